import PyProof.Rows.All
import Wide.All
import OpenK.AllK
import PySem.Challenge.RW_shapestring_k63_refused_deeds
set_option Elab.async false
set_option linter.all false
set_option maxRecDepth 100000
set_option maxHeartbeats 0
set_option compiler.extract_closed false
def sT_:List String:=["_law_triples","_law_pot_here","BaseException.__getattribute__","shapestring.errors","BaseException","ValueError.__new__","_law_thirds_here","shapestring.changes","_law_triple","_law_corner","shapestring.skins","object.__class__","__init__","_law_script","dict_itemiterator","__static_attributes__","tuple","__debug__","_law_corners","triangles_without","ValueError","ShapeError","look_rounds_through","look_corner_through","_law_thirds","list","type.__call__","_law_deed","getset_descriptor.__get__","look_side_through","_law_digit","__firstlineno__","_law_side","__getattribute__","_law_rim_sides","object.__setattr__","steps_by_corner","checked_triples","/claim/cut.py","triples_behind","thirds_by_side","_law_most","_law_sides","triangles","object.__getattribute__","hang_together","_law_a","skin","sorted","thing","begun_least","checked_deed","_law_base","dict","__module__","turned_over","triples","triple","pairs_about","is_corner","_law_others","_law_beside","_law_behind","_law_answer","__setattr__","__class__","ExceptionGroup.__weakref__","_law_one","_law_b","_law_skin_here","isinstance","getset_descriptor","fault","enumerate","_law_strip","_law_split","_law_named","_law_k","_law_grown","_law_free","_law_fans","_law_drawn","__weakref__","StopIteration","list.extend.loop","dict_keyiterator","taken_out","self","rim_steps","object","is_triple","_law_told","_law_skin","_law_ring","_law_rims","Spoilt.__init__","NoSkin.__init__","_law_new","__name__"]
def nC_(m:Lean.TSyntax `Lean.Parser.Command.declModifiers):Lean.MacroM (Lean.TSyntax `Lean.Parser.Command.declModifiers):=if m.raw[4].isNone then pure ⟨m.raw.setArg 4 (Lean.mkNullNode #[Lean.Syntax.node .none `Lean.Parser.Command.noncomputable #[Lean.mkAtom "noncomputable "]])⟩ else Lean.Macro.throwUnsupported
def sQ_:Nat->List Nat
 |1=>[1]
 |2=>[0,1]
 |3=>[0,1,0,1]
 |4=>[0,0,0,1,1]
 |5=>[1,1]
 |6=>[0,0,1,1]
 |7=>[1,0,1]
 |8=>[0,0,0]
 |9=>[0,0,1]
 |0=>[0,0]
 |_=>[]
def eX_(xs:Array (Lean.TSyntax `term)):Lean.MacroM (Array (Lean.TSyntax `term)):=do
 let mut o:=Array.empty
 for x in xs do
  match x.raw.isNatLit? with
  |some k=>for s in sQ_ k do o:=o.push (<-if s==0 then `(_) else pure (Lean.mkIdent `rfl))
  |none=>o:=o.push x
 return o
def pT_:Nat->Lean.TSyntax `term->Lean.MacroM (Lean.TSyntax `rcasesPat)
 |0,_=>Lean.Macro.throwUnsupported
 |n+1,s=>match s with
  |`(#[$xs,*])=>do
   let ys<-(<-eX_ xs.getElems).mapM (pT_ n)
   `(rcasesPat|⟨$[$ys:rcasesPat],*⟩)
  |`(_)=>`(rcasesPat|_)
  |`($x:ident)=>`(rcasesPat|$x:ident)
  |_=>Lean.Macro.throwUnsupported
def lS_(p e:Lean.TSyntax `term):Lean.MacroM (Lean.TSyntax `tactic):=match p with
 |`($x:ident)=>match e with
  |`(($v : $t))=>`(tactic|have $x:ident : $t := $v)
  |_=>`(tactic|have $x:ident := $e)
 |_=>do
  let q<-pT_ 20 p
  `(tactic|obtain $q:rcasesPat := $e)
def lT_:List (Lean.TSyntax `term×Lean.TSyntax `term)->Lean.MacroM (Lean.TSyntax `tactic)
 |[(p,e)]=>lS_ p e
 |(p,e)::r=>do
  let a<-lS_ p e
  let b<-lT_ r
  `(tactic|($a; $b))
 |_=>Lean.Macro.throwUnsupported
def dI_:Lean.Name->Option Lean.Name
 |`r=>Option.some `ref
 |`i=>Option.some `int
 |`l=>Option.some `inl
 |`o=>Option.some `inr
 |`t=>Option.some `type
 |`a=>Option.some `lst
 |`s=>Option.some `str
 |`c=>Option.some `cons
 |`u=>Option.some `tup
 |`b=>Option.some `builtin
 |`d=>Option.some `fields
 |`e=>Option.some `seq
 |`k=>Option.some `dK
 |`x=>Option.some `bool
 |`n=>Option.some `Name
 |`y=>Option.some `dict
 |`z=>Option.some `frz
 |_=>Option.none
local macro_rules | `($m:declModifiers def $i:declId $s:optDeclSig $v:declVal) => do `($(<-nC_ m):declModifiers def $i:declId $s:optDeclSig $v:declVal) | `($m:declModifiers abbrev $i:declId $s:optDeclSig $v:declVal) => do `($(<-nC_ m):declModifiers abbrev $i:declId $s:optDeclSig $v:declVal)
local macro_rules | `(#[$xs,*]) => do let ys <- eX_ xs.getElems; `(⟨$ys,*⟩)
local macro_rules | `(tactic| erw [$rs,*]) => do let ts : Array (Lean.TSyntax `term) := rs.getElems.map fun r => ⟨r.raw[1]⟩; `(tactic| refine #[$ts,*])
local macro_rules | `(tactic| let $x:ident $bs* $[: $t]? := $e) => `(tactic| have $x:ident $bs* $[: $t]? := $e) | `(tactic| let $p:term $[: $t]? := $e) => do let q <- pT_ 20 p; match t with | some t => `(tactic| obtain $q:rcasesPat : $t := $e) | none => `(tactic| obtain $q:rcasesPat := $e)
local macro_rules | `(tactic| let #[$ps,*] := #[$es,*]) => lT_ (ps.getElems.zip es.getElems).toList
local macro_rules | `($a *> $b) => `($a = some $b)
local macro_rules | `($f $xs* >> $a) => `($f $xs* _ _ $a) | `($f >> $a) => `($f _ _ $a)
local macro_rules | `(!$f:ident $xs*) => do if f.getId ∈ [`gq,`tu,`gr,`az,`wB,`Use] then let i := fun (x : String) => Lean.mkIdent (Lean.Name.mkSimple x); `($f $(i "P") $(i "w") $(i "K") $(i "mg") $(i "base") $xs*) else Lean.Macro.throwUnsupported
local macro_rules | `($f $xs* \ $a) => `($f $xs* $a) | `($f \ $a) => `($f $a)
local macro_rules | `($a <* $b) => `(($a).trans $b)
local macro_rules | `(↑$a) => `(($a).length)
local macro_rules | `(↑$n:num) => pure (Lean.Syntax.mkStrLit (sT_.getD n.getNat ""))
local macro_rules | `(!$n:num) => do let ps := (List.replicate n.getNat (<- `(rcasesPat|_)) ++ [<- `(rcasesPat|$(Lean.mkIdent `rfl):ident), <- `(rcasesPat|_)]).toArray; `(by rintro _ _ _ _ ⟨$[$ps:rcasesPat],*⟩;rfl)
local macro_rules | `($n:num \ $o) => `((nat_lit $n,$o))
local macro_rules | `(.f) => `(⟨rfl,rfl,rfl,by decide +kernel,rfl,by decide +kernel,by decide +kernel⟩)
local macro_rules | `(()) => `(by lia)
local macro_rules | `(∅) => `(by simp)
local macro_rules | `(⋯) => `(by decide +kernel)
local macro_rules | `(tactic| show $e:term) => `(tactic| refine $e)
local macro_rules | `(↥$x) => `(($x).heap.objs.size)
local macro_rules | `(⇑$x) => `(PySem.model ($x).prog ($x).w)
local macro_rules | `(‹$e›) => `(by simpa using $e)
local macro_rules | `(-$x:ident) => if x.getId ∈ [`Addr,`Bool,`Ent,`Env,`Int,`Key,`Keyword,`Nat,`Obj,`Side,`Stmt,`Str,`Tri,`V,`Value,`WData,`es,`hK,`i4,`mR,`mT,`pC,`pR,`sZ] then `(List $x) else Lean.Macro.throwUnsupported | `(-($x × $y)) => `(List ($x × $y))
local macro_rules | `(.$x:ident $a $as*) => match dI_ x.getId with | Option.some n => `(.$(Lean.mkIdent n):ident $a $as*) | Option.none => Lean.Macro.throwUnsupported
local macro_rules | `(!$f:ident $xs*) => if f.getId == `Inv then `($f $(Lean.mkIdent `X) $(Lean.mkIdent `Sn) $(Lean.mkIdent `Z) $xs*) else Lean.Macro.throwUnsupported
local macro_rules | `(tactic| lk) => `(tactic| intro $(Lean.mkIdent `Sn):ident $(Lean.mkIdent `s):ident $(Lean.mkIdent `Z):ident $(Lean.mkIdent `H):ident)
open Array renaming getElem?_eq_some_iff->gv,length_toList->gw,toList_push->iE,getElem?_toList->jM,toList_inj->pb,getElem?_setIfInBounds_ne->tS,toList_extract->wO,toList_map->wQ,getElem?_eq_getElem->CP,forIn_toList->OO,getElem?_eq_none->OP,getElem_setIfInBounds->OQ,perm_iff_toList_perm->OR,size_push->OS,size_setIfInBounds->OT,toList_append->OU,toList_reverse->OV
open Array.Perm renaming refl->ON
open Bool renaming false_ne_true->bH,eq_iff_iff->eX,and_eq_true->hX,false_eq_true->jN,and_eq_true_iff->wR,or_true->wU,and_false->OW,eq_false_iff->OX,not_eq_true'->OY,or_false->OZ
open Classical renaming byContradiction->kL
open Int renaming toNat_of_nonneg->fK,toNat_natCast->jP,emod_lt_of_pos->tW,emod_nonneg->tX,le_trans->CS,ofNat_inj->CT,natCast_mul->O5
open List renaming length_map->av,mem_map->ax,mem_singleton->aG,getElem?_eq_some_iff->aO,getElem?_eq_getElem->aR,mem_cons->aU,map_append->aV,mem_append->a9,mem_of_getElem?->a_,length_append->bo,getElem?_map->br,map_cons->bu,length_take->bz,take_add_one->bC,size_toArray->bI,length_cons->ck,take_length->cm,map_map->cw,nodup_append->cD,length_singleton->cV,mem_cons_of_mem->dz,length_filter_le->dJ,getElem?_append_left->eA,length_drop->eJ,mem_append_left->eK,mem_filter->eL,nodup_cons->eR,append_nil->eY,mem_iff_getElem?->eZ,filter_cons->fq,mem_append_right->ft,not_mem_nil->fM,append_assoc->gz,filter_append->gA,getElem?_of_mem->gB,pairwise_map->gC,take_append_drop->gD,getElem?_append_right->h_,length_pos_iff->ia,mem_range->iF,all_eq_true->i9,drop_eq_getElem_cons->i_,getElem_mem->ja,length_nil->jb,mem_cons_self->jc,mem_flatMap->jd,take_of_length_le->je,getLast?_eq_getElem?->jQ,length_range->jR,lookup_cons->jS,nodup_nil->jT,perm_append_comm->jU,eraseIdx_sublist->kN,any_eq_true->m_,filter_nil->ng,getElem?_zip_eq_some->nh,mem_flatten->ni,any_cons->pf,contains_cons->ph,find?_cons->pj,map_take->pk,ext_getElem->tY,filter_congr->tZ,getElem?_eq_none->t_,getElem?_take_of_lt->ud,map_congr_left->ue,of_mem_zip->uf,pairwise_singleton->ug,any_map->wY,exists_mem_of_ne_nil->wZ,ext_getElem?->w4,extract_eq_take_drop->w5,filter_eq_nil_iff->w8,filter_eq_self->w9,getElem?_drop->w_,getElem?_set_ne->xg,getElem?_set_self->xh,length_eq_zero_iff->xi,length_eraseIdx_of_lt->xj,map_eq_nil_iff->xl,mem_filterMap->xm,pairwise_append->xn,pairwise_cons->xo,pairwise_iff_getElem->xp,take_zero->xq,all_cons->CV,drop_eq_nil_of_le->CW,drop_length->CY,drop_zero->CZ,exists_cons_of_length_eq_add_one->C0,filterMap_cons->C1,filter_filter->C3,foldl_cons->C4,forIn_cons->C5,getElem?_replicate->C6,head?_eq_getElem?->C7,map_drop->C8,map_id->C9,map_nil->C_,range_succ->Da,all_map->O8,any_eq_false->O9,drop_drop->O_,drop_of_length_le->Pa,filter_sublist->Pb,flatMap_append->Pc,flatten_append->Pd,foldl_append->Pe,foldl_nil->Pf,forIn_nil->Pg,getElem?_cons_succ->Ph,getElem?_eq_none_iff->Pi,getElem?_range->Pj,length_zip->Pk,mem_of_mem_take->Pl,nil_append->Pm,nodup_range->Pn,perm_ext_iff_of_nodup->Po,zip_cons_cons->Pp,toArray->tA
open List.Pairwise renaming imp_of_mem->wW
open List.Perm renaming of_eq->wX,eq_of_pairwise->O6
open List.Sublist renaming map->CU,refl->O7,append->Rb
open Nat renaming le_refl->ar,zero_le->aZ,ne_of_lt->bD,lt_of_lt_of_le->bW,le_trans->cQ,lt_irrefl->dG,lt_succ_self->ic,lt_trans->jV,lt_of_le_of_lt->kO,ne_of_gt->kP,zero_add->kQ,le_of_lt->nj,lt_succ_of_lt->nq,le_add_right->pA,le_succ->pB,mod_lt->uh,add_le_add_left->xr,le_of_eq->xt,log2_lt->xu,max_eq_right->xw,min_eq_left->xx,pow_le_pow_right->xy,add_sub_cancel_left->Dc,add_zero->Dd,le_of_not_lt->De,min_le_right->Df,sub_self->Dg,add_assoc->Pq,add_comm->Pr,add_lt_add_left->Pt,le_of_lt_succ->Pu,mod_two_eq_zero_or_one->Pw,mul_le_mul->Px,mul_pos->Py,not_lt_zero->Pz,sub_zero->PB
open Nat.succ renaming inj->Dh
open Ne renaming symm->aB
open Option renaming map_eq_some_iff->cz,isSome_iff_exists->pD,map_some->pE,getD_some->xB,isSome_map->Di,bind_some->PD,getD_none->PF
open Option.some renaming inj->eB,injEq->Rc
open Prod renaming ext->nr
open Prod.mk renaming inj->kW,injEq->xD
open PyProof.Rows renaming wpS_bind->aI,wpS_pure->bj,wpS_forRange->fu,wpS_mono->fN,boot_isinstance->gF,boot_int->ie,wpS_get->jh,boot_tuple->jW,wpS_modify->jX,boot_list->pG,callWith_type1->pH,slot_tuple_getitem->pI,boot_max->xE,reverseSlice'_eq->xK,Subscript_->Dv,assignInOrder_cons->Dx,boot_any->PL,boot_dict->PM,args_list_sort->Qs,args_tuple_getitem->Qt,assignInOrder_nil->Qu,entry_list_sort->QA,entry_tuple_getitem->QB,slicePart_none->QH,slot_list_sort->QJ,subscriptTail_builtinR->QK,boot_bool->Re,boot_range->Rf,boot_str->Rg,callWith_builtin1->Rh,floordiv_int->Ri,lt_int->Rj
open PyProof.Rows.IsTup renaming new->wV
open PySem renaming wpAny_bind->aa,wpAny_pure->ai,wpAny_mono->bU,sizeLine_eq->cW,wpAny_field->cX,wpAny_holding->cY,wpAny_newObj_type->e_,wpAny_loadPart_at->gI,wpAny_setField->gJ,wpAny_call_entry->ik,codeAny_builtin->iH,wpAny_truthy_bool->iI,plainId_quiet->jf,wpAny_attempt->jg,wpAny_call->kX,wpAny_callSpecial?_slot->kY,wpAny_fieldsOf->kZ,wpAny_standAt->k_,call_meetsIn->ny,wpAny_isSubtype_exc->nA,wpAny_of_eq->nB,wpAny_passesOwn->nC,wpAny_typeOf->nE,wpAny_updateSeq->nF,mem_of_lookup->pK,codeAny_mono->pM,tupleKind_room_in1->pN,wpAny_Call_Name_kw->pO,wpAny_dictEntries->pP,wpAny_dictEpoch->pQ,wpAny_execs_nil->pT,wpAny_letGo->pU,wpAny_seqItems->pV,wpAny_setField_rec->pW,call_meets->uo,wpAny_pyIter_list->uq,wpAny_rule->ur,wpAny_tryCatch->uu,codeAny_call_builtin->xH,codeAny_handlers_test->xI,wpAny_handleBy_cons->xM,wpAny_isOneOf_itemiter->xN,wpAny_throw->xO,wpAny_typeNameOfWhole_itemiter->xP,wpAny_typeNameOfWhole_keyiter->xQ,wpAny_typeNameOf_itemiter->xR,wpAny_typeNameOf_keyiter->xS,call_meets->Dy,isSubtype_stop->Dz,join_length_add->DA,seqIndex_neg->DB,seqIndex_of->DC,wpAny_Call_method->DD,wpAny_Name->DE,wpAny_bindName->DG,wpAny_comprehension_free->DH,wpAny_eqBool_int->DI,wpAny_handled->DJ,wpAny_isInstance->DK,wpAny_isOneOf_keyiter->DL,wpAny_loadPart->DM,wpAny_loadPart'->DN,wpAny_newTuple->DO,wpAny_notOrdered_dict->DP,wpAny_pyIter_zip->DQ,wpAny_specialOf->DR,boot_len->Qm,builtinLookup_eq_fast->Qv,callType_codes->Qw,codeAny_call_function->Qx,codeAny_handlers_suite_as->Qy,entryFor_of_tree->Qz,fitsIndex_both->QC,noFill_tuple_add->QD,pastItsLine_dict->QE,plainObj_wpAny_Assign_Attribute->QF,pyReprObj_of_reads->QG,slot_list_getitem->QI,typeLookup_type->QL,wpAny_Call_method_late->QM,wpAny_Compare1->QN,wpAny_Dict_empty->QO,wpAny_Try_except->QP,wpAny_assign_Name->QR,wpAny_entryPlaceOf->QS,wpAny_execs_cons->QT,wpAny_forIn_list->QU,wpAny_formatField_str->QV,wpAny_frameOf_fun->QW,wpAny_isTrue_Compare1->QX,wpAny_lookBehind->QY,wpAny_newFunctionEnv->QZ,wpAny_newFunctionEnv_cells->Q0,wpAny_nextOf_list_item->Q1,wpAny_pyIter_enum->Q2,wpAny_pyIter_keyiter->Q3,wpAny_pyIter_slot->Q4,wpAny_pyIter_tuple->Q5,wpAny_pyNext_list_end->Q6,wpAny_pyNext_list_item->Q7,wpAny_pyNext_zip_item->Q8,wpAny_sequenceKey->Q9
open PySem.Around renaming under_plainId->i8
open PySem.AutoSeq1 renaming wpAny_loadPart'->fY,list_insert_list_int_val_1->Rk,wpAny_loadPart'->Rl
open PySem.Calls renaming callWith_builtin->mW,evalArgs_plain->mY,spliced_cons->pd,spliced_nil->tU,Name_function_global->O0
open PySem.CmpOf renaming ints_lt->O1
open PySem.Code renaming quiet_builtin->O2
open PySem.EqMixed renaming eq_bool_str->Ro,eq_int_str->Rp,eq_str_bool->Rq,eq_str_int->Rr,ne_bool_str->Rt,ne_int_str->Ru,ne_str_bool->Rv,ne_str_int->Rw
open PySem.EqNone renaming eq_bool_none->Rx,eq_int_none->Ry,eq_none_bool->Rz,eq_none_int->RA,eq_none_none->RB,eq_none_str->RC,eq_str_none->RD,ne_bool_none->RE,ne_int_none->RF,ne_none_bool->RG,ne_none_int->RH,ne_none_none->RI,ne_none_str->RJ,ne_str_none->RK
open PySem.F renaming plainAttrs_list->eO,slot_list_append->gG,type_list_append->gH,plain_min_loop->nv,slot_dict_get->pJ,excBase_ValueError->ui,plainAttrs_dict->uj,slot_dict_itemiterator_next->uk,slot_dict_keyiterator_next->um,entry_dict_get->xF,entry_min_loop->Dj,slot_list_getattribute->Dk,slot_list_insert->Dl,slot_tuple_index->Dm,args_dict_get_2->PN,args_dict_get_3->PP,args_dict_itemiterator_next_1->PQ,args_dict_keyiterator_next_1->PR,args_tuple_add_2->PU,entry_dict_itemiterator_next->PV,entry_dict_keyiterator_next->PX,entry_tuple_add->PY,plainAttrs_tuple->PZ,slot_dict_items->P3,slot_dict_items_iter->P4,slot_dict_iter->P5,slot_dict_pop->P6,slot_dict_setdefault->P7,slot_dict_values->P8,slot_list_lt->P9,slot_list_pop->P_,slot_tuple_add->Qa,type_dict_get->Qb,type_list_insert->Qc,type_list_pop->Qd,type_tuple_index->Qe
open PySem.Heap renaming lt_size->aJ,get?_push_of_some->aP,get?_push_size->bJ,get?_update_other->eu,get?_update_self->fm,get?_none_of_le->jO,size_push->kM,get?_update_ne->tV,get?_push_at->O4
open PySem.Heap.DictOf renaming new->Q_
open PySem.Heap.IsSliceOf renaming new->Ra
open PySem.Heap.Ns1 renaming of_empty->O3
open PySem.Heap.SameBut renaming update->CQ
open PySem.MeetsSeq3 renaming plain_eq_loop->xG,entry_eq_loop->Qf
open PySem.Obj renaming data_mapFields->kT,isFreed_of_fields->kU,cls_mapFields->xA
open PySem.Paired renaming length->pF,snoc->PH
open PySem.PassesOwn renaming never->dA,leaving->xC
open PySem.PyData renaming noDict_hsm->PK
open PySem.SeqAt renaming in_tupleAt->Qr,compareEq_reads->RM,compareNe_reads->RN,eqAt_reads->RO,in_list_reads->RP,in_tuple_reads->RQ,notIn_list_reads->RR,notIn_tuple_reads->RT
open PySem.SeqAt.EqAt renaming int_int->Qn,int_str->Qo,str_int->Qp,bool_bool->RX,bool_int->RY,bool_none->RZ,bool_str->R5,int_bool->R6,int_none->R7,none_bool->R8,none_int->R9,none_str->R_,same->Sa,str_bool->Sb,str_none->Sd,str_str->Se
open PySem.SeqAt.ReadsAll renaming length->RL
open PySem.Str renaming length_append->iG
open PySem.W renaming mg_of->dS,kia_one->ig,looks_findIn->xJ,any_some->Do,callWith_K->Dp,cellsFrom_some->Dq,looks_clsIn->Dr,looks_findIn->Ds,plainGet_of->Du,bind_fn->Qg,codeRec_of->Qh,kitx_dict->Qi,kitx_list->Qj,methodCall_KW->Qk,set_plain->Ql
open PySem.W.KIN renaming signs_num->RU
open PySem.W.Looks renaming here->RV
open PySem.Walks renaming list->Dw
open PySem.Within renaming cons->RW
open Std.Legacy.Range renaming forIn_eq_forIn_range'->Sf
open Sum.inl renaming inj->pL
open Option renaming none->gf,some->gh
open Bool renaming true->gm,false->hB
open PySem renaming Value->hK,Addr->i4,Shared->ij,wpAny->jl,sizeLine->js,mainGlobals->kz,starEach->kA,model->kC,FuncData->kS,Program->lu,Heap->mu,Expr->mR,Stmt->mT,World->n7,compareOp->nc,eval->nH,sysModules->nI,backTo->nT,excClassObj->oy,codeAny->oD,rawInt->p6,cLine->pq,PyData->pC,DictEntry->pR,pyNext->pS,treeTable->qs,importedModules->r4,bootBuiltins->r6,argBest->rb,OsState->ri,Around->ro,behindInMarks->rp,attributeBase->rq,setFlight->ry
open PySem.W renaming behindTheImports->rz,boot_heap->sD
open PyProof.Rows renaming Keyed->sZ,pendingOf->tf,SortSt->tD,IntsAre->u3,arrOf->u4,failedOf->u5,SortKind->u6
def Sg.{u}{c : Prop}{h : Decidable c}(a : ¬c){α : Sort u}{t e : α}: (if c then t else e)=e := if_neg a
def Sh.{u}{c : Prop}{h : Decidable c}(a : c){α : Sort u}{t e : α}: (if c then t else e)=t := if_pos a
def Si{p : Prop}[h : Decidable p](a : p): decide p=gm := decide_eq_true a
def Sj{p : Prop}[h : Decidable p](a : ¬p): decide p=hB := decide_eq_false a
def Sl{p : Prop}[h : Decidable p](a : decide p=gm): p := of_decide_eq_true a
abbrev P_W:=PySem.Challenge.pw_shapestring_k63_refused_deeds
variable {Sn:-(PySem.Addr×PySem.Obj)}{s:PySem.Shared}{P:PySem.Program}{w:PySem.World}{A:PySem.Around}{mg:PySem.Str->Option PySem.Value}{base:PySem.Heap}{us:List PySem.Value}{E:PySem.Value->PySem.Shared->Prop}{fd:PySem.FuncData}{K:PySem.W.Frag}{scope:PySem.Scope}
namespace L2
open PySem
def fg(s:mT):Arguments:=match s with
 |.FunctionDef _ a _ _ _ _ _ _ _ _=>a
 |_=>{posonlyargs:=[],args:=[],vararg:=gf,kwonlyargs:=[],kw_defaults:=[],kwarg:=gf,defaults:=[]}
def d_(s:mT):-Stmt:=match s with
 |.FunctionDef _ _ b _ _ _ _ _ _ _=>b
 |_=>[]
def au(s:mT):Scope:=match s with
 |.FunctionDef _ _ _ _ _ _ sc _ _ _=>sc
 |_=>{kind:=.function,names:=[],isGenerator:=hB,isCoroutine:=hB}
end L2
namespace K51
open PySem L2
def Om:Nat:=55
def aw(i:Nat):Stmt:=P_W.main.body.getD i\.Pass #[(0),(0),(0),(0)]
def top(i:Nat):Stmt:=aw (Om+i)
def ow(c j:Nat):Stmt:=match aw c with
 |.ClassDef _ _ _ body _ _ _ _ _ _ _=>body.getD j\.Pass #[(0),(0),(0),(0)]
 |_=>.Pass #[(0),(0),(0),(0)]
abbrev qK:Stmt:=ow 13 0
abbrev p9:Stmt:=ow 14 0
abbrev rD:Stmt:=aw 17
abbrev ql:Stmt:=aw 18
abbrev rP:Stmt:=aw 20
abbrev qI:Stmt:=aw 21
abbrev p_:Stmt:=aw 22
abbrev qj:Stmt:=aw 24
abbrev qO:Stmt:=aw 26
abbrev qk:Stmt:=aw 29
abbrev n8:Stmt:=aw 30
abbrev qP:Stmt:=aw 31
abbrev rG:Stmt:=aw 32
abbrev sW:Stmt:=aw 33
abbrev rL:Stmt:=aw 34
abbrev rS:Stmt:=aw 35
abbrev mF:Stmt:=ow 36 0
abbrev qe:Stmt:=ow 36 1
abbrev rE:Stmt:=ow 36 3
abbrev lP:Stmt:=aw 41
abbrev p5:Stmt:=aw 42
abbrev nJ:Stmt:=aw 43
abbrev pX:Stmt:=aw 44
abbrev nG:Stmt:=aw 45
abbrev lq:Stmt:=aw 46
abbrev lA:Stmt:=aw 47
abbrev oo:Stmt:=aw 48
abbrev l8:Stmt:=aw 49
abbrev oE:Stmt:=aw 50
abbrev oq:Stmt:=aw 51
abbrev nN:Stmt:=aw 52
abbrev jn:Stmt:=aw 53
abbrev sAt:Stmt:=top 0
abbrev tL:Stmt:=top 1
abbrev rR:Stmt:=top 2
abbrev rJ:Stmt:=top 3
abbrev qJ:Stmt:=top 4
abbrev sX:Stmt:=top 5
abbrev qx:Stmt:=top 6
abbrev s_:Stmt:=top 7
abbrev rH:Stmt:=top 8
abbrev rQ:Stmt:=top 9
abbrev qf:Stmt:=top 10
abbrev qN:Stmt:=top 11
abbrev rN:Stmt:=top 12
abbrev qu:Stmt:=top 13
abbrev rM:Stmt:=top 14
abbrev rK:Stmt:=top 15
abbrev sR:Stmt:=top 17
abbrev rO:Stmt:=top 18
abbrev qt:Stmt:=top 19
abbrev qv:Stmt:=top 20
abbrev sV:Stmt:=top 21
abbrev sU:Stmt:=top 22
abbrev qw:Stmt:=top 23
abbrev sS:Stmt:=top 24
abbrev qL:Stmt:=top 25
abbrev jI:Stmt:=top 26
end K51
namespace K15
open PySem L2 PySem.W K51
def cO'(x y:Str)(t l n a b:Nat):Obj:=#[.t "code",gf,.d\tA [.s x t,.s y (t+1),.s ↑38 (t+2),.i l 0,.i n 0,.i 0 0,.i 0 0,.i 3 0,.r a,.x gm,.i 181 0,.r (a+1),.none,.r (a+2),.r (a+3),.r (a+4),.i b 0,.i l 0,.s ↑38 (b+1)],(tA [])]
def cN'(x y:Str)(t l n a b:Nat):Obj:=#[.t "code",gf,.d\tA [.s x t,.s y (t+1),.s ↑38 (t+2),.i l 0,.i n 0,.i 0 0,.i 0 0,.i 3 0,.r a,.x gm,.i 181 0,.r (a+1),.none,.none,.none,.r (a+2),.i b 0,.i l 0,.s ↑38 (b+1)],(tA [])]
def fO'(x y:Str)(s:mT)(m:Str)(t c:Nat):Obj:=#[.t "function",gf,.func\fnOf x y (fg s) (d_ s) (au s) .none .none .none (.s m t) gf (.r c) .none,(tA [])]
def dE(P:Params)(x:Str)(t:Nat)(v:hK):DictEntry:=PySem.DictEntry.mk (PySem.PyData.keyHash P x) (.s x t) v
def dR(P:Params)(x:Str)(t a:Nat):DictEntry:=dE P x t\.r a
def cO(x:Str):=cO' x x
def cN(x:Str):=cN' x x
def fO(x:Str):=fO' x x
def fL(x:Str)(s:mT):=fO x s "law_shapestring_k63_refused_deeds" 778
def eC(x:Str)(b a r k:Nat):Obj:=#[.t "type",gf,.cls\PySem.ClassData.mk x [.r b] [.r a,.r b,.t ↑20,.t "Exception",.t ↑4,.t ↑89] (a-1) x gm [] [] hB gf hB,(tA [gh\.r r,gf,gh\.s x k,gh\.s x (k+8),gh\.b ↑5,gh\.x gm])]
def eD(P:Params)(m:Str)(c k l a:Nat):Obj:=#[.t ↑53,gf,.y (tA [dE P ↑54 k\.s m c,dE P ↑31 (k+4)\.i l (k+3),dE P ↑15 (k+5)\.r (a-1),dE P "__doc__" (k+6) .none]) 2,(tA [])]
def kf:Params->Frag:=λP=>
 2\#[.none,gf,(.y (tA []) 0),(tA [])]::
 3\#[(.t ↑53),gf,(.y (tA [(dE P ↑98 165\.s "law_shapestring_k63_refused_deeds" 778),(dE P "__doc__" 166 .none),(dE P "__package__" 167 .none),(dE P "__loader__" 168\.b "__main__.__loader__#opaque"),(dE P "__spec__" 169 .none),(dR P "__annotations__" 170 6),(dR P "__builtins__" 171 4),(dE P "__file__" 173\.s ↑38 172),(dE P "__cached__" 174 .none),(dR P ↑21 206 24),(dR P "TooMany" 222 37),(dR P "NoText" 238 49),(dR P "NoCorner" 254 61),(dR P "NoSide" 270 73),(dR P "NoLetter" 286 85),(dR P "NoCaps" 302 97),(dR P "NoCode" 318 109),(dR P "NoDeed" 334 121),(dR P "Taken" 350 133),(dR P "Gone" 366 145),(dR P "NoPast" 382 157),(dR P "NoSkin" 407 176),(dR P "Spoilt" 432 195),(dR P "NoWord" 457 214),(dR P "is_whole" 466 223),(dR P ↑59 473 230),(dR P "first_of" 481 235),(dR P "walked" 490 242),(dR P ↑58 497 249),(dR P ↑88 505 254),(dR P "is_pair" 516 261),(dE P "MOST_TRIPLES" 520\.i 200 519),(dR P ↑90 530 268),(dR P ↑37 543 275),(dR P ↑40 557 282),(dR P ↑36 569 289),(dR P ↑45 578 296),(dR P ↑22 586 303),(dR P ↑50 596 310),(dR P "Skin" 649 346),(dR P "AT_A_SIDE" 655 351),(dR P "WITH_A_CORNER" 659 352),(dR P "AT_A_RIM" 662 353),(dR P "is_deed" 669 360),(dR P ↑51 678 367),(dR P ↑29 689 374),(dR P ↑23 697 381),(dR P ↑19 703 386),(dR P ↑55 714 393),(dR P ↑86 723 400),(dR P "drawn" 729 405),(dR P "put_in" 740 412),(dR P "put_on" 750 419),(dR P "closed" 756 424),(dR P ↑39 766 431),(dR P "changed" 777 438),(dR P "_law_at" 787 445),(dR P "_law_pot" 798 452),(dR P ↑30 807 459),(dR P ↑42 817 466),(dR P ↑24 828 473),(dR P ↑79 834 478),(dR P ↑18 844 485),(dR P ↑80 850 490),(dR P ↑75 856 495),(dR P ↑81 862 500),(dR P ↑34 868 505),(dR P ↑78 874 510),(dR P ↑93 880 515),(dR P ↑61 886 520),(dR P ↑92 895 527),(dR P ↑76 901 532),(dR P "_law_handed" 914 539),(dR P ↑91 924 546),(dR P ↑94 935 553),(dR P ↑60 941 558),(dR P ↑62 947 563),(dR P "_law_bad" 953 568),(dR P "_law_due" 965 575),(dR P ↑63 977 582),(dR P "_law_odd" 987 589),(dR P ↑74 993 594),(dR P "law" 1012 601)]) 83),(tA [])]::
 23\#[(.t ↑53),gf,(.y (tA [(dE P ↑54 196\.s ↑3 187),(dE P ↑31 200\.i 2 199),(dR P ↑15 201 22),(dR P ↑82 203 25),(dE P "__doc__" 204 .none)]) 3),(tA [])]::
 24\#[(.t "type"),gf,(.cls\PySem.ClassData.mk ↑21 [(.t ↑20)] [(.r 24),(.t ↑20),(.t "Exception"),(.t ↑4),(.t ↑89)] 23 ↑21 Bool.true [] [(.r 37),(.r 49),(.r 61),(.r 73),(.r 85),(.r 97),(.r 109),(.r 121),(.r 133),(.r 145),(.r 157),(.r 176),(.r 195),(.r 214)] Bool.false gf Bool.false),(tA [(Option.some\.r 15),gf,(Option.some\.s ↑21 189),(Option.some\.s ↑21 197),(Option.some\.b ↑5),(Option.some\.x Bool.true)])]::
 25\#[(.t ↑71),gf,(.d\tA [(.s ↑82 202),(.r 24),(.b ↑66),.none]),(tA [])]::
 36\eD P ↑3 187 214 4 36::
 37\eC "TooMany" 24 37 28 207::
 48\eD P ↑3 187 230 6 48::
 49\eC "NoText" 24 49 40 223::
 60\eD P ↑3 187 246 8 60::
 61\eC "NoCorner" 24 61 52 239::
 72\eD P ↑3 187 262 10 72::
 73\eC "NoSide" 24 73 64 255::
 84\eD P ↑3 187 278 12 84::
 85\eC "NoLetter" 24 85 76 271::
 96\eD P ↑3 187 294 14 96::
 97\eC "NoCaps" 24 97 88 287::
 108\eD P ↑3 187 310 16 108::
 109\eC "NoCode" 24 109 100 303::
 120\eD P ↑3 187 326 18 120::
 121\eC "NoDeed" 24 121 112 319::
 132\eD P ↑3 187 342 20 132::
 133\eC "Taken" 24 133 124 335::
 144\eD P ↑3 187 358 22 144::
 145\eC "Gone" 24 145 136 351::
 156\eD P ↑3 187 374 24 156::
 157\eC "NoPast" 24 157 148 367::
 172\cO' ↑12 ↑96 395 28 2 167 400::
 173\fO' ↑12 ↑96 qK ↑3 187 172::
 175\#[(.t ↑53),gf,(.y (tA [(dE P ↑54 390\.s ↑3 187),(dE P ↑31 394\.i 26 393),(dR P ↑12 402 173),(dR P ↑15 404 174),(dE P "__doc__" 405 .none)]) 2),(tA [])]::
 176\eC "NoSkin" 24 176 160 383::
 191\cO' ↑12 ↑95 420 33 2 186 425::
 192\fO' ↑12 ↑95 p9 ↑3 187 191::
 194\#[(.t ↑53),gf,(.y (tA [(dE P ↑54 415\.s ↑3 187),(dE P ↑31 419\.i 31 418),(dR P ↑12 427 192),(dR P ↑15 429 193),(dE P "__doc__" 430 .none)]) 2),(tA [])]::
 195\eC "Spoilt" 24 195 179 408::
 213\#[(.t ↑53),gf,(.y (tA [(dE P ↑54 440\.s ↑3 187),(dE P ↑31 444\.i 36 443),(dR P ↑12 452 211),(dR P ↑15 454 212),(dE P "__doc__" 455 .none)]) 2),(tA [])]::
 214\eC "NoWord" 24 214 198 433::
 222\cO "is_whole" 460 42 1 217 464::
 223\fO "is_whole" rD "shapestring.kinds" 458 222::
 229\cO ↑59 467 44 1 224 471::
 230\fO ↑59 ql "shapestring.kinds" 458 229::
 234\cN "first_of" 476 47 1 231 479::
 235\fO "first_of" rP "shapestring.rings" 474 234::
 241\cO "walked" 482 51 2 236 488::
 242\fO "walked" qI "shapestring.rings" 474 241::
 248\cO ↑58 491 56 1 243 495::
 249\fO ↑58 p_ "shapestring.rings" 474 248::
 253\cN ↑88 500 59 1 250 503::
 254\fO ↑88 qj "shapestring.rims" 498 253::
 260\cO "is_pair" 508 62 1 255 514::
 261\fO "is_pair" qO "shapestring.sides" 506 260::
 267\cO ↑90 521 69 1 262 528::
 268\fO ↑90 qk ↑10 517 267::
 274\cO ↑37 531 76 1 269 541::
 275\fO ↑37 n8 ↑10 517 274::
 281\cO ↑40 544 84 1 276 555::
 282\fO ↑40 qP ↑10 517 281::
 288\cO ↑36 558 92 1 283 567::
 289\fO ↑36 rG ↑10 517 288::
 295\cO ↑45 570 98 1 290 576::
 296\fO ↑45 sW ↑10 517 295::
 302\cO ↑22 579 104 1 297 584::
 303\fO ↑22 rL ↑10 517 302::
 309\cO ↑50 587 108 1 304 594::
 310\fO ↑50 rS ↑10 517 309::
 321\cN' ↑12 "Skin.__init__" 609 113 2 318 612::
 322\fO' ↑12 "Skin.__init__" mF ↑10 517 321::
 328\cO' ↑43 "Skin.triangles" 615 125 1 323 619::
 329\fO' ↑43 "Skin.triangles" qe ↑10 517 328::
 342\cO' "third" "Skin.third" 629 131 3 337 635::
 343\fO' "third" "Skin.third" rE ↑10 517 342::
 345\#[(.t ↑53),gf,(.y (tA [(dE P ↑54 604\.s ↑10 517),(dE P ↑31 608\.i 111 607),(dR P ↑12 614 322),(dR P ↑43 621 329),(dR P "corners" 628 336),(dR P "third" 637 343),(dR P ↑15 642 344),(dR P "__dict__" 644 347),(dR P ↑82 646 348),(dE P "__doc__" 647 .none)]) 4),(tA [])]::
 346\#[(.t "type"),gf,(.cls\PySem.ClassData.mk "Skin" [(.t ↑89)] [(.r 346),(.t ↑89)] 345 "Skin" Bool.true [] [] Bool.false gf Bool.false),(tA [gf,gf,(Option.some\.s "Skin" 597),(Option.some\.s "Skin" 605),(Option.some\.b "object.__new__"),(Option.some\.x Bool.true)])]::
 347\#[(.t ↑71),gf,(.d\tA [(.s "__dict__" 643),(.r 346),(.b "function.__dict__"),(.b "function.__dict__#set")]),(tA [])]::
 348\#[(.t ↑71),gf,(.d\tA [(.s ↑82 645),(.r 346),(.b ↑66),.none]),(tA [])]::
 351\#[(.t ↑16),gf,(.e (tA [(.s "turn" 652),(.s "out" 653),(.s "draw" 654)]) 0),(tA [])]::
 352\#[(.t ↑16),gf,(.e (tA [(.s "in" 656),(.s "on" 657),(.s "close" 658)]) 0),(tA [])]::
 353\#[(.t ↑16),gf,(.e (tA [(.s "on" 660),(.s "close" 661)]) 0),(tA [])]::
 359\cO "is_deed" 663 137 1 354 667::
 360\fO "is_deed" lP ↑7 650 359::
 366\cO ↑51 670 145 1 361 676::
 367\fO ↑51 p5 ↑7 650 366::
 373\cO ↑29 679 152 2 368 687::
 374\fO ↑29 nJ ↑7 650 373::
 380\cO ↑23 690 161 2 375 695::
 381\fO ↑23 pX ↑7 650 380::
 385\cN ↑19 698 164 2 382 701::
 386\fO ↑19 nG ↑7 650 385::
 392\cO ↑55 704 167 3 387 712::
 393\fO ↑55 lq ↑7 650 392::
 399\cO ↑86 715 171 3 394 721::
 400\fO ↑86 lA ↑7 650 399::
 404\cN "drawn" 724 173 3 401 727::
 405\fO "drawn" oo ↑7 650 404::
 411\cO "put_in" 730 176 4 406 738::
 412\fO "put_in" l8 ↑7 650 411::
 418\cO "put_on" 741 179 4 413 748::
 419\fO "put_on" oE ↑7 650 418::
 423\cN "closed" 751 181 3 420 754::
 424\fO "closed" oq ↑7 650 423::
 430\cO ↑39 757 184 2 425 764::
 431\fO ↑39 nN ↑7 650 430::
 437\cO "changed" 767 197 2 432 775::
 438\fO "changed" jn ↑7 650 437::
 444\cO "_law_at" 780 209 2 439 785::
 445\fL "_law_at" sAt 444::
 451\cO "_law_pot" 788 213 2 446 796::
 452\fL "_law_pot" tL 451::
 458\cO ↑30 799 221 2 453 805::
 459\fL ↑30 rR 458::
 465\cO ↑42 808 228 1 460 815::
 466\fL ↑42 rJ 465::
 472\cO ↑24 818 231 1 467 826::
 473\fL ↑24 qJ 472::
 477\cN ↑79 829 238 2 474 832::
 478\fL ↑79 sX 477::
 484\cO ↑18 835 240 1 479 842::
 485\fL ↑18 qx 484::
 489\cN ↑80 845 246 2 486 848::
 490\fL ↑80 s_ 489::
 494\cN ↑75 851 259 1 491 854::
 495\fL ↑75 rH 494::
 499\cN ↑81 857 273 2 496 860::
 500\fL ↑81 rQ 499::
 504\cN ↑34 863 283 1 501 866::
 505\fL ↑34 qf 504::
 509\cN ↑78 869 286 2 506 872::
 510\fL ↑78 qN 509::
 514\cN ↑93 875 301 1 511 878::
 515\fL ↑93 rN 514::
 519\cN ↑61 881 313 2 516 884::
 520\fL ↑61 qu 519::
 526\cO ↑92 887 316 2 521 893::
 527\fL ↑92 rM 526::
 531\cN ↑76 896 325 2 528 899::
 532\fL ↑76 rK 531::
 545\cO ↑91 915 341 1 540 922::
 546\fL ↑91 sR 545::
 552\cO ↑94 925 347 1 547 933::
 553\fL ↑94 rO 552::
 557\cN ↑60 936 358 2 554 939::
 558\fL ↑60 qt 557::
 562\cN ↑62 942 360 2 559 945::
 563\fL ↑62 qv 562::
 567\cN "_law_bad" 948 377 1 564 951::
 568\fL "_law_bad" sV 567::
 574\cO "_law_due" 954 389 2 569 963::
 575\fL "_law_due" sU 574::
 581\cO ↑63 966 404 2 576 975::
 582\fL ↑63 qw 581::
 588\cO "_law_odd" 978 416 3 583 985::
 589\fL "_law_odd" sS 588::
 593\cN ↑74 988 423 1 590 991::
 594\fL ↑74 qL 593::
 600\cO "law" 994 425 1 595 1010::
 (nat_lit 601,fL "law" jI 600)::[]
end K15
namespace L2
open PySem PySem.W PySem.Calls PyProof.Rows
def oi(tb:String->Option Builtin)(p:lu)(w:n7)(n₀:Nat)(ann:Option hK):Nat->SharedT->Thread->Option SharedT
 |0,_,_=>gf
 |n+1,s,t=>match through t with
  |true=>gh s
  |false=>match stepOk n₀ ann t with
   |false=>gf
   |true=>match stepT (denote tb) p w s t with
    |some (s',t')=>oi tb p w n₀ ann n s' t'
    |none=>gf
def yj{tb:String->Option Builtin}{ann:Option hK}:∀{n:Nat}{s s':SharedT}{t:Thread},oi tb p w n₀ ann n s t*>s'->topRun tb p w n₀ ann n s.abs t*>s'.abs
 |0,_,_,_,h=>by cases h
 |n+1,s,s',t,h=>by
  unfold oi at h;unfold topRun;cases b:through t with
  |true=>rw[b] at h;cases h;rfl
  |false=>
   rw[b] at h;cases c:stepOk n₀ ann t with
   |false=>rw[c] at h;cases h
   |true=>
    rw[c] at h;cases a:stepT (denote tb) p w s t with
    |none=>rw[a] at h;cases h
    |some r=>let#[s₂,t₂]:=r;rw[a] at h;rw[stepT_spec a];show yj h
def BA:-Obj->Nat->BT->BT
 | [],_,t=>t
 |o::os,n,t=>BA os (n+1)\t.ins n o
def KL(w:n7):((sD w.params).isNs kz&&(Array.mk []:Array GenState).size==0)=gm:=by kernel_rfl
def MW(w:n7):(sD w.params).objs.size=11:=by kernel_rfl
def IL(w:n7):(sD w.params).nsMap kz "__annotations__"*>.r 6:=by kernel_rfl
def vq(p:lu)(w:n7)(s:ij):Bool:=staticsOk (r4 p.main.body) (sD w.params) s.heap&&namesBound p s.heap&&gensDone s&&laidKept (sD w.params) s.heap
def Kk{p:lu}{os:ri}{env:Env}{sB a s:SharedT}{b c k:Nat}{d:Pos}
  (e:topGo qs p w 11 (gh\.r 6) 12 #[sD w.params,Array.mk [],boot_drawn,boot_toks,os] (topStub p)=gh (sB.abs,#[denote qs\.body (rz p) env,.body (rz p) env,#[(0),(0),(0),(0)],[topFrame #[(0),(0),(0),(0)]]]))
  (h1:segRun qs p w 11 (gh\.r 6) 1 2 sB.abs (blockOf (rz p) env (.body (rz p) env) #[(0),(0),(0),(0)] [topFrame #[(0),(0),(0),(0)]])*>(.next,sB.abs,.body (rz p) env,#[(0),(0),(0),(0)]))
  (h2:segRunT qs p w 11 (gh\.r 6) 1 b sB (piecesOf ((rz p).take k) env (.body (rz p) env) #[(0),(0),(0),(0)] [topFrame #[(0),(0),(0),(0)]])*>(.next,a,.body (rz p) env,d))
  (f:oi qs p w 11 (gh\.r 6) c a (restOf ((rz p).drop k) env (.body (rz p) env) d [topFrame #[(0),(0),(0),(0)]])*>s) :
  topRun qs p w 11 (gh\.r 6) (12+(2+(b+c))) #[sD w.params,Array.mk [],boot_drawn,boot_toks,os] (topStub p)=gh s.abs:=by
 let h:=piece_app (segRun_of h2)\yj f;rw[gD] at h;show go_top e\piece_block h1 h
def Kq{p q:lu}{loose:-Str}{Xt:ij->Bool}{α:Type}{Yf:ij->α}{Ya:n7->α}{N:Nat}{g:Bool}{run:n7->ri->Option SharedT}(m:∀w os s,run w os*>s->topRun qs p w 11 (gh\.r 6) N #[sD w.params,Array.mk [],boot_drawn,boot_toks,os] (topStub p)=gh s.abs)(n:Nat.ble 600 N=gm)
  (e:opening p=plainProg p.main.scope.names) (f:∀s,fenceModules? p s*>s)
  (a:∀(w:n7)(os:ri),(run w os).map (λs=>(openSeen q loose (r4 p.main.body) Xt g s.abs).1)*>(openGood q loose).1)
  (c:∀(w:n7)(os:ri),(run w os).map (λs=>((openSeen q loose (r4 p.main.body) Xt g s.abs).2.1,(openSeen q loose (r4 p.main.body) Xt g s.abs).2.2.1))*>((openGood q loose).2.1,(openGood q loose).2.2.1))
  (j:∀(w:n7)(os:ri),(run w os).map (λs=>(openSeen q loose (r4 p.main.body) Xt g s.abs).2.2.2)*>(openGood q loose).2.2.2)
  (b:∀(w:n7)(os:ri),(run w os).map (λs=>(vq p w s.abs,Yf s.abs))*>(gm,Ya w)):LeftO p q loose Xt Yf Ya N g:=λw=>by
 let#[#[h,o,d,k,os],u,v]:=cz.mp\boot_open e n f w;let#[5,5]:h=sD w.params/\o=Array.mk []/\d=boot_drawn/\k=boot_toks:=‹v›
 let#[#[s1,l,x],c,j,b]:=#[cz.mp\a w os,c w os,j w os,b w os];rw[l,pE] at c j b;let#[c,j,#[l1,y],l2,r]:=#[kW\eB c,eB j,kW\eB b,(nr x\nr c.1 (nr c.2 j):openSeen q loose (r4 p.main.body) Xt g s1.abs=openGood q loose),m w os s1 l];let t:topFrom qs p w N #[sD w.params,Array.mk [],boot_drawn,boot_toks,os]=gh s1.abs:=by unfold topFrom;dsimp only;rw[KL,MW,IL,r];unfold vq at l1;change (match staticsOk (r4 p.main.body) (sD w.params) s1.abs.heap&&namesBound p s1.abs.heap&&gensDone s1.abs&&laidKept (sD w.params) s1.abs.heap with|true=>_|false=>_)=_;rw[l1]
 unfold openEnds;rw[u];change (topFrom qs p w N _).map _=_;rw[t];show congrArg gh\nr l2 y
end L2
namespace K15
open PySem L2 PySem.W K51
def cC(x:Str)(k l a:Nat):Obj:=#[.t "code",gf,.d\tA [.s x k,.s x (k+1),.s ↑38 (k+2),.i l 0,.i 0 0,.i 0 0,.i 0 0,.i 0 0,.r a,.x hB,.i 181 0,.r (a+1),.none,.none,.none,.none,.i (k+3) 0,.i l 0,.s ↑38 (k+4)],(tA [])]
def cF(a b:Nat)(m:Str)(k:Nat):Obj:=#[.t "frame",gf,.plain,(tA [gh\.r a,gh\.r 3,gh\.r b,gf,gh\.s m k,gf,gh\.r 0])]
def cT(l:-hK):Obj:=#[.t ↑16,gf,.e l.toArray 0,(tA [])]
def cE(l:-hK):Obj:=#[.none,gf,.d l.toArray,(tA [])]
def cB(x:String)(v:hK):Obj:=#[.t "builtin_function_or_method",gf,.d\tA [.b x,v],(tA [])]
def cS(c:Nat):-Obj:=[#[.t "super",gf,.d\tA [.r c,.r c,.r c],(tA [])],cB "object.__init_subclass__"\.r c]
def cH(P:Params)(x:Str)(k l a:Nat):-Obj:=[cB "type.__prepare__"\.t "type",
 #[.t ↑53,gf,.y (tA [dE P ↑54 (k+7)\.s ↑3 187,dE P "__qualname__" (k+9)\.s x (k+8),dE P ↑31 (k+11)\.i l (k+10),dE P ↑15 (k+12)\.r (a+7)]) 4,(tA [])],cT [],cE [],cC x (k+2) l (a+3),cF (a+5) (a+2) ↑3 187,cT []]
def cL(P:Params):Nat->-Str->-Obj
 |_,[]=>[]
 |i,x::xs=>(cT [.r 24]::cH P x (207+16*i) (4+2*i) (28+12*i))++(eD P ↑3 187 (214+16*i) (4+2*i) (36+12*i)::eC x 24 (37+12*i) (28+12*i) (207+16*i)::cS (37+12*i))++cL P (i+1) xs
def nms:-Str:=["TooMany","NoText","NoCorner","NoSide","NoLetter","NoCaps","NoCode","NoDeed","Taken","Gone","NoPast"]
def cM(l:-hK):-Obj:=[cT [],cE l,cC "<module>" 182 1 11,cF 13 3 "__main__" 164]
def cN3:Nat->-Str->-(Str×Nat)
 |_,[]=>[]
 |i,x::xs=>(x,i)::cN3 (i+1) xs
def o160(P:Params):-Obj:=(sD P).objs.toList.take 3 ++
 #[.t ↑53,gf,.y (dE P ↑98 165 (.s ↑3 187)::dE P "__doc__" 166 .none::dE P "__package__" 167 .none::dE P "__loader__" 168 (.b "__main__.__loader__#opaque")::dE P "__spec__" 169 .none::dE P "__annotations__" 170 (.r 6)::dE P "__builtins__" 171 (.r 4)::dE P "__file__" 173 (.s ↑38 172)::dE P "__cached__" 174 .none::dE P ↑21 206 (.r 24)::(cN3 0 nms).map λx=>dE P x.1 (222+16*x.2)\.r (37+12*x.2)).toArray 21,(tA [])] ::
 (sD P).objs.toList.drop 4++cM (.i 2 0::.i 0 0::.r 20::(cN3 0 nms).flatMap λx=>[.i (4+2*x.2) 0,.i 0 0,.r (33+12*x.2)])++(cT [.t ↑20]::cH P ↑21 189 2 15) ++
 [#[.t ↑53,gf,.y (tA [dE P ↑54 196\.s ↑3 187,dE P ↑31 200\.i 2 199,dE P ↑15 201\.r 22,dE P ↑82 203\.r 25,dE P "__doc__" 204 .none]) 3,(tA [])],
 #[.t "type",gf,.cls\PySem.ClassData.mk ↑21 [.t ↑20] [.r 24,.t ↑20,.t "Exception",.t ↑4,.t ↑89] 23 ↑21 gm [] ((cN3 0 nms).map λx=>.r (37+12*x.2)) hB gf hB,(tA [gh\.r 15,gf,gh\.s ↑21 189,gh\.s ↑21 197,gh\.b ↑5,gh\.x gm])],
 #[.t ↑71,gf,.d\tA [.s ↑82 202,.r 24,.b ↑66,.none],(tA [])]]++cS 24++cL P 0 nms
def stS(os:ri)(l:-Obj)(n k:Nat):SharedT:=#[BA l 0 .nil,n,{},Array.mk [],boot_drawn,k,os]
def stB(w:n7)(os:ri):SharedT:=stS os ((sD w.params).objs.toList++cM []) 15 187
def stM(w:n7)(os:ri):SharedT:=stS os (o160 w.params) 160 383
abbrev env0:Env:={scope:=(P_W).main.scope,locals:=mainNs,globals:=mainNs,cells:=[],code:=.r 13,frame:=gh 14}
def m0(w:n7)(os:ri):topGo qs P_W w 11 (gh\.r 6) 12 #[sD w.params,Array.mk [],boot_drawn,boot_toks,os] (topStub P_W)=gh ((stB w os).abs,#[denote qs\.body (rz P_W) env0,.body (rz P_W) env0,#[(0),(0),(0),(0)],[topFrame #[(0),(0),(0),(0)]]]):=by kernel_rfl
def m1(w:n7)(os:ri):segRun qs P_W w 11 (gh\.r 6) 1 2 (stB w os).abs (blockOf (rz P_W) env0 (.body (rz P_W) env0) #[(0),(0),(0),(0)] [topFrame #[(0),(0),(0),(0)]])*>(.next,(stB w os).abs,.body (rz P_W) env0,#[(0),(0),(0),(0)]):=by kernel_rfl
def m2(w:n7)(os:ri):segRunT qs P_W w 11 (gh\.r 6) 1 3000 (stB w os) (piecesOf ((rz P_W).take 13) env0 (.body (rz P_W) env0) #[(0),(0),(0),(0)] [topFrame #[(0),(0),(0),(0)]])*>(.next,stM w os,.body (rz P_W) env0,#[(24),(0),(25),(8)]):=by kernel_rfl
def ads:-Addr:=[2,3,23,24,25,36,37,48,49,60,61,72,73,84,85,96,97,108,109,120,121,132,133,144,145,156,157,172,173,175,176,191,192,194,195,213,214,222,223,229,230,234,235,241,242,248,249,253,254,260,261,267,268,274,275,281,282,288,289,295,296,302,303,309,310,321,322,328,329,342,343,345,346,347,348,351,352,353,359,360,366,367,373,374,380,381,385,386,392,393,399,400,404,405,411,412,418,419,423,424,430,431,437,438,444,445,451,452,458,459,465,466,472,473,477,478,484,485,489,490,494,495,499,500,504,505,509,510,514,515,519,520,526,527,531,532,545,546,552,553,557,558,562,563,567,568,574,575,581,582,588,589,593,594,600,601]
def view:Program:={P_W with main:={(P_W).main with body:=[aw 1,aw 2,aw 3,aw 4,aw 5,aw 6,aw 7,aw 8,aw 9,aw 10,aw 11,aw 12,aw 13,aw 14,aw 15,aw 17,aw 18,aw 20,aw 21,aw 22,aw 24,aw 26,aw 28,aw 29,aw 30,aw 31,aw 32,aw 33,aw 34,aw 35,aw 36,aw 38,aw 39,aw 40,aw 41,aw 42,aw 43,aw 44,aw 45,aw 46,aw 47,aw 48,aw 49,aw 50,aw 51,aw 52,aw 53,aw 55,aw 56,aw 57,aw 58,aw 59,aw 60,aw 61,aw 62,aw 63,aw 64,aw 65,aw 66,aw 67,aw 68,aw 69,aw 70,aw 71,aw 72,aw 73,aw 74,aw 75,aw 76,aw 77,aw 78,aw 79,aw 80,aw 81]}}
abbrev run(w:n7)(os:ri):Option SharedT:=oi qs P_W w 11 (gh\.r 6) 7764 (stM w os)\restOf ((rz P_W).drop 13) env0 (.body (rz P_W) env0) #[(24),(0),(25),(8)] [topFrame #[(0),(0),(0),(0)]]
abbrev seenAt(s:SharedT):=openSeen view [] (r4 (P_W).main.body) (λs=>xlAt view [] s&&recOk [] s) gm s.abs
def leftA(w:n7)(os:ri):(run w os).map (λs=>(seenAt s).1)*>(openGood view []).1:=by kernel_rfl
def leftA2(w:n7)(os:ri):(run w os).map (λs=>((seenAt s).2.1,(seenAt s).2.2.1))*>((openGood view []).2.1,(openGood view []).2.2.1):=by kernel_rfl
def leftA3(w:n7)(os:ri):(run w os).map (λs=>(seenAt s).2.2.2)*>(openGood view []).2.2.2:=by kernel_rfl
def leftB(w:n7)(os:ri):(run w os).map (λs=>(vq P_W w s.abs,Hook.obs (kHook K15.kf K15.ads (λ_=>by kernel_rfl)) s.abs))*>(gm,Hook.val (kHook K15.kf K15.ads (λ_=>by kernel_rfl)) w):=by kernel_rfl
def left:LeftO P_W view [] (λs=>xlAt view [] s&&recOk [] s) (Hook.obs\kHook K15.kf K15.ads (λ_=>by kernel_rfl)) (Hook.val\kHook K15.kf K15.ads (λ_=>by kernel_rfl)) 10778:=
 Kq (run:=run) (λw os _ h=>Kk (m0 w os) (m1 w os) (m2 w os) h) ⋯ (by kernel_rfl) (λs=>by kernel_rfl) leftA leftA2 leftA3 leftB
end K15
namespace TimS
open PySem PySem.W PyProof.Rows
def half{u w:Nat}(h:¬u ≥ w):u<=(u+w)/2/\(u+w)/2<w:=()
def half'{u w:Nat}(h:¬u ≥ w):u<=u+(w-u)/2/\u+(w-u)/2<w:=()
def fewer{u w k t m:Nat}(h:w-u<=k-t)(h1:m<w)(h2:u<=m):m-u<=k-(t+1):=by rw[Nat.sub_add_eq];show Nat.le_sub_one_of_lt\bW (Nat.sub_lt_sub_right h2 h1) h
def fewer'{u w k t m:Nat}(h:w-u<=k-t)(h1:m<w)(h2:u<=m):w-(m+1)<=k-(t+1):=by rw[Nat.sub_add_eq,Nat.sub_add_eq];show Nat.sub_le_sub_right (cQ (Nat.sub_le_sub_left h2 w) h) 1
abbrev SM:=StateT tD Sem
def gal:Bool->sZ->Array sZ->Nat->Nat->Nat->SM (Option Nat):=sortPriv% PySem.Builtin.gallop
def mlo:Array sZ->Array sZ->SM (Array sZ):=sortPriv% PySem.Builtin.mergeLo
def mhi:Array sZ->Array sZ->SM (Array sZ):=sortPriv% PySem.Builtin.mergeHi
def smg:Nat->SM Unit:=sortPriv% PySem.Builtin.setMinGallop
def bey(l:Bool)(q:sZ)(v:Array sZ)(o i:Nat):SM (Option Bool):=do
 let x <-elem' v (o+i)
 if l then lt' x q else return (<-lt' q x).map (!·)
def MB(l:Bool)(q:sZ)(v:Array sZ)(o n h:Nat):gal l q v o n h=(do
 let mut z:=0
 let mut c:=1
 let mut u:=0
 let mut w:=0
 let gh r <-bey l q v o h|return gf
 if r then
  let m:=n-h
  for _ in [0:n] do
   if c ≥ m then break
   let gh g <-bey l q v o (h+c)|return gf
   if !g then break
   z:=c
   c:=2*c+1
  u:=h+z+1
  w:=h+min c m
 else
  let m:=h+1
  for _ in [0:n] do
   if c ≥ m then break
   let gh g <-bey l q v o (h-c)|return gf
   if g then break
   z:=c
   c:=2*c+1
  u:=h+1-min c m
  w:=h-z
 for _ in [0:n] do
  if u ≥ w then break
  let m:=u+(w-u)/2
  let gh g <-bey l q v o m|return gf
  if g then u:=m+1 else w:=m
 return gh w):=rfl
def faL(x y v:Array sZ)(i j:Nat):Array Keyed:=v++x.extract i x.size++y.extract j y.size
def fbL(x y v:Array sZ)(i j:Nat):Array Keyed:=v++y.extract j y.size++x.extract i x.size
abbrev ZS:=Option (Array sZ)×Array sZ×Nat×Nat×Nat×Nat
abbrev ZG:=Option (Array sZ)×Array sZ×Nat×Nat×Nat×Nat×Nat
section
variable (x y:Array sZ)
def loS(h:Nat)(v:Array sZ)(i j c d:Nat):SM (ForInStep ZS):=do
 let gh b <-lt' (<-elem' y j) (<-elem' x i)|pure (.done (gh\faL x y v i j,v,i,j,c,d))
 if b then elem' y j >>= λa=>
  if j+1==y.size then pure (.done (gh\faL x y (v.push a) i (j+1),v.push a,i,j+1,0,d+1)) else
  if d+1 ≥ h then pure (.done (gf,v.push a,i,j+1,0,d+1)) else pure (.yield (gf,v.push a,i,j+1,0,d+1))
 else elem' x i >>= λa=>
  if i+1+1==x.size then pure (.done (gh\fbL x y (v.push a) (i+1) j,v.push a,i+1,j,c+1,0)) else
  if c+1 ≥ h then pure (.done (gf,v.push a,i+1,j,c+1,0)) else pure (.yield (gf,v.push a,i+1,j,c+1,0))
def loE(v:Array sZ)(i j g c d:Nat):SM (ForInStep ZG):=elem' x i >>= λa=>
 if i+1+1==x.size then pure (.done (gh\fbL x y (v.push a) (i+1) j,v.push a,i+1,j,g,c,d)) else
 if c<7&&d<7 then pure (.done (gf,v.push a,i+1,j,g,c,d)) else pure (.yield (gf,v.push a,i+1,j,g,c,d))
def loD(v:Array sZ)(i j g c k:Nat):SM (ForInStep ZG):=
 if k>0 then if j+k==y.size then pure (.done (gh\faL x y (v++y.extract j (j+k)) i (j+k),v++y.extract j (j+k),i,j+k,g,c,k)) else loE x y (v++y.extract j (j+k)) i (j+k) g c k
 else loE x y v i j g c k
def loC(v:Array sZ)(i j g c d:Nat):SM (ForInStep ZG):=elem' y j >>= λa=>
 if j+1==y.size then pure (.done (gh\faL x y (v.push a) i (j+1),v.push a,i,j+1,g,c,d)) else do
 let gh k <-gal gm (<-elem' x i) y (j+1) (y.size-(j+1)) 0|pure (.done (gh\faL x y (v.push a) i (j+1),v.push a,i,j+1,g,c,d))
 loD x y (v.push a) i (j+1) g c k
def loB(v:Array sZ)(i j g k d:Nat):SM (ForInStep ZG):=
 if k>0 then
  if i+k+1==x.size then pure (.done (gh\fbL x y (v++x.extract i (i+k)) (i+k) j,v++x.extract i (i+k),i+k,j,g,k,d)) else
  if i+k==x.size then pure (.done (gh\faL x y (v++x.extract i (i+k)) (i+k) j,v++x.extract i (i+k),i+k,j,g,k,d)) else loC x y (v++x.extract i (i+k)) (i+k) j g k d
 else loC x y v i j g k d
def loA(v:Array sZ)(i j g c d:Nat):SM (ForInStep ZG):=do
 smg g
 let gh k <-gal hB (<-elem' y j) x i (x.size-i) 0|pure (.done (gh\faL x y v i j,v,i,j,g,c,d))
 loB x y v i j g k d
theorem Mf:mlo x y=(do
 rule "list.sort.merge-lo"
 let a <-elem' y 0
 if 1==y.size then pure (faL x y (tA [a]) 0 1) else
 if 0+1==x.size then pure (fbL x y (tA [a]) 0 1) else
 let s <-get
 let z <-forIn [0:x.size+y.size] ((gf,(tA [a]),0,1,gallopOf s):Option (Array sZ)×Array sZ×Nat×Nat×Nat) λ_ z=>do
  let w <-forIn [0:x.size+y.size] ((gf,z.2.1,z.2.2.1,z.2.2.2.1,0,0):ZS) λ_ w=>loS x y z.2.2.2.2 w.2.1 w.2.2.1 w.2.2.2.1 w.2.2.2.2.1 w.2.2.2.2.2
  match w.1 with
  |some r=>pure (.done (gh r,w.2.1,w.2.2.1,w.2.2.2.1,z.2.2.2.2))
  |none=>do
   rule "list.sort.gallop"
   let u <-forIn [0:x.size+y.size] ((gf,w.2.1,w.2.2.1,w.2.2.2.1,z.2.2.2.2+1,w.2.2.2.2.1,w.2.2.2.2.2):ZG) λ_ u=>if u.2.2.2.2.1>1 then loA x y u.2.1 u.2.2.1 u.2.2.2.1 (u.2.2.2.2.1-1) u.2.2.2.2.2.1 u.2.2.2.2.2.2 else loA x y u.2.1 u.2.2.1 u.2.2.2.1 u.2.2.2.2.1 u.2.2.2.2.2.1 u.2.2.2.2.2.2
   match u.1 with
   |some r=>pure (.done (gh r,u.2.1,u.2.2.1,u.2.2.2.1,u.2.2.2.2.1))
   |none=>do
    smg (u.2.2.2.2.1+1)
    pure (.yield (gf,u.2.1,u.2.2.1,u.2.2.2.1,u.2.2.2.2.1+1))
 match z.1 with
 |some r=>pure r
 |none=>unsupported "internal:list.sort.merge-bound"):=by kernel_rfl
end
def G(a:Array sZ)(i:Nat):Keyed:=a.getD i (Value.none,Value.none)
structure Cmp(M:Model)(A:ro)(E:hK->ij->Prop)(s:ij)(κ:u6)(N:sZ->Prop)(lt:sZ->sZ->Bool):Prop where
 asym:∀x y,lt x y=gm->lt y x=hB
 tr:∀x y z,lt y x=hB->lt z y=hB->lt z x=hB
 ask:∀{x y:sZ}{st:tD}{Q:Option Bool->tD->Prop},N x->N y->kindOf st=κ->Q (gh\lt x y) st->wpS M A E s (lt' x y) Q st
section
variable {M:Model}{κ:u6}{N:sZ->Prop}{lt:sZ->sZ->Bool}
def tG{a:Array sZ}{i:Nat}(h:i<a.size):a[i]?*>G a i:=by simp[G,Array.getD,h]
def dw{α:Type}{c:Prop}[Decidable c]{t e:StateT tD Sem α}{Q:α->tD->Prop}{st:tD}(h:c)(q:wpS M A E s t Q st):wpS M A E s (if c then t else e) Q st:=by rw[Sh h];show q
def cP{α:Type}{c:Prop}[Decidable c]{t e:StateT tD Sem α}{Q:α->tD->Prop}{st:tD}(h:¬c)(q:wpS M A E s e Q st):wpS M A E s (if c then t else e) Q st:=by rw[Sg h];show q
def jo{a:Array sZ}{i:Nat}{Q:sZ->tD->Prop}{st:tD}(h:i<a.size)(q:Q (G a i) st):wpS M A E s (elem' a i) Q st:=by rw[elem'_eq,tG h];show bj q
def kB{α:Type}{a:Array sZ}{i:Nat}{k:sZ->SM α}{Q:α->tD->Prop}{st:tD}(h:i<a.size)(q:wpS M A E s (k\G a i) Q st):wpS M A E s (elem' a i >>= k) Q st:=aI\jo h q
def ku{α:Type}{m n:Nat}{r:α}{k:SM α}{Q:α->tD->Prop}{st:tD}(a:m=n->Q r st)(b:m≠n->wpS M A E s k Q st):wpS M A E s (if (m==n)=gm then pure r else k) Q st:=by
 by_cases h:m=n
 .exact dw ‹h› (bj\a h)
 show cP ‹h› (b h)
def jD{α:Type}{a:Array sZ}{i m n:Nat}{r:sZ->α}{k:sZ->SM α}{Q:α->tD->Prop}{st:tD}(h:i<a.size)(b:m=n->Q (r\G a i) st)(c:m≠n->wpS M A E s (k\G a i) Q st):wpS M A E s (elem' a i >>= λz=>if (m==n)=gm then pure (r z) else k z) Q st:=kB h\ku b c
def mw{α:Type}{c:Prop}[Decidable c]{a b:α}{Q:α->tD->Prop}{st:tD}(d:Q a st)(e:Q b st):wpS M A E s (if c then pure a else pure b) Q st:=by split<;>apply bj<;>assumption
def wp_b{α:Type}{b:Bool}{t e:SM α}{Q:α->tD->Prop}{st:tD}(a:b=gm->wpS M A E s t Q st)(c:b=hB->wpS M A E s e Q st):wpS M A E s (if b=gm then t else e) Q st:=by
 cases b with
 |true=>show a rfl
 |false=>show c rfl
def Bx{α β:Type}{c:Prop}[Decidable c]{t e:SM α}{Q:α->tD->Prop}{st:tD}{K:β->SM α}(a b:β)(he:K b=e)(d:K a=t)(q:∀g,wpS M A E s (K g) Q st):wpS M A E s (if c then t else e) Q st:=by
 subst he d
 split<;>show q _
def sM{α:Type}{c:Prop}[Decidable c]{t e:SM α}{Q:α->tD->Prop}{st:tD}{K:Array sZ->Nat->SM α}(R:Array sZ->Nat->Prop)(v:Array sZ)(i:Nat)(he:K v i=e)(q:∀v i,R v i->wpS M A E s (K v i) Q st)(a:c->(∀v i,R v i->wpS M A E s (K v i) Q st)->wpS M A E s t Q st)(b:¬c->R v i):wpS M A E s (if c then t else e) Q st:=by
 subst he;by_cases h:c
 .exact dw h\a h q
 show cP h (q>>(b h))
def Cmp.refl(C:Cmp M A E s κ N lt)(x:sZ):lt x x=hB:=by
 cases h:lt x x with
 |false=>rfl
 |true=>let z:=C.asym x x h;rw[h] at z;cases z
def Cmp.ltle(C:Cmp M A E s κ N lt){x y z:sZ}(h:lt x y=gm)(h2:lt z y=hB):lt x z=gm:=by
 cases q:lt x z with
 |true=>rfl
 |false=>have:=C.tr _ _ _ h2 q;rw[h] at this;cases this
def Cmp.lelt(C:Cmp M A E s κ N lt){x y z:sZ}(h:lt y x=hB)(h2:lt y z=gm):lt x z=gm:=by
 cases q:lt x z with
 |true=>rfl
 |false=>have:=C.tr _ _ _ q h;rw[h2] at this;cases this
def Ck(C:Cmp M A E s κ N lt){α:Type}{a b:Array sZ}{i j:Nat}{k:Option Bool->SM α}{Q:α->tD->Prop}{st:tD}(h1:i<a.size)(h2:j<b.size)(na:∀i,i<a.size->N\G a i)(nb:∀i,i<b.size->N\G b i)(hk:kindOf st=κ)(q:wpS M A E s (k\gh (lt (G a i)\G b j)) Q st):wpS M A E s (do k (<-lt' (<-elem' a i) (<-elem' b j))) Q st:=
 kB h1 (kB h2\aI (C.ask (na _ h1) (nb _ h2) hk q))
def lK{x:String}{Q:Unit->tD->Prop}{st:tD}(h:Q .unit st):wpS M A E s (liftM (rule x):SM Unit) Q st:=wpS_lift\ur #[1,h]
def bv(lt:sZ->sZ->Bool)(l:Bool)(q:sZ)(v:Array sZ)(o i:Nat):Bool:=if l then lt (G v (o+i)) q else !lt q (G v (o+i))
def lZ(C:Cmp M A E s κ N lt){l:Bool}{q:sZ}{v:Array sZ}{o i:Nat}{st:tD}{Q:Option Bool->tD->Prop}(a:∀i,i<v.size->N\G v i)(b:N q)(hi:o+i<v.size)(c:kindOf st=κ)(h:Q (gh\bv lt l q v o i) st):wpS M A E s (bey l q v o i) Q st:=by
 unfold bey;show aI\jo hi ?_;cases l with
 |true=>show C.ask (a _ hi) b c h
 |false=>show aI\C.ask b (a _ hi) c (bj h)
def lY{l:Bool}{q:sZ}{n h:Nat}{st:tD}{Q:Option Nat->tD->Prop}(b:Nat->Bool)(hb:∀i,i<n->∀Q:Option Bool->tD->Prop,Q (gh\b i) st->wpS M A E s (bey l q v o i) Q st)
  (mo:∀i j,i<=j->j<n->b j=gm->b i=gm) (hh:h<n) (hQ:∀k,k<=n->(∀i,i<k->b i=gm)->(∀i,k<=i->i<n->b i=hB)->Q (gh k) st):wpS M A E s (gal l q v o n h) Q st:=by
 let mf:∀i j,i<=j->j<n->b i=hB->b j=hB:=λi j a c d=>by
  cases e:b j with
  |false=>rfl
  |true=>rw[mo i j a c e] at d;cases d
 let tail:∀(u w:Nat),u<=w->w<=n->(∀i,i<u->b i=gm)->(∀i,w<=i->i<n->b i=hB)->wpS M A E s (do
   let mut u:=u
   let mut w:=w
   for _ in [0:n] do
    if u ≥ w then break
    let m:=u+(w-u)/2
    let gh g <-bey l q v o m|return gf
    if g then u:=m+1 else w:=m
   return gh w) Q st:=by
  intro u w h1 h2 h3 h4;dsimp only;show aI (fN (fu (I:=λi x st'=>st'=st/\x.1=gf/\x.2.1<=x.2.2/\x.2.2<=n/\x.2.2-x.2.1<=n-i/\(∀i,i<x.2.1->b i=gm)/\(∀i,x.2.2<=i->i<n->b i=hB)) (Q:=λx st'=>st'=st/\x.1=gf/\x.2.1=x.2.2/\x.2.2<=n/\(∀i,i<x.2.1->b i=gm)/\(∀i,x.2.2<=i->i<n->b i=hB)) ?step ?fin #[5,h1,h2,by change w-u<=n-0;lia,h3,h4]) ?post)
  case fin=>
   rintro⟨r,u,w⟩ st' ⟨rfl,e,a1,a2,a3,a4,a5⟩;let a1:u<=w:=a1;let a3:w-u<=n-max 0 n:=a3;erw[1,e,by change u=w;lia,a2,a4,a5]
  case step=>
   rintro i ⟨r,u,w⟩ st' _ hi ⟨rfl,e,a1,a2,a3,a4,a5⟩;let#[a1,a2,a3,a4,a5]:=#[(a1:u<=w),(a2:w<=n),(a3:w-u<=n-i),(a4:∀i,i<u->b i=gm),(a5:∀i,w<=i->i<n->b i=hB)];dsimp only;by_cases c:u ≥ w
   .refine dw c ?_;show bj #[5,by change u=w;lia,a2,a4,a5]
   show cP c ?_;let#[m1,m2]:=half' c;generalize u+(w-u)/2=m at m1 m2 |-;show aI\hb _ (bW m2 a2) _ ?_;dsimp only;cases hm:b m with
   |true=>
    show dw rfl ?_;show bj #[5,m2,a2,fewer' a3 m2 m1,λk hk=>mo k m (Pu hk) (bW m2 a2) hm,a5]
   |false=>
    show cP ⋯ ?_;show bj #[5,m1,nj\bW m2 a2,fewer a3 m2 m1,a4,λk hk h'=>mf _ k hk h' hm]
  case post=>
   rintro⟨r,u,w⟩ st' ⟨rfl,e,a1,a2,a3,a4⟩;let e:r=gf:=e;cases e;cases (show u=w from a1);show bj\hQ u a2 a3 a4
 rw[MB];dsimp only;show aI\hb h hh _ ?_;dsimp only;cases b0:b h with
 |true=>
  show dw rfl ?_;show aI (fN (fu (β:=Option (Option Nat)×Nat×Nat) (I:=λi x st'=>st'=st/\x.1=gf/\b (h+x.2.1)=gm/\h+x.2.1<n/\x.2.1<x.2.2/\i<x.2.2) (Q:=λx st'=>st'=st/\x.1=gf/\b (h+x.2.1)=gm/\h+x.2.1<n/\x.2.1<x.2.2/\(x.2.2 ≥ n-h\/b (h+x.2.2)=hB)) ?s1 ?f1 #[5,b0,hh,ic 0,ic 0]) ?p1)
  case f1=>
   rintro⟨r,z,c⟩ st' ⟨rfl,e,a1,a2,a3,a4⟩;let a4:max 0 n<c:=a4;erw[1,e,a1,a2,a3,.l (by change c ≥ n-h;lia)]
  case s1=>
   rintro i ⟨r,z,c⟩ st' _ hi ⟨rfl,e,a1,a2,a3,a4⟩;let#[a1,a2,a3,a4]:=#[(a1:b (h+z)=gm),(a2:h+z<n),(a3:z<c),(a4:i<c)];dsimp only;by_cases c1:c ≥ n-h
   .exact dw c1\bj #[5,a1,a2,a3,.l c1]
   show cP c1 ?_;show aI\hb _ () _ ?_;dsimp only;cases hm:b (h+c) with
   |true=>
    show cP ⋯ ?_;show bj #[5,hm,by change h+c<n;lia,by change c<2*c+1;lia,by change i+1<2*c+1;lia]
   |false=>
    show dw ⋯ ?_;show bj #[5,a1,a2,a3,.o hm]
  case p1=>
   rintro⟨r,z,c⟩ st' ⟨rfl,e,a1,a2,a3,a4⟩;let e:r=gf:=e;subst e;let#[a1,a2,a3,a4]:=#[(a1:b (h+z)=gm),(a2:h+z<n),(a3:z<c),(a4:c ≥ n-h\/b (h+c)=hB)];dsimp only;show tail (h+z+1) (h+min c (n-h)) () () (λi hi=>mo i (h+z) () a2 a1) (λi hi hn=>?_);rcases a4 with a4|a4
   .lia
   by_cases c1:c ≥ n-h
   .lia
   show mf (h+c) i () hn a4
 |false=>
  show cP ⋯ ?_;show aI (fN (fu (β:=Option (Option Nat)×Nat×Nat) (I:=λi x st'=>st'=st/\x.1=gf/\b (h-x.2.1)=hB/\x.2.1<=h/\x.2.1<x.2.2/\i<x.2.2) (Q:=λx st'=>st'=st/\x.1=gf/\b (h-x.2.1)=hB/\x.2.1<=h/\x.2.1<x.2.2/\(x.2.2 ≥ h+1\/b (h-x.2.2)=gm)) ?s2 ?f2 #[5,b0,aZ _,ic 0,ic 0]) ?p2)
  case f2=>
   rintro⟨r,z,c⟩ st' ⟨rfl,e,a1,a2,a3,a4⟩;let a4:max 0 n<c:=a4;erw[1,e,a1,a2,a3,.l (by change c ≥ h+1;lia)]
  case s2=>
   rintro i ⟨r,z,c⟩ st' _ hi ⟨rfl,e,a1,a2,a3,a4⟩;let#[a1,a2,a3,a4]:=#[(a1:b (h-z)=hB),(a2:z<=h),(a3:z<c),(a4:i<c)];dsimp only;by_cases c1:c ≥ h+1
   .exact dw c1\bj #[5,a1,a2,a3,.l c1]
   show cP c1 ?_;show aI\hb _ () _ ?_;dsimp only;cases hm:b (h-c) with
   |true=>
    show dw rfl ?_;show bj #[5,a1,a2,a3,.o hm]
   |false=>
    show cP ⋯ ?_;show bj #[5,hm,by change c<=h;lia,by change c<2*c+1;lia,by change i+1<2*c+1;lia]
  case p2=>
   rintro⟨r,z,c⟩ st' ⟨rfl,e,a1,a2,a3,a4⟩;let e:r=gf:=e;subst e;let#[a1,a2,a3,a4]:=#[(a1:b (h-z)=hB),(a2:z<=h),(a3:z<c),(a4:c ≥ h+1\/b (h-c)=gm)];dsimp only;show tail (h+1-min c (h+1)) (h-z) () () (λi hi=>?_) (λi hi hn=>mf (h-z) i () hn a1);rcases a4 with a4|a4
   .lia
   by_cases c1:c ≥ h+1
   .lia
   show mo i (h-c) () () a4
end
def faH(x y v:Array sZ)(i j:Nat):Array Keyed:=x.extract 0 i++y.extract 0 j++v.reverse
def fbH(x y v:Array sZ)(i j:Nat):Array Keyed:=y.extract 0 j++x.extract 0 i++v.reverse
abbrev YS:=Option (Array sZ)×Nat×Nat×Array sZ×Nat×Nat
abbrev YG:=Option (Array sZ)×Nat×Nat×Array sZ×Nat×Nat×Nat
section
variable (x y:Array sZ)
def hiS(h:Nat)(v:Array sZ)(i j c d:Nat):SM (ForInStep YS):=do
 let gh b <-lt' (<-elem' y (j-1)) (<-elem' x (i-1))|pure (.done (gh\faH x y v i j,i,j,v,c,d))
 if b then elem' x (i-1) >>= λa=>
  if i-1==0 then pure (.done (gh\faH x y (v.push a) (i-1) j,i-1,j,v.push a,c+1,0)) else
  if c+1 ≥ h then pure (.done (gf,i-1,j,v.push a,c+1,0)) else pure (.yield (gf,i-1,j,v.push a,c+1,0))
 else elem' y (j-1) >>= λa=>
  if j-1==1 then pure (.done (gh\fbH x y (v.push a) i (j-1),i,j-1,v.push a,0,d+1)) else
  if d+1 ≥ h then pure (.done (gf,i,j-1,v.push a,0,d+1)) else pure (.yield (gf,i,j-1,v.push a,0,d+1))
def hiE(v:Array sZ)(i j g c d:Nat):SM (ForInStep YG):=elem' x (i-1) >>= λa=>
 if i-1==0 then pure (.done (gh\faH x y (v.push a) (i-1) j,i-1,j,v.push a,g,c,d)) else
 if c<7&&d<7 then pure (.done (gf,i-1,j,v.push a,g,c,d)) else pure (.yield (gf,i-1,j,v.push a,g,c,d))
def hiD(v:Array sZ)(i j g c p k:Nat):SM (ForInStep YG):=
 if k>0 then
  if p==1 then pure (.done (gh\fbH x y (v++(y.extract p j).reverse) i p,i,p,v++(y.extract p j).reverse,g,c,k)) else
  if p==0 then pure (.done (gh\faH x y (v++(y.extract p j).reverse) i p,i,p,v++(y.extract p j).reverse,g,c,k)) else hiE x y (v++(y.extract p j).reverse) i p g c k
 else hiE x y v i j g c k
def hiC(v:Array sZ)(i j g c d:Nat):SM (ForInStep YG):=elem' y (j-1) >>= λa=>
 if j-1==1 then pure (.done (gh\fbH x y (v.push a) i (j-1),i,j-1,v.push a,g,c,d)) else do
 let gh p <-gal gm (<-elem' x (i-1)) y 0 (j-1) (j-1-1)|pure (.done (gh\faH x y (v.push a) i (j-1),i,j-1,v.push a,g,c,d))
 hiD x y (v.push a) i (j-1) g c p (j-1-p)
def hiB(v:Array sZ)(i j g p k d:Nat):SM (ForInStep YG):=
 if k>0 then
  if p==0 then pure (.done (gh\faH x y (v++(x.extract p i).reverse) p j,p,j,v++(x.extract p i).reverse,g,k,d)) else hiC x y (v++(x.extract p i).reverse) p j g k d
 else hiC x y v i j g k d
def hiA(v:Array sZ)(i j g c d:Nat):SM (ForInStep YG):=do
 smg g
 let gh p <-gal hB (<-elem' y (j-1)) x 0 i (i-1)|pure (.done (gh\faH x y v i j,i,j,v,g,c,d))
 hiB x y v i j g p (i-p) d
theorem Mg:mhi x y=(do
 rule "list.sort.merge-hi"
 let a <-elem' x (x.size-1)
 if x.size-1==0 then pure (faH x y (tA [a]) (x.size-1) y.size) else
 if y.size==1 then pure (fbH x y (tA [a]) (x.size-1) y.size) else
 let s <-get
 let z <-forIn [0:x.size+y.size] ((gf,x.size-1,y.size,(tA [a]),gallopOf s):Option (Array sZ)×Nat×Nat×Array sZ×Nat) λ_ z=>do
  let w <-forIn [0:x.size+y.size] ((gf,z.2.1,z.2.2.1,z.2.2.2.1,0,0):YS) λ_ w=>hiS x y z.2.2.2.2 w.2.2.2.1 w.2.1 w.2.2.1 w.2.2.2.2.1 w.2.2.2.2.2
  match w.1 with
  |some r=>pure (.done (gh r,w.2.1,w.2.2.1,w.2.2.2.1,z.2.2.2.2))
  |none=>do
   rule "list.sort.gallop"
   let u <-forIn [0:x.size+y.size] ((gf,w.2.1,w.2.2.1,w.2.2.2.1,z.2.2.2.2+1,w.2.2.2.2.1,w.2.2.2.2.2):YG) λ_ u=>if u.2.2.2.2.1>1 then hiA x y u.2.2.2.1 u.2.1 u.2.2.1 (u.2.2.2.2.1-1) u.2.2.2.2.2.1 u.2.2.2.2.2.2 else hiA x y u.2.2.2.1 u.2.1 u.2.2.1 u.2.2.2.2.1 u.2.2.2.2.2.1 u.2.2.2.2.2.2
   match u.1 with
   |some r=>pure (.done (gh r,u.2.1,u.2.2.1,u.2.2.2.1,u.2.2.2.2.1))
   |none=>do
    smg (u.2.2.2.2.1+1)
    pure (.yield (gf,u.2.1,u.2.2.1,u.2.2.2.1,u.2.2.2.2.1+1))
 match z.1 with
 |some r=>pure r
 |none=>unsupported "internal:list.sort.merge-bound"):=by kernel_rfl
end
def Lv(g:Nat):smg g=modify λs=>SortSt.mk' (kindOf s) (u4 s) (tf s) g (u5 s):=rfl
def Mh(i:Nat):mergeAt' i=(do
 let s <-get
 let (gh (p,m,e),gh (q,n,_)):=((tf s)[i]?,(tf s)[i+1]?)|unsupported "internal:list.sort.pending"
 set (setPending s\((tf s).setIfInBounds i (p,m+n,e)).eraseIdxIfInBounds (i+1))
 let gh k <-gal hB (<-elem' (u4 s) q) (u4 s) p m 0|return hB
 let (p,m):=(p+k,m-k)
 if m==0 then return gm
 let gh n <-gal gm (<-elem' (u4 s) (p+m-1)) (u4 s) q n (n-1)|return hB
 if n==0 then return gm
 let x:=(u4 s).extract p q
 let y:=(u4 s).extract q (q+n)
 let r <-if m<=n then mlo x y else mhi x y
 modify λs=>setArr s (r.toList.zipIdx.foldl (λa (z,j)=>a.setIfInBounds (p+j) z)\u4 s)
 return (u5 (<-get)).isNone):=rfl
section
variable {M:Model}{κ:u6}{N:sZ->Prop}{lt:sZ->sZ->Bool}
def Asc(lt:sZ->sZ->Bool)(x:Array sZ):Prop:=∀i j,i<=j->j<x.size->lt (G x j) (G x i)=hB
def Srt(lt:sZ->sZ->Bool)(l:-sZ):Prop:=l.Pairwise λa b=>lt b a=hB
structure MI(lt:sZ->sZ->Bool)(x y v:Array sZ)(i j:Nat):Prop where
 ix:i<=x.size
 jy:j<=y.size
 pm:v.toList.Perm (x.toList.take i++y.toList.take j)
 so:Srt lt v.toList
 bx:∀a∈v.toList,∀k,i<=k->k<x.size->lt (G x k) a=hB
 by_:∀a∈v.toList,∀k,j<=k->k<y.size->lt (G y k) a=hB
def Good(lt:sZ->sZ->Bool)(x y v:Array sZ):Prop:=v.toList.Perm (x.toList++y.toList)/\Srt lt v.toList
def MI.sw(h:MI lt x y v i j):MI lt y x v j i:=#[h.jy,h.ix,h.pm<*jU,h.so,h.by_,h.bx]
def K2{x:Array sZ}{i:Nat}(h:i<x.size):x.toList.take (i+1)=x.toList.take i++[G x i]:=by rw[bC,jM,tG h];rfl
def MI.push(hx:Asc lt x)(h:MI lt x y v i j)(hi:i<x.size)(c:∀k,j<=k->k<y.size->lt (G y k) (G x i)=hB):MI lt x y (v.push\G x i) (i+1) j:=by
 erw[hi,h.jy,?_,?_,λa ha k h1 h2=>?_,λa ha k h1 h2=>?_]
 .rw[iE,K2 hi,gz];show (h.pm.append_right _).trans ?_;rw[gz];show List.Perm.append_left _ jU
 .unfold Srt;rw[iE,xn];erw[h.so,ug _ _,λa ha b d=>?_];rw[aG.mp d];show h.bx a ha i (ar _) hi
 .rw[iE] at ha;rcases a9.mp ha with ha|ha
  .exact h.bx a ha k () h2
  rw[aG.mp ha];show hx i k () h2
 rw[iE] at ha;rcases a9.mp ha with ha|ha
 .exact h.by_ a ha k h1 h2
 rw[aG.mp ha];show c k h1 h2
def CH{x v:Array sZ}{i k:Nat}(h:i+k<x.size):v++x.extract i (i+(k+1))=(v++x.extract i (i+k)).push (G x (i+k)):=by
 apply pb.mp;rw[iE,OU,OU,wO,wO,w5,w5,gz]
 congr 1
 rw[show i+(k+1)-i=k+1 by lia,show i+k-i=k by lia,bC,w_,jM,tG h];rfl
def MI.chunk(hx:Asc lt x)(h:MI lt x y v i j):∀(k:Nat),i+k<=x.size->(∀m,m<k->∀a,j<=a->a<y.size->lt (G y a) (G x (i+m))=hB)->MI lt x y (v++x.extract i (i+k)) (i+k) j
 |0,_,_=>by
  let e:v++x.extract i (i+0)=v:=by apply pb.mp;simp
  rw[e];show h
 |k+1,b,hm=>by
  rw[CH ()];show (MI.chunk hx h k () λm c=>hm m ()).push hx ()\hm k (ic _)
def MI.fin(h:MI lt x y v x.size y.size):Good lt x y v:=by
 erw[?_,h.so];have:=h.pm
 rwa [je ∅,je ∅] at this
def MI.fa(hx:Asc lt x)(c:Asc lt y)(h:MI lt x y v i j)(d:∀m,i<=m->m<x.size->∀k,j<=k->k<y.size->lt (G y k) (G x m)=hB):Good lt x y (v++x.extract i x.size++y.extract j y.size):=by let hi:=h.ix;let e:=h.jy;let a:=MI.chunk hx h (x.size-i) () λm hm k h1 h2=>d _ () () k h1 h2;rw[show i+(x.size-i)=x.size by lia] at a;let b:=MI.chunk c a.sw (y.size-j) () λm hm k h1 h2=>absurd h1 ();rw[show j+(y.size-j)=y.size by lia] at b;show b.sw.fin
def Good.sw{x y v:Array sZ}(h:Good lt y x v):Good lt x y v:=#[h.1<*jU,h.2]
def Fr(st a:tD):Prop:=kindOf a=kindOf st/\u4 a=u4 st/\tf a=tf st/\u5 a=u5 st
def qZ{st:tD}{Q:Unit->tD->Prop}(f:Fr st a)(h:∀b,Fr st b->Q .unit b):wpS M A E s (smg g) Q a:=by rw[Lv];show jX\h _ f
structure J(lt:sZ->sZ->Bool)(x y:Array sZ)(st:tD)(lo:Nat)(r:Option\Array sZ)(v:Array sZ)(i j:Nat)(st':tD):Prop where
 f:Fr st st'
 yes:∀a,r*>a->Good lt x y a
 no:r=gf->MI lt x y v i j/\i+1<x.size/\j<y.size/\lo<=i+j
def J.on{st:tD}{lo:Nat}(f:Fr st a)(h:MI lt x y v i j)(hi:i+1<x.size)(b:j<y.size)(c:lo<=i+j):J lt x y st lo gf v i j a:=#[f,λ_ z=>(nomatch z),λ_=>#[h,hi,b,c]]
def J.end_{x y:Array sZ}{st:tD}{lo:Nat}{a:Array sZ}(f:Fr st b)(h:Good lt x y a):J lt x y st lo (gh a) v i j b:=#[f,λ_ z=>eB z ▸ h,λz=>(nomatch z)]
def KS(C:Cmp M A E s κ N lt){x y:Array sZ}{st:tD}{Q:Array sZ->tD->Prop}(hk:kindOf st=κ)(Nx:∀i,i<x.size->N\G x i)(Ny:∀i,i<y.size->N\G y i)(hx:Asc lt x)(D:Asc lt y)(h0:0<x.size)(h1:0<y.size)
  (hb:lt (G y 0) (G x 0)=gm) (hl:∀j,j<y.size->lt (G y j) (G x (x.size-1))=gm) (q:∀r l,Fr st l->Good lt x y r->Q r l):wpS M A E s (mlo x y) Q st:=by
 let m0:MI lt x y (tA [G y 0]) 0 1:=by let z:MI lt y x (tA []) 0 0:=#[aZ _,aZ _,∅,List.Pairwise.nil,∅,∅];show (z.push D h1 λk _ ab=>C.tr _ _ _ (C.asym>>hb)\hx 0 k (aZ _) ab).sw
 let fa:∀{v:Array sZ}{i j:Nat},MI lt x y v i j->j=y.size\/i=x.size->Good lt x y (v++x.extract i x.size++y.extract j y.size):=λ{v i j} m e=>m.fa hx D λa h2 u b h4 h5=>absurd e ();let fb:∀{v:Array sZ}{i j:Nat},MI lt x y v i j->i+1=x.size->Good lt x y (v++y.extract j y.size++x.extract i x.size):=λ{v i j} m e=>(m.sw.fa D hx λa h2 u b h4 h5=>by
  rw[show b=x.size-1 by lia];show C.asym _ _\hl a u).sw
 let ag:∀{a b:Nat},(a==b)=gm->a=b:=λh=>‹h›
 let al:∀{a b:Nat},¬(a==b)=gm->a≠b:=λh=>‹h›
 rw[Mf];show aI\lK (aI\jo h1 ?_);by_cases R:(1==y.size)=gm
 .exact dw R\bj (q _ _ #[5,5]\fa m0 (.l\ag R))
 show cP R ?_;by_cases S:(0+1==x.size)=gm
 .exact dw S\bj (q _ _ #[5,5]\fb m0 (ag S))
 show cP S ?_;let#[R,S,j0]:=#[al R,al S,J.on (lo:=0) (show Fr st st from #[5,5]) m0 () ()\aZ _];show aI\jh (aI (fN (fu (β:=Option (Array sZ)×Array sZ×Nat×Nat×Nat) (I:=λt z l=>z.1=gf/\J lt x y st t gf z.2.1 z.2.2.1 z.2.2.2.1 l) (Q:=λz l=>J lt x y st (x.size+y.size) z.1 z.2.1 z.2.2.1 z.2.2.2.1 l) ?step ?fin #[1,j0]) ?post))
 case fin=>
  rintro⟨r,v,i,j,g⟩ l ⟨e,h⟩;let e:r=gf:=e;subst e;erw[h.f,h.yes,λz=>by
   let#[a1,w,n,B]:=h.no z;erw[a1,w,n,by rw[xw\aZ _] at B;show B]]
 case post=>
  rintro⟨r,v,i,j,g⟩ l h;cases r with
  |some r=>show bj\q _ _ h.f (h.yes _ rfl)
  |none=>
   let#[#[_,w,n,B],w,n,B]:=#[h.no rfl,(w:i+1<x.size),(n:j<y.size),(B:x.size+y.size<=i+j)];lia
 case step=>
  rintro t ⟨r,v,i,j,g⟩ an _ ht ⟨e,h⟩;let e:r=gf:=e;subst e;dsimp only at h |-;show aI (fN (fu (β:=ZS) (I:=λk z l=>z.1=gf/\J lt x y st (t+k) gf z.2.1 z.2.2.1 z.2.2.2.1 l) (Q:=λz l=>J lt x y st (t+1) z.1 z.2.1 z.2.2.1 z.2.2.2.1 l) ?s1 ?f1 #[1,h]) ?p1)
  case f1=>
   rintro⟨r,v,i,j,c,d⟩ l ⟨e,h⟩;let e:r=gf:=e;subst e;erw[h.f,h.yes,λz=>by
    let#[a1,w,n,B]:=h.no z;erw[a1,w,n,by rw[xw\aZ _] at B;lia]]
  case s1=>
   rintro k ⟨r,v,i,j,c,d⟩ l _ ab ⟨e,h⟩;let#[m,w,n,B]:=h.no rfl;let f:=h.f;clear h e;dsimp only at m w n B |-;show Ck C n () Ny Nx (f.1<*hk) ?_;show wp_b (λO=>?_) λO=>?_
   .let K:=(m.sw.push D n λk h2 u=>C.tr _ _ _ (C.asym>>O)\hx i k h2 u).sw;show jD n (λe=>J.end_ f\fa K (.l e)) λe=>mw (J.on f K w () ()) #[1,J.on f K w () ()]
   let K:=m.push hx () λk h2 u=>C.tr _ _ _ O\D j k h2 u;show jD () (λe=>J.end_ f\fb K e) λe=>mw (J.on f K () n ()) #[1,J.on f K () n ()]
  case p1=>
   rintro⟨r,v,i,j,c,d⟩ l h;cases r with
   |some r=>show bj #[h.f,h.yes,λz=>nomatch z]
   |none=>
   dsimp only at h |-;show aI\lK (aI (fN (fu (β:=ZG) (I:=λk z l=>z.1=gf/\J lt x y st (t+1) gf z.2.1 z.2.2.1 z.2.2.2.1 l) (Q:=λz l=>J lt x y st (t+1) z.1 z.2.1 z.2.2.1 z.2.2.2.1 l) ?s2 ?f2 #[1,h]) ?p2))
   case f2=>
    rintro⟨r,v,i,j,g,c,d⟩ l ⟨e,h⟩;let e:r=gf:=e;subst e;show h
   case p2=>
    rintro⟨r,v,i,j,g,c,d⟩ l h;cases r with
    |some r=>show bj #[h.f,h.yes,λz=>nomatch z]
    |none=>show aI (qZ h.f λap f'=>bj #[1,f',λ_ z=>(nomatch z),h.no])
   case s2=>
    rintro k ⟨r,v,i,j,g,c,d⟩ aM _ ab ⟨e,h⟩;let#[m,w,n,B]:=h.no rfl;let f:=h.f;clear h e;dsimp only at m w n B |-;let tl:∀{o:Nat},bv lt hB (G y j) x i o=gm->lt (G y j) (G x (i+o))=hB:=λh=>by simpa [bv] using h
    let fl:∀{o:Nat},bv lt hB (G y j) x i o=hB->lt (G y j) (G x (i+o))=gm:=λh=>by simpa [bv] using h
    refine' Bx (g-1) g ?he ?ht λg=>?_
    case he=>rfl
    case ht=>rfl
    show aI (qZ f λaS H=>kB n\aI (lY (bv lt hB (G y j) x i) (λo L Q' q'=>lZ C Nx (Ny _ n) () (H.1<*hk) q') (λo p L hp ad=>?_) () λk am T U=>?_))
    .cases O:lt (G y j) (G x (i+o)) with
     |false=>change (!lt _ _)=gm;rw[O];rfl
     |true=>have:=C.ltle O\hx (i+o) (i+p) () ();rw[tl ad] at this;cases this
    let m1:=m.chunk hx k () λo L k' h2 u=>C.tr _ _ _ (tl\T o L)\D j k' h2 u;let X:i+k<x.size->lt (G y j) (G x (i+k))=gm:=λz=>fl\U k (ar _) ();clear T U tl fl
    refine' sM (λv i=>MI lt x y v i j/\i+1<x.size/\lt (G y j) (G x i)=gm/\t+1<=i+j) v i ?he ?tl ?ch λz=>#[m,w,?_,B]
    case he=>rfl
    case ch=>show λ_ tl=>ku (λc1=>J.end_ H\fb m1 c1) λc1=>ku (λc2=>J.end_ H\fa m1 (.o c2)) λc2=>tl _ _ #[m1,(),X (),()]
    rotate_left
    .have:=X ()
     rwa [show i+k=i by lia] at this
    rintro v1 i1 ⟨m1,b2,X,i0⟩;let m2:=(m1.sw.push D n λk h2 u=>C.tr _ _ _ (C.asym>>X)\hx i1 k h2 u).sw;show jD n (λc3=>J.end_ H\fa m2 (.l c3)) λc3=>?_;show kB ()\aI (lY (bv lt gm (G x i1) y (j+1)) (λo L Q' q'=>lZ C Ny (Nx _ ()) () (H.1<*hk) q') (λo p L hp ad=>C.lelt (D _ _ () ()) ad) () λk am T U=>?_);let P:=(m2.sw.chunk D k () λo L k h2 u=>C.tr _ _ _ (C.asym>>(T o L))\hx i1 k h2 u).sw;let Y:j+1+k<y.size->lt (G y (j+1+k)) (G x i1)=hB:=λz=>U k (ar _) ();clear T U m1 X m B;let b4:j+1<y.size:=();let i0:t+1<=i1+(j+1):=();generalize v1.push (G y j)=v2 at m2 P |-;generalize j+1=Z at m2 P Y b4 i0 am |-
    refine' sM (λv j=>MI lt x y v i1 j/\j<y.size/\lt (G y j) (G x i1)=hB/\t+1<=i1+j) v2 Z ?he2 ?tl2 ?ch2 λz=>#[m2,b4,?_,i0]
    case he2=>rfl
    case ch2=>show λ_ tl=>ku (λc4=>J.end_ H\fa P (.l c4)) λc4=>tl _ _ #[P,(),Y (),()]
    rotate_left
    .have:=Y ()
     rwa [show Z+k=Z by lia] at this
    rintro v3 Z ⟨P,b3,Y,j0⟩;let m4:=P.push hx () λk h2 u=>C.tr _ _ _ Y\D Z k h2 u;show jD () (λc5=>J.end_ H\fb m4 c5) λc5=>mw (J.on H m4 () b3 ()) #[1,J.on H m4 () b3 ()]
end
section
variable {M:Model}{κ:u6}{N:sZ->Prop}{lt:sZ->sZ->Bool}
structure HI(lt:sZ->sZ->Bool)(x y v:Array sZ)(i j:Nat):Prop where
 ix:i<=x.size
 jy:j<=y.size
 pm:v.toList.Perm (x.toList.drop i++y.toList.drop j)
 so:v.toList.Pairwise λa b=>lt a b=hB
 bx:∀a∈v.toList,∀k,k<i->lt a (G x k)=hB
 by_:∀a∈v.toList,∀k,k<j->lt a (G y k)=hB
def HI.sw(h:HI lt x y v i j):HI lt y x v j i:=#[h.jy,h.ix,h.pm<*jU,h.so,h.by_,h.bx]
def ML{x:Array sZ}{i:Nat}(h:i<x.size):x.toList.drop i=G x i::x.toList.drop (i+1):=by rw[i_ ‹h›];simp[G,h]
def HI.push{i:Nat}(hx:Asc lt x)(h:HI lt x y v (i+1) j)(c:∀k,k<j->lt (G x i) (G y k)=hB):HI lt x y (v.push\G x i) i j:=by
 let hi:=h.ix;erw[(),h.jy,?_,?_,λa ha k h1=>?_,λa ha k h1=>?_]
 .rw[iE,ML (show i<x.size by lia)];show (jU.trans\List.Perm.cons _ h.pm)
 .rw[iE,xn];erw[h.so,ug _ _,λa ha b d=>?_];rw[aG.mp d];show h.bx a ha i\ic _
 .rw[iE] at ha;rcases a9.mp ha with ha|ha
  .exact h.bx a ha k ()
  rw[aG.mp ha];show hx k i () ()
 rw[iE] at ha;rcases a9.mp ha with ha|ha
 .exact h.by_ a ha k h1
 rw[aG.mp ha];show c k h1
def NV{x v:Array sZ}{p k:Nat}(h:p+k<x.size):v++(x.extract p (p+(k+1))).reverse=v.push (G x (p+k))++(x.extract p (p+k)).reverse:=by let e:=CH (v:=(tA [])) h;simp only[Array.empty_append] at e;rw[e];apply pb.mp;simp
def HI.chunk{p:Nat}(hx:Asc lt x):∀(k:Nat){v:Array sZ},HI lt x y v (p+k) j->(∀m,m<k->∀a,a<j->lt (G x (p+m)) (G y a)=hB)->HI lt x y (v++(x.extract p (p+k)).reverse) p j
 |0,v,h,_=>by
  let e:v++(x.extract p (p+0)).reverse=v:=by apply pb.mp;simp
  rw[e];show h
 |k+1,v,h,hm=>by
  let hi:=h.ix;rw[NV ()];show HI.chunk hx k (h.push hx\hm k (ic _)) λm b=>hm m ()
def HI.fa(hx:Asc lt x)(c:Asc lt y)(h:HI lt x y v i j)(d:∀m,m<j->∀k,k<i->lt (G y m) (G x k)=hB):Good lt x y (x.extract 0 i++y.extract 0 j++v.reverse):=by
 let f:=HI.chunk (p:=0) c j (by rw[kQ];show h.sw) λm hm k a=>by rw[kQ];show d m hm k a
 let b:=HI.chunk (p:=0) hx i (by rw[kQ];show f.sw) λm hm k a=>absurd a\Pz _;rw[kQ,kQ] at b;let e:(x.extract 0 i++y.extract 0 j++v.reverse)=(v++(y.extract 0 j).reverse++(x.extract 0 i).reverse).reverse:=by apply pb.mp;simp
 rw[e];erw[?_,?_]
 .rw[OV];have:=b.pm;simp only[CZ] at this;show (List.reverse_perm _)<*this
 unfold Srt;rw[OV,List.pairwise_reverse];show b.so
structure JH(lt:sZ->sZ->Bool)(x y:Array sZ)(st:tD)(lo:Nat)(r:Option\Array sZ)(v:Array sZ)(i j:Nat)(st':tD):Prop where
 f:Fr st st'
 yes:∀a,r*>a->Good lt x y a
 no:r=gf->HI lt x y v i j/\0<i/\1<j/\lo+(i+j)<=x.size+y.size
def JH.on{st:tD}{lo:Nat}(f:Fr st a)(h:HI lt x y v i j)(hi:0<i)(b:1<j)(c:lo+(i+j)<=x.size+y.size):JH lt x y st lo gf v i j a:=#[f,λ_ z=>(nomatch z),λ_=>#[h,hi,b,c]]
def JH.end_{x y:Array sZ}{st:tD}{lo:Nat}{a:Array sZ}(f:Fr st b)(h:Good lt x y a):JH lt x y st lo (gh a) v i j b:=#[f,λ_ z=>eB z ▸ h,λz=>(nomatch z)]
def KU(C:Cmp M A E s κ N lt){x y:Array sZ}{st:tD}{Q:Array sZ->tD->Prop}(Z:kindOf st=κ)(Nx:∀i,i<x.size->N\G x i)(Ny:∀i,i<y.size->N\G y i)(hx:Asc lt x)(D:Asc lt y)(h0:0<x.size)(h1:0<y.size)
  (hb:lt (G y 0) (G x 0)=gm) (hl:∀j,j<y.size->lt (G y j) (G x (x.size-1))=gm) (q:∀r l,Fr st l->Good lt x y r->Q r l):wpS M A E s (mhi x y) Q st:=by
 let m0:HI lt x y (tA [G x (x.size-1)]) (x.size-1) y.size:=by let z:HI lt x y (tA []) (x.size-1+1) y.size:=#[(),ar _,by rw[show x.size-1+1=x.size by lia];simp,List.Pairwise.nil,∅,∅];show z.push hx λk ab=>C.asym>>(hl k ab)
 let fa:∀{v:Array sZ}{i j:Nat},HI lt x y v i j->i=0\/j=0->Good lt x y (x.extract 0 i++y.extract 0 j++v.reverse):=λ{v i j} m e=>m.fa hx D λa h2 b h4=>absurd e ();let X:∀{v:Array sZ}{i j:Nat},HI lt x y v i j->j=1->Good lt x y (y.extract 0 j++x.extract 0 i++v.reverse):=λ{v i j} m e=>(m.sw.fa D hx λa h2 b h4=>by
  have:=m.ix;rw[show b=0 by lia];show C.asym _ _\C.ltle hb (hx 0 a (aZ _) ())).sw
 let ag:∀{a b:Nat},(a==b)=gm->a=b:=λh=>‹h›
 let al:∀{a b:Nat},¬(a==b)=gm->a≠b:=λh=>‹h›
 rw[Mg];show aI\lK (aI\jo () ?_);by_cases P:(x.size-1==0)=gm
 .exact dw P\bj (q _ _ #[5,5]\fa m0 (.l\ag P))
 show cP P ?_;by_cases R:(y.size==1)=gm
 .exact dw R\bj (q _ _ #[5,5]\X m0 (ag R))
 show cP R ?_;let#[P,R,j0]:=#[al P,al R,JH.on (lo:=0) (show Fr st st from #[5,5]) m0 () () ()];show aI\jh (aI (fN (fu (β:=Option (Array sZ)×Nat×Nat×Array sZ×Nat) (I:=λt z l=>z.1=gf/\JH lt x y st t gf z.2.2.2.1 z.2.1 z.2.2.1 l) (Q:=λz l=>JH lt x y st (x.size+y.size) z.1 z.2.2.2.1 z.2.1 z.2.2.1 l) ?step ?fin #[1,j0]) ?post))
 case fin=>
  rintro⟨r,i,j,v,g⟩ l ⟨e,h⟩;let e:r=gf:=e;subst e;erw[h.f,h.yes,λz=>by
   let#[a1,u,H,n]:=h.no z;erw[a1,u,H,by rw[xw\aZ _] at n;show n]]
 case post=>
  rintro⟨r,i,j,v,g⟩ l h;cases r with
  |some r=>show bj\q _ _ h.f (h.yes _ rfl)
  |none=>
   let#[_,u,H,n]:=h.no rfl;let u:0<i:=u;let n:x.size+y.size+(i+j)<=x.size+y.size:=n;lia
 case step=>
  rintro t ⟨r,i,j,v,g⟩ an _ ht ⟨e,h⟩;let e:r=gf:=e;subst e;dsimp only at h |-;show aI (fN (fu (β:=YS) (I:=λk z l=>z.1=gf/\JH lt x y st (t+k) gf z.2.2.2.1 z.2.1 z.2.2.1 l) (Q:=λz l=>JH lt x y st (t+1) z.1 z.2.2.2.1 z.2.1 z.2.2.1 l) ?s1 ?f1 #[1,h]) ?p1)
  case f1=>
   rintro⟨r,i,j,v,c,d⟩ l ⟨e,h⟩;let e:r=gf:=e;subst e;erw[h.f,h.yes,λz=>by
    let#[a1,u,H,n]:=h.no z;erw[a1,u,H,by rw[xw\aZ _] at n;lia]]
  case s1=>
   rintro k ⟨r,i,j,v,c,d⟩ l _ ab ⟨e,h⟩;let#[m,u,H,n]:=h.no rfl;let f:=h.f;clear h e;dsimp only at m u H n |-;let mi:=m.ix;let mj:=m.jy;let#[i,1]:∃i',i=i' + 1:=#[i-1,()];let#[j,1]:∃j',j=j' + 1:=#[j-1,()];show Ck C () () Ny Nx (f.1<*Z) ?_;show wp_b (λO=>?_) λO=>?_
   .let K:=m.push hx λk h2=>C.tr _ _ _ (D k j () ()) (C.asym>>O);show jD () (λc1=>JH.end_ f\fa K (.l c1)) λc1=>mw (JH.on f K () () ()) #[1,JH.on f K () () ()]
   let K:=(m.sw.push D λk h2=>C.tr _ _ _ (hx k i () ()) O).sw;show jD () (λc1=>JH.end_ f\X K c1) λc1=>mw (JH.on f K () () ()) #[1,JH.on f K () () ()]
  case p1=>
   rintro⟨r,i,j,v,c,d⟩ l h;cases r with
   |some r=>show bj #[h.f,h.yes,λz=>nomatch z]
   |none=>
   dsimp only at h |-;show aI\lK (aI (fN (fu (β:=YG) (I:=λk z l=>z.1=gf/\JH lt x y st (t+1) gf z.2.2.2.1 z.2.1 z.2.2.1 l) (Q:=λz l=>JH lt x y st (t+1) z.1 z.2.2.2.1 z.2.1 z.2.2.1 l) ?s2 ?f2 #[1,h]) ?p2))
   case f2=>
    rintro⟨r,i,j,v,g,c,d⟩ l ⟨e,h⟩;let e:r=gf:=e;subst e;show h
   case p2=>
    rintro⟨r,i,j,v,g,c,d⟩ l h;cases r with
    |some r=>show bj #[h.f,h.yes,λz=>nomatch z]
    |none=>show aI (qZ h.f λap f'=>bj #[1,f',λ_ z=>(nomatch z),h.no])
   case s2=>
    rintro k ⟨r,i,j,v,g,c,d⟩ aM _ ab ⟨e,h⟩;let#[m,u,H,n]:=h.no rfl;let f:=h.f;clear h e;dsimp only at m u H n |-;let mi:=m.ix;let mj:=m.jy;let#[j,1]:∃j',j=j' + 1:=#[j-1,()];let tl:∀{o:Nat},bv lt hB (G y j) x 0 o=gm->lt (G y j) (G x o)=hB:=λh=>by simpa [bv] using h
    let fl:∀{o:Nat},bv lt hB (G y j) x 0 o=hB->lt (G y j) (G x o)=gm:=λh=>by simpa [bv] using h
    refine' Bx (g-1) g ?he ?ht λg=>?_
    case he=>rfl
    case ht=>rfl
    show aI (qZ f λaS w=>kB ()\aI (lY (bv lt hB (G y j) x 0) (λo B Q' q'=>lZ C Nx (Ny _ ()) () (w.1<*Z) q') (λo p B hp ad=>?_) () λp am S T=>?_))
    .cases O:lt (G y j) (G x o) with
     |false=>change (!lt _ (G x (0+o)))=gm;rw[kQ,O];rfl
     |true=>have:=C.ltle O\hx o p () ();rw[tl ad] at this;cases this
    let m1:=HI.chunk (p:=p) (v:=v) (j:=j+1) hx (i-p) (by rw[show p+(i-p)=i by lia];show m) λo B k' h2=>C.tr _ _ _ (D k' j () ()) (C.asym>>(fl\T (p+o) () ()));rw[show p+(i-p)=i by lia] at m1;let U:∀o,o<p->lt (G y j) (G x o)=hB:=λo B=>tl\S o B;clear S T tl fl;change wpS _ _ _ _ (hiB x y v i (j+1) g p (i-p) d) _ _;generalize hq:i-p=q
    refine' sM (λv i=>HI lt x y v i (j+1)/\0<i/\(∀o,o<i->lt (G y j) (G x o)=hB)/\t+1+(i+(j+1))<=x.size+y.size) v i ?he ?tl ?ch λz=>#[m,u,?_,n]
    case he=>rfl
    case ch=>show λ_ tl=>ku (λc1=>JH.end_ w\fa m1 (.l c1)) λc1=>tl _ _ #[m1,(),U,()]
    rotate_left
    .rwa [show p=i by lia] at U
    rintro v1 i1 ⟨m1,b2,U,i0⟩;let#[i1,1]:∃i',i1=i' + 1:=#[i1-1,()];let m2:=(m1.sw.push D U).sw;show jD () (λc3=>JH.end_ w\X m2 c3) λc3=>?_;let mi:=m1.ix;show kB ()\aI (lY (bv lt gm (G x i1) y 0) (λo B Q' q'=>lZ C Ny (Nx _ ()) () (w.1<*Z) q') (λo p B hp ad=>C.lelt (D _ _ () ()) ad) () λp am S T=>?_);let tl:∀{o:Nat},bv lt gm (G x i1) y 0 o=lt (G y o) (G x i1):=λ{o}=>by simp[bv]
    let L:=(HI.chunk (p:=p) (v:=v1.push\G y j) D (j-p) (by rw[show p+(j-p)=j by lia];show m2.sw) λo B k' h2=>C.tr _ _ _ (hx k' i1 () ()) (tl ▸ T (p+o) () ())).sw;rw[show p+(j-p)=j by lia] at L;let Y:∀o,o<p->lt (G x i1) (G y o)=hB:=λo B=>C.asym>>(tl ▸ S o B);clear S T m1 U m n tl;change wpS _ _ _ _ (hiD x y (v1.push\G y j) (i1+1) j g q p (j-p)) _ _;generalize hr:j-p=r;generalize v1.push (G y j)=v2 at m2 L |-
    refine' sM (λv j=>HI lt x y v (i1+1) j/\1<j/\(∀o,o<j->lt (G x i1) (G y o)=hB)/\t+1+(i1+1+j)<=x.size+y.size) v2 j ?he2 ?tl2 ?ch2 λz=>#[m2,(),?_,()]
    case he2=>rfl
    case ch2=>show λ_ tl=>ku (λc4=>JH.end_ w\X L c4) λc4=>ku (λc5=>JH.end_ w\fa L (.o c5)) λc5=>tl _ _ #[L,(),Y,()]
    rotate_left
    .rwa [show p=j by lia] at Y
    rintro v3 j1 ⟨L,b3,Y,j0⟩;let m4:=L.push hx Y;show jD () (λc6=>JH.end_ w\fa m4 (.l c6)) λc6=>mw (JH.on w m4 () b3 ()) #[1,JH.on w m4 () b3 ()]
end
def Seg(lt:sZ->sZ->Bool)(a:Array sZ)(lo hi:Nat):Prop:=∀i j,lo<=i->i<=j->j<hi->lt (G a j) (G a i)=hB
def Dn(lt:sZ->sZ->Bool)(a:Array sZ)(lo hi:Nat):Prop:=∀i j,lo<=i->i<=j->j<hi->lt (G a i) (G a j)=hB
def Tl(lt:sZ->sZ->Bool)(a:Array sZ)(hi q:Nat):Prop:=∀i j,hi<=i+(q+1)->i<hi->hi<=j+(q+1)->j<hi->lt (G a i) (G a j)=hB
structure Cg(lo hi:Nat)(a a':Array sZ):Prop where
 pm:a'.Perm a
 at_:∀k,k<lo\/hi<=k->G a' k=G a k
def Cg.size{lo:Nat}(h:Cg lo hi a b):b.size=a.size:=h.pm.size_eq
def Cg.refl(lo hi:Nat)(a:Array sZ):Cg lo hi a a:=#[ON _,λ_ _=>rfl]
def Cg.trans{lo:Nat}(h:Cg lo hi a b)(h2:Cg lo hi b c):Cg lo hi a c:=#[h2.pm<*h.pm,λk d=>(h2.at_ k d).trans\h.at_ k d]
def Cg.mono{lo c d:Nat}(h:Cg lo hi a b)(h1:c<=lo)(h2:hi<=d):Cg c d a b:=#[h.pm,λk e=>h.at_ k ()]
def kK{p q:Array sZ}{i j:Nat}(h:p[i]?=q[j]?):G p i=G q j:=by
 let e:∀(a:Array sZ)(k:Nat),G a k=(a[k]?).getD (Value.none,Value.none):=λa k=>by simp[G]
 rw[e,e,h]
def gZ{p:Array sZ}{i j:Nat}(a:j<=p.size)(k:Nat):G (mirror p i j ((j-i)/2)) k=if i<=k/\k<j then G p (i+j-1-k) else G p k:=by
 let h:=getElem?_mirror_all (xs:=p) (i:=i) a k
 split
 .rename_i c;rw[Sh c] at h;show kK h
 rename_i c;rw[Sg c] at h;show kK h
def rY{p:Array sZ}{j:Nat}(a:j<=p.size):Cg i j p (mirror p i j ((j-i)/2)):=#[mirror_perm _ _ _ _,λk b=>by rw[gZ a,Sg ()]]
abbrev sa(st:tD)(a:Array sZ):SortSt:=setArr st a
section
variable {M:Model}{κ:u6}{N:sZ->Prop}{lt:sZ->sZ->Bool}
def Nm(N:sZ->Prop)(a:Array sZ):Prop:=∀x,x∈a->N x
def Nm.at(h:Nm N a){i:Nat}(hi:i<a.size):N (G a i):=h _\Array.mem_of_getElem? (tG hi)
def Nm.perm{b:Array sZ}(h:Nm N a)(e:b.Perm a):Nm N b:=λx hx=>h x\e.mem_iff.mp hx
def og(C:Cmp M A E s κ N lt){st:tD}{i j:Nat}{Q:Option Bool->tD->Prop}(hk:kindOf st=κ)(hN:Nm N a)(hi:i<a.size)(hj:j<a.size)(h:Q (gh\lt (G a i) (G a j))\sa st a):wpS M A E s (ltAt' i j) Q (sa st a):=by rw[ltAt'_eq];show aI\jh ?_;change wpS _ _ _ _ (do let x <-elem' a i;let y <-elem' a j;lt' x y) Q _;show aI\jo hi (aI\jo hj (C.ask (hN.at hi) (hN.at hj) hk h))
def Jo(C:Cmp M A E s κ N lt):Seg lt a l (l+1):=λi j h1 h2 b=>by
 have:i=j:=();subst this;show C.refl _
def GZ(C:Cmp M A E s κ N lt){n:Nat}(h:Seg lt a l (l+n))(h1:1<=n)(b:lt (G a (l+n)) (G a (l+n-1))=hB):Seg lt a l (l+(n+1)):=λi j hi c f=>by
 by_cases e:j=l+n
 .subst e;by_cases d:i=l+n
  .subst d;show C.refl _
  show C.tr _ (G a (l+n-1)) _ (h i (l+n-1) hi () ()) b
 show h i j hi c ()
def oz(C:Cmp M A E s κ N lt){n:Nat}(h:Dn lt a l (l+n))(h1:1<=n)(b:lt (G a (l+n-1)) (G a (l+n))=hB):Dn lt a l (l+(n+1)):=λi j hi c f=>by
 by_cases e:j=l+n
 .subst e;by_cases d:i=l+n
  .subst d;show C.refl _
  show C.tr _ (G a (l+n-1)) _ b\h i (l+n-1) hi () ()
 show h i j hi c ()
def Gf(C:Cmp M A E s κ N lt){st:tD}{l m:Nat}{Q:Option Nat->tD->Prop}(hk:kindOf st=κ)(hN:Nm N a)(h1:1<=m)(hs:l+m<=a.size)
  (q:∀n a',Cg l (l+m) a a'->1<=n->n<=m->Seg lt a' l (l+n)->Q (gh n)\sa st a'):wpS M A E s (countRun' l m) Q (sa st a):=by
 let asc:∀(n:Nat)(a':Array sZ)(Q':Option (Option Nat)×Nat->tD->Prop),Cg l (l+m) a a'->1<=n->n<=m->Seg lt a' l (l+n)->(∀n',n<=n'->n'<=m->Seg lt a' l (l+n')->(n'<m->lt (G a' (l+n')) (G a' (l+n'-1))=gm)->Q' (gf,n')\sa st a')->
   wpS M A E s (forIn [n:m] ((gf,n):Option (Option Nat)×Nat) λ_ x=>do
    let z <-ltAt' (l+x.2) (l+x.2-1)
    match z with
    |some z=>if z=gm then pure (ForInStep.done (gf,x.2)) else pure (ForInStep.yield (gf,x.2+1))
    |_=>pure\ForInStep.done (gh gf,x.2)) Q' (sa st a'):=by
  intro n a' Q' cg n1 nm sg q';show fu (β:=Option (Option Nat)×Nat) (I:=λt x st'=>st'=sa st a'/\x.1=gf/\x.2=t/\n<=t/\t<=m/\Seg lt a' l (l+t)) (Q:=Q') ?_ ?_ #[5,1,ar _,nm,sg]
  .rintro t ⟨r,n'⟩ st' _ ht ⟨rfl,e1,e2,e3,e4,e5⟩;let e2:n'=t:=e2;subst e2;let hz:=cg.size;show aI\og C hk (hN.perm cg.pm) () () ?_;cases hc:lt (G a' (l+n')) (G a' (l+n'-1)) with
   |true=>show bj (q' n' e3 () e5 λ_=>hc)
   |false=>show bj #[5,1,(),(),GZ C e5 () hc]
  rintro⟨r,n'⟩ st' ⟨rfl,e1,e2,e3,e4,e5⟩;let e1:r=gf:=e1;let e2:n'=max n m:=e2;subst e1;have:n'=m:=();subst this;rw[show max n n'=n' by lia] at e5;show q' n' nm (ar _) e5 λz=>absurd z ()
 let rv:∀{a':Array sZ}{n:Nat},Cg l (l+m) a a'->n<=m->Dn lt a' l (l+n)->Seg lt (mirror a' l (l+n) ((l+n-l)/2)) l (l+n):=λ{a' n} cg nm d i j hi hij hj=>by
  let hz:=cg.size;rw[gZ (),gZ (),Sh (),Sh ()];show d _ _ () () ()
 let rt:∀{a':Array sZ}{n q:Nat},Cg l (l+m) a a'->n<=m->q<n->Dn lt a' l (l+n)->Tl lt a' (l+n) q->Dn lt (mirror a' (l+n-(q+1)) (l+n) ((l+n-(l+n-(q+1)))/2)) l (l+n):=λ{a' n q} cg nm hq d tl i j hi hij hj=>by
  let hz:=cg.size;rw[gZ (),gZ ()]
  split
  .split
   .exact tl _ _ () () () ()
   lia
  split
  .exact d _ _ hi () ()
  show d _ _ hi hij hj
 let t0:∀{a':Array sZ}{h:Nat},Tl lt a' h 0:=λ{a' h} i j h1 h2 h3 h4=>by
  have:i=j:=();subst this;show C.refl _
 let dl:∀(n:Nat)(a':Array sZ),Cg l (l+m) a a'->1<=n->n<=m->Dn lt a' l (l+n)->wpS M A E s (do
   rule "list.sort.descending-run"
   let mut n:=n
   let mut q:=0
   for _ in [n:m] do
    let gh z <-ltAt' (l+n) (l+n-1)|return gf
    if z then
     if q>0 then reverseSlice' (l+n-(q+1)) (l+n)
     q:=0
    else
     let gh z <-ltAt' (l+n-1) (l+n)|return gf
     if z then break
     q:=q+1
    n:=n+1
   if q>0 then reverseSlice' (l+n-(q+1)) (l+n)
   reverseSlice' l (l+n)
   for _ in [n:m] do
    let gh z <-ltAt' (l+n) (l+n-1)|return gf
    if z then break
    n:=n+1
   return gh n) Q (sa st a'):=by
  intro n a1 cg n1 nm d;dsimp only;show aI\lK (aI\fN (fu (β:=Option (Option Nat)×Nat×Nat) (I:=λt x st'=>x.1=gf/\x.2.1=t/\n<=t/\t<=m/\x.2.2<t/\∃a',st'=sa st a'/\Cg l (l+m) a a'/\Dn lt a' l (l+t)/\Tl lt a' (l+t) x.2.2)
   (Q:=λx st'=>x.1=gf/\n<=x.2.1/\x.2.1<=m/\x.2.2<x.2.1/\∃a',st'=sa st a'/\Cg l (l+m) a a'/\Dn lt a' l (l+x.2.1)/\Tl lt a' (l+x.2.1) x.2.2) ?_ ?_ #[5,ar _,nm,n1,a1,1,cg,d,t0]) ?_)
  .rintro t ⟨r,n',q'⟩ st' _ ht ⟨e1,e2,e3,e4,e5,a',rfl,cg',d',tl⟩;let e2:n'=t:=e2;subst e2;let e5:q'<n':=e5;let hz:=cg'.size;dsimp only at tl |-;show aI\og C hk (hN.perm cg'.pm) () () ?_;dsimp only;cases hc:lt (G a' (l+n')) (G a' (l+n'-1)) with
   |true=>
    show dw rfl ?_;by_cases hq:q'>0
    .rw[Sh hq,xK];show aI\jX (bj #[5,(),(),by change 0<n' + 1;lia,2,cg'.trans\(rY ()).mono () (),?_,t0]);show oz C (rt cg' () e5 d' tl) () ?_;rw[gZ (by change l+n'<=a'.size;lia),gZ (by change l+n'<=a'.size;lia),Sh (),Sg ()];show C.tr _ (G a' (l+n'-1)) _ (C.asym>>hc)\d' _ _ () () ()
    show cP hq ?_;show bj #[5,(),(),by change 0<n' + 1;lia,a',1,cg',oz C d' () (C.asym>>hc),t0]
   |false=>
    show cP ⋯ ?_;show aI\og C hk (hN.perm cg'.pm) () () ?_;dsimp only;cases hc2:lt (G a' (l+n'-1)) (G a' (l+n')) with
    |true=>
     show dw rfl ?_;show bj #[1,e3,e4,e5,a',1,cg',d',tl]
    |false=>
     show cP ⋯ ?_;show bj #[5,(),(),by change q' + 1<n' + 1;lia,a',1,cg',oz C d' () hc2,λi j b1 b2 b3 b4=>?_];let b1:l+(n' + 1)<=i+(q' + 1+1):=b1;let b3:l+(n' + 1)<=j+(q' + 1+1):=b3;by_cases ei:i=l+n'
     .by_cases ej:j=l+n'
      .subst ei;subst ej;show C.refl _
      subst ei;show C.tr _ (G a' (l+n'-1)) _ (tl _ _ () () () ()) hc
     by_cases ej:j=l+n'
     .subst ej;show C.tr _ (G a' (l+n'-1)) _ hc2\tl _ _ () () () ()
     show tl _ _ () () () ()
  .rintro⟨r,n',q'⟩ st' ⟨e1,e2,e3,e4,e5,a',rfl,cg',d',tl⟩;let e2:n'=max n m:=e2;have:n'=m:=();subst this;rw[show max n n'=n' by lia] at d' tl e5 e3;erw[e1,e3,ar _,e5,a',1,cg',d',tl]
  rintro⟨r,n',q'⟩ st' ⟨e1,e3,e4,e5,a',rfl,cg',d',tl⟩;cases e1;dsimp only at e3 e4 e5 d' tl |-;let hz:=cg'.size;by_cases hq:q'>0;rw[Sh hq,xK];show aI\jX ?_;let cg2:=cg'.trans\(rY (i:=l+n'-(q' + 1)) (j:=l+n') (p:=a') ()).mono (show l<=_ by lia) (show _<=l+m by lia);let d2:=rt cg' e4 e5 d' tl;change wpS _ _ _ _ _ _\sa st (mirror a' (l+n'-(q' + 1)) (l+n') ((l+n'-(l+n'-(q' + 1)))/2));generalize mirror a' (l+n'-(q' + 1)) (l+n') ((l+n'-(l+n'-(q' + 1)))/2)=a2 at cg2 d2 |-
  rotate_left
  show cP hq ?_;let cg2:=cg';let d2:=d';generalize a'=a2 at cg2 d2 |-
  all_goals
   let hz2:=cg2.size;rw[xK];show aI\jX ?_;let cg3:=cg2.trans\(rY (i:=l) (j:=l+n') (p:=a2) ()).mono (ar _) (show _<=l+m by lia);show aI (asc n' _ _ cg3 () e4 (rv cg2 e4 d2) λn'' b1 b2 b3 b4=>?_);show bj\q n'' _ cg3 () b2 b3
 rw[countRun'_eq];dsimp only;show aI (asc 1 a _ (Cg.refl _ _ _) (ar _) h1 (Jo C) λn b1 b2 b3 b4=>?_);dsimp only;by_cases c1:(n==m)=gm
 .exact dw c1\bj (q n a (Cg.refl _ _ _) b1 b2 b3)
 show cP c1 ?_;let c1:n≠m:=‹c1›
 let hl:=b4 ();by_cases c2:n>1
 .refine dw c2 ?_;show aI\og C hk hN () () ?_;dsimp only;cases hc:lt (G a l) (G a (l+n-1)) with
  |true=>rw[Sh rfl];show bj\q n a (Cg.refl _ _ _) b1 b2 b3
  |false=>
   rw[Sg ⋯,xK];show aI\jX ?_;let cg:=(rY (i:=l) (j:=l+n) (p:=a) ()).mono (ar _) (show l+n<=l+m by lia);change wpS _ _ _ _ _ _\sa st (mirror a l (l+n) ((l+n-l)/2));show dl (n+1) _ cg () ()\oz C (λi j hi hij hj=>?_) () ?_
   .rw[gZ (),gZ (),Sh (),Sh ()];show b3 _ _ () () ()
   rw[gZ (),gZ (),Sh (),Sg (),show l+(l+n)-1-(l+n-1)=l by lia];show C.tr _ (G a (l+n-1)) _ (C.asym>>hl) hc
 show cP c2 ?_;have:n=1:=();subst this;show dl 2 a (Cg.refl _ _ _) () ()\oz C (λi j hi hij hj=>?_) (ar _) (C.asym>>hl);have:i=j:=();subst this;show C.refl _
end
section
variable {M:Model}{κ:u6}{N:sZ->Prop}{lt:sZ->sZ->Bool}
def wg{p:Array sZ}{k z:Nat}(a:k<p.size)(b:z<=k)(i:Nat):G (bubble p k (k-z)) i=if i=z then G p k else if z<i/\i<=k then G p (i-1) else G p i:=by
 let h:=getElem?_bubble (xs:=p) (src:=k) a (k-z) () i;let e:k-(k-z)=z:=();rw[e] at h
 repeat' split at h
 .rename_i c;rw[Sh c];show kK h
 .rename_i c c2;rw[Sg c,Sh c2];show kK h
 rename_i c c2;rw[Sg c,Sg c2];show kK h
def KY(C:Cmp M A E s κ N lt){st:tD}{l n o:Nat}{Q:Bool->tD->Prop}(H:kindOf st=κ)(K:Nm N a)(h1:1<=o)(h2:o<=n)(S:l+n<=a.size)(sg:Seg lt a l (l+o))
  (q:∀b,Cg l (l+n) a b->Seg lt b l (l+n)->Q gm\sa st b):wpS M A E s (binarySort' l n o) Q (sa st a):=by
 rw[binarySort'_eq];dsimp only;show aI (fN (fu (I:=λk x c=>x.1=gf/\1<=k/\k<=n/\∃b,c=sa st b/\Cg l (l+n) a b/\Seg lt b l (l+k)) (Q:=λx c=>x.1=gf/\∃b,c=sa st b/\Cg l (l+n) a b/\Seg lt b l (l+n)) ?step ?fin #[1,(),(),a,1,Cg.refl _ _ _,by rw[show max o 1=o by lia];show sg]) ?post)
 case fin=>
  rintro⟨r,u⟩ c ⟨e,L,O,b,rfl,p,f⟩;rw[show max (max o 1) n=n by lia] at f;erw[e,b,1,p,f]
 case post=>
  rintro⟨r,u⟩ c ⟨e,b,rfl,p,f⟩;cases e;show bj\q b p f
 case step=>
  rintro k ⟨r,u⟩ c _ T ⟨e,L,O,b,rfl,p,f⟩;let hz:=p.size;show aI (fN (fu (β:=Option Bool×Nat×Nat) (I:=λt x c=>c=sa st b/\x.1=gf/\x.2.1<=x.2.2/\x.2.2<=k/\x.2.2-x.2.1<=k-t/\(∀i,i<x.2.1->lt (G b (l+k)) (G b (l+i))=hB)/\(∀i,x.2.2<=i->i<k->lt (G b (l+i)) (G b (l+k))=hB))
   (Q:=λx c=>c=sa st b/\x.1=gf/\x.2.1<=k/\(∀i,i<x.2.1->lt (G b (l+k)) (G b (l+i))=hB)/\(∀i,x.2.1<=i->i<k->lt (G b (l+i)) (G b (l+k))=hB)) ?s8 ?f8 #[5,aZ _,ar _,ar _,λi hi=>absurd hi\Pz _,λi hi B=>absurd hi\Nat.not_le_of_lt B]) ?p8)
  case f8=>
   rintro⟨r,u,w⟩ c ⟨rfl,e,y,d,v,g,h⟩;let y:u<=w:=y;let v:w-u<=k-max 0 k:=v;have:u=w:=();subst this;erw[1,e,d,g,h]
  case s8=>
   rintro t ⟨r,u,w⟩ c _ U ⟨rfl,e,y,d,v,g,h⟩;let y:u<=w:=y;let d:w<=k:=d;let v:w-u<=k-t:=v;dsimp only at g h |-;by_cases c1:u ≥ w
   .refine dw c1 ?_;have:u=w:=();subst this;show bj #[5,d,g,h]
   show cP c1 ?_;let#[m1,m2]:=half c1;generalize (u+w)/2=m at m1 m2 |-;show aI\og C H (K.perm p.pm) () () ?_;dsimp only;cases D:lt (G b (l+k)) (G b (l+m)) with
   |true=>
    show dw rfl ?_;show bj #[5,m1,nj\bW m2 d,fewer v m2 m1,g,λi hi P=>?_];show C.asym _ _\C.ltle D (f _ _ (pA _ _) (xr hi l)\Pt P l)
   |false=>
    show cP ⋯ ?_;show bj #[5,m2,d,fewer' v m2 m1,λi hi=>?_,h];show C.tr _ _ _ (f _ _ (pA _ _) (xr (Pu hi) l)\Pt (bW m2 d) l) D
  case p8=>
   rintro⟨r,u,w⟩ c ⟨rfl,e,d,g,h⟩;cases e;let d:u<=k:=d;dsimp only at g h |-;rw[moveDown'_eq];show aI\jX (bj #[1,(),(),bubble b (l+k) (l+k-(l+u)),1,p.trans #[bubble_perm _ _ _,λi hi=>?_],λi j hi X B=>?_])
   .rw[wg () (),Sg (),Sg ()]
   rw[wg () (),wg () ()]
   repeat' split
   .exact C.refl _
   all_goals first
    |lia
    |show f _ _ () () ()
    |(let z:=h (j-1-l) () ();rw[show l+(j-1-l)=j-1 by lia] at z;show (by
      rename_i h1 h2 Y;cases R:lt (G b (j-1)) (G b (l+k)) with
      |false=>rfl
      |true=>rw[R] at z;cases z))
    |(let z:=g (i-l) ();rw[show l+(i-l)=i by lia] at z;show z)
end
def Cj(p:Nat):∀(l:-sZ)(n:Nat)(a:Array sZ),p+n+↑l<=a.size->
  ((l.zipIdx n).foldl (λa (z:sZ×Nat)=>a.setIfInBounds (p+z.2) z.1) a).size=a.size/\∀m:Nat,((l.zipIdx n).foldl (λa (z:sZ×Nat)=>a.setIfInBounds (p+z.2) z.1) a)[m]?=if p+n<=m/\m<p+n+↑l then l[m-(p+n)]? else a[m]?
 | [],n,a,h=>#[1,λm=>by rw[Sg (by simp only[jb];lia)];rfl]
 |x::l,n,a,h=>by
  rw[ck] at h;let#[h1,h2]:=Cj p l (n+1) (a.setIfInBounds (p+n) x) (by rw[OT];lia);rw[List.zipIdx_cons,C4];erw[h1<*OT,λm=>?_];rw[h2 m,ck,Array.getElem?_setIfInBounds];by_cases c:m=p+n
  .subst c;rw[Sg (),Sh rfl,Sh (),Sh (),Dg];rfl
  by_cases c2:p+(n+1)<=m/\m<p+(n+1)+↑l
  .rw[Sh c2,Sh (),show m-(p+n)=m-(p+(n+1))+1 by lia];rfl
  rw[Sg c2,Sg λz=>c z.symm,Sg ()]
def tQ{a:Array sZ}{k:Nat}{x:sZ}(h:a[k]?*>x):G a k=x:=by
 let e:G a k=(a[k]?).getD (Value.none,Value.none):=by simp[G]
 rw[e,h];rfl
def sf{a:Array sZ}{p q k:Nat}(h:p+k<q)(b:q<=a.size):G (a.extract p q) k=G a (p+k):=by apply kK;rw[Array.getElem?_extract,Sh ()]
def Ic{a:Array sZ}{p q r:Nat}(h1:p<=q)(h2:q<=r)(d:r<=a.size):a.toList=a.toList.take p++((a.extract p q).toList++(a.extract q r).toList)++a.toList.drop r:=by
 rw[wO,wO,w5,w5];let b:(a.toList.drop p).take (q-p)++(a.toList.drop q).take (r-q)=(a.toList.drop p).take (r-p):=by rw[show r-p=(q-p)+(r-q) by lia,List.take_add,O_,show p+(q-p)=q by lia]
 rw[b,gz];let c:(a.toList.drop p).take (r-p)++a.toList.drop r=a.toList.drop p:=by
  conv=>rhs;rw[<-gD (r-p)\a.toList.drop p]
  rw[O_,show p+(r-p)=r by lia]
 rw[c,gD]
section
variable {M:Model}{κ:u6}{N:sZ->Prop}{lt:sZ->sZ->Bool}
def y_{α:Type}(u v w:α)(l2:List α):∀l1:List α,((l1++u::w::l2).set ↑l1 v).eraseIdx (↑l1+1)=l1++v::l2
 | []=>rfl
 |x::l1=>by
  change x::((l1++u::w::l2).set ↑l1 v).eraseIdx (↑l1+1)=_;rw[y_ u v w l2 l1];rfl
def lJ{a:Array sZ}{i j:Nat}(h:j<=a.size):(a.extract i j).size=j-i:=by rw[Array.size_extract,xx h]
def CG{a:Array sZ}{x:sZ}(h:x∈a.toList):∃k,k<a.size/\G a k=x:=by let#[k,b]:=eZ.mp h;rw[jM] at b;erw[k,(gv.mp b).1,tQ b]
def Ht(C:Cmp M A E s κ N lt){a r:Array sZ}{p p1 q b z:Nat}(h1:p<=p1)(h2:p1<=q)(K:q+b<=z)(L:z<=a.size)(g:Good lt (a.extract p1 q) (a.extract q (q+b)) r)
  (s1:Seg lt a p q) (s2:Seg lt a q z) (lo:∀k,p<=k->k<p1->∀j,q<=j->j<z->lt (G a j) (G a k)=hB) (hi:∀j,q+b<=j->j<z->∀k,p<=k->k<q->lt (G a j) (G a k)=hB) :
  Cg p z a (r.toList.zipIdx.foldl (λa (z:sZ×Nat)=>a.setIfInBounds (p1+z.2) z.1) a)/\Seg lt (r.toList.zipIdx.foldl (λa (z:sZ×Nat)=>a.setIfInBounds (p1+z.2) z.1) a) p z:=by
 let u:q+b<=a.size:=cQ K L;let v:q<=a.size:=cQ (pA q b) u;let f:↑(a.toList.take p1)=p1:=by rw[bz,gw,xx\cQ h2 v]
 let len:r.toList.length=q-p1+b:=by rw[g.1.length_eq,bo,gw,gw,lJ v,lJ u,Dc]
 let#[O,d]:=Cj p1 r.toList 0 a ();generalize (r.toList.zipIdx.foldl (λa (z:sZ×Nat)=>a.setIfInBounds (p1+z.2) z.1) a)=l at O d |-;rw[len] at d;simp only[Dd] at d;let out:∀k,k<p1\/q+b<=k->G l k=G a k:=λk P=>kK (by rw[d k,Sg ()]);let inn:∀k,p1<=k->k<q+b->∃c,p1<=c/\c<q+b/\G l k=G a c:=λk U X=>by
  let e:=d k;rw[Sh ()] at e;let Q:k-p1<r.toList.length:=();rw[aR Q] at e;let e:=tQ e;let mem:r.toList[k-p1]∈r.toList:=ja _;rcases a9.mp (g.1.mem_iff.mp mem) with h|h
  .let#[c,c1,c2]:=CG h;rw[lJ v] at c1;erw[p1+c,(),(),by rw[e,<-c2,sf () ()]]
  let#[c,c1,c2]:=CG h;rw[lJ u,Dc] at c1;erw[q+c,(),(),by rw[e,<-c2,sf () ()]]
 let R:∀i j,p1<=i->i<=j->j<q+b->lt (G l j) (G l i)=hB:=λi j i1 Y Z=>by
  let w:=d i;let x:=d j;rw[Sh ()] at w x;let li:i-p1<r.toList.length:=();let H:j-p1<r.toList.length:=();rw[aR li] at w;rw[aR H] at x;rw[tQ w,tQ x];by_cases e:i=j
  .subst e;show C.refl _
  show xp.mp g.2 (i-p1) (j-p1) li H ()
 erw[#[?_,λk P=>out k ()],λi j o I y=>?_]
 .rw[OR];let e:l.toList=a.toList.take p1++r.toList++a.toList.drop (q+b):=by
   apply w4;intro m;rw[jM,d m];by_cases c1:m<p1
   .rw[Sg (),gz,eA (by rw[f];show c1),ud c1,jM]
   by_cases c2:m<q+b
   .rw[Sh (),gz,h_ (by rw[f];lia),eA (by rw[f];lia),f]
   rw[Sg (),h_ (by rw[bo,f];lia),w_,jM,bo,f]
   congr 1
   lia
  rw[e];show ((g.1.append_left _).append_right _).trans\wX (Ic (a:=a) h2 (pA q b) ()).symm
 by_cases ci:i<p1
 .rw[out i\.l ci];by_cases B:j<p1
  .rw[out j\.l B];show s1 i j o I ()
  let n:∀c,p1<=c->c<z->lt (G a c) (G a i)=hB:=λc c1 c2=>by
   by_cases D:c<q
   .exact s1 i c o () D
   show lo i o ci c () c2
  by_cases S:j<q+b
  .let#[c,c1,c2,e]:=inn j () S;rw[e];show n c c1 ()
  rw[out j\.o ()];show n j () y
 by_cases B:j<q+b
 .exact R i j () I B
 rw[out j\.o ()];let n:∀c,p<=c->c<j->lt (G a j) (G a c)=hB:=λc c1 c2=>by
  by_cases D:c<q
  .exact hi j () y c c1 D
  show s2 c j () () y
 by_cases T:i<q+b
 .let#[c,c1,c2,e]:=inn i () T;rw[e];show n c () ()
 rw[out i\.o ()];by_cases e:i=j
 .subst e;show C.refl _
 show n i o ()
def KR{st a:tD}{Q:PUnit->tD->Prop}(h:Q #[] a):wpS M A E s (set a:SM PUnit) Q st:=by unfold wpS;rw[StateT.run_set];show ai #[1,h]
def KW(C:Cmp M A E s κ N lt){st:tD}{i p m e q n e':Nat}{l1 l2:-(Nat×Nat×Nat)}{Q:Bool->tD->Prop}(hk:kindOf st=κ)(hf:u5 st=gf)(hN:Nm N a)(hp:(tf st).toList=l1++(p,m,e)::(q,n,e')::l2)(hi:↑l1=i)
  (hq:q=p+m) (hm:1<=m) (hn:1<=n) (hs:q+n<=a.size) (s1:Seg lt a p q) (s2:Seg lt a q (q+n))
  (h:∀(a':Array sZ)(st':tD),PyProof.Rows.kindOf st'=κ->u5 st'=gf->u4 st'=a'->(tf st').toList=l1++(p,m+n,e)::l2->Cg p (q+n) a a'->Seg lt a' p (q+n)->Q gm st'):wpS M A E s (mergeAt' i) Q (sa st a):=by
 let e1:(tf st)[i]?*>(p,m,e):=by rw[<-jM,hp,<-hi];simp
 let e2:(tf st)[i+1]?*>(q,n,e'):=by rw[<-jM,hp,<-hi];simp
 let e3:(((tf st).setIfInBounds i (p,m+n,e)).eraseIdxIfInBounds (i+1)).toList=l1++(p,m+n,e)::l2:=by rw[Array.toList_eraseIdxIfInBounds,Array.toList_setIfInBounds,hp,<-hi];show y_ _ _ _ _ _
 let eqt:∀{a b:Nat},(a==b)=gm->a=b:=λh=>‹h›
 let eqf:∀{a b:Nat},¬(a==b)=gm->a≠b:=λh=>‹h›
 rw[Mh];show aI\jh ?_;change wpS _ _ _ _ (match ((tf st)[i]?,(tf st)[i+1]?) with|(gh (p,m,e),gh (q,n,_))=>_|_=>_) _ _;rw[e1,e2];dsimp only;show aI\KR ?_;let tl:∀{o:Nat},bv lt hB (G a q) a p o=gm->lt (G a q) (G a (p+o))=hB:=λh=>by simpa [bv] using h
 let fl:∀{o:Nat},bv lt hB (G a q) a p o=hB->lt (G a q) (G a (p+o))=gm:=λh=>by simpa [bv] using h
 show aI\jo (show q<a.size by lia) (aI (lY (bv lt hB (G a q) a p) (λo ho Q' q'=>lZ C (λ_ z=>hN.at z) (hN.at ()) (show p+o<a.size by lia) hk q') (λo o' ho hp' hb'=>?_) () λk hk1 hk2 hk3=>?_))
 .cases hc:lt (G a q) (G a (p+o)) with
  |false=>change (!lt _ _)=gm;rw[hc];rfl
  |true=>have:=C.ltle hc\s1 (p+o) (p+o') () () ();rw[tl hb'] at this;cases this
 dsimp only;let seg:(∀i,p<=i->i<q->∀j,q<=j->j<q+n->lt (G a j) (G a i)=hB)->Seg lt a p (q+n):=λhh i j h1 h2 h3=>by
  by_cases c:j<q
  .exact s1 i j h1 h2 c
  by_cases c2:i<q
  .exact hh i h1 c2 j () h3
  show s2 i j () h2 h3
 let low:∀i,p<=i->i<p+k->∀j,q<=j->j<q+n->lt (G a j) (G a i)=hB:=λi h1 h2 j h3 h4=>by
  let z:=tl\hk2 (i-p) ();rw[show p+(i-p)=i by lia] at z;show C.tr _ _ _ z\s2 q j (ar _) h3 h4
 by_cases c1:(m-k==0)=gm
 .refine dw c1 ?_;let c1:=eqt c1;show bj\h a _ hk hf rfl e3 (Cg.refl _ _ _) (seg λi h1 h2=>low i h1 ())
 show cP c1 ?_;let c1:=eqf c1;rw[show p+k+(m-k)-1=q-1 by lia];show aI\jo (show q-1<a.size by lia) (aI (lY (bv lt gm (G a (q-1)) a q) (λo ho Q' q'=>lZ C (λ_ z=>hN.at z) (hN.at ()) (show q+o<a.size by lia) hk q') (λo o' ho hp' hb'=>C.lelt (s2 _ _ () () ()) hb') () λn1 hn1 hn2 hn3=>?_));dsimp only;let hig:∀j,q+n1<=j->j<q+n->∀i,p<=i->i<q->lt (G a j) (G a i)=hB:=λj h1 h2 i h3 h4=>by
  let z:=hn3 (j-q) () ();let z:lt (G a (q+(j-q))) (G a (q-1))=hB:=z;rw[show q+(j-q)=j by lia] at z;show C.tr _ _ _ (s1 i (q-1) h3 () ()) z
 by_cases c2:(n1==0)=gm
 .refine dw c2 ?_;let c2:=eqt c2;show bj\h a _ hk hf rfl e3 (Cg.refl _ _ _) (seg λi h1 h2 j h3 h4=>hig j () h4 i h1 h2)
 show cP c2 ?_;let c2:=eqf c2;let zx:(a.extract (p+k) q).size=q-(p+k):=lJ ();let zy:(a.extract q (q+n1)).size=n1:=by rw[lJ (),Dc]
 let gx:∀i,i<(a.extract (p+k) q).size->G (a.extract (p+k) q) i=G a (p+k+i):=λi hi=>sf () ();let gy:∀i,i<(a.extract q (q+n1)).size->G (a.extract q (q+n1)) i=G a (q+i):=λi hi=>sf () ();let hx:Asc lt (a.extract (p+k) q):=λi j hij hj=>by rw[gx i (),gx j hj];show s1 _ _ () () ()
 let hy:Asc lt (a.extract q (q+n1)):=λi j hij hj=>by rw[gy i (),gy j hj];show s2 _ _ () () ()
 let Nx:∀i,i<(a.extract (p+k) q).size->N (G (a.extract (p+k) q) i):=λi hi=>by rw[gx i hi];show hN.at ()
 let Ny:∀i,i<(a.extract q (q+n1)).size->N (G (a.extract q (q+n1)) i):=λi hi=>by rw[gy i hi];show hN.at ()
 let hb:lt (G (a.extract q (q+n1)) 0) (G (a.extract (p+k) q) 0)=gm:=by rw[gx 0 (),gy 0 ()];show fl\hk3 k (ar _) ()
 let hl:∀j,j<(a.extract q (q+n1)).size->lt (G (a.extract q (q+n1)) j) (G (a.extract (p+k) q) ((a.extract (p+k) q).size-1))=gm:=λj hj=>by
  rw[gx _ (),gy j hj,zx,show p+k+(q-(p+k)-1)=q-1 by lia];show hn2 j ()
 let fin:∀(r:Array sZ)(st2:tD),Fr (SortSt.mk' (kindOf st) a (((tf st).setIfInBounds i (p,m+n,e)).eraseIdxIfInBounds (i+1)) (gallopOf st)\u5 st) st2->Good lt (a.extract (p+k) q) (a.extract q (q+n1)) r->
   wpS M A E s (do
    modify λs=>setArr s (r.toList.zipIdx.foldl (λa (z,j)=>a.setIfInBounds (p+k+j) z)\u4 s)
    return (u5 (<-get)).isNone) Q st2:=λr st2 f g=>by
  let#[f1,f2,f3,f4]:=f;let f2:u4 st2=a:=f2;show aI\jX (aI\jh ?_);let#[b1,b2]:=Ht C (p:=p) (z:=q+n) () () () hs g s1 s2 low hig;let fn:u5 st2=gf:=f4<*hf;let e9:(u5\setArr st2 (r.toList.zipIdx.foldl (λa (z:sZ×Nat)=>a.setIfInBounds (p+k+z.2) z.1)\u4 st2)).isNone=gm:=by change (u5 st2).isNone=gm;rw[fn];rfl
  change wpS _ _ _ _ (pure (u5\setArr st2 (r.toList.zipIdx.foldl (λa (z:sZ×Nat)=>a.setIfInBounds (p+k+z.2) z.1)\u4 st2)).isNone) _\setArr st2 (r.toList.zipIdx.foldl (λa (z:sZ×Nat)=>a.setIfInBounds (p+k+z.2) z.1)\u4 st2);rw[e9];show bj\h _ _ (f1<*hk) fn rfl ?_ ?_ ?_
  .exact (congrArg Array.toList f3).trans e3
  .rw[f2];show b1
  rw[f2];show b2
 by_cases c3:m-k<=n1
 .refine dw c3 ?_;show aI (KS C hk Nx Ny hx hy (show 0<(a.extract (p+k) q).size by lia) (show 0<(a.extract q (q+n1)).size by lia) hb hl λr st2 f g=>fin r st2 f g)
 show cP c3 ?_;show aI (KU C hk Nx Ny hx hy (show 0<(a.extract (p+k) q).size by lia) (show 0<(a.extract q (q+n1)).size by lia) hb hl λr st2 f g=>fin r st2 f g)
end
def Runs(lt:sZ->sZ->Bool)(a:Array sZ):-(Nat×Nat×Nat)->Nat->Nat->Prop
 | [],b,e=>b=e
 |x::l,b,e=>x.1=b/\1<=x.2.1/\Seg lt a b (b+x.2.1)/\Runs lt a l (b+x.2.1) e
section
variable {M:Model}{κ:u6}{N:sZ->Prop}{lt:sZ->sZ->Bool}
def Runs.len:∀{l:-(Nat×Nat×Nat)}{b e:Nat},Runs lt a l b e->b+↑l<=e
 | [],_,_,h=>xt h
 |x::l,b,e,h=>by
  have:=Runs.len h.2.2.2;have:=h.2.1;rw[ck];lia
def Seg.congr{b e:Nat}(h:∀k,b<=k->k<e->G c k=G a k)(r:Seg lt a b e):Seg lt c b e:=λi j h1 h2 d=>by
 rw[h i h1 (),h j () d];show r i j h1 h2 d
def Runs.congr:∀{l:-(Nat×Nat×Nat)}{b e:Nat},(∀k,b<=k->k<e->G c k=G a k)->Runs lt a l b e->Runs lt c l b e
 | [],_,_,_,r=>r
 |x::l,b,e,h,r=>by
  have:=Runs.len r.2.2.2;erw[r.1,r.2.1,r.2.2.1.congr λk h1 h2=>h k h1 (),Runs.congr (λk h1 h2=>h k () h2) r.2.2.2]
def Runs.app{l2:-(Nat×Nat×Nat)}:∀{l1:-(Nat×Nat×Nat)}{b e:Nat},Runs lt a (l1++l2) b e↔∃m,Runs lt a l1 b m/\Runs lt a l2 m e
 | [],b,e=>#[λh=>#[b,1,h],λ⟨m,h1,h2⟩=>by cases h1;show h2]
 |x::l1,b,e=>by
  constructor
  .rintro⟨h1,h2,c,d⟩;let#[m,f,g]:=Runs.app.mp d;erw[m,#[h1,h2,c,f],g]
  rintro⟨m,⟨h1,h2,c,d⟩,f⟩;erw[h1,h2,c,Runs.app.mpr #[m,d,f]]
structure RS(κ:u6)(N:sZ->Prop)(lt:sZ->sZ->Bool)(a0:Array sZ)(lo:Nat)(st:tD):Prop where
 k:PyProof.Rows.kindOf st=κ
 f:u5 st=gf
 pm:(u4 st).Perm a0
 r:Runs lt (u4 st) (tf st).toList 0 lo
def Bw(C:Cmp M A E s κ N lt){lo i:Nat}{st:tD}{Q:Bool->tD->Prop}(D:Nm N d)(R:RS κ N lt d lo st)(P:lo<=d.size)(hi:i+1<(tf st).size)
  (q:∀a,RS κ N lt d lo a->(tf a).size+1=(tf st).size->(∀k,lo<=k->G (u4 a) k=G (u4 st) k)->Q gm a):wpS M A E s (mergeAt' i) Q st:=by
 let hz:=R.pm.size_eq;let H:Nm N (u4 st):=D.perm R.pm;let#[l1,x,y,l2,e,I]:∃l1 x y l2,(tf st).toList=l1++x::y::l2/\↑l1=i:=by
  let h1:i<(tf st).toList.length:=by rw[gw];lia
  let h2:i+1<(tf st).toList.length:=by rw[gw];lia
  erw[(tf st).toList.take i,(tf st).toList[i],(tf st).toList[i+1],(tf st).toList.drop (i+1+1),?_,by rw[bz];lia];rw[<-i_ h2,<-i_ h1,gD]
 let#[#[p,m,w],#[K,n,S],r]:=#[x,y,R.r];rw[e] at r;let#[b,h,h1,h2,j,c,l,o,g]:=Runs.app.mp r;let h1:p=b:=h1;subst h1;let c:K=p+m:=c;dsimp only at h2 j l o g;let le:=g.len;change wpS M A E s (mergeAt' i) Q\sa st (u4 st);show KW C R.k R.f H e I c h2 l () (by rw[c];show j) (by rw[c];show o) λu a k1 k2 k3 v k5 z=>q a #[k1,k2,by rw[k3];show k5.pm<*R.pm,?_] ?_ λk B=>by rw[k3];show k5.at_ k ()
 .rw[k3,v];let T:=h.len;show Runs.app.mpr #[p,h.congr λk _ B=>k5.at_ k (),1,by change 1<=m+n;lia,?_,?_]
  .change Seg lt u p (p+(m+n));rw[c,Pq] at z;show z
  change Runs lt u l2 (p+(m+n)) lo;rw[<-Pq];show g.congr λk B _=>k5.at_ k ()
 let L:=congrArg List.length e;let O:=congrArg List.length v;simp only[gw,bo,ck] at L O;lia
def Ac{w:Nat}:∀{l:-(Nat×Nat×Nat)}{i b e:Nat},Runs lt a l b e->Runs lt a (l.modify i λx=>(x.1,x.2.1,w)) b e
 | [],i,_,_,h=>by
  simpa using h
 |x::l,0,_,_,h=>h
 |x::l,i+1,_,_,h=>#[h.1,h.2.1,h.2.2.1,Ac h.2.2.2]
def wp_runs(C:Cmp M A E s κ N lt){st:tD}{Q:Unit->tD->Prop}(hN:Nm N a0)(hk:PyProof.Rows.kindOf st=κ)(hf:u5 st=gf)(ha:u4 st=a0)(hp:tf st=(tA []))(h2:2<=a0.size)
  (q:∀st',u5 st'=gf->(u4 st').Perm a0->Seg lt (u4 st') 0 a0.size->Q .unit st'):wpS M A E s sortRuns' Q st:=by
 rw[sortRuns'_eq];show aI\jh ?_;dsimp only;rw[ha];generalize minRun' a0.size a0.size 0=mr;let R0:RS κ N lt a0 0 st:=#[hk,hf,ha ▸ ON _,by rw[hp];show rfl];show aI (fN (fu (I:=λt x st'=>x.1=gf/\t<=x.2/\x.2<=a0.size/\RS κ N lt a0 x.2 st') (Q:=λx st'=>x.1=gf/\x.2=a0.size/\RS κ N lt a0 x.2 st') ?step ?fin #[1,ar _,aZ _,R0]) ?post)
 case fin=>
  rintro⟨r,lo⟩ st' ⟨e1,e2,e3,e4⟩;let e2:max 0 a0.size<=lo:=e2;let e3:lo<=a0.size:=e3;erw[e1,by change lo=_;lia,e4]
 case post=>
  rintro⟨r,lo⟩ st' ⟨e1,e2,R⟩;cases e1;let e2:lo=a0.size:=e2;subst e2;dsimp only at R |-;let l0:=R.r.len;rw[gw] at l0;show aI (fN (fu (I:=λt x st'=>x.1=gf/\RS κ N lt a0 a0.size st'/\((tf st').size+t<=a0.size\/(tf st').size<=1)) (Q:=λx st'=>x.1=gf/\RS κ N lt a0 a0.size st'/\(tf st').size<=1) ?s2 ?f2 #[1,R,.l ()]) ?p2)
  case f2=>
   rintro⟨r,u⟩ st' ⟨e1,R,e2⟩;erw[e1,R,()]
  case p2=>
   rintro⟨r,u⟩ st' ⟨e1,R,e2⟩;cases e1;show bj\q st' R.f R.pm ?_;let r:=R.r;let z:(tf st').toList.length<=1:=by rw[gw];show e2
   match hh:(tf st').toList,r,z with
   | [],r,_=>have:0=a0.size:=r;lia
   | [x],r,_=>
    let r3:=r.2.2.1;let e:0+x.2.1=a0.size:=r.2.2.2;rw[e] at r3;show r3
   |x::y::l,r,z=>simp only[ck] at z;lia
  case s2=>
   rintro t ⟨r,u⟩ st' _ ht ⟨e1,R,e2⟩;show aI\jh ?_;by_cases c:(tf st').size<=1
   .exact dw c\bj #[1,R,c]
   show cP c ?_;show aI (Bw C hN R (ar _) ?_ λst'' R' hz _=>bj #[1,R',()])
   repeat' split
   all_goals lia
 case step=>
  rintro t ⟨r,lo⟩ st' _ ht ⟨e1,e2,e3,R⟩;cases e1;dsimp only at e2 e3 R |-;by_cases c:lo ≥ a0.size
  .exact dw c\bj #[1,by change lo=_;lia,R]
  show cP c ?_;let hz:=R.pm.size_eq;change wpS M A E s _ _\sa st' (u4 st');show aI (Gf C R.k (hN.perm R.pm) () () λn a1 cg n1 n2 sg=>?_);dsimp only;let R1:RS κ N lt a0 lo (sa st' a1):=#[R.k,R.f,cg.pm<*R.pm,R.r.congr λk _ hk'=>cg.at_ k\.l hk'];let z1:=cg.size;by_cases c2:n<mr;show dw c2 ?_;show aI\lK (aI (KY C R.k (hN.perm R1.pm) (o:=n) n1 () () sg λa2 cg2 sg2=>?_));show cP ⋯ ?_;let R2:RS κ N lt a0 lo (sa st' a2):=#[R.k,R.f,cg2.pm<*R1.pm,R1.r.congr λk _ hk'=>cg2.at_ k\.l hk'];let n3:1<=min (a0.size-lo) mr:=();let n4:lo+min (a0.size-lo) mr<=a0.size:=();generalize min (a0.size-lo) mr=nn at sg2 n3 n4 |-
  rotate_left
  show cP c2 ?_;let#[sg2,R2,n3,n4]:=#[sg,R1,n1,(():lo+n<=a0.size)];clear n1 n2 sg c2;generalize n=nn at sg2 n3 n4 |-;generalize a1=a2 at sg2 R2 |-
  all_goals
   show aI\jh ?_;let last:∀st3,RS κ N lt a0 lo st3->Seg lt (u4 st3) lo (lo+nn)->wpS M A E s (do
     modify λs=>setPending s ((tf s).push (lo,nn,0))
     pure (ForInStep.yield ((gf:Option Unit),lo+nn))) (λ(r:ForInStep (Option Unit×Nat)) st'=>match r with | .done x=>x.1=gf/\x.2=a0.size/\RS κ N lt a0 x.2 st' | .yield x=>x.1=gf/\t+1<=x.2/\x.2<=a0.size/\RS κ N lt a0 x.2 st') st3:=λst3 R3 sg3=>by
    show aI\jX (bj #[1,by change t+1<=lo+nn;lia,n4,R3.k,R3.f,R3.pm,?_]);change Runs lt (u4 st3) ((tf st3).push (lo,nn,0)).toList 0 (lo+nn);rw[iE];show Runs.app.mpr #[lo,R3.r,1,n3,sg3,1]
   cases hb:(tf\sa st' a2).back? with
   |none=>show last _ R2 sg2
   |some y=>
    let#[s1,n5,w]:=y;dsimp only;generalize power' _ _ _ _=pw;show aI\fN (fu (I:=λ_ x st3=>x.1=gf/\RS κ N lt a0 lo st3/\Seg lt (u4 st3) lo (lo+nn)) (Q:=λx st3=>x.1=gf/\RS κ N lt a0 lo st3/\Seg lt (u4 st3) lo (lo+nn)) ?_ (λ_ _ z=>z) #[1,R2,sg2]) ?_
    .rintro t3 ⟨r,u⟩ st3 _ ht3 ⟨e1,R3,sg3⟩;show aI\jh ?_;by_cases c3:(tf st3).size>1
     .rw[Sh c3,CP (show (tf st3).size-2<(tf st3).size by lia)];dsimp only
      split
      .exact bj #[1,R3,sg3]
      show aI (Bw C hN R3 e3 () λst4 R4 _ k4=>bj #[1,R4,sg3.congr λk hk1 _=>k4 k hk1])
     rw[Sg c3];show bj #[1,R3,sg3]
    rintro⟨r,u⟩ st3 ⟨e1,R3,sg3⟩;cases e1;show aI\jX (last _ #[R3.k,R3.f,R3.pm,?_] sg3);change Runs lt (u4 st3) ((tf st3).modify _ _).toList 0 lo;rw[Array.toList_modify];show Ac R3.r
end
end TimS
section
namespace L2
open PySem PySem.Spec PyProof.Rows
abbrev Key:=Sum Int Str
def mG:Key->hK->Bool
 |.inl k,v=>Value.isInt k v
 |.inr x,v=>Value.isStrOf x v
def keyH(w:n7):Key->Int
 |.inl k=>hashInt k
 |.inr x=>hashStr w x
def gK:∀{k:Key}{v:hK},mG k v=gm->(∃i t,k=Sum.inl i/\v=Value.int i t)\/(∃x t,k=Sum.inr x/\v=Value.str x t)
 |.inl i,v,h=>by
  let#[t,e]:=Value.isInt_shape (k:=i) (v:=v) h;show .l #[i,t,1,e]
 |.inr x,v,h=>by
  let#[t,e]:=Value.isStrOf_shape (x:=x) (v:=v) h;show .o #[x,t,1,e]
def FU(i:Int)(t:Tok):mG (.l i) (.i i t)=gm:=by simp[mG,Value.isInt]
def FT(x:Str)(t:Tok):mG (.o x) (.s x t)=gm:=by simp[mG,Value.isStrOf]
def Mo(a b:Int):decide ((Sum.inl a:Key)=Sum.inl b)=(a==b):=by
 by_cases e:a=b
 .subst e;simp
 let h:¬(Sum.inl a:Key)=Sum.inl b:=λq=>e\pL q;rw[Sj h];show (beq_eq_false_iff_ne.mpr e).symm
def Ml(a b:Str):decide ((Sum.inr a:Key)=Sum.inr b)=decide (a=b):=by
 by_cases e:a=b
 .subst e;simp
 let h:¬(Sum.inr a:Key)=Sum.inr b:=λq=>e\Sum.inr.inj q;rw[Sj h,Sj e]
def Mn(a:Int)(b:Str):decide ((Sum.inl a:Key)=Sum.inr b)=hB:=Sj (λq=>nomatch q)
def Mm(a:Str)(b:Int):decide ((Sum.inr a:Key)=Sum.inl b)=hB:=Sj (λq=>nomatch q)
def dB(prog:lu)(w:n7):PySem.KeyKind prog w Key where
 is:=mG
 hash:=keyH w
 inj:=λv a b ha f=>by
  rcases gK ha with ⟨i,t,rfl,rfl⟩|⟨x,t,rfl,rfl⟩
  .rcases gK f with ⟨j,u,rfl,e⟩|⟨y,u,rfl,e⟩
   .injection e with c _;rw[c]
   show nomatch e
  rcases gK f with ⟨j,u,rfl,e⟩|⟨y,u,rfl,e⟩
  .exact nomatch e
  injection e with c _;rw[c]
 byValue:=λk v h=>by
  rcases gK h with ⟨i,t,rfl,rfl⟩|⟨x,t,rfl,rfl⟩<;>rfl
 pyHash:=λd h=>by
  rcases gK d with ⟨i,t,rfl,rfl⟩|⟨x,t,rfl,rfl⟩
  .exact wpAny_pyHash_int h
  show wpAny_pyHash_str h
 eqBool:=λg d h=>by
  rcases gK g with ⟨i,t,rfl,rfl⟩|⟨x,t,rfl,rfl⟩
  .rcases gK d with ⟨j,u,rfl,rfl⟩|⟨y,u,rfl,rfl⟩
   .rw[Mo] at h;show DI h
   rw[Mn] at h;show Qo i t y u _ _ _ _ h
  rcases gK d with ⟨j,u,rfl,rfl⟩|⟨y,u,rfl,rfl⟩
  .rw[Mm] at h;show Qp x t j u _ _ _ _ h
  rw[Ml] at h;show wpAny_eqBool_str h
 «strs»:=λk x t v h=>by
  rcases gK h with ⟨i,u,rfl,e⟩|⟨y,u,rfl,e⟩
  .exact nomatch e
  injection e with c _;subst c;cases v<;>rfl
def Es(prog:lu)(w:n7)(i:Int)(t:Tok):(dB prog w).is (.l i) (.i i t)=gm:=FU i t
def Er(prog:lu)(w:n7)(x:Str)(t:Tok):(dB prog w).is (.o x) (.s x t)=gm:=FT x t
end L2
namespace L2
open PySem PySem.Spec PyProof.Rows
inductive V where
 |non|bl (b:Bool)|int (i:Int)|str (x:Str)|byt (b:Array UInt8)|flt (b:UInt64)|ref (a:i4)|ty (n:String)
 deriving DecidableEq
def aC:V->hK->Prop
 |.non,u=>u=Value.none
 |.bl b,u=>u=Value.bool b
 |.int i,u=>∃t,u=Value.int i t
 |.str x,u=>∃t,u=Value.str x t
 |.byt b,u=>∃t,u=Value.bytes b t
 |.flt b,u=>∃t,u=Value.float b t
 |.ref a,u=>u=Value.ref a
 |.ty n,u=>u=Value.type n
abbrev Vals:-V->-hK->Prop:=Paired aC
def Vals.length(r:Vals xs us):↑xs=↑us:=pF r
def Vals.get:∀{xs:-V}{us:-hK}{i:Nat}{x:V},Vals xs us->xs[i]?*>x->∃u,us[i]?*>u/\aC x u
 |_,_,_,_,.nil,e=>by simp at e
 |_,_,0,_,.cons r _,e=>by simp at e;subst e;erw[2,r]
 |_,_,i+1,x,.cons _ t,e=>by
  let#[u,h1,h2]:=Vals.get (i:=i) (x:=x) t ‹e›;erw[u,‹h1›,h2]
def Vals.set(r:aC x u):∀{xs:-V}{us:-hK}(i:Nat),Vals xs us->Vals (xs.set i x) (us.set i u)
 |_,_,_,.nil=>.nil
 |_,_,0,.cons _ t=>.c r t
 |_,_,i+1,.cons q t=>.c q\Vals.set r i t
def Vals.append{us:-hK}(h:Vals xs us)(s:Vals ys ws):Vals (xs++ys) (us++ws):=by
 induction h with
 |nil=>show s
 |cons r t a=>show .c r a
def Vals.take:∀{xs:-V}{us:-hK}(n:Nat),Vals xs us->Vals (xs.take n) (us.take n)
 |_,_,0,_=>.nil
 |_,_,_+1,.nil=>.nil
 |_,_,n+1,.cons r t=>.c r\Vals.take n t
def Vals.drop:∀{xs:-V}{us:-hK}(n:Nat),Vals xs us->Vals (xs.drop n) (us.drop n)
 |_,_,0,r=>r
 |_,_,_+1,.nil=>.nil
 |_,_,n+1,.cons _ t=>Vals.drop n t
def dQ:Option V->Option hK->Prop
 |some v,gh u=>aC v u
 |none,gf=>True
 |_,_=>False
def KV{κ:Type}:-(κ×V)->-(κ×hK)->Prop:=Paired λ(p:κ×V)(q:κ×hK)=>p.1=q.1/\aC p.2 q.2
def kV:Key->V
 |.inl i=>.i i
 |.inr x=>.s x
inductive HO where
 |lst (xs:-V)
 |tup (xs:-V)
 |dK (kvs:-(Key×V))|dT (kvs:-(-Key×V))
 |set (S:Int->Bool) (n:Nat)
 |ins (C dx:i4) (fs:-(Str×V))
 |own (x:i4)
 |xd (fs:-(Str×V))
 |met (f x:i4)
 |rng (lo hi:Int)
 |frz (o:Obj) (u:HO)
 |tbl (ps:Array hK)
 |ext (φ:mu->Prop)
abbrev Hp:=i4->Option HO
def upd(H:Hp)(a:i4)(o:HO):Hp:=λb=>if b=a then gh o else H b
def aH:upd H a o a*>o:=by unfold upd;rw[Sh rfl]
def aq{a b:i4}(h:b≠a):upd H a o b=H b:=by unfold upd;rw[Sg h]
def vk:upd (upd H a o) a u=upd H a u:=by funext b;unfold upd;split<;>rfl
def bL{H:Hp}{o u:HO}(h:H a*>o)(h':H b*>u)(d:o≠u):a≠b:=by intro e;subst e;rw[h] at h';show d\eB h'
def ak{H:Hp}{o:HO}(h:H a*>o)(h':H b=gf):a≠b:=by intro e;subst e;rw[h] at h';cases h'
section
variable (P:lu)(w:n7)
def bh(H:Hp)(h:mu)(a:i4):HO->Prop
 |.lst xs=>↑xs<=js/\∃(b:-hK)(n:Nat),Vals xs b/\h.get? a*>{cls:=.t ↑25,data:=.e b.toArray n}
 |.tup xs=>(↑xs<=js/\∃o,h.get? a*>o/\o.dict=gf)/\∃b:-hK,Vals xs b/\IsTup h a b.toArray
 |.dK kvs=>↑kvs<=js/\(a==nI)=hB/\∃vs,KV kvs vs/\h.DictOf (dB P w) a vs
 |.dT kvs=>↑kvs<=js/\(a==nI)=hB/\∃xs:-(-Key×i4×hK),
   Paired (λ(p:-Key×V)(q:-Key×i4×hK)=>p.1=q.1/\H q.2.1*>.u (p.1.map kV)/\aC p.2 q.2.2) kvs xs/\
   ∃o es ep,h.get? a*>o/\o.ExactDict/\o.data=.y es ep/\es.toList=xs.map (entryOfKey\tupleKind (dB P w))/\(xs.map (·.1)).Nodup
 |.set S n=>h.SetOf (intKind P w) a S n
 |.ins C dx fs=>H dx*>.own a/\↑fs<=1000/\dx≠a/\h.get? a*>W.instObj C dx/\
   ∃mA,h.Ns1 dx mA/\(∀f,dQ (fs.lookup f)\mA f)/\PySem.Within mA\fs.map (·.1)
 |.own _=>∃o,h.get? a*>o
 |.xd fs=>∃mA,h.Ns1 a mA/\∀f,dQ (fs.lookup f)\mA f
 |.rng lo hi=>∃t u v,h.get? a*>{cls:=.t "range",data:=.d\tA [.i lo t,.i hi u,.i 1 v]}
 |.frz o u=>h.get? a*>o/\bh H h a u
 |.tbl ps=>h.get? a*>{cls:=.none,data:=.d ps}
 |.met f x=>h.get? a*>W.methodObj (.r f)\.r x
 |.ext φ=>φ h/\(∃o,h.get? a*>o)/\∀h1 h2:mu,φ h1->(∀o,h1.get? a*>o->h2.get? a*>o)->φ h2
def HOk(H:Hp)(h:mu):Prop:=∀a o,H a*>o->bh P w H h a o
end
section
variable {H H':Hp}{h h':mu}{a:i4}{o:HO}
def bh.lt(x:bh P w H h a o):a<h.objs.size:=by
 cases o with
 |lst xs=>let#[8,_,e]:=x;show aJ e
 |tup xs=>let#[8,p]:=x;show p.lt
 |dK kvs=>let#[8,_,o,0,e,_]:=x;show aJ e
 |dT kvs=>let#[8,_,o,0,e,_]:=x;show aJ e
 |set S n=>let#[o,8,e,_]:=x;show aJ e
 |ins C dx fs=>let#[8,e,_]:=x;show aJ e
 |own y=>let#[_,e]:=x;show aJ e
 |xd fs=>let#[_,#[8,e,_],_]:=x;show aJ e
 |rng lo hi=>let#[8,e]:=x;show aJ e
 |frz ob u=>let#[e,_]:=x;show aJ e
 |tbl ps=>show aJ (show h.get? a*>_ from x)
 |met f y=>show aJ (show h.get? a*>_ from x)
 |ext φ=>let#[_,#[_,e],_]:=x;show aJ e
def Paired.mapP{α β:Type}{F G:α->β->Prop}:∀{l₁:List α}{l₂:List β},Paired F l₁ l₂->(∀a b,F a b->G a b)->Paired G l₁ l₂
 |_,_,.nil,_=>.nil
 |_,_,.cons r t,f=>.c (f>>r)\Paired.mapP t f
def Paired.imp'{α β:Type}{F G:α->β->Prop}(f:∀a b,F a b->G a b){l₁:List α}{l₂:List β}(r:Paired F l₁ l₂):Paired G l₁ l₂:=Paired.mapP r f
def bh.stay(x:bh P w H h a o)(k:∀b u,(b=a\/H b*>.own a)->h.get? b*>u->h'.get? b*>u)
  (j:∀b,H b*>.own a->H' b*>.own a) (l:∀b xs,H b*>.u xs->H' b*>.u xs):bh P w H' h' a o:=by
 induction o with
 |lst xs=>let#[z,g,n,r,e]:=x;erw[z,g,n,r,k _ _ (.l rfl) e]
 |tup xs=>let#[#[z,o',m,d'],g,r,ob,e,c]:=x;erw[#[z,o',k _ _ (.l rfl) m,d'],g,r,ob,k _ _ (.l rfl) e,c]
 |dK kvs=>let#[z,y,vs,r,ob,es,ep,e,c]:=x;erw[z,y,vs,r,ob,es,ep,k _ _ (.l rfl) e,c]
 |dT kvs=>
  let#[z,y,xs,r,ob,es,ep,e,c]:=x;erw[z,y,xs,Paired.mapP r λp q z=>#[z.1,l>>z.2.1,z.2.2],ob,es,ep,k _ _ (.l rfl) e,c]
 |set S n=>let#[ob,es,ep,t,e,c]:=x;erw[ob,es,ep,t,k _ _ (.l rfl) e,c]
 |ins C dx fs=>
  let#[d,z,ne,e,mA,#[od,es,ep,s,c],r]:=x;erw[j _ d,z,ne,k _ _ (.l rfl) e,mA,#[od,es,ep,k _ _ (.o d) s,c],r]
 |own y=>let#[ob,e]:=x;erw[ob,k _ _ (.l rfl) e]
 |xd fs=>let#[mA,#[od,es,ep,e,c],r]:=x;erw[mA,#[od,es,ep,k _ _ (.l rfl) e,c],r]
 |rng lo hi=>let#[t,u,v,e]:=x;erw[t,u,v,k _ _ (.l rfl) e]
 |frz ob u A=>let#[e,q]:=x;erw[k _ _ (.l rfl) e,A q]
 |tbl ps=>
  let e:h.get? a*>{cls:=.none,data:=.d ps}:=x;change h'.get? a*>{cls:=.none,data:=.d ps};show k a _ (.l rfl) e
 |met f y=>
  let e:h.get? a*>W.methodObj (.r f) (.r y):=x;change h'.get? a*>W.methodObj (.r f)\.r y;show k a _ (.l rfl) e
 |ext φ=>let#[p,#[o,e],st]:=x;erw[st _ _ p λo q=>k _ _ (.l rfl) q,#[o,k _ _ (.l rfl) e],st]
def HOk.lt(x:HOk P w H h)(e:H a*>o):a<h.objs.size:=(x a o e).lt
def HOk.fresh(x:HOk P w H h)(e:h.objs.size<=a):H a=gf:=by
 cases q:H a with
 |none=>rfl
 |some u=>show absurd (bW (x.lt q) e)\dG _
def HOk.kept(x:HOk P w H h)(k:∀b u,h.get? b*>u->h'.get? b*>u):HOk P w H h':=λa o e=>
 (x a o e).stay (λb u _ q=>k b u q) (λ_ q=>q) λ_ _ q=>q
def HOk.laid(x:HOk P w H h)(k:∀b u,h.get? b*>u->h'.get? b*>u)(g:h.objs.size<=a)(new:bh P w (upd H a o) h' a o):HOk P w (upd H a o) h':=λb u e=>by
 let d:=x.fresh g;by_cases f:b=a
 .subst f;rw[aH] at e;cases e;show new
 rw[aq f] at e;show (x b u e).stay (λc v _ q=>k c v q) (λc q=>by rw[aq\ak q d];show q) λc xs q=>by rw[aq\ak q d];show q
end
def Rd(H:Hp)(a:i4)(u:HO):Prop:=H a*>u\/∃o,H a*>.z o u
def Rd.ok{h:mu}(r:Rd H a u)(x:HOk P w H h):bh P w H h a u:=by
 rcases r with r|⟨o,r⟩
 .exact x a u r
 let#[_,q]:=x a _ r;show q
def Mut:Option HO->Prop
 |some (.lst _)=>True
 |some (.dK _)=>True
 |some (.dT _)=>True
 |some (.set _ _)=>True
 |some (.ins _ _ _)=>True
 |some (.ext _)=>True
 |_=>False
section
variable {H:Hp}{h h':mu}{x e:i4}{o':HO}
def HOk.write(ok:HOk P w H h)(a:Mut\H x)(he:e=x\/H e*>.own x)(k:∀b u,b≠e->h.get? b*>u->h'.get? b*>u)(m:∃u,h'.get? e*>u)
  (new:bh P w (upd H x o') h' x o'):HOk P w (upd H x o') h':=λb u q=>by
 let j:∀c y,H c*>.own y->c≠x:=λc y r z=>by subst z;rw[r] at a;show a
 let n:∀c xs,H c*>.u xs->c≠x:=λc xs r z=>by subst z;rw[r] at a;show a
 by_cases d:b=x
 .subst d;rw[aH] at q;cases q;show new
 rw[aq d] at q;by_cases f:b=e
 .let l:H b*>.own x:=by
   rcases he with z|z
   .exact absurd (f<*z) d
   rw[f];show z
  rw[q] at l;cases l;let#[v,o]:=m;erw[v,by rw[f];show o]
 show (ok b u q).stay (λc v g r=>k c v ?_ r) (λc r=>by rw[aq\j c b r];show r) λc xs r=>by rw[aq\n c xs r];show r
 rcases g with rfl|g
 .exact f
 rintro rfl;rcases he with z|z
 .exact j c b g z
 rw[g] at z;cases z;show d rfl
end
structure Un(fs ex:-i4)(H H':Hp)(h h':mu):Prop where
 keep:∀b o,h.get? b*>o->H b=gf->b∉fs->b∉ex->h'.get? b*>o
 slot:∀b o,h.get? b*>o->H b=gf->b∈fs->b∉ex->∃sl,h'.get? b*>{o with slots:=sl}
 free:∀b o,h.get? b*>o->H b=gf->b∉ex->H' b=gf
 there:∀b o,h.get? b*>o->b∉ex->∃o',h'.get? b*>o'
 tups:∀b xs,H b*>.u xs->H' b*>.u xs
 frzs:∀b o u,H b*>.z o u->H' b*>.z o u
 tbls:∀b ps,H b*>.tbl ps->∃more,H' b*>.tbl (ps++more)
section
variable {fs fs' ex ex':-i4}{H H1 H2:Hp}{h h1 h2 h':mu}{a x e:i4}{o:HO}
def Un.any(u:Un fs ex H H1 h h1){b:i4}{ob:Obj}(q:h.get? b*>ob)(n:H b=gf)(hx:b∉ex):∃sl,h1.get? b*>{ob with slots:=sl}:=by
 by_cases a:b∈fs
 .exact u.slot b ob q n a hx
 erw[ob.slots,u.keep b ob q n a hx]
def Un.kept(k:∀b u,h.get? b*>u->h'.get? b*>u):Un fs ex H H h h':=
 #[λb ob q _ _ _=>k b ob q,λb ob q _ _ _=>#[ob.slots,k b ob q],λ_ _ _ n _=>n,λb ob q _=>#[ob,k b ob q],λ_ _ q=>q,λ_ _ _ q=>q,λ_ ps q=>#[(tA []),by rw[q];simp]]
def Un.refl:Un fs ex H H h h:=Un.kept λ_ _ q=>q
def Un.laid(k:∀b u,h.get? b*>u->h'.get? b*>u)(d:h.objs.size<=a)(c:H a=gf):Un fs ex H (upd H a o) h h' where
 keep:=λb u q _ _ _=>k b u q
 slot:=λb u q _ _ _=>#[u.slots,k b u q]
 free:=λb u q n _=>by rw[aq\bD (bW (aJ q) d)];show n
 there:=λb u q _=>#[u,k b u q]
 tups:=λb xs q=>by rw[aq\ak q c];show q
 frzs:=λb u xs q=>by rw[aq\ak q c];show q
 tbls:=λb ps q=>#[(tA []),by rw[aq\ak q c,q];simp]
def Un.write(a:Mut\H x)(he:e=x\/H e*>.own x)(k:∀b u,b≠e->h.get? b*>u->h'.get? b*>u)(f:∃u,h'.get? e*>u):Un fs ex H (upd H x o) h h':=by
 let hx:∀b,H b=gf->b≠x:=λb n z=>by subst z;rw[n] at a;show a
 let c:∀b,H b=gf->b≠e:=λb n z=>by
  subst z;rcases he with r|r
  .exact hx b n r
  rw[n] at r;cases r
 let hm:∀b u,H b*>u->¬Mut (gh u)->b≠x:=λb u q nm z=>by subst z;rw[q] at a;show nm a
 erw[λb u q n _ _=>k b u (c b n) q,λb u q n _ _=>#[u.slots,k b u (c b n) q],λb u q n _=>by rw[aq\hx b n];show n,λb u q _=>?_,
  λb xs q=>by rw[aq (hm b _ q λz=>z)];show q,λb u xs q=>by rw[aq (hm b _ q λz=>z)];show q,λb ps q=>#[(tA []),by rw[aq (hm b _ q λz=>z),q];simp]]
 by_cases d:b=e
 .subst d;show f
 erw[u,k b u d q]
end
def trk(h:mu)(H:Hp):-Addr:=(List.range h.objs.size).filter λa=>(H a).isSome
def i7(h:mu)(H:Hp):Heap:=W.hideAll h\trk h H
def FW(h:mu)(H:Hp):(i7 h H).objs.size=h.objs.size:=W.hideAll_size _ _
def Il{h:mu}{H:Hp}{b:i4}{o:Obj}(e:h.get? b*>o)(n:H b=gf):(i7 h H).get? b*>o:=
 W.hideAll_get _ e λhm=>by
  let q:(H b).isSome=gm:=(eL.mp hm).2;rw[n] at q;simp at q
def Kh{b:i4}{o:Obj}(e:(i7 h H).get? b*>o):h.get? b*>o/\H b=gf:=by
 let a:h.get? b*>o:=W.of_hideAll (trk h H) e;erw[a,?_];cases q:H b with
 |none=>rfl
 |some x=>
  let hm:b∈trk h H:=eL.mpr #[iF.mpr\aJ a,by simp[q]];let z:(i7 h H).get? b=gf:=W.hideAll_none (trk h H) hm;rw[z] at e;cases e
def qX(g h:mu)(L:i4):-(i4×Obj):=(List.range h.objs.size).filterMap λa=>if a=L\/(g.get? a).isSome=gm then gf else (h.get? a).map λo=>(a,o)
def ux{g h:mu}{L a:i4}{o:Obj}(h1:a≠L)(h2:g.get? a=gf)(b:h.get? a*>o):(a,o)∈qX g h L:=
 xm.mpr #[a,iF.mpr\aJ b,by simp[h1,h2,b]]
def DX{g h:mu}{L:i4}{p:i4×Obj}(c:p∈qX g h L):p.1≠L/\g.get? p.1=gf/\h.get? p.1*>p.2:=by
 let#[b,_,e]:=xm.mp c
 split at e
 .cases e
 rename_i a;cases q:h.get? b with
 |none=>rw[q] at e;simp at e
 |some u=>
  rw[q] at e;simp only[pE,Rc] at e;subst e;erw[λz=>a\.l z,?_,q];change g.get? b=gf;cases r:g.get? b with
  |none=>rfl
  |some v=>show (a\.o (by simp[r])).elim
def uV{g h:mu}{L:i4}:News g L h (qX g h L):=λp d=>let ⟨a,b,c⟩:=DX d;#[c,a,b]
end L2
namespace L2
open PySem PySem.Spec PyProof.Rows
structure Mod(K:W.Frag)(mg:Str->Option hK)(base:mu):Prop where
 kin:K.In base
 glob:base.Ns kz mg
 blt:∃mb,base.Ns builtinsNs mb/\∀x:Str,x≠↑98->mb x=r6 x
 nolimit:base.NoLimit
structure Cx where
 prog:lu
 w:n7
 K:W.Frag
 mg:Str->Option hK
 base:mu
 A:ro
 N:-Str
 s₀:ij
 H₀:Hp
 env:Env
 outer:-Env
 stack:-Env
 ex:-i4
 fn:Str->Bool
 calm:Bool
 pn:-(i4×Obj)
 xe:hK->ij->Prop
def frs(l:-Env):-Addr:=l.filterMap (·.frame)
abbrev Cx.fs(X:Cx):-Addr:=frs X.outer
def Vis(sc:Scope)(x:Str):Prop:=sc.names.lookup x*>.local\/sc.names.lookup x*>.cell\/sc.names.lookup x*>.free
def Loc(sc:Scope)(x:Str):Prop:=sc.names.lookup x*>.local\/sc.names.lookup x*>.cell
def Look(env:Env)(h:mu)(m:Str->Option hK)(x:Str)(u:hK):Prop:=
 (env.kindOf x*>.local/\m x*>u)\/((env.kindOf x*>.cell\/env.kindOf x*>.free)/\∃c,env.cells.lookup x*>c/\h.IsCell c\gh u)
structure Cx.Ok(X:Cx):Prop where
 mod:Mod X.K X.mg X.base
 kind:X.env.scope.kind=.function
 glob:X.env.globals=kz
 blt:X.env.builtins=builtinsNs
 above:X.s₀.heap.objs.size<=X.env.locals
 inj:∀x y c,X.env.cells.lookup x*>c->X.env.cells.lookup y*>c->x=y
 has:∀x,(X.env.kindOf x*>.cell\/X.env.kindOf x*>.free)->∃c,X.env.cells.lookup x*>c
 cab:∀x c,X.fn x=gm->X.env.cells.lookup x*>c->X.s₀.heap.objs.size<=c
 hd:X.calm=gm->X.A.handled=gf
 frames:X.A.frames*>X.stack
 stk:X.stack=X.outer\/(X.stack=X.env::X.outer/\X.env.frame*>X.env.locals)
 exf:∀b∈X.ex,b≠X.env.locals/\∀x c,X.env.cells.lookup x*>c->c≠b
 bs:∀b o,X.base.get? b*>o->X.s₀.heap.get? b*>o/\X.H₀ b=gf
 bsz:X.base.objs.size<=X.s₀.heap.objs.size
 noex:∀b o,X.base.get? b*>o->b∉X.ex
 exfs:∀b∈X.ex,b∉X.fs
 funs:X.s₀.heap.FunFrames X.base X.outer
 frf:∀b∈X.fs,X.H₀ b=gf
structure Inv(X:Cx)(Sn:-(i4×Obj))(Z:List\Option V)(H:Hp)(s:ij):Prop where
 ok:X.Ok
 os:s.os=X.s₀.os
 bare:AllBare s.gens
 base:Un X.fs X.ex X.H₀ H X.s₀.heap s.heap
 loc:∃m,s.heap.Ns X.env.locals m/\∀(i:Nat)(x:Str)(v:V),X.N[i]?*>x->Z[i]?*>gh v->Vis X.env.scope x->∃u,aC v u/\Look X.env s.heap m x u
 cell:∀x c,X.env.cells.lookup x*>c->∃v,s.heap.IsCell c v
 free:H X.env.locals=gf
 freeC:∀x c,X.env.cells.lookup x*>c->H c=gf
 pin:∀p∈X.pn++Sn,s.heap.get? p.1*>p.2/\H p.1=gf/\p.1≠X.env.locals/\p.1∉X.fs/\∀v,p.2.data≠.cell v
 hok:HOk X.prog X.w H s.heap
 len:↑Z=X.N.length
section
variable {X:Cx}{Z:List (Option V)}{H H':Hp}{h':mu}
def Cx.Ok.nofr(ok:X.Ok){b:i4}{o:Obj}(e:X.base.get? b*>o):b∉X.fs:=λa=>by
 have:=(ok.funs.mem a).1;rw[e] at this;cases this
def Inv.bs(I:!Inv H s):∀b o,X.base.get? b*>o->s.heap.get? b*>o/\H b=gf:=λb o e=>
 #[I.base.keep b o (I.ok.bs b o e).1 (I.ok.bs b o e).2 (I.ok.nofr e)\I.ok.noex b o e,I.base.free b o (I.ok.bs b o e).1 (I.ok.bs b o e).2\I.ok.noex b o e]
def Inv.bk(I:!Inv H s):∀b o,X.base.get? b*>o->s.heap.get? b*>o:=λb o e=>(I.bs b o e).1
def Inv.mod(I:!Inv H s):Mod X.K X.mg X.base:=I.ok.mod
def Inv.kIn(I:!Inv H s):X.K.In s.heap:=I.ok.mod.kin.keeps I.bk
def Inv.fr(I:!Inv H s):∃m,Fr X.base X.env.locals s.heap m:=
 let ⟨m,a,_⟩:=I.loc
 #[m,a,I.bk,cQ I.ok.bsz I.ok.above]
def Inv.lt(I:!Inv H s):X.env.locals<↥s:=let ⟨_,a,_⟩:=I.loc;a.lt
def Inv.sz(I:!Inv H s):X.s₀.heap.objs.size<=↥s:=cQ I.ok.above\nj I.lt
def Inv.nofs(I:!Inv H s){a:i4}(h:↥s<=a):a∉X.fs:=λb=>by
 let#[_,o,c,_]:=I.ok.funs.mem b;show absurd (bW (aJ c)\cQ I.sz h)\dG _
def Inv.cne(I:!Inv H s):∀x c,X.env.cells.lookup x*>c->c≠X.env.locals:=λx c e z=>by
 let#[v,o,a,hd]:=I.cell x c e;let#[m,#[o',es,ep,b,d,_],_]:=I.loc;rw[z,b] at a;cases a;rw[d] at hd;cases hd
def Inv.funs(I:!Inv H s):s.heap.FunFrames X.base X.outer:=by
 let all:∀(l:-Env),(∀b∈frs l,b∈X.fs)->X.s₀.heap.FunFrames X.base l->s.heap.FunFrames X.base l:=by
  intro l;induction l with
  |nil=>intro _ _;trivial
  |cons env r f=>
   intro d g;let#[#[h,#[L,o,hf,j,m,hd],n],a,#[sl,e]]:=#[g,(d L (by unfold frs;rw[C1,hf];show jc):L∈X.fs),I.base.slot L o m (I.ok.frf L a) a λz=>I.ok.exfs L z a];erw[h,#[L,_,hf,j,e,hd],f (λb c=>d b (by unfold frs;rw[C1,hf];show dz _ c)) n]
 show all X.outer (λ_ c=>c) I.ok.funs
def Inv.stack(I:!Inv H s):s.heap.FunFrames X.base X.stack:=by
 rcases I.ok.stk with e|⟨e,hf⟩
 .rw[e];show I.funs
 rw[e];let#[m,a,_]:=I.loc;show .c (by rw[I.ok.kind];decide) hf a ?_ I.funs;show jO\cQ I.ok.bsz I.ok.above
def Inv.stkSub(I:!Inv H s):∀b∈frs X.stack,b∈X.env.locals::X.fs:=λb a=>by
 rcases I.ok.stk with e|⟨e,hf⟩
 .rw[e] at a;show dz _ a
 rw[e] at a;unfold frs at a;rw[C1,hf] at a;show a
def Inv.stkFree(I:!Inv H s):∀b∈frs X.stack,H b=gf:=λb a=>by
 rcases aU.mp (I.stkSub b a) with e|a
 .rw[e];show I.free
 let#[_,o,c,_]:=I.ok.funs.mem a;show I.base.free b o c (I.ok.frf b a) λz=>I.ok.exfs b z a
def Inv.step{g':Array GenState}{t':Nat}{d':Drawn}{ch:-i4}(I:!Inv H s)
  (h:∀b∈ch,(b∈X.ex\/X.s₀.heap.objs.size<=b)/\b≠X.env.locals/\(∀x c,X.env.cells.lookup x*>c->c≠b)/\∀p∈X.pn++Sn,p.1≠b)
  (keep:∀b o,b≠X.env.locals->b∉X.fs->b∉ch->s.heap.get? b*>o->H b=gf->h'.get? b*>o)
  (slot:∀b o,b≠X.env.locals->b∈X.fs->b∉ch->s.heap.get? b*>o->H b=gf->∃sl,h'.get? b*>{o with slots:=sl}) (free:∀b o,b∉ch->s.heap.get? b*>o->H b=gf->H' b=gf)
  (there:∀b o,b∉ch->s.heap.get? b*>o->∃o',h'.get? b*>o')
  (tups:∀b xs,H b*>.u xs->H' b*>.u xs) (frzs:∀b o u,H b*>.z o u->H' b*>.z o u) (tbls:∀b ps,H b*>.tbl ps->∃more,H' b*>.tbl (ps++more))
  (ns:∀m,s.heap.Ns X.env.locals m->h'.Ns X.env.locals m) (hok:HOk X.prog X.w H' h') (K:AllBare g') :
  !Inv H' {s with heap:=h',gens:=g',drawn:=d',toks:=t'}:=by
 let B:∀b o,X.s₀.heap.get? b*>o->b≠X.env.locals:=λb o e=>bD\bW (aJ e) I.ok.above;let A:∀b o,X.s₀.heap.get? b*>o->b∉X.ex->b∉ch:=λb o e hx f=>by
  rcases (h b f).1 with z|z
  .exact hx z
  show absurd (bW (aJ e) z)\dG _
 let cellK:∀x c,X.env.cells.lookup x*>c->∀v,s.heap.IsCell c v->h'.IsCell c v:=λx c e v ⟨o,g,hd⟩=>by
  let j:c∉ch:=λz=>(h c z).2.2.1 x c e rfl;by_cases C:c∈X.fs
  .let#[sl,q]:=slot c o (I.cne x c e) C j g\I.freeC x c e;erw[_,q,hd]
  erw[o,keep c o (I.cne x c e) C j g\I.freeC x c e,hd]
 erw[I.ok,I.os,K,#[λb o e n f hx=>?_,λb o e n f hx=>?_,λb o e n hx=>?_,λb o e hx=>?_,λb xs e=>tups b xs\I.base.tups b xs e,λb o xs e=>frzs b o xs\I.base.frzs b o xs e,λb ps e=>?_],?_,λx c e=>?_,?_,λx c e=>?_,λp D=>?_,hok,I.len]
 .exact keep b o (B b o e) f (A b o e hx) (I.base.keep b o e n f hx)\I.base.free b o e n hx
 .let#[sl,a]:=I.base.slot b o e n f hx;let#[L,y]:=slot b _ (B b o e) f (A b o e hx) a\I.base.free b o e n hx;erw[L,y]
 .let#[o',a]:=I.base.there b o e hx;show free b o' (A b o e hx) a\I.base.free b o e n hx
 .let#[o',a]:=I.base.there b o e hx;show there b o' (A b o e hx) a
 .let#[m1,a]:=I.base.tbls b ps e;let#[m2,y]:=tbls b _ a;erw[m1++m2,by rw[y,Array.append_assoc]]
 .let#[m,M,N]:=I.loc;erw[m,ns m M,λi x v a y O=>?_];let#[u,r,l]:=N i x v a y O;erw[u,r,?_];rcases l with l|⟨k,c,e,z⟩
  .exact .l l
  show .o #[k,c,e,cellK x c e _ z]
 .let#[v,z]:=I.cell x c e;erw[v,cellK x c e v z]
 .let#[m,#[o,0,g,_],_]:=I.loc;show free _ o (λz=>(h _ z).2.1 rfl) g I.free
 .let#[v,o,g,hd]:=I.cell x c e;show free c o (λz=>(h c z).2.2.1 x c e rfl) g\I.freeC x c e
 let#[e,n,ne,E,d]:=I.pin p D;let j:p.1∉ch:=λz=>(h p.1 z).2.2.2 p D rfl;erw[keep p.1 p.2 ne E j e n,free p.1 p.2 j e n,ne,E,d]
def Inv.un{t':Nat}(I:!Inv H s)(u:Un X.fs [] H H' s.heap h')(hok:HOk X.prog X.w H' h'):!Inv H' {s with heap:=h',toks:=t'}:=by
 let#[m,#[o,es,ep,c,r],_]:=id I.loc;let#[sl,f]:=u.any c I.free ∅;show I.step (g':=s.gens) (d':=s.drawn) (ch:=[]) (λ_ z=>nomatch z) (λb o _ a _ e n=>u.keep b o e n a ∅) (λb o _ a _ e n=>u.slot b o e n a ∅) (λb o _ e n=>u.free b o e n ∅) (λb o _ e=>u.there b o e ∅) u.tups u.frzs u.tbls (λl hm=>by
  let#[o',g,h,d,j]:=hm;rw[c] at d;cases d;erw[_,g,h,f,j]) hok I.bare
def Inv.call{g':Array GenState}{t':Nat}{d':Drawn}(I:!Inv H s)(u:Un (frs X.stack) ch H H' s.heap h')(hok:HOk X.prog X.w H' h')(j:AllBare g')
  (f:∀b∈ch,(b∈X.ex\/X.s₀.heap.objs.size<=b)/\b≠X.env.locals/\(∀x c,X.env.cells.lookup x*>c->c≠b)/\∀p∈X.pn++Sn,p.1≠b) :
  !Inv H' {s with heap:=h',gens:=g',drawn:=d',toks:=t'}:=by
 let#[m,#[o,es,ep,g,r],_]:=id I.loc;let#[sl,d]:=u.any g I.free λz=>(f _ z).2.1 rfl;show I.step (ch:=ch) f (λb o d l a e n=>u.keep b o e n (λz=>(aU.mp\I.stkSub b z).elim d l) a) (λb o _ _ a e n=>u.any e n a) (λb o a e n=>u.free b o e n a) (λb o a e=>u.there b o e a) u.tups u.frzs u.tbls (λA hm=>by
  let#[o',q,v,h,y]:=hm;rw[g] at h;cases h;erw[_,q,v,d,y]) hok j
def Inv.turned{t':Nat}{it:i4}(I:!Inv H s)(k:∀b o,b≠it->s.heap.get? b*>o->h'.get? b*>o)(g:H it=gf)(d:it≠X.env.locals)
  (h1:it∈X.ex\/X.s₀.heap.objs.size<=it) (h2:∀x c,X.env.cells.lookup x*>c->c≠it) (h:∀p∈X.pn++Sn,p.1≠it):!Inv H {s with heap:=h',toks:=t'}:=by
 let f:∀b u,H b*>u->b≠it:=λb u e z=>by rw[z,g] at e;cases e
 show I.step (g':=s.gens) (d':=s.drawn) (ch:=[it]) (λb j=>?_) (λb o _ _ a e _=>k b o (λz=>a (by simp[z])) e) (λb o _ _ a e _=>#[o.slots,k b o (λz=>a (by simp[z])) e]) (λ_ _ _ _ n=>n)
  (λb o a e=>#[o,k b o (λz=>a (by simp[z])) e]) (λ_ _ e=>e) (λ_ _ _ e=>e) (λb ps e=>#[(tA []),by rw[e];simp]) (λm hm=>?_) (λb u e=>?_) I.bare
 .let e:b=it:=‹j›
  subst e;erw[h1,d,h2,h]
 .let#[o,es,ep,l,r]:=hm;erw[o,es,ep,k _ o (aB d) l,r]
 show (I.hok b u e).stay (λc v a q=>k c v ?_ q) (λ_ q=>q) λ_ _ q=>q;rcases a with z|z
 .rw[z];show f b u e
 show f c _ z
def Inv.tok(I:!Inv H s)(t:Nat):!Inv H {s with toks:=t}:=I.un (h':=s.heap) (t':=t) Un.refl I.hok
def Inv.kept{t':Nat}(I:!Inv H s)(k:∀b u,s.heap.get? b*>u->h'.get? b*>u):!Inv H {s with heap:=h',toks:=t'}:=I.un (Un.kept k)\I.hok.kept k
def Inv.laid{a:i4}{t':Nat}(I:!Inv H s)(k:∀b u,s.heap.get? b*>u->h'.get? b*>u)(c:↥s<=a)(new:bh X.prog X.w (upd H a o) h' a o):
  !Inv (upd H a o) {s with heap:=h',toks:=t'}:=I.un (Un.laid k c\I.hok.fresh c)\I.hok.laid k c new
def Inv.write{e:i4}{o:HO}{t':Nat}(I:!Inv H s)(a:Mut\H x)(he:e=x\/H e*>.own x)(k:∀b u,b≠e->s.heap.get? b*>u->h'.get? b*>u)(c:∃u,h'.get? e*>u)
  (new:bh X.prog X.w (upd H x o) h' x o):!Inv (upd H x o) {s with heap:=h',toks:=t'}:=I.un (Un.write a he k c)\I.hok.write a he k c new
def Inv.pins_of{pins':-(i4×Obj)}(I:!Inv H s)(h:∀p∈pins',s.heap.get? p.1*>p.2/\H p.1=gf/\p.1≠X.env.locals/\p.1∉X.fs/\∀v,p.2.data≠.cell v):Inv X pins' Z H s:=
 #[I.ok,I.os,I.bare,I.base,I.loc,I.cell,I.free,I.freeC,λp a=>(a9.mp a).elim (λz=>I.pin p\eK _ z)\h p,I.hok,I.len]
def uU{N:-Str}(c:N.Nodup){i j:Nat}{x:Str}(a:N[i]?*>x)(b:N[j]?*>x):i=j:=by let#[h1,d]:=aO.mp a;let#[h2,e]:=aO.mp b;show (List.getElem_inj c).mp\d.trans e.symm
def yX{M:Model}{i:Nat}{x:Str}{Q:Unit->ij->Prop}(I:!Inv H s)(hN:X.N.Nodup)(hi:X.N[i]?*>x)(hx:Loc X.env.scope x)(r:aC v u)
  (h:∀s',Inv X Sn (Z.set i\gh v) H s'->(∃a,Heap.SameBut a s.heap s'.heap/\(a=X.env.locals\/X.env.cells.lookup x*>a))->Q .unit s') (hf:X.fn x=gm\/X.env.scope.names.lookup x*>.local:=by first|exact .l rfl|exact .o rfl|assumption):jl M A (storeName X.env x u) Q E s:=by
 let#[m,P,hl]:=id I.loc;let an:(X.env.scope.kind==.class||(X.env.scope.kind==.module&&X.env.locals != X.env.globals))=hB:=by rw[I.ok.kind];rfl
 have hiσ:i<↑Z:=by rw[I.len];show (aO.mp hi).1
 let cne:=I.cne;let tracked:∀{a:i4}{h':mu},(∃o,s.heap.get? a*>o/\H a=gf)->Heap.SameBut a s.heap h'->HOk X.prog X.w H h':=λ{a h'} ha f b ob e=>by
  let#[0,ad]:=ha;show (I.hok b ob e).stay (λc L l q=>(f.2 c ?_)<*q) (λ_ q=>q) λ_ _ q=>q;rintro rfl;rcases l with rfl|l
  .rw[ad] at e;cases e
  rw[ad] at l;cases l
 rcases hx with C|C
 .refine wpAny_storeName_local C P (λh' ap f=>?_) an;let#[oL,0,aM,_]:=id P;show h _ #[I.ok,I.os,I.bare,#[λb o e n D hx=>?_,λb o e n D hx=>?_,I.base.free,λb o e hx=>?_,I.base.tups,I.base.frzs,I.base.tbls],#[_,ap,λj y R g B S=>?_],λy c e=>?_,I.free,I.freeC,λp T=>?_,tracked #[oL,aM,I.free] f,‹I.len›] #[_,f,.l rfl]
  .exact (f.2 b\bD (bW (aJ e) I.ok.above)).trans\I.base.keep b o e n D hx
  .let#[sl,g]:=I.base.slot b o e n D hx;erw[sl,(f.2 b\bD (bW (aJ e) I.ok.above))<*g]
  .let#[o',g]:=I.base.there b o e hx;erw[o',(f.2 b\bD (bW (aJ e) I.ok.above))<*g]
  .by_cases K:j=i
   .subst K;rw[hi] at g;cases g;rw[xh hiσ] at B;cases B;erw[u,r,.l #[C,∅]]
   rw[xg\aB K] at B;let#[U,Y,q]:=hl j y R g B S;erw[U,Y,?_];rcases q with ⟨k,e⟩|⟨k,c,e,z⟩
   .refine .l #[k,?_];have:y≠x:=λe=>K\uU hN g (e ▸ hi);simp[this,e]
   show .o #[k,c,e,z.sameBut f\cne y c e]
  .let#[L,z]:=I.cell y c e;erw[L,z.sameBut f\cne y c e]
  let#[e,n,ne,nf,d]:=I.pin p T;erw[(f.2 p.1 ne)<*e,n,ne,nf,d]
 let ab:X.fn x=gm:=by
  rcases hf with z|z
  .exact z
  rw[z] at C;cases C
 let#[c,l]:=I.ok.has x\.l C;let#[L,z]:=I.cell x c l;show wpAny_storeName_cell I.ok.kind C l z (λh' ag f=>?_);let#[oc,al,aS]:=id z;show h {s with heap:=h'} #[I.ok,I.os,I.bare,#[λb o e n D hx=>?_,λb o e n D hx=>?_,I.base.free,λb o e hx=>?_,I.base.tups,I.base.frzs,I.base.tbls],#[m,P.sameBut f\aB (cne x c l),λj y R g B S=>?_],λy O e=>?_,I.free,I.freeC,λp T=>?_,tracked #[oc,al,I.freeC x c l] f,‹I.len›] #[c,f,.o l]
 .exact (f.2 b\bD (bW (aJ e)\I.ok.cab x c ab l)).trans\I.base.keep b o e n D hx
 .let#[sl,g]:=I.base.slot b o e n D hx;erw[sl,(f.2 b\bD (bW (aJ e)\I.ok.cab x c ab l))<*g]
 .let#[o',g]:=I.base.there b o e hx;erw[o',(f.2 b\bD (bW (aJ e)\I.ok.cab x c ab l))<*g]
 .by_cases K:j=i
  .subst K;rw[hi] at g;cases g;rw[xh hiσ] at B;cases B;erw[u,r,.o #[.l C,c,l,ag]]
  rw[xg\aB K] at B;let#[U,Y,q]:=hl j y R g B S;erw[U,Y,?_];rcases q with q|⟨k,O,e,z'⟩
  .exact .l q
  show .o #[k,O,e,z'.sameBut f ?_];rintro rfl;show K\uU hN g (I.ok.inj _ _ _ e l ▸ hi)
 .by_cases am:O=c
  .subst am;erw[_,ag]
  let#[w2,z2]:=I.cell y O e;erw[w2,z2.sameBut f am]
 let#[e,n,ne,nf,d]:=I.pin p T;erw[(f.2 p.1 ?_)<*e,n,ne,nf,d];intro q;rw[q,al] at e;let q':oc=p.2:=eB e;show d L (by rw[<-q'];show aS)
def j4{M:Model}{i:Nat}{x:Str}{Q:Unit->ij->Prop}(I:!Inv H s)(a:X.N.Nodup)(hi:X.N[i]?*>x)(hx:Loc X.env.scope x)(r:aC v u)
  (h:∀s',Inv X Sn (Z.set i\gh v) H s'->Q .unit s') (hf:X.fn x=gm\/X.env.scope.names.lookup x*>.local:=by first|exact .l rfl|exact .o rfl|assumption):jl M A (storeName X.env x u) Q E s:=
 yX I a hi hx r (λs' b _=>h s' b) hf
def Inv.call'{s':ij}(I:!Inv H s)(a:s'.os=s.os)(u:Un (frs X.stack) ch H H' s.heap s'.heap)(hok:HOk X.prog X.w H' s'.heap)(d:AllBare s'.gens)
  (f:∀b∈ch,(b∈X.ex\/X.s₀.heap.objs.size<=b)/\b≠X.env.locals/\(∀x c,X.env.cells.lookup x*>c->c≠b)/\∀p∈X.pn++Sn,p.1≠b):!Inv H' s':=by
 let#[h',g',d',t',o']:=s';let e:o'=s.os:=a;subst e;show I.call (g':=g') (t':=t') (d':=d') u hok d f
end
abbrev XK:=hK->Option i4->Hp->Prop
abbrev St:=List\Option V
abbrev VK:=V->Hp->Prop
abbrev TE:=St->Hp->VK->Prop
abbrev TT:=St->Hp->(Bool->Hp->Prop)->Prop
abbrev TA:=St->Hp->(-V->Hp->Prop)->Prop
structure Ends where
 nx:St->Hp->Prop
 rt:VK
 bk:St->Hp->Prop:=λ_ _=>False
 ct:St->Hp->Prop:=λ_ _=>False
abbrev TS:=Ends->St->Hp->Prop
def EP(X:Cx)(Sn:-(i4×Obj))(Z:St)(Q:VK)(u:hK)(s':ij):Prop:=∃v H',!Inv H' s'/\aC v u/\Q v H'
def TP(X:Cx)(Sn:-(i4×Obj))(Z:St)(Q:Bool->Hp->Prop)(b:Bool)(s':ij):Prop:=∃H',!Inv H' s'/\Q b H'
def AP(X:Cx)(Sn:-(i4×Obj))(Z:St)(Q:-V->Hp->Prop)(us:-hK)(s':ij):Prop:=∃vs H',!Inv H' s'/\Vals vs us/\Q vs H'
def SP(X:Cx)(Sn:-(i4×Obj))(D:Ends)(f:Flow)(s':ij):Prop:=
 match f with
 |.next=>∃Z' H',Inv X Sn Z' H' s'/\D.nx Z' H'
 |.brk=>∃Z' H',Inv X Sn Z' H' s'/\D.bk Z' H'
 |.cont=>∃Z' H',Inv X Sn Z' H' s'/\D.ct Z' H'
 |.ret u=>∃v Z' H',Inv X Sn Z' H' s'/\aC v u/\D.rt v H'
def PE(X:Cx)(e:mR)(t:TE):Prop:=
 ∀(Sn:-(i4×Obj))(s:ij)(Z:St)(H:Hp)(Q:VK),!Inv H s->t Z H Q->jl ⇑X X.A (nH e X.env) (EP X Sn Z Q) X.xe s
def PT(X:Cx)(e:mR)(t:TT):Prop:=
 ∀(Sn:-(i4×Obj))(s:ij)(Z:St)(H:Hp)(Q:Bool->Hp->Prop),!Inv H s->t Z H Q->jl ⇑X X.A (isTrue e X.env\nH e X.env) (TP X Sn Z Q) X.xe s
def PW(X:Cx)(e:mR)(t:TT):Prop:=
 ∀(whole:Sem hK)(Sn:-(i4×Obj))(s:ij)(Z:St)(H:Hp)(Q:Bool->Hp->Prop),!Inv H s->t Z H Q->jl ⇑X X.A (isTrue e X.env whole) (TP X Sn Z Q) X.xe s
def PW.pt(h:PW X e t):PT X e t:=h _
def PA(X:Cx)(es:-mR)(t:TA):Prop:=
 ∀(pos:Pos)(Sn:-(i4×Obj))(s:ij)(Z:St)(H:Hp)(Q:-V->Hp->Prop),!Inv H s->t Z H Q->jl ⇑X X.A (spliced\nT pos (kA es X.env)) (AP X Sn Z Q) X.xe s
def PS(X:Cx)(st:mT)(t:TS):Prop:=
 ∀(Sn:-(i4×Obj))(s:ij)(Z:St)(H:Hp)(D:Ends),!Inv H s->t D Z H->jl ⇑X X.A (exec st X.env) (SP X Sn D) X.xe s
def PSs(X:Cx)(st:-mT)(t:TS):Prop:=
 ∀(Sn:-(i4×Obj))(s:ij)(Z:St)(H:Hp)(D:Ends),!Inv H s->t D Z H->jl ⇑X X.A (execs st X.env) (SP X Sn D) X.xe s
def thn{α:Type}{t:Sem α}{Q b:α->ij->Prop}{M:Model}(h:jl M A t Q E s)(c:∀a s,Q a s->b a s):jl M A t b E s:=bU h c λ_ _ x=>x
end L2
variable {H:L2.Hp}{Z:L2.St}{X:L2.Cx}{xs:List L2.V}{vs:List L2.V}{H':L2.Hp}
namespace L2
open PySem PySem.Spec PyProof.Rows
section
def Ex2{α β:Type}(P:α->β->Prop)(a:α):Prop:=Exists\P a
def Ex3{α β γ:Type}(P:α->β->γ->Prop)(a:α):Prop:=Exists\Ex2 (P a)
def Ex4{α β γ δ:Type}(P:α->β->γ->δ->Prop)(a:α):Prop:=Exists\Ex3 (P a)
def Ex5{α β γ δ ε:Type}(P:α->β->γ->δ->ε->Prop)(a:α):Prop:=Exists\Ex4 (P a)
def Ex6{α β γ δ ε ζ:Type}(P:α->β->γ->δ->ε->ζ->Prop)(a:α):Prop:=Exists\Ex5 (P a)
def Ex7{α β γ δ ε ζ η:Type}(P:α->β->γ->δ->ε->ζ->η->Prop)(a:α):Prop:=Exists\Ex6 (P a)
def Ex8{α β γ δ ε ζ η θ:Type}(P:α->β->γ->δ->ε->ζ->η->θ->Prop)(a:α):Prop:=Exists\Ex7 (P a)
def Same(H H':Hp):Prop:=∀b o,H b*>o->H' b*>o
def hU(H:Hp)(o:HO)(Q:VK):Prop:=∀p H',H p=gf->Same H H'->H' p*>o->Q (.r p) H'
def hU.at(q:hU H o Q)(h:H p=gf):Q (.r p) (upd H p o):=q p _ h (λb u e=>(aq (λz=>by rw[z,h] at e;cases e))<*e) aH
def WrO(H:Hp)(l:i4)(o:HO)(k:Hp->Prop):Prop:=∀H',(∀b,b≠l->H' b=H b)->H' l*>o->k H'
def WrO.at{k:Hp->Prop}(q:WrO H l o k):k (upd H l o):=q _ (λ_ h=>aq h) aH
def M6(i:Nat)(Z:St)(H:Hp)(Q:VK)(v:V):Prop:=Z[i]?*>gh v/\Q v H
def aN(i:Nat):TE:=λZ H Q=>Exists\M6 i Z H Q
def tC(v:V):TE:=λ_ H Q=>Q v H
def LY{i:Nat}{x:Str}{pos:Pos}(f:X.N[i]?*>x)(g:Vis X.env.scope x)(hd:(x==(↑17 : Str))=hB:=by decide)(j:(x==("__classdict__" : Str))=hB:=by decide):PE X (.n x pos) (aN i):=by
 lk;intro Q I h;let#[#[v,e,h],#[m,n,o],#[u,r,l],fin]:=#[h,I.loc,o i x v f e g,(#[v,H,I,r,h]:EP X Sn Z Q u s)];rcases l with ⟨a,hm⟩|⟨a,c,b,d⟩
 .exact DE (wpAny_loadName_local I.ok.kind a n hm fin) hd
 rcases a with a|a
 .exact DE (wpAny_loadName_cell I.ok.kind a b d fin) hd
 show DE (wpAny_loadName_free I.ok.kind a b d fin j) hd
def ah{i j pos}:PE X (.Constant (.i i) j pos) (tC\.i i):=λ_ _ _ H _ I h=>wpAny_Constant_int #[.i i,H,I.tok _,#[2],h]
def gi{b j pos}:PE X (.Constant (.x b) j pos) (tC\.bl b):=λ_ _ _ H _ I h=>Constant_bool #[.bl b,H,I,1,h]
def rV{j pos}:PE X (.Constant .none j pos) (tC .non):=λ_ _ _ H _ I h=>Constant_none #[.non,H,I,1,h]
def aK{x j pos}:PE X (.Constant (.s x) j pos) (tC\.s x):=λ_ _ _ H _ I h=>Calls.Constant_str #[.s x,H,I.tok _,#[2],h]
def Gl(X:Cx)(x:Str):Prop:=X.env.kindOf x*>.globalImplicit
def iu{u:hK}{pos:Pos}{Q:hK->ij->Prop}(I:!Inv H s)(a:Gl X x)(hm:X.mg x*>u)(h:Q u s)
  (hd:(x==(↑17 : Str))=hB:=by decide):jl ⇑X X.A (nH (.n x pos) X.env) Q E s:=
 O0 I.ok.kind a (Calls.loadGlobal_global (by rw[I.ok.glob];show I.mod.glob.keeps I.bk) hm h) hd
def jC{u:hK}{pos:Pos}{Q:hK->ij->Prop}(I:!Inv H s)(a:Gl X x)(hm:X.mg x=gf)(b:r6 x*>u)(h:Q u s)
  (c:x≠↑98:=by decide) (hd:(x==(↑17 : Str))=hB:=by decide):jl ⇑X X.A (nH (.n x pos) X.env) Q E s:=by
 let#[mb,h1,h2]:=I.mod.blt;show O0 I.ok.kind a (Calls.loadGlobal_builtin (by rw[I.ok.glob];show I.mod.glob.keeps I.bk) hm (by rw[I.ok.blt];show h1.keeps I.bk) ((h2 x c)<*b) h) hd
def dO{u:hK}{pos:Pos}(a:Gl X x)(hm:X.mg x*>u)(r:aC v u)(hd:(x==(↑17 : Str))=hB:=by decide):PE X (.n x pos) (tC v):=
 λ_ _ _ H _ I h=>iu I a hm #[v,H,I,r,h] hd
def kg{u:hK}{pos:Pos}(a:Gl X x)(hm:X.mg x=gf)(b:r6 x*>u)(r:aC v u)(c:x≠↑98:=by decide)(hd:(x==(↑17 : Str))=hB:=by decide):PE X (.n x pos) (tC v):=
 λ_ _ _ H _ I h=>jC I a hm b #[v,H,I,r,h] c hd
variable {a b:mR}{ta tb:TE}{pos:Pos}
def PC(X:Cx)(op:CmpOp)(a b:mR)(t:TE):Prop:=
 ∀(Sn:-(i4×Obj))(s:ij)(Z:St)(H:Hp)(Q:VK),!Inv H s->t Z H Q->
  jl ⇑X X.A (nH a X.env) (λv s₁=>jl ⇑X X.A (nH b X.env) (λu s₂=>jl ⇑X X.A (nc op v u) (EP X Sn Z Q) X.xe s₂) X.xe s₁) X.xe s
def nobehind(b:mR){op:CmpOp}(h:op≠.In)(h2:op≠.NotIn):rp op b=hB:=by
 let a:(op==CmpOp.In)=hB:=by cases op<;>first|rfl|show absurd rfl h
 let c:(op==CmpOp.NotIn)=hB:=by cases op<;>first|rfl|show absurd rfl h2
 cases b<;>simp[rp,a,c]
def tIsN(ta:TE):TE:=λZ H Q=>ta Z H λx H1=>Q (.bl (decide (x=.non))) H1
def aC.none_iff(r:aC x v):(v==Value.none)=decide (x=.non):=by
 cases x with
 |non=>cases r;rfl
 |bl _=>cases r;rfl
 |int _=>let#[t,1]:=r;rfl
 |str _=>let#[t,1]:=r;rfl
 |byt _=>let#[t,1]:=r;rfl
 |flt _=>let#[t,1]:=r;rfl
 |ref _=>cases r;rfl
 |ty _=>cases r;rfl
def BW{j pos'}(ha:PE X a ta):PC X .Is a (.Constant .none j pos') (tIsN ta):=by lk;intro Q I h;show thn (ha Sn s Z H _ I h) λv s1 b=>?_;let#[x,H1,c,d,e]:=b;show Constant_none\is_none_gen #[.bl _,H1,c,by rw[d.none_iff];rfl,e]
def tBB(Q:Bool->Hp->Prop)(x:V)(H1:Hp)(c:Bool):Prop:=x=.bl c/\Q c H1
def tBK(Q:Bool->Hp->Prop):VK:=λx H1=>Exists\tBB Q x H1
def tB(t:TE):TT:=λZ H Q=>t Z H\tBK Q
def BV{op:CmpOp}(h:PC X op a b t)(h1:rp op b=hB:=by first|exact nobehind _ ⋯ ⋯ | rfl):PE X (.Compare a [op] [b] pos) t:=λSn s Z H Q I hw=>QN (h Sn s Z H Q I hw) h1
def gY{op:CmpOp}(h:PC X op a b t)(h1:rp op b=hB:=by first|exact nobehind _ ⋯ ⋯ | rfl):PT X (.Compare a [op] [b] pos) (tB t):=by lk;intro Q I hw;refine QX (thn (h Sn s Z H _ I hw) λv s1 h1=>thn h1 λu s2 h2=>thn h2 λc l e=>?_) h1;let#[x,H1,f,g,j]:=e;let#[d,1,q]:=j;cases g;exact iI #[H1,f,q]
def dW(h:PE X e t)(he:∀whole,isTrue e X.env whole=(do let v <-whole;standAt e.pos;holding [v]\truthy v):=by intro _;rfl):PT X e (tB t):=by lk;intro Q I hw;show isTrue_plain (thn (h Sn s Z H _ I hw) λv s1 ⟨x,H1,I1,r1,q1⟩=>?_)\he _;let#[d,1,q]:=q1;cases r1;show iI #[H1,I1,q]
variable {tA tB':TT}{rest:-mR}
def wk(u:TT)(Z:St)(Q:Bool->Hp->Prop):Bool->Hp->Prop:=λc H1=>if c=gm then u Z H1 Q else Q hB H1
def tAnd(t u:TT):TT:=λZ H Q=>t Z H\wk u Z Q
def oR(u:TT)(Z:St)(Q:Bool->Hp->Prop):Bool->Hp->Prop:=λc H1=>if c=gm then Q gm H1 else u Z H1 Q
def tOr(t u:TT):TT:=λZ H Q=>t Z H\oR u Z Q
def my(Q:Bool->Hp->Prop):Bool->Hp->Prop:=λc H1=>Q (!c) H1
def tNot(t:TT):TT:=λZ H Q=>t Z H\my Q
def fZ(ha:PT X a tA):PW X (.BoolOp .And [a] pos) tA:=by
 intro b Sn s Z H Q I h;show isTrue_and (thn (ha Sn s Z H Q I h) λc s1 e=>?_);cases c with
 |true=>show isTrue_and_nil e
 |false=>show e
def iT(ha:PT X a tA):PW X (.BoolOp .Or [a] pos) tA:=by
 intro b Sn s Z H Q I h;show isTrue_or (thn (ha Sn s Z H Q I h) λc s1 e=>?_);cases c with
 |false=>show isTrue_or_nil e
 |true=>show e
def fQ(ha:PT X a tA)(f:PW X (.BoolOp .And (b::rest) pos) tB'):PW X (.BoolOp .And (a::b::rest) pos) (tAnd tA tB'):=by
 intro g Sn s Z H Q I h;show isTrue_and (thn (ha Sn s Z H _ I h) λc s1 ⟨H1,d,e⟩=>?_);cases c with
 |true=>show f g Sn s1 Z H1 Q d e
 |false=>erw[H1,d,e]
def iz(ha:PT X a tA)(f:PW X (.BoolOp .Or (b::rest) pos) tB'):PW X (.BoolOp .Or (a::b::rest) pos) (tOr tA tB'):=by
 intro g Sn s Z H Q I h;show isTrue_or (thn (ha Sn s Z H _ I h) λc s1 ⟨H1,d,e⟩=>?_);cases c with
 |true=>erw[H1,d,e]
 |false=>show f g Sn s1 Z H1 Q d e
def fR(ha:PT X a tA):PT X (.UnaryOp .Not a pos) (tNot tA):=by lk;intro Q I h;show isTrue_not\ha Sn s Z H (λc H1=>Q (!c) H1) I h
def NI(ta tb:TE):TE:=λZ H Q=>ta Z H λx H1=>∃c,x=.bl c/\if c=gm then tb Z H1 Q else Q (.bl hB) H1
def Na(tb:TE)(Z:St)(Q:VK)(x:V)(H1:Hp)(c:Bool):Prop:=x=.bl c/\if c=gm then Q (.bl gm) H1 else tb Z H1 Q
def M_(tb:TE)(Z:St)(Q:VK):VK:=λx H1=>Exists\Na tb Z Q x H1
def wF(ta tb:TE):TE:=λZ H Q=>ta Z H\M_ tb Z Q
def Nb(ta:TE):TE:=λZ H Q=>ta Z H λx H1=>∃c,x=.bl c/\Q (.bl (!c)) H1
def mh{op}(h:PE X a t):PE X (.BoolOp op [a] pos) t:=λSn s Z H Q I hw=>BoolOp_one\h Sn s Z H Q I hw
def ml(ha:PE X a ta)(f:PE X (.BoolOp .And (b::rest) pos) tb):PE X (.BoolOp .And (a::b::rest) pos) (NI ta tb):=by
 lk;intro Q I h;show BoolOp_and (thn (ha Sn s Z H _ I h) λv s1 g=>?_);let#[x,H1,e,j,d]:=g;let#[c,1,d]:=d;cases j;show iI ?_;cases c with
 |true=>show f Sn s1 Z H1 Q e d
 |false=>erw[.bl hB,H1,e,1,d]
def CA(ha:PE X a ta)(f:PE X (.BoolOp .Or (b::rest) pos) tb):PE X (.BoolOp .Or (a::b::rest) pos) (wF ta tb):=by
 lk;intro Q I h;show BoolOp_or (thn (ha Sn s Z H _ I h) λv s1 g=>?_);let#[x,H1,e,j,d]:=g;let#[c,1,d]:=d;cases j;show iI ?_;cases c with
 |false=>show f Sn s1 Z H1 Q e d
 |true=>erw[.bl gm,H1,e,1,d]
def LZ(ha:PE X a ta):PE X (.UnaryOp .Not a pos) (Nb ta):=by lk;intro Q I h;show UnaryOp_ (thn (ha Sn s Z H _ I h) λv s1 d=>?_);let#[x,H1,e,f,b]:=d;let#[c,1,b]:=b;cases f;show not_of\iI #[.bl (!c),H1,e,1,b]
def tIf(t:TT)(ta tb:TE):TE:=λZ H Q=>t Z H λc H1=>if c=gm then ta Z H1 Q else tb Z H1 Q
def z8(g:PT X c tA)(ha:PE X a ta)(j:PE X b tb):PE X (.IfExp c a b pos) (tIf tA ta tb):=by
 lk;intro Q I h;show wpAny_IfExp (thn (g Sn s Z H _ I h) λd s1 ⟨H1,e,f⟩=>?_);cases d with
 |true=>show ha Sn s1 Z H1 Q e f
 |false=>show j Sn s1 Z H1 Q e f
end
end L2
namespace L2
open PySem PySem.Spec PyProof.Rows
def SqL(K:W.Frag)(H:Hp)(a:i4)(xs:-V):Prop:=
 Rd H a (.a xs) \/
  ∃(o:Obj)(b:Array hK)(n:Nat),K.lookup a*>o/\o.cls=.t ↑25/\o.dict=gf/\o.data=.e b n/\b.size<=js/\Vals xs b.toList
def SqT(K:W.Frag)(H:Hp)(a:i4)(xs:-V):Prop:=
 Rd H a (.u xs) \/
  ∃(o:Obj)(b:Array hK)(n:Nat),K.lookup a*>o/\o.cls=.t ↑16/\o.data=.e b n/\b.size<=js/\Vals xs b.toList
def absV:hK->Option V
 |.none=>gh .non
 |.bool b=>gh\.bl b
 |.int i _=>gh\.i i
 |.str x _=>gh\.s x
 |.bytes b _=>gh\.byt b
 |.float b _=>gh\.flt b
 |.ref a=>gh\.r a
 |.type n=>gh\.ty n
 |_=>gf
def aC.abs(r:aC x u):absV u*>x:=by
 cases x with
 |non=>cases r;rfl
 |bl _=>cases r;rfl
 |int _=>let#[t,1]:=r;rfl
 |str _=>let#[t,1]:=r;rfl
 |byt _=>let#[t,1]:=r;rfl
 |flt _=>let#[t,1]:=r;rfl
 |ref _=>cases r;rfl
 |ty _=>cases r;rfl
def aC.inj(r:aC x u)(q:aC y u):x=y:=eB\r.abs.symm.trans q.abs
def Vals.inj{xs:-V}(h:Vals xs us)(h':Vals ys us):xs=ys:=by
 induction h generalizing ys with
 |nil=>cases h';rfl
 |cons r t a=>cases h' with
  |cons b t'=>rw[r.inj b,a t']
section
variable {a:i4}{xs ys:-V}
def SqL.of(h:H a*>.a xs):SqL K H a xs:=.l\.l h
def SqT.of(h:H a*>.u xs):SqT K H a xs:=.l\.l h
def Inv.list(I:!Inv H s)(h:SqL [] H a xs):∃b:-hK,Vals xs b/\PlainL s.heap a b.toArray/\↑xs<=sizeLine:=by
 rcases h with h|⟨o,b,n,c,d,hd,f,hz,r⟩
 .let#[z,b,n,r,e]:=h.ok I.hok;erw[b,r,#[_,n,e,5,1],z]
 cases c
def Inv.tuple(I:!Inv H s)(h:SqT [] H a xs):∃b:-hK,Vals xs b/\IsTup s.heap a b.toArray/\↑xs<=sizeLine:=by
 rcases h with h|⟨o,b,n,c,d,e,hz,r⟩
 .let#[#[z,_],b,r,p]:=h.ok I.hok;erw[b,r,p,z]
 cases c
def Inv.list_inj(I:!Inv H s)(h:SqL [] H a xs)(h':SqL [] H a ys):xs=ys:=by
 let#[c,r,#[o,n,e,0,d],_]:=I.list h;let#[its',f,#[o',j,b,0,d'],_]:=I.list h';rw[e] at b;cases b;rw[d] at d';injection d' with g _;have:c=its':=‹congrArg Array.toList g›
 subst this;show r.inj f
def Inv.tuple_inj(I:!Inv H s)(h:SqT [] H a xs)(h':SqT [] H a ys):xs=ys:=by
 let#[c,r,#[o,e,_,n,d],_]:=I.tuple h;let#[its',f,#[o',b,_,j,d'],_]:=I.tuple h';rw[e] at b;cases b;rw[d] at d';injection d' with g _;have:c=its':=‹congrArg Array.toList g›
 subst this;show r.inj f
end
abbrev Cx.wish(X:Cx)(E:hK->ij->Prop):Cx:={X with xe:=E}
abbrev Cx.nox(X:Cx):Cx:=X.wish λ_ _=>False
def Cx.Ok.wish(ok:X.Ok)(E:hK->ij->Prop):(X.wish E).Ok:=
 #[ok.mod,ok.kind,ok.glob,ok.blt,ok.above,ok.inj,ok.has,ok.cab,ok.hd,ok.frames,ok.stk,ok.exf,ok.bs,ok.bsz,ok.noex,ok.exfs,ok.funs,ok.frf]
def Cx.Ok.unwish(ok:(X.wish E).Ok):X.Ok:=
 #[ok.mod,ok.kind,ok.glob,ok.blt,ok.above,ok.inj,ok.has,ok.cab,ok.hd,ok.frames,ok.stk,ok.exf,ok.bs,ok.bsz,ok.noex,ok.exfs,ok.funs,ok.frf]
section
def Inv.wish(I:!Inv H s)(E:hK->ij->Prop):Inv (X.wish E) Sn Z H s:=#[I.ok.wish E,I.os,I.bare,I.base,I.loc,I.cell,I.free,I.freeC,I.pin,I.hok,I.len]
def Inv.unwish(I:Inv (X.wish E) Sn Z H s):!Inv H s:=#[I.ok.unwish,I.os,I.bare,I.base,I.loc,I.cell,I.free,I.freeC,I.pin,I.hok,I.len]
def SP.unwish{f:Flow}(h:SP (X.wish E) Sn D f s'):SP X Sn D f s':=by
 cases f with
 |next=>let#[Z',H',I,q]:=h;erw[Z',H',I.unwish,q]
 |brk=>let#[Z',H',I,q]:=h;erw[Z',H',I.unwish,q]
 |cont=>let#[Z',H',I,q]:=h;erw[Z',H',I.unwish,q]
 |ret u=>let#[v,Z',H',I,r,q]:=h;erw[v,Z',H',I.unwish,r,q]
def PSs.nox{st:-mT}(h:PSs X.nox st t):PSs X st t:=λSn s Z H D I hw=>
 bU (h Sn s Z H D (I.wish _) hw) (λ_ _ q=>q.unwish) λ_ _ z=>False.elim z
end
section
variable {st:mT}{rest:-mT}{t u:TS}{e:mR}{te:TE}{pos:Pos}
def Nc:TS:=λD Z H=>D.nx Z H
def wD(t u:TS):TS:=λD Z H=>t {D with nx:=u D} Z H
def ba:PSs X [] Nc:=λ_ _ Z H _ I h=>pT #[Z,H,I,h]
def af(h1:PS X st t)(h2:PSs X rest u):PSs X (st::rest) (wD t u):=by
 lk;intro D I h;show QT (thn (h1 Sn s Z H {D with nx:=u D} I h) λf s1 q=>?_);cases f with
 |next=>
  let#[Z',H',a,q]:=q;show h2 Sn s1 Z' H' D a q
 |ret v=>show q
 |brk=>show q
 |cont=>show q
def aj(h1:PS X st t):PSs X [st] t:=by
 lk;intro D I h;show QT (thn (h1 Sn s Z H D I h) λf s1 q=>?_);cases f with
 |next=>show pT q
 |ret v=>show q
 |brk=>show q
 |cont=>show q
def NG:TS:=λD Z H=>D.ct Z H
def Eo:PS X (.Continue pos) NG:=λ_ _ Z H _ I h=>wpAny_Continue #[Z,H,I,h]
def Inv.quiet(I:!Inv H s):interactive X.env=hB:=by simp[interactive,I.ok.kind]
def K8(D:Ends)(Z:St):VK:=λ_ H1=>D.nx Z H1
def Nl(te:TE):TS:=λD Z H=>te Z H\K8 D Z
def dN(he:PE X e te)(a:swapsWith e gf pos.line X.env=pure hB:=by rfl):PS X (.Expr e pos) (Nl te):=by lk;intro D I h;show wpAny_Expr_any (thn (he Sn s Z H _ I h) λv s1 ⟨x,H1,b,d,c⟩=>#[Z,H1,b,c]) I.quiet a
def tRet(te:TE):TS:=λD Z H=>te Z H D.rt
def aF(he:PE X e te):PS X (.Return (gh e) pos) (tRet te):=by lk;intro D I h;show wpAny_Return_some (thn (he Sn s Z H _ I h) λv s1 ⟨x,H1,a,b,c⟩=>#[x,Z,H1,a,b,c])
def tI(t u:TS)(D:Ends)(Z:St):Bool->Hp->Prop:=λb H1=>if b=gm then t D Z H1 else u D Z H1
def wG(c:TT)(t u:TS):TS:=λD Z H=>c Z H\tI t u D Z
def bf(g:PT X c tc)(ha:PSs X a t)(j:PSs X b u):PS X (.If c a b pos) (wG tc t u):=by
 lk;intro D I h;show wpAny_If (thn (g Sn s Z H _ I h) λd s1 ⟨H1,e,f⟩=>?_);cases d with
 |true=>show ha Sn s1 Z H1 D e f
 |false=>show j Sn s1 Z H1 D e f
end
abbrev TG:=V->St->Hp->(St->Hp->Prop)->Prop
abbrev TGs:=-V->St->Hp->(St->Hp->Prop)->Prop
def PG(X:Cx)(target:mR)(t:TG):Prop:=
 ∀(Sn:-(i4×Obj))(s:ij)(Z:St)(H:Hp)(v:V)(u:hK)(Q:St->Hp->Prop),!Inv H s->aC v u->t v Z H Q->
  jl ⇑X X.A (assign target X.env u) (λ_ s'=>∃Z' H',Inv X Sn Z' H' s'/\Q Z' H') X.xe s
def PGs(X:Cx)(ts:-mR)(t:TGs):Prop:=
 ∀(Sn:-(i4×Obj))(s:ij)(Z:St)(H:Hp)(vs:-V)(us:-hK)(Q:St->Hp->Prop),!Inv H s->Vals vs us->t vs Z H Q->
  jl ⇑X X.A (assignInOrder ((assignEach ts X.env).map (·.2)) us) (λ_ s'=>∃Z' H',Inv X Sn Z' H' s'/\Q Z' H') X.xe s
abbrev TSet:=V->V->V->Hp->(Hp->Prop)->Prop
def PSet(X:Cx)(t:TSet):Prop:=
 ∀(Sn:-(i4×Obj))(s:ij)(Z:St)(H:Hp)(o i v:V)(ov a u:hK)(Q:Hp->Prop),!Inv H s->aC o ov->aC i a->aC v u->t o i v H Q->
  jl ⇑X X.A (setItem ov a u) (λ_ s'=>∃H',!Inv H' s'/\Q H') X.xe s
section
variable {pos:Pos}
def dv(i:Nat):TG:=λv Z H Q=>Q (Z.set i\gh v) H
def JS{i:Nat}{x:Str}(a:X.N.Nodup)(hi:X.N[i]?*>x)(hx:Loc X.env.scope x)(hf:X.fn x=gm\/X.env.scope.names.lookup x*>.local:=by first|exact .l rfl|exact .o rfl|assumption):PG X (.n x pos) (dv i):=by lk;intro v u Q I r h;exact QR\j4 I a hi hx r (λs' b=>#[_,H,b,h]) hf
def gx(i:Nat){x:Str}(a:X.N.Nodup)(hi:X.N[i]?*>x:=by rfl)(hx:Loc X.env.scope x:=by first|exact .l rfl|exact .o rfl)(hf:X.fn x=gm\/X.env.scope.names.lookup x*>.local:=by first|exact .l rfl|exact .o rfl|assumption):PG X (.n x pos) (dv i):=JS a hi hx hf
def kI:TGs:=λvs Z H Q=>vs=[]/\Q Z H
def MC(u:TGs)(r:-V)(Q:St->Hp->Prop):St->Hp->Prop:=λZ' H'=>u r Z' H' Q
def ME(t:TG)(u:TGs)(vs:-V)(Z:St)(H:Hp)(Q:St->Hp->Prop)(v:V)(r:-V):Prop:=vs=v::r/\t v Z H\MC u r Q
def fU(t:TG)(u:TGs):TGs:=λvs Z H Q=>Exists\Ex2 (ME t u vs Z H Q)
def dh:PGs X [] kI:=by lk;intro vs us Q I r h;let#[e,h]:=h;subst e;cases r;show Qu #[Z,H,I,h]
def aY(h1:PG X e t)(h2:PGs X es u)
  (a:(assignEach (e::es) X.env).map (·.2)=assign e X.env::(assignEach es X.env).map (·.2):=by rfl):PGs X (e::es) (fU t u):=by
 lk;intro vs us Q I r h;let#[v,vr,b,h]:=h;subst b;cases r with
 |cons r c=>
  rw[a];show Dx (thn (h1 Sn s Z H _ _ _ I r h) λ_ s1 ⟨d,H1,f,g⟩=>?_);show h2 Sn s1 d H1 _ _ Q f c g
def OA(K:W.Frag)(n:Nat)(t:TGs)(v:V)(Z:St)(H:Hp)(Q:St->Hp->Prop)(a:i4)(xs:-V):Prop:=v=.r a/\SqT K H a xs/\↑xs=n/\t xs Z H Q
def kH(K:W.Frag)(n:Nat)(t:TGs):TG:=λv Z H Q=>Exists\Ex2 (OA K n t v Z H Q)
def du{k:Nat}(d:X.calm=gm)(h:PGs X es t)
  (f:↑(assignEach es X.env)=↑es:=by rfl) (g:(assignEach es X.env).findIdx? (·.1)=gf:=by rfl):PG X (.Tuple es k pos) (kH [] ↑es t):=by
 lk;intro v u Q I r hw;let#[a,xs,j,l,m,hw]:=hw;subst j;cases r;let#[q,c,n,hz]:=I.tuple l;show assign_Tuple_tuple (I.ok.hd d) n (by simp[f,<-m,(↑c)]) g λh' hx=>?_;let p:!Inv H {s with heap:=h'}:=I.kept (t':=s.toks) λb o e=>hx b o (bD\aJ e) e;show h Sn _ Z H xs _ Q p ‹c› hw
def OB(t:TSet)(o v:V)(Z:St)(Q:St->Hp->Prop):VK:=λi H2=>t o i v H2\Q Z
def OC(a:TE)(t:TSet)(v:V)(Z:St)(Q:St->Hp->Prop):VK:=λo H1=>a Z H1\OB t o v Z Q
def gSub(to a:TE)(t:TSet):TG:=λv Z H Q=>to Z H\OC a t v Z Q
def v9{t:TSet}(ho:PE X o to)(hi:PE X i ti)(hs:PSet X t)
  (ha:∀v,assign (.Subscript o i pos) X.env v=(do
   let ov <-holding [v] (nH o X.env)
   let iv <-holding [v,ov] (nH i X.env)
   standAt pos
   holding [v,ov,iv] (setItem ov iv v)
   release [v,ov,iv] []):=by intro _;rfl):PG X (.Subscript o i pos) (gSub to ti t):=by
 lk;intro v u Q I r h;rw[ha];show aa\cY (thn (ho Sn s Z H _ I h) λov s1 hZQ=>?_);let#[x,H1,I1,r1,q1]:=hZQ;show aa\cY (thn (hi Sn s1 Z H1 _ I1 q1) λiv s2 hZQ=>?_);let#[y,H2,I2,r2,q2]:=hZQ;show aa\k_ (aa\cY (thn (hs Sn s2 Z H2 x y v ov iv u _ I2 r1 r2 r q2) λ_ s3 ⟨H3,I3,q3⟩=>?_));show wpAny_release #[Z,H3,I3,q3]
def NH(g:TG)(D:Ends)(Z:St):VK:=λx H1=>g x Z H1 D.nx
def oS(te:TE)(g:TG):TS:=λD Z H=>te Z H\NH g D Z
def fD(he:PE X e te)(a:PG X tg g)(b:swapsWithSole [tg] e pos.line X.env=pure hB:=by rfl)(hw:swappedStores [tg] e X.env=pure gf:=by rfl)
  (h1:(assignEach [tg] X.env).map (·.2)=[assign tg X.env]:=by rfl):PS X (.Assign [tg] e pos) (oS te g):=by
 lk;intro D I h;show wpAny_Assign_stores (thn (he Sn s Z H _ I h) λv s1 c=>?_) b hw;let#[x,H1,d,f,j]:=c;rw[h1];show thn (a Sn s1 Z H1 x v _ d f j) λ_ s2 q=>q
def kj{i:Nat}{x:Str}{pos':Pos}(a:X.N.Nodup)(hi:X.N[i]?*>x)(hx:Loc X.env.scope x)(he:PE X e te)(b:swapsWith e (gh\.n x pos') pos.line X.env=pure hB:=by rfl)(hf:X.fn x=gm\/X.env.scope.names.lookup x*>.local:=by first|exact .l rfl|exact .o rfl|assumption):
  PS X (.Assign [.n x pos'] e pos) (oS te\dv i):=by
 lk;intro D I h;show wpAny_Assign_Name (thn (he Sn s Z H _ I h) λv s1 c=>?_) b;let#[y,H1,d,f,g]:=c;show j4 d a hi hx f (λs2 j=>#[_,H1,j,g]) hf
def sx(i:Nat){x:Str}{pos':Pos}(a:X.N.Nodup)(he:PE X e te)(hi:X.N[i]?*>x:=by rfl)(hx:Loc X.env.scope x:=by first|exact .l rfl|exact .o rfl)(b:swapsWith e (gh\.n x pos') pos.line X.env=pure hB:=by rfl)(hf:X.fn x=gm\/X.env.scope.names.lookup x*>.local:=by first|exact .l rfl|exact .o rfl|assumption):PS X (.Assign [.n x pos'] e pos) (oS te\dv i):=kj a hi hx he b hf
def tPar(i j:Nat)(ta:TA):TS:=λD Z H=>ta Z H λvs H1=>∃v w,vs=[v,w]/\D.nx ((Z.set i\gh v).set j\gh w) H1
def LV{i j:Nat}{x y:Str}{a b:mR}{ta:TA}{px py pt:Pos}{kt k2 pt2}(hc:X.calm=gm)(hN:X.N.Nodup)(hi:X.N[i]?*>x)(hj:X.N[j]?*>y)(hij:i≠j)
  (hx:X.env.scope.names.lookup x*>.local) (hy:X.env.scope.names.lookup y*>.local) (ha:PA X [a,b] ta)
  (hw:swappedStores [.Tuple [.n x px,.n y py] kt pt] (.Tuple [a,b] k2 pt2) X.env=pure\gh [x,y])
  (hs:swapsWithSole [.Tuple [.n x px,.n y py] kt pt] (.Tuple [a,b] k2 pt2) pos.line X.env=pure hB:=by rfl) :
  PS X (.Assign [.Tuple [.n x px,.n y py] kt pt] (.Tuple [a,b] k2 pt2) pos) (tPar i j ta):=by
 lk;intro D I h;rw[exec_Assign_arm];show aa\k_ ?_;rw[hs];show aa\ai ?_;rw[Sg ⋯];show aa\Tuple_ (thn (ha _ Sn s Z H _ I h) λus s1 hZQ=>?_);let#[vs,H1,I1,r1,q1]:=hZQ;let#[v,w,e1,q1]:=q1;subst e1;let#[u1,u2,1,rv,rw']:∃u1 u2,us=[u1,u2]/\aC v u1/\aC w u2:=by
  cases r1 with
  |cons p q=>
   cases q with
   |cons p' q'=>
    cases q';erw[9,p,p']
 show e_ ?_ (by change 2<=js;decide);let I2:!Inv H1 {s1 with heap:=s1.heap.push {cls:=.t ↑16,data:=.e [u1,u2].toArray}}:=I1.kept (t':=s1.toks) λb o e=>aP _ e;rw[hw];show aa\ai ?_;change jl ⇑X X.A (do rule "assign.swapped-stores";let items <-unpackItems (.r ↥s1) 2 gf;assignInOrder [λv=>bindName X.env y v,λv=>bindName X.env x v] items.reverse;pure Flow.next) _ _ _;show aa\ur (aa (unpackItems_tuple (items:=(tA [u1,u2])) (I.ok.hd hc) (wV s1.heap _) λh' hx'=>?_));let I3:=I2.kept (h':=h') (t':=s1.toks) λb o e=>hx' b o (bD\aJ e) e;change jl _ _ (assignInOrder [λv=>bindName X.env y v,λv=>bindName X.env x v] [u2,u1] >>= λ_=>pure Flow.next) _ _ _;show aa\Dx (DG\j4 I3 hN hj (.l hy) rw' (λs2 I4=>?_) (.o hy));show Dx\DG (j4 I4 hN hi (.l hx) rv (λs3 I5=>Qu\ai ?_)\.o hx);rw[List.set_comm>>(aB hij)] at I5;erw[_,H1,I5,q1]
end
section
variable {pos:Pos}
def tWhN(tb:TS)(D:Ends)(W:Nat->St->Hp->Prop)(m:Nat)(Z:St)(H1:Hp)(N:St->Hp->Prop):Prop:=(∀Z' H',N Z' H'->∃a,a<m/\W a Z' H')/\tb {D with nx:=N,ct:=N,bk:=D.nx} Z H1
def tWhK(tb:TS)(D:Ends)(W:Nat->St->Hp->Prop)(m:Nat)(Z:St):Bool->Hp->Prop:=λb H1=>if b=gm then Exists (tWhN tb D W m Z H1) else D.nx Z H1
def tWhB(c:TT)(tb:TS)(D:Ends)(Z:St)(H:Hp)(W:Nat->St->Hp->Prop):Prop:=(∃m,W m Z H)/\∀m Z H,W m Z H->c Z H\tWhK tb D W m Z
def vQ(c:TT)(tb:TS):TS:=λD Z H=>Exists\tWhB c tb D Z H
def j5(q:PassesOwn ⇑X X.A X.env X.xe)(x:PT X c tc)(y:PSs X body tb):PS X (.While c body [] pos) (vQ tc tb):=by
 lk;intro D I h;let#[W,#[m0,z],turn]:=h;show wpAny_While\codeAny_whileLoop (λn s'=>∃Z' H',Inv X Sn Z' H' s'/\W n Z' H') ?_ m0 #[Z,H,I,z];rintro n s1 ⟨e,H1,B,C⟩;show nC q (thn (x Sn s1 e H1 _ B\turn n e H1 C) λb s2 ⟨H2,r,g⟩=>?_);cases b with
 |true=>
  let#[N,u,g]:=g;rw[Sh rfl];show nC q (thn (y Sn s2 e H2 _ r g) λf E j=>?_);cases f with
  |next=>
   let#[a,d,l,m]:=j;let#[o,hm,p]:=u a d m;erw[o,hm,a,d,l,p]
  |cont=>
   let#[a,d,l,m]:=j;let#[o,hm,p]:=u a d m;erw[o,hm,a,d,l,p]
  |brk=>show j
  |ret v=>show j
 |false=>
  rw[Sg bH];show pT #[e,H2,r,g]
end
structure It where
 go:Nat->Hp->Prop
 yld:Nat->Hp->V->Hp->Prop
 stop:Nat->Hp->Prop
def bV(X:Cx)(Sn:-(i4×Obj))(H:Hp)(b:i4):Prop:=
 H b=gf/\b≠X.env.locals/\b∉X.fs/\(b∈X.ex\/X.s₀.heap.objs.size<=b)/\(∀x c,X.env.cells.lookup x*>c->c≠b)/\∀p∈X.pn++Sn,p.1≠b
def Inv.fpOk{b:i4}(I:!Inv H s)(a:↥s<=b)(d:H' b=gf):bV X Sn H' b:=by
 erw[d,kP\bW I.lt a,I.nofs a,.o\cQ I.sz a,λx c e z=>?_,λp f z=>?_]
 .let#[v,q]:=I.cell x c e;show absurd (bW q.lt (by rw[z];show a))\dG _
 show absurd (bW (aJ (I.pin p f).1) (by rw[z];show a))\dG _
structure Turn(P:lu)(w:n7)(K:W.Frag)(tg:mR)(J:It)(fp:-i4)(it:i4)(tn:Nat->mu->Prop):Prop where
 mem:it∈fp
 obj:∀i h,tn i h->∀b∈fp,∃o,h.get? b*>o/\∀v,o.data≠.cell v
 keep:∀i h h',tn i h->(∀b∈fp,∀o,h.get? b*>o->h'.get? b*>o)->tn i h'
 item:∀(X:Cx),X.prog=P->X.w=w->X.K=K->X.calm=gm->∀(i:Nat)(Sn:-(i4×Obj))(s:ij)(Z:St)(H:Hp)(E:hK->ij->Prop),!Inv H s->(∀b∈fp,bV X Sn H b)->tn i s.heap->J.go i H->
  jl (kC P w) X.A (pS\.r it) (λr s1=>∃u,r*>u/\
   jl (kC P w) X.A (letOwnedTupleGo tg (.r it) u) (λ_ s2=>∃x H',!Inv H' s2/\aC x u/\J.yld i H x H'/\tn (i+1) s2.heap/\∀b∈fp,H' b=gf) E s1) E s
 done:∀(X:Cx),X.prog=P->X.w=w->X.K=K->X.calm=gm->∀(i:Nat)(Sn:-(i4×Obj))(s:ij)(Z:St)(H:Hp)(E:hK->ij->Prop),!Inv H s->(∀b∈fp,bV X Sn H b)->tn i s.heap->J.stop i H->
  jl (kC P w) X.A (pS\.r it) (λr s1=>r=gf/\!Inv H s1) E s
 self:∀(A:ro)(i:Nat)(s:ij)(Q:hK->ij->Prop)(E:hK->ij->Prop),tn i s.heap->Q (.r it) s->jl (kC P w) A (pyIter\.r it) Q E s
abbrev TI:=St->Hp->(It->Hp->Prop)->Prop
def PIE(X:Cx)(Sn:-(i4×Obj))(Z:St)(tg:mR)(R:It->Hp->Prop)(a:hK)(s2:ij):Prop:=
 ∃(it:i4)(fp:-i4)(tn:Nat->mu->Prop)(J:It)(H':Hp),a=.r it/\!Inv H' s2/\Turn X.prog X.w X.K tg J fp it tn/\tn 0 s2.heap/\(∀b∈fp,bV X Sn H' b)/\R J H'
def PI(X:Cx)(tg iter:mR)(wi:TI):Prop:=
 ∀(Sn:-(i4×Obj))(s:ij)(Z:St)(H:Hp)(R:It->Hp->Prop),!Inv H s->wi Z H R->
  jl ⇑X X.A (nH iter X.env) (λv s1=>jl ⇑X X.A (pyIter v) (PIE X Sn Z tg R) X.xe s1) X.xe s
def tq{M:Model}{tg:mR}{it:i4}{u:hK}{o:Obj}{n:String}{vs:Array hK}{Q:Unit->ij->Prop}(b:s.heap.get? it*>o)(c:o.cls=.t n)(hd:o.data=.d vs)
  (d:[↑73,"zip",↑14,"dict_reverseitemiterator","odict_iterator","itertools.zip_longest","itertools.pairwise"].contains n=hB) (a:Q .unit s):jl M A (letOwnedTupleGo tg (.r it) u) Q E s:=by
 unfold letOwnedTupleGo;cases tg<;>first
  |show ai a
  |(cases u<;>first
    |show ai a
    |(show aa (wpAny_load b ?_)
      rw[c,hd];change jl M A (if ([↑73,"zip",↑14,"dict_reverseitemiterator","odict_iterator","itertools.zip_longest","itertools.pairwise"].contains n&&vs[0]?==gh\p6 _)=gm then _ else _) Q E s;rw[Sg (by intro h;rw[d,Bool.false_and] at h;cases h)];show ai a))
def Itl(K:W.Frag)(a:i4):It:=
 #[λi H=>∃xs x,SqL K H a xs/\xs[i]?*>x,λi H x H'=>H'=H/\∀xs,SqL K H a xs->xs[i]?*>x,λi H=>∃xs,SqL K H a xs/\↑xs<=i]
def Itt(K:W.Frag)(a:i4):It:=
 #[λi H=>∃xs x,SqT K H a xs/\xs[i]?*>x,λi H x H'=>H'=H/\∀xs,SqT K H a xs->xs[i]?*>x,λi H=>∃xs,SqT K H a xs/\↑xs<=i]
def Itr(lo:Int)(n:Nat):It:=#[λi _=>i<n,λi H x H'=>H'=H/\x=.i (lo+i),λi _=>n<=i]
def Fe(a it:i4):Turn P w K tg (Itl [] a) [it] it (λi h=>h.IsListIter it a i) where
 mem:=∅
 obj:=λi h st b f=>by
  let e:b=it:=‹f›
  subst e;let#[o,e,c,d]:=st;erw[o,e,λv z=>by rw[d] at z;cases z]
 keep:=λi h h' st k=>st.at λo e=>k it ∅ o e
 item:=by intro X j hw l C i Sn s Z H E I hf st m;subst j hw l;let#[xs,x,g,hx]:=m;let#[L,n,p,hz]:=I.list g;let#[u,M,N]:=n.get hx;let#[q,r,O,y,A,B]:=hf it ∅;show Q7 st p.isList (x:=u) ‹M› λh' D sb=>?_;let Q:!Inv H {s with heap:=h'}:=I.turned (t':=s.toks) (λb o f e=>(sb.2 b f)<*e) q r y A B;let#[o,e,c,d]:=id D;erw[u,1,tq (s:={s with heap:=h'}) e c d ⋯ #[x,H,Q,N,#[1,λys R=>by rw[I.list_inj R g];show hx],D,λb f=>(hf b f).1]]
 done:=by intro X j hw l C i Sn s Z H E I hf st m;subst j hw l;let#[xs,g,hx]:=m;let#[L,n,p,hz]:=I.list g;let#[q,r,O,y,A,B]:=hf it ∅;let T:=↑n;show Q6 (I.ok.hd C) st p.isList (by simp;lia) λh' S=>#[1,I.turned (t':=s.toks) (λb o f e=>S b o f e) q r y A B]
 self:=λ_ _ _ _ _ st h=>wpAny_pyIter_listiter st h
def EB(a it:i4):Turn P w K tg (Itt [] a) [it] it (λi h=>h.IsTupleIter it a i) where
 mem:=∅
 obj:=λi h st b f=>by
  let e:b=it:=‹f›
  subst e;let#[o,e,c,d]:=st;erw[o,e,λv z=>by rw[d] at z;cases z]
 keep:=λi h h' st k=>st.at λo e=>k it ∅ o e
 item:=by intro X j hw l D i Sn s Z H E I hf st m;subst j hw l;let#[xs,x,g,hx]:=m;let#[n,q,p,hz]:=I.tuple g;let#[u,M,N]:=q.get hx;let#[r,y,O,A,B,C]:=hf it ∅;show wpAny_pyNext_tuple_item st (show s.heap.IsTuple a n.toArray from p) (x:=u) ‹M› λh' L sb=>?_;let Q:!Inv H {s with heap:=h'}:=I.turned (t':=s.toks) (λb o f e=>(sb.2 b f)<*e) r y A B C;let#[o,e,c,d]:=id L;erw[u,1,tq (s:={s with heap:=h'}) e c d ⋯ #[x,H,Q,N,#[1,λys R=>by rw[I.tuple_inj R g];show hx],L,λb f=>(hf b f).1]]
 done:=by intro X j hw l D i Sn s Z H E I hf st m;subst j hw l;let#[xs,g,hx]:=m;let#[n,q,p,hz]:=I.tuple g;let#[r,y,O,A,B,C]:=hf it ∅;let T:=↑q;show wpAny_pyNext_tuple_end (I.ok.hd D) st (show s.heap.IsTuple a n.toArray from p) (by simp;lia) λh' S=>#[1,I.turned (t':=s.toks) (λb o f e=>S b o f e) r y A B C]
 self:=λ_ _ _ _ _ st h=>wpAny_pyIter_tupleiter st h
def EC(it:i4)(lo:Int)(n:Nat):Turn P w K tg (Itr lo n) [it] it (λi h=>IsRangeIter h it (lo+(i:Nat)*1) ((n:Int)-(i:Nat)) 1) where
 mem:=∅
 obj:=λi h st b a=>by
  let e:b=it:=‹a›
  subst e;erw[_,st,λv z=>by
   let u:Data.fields _=Data.cell v:=z;cases u]
 keep:=λi h h' st k=>k it ∅ _ st
 item:=by intro X c hw d f i Sn s Z H E I hf st g;subst c hw d;let#[j,l,x,m,p,q]:=hf it ∅;let W:=Walks.range (prog:=X.prog) (w:=X.w) (I.ok.hd f) it lo 1 n;show W.item i s _ _ g st λv h' tk y r kk=>?_;let#[t,1]:=y;let A:!Inv H {s with heap:=h',toks:=tk}:=I.turned (λb o a e=>kk b o ‹a› e) j l m p q;erw[2,tq (s:={s with heap:=h',toks:=tk}) (n:="range_iterator") r rfl rfl ⋯ #[.i (lo+i),H,A,#[t,?_],#[5],r,λb a=>(hf b a).1]];rw[Int.mul_one]
 done:=by intro X c hw d f i Sn s Z H E I hf st g;subst c hw d;let#[j,l,x,m,p,q]:=hf it ∅;show wpAny_pyNext_range_end (I.ok.hd f) st (by have:n<=i:=g;lia) λh' B=>#[1,I.turned (t':=s.toks) (λb o a e=>B b o a e) j l m p q]
 self:=λ_ _ _ _ _ st h=>wpAny_pyIter_rangeiter st h
end L2
namespace L2
open PySem PySem.Spec PyProof.Rows
section
variable {tg:mR}
def Mx(K:W.Frag)(R:It->Hp->Prop)(x:V)(H1:Hp)(a:i4):Prop:=x=.r a/\(∃xs,SqL K H1 a xs)/\R (Itl K a) H1
def Mw(K:W.Frag)(R:It->Hp->Prop):VK:=λx H1=>Exists\Mx K R x H1
def Ow(K:W.Frag)(tl:TE):TI:=λZ H R=>tl Z H\Mw K R
def Ou(K:W.Frag)(R:It->Hp->Prop)(x:V)(H1:Hp)(a:i4):Prop:=x=.r a/\(∃xs,SqT K H1 a xs)/\R (Itt K a) H1
def Ot(K:W.Frag)(R:It->Hp->Prop):VK:=λx H1=>Exists\Ou K R x H1
def oY(K:W.Frag)(tl:TE):TI:=λZ H R=>tl Z H\Ot K R
def bT(d:PE X l tl):PI X tg l (Ow [] tl):=by
 lk;intro R I h;show thn (d Sn s Z H _ I h) λv s1 f=>?_;let#[x,H1,c,g,j]:=f;let#[a,e,#[xs,m],q]:=j;subst e;cases g;let#[r,u,p,hz]:=c.list m;show uq p.isList ?_;erw[↥s1,[↥s1],0,H1,1,c.kept (t':=s1.toks) λb o e=>aP _ e,Fe a _,#[_,bJ _ rfl,5],λb n=>?_,q];let e:b=↥s1:=‹n›
 subst e;show c.fpOk (ar _)\c.hok.fresh (ar _)
def l_(d:PE X l tl):PI X tg l (oY [] tl):=by
 lk;intro R I h;show thn (d Sn s Z H _ I h) λv s1 f=>?_;let#[x,H1,c,g,j]:=f;let#[a,e,#[xs,m],q]:=j;subst e;cases g;let#[n,u,p,hz]:=c.tuple m;show Q5 (show s1.heap.IsTuple a n.toArray from p) ?_;erw[↥s1,[↥s1],0,H1,1,c.kept (t':=s1.toks) λb o e=>aP _ e,EB a _,#[_,bJ _ rfl,5],λb r=>?_,q];let e:b=↥s1:=‹r›
 subst e;show c.fpOk (ar _)\c.hok.fresh (ar _)
def Hm{R:It->Hp->Prop}{lo hi:Int}{t u v:Tok}{tk:Nat}(I:!Inv H s)(h1:-(2 ^ 62)<=lo)(h2:lo<2 ^ 62)(c:-(2 ^ 62)<=hi)(d:hi<2 ^ 62)
  (q:R (Itr lo (hi-lo).toNat) H):jl ⇑X X.A (pyIter\.r ↥s) (PIE X Sn Z tg R) E {s with heap:=s.heap.push {cls:=.t "range",data:=.d\tA [.i lo t,.i hi u,.i 1 v]},toks:=tk}:=by
 show wpAny_pyIter_range (IsRange.new ..) (small_one h1 h2 c d) ?_;let a:!Inv H {s with heap:=s.heap.push {cls:=.t "range",data:=.d\tA [.i lo t,.i hi u,.i 1 v]},toks:=tk}:=I.kept λb o e=>aP _ e;erw[(s.heap.push {cls:=.t "range",data:=.d\tA [.i lo t,.i hi u,.i 1 v]}).objs.size,[(s.heap.push {cls:=.t "range",data:=.d\tA [.i lo t,.i hi u,.i 1 v]}).objs.size],0,H,1,
  a.kept (t':=tk) λb o e=>aP _ e,EC _ lo (hi-lo).toNat,?_,λb f=>?_,q]
 .let g:lo+((0:Nat):Int)*1=lo:=∅;let h:(((hi-lo).toNat:Nat):Int)-((0:Nat):Int)=Builtin.Range.rangeSize lo hi 1:=by rw[rangeSize_one];split<;>lia
  change IsRangeIter _ _ (lo+((0:Nat):Int)*1) ((((hi-lo).toNat:Nat):Int)-((0:Nat):Int)) 1;rw[g,h];show bJ _ rfl
 let e:b=(s.heap.push {cls:=.t "range",data:=.d\tA [.i lo t,.i hi u,.i 1 v]}).objs.size:=‹f›
 subst e;show a.fpOk (ar _)\a.hok.fresh (ar _)
def Mv(R:It->Hp->Prop)(vs:-V)(H1:Hp)(j:Int):Prop:=vs=[.i j]/\-(2 ^ 62)<=j/\j<2 ^ 62/\R (Itr 0 j.toNat) H1
def Mu(R:It->Hp->Prop):-V->Hp->Prop:=λvs H1=>Exists\Mv R vs H1
def Ov(ta:TA):TI:=λZ H R=>ta Z H\Mu R
def lB{a:mR}{p pos:Pos}(c:Gl X "range")(hm:X.mg "range" = gf)(ha:PA X [a] ta)(d:kA [a] X.env=[(hB,nH a X.env)]:=by rfl):PI X tg (.Call (.n "range" p) [a] [] pos) (Ov ta):=by
 lk;intro R I h;show Call_\jC I c hm boot_range (pH (thn (ha pos Sn s Z H _ I h) λus s1 ⟨vs,H1,f,g,b⟩=>?_) d rfl);let#[j,e,b,l,q]:=b;subst e;cases g with
 |cons r m=>
  cases m;let#[t,1]:=r;show call_range_1 (Hm f () () b l ‹q›)
def Ni(J:It)(g:TG)(tb:TS)(D:Ends)(W:Nat->Nat->St->Hp->Prop)(i m:Nat)(Z:St)(H:Hp)(N:St->Hp->Prop):Prop:=(∀Z' H',N Z' H'->∃a,a<m/\W (i+1) a Z' H')/\∀x H',J.yld i H x H'->g x Z H'\tb {D with nx:=N,ct:=N,bk:=D.nx}
def Nk(g:TG)(tb:TS)(D:Ends)(Z:St)(J:It)(H1:Hp)(W:Nat->Nat->St->Hp->Prop):Prop:=(∃m,W 0 m Z H1)/\∀i m Z H,W i m Z H->(J.stop i H/\D.nx Z H)\/(J.go i H/\Exists\Ni J g tb D W i m Z H)
def Nj(g:TG)(tb:TS)(D:Ends)(Z:St):It->Hp->Prop:=λJ H1=>Exists\Nk g tb D Z J H1
def tFor(wi:TI)(g:TG)(tb:TS):TS:=λD Z H=>wi Z H\Nj g tb D Z
def l9(fp:-i4)(h:mu):-(i4×Obj):=fp.filterMap λb=>(h.get? b).map λo=>(b,o)
def jY{fp:-i4}{h:mu}{b:i4}{o:Obj}(a:b∈fp)(e:h.get? b*>o):(b,o)∈l9 fp h:=xm.mpr #[b,a,by rw[e];rfl]
def FL{fp:-i4}{h:mu}{p:i4×Obj}(a:p∈l9 fp h):p.1∈fp/\h.get? p.1*>p.2:=by
 let#[b,c,e]:=xm.mp a;cases q:h.get? b with
 |none=>rw[q] at e;cases e
 |some o=>
  rw[q] at e;let d:(b,o)=p:=eB e;subst d;erw[c,q]
def Inv.pinned{fp:-i4}(I:!Inv H s)(hf:∀b∈fp,bV X Sn H b)(f:∀b∈fp,∃o,s.heap.get? b*>o/\∀v,o.data≠.cell v):Inv X (Sn++l9 fp s.heap) Z H s:=
 I.pins_of λp g=>(a9.mp g).elim (λz=>I.pin p\ft _ z) λz=>by
  let#[#[a,e],#[h,j,l,_],#[o,c,d]]:=#[FL z,hf p.1 a,f p.1 a];rw[e] at c;cases c;erw[e,h,j,l,d]
def Inv.unpinned{Sn pl:-(i4×Obj)}(I:Inv X (Sn++pl) Z H s):!Inv H s:=I.pins_of λp a=>I.pin p\ft _ (eK _ a)
def dD{wi:TI}{pos:Pos}(q:PassesOwn ⇑X X.A X.env X.xe)(M:X.calm=gm)(hi:PI X tg iter wi)(hg:PG X tg g)(a:PSs X body tb)
  (hs:∀x,foldedSetIterable iter X.env x=pure x:=by intro _;rfl):PS X (.For tg iter body [] pos) (tFor wi g tb):=by
 lk;intro D I h;show wpAny_For (thn (hi Sn s Z H _ I h) λv s1 h1=>thn h1 λam s2 h2=>?_) hs;let#[it,fp,tn,J,H2,e,I2,T,ab,O,W,#[m0,w0],turn]:=h2;subst e;let C:∀{H':Hp},(∀b∈fp,H' b=gf)->∀b∈fp,bV X Sn H' b:=λhn b a=>#[hn b a,(O b a).2];show codeAny_forLoop_any (λn s'=>∃i Z' H',Inv X Sn Z' H' s'/\tn i s'.heap/\(∀b∈fp,H' b=gf)/\W i n Z' H') ?_ m0 #[(0),Z,H2,I2,ab,λb a=>(O b a).1,w0];rintro n P ⟨i,y,B,Q,R,S,w3⟩;rcases turn i n y B w3 with ⟨stop,qn⟩|⟨go,N,hN,step⟩
 .refine nC q (thn (T.done X rfl rfl rfl M i Sn P y B X.xe Q (C S) R stop) λr s4 ⟨E,I4⟩=>?_);subst E;show pT #[y,B,I4,qn]
 show nC q (thn (T.item X rfl rfl rfl M i Sn P y B X.xe Q (C S) R go) λr s4 ⟨u,E,h4⟩=>?_);subst E;show nC q (thn h4 λ_ U ad=>?_);let#[x,Y,I5,r5,y5,K,ag]:=ad;let al:=I5.pinned (C ag) (T.obj>>K);show nC q (thn (hg _ U y Y x u _ al r5\step x Y y5) λ_ s6 ⟨Z6,H6,I6,q6⟩=>?_);show nC q (thn (a _ s6 Z6 H6 _ I6 q6) λf L p=>?_);let again:∀{c:St}{j:Hp},Inv X (Sn++l9 fp U.heap) c j L->N c j->∃m,m<n/\∃i Z' H',Inv X Sn Z' H' L/\tn i L.heap/\(∀b∈fp,H' b=gf)/\W i m Z' H':=λ{c j} l z=>by
  let#[m',hm,w7]:=hN c j z;erw[m',hm,i+1,c,j,l.unpinned,T.keep _ _ _ K λb a o e=>(l.pin (b,o)\ft _ (ft _\jY a e)).1,λb a=>?_,w7];let#[o,e,d]:=T.obj _ _ K b a;show (l.pin (b,o)\ft _ (ft _\jY a e)).2.1
 cases f with
 |next=>let#[c,j,l,z]:=p;show again l z
 |cont=>let#[c,j,l,z]:=p;show again l z
 |brk=>let#[c,j,l,p]:=p;erw[c,j,l.unpinned,p]
 |ret v=>let#[x7,c,j,l,r7,p]:=p;erw[x7,c,j,l.unpinned,r7,p]
end
def fC{g:TG}{tb:TS}{D:Ends}(Pv:Nat->St->Hp->Prop)(d:Pv 0 Z H)(f:∀i Z H,i<=↑xs->Pv i Z H->SqL K H a xs)
  (h:∀i x Z H,xs[i]?*>x->Pv i Z H->g x Z H λσ2 H2=>tb {D with nx:=Pv (i+1),ct:=Pv (i+1),bk:=D.nx} σ2 H2) (hd:∀Z H,Pv ↑xs Z H->D.nx Z H) :
  ∃W:Nat->Nat->St->Hp->Prop,(∃m,W 0 m Z H)/\∀i m Z H,W i m Z H->
   ((Itl K a).stop i H/\D.nx Z H)\/((Itl K a).go i H/\∃N:St->Hp->Prop,(∀Z' H',N Z' H'->∃b,b<m/\W (i+1) b Z' H')/\∀x H',(Itl K a).yld i H x H'->g x Z H' λσ2 H2=>tb {D with nx:=N,ct:=N,bk:=D.nx} σ2 H2):=by
 erw[λi m Z H=>m=↑xs-i/\i<=↑xs/\Pv i Z H,#[↑xs,∅,aZ _,d],?_];rintro i m Z H ⟨rfl,hi,p⟩;let q:=f i Z H hi p;by_cases c:i<↑xs
 .refine .o #[#[xs,xs[i],q,by simp[c]],Pv (i+1),λZ' H' j=>#[↑xs-(i+1),(),1,c,j],λx H' y=>?_];let#[e,y]:=y;subst e;show h i x Z _ (y xs q) p
 let e:i=↑xs:=();subst e;show .l #[#[xs,q,ar _],hd Z H p]
def Kx{g:TG}{tb:TS}{D:Ends}(Pv:Nat->St->Hp->Prop)(d:Pv 0 Z H)(f:∀i Z H,i<=↑xs->Pv i Z H->SqT K H a xs)
  (h:∀i x Z H,xs[i]?*>x->Pv i Z H->g x Z H λσ2 H2=>tb {D with nx:=Pv (i+1),ct:=Pv (i+1),bk:=D.nx} σ2 H2) (hd:∀Z H,Pv ↑xs Z H->D.nx Z H) :
  ∃W:Nat->Nat->St->Hp->Prop,(∃m,W 0 m Z H)/\∀i m Z H,W i m Z H->
   ((Itt K a).stop i H/\D.nx Z H)\/((Itt K a).go i H/\∃N:St->Hp->Prop,(∀Z' H',N Z' H'->∃b,b<m/\W (i+1) b Z' H')/\∀x H',(Itt K a).yld i H x H'->g x Z H' λσ2 H2=>tb {D with nx:=N,ct:=N,bk:=D.nx} σ2 H2):=by
 erw[λi m Z H=>m=↑xs-i/\i<=↑xs/\Pv i Z H,#[↑xs,∅,aZ _,d],?_];rintro i m Z H ⟨rfl,hi,p⟩;let q:=f i Z H hi p;by_cases c:i<↑xs
 .refine .o #[#[xs,xs[i],q,by simp[c]],Pv (i+1),λZ' H' j=>#[↑xs-(i+1),(),1,c,j],λx H' y=>?_];let#[e,y]:=y;subst e;show h i x Z _ (y xs q) p
 let e:i=↑xs:=();subst e;show .l #[#[xs,q,ar _],hd Z H p]
def nW{lo:Int}{n:Nat}{g:TG}{tb:TS}{D:Ends}(Pv:Nat->St->Hp->Prop)(c:Pv 0 Z H)
  (d:∀i Z H,i<n->Pv i Z H->g (.i (lo+i)) Z H λσ2 H2=>tb {D with nx:=Pv (i+1),ct:=Pv (i+1),bk:=D.nx} σ2 H2) (hd:∀Z H,Pv n Z H->D.nx Z H) :
  ∃W:Nat->Nat->St->Hp->Prop,(∃m,W 0 m Z H)/\∀i m Z H,W i m Z H->
   ((Itr lo n).stop i H/\D.nx Z H)\/((Itr lo n).go i H/\∃N:St->Hp->Prop,(∀Z' H',N Z' H'->∃b,b<m/\W (i+1) b Z' H')/\∀x H',(Itr lo n).yld i H x H'->g x Z H' λσ2 H2=>tb {D with nx:=N,ct:=N,bk:=D.nx} σ2 H2):=by
 erw[λi m Z H=>m=n-i/\i<=n/\Pv i Z H,#[n,∅,aZ _,c],?_];rintro i m Z H ⟨rfl,hi,p⟩;by_cases a:i<n
 .refine .o #[a,Pv (i+1),λZ' H' f=>#[n-(i+1),(),1,a,f],λx H' y=>?_];let#[e,y]:=y;subst e y;show d i Z _ a p
 let e:i=n:=();subst e;show .l #[ar _,hd Z H p]
end L2
namespace L2
open PySem PySem.Spec PyProof.Rows
abbrev R2:=V->V->Hp->VK->Prop
def OpR(X:Cx)(f:hK->hK->Sem hK)(r:R2):Prop:=
 ∀(Sn:-(i4×Obj))(s:ij)(Z:St)(H:Hp)(x y:V)(v u:hK)(Q:VK),!Inv H s->aC x v->aC y u->r x y H Q->
  jl ⇑X X.A (f v u) (EP X Sn Z Q) X.xe s
def UnR(X:Cx)(f:hK->Sem hK)(r:V->Hp->VK->Prop):Prop:=
 ∀(Sn:-(i4×Obj))(s:ij)(Z:St)(H:Hp)(x:V)(v:hK)(Q:VK),!Inv H s->aC x v->r x H Q->
  jl ⇑X X.A (f v) (EP X Sn Z Q) X.xe s
def c7(X:Cx)(f:hK)(r:-V->Hp->VK->Prop):Prop:=
 ∀(Sn:-(i4×Obj))(s:ij)(Z:St)(H:Hp)(xs:-V)(us:-hK)(Q:VK),!Inv H s->Vals xs us->r xs H Q->
  jl ⇑X X.A (call f us) (EP X Sn Z Q) X.xe s
def TruR(X:Cx)(r:V->Hp->(Bool->Hp->Prop)->Prop):Prop:=
 ∀(Sn:-(i4×Obj))(s:ij)(Z:St)(H:Hp)(x:V)(v:hK)(Q:Bool->Hp->Prop),!Inv H s->aC x v->r x H Q->
  jl ⇑X X.A (truthy v) (TP X Sn Z Q) X.xe s
def tOp2(r:R2)(x:V)(Q:VK):VK:=λy H2=>r x y H2 Q
def tOp1(r:R2)(tb:TE)(Z:St)(Q:VK):VK:=λx H1=>tb Z H1\tOp2 r x Q
def tOp(r:R2)(ta tb:TE):TE:=λZ H Q=>ta Z H\tOp1 r tb Z Q
def tUnK(r:V->Hp->VK->Prop)(Q:VK):VK:=λx H1=>r x H1 Q
def tUn(r:V->Hp->VK->Prop)(ta:TE):TE:=λZ H Q=>ta Z H\tUnK r Q
def rIB(C:Int->Int->Prop)(g:Int->Int->V)(x y:V)(H:Hp)(Q:VK)(i j:Int):Prop:=x=.i i/\y=.i j/\C i j/\Q (g i j) H
def rI(C:Int->Int->Prop)(g:Int->Int->V):R2:=λx y H Q=>Exists\Ex2 (rIB C g x y H Q)
def rI0B(g:Int->Int->V)(x y:V)(H:Hp)(Q:VK)(i j:Int):Prop:=x=.i i/\y=.i j/\Q (g i j) H
def rI0(g:Int->Int->V):R2:=λx y H Q=>Exists\Ex2 (rI0B g x y H Q)
def rUB(g:Int->V)(x:V)(H:Hp)(Q:VK)(i:Int):Prop:=x=.i i/\Q (g i) H
def rU(g:Int->V):V->Hp->VK->Prop:=λx H Q=>Exists\rUB g x H Q
section
variable {a b c:mR}{ta tb tc:TE}{pos:Pos}
def wM(ha:PE X a ta)(d:PE X b tb){R:V->V->Hp->Prop}(I:!Inv H s)
  (h:ta Z H λx H1=>tb Z H1 λy H2=>R x y H2) {Q:hK->ij->Prop} {f:hK->hK->Sem hK}
  (hf:∀v u s2 x y H2,!Inv H2 s2->aC x v->aC y u->R x y H2->jl ⇑X X.A (f v u) Q X.xe s2) :
  jl ⇑X X.A (nH a X.env) (λv s₁=>jl ⇑X X.A (nH b X.env) (λu s₂=>jl ⇑X X.A (f v u) Q X.xe s₂) X.xe s₁) X.xe s:=by
 show thn (ha Sn s Z H _ I h) λv s1 c=>?_;let#[x,H1,e,g,j]:=c;show thn (d Sn s1 Z H1 _ e j) λu s2 c=>?_;let#[y,H2,l,m,n]:=c;show hf v u s2 x y H2 l g m n
def aD{op:Operator}{r:R2}(c:OpR X (binaryOp op) r)(ha:PE X a ta)(d:PE X b tb):PE X (.BinOp a op b pos) (tOp r ta tb):=by lk;intro Q I h;show wpAny_BinOp (wM ha d I h λv u s2 x y H2 e f g q=>c Sn s2 Z H2 x y v u Q e f g q)
def iA{op:UnaryOp}{r:V->Hp->VK->Prop}(b:UnR X (unaryOp op) r)(ha:PE X a ta):PE X (.UnaryOp op a pos) (tUn r ta):=by lk;intro Q I h;show UnaryOp_ (thn (ha Sn s Z H _ I h) λv s1 ⟨x,H1,c,d,e⟩=>b Sn s1 Z H1 x v Q c d e)
def opI{f:hK->hK->Sem hK}{C:Int->Int->Prop}{g:Int->Int->Int}
  (rule:∀(i j:Int)(t u:Tok)(s:ij)(Q:hK->ij->Prop)(E:hK->ij->Prop),C i j->Q (.i (g i j) s.toks) {s with toks:=s.toks+1}->jl ⇑X X.A (f (.i i t)\.i j u) Q E s) :
  OpR X f (rI C λi j=>.i\g i j):=by
 lk;intro x y v u Q I a b h;let#[#[i,j,5,c,q],#[t,1],#[t',1]]:=#[h,a,b];show rule i j t t' s _ _ c #[.i\g i j,H,I.tok _,#[2],q]
def opI0{f:hK->hK->Sem hK}{g:Int->Int->Int}
  (rule:∀(i j:Int)(t u:Tok)(s:ij)(Q:hK->ij->Prop)(E:hK->ij->Prop),Q (.i (g i j) s.toks) {s with toks:=s.toks+1}->jl ⇑X X.A (f (.i i t)\.i j u) Q E s) :
  OpR X f (rI0 λi j=>.i\g i j):=by
 lk;intro x y v u Q I a b h;let#[#[i,j,5,q],#[t,1],#[t',1]]:=#[h,a,b];show rule i j t t' s _ _ #[.i\g i j,H,I.tok _,#[2],q]
def wL{f:hK->hK->Sem hK}{g:Int->Int->Bool}
  (rule:∀(i j:Int)(t u:Tok)(s:ij)(Q:hK->ij->Prop)(E:hK->ij->Prop),Q (.x\g i j) s->jl ⇑X X.A (f (.i i t)\.i j u) Q E s) :
  OpR X f (rI0 λi j=>.bl\g i j):=by
 lk;intro x y v u Q I a b h;let#[#[i,j,5,q],#[t,1],#[t',1]]:=#[h,a,b];show rule i j t t' s _ _ #[.bl\g i j,H,I,1,q]
def CPow(i j:Int):Prop:=0<=j/\j<=1000000/\i.natAbs<2 ^ 64
def CMul(i j:Int):Prop:=(-(2 ^ 64)<i/\i<2 ^ 64)\/(-(2 ^ 64)<j/\j<2 ^ 64)
def CMul.ok(h:CMul i j):IntMulOk i j:=by
 rcases h with ⟨h1,h2⟩|⟨h1,h2⟩
 .exact .of_left\intBits_le_64 h1 h2
 show .of_right\intBits_le_64 h1 h2
def cU:OpR X (binaryOp .Add) (rI0 λi j=>.i (i+j)):=opI0 λ_ _ _ _ _ _ _ q=>add_int q
def jz:OpR X (binaryOp .Sub) (rI0 λi j=>.i (i-j)):=opI0 λ_ _ _ _ _ _ _ q=>sub_int q
def jA:OpR X (binaryOp .Mult) (rI CMul λi j=>.i (i*j)):=opI λ_ _ _ _ _ _ _ a q=>mul_int q a.ok
def fT:OpR X (binaryOp .Mod) (rI (λ_ j=>0<j) λi j=>.i (i%j)):=opI λi j _ _ _ _ _ a q=>by
 let h1:(0:Int)<j:=a;show mod_int' () (by rw[Int.fmod_eq_emod_of_nonneg i ()];show q)
def rW:OpR X (binaryOp .Pow) (rI CPow λi j=>.i (i ^ j.toNat)):=opI λ_ _ _ _ _ _ _ a q=>pow_int_small a.1 a.2.1 a.2.2 q
def unI{f:hK->Sem hK}{g:Int->Int}
  (rule:∀(i:Int)(t:Tok)(s:ij)(Q:hK->ij->Prop)(E:hK->ij->Prop),Q (.i (g i) s.toks) {s with toks:=s.toks+1}->jl ⇑X X.A (f\.i i t) Q E s) :
  UnR X f (rU λi=>.i\g i):=by
 lk;intro x v Q I a h;let#[i,1,q]:=h;let#[t,1]:=a;show rule i t s _ _ #[.i\g i,H,I.tok _,#[2],q]
def iw:UnR X (unaryOp .USub) (rU λi=>.i (-i)):=unI λ_ _ _ _ _ q=>neg_int q
end
def scal:V->V->Bool
 |.non,.non=>gm | .non,.int _=>gm | .int _,.non=>gm | .non,.bl _=>gm | .bl _,.non=>gm | .non,.str _=>gm | .str _,.non=>gm
 |.int _,.int _=>gm | .bl _,.bl _=>gm | .str _,.str _=>gm | .byt _,.byt _=>gm
 |.int _,.str _=>gm | .str _,.int _=>gm | .bl _,.str _=>gm | .str _,.bl _=>gm
 |_,_=>hB
def rEq:R2:=λx y H Q=>scal x y=gm/\Q (.bl (decide (x=y))) H
def rNe:R2:=λx y H Q=>scal x y=gm/\Q (.bl (!decide (x=y))) H
def Bk{i j:Int}:decide (V.int i=V.int j)=(i==j):=by rw[eX];simp
def B9{i j:Bool}:decide (V.bl i=V.bl j)=(i==j):=by rw[eX];simp
def Bj{i j:Str}:decide (V.str i=V.str j)=(i==j):=by rw[eX];simp
def Bl{i j:Array UInt8}:decide (V.byt i=V.byt j)=(i.toList==j.toList):=by rw[eX];cases i;cases j;simp
section
variable {a b c:mR}{ta tb tc:TE}{pos:Pos}
def b_{Q:VK}{k a:Bool}(I:!Inv H s)(q:Q (.bl k) H)(e:k=a):EP X Sn Z Q (.x a) s:=by subst e;erw[.bl k,H,I,1,q]
def cn:OpR X (nc .Eq) rEq:=by
 lk;intro x y v u Q I c a h;let#[b,q]:=h;cases x with
 |non=>
  cases c;cases y with
  |non=>cases a;show RB (b_ I q ∅)
  |bl j=>cases a;show Rz (b_ I q ∅)
  |int j=>let#[t',1]:=a;show RA (b_ I q ∅)
  |str j=>let#[t',1]:=a;show RC (b_ I q ∅)
  |_=>show absurd (show hB=gm from b) bH
 |bl i=>
  cases c;cases y with
  |non=>cases a;show Rx (b_ I q ∅)
  |bl j=>cases a;show eq_bool\b_ I q B9
  |str j=>let#[t',1]:=a;show Ro (b_ I q ∅)
  |_=>show absurd (show hB=gm from b) bH
 |int i=>
  let#[t,1]:=c;cases y with
  |non=>cases a;show Ry (b_ I q ∅)
  |int j=>let#[t',1]:=a;show eq_int\b_ I q Bk
  |str j=>let#[t',1]:=a;show Rp (b_ I q ∅)
  |_=>show absurd (show hB=gm from b) bH
 |str i=>
  let#[t,1]:=c;cases y with
  |non=>cases a;show RD (b_ I q ∅)
  |bl j=>cases a;show Rq (b_ I q ∅)
  |int j=>let#[t',1]:=a;show Rr (b_ I q ∅)
  |str j=>let#[t',1]:=a;show eq_str\b_ I q Bj
  |_=>show absurd (show hB=gm from b) bH
 |byt i=>
  let#[t,1]:=c;cases y with
  |byt j=>let#[t',1]:=a;show W.eq_bytes\b_ I q Bl
  |_=>show absurd (show hB=gm from b) bH
 |_=>cases y<;>show absurd (show hB=gm from b) bH
def kE:OpR X (nc .NotEq) rNe:=by
 lk;intro x y v u Q I c a h;let#[b,q]:=h;cases x with
 |non=>
  cases c;cases y with
  |non=>cases a;show RI (b_ I q ∅)
  |bl j=>cases a;show RG (b_ I q ∅)
  |int j=>let#[t',1]:=a;show RH (b_ I q ∅)
  |str j=>let#[t',1]:=a;show RJ (b_ I q ∅)
  |_=>show absurd (show hB=gm from b) bH
 |bl i=>
  cases c;cases y with
  |non=>cases a;show RE (b_ I q ∅)
  |bl j=>cases a;show ne_bool\b_ I q (congrArg not B9)
  |str j=>let#[t',1]:=a;show Rt (b_ I q ∅)
  |_=>show absurd (show hB=gm from b) bH
 |int i=>
  let#[t,1]:=c;cases y with
  |non=>cases a;show RF (b_ I q ∅)
  |int j=>let#[t',1]:=a;show ne_int\b_ I q (congrArg not Bk)
  |str j=>let#[t',1]:=a;show Ru (b_ I q ∅)
  |_=>show absurd (show hB=gm from b) bH
 |str i=>
  let#[t,1]:=c;cases y with
  |non=>cases a;show RK (b_ I q ∅)
  |bl j=>cases a;show Rv (b_ I q ∅)
  |int j=>let#[t',1]:=a;show Rw (b_ I q ∅)
  |str j=>let#[t',1]:=a;show ne_str\b_ I q (congrArg not Bj)
  |_=>show absurd (show hB=gm from b) bH
 |byt i=>
  let#[t,1]:=c;cases y with
  |byt j=>let#[t',1]:=a;show W.ne_bytes\b_ I q (congrArg not Bl)
  |_=>show absurd (show hB=gm from b) bH
 |_=>cases y<;>show absurd (show hB=gm from b) bH
def tm:OpR X (nc .Lt) (rI0 λi j=>.bl (decide (i<j))):=wL λ_ _ _ _ _ _ _ q=>lt_int q
def oM:OpR X (nc .Gt) (rI0 λi j=>.bl (decide (j<i))):=wL λ_ _ _ _ _ _ _ q=>gt_int q
def Of:OpR X (nc .GtE) (rI0 λi j=>.bl (decide (j<=i))):=wL λ_ _ _ _ _ _ _ q=>ge_int q
def JV:OpR X (nc .IsNot) (λx y H Q=>y=.non/\Q (.bl (!decide (x=.non))) H):=by
 lk;intro x y v u Q I a b h;let#[1,q]:=h;cases b;show isnot_none_gen\b_ I q ?_;cases x<;>first
  |(cases a;rfl)
  |(let#[t,1]:=a;rfl)
def nomark(b:mR){op:CmpOp}(h:op≠.In:=by decide)(h2:op≠.NotIn:=by decide):rp op b=hB:=by
 let a:(op==CmpOp.In)=hB:=by cases op<;>first|rfl|show absurd rfl h
 let c:(op==CmpOp.NotIn)=hB:=by cases op<;>first|rfl|show absurd rfl h2
 cases b<;>simp[rp,a,c]
def ff{op:CmpOp}{r:R2}(c:OpR X (nc op) r)(ha:PE X a ta)(d:PE X b tb)(hm:rp op b=hB):PE X (.Compare a [op] [b] pos) (tOp r ta tb):=by lk;intro Q I h;show QN (wM ha d I h λv u s2 x y H2 e f g q=>c Sn s2 Z H2 x y v u Q e f g q) hm
def gg(t:TE):TT:=λZ H Q=>t Z H\tBK Q
def aT{op:CmpOp}{r:R2}(d:OpR X (nc op) r)(ha:PE X a ta)(f:PE X b tb)(hm:rp op b=hB):PT X (.Compare a [op] [b] pos) (gg\tOp r ta tb):=by
 lk;intro Q I h;show QX (thn (ha Sn s Z H _ I h) λv s1 ⟨x,H1,g,j,l⟩=>thn (f Sn s1 Z H1 _ g l) λu s2 ⟨y,H2,m,n,o⟩=>
  thn (d Sn s2 Z H2 x y v u _ m j n o) λc B ⟨z,p,q,w,k,e,A⟩=>?_) hm
 subst e;cases w;show iI #[p,q,A]
def TruV(K:W.Frag)(x:V)(H:Hp)(k:Bool):Prop:=
 match x with
 |.non=>k=hB
 |.bl b=>k=b
 |.int i=>k=(i != 0)
 |.str y=>↑y<=js/\k=((↑y:Int) != 0)
 |.byt y=>y.size<=js/\k=((y.size:Int) != 0)
 |.ref p=>(∃xs,SqL K H p xs/\k=!xs.isEmpty)\/(∃xs,SqT K H p xs/\k=!xs.isEmpty)\/∃kvs,H p*>.k kvs/\k=!kvs.isEmpty
 |_=>False
def EX{κ:Type}{kvs:-(κ×V)}{vs:-(κ×hK)}(r:KV kvs vs):(!vs.isEmpty)=!kvs.isEmpty:=by cases r<;>rfl
def yz{a:-hK}(r:Vals xs a):(!a.toArray.isEmpty)=!xs.isEmpty:=by cases r<;>simp
def line63:(js:Nat)<2 ^ 63:=by rw[cW];decide
def K1:TruR X (λx H Q=>∃k,TruV [] x H k/\Q k H):=by
 lk;intro x v Q I c h;let#[#[k,e,q],j,l]:=#[h,line63,(cW:js=16777216)];cases x with
 |non=>
  cases c;let a:k=hB:=e;subst a;show truthy_none #[H,I,q]
 |bl b=>
  cases c;let a:k=b:=e;subst a;show iI #[H,I,q]
 |int i=>
  let#[t,1]:=c;let a:k=(i != 0):=e;subst a;show PySem.P.truthy_int #[H,I,q]
 |str y=>
  let#[t,1]:=c;let#[d,a]:↑y<=js/\k=((↑y:Int) != 0):=e;subst a;show PySem.P.truthy_str () #[H,I.tok _,q]
 |byt y=>
  let#[t,1]:=c;let#[d,a]:y.size<=js/\k=((y.size:Int) != 0):=e;subst a;show W.truthy_bytes () #[H,I.tok _,q]
 |ref p=>
  cases c;let a:(∃xs,SqL [] H p xs/\k=!xs.isEmpty)\/(∃xs,SqT [] H p xs/\k=!xs.isEmpty)\/∃kvs,H p*>.k kvs/\k=!kvs.isEmpty:=e;rcases a with ⟨xs,hx,a⟩|⟨xs,hx,a⟩|⟨kvs,hx,a⟩
  .subst a;let#[f,r,pl,hz]:=I.list hx;let hlen:=↑r;show wpAny_truthy_list pl.isList (by simp only[bI];lia) #[H,I.tok _,by rw[yz r];show q]
  .subst a;let#[f,r,pl,hz]:=I.tuple hx;let hlen:=↑r;show truthy_tuple pl (by simp only[bI];lia) #[H,I.tok _,by rw[yz r];show q]
  subst a;let#[hz,g,vs,r,m]:↑kvs<=js/\(p==nI)=hB/\∃vs,KV kvs vs/\s.heap.DictOf (dB X.prog X.w) p vs:=I.hok p _ hx;let hlen:↑kvs=↑vs:=pF r;show wpAny_truthy_dict g m () #[H,I.tok _,by rw[EX r];show q]
 |_=>show (show False from e).elim
def Hu(ha:PE X a ta)(he:∀whole,isTrue a X.env whole=(do let v <-whole;standAt a.pos;holding [v]\truthy v)):
  PT X a (λZ H Q=>ta Z H λx H'=>∃k,TruV [] x H' k/\Q k H'):=by
 lk;intro Q I h;show isTrue_plain (thn (ha Sn s Z H _ I h) λv s1 ⟨x,H1,I1,r1,q1⟩=>K1 Sn s1 Z H1 x v Q I1 r1 q1)\he _
def vals1{x:V}(r:Vals [x] us):∃u,us=[u]/\aC x u:=by
 cases r with
 |cons a b=>cases b;erw[2,a]
def vals2{x y:V}(r:Vals [x,y] us):∃u a,us=[u,a]/\aC x u/\aC y a:=by
 cases r with
 |cons b c=>
  cases c with
  |cons d e=>cases e;erw[9,b,d]
def gL:c7 X (.t "int") (λxs H Q=>(∃i,xs=[.i i]/\Q (.i i) H)\/∃k,xs=[.bl k]/\Q (.i (if k then 1 else 0)) H):=by
 lk;intro xs us Q I r h;rcases h with ⟨i,rfl,q⟩|⟨k,rfl,q⟩
 .let#[u,1,t,1]:=vals1 r;show call_int_int #[.i i,H,I,#[2],q]
 let#[u,1,a]:=vals1 r;cases a;show call_int_bool #[.i (if k then 1 else 0),H,I.tok _,#[2],q]
end
end L2
namespace L2
open PySem PySem.Spec PyProof.Rows
structure kJ(h:mu)(x dx C:i4)(mA:Str->Option hK):Prop where
 obj:h.get? x*>W.instObj C dx
 ns:h.Ns1 dx mA
 ne:dx≠x
def uF{h:mu}{dx:i4}{mA:Str->Option hK}(n:h.Ns1 dx mA):∃od,h.get? dx*>od/\∀name,W.lookIn name od*>mA name:=by
 let#[o,es,ep,b,hd,c,_,hm]:=n;erw[o,b,λname=>?_];let e:=hm name;unfold nsFind findBy at e;rw[<-Array.find?_toList] at e;unfold W.lookIn;rw[hd];dsimp only
 split
 .rename_i y q;rw[q] at e;show congrArg gh e
 rename_i q;rw[q] at e;let a:es.toList.any (·.refKey)=hB:=by rw[O9];intro y d;let#[z,t,f]:=c y\Array.mem_toList_iff.mp d;simp[DictEntry.refKey,f]
 let g:¬es.toList.any (·.refKey)=gm:=by rw[a];show bH
 rw[Sg g];show congrArg gh e
def kJ.look{mA:Str->Option hK}(I:kJ h x dx C mA):∃od,W.InstAt h x (W.instObj C dx) C (gh od)/\∀name,W.lookIn name od*>mA name:=
 let ⟨od,a,b⟩:=uF I.ns
 #[od,#[I.obj,5,a],b]
section
variable {prog:lu}{x dx C f:i4}{mA:Str->Option hK}{name:Str}{v:hK}
def Kw{expr:Bool}{Q:hK->ij->Prop}(X:K.In s.heap)(I:kJ s.heap x dx C mA)(a:W.plainGet K C name=gm)(b:W.hasDictIn K C=gm)
  (ha:W.findIn K (.r C) name*>gf) (c:mA name*>v) (d:W.handedIn v=gm) (h:Q v {s with toks:=s.toks+1}) :
  jl (kC prog w) A (getAttr (.r x) name expr) Q E s:=by
 let#[od,J,e]:=I.look;show W.get_value X J (Du a).1 (W.findObj_own b ha rfl (by rw[e,c])) d h
def Iq{pl:Sem Bool}{Q:hK×-hK->ij->Prop}(X:K.In s.heap)(I:kJ s.heap x dx C mA)(a:W.plainGet K C name=gm)
  (hf:W.findIn K (.r C) name*>gh\.r f) (b:W.isFn K (.r f)=gm) (c:mA name=gf) (h:Q (.r f,[.r x]) s) :
  jl (kC prog w) A (getMethod (.r x) name pl) Q E s:=by
 let#[od,J,d]:=I.look;show W.method_fn X J (Du a).1 (Du a).2 hf (beq_iff_eq.mp b) (by change (W.lookIn name od).map (·.isSome)*>hB;rw[d,c];rfl) h
def Jn{ns:-Str}{Q:Unit->ij->Prop}(X:K.In s.heap)(I:kJ s.heap x dx C mA)
  (e:W.findIn K (.r C) ↑64*>gh\.b ↑35) (f:W.plainOver K C=gm) (g:W.takerIn K C name*>gf) (j:W.hasDictIn K C=gm)
  (hw:PySem.Within mA ns) (hsz:↑ns<=js)
  (h:∀h',kJ h' x dx C (λy=>if y=name then gh v else mA y)->Heap.SameBut dx s.heap h'->Q .unit {s with heap:=h',toks:=s.toks+2}) :
  jl (kC prog w) A (setAttr (.r x) name v) Q E s:=by
 let#[od,J,q]:=I.look;show Ql X J e (W.osa_open (s:={s with toks:=s.toks+1}) (r:=gf) X J f g λb=>?_);let#[cd,l,m]:=Do j;let hx:s.heap.get? x*>#[.r C,gh dx,.plain,(tA [])]:=I.obj;show aa\ai (aa\aa (DM hx\aa (RV (s:={s with toks:=s.toks+1}) (Dr X l) ?_)));rw[m];show ai (a:=gh dx)\aa (ai\aa ?_);show wpAny_nsSet1 (s:={s with toks:=s.toks+1}) I.ns λh' c d=>?_;let#[u,z,B,n,o,p]:=c.count\RW name v hw;show aa\QY n (by rw[o];show QE\cQ p (by rw[ck];lia)) ?_;show ai\h _ #[(d.2 _\aB I.ne)<*I.obj,c,I.ne] d
def Ie{R:Result->ij->Prop}{vs:-hK}{kw:-(Str×hK)}(X:K.In s.heap)(hm:W.makesIn K C=gm)
  (hi:W.findIn K (.r C) ↑12*>gh\.r f) (hf:W.typeIn K (.r f)*>.t "function")
  (h:oD (kC prog w) (A.under\.b ↑26 #[.r C::vs,kw]) (.call (.r f) #[.r (↥s+1)::vs,kw]) (W.InitBack (↥s+1) R)
   {s with heap:=(s.heap.push W.emptyDict).push\W.instObj C ↥s}) :
  oD (kC prog w) A (.call (.r C) #[vs,kw]) R s:=by
 let#[a,g,d,t,os]:=s;show W.make_core (W.makes_of X hm) (Ds X hi) (λself=>Qg X self hf) (.l rfl) h
end
def eU(f:Str)(v:V):-(Str×V)->-(Str×V)
 | []=>[(f,v)]
 |(g,x)::r=>if g=f then (g,v)::r else (g,x)::eU f v r
def ye(f g:Str)(v:V):∀fs:-(Str×V),(eU f v fs).lookup g=if g=f then gh v else fs.lookup g
 | []=>by
  change List.lookup g [(f,v)]=_;by_cases h:g=f
  .let a:(g==f)=gm:=beq_iff_eq.mpr h;simp only[List.lookup,a,Sh h]
  let a:(g==f)=hB:=beq_eq_false_iff_ne.mpr h;simp only[List.lookup,a,Sg h]
 |(k,x)::r=>by
  let c:=ye f g v r;rw[show eU f v ((k,x)::r)=(if k=f then (k,v)::r else (k,x)::eU f v r) from rfl];by_cases b:k=f
  .rw[Sh b];by_cases h:g=k
   .let a:(g==k)=gm:=beq_iff_eq.mpr h;simp only[List.lookup,a,Sh\h.trans b]
   let a:(g==k)=hB:=beq_eq_false_iff_ne.mpr h;simp only[List.lookup,a,Sg λe:g=f=>h\e.trans b.symm]
  rw[Sg b];by_cases h:g=k
  .let a:(g==k)=gm:=beq_iff_eq.mpr h;simp only[List.lookup,a,Sg λe:g=f=>b\h.symm.trans e]
  let a:(g==k)=hB:=beq_eq_false_iff_ne.mpr h;simp only[List.lookup,a];show c
def uG(f:Str)(v:V):∀fs:-(Str×V),f∈(eU f v fs).map (·.1)/\∀g,g∈fs.map (·.1)->g∈(eU f v fs).map (·.1)
 | []=>#[by simp[eU],λg h=>by simp at h]
 |(k,x)::r=>by
  let#[i1,i2]:=uG f v r;rw[show eU f v ((k,x)::r)=(if k=f then (k,v)::r else (k,x)::eU f v r) from rfl];by_cases a:k=f
  .rw[Sh a];subst a;erw[∅,λg h=>‹h›]
  rw[Sg a];erw[?_,λg h=>?_]
  .rw[bu];show dz _ i1
  rw[bu] at h |-;rcases aU.mp h with e|e
  .exact aU.mpr\.l e
  show dz _\i2 g e
def yg(f:Str)(v:V):∀fs:-(Str×V),↑(eU f v fs)<=↑fs+1
 | []=>by simp[eU]
 |(k,x)::r=>by
  let b:=yg f v r;rw[show eU f v ((k,x)::r)=(if k=f then (k,v)::r else (k,x)::eU f v r) from rfl];by_cases a:k=f
  .rw[Sh a,ck,ck];lia
  rw[Sg a,ck,ck];lia
def dQ.some_of{v:V}{o:Option hK}(r:dQ (gh v) o):∃u,o*>u/\aC v u:=by
 cases o with
 |none=>show (show False from r).elim
 |some u=>erw[u,1,r]
def dQ.none_of{o:Option hK}(r:dQ gf o):o=gf:=by
 cases o with
 |none=>rfl
 |some u=>show (show False from r).elim
def zp(r:aC v u):W.handedIn u=gm:=by
 cases v with
 |non=>cases (show u=Value.none from r);rfl
 |bl b=>cases (show u=Value.bool b from r);rfl
 |int i=>let#[t,e]:=(show ∃t,u=Value.int i t from r);cases e;rfl
 |str x=>let#[t,e]:=(show ∃t,u=Value.str x t from r);cases e;rfl
 |byt b=>let#[t,e]:=(show ∃t,u=Value.bytes b t from r);cases e;rfl
 |flt b=>let#[t,e]:=(show ∃t,u=Value.float b t from r);cases e;rfl
 |ref a=>cases (show u=Value.ref a from r);rfl
 |ty n=>cases (show u=Value.type n from r);rfl
section
variable {h h':mu}{a C dx:i4}{fs fs':-(Str×V)}
def qV(hok:HOk P w H h)(e:H a*>.ins C dx fs):∃mA,kJ h a dx C mA/\(∀f,dQ (fs.lookup f)\mA f)/\PySem.Within mA (fs.map (·.1))/\↑fs<=1000/\H dx*>.own a:=by let#[d,z,ne,ob,mA,n,r,q]:=(show bh P w H h a (.ins C dx fs) from hok a _ e);erw[mA,#[ob,n,ne],r,q,z,d]
end
structure Cls(K:W.Frag)(C:i4):Prop where
 pg:W.plainGet K C Str.empty=gm
 hd:W.hasDictIn K C=gm
 po:W.plainOver K C=gm
 sa:W.findIn K (.r C) ↑64*>gh\.b ↑35
def Cls.get(c:Cls K C)(f:Str):W.plainGet K C f=gm:=c.pg
def iy(K:W.Frag)(C:i4)(f:Str):Prop:=W.findIn K (.r C) f*>gf
def iy.taker(n:iy K C f):W.takerIn K C f*>gf:=by unfold W.takerIn;rw[show W.findIn K (.r C) f*>gf from n];rfl
structure Meth(K:W.Frag)(C:i4)(m:Str)(f:i4):Prop where
 at_:W.findIn K (.r C) m*>gh\.r f
 fn:W.isFn K (.r f)=gm
 kp:W.keepIn K (.r f)=gm
section
variable {a C dx:i4}{fs:-(Str×V)}{f:Str}{v:V}
def EZ{b:Bool}{Q:hK->ij->Prop}(I:!Inv H s)(e:H a*>.ins C dx fs)(c:Cls X.K C)(n:iy X.K C f)(l:fs.lookup f*>v)
  (h:∀u s',!Inv H s'->aC v u->Q u s'):jl ⇑X A (getAttr (.r a) f b) Q E s:=by
 let#[mA,O,r,8]:=qV I.hok e;let#[u,g,d]:=dQ.some_of (v:=v) (o:=mA f) (by rw[<-l];show r f);show Kw I.kIn O (c.get f) c.hd n g (zp d)\h u _ (I.tok _) d
def yH{pl:Sem Bool}{Q:hK×-hK->ij->Prop}(I:!Inv H s)(e:H a*>.ins C dx fs)(c:Cls X.K C)(k:Meth X.K C m g)(l:fs.lookup m=gf)
  (h:Q (.r g,[.r a]) s):jl ⇑X A (getMethod (.r a) m pl) Q E s:=by
 let#[mA,O,r,8]:=qV I.hok e;let b:mA m=gf:=dQ.none_of (by rw[<-l];show r m);show Iq I.kIn O (c.get m) k.at_ k.fn b h
def EI{Q:Unit->ij->Prop}(I:!Inv H s)(e:H a*>.ins C dx fs)(c:Cls X.K C)(n:iy X.K C f)(B:↑fs<1000)(l:aC y u)
  (h:∀s',!Inv (upd H a\.ins C dx (eU f y fs)) s'->Q .unit s'):jl ⇑X A (setAttr (.r a) f u) Q E s:=by
 let#[mA,O,r,wi,_,j]:=qV I.hok e;let hz:↑(fs.map (·.1))<=sizeLine:=by rw[av,cW];lia
 show Jn I.kIn O c.sa c.po n.taker c.hd wi hz λh' d sb=>h _ ?_;let hd:∃o,h'.get? dx*>o:=let ⟨o,_,_,m,_⟩:=d.ns;#[o,m];show I.write (x:=a) (e:=dx) (by rw[e];show True.intro) (.o j) (λb q p z=>(sb.2 b p)<*z) hd ?_;erw[by rw[aq O.ne];show j,?_,O.ne,d.obj,_,d.ns,λg=>?_,λg v=>?_]
 .have:=yg f y fs;lia
 .change dQ ((eU f y fs).lookup g) (if g=f then gh u else mA g);rw[ye];by_cases q:g=f
  .rw[Sh q,Sh q];show l
  rw[Sg q,Sg q];show r g
 by_cases q:g=f
 .rw[q];show (uG f y fs).1
 show (uG f y fs).2 g (wi g λz=>v ?_);change (if g=f then gh u else mA g)=gf;rw[Sg q];show z
def Inv.made(I:!Inv H s):!Inv (upd (upd H ↥s\.own (↥s+1)) (↥s+1)\.ins C ↥s [])
  {s with heap:=(s.heap.push W.emptyDict).push\W.instObj C ↥s}:=by
 let c:(s.heap.push W.emptyDict).get? ↥s*>W.emptyDict:=bJ s.heap rfl;let d:((s.heap.push W.emptyDict).push\W.instObj C ↥s).get? (↥s+1)*>W.instObj C ↥s:=by
  have:=bJ (s.heap.push W.emptyDict) (o:=W.instObj C ↥s) rfl
  rwa [kM] at this
 let f:(s.heap.push W.emptyDict).Ns ↥s (λ_=>gf):=#[W.emptyDict,(tA []),_,c,1,(λe he=>absurd he ∅),λ_=>rfl];let g:=I.laid (a:=↥s) (o:=.own (↥s+1)) (h':=s.heap.push W.emptyDict) (t':=s.toks) (λb u q=>aP _ q) (ar _) #[_,c];show g.laid (a:=↥s+1) (o:=.ins C ↥s []) (t':=s.toks) (λb u q=>aP _ q) (xt\kM _ _) ?_;let ne:↥s≠↥s+1:=bD\ic _;erw[by rw[aq ne,aH],aZ _,ne,d,λ_=>gf,(O3 f).at λo q=>aP _ q,λ_=>True.intro,λy h=>absurd rfl h]
def Bq{prog:lu}{env:Env}{e:mR}{f:Str}{pos:Pos}{Q:hK->ij->Prop}(a:rq e f env (nH e env)=nH e env)
  (h:jl (kC prog w) A (nH e env) (λo s₁=>jl (kC prog w) A (getAttr o f gm) Q E s₁) E s):jl (kC prog w) A (nH (.Attribute e f pos) env) Q E s:=
 Attribute_any_ h (by rw[arm_eval_Attribute,a])
end
def tFld(K:W.Frag)(ta:TE)(f:Str):TE:=λZ H Q=>ta Z H λx H1=>∃a C dx fs v,x=.r a/\H1 a*>.ins C dx fs/\Cls K C/\iy K C f/\fs.lookup f*>v/\Q v H1
def sFld(K:W.Frag)(ta tv:TE)(f:Str):TS:=λD Z H=>tv Z H λy H1=>ta Z H1 λx H2=>∃a C dx fs,x=.r a/\H2 a*>.ins C dx fs/\Cls K C/\iy K C f/\↑fs<1000/\
 D.nx Z (upd H2 a\.ins C dx (eU f y fs))
section
variable {o e value:mR}{f:Str}{pos pos' tpos:Pos}{ta tv:TE}
def oG(he:PE X e ta)(b:rq e f X.env (nH e X.env)=nH e X.env):PE X (.Attribute e f pos) (tFld X.K ta f):=by lk;intro Q I h;show Bq b (thn (he Sn s Z H _ I h) λu s1 d=>?_);let#[x,H1,g,j,a,C,dx,fs,v,ex,m,c,n,l,q]:=d;subst ex;obtain rfl:u=Value.ref a:=j;show EZ g m c n l λr s2 o p=>#[v,H1,o,p,q]
def rT(ha:PE X o ta)(d:PE X value tv)(e:swapsWith value (gh\.Attribute o f pos') pos.line X.env=pure hB):PS X (.Assign [.Attribute o f pos'] value pos) (sFld X.K ta tv f):=by lk;intro D I h;show QF (thn (d Sn s Z H _ I h) λu s1 b=>?_) e;let#[y,H1,g,j,q]:=b;show thn (ha Sn s1 Z H1 _ g q) λov s2 b=>?_;let#[x,H2,m,p,a,C,dx,fs,ex,r,c,n,l,v]:=b;subst ex;obtain rfl:ov=Value.ref a:=p;show EI m r c n l j λz w=>#[Z,_,w,v]
end
section
variable {Q:hK->ij->Prop}{c:hK}{b:Bool}
inductive cu (K:W.Frag) (H:Hp):V->hK->Prop where
 |non:cu K H .non\.type "NoneType"
 |bl (x:Bool):cu K H (.bl x)\.type "bool"
 |int (i:Int):cu K H (.int i)\.type "int"
 |str (x:Str):cu K H (.str x)\.type "str"
 |flt (x:UInt64):cu K H (.flt x)\.type "float"
 |lst {a:i4} {xs:-V} (e:H a*>.lst xs):cu K H (.ref a)\.type ↑25
 |frz {a:i4} {o:Obj} {xs:-V} (e:H a*>.frz o\.lst xs):cu K H (.ref a)\.type ↑25
 |tup {a:i4} {xs:-V} (e:H a*>.tup xs):cu K H (.ref a)\.type ↑16
 |dK {a:i4} {kvs:-(Key×V)} (e:H a*>.dK kvs):cu K H (.ref a)\.type ↑53
 |dT {a:i4} {kvs:-(-Key×V)} (e:H a*>.dT kvs):cu K H (.ref a)\.type ↑53
 |ins {a C dx:i4} {fs:-(Str×V)} (e:H a*>.ins C dx fs) (cl:Cls K C) (ha:W.findIn K (.ref C) ↑65*>gh\.builtin ↑11)
   (hn:W.specialIn K (.b ↑11) "__get__"*>gh\.b ↑28) (htk:W.takesIn K (.b ↑11)*>gm)
   (hm:W.mroIn K C (.t ↑89)*>gm):cu K H (.r a)\.r C
def FV(I:!Inv H s)(d:aC x u)(ty:cu X.K H x t)(e:W.kitOne X.K t c*>b)(h:∀tk,Q (.x b) {s with toks:=tk}):
  jl ⇑X A (call (.b ↑70) [u,c]) Q E s:=by
 cases ty with
 |non=>cases (show u=Value.none from d);show ig W.kitx_none I.kIn True.intro e (λz=>nomatch z) h
 |bl y=>cases (show u=Value.bool y from d);show ig W.kitx_bool I.kIn True.intro e (λz=>nomatch z) h
 |int i=>let#[t,q]:=(show ∃t,u=Value.int i t from d);cases q;show ig W.kitx_int I.kIn True.intro e (λz=>nomatch z) h
 |str y=>let#[t,q]:=(show ∃t,u=Value.str y t from d);cases q;show ig W.kitx_str I.kIn True.intro e (λz=>nomatch z) h
 |flt y=>let#[t,q]:=(show ∃t,u=Value.float y t from d);cases q;show ig W.kitx_float I.kIn True.intro e (λz=>nomatch z) h
 | @lst a xs f=>
  cases (show u=Value.ref a from d);let#[0,n,_,h1]:=(show bh X.prog X.w H s.heap a (.a xs) from I.hok a _ f);show ig Qj I.kIn #[_,h1,1] e (λz=>nomatch z) h
 | @frz a ob xs f=>
  cases (show u=Value.ref a from d);let#[8,n,_,h1]:=(show bh X.prog X.w H s.heap a (.z ob\.a xs) from I.hok a _ f);show ig Qj I.kIn #[_,h1,1] e (λz=>nomatch z) h
 | @tup a xs f=>
  cases (show u=Value.ref a from d);let#[8,p]:=(show bh X.prog X.w H s.heap a (.u xs) from I.hok a _ f);let#[o,h1,h2,_]:=p;show ig W.kitx_tuple I.kIn #[o,h1,h2] e (λz=>nomatch z) h
 | @dK a kvs f=>
  cases (show u=Value.ref a from d);let#[0,vs,_,p]:=(show bh X.prog X.w H s.heap a (.k kvs) from I.hok a _ f);let#[o,es,ep,h1,h2,_]:=p;show ig Qi I.kIn #[o,h1,h2.1] e (λz=>nomatch z) h
 | @dT a kvs f=>
  cases (show u=Value.ref a from d);let#[0,xs,_,o,es,ep,h1,h2,_]:=(show bh X.prog X.w H s.heap a (.dT kvs) from I.hok a _ f);show ig Qi I.kIn #[o,h1,h2.1] e (λz=>nomatch z) h
 | @ins a C dx fs f cl ha g j hm=>
  cases (show u=Value.ref a from d);let#[mA,O,_]:=qV I.hok f;let#[od,J,_]:=O.look;show ig (W.kitx_own (cl.get _) cl.hd ha g j hm) I.kIn J e (λz=>nomatch z) h
end
end L2
namespace L2
open PySem PySem.Spec PyProof.Rows
structure Room(k:Nat)(A:ro):Prop where
 hd:A.handled=gf
 dp:A.depth+3*k+5<recursionLimit
 un:A.units+16*k+200<pq
 gu:A.guards*>[]
def Room.mono{j:Nat}(r:Room k A)(h:j<=k):Room j A:=#[r.hd,by have:=r.dp;lia,by have:=r.un;lia,r.gu]
def Room.deeper{k:Nat}(r:Room (k+1) A)(env:Env):Room k (A.deeper env):=
 #[r.hd,by have:=r.dp;change A.depth+1+3*k+5<_;lia,by have:=r.un;change A.units+3+16*k+200<_;lia,r.gu]
def yx{C:i4}{kw:-(Str×hK)}:(A.under\.b ↑26 #[.r C::us,kw]).depth=A.depth+1:=by first|rfl|simp[Around.under,Code.weight,Code.isCreation,Code.isGuard,Code.isCaller,Code.frames,Code.isFrame,guardIds]
def yw{C:i4}{kw:-(Str×hK)}:(A.under\.b ↑26 #[.r C::us,kw]).units=A.units+1:=by first|rfl|simp[Around.under,Code.cUnits,Code.frames,Code.isFrame]
def yd{C:i4}{kw:-(Str×hK)}(h:A.guards*>[]):(A.under\.b ↑26 #[.r C::us,kw]).guards*>[]:=by first|exact h|simp[Around.under,Code.isGuard,guardIds,h]
def Room.make{k:Nat}(r:Room (k+1) A)(C:i4)(us:-hK)(kw:-(Str×hK)):Room k (A.under\.b ↑26 #[.r C::us,kw]):=
 #[r.hd,by have:=r.dp;rw[yx];lia,by have:=r.un;rw[yw];lia,yd r.gu]
def Room.depth(r:Room k A):A.depth<recursionLimit:=by have:=r.dp;lia
def Room.units(r:Room k A):A.units+64<cLine:=by have:=r.un;lia
def Room.units0(r:Room k A):A.units<cLine:=by have:=r.un;lia
def dH:TA:=λ_ H Q=>Q [] H
def Lg(x:V)(Q:-V->Hp->Prop):-V->Hp->Prop:=λxs H2=>Q (x::xs) H2
def Lh(tr:TA)(Z:St)(Q:-V->Hp->Prop):VK:=λx H1=>tr Z H1\Lg x Q
def bZ(ta:TE)(tr:TA):TA:=λZ H Q=>ta Z H\Lh tr Z Q
section
variable {e:mR}{es:-mR}{te:TE}{t:TA}{pos:Pos}
def fh:PA X [] dH:=λ_ _ _ _ H Q I h=>tU #[[],H,I,.nil,h]
def ae(ha:PE X e te)(a:PA X es t)(b:kA (e::es) X.env=(hB,nH e X.env)::kA es X.env:=by rfl):PA X (e::es) (bZ te t):=by intro pos Sn s Z H Q I h;rw[b];change jl _ _ (spliced ((hB,nH e X.env)::nT pos\kA es X.env)) _ _ s;show pd (thn (ha Sn s Z H _ I h) λu s1 c=>?_);let#[x,H1,d,f,g]:=c;show thn (a pos Sn s1 Z H1 _ d g) λus s2 ⟨xs,H2,j,l,m⟩=>#[x::xs,H2,j,.c f l,m]
def pa1{e:mR}{te:TE}(ha:PE X e te)(a:kA [e] X.env=(hB,nH e X.env)::kA [] X.env:=by rfl):PA X [e] (bZ te dH):=ae ha fh a
def M7(Q:VK):-V->Hp->Prop:=λxs H1=>↑xs<=js/\hU H1 (.u xs) Q
def oQ(t:TA):TE:=λZ H Q=>t Z H\M7 Q
def Ng(Q:VK):-V->Hp->Prop:=λxs H1=>↑xs<=js/\hU H1 (.a xs) Q
def tH(t:TA):TE:=λZ H Q=>t Z H\Ng Q
def ao{x1}(h:PA X es t):PE X (.Tuple es x1 pos) (oQ t):=by lk;intro Q I c;show wpAny_Tuple_spliced (thn (h pos Sn s Z H _ I c) λus s1 ⟨xs,H1,a,r,z,q⟩=>#[by rw[<-↑r];show z,?_]);let hf:H1 ↥s1=gf:=a.hok.fresh\ar _;erw[.r ↥s1,upd H1 ↥s1\.u xs,a.laid (t':=s1.toks) (λb u e=>aP _ e) (ar _) ?_,1,q.at hf];erw[#[z,_,bJ _ rfl,1],us,r,#[_,bJ _ rfl,7]]
def bp(h:PA X es t):PE X (.List es pos) (tH t):=by lk;intro Q I c;show wpAny_List_spliced (thn (h pos Sn s Z H _ I c) λus s1 ⟨xs,H1,a,r,z,q⟩=>#[by rw[<-↑r];show z,?_]);let hf:H1 ↥s1=gf:=a.hok.fresh\ar _;erw[.r ↥s1,upd H1 ↥s1\.a xs,a.laid (t':=s1.toks) (λb u e=>aP _ e) (ar _) ?_,1,q.at hf];erw[z,us,(0),r,bJ _ rfl]
end
abbrev Sp:=-V->Hp->VK->XK->Prop
abbrev CXT:=-Env->Hp->ij->XK->hK->ij->Prop
structure gr(P:lu)(w:n7)(K:W.Frag)(mg:Str->Option hK)(base:mu)(A:ro)(outer:-Env)(s:ij)(H:Hp):Prop where
 frames:A.frames*>outer
 mod:Mod K mg base
 bs:∀b o,base.get? b*>o->s.heap.get? b*>o/\H b=gf
 bsz:base.objs.size<=↥s
 funs:s.heap.FunFrames base outer
 frf:∀b∈frs outer,H b=gf
 hok:HOk P w H s.heap
 bare:AllBare s.gens
def CE(outer:-Env)(P:lu)(w:n7)(H:Hp)(s:ij)(Q:VK)(u:hK)(s':ij):Prop:=
 ∃v H',s'.os=s.os/\AllBare s'.gens/\Un (frs outer) [] H H' s.heap s'.heap/\HOk P w H' s'.heap/\aC v u/\Q v H'
def CR(CX:CXT)(outer:-Env)(P:lu)(w:n7)(H:Hp)(s:ij)(Q:VK)(E:XK)(r:Result)(s':ij):Prop:=
 match r with
 |.ok (.ret u)=>CE outer P w H s Q u s'
 |.ok _=>False
 |.error e=>CX outer H s E e s'
structure az(P:lu)(w:n7)(K:W.Frag)(mg:Str->Option hK)(base:mu)(CX:CXT)(k:Nat)(f:i4)(fd:kS)(ps:-Str)(sp:Sp):Prop where
 len:∀vs H Q E,sp vs H Q E->↑vs=↑ps
 run:∀(A:ro)(outer:-Env)(s:ij)(H:Hp)(args:Args)(us:-hK)(vs:-V)(Q:VK)(E:XK),Room k A->!gr A outer s H->BindsTo s fd args (ps.zip us)->Vals vs us->sp vs H Q E->
  oD (kC P w) A (.call (.r f) args) (CR CX outer P w H s Q E) s
def az.mono{CX:CXT}{j k:Nat}{f:i4}{ps:-Str}{sp:Sp}(F:!az CX j f fd ps sp)(h:j<=k):
  !az CX k f fd ps sp:=#[F.len,λA outer s H args us vs Q E a=>F.run A outer s H args us vs Q E\a.mono h]
def az.imp{CX:CXT}{k:Nat}{f:i4}{ps:-Str}{sp a:Sp}(F:!az CX k f fd ps sp)
  (h:∀vs H Q E,a vs H Q E->sp vs H Q E):!az CX k f fd ps a:=
 #[λvs H Q E q=>F.len vs H Q E\h _ _ _ _ q,λA outer s H args us vs Q E b he c d e=>F.run A outer s H args us vs Q E b he c d\h _ _ _ _ e]
def gr.make{outer:-Env}(e:!gr A outer s H)(C:i4)(us:-hK)(kw:-(Str×hK)):
  !gr (A.under\.b ↑26 #[.r C::us,kw]) outer s H:=#[by first|show e.frames|(simpa [Around.under,Code.envs,Code.isFrame,pushEnvs] using e.frames),e.mod,e.bs,e.bsz,e.funs,e.frf,e.hok,e.bare]
section
variable {s s':ij}
def Inv.env0(I:!Inv H s):gr X.prog X.w X.K X.mg X.base X.A X.stack s H:=
 #[I.ok.frames,I.ok.mod,I.bs,cQ I.ok.bsz I.sz,I.stack,I.stkFree,I.hok,I.bare]
def Inv.after(I:!Inv H s)(h:CE X.stack X.prog X.w H s Q u s'):EP X Sn Z Q u s':=by let#[v,H',os,bare,un,hok,r,q]:=h;let#[a,g,d,t,c]:=s';obtain rfl:c=s.os:=os;erw[v,H',I.call (h':=a) (g':=g) (d':=d) (t':=t) (ch:=[]) un hok bare λb z=>absurd z ∅,r,q]
end
def Lj(sp:Sp)(dvs:-V)(E:XK)(Q:VK):-V->Hp->Prop:=λvs H1=>sp (vs++dvs) H1 Q E
def sO(sp:Sp)(dvs:-V)(E:XK)(t:TA):TE:=λZ H Q=>t Z H\Lj sp dvs E Q
def Cm(C:i4)(m:Str)(sp:Sp)(dvs:-V)(E:XK)(ta:TE)(t:TA):TE:=λZ H Q=>ta Z H λx H1=>∃a dx fs,x=.r a/\H1 a*>.ins C dx fs/\fs.lookup m=gf/\
 t Z H1 λvs H2=>sp (x::(vs++dvs)) H2 Q E
def Nf(C:i4)(sp:Sp)(dvs:-V)(E:XK)(t:TA):TE:=λZ H Q=>t Z H λvs H1=>∀x dx,H1 x=gf->H1 dx=gf->dx≠x->
 sp (.r x::(vs++dvs)) (upd (upd H1 dx\.own x) x\.ins C dx []) (λv H2=>v=.non/\Q (.r x) H2) E
def Binds(K:W.Frag)(fd:kS)(ps:-Str)(ds:-hK):Prop:=
 ∀(s:ij)(us:-hK),K.In s.heap->↑(us++ds)=↑ps->BindsTo s fd #[us,[]]\ps.zip (us++ds)
def Binds.all{ps:-Str}(h:∀us:-hK,↑us=↑ps->bindArgs fd #[us,[]]=pure\ps.zip us):Binds K fd ps []:=λs us _ a=>by
 rw[eY] at a |-;show .of_eq\h us a
def Passes(CX:CXT)(X:Cx)(E:XK):Prop:=∀(Sn:-(i4×Obj))(Z:St)(H:Hp)(s:ij)(e:hK)(s':ij),!Inv H s->CX X.stack H s E e s'->X.xe e s'
section
variable {CX:CXT}{k:Nat}{f C:i4}{ps:-Str}{sp:Sp}{dvs:-V}{ds:-hK}{E:XK}{x m:Str}{p pos apos:Pos}{e o:mR}{es:-mR}{ta:TE}{t:TA}
def vW{Q:VK}(F:az X.prog X.w X.K X.mg X.base CX k f fd ps sp)(c:Room k X.A)(d:Binds X.K fd ps ds)(hd:Vals dvs ds)(hx:Passes CX X E)
  (I:!Inv H s) (r:Vals vs us) (h:sp (vs++dvs) H Q E):jl ⇑X X.A (call (.r f) us) (EP X Sn Z Q) X.xe s:=by
 let b:Vals (vs++dvs) (us++ds):=r.append hd;let g:↑(us++ds)=↑ps:=by rw[<-↑b];show F.len _ _ _ _ h
 show kX (pM (F.run X.A X.stack s H #[us,[]] (us++ds) (vs++dvs) Q E c I.env0 (d s us I.kIn g) b h) λr s' a=>?_);cases r with
 |error e=>show hx Sn Z H s e s' I a
 |ok j=>
  cases j with
  |ret u=>show I.after a
  |next=>show False.elim a
  |brk=>show False.elim a
  |cont=>show False.elim a
def iR(F:az X.prog X.w X.K X.mg X.base CX k f fd ps sp)(b:Room k X.A)(c:Gl X x)(hm:X.mg x*>.r f)(d:W.keepIn X.K (.r f)=gm)(g:Binds X.K fd ps ds)(hd:Vals dvs ds)(hx:Passes CX X E)
  (ha:PA X (e::es) t) (j:(x==(↑17 : Str))=hB:=by decide) (he:kA (e::es) X.env=(hB,nH e X.env)::kA es X.env:=by rfl) (l:(nT pos\kA es X.env).any (·.1)=hB:=by rfl) :
  PE X (.Call (.n x p) (e::es) [] pos) (sO sp dvs E t):=by
 lk;intro Q I h;show pO\iu I c hm ?_ j;show Dp (h₀:=X.base) I.ok.mod.kin d (thn (ha pos Sn s Z H _ I h) λus s1 ⟨vs,H1,a,r,q⟩=>#[a.kIn,?_]) he l;show vW F b g hd hx a r q
def lU{pl:Sem Bool}(he:PE X o ta)(c:Cls X.K C)(hm:Meth X.K C m f)(F:az X.prog X.w X.K X.mg X.base CX k f fd ps sp)(hr:Room k X.A)(hb:Binds X.K fd ps ds)(hd:Vals dvs ds)(hx:Passes CX X E)(ha:PA X (e::es) t)
  (hst:kA (e::es) X.env=(hB,nH e X.env)::kA es X.env:=by rfl) (hpl:(nT pos\kA es X.env).any (·.1)=hB:=by rfl)
  (ht:nH (.Call (.Attribute o m apos) (e::es) [] pos) X.env=(do
   let ov <-nH o X.env
   standAt apos.atName
   let (f,first) <-holding [ov] (getMethod ov m pl)
   callWith pos f first (nT pos\kA (e::es) X.env) (backToKw pos\keywordEach [] X.env)):=by rfl) :
  PE X (.Call (.Attribute o m apos) (e::es) [] pos) (Cm C m sp dvs E ta t):=by
 lk;intro Q I h;show Qk (pl:=pl) (thn (he Sn s Z H _ I h) λu s1 hZQ=>?_) ht;let#[x,H1,I1,rx,a,dx,fs,ex,ea,l,q]:=hZQ;subst ex;obtain rfl:u=Value.ref a:=rx;show yH I1 ea c hm l ?_;show Dp (first:=[.r a]) (h₀:=X.base) I.ok.mod.kin hm.kp (thn (ha pos Sn s1 Z H1 _ I1 q) λus s2 ⟨vs,H2,I2,r,q2⟩=>#[I2.kIn,?_]) hst hpl;show vW (us:=.r a::us) (vs:=.r a::vs) F hr hb hd hx I2 (.c rfl r) q2
def lG{pl:Sem Bool}(he:PE X o ta)(c:Cls X.K C)(hm:Meth X.K C m f)(F:az X.prog X.w X.K X.mg X.base CX k f fd ps sp)(hr:Room k X.A)(hb:Binds X.K fd ps ds)(hd:Vals dvs ds)(hx:Passes CX X E)
  (ht:nH (.Call (.Attribute o m apos) [] [] pos) X.env=(do
   let ov <-nH o X.env
   standAt apos.atName
   let (f,first) <-holding [ov] (getMethod ov m pl)
   callWith pos f first (nT pos\kA [] X.env) (backToKw pos\keywordEach [] X.env)):=by rfl) :
  PE X (.Call (.Attribute o m apos) [] [] pos) (Cm C m sp dvs E ta dH):=by
 lk;intro Q I h;show Qk (pl:=pl) (thn (he Sn s Z H _ I h) λu s1 hZQ=>?_) ht;let#[x,H1,I1,rx,a,dx,fs,ex,ea,l,q]:=hZQ;subst ex;obtain rfl:u=Value.ref a:=rx;show yH I1 ea c hm l ?_;show W.callWith_K0 (first:=[.r a]) I1.kIn hm.kp\vW (us:=[.r a]) (vs:=[.r a]) F hr hb hd hx I1 (.c rfl .nil) q
structure Mk(K:W.Frag)(C f:i4):Prop where
 makes:W.makesIn K C=gm
 init:W.findIn K (.r C) ↑12*>gh\.r f
 fn:W.isFn K (.r f)=gm
 kp:W.keepIn K (.r C)=gm
def G_{Q:VK}(M:Mk X.K C f)(F:az X.prog X.w X.K X.mg X.base CX k f fd ps sp)(g:Room (k+1) X.A)(j:Binds X.K fd ps ds)(hd:Vals dvs ds)
  (hx:Passes CX X E) (I:!Inv H s) (r:Vals vs us)
  (h:∀x dx,H x=gf->H dx=gf->dx≠x->sp (.r x::(vs++dvs)) (upd (upd H dx\.own x) x\.ins C dx []) (λv H2=>v=.non/\Q (.r x) H2) E) :
  jl ⇑X X.A (call (.r C) us) (EP X Sn Z Q) X.xe s:=by
 let#[c,b,d]:=#[h (↥s+1) ↥s (I.hok.fresh\pB _) (I.hok.fresh\ar _)\bD (ic _),Inv.made (C:=C) I,(.c rfl\r.append hd:Vals (V.ref (↥s+1)::(vs++dvs)) (Value.ref (↥s+1)::(us++ds)))];let l:↑(Value.ref (↥s+1)::us++ds)=↑ps:=by let e:=↑d;rw[F.len _ _ _ _ c] at e;show e.symm
 show kX\Ie (f:=f) I.kIn M.makes M.init (beq_iff_eq.mp M.fn) (pM (F.run _ X.stack _ _ #[Value.ref (↥s+1)::us,[]] (Value.ref (↥s+1)::(us++ds)) _ _ E (g.make C us [])
  (b.env0.make C us []) (j _ (Value.ref (↥s+1)::us) b.kIn l) d c) λr s' a=>?_)
 cases r with
 |error e=>show hx Sn Z _ _ e s' b a
 |ok m=>
  cases m with
  |ret u=>
   let#[v,H',n,o,ev,p]:=b.after a;subst ev;erw[o,#[V.ref (↥s+1),H',n,1,p]]
  |next=>show False.elim a
  |brk=>show False.elim a
  |cont=>show False.elim a
def AZ(M:Mk X.K C f)(F:az X.prog X.w X.K X.mg X.base CX k f fd ps sp)(b:Room (k+1) X.A)(c:Gl X x)(hm:X.mg x*>.r C)(d:Binds X.K fd ps ds)(hd:Vals dvs ds)(hx:Passes CX X E)
  (ha:PA X (e::es) t) (g:(x==(↑17 : Str))=hB:=by decide) (he:kA (e::es) X.env=(hB,nH e X.env)::kA es X.env:=by rfl) (j:(nT pos\kA es X.env).any (·.1)=hB:=by rfl) :
  PE X (.Call (.n x p) (e::es) [] pos) (Nf C sp dvs E t):=by
 lk;intro Q I h;show pO\iu I c hm ?_ g;show Dp (h₀:=X.base) I.ok.mod.kin M.kp (thn (ha pos Sn s Z H _ I h) λus s1 ⟨vs,H1,a,r,q⟩=>#[a.kIn,?_]) he j;show G_ M F b d hd hx a r q
end
section
variable {CX:CXT}{k:Nat}{f C:i4}{ps ks:-Str}{sp:Sp}{E:XK}{x m:Str}{p pos apos kpos:Pos}{e o:mR}{es:-mR}{kws:-Keyword}{te ta:TE}{t tk:TA}{nm:Option Str}
variable {g:-hK->-hK->-hK}{gV:-V->-V->-V}
end
structure aQ(N P:-Str)(sc:Scope):Prop where
 kind:sc.kind=.function
 co:sc.isCoroutine=hB
 gen:sc.isGenerator=hB
 nd:N.Nodup
 pre:N.take ↑P=P
 par:∀x∈P,sc.names.lookup x*>.local\/sc.names.lookup x*>.cell
 nofree:∀y∈sc.names,y.2≠.free
def zB{kindOf:Str->Option NameKind}{x:Str}:∀{binds:-(Str×hK)}{m:Str->Option hK},(∀v,(x,v)∉binds)->bindL kindOf binds m x=m x
 | [],_,_=>rfl
 |(n,v)::r,m,h=>by
  unfold bindL;rw[zB λw hw=>h w\dz _ hw]
  split
  .have:x≠n:=by rintro rfl;show h v jc
   simp[this]
  rfl
def zD{kindOf:Str->Option NameKind}{x:Str}:∀{binds:-(Str×hK)}{m:Str->Option hK},(∀v,(x,v)∉binds)->bindC kindOf binds m x=m x
 | [],_,_=>rfl
 |(n,v)::r,m,h=>by
  unfold bindC;rw[zD λw hw=>h w\dz _ hw]
  split
  .rfl
  have:x≠n:=by rintro rfl;show h v jc
  simp[this]
def zC{kindOf:Str->Option NameKind}{x:Str}{v:hK}:∀{P:-Str}{vs:-hK}{i:Nat}{m:Str->Option hK},P.Nodup->P[i]?*>x->vs[i]?*>v->kindOf x*>.local->
  bindL kindOf (P.zip vs) m x*>v
 | [],_,_,_,_,h,_,_=>by simp at h
 |_::_,[],_,_,_,_,h,_=>by simp at h
 |p::P,w::vs,0,m,nd,h1,h2,a=>by
  simp at h1 h2;subst h1;subst h2;change bindL kindOf ((p,w)::P.zip vs) m p=_;unfold bindL;rw[zB λv b=>(eR.mp nd).1 (uf b).1,Sh a];simp
 |p::P,w::vs,i+1,m,nd,h1,h2,a=>by
  change bindL kindOf ((p,w)::P.zip vs) m x=_;unfold bindL;show zC (i:=i) (eR.mp nd).2 ‹h1› ‹h2› a
def zE{kindOf:Str->Option NameKind}{x:Str}{v:hK}:∀{P:-Str}{vs:-hK}{i:Nat}{m:Str->Option hK},P.Nodup->P[i]?*>x->vs[i]?*>v->kindOf x≠gh .local->
  bindC kindOf (P.zip vs) m x*>v
 | [],_,_,_,_,h,_,_=>by simp at h
 |_::_,[],_,_,_,_,h,_=>by simp at h
 |p::P,w::vs,0,m,nd,h1,h2,a=>by
  simp at h1 h2;subst h1;subst h2;change bindC kindOf ((p,w)::P.zip vs) m p=_;unfold bindC;rw[zD λv b=>(eR.mp nd).1 (uf b).1,Sg a];simp
 |p::P,w::vs,i+1,m,nd,h1,h2,a=>by
  change bindC kindOf ((p,w)::P.zip vs) m x=_;unfold bindC;show zE (i:=i) (eR.mp nd).2 ‹h1› ‹h2› a
def start(N:-Str)(vs:-V):St:=vs.map gh++List.replicate (↑N-↑vs) gf
def eV(CX:CXT)(P:lu)(w:n7)(K:W.Frag)(mg:Str->Option hK)(base:mu)(N:-Str)(qual:Str)(scope:Scope)(f:i4)(cd:hK)(A:ro)(outer:-Env)(s:ij)(H:Hp)(E:XK):Cx where
 prog:=P
 w:=w
 K:=K
 mg:=mg
 base:=base
 A:=A.deeper\envOfC qual scope ↥s f cd
 N:=N
 s₀:=s
 H₀:=H
 env:=envOfC qual scope ↥s f cd
 outer:=outer
 stack:=envOfC qual scope ↥s f cd::outer
 ex:=[]
 calm:=gm
 fn:=λ_=>gm
 pn:=[]
 xe:=λe s'=>jl (kC P w) (A.deeper\envOfC qual scope ↥s f cd) (leaving (envOfC qual scope ↥s f cd) e) (λ_ a=>CX outer H s E e a) (λb a=>CX outer H s E b a) s'
def An{sc:Scope}{n:Nat}{x:Str}(h:sc.names.lookup x*>.cell):∃c,(cellsFrom n sc.names []).lookup x*>c:=by let q:=Dq sc.names n []\.l h;show pD.mp q
def zo{CX:CXT}{N ps:-Str}{qual:Str}{f:i4}{cd:hK}{outer:-Env}{s s1:ij}{E:XK}
  (S:aQ N ps scope) (hd:A.handled=gf) (d:!gr A outer s H) (D:↑vs=↑ps) (r:Vals vs us)
  (x:InCallC s ↥s (bindL (envOfC qual scope ↥s f cd).kindOf (ps.zip us) λ_=>gf) (cellsFrom (↥s+1) scope.names []) (bindC (envOfC qual scope ↥s f cd).kindOf (ps.zip us) λ_=>gf) s1) :
  Inv (eV CX P w K mg base N qual scope f cd A outer s H E) [] (start N vs) H s1:=by
 let I:↑ps<=↑N:=by have:=congrArg List.length S.pre;rw[bz] at this;lia
 let#[h1,tk,1,m]:=x.done;let l:∀b:i4,b∉(eV CX P w K mg base N qual scope f cd A outer s H E).ex:=λb z=>absurd (show b∈([]:-i4) from z) ∅;erw[#[d.mod,S.kind,5,ar _,λy z c h1 h2=>?_,λy g=>?_,λy c _ h=>?_,λ_=>hd,Around.frames_deeper d.frames,.o #[5],λb z=>absurd z\l b,d.bs,d.bsz,λb _ _=>l b,λb z=>absurd z\l b,d.funs,d.frf],
  1,d.bare,Un.kept m,#[_,x.toInCall.ns,λi y v h1 h2 L=>?_],λy c h=>#[_,x.cell y c h],d.hok.fresh\ar _,λy c h=>?_,λp j=>absurd (show p∈([]:-(i4×Obj)) from j) ∅,d.hok.kept m,?_]
 .exact name_of_addr x.apart (pK h1)\pK h2
 .let g:scope.names.lookup y*>.cell\/scope.names.lookup y*>.free:=g;rcases g with g|g
  .exact An g
  show absurd rfl\S.nofree _ (pK g)
 .exact nj\x.above y c (pK h)
 .let hi:i<↑vs:=by
   unfold start at h2;by_cases hi:i<↑vs
   .exact hi
   rw[h_ ‹hi›] at h2;rw[C6] at h2
   split at h2<;>cases h2
  let ha:vs[i]?*>v:=by
   unfold start at h2;rw[eA ‹hi›,br] at h2;cases e:vs[i]? with
   |none=>rw[e] at h2;cases h2
   |some a=>rw[e] at h2;cases h2;rfl
  let#[u,o,C]:=r.get ha;let j:ps[i]?*>y:=by rw[<-S.pre,ud ()];show h1
  let B:ps.Nodup:=by rw[<-S.pre];show S.nd.sublist\List.take_sublist _ _
  erw[u,C,?_];rcases S.par y (a_ j) with k|k
  .exact .l #[k,zC B j o k]
  let#[c,e]:=An (n:=↥s+1) k;show .o #[.l k,c,e,?_];let q:=x.cell y c e;rw[zE B j o (by change scope.names.lookup y≠_;rw[k];decide)] at q;show q
 .exact d.hok.fresh\nj (x.above y c\pK h)
 unfold start;change _=↑N;rw[bo,av,List.length_replicate];lia
def wu{CX:CXT}{k:Nat}{f:i4}{name qual:Str}{params:Arguments}{body:-mT}{j kV doc pm a ct p:hK}{an od:Option i4}
  {z:Array\Option hK} {N ps:-Str} {sp:Sp} (lk:K.lookup f*>#[p,od,.func\W.fnOf name qual params body scope j kV doc pm an a ct,z]) (B:W.codeIn K a qual=gm) (S:aQ N ps scope)
  (len:∀vs H Q E,sp vs H Q E->↑vs=↑ps)
  (C:∀(A:ro)(outer:-Env)(s:ij)(H:Hp)(vs:-V)(Q:VK)(E:XK),Room k (A.deeper\envOfC qual scope ↥s f a)->sp vs H Q E->
   ∃t,PSs (eV CX P w K mg base N qual scope f a A outer s H E) body t/\t {nx:=λ_ H'=>Q .non H',rt:=Q} (start N vs) H) :
  !az CX (k+1) f (W.fnOf name qual params body scope j kV doc pm an a ct) ps sp:=by
 erw[len,λA outer s H args us vs Q E g d D r l=>?_];let#[L,m,lim]:=#[len _ _ _ _ l,(d.mod.kin.keeps λb o e=>(d.bs b o e).1:K.In s.heap),(d.mod.nolimit.keeps λb o e=>(d.bs b o e).1:s.heap.NoLimit)];let M:∀y∈ps.zip us,scope.names.lookup y.1*>.local\/(scope.names.lookup y.1*>.cell/\((cellsFrom (↥s+1) scope.names []).lookup y.1).isSome=gm):=λ⟨n,v⟩ O=>by
  rcases S.par n (uf O).1 with q|q
  .exact .l q
  show .o #[q,Dq _ _ _\.l q]
 show Qx g.depth (m>>lk) rfl S.co S.gen rfl (Qh m B)\D _ _ _ _ ?_;show Q0 S.kind M λenv he s1 x=>?_;subst he;erw[lim.keeps x.toInCall.keep,codeAny_func ?_];let#[t,R,T]:=C A outer s H vs Q E (g.deeper _) l;let I:Inv (eV CX P w K mg base N qual scope f a A outer s H E) [] (start N vs) H s1:=zo S g.hd d L r x;show bU (R [] s1 (start N vs) H _ I T) (λU s' c=>?_) λe s' c=>c;let fin:∀{Z':St}{H':Hp}{v:V}{u:hK},Inv (eV CX P w K mg base N qual scope f a A outer s H E) [] Z' H' s'->aC v u->Q v H'->CE outer P w H s Q u s':=
  λ{Z' H' v u} J h q=>#[v,H',J.os,J.bare,J.base,J.hok,h,q]
 cases U with
 |ret u=>
  let#[v,Z',H',J,h,q]:=c;show fin J h q
 |next=>
  let#[Z',H',J,q]:=c;show fin (v:=V.non) (u:=Value.none) J rfl q
 |brk=>
  let#[8,q]:=c;show False.elim q
 |cont=>
  let#[8,q]:=c;show False.elim q
end L2
namespace L2
open PySem PySem.Spec PyProof.Rows
section
variable {x:Str}{p pos:Pos}{e:mR}{es:-mR}{t:TA}{id T:String}{r:-V->Hp->VK->Prop}
def tCBK(r:-V->Hp->VK->Prop)(Q:VK):-V->Hp->Prop:=λvs H1=>r vs H1 Q
def tCB(r:-V->Hp->VK->Prop)(t:TA):TE:=λZ H Q=>t Z H\tCBK r Q
def bP(a:c7 X (.b id) r)(b:Gl X x)(hm:X.mg x=gf)(c:r6 x*>.b id)(ha:PA X (e::es) t)(d:x≠↑98:=by decide)(f:(x==(↑17 : Str))=hB:=by decide)
  (he:kA (e::es) X.env=(hB,nH e X.env)::kA es X.env:=by rfl) (g:(nT pos\kA es X.env).any (·.1)=hB:=by rfl):PE X (.Call (.n x p) (e::es) [] pos) (tCB r t):=by
 lk;intro Q I h;show pO\jC I b hm c ?_ d f;show Rh (thn (ha pos Sn s Z H _ I h) λus s1 ⟨vs,H1,j,l,m⟩=>a Sn s1 Z H1 vs us Q j l m) he g
def de(a:c7 X (.t T) r)(b:Gl X x)(hm:X.mg x=gf)(c:r6 x*>.t T)(ha:PA X (e::es) t)(d:x≠↑98:=by decide)(f:(x==(↑17 : Str))=hB:=by decide)
  (he:kA (e::es) X.env=(hB,nH e X.env)::kA es X.env:=by rfl) (g:(nT pos\kA es X.env).any (·.1)=hB:=by rfl):PE X (.Call (.n x p) (e::es) [] pos) (tCB r t):=by
 lk;intro Q I h;show pO\jC I b hm c ?_ d f;show pH (thn (ha pos Sn s Z H _ I h) λus s1 ⟨vs,H1,j,l,m⟩=>a Sn s1 Z H1 vs us Q j l m) he g
end
end L2
namespace HT
open PySem PyProof.Rows
def lexLt:-Int->-Int->Bool
 | [],[]=>hB
 | [],_::_=>gm
 |_::_,[]=>hB
 |x::xs,y::ys=>if x=y then lexLt xs ys else decide (x<y)
def lexLt_cons(x y:Int)(xs ys:-Int):lexLt (x::xs) (y::ys)=if x=y then lexLt xs ys else decide (x<y):=rfl
def D8:lexLt [] []=hB:=rfl
def DY(y:Int)(ys:-Int):lexLt [] (y::ys)=gm:=rfl
def DZ(x:Int)(xs:-Int):lexLt (x::xs) []=hB:=rfl
def IA(A:ro)(s:ij)(a:Int)(t:Tok)(c:Int)(u:Tok):∃e,SeqAt.EqAt A s (.i a t) (.i c u) e/\(e=gm↔a=c):=
 #[(a==c),Qn a t c u,∅]
def Hl(A:ro)(s:ij)(a:Int)(t:Tok)(c:Int)(u:Tok)(prog:lu)(w:n7)(E:hK->ij->Prop)(Q:hK->ij->Prop)(h:Q (.x (decide (a<c))) s):
  jl (kC prog w) A (richCompare .Lt (.i a t)\.i c u) Q E s:=
 (Rj h:jl (kC prog w) A (nc .Lt (.i a t)\.i c u) Q E s)
section
open PySem.SeqAt
open PySem.AutoSeq1 (wpAny_loadPart')
open PySem.MeetsSeq PySem.MeetsSeq2 PySem.MeetsSeq3
def D5(l b:i4)(items j:Array hK)(n E:Nat)(dd H:Option i4)(sl I:Array\Option hK)(ns ms:-Int)(hi:u3 items.toList ns)(B:u3 j.toList ms):
  Meets (Builtin.«tuple.__lt__» #[[.r l,.r b],[]])
   (λ_ R s=>s.heap.get? l*>{cls:=.t ↑16,dict:=dd,data:=.e items n,slots:=sl}/\s.heap.get? b*>{cls:=.t ↑16,dict:=H,data:=.e j E,slots:=I}/\
    R (.ok\.ret (.x\lexLt ns ms)) s):=
 .of_wp λprog w A R s h=>by
  let#[#[p,g,d,tk,os],#[K,L,h],T]:=#[s,h,AutoSeq1.sub_tuple_tuple];let U:items.size=↑ns:=by rw[<-↑hi];simp
  let X:j.size=↑ms:=by rw[<-↑B];simp
  wp_walk using DN K,DN L,QU _ (λrest b s'=>b.1=gf/\s'=#[p,g,d,tk,os]/\∃(vs ws:-hK)(m o:-Int),rest=vs.zip ws/\
   u3 vs m/\u3 ws o/\↑m+j.size=↑o+items.size/\R (.ok\.ret (.x\lexLt m o)) #[p,g,d,tk,os]) _
  case turn=>
   rintro⟨y,x⟩ rest b s' ⟨v,rfl,vs,ws,m,o,hz,z,r,hlen,f⟩;cases z with
   |nil=>rw[List.zip_nil_left] at hz;cases hz
   |cons a t M=>
    cases r with
    |nil=>rw[List.zip_nil_right] at hz;cases hz
    |cons c u N=>
     rw[Pp] at hz;injection hz with O P;injection O with Q hx;subst Q hx;rw[lexLt_cons] at f;simp only[ck] at hlen;let#[e,he,C]:=IA A.in1 #[p,g,d,tk,os] a t c u;show aa\he prog w _ _ ?_;cases e with
     |true=>
      rw[Sh\C.mp rfl] at f
      wp_walk
      erw[5,8,_,P,M,N,(),f]
     |false=>
      rw[Sg λq=>absurd (C.mpr q) bH] at f;let S:=Hl A.in1 #[p,g,d,tk,os] a t c u prog w
      wp_walk using S
      erw[2,‹f›]
  case fin=>
   rintro⟨Y,Z⟩ s' ⟨v,rfl,vs,ws,m,o,hz,z,r,hlen,f⟩;simp only at v;subst v;let D:lexLt m o=decide (items.size<j.size):=by
    cases z with
    |nil=>
     cases r with
     |nil=>
      simp only[jb] at hlen;rw[D8];show (Sj ()).symm
     |cons c u hw=>
      simp only[jb,ck] at hlen;rw[DY];show (Si ()).symm
    |cons a t D=>
     cases r with
     |nil=>
      simp only[jb,ck] at hlen;rw[DZ];show (Sj ()).symm
     |cons c u hw=>
      rw[Pp] at hz;cases hz
   rw[D] at f
   wp_walk
   erw[2,by simpa [Builtin.Tuple.tupleCompareSizes] using f]
  case h=>
   erw[5,items.toList,j.toList,ns,ms,1,hi,B,(),h]
end
section
variable {prog:lu}
def lt_tupInts{l b:i4}{items a:Array hK}{ns ms:-Int}{Q:hK->ij->Prop}(j:IsTup s.heap l items)(m:IsTup s.heap b a)(hi:u3 items.toList ns)(o:u3 a.toList ms)
  (p:A.units<pq) (h:Q (.x\lexLt ns ms) s):jl (kC prog w) A (nc .Lt (.r l)\.r b) Q E s:=by
 let#[#[cls,dd,data,sl],c,d,n,hd]:=id j;let#[#[v,q,data2,r],e,f,u,g]:=id m;simp only at d hd f g;subst d hd f g;show richCompare_meets_room (op:=.Lt) #[_,c,1] #[_,e,1] PySem.F.slot_tuple_lt PySem.F.entry_tuple_lt (PySem.F.args_tuple_lt_2 _ _) (D5 l b items a n u dd q sl r ns ms hi o)
  #[c,e,show Value.bool (lexLt ns ms)≠Value.notImplemented/\Q (.x\lexLt ns ms) s from #[(λx=>nomatch x),h]] p
def cat_tup{t b:i4}{vs ws:-hK}{Q:hK->ij->Prop}(o:IsTup s.heap t vs.toArray)(p:IsTup s.heap b ws.toArray)(d:vs≠[])
  (h1:ws=[]->Q (.r t) s) (h2:ws≠[]->Q (.r ↥s) {s with heap:=s.heap.push {cls:=.t ↑16,data:=.e (vs++ws).toArray}})
  (hsz:↑vs+↑ws<=js):jl (kC prog w) A (binaryOp .Add (.r t)\.r b) Q E s:=by
 let#[#[cls,dd,data,sl],a,f,n,hd]:=id o;let#[#[q,g,data2,h],c,j,l,m]:=id p;simp only at f hd j m;subst f hd j m;let e:vs.toArray++ws.toArray=(vs++ws).toArray:=∅;by_cases hw:ws=[]
 .exact concat_meets #[_,a,1] #[_,c,1] QD seq_tuple_add Qa PY (PU _ _)
   (tuple_addW1 t b vs.toArray ws.toArray n l dd g sl h ‹d› (by simp[hw])) #[a,c,h1 hw]
 show concat_meets #[_,a,1] #[_,c,1] QD seq_tuple_add Qa PY (PU _ _)
  (tuple_addW2 t b vs.toArray ws.toArray n l dd g sl h ‹d› ‹hw› (by rw[bI,bI];show hsz)) #[a,c,?_]
 rw[e];show h2 hw
def sIx(n d:Nat):Option Int->Nat
 |none=>d
 |some v=>if v<0 then (v+(n:Int)).toNat else min v.toNat n
def sIx_none(n d:Nat):sIx n d gf=d:=rfl
def sIx_nat(n d k:Nat):sIx n d (gh (k:Int))=min k n:=by change (if (k:Int)<0 then ((k:Int)+(n:Int)).toNat else min (k:Int).toNat n)=min k n;rw[Sg (),jP]
def Lz(n d:Nat)(hd:d<=n)(o:Option Int):sIx n d o<=n:=by
 cases o with
 |none=>show hd
 |some v=>
  change (if v<0 then (v+(n:Int)).toNat else min v.toNat n)<=n;by_cases a:v<0
  .rw[Sh a];lia
  rw[Sg a];show Df _ _
def Bn(v:Int)(n d:Nat):(if v<0 then max (v+(n:Int)) 0 else min v (n:Int))=((sIx n d (gh v):Nat):Int):=by
 change (if v<0 then max (v+(n:Int)) 0 else min v (n:Int))=(((if v<0 then (v+(n:Int)).toNat else min v.toNat n):Nat):Int);by_cases a:v<0
 .simp only[Sh a];lia
 simp only[Sg a];lia
def Fb(lo hi:Option Int)(n:Nat):Builtin.Slice.sliceAdjust lo hi 1 (n:Int)=(((sIx n 0 lo:Nat):Int),((sIx n n hi:Nat):Int)):=by
 let h1:¬((1:Int)<0):=();unfold Builtin.Slice.sliceAdjust;simp only[h1,if_false];show nr ?_ ?_
 .cases lo with
  |none=>rfl
  |some v=>show Bn v n 0
 cases hi with
 |none=>rfl
 |some v=>show Bn v n n
def EO(i j:Nat):Builtin.Slice.slicePlaces (i:Int) (j:Int) 1=j-i:=by
 unfold Builtin.Slice.slicePlaces;let h1:(1:Int)>0:=();simp only[h1,if_true,Int.ediv_one]
 split<;>lia
def yu{v:hK}{o:Option Int}{Q:Option Int->ij->Prop}(p:IsPart v o)(h:Q o s):jl (kC prog w) A (Builtin.Slice.slicePartIndex v) Q E s:=by
 cases p with
 |none=>show QH h
 |int i t=>show slicePart_int h
def xT{sl:i4}{a b:hK}{lo hi:Option Int}{n:Nat}{Q:Int×Int×Nat->ij->Prop}(e:s.heap.IsSliceOf sl a b .none)(pl:IsPart a lo)(pu:IsPart b hi)
  (h:Q (((sIx n 0 lo:Nat):Int),1,sIx n n hi-sIx n 0 lo) s):jl (kC prog w) A (Builtin.Slice.sliceApplied (.r sl)\pure (n:Int)) Q E s:=by
 let#[os,c,f,d]:=id e;unfold Builtin.Slice.sliceApplied Builtin.Slice.sliceFields;show aa\aa (cX c d (x:=a) rfl\aa (cX c d (x:=b) rfl\aa (cX c d (x:=.none) rfl\ai ?_)));show aa\QH ?_;change jl _ _ (if ((1:Int)==0)=gm then _ else _) _ _ s;rw[Sg ⋯];show aa\yu pl (aa\yu pu (aa\ai ?_));change jl _ _ (match Builtin.Slice.sliceAdjust lo hi 1 (n:Int) with|(lo,hi)=>pure (lo,(1:Int),Builtin.Slice.slicePlaces lo hi 1)) _ _ s;rw[Fb lo hi n];change jl _ _ (pure (((sIx n 0 lo:Nat):Int),(1:Int),Builtin.Slice.slicePlaces ((sIx n 0 lo:Nat):Int) ((sIx n n hi:Nat):Int) 1)) _ _ s;rw[EO];show ai h
def Hw(xs:Array hK)(i k:Nat):((List.range k).filterMap λ(m:Nat)=>xs[((i:Int)+(m:Int)*1).toNat]?).toArray=((xs.toList.drop i).take k).toArray:=by
 let e:(λ(m:Nat)=>xs[((i:Int)+(m:Int)*1).toNat]?)=λm=>xs[i+m]?:=by funext m;have:((i:Int)+(m:Int)*1).toNat=i+m:=();rw[this]
 rw[e];have:=pick_run xs i k;rw[List.filterMap_map] at this;let a:((λx=>xs[x]?) ∘ λx=>i+x)=λm=>xs[i+m]?:=rfl;rw[a] at this;rw[this]
def getItem_tuple_cut{t sl:i4}{items:Array hK}{c d:hK}{lo hi:Option Int}{Q:hK->ij->Prop}(a:IsTup s.heap t items)(e:s.heap.IsSliceOf sl c d .none)(pl:IsPart c lo)(pu:IsPart d hi)
  (hw:¬(sIx items.size 0 lo=0/\sIx items.size items.size hi=items.size))
  (h:Q (.r ↥s) {s with heap:=s.heap.push {cls:=.t ↑16,data:=.e ((items.toList.drop\sIx items.size 0 lo).take (sIx items.size items.size hi-sIx items.size 0 lo)).toArray}})
  (hsz:items.size<=js):jl (kC prog w) A (getItem (.r t)\.r sl) Q E s:=by
 let b:sizeOk (.e ((items.toList.drop\sIx items.size 0 lo).take (sIx items.size items.size hi-sIx items.size 0 lo)).toArray):=by change ((items.toList.drop\sIx items.size 0 lo).take (sIx items.size items.size hi-sIx items.size 0 lo)).toArray.size<=js;rw[bI,bz,eJ,gw];lia
 let n:sIx items.size items.size hi<=items.size:=Lz _ _ (ar _) hi;let#[os,f,g,o]:=id e;let j:s.TypeIs (.r sl) "slice":=#[os,f,g];unfold getItem
 try with_reducible show cY ?_
 first|show aa (ai ?_)|skip
 show aa (Q9 a.typeIs ⋯ ?_);show aa (kY (name:=Str.ofString "__getitem__") a.typeIs pI
  (ik pI a.typeIs QB ?_\Qt _ _))
 change jl _ _ (Builtin.Tuple.tupleItemsOf (.r t) >>= _) _ _ s;show aa\tupleItemsOf_ a ?_;show aa\nE j ?_;rw[Sh ⋯];show aa\xT e pl pu ?_;let l:¬((((sIx items.size 0 lo:Nat):Int)==0&&(1:Int)==1&&(sIx items.size items.size hi-sIx items.size 0 lo)==items.size)=gm):=by intro q;rw[hX,hX] at q;let p:((sIx items.size 0 lo:Nat):Int)=0:=eq_of_beq q.1.1;let r:sIx items.size items.size hi-sIx items.size 0 lo=items.size:=eq_of_beq q.2;show hw #[(),()]
 change jl _ _ (if (((sIx items.size 0 lo:Nat):Int)==0&&(1:Int)==1&&(sIx items.size items.size hi-sIx items.size 0 lo)==items.size)=gm then _ else _) _ _ s;rw[Sg l,Hw]
 first
  |show aa (m:=Builtin.Tuple.tupleExact _)\e_ (ai #[2,ai h]) b
  |show aa (m:=Builtin.Tuple.tupleExact _)\e_ (aa\ai (ai #[2,ai h])) b
  |show aa\aa (m:=Builtin.Tuple.tupleExact _) (e_ (ai\ai #[2,ai h]) b)
  |show aa\aa (m:=Builtin.Tuple.tupleExact _) (e_ (ai #[2,ai h]) b)
end
end HT
namespace L2
open PySem PySem.Spec PyProof.Rows
abbrev TO:=St->Hp->(Option Int->Hp->Prop)->Prop
def PO(X:Cx)(e:Option mR)(t:TO):Prop:=
 ∀(Sn:-(i4×Obj))(s:ij)(Z:St)(H:Hp)(Q:Option Int->Hp->Prop),!Inv H s->t Z H Q->
  jl ⇑X X.A (evalPart e X.env) (λu s'=>∃o H',!Inv H' s'/\IsPart u o/\Q o H') X.xe s
def IX:TO:=λ_ H Q=>Q gf H
def K6(Q:Option Int->Hp->Prop)(x:V)(H1:Hp)(i:Int):Prop:=x=.i i/\Q (gh i) H1
def K5(Q:Option Int->Hp->Prop):VK:=λx H1=>Exists\K6 Q x H1
def M9(t:TE):TO:=λZ H Q=>t Z H\K5 Q
def nQ{ns:-Int}:∀{us:-hK},Vals (ns.map V.int) us->u3 us ns:=by
 induction ns with
 |nil=>intro us r;rw[C_] at r;cases r;show .nil
 |cons n ns a=>
  intro us r;rw[bu] at r;cases r with
  |cons b c=>
   let#[t,e]:=b;subst e;show .c n t\a c
section
variable {e:mR}{te:TE}{lo hi:Option mR}{tl th:TO}{pos p2:Pos}
def iQ:PO X gf IX:=by lk;intro Q I h;rw[evalPart_none];show ai #[gf,H,I,.none,h]
def iP(h:PE X e te):PO X (gh e) (M9 te):=by lk;intro Q I hw;rw[evalPart_some];show thn (h Sn s Z H _ I hw) λu s1 a=>?_;let#[x,H1,b,c,d]:=a;let#[i,1,q]:=d;let#[t,1]:=c;erw[gh i,H1,b,.i i t,q]
def SlR(X:Cx)(r:V->Option Int->Option Int->Hp->VK->Prop):Prop:=
 ∀(Sn:-(i4×Obj))(s:ij)(Z:St)(H:Hp)(x:V)(v a b:hK)(lo hi:Option Int)(sl:i4)(Q:VK),!Inv H s->aC x v->s.heap.IsSliceOf sl a b .none->IsPart a lo->IsPart b hi->r x lo hi H Q->
  ∃T id,typeLookup (.t T) "__getitem__" = pure (gh\.b id)/\s.TypeIs v T/\jl ⇑X X.A (getItem v\.r sl) (EP X Sn Z Q) X.xe s
def tSl3(r:V->Option Int->Option Int->Hp->VK->Prop)(x:V)(l:Option Int)(Q:VK):Option Int->Hp->Prop:=λu a=>r x l u a Q
def tSl2(r:V->Option Int->Option Int->Hp->VK->Prop)(th:TO)(Z:St)(x:V)(Q:VK):Option Int->Hp->Prop:=λl H2=>th Z H2\tSl3 r x l Q
def tSl1(r:V->Option Int->Option Int->Hp->VK->Prop)(tl th:TO)(Z:St)(Q:VK):VK:=λx H1=>tl Z H1\tSl2 r th Z x Q
def tSl(r:V->Option Int->Option Int->Hp->VK->Prop)(te:TE)(tl th:TO):TE:=λZ H Q=>te Z H\tSl1 r tl th Z Q
def iN{r:V->Option Int->Option Int->Hp->VK->Prop}(j:SlR X r)(he:PE X e te)(m:PO X lo tl)(n:PO X hi th):PE X (.Subscript e (.Slice lo hi gf p2) pos) (tSl r te tl th):=by lk;intro Q I h;show Dv (thn (he Sn s Z H _ I h) λv s1 c=>?_);let#[x,H1,o,p,y]:=c;show wpAny_Slice (thn (m Sn s1 Z H1 _ o y) λd s2 c=>?_);let#[l,H2,z,pl,B]:=c;show thn (n Sn s2 Z H2 _ z B) λf a c=>?_;let#[u,g,C,pu,D]:=c;rw[evalPart_none];show ai ?_;let E:!Inv g {a with heap:=a.heap.push {cls:=.t "slice",data:=.d\tA [d,f,.none]}}:=C.kept (t':=a.toks) λb ob q=>aP _ q;let#[T,id,K,L,M]:=j Sn {a with heap:=a.heap.push {cls:=.t "slice",data:=.d\tA [d,f,.none]}} Z g x v d f l u ↥a Q E p (Ra ..) pl pu D;change jl ⇑X X.A (subscriptTail e (.Slice lo hi gf p2) v\.r ↥a) (EP X Sn Z Q) X.xe {a with heap:=a.heap.push {cls:=.t "slice",data:=.d\tA [d,f,.none]}};show tail_any (ops:=[.r ↥a,v]) L K M (by with_unfolding_all rfl)
def fk(xs:-V)(lo hi:Option Int):-V:=(xs.drop\HT.sIx ↑xs 0 lo).take (HT.sIx ↑xs ↑xs hi-HT.sIx ↑xs 0 lo)
def yh(xs:-V)(lo hi:Option Int):↑(fk xs lo hi)<=↑xs:=by unfold fk;rw[bz,eJ];lia
def rSlT(K:W.Frag):V->Option Int->Option Int->Hp->VK->Prop:=λx lo hi H Q=>∃a xs,x=.r a/\SqT K H a xs/\
 ¬(HT.sIx ↑xs 0 lo=0/\HT.sIx ↑xs ↑xs hi=↑xs)/\∀p,H p=gf->Q (.r p)\upd H p (.u\fk xs lo hi)
def Lw:SlR X (rSlT []):=by
 lk;intro x v g j lo hi sl Q I d e pl pu h;let#[a,xs,1,hx,hw,q]:=h;cases d;let#[f,r,c,hz]:=I.tuple hx;let hlen:f.toArray.size=↑xs:=by rw[bI];show r.length.symm
 erw[↑16,_,pI.lookup,c.typeIs,?_];show HT.getItem_tuple_cut c e pl pu (by rw[hlen];show hw) ?_ (by rw[hlen];show hz);rw[hlen];erw[.r ↥s,_,I.laid (t':=s.toks) (o:=.u\fk xs lo hi) (λb ob q=>aP _ q) (ar _) ?_,1,q _\I.hok.fresh (ar _)];erw[#[cQ (yh xs lo hi) hz,_,bJ _ rfl,1],_,(r.drop\HT.sIx ↑xs 0 lo).take (HT.sIx ↑xs ↑xs hi-HT.sIx ↑xs 0 lo),wV _ _]
def Ob(K:W.Frag):R2:=λx y H Q=>∃a b xs ys,x=.r a/\y=.r b/\SqT K H a xs/\SqT K H b ys/\xs≠[]/\↑xs+↑ys<=js/\
 (ys=[]->Q (.r a) H)/\(ys≠[]->∀p,H p=gf->Q (.r p)\upd H p (.u (xs++ys)))
def Vals.nil_iff(r:Vals xs us):us=[]↔xs=[]:=by
 cases r with
 |nil=>simp
 |cons _ _=>simp
def vH:OpR X (binaryOp .Add) (Ob []):=by lk;intro x y v u Q I e f h;let#[a,b,xs,ys,5,ha,g,hx,hz,j,l]:=h;cases e;cases f;let#[m,d,p1,_]:=I.tuple ha;let#[n,c,p2,_]:=I.tuple g;show HT.cat_tup p1 p2 (λz=>hx\d.nil_iff.mp z) (λz=>#[.r a,H,I,1,j\c.nil_iff.mp z]) (λz=>?_) (by rw[<-↑d,<-↑c];show hz);erw[.r ↥s,_,I.laid (t':=s.toks) (o:=.u (xs++ys)) (λb ob q=>aP _ q) (ar _) ?_,1,l (λw=>z\c.nil_iff.mpr w) _\I.hok.fresh (ar _)];erw[#[by rw[bo];show hz,_,bJ _ rfl,1],_,d.append c,wV _ _]
end
end L2
namespace L2
open PySem PySem.Spec PyProof.Rows
def ixN(n:Nat)(i:Int):Option Nat:=if 0<=i then (if i<n then gh i.toNat else gf) else if -(n:Int)<=i then gh (i+n).toNat else gf
def atI{α:Type}(xs:List α)(i:Int):Option α:=(ixN ↑xs i).bind λj=>xs[j]?
def vK{j:Nat}(h:ixN n i*>j):seqIndex? i n*>j/\j<n/\-(n:Int)<=i/\i<n:=by
 unfold ixN at h;by_cases a:0<=i
 .rw[Sh a] at h;by_cases h1:i<n
  .rw[Sh h1] at h;let e:i.toNat=j:=eB h;erw[by rw[DC a h1,e],(),(),h1]
  rw[Sg h1] at h;cases h
 rw[Sg a] at h;by_cases h1:-(n:Int)<=i
 .rw[Sh h1] at h;let e:(i+n).toNat=j:=eB h;erw[by rw[DB () h1,e],(),h1,()]
 rw[Sg h1] at h;cases h
def Bs{α:Type}{xs:List α}{v:α}(h:atI xs i*>v):∃j,seqIndex? i ↑xs*>j/\xs[j]?*>v/\j<↑xs/\-(↑xs:Int)<=i/\i<↑xs:=by
 unfold atI at h;cases e:ixN ↑xs i with
 |none=>rw[e] at h;cases h
 |some j=>
  rw[e] at h;let#[h1,h2,a,b]:=vK e;erw[j,h1,h,h2,a,b]
def aW{α:Type}{xs:List α}{j:Nat}{v:α}(h:xs[j]?*>v):atI xs (j:Int)*>v:=by
 let a:j<↑xs:=(aO.mp h).1;let e:ixN ↑xs (j:Int)*>j:=by unfold ixN;rw[Sh (),Sh ()];simp
 unfold atI;rw[e];show h
def Bv(b:mR):Prop:=∀o i,subscripted b hB o i=operate [o,i]\getItem o i
def IxR(X:Cx)(r:R2):Prop:=
 ∀(value slice:mR)(Sn:-(i4×Obj))(s:ij)(Z:St)(H:Hp)(x y:V)(v u:hK)(Q:VK),!Inv H s->aC x v->aC y u->r x y H Q->
  subscripted slice hB v u=operate [v,u] (getItem v u)->jl ⇑X X.A (subscriptTail value slice v u) (EP X Sn Z Q) X.xe s
def MtR(X:Cx)(id:String)(r:V->-V->Hp->VK->Prop):Prop:=
 ∀(Sn:-(i4×Obj))(s:ij)(Z:St)(H:Hp)(x:V)(xs:-V)(v:hK)(us:-hK)(Q:VK),!Inv H s->aC x v->Vals xs us->r x xs H Q->
  jl ⇑X X.A (call (.b id) (v::us)) (EP X Sn Z Q) X.xe s
section
variable {a b:mR}{ta tb:TE}{pos:Pos}
def CB{r:R2}(c:IxR X r)(ha:PE X a ta)(d:PE X b tb)(e:Bv b):PE X (.Subscript a b pos) (tOp r ta tb):=by lk;intro Q I h;show Dv (wM ha d I h λv u s2 x y H2 f g j q=>c a b Sn s2 Z H2 x y v u Q f g j q\e _ _)
def ixx{r:R2}(c:IxR X r)(ha:PE X a ta)(d:PE X b tb)(e:Bv b:=by (intro _ _;rfl)):PE X (.Subscript a b pos) (tOp r ta tb):=CB c ha d e
def N6(K:W.Frag)(x y:V)(H:Hp)(Q:VK)(p:i4)(xs:-V)(i:Int)(v:V):Prop:=x=.r p/\y=.i i/\SqL K H p xs/\atI xs i*>v/\Q v H
def tN(K:W.Frag):R2:=λx y H Q=>Exists\Ex4 (N6 K x y H Q)
def N5(K:W.Frag)(x y:V)(H:Hp)(Q:VK)(p:i4)(xs:-V)(i:Int)(v:V):Prop:=x=.r p/\y=.i i/\SqT K H p xs/\atI xs i*>v/\Q v H
def iD(K:W.Frag):R2:=λx y H Q=>Exists\Ex4 (N5 K x y H Q)
def bQ:IxR X (tN []):=by
 intro value slice Sn s Z H x y v u Q I e f h b;let#[p,xs,i,z,5,g,he,q]:=h;cases e;let#[#[t,1],#[l,r,pl,hz],#[j,h1,h2,B,m,n],#[w,c,o],A,C,fin]:=#[f,I.list g,Bs he,r.get h2,↑r,line63,(#[z,H,I,o,q]:EP X Sn Z Q w s)];by_cases d:0<=i
 .let a:i.toNat=j:=by
   rw[DC d n] at h1;show eB h1
  show item_listR pl.isList d () (by rw[a];simpa using c) fin b
 let a:(i+(l.toArray.size:Int)).toNat=j:=by rw[DB () m] at h1;rw[bI,<-A];show eB h1
 show QK (x:=w) pl.isList.typeIs QI.lookup
  (wpAny_getItem_list_neg (Q:=λr s'=>r=w/\EP X Sn Z Q r s') pl.isList () (by rw[bI]<;>lia) () (by rw[a];simpa using c) #[1,fin]) b
def a7:IxR X (iD []):=by
 intro value slice Sn s Z H x y v u Q I a b h c;let#[p,xs,i,z,5,d,he,q]:=h;cases a;let#[#[t,1],#[l,r,pl,hz],#[j,h1,h2,m,n,o],#[w,e,f],g,A,fin]:=#[b,I.tuple d,Bs he,r.get h2,↑r,line63,(#[z,H,I,f,q]:EP X Sn Z Q w s)];show QK (x:=w) pl.typeIs slot_tuple_getitem.lookup
  (getItem_tuple (j:=j) (Q:=λr s'=>r=w/\EP X Sn Z Q r s') pl () () (by rw[bI,<-g];show h1) ‹e› #[1,fin]) c
def EW(a:-hK)(n j:Nat)(u:hK):Obj.mapSeq (·.setIfInBounds j u) {cls:=.t ↑25,data:=.e a.toArray n}={cls:=.t ↑25,data:=.e (a.set j u).toArray n}:=by simp[Obj.mapSeq]
def Inv.lst{p:i4}(I:!Inv H s)(h:H p*>.a xs) :
  ∃(a:-hK)(n:Nat),Vals xs a/\s.heap.get? p*>{cls:=.t ↑25,data:=.e a.toArray n}/\↑xs<=sizeLine:=by
 let#[z,a,n,r,e]:=I.hok p _ h;erw[a,n,r,e,z]
def Inv.lstUpd{xs ys:-V}{c its':-hK}{n a:Nat}{f:Obj->Obj}(I:!Inv H s)(h:H p*>.a xs)
  (d:s.heap.get? p*>{cls:=.t ↑25,data:=.e c.toArray n}) (hf:f {cls:=.t ↑25,data:=.e c.toArray n}={cls:=.t ↑25,data:=.e its'.toArray a}) (r:Vals ys its') (hz:↑ys<=js) (t:Nat) :
  !Inv (upd H p\.a ys) {s with heap:=s.heap.update p f,toks:=t}:=by
 let e:(s.heap.update p f).get? p*>{cls:=.t ↑25,data:=.e its'.toArray a}:=by rw[fm f d (by rw[hf]<;>rfl),hf]
 show I.write (x:=p) (e:=p) (by rw[h];trivial) (.l rfl) (λb u g q=>(eu>>(aB g))<*q) #[_,e] ?_;erw[hz,its',a,r,e]
def LM(o i v:V)(H:Hp)(Q:Hp->Prop)(p:i4)(xs:-V)(k:Int)(j:Nat):Prop:=o=.r p/\i=.i k/\H p*>.a xs/\ixN ↑xs k*>j/\WrO H p (.a\xs.set j v) Q
def NY:V->V->V->Hp->(Hp->Prop)->Prop:=λo i v H Q=>Exists\Ex4 (LM o i v H Q)
def uN:PSet X NY:=by
 lk;intro o i v ov A u Q I w x y h;let#[p,xs,k,j,5,d,z,q]:=h;replace q:=q.at;cases w;let#[#[t,1],#[e,n,r,a,hz],#[h1,h2,f,g],b,B]:=#[x,I.lst d,vK z,↑r,line63];let l:!Inv (upd H p\.a (xs.set j v)) {s with heap:=s.heap.update p\Obj.mapSeq (·.setIfInBounds j u)}:=
  I.lstUpd d a (EW e n j u) (r.set y j) (by rw[List.length_set];show hz) s.toks
 by_cases m:0<=k
 .let c:k.toNat=j:=by
   rw[DC m g] at h1;show eB h1
  show W.ki_setAt a m () (by rw[bI,<-b];show g) (by rw[c];erw[_,l,q])
 let c:(k+(e.toArray.size:Int)).toNat=j:=by rw[DB () f] at h1;rw[bI,<-b];show eB h1
 show W.ki_setBack a () (by rw[bI,<-b];show f) () (by rw[c];erw[_,l,q])
def Ed(lo hi:Option Int)(n:Nat):(sliceBounds lo hi gf n).1=((HT.sIx n 0 lo:Nat):Int)/\(sliceBounds lo hi gf n).2.1=((HT.sIx n n hi:Nat):Int)/\(sliceBounds lo hi gf n).2.2=1:=by
 erw[?_,?_,1]
 .cases lo with
  |none=>simp[sliceBounds,HT.sIx]
  |some i=>
   simp only[sliceBounds,HT.sIx,PF,show (1:Int)>0 by decide,if_true];by_cases h:i<0
   .simp only[h,if_true]<;>lia
   simp only[h,if_false]<;>lia
 cases hi with
 |none=>simp[sliceBounds,HT.sIx]
 |some i=>
  simp only[sliceBounds,HT.sIx,PF,show (1:Int)>0 by decide,if_true];by_cases h:i<0
  .simp only[h,if_true]<;>lia
  simp only[h,if_false]<;>lia
def D6(a:-hK)(lo hi:Option Int):slicePick a.toArray lo hi gf=((a.drop\HT.sIx ↑a 0 lo).take (HT.sIx ↑a ↑a hi-HT.sIx ↑a 0 lo)).toArray:=by let#[h1,h2,b]:=Ed lo hi a.toArray.size;unfold slicePick;rw[h1,h2,b];simp only[sliceRange_one,pick_run,bI]<;>rfl
def NW(K:W.Frag)(x:V)(lo hi:Option Int)(H:Hp)(Q:VK)(a:i4)(xs:-V):Prop:=x=.r a/\SqL K H a xs/\hU H (.a\fk xs lo hi) Q
def rSlL(K:W.Frag):V->Option Int->Option Int->Hp->VK->Prop:=λx lo hi H Q=>Exists\Ex2 (NW K x lo hi H Q)
def lN:SlR X (rSlL []):=by lk;intro x v f g lo hi sl Q I d e pl pu h;let#[a,xs,1,hx,q]:=h;cases d;let#[j,r,c,hz]:=I.list hx;let hlen:=↑r;erw[↑25,_,QI.lookup,c.isList.typeIs,?_];show wpAny_getItem_list_slice c.isList e pl pu .none ∅ ?_ (by rw[bI]<;>lia);rw[D6,<-hlen];erw[.r ↥s,_,I.laid (t':=s.toks) (o:=.a\fk xs lo hi) (λb ob q=>aP _ q) (ar _) ?_,1,q.at\I.hok.fresh (ar _)];erw[cQ (yh xs lo hi) hz,_,(0),(r.drop\HT.sIx ↑xs 0 lo).take (HT.sIx ↑xs ↑xs hi-HT.sIx ↑xs 0 lo),bJ _ rfl]
def gj:V->Bool
 |.non=>gm
 |.bl _=>gm
 |.int _=>gm
 |.str _=>gm
 |_=>hB
def eqV:V->V->Bool
 |.non,.non=>gm
 |.bl a,.bl b=>a==b
 |.bl a,.int b=>(if a then 1 else 0)==b
 |.int a,.bl b=>a==(if b then 1 else 0)
 |.int a,.int b=>a==b
 |.str a,.str b=>a==b
 |_,_=>hB
def MG(d:aC y u)(c:aC x v)(f:gj y=gm)(e:gj x=gm):SeqAt.EqAt A s u v (eqV y x):=by
 cases y with
 |non=>
  cases d;cases x with
  |non=>cases c;show Sa _
  |bl b=>cases c;show R8 b
  |int b=>let#[t,1]:=c;show R9 b t
  |str b=>let#[t,1]:=c;show R_ b t
  |_=>show absurd (show hB=gm from e) bH
 |bl a=>
  cases d;cases x with
  |non=>cases c;show RZ a
  |bl b=>cases c;show RX a b
  |int b=>let#[t,1]:=c;show RY a b t
  |str b=>let#[t,1]:=c;show R5 a b t
  |_=>show absurd (show hB=gm from e) bH
 |int a=>
  let#[t',1]:=d;cases x with
  |non=>cases c;show R7 a t'
  |bl b=>cases c;show R6 a t' b
  |int b=>let#[t,1]:=c;show Qn a t' b t
  |str b=>let#[t,1]:=c;show Qo a t' b t
  |_=>show absurd (show hB=gm from e) bH
 |str a=>
  let#[t',1]:=d;cases x with
  |non=>cases c;show Sd a t'
  |bl b=>cases c;show Sb a t' b
  |int b=>let#[t,1]:=c;show Qp a t' b t
  |str b=>let#[t,1]:=c;show Se a t' b t
  |_=>show absurd (show hB=gm from e) bH
 |_=>show absurd (show hB=gm from f) bH
def eqU(x:V)(u:hK):Bool:=match u with
 |.none=>eqV .non x
 |.bool b=>eqV (.bl b) x
 |.int i _=>eqV (.i i) x
 |.str z _=>eqV (.s z) x
 |_=>hB
def B6(r:aC y u)(f:gj y=gm):eqU x u=eqV y x:=by
 cases y with
 |non=>cases r;rfl
 |bl b=>cases r;rfl
 |int i=>let#[t,1]:=r;rfl
 |str z=>let#[t,1]:=r;rfl
 |_=>show absurd (show hB=gm from f) bH
def lX:∀{xs:-V}{us:-hK},Vals xs us->xs.all gj=gm->us.any (eqU x)=xs.any λy=>eqV y x
 |_,_,.nil,_=>rfl
 |y::xs,u::us,.cons r t,f=>by
  rw[CV,hX] at f;rw[pf,pf,B6 r f.1,lX t f.2]
def j7(b:aC x v)(c:gj x=gm):∀{xs:-V}{us:-hK},Vals xs us->xs.all gj=gm->∀u∈us,SeqAt.EqAt A s u v (eqU x u)
 |_,_,.nil,_=>λu a=>by cases a
 |y::xs,u::us,.cons r t,f=>λd a=>by
  rw[CV,hX] at f;rcases aU.mp a with rfl|a
  .rw[B6 r f.1];show MG r b f.1 c
  show j7 b c t f.2 d a
def inV(x:V)(xs:-V):Bool:=xs.any λy=>eqV y x
def rInB(K:W.Frag)(neg:Bool)(x y:V)(H:Hp)(Q:VK)(p:i4)(xs:-V):Prop:=y=.r p/\(SqL K H p xs\/SqT K H p xs)/\gj x=gm/\xs.all gj=gm/\Q (.bl (if neg then !inV x xs else inV x xs)) H
def rIn(K:W.Frag)(neg:Bool):R2:=λx y H Q=>Exists\Ex2 (rInB K neg x y H Q)
def j2:OpR X (nc .In) (rIn [] hB):=by
 lk;intro x y v u Q I c e h;let#[p,xs,1,a,d,fs,q]:=h;cases e;rcases a with a|a
 .let#[b,r,pl,hz]:=I.list a;show SeqAt.in_listAt (eqU x) pl.isList (λw hw=>j7 c d r fs w ‹hw›) #[.bl _,H,I,1,?_];rw[show b.toArray.any (eqU x)=b.any (eqU x) by simp,lX r fs];show q
 let#[b,r,pl,hz]:=I.tuple a;show Qr (eqU x) pl (λw hw=>j7 c d r fs w ‹hw›) #[.bl _,H,I,1,?_];rw[show b.toArray.any (eqU x)=b.any (eqU x) by simp,lX r fs];show q
def ji:OpR X (nc .NotIn) (rIn [] gm):=by
 lk;intro x y v u Q I c e h;let#[p,xs,1,a,d,fs,q]:=h;cases e;rcases a with a|a
 .let#[b,r,pl,hz]:=I.list a;show SeqAt.notIn_listAt (eqU x) pl.isList (λw hw=>j7 c d r fs w ‹hw›) #[.bl _,H,I,1,?_];rw[show b.toArray.any (eqU x)=b.any (eqU x) by simp,lX r fs];show q
 let#[b,r,pl,hz]:=I.tuple a;show SeqAt.notIn_tupleAt (eqU x) pl (λw hw=>j7 c d r fs w ‹hw›) #[.bl _,H,I,1,?_];rw[show b.toArray.any (eqU x)=b.any (eqU x) by simp,lX r fs];show q
def LP(K:W.Frag)(xs:-V)(H:Hp)(Q:VK)(p:i4)(ys:-V):Prop:=xs=[.r p]/\(SqL K H p ys\/SqT K H p ys)/\Q (.i ↑ys) H
def wt(K:W.Frag):-V->Hp->VK->Prop:=λxs H Q=>Exists\Ex2 (LP K xs H Q)
def Eg:c7 X (.b "len") (wt []):=by
 lk;intro xs us Q I r h;let#[p,ys,1,a,q]:=h;let#[u,1,c]:=vals1 r;cases c;let e:=line63;rcases a with a|a
 .let#[d,b,pl,hz]:=I.list a;let hlen:=↑b;show Calls.call_len_list pl.isList (by simp only[bI]<;>lia) #[.i ↑ys,H,I.tok _,#[s.toks+1,by rw[bI,hlen]],q]
 let#[d,b,pl,hz]:=I.tuple a;let hlen:=↑b;show len_tuple pl (by simp only[bI]<;>lia) #[.i ↑ys,H,I.tok _,#[s.toks+1,by rw[bI,hlen]],q]
def pln{p pos:Pos}(hm:X.mg "len" = gf)(he:PE X e te)(b:Gl X "len":=by rfl)(a:kA [e] X.env=(hB,nH e X.env)::kA [] X.env:=by rfl)(c:(nT pos\kA ([]:-mR) X.env).any (·.1)=hB:=by rfl):PE X (.Call (.n "len" p) [e] [] pos) (tCB (wt [])\bZ te dH):=bP Eg b hm Qm (ae he fh a) ⋯ ⋯ a c
def JJ(K:W.Frag)(xs:-V)(H:Hp)(Q:VK)(p:i4)(ys:-V):Prop:=xs=[.r p]/\(SqL K H p ys\/SqT K H p ys)/\hU H (.a ys) Q
def LO(K:W.Frag):-V->Hp->VK->Prop:=λxs H Q=>Exists\Ex2 (JJ K xs H Q)
def uw:c7 X (.t ↑25) (LO []):=by
 lk;intro xs us Q I r h;let#[p,ys,1,f,q]:=h;let#[u,1,l]:=vals1 r;cases l;let fin:∀(a:-hK),Vals ys a->↑ys<=js->∀(h':mu)(c:Nat),(∀b o',s.heap.get? b*>o'->h'.get? b*>o')->
   h'.get? ↥s*>{cls:=.t ↑25,dict:=gf,data:=.e a.toArray c,slots:=(tA [])}->EP X Sn Z Q (.r ↥s) {s with heap:=h'}:=λa d hz h' c kp e=>
  #[.r ↥s,_,I.laid (t':=s.toks) kp (ar _) (show bh X.prog X.w _ h' _ (.a ys) from #[hz,a,c,d,e]),1,q.at\I.hok.fresh (ar _)]
 rcases f with f|f
 .let#[#[a,d,pl,hz],hlen,#[o,g,j,n,hd]]:=#[I.list f,↑d,pl.isList];show call_list_seq p (.l rfl) g j hd (λh' c kp e=>fin a d hz h' c kp e) (by simp only[bI]<;>lia)
 let#[#[a,d,pl,hz],hlen,#[o,g,j,n,hd]]:=#[I.tuple f,↑d,pl];show call_list_seq p (.o rfl) g j hd (λh' c kp e=>fin a d hz h' c kp e) (by simp only[bI]<;>lia)
def lh:c7 X (.t ↑16) (λxs H Q=>∃p ys,xs=[.r p]/\((SqL [] H p ys/\∀l,H l=gf->Q (.r l)\upd H l (.u ys))\/(SqT [] H p ys/\Q (.r p) H))):=by
 lk;intro xs us Q I r h;let#[p,ys,1,h]:=h;let#[u,1,g]:=vals1 r;cases g;rcases h with ⟨a,q⟩|⟨a,q⟩
 .let#[c,d,pl,hz]:=I.list a;let hlen:=↑d;show call_tuple_list pl.isList (λh' kp=>?_) (by simp only[bI]<;>lia);let f:!Inv H {s with heap:=h'}:=I.kept (t':=s.toks) kp;let j:!Inv (upd H h'.objs.size\.u ys) {s with heap:=h'.push {cls:=.t ↑16,data:=.e c.toArray}}:=
   f.laid (t':=s.toks) (λb o e=>aP _ e) (ar _) (show bh X.prog X.w _ _ _ (.u ys) from #[#[hz,_,bJ _ rfl,1],c,d,wV _ _])
  erw[.r h'.objs.size,_,j,1,q _\f.hok.fresh (ar _)]
 let#[c,d,pl,hz]:=I.tuple a;show call_tuple_same pl #[.r p,H,I,1,q]
def tyV(K:W.Frag)(T:String)(x:V)(H:Hp):Prop:=match x with
 |.str _=>T = "str"
 |.int _=>T = "int"
 |.ref p=>(T = ↑25/\∃xs,SqL K H p xs)\/(T = ↑16/\∃o,K.lookup p*>o/\o.cls=.t ↑16/\o.dict=gf) \/
   (T = ↑53/\((∃kvs,H p*>.k kvs)\/∃kvs,H p*>.dT kvs))\/(T = "set"/\∃S n,H p*>.set S n)
 |_=>False
def K0{T:String}(I:!Inv H s)(r:aC x v)(ty:tyV [] T x H):
  s.TypeIs v T/\∀a,v=.r a->∃ob,s.heap.get? a*>ob/\ob.dict=gf:=by
 cases x with
 |str z=>
  let#[t,1]:=r;cases (show T = "str" from ty);erw[typeIs_str s z t,λ_ e=>nomatch e]
 |int i=>
  let#[t,1]:=r;cases (show T = "int" from ty);erw[typeIs_int s i t,λ_ e=>nomatch e]
 |ref p=>
  cases r;rcases ty with ⟨rfl,xs,f⟩|⟨rfl,o,b,g,hd⟩|⟨rfl,b⟩|⟨rfl,S,n,b⟩
  .let#[h,_,pl,_]:=I.list f;erw[pl.isList.typeIs,λa e=>?_];cases e;let#[o,n,e,c,hd,_]:=pl;erw[o,e,hd]
  .cases b
  .let z:∃o,s.heap.get? p*>o/\o.ExactDict:=by
    rcases b with ⟨kvs,b⟩|⟨kvs,b⟩
    .let#[8,_,o,0,e,ex,_]:=I.hok p _ b;erw[o,e,ex]
    let#[8,_,o,0,e,ex,_]:=I.hok p _ b;erw[o,e,ex]
   let#[o,e,ex]:=z;erw[#[o,e,ex.1],λa d=>?_];cases d;erw[o,e,ex.2.1]
  let#[o,8,e,ex,_]:=I.hok p _ b;erw[#[o,e,ex.1],λa d=>?_];cases d;erw[o,e,ex.2.1]
 |_=>show False.elim ty
def tBM2(r:V->-V->Hp->VK->Prop)(x:V)(Q:VK):-V->Hp->Prop:=λxs H2=>r x xs H2 Q
def tBM1(K:W.Frag)(T:String)(r:V->-V->Hp->VK->Prop)(t:TA)(Z:St)(Q:VK):VK:=λx H1=>tyV K T x H1/\t Z H1\tBM2 r x Q
def tBM(K:W.Frag)(T:String)(r:V->-V->Hp->VK->Prop)(to:TE)(t:TA):TE:=λZ H Q=>to Z H\tBM1 K T r t Z Q
variable {o e:mR}{es:-mR}{to:TE}{t:TA}{name:Str}{apos cpos:Pos}{T id:String}{r:V->-V->Hp->VK->Prop}
def dX(d:PlainAttrs T)(slot:Slot T name id)(f:typeOf (.b id)=pure\.t "method_descriptor")(hm:MtR X id r)(g:PE X o to)(ha:PA X (e::es) t)
  (j:rq o name X.env (nH o X.env)=nH o X.env:=by rfl)
  (l:((nT cpos\kA (e::es) X.env).all (λx=>!x.1)&&(backToKw cpos\keywordEach [] X.env).all (λx=>x.1.isSome)
   && decide (↑(e::es)+↑([]:-Keyword)+(if ([]:-Keyword).isEmpty then 0 else 1)<30))=gm:=by rfl)
  (m:(apos.endLine==cpos.line)=gm:=by rfl) (n:kA (e::es) X.env=(hB,nH e X.env)::kA es X.env:=by rfl) (p:(nT cpos\kA es X.env).any (·.1)=hB:=by rfl) :
  PE X (.Call (.Attribute o name apos) (e::es) [] cpos) (tBM [] T r to t):=by
 lk;intro Q I h;show QM j l m rfl (thn (g Sn s Z H _ I h) λv s1 q=>?_);let#[x,H1,a,b,ty,u]:=q;let#[h1,h2]:=K0 a b ty;erw[T,id,d,slot,f,h1,h2,?_];let c:=ha cpos Sn s1 Z H1 _ a u;rw[n] at c |-;show mW (by change (hB||(nT cpos\kA es X.env).any (·.1))=hB;rw[p]<;>rfl)\mY ?_;show thn c λus s2 ⟨vs,H2,w,y,z⟩=>hm Sn s2 Z H2 x vs v us Q w b y z
end
end L2
namespace L2
open PySem PySem.Spec PyProof.Rows
def MtM(X:Cx)(id:String)(r:V->-V->Hp->VK->Prop):Prop:=
 ∀(Sn:-(i4×Obj))(s:ij)(Z:St)(H:Hp)(x:V)(xs:-V)(v:hK)(us:-hK)(Q:VK),!Inv H s->aC x v->Vals xs us->r x xs H Q->
  jl ⇑X X.A (call (.b id) (v::us)) (EP X Sn Z Q) X.xe s
def Vals.one{x:V}(h:Vals [x] us):∃u,us=[u]/\aC x u:=by
 cases h with
 |cons r t=>cases t;erw[2,r]
def Vals.two{x y:V}(h:Vals [x,y] us):∃u v,us=[u,v]/\aC x u/\aC y v:=by
 cases h with
 |cons r t=>
  let#[v,1,q]:=Vals.one t;erw[_,v,1,r,q]
def Vals.eraseIdx:∀{xs:-V}{us:-hK}(i:Nat),Vals xs us->Vals (xs.eraseIdx i) (us.eraseIdx i)
 |_,_,_,.nil=>.nil
 |_,_,0,.cons _ t=>t
 |_,_,i+1,.cons r t=>.c r\Vals.eraseIdx i t
def zk{α:Type}:∀(l:List α)(i:Nat),↑(l.eraseIdx i)<=↑l
 | [],_=>ar _
 |_::_,0=>pB _
 |_::r,i+1=>Nat.succ_le_succ\zk r i
section
variable {l b:i4}{xs ys zs:-V}
def Inv.lset{a its':-hK}{n:Nat}{f:Array hK->Array hK}{t':Nat}(I:!Inv H s)(b:H l*>.a xs)
  (e:s.heap.get? l*>{cls:=.t ↑25,data:=.e a.toArray n}) (hf:f a.toArray=its'.toArray) (c:Vals ys its') (hz:↑ys<=js) :
  !Inv (upd H l\.a ys) {s with heap:=s.heap.update l\Obj.mapSeq f,toks:=t'}:=by
 let q:=PySem.IsL.update e f;rw[hf] at q;show I.write (x:=l) (e:=l) (by rw[b];show trivial) (.l rfl) (λh u d g=>(eu s.heap (Obj.mapSeq f)\aB d)<*g) #[_,q] ?_;erw[hz,its',_,c,q]
def Inv.lnew{t':Nat}(I:!Inv H s)(b:Vals ys a)(hz:↑ys<=js):
  !Inv (upd H ↥s\.a ys) {s with heap:=s.heap.push {cls:=.t ↑25,data:=.e a.toArray},toks:=t'}:=
 I.laid (λ_ _ q=>aP _ q) (ar _) #[hz,a,(0),b,bJ _ rfl]
def Inv.fresh(I:!Inv H s):H ↥s=gf:=I.hok.fresh\ar _
def Inv.lstM(I:!Inv H s)(b:H l*>.a xs):↑xs<=js/\∃(a:-hK)(n:Nat),Vals xs a/\↑xs=↑a/\s.heap.get? l*>{cls:=.t ↑25,data:=.e a.toArray n}:=by let#[z,a,n,r,e]:=I.hok l _ b;erw[z,a,n,r,↑r,e]
end
section
def Hs(x:V)(vs:-V)(H:Hp)(Q:VK)(l:i4)(xs:-V)(y:V):Prop:=x=.r l/\vs=[y]/\H l*>.a xs/\↑xs<js/\WrO H l (.a (xs++[y]))\Q .non
def JO:V->-V->Hp->VK->Prop:=λx vs H Q=>Exists\Ex3 (Hs x vs H Q)
def fB:MtM X "list.append" JO:=by lk;intro x vs v us Q I c d h;let#[l,xs,y,5,a,hz,q]:=h;cases c;let#[u,1,f]:=d.one;let#[z,b,n,r,g,e]:=I.lstM a;show Dy F.slot_list_append #[_,e,1] F.entry_list_append (F.args_list_append_2 _ _) (PySem.list_append l b.toArray n u (by rw[bI];lia)) #[e,?_];erw[.non,_,I.lset (its':=b++[u]) a e ∅ (r.append\.c f .nil) ?_,1,q.at];rw[bo,cV];lia
def JI(x:V)(vs:-V)(H:Hp)(Q:VK)(l:i4)(xs:-V)(i:Int)(k:Nat)(y:V):Prop:=x=.r l/\vs=[.i i]/\H l*>.a xs/\-(2 ^ 63)<=i/\i<2 ^ 63/\seqIndex? i ↑xs*>k/\xs[k]?*>y/\WrO H l (.a\xs.eraseIdx k)\Q y
def BR:V->-V->Hp->VK->Prop:=λx vs H Q=>Exists\Ex5 (JI x vs H Q)
def Ab:MtM X "list.pop" BR:=by
 lk;intro x vs v us Q I c d h;let#[l,xs,i,k,y,5,b,h1,h2,f,g,q]:=h;cases c;let#[#[u,1,j],#[t,1],#[z,a,n,r,m,e],#[w,hw,o]]:=#[d.one,j,I.lstM b,r.get g];show Dy F.slot_list_pop #[_,e,1] F.entry_list_pop (F.args_list_pop_2 _ _)
  (MeetsSeq.list_pop_at l a.toArray n i t k w (QC h1 h2) (by rw[bI,<-m];show f) (by rw[<-jM];show hw) (by rw[bI];lia)) #[e,?_]
 erw[y,_,I.lset (its':=a.eraseIdx k) b e ?_ (r.eraseIdx k) ?_,o,q.at]
 .change a.toArray.eraseIdxIfInBounds k=(a.eraseIdx k).toArray;rw[List.eraseIdxIfInBounds_toArray]
 have:=zk xs k;lia
def Oc(x y:V)(H:Hp)(Q:VK)(l b:i4)(xs zs:-V):Prop:=x=.r l/\y=.r b/\H l*>.a xs/\H b*>.a zs/\↑xs+↑zs<=js/\hU H (.a (xs++zs)) Q
def rCat:R2:=λx y H Q=>Exists\Ex4 (Oc x y H Q)
def dP:OpR X (binaryOp .Add) rCat:=by lk;intro x y v u Q I d f h;let#[l,b,xs,zs,5,g,j,hz,q]:=h;cases d;cases f;let#[z,a,n,r,w,e]:=I.lstM g;let#[A,c,B,m,C,o]:=I.lstM j;show PySem.P.add_list e o ?_ (by rw[bI,bI];lia);let p:a.toArray++c.toArray=(a++c).toArray:=∅;rw[p];erw[.r _,_,I.lnew (t':=s.toks) (r.append m) (by rw[bo];lia),1,q.at I.fresh]
end
section
variable {prog:lu}
set_option maxRecDepth 100000 in
end
section
end
end L2
namespace L2
open PySem PySem.Spec PyProof.Rows
section
variable {κ:Type}[DecidableEq κ]
def a8(kvs:-(κ×V))(k:κ):Option V:=(kvs.find? λa=>decide (a.1=k)).map (·.2)
def cA(kvs:-(κ×V))(k:κ)(v:V):-(κ×V):=
 if (kvs.any λa=>decide (a.1=k))=gm then kvs.map (λa=>if a.1=k then (a.1,v) else a) else kvs++[(k,v)]
def kF(kvs:-(κ×V))(k:κ):-(κ×V):=kvs.filter λa=>decide (a.1≠k)
def iM{p:κ×V}{r:-(κ×V)}{k:κ}(e:p.1=k):a8 (p::r) k*>p.2:=by simp[a8,pj,e]
def gP{p:κ×V}{r:-(κ×V)}{k:κ}(e:¬p.1=k):a8 (p::r) k=a8 r k:=by simp[a8,pj,e]
def qo(k:κ):∀kvs:-(κ×V),(kvs.any λa=>decide (a.1=k))=(a8 kvs k).isSome
 | []=>rfl
 |p::r=>by
  rw[pf];by_cases e:p.1=k
  .simp only[iM e,Si e,Bool.true_or,Option.isSome_some]
  rw[gP e,Sj e,Bool.false_or];show qo k r
def nP(kvs:-(κ×V))(k:κ)(v:V):↑(cA kvs k v)<=↑kvs+1:=by
 unfold cA
 split
 .rw[av];lia
 rw[bo,ck,jb];lia
def n9{kvs:-(κ×V)}{k:κ}(v:V)(h:a8 kvs k=gf):cA kvs k v=kvs++[(k,v)]:=by unfold cA;rw[qo,h];show Sg ⋯
def dQ.isSome_eq{o:Option V}{u:Option hK}(r:dQ o u):o.isSome=u.isSome:=by
 cases o with
 |none=>cases u with
  |none=>rfl
  |some _=>show (show False from r).elim
 |some _=>cases u with
  |none=>show (show False from r).elim
  |some _=>rfl
def dQ.getD{o:Option V}{u:Option hK}(r:dQ o u)(rd:aC d d'):aC (o.getD d) (u.getD d'):=by
 cases o with
 |none=>cases u with
  |none=>show rd
  |some _=>show (show False from r).elim
 |some _=>cases u with
  |none=>show (show False from r).elim
  |some _=>show r
def KV.val{kvs:-(κ×V)}{vs:-(κ×hK)}(r:KV kvs vs)(k:κ):dQ (a8 kvs k) (valueAt vs k):=by
 unfold KV at r;induction r with
 |nil=>show True.intro
 | @cons p q ps a h t d=>
  let#[h1,h2]:=h;by_cases e:p.1=k
  .let c:q.1=k:=h1.symm<*e;let b:valueAt (q::a) k*>q.2:=by simp[valueAt,pj,c]
   rw[iM e,b];show h2
  let c:¬q.1=k:=λz=>e\h1.trans z;let b:valueAt (q::a) k=valueAt a k:=by simp[valueAt,pj,c]
  rw[gP e,b];show d
def KV.any{kvs:-(κ×V)}{vs:-(κ×hK)}(r:KV kvs vs)(k:κ):(kvs.any λa=>decide (a.1=k))=vs.any λa=>decide (a.1=k):=by
 unfold KV at r;induction r with
 |nil=>rfl
 |cons h t b=>rw[pf,pf,b,h.1]
def KV.repl{kvs:-(κ×V)}{vs:-(κ×hK)}(r:KV kvs vs)(k:κ)(b:aC y u):
  KV (kvs.map λa=>if a.1=k then (a.1,y) else a) (vs.map λa=>if a.1=k then (a.1,u) else a):=by
 unfold KV at r |-;induction r with
 |nil=>show .nil
 | @cons p q ps d h t c=>
  rw[bu,bu];show .c ?_ c;let#[h1,h2]:=h;by_cases e:p.1=k
  .rw[Sh e,Sh\h1.symm.trans e];erw[h1,b]
  rw[Sg e,Sg λz=>e\h1.trans z];erw[h1,h2]
def KV.put{kvs:-(κ×V)}{vs:-(κ×hK)}(r:KV kvs vs)(k:κ)(a:aC y u):KV (cA kvs k y) (stored vs k u):=by
 unfold cA stored;rw[r.any k];by_cases e:(vs.any λb=>decide (b.1=k))=gm
 .rw[Sh e,Sh e];show r.repl k a
 rw[Sg e,Sg e];show PH r #[1,a]
def KV.drop{kvs:-(κ×V)}{vs:-(κ×hK)}(r:KV kvs vs)(k:κ):KV (kF kvs k) (without vs k):=by
 unfold KV at r |-;unfold kF without;induction r with
 |nil=>show .nil
 | @cons p q ps f h t c=>
  let#[h1,h2]:=h;rw[fq,fq];by_cases e:p.1=k
  .let a:¬decide (p.1≠k)=gm:=by simp[e]
   let b:¬decide (q.1≠k)=gm:=by simp[h1.symm<*e]
   rw[Sg a,Sg b];show c
  let d:¬q.1=k:=λz=>e\h1.trans z;let a:decide (p.1≠k)=gm:=by simp[e]
  let b:decide (q.1≠k)=gm:=by simp[d]
  rw[Sh a,Sh b];show .c #[h1,h2] c
def KV.length{kvs:-(κ×V)}{vs:-(κ×hK)}(r:KV kvs vs):↑kvs=↑vs:=pF r
def IG(kvs:-(κ×V))(k:κ):↑(kF kvs k)<=↑kvs:=dJ _ _
end
def iB{k:Key}(r:aC (kV k) u):(dB P w).is k u=gm:=by
 cases k with
 |inl i=>let#[t,e]:=(show ∃t,u=Value.int i t from r);subst e;show Es P w i t
 |inr x=>let#[t,e]:=(show ∃t,u=Value.str x t from r);subst e;show Er P w x t
def zm:∀{ks:-Key}{us:-hK},Vals (ks.map kV) us->ItemsAre (dB P w) ks us
 | [],_,r=>by rw[C_] at r;cases r;show .nil
 |k::ks,_,r=>by
  rw[bu] at r;cases r with
  |cons h t=>show .c (iB h)\zm t
abbrev KT(H:Hp):-(-Key×V)->-(-Key×i4×hK)->Prop:=Paired λp q=>p.1=q.1/\H q.2.1*>.u (p.1.map kV)/\aC p.2 q.2.2
def KT.val{kvs:-(-Key×V)}{xs:-(-Key×i4×hK)}(r:KT H kvs xs)(k:-Key):dQ (a8 kvs k) ((atKey xs k).map (·.2)):=by
 induction r with
 |nil=>show True.intro
 | @cons p q ps a h t d=>
  let#[h1,_,h2]:=h;by_cases e:p.1=k
  .let c:q.1=k:=h1.symm<*e;let b:atKey (q::a) k*>q.2:=by simp[atKey,pj,c]
   rw[iM e,b];show h2
  let c:¬q.1=k:=λz=>e\h1.trans z;let b:atKey (q::a) k=atKey a k:=by simp[atKey,pj,c]
  rw[gP e,b];show d
def KT.repl{kvs:-(-Key×V)}{xs:-(-Key×i4×hK)}(r:KT H kvs xs)(k:-Key)(b:aC y u):
  KT H (kvs.map λa=>if a.1=k then (a.1,y) else a) (xs.map\putAt k u):=by
 induction r with
 |nil=>show .nil
 | @cons p q ps f h t c=>
  rw[bu,bu];show .c ?_ c;let#[h1,h2,d]:=h;unfold putAt;by_cases e:p.1=k
  .rw[Sh e,Sh\h1.symm.trans e];erw[h1,h2,b]
  rw[Sg e,Sg λz=>e\h1.trans z];erw[h1,h2,d]
def KT.put{kvs:-(-Key×V)}{xs:-(-Key×i4×hK)}(r:KT H kvs xs)(k:-Key)(c:H b*>.u\k.map kV)(a:aC y u):
  KT H (cA kvs k y) (storedH xs k b u):=by
 let e:(kvs.any λd=>decide (d.1=k))=(atKey xs k).isSome:=by rw[qo,(r.val k).isSome_eq,Di]
 unfold cA storedH;rw[e];by_cases q:(atKey xs k).isSome=gm
 .rw[Sh q,Sh q];show r.repl k a
 rw[Sg q,Sg q];show PH r #[1,c,a]
def KT.keeps{kvs:-(-Key×V)}{xs:-(-Key×i4×hK)}(r:KT H kvs xs)(a:∀b ys,H b*>.u ys->H' b*>.u ys):KT H' kvs xs:=
 Paired.mapP r λ_ _ z=>#[z.1,a>>z.2.1,z.2.2]
section
variable {h:mu}{a:i4}
def Cw(ok:HOk P w H h)(e:Rd H a u):bh P w H h a u:=e.ok ok
def fi{kvs:-(Key×V)}(ok:HOk P w H h)(e:Rd H a\.k kvs):↑kvs<=js/\(a==nI)=hB/\∃vs,KV kvs vs/\h.DictOf (dB P w) a vs:=
 show bh P w H h a (.k kvs) from Cw ok e
def oP{kvs:-(Key×V)}(ok:HOk P w H h)(e:H a*>.k kvs):↑kvs<=js/\(a==nI)=hB/\∃vs,KV kvs vs/\h.DictOf (dB P w) a vs:=fi ok\.l e
def kq{ks:-Key}(ok:HOk P w H h)(e:H a*>.u\ks.map kV):(tupleKind\dB P w).is h ks a:=by let#[_,b,r,o,h1,h2,n,c]:=(show bh P w H h a (.u\ks.map kV) from ok a _ e);erw[o,b.toArray,n,h1,h2,c,‹zm r›]
def iW{kvs:-(-Key×V)}(ok:HOk P w H h)(e:Rd H a\.dT kvs):↑kvs<=js/\(a==nI)=hB/\
  ∃xs,KT H kvs xs/\h.DictOfH (tupleKind\dB P w) a xs:=by
 let#[z,y,xs,r,o,es,ep,h1,h2,c,d,f]:=(show bh P w H h a (.dT kvs) from Cw ok e);erw[z,y,xs,r,o,es,ep,h1,h2,c,d,λx hx=>?_,f];let all:∀{l:-(-Key×V)}{m:-(-Key×i4×hK)},KT H l m->∀x∈m,(tupleKind\dB P w).is h x.1 x.2.1:=by
  intro l m q;induction q with
  |nil=>intro x hx;show nomatch hx
  | @cons p q ps j b t g=>
   intro x hx;rcases aU.mp hx with e|hx
   .subst e;show kq ok (by rw[<-b.1];show b.2.1)
   show g x hx
 show all r x hx
def CI{kvs:-(-Key×V)}(ok:HOk P w H h)(e:H a*>.dT kvs):↑kvs<=js/\(a==nI)=hB/\
  ∃xs,KT H kvs xs/\h.DictOfH (tupleKind\dB P w) a xs:=iW ok\.l e
end
def DGet(H:Hp)(a:i4)(y:V)(r:Option V):Prop:=
 (∃kvs k,Rd H a (.k kvs)/\y=kV k/\r=a8 kvs k)\/∃kvs k b,Rd H a (.dT kvs)/\y=.r b/\H b*>.u (k.map kV)/\r=a8 kvs k
def DPut(H:Hp)(a:i4)(y v:V)(H':Hp):Prop:=
 (∃kvs k,H a*>.k kvs/\y=kV k/\↑kvs<js/\H'=upd H a\.k (cA kvs k v)) \/
 ∃kvs k b,H a*>.dT kvs/\y=.r b/\H b*>.u (k.map kV)/\↑kvs<js/\H'=upd H a\.dT (cA kvs k v)
def DGet.k{kvs:-(Key×V)}{k:Key}(e:H a*>.k kvs):DGet H a (kV k) (a8 kvs k):=.l #[kvs,k,.l e,5]
def DGet.t{kvs:-(-Key×V)}{k:-Key}(e:H a*>.dT kvs)(c:H b*>.u\k.map kV):DGet H a (.r b) (a8 kvs k):=.o #[kvs,k,b,.l e,1,c,1]
def DPut.k{kvs:-(Key×V)}{k:Key}(e:H a*>.k kvs)(b:↑kvs<js):DPut H a (kV k) v (upd H a\.k (cA kvs k v)):=.l #[kvs,k,e,1,b,1]
def DPut.t{kvs:-(-Key×V)}{k:-Key}{v:V}(e:H a*>.dT kvs)(c:H b*>.u\k.map kV)(d:↑kvs<js):
  DPut H a (.r b) v (upd H a\.dT (cA kvs k v)):=.o #[kvs,k,b,e,1,c,d,1]
section
variable {a:i4}{y v:V}{u r:hK}{o:Option V}
def Inv.big(I:!Inv H s):nI<↥s:=by let h:kz<↥s:=(I.mod.glob.keeps I.bk).lt;show jV ⋯ h
def F4{Q:hK->ij->Prop}(m:A.units+1<pq)(I:!Inv H s)(g:DGet H a y\gh v)(j:aC y u)(h:∀c s',!Inv H s'->aC v c->Q c s'):
  jl ⇑X A (getItem (.r a) u) Q E s:=by
 rcases g with ⟨kvs,k,e,d,l⟩|⟨kvs,k,b,e,d,n,l⟩
 .subst d;let#[z,hd,vs,rel,dd]:=fi I.hok e;let#[c,hw,f]:=dQ.some_of (v:=v) (o:=valueAt vs k) (by rw[l];show rel.val k);show wpAny_getItem_of (iB j) dd.mapOf hw\h c _ (I.tok _) f
 subst d;cases (show u=Value.ref b from j);let#[#[z,hd,xs,rel,dd],#[c,hw,f],#[p,q,r]]:=#[iW I.hok e,dQ.some_of (v:=v) (o:=(atKey xs k).map (·.2)) (by rw[l];show rel.val k),cz.mp hw];show wpAny_getItem_heap (pN m) (kq I.hok n) dd q ?_;rw[r];show h c _ (I.tok _) f
def d_in{Q:hK->ij->Prop}(f:A.units+1<pq)(I:!Inv H s)(g:DGet H a y o)(d:aC y u)(h:∀s',!Inv H s'->Q (.x o.isSome) s'):
  jl ⇑X A (nc .In u\.r a) Q E s:=by
 rcases g with ⟨kvs,k,e,c,l⟩|⟨kvs,k,b,e,c,j,l⟩
 .subst c;let#[z,hd,vs,rel,dd]:=fi I.hok e;show wpAny_in_of (iB d) hd dd.mapOf ?_;rw[<-(rel.val k).isSome_eq,<-l];show h _\I.tok _
 subst c;cases (show u=Value.ref b from d);let#[z,hd,xs,rel,dd]:=iW I.hok e;show wpAny_in_heap (pN f) (kq I.hok j) hd dd ?_;let q:=(rel.val k).isSome_eq;rw[Di] at q;rw[<-q,<-l];show h _\I.tok _
def KH{Q:hK->ij->Prop}(f:A.units+1<pq)(I:!Inv H s)(g:DGet H a y o)(d:aC y u)(h:∀s',!Inv H s'->Q (.x (!o.isSome)) s'):
  jl ⇑X A (nc .NotIn u\.r a) Q E s:=by
 rcases g with ⟨kvs,k,e,c,l⟩|⟨kvs,k,b,e,c,j,l⟩
 .subst c;let#[z,hd,vs,rel,dd]:=fi I.hok e;show wpAny_notIn_of (iB d) hd dd.mapOf ?_;rw[<-(rel.val k).isSome_eq,<-l];show h _\I.tok _
 subst c;cases (show u=Value.ref b from d);let#[z,hd,xs,rel,dd]:=iW I.hok e;show wpAny_notIn_heap (pN f) (kq I.hok j) hd dd ?_;let q:=(rel.val k).isSome_eq;rw[Di] at q;rw[<-q,<-l];show h _\I.tok _
def oA{h':mu}{t':Nat}(I:!Inv H s)(c:Mut\H a)(d:Heap.SameBut a s.heap h')(he:∃q,h'.get? a*>q)(new:bh X.prog X.w (upd H a ob) h' a ob):
  !Inv (upd H a ob) {s with heap:=h',toks:=t'}:=
 I.write (x:=a) (e:=a) c (.l rfl) (λb q f z=>(d.2 b f)<*z) he new
def oJ{H':Hp}{h':mu}{kvs:-(Key×V)}{vs:-(Key×hK)}(z:↑kvs<=js)(hd:(a==nI)=hB)(rel:KV kvs vs)(dd:h'.DictOf (dB P w) a vs):
  bh P w H' h' a (.k kvs):=#[z,hd,vs,rel,dd]
def F3{H':Hp}{Q:Unit->ij->Prop}(D:A.units+1<pq)(I:!Inv H s)(g:DPut H a y v H')(p:aC y u)(x:aC v r)(h:∀s',!Inv H' s'->Q .unit s'):
  jl ⇑X A (setItem (.r a) u r) Q E s:=by
 rcases g with ⟨kvs,k,e,j,l,m⟩|⟨kvs,k,b,e,j,B,l,m⟩
 .subst j m;let#[z,hd,vs,rel,dd]:=oP I.hok e;let hz:↑vs<=sizeLine:=by rw[<-↑rel];show z
  let n:↑(cA kvs k v)<=sizeLine:=by have:=nP kvs k v;lia
  show wpAny_setItem_pairs (hsz:=hz) (iB p) dd λh' d o=>h _ ?_;let he:∃q,h'.get? a*>q:=let ⟨q,_,_,f,_⟩:=d;#[q,f];show oA I (by rw[e];show True.intro) o he\oJ n hd (rel.put k x) d
 subst j m;cases (show u=Value.ref b from p);let#[z,hd,xs,rel,dd]:=CI I.hok e;let hz:↑xs<=sizeLine:=by rw[<-pF rel];show z
 let n:↑(cA kvs k v)<=sizeLine:=by have:=nP kvs k v;lia
 show wpAny_setItem_heap (hsz:=hz) (pN D) (kq I.hok B) dd λh' d o=>h _ ?_;let#[q,es,ep,f,h2,K,L,_,M]:=d;show oA I (by rw[e];show True.intro) o #[q,f] #[n,hd,_,(rel.put k B x).keeps λc ys C=>?_,q,es,ep,f,h2,K,L,M];rw[aq\bL C e λz=>nomatch z];show C
end
section
variable {a:i4}{kvs:-(Key×V)}{k:Key}{u:hK}
def OE{v:V}{more:-hK}{Q:hK->ij->Prop}(I:!Inv H s)(e:H a*>.k kvs)(c:aC (kV k) u)(l:a8 kvs k*>v)(hm:more=[]\/∃x,more=[x])
  (h:∀b s',!Inv (upd H a\.k (kF kvs k)) s'->aC v b->Q b s'):jl ⇑X A (call (.b "dict.pop") (.r a::u::more)) Q E s:=by
 let#[z,hd,vs,rel,dd]:=oP I.hok e;let#[b,hw,f]:=dQ.some_of (v:=v) (o:=valueAt vs k) (by rw[<-l];show rel.val k);let g:(keyPart u).isSome=gm:=by
  cases k with
  |inl i=>let#[t,q]:=(show ∃t,u=Value.int i t from c);subst q;rfl
  |inr x=>let#[t,q]:=(show ∃t,u=Value.str x t from c);subst q;rfl
 let ha:argsOk "dict.pop" #[.r a::u::more,[]]:=by
  rcases hm with q|⟨x,q⟩
  .subst q;show PySem.F.args_dict_pop_2 _ _
  subst q;show PySem.F.args_dict_pop_3 _ _ _
 show ny P6 dd.typeIs PySem.F.entry_dict_pop ha (meets_dict_pop_there (dB X.prog X.w) a (iB c) more hm g)
  #[vs,b,dd,by rw[<-↑rel];show z,hw,λh' d j=>h b _ ?_ f]
 let he:∃q,h'.get? a*>q:=let ⟨q,_,_,m,_⟩:=d;#[q,m];show oA I (by rw[e];show True.intro) j he\oJ (cQ (IG kvs k) z) hd (rel.drop k) d
def OF{Q:hK->ij->Prop}(I:!Inv H s)(e:Rd H a\.k kvs)(h:∀t s',!Inv H s'->Q (.i ↑kvs t) s'):jl ⇑X A (call (.b "len") [.r a]) Q E s:=by let#[z,hd,vs,rel,dd]:=fi I.hok e;show call_len_dict hd dd (by rw[<-↑rel];rw[cW] at z;lia) ?_;rw[<-↑rel];show h _ _\I.tok _
end
def NoSl(i:mR):Prop:=∀ov a,subscripted i hB ov a=operate [ov,a]\getItem ov a
def I0{prog:lu}{env:Env}{value slice:mR}{pos:Pos}{T id:String}{Q:hK->ij->Prop}
  (b:typeLookup (.t T) "__getitem__" = pure\gh (.b id)) (c:NoSl slice)
  (h:jl (kC prog w) A (nH value env) (λo s₁=>jl (kC prog w) A (nH slice env) (λi s₂=>s₂.TypeIs o T/\jl (kC prog w) A (getItem o i) Q E s₂) E s₁) E s) :
  jl (kC prog w) A (nH (.Subscript value slice pos) env) Q E s:=by
 show Dv (bU h (λo s₁ h₁=>bU h₁ (λi s₂ h₂=>?_) λ_ _ x=>x) λ_ _ x=>x);let#[a,h₂]:=h₂;unfold subscriptTail;show aa ?_;rw[getitemInPython_of_ne a.not_modules];show aa\DR a b ?_;let fin:jl (kC prog w) A (subscripted slice hB o i) (λr s₃=>jl (kC prog w) A (letTemporaryGo value o r >>= λ_=>pure r) Q E s₃) E s₂:=by rw[c o i];show wpAny_operating (bU h₂ (λr s₃ h₃=>aa\wpAny_letTemporaryGo (ai h₃)) λ_ _ x=>x)
 first
  |show ai\aa fin
  |show aa\ai (aa fin)
  |show aa fin
def Ex{o:Option V}(I:!Inv H s)(g:DGet H a y o):s.TypeIs (.r a) ↑53:=by
 rcases g with ⟨kvs,k,e,_,_⟩|⟨kvs,k,b,e,_,_,_⟩
 .let#[0,vs,_,dd]:=fi I.hok e;show dd.typeIs
 let#[0,xs,_,dd]:=iW I.hok e;show dd.typeIs
def Lc(x y:V)(H2:Hp)(Q:VK)(a:i4)(v:V):Prop:=x=.r a/\DGet H2 a y (gh v)/\Q v H2
def IZ(x:V)(Q:VK):VK:=λy H2=>Exists\Ex2 (Lc x y H2 Q)
def Lb(ty:TE)(Z:St)(Q:VK):VK:=λx H1=>ty Z H1\IZ x Q
def wj(td ty:TE):TE:=λZ H Q=>td Z H\Lb ty Z Q
def Nu(x y:V)(H2:Hp)(Q:VK)(a:i4)(o:Option V):Prop:=x=.r a/\DGet H2 a y o/\Q (.bl o.isSome) H2
def Nv(y:V)(Q:VK):VK:=λx H2=>Exists\Ex2 (Nu x y H2 Q)
def Nz(td:TE)(Z:St)(Q:VK):VK:=λy H1=>td Z H1\Nv y Q
def tDIn(ty td:TE):TE:=λZ H Q=>ty Z H\Nz td Z Q
def Gi(x y:V)(H2:Hp)(Q:VK)(a:i4)(o:Option V):Prop:=x=.r a/\DGet H2 a y o/\Q (.bl (!o.isSome)) H2
def Gj(y:V)(Q:VK):VK:=λx H2=>Exists\Ex2 (Gi x y H2 Q)
def Gk(td:TE)(Z:St)(Q:VK):VK:=λy H1=>td Z H1\Gj y Q
def As(ty td:TE):TE:=λZ H Q=>ty Z H\Gk td Z Q
def LA(D:Ends)(Z:St)(v x y:V)(c:Hp)(a:i4)(b:Hp):Prop:=x=.r a/\DPut c a y v b/\D.nx Z b
def LB(D:Ends)(Z:St)(v x:V):VK:=λy a=>Exists\Ex2 (LA D Z v x y a)
def LC(ty:TE)(D:Ends)(Z:St)(v:V):VK:=λx H2=>ty Z H2\LB D Z v x
def LD(td ty:TE)(D:Ends)(Z:St):VK:=λv H1=>td Z H1\LC ty D Z v
def NT(td ty tv:TE):TS:=λD Z H=>tv Z H\LD td ty D Z
section
variable {o i e value:mR}{pos pos' tpos:Pos}{td ty tv:TE}
def ir(d:X.A.units+1<pq)(e:PE X o td)(hi:PE X i ty)(f:NoSl i):PE X (.Subscript o i pos) (wj td ty):=by lk;intro Q I h;show I0 PySem.F.slot_dict_getitem.lookup f (thn (e Sn s Z H _ I h) λu s1 b=>?_);let#[x,H1,j,l,m]:=b;show thn (hi Sn s1 Z H1 _ j m) λw s2 b=>?_;let#[y,H2,c,n,a,v,ex,g,p]:=b;subst ex;obtain rfl:u=Value.ref a:=l;erw[Ex c g,F4 d c g n λz B q r=>#[v,H2,q,r,p]]
def mm(b:X.A.units+1<pq)(hi:PE X i ty)(c:PE X o td):PC X .In i o (tDIn ty td):=by lk;intro Q I h;show thn (hi Sn s Z H _ I h) λq s1 ⟨y,H1,d,e,f⟩=>thn (c Sn s1 Z H1 _ d f) λu s2 j=>?_;let#[x,H2,l,m,a,ov,ex,g,n]:=j;subst ex;obtain rfl:u=Value.ref a:=m;show d_in b l g e λr p=>#[.bl ov.isSome,H2,p,1,n]
def nU(b:X.A.units+1<pq)(hi:PE X i ty)(c:PE X o td):PC X .NotIn i o (As ty td):=by lk;intro Q I h;show thn (hi Sn s Z H _ I h) λq s1 ⟨y,H1,d,e,f⟩=>thn (c Sn s1 Z H1 _ d f) λu s2 j=>?_;let#[x,H2,l,m,a,ov,ex,g,n]:=j;subst ex;obtain rfl:u=Value.ref a:=m;show KH b l g e λr p=>#[.bl (!ov.isSome),H2,p,1,n]
def jt(b:X.A.units+1<pq)(c:PE X o td)(hi:PE X i ty)(d:PE X value tv)(e:swapsWith value (gh\.Subscript o i pos') pos.line X.env=pure hB):
  PS X (.Assign [.Subscript o i pos'] value pos) (NT td ty tv):=by
 lk;intro D I h;show wpAny_Assign_Subscript (thn (d Sn s Z H _ I h) λr s1 ⟨v,H1,f,j,l⟩=>thn (c Sn s1 Z H1 _ f l) λu s2 ⟨x,H2,m,n,p⟩=>thn (hi Sn s2 Z H2 _ m p) λK L q=>?_) e;let#[y,M,w,z,a,B,ex,g,C]:=q;subst ex;obtain rfl:u=Value.ref a:=n;show F3 b w g z j λN E=>#[Z,B,E,C]
end
def u7(h:mu)(a:nI<h.objs.size):bh P w H (h.push {cls:=.t ↑53,data:=.y\tA []}) h.objs.size (.k []):=
 #[aZ _,beq_eq_false_iff_ne.mpr\aB (bD a),[],.nil,Q_ h]
def IE(h:mu)(a:nI<h.objs.size):bh P w H (h.push {cls:=.t ↑53,data:=.y\tA []}) h.objs.size (.dT []):=
 #[aZ _,beq_eq_false_iff_ne.mpr\aB (bD a),[],.nil,_,(tA []),(0),bJ _ rfl,#[5,1],5,jT]
def La:TE:=λ_ H Q=>hU H (.k []) Q
def K_:TE:=λ_ H Q=>hU H (.dT []) Q
section
variable {pos:Pos}
def j6:PE X (.Dict [] [] pos) La:=λSn s Z H Q I h=>
 QO #[.r ↥s,_,I.laid (a:=↥s) (o:=.k []) (t':=s.toks) (λ_ _ q=>aP _ q) (ar _)\u7 s.heap I.big,1,hU.at h\I.hok.fresh (ar _)]
def uS:PE X (.Dict [] [] pos) K_:=λSn s Z H Q I h=>
 QO #[.r ↥s,_,I.laid (a:=↥s) (o:=.dT []) (t':=s.toks) (λ_ _ q=>aP _ q) (ar _)\IE s.heap I.big,1,hU.at h\I.hok.fresh (ar _)]
end
structure M1(X:Cx)(o:mR)(m:Str)(apos:Pos)(e:mR)(cpos:Pos):Prop where
 base:rq o m X.env (nH o X.env)=nH o X.env
 few:((nT cpos\kA [e] X.env).all (λx=>!x.1)&&(backToKw cpos\keywordEach [] X.env).all (λx=>x.1.isSome)
  && decide (↑([e]:-mR)+↑([]:-Keyword)+(if ([]:-Keyword).isEmpty then 0 else 1)<30))=gm
 line:(apos.endLine==cpos.line)=gm
 trees:nT cpos (kA [e] X.env)=[(hB,nH e X.env)]
structure M2(X:Cx)(o:mR)(m:Str)(apos:Pos)(e f:mR)(cpos:Pos):Prop where
 base:rq o m X.env (nH o X.env)=nH o X.env
 few:((nT cpos\kA [e,f] X.env).all (λx=>!x.1)&&(backToKw cpos\keywordEach [] X.env).all (λx=>x.1.isSome)
  && decide (↑([e,f]:-mR)+↑([]:-Keyword)+(if ([]:-Keyword).isEmpty then 0 else 1)<30))=gm
 line:(apos.endLine==cpos.line)=gm
 trees:nT cpos (kA [e,f] X.env)=[(hB,nH e X.env),(hB,nH f X.env)]
def IsD(H:Hp)(a:i4):Prop:=(∃kvs,Rd H a\.k kvs)\/∃kvs,Rd H a\.dT kvs
def r_(I:!Inv H s)(d:IsD H a):
  s.TypeIs (.r a) ↑53/\(∀b,Value.ref a=.r b->∃ob,s.heap.get? b*>ob/\ob.dict=gf)/\(a==nI)=hB:=by
 rcases d with ⟨kvs,e⟩|⟨kvs,e⟩
 .let#[_,hd,vs,_,dd]:=fi I.hok e;erw[dd.typeIs,λb q=>?_,hd];cases q;let#[ob,0,h1,h2,_]:=dd;erw[ob,h1,h2.2.1]
 let#[_,hd,xs,_,dd]:=iW I.hok e;erw[dd.typeIs,λb q=>?_,hd];cases q;let#[ob,0,h1,h2,_]:=dd;erw[ob,h1,h2.2.1]
section
variable {a:i4}{y d:V}{u r:hK}{o:Option V}
def MQ{Q:hK->ij->Prop}(j:A.units+1<pq)(I:!Inv H s)(g:DGet H a y o)(d:aC y u)(h:∀f s',!Inv H s'->aC (o.getD .non) f->Q f s'):
  jl ⇑X A (call (.b "dict.get") [.r a,u]) Q E s:=by
 rcases g with ⟨kvs,k,e,c,l⟩|⟨kvs,k,b,e,c,m,l⟩
 .subst c;let#[z,hd,vs,rel,dd]:=fi I.hok e;show ny pJ dd.typeIs xF (PN _ _) (meets_dict_get (dB X.prog X.w) a (iB d) hd) #[_,dd.mapOf,h _ _ (I.tok _) ?_];rw[l];show (rel.val k).getD rfl
 subst c;cases (show u=Value.ref b from d);let#[z,hd,xs,rel,dd]:=iW I.hok e;show ny pJ dd.typeIs xF (PN _ _) (meetsH_dict_get (tupleKind\dB X.prog X.w) a b hd) #[pN j,k,xs,kq I.hok m,dd,h _ _ (I.tok _) ?_];rw[l];show (rel.val k).getD rfl
def MP{Q:hK->ij->Prop}(m:A.units+1<pq)(I:!Inv H s)(g:DGet H a y o)(f:aC y u)(rd:aC d r)(h:∀j s',!Inv H s'->aC (o.getD d) j->Q j s'):
  jl ⇑X A (call (.b "dict.get") [.r a,u,r]) Q E s:=by
 rcases g with ⟨kvs,k,e,c,l⟩|⟨kvs,k,b,e,c,n,l⟩
 .subst c;let#[z,hd,vs,rel,dd]:=fi I.hok e;show ny pJ dd.typeIs xF (PP _ _ _) (meets_dict_get_default (dB X.prog X.w) a (iB f) hd r) #[_,dd.mapOf,h _ _ (I.tok _) ?_];rw[l];show (rel.val k).getD rd
 subst c;cases (show u=Value.ref b from f);let#[z,hd,xs,rel,dd]:=iW I.hok e;show ny pJ dd.typeIs xF (PP _ _ _) (meetsH_dict_get_default (tupleKind\dB X.prog X.w) a b hd r) #[pN m,k,xs,kq I.hok n,dd,h _ _ (I.tok _) ?_];rw[l];show (rel.val k).getD rd
end
def NC(a:i4)(Q:VK)(y:V)(H2:Hp)(o:Option V):Prop:=DGet H2 a y o/\Q (o.getD .non) H2
def NA(a:i4)(Q:VK):VK:=λy H2=>Exists\NC a Q y H2
def NF(ty:TE)(Z:St)(Q:VK)(x:V)(H1:Hp)(a:i4):Prop:=x=.r a/\IsD H1 a/\ty Z H1\NA a Q
def NB(ty:TE)(Z:St)(Q:VK):VK:=λx H1=>Exists\NF ty Z Q x H1
def Le(td ty:TE):TE:=λZ H Q=>td Z H\NB ty Z Q
def Ld(td ty tx:TE):TE:=λZ H Q=>td Z H λx H1=>∃a,x=.r a/\IsD H1 a/\ty Z H1 λy H2=>tx Z H2 λz b=>∃o,DGet b a y o/\Q (o.getD z) b
def Nq(a:i4)(Q:VK)(y:V)(H2:Hp)(kvs:-(Key×V))(k:Key)(v:V):Prop:=H2 a*>.k kvs/\y=kV k/\a8 kvs k*>v/\WrO H2 a (.k\kF kvs k)\Q v
def Nn(a:i4)(Q:VK):VK:=λy H2=>Exists\Ex3 (Nq a Q y H2)
def Nt(ty:TE)(Z:St)(Q:VK)(x:V)(H1:Hp)(a:i4):Prop:=x=.r a/\IsD H1 a/\ty Z H1\Nn a Q
def Np(ty:TE)(Z:St)(Q:VK):VK:=λx H1=>Exists\Nt ty Z Q x H1
def K9(td ty:TE):TE:=λZ H Q=>td Z H\Np ty Z Q
section
variable {o e f:mR}{apos cpos:Pos}{td ty tx:TE}
def uT(c:X.A.units+1<pq)(f:PE X o td)(he:PE X e ty)(m:M1 X o "get" apos e cpos):PE X (.Call (.Attribute o "get" apos) [e] [] cpos) (Le td ty):=by lk;intro Q I h;show DD m.base m.few m.line uj pJ Qb (thn (f Sn s Z H _ I h) λu s1 j=>?_);let#[x,H1,b,l,a,ex,d,n]:=j;subst ex;obtain rfl:u=Value.ref a:=l;let#[p,q,_]:=r_ b d;erw[p,q,?_];rw[m.trees];show mW rfl\mY (pd (thn (he Sn s1 Z H1 _ b n) λC s2 ⟨y,H2,r,v,ov,g,w⟩=>tU ?_));show MQ c r g v λD E z B=>#[_,H2,z,B,w]
def Hz(c:X.A.units+1<pq)(j:PE X o td)(he:PE X e ty)(hf:PE X f tx)(m:M2 X o "get" apos e f cpos):PE X (.Call (.Attribute o "get" apos) [e,f] [] cpos) (Ld td ty tx):=by
 lk;intro Q I h;show DD m.base m.few m.line uj pJ Qb (thn (j Sn s Z H _ I h) λu s1 l=>?_);let#[x,H1,b,n,a,ex,d,p]:=l;subst ex;obtain rfl:u=Value.ref a:=n;let#[q,r,_]:=r_ b d;erw[q,r,?_];rw[m.trees];show mW rfl\mY (pd (thn (he Sn s1 Z H1 _ b p) λN s2 ⟨y,H2,v,w,B⟩=>
  pd (thn (hf Sn s2 Z H2 _ v B) λO P ⟨z,C,D,E,ov,g,K⟩=>tU ?_)))
 show MP c D g w E λR S L M=>#[_,C,L,M,K]
def z9(c:PE X o td)(he:PE X e ty)(m:M1 X o "pop" apos e cpos):PE X (.Call (.Attribute o "pop" apos) [e] [] cpos) (K9 td ty):=by lk;intro Q I h;show DD m.base m.few m.line uj P6 PySem.F.type_dict_pop (thn (c Sn s Z H _ I h) λu s1 f=>?_);let#[x,H1,b,g,a,ex,d,j]:=f;subst ex;obtain rfl:u=Value.ref a:=g;let#[n,p,_]:=r_ b d;erw[n,p,?_];rw[m.trees];show mW rfl\mY (pd (thn (he Sn s1 Z H1 _ b j) λD s2 ⟨y,H2,q,r,kvs,k,v,w,z,l,A⟩=>tU ?_));subst z;show OE q w r l (.l rfl) λE K B C=>#[v,_,B,C,WrO.at A]
end
section
variable {a:i4}{kvs:-(Key×V)}
def IH{Q:hK->ij->Prop}(I:!Inv H s)(e:Rd H a\.k kvs)(h:∀p s',H p=gf->!Inv (upd H p\.k kvs) s'->Q (.r p) s'):jl ⇑X A (call (.t ↑53) [.r a]) Q E s:=by let#[z,hd,vs,rel,dd]:=fi I.hok e;show kt_call_dict hd dd (by rw[<-↑rel];show z) λh' d f=>?_;show h _ _ (I.hok.fresh\ar _)\I.laid (a:=↥s) (o:=.k kvs) (t':=s.toks) (λb q c=>?_) (ar _) (oJ z (beq_eq_false_iff_ne.mpr\aB (bD I.big)) rel d);show (f.2 b\bD (aJ c)).trans\aP _ c
end
section
variable {a:i4}{y:V}{u:hK}
end
end L2
namespace Att
open PySem PySem.W PySem.Calls PyProof.Rows
def DU{P:Params}{h:mu}:∀(ns:-Int)(vs:-hK),WellAll P h vs (ns.map WData.int)->u3 vs ns:=by
 intro ns;induction ns with
 |nil=>
  intro vs w;rw[C_] at w;cases w;show .nil
 |cons n ns c=>
  intro vs w;rw[bu] at w;cases w with
  |cons a b=>
   cases a;show .c _ _\c _ b
def Fv{l:OpenLaw}{n:Nat}(g:l.most*>n){P:Params}{h:mu}{args:-WData}{vals:-hK}
  (e:l.row.toRowW.claim.pre args=gm) (j:WellAll P h vals args) :
  ∃a vs ns,vals=[Value.ref a]/\args=[WData.list\ns.map WData.int]/\h.get? a*>{cls:=.t ↑25,data:=.e vs.toArray}/\u3 vs ns/\↑ns<=n:=by
 let m:WShape.hasAll [] args [.list .int]=gm:=(pre_splitW e).1;let f:l.pre.holds [] {args:=args}=gm:=(pre_splitW e).2;let#[d,r,1,h1,h2]:=hasAllW_cons m;obtain rfl:=hasAllW_nil h2;let#[xs,1,o]:=hasW_list h1;let#[ns,1]:=items_int o;let hlen:↑ns<=n:=by
  unfold OpenLaw.pre at f;let b:(WTm.not\.lt (.lit\.i (n:Int)) (.len\.arg 0)).holds [] {args:=[.list\ns.map .int]}=gm:=by let b:=(holds_andW f).1;rw[g] at b;show b
  let c:=condW_of b\w_not (w_lt w_lit\w_len_list (w_arg rfl));rw[av] at c;show De λq=>?_;let p:(n:Int)<((↑ns:Nat):Int):=()
  first
   |(rw[Si p] at c;show absurd c ⋯)
   |(simp at c;lia)
 cases j with
 |cons s u=>
  cases u;cases s with
  |list v w=>erw[0,ns,5,v,DU ns _ w,hlen]
def FA(l:OpenLaw)(args:-WData):l.row.toRowW.claim.post args (.x gm) args=gm:=
 postW_of (r:=l.row.toRowW) (X:=(gm==gm))
  (show WShape.has [] (.x gm) .bool=gm by first|rfl|decide|simp[WShape.has,WShape.arms,WShape.armsAll])
  (show (WTm.eq .res\.lit (.x gm)).value [] {args:=args,res:=gh\.x gm,after:=args}*>.x (gm==gm) from w_eq_bool (w_res rfl) w_lit) rfl
def attach_call{l:OpenLaw}{n:Nat}{q:lu}{loose:-Str}{XP:(Str->Option hK)->mu->Prop}{YP:n7->mu->Prop}{d:DefRec}
  (c:l.most*>n) (e:d.params.defaults=[])
  (call:∀(w:n7)(s₀ s₁:ij)(mg mb:Str->Option hK)(fa:i4)(o:Obj)(pm cd doc:hK)(a:i4)(vs:-hK)(ns:-Int),
   Ground q loose [] XP w s₀ mg mb s₁.heap->YP w s₁.heap->
   s₁.heap.get? fa*>o->o.data=.func (docDef d.name d.params d.body d.scope pm cd doc)->s₁.heap.CodeRec cd d.name->mg d.name*>.r fa->
   s₁.heap.get? a*>{cls:=.t ↑25,data:=.e vs.toArray}->u3 vs ns->↑ns<=n->s₁.gens=(tA [])->
   oD (kC l.prog w) callerA (.call (.r fa) #[[.r a],[]]) (λr s'=>r=.ok (.ret\.x gm)/\OldK s₁.heap s'.heap/\s'.os=s₁.os/\AllBare s'.gens) s₁) :
  WalkO q loose XP YP l.row.toRowW d [] (λf vs=>PySem.call f vs):=by
 intro w s₀ s₁ mg mb G Y fa o pm cd doc g kV h hd j b m p args vals as u B C v D;obtain rfl:g=.none:=Dflts.none b e;obtain rfl:kV=.none:=Dflts.noKw b;let#[a,vs,ns,5,x,hints,hlen]:=Fv c u v;show enter_call (pM (call w s₀ s₁ mg mb fa o pm cd doc a vs ns G Y h (fd_plain hd) j m x hints hlen p) λr s' y=>?_);let#[1,h2,z,A]:=y;erw[.l #[.x gm,.x gm,[],1,λ_=>rfl,.x gm,FA l _,λ_=>#[List.Pairwise.nil,λ_ hm=>(nomatch hm)]],h2,z,A]
section
variable {prog:lu}{K:Frag}
end
end Att
namespace L2
open PySem PySem.Spec PyProof.Rows
def yU:∀{vs:-hK}{ns:-Int},u3 vs ns->Vals (ns.map V.int) vs
 |_,_,.nil=>.nil
 |_,_,.cons n t h=>.c #[t,1]\yU h
def Only(H:Hp):Prop:=∀b,H b=gf\/∃o xs,H b*>.z o\.a xs
def Ii{P:lu}{w:n7}{mg mb:Str->Option hK}{CX:CXT}{k:Nat}{fa a:i4}{fd:kS}{x:Str}{sp:Sp}{s₁:ij}{vs:-hK}{ns:-Int}
  (p:K.In s₁.heap) (y:s₁.heap.Ns kz mg) (c:s₁.heap.Ns builtinsNs mb) (I:∀x:Str,x≠↑98->mb x=r6 x) (L:s₁.heap.NoLimit) (M:s₁.gens=(tA []))
  (ha:s₁.heap.get? a*>{cls:=.t ↑25,data:=.e vs.toArray}) (hi:u3 vs ns) (N:↑ns<=js) (O:Room k callerA)
  (F:∀base:mu,K.In base->base.Ns kz mg->!az CX k fa fd [x] sp) (Q:∀(s:ij)(u:hK),BindsTo s fd #[[u],[]] [(x,u)])
  (R:∀o,K.lookup a*>o->o.cls≠.t ↑25) (S:∀H:Hp,Only H->SqL [] H a (ns.map V.int)->sp [.r a] H (λv _=>v=.bl gm) λ_ _ _=>False)
  (T:∀H e s',CX [] H s₁ (λ_ _ _=>False) e s'->False) :
  oD (kC P w) callerA (.call (.r fa) #[[.r a],[]]) (λr s'=>r=.ok (.ret\.x gm)/\OldK s₁.heap s'.heap/\s'.os=s₁.os/\AllBare s'.gens) s₁:=by
 let U:=yU hi;let ad:=↑hi;let core:∀H:Hp,Only H->SqL [] H a (ns.map V.int)->HOk P w H s₁.heap->(∀b,H b≠gf->b=a)->(H a≠gf->K.lookup a=gf)->
   oD (kC P w) callerA (.call (.r fa) #[[.r a],[]]) (λr s'=>r=.ok (.ret\.x gm)/\OldK s₁.heap s'.heap/\s'.os=s₁.os/\AllBare s'.gens) s₁:=by
  intro H A X hok B Y;let C:∀{b:i4}{o:Obj},s₁.heap.get? b*>o->H b=gf->(i7 s₁.heap H).get? b*>o:=λe n=>Il e n;let Z:∀{b:i4}{o:Obj}{es:Array pR}{ep:Nat},s₁.heap.get? b*>o->o.data=.y es ep->H b=gf:=λ{b o es ep} e d=>by
   cases q:H b with
   |none=>rfl
   |some u=>
    let g:b=a:=B b (by rw[q];simp);subst g;rw[ha] at e;cases e;let d':Data.seq vs.toArray _=Data.dict es ep:=d;cases d'
  let f:∀{b:i4}{m:Str->Option hK},s₁.heap.Ns b m->(i7 s₁.heap H).Ns b m:=λ{b m} ⟨o,es,ep,e,d,r⟩=>#[o,es,ep,C e\Z e d,d,r];let D:K.In (i7 s₁.heap H):=λb o e=>C (p b o e) (by
   cases q:H b with
   |none=>rfl
   |some u=>
    let g:b=a:=B b (by rw[q];simp);subst g;rw[Y (by rw[q];simp)] at e;cases e)
  let hM:Mod K mg (i7 s₁.heap H):=#[D,f y,#[mb,f c,I],let ⟨mc,h1,h2⟩:=L;#[mc,f h1,h2]];let e0:gr P w K mg (i7 s₁.heap H) callerA [] s₁ H:=#[1,hM,λb o e=>Kh e,xt\FW _ _,trivial,λb c=>absurd (show b∈([]:-i4) from c) ∅,hok,.of_eq M];show pM ((F _ D\f y).run callerA [] s₁ H #[[.r a],[]] [.r a] [.r a] _ _ O e0 (Q s₁\.r a) (.c rfl .nil)\S H A X) λr s' h=>?_;cases r with
  |error e=>show (T H e s' h).elim
  |ok fl=>
   cases fl with
   |next=>show False.elim h
   |brk=>show False.elim h
   |cont=>show False.elim h
   |ret u=>
    let#[v,H',os,bare,un,ab,r',q]:=h;let q':v=.bl gm:=q;subst q';obtain rfl:u=Value.bool gm:=r';erw[1,OldK.of_keep λb o e=>?_,os,bare];cases q:H b with
    |none=>show un.keep b o e q (by intro z;show absurd (show b∈([]:-i4) from z) ∅) ∅
    |some u=>
     rcases A b with z|⟨ob,xs,z⟩
     .rw[q] at z;cases z
     let#[z2,#[E,_],#[e2,_]]:=#[un.frzs b ob _ z,hok b _ z,ab b _ z2];rw[e] at E;cases E;show e2
 cases j:K.lookup a with
 |some o=>
  let e:=p a o j;rw[ha] at e;cases e;show absurd rfl\R _ j
 |none=>
  show core (λb=>if b=a then gh (.z {cls:=.t ↑25,data:=.e vs.toArray}\.a (ns.map V.int)) else gf) (λb=>?_) (.l\.o #[{cls:=.t ↑25,data:=.e vs.toArray},Sh rfl]) (λb u z=>?_) (λb z=>?_) λ_=>j
  .by_cases c:b=a
   .exact .o #[0,Sh c]
   show .l\Sg c
  .by_cases c:b=a
   .let l:=(Sh c).symm.trans z;cases l;subst c;erw[ha,by rw[av];show N,vs,_,U,ha]
   let l:=(Sg c).symm.trans z;cases l
  by_cases c:b=a
  .exact c
  show absurd (Sg c) z
end L2
namespace L2
open PySem PySem.Spec PyProof.Rows
def walk_of{l:W.OpenLaw}{n k:Nat}{q:lu}{loose:-Str}{XP:(Str->Option hK)->mu->Prop}{YP:n7->mu->Prop}{d:DefRec}{K:Params->W.Frag}{CX:n7->CXT}{sp:n7->Sp}{x:Str}
  (j:l.most*>n) (m:n<=js) (p:d.params.defaults=[]) (r:Room k callerA)
  (y:∀(w:n7)(h:mu),YP w h->(K w.params).In h)
  (F:∀(w:n7)(mg:Str->Option hK)(fa:i4)(h:mu),(K w.params).In h->h.Ns kz mg->mg d.name*>.r fa->
   ∃fd:kS,(∀(s:ij)(u:hK),BindsTo s fd #[[u],[]] [(x,u)])/\
    ∀base:mu,(K w.params).In base->base.Ns kz mg->az l.prog w (K w.params) mg base (CX w) k fa fd [x]\sp w)
  (z:∀(w:n7)(a:i4)(o:Obj),(K w.params).lookup a*>o->o.cls≠.t ↑25) (A:∀(w:n7)(H:Hp)(a:i4)(ns:-Int),↑ns<=n->Only H->SqL [] H a (ns.map V.int)->sp w [.r a] H (λv _=>v=.bl gm) λ_ _ _=>False)
  (B:∀(w:n7)(H:Hp)(s:ij)(e:hK)(s':ij),CX w [] H s (λ_ _ _=>False) e s'->False) :
  W.WalkO q loose XP YP l.row.toRowW d [] (λf vs=>PySem.call f vs):=by
 show Att.attach_call j p λw s₀ s₁ mg mb fa o pm cd doc a vs ns G Y N hd O C D hints hlen E=>?_;let c:=y w _ Y;let#[fd,I,hF]:=F w mg fa _ c G.T.g C;show Ii c G.T.g G.T.b G.T.builtins G.T.nolimit E D hints (cQ hlen m) r hF I (z w a) (λH L M=>A w H a ns hlen L M) λH e s'=>B w H s₁ e s'
def nlV:hK->Bool
 |.type s=>!(s==↑25)
 |_=>gm
def CF{a:i4}{o:Obj}:∀{K:W.Frag},K.all (λx=>nlV x.2.cls)=gm->K.lookup a*>o->o.cls≠.t ↑25
 | [],_,h=>nomatch h
 |(b,u)::K,e,h=>by
  rw[CV,hX] at e;rw[jS] at h
  split at h
  .cases h;intro z;have:=e.1;rw[z] at this;show absurd this ⋯
  show CF e.2 h
end L2
namespace L2
open PySem PySem.Spec PyProof.Rows
abbrev CX0:CXT:=λ_ _ _ _ _ _=>False
abbrev E0:XK:=λ_ _ _=>False
def pass0:Passes CX0 X E0:=λ_ _ _ _ _ _ _ h=>h.elim
structure Use(P:lu)(w:n7)(K:W.Frag)(mg:Str->Option hK)(base:mu)(n:Nat)(x:Str)(ps:-Str)(sp:Sp)(f:i4)(fd:kS):Prop where
 g:!az CX0 n f fd ps sp
 b:Binds K fd ps []
 m:mg x*>.r f
 k:W.keepIn K (.r f)=gm
def uc{sp:Sp}{e:mR}{es:-mR}{p pos:Pos}(G:Use X.prog X.w X.K X.mg X.base k x ps sp f fd)(a:Room k X.A)(ha:PA X (e::es) t)(c:Gl X x:=by rfl)(d:(x==(↑17 : Str))=hB:=by decide)(he:kA (e::es) X.env=(hB,nH e X.env)::kA es X.env:=by rfl)(h:(nT pos\kA es X.env).any (·.1)=hB:=by rfl):PE X (.Call (.n x p) (e::es) [] pos) (sO sp [] E0 t):=iR G.g a c G.m G.k G.b .nil pass0 ha d he h
structure Fun(K:W.Frag)(x qual:Str)(st:mT)(f:i4)(fd:kS):Prop where
 ex:∃(oc:hK)(od:Option i4)(kV doc pm:hK)(an:Option i4)(Sq ct:hK)(osl:Array\Option hK),
  fd=W.fnOf x qual (fg st) (d_ st) (au st) .none kV doc pm an Sq ct/\K.lookup f*>#[oc,od,.func fd,osl]/\W.codeIn K Sq qual=gm
 kp:W.keepIn K (.r f)=gm
section
def Fun.ok{st:mT}{k:Nat}{sp:Sp}(F:Fun K x qual st f fd)(S:aQ N ps\au st)(len:∀vs H Q E,sp vs H Q E->↑vs=↑ps)
  (b:∀(a:hK)(A:ro)(outer:-Env)(s:ij)(H:Hp)(vs:-V)(Q:VK)(E:XK),Room k (A.deeper\envOfC qual (au st) ↥s f a)->sp vs H Q E->
   ∃t,PSs (eV CX0 P w K mg base N qual (au st) f a A outer s H E).nox (d_ st) t/\t {nx:=λ_ H'=>Q .non H',rt:=Q} (start N vs) H):!az CX0 (k+1) f fd ps sp:=by
 let#[g,od,kV,doc,pm,an,a,ct,j,1,lk,c]:=F.ex;show wu lk c S len λA outer s H vs Q E d e=>?_;let#[t,h,q]:=b a A outer s H vs Q E d e;erw[t,h.nox,q]
def Fun.binds{st:mT}{ps:-Str}(F:Fun K x qual st f fd)
  (h:∀(kV doc pm:hK)(an:Option i4)(a ct:hK)(us:-hK),↑us=↑ps->bindArgs (W.fnOf x qual (fg st) (d_ st) (au st) .none kV doc pm an a ct) #[us,[]]=pure\ps.zip us):Binds K fd ps []:=by
 let#[b,od,kV,doc,pm,an,a,ct,c,1,lk,d]:=F.ex;show .all\h kV doc pm an a ct
def B5{x qual:Str}{st:mT}{f:i4}{b:hK}{od an:Option i4}{d:Array\Option hK}{kV doc pm a ct:hK}(l:K.lookup f*>#[b,od,.func\W.fnOf x qual (fg st) (d_ st) (au st) .none kV doc pm an a ct,d])
  (c:W.codeIn K a qual=gm) (k:W.keepIn K (.r f)=gm):Fun K x qual st f (W.fnOf x qual (fg st) (d_ st) (au st) .none kV doc pm an a ct):=#[#[b,od,kV,doc,pm,an,a,ct,d,1,l,c],k]
end
def dC(a:Room k A):A.units+1<cLine:=kO (xr (by decide:1<=64) _) a.units
section
def pv(i:Nat){x:Str}{pos:Pos}(a:X.N[i]?*>x:=by rfl)(b:Vis X.env.scope x:=by first|exact Or.inl rfl|exact Or.inr (.l rfl)|exact Or.inr\.o rfl)(hd:(x==(↑17 : Str))=hB:=by decide)
  (c:(x==("__classdict__" : Str))=hB:=by decide):PE X (.n x pos) (aN i):=LY a b hd c
def F_:c7 X (.b "len") (λxs H Q=>∃a kvs,xs=[V.ref a]/\H a*>.k kvs/\Q (.i ↑kvs) H):=by lk;intro xs us Q I r h;let#[a,kvs,1,ha,q]:=h;let#[u,1,b]:=vals1 r;cases b;show OF I (.l ha) λt s' c=>#[.i ↑kvs,H,c,#[t,1],q]
end
def aA{A B:Prop}(h:B):if hB=gm then A else B:=by rw[Sg bH];show h
def aL{A B:Prop}(h:A):if gm=gm then A else B:=by rw[Sh rfl];show h
def ite2{c A B:Prop}[Decidable c](h1:c->A)(h2:¬c->B):if c then A else B:=by
 by_cases h:c
 .rw[Sh h];show h1 h
 rw[Sg h];show h2 h
def Same.refl(H:Hp):Same H H:=λ_ _ h=>h
def Same.trans{H:Hp}(a:Same H H1)(b:Same H1 H2):Same H H2:=λc o h=>b c o\a c o h
def Same.free(e:Same H H')(h:H' l=Option.none):H l=Option.none:=by
 cases q:H l with
 |none=>rfl
 |some o=>
  rw[e l o q] at h;cases h
def Same.seq(e:Same H H')(h:SqL K H a xs):SqL K H' a xs:=by
 rcases h with (h|⟨o,h⟩)|h
 .exact .l\.l (e>>h)
 .exact .l\.o #[o,e>>h]
 show .o h
section
variable {κ:Type}[DecidableEq κ]
def IV{kvs:-(κ×V)}{k:κ}{v:V}(h:a8 kvs k*>v):k∈kvs.map (·.1):=by
 let q:(kvs.any λa=>decide (a.1=k))=gm:=by
  rw[qo,h]
  all_goals rfl
 let#[p,b,e]:=m_.mp q;show ax.mpr #[p,b,Sl e]
end
end L2
end
variable {H:L2.Hp}{Z:L2.St}{X:L2.Cx}{xs:List L2.V}{vs:List L2.V}{H':L2.Hp}
namespace L2
open PySem PySem.Spec PyProof.Rows
def eI(env:Env):-(Str×NameKind)->-(Str×i4)->-(Str×i4)
 | [],cs=>cs
 |(n,k)::r,cs=>eI env r (if k==.free then (n,(env.cells.lookup n).getD 0)::cs else cs)
def yK(env:Env):∀(names:-(Str×NameKind))(cs:-(Str×i4)),(∀x∈names,x.2=.free->∃c,env.cells.lookup x.1*>c)->
  (forIn names cs λ(x:Str×NameKind)(r:-(Str×i4))=>(do
   if x.2==NameKind.free then
    let a <-cellOf env x.1
    pure (ForInStep.yield ((x.1,a)::r))
   else pure (ForInStep.yield r):Sem\ForInStep (-(Str×i4))))=pure\eI env names cs
 | [],cs,_=>rfl
 |(n,k)::r,cs,h=>by
  let ih:=λcs=>yK env r cs λx hx=>h x\dz _ hx;rw[C5];by_cases hk:k=.free
  .subst hk;let#[c,hc]:=h (n,.free) jc rfl;let e:cellOf env n=pure c:=by
    let hc':env.cells.lookup n*>c:=hc;unfold cellOf;rw[hc']
    try rfl
   rw[Sh (show (((n,NameKind.free).2==NameKind.free)=gm) from rfl),e];show Eq.trans ?_\(ih ((n,c)::cs)).trans ?_
   .rfl
   let hc':env.cells.lookup n*>c:=hc;change pure (eI env r ((n,c)::cs))=pure\eI env r ((n,(env.cells.lookup n).getD 0)::cs);rw[hc'];rfl
  let hb:(k==NameKind.free)=hB:=‹hk›
  rw[Sg (show ¬(((n,k).2==NameKind.free)=gm) by rw[show ((n,k).2==NameKind.free)=hB from hb];simp)];show Eq.trans ?_\(ih cs).trans ?_
  .rfl
  change pure (eI env r cs)=pure\eI env r (if (k==NameKind.free)=gm then _ else cs);rw[hb];rfl
def uB{env:Env}(h:∀x∈scope.names,x.2=.free->∃c,env.cells.lookup x.1*>c):closureFor scope env=pure (eI env scope.names []):=by
 let e:=yK env scope.names [] h;unfold closureFor;simp only[bind_pure_comp,map_pure] at e |-
 first
  |(rw[e];rfl)
  |show e
def Bo{env:Env}:∀{names:-(Str×NameKind)}{cs:-(Str×i4)}{x:Str}{c:i4},(∀y∈names,y.2=.free->∃c,env.cells.lookup y.1*>c)->
  (eI env names cs).lookup x*>c->env.cells.lookup x*>c\/cs.lookup x*>c
 | [],cs,x,c,_,h=>.o h
 |(n,k)::r,cs,x,c,hf,h=>by
  let d:∀y∈r,y.2=.free->∃c,env.cells.lookup y.1*>c:=λy f=>hf y\dz _ f;rcases Bo (names:=r) d h with q|q
  .exact .l q
  by_cases a:(k==NameKind.free)=gm
  .rw[Sh a] at q;let g:k=.free:=‹a›
   let#[b,e]:=hf (n,k) jc g;let e:env.cells.lookup n*>b:=e;rw[jS] at q;cases hx:x==n with
   |true=>
    rw[hx] at q;let j:x=n:=‹hx›
    subst j;rw[e] at q;let l:b=c:=‹q›
    show .l (l ▸ e)
   |false=>
    rw[hx] at q;show .o q
  rw[Sg a] at q;show .o q
def vd:∀{names:-(Str×NameKind)}{cs:-(Str×i4)}{x:Str},((x,NameKind.free)∈names\/(cs.lookup x).isSome=gm)->((eI env names cs).lookup x).isSome=gm
 | [],cs,x,h=>by
  rcases h with h|h
  .simp at h
  show h
 |(n,k)::r,cs,x,h=>by
  show vd (names:=r) ?_;rcases h with h|h
  .rcases aU.mp h with e|e
   .cases e;show .o ?_;rw[Sh (by rfl),jS,beq_self_eq_true];rfl
   show .l e
  show .o ?_;by_cases a:(k==NameKind.free)=gm
  .rw[Sh a,jS];cases hx:x==n with
   |true=>rfl
   |false=>show h
  rw[Sg a];show h
def xV(env:Env):∀(names:-(Str×NameKind))(x:Str),
  (names.map λ(n,k)=>if (k==NameKind.free&&env.scope.kind==.function&&env.kindOf n==gh .cell) then (n,NameKind.cell) else (n,k)).lookup x=(names.lookup x).map λk=>if (k==NameKind.free&&env.scope.kind==.function&&env.kindOf x==gh .cell) then NameKind.cell else k
 | [],_=>rfl
 |(n,k)::r,x=>by
  let b:=xV env r x;rw[bu];dsimp only at b |-;by_cases a:(k==NameKind.free&&env.scope.kind==.function&&env.kindOf n==gh .cell)=gm
  .rw[Sh a,jS,jS];cases hx:x==n with
   |true=>
    let c:x=n:=‹hx›
    subst c;simp only[pE,a,if_true]
   |false=>show b
  rw[Sg a,jS,jS];cases hx:x==n with
  |true=>
   let c:x=n:=‹hx›
   subst c;simp only[pE];rw[Sg a]
  |false=>show b
def fG(X:Cx)(N:-Str)(scope:Scope)(C:i4)(s:ij)(H:Hp)(fp:-i4)(Sn:-(i4×Obj)):Cx:=
 {X with N:=N,s₀:=s,H₀:=H,env:=compEnvC scope (eI X.env scope.names []) C X.env,outer:=X.stack,ex:=fp,fn:=λ_=>hB,pn:=X.pn++Sn,xe:=λ_ _=>False}
def iU(fr:List\Option Nat)(Z:St):St:=fr.map λo=>o.bind λi=>(Z[i]?).join
structure fP(X:Cx)(N:-Str)(fr:List\Option Nat)(scope:Scope):Prop where
 nd:N.Nodup
 len:↑fr=↑N
 kind:scope.kind=.function
 nocell:∀y∈scope.names,y.2≠.cell
 names:∀y∈scope.names,y.2=.local->scope.names.lookup y.1*>.local
 frees:∀y∈scope.names,y.2=.free->X.env.kindOf y.1*>.cell\/X.env.kindOf y.1*>.free
 fr:∀(j i:Nat)(x:Str),fr[j]?*>gh i->N[j]?*>x->X.N[i]?*>x/\scope.names.lookup x*>.free
section
variable {N:-Str}{fr:List (Option Nat)}{fp:-i4}
def fP.cells(S:fP X N fr scope)(ok:X.Ok):∀y∈scope.names,y.2=.free->∃c,X.env.cells.lookup y.1*>c:=λy a hf=>ok.has y.1\S.frees y a hf
def pY{names:-(Str×NameKind)}{x:Str}{k:NameKind}(h:names.lookup x*>k):(x,k)∈names:=pK h
def zw{C:i4}{x:Str}:(compEnvC scope (eI X.env scope.names []) C X.env).kindOf x=(scope.names.lookup x).map λk=>if (k==NameKind.free&&X.env.scope.kind==.function&&X.env.kindOf x==gh .cell) then NameKind.cell else k:=xV X.env scope.names x
def fP.free_of(S:fP X N fr scope){C:i4}{x:Str}(h:(compEnvC scope (eI X.env scope.names []) C X.env).kindOf x*>.cell\/(compEnvC scope (eI X.env scope.names []) C X.env).kindOf x*>.free):scope.names.lookup x*>.free:=by
 rw[zw] at h;cases e:scope.names.lookup x with
 |none=>rw[e] at h;simp at h
 |some k=>
  rw[e] at h;let a:=S.nocell _\pY e;cases k with
  |free=>rfl
  |cell=>show absurd rfl a
  |_=>
   exfalso;rcases h with h|h<;>simp at h
def F8{C:i4}{x:Str}(h:scope.names.lookup x*>.free):(compEnvC scope (eI X.env scope.names []) C X.env).kindOf x*>.cell\/(compEnvC scope (eI X.env scope.names []) C X.env).kindOf x*>.free:=by
 rw[zw,h,pE];by_cases c:(NameKind.free==NameKind.free&&X.env.scope.kind==.function&&X.env.kindOf x==gh .cell)=gm
 .rw[Sh c];show .l rfl
 rw[Sg c];show .o rfl
end
section
variable {N:-Str}{fr:List (Option Nat)}{fp:-i4}
def yI{C:i4}{h1:mu}{m:Str->Option hK}{t:Nat}(S:fP X N fr scope)(I:!Inv H s)(hf:∀b∈fp,bV X Sn H b)(w:↥s<=C)(K:∀b∈fp,b≠C)
  (L:h1.Ns C m) (g:∀b o,s.heap.get? b*>o->h1.get? b*>o):Inv (fG X N scope C s H fp Sn) [] (iU fr Z) H {s with heap:=h1,toks:=t}:=by
 let M:=S.cells I.ok;let sub:∀x c,(eI X.env scope.names []).lookup x*>c->X.env.cells.lookup x*>c:=λx c e=>by
  rcases Bo M e with q|q
  .exact q
  simp at q
 let ok:(fG X N scope C s H fp Sn).Ok:=by
  erw[I.ok.mod,S.kind,I.ok.glob,I.ok.blt,w,λx y c h1 h2=>I.ok.inj x y c (sub x c h1)\sub y c h2,λx hx=>?_,λx c e=>absurd e (by change ¬(hB=gm);decide),I.ok.hd,I.ok.frames,.l rfl,λb f=>?_,λb o e=>I.bs b o e,cQ I.ok.bsz I.sz,λb o e f=>?_,λb f=>?_,I.stack,I.stkFree]
  .let e:=S.free_of hx;show pD.mp\vd (.l\pY e)
  .exact#[K b f,λx c e=>(hf b f).2.2.2.2.1 x c (sub x c e)]
  .rcases (hf b f).2.2.2.1 with z|z
   .exact I.ok.noex b o e z
   show absurd (bW (aJ e)\cQ I.ok.bsz z)\dG _
  intro z;rcases aU.mp (I.stkSub b z) with q|q
  .exact (hf b f).2.1 q
  show (hf b f).2.2.1 q
 let O:H C=gf:=I.hok.fresh w;erw[ok,1,I.bare,Un.kept g,#[m,L,λj x v P a e3=>?_],λx c e=>?_,O,λx c e=>I.freeC x c\sub x c e,λp l=>?_,I.hok.kept g,?_]
 .let a:(iU fr Z)[j]?*>gh v:=a;unfold iU at a;rw[br] at a;cases q:fr[j]? with
  |none=>rw[q] at a;cases a
  |some o=>
   rw[q] at a;cases o with
   |none=>cases a
   |some i=>
    let a:(Z[i]?).join*>v:=eB a;let#[hi,A]:=S.fr j i x q P;have hσ:Z[i]?*>gh v:=by
     cases z:Z[i]? with
     |none=>rw[z] at a;cases a
     |some y=>rw[z] at a;cases y with
      |none=>cases a
      |some Q=>let a:gh Q*>v:=a;rw[a]
    let#[#[m0,_,R],D,T,#[u,r,lk]]:=#[I.loc,(S.frees (x,.free) (pY A) rfl:X.env.kindOf x*>.cell\/X.env.kindOf x*>.free),(D.elim (λz=>.o\.l z) λz=>.o\.o z:Vis X.env.scope x),R i x v hi hσ T];rcases lk with ⟨z,_⟩|⟨_,c,U,Y⟩
    .rcases D with y|y<;>(rw[y] at z;cases z)
    erw[u,r,.o #[F8 A,?_]];let#[c',E]:=pD.mp\vd (env:=X.env) (names:=scope.names) (cs:=[]) (.l\pY A);have:=sub x c' E;rw[U] at this;cases this;let#[o,B,hd]:=Y;erw[c,E,o,g c o B,hd]
 .let#[v,o,B,hd]:=I.cell x c\sub x c e;erw[v,o,g c o B,hd]
 .let l:p∈(X.pn++Sn)++[]:=l;rw[eY] at l;let#[e,n,ne,nf,d]:=I.pin p l;erw[g>>e,n,λz=>?_,λz=>?_,d]
  .let z:p.1=C:=z;show absurd (bW (aJ e) w) (by rw[z];show dG _)
  rcases aU.mp (I.stkSub p.1 z) with q|q
  .exact ne q
  show nf q
 change ↑(iU fr Z)=↑N;unfold iU;rw[av];show S.len
def Al{C:i4}{Z':St}{c:-(i4×Obj)}(I:!Inv H s)(hf:∀b∈fp,bV X Sn H b)(d:↥s<=C)(J:Inv (fG X N scope C s H fp Sn) c Z' H2 s'):
  !Inv H2 s'/\bV X Sn H2 C:=by
 let e:!Inv H2 s':=I.call' J.os J.base J.hok J.bare λb a=>#[(hf b a).2.2.2.1,(hf b a).2.1,(hf b a).2.2.2.2.1,(hf b a).2.2.2.2.2];erw[e,I.fpOk d J.free]
end
def PIf(X:Cx)(ifs:-mR)(t:TT):Prop:=
 ∀(Sn:-(i4×Obj))(s:ij)(Z:St)(H:Hp)(Q:Bool->Hp->Prop),!Inv H s->t Z H Q->
  jl ⇑X X.A (forIn ifs gm λc r=>if r=gm then do let ok <-isTrue c X.env\nH c X.env;pure (ForInStep.yield ok) else pure (ForInStep.yield r)) (TP X Sn Z Q) X.xe s
def dZ:PIf X [] (λ_ H Q=>Q gm H):=λ_ _ _ H _ I h=>wpAny_tests_nil #[H,I,h]
def gW(h:PT X c t):PIf X [c] t:=λSn s Z H Q I q=>wpAny_tests_one\h Sn s Z H Q I q
def tBlE(D:i4)(ys:-V)(N:St->-V->Hp->Prop)(σ2:St):VK:=λy a=>a D*>.a ys/\↑ys<js/\WrO a D (.a (ys++[y]))\N σ2 (ys++[y])
def wH(te:TE)(D:i4)(ys:-V)(N:St->-V->Hp->Prop)(σ2:St):Bool->Hp->Prop:=λb a=>if b=gm then te σ2 a (tBlE D ys N σ2) else N σ2 ys a
def mI(tt:TT)(te:TE)(D:i4)(ys:-V)(N:St->-V->Hp->Prop):St->Hp->Prop:=λσ2 H2=>tt σ2 H2\wH te D ys N σ2
def tBlN(J:It)(g:TG)(tt:TT)(te:TE)(D:i4)(W:Nat->Nat->St->-V->Hp->Prop)(i m:Nat)(Z:St)(ys:-V)(H:Hp)(N:St->-V->Hp->Prop):Prop:=(∀Z' a H',N Z' a H'->∃b,b<m/\W (i+1) b Z' a H')/\∀x H',J.yld i H x H'->g x Z H'\mI tt te D ys N
def tBlB(J:It)(g:TG)(tt:TT)(te:TE)(D:i4)(Z':St)(H1:Hp)(Q:Hp->Prop)(W:Nat->Nat->St->-V->Hp->Prop):Prop:=(∃m,W 0 m Z' []\upd H1 D (.a []))/\∀i m Z ys H,W i m Z ys H->(J.stop i H/\Q H)\/(J.go i H/\Exists\tBlN J g tt te D W i m Z ys H)
def ju(J:It)(g:TG)(tt:TT)(te:TE)(D:i4)(Z':St)(H1:Hp)(Q:Hp->Prop):Prop:=Exists\tBlB J g tt te D Z' H1 Q
def F7{elt target iter:mR}{ifs:-mR}{scope:Scope}{pos:Pos}{it acc:hK}{env:Env}{R:Result->ij->Prop}(I:Nat->ij->Prop)
  (turn:∀n s,I n s->jl (kC P w) A (pS it) (λr s1=>match r with
   |none=>R (.ok .next) s1
   |some v=>jl (kC P w) A (letOwnedTupleGo target it v) (λ_ s1'=>jl (kC P w) A (assign target env v) (λ_ s2=>
     jl (kC P w) A (forIn ifs gm λc r=>if r=gm then do let ok <-isTrue c env\nH c env;pure (ForInStep.yield ok) else pure (ForInStep.yield r)) (λok s3=>
      if ok=gm then jl (kC P w) A (nH elt env) (λx s4=>
       jl (kC P w) A (call (.b "list.append") [acc,x]) (λ_ s5=>∃m,m<n/\I m s5) (λ_ _=>False) s4) (λ_ _=>False) s3
      else ∃m,m<n/\I m s3) (λ_ _=>False) s2) (λ_ _=>False) s1') (λ_ _=>False) s1) (λ_ _=>False) s)
  (n:Nat) (h:I n s) :
  oD (kC P w) A (.compLoop (.ListComp elt [#[target,iter,ifs,(0)]] scope pos) 0 it acc env) R s:=by
 let no:∀(e:hK)(t:ij),False->notedBy (kC P w) A env (λe s'=>R (.error e) s') e t:=λ_ _ z=>z.elim;show codeAny_loop rfl I (λn s hI=>?_) n h;show wpAny_noted ?_;rw[compTurn_list];show aa\k_ (aa\bU (turn n s hI) (λr s1 h1=>?_) no);cases r with
 |none=>show ai h1
 |some v=>
  show aa\bU h1 (λ_ s1' h1'=>?_) no;show aa\bU h1' (λ_ s2 h2=>aa\bU h2 (λok s3 h3=>?_) no) no;cases ok with
  |false=>show ai #[1,h3]
  |true=>
   show aa\aa (bU h3 (λx s4 h4=>aa\bU h4 (λ_ s5 h5=>ai\ai #[1,h5]) no) no)
section
variable {N:-Str}{fr:List (Option Nat)}{fp:-i4}
def IK{elt target iter:mR}{ifs:-mR}{pos:Pos}{it D:i4}{tn:Nat->mu->Prop}{J:It}{g:TG}{tt:TT}{te:TE}{R:Result->ij->Prop}{s1:ij}{L:St}{H1:Hp}{Q:Hp->Prop}
  {Y:Cx} (hY:Y.xe=λ_ _=>False) (S:Y.calm=gm) (I:Inv Y [] L (upd H1 D\.a []) s1) (T:Turn Y.prog Y.w Y.K target J fp it tn) (ht:tn 0 s1.heap) (hf:∀b∈fp,bV Y [] (upd H1 D\.a []) b)
  (hg:PG Y target g) (hi:PIf Y ifs tt) (he:PE Y elt te) (h:ju J g tt te D L H1 Q) (hR:∀s' Z' H',Inv Y [] Z' H' s'->Q H'->R (.ok .next) s') :
  oD (kC Y.prog Y.w) Y.A (.compLoop (.ListComp elt [#[target,iter,ifs,(0)]] scope pos) 0 (.r it) (.r D) Y.env) R s1:=by
 let#[W,#[m0,w0],turn]:=h;let M:∀{H':Hp},(∀b∈fp,H' b=gf)->∀b∈fp,bV Y [] H' b:=λhn b a=>#[hn b a,(hf b a).2];show F7 (λn s'=>∃i Z' ys H',Inv Y [] Z' H' s'/\tn i s'.heap/\(∀b∈fp,H' b=gf)/\W i n Z' ys H') ?_ m0 #[(0),L,[],_,I,ht,λb a=>(hf b a).1,w0];rintro n U ⟨i,l,ys,z,X,Z,ab,w3⟩;let back:∀{α:Type}{t:Sem α}{Q:α->ij->Prop}{s:ij},jl (kC Y.prog Y.w) Y.A t Q Y.xe s->jl (kC Y.prog Y.w) Y.A t Q (λ_ _=>False) s:=λh=>by rw[hY] at h;show h
 rcases turn i n l ys z w3 with ⟨stop,qn⟩|⟨go,N',ad,step⟩
 .refine thn (T.done Y rfl rfl rfl S i [] U l z _ X (M ab) Z stop) λr s4 ⟨N,I4⟩=>?_;subst N;show hR s4 l z I4 qn
 show thn (T.item Y rfl rfl rfl S i [] U l z _ X (M ab) Z go) λr s4 ⟨u,N,h4⟩=>?_;subst N;show thn h4 λ_ s5 q=>?_;let#[x,H5,I5,r5,y5,O,al]:=q;let ag:=I5.pinned (M al) (T.obj>>O);rw[Pm] at ag;show thn (back\hg _ s5 l H5 x u _ ag r5 (step x H5 y5)) λ_ s6 ⟨B,H6,I6,q6⟩=>?_;show thn (back\hi _ s6 B H6 _ I6 q6) λb c ⟨f,j,C⟩=>?_;let again:∀{E:St}{f:Hp}{c:ij}{P:-V},Inv Y (l9 fp s5.heap) E f c->(∃H,H<n/\W (i+1) H E P f)->∃m,m<n/\∃i Z' ys H',Inv Y [] Z' H' c/\tn i c.heap/\(∀b∈fp,H' b=gf)/\W i m Z' ys H':=λ{E f c P} j ⟨H,hm,w7⟩=>by
  erw[H,hm,i+1,E,P,f,j.pins_of (λp hp=>by simp at hp),T.keep _ _ _ O λb a o e=>(j.pin (b,o)\ft _ (jY a e)).1,λb a=>?_,w7];let#[o,e,d]:=T.obj _ _ O b a;show (j.pin (b,o)\ft _ (jY a e)).2.1
 cases b with
 |false=>
  rw[wH,Sg bH] at C;rw[Sg bH];show again j\ad _ _ _ C
 |true=>
  rw[wH,Sh rfl] at C;rw[Sh rfl];show thn (back\he _ c B f _ j C) λv s8 q=>?_;let#[y,H8,I8,r8,hD,hl,q8]:=q;show thn (back\fB _ s8 B H8 (.r D) [y] (.r D) [v] (λ_ H'=>N' B (ys++[y]) H') I8 rfl (.c r8 .nil) #[D,ys,y,5,hD,hl,q8]) λ_ s9 q=>?_;let#[_,H9,I9,_,q9]:=q;show again I9\ad _ _ _ q9
end
def tCoD(Q:VK)(D:i4):Hp->Prop:=λH2=>Q (.r D) H2
def tCoA(g:TG)(tt:TT)(te:TE)(fr:List\Option Nat)(Z:St)(Q:VK)(J:It)(H1:Hp):Prop:=∀D,H1 D=gf->ju J g tt te D (iU fr Z) H1\tCoD Q D
def tCoK(g:TG)(tt:TT)(te:TE)(fr:List\Option Nat)(Z:St)(Q:VK):It->Hp->Prop:=λJ H1=>tCoA g tt te fr Z Q J H1
def mz(wi:TI)(g:TG)(tt:TT)(te:TE)(fr:List\Option Nat):TE:=λZ H Q=>wi Z H\tCoK g tt te fr Z Q
section
variable {N:-Str}{fr:List (Option Nat)}{elt tg iter:mR}{ifs:-mR}{pos:Pos}{wi:TI}{g:TG}{tt:TT}{te:TE}
def PComp(X:Cx)(N:-Str)(scope:Scope)(tg:mR)(ifs:-mR)(elt:mR)(g:TG)(tt:TT)(te:TE):Prop:=
 ∀(C:i4)(s:ij)(H:Hp)(fp:-i4)(Sn:-(i4×Obj)),PG (fG X N scope C s H fp Sn) tg g/\PIf (fG X N scope C s H fp Sn) ifs tt/\PE (fG X N scope C s H fp Sn) elt te
def yJ{j:hK}{Z_:hK->i4->Result->ij->Prop}{QQ:i4->Hp->Prop}(S:fP X N fr scope)(K:X.calm=gm)
  (a:PComp X N scope tg ifs elt g tt te) (h2:PIE X Sn Z tg (λJ H1=>∀D,H1 D=gf->ju J g tt te D (iU fr Z) H1\QQ D) j s)
  (L:∀D C s' H',!Inv H' s'->bV X Sn H' C->(∃m,s'.heap.Ns C m)->QQ D H'->Z_ (.r D) C (.ok .next) s') :
  jl ⇑X X.A (newList []) (λacc M=>jl ⇑X X.A (newFunctionEnv scope X.env.globals (eI X.env scope.names []) [] X.env.qual gf .none\gh X.env) (λl O=>
   oD ⇑X X.A (.compStart (.ListComp elt [#[tg,iter,ifs,(0)]] scope pos) 0 j acc {l with scope:=relabel scope X.env}) (Z_ acc l.locals) O) E M) E s:=by
 let#[it,fp,tn,J,H1,e,n,T,r,v,q]:=h2;subst e;let P:H1 ↥s=gf:=n.hok.fresh\ar _;let old:∀b∈fp,b<↥s:=λb a=>by
  let#[o,e,_]:=T.obj _ _ r b a;show aJ e
 show e_\QZ S.nocell (by intro y Q;simp at Q) (λh1 x h=>?_) S.kind;dsimp only at x h |-;let z:!Inv (upd H1 ↥s\.a []) {s with heap:=s.heap.push {cls:=.t ↑25,dict:=gf,data:=.e ([]:-hK).toArray}}:=by show n.laid (t':=s.toks) (λb u e=>aP _ e) (ar _) ?_;erw[aZ _,[],_,.nil,bJ _ rfl]
 let c:∀b∈fp,bV X Sn (upd H1 ↥s\.a []) b:=λb a=>#[by rw[aq\bD (old b a)];show (v b a).1,(v b a).2];let hsz:(s.heap.push {cls:=.t ↑25,dict:=gf,data:=.e ([]:-hK).toArray}).objs.size=↥s+1:=kM ..;let d:=yI (C:=(s.heap.push {cls:=.t ↑25,dict:=gf,data:=.e ([]:-hK).toArray}).objs.size) (h1:=h1) (t:=s.toks+↑([]:-(Str×hK))) (fp:=fp) S z c (ar _)
  (λb a=>by rw[hsz];show bD\nq (old b a)) x λb o e=>h.extBut b o (bD\aJ e)\aP _ e
 let B:tn 0 h1:=T.keep _ _ _ r λb a o e=>by
  let H:=aP {cls:=.t ↑25,dict:=gf,data:=.e ([]:-hK).toArray} e;show h.extBut b o (bD\aJ H)\aP _ H
 let U:∀b∈fp,bV (fG X N scope (s.heap.push {cls:=.t ↑25,dict:=gf,data:=.e ([]:-hK).toArray}).objs.size {s with heap:=s.heap.push {cls:=.t ↑25,dict:=gf,data:=.e ([]:-hK).toArray}} (upd H1 ↥s\.a []) fp Sn) [] (upd H1 ↥s\.a []) b:=λb a=>by
  erw[(c b a).1,(d.ok.exf b a).1,d.ok.exfs b a,.l a,(d.ok.exf b a).2,λp f=>?_];let f:p∈(X.pn++Sn)++[]:=f;rw[eY] at f;show (c b a).2.2.2.2.2 p f
 let#[b1,b2,b3]:=a (s.heap.push {cls:=.t ↑25,dict:=gf,data:=.e ([]:-hK).toArray}).objs.size {s with heap:=s.heap.push {cls:=.t ↑25,dict:=gf,data:=.e ([]:-hK).toArray}} (upd H1 ↥s\.a []) fp Sn;let run:=IK (Y:=fG X N scope (s.heap.push {cls:=.t ↑25,dict:=gf,data:=.e ([]:-hK).toArray}).objs.size {s with heap:=s.heap.push {cls:=.t ↑25,dict:=gf,data:=.e ([]:-hK).toArray}} (upd H1 ↥s\.a []) fp Sn) (elt:=elt) (iter:=iter) (pos:=pos) (scope:=scope) (R:=Z_ (.r ↥s) (s.heap.push {cls:=.t ↑25,dict:=gf,data:=.e ([]:-hK).toArray}).objs.size) rfl K d T B U b1 b2 b3 (q _ P) λs' Z' H' I q'=>by
  let#[J1,F1]:=Al z c (ar _) I;let#[m,hm,_]:=I.loc;show L _ _ s' H' J1 F1 #[m,hm] q'
 show codeAny_compStart_list run\T.self _ 0 _ _ _ B run
def dq(S:fP X N fr scope)(c:X.calm=gm)(hi:PI X tg iter wi)(a:PComp X N scope tg ifs elt g tt te)
  (d:∀x,foldedSetIterable iter X.env x=pure x:=by intro _;rfl):PE X (.ListComp elt [#[tg,iter,ifs,(0)]] scope pos) (mz wi g tt te fr):=by
 lk;intro Q I h;rw[eval_ListComp];show DH (use:=gf) rfl d (uB\S.cells I.ok) S.kind S.names (thn (hi Sn s Z H _ I h) λv s1 h1=>thn h1 λj s2 h2=>?_);show yJ (QQ:=λD H2=>Q (.r D) H2) (Z_:=λacc C=>compPost ⇑X X.A X.xe gf (EP X Sn Z Q) acc C) S c a h2 λD C s' H' J F hm q=>?_;let#[m,hm]:=hm;erw[m,hm,λh' f=>#[.r D,H',?_,1,q]];show J.turned (t':=s'.toks) (λb o a e=>f.extBut b o a e) F.1 F.2.1 F.2.2.2.1 F.2.2.2.2.1 F.2.2.2.2.2
def qR{i:Nat}{x:Str}{pos' spos:Pos}(S:fP X N fr scope)(hc:X.calm=gm)(hi:PI X tg iter wi)(hb:PComp X N scope tg ifs elt g tt te)(hN:X.N.Nodup)(hx:X.N[i]?*>x)(hl:Loc X.env.scope x)
  (hsw:swapsWith (.ListComp elt [#[tg,iter,ifs,(0)]] scope pos) (gh\.n x pos') spos.line X.env=pure gm:=by rfl)
  (hf:X.fn x=gm\/X.env.scope.names.lookup x*>.local:=by first|exact .l rfl|exact .o rfl|assumption)
  (hs:∀x,foldedSetIterable iter X.env x=pure x:=by intro _;rfl):PS X (.Assign [.n x pos'] (.ListComp elt [#[tg,iter,ifs,(0)]] scope pos) spos) (oS (mz wi g tt te fr)\dv i):=by
 lk;intro D I h;rw[exec_Assign_Name_used _ _ _ _ hsw];show aa\k_ (aa ?_);change jl _ _ (do let _ <-comprehension (.ListComp elt [#[tg,iter,ifs,(0)]] scope pos) scope X.env _ (newList []) hB (nH iter X.env)\gh (assign (.n x pos') X.env)) _ _ s;show aa (thn (DH (use:=gh\assign (.n x pos') X.env) (Q:=λ_ s'=>SP X Sn D .next s') rfl hs (uB\S.cells I.ok) S.kind S.names (thn (hi Sn s Z H _ I h) λv s1 h1=>thn h1 λitv s2 h2=>?_)) λ_ s' hq=>ai\ai hq);show yJ (QQ:=λd H2=>D.nx (Z.set i\gh (.r d)) H2) (Z_:=λacc C=>compPost ⇑X X.A X.xe (gh\assign (.n x pos') X.env) (λ_ s'=>SP X Sn D .next s') acc C) S hc hb h2 λd C s' H' J F hm q=>?_;let#[m,hm]:=hm;change jl _ _ (assign (.n x pos') X.env\.r d) _ _ s';show QR\yX J hN hx hl (v:=.r d) rfl (λs2 I2 ⟨a,sb,ha⟩=>?_) hf;let hCa:C≠a:=by
  rcases ha with e|e
  .rw[e];show F.2.1
  show λz=>F.2.2.2.2.1 x a e z.symm
 erw[m,hm.sameBut sb hCa,λh' hs'=>#[_,H',?_,q]];show I2.turned (t':=s2.toks) (λb o hb e=>hs'.extBut b o hb e) F.1 F.2.1 F.2.2.2.1 F.2.2.2.2.1 F.2.2.2.2.2
end
section
variable {a D:i4}{g:TG}{tt:TT}{te:TE}{Z':St}{H1:Hp}{Q:Hp->Prop}
def dM(Pv:Nat->St->-V->Hp->Prop)(c:Pv 0 Z' []\upd H1 D (.a []))(d:∀i Z ys H,i<=↑xs->Pv i Z ys H->SqL K H a xs)
  (f:∀i x Z ys H,xs[i]?*>x->Pv i Z ys H->g x Z H\mI tt te D ys (Pv (i+1)))
  (hd:∀Z ys H,Pv ↑xs Z ys H->Q H):ju (Itl K a) g tt te D Z' H1 Q:=by
 erw[λi m Z ys H=>m=↑xs-i/\i<=↑xs/\Pv i Z ys H,#[↑xs,∅,aZ _,c],?_];rintro i m Z ys H ⟨rfl,hi,p⟩;let q:=d i Z ys H hi p;by_cases b:i<↑xs
 .refine .o #[#[xs,xs[i],q,by simp[b]],Pv (i+1),λZ' j H' h=>#[↑xs-(i+1),(),1,b,h],λx H' y=>?_];let#[e,y]:=y;subst e;show f i x Z ys _ (y xs q) p
 let e:i=↑xs:=();subst e;show .l #[#[xs,q,ar _],hd Z ys H p]
def n_(Pv:Nat->St->-V->Hp->Prop)(c:Pv 0 Z' []\upd H1 D (.a []))(d:∀i Z ys H,i<=↑xs->Pv i Z ys H->SqT K H a xs)
  (f:∀i x Z ys H,xs[i]?*>x->Pv i Z ys H->g x Z H\mI tt te D ys (Pv (i+1)))
  (hd:∀Z ys H,Pv ↑xs Z ys H->Q H):ju (Itt K a) g tt te D Z' H1 Q:=by
 erw[λi m Z ys H=>m=↑xs-i/\i<=↑xs/\Pv i Z ys H,#[↑xs,∅,aZ _,c],?_];rintro i m Z ys H ⟨rfl,hi,p⟩;let q:=d i Z ys H hi p;by_cases b:i<↑xs
 .refine .o #[#[xs,xs[i],q,by simp[b]],Pv (i+1),λZ' j H' h=>#[↑xs-(i+1),(),1,b,h],λx H' y=>?_];let#[e,y]:=y;subst e;show f i x Z ys _ (y xs q) p
 let e:i=↑xs:=();subst e;show .l #[#[xs,q,ar _],hd Z ys H p]
def E5{lo:Int}{n:Nat}(Pv:Nat->St->-V->Hp->Prop)(b:Pv 0 Z' []\upd H1 D (.a []))
  (c:∀i Z ys H,i<n->Pv i Z ys H->g (.i (lo+i)) Z H\mI tt te D ys (Pv (i+1)))
  (hd:∀Z ys H,Pv n Z ys H->Q H):ju (Itr lo n) g tt te D Z' H1 Q:=by
 erw[λi m Z ys H=>m=n-i/\i<=n/\Pv i Z ys H,#[n,∅,aZ _,b],?_];rintro i m Z ys H ⟨rfl,hi,p⟩;by_cases a:i<n
 .refine .o #[a,Pv (i+1),λZ' f H' d=>#[n-(i+1),(),1,a,d],λx H' y=>?_];let#[e,y]:=y;subst e y;show c i Z ys _ a p
 let e:i=n:=();subst e;show .l #[ar _,hd Z ys H p]
end
open PySem.W
open HT (lexLt)
def Af:∀a b:-Int,lexLt a b=gm->lexLt b a=hB
 | [],[],h=>rfl
 | [],_::_,_=>rfl
 |_::_,[],h=>by cases h
 |x::xs,y::ys,h=>by
  rw[HT.lexLt_cons] at h |-;by_cases e:x=y
  .rw[Sh e] at h;rw[Sh e.symm];show Af xs ys h
  rw[Sg e] at h;rw[Sg λz=>e z.symm];have:x<y:=Sl h;show Sj ()
def B2:∀a b c:-Int,lexLt b a=hB->lexLt c b=hB->lexLt c a=hB
 | [],b,[],_,_=>rfl
 | [],[],_::_,_,h=>rfl
 | [],_::_,_::_,_,_=>rfl
 |_::_,[],_,h,_=>by cases h
 |_::_,_::_,[],_,h=>by cases h
 |x::xs,y::ys,z::zs,h1,h2=>by
  rw[HT.lexLt_cons] at h1 h2 |-;by_cases e:y=x
  .subst e;rw[Sh rfl] at h1;by_cases d:z=y
   .rw[Sh d] at h2 |-;show B2 xs ys zs h1 h2
   rw[Sg d] at h2 |-;show h2
  rw[Sg e] at h1;let l1:¬y<x:=of_decide_eq_false h1;by_cases d:z=y
  .subst d;rw[Sg e];show h1
  rw[Sg d] at h2;let l2:¬z<y:=of_decide_eq_false h2;rw[Sg ()];show Sj ()
def Tups(K:Frag)(H:Hp)(ys:-V)(ks:List\-Int):Prop:=Paired (λy k=>∃b,y=V.ref b/\SqT K H b (k.map V.int)/\k≠[]) ys ks
def Md{h h':mu}{a:i4}{m b:Str->Option hK}(h1:h.Ns a m)(h2:h.Ns a b):m=b:=by let#[o,es,ep,e,f,_,g]:=h1;let#[o',l,n,c,d,_,j]:=h2;rw[e] at c;cases c;rw[f] at d;cases d;funext x;rw[<-g,<-j]
section
def Inv.newsKept{h':mu}{m:Str->Option hK}{t':Nat}{more:-(i4×Obj)}(I:!Inv H s)(F:Fr X.base X.env.locals s.heap m)(a:Fr X.base X.env.locals h' m)(N:News X.base X.env.locals h' (more++qX X.base s.heap X.env.locals)):
  (∀b o,b≠X.env.locals->s.heap.get? b*>o->h'.get? b*>o)/\(∀m,s.heap.Ns X.env.locals m->h'.Ns X.env.locals m):=by
 erw[λb o d e=>?_,λf hm=>by rw[<-Md (h':=h') F.ns hm];show a.ns];cases q:X.base.get? b with
 |some u=>
  let c:=I.bk b u q;rw[e] at c;cases c;show a.keep b _ q
 |none=>show (N (b,o)\ft _ (ux d q e)).1
def bh.there{h:mu}{a:i4}{o:HO}(x:bh P w H h a o):∃ob,h.get? a*>ob:=by
 cases o with
 |lst xs=>let#[8,_,e]:=x;erw[_,e]
 |tup xs=>let#[8,ob,e,_]:=x;erw[_,e]
 |dK kvs=>let#[8,_,o,0,e,_]:=x;erw[_,e]
 |dT kvs=>let#[8,_,o,0,e,_]:=x;erw[_,e]
 |set S n=>let#[o,8,e,_]:=x;erw[_,e]
 |ins C dx fs=>let#[8,e,_]:=x;erw[_,e]
 |own y=>show x
 |xd fs=>let#[_,#[8,e,_],_]:=x;erw[_,e]
 |rng lo hi=>let#[8,e]:=x;erw[_,e]
 |frz ob u=>let#[e,_]:=x;erw[_,e]
 |tbl ps=>erw[_,(show h.get? a*>_ from x)]
 |met f y=>erw[_,(show h.get? a*>_ from x)]
 |ext φ=>let#[_,e,_]:=x;show e
def HOk.none_of{h:mu}{a:i4}(x:HOk P w H h)(e:h.get? a=gf):H a=gf:=by
 cases q:H a with
 |none=>rfl
 |some u=>
  let#[o,z]:=(x a u q).there;rw[e] at z;cases z
def Inv.laidN{h':mu}{t':Nat}{a:i4}{o:HO}(I:!Inv H s)(k:∀b o,b≠X.env.locals->s.heap.get? b*>o->h'.get? b*>o)(g:∀m,s.heap.Ns X.env.locals m->h'.Ns X.env.locals m)
  (ha:s.heap.get? a=gf) (new:∀H',bh X.prog X.w H' h' a o) (hx:∀y fs,o≠.ins y fs []):!Inv (upd H a o) {s with heap:=h',toks:=t'}:=by
 let f:H a=gf:=I.hok.none_of ha;let h:∀b u,H b*>u->b≠X.env.locals:=λb u e z=>by rw[z,I.free] at e;cases e
 show I.step (g':=s.gens) (d':=s.drawn) (ch:=[]) (λ_ z=>nomatch z) (λb o d _ _ e _=>k b o d e) (λb o d _ _ e _=>#[o.slots,k b o d e]) (λb o _ e n=>?_) (λb o _ e=>?_) (λb xs e=>?_) (λb o u e=>?_) (λb ps e=>#[(tA []),?_]) g (λb u e=>?_) I.bare
 .rw[aq (λz=>by rw[z,ha] at e;cases e)];show n
 .by_cases d:b=X.env.locals
  .subst d;let#[m,hm,_]:=I.loc;let#[o',0,j,_]:=g m hm;erw[o',j]
  erw[o,k b o d e]
 .rw[aq\ak e f];show e
 .rw[aq\ak e f];show e
 .rw[aq\ak e f,e];simp
 by_cases d:b=a
 .subst d;rw[aH] at e;cases e;show new _
 rw[aq d] at e;show (I.hok b u e).stay (λc v l q=>k c v ?_ q) (λc q=>by rw[aq\ak q f];show q) λc xs q=>by rw[aq\ak q f];show q
 rcases l with z|z
 .rw[z];show h b u e
 show h c _ z
def Inv.keptN{h':mu}{t':Nat}(I:!Inv H s)(k:∀b o,b≠X.env.locals->s.heap.get? b*>o->h'.get? b*>o)(d:∀m,s.heap.Ns X.env.locals m->h'.Ns X.env.locals m):!Inv H {s with heap:=h',toks:=t'}:=by
 let f:∀b u,H b*>u->b≠X.env.locals:=λb u e z=>by rw[z,I.free] at e;cases e
 show I.step (g':=s.gens) (d':=s.drawn) (ch:=[]) (λ_ z=>nomatch z) (λb o a _ _ e _=>k b o a e) (λb o a _ _ e _=>#[o.slots,k b o a e]) (λb o _ e n=>n) (λb o _ e=>?_) (λb xs e=>e) (λb o u e=>e) (λb ps e=>#[(tA []),by rw[e];simp]) d (λb u e=>?_) I.bare
 .by_cases a:b=X.env.locals
  .subst a;let#[m,hm,_]:=I.loc;let#[o',0,g,_]:=d m hm;erw[o',g]
  erw[o,k b o a e]
 show (I.hok b u e).stay (λc v h q=>k c v ?_ q) (λc q=>q) λc xs q=>q;rcases h with z|z
 .rw[z];show f b u e
 show f c _ z
end
def gX(h:mu)(a:i4)(vs:-hK):Heap:=((h.update a (Obj.mapSeq λ_=>(tA []))).push\seqObj ↑16 vs.toArray 0).push\seqObj ↑25 (tA []) 0
section
variable {prog:lu}{κ:u6}{rk:hK->-Int}
def zi{a:i4}{vs:-hK}{n:Nat}{P:PySem.Fin->ij->Prop}(ho:s.heap.get? a*>seqObj ↑25 vs.toArray n)(hz:↑vs<=js)
  (hk:2<=↑vs->∀Q:u6->ij->Prop,Q κ {s with heap:=gX s.heap a vs}->jl (kC prog w) A (keyKind' vs.toArray) Q E {s with heap:=gX s.heap a vs})
  (hc:2<=↑vs->∀x∈vs,∀y∈vs,∀C:Bool->ij->Prop,C (HT.lexLt (rk x)\rk y) {s with heap:=gX s.heap a vs}->jl (kC prog w) A (keyLt' κ x y) C (λ_ _=>False) {s with heap:=gX s.heap a vs})
  (h:∀out:-hK,out.Perm vs->out.Pairwise (λu v=>HT.lexLt (rk v) (rk u)=hB)->P (.done\.ret .none) {s with heap:=sortedHeap s.heap a vs out.toArray}):jl (kC prog w) A (Builtin.«list.sort» #[[.r a],[]]) P E s:=by
 let lt:a<↥s:=aJ ho;let#[e1,h1]:∃e1,(s.heap.update a (Obj.mapSeq λ_=>((tA []):Array hK))).get? a*>seqObj ↑25 (tA []) e1:=#[_,get?_update_seq ho λ_=>(tA [])];let h3:(gX s.heap a vs).get? a*>seqObj ↑25 (tA []) e1:=aP _\aP _ h1;let zs:(vs.toArray.zip vs.toArray).map (·.2)=vs.toArray:=by apply pb.mp;simp only[wQ,List.zip_toArray];show List.map_snd_zip\ar _
 rw[list_sort_plain];show aa\listItems_at ho rfl (aa\listUpdate_at ho rfl (aa\seqEpoch_at h1 rfl (aa\DO (aa\wpAny_newList (cY ?_) (aZ _)) hz)) (by rw[bI];lia) (aZ _));change jl _ _ _ _ _ {s with heap:=gX s.heap a vs};let fin:∀st:tD,u5 st=gf->((u4 st).map (·.2)).toList.Perm vs->((u4 st).map (·.2)).toList.Pairwise (λu v=>HT.lexLt (rk v) (rk u)=hB)->∀s':ij,s'={s with heap:=gX s.heap a vs}->jl (kC prog w) A (do
   let touched:=(<-seqEpoch a) != e1
   Builtin.List.listUpdate (.r a) λ_=>(u4 st).map (·.2)
   if let gh e:=u5 st then rule "list.sort.comparison-raised";throw e
   if touched then rule "list.sort.modified";raiseError ↑20 "list modified during sort"
   ret .none) P E s':=by
  rintro st hf hp hs _ rfl;show aa\seqEpoch_at h3 rfl (aa\listUpdate_at h3 rfl ?_ (aZ _) (by have:=hp.length_eq;rw[gw] at this;lia));rw[hf];simp only[bne_self_eq_false,jN,if_false];show ai (by
   let z:=h _ hp hs
   rwa [Array.toArray_toList] at z)
 dsimp only;by_cases h2:↑vs<2
 .let hs2:vs.toArray.size<2:=by rw[bI];show h2
  rw[Sh hs2,Sh hs2];show aa\ai ?_;rw[StateT.run_pure];show aa\ai ?_;show fin (SortSt.mk' general' (vs.toArray.zip vs.toArray) (tA []) 7 gf) rfl ?_ ?_ _ rfl
  .change (((vs.toArray.zip vs.toArray).map (·.2)).toList).Perm vs;rw[zs]
  change (((vs.toArray.zip vs.toArray).map (·.2)).toList).Pairwise _;rw[zs];cases vs with
  |nil=>show .nil
  |cons x l=>rw[List.eq_nil_of_length_eq_zero (show ↑l=0 by rw[ck] at h2;lia)];show ug _ _
 let nt:¬vs.toArray.size<2:=by rw[bI];lia
 rw[Sg nt,Sg nt];show aa\hk () _ ?_;let mem:∀x∈(vs.toArray.zip vs.toArray),x.1∈vs/\x.1=x.2:=λx hx=>by
  let hx:x∈vs.zip vs:=‹hx›
  let#[i,hi]:=eZ.mp hx;rw[nh] at hi;erw[a_ hi.1,eB\hi.1.symm.trans hi.2]
 let C:TimS.Cmp (kC prog w) A E {s with heap:=gX s.heap a vs} κ (λx=>x∈(vs.toArray.zip vs.toArray)) (λx y=>HT.lexLt (rk x.1)\rk y.1):=by erw[λ_ _=>Af _ _,λ_ _ _=>B2 _ _ _,λ{x y st Q} hx hy hk' q=>?_];rw[lt'_eq];show aI\jh ?_;rw[hk'];show aI\wpS_lift (jg (bU (hc () _ (mem x hx).1 _ (mem y hy).1 (λb s'=>b=HT.lexLt (rk x.1) (rk y.1)/\s'={s with heap:=gX s.heap a vs}) #[5]) (λb s' ⟨e,e'⟩=>?_) λ_ _ z=>z.elim));subst e e';erw[1,bj q]
 let hzz:(vs.toArray.zip vs.toArray).size=↑vs:=∅;show aa (bU (TimS.wp_runs C (st:=SortSt.mk' κ (vs.toArray.zip vs.toArray) (tA []) 7 gf) (λx hx=>hx) rfl rfl rfl rfl (by rw[hzz];lia) (Q:=λ_ st=>u5 st=gf/\(u4 st).Perm (vs.toArray.zip vs.toArray)/\TimS.Seg (λx y=>HT.lexLt (rk x.1)\rk y.1) (u4 st) 0 ↑vs) λst' f p g=>#[f,p,by rw[hzz] at g;show g]) ?_ λ_ _ e=>e);rintro⟨⟨⟩,st'⟩ s' ⟨e,hf,hp,hg⟩;show fin st' hf ?_ ?_ s' e
 .have:=(OR.mp hp).map (·.2);rw[<-wQ,<-wQ,zs] at this;show this
 rw[wQ,gC];show xp.mpr λi j hi hj hij=>?_;let hz2:(u4 st').size=↑vs:=hp.size_eq<*hzz;let hi':i<(u4 st').size:=‹hi›
 let hj':j<(u4 st').size:=‹hj›
 let g:=hg i j (aZ _) () ();let e2:∀k (hk:k<(u4 st').size),TimS.G (u4 st') k=(u4 st')[k]:=λk hk=>by simp[TimS.G,hk]
 let e3:∀k (hk:k<(u4 st').size),((u4 st')[k]).1=((u4 st')[k]).2:=λk hk=>(mem _\hp.mem_iff.mp (Array.getElem_mem hk)).2;let g:HT.lexLt (rk (TimS.G (u4 st') j).1) (rk (TimS.G (u4 st') i).1)=hB:=g;rw[e2 i hi',e2 j hj',e3 i hi',e3 j hj'] at g;simpa using g
def yt{l:i4}{vs:-hK}{Q:hK->ij->Prop}(e:s.heap.IsList l vs.toArray)(hz:↑vs+1<=js)
  (f:∀h':mu,(∀b o,s.heap.get? b*>o->h'.get? b*>o)->2<=↑vs->∀Q:u6->ij->Prop,Q κ {s with heap:=h'}->jl (kC prog w) A.in1.in1 (keyKind' vs.toArray) Q E {s with heap:=h'})
  (j:∀h':mu,(∀b o,s.heap.get? b*>o->h'.get? b*>o)->2<=↑vs->∀x∈vs,∀y∈vs,∀C:Bool->ij->Prop,C (HT.lexLt (rk x)\rk y) {s with heap:=h'}->jl (kC prog w) A.in1.in1 (keyLt' κ x y) C (λ_ _=>False) {s with heap:=h'})
  (h:∀out:-hK,out.Perm vs->out.Pairwise (λu v=>HT.lexLt (rk v) (rk u)=hB)->Q (.r (↥s+1)) {s with heap:=sortedAll s.heap vs out.toArray}):jl (kC prog w) A (call (.b ↑48) [.r l]) Q E s:=by
 show Calls.call_function_entry kind_sorted plain_sorted entry_sorted (args_sorted1 _) ?_;unfold Builtin.«sorted»;show aa (m:=checkCount ↑48 1 1 _)\ai (aa\collect_list e (aa\wpAny_newList ?_ ()) ());generalize a:(s.heap.push\seqObj ↑25 (tA []) 0).update ↥s (Obj.mapSeq (·++vs.toArray))=G;let c:G.objs.size=↥s+1:=by rw[<-a,Heap.size_update,size_push']
 let d:(G.push\seqObj ↑25 vs.toArray 0).get? (↥s+1)*>seqObj ↑25 vs.toArray 0:=by rw[<-c];show bJ _ rfl
 let n:∀out:-hK,sortedAll s.heap vs out.toArray=sortedHeap (G.push\seqObj ↑25 vs.toArray 0) (↥s+1) vs out.toArray:=λout=>by rw[<-a];rfl
 let old:∀b o,s.heap.get? b*>o->(gX (G.push\seqObj ↑25 vs.toArray 0) (↥s+1) vs).get? b*>o:=λb o q=>by
  let lt:=aJ q;let g:G.get? b*>o:=by rw[<-a,tV _ _ _ _\bD lt];show aP _ q
  show aP _\aP _ ?_;rw[tV _ _ _ _\bD (nq lt)];show aP _ g
 change jl _ _ _ _ _ {s with heap:=G.push\seqObj ↑25 vs.toArray 0};rw[c];show aa\cY (ik QJ #[_,d,1] QA ?body\Qs _)
 case body=>
  show zi (rk:=rk) (κ:=κ) (s:={s with heap:=G.push\seqObj ↑25 vs.toArray 0}) d () (f _ old) (j _ old) λout p1 p2=>?_;erw[2,ai #[2,(n out) ▸ h out p1 p2]]
end
section
def EL(ys:-V):((List.range ↑ys).map λi=>ys.getD i V.non)=ys:=by show tY ∅ λi h1 h2=>?_;simp[h2]
def Paired.getE{α β:Type}{F:α->β->Prop}:∀{l1:List α}{l2:List β}{i:Nat}{x:α},Paired F l1 l2->l1[i]?*>x->∃y,l2[i]?*>y/\F x y
 |_,_,_,_,.nil,e=>by simp at e
 |_,_,0,_,.cons r _,e=>by simp at e;subst e;erw[2,r]
 |_,_,i+1,x,.cons _ t,e=>by
  let#[u,h1,h2]:=Paired.getE (i:=i) (x:=x) t ‹e›;erw[u,‹h1›,h2]
def yQ(r:Vals ys a):∀(ix:-Nat),(∀i∈ix,i<↑ys)->Vals (ix.map λi=>ys.getD i .non) (ix.map λi=>a.getD i Value.none)
 | [],_=>.nil
 |i::ix,h=>by
  show .c ?_ (yQ r ix λj b=>h j\dz _ b);let hi:=h i jc;let#[u,c,d]:=r.get (i:=i) (x:=ys[i]) (by simp[hi]);let e:ys.getD i .non=ys[i]:=by simp[List.getD,hi]
  let f:a.getD i Value.none=u:=by rw[List.getD,c];rfl
  change aC (ys.getD i .non)\a.getD i Value.none;rw[e,f];show d
def KQ{prog:lu}(us ws:-hK)(ns ms:-Int)(i:Nat)(s:ij){fin:Bool}{Q:Bool->ij->Prop}(h1:u3 us ns)(h2:u3 ws ms)(e:fin=decide (↑ns<↑ms))(q:Q (HT.lexLt ns ms) s):KatLex prog w A gm fin Q (us.zip ws) i s:=by
 induction h1 generalizing ws ms i with
 |nil=>
  subst e;cases h2 with
  |nil=>show q
  |cons _ _ _=>show kat_nil (by simpa [HT.lexLt] using q)
 |cons a t f c=>cases h2 with
  |nil=>subst e;show kat_nil (by simpa [HT.lexLt] using q)
  |cons b u d=>
  rw[HT.lexLt_cons] at q;show kat_cons\DI ?_;by_cases h:a=b
  .rw[Sh h] at q;rw[show (a==b)=gm by simpa using h];show kat_yes\c _ _ (i+1) d ?_ q;rw[e];simp
  rw[Sg h] at q;rw[show (a==b)=hB by simpa using h];show kat_no ?_;cases g:(gm&&i==0) with
  |true=>show oneLt_int q
  |false=>show kat_one _ _\lt_int q
def FB{α β:Type}{f:α->β}:∀{l b:List β},b.Perm l->∀ix:List α,l=ix.map f->∃a:List α,a.Perm ix/\b=a.map f:=by
 intro l b h;induction h with
 |nil=>show λix e=>#[ix,.refl _,e]
 |cons x _ c=>
  intro ix e;cases ix with
  |nil=>cases e
  |cons i ix=>
   rw[bu] at e;injection e with d g;let#[a,p,q]:=c ix g;erw[i::a,p.cons i,by rw[bu,d,q]]
 |swap x y l=>
  intro ix e
  match ix,e with
  |i::j::ix,e=>
   simp only[bu,List.cons.injEq] at e;erw[j::i::ix,.swap _ _ _,by rw[bu,bu,e.1,e.2.1,e.2.2]]
 |trans _ _ m n=>
  intro ix e;let#[o,p2,r]:=n ix e;let#[s,p1,u]:=m o r;erw[s,p1<*p2,u]
def Ky(K:Frag)(H:Hp)(ys:-V)(ks:List\-Int):Prop:=Paired (λy k=>∃n,y=V.int n/\k=[n]) ys ks\/Tups K H ys ks
def rkV(h:mu):hK->-Int
 |.int n _=>[n]
 |.ref b=>match h.get? b with
  |some o=>match o.data with
   |.seq xs _=>xs.toList.map λv=>match v with | .int n _=>n|_=>0
   |_=>[]
  |none=>[]
 |_=>[]
def vD:∀{us:-hK}{ns:-Int},u3 us ns->(us.map λv=>match v with | .int n _=>n|_=>0)=ns
 |_,_,.nil=>rfl
 |_,_,.cons n t r=>by rw[bu,vD r]
def B3(I:!Inv H s){ks:List\-Int}(h:Ky [] H ys ks)(f:Vals ys c):∃κ:u6,(∀i,i<↑c->rkV s.heap (c.getD i Value.none)=ks.getD i [])/\
  ∀{A:ro}{E:hK->ij->Prop}(h':mu),(∀b o,s.heap.get? b*>o->o.cls=.t ↑16->h'.get? b*>o)->2<=↑c->
   (∀Q:u6->ij->Prop,Q κ {s with heap:=h'}->jl ⇑X A (keyKind' c.toArray) Q E {s with heap:=h'})/\
   ∀x∈c,∀y∈c,∀C:Bool->ij->Prop,C (HT.lexLt (rkV s.heap x)\rkV s.heap y) {s with heap:=h'}->jl ⇑X A (keyLt' κ x y) C (λ_ _=>False) {s with heap:=h'}:=by
 rcases h with h|h
 .let#[ns,5]:∃ns:-Int,ys=ns.map V.int/\ks=ns.map λn=>[n]:=by
   clear f;induction h with
   |nil=>erw[[],5]
   |cons r _ g=>
    let#[n,5]:=r;let#[ns,5]:=g;erw[n::ns,5]
  let l:=nQ f;let d:∀{c:-hK}{ns:-Int},u3 c ns->∀x∈c,∃n t,x=Value.int n t:=λ{c ns} l x hx=>by
   induction l with
   |nil=>cases hx
   |cons n t _ g=>
    rcases aU.mp hx with rfl|hx
    .exact#[n,t,1]
    show g hx
  erw[oneType',λi hi=>?_,λ{A E} h' _ h2=>#[λQ q=>?_,λx hx y D C q=>?_]]
  .let#[u,K,B]:=f.get (i:=i) (x:=(ns.map V.int)[i]'(by rw[↑f];show hi)) ∅;let S:i<↑ns:=by have:=↑f;rw[av] at this;lia
   rw[List.getElem_map] at B;let#[t,1]:=B;rw[List.getD,K,List.getD,br,aR S];rfl
  .match c,h2,l with
   |v1::v2::rest,_,l=>rw[keyKind_ints l];show ai q
  let#[n,t,1]:=d l x hx;let#[m,u,1]:=d l y D;show kat_lt_int ?_;let e:HT.lexLt (rkV s.heap\Value.int n t) (rkV s.heap\Value.int m u)=decide (n<m):=by
   change HT.lexLt [n] [m]=_;rw[HT.lexLt_cons];by_cases z:n=m
   .rw[Sh z,Sj ()];rfl
   rw[Sg z]
  rw[<-e];show q
 let at_:∀(ks:List\-Int)(ys:-V)(c:-hK),Tups [] H ys ks->Vals ys c->Paired (λv k=>k≠[]/\∃b us o n,v=Value.ref b/\u3 us k/\s.heap.get? b*>o/\o.cls=.t ↑16/\o.data=.e us.toArray n) c ks:=by
  intro ks;induction ks with
  |nil=>intro ys c a b;cases a;cases b;show .nil
  |cons k ks g=>
   intro ys c a b;cases a with
   |cons U tt=>
    let#[bb,Y,hq,L]:=U;subst Y;cases b with
    |cons r rr=>
     cases r;let#[us,r5,#[o,p1,p2,n,p3],_]:=I.tuple hq;show .c #[L,bb,us,o,n,1,nQ r5,p1,p2,p3]\g _ _ tt rr
 let P:=at_ ks ys c h f;let M:∀{b:i4}{us:-hK}{o:Obj}{n:Nat}{k:-Int},u3 us k->s.heap.get? b*>o->o.data=.e us.toArray n->rkV s.heap (Value.ref b)=k:=λ{b us o n k} i1 i2 p=>by
  change (match s.heap.get? b with|some o=>_|none=>_)=_;rw[i2];change (match o.data with | .seq xs _=>_|_=>_)=_;rw[p];show vD i1
 erw[tuples' (Value.type "int" != Value.type ↑16),λi hi=>?_,λ{A E} h' old h2=>#[λQ q=>?_,λx hx y D C q=>?_]]
 .let#[k,K,_,b,us,o,n,B,i1,i2,_,p]:=Paired.getE (i:=i) (x:=c[i]) P (by simp[hi]);rw[show c.getD i Value.none=c[i] by simp[List.getD,hi],B,M i1 i2 p,List.getD,K];rfl
 .let#[fs,hk,al,ab]:∃fs,KatTups h' c fs/\↑fs=↑c/\∀v∈fs,∃n t,v=Value.int n t:=by
   clear f h2 h at_;induction P with
   |nil=>erw[[],.nil,1,λ_ h=>nomatch h]
   |cons r _ g=>
    let#[L,b,us,o,n,1,i1,i2,N,p]:=r;let#[fs,k1,ad,ag]:=g;cases i1 with
    |nil=>show absurd rfl L
    |cons z tk r2=>
     erw[Value.int z tk::fs,.c (old _ _ i2 N) N p ∅ k1,by simp[ad],λv d=>?_];rcases aU.mp d with rfl|d
     .exact#[9]
     show ag v d
  show kat_kind (T:=.t "int") hk () (λv d=>?_) ⋯ q;let#[n,t,1]:=ab v d;show Looks.of_pure rfl
 let#[#[i,hi],#[j,hj],#[k1,0,b1,u1,o1,n1,1,i1,x1,c1,O],#[k2,0,b2,u2,o2,n2,1,i2,x2,c2,R]]:=#[eZ.mp hx,eZ.mp D,Paired.getE P hi,Paired.getE P hj];rw[M i1 x1 O,M i2 x2 R] at q;rw[show (Value.type "int" != Value.type ↑16)=gm by decide];show kat_lt (old _ _ x1 c1) O (old _ _ x2 c2) R\KQ u1 u2 _ _ 0 _ i1 i2 ?_ q;rw[<-↑i1,<-↑i2];simp
def wc{ks:List\-Int}{out:-hK}(d:Vals ys c)(g:∀i,i<↑c->rkV s.heap (c.getD i Value.none)=ks.getD i [])(p:out.Perm c)(j:out.Pairwise λu v=>HT.lexLt (rkV s.heap v) (rkV s.heap u)=hB):
  ∃ix:-Nat,ix.Perm (List.range ↑ys)/\(ix.map λi=>ks.getD i []).Pairwise (λa b=>HT.lexLt b a=hB)/\Vals (ix.map λi=>ys.getD i .non) out:=by
 let e:c=(List.range ↑c).map λi=>c.getD i Value.none:=by show tY ∅ λi h1 h2=>?_;simp[h1]
 let#[ix,p2,1]:=FB p _ e;let f:∀i∈ix,i<↑c:=λi hi=>iF.mp\p2.mem_iff.mp hi;erw[ix,by rw[↑d];show p2,?_,yQ d ix λi hi=>by rw[↑d];show f i hi];rw[gC] at j |-;show wW (λ{a b} ha l h=>?_) j;rw[g _\f a ha,g _\f b l] at h;show h
def LK(K:Frag):-V->Hp->VK->Prop:=λxs H Q=>∃(a:i4)(ys:-V)(ks:List\-Int),xs=[.r a]/\SqL K H a ys/\Ky K H ys ks/\↑ys<5000/\
 ∀p (ix:-Nat),H p=gf->ix.Perm (List.range ↑ys)->(ix.map λi=>ks.getD i []).Pairwise (λa b=>HT.lexLt b a=hB)->Q (.r p)\upd H p (.a (ix.map λi=>ys.getD i .non))
def DV:c7 X (.b ↑48) (LK []):=by lk;intro xs us Q I r h;let#[a,ys,ks,1,f,g,hz,q]:=h;let#[u,1,j]:=Vals.one r;cases j;let#[l,c,p,_]:=I.list f;let n:=↑c;let#[κ,m,ask]:=B3 I g c;show yt (κ:=κ) (rk:=rkV s.heap) p.isList (by rw[cW];lia) (λh' old h2=>(ask h' (λb o e _=>old b o e) h2).1) (λh' old h2=>(ask (E:=λ_ _=>False) h' (λb o e _=>old b o e) h2).2) λout p1 p2=>?_;let#[ix,x1,x2,x3]:=wc c m p1 p2;let#[e,he]:=sortedAll_at s.heap l out.toArray;let d:↥s<=↥s+1:=pB _;erw[.r (↥s+1),upd H (↥s+1)\.a (ix.map λi=>ys.getD i .non),I.laid (t':=s.toks) (λb o e=>sortedAll_old e) d #[by rw[av,x1.length_eq,jR,cW];lia,out,e,x3,by rw[he]],1,q _ ix (I.hok.fresh d) x1 x2]
def Mj{K:Frag}(ns:-Int):Ky K H (ns.map V.int) (ns.map λn=>[n]):=.l (by
 induction ns with
 |nil=>show .nil
 |cons n ns a=>show .c #[n,5] a)
def Mr{ns:-Int}{ix:-Nat}(p:ix.Perm\List.range ↑(ns.map V.int))(w:(ix.map λi=>(ns.map λn=>[n]).getD i []).Pairwise λa b=>HT.lexLt b a=hB):
  ∃ms:-Int,ms.Perm ns/\ms.Pairwise (·<=·)/\(ix.map λi=>(ns.map V.int).getD i .non)=ms.map V.int:=by
 rw[av] at p;let c:∀i∈ix,i<↑ns:=λi hi=>iF.mp\p.mem_iff.mp hi;erw[ix.map λi=>ns.getD i 0,?_,?_,?_]
 .have:=p.map λi=>ns.getD i 0;show this.trans\wX (tY ∅ λi h1 h2=>?_);simp[h2]
 .rw[gC] at w |-;show wW (λ{a b} ha d h=>?_) w;let h1:=c a ha;let h2:=c b d;simp only[List.getD,br,aR h1,aR h2,pE,xB] at h |-;rw[HT.lexLt_cons] at h;by_cases z:ns[b]=ns[a]
  .lia
  rw[Sg z] at h;have:=of_decide_eq_false h;lia
 rw[cw];show ue λi hi=>?_;have:=c i hi;simp[List.getD,this]
def LH(K:Frag):-V->Hp->VK->Prop:=λxs H Q=>∃(a:i4)(ys:-V)(ks:List\-Int),xs=[.r a]/\SqL K H a ys/\Tups K H ys ks/\↑ys<5000/\
 ∀p (ix:-Nat),H p=gf->ix.Perm (List.range ↑ys)->(ix.map λi=>ks.getD i []).Pairwise (λa b=>HT.lexLt b a=hB)->Q (.r p)\upd H p (.a (ix.map λi=>ys.getD i .non))
def xU:c7 X (.b ↑48) (LH []):=by lk;intro xs us Q I r h;let#[a,ys,ks,1,b,c,hz,q]:=h;show DV Sn s Z H _ us Q I r #[a,9,b,.o c,hz,q]
end
def DAt(h:mu)(d:i4)(es:Array pR)(ep:Nat):Prop:=∃o,h.get? d*>o/\o.ExactDict/\o.data=.y es ep
def DAt.lt{es:Array pR}(x:DAt h d es ep):d<h.objs.size:=let ⟨_,e,_⟩:=x;aJ e
def DAt.at{h':mu}{es:Array pR}(x:DAt h d es ep)(k:∀o,h.get? d*>o->h'.get? d*>o):DAt h' d es ep:=let ⟨o,e,r⟩:=x;#[o,k o e,r]
def DAt.ty{es:Array pR}(x:DAt s.heap d es ep):s.TypeIs (.r d) ↑53:=let ⟨o,e,c,_⟩:=x;#[o,e,c.1]
section
variable {prog:lu}{d it:i4}{es:Array pR}{ep i:Nat}
def wx{Q:hK->ij->Prop}(lo:(d==nI)=hB)(m:DAt s.heap d es ep)
  (q:Q (.r ↥s) {s with heap:=s.heap.push {cls:=.t ↑85,data:=.d\tA [.r d,.i 0 0,.i es.size 0,.i ep 0]}}):jl (kC prog w) A (pyIter\.r d) Q E s:=by
 let#[o,a,_,b]:=id m;show Q4 m.ty P5 (ik P5 m.ty PySem.F.entry_dict_iter ?tree\PySem.F.args_dict_iter_1 _);unfold Builtin.«dict.__iter__» Builtin.Dict.dictSlotNone;show aa\aa (DP m.ty ?_);show ai (show jl _ _ (Builtin.Dict.showsAll d >>= _) _ _ s from ?_);unfold Builtin.Dict.showsAll;rw[Sg (show ¬(d==nI)=gm by rw[lo];simp)];show aa\ai (aa\pP a b (aa\pQ a b ?_));show aa\e_ (ai #[2,↑85,_,#[_,bJ _ rfl,1],um.lookup,?_]);simpa [p6] using q
def CK{Q:Option hK->ij->Prop}(hit:s.heap.IsKeyIter it d i es.size ep)(m:DAt s.heap d es ep)(hi:i<es.size)
  (q:∀h',h'.IsKeyIter it d (i+1) es.size ep->Heap.SameBut it s.heap h'->Q (gh es[i].key) {s with heap:=h'}):jl (kC prog w) A (pS\.r it) Q E s:=by
 let#[o,a,e,hd]:=id hit;let#[od,b,_,c]:=id m;unfold pS;show aa\jg (kY (name:=Str.ofString "__next__") hit.typeIs um (ik um hit.typeIs PX ?tree\PR _));show aa\ai (aa\aa ?_)
 first|show aa (xQ hit.typeIs\ai (aa\kZ a hd ?_))|show aa\xS hit.typeIs (ai\aa (kZ a hd ?_))
 simp only[show Builtin.Dict_items.ownsTuple ↑85 = hB by decide,jN,if_false];show (show jl _ _ (if (Value.ref d==Value.none)=gm then _ else _) _ _ s from ?_);rw[Sg (show ¬(Value.ref d==Value.none)=gm from bH)];show aa\ai (aa\pP b c ?_);rw[Sg ∅];show aa\ai (aa\pQ b c ?_);rw[Sg ∅];show ai ?_;simp only[show ¬((i:Int)<0) by lia,if_false,jP,CP hi];show aa ?_
 first|show aa (xQ hit.typeIs\ai (aa\DL hit.typeIs ?_))|show aa\xS hit.typeIs (ai\aa (DL hit.typeIs ?_))
 change jl _ _ (setField (.r it) 1 (p6 ((i:Int)+1)) >>= _) _ _ s;show aa (gJ a hd ∅ ?_);let t':(s.heap.update it\Obj.mapFields (·.setIfInBounds 1 (p6 ((i:Int)+1)))).IsKeyIter it d (i+1) es.size ep:=
  #[_,fm _ a\kU (kT hd _),(xA ..)<*e,by rw[kT hd];simp[p6]]
 show aa\cY (aa\DL (s:={s with heap:=s.heap.update it\Obj.mapFields (·.setIfInBounds 1 (p6 ((i:Int)+1)))}) t'.typeIs ?_);change jl _ _ (pure es[i].key) _ _ _;show ai\ai #[2,ai\q _ t' (CQ ..)]
def dEnd{Q:Option hK->ij->Prop}(g:A.handled=gf)(hit:s.heap.IsKeyIter it d i es.size ep)(m:DAt s.heap d es ep)(hi:es.size<=i)
  (q:∀h',Heap.ExtBut it s.heap h'->Q gf {s with heap:=h'}):jl (kC prog w) A (pS\.r it) Q E s:=by
 let#[o,c,h,hd]:=id hit;let#[od,e,_,f]:=id m;unfold pS;show aa\jg (kY (name:=Str.ofString "__next__") hit.typeIs um (ik um hit.typeIs PX ?tree\PR _));show aa\ai (aa\aa ?_)
 first|show aa (xQ hit.typeIs\ai (aa\kZ c hd ?_))|show aa\xS hit.typeIs (ai\aa (kZ c hd ?_))
 simp only[show Builtin.Dict_items.ownsTuple ↑85 = hB by decide,jN,if_false];show (show jl _ _ (if (Value.ref d==Value.none)=gm then _ else _) _ _ s from ?_);rw[Sg (show ¬(Value.ref d==Value.none)=gm from bH)];show aa\ai (aa\pP e f ?_);rw[Sg ∅];show aa\ai (aa\pQ e f ?_);rw[Sg ∅];show ai ?_;simp only[show ¬((i:Int)<0) by lia,if_false,jP,OP hi];show aa ?_
 first|show aa (xQ hit.typeIs\ai ?_)|show aa\xS hit.typeIs (ai ?_)
 show (show jl _ _ (setField (.r it) 0 .none >>= _) _ _ s from aa (gJ c hd ∅ ?_));change jl _ _ (newExc (.t ↑83) [] >>= _) _ _ _;show aa ?_;simp only[newExc,newTuple];show aa\e_ (aa (m:=firstArgMember _ _)\nB (a:=Value.none) (by first|rfl|(simp only[firstArgMember];rfl)) (e_ ?_ (by size_fits))) (by size_fits);simp only[raiseNew];show aa\DJ ?_;rw[show A.in1.handled=gf from g];show aa\ai (xO ?_);show aa\DK (b:=gm) (T:=↑83) #[_,bJ _ rfl,1] Dz ?_;show ai\q _ (((CQ ..).extBut.push _).push _)
def Ca(g:A.handled=gf)(I:i4)(j:d≠I):Walks prog w A I [I,d] [I] es.size (λi v=>∃(h:i<es.size),v=es[i].key) (λi h=>h.IsKeyIter I d i es.size ep/\DAt h d es ep) where
 sub:=λb a=>by simp at a;simp[a]
 frame:=λ_ _ _ st f=>#[st.1.at λo e=>f I ∅ o e,st.2.at λo e=>f d ∅ o e]
 item:=λi s Q E hi st c=>CK st.1 st.2 hi λh' t' sb=>c _ h' s.toks #[hi,1] #[t',st.2.at λo e=>(sb.2 d j)<*e] λb o a e=>sb.extBut b o (λh=>a (by simp[h])) e
 done:=λs Q E st c=>dEnd g st.1 st.2 (ar _) λh' x=>c h' s.toks λb o a e=>x b o (λh=>a (by simp[h])) e
 self:=λ_ _ _ _ st c=>Q3 st.1 c
def dSrc(lo:(d==nI)=hB):KdlSrc prog w ↑53 d d es.size (λi v=>∃(h:i<es.size),v=es[i].key) (λh=>DAt h d es ep) where
 type:=λ_ m=>m.ty
 there:=λ_ m=>#[m.lt,m.lt]
 keep:=λ_ _ m b=>m.at λo e=>b d (.l rfl) o e
 notList:=⋯
 notTuple:=⋯
 hint:=λ_ _ _ _ m a=>kdl_hint_dict m.ty a
 iter:=λ_ _ c m=>#[0,(λ_ _ a=>wx lo m a),Ca c _\bD m.lt,#[#[_,bJ _ rfl,5],m.at λo e=>aP _ e]]
end
def DKeys(H:Hp)(d:i4)(ks vs:-V):Prop:=
 (∃kvs,H d*>.k kvs/\ks=kvs.map (λp=>kV p.1)/\vs=kvs.map (·.2)) \/
 ∃kvs as,H d*>.dT kvs/\Paired (λ(p:-Key×V) a=>H a*>.u\p.1.map kV) kvs as/\ks=as.map V.ref/\vs=kvs.map (·.2)
def DIs(H:Hp)(d:i4):Prop:=(∃kvs,H d*>.k kvs)\/∃kvs,H d*>.dT kvs
def dview(I:!Inv H s)(hd:DIs H d):
  (d==nI)=hB/\∃ks vs es ep,DKeys H d ks vs/\↑ks<=js/\DAt s.heap d es ep/\Vals ks (es.toList.map (·.key))/\Vals vs (es.toList.map (·.val)):=by
 rcases hd with ⟨kvs,e⟩|⟨kvs,e⟩
 .let#[z,lo,us,rel,o,es,ep,h1,h2,f,_,n,_]:=oP I.hok e;erw[lo,0,es,ep,.l #[kvs,e,5],by rw[av];show z,#[o,h1,h2,f],?_];generalize es.toList=l at n;let go:∀{kvs:-(Key×V)}{us:-(Key×hK)}{l:-pR},KV kvs us->Pairs (dB X.prog X.w) l us->Vals (kvs.map λp=>kV p.1) (l.map (·.key))/\Vals (kvs.map (·.2)) (l.map (·.val)):=by
   intro kvs us l r;induction r generalizing l with
   |nil=>intro p;cases p;erw[.nil,.nil]
   | @cons a b l1 l2 h1 h2 c=>
    intro p;cases p with
    |cons p1 p2 v=>
     let#[i1,i2]:=c v;erw[.c ?_ i1,.c ?_ i2]
     .dsimp only;rw[h1.1];rcases gK p1 with ⟨i,t,g,h⟩|⟨x,t,g,h⟩
      .rw[g,h];erw[t,1]
      rw[g,h];erw[t,1]
     dsimp only;rw[p2];show h1.2
  show go rel n
 let#[z,lo,xs,rel,o,es,ep,h1,h2,f,j,hz]:=CI I.hok e;clear hz;let go:∀{kvs:-(-Key×V)}{xs:-(-Key×i4×hK)},KT H kvs xs->Paired (λ(p:-Key×V) a=>H a*>.u\p.1.map kV) kvs (xs.map (·.2.1))/\Vals (kvs.map (·.2)) (xs.map (·.2.2)):=by
  intro kvs xs r;induction r with
  |nil=>erw[.nil,.nil]
  |cons h1 h2 c=>erw[.c h1.2.1 c.1,.c h1.2.2 c.2]
 let#[m,q]:=go rel;let u:=pF m;erw[lo,0,es,ep,.o #[kvs,_,e,m,5],by rw[av,<-u];show z,#[o,h1,h2,f],?_,?_]
 .rw[j,cw,cw];clear j rel m q u;induction xs with
  |nil=>show .nil
  |cons x r c=>show .c rfl c
 rw[j,cw];show q
abbrev tw(X:Cx):Cx:={X with A:=X.A.in1}
section
def Inv.toIn1(I:!Inv H s):Inv (tw X) Sn Z H s:=
 #[#[I.ok.mod,I.ok.kind,I.ok.glob,I.ok.blt,I.ok.above,I.ok.inj,I.ok.has,I.ok.cab,I.ok.hd,I.ok.frames,I.ok.stk,I.ok.exf,I.ok.bs,I.ok.bsz,I.ok.noex,I.ok.exfs,I.ok.funs,I.ok.frf],I.os,I.bare,I.base,I.loc,I.cell,I.free,I.freeC,I.pin,I.hok,I.len]
def Inv.ofIn1(I:Inv (tw X) Sn Z H s):!Inv H s:=
 #[#[I.ok.mod,I.ok.kind,I.ok.glob,I.ok.blt,I.ok.above,I.ok.inj,I.ok.has,I.ok.cab,I.ok.hd,I.ok.frames,I.ok.stk,I.ok.exf,I.ok.bs,I.ok.bsz,I.ok.noex,I.ok.exfs,I.ok.funs,I.ok.frf],I.os,I.bare,I.base,I.loc,I.cell,I.free,I.freeC,I.pin,I.hok,I.len]
end
section
def AU(K:Frag):V->-V->Hp->VK->Prop:=λx vs H Q=>∃(l:i4)(ys:-V)(ks:List\-Int),x=.r l/\vs=[]/\H l*>.a ys/\Ky K H ys ks/\↑ys<5000/\
 ∀(ix:-Nat),ix.Perm (List.range ↑ys)->(ix.map λi=>ks.getD i []).Pairwise (λa b=>HT.lexLt b a=hB)->Q .non\upd H l (.a (ix.map λi=>ys.getD i .non))
def yc:MtM X "list.sort" (AU []):=by
 lk;intro x vs v us Q I d f h;let#[l,ys,ks,5,c,g,hz,q]:=h;cases d;cases f;let#[#[z,j,n,r,hlen,e],A,#[κ,m,ask]]:=#[I.lstM c,↑r,B3 I g r];let old:∀b o,s.heap.get? b*>o->o.cls=.t ↑16->(gX s.heap l j).get? b*>o:=λb o a p=>by
  show aP _\aP _ ?_;rw[tV _ _ _ _ (λy=>by rw[y,e] at a;cases a;show absurd (show Value.type ↑25 = Value.type ↑16 from p) ⋯)];show a
 show ik QJ #[_,e,1] QA (zi (κ:=κ) (rk:=rkV s.heap) e (by rw[cW];lia) (λh2=>(ask _ old h2).1) (λh2=>(ask (E:=λ_ _=>False) _ old h2).2) λout p1 p2=>#[2,?_])\Qs _;let#[ix,x1,x2,x3]:=wc r m p1 p2;let#[w,he]:=sortedHeap_at (out:=out.toArray) e;erw[.non,_,I.write (x:=l) (e:=l) (o:=.a (ix.map λi=>ys.getD i .non)) (t':=s.toks) (by rw[c];show True.intro) (.l rfl) (λb u a q=>(sortedHeap_old a\aJ q)<*q) #[_,he] #[by rw[av,x1.length_eq,jR,cW];lia,out,w,x3,by rw[he]],1,q ix x1 x2]
end
def Tups.mono{K:Frag}{ks:List\-Int}(h:Tups K H ys ks)(k:∀a xs,H a*>.u xs->H' a*>.u xs)(kf:∀a o xs,H a*>.z o (.u xs)->H' a*>.z o\.u xs):Tups K H' ys ks:=by
 show Paired.mapP h λy z ⟨b,e,q,n⟩=>#[b,e,?_,n];rcases q with (q|⟨o,q⟩)|q
 .exact .l\.l (k>>q)
 .exact .l\.o #[o,kf _ _ _ q]
 show .o q
def zT{K:Frag}{ks:-V}{Q:V->Hp->Prop}(c:H D=gf)
  (k:(∃ns:-Int,ks=ns.map V.int/\↑ns<5000/\∀(p:i4)(ms:-Int),H p=gf->ms.Perm ns->ms.Pairwise (·<=·)->Q (.r p)\upd H p (.a\ms.map V.int)) \/
   ∃d:List\-Int,Tups K H ks d/\↑ks<5000/\∀(p:i4)(ix:-Nat),H p=gf->ix.Perm (List.range ↑ks)->(ix.map λi=>d.getD i []).Pairwise (λa b=>HT.lexLt b a=hB)->Q (.r p)\upd H p (.a (ix.map λi=>ks.getD i .non))) :
  AU K (.r D) [] (upd H D\.a ks) λ_ H'=>Q (.r D) H':=by
 rcases k with ⟨ns,g,f,q⟩|⟨d,h,f,q⟩
 .subst g;erw[D,6,aH,Mj ns,by rw[av];show f,λix h1 h2=>?_];let#[ms,m1,m2,j]:=Mr h1 h2;rw[vk,j];show q D ms c m1 m2
 erw[D,ks,d,5,aH,.o (h.mono (λb xs e=>by rw[aq\ak e c];show e) λb o xs e=>by rw[aq\ak e c];show e),f,λix h1 h2=>?_];rw[vk];show q D ix c h1 h2
section
def LL(K:Frag):-V->Hp->VK->Prop:=λxs H Q=>∃a:i4,xs=[.r a]/\DIs H a/\∀ks vs,DKeys H a ks vs->
 (∃ns:-Int,ks=ns.map V.int/\↑ns<5000/\∀(p:i4)(ms:-Int),H p=gf->ms.Perm ns->ms.Pairwise (·<=·)->Q (.r p)\upd H p (.a\ms.map V.int)) \/
 ∃c:List\-Int,Tups K H ks c/\↑ks<5000/\∀(p:i4)(ix:-Nat),H p=gf->ix.Perm (List.range ↑ks)->(ix.map λi=>c.getD i []).Pairwise (λa b=>HT.lexLt b a=hB)->Q (.r p)\upd H p (.a (ix.map λi=>ks.getD i .non))
def yy{α:Type}{l m:List α}(a:↑l=↑m)(h:∀(j:Nat)(v:α),l[j]?*>v->m[j]?*>v):l=m:=by
 show w4 λi=>?_;cases e:l[i]? with
 |some v=>rw[h i v e]
 |none=>
  have:↑l<=i:=Pi.mp e;show (Pi.mpr ()).symm
def nK(n:X.calm=gm):c7 X (.b ↑48) (LL []):=by
 lk;intro xs us Q I r h;let#[a,1,hd,k]:=h;let#[u,1,p]:=Vals.one r;cases p;let#[lo,ks,vs,es,ep,q,hz,w,d,N]:=dview I hd;let#[m,F]:=I.fr;let x:↑ks=es.size:=by have:=↑d;simpa using this
 show kdu_sorted (dSrc (es:=es) (ep:=ep) lo) (I.ok.hd n) F (uV (g:=X.base) (L:=X.env.locals)) w (by rw[<-x];show hz) λD h' tk b y f A B C=>?_;let#[k1,k2]:=I.newsKept (t':=s.toks) (more:=[(D,listOf b.toArray 0)]) F y f;let c:=f (D,listOf b.toArray 0)\.head _;let l:s.heap.get? D=gf:=by
  cases e:s.heap.get? D with
  |none=>rfl
  |some o=>show absurd (A (D,o)\ux c.2.1 c.2.2 e)\dG _
 let ev:b=es.toList.map (·.key):=by show yy (by rw[B];simp) λj v e=>?_;let#[E,1]:=C j v e;rw[br];simp[E]
 let K:!Inv (upd H D\.a ks) {s with heap:=h',toks:=tk}:=I.laidN (t':=tk) k1 k2 l (λH'=>#[hz,b,(0),by rw[ev];show d,c.1]) (λ_ _ z=>by cases z);let z:=yc (X:=tw X) Sn _ Z _ (.r D) [] (.r D) [] (λ_ H'=>Q (.r D) H') K.toIn1 rfl .nil\zT (I.hok.none_of l) (k ks vs q);show thn z λ_ s' ⟨_,H',J,_,M⟩=>#[.r D,H',J.ofIn1,1,M]
end
section
def Hq(x:V)(vs:-V)(H:Hp)(Q:VK)(l:i4)(xs:-V)(i:Nat)(y:V):Prop:=x=.r l/\vs=[.i i,y]/\H l*>.a xs/\i<=↑xs/\↑xs<js/\WrO H l (.a (xs.take i++y::xs.drop i))\Q .non
def JK:V->-V->Hp->VK->Prop:=λx vs H Q=>Exists\Ex4 (Hq x vs H Q)
def Kz{i n:Nat}(hi:i<=n)(hz:n<js):¬(!Builtin.List.listFitsIndex (i:Int))=gm:=by rw[cW] at hz;let f:=QC (k:=(i:Int)) () ();intro y;rw[f] at y;cases y
def Ik{prog:lu}{w:n7}{A:ro}{E:hK->ij->Prop}{Q:hK->ij->Prop}{l:i4}{a:Array hK}{n:Nat}{i:Int}{t:Tok}{b:hK}(c:s.TypeIs (Value.ref l) ↑25)(d:¬(!Builtin.List.listFitsIndex i)=gm)(hsz:a.size<=js)
  (e:s.heap.get? l*>{cls:=.t ↑25,data:=.e a n})
  (h:Q .none {s with heap:=s.heap.update l (Obj.mapSeq λxs=>(xs.extract 0 (if i<0 then (i+(xs.size:Int)).toNat else min i.toNat xs.size)).push b++xs.extract (if i<0 then (i+(xs.size:Int)).toNat else min i.toNat xs.size))}) :
  jl (kC prog w) A (call (Value.builtin "list.insert") [Value.ref l,Value.int i t,b]) Q E s:=
 uo Dl c PySem.F.entry_list_insert (PySem.F.args_list_insert_3 _ _ _) (Rk l a n i t b d hsz) #[e,h]
def zg:MtM X "list.insert" JK:=by
 lk;intro x vs v us Q I d f h;let#[l,xs,i,y,5,b,hi,hz,q]:=h;cases d;let#[#[u,c,1,g,j],#[t,1],#[z,a,n,r,m,e],o]:=#[f.two,g,I.lstM b,Kz hi hz];let hsz:a.toArray.size<=sizeLine:=by rw[bI,<-m];show z
 show Ik (s:=s) #[_,e,1] o hsz e ?_;erw[.non,_,I.lset (its':=a.take i++c::a.drop i) b e ?_ (Vals.append (r.take i)\.c j (r.drop i)) ?_,1,q.at]
 .let p:(if (i:Int)<0 then ((i:Int)+(a.toArray.size:Int)).toNat else min (i:Int).toNat a.toArray.size)=i:=by
   rw[Sg (),jP,bI];lia
  change ((a.toArray.extract 0 _).push c++a.toArray.extract _)=_;rw[p];let hd:(a.drop i).take (↑a-i)=a.drop i:=je (by rw[eJ];show ar _);simp[List.extract_eq_drop_take,hd]
 rw[bo,ck,bz,eJ];lia
def N4(K:Frag):-V->Hp->VK->Prop:=λxs H Q=>∃(a:i4)(ns:-Int),xs=[.r a]/\SqL K H a (ns.map V.int)/\ns≠[]/\∀m,m∈ns->(∀n∈ns,n<=m)->Q (.i m) H
def oh(r:Vals xs us){i:Nat}{v:hK}(e:us[i]?*>v):∃x,xs[i]?*>x/\aC x v:=by
 let c:=↑r;let hi:i<↑xs:=by have:=(aO.mp e).1;lia
 let#[u,a,b]:=r.get (i:=i) (x:=xs[i]) (by simp[hi]);rw[e] at a;cases a;erw[_,by simp[hi],b]
def se{ns:-Int}(r:Vals (ns.map V.int) us)(i:Nat)(v:hK)(e:us.toArray[i]?*>v):∃t,v=.i (ns.getD i 0) t:=by let#[x,a,b]:=oh r (i:=i) (v:=v) ‹e›;rw[br] at a;let#[n,c,1]:=cz.mp a;let#[t,1]:=b;erw[t,by rw[List.getD,c];rfl]
def p4(b:X.calm=gm):c7 X (.b "max") (N4 []):=by lk;intro xs us Q I r h;let#[a,ns,1,c,d,q]:=h;let#[u,1,e]:=Vals.one r;cases e;let#[n,f,p,hz]:=I.list c;let#[m,F]:=I.fr;show max_list_N (I.ok.hd b) F (uV (g:=X.base) (L:=X.env.locals)) p.isList (nQ f) (ia.mpr d) λh' M t tk j l h1 h2=>?_;let#[k1,k2]:=I.newsKept (t':=tk) (more:=[]) F j l;erw[.i M,H,I.keptN (t':=tk) k1 k2,#[t,1],q M h1 h2]
def NZ(K:Frag):-V->Hp->VK->Prop:=λxs H Q=>∃(a:i4)(ns:-Int),xs=[.r a]/\SqT K H a (ns.map V.int)/\ns≠[]/\∀m,m∈ns->(∀n∈ns,m<=n)->Q (.i m) H
def Ao(ns:-Int)(b:ns≠[]):(ns.getD (rb (λi j=>decide (ns.getD i 0<ns.getD j 0)) (↑ns-1)) 0)∈ns/\∀n∈ns,ns.getD (rb (λi j=>decide (ns.getD i 0<ns.getD j 0)) (↑ns-1)) 0<=n:=by
 let#[h1,h2]:=argBest_lt (λi=>ns.getD i 0) (↑ns-1);let f:=ia.mpr b;erw[?_,λn c=>?_]
 .let a:rb (λi j=>decide (ns.getD i 0<ns.getD j 0)) (↑ns-1)<↑ns:=();rw[List.getD,aR a];show ja a
 let#[j,d,1]:=List.getElem_of_mem c;have:=h2 j ();let e:ns.getD j 0=ns[j]:=by simp[List.getD,d]
 rw[e] at this;show this
def Ef(n:X.calm=gm):c7 X (.b "min") (NZ []):=by
 lk;intro xs us Q I r h;let#[a,ns,1,w,j,q]:=h;let#[u,1,x]:=Vals.one r;cases x;let#[#[c,d,p,hz],l,f]:=#[I.tuple w,(p:s.heap.IsTuple a c.toArray),↑d];rw[av] at f;let m:a<↥s:=by let#[_,e,_]:=p;show aJ e
 show call_min_walk\Q5 l ?_;erw[↥s,8,8,1,Walks.tuple (A:=X.A.in1) (I.ok.hd n) _ a (bD m) c.toArray,#[#[_,bJ _ rfl,5],?_],λb g=>?_,?_,O1 (λi=>ns.getD i 0) λi v e=>se d i v e,λv h' tk y B=>?_]
 .let#[o,e,r]:=l;erw[o,aP _ e,r]
 .change b<(s.heap.push _).objs.size;rw[kM];rcases aU.mp g with rfl|g
  .exact ic _
  rw[aG.mp g];show nq m
 .rw[bI,<-f];show ia.mpr j
 let#[t,1]:=se d _ v y;let#[C,D]:=Ao ns j;let e:c.toArray.size-1=↑ns-1:=by rw[bI,f]
 rw[e];erw[.i _,H,I.kept (t':=tk) λb o e=>B b o (λz=>by rw[aG.mp z] at e;show absurd (aJ e)\dG _)\aP _ e,#[t,1],q _ C D]
end
section
def JG:-V->Hp->VK->Prop:=λxs H Q=>∃j:Int,xs=[.i j]/\∀r,H r=gf->Q (.r r)\upd H r (.rng 0 j)
def D2:c7 X (.t "range") JG:=by lk;intro xs us Q I r h;let#[j,1,q]:=h;let#[u,1,t,1]:=Vals.one r;show call_range_1 #[.r ↥s,upd H ↥s\.rng 0 j,I.laid (t':=s.toks+1+1) (λb o e=>aP _ e) (ar _) #[8,bJ _ rfl],1,q _\I.hok.fresh (ar _)]
def Ho:-V->Hp->VK->Prop:=λxs H Q=>∃(a:i4)(n:Nat),xs=[.r a]/\H a*>.rng 0 (n:Int)/\n<=1000/\∀l,H l=gf->Q (.r l)\upd H l (.a ((List.range n).map λ(i:Nat)=>V.int (i:Int)))
def yi(a:↑us=↑xs)(h:∀(j:Nat)(v:hK),us[j]?*>v->∃x,xs[j]?*>x/\aC x v):Vals xs us:=by
 induction xs generalizing us with
 |nil=>cases us with
  |nil=>show .nil
  |cons _ _=>simp at a
 |cons x xs b=>cases us with
  |nil=>simp at a
  |cons u us=>
   let#[y,e,r]:=h 0 u rfl;cases e;show .c r (b ‹a› λj v e=>‹h (j+1) v ‹e››)
def D_(f:X.calm=gm):c7 X (.t ↑25) Ho:=by
 lk;intro xs us Q I r h;let#[a,n,1,ha,A,q]:=h;let#[u,1,g]:=Vals.one r;cases g;let#[l,m,o,e]:=(show bh X.prog X.w H s.heap a (.rng 0 (n:Int)) from I.hok a _ ha);let p:IsRange s.heap a 0 (n:Int) 1 l m o:=e;let hsz:Builtin.Range.rangeSize 0 (n:Int) 1=(n:Nat):=by rw[rangeSize_one];split<;>lia
 show call_list_range (I.ok.hd f) p (small_one () () () ()) hsz () λh' tk acc c kp x it=>?_;let b:↥s<=↥s:=ar _;erw[.r ↥s,upd H ↥s\.a ((List.range n).map λ(i:Nat)=>V.int (i:Int)),I.laid (t':=tk) kp b #[by simp;rw[cW];lia,acc.toList,c,yi (by simp[it.1]) λj v d=>?_,by rw[x]],1,q _\I.hok.fresh b];let#[tv,y]:=it.2 j v ‹d›;let z:j<n:=by have:=(aO.mp d).1;rw[gw,it.1] at this;show this
 erw[.i (j:Int),by simp[z],tv,?_];rw[y];simp
def rAll(K:W.Frag):-V->Hp->VK->Prop:=λxs H Q=>∃(a:i4)(bs:-Bool),xs=[.r a]/\SqL K H a (bs.map V.bl)/\Q (.bl\bs.all id) H
def Eb(n:X.calm=gm):c7 X (.b "all") (rAll []):=by
 lk;intro xs us Q I r h;let#[a,bs,1,w,q]:=h;let#[u,1,y]:=Vals.one r;cases y;let#[g,j,p,hz]:=I.list w;let l:=↑j;rw[av] at l;let c:=p.isList;let B:a<↥s:=by let#[_,e,_]:=c;show aJ e
 show call_all_walk\uq c ?_;erw[↥s,0,8,(λi=>bs.getD i hB),1,Dw (A:=X.A.in1) (I.ok.hd n) _ a (bD B) g.toArray,#[#[_,bJ _ rfl,5],c.push _],λi v s' K L C d=>?_,λh' tk D=>?_]
 .let#[x,m,f]:=oh j (i:=i) (v:=v) ‹C›;rw[br] at m;let#[b,E,1]:=cz.mp m;cases f;have:bs.getD i hB=b:=by rw[List.getD,E];rfl
  dsimp only at d;rw[this] at d;show iI d
 let e:(List.range g.toArray.size).all (λi=>bs.getD i hB)=bs.all id:=by
  rw[bI,<-l];let f:bs=(List.range ↑bs).map λi=>bs.getD i hB:=by show tY ∅ λi h1 h2=>?_;simp[h1]
  conv=>rhs;rw[f,O8]
  rfl
 rw[e];erw[.bl _,H,I.kept (t':=tk) λb o e=>D b o (λz=>by rw[aG.mp z] at e;show absurd (aJ e)\dG _)\aP _ e,1,q]
def Fy:-V->Hp->VK->Prop:=λxs H Q=>∃(a:i4)(kvs:-(Key×V)),xs=[.r a]/\Rd H a (.k kvs)/\∀p,H p=gf->Q (.r p)\upd H p (.k kvs)
def D4:c7 X (.t ↑53) Fy:=by lk;intro xs us Q I r h;let#[a,kvs,1,ha,q]:=h;let#[u,1,b]:=Vals.one r;cases b;show IH I ha λp s' c d=>#[.r p,_,d,1,q p c]
end
mutual
inductive Dt (K:W.Frag) (H:Hp):V->pC->Prop
 |non:Dt K H .non .none
 |bl (b:Bool):Dt K H (.bl b)\.bool b
 |int (i:Int):Dt K H (.int i)\.int i
 |str (x:Str) (h:(PyData.str x).canLay0=gm):Dt K H (.str x)\.str x
 |lst {a:i4} {xs:-V} {ds:-pC} (h:SqL K H a xs) (r:Dts K H xs ds):Dt K H (.ref a)\.list ds
 |tup {a:i4} {xs:-V} {ds:-pC} (h:SqT K H a xs) (r:Dts K H xs ds):Dt K H (.ref a)\.tuple ds
inductive Dts (K:W.Frag) (H:Hp):-V->-pC->Prop
 |nil:Dts K H [] []
 |cons {x:V} {d:pC} {xs:-V} {ds:-pC} (h:Dt K H x d) (r:Dts K H xs ds):Dts K H (x::xs) (d::ds)
end
section
def Dts.reads(I:!Inv H s)(ds:-pC)(xs:-V)(us:-hK)(h:Dts [] H xs ds)(r:Vals xs us):∃as,ReadsAll s.heap us ds as:=
 Dts.rec (motive_1:=λv d _=>∀u,aC v u->∃as,Reads s.heap u d as) (motive_2:=λxs ds _=>∀us,Vals xs us->∃as,ReadsAll s.heap us ds as)
  (λu r=>by cases r;erw[_,.none]) (λb u r=>by cases r;erw[_,.x b]) (λi u r=>by let#[t,1]:=r;erw[_,.i i t]) (λx _ u r=>by let#[t,1]:=r;erw[_,.s x t])
  (λh _ a u r=>by
   cases r;let#[g,f,#[o,n,e,c,_,dd],_]:=I.list h;let#[as,q]:=a _ f;erw[_,.list e c dd ‹q›])
  (λh _ a u r=>by
   cases r;let#[g,f,#[o,e,c,n,dd],_]:=I.tuple h;let#[as,q]:=a _ f;erw[_,.tuple e c dd ‹q›])
  (λu r=>by cases r;erw[_,.nil])
  (λ_ _ a j us r=>by
   cases r with
   |cons r rs=>
    let#[as,q]:=a _ r;let#[bs,p]:=j _ rs;erw[_,.c q p]) h us r
def Dt.reads(I:!Inv H s)(d:pC)(v:V)(u:hK)(h:Dt [] H v d)(r:aC v u):∃as,Reads s.heap u d as:=by
 let#[as,q]:=Dts.reads I _ _ _ (.c h .nil)\.c r .nil;cases q with
 |cons q _=>erw[_,q]
def Dts.can(ds:-pC)(xs:-V)(h:Dts K H xs ds):PyData.canLayAll0 ds=gm:=
 Dts.rec (motive_1:=λv d _=>d.canLay0=gm) (motive_2:=λxs ds _=>PyData.canLayAll0 ds=gm) rfl (λ_=>rfl) (λ_=>rfl) (λ_ h=>h) (λ_ _ a=>a) (λ_ _ a=>a) rfl
  (λ_ _ a b=>by rw[PyData.canLayAll0,a,b];rfl) h
def Dt.can(d:pC)(v:V)(h:Dt K H v d):d.canLay0=gm:=by
 have:=Dts.can>>(.c h .nil)
 rwa [PyData.canLayAll0,PyData.canLayAll0,Bool.and_true] at this
def Oa(K:W.Frag)(neg:Bool)(x y:V)(H:Hp)(Q:VK)(d e:pC):Prop:=Dt K H x d/\Dt K H y e/\d.depth<=60/\Q (.bl (if neg then !PyData.eqv d e else PyData.eqv d e)) H
def oW(K:W.Frag)(neg:Bool):R2:=λx y H Q=>Exists\Ex2 (Oa K neg x y H Q)
def min60{u a b:Nat}(h:u+64<pq)(h':a<=60):u+min a b<cLine:=by have:min a b<=a:=Nat.min_le_left _ _;lia
def BZ(a:X.A.units+64<pq):OpR X (nc .Eq) (oW [] hB):=by lk;intro x y v u Q I b c h;let#[d,e,hd,he,hz,q]:=h;let#[as,f]:=Dt.reads I d x v hd b;let#[bs,g]:=Dt.reads I e y u he c;show RM f g (Dt.can d x hd) (Dt.can e y he) (min60 a hz) #[.bl _,H,I,1,q]
def v_(a:X.A.units+64<pq):OpR X (nc .NotEq) (oW [] gm):=by lk;intro x y v u Q I b c h;let#[d,e,hd,he,hz,q]:=h;let#[as,f]:=Dt.reads I d x v hd b;let#[bs,g]:=Dt.reads I e y u he c;show RN f g (Dt.can d x hd) (Dt.can e y he) (min60 a hz) #[.bl _,H,I,1,q]
def N9(K:W.Frag)(neg:Bool)(x y:V)(H:Hp)(Q:VK)(d:pC)(a:i4)(xs:-V)(ds:-pC):Prop:=Dt K H x d/\y=.r a/\(SqL K H a xs\/SqT K H a xs)/\Dts K H xs ds/\d.depth<=60/\
 Q (.bl (if neg then !(ds.any λz=>PyData.eqv z d) else ds.any λz=>PyData.eqv z d)) H
def mL(K:W.Frag)(neg:Bool):R2:=λx y H Q=>Exists\Ex4 (N9 K neg x y H Q)
def min61{u a b:Nat}(h:u+64<pq)(h':b<=60):u+1+min a b<cLine:=by have:min a b<=b:=Df _ _;lia
def BY(f:X.A.units+64<pq):OpR X (nc .In) (mL [] hB):=by
 lk;intro x y v u Q I j l h;let#[d,a,xs,ds,hd,1,b,c,hz,q]:=h;cases l;let#[as,g]:=Dt.reads I d x v hd j;rcases b with b|b
 .let#[bs,e]:=Dt.reads I (.list ds) (.r a) _ (.a b c) rfl;show RP e g (Dts.can ds _ c) (Dt.can d x hd) (min61 f hz) #[.bl _,H,I,1,q]
 let#[bs,e]:=Dt.reads I (.tuple ds) (.r a) _ (.u b c) rfl;show RQ e g (Dts.can ds _ c) (Dt.can d x hd) (min61 f hz) #[.bl _,H,I,1,q]
def zd(f:X.A.units+64<pq):OpR X (nc .NotIn) (mL [] gm):=by
 lk;intro x y v u Q I j l h;let#[d,a,xs,ds,hd,1,b,c,hz,q]:=h;cases l;let#[as,g]:=Dt.reads I d x v hd j;rcases b with b|b
 .let#[bs,e]:=Dt.reads I (.list ds) (.r a) _ (.a b c) rfl;show RR e g (Dts.can ds _ c) (Dt.can d x hd) (min61 f hz) #[.bl _,H,I,1,q]
 let#[bs,e]:=Dt.reads I (.tuple ds) (.r a) _ (.u b c) rfl;show RT e g (Dts.can ds _ c) (Dt.can d x hd) (min61 f hz) #[.bl _,H,I,1,q]
end
section
def Inv.turnLaid{h':mu}{t':Nat}{a:i4}{o:HO}{ch:-i4}(I:!Inv H s)(h:∀b∈ch,bV X Sn H b)(k:∀b o,b∉ch->s.heap.get? b*>o->h'.get? b*>o)
  (ha:s.heap.get? a=gf) (new:∀H',bh X.prog X.w H' h' a o):!Inv (upd H a o) {s with heap:=h',toks:=t'}:=by
 let f:H a=gf:=I.hok.none_of ha;let j:∀b u,H b*>u->b∉ch:=λb u e z=>by
  have:=(h b z).1;rw[this] at e;cases e
 show I.step (g':=s.gens) (d':=s.drawn) (ch:=ch) (λb g=>?_) (λb o _ _ d e _=>k b o d e) (λb o _ _ d e _=>#[o.slots,k b o d e]) (λb o _ e n=>?_) (λb o d e=>#[o,k b o d e]) (λb xs e=>?_) (λb o u e=>?_) (λb ps e=>#[(tA []),?_]) (λm hm=>?_) (λb u e=>?_) I.bare
 .let#[_,l,_,p,x,y]:=h b g;erw[p,l,x,y]
 .rw[aq (λz=>by rw[z,ha] at e;cases e)];show n
 .rw[aq\ak e f];show e
 .rw[aq\ak e f];show e
 .rw[aq\ak e f,e];simp
 .let#[o,es,ep,A,r]:=hm;erw[o,es,ep,k _ o (λz=>(h _ z).2.1 rfl) A,r]
 by_cases g:b=a
 .subst g;rw[aH] at e;cases e;show new _
 rw[aq g] at e;show (I.hok b u e).stay (λc v d q=>k c v ?_ q) (λc q=>by rw[aq\ak q f];show q) λc xs q=>by rw[aq\ak q f];show q
 rcases d with z|z
 .rw[z];show j b u e
 show j c _ z
end
def Ite(K:W.Frag)(a:i4):It:=
 #[λi H=>∃xs x,SqL K H a xs/\xs[i]?*>x,
  λi H v H'=>∃p x,H p=gf/\v=.r p/\H'=upd H p (.u [.i (i:Int),x])/\∀xs,SqL K H a xs->xs[i]?*>x,
  λi H=>∃xs,SqL K H a xs/\↑xs<=i]
def Fg{elts:-mR}{x1}{pos:Pos}(a it e:i4)(B:e≠it):
  Turn P w K (.Tuple elts x1 pos) (Ite [] a) [e,it] e (λi h=>(∃old,IsEnum h e it (i:Int) old)/\h.IsListIter it a i) where
 mem:=∅
 obj:=λi h st b g=>by
  let#[#[old,f],o,N,c,d]:=st;rcases aU.mp g with z|z
  .subst z;erw[_,f,λv z=>by
    let O:Data.fields _=Data.cell v:=z;cases O]
  let z:b=it:=‹z›
  subst z;erw[o,N,λv z=>by rw[d] at z;cases z]
 keep:=λi h h' st k=>by
  let#[#[old,f],j]:=st;erw[#[old,k e ∅ _ f],j.at λo q=>k it ∅ o q]
 item:=by
  intro X n hw r C i Sn s Z H E I hf st y;subst n hw r;let#[#[xs,x,m,hx],#[#[old,f],j],#[Q,A,p,hz],#[u,R,S]]:=#[y,st,I.list m,A.get hx];show wpAny_pyNext_enum_item f j p.isList (x:=u) ‹R› B λh1 T U Y an ab=>?_;erw[2,?_];show wpAny_letOwnedTupleGo_enum T λh2 ad l=>?_;replace l:Heap.SameBut e h1 h2:=l;let ag:s.heap.get? ↥s=gf:=jO\ar _;let D:e<↥s:=aJ f;let al:it<↥s:=by let#[_,q,_]:=j;show aJ q
  let hn:H ↥s=gf:=I.hok.fresh\ar _;let L:h2.get? ↥s*>{cls:=.t ↑16,data:=.e\tA [.i i s.toks,u]}:=(l.2 _\kP D)<*Y;let I2:!Inv (upd H ↥s\.u [.i (i:Int),x]) {s with heap:=h2,toks:=s.toks+1}:=by
   show I.turnLaid (ch:=[e,it]) hf (λb o g q=>?_) ag λH'=>?_
   .let M:b≠e:=λz=>g (by simp[z]);let am:b≠it:=λz=>g (by simp[z]);show (l.2 b M).trans\ab b o M am q
   erw[#[by simp;rw[cW];lia,_,L,1],[.i i s.toks,u],.c #[2]\.c S .nil,#[_,L,7]]
  erw[.r ↥s,_,I2,1,#[↥s,x,hn,5,λys hy=>by rw[I.list_inj hy m];show hx],#[#[_,ad],?_],λb g=>?_]
  .let#[o,q1,q2]:=U;erw[o,(l.2 it\aB B)<*q1,q2]
  have:b≠↥s:=by
   rcases aU.mp g with z|z
   .rw[z];show bD D
   rw[(by simpa using z:b=it)];show bD al
  rw[aq this];show (hf b g).1
 done:=by intro X n hw r C i Sn s Z H E I hf st y;subst n hw r;let#[xs,m,hx]:=y;let#[#[old,f],j]:=st;let#[Q,A,p,hz]:=I.list m;let#[f0,f1,f2,f3,f4,f5]:=hf it ∅;let hl:=↑A;show wpAny_pyNext_enum_end (I.ok.hd C) f j p.isList (by simp;lia) λh' eb=>#[1,I.turned (t':=s.toks) (λb o g q=>eb b o g q) f0 f1 f3 f4 f5]
 self:=λ_ _ _ _ _ st h=>by
  let#[#[old,f],_]:=st;show Q2 f h
section
def MA(K:W.Frag)(R:It->Hp->Prop)(vs:-V)(H1:Hp)(a:i4)(xs:-V):Prop:=vs=[.r a]/\SqL K H1 a xs/\R (Ite K a) H1
def Mz(K:W.Frag)(R:It->Hp->Prop):-V->Hp->Prop:=λvs H1=>Exists\Ex2 (MA K R vs H1)
def Ox(K:W.Frag)(ta:TA):TI:=λZ H R=>ta Z H\Mz K R
def vF{elts:-mR}{x1}{tpos:Pos}{a:mR}{p pos:Pos}(f:Gl X ↑73)(hm:X.mg ↑73 = gf)(ha:PA X [a] ta)(g:kA [a] X.env=[(hB,nH a X.env)]:=by rfl):
  PI X (.Tuple elts x1 tpos) (.Call (.n ↑73 p) [a] [] pos) (Ox [] ta):=by
 lk;intro R I h;show Call_\jC I f hm boot_enumerate (pH (thn (ha pos Sn s Z H _ I h) λus s1 ⟨vs,H1,c,j,l⟩=>?_) g rfl);let#[a,xs,e,m,q]:=l;subst e;let#[u,1,n]:=Vals.one j;cases n;let#[w,x,pl,hz]:=c.list m;show call_enumerate_list pl.isList λh' he hi hsz o=>?_;show Q2 he ?_;let r:!Inv H1 {s1 with heap:=h'}:=c.kept (t':=s1.toks) o;erw[_,[↥s1+1,↥s1],0,H1,1,r,Fg a _ _\Nat.succ_ne_self _,#[#[.none,he],hi],λb v=>?_,q];let d:↥s1<=b:=by
  rcases aU.mp v with z|z
  .rw[z];show pB _
  have:b=↥s1:=‹z›
  show xt this.symm
 show c.fpOk d\c.hok.fresh d
end
section
variable {prog:lu}{d it v:i4}{es:Array pR}{ep i:Nat}
def MN{Q:hK->ij->Prop}(a:s.heap.IsItemsView v d)(m:DAt s.heap d es ep)
  (q:Q (.r ↥s) {s with heap:=s.heap.push {cls:=.t ↑14,data:=.d\tA [.none,.x hB,.r d,.i 0 0,.i es.size 0,.i ep 0,.none,.none]}}):jl (kC prog w) A (pyIter\.r v) Q E s:=by
 let#[g,e,_,f]:=id a;let#[o,b,_,c]:=id m;show Q4 a.typeIs P4\ik P4 a.typeIs PySem.F.entry_dict_items_iter ?_ (PySem.F.args_dict_items_iter_1 _);unfold Builtin.«dict_items.__iter__» Builtin.Dict_items.dictOf Builtin.Dict_items.newIterator;show aa\ai (aa\aa (cX e f (x:=.r d) rfl\ai (aa\aa (pP b c\aa (pQ b c ?_)))));simp only[show Builtin.Dict_items.ownsTuple ↑14 = gm by decide,if_true];show e_ (ai #[2,↑14,_,#[_,bJ _ rfl,1],uk.lookup,by simpa [p6,Builtin.Dict_items.ownedTupleFields] using q])
  (by simp only[sizeOk,Builtin.Dict_items.ownedTupleFields,bI,bo,ck,jb];rw[cW];lia)
def MM{x y:hK}{Q:Option hK->ij->Prop}(hit:IsItemIter s.heap it d i es.size ep x y)(m:DAt s.heap d es ep)(hi:i<es.size)
  (q:∀h',IsItemIterOut h' it d (i+1) es.size ep es[i].key es[i].val ↥s->h'.get? ↥s*>{cls:=.t ↑16,data:=.e\tA [es[i].key,es[i].val]}->
   (∀b o,b≠it->s.heap.get? b*>o->h'.get? b*>o)->Q (gh\.r ↥s) {s with heap:=h'}):jl (kC prog w) A (pS\.r it) Q E s:=by
 let#[#[a,g,f,tk,os],#[od,L,_,M],ty]:=#[s,id m,(#[_,hit,1]:Shared.TypeIs #[a,g,f,tk,os] (.r it) ↑14)];unfold pS;show aa\jg (kY (name:=Str.ofString "__next__") ty uk (ik uk ty PV ?tree\PQ _));show aa\ai (aa\aa ?_)
 first|show aa (xP ty\ai (aa\kZ hit rfl ?_))|show aa\xR ty (ai\aa (kZ hit rfl ?_))
 simp only[show Builtin.Dict_items.ownsTuple ↑14 = gm by decide,if_true];show (show jl _ _ (if (Value.ref d==Value.none)=gm then _ else _) _ _ _ from ?_);rw[Sg (show ¬(Value.ref d==Value.none)=gm from bH)];show aa\ai (aa\pP L M ?_);rw[Sg ∅];show aa\ai (aa\pQ L M ?_);rw[Sg ∅];show ai ?_;simp only[show ¬((i:Int)<0) by lia,if_false,jP,CP hi];show aa ?_
 first|show aa (xP ty\ai (aa\xN ty ?_))|show aa\xR ty (ai\aa (xN ty ?_))
 show (show jl _ _ (setField (.r it) 3 (p6 ((i:Int)+1)) >>= _) _ _ #[a,g,f,tk,os] from aa (pW hit ∅ λh1 h j=>?_));replace j:Heap.SameBut it a h1:=j;replace h:IsItemIter h1 it d (i+1) es.size ep x y:=by unfold IsItemIter;rw[show ((i+1:Nat):Int)=(i:Int)+1 by lia];simpa [p6] using h
 let N:Shared.TypeIs #[h1,g,f,tk,os] (.r it) ↑14:=#[_,h,1];show aa\cY (aa\xN N (aa\xN N ?_));show (show jl _ _ (Builtin.Dict_items.pairFromOwner (.r it) 6 es[i].key es[i].val) _ _ #[h1,g,f,tk,os] from ?_);unfold Builtin.Dict_items.pairFromOwner;show aa\DO ?_;let O:h1.objs.size=a.objs.size:=j.1;let lt:it<a.objs.size:=aJ hit;let ne:a.objs.size≠it:=kP lt;let#[h2,l,P,k2,R]:∃h2:mu,IsItemIter h2 it d (i+1) es.size ep x y/\h2.get? a.objs.size*>{cls:=.t ↑16,data:=.e\tA [es[i].key,es[i].val]}/\(∀b o,b≠it->a.get? b*>o->h2.get? b*>o)/\
   h1.push {cls:=.t ↑16,data:=.e\tA [es[i].key,es[i].val]}=h2:=
  #[_,aP _ h,by rw[<-O];show bJ _ rfl,λb o c e=>aP _\j.extBut b o c e,1]
 show (show jl _ _ (Builtin.Dict_items.ownedTupleIsFree (.r it) >>= _) _ _ #[h1.push {cls:=.t ↑16,data:=.e\tA [es[i].key,es[i].val]},g,f,tk,os] from ?_);rw[O,R];unfold Builtin.Dict_items.ownedTupleIsFree;show aa\aa (cX l rfl (x:=.none) rfl\ai ?_);simp only[if_true];show aa\cX l rfl (x:=x) rfl (aa\cX l rfl (x:=y) rfl (aa (pW l ∅ λp r u=>?_)));replace u:Heap.SameBut it h2 p:=u;replace r:IsItemIter p it d (i+1) es.size ep es[i].key y:=r;show aa (pW r ∅ λv z B=>?_);replace B:Heap.SameBut it p v:=B;replace z:IsItemIter v it d (i+1) es.size ep es[i].key es[i].val:=z;show aa (pW z ∅ λC D H=>?_);replace H:Heap.SameBut it v C:=H;replace D:IsItemIterOut C it d (i+1) es.size ep es[i].key es[i].val a.objs.size:=D;show aa (pW D ∅ λn I K=>?_);replace K:Heap.SameBut it C n:=K;replace I:IsItemIterOut n it d (i+1) es.size ep es[i].key es[i].val a.objs.size:=I;let up:∀b o,b≠it->h2.get? b*>o->n.get? b*>o:=λb o c e=>K.extBut b o c\H.extBut b o c (B.extBut b o c\u.extBut b o c e);show aa\pU (ai\ai #[2,ai (q n I (up _ _ ne P) λb o c e=>up b o c\k2 b o c e)])
def OD{x y:hK}{Q:Option hK->ij->Prop}(f:A.handled=gf)(hit:IsItemIter s.heap it d i es.size ep x y)(m:DAt s.heap d es ep)(hi:es.size<=i)
  (q:∀h',Heap.ExtBut it s.heap h'->Q gf {s with heap:=h'}):jl (kC prog w) A (pS\.r it) Q E s:=by
 let#[od,c,_,e]:=id m;let ty:s.TypeIs (.r it) ↑14:=#[_,hit,1];unfold pS;show aa\jg (kY (name:=Str.ofString "__next__") ty uk (ik uk ty PV ?tree\PQ _));show aa\ai (aa\aa ?_)
 first|show aa (xP ty\ai (aa\kZ hit rfl ?_))|show aa\xR ty (ai\aa (kZ hit rfl ?_))
 simp only[show Builtin.Dict_items.ownsTuple ↑14 = gm by decide,if_true];show (show jl _ _ (if (Value.ref d==Value.none)=gm then _ else _) _ _ s from ?_);rw[Sg (show ¬(Value.ref d==Value.none)=gm from bH)];show aa\ai (aa\pP c e ?_);rw[Sg ∅];show aa\ai (aa\pQ c e ?_);rw[Sg ∅];show ai ?_;simp only[show ¬((i:Int)<0) by lia,if_false,jP,OP hi];show aa ?_
 first|show aa (xP ty\ai ?_)|show aa\xR ty (ai ?_)
 show (show jl _ _ (setField (.r it) 2 .none >>= _) _ _ s from aa (gJ hit rfl ∅ ?_));show (show jl _ _ (newExc (.t ↑83) [] >>= _) _ _ _ from aa ?_);simp only[newExc,newTuple];show aa\e_ (aa (m:=firstArgMember _ _)\nB (a:=Value.none) (by first|rfl|(simp only[firstArgMember];rfl)) (e_ ?_ (by size_fits))) (by size_fits);simp only[raiseNew];show aa\DJ ?_;rw[show A.in1.handled=gf from f];show aa\ai (xO ?_);show aa\DK (b:=gm) (T:=↑83) #[_,bJ _ rfl,1] Dz ?_;show ai\q _ (((CQ ..).extBut.push _).push _)
end
section
variable {d:i4}{u:HO}
def eP:HO->Prop
 |.dK _=>True
 |.dT _=>True
 |_=>False
def eP.notT{u:HO}(h:eP u):(∀xs,u≠.u xs)/\(∀o v,u≠.z o v)/\(∀ps,u≠.tbl ps)/\∀y,u≠.own y:=by cases u<;>first|show False.elim h|erw[λ_ z=>(nomatch z),λ_ _ z=>(nomatch z),λ_ z=>(nomatch z),λ_ z=>(nomatch z)]
def Inv.freeze(I:!Inv H s)(hd:H d*>u)(g:eP u){o:Obj}(h:s.heap.get? d*>o):!Inv (upd H d\.z o u) s:=by
 let#[a,j,l,p]:=g.notT;let ne:∀{b v},H b*>v->v≠u->b≠d:=λe z y=>z (by rw[y,hd] at e;show (eB e).symm);show I.step (h':=s.heap) (g':=s.gens) (d':=s.drawn) (t':=s.toks) (ch:=[]) (λ_ z=>nomatch z) (λb o _ _ _ e _=>e) (λb o _ _ _ e _=>#[o.slots,e]) (λb o _ _ n=>?_) (λb o _ e=>#[o,e]) (λb xs e=>?_) (λb o v e=>?_) (λb ps e=>#[(tA []),?_]) (λ_ m=>m) (λb v e=>?_) I.bare
 .rw[aq (λz=>by rw[z,hd] at n;cases n)];show n
 .rw[aq (ne e λz=>a xs z.symm)];show e
 .rw[aq (ne e λz=>j o v z.symm)];show e
 .rw[aq (ne e λz=>l ps z.symm),e];simp
 let st:∀{b v},bh X.prog X.w H s.heap b v->bh X.prog X.w (upd H d\.z o u) s.heap b v:=λx=>
  x.stay (λ_ _ _ q=>q) (λc q=>by rw[aq (ne q λz=>p _ z.symm)];show q) λc xs q=>by rw[aq (ne q λz=>a xs z.symm)];show q
 by_cases f:b=d
 .subst f;rw[aH] at e;cases e;erw[h,st (I.hok>>hd)]
 rw[aq f] at e;show st\I.hok b v e
def Fz(H H2:Hp)(d:i4)(o:Obj)(u:HO):Prop:=(H d*>u\/H d*>.z o u)/\eP u/\H2=upd H d\.z o u
def Fz.at(f:Fz H H2 d o u):H2 d*>.z o u:=by rw[f.2.2,aH]
def Fz.ne{b:i4}(f:Fz H H2 d o u)(h:b≠d):H2 b=H b:=by rw[f.2.2,aq h]
def Inv.fz(I:!Inv H s)(hd:Rd H d u)(a:eP u):∃o,s.heap.get? d*>o/\Fz H (upd H d\.z o u) d o u/\!Inv (upd H d\.z o u) s:=by
 rcases hd with hd|⟨o,hd⟩
 .let#[o,c]:=(I.hok d u hd).there;erw[o,c,#[.l hd,a,1],I.freeze hd a c]
 let e:upd H d (.z o u)=H:=by
  funext b;unfold upd;split
  .rename_i z;rw[z,hd]
  rfl
 erw[o,(I.hok d _ hd).1,#[.o hd,a,1],by rw[e];show I]
def DKV(H:Hp)(u:HO)(ks vs:-V):Prop:=
 (∃kvs,u=.k kvs/\ks=kvs.map (λp=>kV p.1)/\vs=kvs.map (·.2)) \/
 ∃kvs as,u=.dT kvs/\Paired (λ(p:-Key×V) a=>H a*>.u\p.1.map kV) kvs as/\ks=as.map V.ref/\vs=kvs.map (·.2)
def oI(I:!Inv H s)(hd:Rd H d u)(v:eP u):
  (d==nI)=hB/\∃ks vs es ep,DKV H u ks vs/\↑ks<=js/\DAt s.heap d es ep/\Vals ks (es.toList.map (·.key))/\Vals vs (es.toList.map (·.val)):=by
 cases u<;>first|show False.elim v|skip
 case dK kvs=>
  let#[z,lo,us,rel,o,es,ep,h1,h2,e,_,m,_]:=fi I.hok hd;erw[lo,0,es,ep,.l #[kvs,5,1],by rw[av];show z,#[o,h1,h2,e],?_];generalize es.toList=l at m;let go:∀{kvs:-(Key×V)}{us:-(Key×hK)}{l:-pR},KV kvs us->Pairs (dB X.prog X.w) l us->Vals (kvs.map λp=>kV p.1) (l.map (·.key))/\Vals (kvs.map (·.2)) (l.map (·.val)):=by
   intro kvs us l r;induction r generalizing l with
   |nil=>intro p;cases p;erw[.nil,.nil]
   | @cons a b l1 l2 h1 h2 c=>
    intro p;cases p with
    |cons p1 p2 y=>
     let#[i1,i2]:=c y;erw[.c ?_ i1,.c ?_ i2]
     .dsimp only;rw[h1.1];rcases gK p1 with ⟨i,t,f,g⟩|⟨x,t,f,g⟩
      .rw[f,g];erw[t,1]
      rw[f,g];erw[t,1]
     dsimp only;rw[p2];show h1.2
  show go rel m
 case dT kvs=>
  let#[z,lo,xs,rel,o,es,ep,h1,h2,e,h,hz]:=iW I.hok hd;clear hz;let go:∀{kvs:-(-Key×V)}{xs:-(-Key×i4×hK)},KT H kvs xs->Paired (λ(p:-Key×V) a=>H a*>.u\p.1.map kV) kvs (xs.map (·.2.1))/\Vals (kvs.map (·.2)) (xs.map (·.2.2)):=by
   intro kvs xs r;induction r with
   |nil=>erw[.nil,.nil]
   |cons h1 h2 c=>erw[.c h1.2.1 c.1,.c h1.2.2 c.2]
  let#[j,n]:=go rel;let q:=pF j;erw[lo,0,es,ep,.o #[kvs,2,j,5],by rw[av,<-q];show z,#[o,h1,h2,e],?_,?_]
  .rw[h,cw,cw];clear h rel j n q;induction xs with
   |nil=>show .nil
   |cons x r c=>show .c rfl c
  rw[h,cw];show n
end
def Itk(d:i4)(o:Obj)(ks:-V):It:=
 #[λi H=>i<↑ks/\∃u,H d*>.z o u,λi H x H'=>H'=H/\ks[i]?*>x,λi H=>↑ks<=i/\∃u,H d*>.z o u]
def qW{o:Obj}{u:HO}{es:Array pR}{ep:Nat}(I:!Inv H s)(h:H d*>.z o u)(x:o.ExactDict)(e:o.data=.y es ep):DAt s.heap d es ep:=
 #[o,(I.hok d _ h).1,x,e]
def Ff{tg:mR}{d it:i4}{o:Obj}{es:Array pR}{ep:Nat}(x:o.ExactDict)(e:o.data=.y es ep)(r:Vals ks\es.toList.map (·.key)):
  Turn P w K tg (Itk d o ks) [it] it (λi h=>h.IsKeyIter it d i es.size ep) where
 mem:=∅
 obj:=λi h st b a=>by
  let e:b=it:=‹a›
  subst e;let#[o,e,c,d]:=st;erw[o,e,λv z=>by rw[d] at z;cases z]
 keep:=λi h h' st k=>st.at λo e=>k it ∅ o e
 item:=by
  intro X f hw g B i Sn s Z H E I hf st j;subst f hw g;let#[hi,u,l]:=j;let M:↑ks=es.size:=by have:=↑r;simpa using this
  let#[y,C]:∃y,ks[i]?*>y:=#[ks[i],by simp[hi]];let#[z,hz,N]:=r.get C;let D:i<es.size:=();let O:z=es[i].key:=by rw[br] at hz;simp[D] at hz;show hz.symm
  let#[m,n,Q,p,q,A]:=hf it ∅;show CK st (qW I l x e) D λh' L sb=>?_;let R:!Inv H {s with heap:=h'}:=I.turned (t':=s.toks) (λb o a e=>(sb.2 b a)<*e) m n p q A;let#[o',S,T,d']:=id L;erw[2,tq (s:={s with heap:=h'}) S T d' ⋯ #[y,H,R,by rw[<-O];show N,#[1,C],L,λb a=>(hf b a).1]]
 done:=by
  intro X f hw g B i Sn s Z H E I hf st j;subst f hw g;let#[hi,u,l]:=j;let M:↑ks=es.size:=by have:=↑r;simpa using this
  let#[m,n,Q,p,q,A]:=hf it ∅;show dEnd (I.ok.hd B) st (qW I l x e) () λh' U=>#[1,I.turned (t':=s.toks) (λb o a e=>U b o a e) m n p q A]
 self:=λ_ _ _ _ _ st h=>Q3 st h
section
variable {tg:mR}
def Oy(td:TE):TI:=λZ H R=>td Z H λx H1=>∃(d:i4)(u:HO),x=.r d/\Rd H1 d u/\eP u/\∀ks vs o H2,DKV H1 u ks vs->Fz H1 H2 d o u->R (Itk d o ks) H2
def B_{es:Array pR}{o:Obj}(m:DAt h d es ep)(e:h.get? d*>o):o.ExactDict/\o.data=.y es ep:=by let#[o',a,x]:=m;rw[e] at a;cases a;show x
def AX(j:PE X l td):PI X tg l (Oy td):=by
 lk;intro R I h;show thn (j Sn s Z H _ I h) λv s1 m=>?_;let#[x,H1,c,n,p]:=m;let#[d,u,e,hd,f,q]:=p;subst e;cases n;let#[#[lo,ks,vs,es,ep,r,hz,g,rk,A],#[o,w,fz,a],#[ex,y]]:=#[oI c hd f,c.fz hd f,B_ g w];show wx lo g ?_;erw[↥s1,[↥s1],8,1,a.kept (t':=s1.toks) λb o e=>aP _ e,Ff (d:=d) (o:=o) ex y rk,#[_,bJ _ rfl,5],λb z=>?_,q ks vs o _ r fz];let e:b=↥s1:=‹z›
 subst e;show a.fpOk (ar _)\a.hok.fresh (ar _)
end
def rZ(v d:i4):HO:=.ext λh=>h.IsItemsView v d
def Iti(d:i4)(o:Obj)(ks vs:-V):It:=
 #[λi H=>i<↑ks/\∃u,H d*>.z o u,
  λi H v H'=>∃p x y,H p=gf/\v=.r p/\H'=upd H p (.u [x,y])/\ks[i]?*>x/\vs[i]?*>y,λi H=>↑ks<=i/\∃u,H d*>.z o u]
def ED{elts:-mR}{x1}{pos:Pos}{d it:i4}{o:Obj}{es:Array pR}{ep:Nat}{vs:-V}(x:o.ExactDict)(e:o.data=.y es ep)(r:Vals ks\es.toList.map (·.key))(B:Vals vs\es.toList.map (·.val)):
  Turn P w K (.Tuple elts x1 pos) (Iti d o ks vs) [it] it (λi h=>∃a b,IsItemIter h it d i es.size ep a b) where
 mem:=∅
 obj:=λi h st b c=>by
  let e:b=it:=‹c›
  subst e;let#[0,st]:=st;erw[_,st,λv z=>by
   let f:Data.fields _=Data.cell v:=z;cases f]
 keep:=λi h h' st k=>let ⟨a,b,st⟩:=st;#[a,b,k it ∅ _ st]
 item:=by
  intro X g hw j C i Sn s Z H E I hf st l;subst g hw j;let#[hi,u,m]:=l;let#[0,st]:=st;let Q:↑ks=es.size:=by have:=↑r;simpa using this
  let al:↑vs=es.size:=by have:=↑B;simpa using this
  let#[y,D]:∃y,ks[i]?*>y:=#[ks[i],by simp[hi]];let#[L,M]:∃y,vs[i]?*>y:=#[vs[i]'(),∅];let#[#[z,hz,R],#[f,n,S],p]:=#[r.get D,B.get M,(():i<es.size)];let T:z=es[i].key:=by rw[br] at hz;simp[p] at hz;show hz.symm
  let U:f=es[i].val:=by rw[br] at n;simp[p] at n;show n.symm
  show MM st (qW I m x e) p λh1 Y N k1=>?_;erw[2,wpAny_letOwnedTupleGo_items Y λh2 ab sb=>?_];replace sb:Heap.SameBut it h1 h2:=sb;let A:it<↥s:=aJ st;let ad:s.heap.get? ↥s=gf:=jO\ar _;let hn:H ↥s=gf:=I.hok.fresh\ar _;let I2:!Inv (upd H ↥s\.u [y,L]) {s with heap:=h2}:=by
   show I.turnLaid (t':=s.toks) (ch:=[it]) hf (λb o c q=>?_) ad λH'=>?_
   .let O:b≠it:=λz=>c (by simp[z]);show (sb.2 b O).trans\k1 b o O q
   erw[#[by simp;rw[cW];lia,_,(sb.2 _\kP A)<*N,1],[es[i].key,es[i].val],.c (by rw[<-T];show R)\.c (by rw[<-U];show S) .nil,#[_,(sb.2 _\kP A)<*N,7]]
  erw[.r ↥s,_,I2,1,#[↥s,y,L,hn,5,D,M],#[0,ab],λb c=>?_];let ag:b=it:=‹c›
  rw[ag,aq\bD A];show (hf it ∅).1
 done:=by
  intro X g hw j C i Sn s Z H E I hf st l;subst g hw j;let#[hi,u,m]:=l;let#[0,st]:=st;let Q:↑ks=es.size:=by have:=↑r;simpa using this
  let#[f0,f1,f2,f3,f4,f5]:=hf it ∅;show OD (I.ok.hd C) st (qW I m x e) () λh' eb=>#[1,I.turned (t':=s.toks) (λb o c e=>eb b o c e) f0 f1 f3 f4 f5]
 self:=λ_ _ _ _ _ st h=>by
  let#[0,st]:=st;show kcp_self st h
section
def LQ:V->-V->Hp->VK->Prop:=λx xs H Q=>∃(d:i4)(u:HO),x=.r d/\xs=[]/\Rd H d u/\eP u/\∀v,H v=gf->Q (.r v)\upd H v (rZ v d)
def H_:MtM X "dict.items" LQ:=by
 lk;intro x xs v us Q I g rs h;let#[d,u,5,hd,j,q]:=h;cases g;cases rs;let#[lo,ks,vs,es,ep,l,hz,f,rk,m]:=oI I hd j;show uo P3 f.ty PySem.F.entry_dict_items (PySem.F.args_dict_items_1 _) (S:=λA R s=>(∃es ep,DAt s.heap d es ep)/\R (.ok\.ret (.r ↥s)) {s with heap:=s.heap.push {cls:=.t "dict_items",data:=.d\tA [.r d]}}) (.of_wp λprog w A R s h=>?_) #[#[es,ep,f],?_]
 .let#[#[es,ep,f],h]:=h;unfold Builtin.«dict.items» Builtin.Dict.noArgs;show aa\aa (DP f.ty ?_);show (show jl _ _ (pure d) _ _ s from ai ?_);show (show jl _ _ (Builtin.Dict.showsAll d >>= _) _ _ s from ?_);unfold Builtin.Dict.showsAll;rw[Sg (show ¬(d==nI)=gm by rw[lo];simp)];show aa\ai (aa\e_ (ai #[2,h]))
 erw[.r ↥s,_,I.laid (a:=↥s) (o:=rZ ↥s d) (t':=s.toks) (λb o e=>aP _ e) (ar _) #[#[_,bJ _ rfl,5],#[_,bJ _ rfl],λh1 h2 p k=>?_],1,q _\I.hok.fresh (ar _)];let#[o,e,c]:=p;erw[o,k o e,c]
def My(td:TE):TI:=λZ H R=>td Z H λx H1=>∃(v d:i4)(u:HO),x=.r v/\H1 v*>rZ v d/\Rd H1 d u/\eP u/\∀ks vs o H2,DKV H1 u ks vs->Fz H1 H2 d o u->R (Iti d o ks vs) H2
def Hy{elts:-mR}{x1}{pos:Pos}(j:PE X l td):PI X (.Tuple elts x1 pos) l (My td):=by
 lk;intro R I h;show thn (j Sn s Z H _ I h) λv s1 m=>?_;let#[x,H1,a,n,p]:=m;let#[v,d,u,e,r,hd,f,q]:=p;subst e;cases n;let#[y,#[lo,ks,vs,es,ep,z,hz,g,rk,A],#[o,B,fz,c],#[ex,C]]:=#[((show bh X.prog X.w H1 s1.heap v (rZ v d) from a.hok v _ r).1:s1.heap.IsItemsView v d),oI a hd f,a.fz hd f,B_ g B];show MN y g ?_;erw[↥s1,[↥s1],8,1,c.kept (t':=s1.toks) λb o e=>aP _ e,ED (d:=d) (o:=o) ex C rk A,#[0,bJ _ rfl],λb D=>?_,q ks vs o _ z fz];let e:b=↥s1:=‹D›
 subst e;show c.fpOk (ar _)\c.hok.fresh (ar _)
end
section
def qz(v d:i4):HO:=.ext λh=>h.IsValuesView v d
def JD:V->-V->Hp->VK->Prop:=λx xs H Q=>∃(d:i4)(kvs:-(Key×V)),x=.r d/\xs=[]/\Rd H d (.k kvs)/\∀v,H v=gf->Q (.r v)\upd H v (qz v d)
def FN:MtM X "dict.values" JD:=by lk;intro x xs v us Q I f rs h;let#[d,kvs,5,hd,q]:=h;cases f;cases rs;let#[z,lo,vs,rel,dd]:=fi I.hok hd;show ny P8 dd.typeIs PySem.F.entry_dict_values (PySem.F.args_dict_values_1 _) (meets_dict_values (dB X.prog X.w) d lo) #[#[_,dd],?_];erw[.r ↥s,_,I.laid (a:=↥s) (o:=qz ↥s d) (t':=s.toks) (λb o e=>aP _ e) (ar _) #[#[_,bJ _ rfl,5],#[_,bJ _ rfl],λh1 h2 p k=>?_],1,q _\I.hok.fresh (ar _)];let#[o,e,c]:=p;erw[o,k o e,c]
def Fx:-V->Hp->VK->Prop:=λxs H Q=>∃(v d:i4)(kvs:-(Key×V)),xs=[.r v]/\H v*>qz v d/\Rd H d (.k kvs)/\∀l,H l=gf->Q (.r l)\upd H l (.a\kvs.map (·.2))
def D3(x:X.calm=gm):c7 X (.t ↑25) Fx:=by
 lk;intro xs us Q I r h;let#[v,d,kvs,1,A,hd,q]:=h;let#[u,1,B]:=Vals.one r;cases B;let#[C,#[z,lo,vs,rel,dd],D,#[ep,E]]:=#[((show bh X.prog X.w H s.heap v (qz v d) from I.hok v _ A).1:s.heap.IsValuesView v d),fi I.hok hd,(↑rel:↑kvs=↑vs),dd.dictAt];show kdl_call (kdl_values (knd:=dB X.prog X.w) (r:=v) (d:=d) (kvs:=vs) (ep:=ep)) (I.ok.hd x) #[C,E] () λh' tk acc c kp e it=>?_;let f:↥s<=↥s:=ar _;erw[.r ↥s,_,I.laid (t':=tk) (o:=.a\kvs.map (·.2)) kp f #[by rw[av];show z,acc.toList,c,yi (by rw[av,D];simp[it.1]) λj y K=>?_,by rw[e]],1,q _\I.hok.fresh f];let#[k,g]:=it.2 j y ‹K›;let n:j<↑kvs:=by have:=(aO.mp g).1;lia
 erw[kvs[j].2,by simp[n],?_];let at_:∀{l:-(Key×V)}{m:-(Key×hK)}{j:Nat}{p:Key×V}{q:Key×hK},KV l m->l[j]?*>p->m[j]?*>q->aC p.2 q.2:=by
  intro l m j p q r;induction r generalizing j with
  |nil=>intro e;simp at e
  |cons h1 h2 L=>
   intro a b;cases j with
   |zero=>simp at a b;subst a b;show h1.2
   |succ j=>show L ‹a› ‹b›
 show at_ rel (by simp[n]:kvs[j]?*>kvs[j]) g
def JF:V->-V->Hp->VK->Prop:=λx xs H Q=>∃(d:i4)(kvs:-(Key×V))(k:Key)(z:V),x=.r d/\xs=[kV k,z]/\H d*>.k kvs/\↑kvs<js/\
 (∀v,a8 kvs k*>v->Q v H)/\(a8 kvs k=gf->Q z\upd H d (.k\cA kvs k z))
def D7:MtM X "dict.setdefault" JF:=by
 lk;intro x xs v us Q I f rs h;let#[d,kvs,k,z,5,hd,hz,g,j]:=h;cases f;let#[#[A,l,1,m,b],#[B,lo,vs,rel,dd],C,a]:=#[rs.two,oP I.hok hd,(↑rel:↑kvs=↑vs),rel.val k];show ny P7 dd.typeIs PySem.F.entry_dict_setdefault (PySem.F.args_dict_setdefault_3 _ _ _) (kt_meets_setdefault (dB X.prog X.w) d (iB m) lo l) #[vs,dd,(),λv n=>?_,λo h' c p=>?_]
 .rw[n] at a;cases e:a8 kvs k with
  |none=>rw[e] at a;show False.elim a
  |some y=>
   rw[e] at a;erw[y,H,I.tok _,a,g y e]
 rw[o] at a;cases e:a8 kvs k with
 |some y=>rw[e] at a;show False.elim a
 |none=>
  let r:↑(cA kvs k z)<=sizeLine:=by have:=nP kvs k z;lia
  let he:∃q,h'.get? d*>q:=let ⟨q,_,_,u,_⟩:=c;#[q,u];erw[z,_,oA I (by rw[hd];show True.intro) p he\oJ r lo (rel.put k b) c,b,j e]
end
section
def N0:-V->Hp->VK->Prop:=λxs H Q=>∃(d:i4)(kvs:-(Key×V))(ns:-Int),xs=[.r d]/\Rd H d (.k kvs)/\kvs.map (λp=>kV p.1)=ns.map V.int/\ns≠[]/\∀m,m∈ns->(∀n∈ns,m<=n)->Q (.i m) H
def Mp(es:Array pR){i:Nat}(hi:i<es.size):(es.toList.map (·.key)).toArray[i]?*>es[i].key:=by simp[hi]
def xX(j:X.calm=gm):c7 X (.b "min") N0:=by
 lk;intro xs us Q I r h;let#[d,kvs,ns,1,hd,l,f,q]:=h;let#[u,1,m]:=Vals.one r;cases m;let#[lo,ks,vs,es,ep,n,hz,a,rk,E]:=oI I hd (u:=.k kvs) trivial;let p:ks=ns.map V.int:=by
  rcases n with ⟨K,e,w,_⟩|⟨_,_,e,_⟩
  .cases e;rw[w,l]
  cases e
 subst p;let g:↑ns=es.size:=by have:=↑rk;simpa using this
 show call_min_walk\wx lo a ?_;erw[↥s,8,8,1,Ca (A:=X.A.in1) (es:=es) (ep:=ep) (d:=d) (I.ok.hd j) _\bD a.lt,#[#[_,bJ _ rfl,5],a.at λo e=>aP _ e],λb c=>?_,?_,O1 (λi=>ns.getD i 0) λi v e=>?_,λv h' tk x y=>?_]
 .change b<(s.heap.push _).objs.size;rw[kM];rcases aU.mp c with rfl|c
  .exact ic _
  rw[aG.mp c];show nq a.lt
 .rw[<-g];show ia.mpr f
 .let#[hi,1]:=e;show se rk i _ (by simp[hi])
 let#[#[hi,1],#[t,B],#[C,D]]:=#[x,se rk _ _\Mp es hi,Ao ns f];let e:es.size-1=↑ns-1:=by rw[g]
 erw[.i _,H,I.kept (t':=tk) λb o e=>y b o (λz=>by rw[aG.mp z] at e;show absurd (aJ e)\dG _)\aP _ e,#[t,B],?_];rw[e];show q _ C D
end
open PySem.SeqAt in
def DW(l:i4)(items:Array hK)(n:Nat)(dd:Option i4)(sl:Array\Option hK)(x:hK)(e:Nat->Bool)(j:Nat)(v:j<items.size)(hit:e j=gm)(f:∀m,m<j->e m=hB):
  Meets (Builtin.«tuple.index» #[[.r l,x],[]])
   (λA R s=>s.heap.get? l*>{cls:=.t ↑16,dict:=dd,data:=.e items n,slots:=sl}/\(∀m (h:m<items.size),EqAt A.in1 s items[m] x\e m)/\R (.ok\.ret (.i j s.toks)) {s with toks:=s.toks+1}):=
 .of_wp λprog w A R s h=>by
  let#[o,g,d,tk,os]:=s;let#[p,he,h]:=h;unfold Builtin.«tuple.index»;simp only[Sf]
  wp_walk using Rl p,QU _ (λrest b s'=>b.1=gf/\s'=#[o,g,d,tk,os]/\∃i,i<=j/\rest=List.range' i (items.size-i)) _
  case turn=>
   rintro y rest b s' ⟨B,rfl,i,q,a⟩;let r:items.size-i=(items.size-(i+1))+1:=();rw[r,List.range'_succ] at a;injection a with h1 h2;subst h1;let c:y<items.size:=();let u:items[y]?*>items[y]:=by simp[c]
   rw[u];show aa\he y c prog w _ _ ?_;by_cases z:y=j
   .subst z;rw[hit]
    wp_walk
    erw[2,h]
   rw[f y ()]
   wp_walk
   erw[5,y+1,(),h2]
  case fin=>
   rintro b s' ⟨_,_,i,q,a⟩;have:=congrArg List.length a;simp at this;lia
  case h=>
   erw[5,(0),aZ _,by simp[Std.Legacy.Range.size]]
section
def JL(K:Frag):V->-V->Hp->VK->Prop:=λx vs H Q=>∃(a:i4)(xs:-V)(ds:-pC)(y:V)(d:pC)(j:Nat),x=.r a/\vs=[y]/\SqT K H a xs/\Dts K H xs ds/\Dt K H y d/\d.depth<=60/\
 j<↑ds/\PyData.eqv (ds.getD j .none) d=gm/\(∀m,m<j->PyData.eqv (ds.getD m .none) d=hB)/\Q (.i (j:Int)) H
def zh(B:X.A.units+64<pq):MtM X "tuple.index" (JL []):=by
 lk;intro x vs v us Q I C D h;let#[a,xs,ds,y,d,j,5,E,f,hd,hz,U,K,L,q]:=h;cases C;let#[#[u,1,M],#[b,rs,p,hsz],#[as,g],#[bs,N],Y,#[#[cls,dd,data,sl],l,o,n,w]]:=#[D.one,I.tuple E,Dts.reads I ds xs b f rs,Dt.reads I d y u hd M,(RL _ _ _ g:↑b=↑ds),id p];simp only at o w;subst o w;show uo Dm #[_,l,1] PySem.F.entry_tuple_index (PySem.F.args_tuple_index_2 _ _) (DW a b.toArray n dd sl u (λm=>PyData.eqv (ds.getD m .none) d) j (by simp;lia) K L) #[l,λm hm=>?_,?_]
 .let ab:m<↑ds:=by rw[bI] at hm;lia
  let#[e,cs,O,P,hle]:∃e cs,PySem.Reads s.heap b.toArray[m] e cs/\e.canLay0=gm/\e=ds.getD m .none:=by
   let go:∀(ds:-pC)(b:-hK)(as:-i4)(m:Nat)(h:m<↑b),ReadsAll s.heap b ds as->PyData.canLayAll0 ds=gm->∃cs,PySem.Reads s.heap b[m] (ds.getD m .none) cs/\(ds.getD m .none).canLay0=gm:=by
    intro ds;induction ds with
    |nil=>intro b as m h r _;cases r;simp at h
    |cons d ds R=>
     intro b as m h r c;let z:d.canLay0=gm/\PyData.canLayAll0 ds=gm:=by simpa [PyData.canLayAll0] using c
     cases r with
     |cons S T=>
      cases m with
      |zero=>erw[_,S,z.1]
      |succ m=>show R _ _ m ‹h› T z.2
   let#[cs,h1,h2]:=go ds b as m ‹hm› g (Dts.can ds _ f);erw[_,cs,‹h1›,h2,1]
  rw[<-hle];show RO e d X.A.in1 s _ _ _ _ O N P (Dt.can d y hd) ?_;change X.A.units+1+min _ _<pq;show min61 B hz
 erw[.i (j:Int),H,I.tok _,#[2],q]
end
section
variable {prog:lu}{R:Result->ij->Prop}{I:i4}{fp wr:-i4}{n:Nat}{P:Nat->hK->Prop}{St:Nat->mu->Prop}{OK:mu->Prop}
def wC(prog:lu)(w:n7)(A:ro)(OK:mu->Prop)(P:Nat->hK->Prop)(c:Nat->Nat->Bool):Prop:=
 ∀i j a b (s:ij) (Q:hK->ij->Prop) (E:hK->ij->Prop),OK s.heap->P i a->P j b->Q (.x\c i j) s->jl (kC prog w) A (richCompare .Lt a b) Q E s
def EV(W:Walks prog w A.in1 I fp wr n P St)(l:Nat->Nat->Bool)(O:wC prog w A.in1 OK P l)(S:i4)(H:S∉fp)
  (ok:∀h h':mu,OK h->(∀b o,b∉wr->b≠S->h.get? b*>o->h'.get? b*>o)->OK h') :
  ∀(k j:Nat)(s:ij)(d:hK)(c:Nat),n-(j+1)=k->j+1<=n->OK s.heap->St (j+1) s.heap->P (rb l j) d->
  s.heap.get? S*>{cls:=.t ↑25,dict:=gf,data:=.e (tA [d,d]) c,slots:=(tA [])}->
  (∀v h' tk,P (rb l (n-1)) v->(∀b o,b∉wr->b≠S->s.heap.get? b*>o->h'.get? b*>o)->R (.ok\.ret v) {s with heap:=h',toks:=tk})->
  oD (kC prog w) A (.b "min.loop" #[[.r I,.none,.r S],[]]) R s:=by
 let nw:S∉wr:=λh=>H\W.sub _ h;let nm:(toString "min"++toString ".loop" : String) = "min.loop":=⋯;intro k;induction k with
 |zero=>
  intro j s d c Q T K u p m q;let z:j+1=n:=();show iH Dj ?_;rw[i8 nv _];show (show jl _ A.in1 (seqItems? (.r S) >>= _) _ _ s from aa\pV m rfl ?_);show (show jl _ A.in1 (tryCatch (pS\.r I) _ >>= _) _ _ s from aa\uu (W.done s _ _ (z ▸ u) λh' tk f=>?_));show (show jl _ A.in1 (updateSeq S (λ_=>(tA [])) >>= _) _ _ _ from aa\nF (f S _ nw m) rfl (aa\pU (ai ?_)));show q d _ tk (by rw[<-z];show p) λb o g a e=>(eu>>(aB a)).trans\f b o g e
 |succ k L=>
  intro j s d c Q T K u p m q;let lt:j+1<n:=();show iH Dj ?_;rw[i8 nv _];show (show jl _ A.in1 (seqItems? (.r S) >>= _) _ _ s from aa\pV m rfl ?_);show (show jl _ A.in1 (tryCatch (pS\.r I) _ >>= _) _ _ s from aa\uu (W.item (j+1) s _ _ lt u λv h' tk M N f=>?_));let x:=f S _ nw m;let h1:OK h':=ok _ _ K λb o r _ e=>f b o r e;show (show jl _ A.in1 (tryCatch (holding [v,v] (richCompare .Lt v d >>= _)) _ >>= _) _ _ _ from aa\uu (cY\aa (O (j+1) (rb l j) v d _ _ _ h1 M p ?_)));show aa\cY (iI\aa (pU\ai ?_));cases r:l (j+1) (rb l j) with
  |true=>
   simp only[if_true];show aa\nF x rfl (aa\pU ?_);rw[nm];let up:∀b o,b≠S->h'.get? b*>o->(h'.update S (Obj.mapSeq λ_=>(tA [v,v]))).get? b*>o:=λb o a e=>(eu>>(aB a))<*e;show ai #[jf nv _,L (j+1) _ v _ () lt (ok _ _ h1 λb o _ a e=>up b o a e) (W.frame _ _ _ N λb U o e=>up b o (λh=>H (by rw[<-h];show U)) e) (by simp only[rb,r,if_true];show M) (fm _ x rfl)
    λy B C D E=>q y B C D λb o g a e=>E b o g a\up b o a (f b o g e)]
  |false=>
   simp only[jN,if_false];show aa\pU ?_;rw[nm];show ai #[jf nv _,L (j+1) _ d c () lt h1 N (by simp only[rb,r,jN,if_false];show p) x λy B C D E=>q y B C D λb o g a e=>E b o g a\f b o g e]
def Et(W:Walks prog w A.in1 I fp wr n P St)(d:Nat->Nat->Bool)(q:wC prog w A.in1 OK P d)(S:i4)(f:S∉fp)(ok:∀h h':mu,OK h->(∀b o,b∉wr->b≠S->h.get? b*>o->h'.get? b*>o)->OK h')(j:0<n){c:Nat}(r:OK s.heap)(u:St 0 s.heap)
  (l:s.heap.get? S*>{cls:=.t ↑25,dict:=gf,data:=.e (tA []) c,slots:=(tA [])})
  (x:∀v h' tk,P (rb d (n-1)) v->(∀b o,b∉wr->b≠S->s.heap.get? b*>o->h'.get? b*>o)->R (.ok\.ret v) {s with heap:=h',toks:=tk}) :
  oD (kC prog w) A (.b "min.loop" #[[.r I,.none,.r S],[]]) R s:=by
 let nw:S∉wr:=λh=>f\W.sub _ h;let nm:(toString "min"++toString ".loop" : String) = "min.loop":=⋯;show iH Dj ?_;rw[i8 nv _];show (show jl _ A.in1 (seqItems? (.r S) >>= _) _ _ s from aa\pV l rfl ?_);show (show jl _ A.in1 (tryCatch (pS\.r I) _ >>= _) _ _ s from aa\uu (W.item 0 s _ _ j u λv h' tk y z g=>?_));let m:=g S _ nw l;let h1:OK h':=ok _ _ r λb o B _ e=>g b o B e;show (show jl _ A.in1 (updateSeq S (λ_=>(tA [v,v])) >>= _) _ _ _ from aa\nF m rfl ?_);rw[nm];let up:∀b o,b≠S->h'.get? b*>o->(h'.update S (Obj.mapSeq λ_=>(tA [v,v]))).get? b*>o:=λb o a e=>(eu>>(aB a))<*e;show ai #[jf nv _,EV W d q S f ok _ 0 _ v _ rfl j (ok _ _ h1 λb o _ a e=>up b o a e) (W.frame _ _ _ z λb C o e=>up b o (λh=>f (by rw[<-h];show C)) e) y (fm _ m rfl)
  λD E H K L=>x D E H K λb o p a e=>L b o p a\up b o a (g b o p e)]
end
section
variable {prog:lu}
def E8{x:hK}{Q:hK->ij->Prop}{OK:mu->Prop}
  (h:jl (kC prog w) A.in1 (pyIter x) (λit s₂=>∃I fp wr n P St a,it=.r I/\Walks prog w A.in1 I fp wr n P St/\St 0 s₂.heap/\OK s₂.heap/\(∀S,↥s₂<=S->∀h h':mu,OK h->(∀b o,b∉wr->b≠S->h.get? b*>o->h'.get? b*>o)->OK h')/\(∀b∈fp,b<↥s₂)/\0<n/\wC prog w A.in1 OK P a/\
   ∀v h' tk,P (rb a (n-1)) v->(∀b o,b∉wr->s₂.heap.get? b*>o->h'.get? b*>o)->Q v {s₂ with heap:=h',toks:=tk}) E s) :
  jl (kC prog w) A (call (.b "min") [x]) Q E s:=by
 let nm:(toString "min"++toString ".loop" : String) = "min.loop":=⋯;show call_function_tree PySem.F.kind_min PySem.F.plain_min PySem.F.entry_min (PySem.F.args_min1 _) ?_;show (show jl _ A.in1 (Builtin.Builtins.bindParams "min" ["key","default"] 0 #[[],[]] >>= _) _ _ s from aa\nB (show Builtin.Builtins.bindParams "min" ["key","default"] 0 #[[],[]]=pure [gf,gf] from rfl) (aa\ai ?_));show aa (bU h (λit s2 h2=>?_) λ_ _ e=>e);let#[I,fp,wr,n,P,St,a,1,W,c,d,ok,f,g,j,l]:=h2;let m:↥s2∉fp:=λhm=>dG _\f _ hm;show aa\e_ ?_;rw[nm];let pu:∀b o,s2.heap.get? b*>o->(s2.heap.push {cls:=.t ↑25,data:=.e\tA []}).get? b*>o:=λb o e=>aP _ e;show ai #[jf nv _,Et W a j ↥s2 m (ok _\ar _) g (ok _ (ar _) _ _ d λb o _ _ e=>pu b o e) (W.frame _ _ _ c λb _ o e=>pu b o e) (bJ _ rfl) λv h' tk p q=>?_];show l v h' tk p λb o r e=>q b o r (bD\aJ e)\pu b o e
end
def zj:∀a:-Int,HT.lexLt a a=hB
 | []=>rfl
 |x::r=>by
  unfold HT.lexLt;simp[zj r]
def Ag:∀a b c:-Int,HT.lexLt a b=gm->HT.lexLt b c=gm->HT.lexLt a c=gm
 | [],[],_,h,_=>nomatch h
 | [],_::_,[],_,h=>nomatch h
 | [],_::_,_::_,_,_=>rfl
 |_::_,[],_,h,_=>nomatch h
 |_::_,_::_,[],_,h=>nomatch h
 |x::r,y::t,z::u,h1,h2=>by
  unfold HT.lexLt at h1 h2 |-;let d:=Ag r t u;by_cases e:x=y<;>by_cases f:y=z<;>by_cases g:x=z<;>simp_all<;>lia
def Bp(a:Nat->Nat->Bool)(c:∀i,a i i=hB)(tr:∀i j k,a i j=gm->a j k=gm->a i k=gm):∀m,rb a m<=m/\∀j,j<=m->a j (rb a m)=hB
 |0=>#[ar _,λj d=>by
  have:j=0:=();subst this;show c 0]
 |m+1=>by
  let#[h1,h2]:=Bp a c tr m;cases b:a (m+1) (rb a m) with
  |true=>
   let e:rb a (m+1)=m+1:=by simp only[rb,b,if_true]
   rw[e];erw[ar _,λj d=>?_];by_cases z:j=m+1
   .rw[z];show c _
   cases q:a j (m+1) with
   |false=>rfl
   |true=>
    have:=tr _ _ _ q b;rw[h2 j ()] at this;cases this
  |false=>
   let e:rb a (m+1)=rb a m:=by simp only[rb,b,jN,if_false]
   rw[e];erw[(),λj d=>?_];by_cases z:j=m+1
   .rw[z];show b
   show h2 j ()
section
def LN(K:Frag):-V->Hp->VK->Prop:=λxs H Q=>∃(a:i4)(ys:-V)(b:List\-Int),xs=[.r a]/\SqL K H a ys/\Tups K H ys b/\ys≠[]/\
 ∀i y,ys[i]?*>y->(∀j,j<↑ys->HT.lexLt (b.getD j []) (b.getD i [])=hB)->Q y H
def D9(M:X.calm=gm)(hu:X.A.units+64<pq):c7 X (.b "min") (LN []):=by
 lk;intro xs us Q I r h;let#[a,ys,d,1,N,O,P,q]:=h;let#[u,1,R]:=Vals.one r;cases R;let#[#[m,n,p,hz],T,w]:=#[I.list N,↑n,p.isList];let K:a<↥s:=by let#[_,e,_]:=w;show aJ e
 let get:∀(i:Nat)(v:hK),m[i]?*>v->∃(b:i4)(c:-hK),v=.r b/\b<↥s/\IsTup s.heap b c.toArray/\u3 c (d.getD i []):=by
  intro i v e;let#[y,x,B]:=oh n e;let go:∀{ys:-V}{d:List\-Int}{i:Nat}{y:V},Tups [] H ys d->ys[i]?*>y->∃b,y=V.ref b/\SqT [] H b ((d.getD i []).map V.int):=by
   intro ys d i y t;induction t generalizing i with
   |nil=>intro e;simp at e
   |cons h1 h2 U=>
    intro e;cases i with
    |zero=>simp at e;subst e;let#[b,l,f,_]:=h1;erw[b,l,f]
    |succ i=>show U ‹e›
  let#[b,1,g]:=go O x;cases B;let#[c,Y,p1,_]:=I.tuple g;erw[b,c,1,p1.lt,p1,nQ Y]
 show E8 (OK:=λh=>∀(i:Nat)(v:hK),m.toArray[i]?*>v->∃(b:i4)(c:-hK),v=.r b/\b<↥s/\IsTup h b c.toArray/\u3 c\d.getD i [])\uq w ?_;erw[↥s,0,8,(λi j=>HT.lexLt (d.getD i [])\d.getD j []),1,Dw (A:=X.A.in1) (I.ok.hd M) _ a (bD K) m.toArray,#[#[_,bJ _ rfl,5],w.push _],λi v e=>?_,λS hS h h' ok k i v e=>?_,λb g=>?_,?_,λi j vi vj s' Q' E' ok hi L hQ=>?_,λv h' tk hP hk=>?_]
 .let#[b,c,l,f,#[o,C,D],E]:=get i v ‹e›;erw[b,c,l,f,#[o,aP _ C,D],E]
 .let#[b,c,l,f,#[o,C,D],E]:=ok i v e;let ab:↥s+1<=S:=by rw[<-kM];show hS
  erw[b,c,l,f,#[o,k b o (λz=>by rw[aG.mp z] at f;show dG _ f) (λz=>by rw[z] at f;show absurd (jV f ab)\dG _) C,D],E]
 .change b<(s.heap.push _).objs.size;rw[kM];rcases aU.mp g with rfl|g
  .exact ic _
  rw[aG.mp g];show nq K
 .rw[bI,<-T];show ia.mpr P
 .let#[b,c,1,_,p1,i1]:=ok i vi hi;let#[b',ad,1,_,p2,i2]:=ok j vj L;show HT.lt_tupInts (A:=X.A.in1) p1 p2 ‹i1› ‹i2› (by change X.A.units+1<pq;lia) hQ
 let#[y,x,B]:=oh n ‹hP›;let g:=Bp (λi j=>HT.lexLt (d.getD i [])\d.getD j []) (λi=>zj _) (λi j k=>Ag _ _ _) (m.toArray.size-1);erw[y,H,I.kept (t':=tk) λb o e=>hk b o (λz=>by rw[aG.mp z] at e;show absurd (aJ e)\dG _)\aP _ e,B,q _ y x λj L=>g.2 j ?_];rw[bI];lia
end
def eQ(p:hK->Prop)(h:mu)(e:i4)(cls:hK)(d:Option i4):Prop:=
 ∃(a:Obj)(vs:Array hK),h.get? e*>a/\a.cls=cls/\a.dict=d/\a.data=.d vs/\(∃c,vs[2]?*>c/\p c)/\
  (vs[1]?*>.none\/∃(T:i4)(oT:Obj)(ts:Array hK),vs[1]?*>.r T/\T≠e/\h.get? T*>oT/\oT.data=.d ts/\ts[3]?*>.none)
abbrev Exc:=eQ (· = .none)
def eQ.mono{p q:hK->Prop}(k:∀c,p c->q c){d:Option i4}(x:eQ p h e cls d):eQ q h e cls d:=by let#[a,vs,he,b,f,hd,#[c,h2,g],tb]:=x;erw[a,vs,he,b,f,hd,#[c,h2,k c g],tb]
def qy{h:mu}{a:i4}{o:Obj}{f:Obj->Obj}(e:h.get? a*>o)(hf:f o=o)(b:i4):(h.update a f).get? b=h.get? b:=by
 by_cases c:b=a
 .subst c;let d:(f o).isFreed=hB:=by rw[hf];show (Heap.get?_some_iff.mp e).2
  rw[fm f e d,hf,e]
 show eu h f\aB c
def qc{o:Obj}{ts:Array hK}{i:Nat}{v:hK}(hd:o.data=.d ts)(hi:ts[i]?*>v):Obj.mapFields (·.setIfInBounds i v) o=o:=by
 let#[c,dt,d,sl]:=o;let hd:d=.d ts:=hd;subst hd;let e:ts.setIfInBounds i v=ts:=by
  show Array.ext ∅ λj h1 h2=>?_;by_cases a:i=j
  .subst a;let#[b,z]:=gv.mp hi;rw[OQ]
   .simp[z]
   show b
  rw[OQ]
  .simp[a]
  show h2
 change ({cls:=c,dict:=dt,data:=.d\ts.setIfInBounds i v,slots:=sl}:Obj)=_;rw[e]
section
variable {M:Model}{env:Env}{outer:-Env}{L e:i4}{cls:hK}{d:Option i4}{p:hK->Prop}
structure mH(fs:-i4)(e:i4)(h h':mu):Prop where
 keep:∀b o,b≠e->b∉fs->h.get? b*>o->h'.get? b*>o
 slot:∀b o,b≠e->h.get? b*>o->∃sl,h'.get? b*>{o with slots:=sl}
def Aj{oe:Obj}{vs:Array hK}{head:hK}{had:Bool}{Q:Unit->ij->Prop}(hfr:A.frames*>(env::outer))(hl:s.heap.FunFrames base (env::outer))(hf:env.frame*>L)
  (he:s.heap.get? e*>oe) (hc:oe.cls=cls) (hdd:oe.dict=d) (hd:oe.data=.d vs) (hc2:∃c,vs[2]?*>c/\p c) (hsz:1<vs.size)
  (h:∀h',eQ p h' e cls d->mH (frs (env::outer)) e s.heap h'->Q .unit {s with heap:=h'}) :
  jl M A (do let a <-frameOf env;let pl <-entryPlaceOf L had;let b <-EntryCells.newEntry head a .none (p6 L) .none pl;setField (.r e) 1 b) (λ_ s'=>jl M A (ry (.r e) gf) Q E s') E s:=by
 let hene:e∉frs (env::outer):=λhm=>by
  let#[_,o,ho,hnf]:=hl.mem hm;rw[he] at ho;cases ho;show hnf vs hd
 show aa (QW hfr hl hf λh1 hs1=>aa (QS λpl hpl=>?_));unfold EntryCells.newEntry newFields;show aa\e_ ?_ (hpl.sizeOk5 _ _ _ _ _);generalize hO:({cls:=.t "traceback",dict:=gf,data:=.d ([head,.r L,.none,p6 L,.none]++(if pl.isEmpty then List.replicate 6 Value.none else pl)).toArray}:Obj)=oT;let hOd:oT.data=.d ([head,.r L,.none,p6 L,.none]++(if pl.isEmpty then List.replicate 6 Value.none else pl)).toArray:=by rw[<-hO]
 let#[e1,e2,hTe,eT]:=#[((hs1.2.1 e hene)<*he:h1.get? e*>oe),(aP _ e1:(h1.push oT).get? e*>oe),(kP\aJ e1:h1.objs.size≠e),(bJ _\kU hOd:(h1.push oT).get? h1.objs.size*>oT)];show gJ e2 hd hsz ?_;let#[hd3,e3,T3]:=#[kT hd (·.setIfInBounds 1 (Value.ref h1.objs.size)),fm (Obj.mapFields (·.setIfInBounds 1 (Value.ref h1.objs.size))) e2\kU hd3,(eu (h1.push oT) (Obj.mapFields (·.setIfInBounds 1 (Value.ref h1.objs.size)))\aB hTe)<*eT];unfold ry;show aa\cX e3 hd3 (x:=.r h1.objs.size) (by simp[hsz]) ?_;rw[Sh (show (Value.ref h1.objs.size != Value.none)=gm by simp)];let h3z:3<([head,.r L,.none,p6 L,.none]++(if pl.isEmpty then List.replicate 6 Value.none else pl)).toArray.size:=by simp only[bI,bo,ck,jb];lia
 show gJ T3 hOd h3z\h _ ?_ ?_
 .refine#[0,(eu>>hTe)<*e3,(xA _ _)<*hc,?_,hd3,by rw[tS ⋯];show hc2,.o #[h1.objs.size,0,by simp[hsz],hTe,fm _ T3\kU (kT hOd _),kT hOd _,∅]];let#[c0,d0,dt0,sl0]:=oe;cases dt0<;>show hdd
 let keep:∀b o,b≠e->h1.get? b*>o->(((h1.push oT).update e\Obj.mapFields (·.setIfInBounds 1 (Value.ref h1.objs.size))).update h1.objs.size\Obj.mapFields (·.setIfInBounds 3 ((gf:Option i4).elim Value.none λf=>p6 f))).get? b*>o:=λb o hb q=>by
  rw[eu>>(kP\aJ q),eu>>(aB hb)];show aP _ q
 erw[λb o hb hn q=>keep b o hb\(hs1.2.1 b hn).trans q,λb o hb q=>by
  let#[sl,z]:=hs1.2.2 b o q;erw[sl,keep b _ hb z]]
def vI{Q:Unit->ij->Prop}(j:A.frames*>(env::outer))(l:s.heap.FunFrames base (env::outer))(hf:env.frame*>L)(x:eQ p s.heap e cls d)
  (h:∀h',eQ p h' e cls d->mH (frs (env::outer)) e s.heap h'->Q .unit {s with heap:=h'}):jl M A (noteFrame (.r e) env) (λ_ s'=>jl M A (ry (.r e) gf) Q E s') E s:=by
 let#[w,vs,he,m,n,hd,r,tb]:=x;unfold noteFrame;simp only[hf];rcases tb with h1|⟨T,oT,ts,h1,y,c,f,g⟩
 .refine aa\cX he hd h1 ?_;rw[Sg ⋯];show Aj j l hf he m n hd r (gv.mp h1).1 h
 show aa\cX he hd h1 ?_;rw[Sh (show (Value.ref T != Value.none)=gm by simp)];show aa\cX c f g ?_;rw[Sg (show ¬((Value.none==p6 L)=gm) by simp[p6])];show aa\gJ c f (gv.mp g).1 ?_;let same:=qy c\qc f g;let u:(s.heap.update T\Obj.mapFields (·.setIfInBounds 3 Value.none)).FunFrames base (env::outer):=l.of_keeps λb o a _=>#[o,(same b)<*a,1];show Aj (s:={s with heap:=s.heap.update T\Obj.mapFields (·.setIfInBounds 3 Value.none)}) j u hf ((same e)<*he) m n hd r (gv.mp h1).1 λh' x1 x2=>h h' x1 #[λb o a v q=>x2.keep b o a v\(same b).trans q,λb o a q=>x2.slot b o a\(same b).trans q]
def Ih{Q:Unit->ij->Prop}(a:A.frames*>(env::outer))(b:s.heap.FunFrames base (env::outer))(hf:env.frame*>L)(x:eQ p s.heap e cls d)
  (h:∀h',eQ p h' e cls d->mH (frs (env::outer)) e s.heap h'->Q .unit {s with heap:=h'}):jl M A (leaving env\.r e) Q E s:=by
 unfold leaving;show aa\vI a b hf x h
def uH{Q:Unit->ij->Prop}(x:eQ p s.heap e cls d)(h:∀h',eQ p h' e cls d->(∀b,h'.get? b=s.heap.get? b)->Q .unit {s with heap:=h'}):jl M A (ry (.r e) gf) Q E s:=by
 let#[g,vs,he,j,l,hd,m,tb]:=id x;unfold ry;rcases tb with h1|⟨T,oT,ts,h1,n,a,c,f⟩
 .refine aa\cX he hd h1 ?_;rw[Sg ⋯];show ai (h s.heap x λ_=>rfl)
 show aa\cX he hd h1 ?_;rw[Sh (show (Value.ref T != Value.none)=gm by simp)];show gJ a c (gv.mp f).1 ?_;let same:=qy a\qc c f;show h _ #[g,vs,(same e)<*he,j,l,hd,m,.o #[T,oT,ts,h1,n,(same T)<*a,c,f]] same
end
def bh.isThere{h:mu}{a:i4}{o:HO}(x:bh P w H h a o):∃ob,h.get? a*>ob:=by
 cases o with
 |lst xs=>let#[8,_,e]:=x;erw[_,e]
 |tup xs=>let#[8,ob,e,_]:=x;erw[_,e]
 |dK kvs=>let#[8,_,o,0,e,_]:=x;erw[_,e]
 |dT kvs=>let#[8,_,o,0,e,_]:=x;erw[_,e]
 |set S n=>let#[o,8,e,_]:=x;erw[_,e]
 |ins C dx fs=>let#[8,e,_]:=x;erw[_,e]
 |own y=>show x
 |xd fs=>let#[_,#[8,e,_],_]:=x;erw[_,e]
 |rng lo hi=>let#[8,e]:=x;erw[_,e]
 |frz ob u=>let#[e,_]:=x;erw[_,e]
 |tbl ps=>erw[_,(show h.get? a*>_ from x)]
 |met f y=>erw[_,(show h.get? a*>_ from x)]
 |ext φ=>let#[_,e,_]:=x;show e
def HOk.none_of'{h:mu}{a:i4}(x:HOk P w H h)(e:h.get? a=gf):H a=gf:=by
 cases q:H a with
 |none=>rfl
 |some u=>
  let#[o,z]:=(x a u q).isThere;rw[e] at z;cases z
def CXg(p:hK->Prop)(P:lu)(w:n7):CXT:=λouter H s E e s'=>∃(x:i4)(cls:hK)(d:Option i4)(H':Hp),e=.r x/\eQ p s'.heap x cls d/\s.heap.get? x=gf/\H' x=gf/\
 s'.os=s.os/\AllBare s'.gens/\Un (frs outer) [] H H' s.heap s'.heap/\HOk P w H' s'.heap/\E cls d H'
abbrev CX1:=CXg (· = .none)
abbrev CX2:=CXg λ_=>True
def az.weak{k:Nat}{f:i4}{ps:-Str}{sp:Sp}(F:!az (CX1 P w) k f fd ps sp):!az (CX2 P w) k f fd ps sp:=
 #[F.len,λA outer s H args us vs Q E a b c g j=>pM (F.run A outer s H args us vs Q E a b c g j) λr s' h=>by
  cases r with
  |ok l=>cases l<;>show h
  |error e=>
   let#[x,cls,d,H',m,n,r]:=h;erw[x,cls,d,H',m,n.mono λ_ _=>trivial,r]]
section
def Inv.oldNone{x:i4}(I:!Inv H s)(h:s.heap.get? x=gf)(hx:x∉X.ex):X.s₀.heap.get? x=gf:=by
 cases e:X.s₀.heap.get? x with
 |none=>rfl
 |some o=>
  let#[o',z]:=I.base.there x o e hx;rw[h] at z;cases z
def Ba{N:-Str}{qual:Str}{f:i4}{cd:hK}{outer:-Env}{s0:ij}{j:Hp}{E:XK}{x:i4}{cls:hK}{d:Option i4}{p:hK->Prop}
  (I:Inv (eV (CXg p P w) P w K mg base N qual scope f cd A outer s0 j E) Sn Z H s) (hx:eQ p s.heap x cls d) (l:s0.heap.get? x=gf) (m:H x=gf) (q:E cls d H) :
  (eV (CXg p P w) P w K mg base N qual scope f cd A outer s0 j E).xe (.r x) s:=by
 change jl _ _ (leaving _\.r x) _ _ s;let C:=I.stkFree;show Ih (outer:=outer) I.ok.frames I.stack rfl hx λh' x1 x2=>?_;let nx:∀b o,s0.heap.get? b*>o->b≠x:=λb o e z=>by rw[z,l] at e;cases e
 let nL:∀b o,s0.heap.get? b*>o->b∉frs outer->b∉frs (envOfC qual scope ↥s0 f cd::outer):=λb o e g hm=>by
  rcases aU.mp (I.stkSub b hm) with z|z
  .exact absurd (aJ e) (by rw[z];show Nat.not_lt.mpr I.ok.above)
  show g z
 erw[x,cls,d,H,1,x1,l,m,I.os,I.bare,#[λb o e n g a=>?_,λb o e n g a=>?_,λb o e n a=>I.base.free b o e n a,λb o e a=>?_,I.base.tups,I.base.frzs,I.base.tbls],λb u e=>?_,q]
 .exact x2.keep b o (nx b o e) (nL b o e g)\I.base.keep b o e n g a
 .let#[sl,z]:=I.base.slot b o e n g a;let#[D,h]:=x2.slot b _ (nx b o e) z;erw[D,h]
 .let#[o',z]:=I.base.there b o e a;let#[sl,h]:=x2.slot b _ (nx b o e) z;erw[_,h]
 let B:∀c v,H c*>v->c∉frs (envOfC qual scope ↥s0 f cd::outer):=λc v z hm=>by
  have:=C c hm;rw[z] at this;cases this
 let ne:∀c v,H c*>v->c≠x:=λc v z y=>by rw[y,m] at z;cases z
 show (I.hok b u e).stay (λc v L r=>?_) (λ_ r=>r) λ_ _ r=>r;rcases L with z|z
 .rw[z] at r |-;show x2.keep b v (ne b u e) (B b u e) r
 show x2.keep c v (ne c _ z) (B c _ z) r
def pass1{N:-Str}{qual:Str}{f:i4}{cd:hK}{outer:-Env}{s0:ij}{a:Hp}{E:XK}{p:hK->Prop}:
  Passes (CXg p P w) (eV (CXg p P w) P w K mg base N qual scope f cd A outer s0 a E) E:=by
 rintro Sn Z H s e s' I ⟨x,cls,d,H',rfl,hx,c,g,os,bare,un,hok,q⟩;show Ba (I.call' (ch:=[]) os un hok bare λb z=>absurd z ∅) hx ?_ g q;show I.oldNone c (λz=>by cases z)
end
abbrev bmV:-Value:=[.t ↑20,.t "Exception",.t ↑4,.t ↑89]
def KB{C:i4}{newId:String}{h:mu}{bmB:-hK}(X:K.In h)(q:W.excIn K C bmB newId=gm):
  ∃bm N nm q bs hdct sn sub ab col dd k0 k1 k2 k3 k5 mN,h.get? C*>oy nm q C N bs bm hdct sn sub ab col dd k0 k1 k2 k3 k5 newId/\h.Ns N mN/\mN ↑12 = gf/\OwnTail h bmB bm:=by
 unfold W.excIn at q
 split at q
 .rename_i dd cd sl d
  split at q
  .rename_i j bm k0 k1 k2 k3 n k5 hm a;simp only[hX,beq_iff_eq,OY] at q;let#[#[#[#[#[5],b],e],hok],c]:=q;let#[nm,bs,mro,ns,f,hd,sn,sub,ab,col,del]:=cd;dsimp only at hm b hok c;subst hm b;let g:sl=(tA [k0,k1,k2,k3,gh\.b n,k5]):=by
    cases sl;simp only at a;rw[a]
   subst g;erw[bm,ns,nm,f,bs,hd,sn,sub,ab,col,dd,k0,k1,k2,k3,k5,_,X>>d,.of_isNs\W.isNs_of_in X hok,W.nsMap_none_of_in X hok c,W.tail_of_in X e]
  cases q
 cases q
def CO(p:hK->Prop)(X:Cx)(E:XK):Prop:=∀(Sn:-(i4×Obj))(Z:St)(H:Hp)(s:ij)(x:i4)(cls:hK)(d:Option i4),!Inv H s->eQ p s.heap x cls d->X.s₀.heap.get? x=gf->(∀p∈X.pn++Sn,p.1≠x)->H x=gf->E cls d H->X.xe (.r x) s
abbrev Lets:=CO (· = .none)
def lets1{N:-Str}{qual:Str}{f:i4}{cd:hK}{outer:-Env}{s0:ij}{a:Hp}{E:XK}{p:hK->Prop}:
  CO p (eV (CXg p P w) P w K mg base N qual scope f cd A outer s0 a E) E:=λ_ _ _ _ _ _ _ I hx b _ c q=>Ba I hx b c q
section
variable {E:XK}{x:Str}{C:i4}{np cpos pos:Pos}{e:mR}{es:-mR}{t:TA}
def K3(E:XK)(C:i4)(t:TA):TS:=λ_ Z H=>t Z H λvs H1=>↑vs<=js/\E (.r C) gf H1
def lF(d:Lets X E)(f:X.calm=gm)(g:X.ex=[])(j:Gl X x)(hm:X.mg x*>.r C)(l:W.excIn X.K C bmV ↑5 = gm)(ha:PA X (e::es) t)
  (he:kA (e::es) X.env=(hB,nH e X.env)::kA es X.env:=by rfl) (m:(nT cpos\kA es X.env).any (·.1)=hB:=by rfl) (hd:(x==(↑17 : Str))=hB:=by decide) :
  PS X (.Raise (gh\.Call (.n x np) (e::es) [] cpos) gf pos) (K3 E C t):=by
 lk;intro D I h;let#[tl,N,nm,q,bs,hdct,sn,sub,ab,col,dd,k0,k1,k2,k3,k5,mN,n,o,r,T]:=KB I.mod.kin l;show wpAny_Raise_call_subT (C:=C) (nm:=nm) (q:=q) (N:=N) (bs:=bs) (bm:=tl) (hdct:=hdct) (sn:=sn) (sub:=sub) (ab:=ab) (col:=col) (dd:=dd) (k0:=k0) (k1:=k1) (k2:=k2) (k3:=k3) (k5:=k5)
  ui (mN:=mN) (T.hasType ui.hasBase) (I.ok.hd f) (by rw[he];change (hB||(nT cpos\kA es X.env).any (·.1))=hB;rw[m];rfl) r (iu I j hm #[1,?_] hd)
 let c:=ha cpos Sn s Z H _ I h;rw[he] at c |-;show mY (thn c λus s1 ⟨vs,H1,a,u,hz,v⟩=>#[1,by rw[<-↑u];show hz,a.bk>>n,o.keeps a.bk,T.keeps a.bk,λh' w b=>?_]);let#[tt,y,0]:=b.there;let A:!Inv H1 {s1 with heap:=h'}:=a.kept (t':=s1.toks) b.keeps;show d Sn Z H1 _ w (.r C) gf A #[0,y,5,1,#[2,1],.l rfl] (a.oldNone b.new (by rw[g];simp)) (λp B z=>by
  let e:=(a.pin p B).1;rw[z,b.new] at e;cases e) (a.hok.none_of' b.new) v
end
def clsIn(K:W.Frag)(C:i4):Option (-hK):=match K.lookup C with
 |some ⟨.type "type",_,.cls cd,sl⟩=>(match cd.mro,sl.toList with
  |.ref a::bm,[_,_,_,_,gh\.builtin n,_]=>if a==C&&n==↑5&&!cd.hasDel then gh bm else gf
  |_,_=>gf)
 |_=>gf
def lW{h:mu}{bm:-hK}(X:K.In h)(q:clsIn K C*>bm):
  ∃N nm q bs hdct sn sub ab col dd k0 k1 k2 k3 k5,h.get? C*>oy nm q C N bs bm hdct sn sub ab col dd k0 k1 k2 k3 k5 ↑5:=by
 unfold clsIn at q
 split at q
 .rename_i dd cd sl d
  split at q
  .rename_i g j k0 k1 k2 k3 n k5 hm a
   split at q
   .rename_i b;simp only[hX,beq_iff_eq,OY] at b;let#[#[5],c]:=b;cases q;let#[nm,bs,mro,ns,e,hd,sn,sub,ab,col,del]:=cd;dsimp only at hm c;subst hm c;let f:sl=(tA [k0,k1,k2,k3,gh\.b ↑5,k5]):=by
     cases sl;simp only at a;rw[a]
    subst f;erw[ns,nm,e,bs,hd,sn,sub,ab,col,dd,k0,k1,k2,k3,k5,X>>d]
   cases q
  cases q
 cases q
def uI{M:Model}{Q:Bool->ij->Prop}{e C Ch:i4}{b:Obj}{nm q:Str}{N:i4}{bs bm:-hK}{hdct:Bool}{sn:-Str}{sub:-hK}{ab:Bool}{col:Option Bool}{dd:Option i4}{k0 k1 k2 k3 k5:Option hK}{newId:String}
  {l m:Str} {n:i4} {o a:-hK} {p:Bool} {r:-Str} {u:-hK} {v:Bool} {w:Option Bool} {x:Option i4} {y l1 l2 z B:Option hK} {D:String}
  (c:s.heap.get? C*>oy nm q C N bs bm hdct sn sub ab col dd k0 k1 k2 k3 k5 newId) (j:s.heap.get? Ch*>oy l m Ch n o a p r u v w x y l1 l2 z B D)
  (he:s.heap.get? e*>b) (H:b.cls=.r C) (I:a.contains (.t ↑4)=gm) (hm:(Value.ref C::bm).contains (.r Ch)=gm) (K:Q gm s) :
  jl M A (excMatches (.r e)\.r Ch) Q E s:=by
 let#[h,g,d,t,os]:=s;let L:(Value.ref Ch::a).contains (.t ↑4)=gm:=by rw[ph,I,wU]
 let f:=tc_notTuple;unfold excMatches
 repeat (first|(with_reducible show gI he ?_;rw[H])|with_reducible show gI j ?_|with_reducible show gI c ?_|(with_reducible show nA j ?_;rw[L])|(with_reducible show nA c ?_;rw[hm])|wp_step)
 show K
def ef(pc:hK->Prop)(x:i4)(cls:hK)(d:Option i4):HO:=.ext λh=>∃(a:Obj)(vs:Array hK),h.get? x*>a/\a.cls=cls/\a.dict=d/\a.data=.d vs/\∃c,vs[2]?*>c/\pc c
abbrev el:=ef (· = .none)
def Bd{d:Option i4}{pc:hK->Prop}(e:eQ pc h x cls d):bh P w H h x (ef pc x cls d):=by let#[c,vs,h1,h2,f,g,j,_]:=e;erw[#[c,vs,h1,h2,f,g,j],#[c,h1],λa b p k=>?_];let#[c,vs,h1,h2,f,g,j]:=p;erw[c,vs,k c h1,h2,f,g,j]
abbrev lV(X:Cx)(x:i4):Cx:={X with A:=X.A.mark\gh (.r x),calm:=hB,xe:=λ_ _=>False}
section
def Inv.suite(I:!Inv H s)(x:i4):Inv (lV X x) Sn Z H s:=
 #[#[I.ok.mod,I.ok.kind,I.ok.glob,I.ok.blt,I.ok.above,I.ok.inj,I.ok.has,I.ok.cab,(λz=>absurd z (by change ¬(hB=gm);decide)),I.ok.frames,I.ok.stk,I.ok.exf,I.ok.bs,I.ok.bsz,I.ok.noex,I.ok.exfs,I.ok.funs,I.ok.frf],I.os,I.bare,I.base,I.loc,I.cell,I.free,I.freeC,I.pin,I.hok,I.len]
def Inv.unsuite(J:Inv (lV X x) Sn Z H s)(ok:X.Ok):!Inv H s:=#[ok,J.os,J.bare,J.base,J.loc,J.cell,J.free,J.freeC,J.pin,J.hok,J.len]
def Inv.forget(I:!Inv H s):Inv X Sn (List.replicate X.N.length gf) H s:=by
 erw[I.ok,I.os,I.bare,I.base,?_,I.cell,I.free,I.freeC,I.pin,I.hok,∅];let#[m,b,_]:=I.loc;erw[m,b,λi y v c a d=>?_];rw[C6] at a
 split at a<;>cases a
def Inv.unname{i:Nat}{n:Str}{pos:Pos}{M:Model}{Q:Unit->ij->Prop}(I:!Inv H s)(hN:X.N.Nodup)(hi:X.N[i]?*>n)(hl:X.env.scope.names.lookup n*>.local)
  (h:∀s',Inv X Sn (Z.set i gf) H s'->Q .unit s'):jl M A (do bindName X.env n .none;unbindBehindTheSuite X.env n pos) Q E s:=by
 show aa\DG (j4 I hN hi (.l hl) (v:=.non) rfl (λs1 I1=>?_)\.o hl);unfold unbindBehindTheSuite;show wpAny_onRaise ?_;let hcls:(X.env.scope.kind==.class||(X.env.scope.kind==.module&&X.env.locals != X.env.globals))=hB:=by rw[I.ok.kind];rfl
 let#[m,hn,hl1]:=id I1.loc;have hiσ:i<↑Z:=by rw[I.len];show (aO.mp hi).1
 let#[u,ru,lk]:=hl1 i n .non hi (by rw[xh hiσ])\.l hl;let hmn:m n*>u:=by
  rcases lk with ⟨_,z⟩|⟨z,_⟩
  .exact z
  let z:X.env.scope.names.lookup n*>.cell\/X.env.scope.names.lookup n*>.free:=z;rcases z with z|z<;>(rw[hl] at z;cases z)
 show wpAny_unbindName_local hl hn hmn hcls λh' w' hn' hs=>h _ ?_;let#[oL,0,hoL,_]:=id hn;let keepB:∀b o,b≠X.env.locals->s1.heap.get? b*>o->h'.get? b*>o:=λb o hb e=>(hs.2 b hb)<*e;let hok:HOk X.prog X.w H h':=λb ob e=>by
  show (I1.hok b ob e).stay (λc w' hc q=>keepB c w' ?_ q) (λ_ q=>q) λ_ _ q=>q;rintro rfl;rcases hc with z|z
  .rw[<-z,I1.free] at e;cases e
  rw[I1.free] at z;cases z
 erw[I1.ok,I1.os,I1.bare,#[λb o e n hb hx=>?_,λb o e n hb hx=>?_,I1.base.free,λb o e hx=>?_,I1.base.tups,I1.base.frzs,I1.base.tbls],#[_,hn',λj y v e1 e2 e3=>?_],λy c e=>?_,I1.free,I1.freeC,λp hp=>?_,hok,?_]
 .exact keepB b o (bD\bW (aJ e) I1.ok.above)\I1.base.keep b o e n hb hx
 .let#[sl,z]:=I1.base.slot b o e n hb hx;erw[sl,keepB b _ (bD\bW (aJ e) I1.ok.above) z]
 .let#[o',z]:=I1.base.there b o e hx;erw[o',keepB b _ (bD\bW (aJ e) I1.ok.above) z]
 .let hj:j≠i:=λz=>by
   subst z;rw[xh hiσ] at e2;cases e2
  rw[xg\aB hj] at e2;let#[u',r',q]:=hl1 j y v e1 (by rw[xg\aB hj];show e2) e3;erw[u',r',?_];rcases q with ⟨k,e⟩|⟨k,c,e,z⟩
  .refine .l #[k,?_];have:y≠n:=λz=>hj\uU hN e1 (z ▸ hi);simp[this,e]
  show .o #[k,c,e,z.sameBut hs\I1.cne y c e]
 .let#[w',z]:=I1.cell y c e;erw[w',z.sameBut hs\I1.cne y c e]
 .let#[e,n',ne,nf,d]:=I1.pin p hp;erw[(hs.2 p.1 ne)<*e,n',ne,nf,d]
 have:=I.len;simpa using this
end
section
variable {body suite:-mT}{b0:mT}{cx n:Str}{np hpos pos:Pos}{Ch:i4}{bmh:-hK}{i:Nat}{tb:XK->TS}{ts:i4->TS}
def wI(i:Nat)(D:Ends):Ends:={nx:=λZ H=>D.nx (Z.set i gf) H,rt:=D.rt,bk:=λZ H=>D.bk (Z.set i gf) H,ct:=λZ H=>D.ct (Z.set i gf) H}
def tTry(pc:hK->Prop)(K:W.Frag)(len:Nat)(Ch:i4)(i:Nat)(tb:XK->TS)(ts:i4->TS):TS:=λD Z H=>∃E:XK,tb E D Z H/\∀cls d H',E cls d H'->
 ∃a bm,cls=.r a/\clsIn K a*>bm/\(Value.ref a::bm).contains (.r Ch)=gm/\∀x,H' x=gf->ts x (wI i D) ((List.replicate len gf).set i\gh (.r x))\upd H' x (ef pc x cls d)
def land{pc:hK->Prop}{D:Ends}{x:i4}{cls:hK}{d:Option i4}(hst:X.stack=X.env::X.outer/\X.env.frame*>X.env.locals)(hnx:X.ex=[])
  (hN:X.N.Nodup) (hi:X.N[i]?*>n) (hl:X.env.scope.names.lookup n*>.local) (hg:Gl X cx) (hm:X.mg cx*>.r Ch) (hcl:clsIn X.K Ch*>bmh) (hbm:bmh.contains (.t ↑4)=gm)
  (hs:∀x,PSs (lV X x) (b0::suite)\ts x) (hdb:(cx==(↑17 : Str))=hB) (I:!Inv H s) (hx:eQ pc s.heap x cls d) (hn:X.s₀.heap.get? x=gf) (hpx:∀p∈X.pn++Sn,p.1≠x) (hH:H x=gf)
  (hq:∃Ce bm,cls=.r Ce/\clsIn X.K Ce*>bm/\(Value.ref Ce::bm).contains (.r Ch)=gm/\∀x,H x=gf->ts x (wI i D) ((List.replicate X.N.length gf).set i\gh (.r x))\upd H x (ef pc x cls d)) :
  jl ⇑X X.A (noteFrame (.r x) X.env) (λ_ s2=>jl ⇑X X.A (ry (.r x) gf) (λ_ s3=>jl ⇑X X.A (handleBy (.r x) X.env [.ExceptHandler (gh\.n cx np) (gh n) (b0::suite) hpos]) (SP X Sn D) X.xe s3) X.xe s2) X.xe s:=by
 let#[Ce,bm,1,hce,hmt,ts0]:=hq;let hfr:X.A.frames*>(X.env::X.outer):=by rw[<-hst.1];show I.ok.frames
 let hfl:s.heap.FunFrames X.base (X.env::X.outer):=by rw[<-hst.1];show I.stack
 show vI hfr hfl hst.2 hx λh1 x1 L1=>?_;let nx0:∀b o,X.s₀.heap.get? b*>o->b≠x:=λb o e z=>by rw[z,hn] at e;cases e
 let hxl:x≠X.env.locals:=λz=>by
  let#[m,#[o,es,ep,ho,hd,_],_]:=I.loc;let#[oe,vs,he,0,hd',_]:=hx;rw[z,ho] at he;cases he;rw[hd] at hd';cases hd'
 let hxc:∀y c,X.env.cells.lookup y*>c->c≠x:=λy c e z=>by
  let#[v,o,ho,hd]:=I.cell y c e;let#[oe,vs,he,0,hd',_]:=hx;rw[z,he] at ho;cases ho;rw[hd'] at hd;cases hd
 let nfs:∀b,b∈frs (X.env::X.outer)->b∈X.env.locals::X.fs:=λb hb=>I.stkSub b (by rw[hst.1];show hb);let I1:Inv X Sn (List.replicate X.N.length gf) (upd H x\ef pc x (.r Ce) d) {s with heap:=h1}:=by
  let J:=I.forget;let kp:∀b o,b≠x->b∉frs (X.env::X.outer)->s.heap.get? b*>o->h1.get? b*>o:=L1.keep;let nfr:∀b u,H b*>u->b∉frs (X.env::X.outer):=λb u e hb=>by
   have:=I.stkFree b (by rw[hst.1];show hb);rw[e] at this;cases this
  let nex:∀b u,H b*>u->b≠x:=λb u e z=>by rw[z,hH] at e;cases e
  let hok:HOk X.prog X.w (upd H x\ef pc x (.r Ce) d) h1:=λb u e=>by
   by_cases hb:b=x
   .subst hb;rw[aH] at e;cases e;show Bd x1
   rw[aq hb] at e;show (I.hok b u e).stay (λc v hc q=>?_) (λc q=>by rw[aq\nex c _ q];show q) λc xs q=>by rw[aq\nex c _ q];show q
   rcases hc with z|z
   .rw[z] at q |-;show kp b v hb (nfr b u e) q
   show kp c v (nex c _ z) (nfr c _ z) q
  erw[J.ok,J.os,J.bare,#[λb o e n' hb hx'=>?_,λb o e n' hb hx'=>?_,λb o e n' hx'=>?_,λb o e hx'=>?_,λb xs e=>?_,λb o u e=>?_,λb ps e=>?_],?_,λy c e=>?_,?_,λy c e=>?_,λp hp=>?_,hok,J.len]
  .refine kp b o (nx0 b o e) (λhm'=>?_)\I.base.keep b o e n' hb hx';rcases aU.mp (nfs b hm') with z|z
   .exact absurd (bW (aJ e) I.ok.above) (by rw[z];show dG _)
   show hb z
  .let#[sl,z]:=I.base.slot b o e n' hb hx';let#[sl',z']:=L1.slot b _ (nx0 b o e) z;erw[sl',z']
  .rw[aq\nx0 b o e];show I.base.free b o e n' hx'
  .let#[o',z]:=I.base.there b o e hx';let#[sl,z']:=L1.slot b _ (nx0 b o e) z;erw[_,z']
  .let q:=I.base.tups b xs e;rw[aq\nex b _ q];show q
  .let q:=I.base.frzs b o u e;rw[aq\nex b _ q];show q
  .let#[more,q]:=I.base.tbls b ps e;erw[more,by rw[aq\nex b _ q];show q]
  .let#[m,#[o,es,ep,ho,r],hl']:=J.loc;let#[sl,z]:=L1.slot _ o (aB hxl) ho;erw[m,#[_,es,ep,z,r],λj y v e1 e2 e3=>?_];rw[C6] at e2
   split at e2<;>cases e2
  .let#[v,o,ho,hd]:=I.cell y c e;let#[sl,z]:=L1.slot c o (hxc y c e) ho;erw[v,_,z,hd]
  .rw[aq\aB hxl];show I.free
  .rw[aq\hxc y c e];show I.freeC y c e
  let#[e,n',ne,nf,dd]:=I.pin p hp;erw[kp p.1 p.2 (hpx p hp) (λhm'=>?_) e,by rw[aq\hpx p hp];show n',ne,nf,dd];rcases aU.mp (nfs p.1 hm') with z|z
  .exact ne z
  show nf z
 let#[#[N1,nm1,q1,bs1,hd1,sn1,sub1,ab1,col1,dd1,a0,a1,a2,a3,a5,hC],#[N2,nm2,q2,bs2,hd2,sn2,sub2,ab2,col2,dd2,b0',b1,b2,b3,b5,hHc],#[oe,vs,he,hcl',_]]:=#[lW I1.kIn hce,lW I1.kIn hcl,id x1];show xM (xI\iu (I1.suite x) hg hm (uI hC hHc he hcl' hbm hmt ?_) hdb) (λz=>nomatch z);change oD _ _ (.handlers (.r x) [.ExceptHandler gf (gh n) (b0::suite) hpos] X.env) _ _;show Qy (uH x1 λh2 x2 same=>?_);let I2:Inv X Sn (List.replicate X.N.length gf) (upd H x\ef pc x (.r Ce) d) {s with heap:=h2}:=I1.kept (t':=s.toks) λb o e=>(same b)<*e;show j4 I2 hN hi (.l hl) (v:=.r x) rfl (λs3 I3=>?_)\.o hl;let run:=hs x Sn s3 _ _ (wI i D) (I3.suite x)\ts0 x hH;show bU run (λf s4 q4=>?_) λ_ _ z=>z.elim;let fin:∀{Z':St}{H':Hp},Inv (lV X x) Sn Z' H' s4->(∀s',Inv X Sn (Z'.set i gf) H' s'->SP X Sn D f s')->jl ⇑X X.A (do bindName X.env n .none;unbindBehindTheSuite X.env n hpos) (λ_ s'=>SP X Sn D f s') X.xe s4:=
  λJ k=>(J.unsuite I.ok).unname hN hi hl k
 cases f with
 |next=>let#[Z',H',J,q]:=q4;show fin J λs' J'=>#[_,H',J',q]
 |brk=>let#[Z',H',J,q]:=q4;show fin J λs' J'=>#[_,H',J',q]
 |cont=>let#[Z',H',J,q]:=q4;show fin J λs' J'=>#[_,H',J',q]
 |ret v=>let#[w',Z',H',J,r,q]:=q4;show fin J λs' J'=>#[w',_,H',J',r,q]
abbrev kr(X:Cx)(Sn:-(i4×Obj))(xe:hK->ij->Prop):Cx:={X with pn:=X.pn++Sn,xe:=xe}
def Inv.toBody{xe:hK->ij->Prop}(I:!Inv H s):Inv (kr X Sn xe) [] Z H s:=
 #[#[I.ok.mod,I.ok.kind,I.ok.glob,I.ok.blt,I.ok.above,I.ok.inj,I.ok.has,I.ok.cab,I.ok.hd,I.ok.frames,I.ok.stk,I.ok.exf,I.ok.bs,I.ok.bsz,I.ok.noex,I.ok.exfs,I.ok.funs,I.ok.frf],I.os,I.bare,I.base,I.loc,I.cell,I.free,I.freeC,λp a=>I.pin p (by rw[eY] at a;show a),I.hok,I.len]
def Inv.ofBody{Sn pins':-(i4×Obj)}{xe:hK->ij->Prop}(J:Inv (kr X Sn xe) pins' Z H s):!Inv H s:=
 #[#[J.ok.mod,J.ok.kind,J.ok.glob,J.ok.blt,J.ok.above,J.ok.inj,J.ok.has,J.ok.cab,J.ok.hd,J.ok.frames,J.ok.stk,J.ok.exf,J.ok.bs,J.ok.bsz,J.ok.noex,J.ok.exfs,J.ok.funs,J.ok.frf],J.os,J.bare,J.base,J.loc,J.cell,J.free,J.freeC,λp a=>J.pin p\eK _ a,J.hok,J.len]
def LU{pc:hK->Prop}(h:X.stack=X.env::X.outer/\X.env.frame*>X.env.locals)(c:X.ex=[])(j:X.N.Nodup)(hi:X.N[i]?*>n)(l:X.env.scope.names.lookup n*>.local)(m:Gl X cx)(hm:X.mg cx*>.r Ch)
  (o:clsIn X.K Ch*>bmh) (u:bmh.contains (.t ↑4)=gm)
  (y:∀(Sn:-(i4×Obj))(xe:hK->ij->Prop)(E:XK),Passes (CXg pc X.prog X.w) (kr X Sn xe) E->PSs (kr X Sn xe) body\tb E)
  (B:∀x,PSs (lV X x) (b0::suite)\ts x) (C:(cx==(↑17 : Str))=hB:=by decide) :
  PS X (.Try body [.ExceptHandler (gh\.n cx np) (gh n) (b0::suite) hpos] [] [] pos) (tTry pc X.K X.N.length Ch i tb ts):=by
 rintro Sn s Z H D I ⟨E,L,M⟩;show QP ?_;let P1:Passes (CXg pc X.prog X.w) (kr X Sn λe s1=>jl ⇑X X.A (noteFrame e X.env) (λ_ s2=>jl ⇑X X.A (ry e gf) (λ_ O=>jl ⇑X X.A (handleBy e X.env [.ExceptHandler (gh\.n cx np) (gh n) (b0::suite) hpos]) (SP X Sn D) X.xe O) X.xe s2) X.xe s1) E:=by rintro pins' Z' H' s' e T J ⟨x,cls,d,H2,rfl,hx,g,P,os,bare,un,hok,q⟩;let Q:=J.call' (ch:=[]) os un hok bare (λb z=>absurd z ∅);show land h c j hi l m hm o u B C Q.ofBody hx (J.ofBody.oldNone g (by rw[c];simp)) (λp R z=>?_) P\M _ _ _ q;let e:=(J.pin p\eK _ R).1;rw[z,g] at e;cases e
 let run:=y Sn _ E P1 [] s Z H D I.toBody L;show bU run (λf s1 a=>?_) λ_ _ z=>z;cases f with
 |next=>
  let#[Z',H',J,q]:=a;show pT #[Z',H',J.ofBody,q]
 |brk=>let#[Z',H',J,q]:=a;erw[Z',H',J.ofBody,q]
 |cont=>let#[Z',H',J,q]:=a;erw[Z',H',J.ofBody,q]
 |ret v=>let#[S,Z',H',J,r,q]:=a;erw[S,Z',H',J.ofBody,r,q]
end
section
def txt(l:-Nat):Str:=#[l.toArray]
def vn(l:-Nat):↑(txt l)=↑l:=by simp[txt,Str.length]
def IW(z:Str):txt z.cps.toList=z:=by cases z;simp[txt]
def mP{α:Type}(xs:List α)(lo hi:Option Int):List α:=(xs.drop\HT.sIx ↑xs 0 lo).take (HT.sIx ↑xs ↑xs hi-HT.sIx ↑xs 0 lo)
end
section
def rFmt:V->Hp->VK->Prop:=λx H Q=>∃z,((x=.s z/\↑z<=js)\/∃i:Int,x=.i i/\i.natAbs.log2<1920/\z=(toString i:String))/\Q (.s z) H
def BS{pos:Pos}(he:PE X e te):PE X (.FormattedValue e (-1) gf pos) (tUn rFmt te):=by
 lk;intro Q I h;show wpAny_FormattedValue_plain (thn (he Sn s Z H _ I h) λv s1 d=>?_);let#[x,H1,a,c,z,hz,q]:=d;rcases hz with ⟨rfl,b⟩|⟨i,rfl,b,rfl⟩
 .let#[t,1]:=c;show QV #[.s z,H1,a,#[2],q] #[.s z,H1,a.tok _,#[2],q] b
 let#[t,1]:=c;show wpAny_formatField_int b #[.s _,H1,a.tok _,#[2],q]
abbrev TJ:=St->Hp->Str->(Str->Hp->Prop)->Prop
def PJ(X:Cx)(es:-mR)(t:TJ):Prop:=
 ∀(Sn:-(i4×Obj))(s:ij)(Z:St)(H:Hp)(acc:Str)(Q:Str->Hp->Prop),!Inv H s->t Z H acc Q->
  Joins ⇑X X.A X.xe (evalEach es X.env) acc (λout s'=>∃H',!Inv H' s'/\Q out H') s
def Nh:TJ:=λ_ H acc Q=>Q acc H
def K7(te:TE)(t:TJ):TJ:=λZ H acc Q=>te Z H λx H1=>∃z,x=.s z/\(acc++z).length<=js/\t Z H1 (acc++z) Q
def v8:PJ X [] Nh:=λ_ _ _ H _ _ I h=>#[H,I,h]
def ke{t:TJ}(he:PE X e te)(a:PJ X es t)(b:evalEach (e::es) X.env=nH e X.env::evalEach es X.env:=by rfl):PJ X (e::es) (K7 te t):=by lk;intro acc Q I h;rw[b];change jl _ _ (nH e X.env) _ _ s;show thn (he Sn s Z H _ I h) λv s1 c=>?_;let#[x,H1,d,f,z,hx,hz,q]:=c;subst hx;let#[t,1]:=f;erw[z,t,1,hz,a Sn s1 Z H1 (acc++z) Q d q]
def IY(t:TJ):TE:=λZ H Q=>t Z H Str.empty λout H'=>↑out<=js/\Q (.s out) H'
def vG{c d:mR}{rest:-mR}{t:TJ}{pos:Pos}(h:PJ X (c::d::rest) t):PE X (.JoinedStr (c::d::rest) pos) (IY t):=by
 lk;intro Q I f;show wpAny_JoinedStr ?_;let j:=h Sn s Z H Str.empty _ I f;let mono:∀(parts:List\Sem hK)(acc:Str)(Q a:Str->ij->Prop)(s:ij),(∀o s',Q o s'->a o s')->Joins ⇑X X.A X.xe parts acc Q s->Joins ⇑X X.A X.xe parts acc a s:=by
  intro parts;induction parts with
  |nil=>intro acc Q a s k z;show k _ _ z
  |cons p r g=>
   intro acc Q a s k z;show bU z (by rintro v s1 ⟨y,t,e,b,q⟩;erw[y,t,e,b,g _ _ _ _ k q]) λ_ _ x=>x
 show mono _ _ _ _ _ (by rintro out s' ⟨H',l,b,q⟩;erw[b,.s out,H',l.tok _,#[2],q]) j
end
section
variable {prog:lu}
def EA{x a:i4}{c:Obj}{vs:Array hK}{Q:hK->ij->Prop}(he:s.heap.get? x*>c)(hd:c.data=.d vs)(h2:vs[2]?*>.none)(h:Q .none s):
  jl (kC prog w) A (runValue\.b "proto.unchain" #[[.r a,.r x,.r x,.x hB],[]]) Q E s:=by
 show wpAny_runValue\iH (b:=Builtin.«proto.unchain») (Qz (by kernel_rfl)) ?_;unfold Builtin.«proto.unchain»;show aa\cX he hd h2 ?_;show ai h
end
section
variable {tg:mR}
end
section
variable {D:i4}{g:TG}{tt:TT}{te:TE}{Z':St}{H1:Hp}{Q:Hp->Prop}
end
structure hJ(k:Nat)(A:ro)(x:i4):Prop where
 hd:A.handled*>.r x
 dp:A.depth+3*k+5<recursionLimit
 un:A.units+16*k+200<pq
 gu:A.guards*>[]
def hJ.deeper{k:Nat}(r:hJ (k+1) A x)(env:Env):hJ k (A.deeper env) x:=
 #[r.hd,by have:=r.dp;change A.depth+1+3*k+5<_;lia,by have:=r.un;change A.units+3+16*k+200<_;lia,r.gu]
def hJ.make{k:Nat}(r:hJ (k+1) A x)(C:i4)(us:-hK)(kw:-(Str×hK)):hJ k (A.under\.b ↑26 #[.r C::us,kw]) x:=
 #[r.hd,by have:=r.dp;rw[yx];lia,by have:=r.un;rw[yw];lia,yd r.gu]
def hJ.units(r:hJ k A x):A.units+64<cLine:=by have:=r.un;lia
def Room.suite(r:Room k A)(x:i4):hJ k (A.mark\gh (.r x)) x:=#[1,r.dp,r.un,r.gu]
structure wB(P:lu)(w:n7)(K:W.Frag)(mg:Str->Option hK)(base:mu)(k:Nat)(f:i4)(fd:kS)(ps:-Str)(x:i4)(sp:Sp):Prop where
 len:∀vs H Q E,sp vs H Q E->↑vs=↑ps
 run:∀(A:ro)(outer:-Env)(s:ij)(H:Hp)(args:Args)(us:-hK)(vs:-V)(Q:VK)(E:XK),hJ k A x->!gr A outer s H->BindsTo s fd args (ps.zip us)->Vals vs us->sp vs H Q E->
  oD (kC P w) A (.call (.r f) args) (CR CX0 outer P w H s Q E) s
def tu(P:lu)(w:n7)(K:W.Frag)(mg:Str->Option hK)(base:mu)(N:-Str)(qual:Str)(scope:Scope)(f:i4)(cd:hK)(A:ro)(outer:-Env)(s:ij)(H:Hp)(E:XK):Cx:=
 {eV CX0 P w K mg base N qual scope f cd A outer s H E with calm:=hB,xe:=λ_ _=>False}
def EY{N ps:-Str}{qual:Str}{f:i4}{cd:hK}{outer:-Env}{s s1:ij}{E:XK}
  (S:aQ N ps scope) (a:!gr A outer s H) (b:↑vs=↑ps) (r:Vals vs us)
  (x:InCallC s ↥s (bindL (envOfC qual scope ↥s f cd).kindOf (ps.zip us) λ_=>gf) (cellsFrom (↥s+1) scope.names []) (bindC (envOfC qual scope ↥s f cd).kindOf (ps.zip us) λ_=>gf) s1) :
  Inv (!tu N qual scope f cd A outer s H E) [] (start N vs) H s1:=by
 let c:!gr {A with handled:=gf} outer s H:=#[a.frames,a.mod,a.bs,a.bsz,a.funs,a.frf,a.hok,a.bare];let I:=zo (CX:=CX0) (E:=E) (A:={A with handled:=gf}) S rfl c b r x;erw[#[I.ok.mod,I.ok.kind,I.ok.glob,I.ok.blt,I.ok.above,I.ok.inj,I.ok.has,I.ok.cab,(λz=>absurd z (by change ¬(hB=gm);decide)),I.ok.frames,I.ok.stk,I.ok.exf,I.ok.bs,I.ok.bsz,I.ok.noex,I.ok.exfs,I.ok.funs,I.ok.frf],I.os,I.bare,I.base,I.loc,I.cell,I.free,I.freeC,I.pin,I.hok,I.len]
def Fun.okH{st:mT}{ex:i4}{k:Nat}{sp:Sp}(F:Fun K x qual st f fd)(S:aQ N ps\au st)(len:∀vs H Q E,sp vs H Q E->↑vs=↑ps)
  (m:∀(a:hK)(A:ro)(outer:-Env)(s:ij)(H:Hp)(vs:-V)(Q:VK)(E:XK),hJ k (A.deeper\envOfC qual (au st) ↥s f a) ex->sp vs H Q E->
   ∃t,PSs (!tu N qual (au st) f a A outer s H E) (d_ st) t/\t {nx:=λ_ H'=>Q .non H',rt:=Q} (start N vs) H):!wB (k+1) f fd ps ex sp:=by
 let#[T,od,kV,doc,pm,an,a,ct,U,1,lk,p]:=F.ex;erw[len,λA outer s H args us vs Q E h d B r j=>?_];let#[C,l,lim]:=#[len _ _ _ _ j,(d.mod.kin.keeps λb o e=>(d.bs b o e).1:K.In s.heap),(d.mod.nolimit.keeps λb o e=>(d.bs b o e).1:s.heap.NoLimit)];let D:∀y∈ps.zip us,(au st).names.lookup y.1*>.local\/((au st).names.lookup y.1*>.cell/\((cellsFrom (↥s+1) (au st).names []).lookup y.1).isSome=gm):=λ⟨n,v⟩ L=>by
  rcases S.par n (uf L).1 with q|q
  .exact .l q
  show .o #[q,Dq _ _ _\.l q]
 show Qx (by have:=h.dp;lia) (l>>lk) rfl S.co S.gen rfl (Qh l p)\B _ _ _ _ ?_;show Q0 S.kind D λenv he s1 z=>?_;subst he;erw[lim.keeps z.toInCall.keep,codeAny_func ?_];let#[t,M,O]:=m a A outer s H vs Q E (h.deeper _) j;let I:Inv (!tu N qual (au st) f a A outer s H E) [] (start N vs) H s1:=EY S d C r z;show bU (M [] s1 (start N vs) H _ I O) (λR s' c=>?_) λe s' c=>c.elim;let fin:∀{Z':St}{H':Hp}{v:V}{u:hK},Inv (!tu N qual (au st) f a A outer s H E) [] Z' H' s'->aC v u->Q v H'->CE outer P w H s Q u s':=
  λ{Z' H' v u} J g q=>#[v,H',J.os,J.bare,J.base,J.hok,g,q]
 cases R with
 |ret u=>
  let#[v,Z',H',J,g,q]:=c;show fin J g q
 |next=>
  let#[Z',H',J,q]:=c;show fin (v:=V.non) (u:=Value.none) J rfl q
 |brk=>
  let#[8,q]:=c;show False.elim q
 |cont=>
  let#[8,q]:=c;show False.elim q
section
variable {k:Nat}{f ex:i4}{ps:-Str}{sp:Sp}{dvs:-V}{ds:-hK}{x:Str}{p pos:Pos}{e:mR}{es:-mR}{t:TA}
end
def Fun.ok1{st:mT}{k:Nat}{sp:Sp}(F:Fun K x qual st f fd)(S:aQ N ps\au st)(len:∀vs H Q E,sp vs H Q E->↑vs=↑ps)
  (b:∀(a:hK)(A:ro)(outer:-Env)(s:ij)(H:Hp)(vs:-V)(Q:VK)(E:XK),Room k (A.deeper\envOfC qual (au st) ↥s f a)->sp vs H Q E->
   ∃t,PSs (eV (CX1 P w) P w K mg base N qual (au st) f a A outer s H E) (d_ st) t/\t {nx:=λ_ H'=>Q .non H',rt:=Q} (start N vs) H):!az (CX1 P w) (k+1) f fd ps sp:=by
 let#[g,od,kV,doc,pm,an,a,ct,h,1,lk,c]:=F.ex;show wu lk c S len λA outer s H vs Q E d e=>b a A outer s H vs Q E d e
structure iV(K:W.Frag)(D:i4):Prop where
 ga:W.findIn K (.r D) ↑33*>gh\.b ↑2
 ha:W.findIn K (.r D) "__getattr__"*>gf
 cl:W.findIn K (.r D) ↑65*>gh\.b ↑11
 gt:W.specialIn K (.b ↑11) "__get__"*>gh\.b ↑28
 tk:W.takesIn K (.b ↑11)*>gm
 mo:W.mroIn K D (.t ↑89)*>gm
 mb:W.mroIn K D (.t ↑4)*>gm
 cd:(W.clsIn K D).isSome=gm
section
variable {prog:lu}{x D:i4}{ox:Obj}
end
section
def lD{c:String}:c7 X (.b ↑70) (λxs H Q=>∃(x:V)(ty:hK)(b:Bool),xs=[x,.ty c]/\cu X.K H x ty/\W.kitOne X.K ty (.t c)*>b/\Q (.bl b) H):=by lk;intro xs us Q I r h;let#[x,ty,b,1,a,e,q]:=h;let#[u,d,1,f,g]:=vals2 r;cases (show d=Value.type c from g);show FV I f a e λtk=>#[.bl b,H,I.tok _,1,q]
end
section
end
def uY{g:TG}{tb:TS}{D:Ends}(Pv:Nat->St->Hp->Prop)(f:Pv 0 Z H)(h:∀i Z H,i<=↑xs->Pv i Z H->SqL K H a xs)
  (j:∀i x p Z H,xs[i]?*>x->Pv i Z H->H p=gf->g (.r p) Z (upd H p\.u [.i (i:Int),x]) λσ2 H2=>tb {D with nx:=Pv (i+1),ct:=Pv (i+1),bk:=D.nx} σ2 H2) (hd:∀Z H,Pv ↑xs Z H->D.nx Z H) :
  ∃W:Nat->Nat->St->Hp->Prop,(∃m,W 0 m Z H)/\∀i m Z H,W i m Z H->
   ((Ite K a).stop i H/\D.nx Z H)\/((Ite K a).go i H/\∃N:St->Hp->Prop,(∀Z' H',N Z' H'->∃c,c<m/\W (i+1) c Z' H')/\∀x H',(Ite K a).yld i H x H'->g x Z H' λσ2 H2=>tb {D with nx:=N,ct:=N,bk:=D.nx} σ2 H2):=by
 erw[λi m Z H=>m=↑xs-i/\i<=↑xs/\Pv i Z H,#[↑xs,∅,aZ _,f],?_];rintro i m Z H ⟨rfl,hi,p⟩;let q:=h i Z H hi p;by_cases d:i<↑xs
 .refine .o #[#[xs,xs[i],q,aR d],Pv (i+1),λZ' H' l=>#[↑xs-(i+1),(),1,d,l],λx H' y=>?_];let#[b,v,n,5,y]:=y;show j i v b Z H (y xs q) p n
 let e:i=↑xs:=();subst e;show .l #[#[xs,q,ar _],hd Z H p]
section
variable {prog:lu}
end
section
variable {pos:Pos}
def rAny(K:W.Frag):-V->Hp->VK->Prop:=λxs H Q=>∃(a:i4)(bs:-Bool),xs=[.r a]/\SqL K H a (bs.map V.bl)/\Q (.bl\bs.any id) H
def xY(n:X.calm=gm):c7 X (.b "any") (rAny []):=by
 lk;intro xs us Q I r h;let#[a,bs,1,w,q]:=h;let#[u,1,y]:=Vals.one r;cases y;let#[g,j,p,hz]:=I.list w;let l:=↑j;rw[av] at l;let c:=p.isList;let B:a<↥s:=by let#[_,e,_]:=c;show aJ e
 show call_any_walk\uq c ?_;erw[↥s,0,8,(λi=>bs.getD i hB),1,Dw (A:=X.A.in1) (I.ok.hd n) _ a (bD B) g.toArray,#[#[_,bJ _ rfl,5],c.push _],λi v s' K L C d=>?_,λh' tk D=>?_]
 .let#[x,m,f]:=oh j (i:=i) (v:=v) ‹C›;rw[br] at m;let#[b,E,1]:=cz.mp m;cases f;have:bs.getD i hB=b:=by rw[List.getD,E];rfl
  dsimp only at d;rw[this] at d;show iI d
 let e:(List.range g.toArray.size).any (λi=>bs.getD i hB)=bs.any id:=by
  rw[bI,<-l];let f:bs=(List.range ↑bs).map λi=>bs.getD i hB:=by show tY ∅ λi h1 h2=>?_;simp[h1]
  conv=>rhs;rw[f,wY]
  rfl
 rw[e];erw[.bl _,H,I.kept (t':=tk) λb o e=>D b o (λz=>by rw[aG.mp z] at e;show absurd (aJ e)\dG _)\aP _ e,1,q]
end
section
def Inv.bareTup(I:!Inv H s)(h:Rd H a\.u xs):
  s.TypeIs (.r a) ↑16/\∃ob,s.heap.get? a*>ob/\ob.dict=gf:=by
 let#[#[_,b],c,r,p]:=h.ok I.hok;erw[p.typeIs,b]
def tTM2(r:V->-V->Hp->VK->Prop)(x:V)(Q:VK):-V->Hp->Prop:=λvs H2=>r x vs H2 Q
def tTM1(r:V->-V->Hp->VK->Prop)(t:TA)(Z:St)(Q:VK):VK:=λx H1=>(∃a xs,x=.r a/\Rd H1 a\.u xs)/\t Z H1\tTM2 r x Q
def tTM(r:V->-V->Hp->VK->Prop)(to:TE)(t:TA):TE:=λZ H Q=>to Z H\tTM1 r t Z Q
def Cz{e:mR}{es:-mR}{name:Str}{apos cpos:Pos}{id:String}{r:V->-V->Hp->VK->Prop}(f:PlainAttrs ↑16)(slot:Slot ↑16 name id)(g:typeOf (.b id)=pure\.t "method_descriptor")(hm:MtM X id r)(j:PE X o to)(ha:PA X (e::es) t)
  (l:rq o name X.env (nH o X.env)=nH o X.env:=by rfl)
  (m:((nT cpos\kA (e::es) X.env).all (λx=>!x.1)&&(backToKw cpos\keywordEach [] X.env).all (λx=>x.1.isSome)
   && decide (↑(e::es)+↑([]:-Keyword)+(if ([]:-Keyword).isEmpty then 0 else 1)<30))=gm:=by rfl)
  (n:(apos.endLine==cpos.line)=gm:=by rfl) (p:kA (e::es) X.env=(hB,nH e X.env)::kA es X.env:=by rfl) (q:(nT cpos\kA es X.env).any (·.1)=hB:=by rfl) :
  PE X (.Call (.Attribute o name apos) (e::es) [] cpos) (tTM r to t):=by
 lk;intro Q I h;show QM l m n rfl (thn (j Sn s Z H _ I h) λv s1 u=>?_);let#[x,H1,c,w,#[a,xs,ex,hx],y]:=u;subst ex;obtain rfl:v=Value.ref a:=w;let#[h1,h2]:=c.bareTup hx;erw[↑16,id,f,slot,g,h1,λb e=>by cases e;show h2,?_];let d:=ha cpos Sn s1 Z H1 _ c y;rw[p] at d |-;show mW (by change (hB||(nT cpos\kA es X.env).any (·.1))=hB;rw[q]<;>rfl)\mY ?_;show thn d λus s2 ⟨vs,H2,z,A,B⟩=>hm Sn s2 Z H2 (.r a) vs (.r a) us Q z rfl A B
end
section
def tDM0(r:V->-V->Hp->VK->Prop)(to:TE):TE:=λZ H Q=>to Z H λx H1=>(∃a,x=.r a/\IsD H1 a)/\r x [] H1 Q
def BU{name:Str}{apos cpos:Pos}{id:String}{r:V->-V->Hp->VK->Prop}(slot:Slot ↑53 name id)(c:typeOf (.b id)=pure\.t "method_descriptor")(hm:MtM X id r)(d:PE X o to)
  (e:rq o name X.env (nH o X.env)=nH o X.env:=by rfl) (f:(apos.endLine==cpos.line)=gm:=by rfl):PE X (.Call (.Attribute o name apos) [] [] cpos) (tDM0 r to):=by
 lk;intro Q I h;show wpAny_Call_method0_late e f (thn (d Sn s Z H _ I h) λv s1 g=>?_);let#[x,H1,b,j,#[a,ex,hd],l]:=g;subst ex;obtain rfl:v=Value.ref a:=j;let#[m,n,_]:=r_ b hd;erw[↑53,id,uj,slot,c,m,n,mW rfl\PySem.evalArgs_none (hm Sn s1 Z H1 (.r a) [] (.r a) [] Q b rfl .nil l)]
end
section
open PySem.W in
def JE(K:W.Frag):-V->Hp->VK->Prop:=λxs H Q=>∃(a:i4)(u:HO),xs=[.r a]/\Rd H a u/\eP u/\∀ks vs,DKV H u ks vs->
 (∃ns:-Int,ks=ns.map V.int/\↑ns<5000/\∀(p:i4)(ms:-Int),H p=gf->ms.Perm ns->ms.Pairwise (·<=·)->Q (.r p)\upd H p (.a\ms.map V.int)) \/
 ∃c:List\-Int,Tups K H ks c/\↑ks<5000/\∀(p:i4)(ix:-Nat),H p=gf->ix.Perm (List.range ↑ks)->(ix.map λi=>c.getD i []).Pairwise (λa b=>HT.lexLt b a=hB)->Q (.r p)\upd H p (.a (ix.map λi=>ks.getD i .non))
open PySem.W in
def DT(n:X.calm=gm):c7 X (.b ↑48) (JE []):=by
 lk;intro xs us Q I r h;let#[a,O,1,hd,p,k]:=h;let#[u,1,q]:=Vals.one r;cases q;let#[lo,ks,vs,es,ep,w,hz,x,d,P]:=oI I hd p;let#[m,F]:=I.fr;let y:↑ks=es.size:=by have:=↑d;simpa using this
 show kdu_sorted (dSrc (es:=es) (ep:=ep) lo) (I.ok.hd n) F (uV (g:=X.base) (L:=X.env.locals)) x (by rw[<-y];show hz) λD h' tk b A f B C E=>?_;let#[k1,k2]:=I.newsKept (t':=s.toks) (more:=[(D,listOf b.toArray 0)]) F A f;let c:=f (D,listOf b.toArray 0)\.head _;let l:s.heap.get? D=gf:=by
  cases e:s.heap.get? D with
  |none=>rfl
  |some o=>show absurd (B (D,o)\ux c.2.1 c.2.2 e)\dG _
 let ev:b=es.toList.map (·.key):=by show yy (by rw[C];simp) λj v e=>?_;let#[K,1]:=E j v e;rw[br];simp[K]
 let M:!Inv (upd H D\.a ks) {s with heap:=h',toks:=tk}:=I.laidN (t':=tk) k1 k2 l (λH'=>#[hz,b,(0),by rw[ev];show d,c.1]) (λ_ _ z=>by cases z);let z:=yc (X:=tw X) Sn _ Z _ (.r D) [] (.r D) [] (λ_ H'=>Q (.r D) H') M.toIn1 rfl .nil\zT (I.hok.none_of l) (k ks vs w);show thn z λ_ s' ⟨_,H',J,_,N⟩=>#[.r D,H',J.ofIn1,1,N]
end
def Sm(H H':Hp):Prop:=∀b o,H b*>o->H' b*>o\/(eP o/\∃ob,H' b*>.z ob o)
def Sm.refl(H:Hp):Sm H H:=λ_ _ e=>.l e
def Sm.of(s:Same H H'):Sm H H':=λb o e=>.l\s b o e
def Sm.trans{H:Hp}(a:Sm H H1)(b:Sm H1 H2):Sm H H2:=λc o e=>by
 rcases a c o e with d|⟨hd,ob,d⟩
 .exact b c o d
 rcases b c _ d with f|⟨g,_⟩
 .exact .o #[hd,ob,f]
 show False.elim g
def Sm.free(s:Sm H H')(h:H' l=gf):H l=gf:=by
 cases q:H l with
 |none=>rfl
 |some o=>rcases s l o q with e|⟨_,_,e⟩<;>(rw[h] at e;cases e)
def Sm.keep(s:Sm H H'){o:HO}(e:H b*>o)(a:¬eP o):H' b*>o:=(s b o e).elim id λz=>(a z.1).elim
def Sm.rd(s:Sm H H')(e:Rd H b o):Rd H' b o:=by
 rcases e with e|⟨ob,e⟩
 .rcases s b o e with z|⟨_,ob,z⟩
  .exact .l z
  show .o #[ob,z]
 show .o #[ob,s.keep e λz=>z]
def Fz.sm{H:Hp}(f:Fz H H2 d o u):Sm H H2:=λb w e=>by
 by_cases a:b=d
 .subst a;rcases f.1 with z|z
  .rw[z] at e;cases e;show .o #[f.2.1,o,f.at]
  rw[z] at e;cases e;show .l f.at
 show .l\(f.ne a).trans e
section
variable {d D:i4}{o:Obj}{u:HO}{ks vs:-V}{g:TG}{tt:TT}{te:TE}{Z':St}{H1:Hp}{Q:Hp->Prop}
def F9(Pv:Nat->St->-V->Hp->Prop)(b:Pv 0 Z' []\upd H1 D (.a []))(c:∀i Z ys H,i<=↑ks->Pv i Z ys H->H d*>.z o u)
  (f:∀i x Z ys H,ks[i]?*>x->Pv i Z ys H->g x Z H\mI tt te D ys (Pv (i+1)))
  (hd:∀Z ys H,Pv ↑ks Z ys H->Q H):ju (Itk d o ks) g tt te D Z' H1 Q:=by
 erw[λi m Z ys H=>m=↑ks-i/\i<=↑ks/\Pv i Z ys H,#[↑ks,∅,aZ _,b],?_];rintro i m Z ys H ⟨rfl,hi,p⟩;let q:=c i Z ys H hi p;by_cases a:i<↑ks
 .refine .o #[#[a,u,q],Pv (i+1),λZ' j H' h=>#[↑ks-(i+1),(),1,a,h],λx H' y=>?_];let#[e,y]:=y;subst e;show f i x Z ys _ y p
 let e:i=↑ks:=();subst e;show .l #[#[ar _,u,q],hd Z ys H p]
def FZ{tb:TS}{D:Ends}(Pv:Nat->St->Hp->Prop)(f:Pv 0 Z H)(h:∀i Z H,i<=↑ks->Pv i Z H->H d*>.z o u)
  (j:∀i x y p Z H,ks[i]?*>x->vs[i]?*>y->Pv i Z H->H p=gf->g (.r p) Z (upd H p\.u [x,y]) λσ2 H2=>tb {D with nx:=Pv (i+1),ct:=Pv (i+1),bk:=D.nx} σ2 H2) (hd:∀Z H,Pv ↑ks Z H->D.nx Z H) :
  ∃W:Nat->Nat->St->Hp->Prop,(∃m,W 0 m Z H)/\∀i m Z H,W i m Z H->
   ((Iti d o ks vs).stop i H/\D.nx Z H)\/((Iti d o ks vs).go i H/\∃N:St->Hp->Prop,(∀Z' H',N Z' H'->∃a,a<m/\W (i+1) a Z' H')/\∀x H',(Iti d o ks vs).yld i H x H'->g x Z H' λσ2 H2=>tb {D with nx:=N,ct:=N,bk:=D.nx} σ2 H2):=by
 erw[λi m Z H=>m=↑ks-i/\i<=↑ks/\Pv i Z H,#[↑ks,∅,aZ _,f],?_];rintro i m Z H ⟨rfl,hi,p⟩;let q:=h i Z H hi p;by_cases c:i<↑ks
 .refine .o #[#[c,u,q],Pv (i+1),λZ' H' l=>#[↑ks-(i+1),(),1,c,l],λx H' y=>?_];let#[b,k,v,n,5,r,s]:=y;show j i k v b Z H r s p n
 let e:i=↑ks:=();subst e;show .l #[#[ar _,u,q],hd Z H p]
end
section
variable {M:Model}{env:Env}
variable {nm q:Str}{C N:i4}{bs bm:-hK}{hdct:Bool}{sn:-Str}{sub:-hK}{ab:Bool}{col:Option Bool}{dd:Option i4}{k0 k1 k2 k3 k5:Option hK}{newId:String}
def EM{x:Sem hK}{Q:Flow->ij->Prop}(b:bm.contains (.t ↑4)=gm)(c:A.handled=gf)
  (h:jl M A x (λv s₁=>∃e d vs sl,v=.r e/\s₁.heap.get? C*>oy nm q C N bs bm hdct sn sub ab col dd k0 k1 k2 k3 k5 newId/\
   s₁.heap.get? e*>{cls:=.r C,dict:=d,data:=.d vs,slots:=sl}/\vs[1]?*>.none/\E (.r e) s₁) E s) :
  jl M A (raiseStmt env (gh x) gf) Q E s:=by
 let f:(Value.ref C::bm).contains (.t ↑4)=gm:=by rw[ph,b,wU]
 unfold raiseStmt;show aa (bU h (λv s₁ h₁=>?_) λ_ _ x=>x);let#[e,d,vs,sl,1,a,he,j,l]:=h₁;let#[m,g,n,tk,os]:=s₁;show aa\ai (aa\cY ?_);unfold excFromValue
 repeat (first|with_reducible show gI he ?_|with_reducible show gI a ?_|(with_reducible show nA a ?_;rw[f])|wp_step)
 rw[j];show ai ?_;rw[Sg ⋯];show ai\wpAny_raiseNew_none c l
end
section
variable {prog:lu}{h:mu}{g:Array GenState}{d:Drawn}{t:Nat}{os:ri}
variable {nm q:Str}{C N:i4}{bs bm bmB:-hK}{hdct:Bool}{sn:-Str}{sub:-hK}{ab:Bool}{col:Option Bool}{dd:Option i4}{k0 k1 k2 k3 k5:Option hK}{B newId initId:String}
def FR(F:ExcBaseFacts B newId initId bmB)(T:OwnTail h bmB bm){rest:-hK}{f:i4}{Q:Fin->ij->Prop}(X:K.In h)
  (a:h.get? C*>oy nm q C N bs bm hdct sn sub ab col dd k0 k1 k2 k3 k5 newId) (hi:W.findIn K (.r C) ↑12*>gh\.r f) (hf:W.typeIn K (.r f)*>.t "function")
  (m:∀h' e,Heap.MadeExcOf h h' e (.r C) rest->jl (kC prog w) A (call (.r f) (.r e::rest)) (λr s'=>r=.none/\Q (.done\.ret (.r e)) s') E #[h',g,d,t,os]) (n:↑rest<=js) :
  jl (kC prog w) A (Builtin.«type.__call__» #[.r C::rest,[]]) Q E #[h,g,d,t,os]:=by
 repeat (first|with_reducible show gI a ?_|with_reducible show wpAny_madeBy_exc a ?_|wp_step)
 show codeAny_call_builtin_code (O2 _ F.quiet)\wpAny_check_new_subT F T a (codeAny_exc_new_subT F T a ?_ n);change jl _ _ _ _ _ _;generalize j:({cls:=.r C,data:=.d\tA [.r h.objs.size,.none,.none,.none,.x hB,.none]}:Obj)=c;let kp:∀b o,h.get? b*>o->((h.push {cls:=.t ↑16,data:=.e rest.toArray}).push c).get? b*>o:=λb o e=>aP _\aP _ e;let a₁:=kp>>a;let l:((h.push {cls:=.t ↑16,data:=.e rest.toArray}).push c).get? (h.objs.size+1)*>c:=by subst j;heap_get
 let p:c.cls=.r C:=by subst j;rfl
 let s:(Value.ref C::bm).contains (.r C)=gm:=∅;unfold isInstance
 repeat (first|(with_reducible show gI l ?_;rw[p])|(with_reducible show nA a₁ ?_;rw[s])|wp_step)
 change jl _ _ (typeLookup (.r C) _) _ _ _;show Ds X hi _ _ _ _ kp ?_;show cY\aa (Qg X _ hf _ _ _ _ kp ?_);show aa (bU (m _ (h.objs.size+1) #[kp,jO\pB _,h.objs.size,by subst j;show l,jO\ar _,?_]) (λr s' u=>?_) λ_ _ x=>x)
 .exact aP _\O4 rfl rfl
 let#[1,v]:=u
 wp_walk
 show v
def Ga(F:ExcBaseFacts B newId initId bmB)(T:OwnTail h bmB bm){rest:-hK}{b:i4}{Q:hK->ij->Prop}(X:K.In h)
  (a:h.get? C*>oy nm q C N bs bm hdct sn sub ab col dd k0 k1 k2 k3 k5 newId) (hi:W.findIn K (.r C) ↑12*>gh\.r b) (hf:W.typeIn K (.r b)*>.t "function")
  (c:∀h' e,Heap.MadeExcOf h h' e (.r C) rest->jl (kC prog w) (A.under\.b ↑26 #[.r C::rest,[]]) (call (.r b) (.r e::rest)) (λr s'=>r=.none/\Q (.r e) s') E #[h',g,d,t,os]) (f:↑rest<=js) :
  jl (kC prog w) A (call (.r C) rest) Q E #[h,g,d,t,os]:=by
 let#[j,l,m]:=#[tc_lookup,tc_bind\.r C,(#[_,a,1]:(#[h,g,d,t,os]:ij).TypeIs (.r C) "type")];show kX\codeAny_of_tree ?_;change jl _ _ (callAny (.r C) _) _ _ _
 repeat (any_goals (first|assumption|with_reducible show gI a ?_|wp_step))
 erw[1,?_];show codeAny_call_builtin_at (O2 _ ⋯) entry_typeCall\wpAny_check_type_call_sub a (FR F T X a hi hf (λh' e hm=>c h' e hm) f)
end
section
variable {prog:lu}{h:mu}{g:Array GenState}{d:Drawn}{t:Nat}{os:ri}
variable {nm q:Str}{C N:i4}{bs bm bmB:-hK}{hdct:Bool}{sn:-Str}{sub:-hK}{ab:Bool}{col:Option Bool}{dd:Option i4}{k0 k1 k2 k3 k5:Option hK}{B newId initId:String}
def Gc(F:ExcBaseFacts B newId initId bmB)(T:OwnTail h bmB bm){e:i4}{dx:Option i4}{vs:Array hK}{sl:Array\Option hK}{rest:-hK}{Q:hK->ij->Prop}
  (f:h.get? C*>oy nm q C N bs bm hdct sn sub ab col dd k0 k1 k2 k3 k5 newId) (he:h.get? e*>#[.r C,dx,.d vs,sl]) {t0:i4} (a:vs[0]?*>.r t0) (p:↑rest<=js)
  (j:∀h' (l:i4),(∀b o,b≠e->h.get? b*>o->h'.get? b*>o)->h'.get? e*>#[.r C,dx,.d\vs.setIfInBounds 0 (.r l),sl]->Q .none #[h',g,d,t,os]) :
  jl (kC prog w) A (call (.b initId) (.r e::rest)) Q E #[h,g,d,t,os]:=by
 show kX\xH F.init.plain F.initEntry (wpAny_check_init_subT F T f he rfl ?_)
 wp_walk
 rw[a];show ai\aa ?_;let c:(h.push {cls:=.t ↑16,data:=.e rest.toArray}).get? e*>#[.r C,dx,.d vs,sl]:=aP _ he;show gJ c rfl (gv.mp a).1 ?_
 wp_walk
 show j _ h.objs.size (λb o m n=>?_) ?_
 .rw[eu>>(aB m)];show aP _ n
 show fm _ c rfl
end
def qT:-hK->Bool
 |.ref _::r=>qT r
 |l=>l==bmV
def xZ(self:hK):∀{l:-hK},qT l=gm->refuseLoop self ↑64 l=pure .unit
 |.ref c::r,e=>by rw[refuseLoop_ref];show xZ self e
 |.type n::r,e=>by rw[show Value.type n::r=bmV from beq_iff_eq.mp e];show PySem.F.store_ValueError.passes self
 | [],e=>by cases e
structure fH(K:W.Frag)(C:i4)(name:Str):Prop where
 sa:W.findIn K (.r C) ↑64*>gh\.b ↑35
 mo:W.mroIn K C (.t ↑89)*>gm
 ov:(W.clsIn K C).any (λcd=>qT cd.mro)=gm
 no:W.findIn K (.r C) name*>gf
 hd:(W.clsIn K C).any (·.hasDict)=gm
section
variable {prog:lu}{x C:i4}{vs:Array hK}{sl:Array (Option hK)}{name:Str}{v:hK}
def KA{Q:Unit->ij->Prop}(X:K.In s.heap)(hx:s.heap.get? x*>#[.r C,gf,.d vs,sl])(c:fH K C name)
  (r:∀h' dx tk,s.heap.get? dx=gf->dx≠x->(∀b o,b≠x->s.heap.get? b*>o->h'.get? b*>o)->h'.get? x*>#[.r C,gh dx,.d vs,sl]->h'.Ns1 dx (λy=>if y=name then gh v else gf)->Q .unit {s with heap:=h',toks:=tk}) :
  jl (kC prog w) A (setAttr (.r x) name v) Q E s:=by
 let I:W.InstAt s.heap x #[.r C,gf,.d vs,sl] C gf:=#[hx,5,trivial];show Ql X I c.sa ?_;let#[#[a,g,d,t,os],f,#[cd,h,u],#[R,m,hd]]:=#[s,PySem.F.store_object,Do c.ov,Do c.hd];rw[h] at m;cases m;let j:=I.type (M:=kC prog w);let z:W.Looks (kC prog w) a (isInstance (.r x)\.t ↑89) gm:=j.andThen\W.looks_mroIn X c.mo;show xH f.slot.plain f.entry\@W.check_slot (kC prog w) _ _ #[a,g,d,t+1,os] ↑35 ↑89 ↑64 (.r x) [.s name t,v] [] _ f.kind f.split z (f.args (.r x) (.s name t) v) ?_;let#[hm,ha,B]:=#[((Dr X h).andThen .now:W.Looks (kC prog w) a (mroOf\.r C) cd.mro),Ds (M:=kC prog w) X c.no,Dr (M:=kC prog w) X h];rw[W.osa_eq,refuse_eq];show aa\aa (j.at\aa (hm.at ?_));rw[xZ _ u];show ai\aa (j.at\aa (ha.at\aa (ai ?_)));change jl _ _ (Builtin.ObjectAttr.storeInOwnDict _ _ _ _ _ _) _ _ _;unfold Builtin.ObjectAttr.storeInOwnDict Builtin.ObjectAttr.ownDictForStores;show aa\ai ?_;dsimp only;rw[Sg (show ¬((Value.ref C==Value.type "module")=gm) by simp)];unfold instanceDict;show aa\aa (DM hx ?_);show aa\B.at ?_;rw[hd];let n:(a.push {cls:=.t ↑53,data:=.y\tA []}).get? x*>#[.r C,gf,.d vs,sl]:=aP _ hx;let l:x≠a.objs.size:=bD\aJ hx;show aa\wpAny_alloc' ?_;show aa\wpAny_update' n ?_;show ai ?_;let D:((a.push {cls:=.t ↑53,data:=.y\tA []}).update x λo=>{cls:=o.cls,dict:=gh a.objs.size,data:=o.data,slots:=o.slots}).get? x*>#[.r C,gh a.objs.size,.d vs,sl]:=fm _ n rfl;let H:((a.push {cls:=.t ↑53,data:=.y\tA []}).update x λo=>{cls:=o.cls,dict:=gh a.objs.size,data:=o.data,slots:=o.slots}).Ns a.objs.size (λ_=>gf):=
  #[_,(tA []),_,(tV _ _ _ _ l.symm).trans\O4 rfl rfl,1,λe he=>absurd he ∅,λ_=>rfl]
 change jl _ _ (Builtin.ObjectAttr.storeInDict a.objs.size (.s name t) name v) _ _ _;unfold Builtin.ObjectAttr.storeInDict Builtin.ObjectAttr.newKeyGuard;show aa\ai (aa (wpAny_nsSet1 (O3 H) λh' p q=>?_));let#[S,T,U,L,N,O]:=p.count\Within.cons name v Within.nil;show aa\QY L (by rw[N];show QE\cQ O (by rw[ck,jb,cW];lia)) ?_;show ai ?_;show r h' a.objs.size _ (jO\ar _) l.symm (λb o P e=>?_) ((q.2 x l)<*D) p;show (q.2 b\bD (aJ e)).trans\(tV _ _ _ _ P).trans (aP _ e)
end
section
variable {prog:lu}{x D:i4}{ox od:Obj}{name:Str}{v:hK}{expr:Bool}
def KC{Q:hK->ij->Prop}(X:K.In s.heap)(c:iV K D)(e:fH K D name)(I:W.InstAt s.heap x ox D\gh od)(j:lookIn name od*>gh v)(l:handedIn v=gm)
  (h:Q v {s with toks:=s.toks+1}):jl (kC prog w) A (getAttr (.r x) name expr) Q E s:=by
 let#[#[f,g,d,t,os],b,n,L2,hf,o,p]:=#[s,I.type (M:=kC prog w),xJ (M:=kC prog w) X c.ga,xJ (M:=kC prog w) X c.ha,(findObj_own e.hd e.no rfl j:findObj K D (gh od) name*>.value v),looks_find (M:=kC prog w) X I hf,looks_mroIn (M:=kC prog w) X c.mb];let q:(onTheHeap (Value.ref D)&&Value.builtin ↑2==Value.builtin ↑44)=hB:=by have:(Value.builtin ↑2==Value.builtin ↑44)=hB:=⋯;rw[this];rfl
 unfold getAttr getAttrBy;show aa\wpAny_mkText (cY\aa (b.at\aa (n.at ?_)));dsimp only;rw[q];change jl _ _ (getAttrByItsOwn _ _ _ _ _ _) _ _ _;unfold getAttrByItsOwn hookBefore;show aa ?_;change jl _ _ (typeLookup (.r D) "__getattr__") _ _ _;show L2.at\aa (jg\cY ?_);unfold callGetattribute;rw[show (expr&&onTheHeap (Value.builtin ↑2))=hB from OW _,Sg ⋯];unfold boundAndCalled;rw[F.excAttr_ValueError.ga.bind\.r x];show aa\ai ?_;show kX\xH F.excAttr_ValueError.ga.plain F.entry_bexc_ga ?_;let r:builtinKind ↑2*>.slot:=⋯;let u:splitId ↑2*>(↑4,↑33):=⋯;let y:Looks (kC prog w) f (isInstance (.r x)\.t ↑4) gm:=b.andThen p;show @check_slot (kC prog w) _ _ #[f,g,d,t+1,os] ↑2 ↑4 ↑33 (.r x) [.s name t] [] _ r u y (F.args_bexc_ga (.r x)\.s name t) ?_;unfold Builtin.«object.__getattribute__»;show aa (m:=slotArgs _ _ _)\nB (a:=(.r x,[.s name t])) rfl ?_;show aa\nB (a:=name) rfl ?_;show aa\b.at (aa\o.at ?_);show ai ?_;show handed_on l h
end
def dI(x C:i4)(d:Option i4):HO:=.ext λh=>∃(vs:Array hK)(sl:Array\Option hK)(t0:i4),h.get? x*>#[.r C,d,.d vs,sl]/\vs[0]?*>.r t0/\vs[1]?*>.none/\vs[2]?*>.none
def vL{h:mu}{x C:i4}{d:Option i4}{vs:Array hK}{sl:Array\Option hK}{t0:i4}(e:h.get? x*>#[.r C,d,.d vs,sl])(c:vs[0]?*>.r t0)(h1:vs[1]?*>.none)(h2:vs[2]?*>.none):
  bh P w H h x (dI x C d):=by
 erw[#[vs,sl,t0,e,c,h1,h2],#[_,e],λa b p k=>?_];let#[vs,sl,t0,e,r]:=p;erw[vs,sl,t0,k _ e,r]
def kl(K:W.Frag)(C:i4):Bool:=(L2.clsIn K C).any λbm=>tailIn K bmV bm
def Aa{h:mu}(X:K.In h)(q:kl K C=gm):
  ∃bm N nm q bs hdct sn sub ab col dd k0 k1 k2 k3 k5,h.get? C*>oy nm q C N bs bm hdct sn sub ab col dd k0 k1 k2 k3 k5 ↑5/\OwnTail h bmV bm:=by
 unfold kl at q;cases e:L2.clsIn K C with
 |none=>rw[e] at q;cases q
 |some bm=>
  rw[e] at q;let#[N,nm,a,bs,hd,sn,sub,ab,col,dd,k0,k1,k2,k3,k5,b]:=lW X e;erw[bm,N,nm,a,bs,hd,sn,sub,ab,col,dd,k0,k1,k2,k3,k5,b,tail_of_in X q]
structure BInit(K:W.Frag)(S:i4):Prop where
 sp:specialIn K (.r S) ↑33*>gh\.b "type.__getattribute__"
 rd:readsIn K S (.t "type")=gm
 fd:findCls K (.r S) (.t "type") ↑12*>.val\.b "ValueError.__init__"
section
variable {y:Str}{S:i4}{p apos pos:Pos}{e o value:mR}{es:-mR}{t:TA}{ta tv:TE}{f:Str}
def Lk(K:W.Frag)(t:TA):TE:=λZ H Q=>t Z H λvs H1=>∃(x C:i4)(rest:-V),vs=.r x::rest/\H1 x*>dI x C gf/\kl K C=gm/\↑rest<=js/\Q .non H1
def z_{pl:Sem Bool}(hg:Gl X y)(hm:X.mg y*>.r S)(b:BInit X.K S)(ha:PA X (e::es) t)(hdb:(y==(↑17 : Str))=hB:=by decide)
  (hst:kA (e::es) X.env=(hB,nH e X.env)::kA es X.env:=by rfl) (hpl:(nT pos\kA es X.env).any (·.1)=hB:=by rfl)
  (ht:nH (.Call (.Attribute (.n y p) ↑12 apos) (e::es) [] pos) X.env=(do
   let ov <-nH (.n y p) X.env
   standAt apos.atName
   let (f,first) <-holding [ov] (getMethod ov ↑12 pl)
   callWith pos f first (nT pos\kA (e::es) X.env) (backToKw pos\keywordEach [] X.env)):=by rfl) :
  PE X (.Call (.Attribute (.n y p) ↑12 apos) (e::es) [] pos) (Lk X.K t):=by
 lk;intro Q I h;show methodCall_KW (pl:=pl) (iu I hg hm ?_ hdb) ht;show method_cls I.kIn b.sp\cls_value I.kIn b.rd b.fd rfl ?_;let hA:=ha pos Sn {s with toks:=s.toks+1} Z H _ (I.tok _) h;change jl _ _ (callWith pos (.b "ValueError.__init__") [] _ []) _ _ _;rw[hst] at hA |-;show mW (by change (hB||(nT pos\kA es X.env).any (·.1))=hB;rw[hpl]<;>rfl)\mY ?_;show thn hA λus s1 hZQ=>?_;let#[vs,H1,I1,r1,x,C,rest,ev,hx,hov,hz,q1]:=hZQ;subst ev
 match us,r1 with
 |u::us',.cons ru rr=>
  obtain rfl:u=Value.ref x:=ru;let#[#[bm,N,nm,q',bs,hd,sn,sub,ab,col,dd,k0,k1,k2,k3,k5,hC,T],#[#[wv,sl,t0,hxo,h0,h1,h2],_],#[hh,g,d,tk,os]]:=#[Aa I1.kIn hov,(show bh X.prog X.w H1 s1.heap x (dI x C gf) from I1.hok x _ hx),s1];show Gc ui T hC hxo h0 (by rw[<-↑rr];show hz) λh' v0 keep here=>?_;let z0:(0:Nat)<wv.size:=(gv.mp h0).1;let I2:=I1.write (x:=x) (e:=x) (o:=dI x C gf) (h':=h') (t':=tk) (by rw[hx];show True.intro) (.l rfl) keep #[_,here]
   (vL here (t0:=v0) (by simp[z0]) (by rw[tS ⋯];show h1) (by rw[tS ⋯];show h2))
  let e1:upd H1 x (dI x C gf)=H1:=by
   funext b;by_cases hb:b=x
   .subst hb;rw[aH,hx]
   rw[aq hb]
  rw[e1] at I2;erw[.non,H1,I2,1,q1]
def NR(K:W.Frag)(ta tv:TE)(f:Str):TS:=λD Z H=>tv Z H λy H1=>ta Z H1 λx H2=>∃a C,x=.r a/\H2 a*>dI a C gf/\fH K C f/\
 ∀dx,H2 dx=gf->dx≠a->D.nx Z\upd (upd H2 a\dI a C (gh dx)) dx (.xd [(f,y)])
def AW(ha:PE X o ta)(M:PE X value tv)(N:swapsWith value (gh\.Attribute o f apos) pos.line X.env=pure hB):PS X (.Assign [.Attribute o f apos] value pos) (NR X.K ta tv f):=by
 lk;intro D I h;show QF (thn (M Sn s Z H _ I h) λu s1 A=>?_) N;let#[y,H1,O,P,q]:=A;show thn (ha Sn s1 Z H1 _ O q) λov s2 A=>?_;let#[x,H2,l,Q,a,C,ex,j,R,S]:=A;subst ex;obtain rfl:ov=Value.ref a:=Q;let#[#[wv,sl,t0,T,U,h1,h2],_]:=(show bh X.prog X.w H2 s2.heap a (dI a C gf) from l.hok a _ j);show KA l.kIn T R λh' dx tk E Y keep here ab=>?_;let L:H2 dx=gf:=l.hok.none_of' E;let nd:∀b ob,s2.heap.get? b*>ob->b≠dx:=λb ob e z=>by rw[z,E] at e;cases e
 let m:∀b ob,H2 b*>ob->b≠dx:=λb ob e z=>by rw[z,L] at e;cases e
 let na:∀b,H2 b=gf->b≠a:=λb e z=>by rw[z,j] at e;cases e
 let up:∀b,b≠dx->b≠a->upd (upd H2 a\dI a C (gh dx)) dx (.xd [(f,y)]) b=H2 b:=λb z1 z2=>by rw[aq z1,aq z2]
 let un:Un X.fs [] H2 (upd (upd H2 a\dI a C (gh dx)) dx\.xd [(f,y)]) s2.heap h':=by
  erw[λb ob e n _ _=>keep b ob (na b n) e,λb ob e n _ _=>#[ob.slots,keep b ob (na b n) e],λb ob e n _=>by rw[up b (nd b ob e)\na b n];show n,λb ob e _=>?_,λb xs e=>?_,λb ob xs e=>?_,λb ps e=>#[(tA []),?_]]
  .by_cases d:b=a
   .rw[d];erw[_,here]
   erw[_,keep b ob d e]
  .rw[up b (m b _ e) (λz=>by rw[z,j] at e;cases e)];show e
  .rw[up b (m b _ e) (λz=>by rw[z,j] at e;cases e)];show e
  rw[up b (m b _ e) (λz=>by rw[z,j] at e;cases e),e];simp
 let hok:HOk X.prog X.w (upd (upd H2 a\dI a C (gh dx)) dx\.xd [(f,y)]) h':=λb ob e=>by
  by_cases d:b=dx
  .subst d;rw[aH] at e;cases e;erw[_,ab,λg=>?_];change dQ (List.lookup g [(f,y)]) (if g=f then gh u else gf);by_cases p:g=f
   .let d:(g==f)=gm:=beq_iff_eq.mpr p;simp only[List.lookup,d,Sh p];show P
   let d:(g==f)=hB:=beq_eq_false_iff_ne.mpr p;simp only[List.lookup,d,Sg p];trivial
  by_cases B:b=a
  .subst B;rw[aq d,aH] at e;cases e;show vL here U h1 h2
  rw[up b d B] at e;show (l.hok b ob e).stay (λc w' hc r=>keep c w' (λz=>?_) r) (λc r=>?_) λc xs r=>?_
  .rcases hc with v | v
   .exact B\v.symm.trans z
   rw[z,j] at v;cases v
  .rw[up c (m c _ r) (λz=>by rw[z,j] at r;cases r)];show r
  rw[up c (m c _ r) (λz=>by rw[z,j] at r;cases r)];show r
 erw[Z,_,l.un (t':=tk) un hok,S dx L Y]
def BC(pc:hK->Prop)(K:W.Frag)(ta:TE)(f:Str):TE:=λZ H Q=>ta Z H λx H1=>∃a C dx fs v,x=.r a/\H1 a*>ef pc a (.r C) (gh dx)/\H1 dx*>.xd fs/\iV K C/\fH K C f/\fs.lookup f*>v/\Q v H1
abbrev M5:=BC (· = .none)
def AY{pc:hK->Prop}(he:PE X e ta)(g:rq e f X.env (nH e X.env)=nH e X.env):PE X (.Attribute e f pos) (BC pc X.K ta f):=by
 lk;intro Q I h;show Bq g (thn (he Sn s Z H _ I h) λu s1 j=>?_);let#[x,H1,b,m,a,C,dx,fs,v,ex,n,p,c,r,l,q]:=j;subst ex;obtain rfl:u=Value.ref a:=m;let#[#[#[M,vs,h1,h2,y,z,_],_],#[mA,A,B],#[od,D,E],#[N,L,d]]:=#[(show bh X.prog X.w H1 s1.heap a (ef pc a (.r C)\gh dx) from b.hok a _ n),(show bh X.prog X.w H1 s1.heap dx (.xd fs) from b.hok dx _ p),uF A,dQ.some_of (v:=v) (o:=mA f) (by rw[<-l];show B f)];show KC b.kIn c r #[h1,h2,?_,?_] (by rw[E f,L]) (zp d) #[v,H1,b.tok _,d,q]
 .unfold W.notCls;rw[z]
 rw[y];show D
end
structure iZ(K:W.Frag)(C f:i4):Prop where
 over:kl K C=gm
 init:findIn K (.r C) ↑12*>gh\.r f
 fn:typeIn K (.r f)*>.t "function"
 kp:keepIn K (.r C)=gm
def del(H:Hp)(x:i4):Hp:=λb=>if b=x then gf else H b
def eS{x b:i4}(h:b≠x):del H x b=H b:=by unfold del;rw[Sg h]
def Ak:del H x x=gf:=by unfold del;rw[Sh rfl]
section
variable {E:XK}{k:Nat}{x:Str}{C f:i4}{ps:-Str}{sp:Sp}{np cpos pos:Pos}{e:mR}{es:-mR}{t:TA}
def Ar(E:XK)(C:i4)(sp:Sp)(t:TA):TS:=λ_ Z H=>t Z H λvs H1=>↑vs<=js/\∀x,H1 x=gf->sp (.r x::vs) (upd H1 x\dI x C gf) (λv H2=>v=.non/\∃d,H2 x*>dI x C d/\E (.r C) d\del H2 x) E0
def REnds(X:Cx)(E:XK):Prop:=∀{x:Sem hK}{Q:Flow->ij->Prop}{s:ij}{nm q:Str}{C N:i4}{bs bm:-hK}{hdct:Bool}{sn:-Str}{sub:-hK}{ab:Bool}{col:Option Bool}{dd:Option i4}{k0 k1 k2 k3 k5:Option hK}{newId:String},bm.contains (.t ↑4)=gm->X.Ok->
 jl ⇑X X.A x (λv s₁=>∃e d vs sl Sn Z H,v=.r e/\s₁.heap.get? C*>oy nm q C N bs bm hdct sn sub ab col dd k0 k1 k2 k3 k5 newId/\s₁.heap.get? e*>{cls:=.r C,dict:=d,data:=.d vs,slots:=sl}/\vs[1]?*>.none/\vs[2]?*>.none/\
  !Inv H s₁/\X.s₀.heap.get? e=gf/\(∀p∈X.pn++Sn,p.1≠e)/\H e=gf/\E (.r C) d H) X.xe s->jl ⇑X X.A (raiseStmt X.env (gh x) gf) Q X.xe s
def uz(c:Lets X E)(f:X.calm=gm):REnds X E:=λg ok h=>EM g (ok.hd f) (bU h (by rintro v s₁ ⟨e,d,vs,sl,Sn,Z,H,j,l,a,b,m,I,n,o,p,q⟩;erw[e,d,vs,sl,j,l,a,b,c Sn Z H s₁ e _ d I #[_,vs,a,5,1,#[_,m,1],.l b] n o p q]) λ_ _ z=>z)
def uE(hE:REnds X E)(hnx:X.ex=[])(M:iZ X.K C f)(Fl:∀vs H Q E,sp vs H Q E->↑vs=↑ps)(Fr:∀(us0:-hK)(outer:-Env)(s:ij)(H:Hp)(args:Args)(us:-hK)(vs:-V)(Q:VK),gr X.prog X.w X.K X.mg X.base (X.A.under\.b ↑26 #[.r C::us0,[]]) outer s H->BindsTo s fd args (ps.zip us)->Vals vs us->sp vs H Q E0->oD ⇑X (X.A.under\.b ↑26 #[.r C::us0,[]]) (.call (.r f) args) (CR CX0 outer X.prog X.w H s Q E0) s)(hb:Binds X.K fd ps [])(hg:Gl X x)(hm:X.mg x*>.r C)(ha:PA X (e::es) t)
  (he:kA (e::es) X.env=(hB,nH e X.env)::kA es X.env:=by rfl) (hpl:(nT cpos\kA es X.env).any (·.1)=hB:=by rfl) (hd:(x==(↑17 : Str))=hB:=by decide) :
  PS X (.Raise (gh\.Call (.n x np) (e::es) [] cpos) gf pos) (Ar E C sp t):=by
 lk;intro D I h;let#[bm,N,nm,q',bs,hdc,sn,sub,ab,col,dd,k0,k1,k2,k3,k5,hC,T]:=Aa I.ok.mod.kin M.over;rw[arm_exec_Raise];change jl _ _ (do standAt pos;raiseStmt X.env (gh (do let v <-nH (.Call (.n x np) (e::es) [] cpos) X.env;standAt pos;pure v)) gf) _ _ _;show aa\k_ (hE (nm:=nm) (q:=q') (C:=C) (N:=N) (bs:=bs) (bm:=bm) (hdct:=hdc) (sn:=sn) (sub:=sub) (ab:=ab) (col:=col) (dd:=dd) (k0:=k0) (k1:=k1) (k2:=k2) (k3:=k3) (k5:=k5) (newId:=↑5) (T.hasType ui.hasBase) I.ok ?_);show aa (bU (pO\iu I hg hm ?_ hd) (λv s₃ h₃=>aa\k_ (ai h₃)) λ_ _ z=>z);show callWith_K (h₀:=X.base) I.ok.mod.kin M.kp (thn (ha cpos Sn s Z H _ I h) λus s1 ⟨vs,H1,I1,r,hz,q⟩=>#[I1.kIn,?_]) he hpl;let#[hh,g,d,tk,os]:=s1;change jl _ _ (call (.r C) us) _ _ _;show Ga ui (T.keeps I1.bk) I1.kIn (I1.bk>>hC) M.init M.fn (λh' x' me=>?_) (by rw[<-↑r];show hz);let#[tt,hx',0]:=me.there;let hnew:hh.get? x'=gf:=me.new;let hxH:H1 x'=gf:=I1.hok.none_of' hnew;let hok1:HOk X.prog X.w (upd H1 x'\dI x' C gf) h':=λb ob e=>by
  by_cases hb:b=x'
  .subst hb;rw[aH] at e;cases e;show vL hx' rfl rfl rfl
  rw[aq hb] at e;show (I1.hok b ob e).stay (λc w' _ r=>me.keeps c w' r) (λc r=>by rw[aq\ak r hxH];show r) λc xs r=>by rw[aq\ak r hxH];show r
 let e0:gr X.prog X.w X.K X.mg X.base X.A X.stack #[h',g,d,tk,os] (upd H1 x'\dI x' C gf):=by
  let E1:=I1.env0;erw[E1.frames,E1.mod,λb ob e=>?_,?_,E1.funs.of_keeps λb o hb _=>#[o,me.keeps>>hb,1],λb hb=>?_,hok1,E1.bare]
  .let#[a1,a2]:=E1.bs b ob e;erw[me.keeps>>a1,by rw[aq (λz=>by rw[z] at a1;let a1:hh.get? x'=_:=a1;rw[hnew] at a1;cases a1)];show a2]
  .let#[m,#[o,es,ep,ho,_],_]:=I1.loc;show cQ I1.ok.bsz\cQ I1.ok.above (nj\aJ (me.keeps>>ho))
  rw[aq λz=>?_];show E1.frf b hb;let#[_,o,ho,_]:=E1.funs.mem hb;rw[z] at ho;let ho:hh.get? x'=_:=ho;rw[hnew] at ho;cases ho
 let hl:↑(Value.ref x'::us++[])=↑ps:=by let e:=↑(show Vals (V.ref x'::vs) (Value.ref x'::us) from .c rfl r);rw[Fl _ _ _ _\q x' hxH] at e;rw[eY];show e.symm
 let kin':X.K.In h':=I1.kIn.keeps me.keeps;let bb:=hb #[h',g,d,tk,os] (Value.ref x'::us) kin' hl;rw[eY] at bb;show kX (pM (Fr us X.stack _ _ #[Value.ref x'::us,[]] (Value.ref x'::us) (V.ref x'::vs) _ (e0.make C us []) bb (.c rfl r)\q x' hxH) λr' s' hq'=>?_);cases r' with
 |error e=>show hq'.elim
 |ok fl=>
  cases fl with
  |next=>show hq'.elim
  |brk=>show hq'.elim
  |cont=>show hq'.elim
  |ret u=>
   let#[v,H',os',bare',un',hok',rv,ev,d',hx2,q2]:=hq';subst ev;let os':s'.os=os:=os';erw[rv,?_];let nx:∀b ob,hh.get? b*>ob->b≠x':=λb ob e z=>by rw[z,hnew] at e;cases e
   let nxH:∀b ob,H1 b*>ob->b≠x':=λb ob e z=>by rw[z,hxH] at e;cases e
   let un:Un (frs X.stack) [] H1 (del H' x') hh s'.heap:=by
    erw[λb ob e n hb hx=>un'.keep b ob (me.keeps>>e) (by rw[aq\nx b ob e];show n) hb hx,λb ob e n hb hx=>un'.slot b ob (me.keeps>>e) (by rw[aq\nx b ob e];show n) hb hx,
     λb ob e n hx=>by rw[eS\nx b ob e];show un'.free b ob (me.keeps>>e) (by rw[aq\nx b ob e];show n) hx,λb ob e hx=>un'.there b ob (me.keeps>>e) hx,
     λb xs e=>by rw[eS\nxH b _ e];show un'.tups b xs (by rw[aq\nxH b _ e];show e),λb ob xs e=>by rw[eS\nxH b _ e];show un'.frzs b ob xs (by rw[aq\nxH b _ e];show e),λb ps e=>?_]
    let#[more,z]:=un'.tbls b ps (by rw[aq\nxH b _ e];show e);erw[more,by rw[eS\nxH b _ e];show z]
   let hok2:HOk X.prog X.w (del H' x') s'.heap:=λb ob e=>by
    let hb:b≠x':=λz=>by rw[z,Ak] at e;cases e
    rw[eS hb] at e;show (hok' b ob e).stay (λ_ _ _ r=>r) (λc r=>?_) λc xs r=>?_
    .rw[eS (λz=>by rw[z,hx2] at r;cases r)];show r
    rw[eS (λz=>by rw[z,hx2] at r;cases r)];show r
   let I3:=I1.call' (ch:=[]) os' un hok2 bare' (λb z=>absurd z ∅);let#[#[wv,sl,t0,hxo,h0,h1,h2],_]:=(show bh X.prog X.w H' s'.heap x' (dI x' C d') from hok' x' _ hx2);erw[x',d',wv,sl,Sn,Z,2,I3.bk>>hC,hxo,h1,h2,I3,I1.oldNone hnew (by rw[hnx];simp),λp hp z=>?_,Ak,q2];let e:=(I1.pin p hp).1;rw[z] at e;let e:hh.get? x'=_:=e;rw[hnew] at e;cases e
def uD(b:REnds X E)(c:X.ex=[])(M:iZ X.K C f)(F:az X.prog X.w X.K X.mg X.base CX0 k f fd ps sp)(d:Room (k+1) X.A)(a:Binds X.K fd ps [])(g:Gl X x)(hm:X.mg x*>.r C)(ha:PA X (e::es) t)
  (he:kA (e::es) X.env=(hB,nH e X.env)::kA es X.env:=by rfl) (j:(nT cpos\kA es X.env).any (·.1)=hB:=by rfl) (hd:(x==(↑17 : Str))=hB:=by decide) :
  PS X (.Raise (gh\.Call (.n x np) (e::es) [] cpos) gf pos) (Ar E C sp t):=uE b c M F.len (λl outer s H args us vs Q m a n h=>F.run _ outer s H args us vs Q E0 (d.make C l []) m a n h) a g hm ha he j hd
end
section
def N_(K:W.Frag):V->Hp->VK->Prop:=λx H Q=>∃d:pC,Dt K H x d/\d.showable=gm/\d.depth<=60/\d.shown.length<=js/\Q (.s d.shown) H
def A8{pos:Pos}(p:X.A.units+64<pq)(j:X.A.guards*>[])(he:PE X e te):PE X (.FormattedValue e 114 gf pos) (tUn (N_ []) te):=by
 lk;intro Q I h;show wpAny_FormattedValue_repr (thn (he Sn s Z H _ I h) λu s1 o=>?_);let#[#[x,H1,a,c,d,hd,g,hz,f,q],#[as,l],m]:=#[o,Dt.reads a d x u hd c,PyData.hasDict_of_canLay d\Dt.can d x hd];let fin:∀(s2:ij)(t:Tok),!Inv H1 s2->jl ⇑X X.A (formatField (.s d.shown t) Str.empty) (EP X Sn Z Q) X.xe s2:=λs2 t n=>
  QV #[.s d.shown,H1,n,#[2],q] #[.s d.shown,H1,n.tok _,#[2],q] f
 cases hd with
 |non=>cases c;show pyReprObj_none (fin>>(a.tok _))
 |bl b=>cases c;show pyReprObj_bool (fin>>(a.tok _))
 |int i=>let#[t,1]:=c;show pyReprObj_int (by simpa [PyData.showable] using g) (fin>>(a.tok _))
 |str y r=>let#[t,1]:=c;show pyReprObj_str (fin>>(a.tok _)) (hx:=f)
 |lst h1 h2=>
  cases c;show QG l g (PK m) j () (λ_ _ z=>z) (λh' u tk k=>fin>>(a.kept k)) (hsz:=f)
 |tup h1 h2=>
  cases c;show QG l g (PK m) j () (λ_ _ z=>z) (λh' u tk k=>fin>>(a.kept k)) (hsz:=f)
end
def qC(J:It)(g:TG)(tt:TT)(tk tv:TE)(D:i4)(Z':St)(H1:Hp)(Q:Hp->Prop):Prop:=
 ∃W:Nat->Nat->St->Hp->Prop,(∃m,W 0 m Z'\upd H1 D (.k []))/\∀i m Z H,W i m Z H->
  (J.stop i H/\Q H)\/(J.go i H/\∃N:St->Hp->Prop,(∀Z' H',N Z' H'->∃a,a<m/\W (i+1) a Z' H')/\∀x H',J.yld i H x H'->g x Z H' λσ2 H2=>tt σ2 H2 λb c=>
   if b=gm then tk σ2 c λk e=>tv σ2 e λy d=>∃kvs kk,d D*>.k kvs/\k=kV kk/\↑kvs<js/\N σ2 (upd d D\.k (cA kvs kk y)) else N σ2 c)
def Li(wi:TI)(g:TG)(tt:TT)(tk tv:TE)(fr:List\Option Nat):TE:=λZ H Q=>wi Z H λJ H1=>∀D,H1 D=gf->qC J g tt tk tv D (iU fr Z) H1 λH2=>Q (.r D) H2
def E6{kx vx target iter:mR}{ifs:-mR}{scope:Scope}{pos:Pos}{it:hK}{D:i4}{env:Env}{R:Result->ij->Prop}(I:Nat->ij->Prop)
  (turn:∀n s,I n s->jl (kC P w) A (pS it) (λr s1=>match r with
   |none=>R (.ok .next) s1
   |some v=>jl (kC P w) A (letOwnedTupleGo target it v) (λ_ s1'=>jl (kC P w) A (assign target env v) (λ_ s2=>
     jl (kC P w) A (forIn ifs gm λc r=>if r=gm then do let ok <-isTrue c env\nH c env;pure (ForInStep.yield ok) else pure (ForInStep.yield r)) (λok s3=>
      if ok=gm then jl (kC P w) A (nH kx env) (λk s4=>jl (kC P w) A (nH vx env) (λx s5=>
       jl (kC P w) A (dictSet D k x) (λ_ s6=>∃m,m<n/\I m s6) (λ_ _=>False) s5) (λ_ _=>False) s4) (λ_ _=>False) s3
      else ∃m,m<n/\I m s3) (λ_ _=>False) s2) (λ_ _=>False) s1') (λ_ _=>False) s1) (λ_ _=>False) s)
  (n:Nat) (h:I n s) :
  oD (kC P w) A (.compLoop (.DictComp kx vx [#[target,iter,ifs,(0)]] scope pos) 0 it (.r D) env) R s:=by
 let no:∀(e:hK)(t:ij),False->notedBy (kC P w) A env (λe s'=>R (.error e) s') e t:=λ_ _ z=>z.elim;show codeAny_loop rfl I (λn s hI=>?_) n h;show wpAny_noted ?_;rw[compTurn_dict];show aa\k_ (aa\bU (turn n s hI) (λr s1 h1=>?_) no);cases r with
 |none=>show ai h1
 |some v=>
  show aa\bU h1 (λ_ s1' h1'=>?_) no;show aa\bU h1' (λ_ s2 h2=>aa\bU h2 (λok s3 h3=>?_) no) no;cases ok with
  |false=>show ai #[1,h3]
  |true=>
   show aa\aa (bU h3 (λk s4 h4=>aa\cY (bU h4 (λx s5 h5=>aa\k_ (cY\bU h5 (λ_ s6 h6=>ai #[1,h6]) no)) no)) no)
def zu{kvs:-(Key×V)}{k:Key}{Q:Unit->ij->Prop}(I:!Inv H s)(e:H d*>.k kvs)(b:aC (kV k) u)(l:↑kvs<js)(c:aC v r)
  (h:∀s',!Inv (upd H d\.k (cA kvs k v)) s'->Q .unit s'):jl ⇑X A (dictSet d u r) Q E s:=by
 let#[z,hd,vs,rel,dd]:=oP I.hok e;let hz:↑vs<=sizeLine:=by rw[<-↑rel];show z
 let f:↑(cA kvs k v)<=sizeLine:=by have:=nP kvs k v;lia
 show wpAny_dictSet_pairs (hsz:=hz) (iB b) dd λh' a g=>h _ ?_;let he:∃q,h'.get? d*>q:=let ⟨q,_,_,j,_⟩:=a;#[q,j];show oA I (by rw[e];show True.intro) g he\oJ f hd (rel.put k c) a
section
variable {N:-Str}{fr:List (Option Nat)}{fp:-i4}
def F6{kx vx target iter:mR}{ifs:-mR}{pos:Pos}{it D:i4}{tn:Nat->mu->Prop}{J:It}{g:TG}{tt:TT}{tk tv:TE}{R:Result->ij->Prop}{s1:ij}{H:St}{H1:Hp}{Q:Hp->Prop}
  {Y:Cx} (hY:Y.xe=λ_ _=>False) (P:Y.calm=gm) (I:Inv Y [] H (upd H1 D\.k []) s1) (T:Turn Y.prog Y.w Y.K target J fp it tn) (ht:tn 0 s1.heap) (hf:∀b∈fp,bV Y [] (upd H1 D\.k []) b)
  (hg:PG Y target g) (hi:PIf Y ifs tt) (hk:PE Y kx tk) (hv:PE Y vx tv) (h:qC J g tt tk tv D H H1 Q) (hR:∀s' Z' H',Inv Y [] Z' H' s'->Q H'->R (.ok .next) s') :
  oD (kC Y.prog Y.w) Y.A (.compLoop (.DictComp kx vx [#[target,iter,ifs,(0)]] scope pos) 0 (.r it) (.r D) Y.env) R s1:=by
 let#[W,#[m0,w0],turn]:=h;let L:∀{H':Hp},(∀b∈fp,H' b=gf)->∀b∈fp,bV Y [] H' b:=λhn b a=>#[hn b a,(hf b a).2];show E6 (λn s'=>∃i Z' H',Inv Y [] Z' H' s'/\tn i s'.heap/\(∀b∈fp,H' b=gf)/\W i n Z' H') ?_ m0 #[(0),H,_,I,ht,λb a=>(hf b a).1,w0];rintro n S ⟨i,l,z,U,X,Z,w3⟩;let back:∀{α:Type}{t:Sem α}{Q:α->ij->Prop}{s:ij},jl (kC Y.prog Y.w) Y.A t Q Y.xe s->jl (kC Y.prog Y.w) Y.A t Q (λ_ _=>False) s:=λh=>by rw[hY] at h;show h
 rcases turn i n l z w3 with ⟨stop,qn⟩|⟨go,N',ab,step⟩
 .refine thn (T.done Y rfl rfl rfl P i [] S l z _ U (L Z) X stop) λr s4 ⟨M,I4⟩=>?_;subst M;show hR s4 l z I4 qn
 show thn (T.item Y rfl rfl rfl P i [] S l z _ U (L Z) X go) λr s4 ⟨u,M,h4⟩=>?_;subst M;show thn h4 λ_ s5 q=>?_;let#[x,H5,I5,r5,y5,N,ag]:=q;let ad:=I5.pinned (L ag) (T.obj>>N);rw[Pm] at ad;show thn (back\hg _ s5 l H5 x u _ ad r5 (step x H5 y5)) λ_ s6 ⟨O,H6,I6,q6⟩=>?_;show thn (back\hi _ s6 O H6 _ I6 q6) λb c ⟨f,j,B⟩=>?_;let again:∀{C:St}{f:Hp}{c:ij},Inv Y (l9 fp s5.heap) C f c->(∃E,E<n/\W (i+1) E C f)->∃m,m<n/\∃i Z' H',Inv Y [] Z' H' c/\tn i c.heap/\(∀b∈fp,H' b=gf)/\W i m Z' H':=λ{C f c} j ⟨E,hm,w7⟩=>by
  erw[E,hm,i+1,C,f,j.pins_of (λp hp=>by simp at hp),T.keep _ _ _ N λb a o e=>(j.pin (b,o)\ft _ (jY a e)).1,λb a=>?_,w7];let#[o,e,d]:=T.obj _ _ N b a;show (j.pin (b,o)\ft _ (jY a e)).2.1
 cases b with
 |false=>
  rw[Sg bH] at B;rw[Sg bH];show again j (ab>>B)
 |true=>
  rw[Sh rfl] at B;rw[Sh rfl];show thn (back\hk _ c O f _ j B) λk s8 q=>?_;let#[yk,H8,I8,r8,q8]:=q;show thn (back\hv _ s8 O H8 _ I8 q8) λv s9 q=>?_;let#[y,H9,I9,r9,kvs,kk,hD,ek,hl,q9]:=q;subst ek;show back (zu I9 hD r8 hl r9 λs' I'=>again I' (ab>>q9))
end
section
variable {N:-Str}{fr:List (Option Nat)}{kx vx tg iter:mR}{ifs:-mR}{pos:Pos}{wi:TI}{g:TG}{tt:TT}{tk tv:TE}
def Ci(X:Cx)(N:-Str)(scope:Scope)(tg:mR)(ifs:-mR)(kx vx:mR)(g:TG)(tt:TT)(tk tv:TE):Prop:=
 ∀(C:i4)(s:ij)(H:Hp)(fp:-i4)(Sn:-(i4×Obj)),PG (fG X N scope C s H fp Sn) tg g/\PIf (fG X N scope C s H fp Sn) ifs tt/\PE (fG X N scope C s H fp Sn) kx tk/\PE (fG X N scope C s H fp Sn) vx tv
def Ey{l:hK}{Z_:hK->i4->Result->ij->Prop}{QQ:i4->Hp->Prop}(S:fP X N fr scope)(K:X.calm=gm)
  (a:Ci X N scope tg ifs kx vx g tt tk tv) (h2:PIE X Sn Z tg (λJ H1=>∀D,H1 D=gf->qC J g tt tk tv D (iU fr Z) H1\QQ D) l s)
  (L:∀D C s' H',!Inv H' s'->bV X Sn H' C->(∃m,s'.heap.Ns C m)->QQ D H'->Z_ (.r D) C (.ok .next) s') :
  jl ⇑X X.A newDict (λacc M=>jl ⇑X X.A (newFunctionEnv scope X.env.globals (eI X.env scope.names []) [] X.env.qual gf .none\gh X.env) (λn O=>
   oD ⇑X X.A (.compStart (.DictComp kx vx [#[tg,iter,ifs,(0)]] scope pos) 0 l acc {n with scope:=relabel scope X.env}) (Z_ acc n.locals) O) E M) E s:=by
 let#[it,fp,tn,J,H1,e,h,T,r,v,q]:=h2;subst e;let P:H1 ↥s=gf:=h.hok.fresh\ar _;let old:∀b∈fp,b<↥s:=λb a=>by
  let#[o,e,_]:=T.obj _ _ r b a;show aJ e
 show e_\QZ S.nocell (by intro y Q;simp at Q) (λh1 x j=>?_) S.kind;dsimp only at x j |-;let z:!Inv (upd H1 ↥s\.k []) {s with heap:=s.heap.push {cls:=.t ↑53,data:=.y\tA []}}:=by show h.laid (t':=s.toks) (λb u e=>aP _ e) (ar _) ?_;show u7 s.heap h.big
 let c:∀b∈fp,bV X Sn (upd H1 ↥s\.k []) b:=λb a=>#[by rw[aq\bD (old b a)];show (v b a).1,(v b a).2];let hsz:(s.heap.push {cls:=.t ↑53,data:=.y\tA []}).objs.size=↥s+1:=kM ..;let d:=yI (C:=(s.heap.push {cls:=.t ↑53,data:=.y\tA []}).objs.size) (h1:=h1) (t:=s.toks+↑([]:-(Str×hK))) (fp:=fp) S z c (ar _)
  (λb a=>by rw[hsz];show bD\nq (old b a)) x λb o e=>j.extBut b o (bD\aJ e)\aP _ e
 let B:tn 0 h1:=T.keep _ _ _ r λb a o e=>by
  let H:=aP {cls:=.t ↑53,data:=.y\tA []} e;show j.extBut b o (bD\aJ H)\aP _ H
 let U:∀b∈fp,bV (fG X N scope (s.heap.push {cls:=.t ↑53,data:=.y\tA []}).objs.size {s with heap:=s.heap.push {cls:=.t ↑53,data:=.y\tA []}} (upd H1 ↥s\.k []) fp Sn) [] (upd H1 ↥s\.k []) b:=λb a=>by
  erw[(c b a).1,(d.ok.exf b a).1,d.ok.exfs b a,.l a,(d.ok.exf b a).2,λp f=>?_];let f:p∈(X.pn++Sn)++[]:=f;rw[eY] at f;show (c b a).2.2.2.2.2 p f
 let#[b1,b2,b3,b4]:=a (s.heap.push {cls:=.t ↑53,data:=.y\tA []}).objs.size {s with heap:=s.heap.push {cls:=.t ↑53,data:=.y\tA []}} (upd H1 ↥s\.k []) fp Sn;let run:=F6 (Y:=fG X N scope (s.heap.push {cls:=.t ↑53,data:=.y\tA []}).objs.size {s with heap:=s.heap.push {cls:=.t ↑53,data:=.y\tA []}} (upd H1 ↥s\.k []) fp Sn) (kx:=kx) (vx:=vx) (iter:=iter) (pos:=pos) (scope:=scope) (R:=Z_ (.r ↥s) (s.heap.push {cls:=.t ↑53,data:=.y\tA []}).objs.size) rfl K d T B U b1 b2 b3 b4 (q _ P) λs' Z' H' I q'=>by
  let#[J1,F1]:=Al z c (ar _) I;let#[m,hm,_]:=I.loc;show L _ _ s' H' J1 F1 #[m,hm] q'
 show codeAny_compStart_dict run\T.self _ 0 _ _ _ B run
def HA(S:fP X N fr scope)(c:X.calm=gm)(hi:PI X tg iter wi)(a:Ci X N scope tg ifs kx vx g tt tk tv)
  (d:∀x,foldedSetIterable iter X.env x=pure x:=by intro _;rfl):PE X (.DictComp kx vx [#[tg,iter,ifs,(0)]] scope pos) (Li wi g tt tk tv fr):=by
 lk;intro Q I h;rw[arm_eval_DictComp];show DH (use:=gf) rfl d (uB\S.cells I.ok) S.kind S.names (thn (hi Sn s Z H _ I h) λv s1 h1=>thn h1 λj s2 h2=>?_);show Ey (QQ:=λD H2=>Q (.r D) H2) (Z_:=λacc C=>compPost ⇑X X.A X.xe gf (EP X Sn Z Q) acc C) S c a h2 λD C s' H' J F hm q=>?_;let#[m,hm]:=hm;erw[m,hm,λh' f=>#[.r D,H',?_,1,q]];show J.turned (t':=s'.toks) (λb o a e=>f.extBut b o a e) F.1 F.2.1 F.2.2.2.1 F.2.2.2.2.1 F.2.2.2.2.2
end
section
variable {a D:i4}{g:TG}{tt:TT}{tk tv:TE}{Z':St}{H1:Hp}{Q:Hp->Prop}
end
section
variable {d D:i4}{o:Obj}{u:HO}{ks vs:-V}{g:TG}{tt:TT}{tk tv:TE}{Z':St}{H1:Hp}{Q:Hp->Prop}
def E7(Pv:Nat->St->Hp->Prop)(h:Pv 0 Z'\upd H1 D (.k []))(j:∀i Z H,i<=↑ks->Pv i Z H->H d*>.z o u)
  (l:∀i x Z H,ks[i]?*>x->Pv i Z H->g x Z H λσ2 H2=>tt σ2 H2 λb a=>
   if b=gm then tk σ2 a λk n=>tv σ2 n λy c=>∃kvs kk,c D*>.k kvs/\k=kV kk/\↑kvs<js/\Pv (i+1) σ2 (upd c D\.k (cA kvs kk y)) else Pv (i+1) σ2 a)
  (hd:∀Z H,Pv ↑ks Z H->Q H):qC (Itk d o ks) g tt tk tv D Z' H1 Q:=by
 erw[λi m Z H=>m=↑ks-i/\i<=↑ks/\Pv i Z H,#[↑ks,∅,aZ _,h],?_];rintro i m Z H ⟨rfl,hi,p⟩;let q:=j i Z H hi p;by_cases f:i<↑ks
 .refine .o #[#[f,u,q],Pv (i+1),λZ' H' r=>#[↑ks-(i+1),(),1,f,r],λx H' y=>?_];let#[e,y]:=y;subst e;show l i x Z _ y p
 let e:i=↑ks:=();subst e;show .l #[#[ar _,u,q],hd Z H p]
end
def Eu:typeLookup (.t ↑25) "keys" = pure gf:=am_miss_of_fast (by kernel_rfl)
def Ki{prog:lu}{w:n7}{E:hK->ij->Prop}{a:i4}{xs:Array hK}{k:Nat}{sl:Array\Option hK}{Q:Option hK->ij->Prop}
  (hx:s.heap.get? a*>{cls:=.t ↑25,dict:=gf,data:=.e xs k,slots:=sl}) (f:A.handled=gf)
  (q:∀h' tk,(∀b ob,s.heap.get? b*>ob->h'.get? b*>ob)->Q gf {s with heap:=h',toks:=tk}):jl (kC prog w) A (getAttr? (.r a) "keys") Q E s:=by
 let#[#[h,g,d,tk,os],ty,j,l,m,n]:=#[s,(λ_=>#[_,hx,1]:∀c,(#[h,g,d,c,os]:ij).TypeIs (.r a) ↑25),sub_AttributeError,Dk.lookup,Dk.bind\.r a,am_list_getattr_none];unfold getAttr? getAttrBy? getAttrBy
 repeat (any_goals (first|assumption|show ty _|((with_reducible show jl _ _ (call (Value.builtin "list.__getattribute__") _ _) _ _ _);show uo Dk (ty _) am_entry_list_getattribute (PySem.F.args_list_getattribute_2 _ _) (meets_getattribute_miss_list a xs k sl "keys" _ Eu ⋯) #[hx,f,λh' c e ne=>?_])|wp_step))
 let#[t',o,p]:=ne.there;change jl _ _ (getattributeRaised _ _ _ _ _ _ _) _ _ _;unfold getattributeRaised
 repeat (any_goals (first|assumption|wp_step))
 show q _ _ ne.keeps
def xW:entryFor table "dict.update.loop"*>Builtin.«dict.update.loop»:=Qz (by kernel_rfl)
def pZ:plainId "dict.update.loop" = gm:=⋯
section
def iX(H:Hp)(ys:-V)(ps:-(Key×V)):Prop:=Paired (λy p=>∃b,y=V.ref b/\H b*>.u [kV p.1,p.2]) ys ps
def iX.get:∀{ys:-V}{ps:-(Key×V)}{i:Nat}{p:Key×V},iX H ys ps->ps[i]?*>p->∃b,ys[i]?*>.r b/\H b*>.u [kV p.1,p.2]
 |_,_,_,_,.nil,e=>by simp at e
 |_,_,0,_,.cons ⟨b,a,c⟩ _,e=>by simp at e;subst e a;erw[b,1,c]
 |_,_,i+1,p,.cons _ t,e=>by
  let#[b,h1,h2]:=iX.get (i:=i) (p:=p) t ‹e›;erw[b,‹h1›,h2]
def iX.len:∀{ys:-V}{ps:-(Key×V)},iX H ys ps->↑ys=↑ps
 |_,_,.nil=>rfl
 |_,_,.cons _ t=>by simp[iX.len t]
def jx(kvs:-(Key×V))(ps:-(Key×V)):-(Key×V):=ps.foldl (λd p=>cA d p.1 p.2) kvs
def ER{it:i4}{ps:-(Key×V)}(hc:A.handled=gf)(E:H D=gf)(K:SqL [] H a ys)(S:iX H ys ps)(hz:↑ps<js)
  {R:Result->ij->Prop} (hR:∀s',!Inv (upd H D\.k (jx [] ps)) s'->R (.ok\.ret .none) s') :
  ∀(k i:Nat)(kvs:-(Key×V))(s:ij),↑ps-i=k->i<=↑ps->↑kvs<=i->jx kvs (ps.drop i)=jx [] ps->!Inv (upd H D\.k kvs) s->s.heap.IsListIter it a i->bV X Sn (upd H D\.k kvs) it->
   oD ⇑X A (.b "dict.update.loop" #[[.r D,.r it,p6 i,.none],[]]) R s:=by
 let T:∀kvs,SqL [] (upd H D\.k kvs) a ys:=λkvs=>by
  rcases K with (e|⟨o,e⟩)|h
  .exact .l\.l (by rw[aq\ak e E];show e)
  .exact .l\.o #[o,by rw[aq\ak e E];show e]
  show .o h
 intro k;induction k with
 |zero=>
  intro i kvs s hk hi _ g I st hf;let ag:i=↑ps:=();subst ag;show iH xW ?_;rw[i8 pZ _];let#[#[al,L,p,am],#[f,m,U,r,y,B],hl,a2]:=#[I.list\T kvs,hf,↑L,S.len];change jl _ A.in1 (pS (.r it) >>= _) _ _ s;show aa (Q6 hc st p.isList (by simp;lia) λh' eb=>?_);rw[CY] at g;let g:kvs=jx [] ps:=g;subst g;change jl _ A.in1 (Builtin.Dict.addKeywords D [] >>= _) _ _ _;show aa\ai (ai\hR _ (I.turned (t':=s.toks) (λb o M e=>eb b o M e) f m r y B))
 |succ k ih=>
  intro i kvs s hk hi a3 g I st hf;let Y:i<↑ps:=();show iH xW ?_;rw[i8 pZ _];let#[#[al,L,p,am],#[b,an,ab],#[u,hu,ru]]:=#[I.list\T kvs,S.get (i:=i) (p:=ps[i]) (by simp[Y]),L.get an];cases ru;let#[f,m,U,r,y,B]:=id hf;change jl _ A.in1 (pS (.r it) >>= _) _ _ s;show aa (Q7 st p.isList (x:=.r b) ‹hu› λh' ad sb=>?_);let I1:!Inv (upd H D\.k kvs) {s with heap:=h'}:=I.turned (t':=s.toks) (λb o M e=>(sb.2 b M)<*e) f m r y B;let ap:upd H D (.k kvs) b*>.u [kV (ps[i]).1,(ps[i]).2]:=by rw[aq\ak ab E];show ab
  let#[vs,aM,#[ot,p1,p2,n,p3],_]:=I1.tuple\SqT.of ap;let aS:∃j l,vs=[j,l]/\aC (kV (ps[i]).1) j/\aC (ps[i]).2 l:=by
   cases aM with
   |cons N O=>cases O with
    |cons P O=>cases O;erw[9,N,P]
  let#[j,l,1,N,P]:=aS;show aa\cY (aa ?_);show uu ?_;unfold Builtin.Dict.pairItems;show aa\nE #[_,p1,p2] ?_;rw[Sh ⋯];unfold seqItems?;show aa\aa (wpAny_load p1 ?_);rw[p3];show ai\ai ?_;change jl _ _ (holding [j,l]\dictSet D j l) _ _ _;let ob:∀c∈[it],∃o,h'.get? c*>o/\∀v,o.data≠.cell v:=λc Q=>by
   let e:c=it:=‹Q›
   subst e;let#[o,e,c1,d]:=ad;erw[o,e,λv z=>by rw[d] at z;cases z]
  let I2:=I1.pinned (fp:=[it]) (λc Q=>by rw[aG.mp Q];show hf) ob;show cY (zu I2 aH N () P λs' C=>?_);rw[vk] at C;let#[J,a0,hl]:=#[C.pins_of (pins':=Sn) λq K=>C.pin q\ft _ (eK _ K),(ad.at λo e=>(C.pin (it,o)\ft _ (ft _ (jY ∅ e))).1:s'.heap.IsListIter it a (i+1)),nP kvs (ps[i]).1 (ps[i]).2];let a1:((i:Int)+1)=((i+1:Nat):Int):=by push_cast;rfl
  show ai #[jf pZ _,?_];rw[a1];show ih (i+1) _ s' () () () ?_ J a0 #[?_,m,U,r,y,B]
  .rw[<-g,i_ Y];rfl
  have:it≠D:=λz=>by rw[z,aH] at f;cases f
  rw[aq this] at f |-;show f
def Hr(K:W.Frag):-V->Hp->VK->Prop:=λxs H Q=>∃(a:i4)(ys:-V)(ps:-(Key×V)),xs=[.r a]/\H a*>.a ys/\iX H ys ps/\↑ps<js/\∀p,H p=gf->Q (.r p)\upd H p (.k\jx [] ps)
def Ea(g:X.A.handled=gf):c7 X (.t ↑53) (Hr []):=by
 lk;intro xs us Q I r h;let#[a,ys,ps,1,ha,p,hz,q]:=h;let#[u,1,v]:=Vals.one r;cases v;let#[z,E,n,K,w]:=I.hok>>ha;let d:H ↥s=gf:=I.hok.fresh\ar _;show Qw (Q₁:=λobj s₁=>obj=.r ↥s/\s₁={s with heap:=s.heap.push {cls:=.t ↑53,data:=.y\tA []}}) PySem.F.kt_called_dict (PySem.F.kt_typeCall_dict_1 _) PySem.F.entry_dict_init (kt_code_dict_new _ #[5]) ?_;rintro obj s₁ ⟨rfl,rfl⟩;let x:!Inv (upd H ↥s\.k []) {s with heap:=s.heap.push {cls:=.t ↑53,data:=.y\tA []}}:=by show I.laid (t':=s.toks) (λb u e=>aP _ e) (ar _) ?_;show u7 s.heap I.big
 let j:({s with heap:=s.heap.push {cls:=.t ↑53,data:=.y\tA []}}:ij).TypeIs (.r ↥s) ↑53:=#[_,bJ _ rfl,1];let m:=aP ({cls:=.t ↑53,data:=.y\tA []}:Obj) w;erw[j,PySem.F.args_dict_init_2 _ _,?_];unfold Builtin.«dict.__init__» Builtin.Dict.selfAndRest;show aa\aa (DP j ?_);change jl _ _ (pure (↥s,[Value.ref a])) _ _ _;show ai ?_;change jl _ _ (Builtin.Dict.updateFrom "dict.__init__" ↥s (.r a) [] .none) _ _ _;unfold Builtin.Dict.updateFrom;show aa\nE #[_,m,1] ?_;rw[Sh ⋯];show aa (Ki m g λh2 f k2=>?_);let c:!Inv (upd H ↥s\.k []) {s with heap:=h2,toks:=f}:=x.kept k2;let#[L,M,y,N,B]:=c.hok>>(show upd H ↥s (.k []) a*>.a ys by rw[aq\ak ha d];show ha);simp only[Option.isNone_none,if_true];show aa\ur ?_;show aa\uq (l:=a) #[_,B,1,y,1] ?_;let C:!Inv (upd H ↥s\.k []) {s with heap:=h2.push {cls:=.t "list_iterator",data:=.d\tA [.r a,p6 0]},toks:=f}:=c.kept (t':=f) λb o e=>aP _ e;show ai #[jf pZ _,?_];show ER (X:=X) (A:=X.A.in1) (R:=wants (λr s₂=>r=.none/\EP X Sn Z Q (.r ↥s) s₂) X.xe) g d (.l\.l ha) p hz (λs' D=>#[1,.r ↥s,_,D,1,q _ d]) _ 0 [] _ rfl (aZ _) (ar _) rfl C #[_,bJ _ rfl,5] ?_;show c.fpOk (ar _)\c.hok.fresh (ar _)
end
def Inv.turnedL{h':mu}{t':Nat}{ch:-i4}(I:!Inv H s)(d:∀b∈ch,bV X Sn H b)(k:∀b o,b∉ch->s.heap.get? b*>o->h'.get? b*>o):
  !Inv H {s with heap:=h',toks:=t'}:=by
 let f:∀b u,H b*>u->b∉ch:=λb u e z=>by
  have:=(d b z).1;rw[this] at e;cases e
 show I.step (g':=s.gens) (d':=s.drawn) (ch:=ch) (λb g=>?_) (λb o _ _ a e _=>k b o a e) (λb o _ _ a e _=>#[o.slots,k b o a e]) (λ_ _ _ _ n=>n) (λb o a e=>#[o,k b o a e]) (λ_ _ e=>e) (λ_ _ _ e=>e) (λb ps e=>#[(tA []),by rw[e];simp]) (λm hm=>?_) (λb u e=>?_) I.bare
 .let#[_,h,_,j,l,p]:=d b g;erw[j,h,l,p]
 .let#[o,es,ep,w,r]:=hm;erw[o,es,ep,k _ o (λz=>(d _ z).2.1 rfl) w,r]
 show (I.hok b u e).stay (λc v a q=>k c v ?_ q) (λ_ q=>q) λ_ _ q=>q;rcases a with z|z
 .rw[z];show f b u e
 show f c _ z
def Itz(K:W.Frag)(a b:i4):It:=
 #[λi H=>∃xs ys x y,SqL K H a xs/\SqL K H b ys/\xs[i]?*>x/\ys[i]?*>y,
  λi H v H'=>∃p x y,H p=gf/\v=.r p/\H'=upd H p (.u [x,y])/\(∀xs,SqL K H a xs->xs[i]?*>x)/\∀ys,SqL K H b ys->ys[i]?*>y,
  λi H=>∃xs ys,SqL K H a xs/\SqL K H b ys/\(↑xs<=i\/↑ys<=i)]
abbrev OJ(z TI TO i1 i2 a b:i4)(i:Nat)(h:mu):Prop:=IsZip h z TI TO .none/\IsPair h TI (.r i1) (.r i2)/\(∃u v,IsPair h TO u v)/\h.IsListIter i1 a i/\h.IsListIter i2 b i
def Gg{elts:-mR}{x1}{pos:Pos}{a b z TI TO i1 i2:i4}(D:ZipApart z TI TO i1 i2 a b):
  Turn P w K (.Tuple elts x1 pos) (Itz [] a b) [z,TI,TO,i1,i2] z (OJ z TI TO i1 i2 a b) where
 mem:=∅
 obj:=λi h st c d=>by
  let#[s1,s2,#[u,v,g],#[o4,e4,_,d4],o5,e5,_,d5]:=st;simp only[aU,fM,or_false] at d;rcases d with rfl|rfl|rfl|rfl|rfl
  .exact#[_,s1,λv z=>by let n:Data.fields _=Data.cell v:=z;cases n]
  .exact#[_,s2,λv z=>by let n:Data.seq _ _=Data.cell v:=z;cases n]
  .exact#[_,g,λv z=>by let n:Data.seq _ _=Data.cell v:=z;cases n]
  .exact#[o4,e4,λv z=>by rw[d4] at z;cases z]
  erw[o5,e5,λv z=>by rw[d5] at z;cases z]
 keep:=λi h h' st k=>by
  let#[s1,s2,#[u,v,g],l,m]:=st;erw[k z ∅ _ s1,k TI ∅ _ s2,#[u,v,k TO ∅ _ g],l.at λo q=>k i1 ∅ o q,m.at λo q=>k i2 ∅ o q]
 item:=by
  intro X C hw L d i Sn s Z H E I hf st M;subst C hw L;let#[#[xs,ys,x,y,r,A,hx,S],#[s1,s2,#[u0,v0,g],l,m],#[ab,N,p,hz],#[its',O,Q,ad],#[u,hu,ru],#[B,ag,al],lt]:=#[M,st,I.list r,I.list A,N.get hx,O.get S,(λc o e=>bD\aJ e:∀c o,s.heap.get? c*>o->c≠↥s)];let l4:i1≠↥s:=by let#[o,q,_]:=l;show lt _ _ q
  let l5:i2≠↥s:=by let#[o,q,_]:=m;show lt _ _ q
  let#[l1,l2,l3]:=#[lt>>s1,lt>>s2,lt>>g];show Q8 D s1 s2 g l m p.isList Q.isList (x:=u) (y:=B) ‹hu› ‹ag› λh1 a1 a2 a3 a4 a5 a6 T=>?_;erw[2,?_];show wpAny_letOwnedTupleGo_zip a1 λh2 am j=>?_;replace j:Heap.SameBut z h1 h2:=j;let an:s.heap.get? ↥s=gf:=jO\ar _;let hn:H ↥s=gf:=I.hok.fresh\ar _;let U:h2.get? ↥s*>{cls:=.t ↑16,data:=.e\tA [u,B]}:=(j.2 _\aB l1)<*a5;let I2:!Inv (upd H ↥s\.u [x,y]) {s with heap:=h2,toks:=s.toks}:=by
   show I.turnLaid (ch:=[z,TI,TO,i1,i2]) hf (λb o f q=>?_) an λH'=>?_
   .let#[Y,ap,aM,aS]:=#[(λe=>f (by simp[e]):b≠z),(λe=>f (by simp[e]):b≠TO),(λe=>f (by simp[e]):b≠i1),(λe=>f (by simp[e]):b≠i2)];show (j.2 b Y).trans\T b o Y ap aM aS q
   erw[#[by simp;rw[cW];lia,_,U,1],[u,B],.c ru\.c al .nil,#[_,U,7]]
  erw[.r ↥s,_,I2,1,#[↥s,x,y,hn,5,λys R=>by rw[I.list_inj R r];show hx,λys R=>by rw[I.list_inj R A];show S],#[am,?_,#[u,B,?_],?_,?_],λc d=>?_]
  .exact (j.2 TI D.TIz).trans\T TI _ D.TIz D.TITO D.TIi1 D.TIi2 s2
  .exact (j.2 TO D.TOz).trans a2
  .exact a3.at λo q=>(j.2 i1 D.i1z)<*q
  .exact a4.at λo q=>(j.2 i2 D.i2z)<*q
  have:c≠↥s:=by simp only[aU,fM,or_false] at d;rcases d with rfl|rfl|rfl|rfl|rfl<;>assumption
  rw[aq this];show (hf c d).1
 done:=by intro X C hw L d i Sn s Z H E I hf st M;subst C hw L;let#[xs,ys,r,A,hx]:=M;let#[s1,s2,#[u0,v0,g],l,m]:=st;let#[ab,N,p,hz]:=I.list r;let#[its',O,Q,ad]:=I.list A;let hl:=↑N;let a0:=↑O;show wpAny_pyNext_zip_end (I.ok.hd d) D s1 s2 g l m p.isList Q.isList (by simp;lia) λh' eb=>#[1,?_];show I.turnedL (t':=s.toks) hf λb o f q=>?_;show eb b o (λe=>f (by simp[e])) (λe=>f (by simp[e])) (λe=>f (by simp[e])) (λe=>f (by simp[e])) q
 self:=λ_ _ _ _ _ st h=>DQ st.1 h
section
def Os(K:W.Frag)(R:It->Hp->Prop)(vs:-V)(H1:Hp)(a b:i4)(xs ys:-V):Prop:=vs=[.r a,.r b]/\SqL K H1 a xs/\SqL K H1 b ys/\R (Itz K a b) H1
def Oq(K:W.Frag)(R:It->Hp->Prop):-V->Hp->Prop:=λvs H1=>Exists\Ex4 (Os K R vs H1)
def iZip(K:W.Frag)(ta:TA):TI:=λZ H R=>ta Z H\Oq K R
def LX{elts:-mR}{x1}{tpos:Pos}{a b:mR}{p pos:Pos}(n:Gl X "zip")(hm:X.mg "zip" = gf)(ha:PA X [a,b] ta)(u:kA [a,b] X.env=[(hB,nH a X.env),(hB,nH b X.env)]:=by rfl)(g:kA [b] X.env=[(hB,nH b X.env)]:=by rfl):
  PI X (.Tuple elts x1 tpos) (.Call (.n "zip" p) [a,b] [] pos) (iZip [] ta):=by
 lk;intro R I h;show Call_\jC I n hm boot_zip (pH (thn (ha pos Sn s Z H _ I h) λus s1 ⟨vs,H1,d,v,w⟩=>?_) (by rw[u,g]) (by rw[g];rfl));let#[a,b,xs,ys,e,x,y,q]:=w;subst e;cases v with
 |cons r f=>
  cases f with
  |cons z f=>
   cases f;cases r;cases z;let#[M,N,pl,hz]:=d.list x;let#[its',O,j,P]:=d.list y;let A:a<↥s1:=by let#[o,e,_]:=pl.isList;show aJ e
   let B:b<↥s1:=by let#[o,e,_]:=j.isList;show aJ e
   show call_zip_2 pl.isList j.isList λh' h1 h2 C D E hsz K=>?_;show DQ h1 ?_;let L:!Inv H1 {s1 with heap:=h'}:=d.kept (t':=s1.toks) K;erw[8,_,H1,1,L,Gg\zipApart_new A B,#[h1,h2,#[0,C],D,E],λc l=>?_,q];let m:↥s1<=c:=by
    simp only[aU,fM,or_false] at l;rcases l with rfl|rfl|rfl|rfl|rfl
    all_goals first|show ar _|show pA _ _
   show d.fpOk m\d.hok.fresh m
end
def fW(p:hK->Prop)(L:i4)(h:mu)(e:i4)(cls:hK)(d:Option i4)(T:i4):Prop:=
 ∃(a:Obj)(vs:Array hK)(oT:Obj)(ts:Array hK),h.get? e*>a/\a.cls=cls/\a.dict=d/\a.data=.d vs/\(∃c,vs[2]?*>c/\p c)/\vs[1]?*>.r T/\T≠e/\h.get? T*>oT/\oT.data=.d ts/\ts[3]?*>p6 L
section
variable {M:Model}{e L T:i4}{cls:hK}{d:Option i4}{env:Env}{outer:-Env}{p:hK->Prop}
def fW.keep{h':mu}(x:fW p L h e cls d T)(k:∀b o,b=e\/b=T->h.get? b*>o->h'.get? b*>o):fW p L h' e cls d T:=by let#[a,vs,oT,ts,he,c,f,hd,g,h1,j,l,m,n]:=x;erw[a,vs,oT,ts,k _ _ (.l rfl) he,c,f,hd,g,h1,j,k _ _ (.o rfl) l,m,n]
def Me{a:Obj}{vs:Array hK}{Q:Unit->ij->Prop}(x:A.frames*>(env::outer))(j:s.heap.FunFrames base (env::outer))(hf:env.frame*>L)(he:s.heap.get? e*>a)(y:a.cls=cls)(B:a.dict=d)(hd:a.data=.d vs)(l:vs[1]?*>.none)(C:∃c,vs[2]?*>c/\p c)
  (h:∀h' T,fW p L h' e cls d T->s.heap.get? T=gf->mH (frs (env::outer)) e s.heap h'->Q .unit {s with heap:=h'}):jl M A (noteFrame (.r e) env) Q E s:=by
 let hsz:=(gv.mp l).1;unfold noteFrame;simp only[hf];show aa\cX he hd l ?_;rw[Sg ⋯];let D:e∉frs (env::outer):=λhm=>by
  let#[_,o,m,H]:=j.mem hm;rw[he] at m;cases m;show H vs hd
 show aa (QW x j hf λh1 g=>aa (QS λpl I=>?_));unfold EntryCells.newEntry newFields;show aa\e_ ?_ (I.sizeOk5 _ _ _ _ _);generalize K:({cls:=.t "traceback",dict:=gf,data:=.d ([Value.none,.r L,.none,p6 L,.none]++(if pl.isEmpty then List.replicate 6 Value.none else pl)).toArray}:Obj)=oT;let n:oT.data=.d ([Value.none,.r L,.none,p6 L,.none]++(if pl.isEmpty then List.replicate 6 Value.none else pl)).toArray:=by rw[<-K]
 let#[r,u,v,N]:=#[((g.2.1 e D)<*he:h1.get? e*>a),(aP _ r:(h1.push oT).get? e*>a),(kP\aJ r:h1.objs.size≠e),(bJ _\kU n:(h1.push oT).get? h1.objs.size*>oT)];show gJ u hd hsz ?_;let#[w,O,P]:=#[kT hd (·.setIfInBounds 1 (Value.ref h1.objs.size)),fm (Obj.mapFields (·.setIfInBounds 1 (Value.ref h1.objs.size))) u\kU w,(eu (h1.push oT) (Obj.mapFields (·.setIfInBounds 1 (Value.ref h1.objs.size)))\aB v)<*N];let keep:∀b o,b≠e->h1.get? b*>o->((h1.push oT).update e\Obj.mapFields (·.setIfInBounds 1 (Value.ref h1.objs.size))).get? b*>o:=λb o f q=>by
  rw[eu>>(aB f)];show aP _ q
 show h _ h1.objs.size #[8,_,O,(xA _ _)<*y,?_,w,by rw[tS ⋯];show C,by simp[hsz],v,P,n,∅] ?_ #[λb o f R q=>keep b o f\(g.2.1 b R).trans q,λb o f q=>by
  let#[sl,z]:=g.2.2 b o q;erw[sl,keep b _ f z]]
 .let#[c0,U,S,X]:=a;cases S<;>show B
 cases q:s.heap.get? h1.objs.size with
 |none=>rfl
 |some o=>
  let#[sl,z]:=g.2.2 _ o q;show absurd (aJ z)\dG _
def Bt{Q:Unit->ij->Prop}(hf:env.frame*>L)(x:fW p L s.heap e cls d T)(h:Q .unit s):jl M A (noteFrame (.r e) env) Q E s:=by let#[f,vs,oT,ts,he,g,j,hd,l,h1,m,a,b,c]:=x;unfold noteFrame;simp only[hf];show aa\cX he hd h1 ?_;rw[Sh (show (Value.ref T != Value.none)=gm by simp)];show aa\cX a b c ?_;rw[Sh ∅];show ai h
def L5{α:Type}{g:String}{Q:α->ij->Prop}(hf:env.frame*>L)(x:fW p L s.heap e cls d T)(h:∀h',fW p L h' e cls d T->(∀b,h'.get? b=s.heap.get? b)->E (.r e) {s with heap:=h'}):jl M A (PySem.passOn g (.r e) env:Sem α) Q E s:=by let#[j,vs,oT,ts,he,l,m,hd,n,h1,q,a,c,f]:=id x;unfold PySem.passOn;show aa\cX he hd h1 ?_;rw[Sg ∅];show aa ?_;unfold ry;show aa\cX he hd h1 ?_;rw[Sh (show (Value.ref T != Value.none)=gm by simp),hf];show gJ a c (gv.mp f).1\xO ?_;let same:=qy a\qc c f;show h _ (x.keep λb o _ z=>(same b)<*z) same
def Kr{Q:Unit->ij->Prop}(hf:env.frame*>L)(x:fW p L s.heap e cls d T)(h:∀h',eQ p h' e cls d->(∀b,b≠T->h'.get? b=s.heap.get? b)->Q .unit {s with heap:=h'}):jl M A (leaving env\.r e) Q E s:=by unfold leaving;show aa\Bt hf x ?_;let#[j,vs,oT,ts,he,l,m,hd,n,h1,a,c,f,o]:=x;let hz:=(gv.mp o).1;unfold ry;show aa\cX he hd h1 ?_;rw[Sh (show (Value.ref T != Value.none)=gm by simp)];show gJ c f hz ?_;let g:=kT f (·.setIfInBounds 3 Value.none);let oth:∀b,b≠T->(s.heap.update T\Obj.mapFields (·.setIfInBounds 3 Value.none)).get? b=s.heap.get? b:=λb q=>eu>>(aB q);show h _ #[j,vs,(oth e\aB a)<*he,l,m,hd,n,.o #[T,0,h1,a,fm _ c\kU g,g,by simp[hz]]] oth
end
section
variable {prog:lu}{env:Env}
variable {nm q:Str}{C N:i4}{bs bm:-hK}{hdct:Bool}{sn:-Str}{sub:-hK}{ab:Bool}{col:Option Bool}{dd:Option i4}{k0 k1 k2 k3 k5:Option hK}{newId:String}
def Em{s:ij}{x:Sem hK}{y:i4}{Q:Flow->ij->Prop}(c:bm.contains (.t ↑4)=gm)(f:A.handled*>.r y)
  (h:jl (kC prog w) A x (λv s₁=>∃e d vs sl a ws,v=.r e/\s₁.heap.get? C*>oy nm q C N bs bm hdct sn sub ab col dd k0 k1 k2 k3 k5 newId/\
   s₁.heap.get? e*>{cls:=.r C,dict:=d,data:=.d vs,slots:=sl}/\vs[1]?*>.none/\2<vs.size/\y≠e/\s₁.heap.get? y*>a/\a.data=.d ws/\ws[2]?*>.none/\
   E (.r e) {s₁ with heap:=s₁.heap.update e\Obj.mapFields (·.setIfInBounds 2 (Value.ref y))}) E s) :
  jl (kC prog w) A (raiseStmt env (gh x) gf) Q E s:=by
 let j:(Value.ref C::bm).contains (.t ↑4)=gm:=by rw[ph,c,wU]
 unfold raiseStmt;show aa (bU h (λv s₁ h₁=>?_) λ_ _ x=>x);let#[e,d,vs,sl,a,ws,1,b,he,l,hsz,m,n,o,p,r]:=h₁;let#[u,g,z,tk,os]:=s₁;show aa\ai (aa\cY ?_);unfold excFromValue
 repeat (first|with_reducible show gI he ?_|with_reducible show gI b ?_|(with_reducible show nA b ?_;rw[j])|wp_step)
 rw[l];show ai ?_;rw[Sg ⋯];show ai ?_;simp only[raiseNew];show aa\DJ ?_;rw[f];change jl _ _ (if (Value.ref y != Value.ref e)=gm then _ else _) _ _ _;rw[Sh ‹m›];show aa\cY (EA n o p ?_);show aa\gJ he rfl hsz (xO r)
end
section
variable {M:Model}{e L T:i4}{cls:hK}{d:Option i4}{env:Env}{p:hK->Prop}
def Cf(hf:env.frame*>L)(x:fW p L s.heap e cls d T)(h:∀h',fW p L h' e cls d T->(∀b,h'.get? b=s.heap.get? b)->E (.r e) {s with heap:=h'}):cameBackBy M A env E (.r e) s:=by let#[g,vs,oT,ts,he,j,l,hd,m,h1,n,a,c,f]:=id x;unfold cameBackBy;show aa\cX he hd h1 ?_;rw[Sg ∅];unfold ry;show aa\cX he hd h1 ?_;rw[Sh (show (Value.ref T != Value.none)=gm by simp),hf];show gJ a c (gv.mp f).1 ?_;let same:=qy a\qc c f;show h _ (x.keep λb o _ z=>(same b)<*z) same
def Iw{Q:Bool->ij->Prop}{C Ch:i4}{b:Obj}{nm q:Str}{N:i4}{bs bm:-hK}{hdct:Bool}{sn:-Str}{sub:-hK}{ab:Bool}{col:Option Bool}{dd:Option i4}{k0 k1 k2 k3 k5:Option hK}{newId:String}
  {l m:Str} {n:i4} {o a:-hK} {p:Bool} {r:-Str} {u:-hK} {v:Bool} {w:Option Bool} {x:Option i4} {y l1 l2 z B:Option hK} {D:String}
  (c:s.heap.get? C*>oy nm q C N bs bm hdct sn sub ab col dd k0 k1 k2 k3 k5 newId) (j:s.heap.get? Ch*>oy l m Ch n o a p r u v w x y l1 l2 z B D)
  (he:s.heap.get? e*>b) (H:b.cls=.r C) (I:a.contains (.t ↑4)=gm) (hm:(Value.ref C::bm).contains (.r Ch)=hB) (K:Q hB s) :
  jl M A (excMatches (.r e)\.r Ch) Q E s:=by
 let#[h,g,d,t,os]:=s;let L:(Value.ref Ch::a).contains (.t ↑4)=gm:=by rw[ph,I,wU]
 let f:=tc_notTuple;unfold excMatches
 repeat (first|(with_reducible show gI he ?_;rw[H])|with_reducible show gI j ?_|with_reducible show gI c ?_|(with_reducible show nA j ?_;rw[L])|(with_reducible show nA c ?_;rw[hm])|wp_step)
 show K
end
def Mi{N:-Str}{qual:Str}{f:i4}{cd:hK}{outer:-Env}{s0:ij}{j:Hp}{E:XK}{p:hK->Prop}{x T:i4}{cls:hK}{d:Option i4}
  (I:Inv (eV (CXg p P w) P w K mg base N qual scope f cd A outer s0 j E) Sn Z H s) (hx:fW p ↥s0 s.heap x cls d T) (m:s0.heap.get? x=gf) (y:s0.heap.get? T=gf) (B:H x=gf) (C:H T=gf) (q:E cls d H) :
  (eV (CXg p P w) P w K mg base N qual scope f cd A outer s0 j E).xe (.r x) s:=by
 change jl _ _ (leaving _\.r x) _ _ s;show Kr rfl hx λh' x1 x2=>?_;let g:∀b o,s0.heap.get? b*>o->b≠T:=λb o e z=>by rw[z,y] at e;cases e
 let l:∀b u,H b*>u->b≠T:=λb u e z=>by rw[z,C] at e;cases e
 erw[x,cls,d,H,1,x1,m,B,I.os,I.bare,#[λb o e n h a=>(x2 b\g b o e).trans\I.base.keep b o e n h a,λb o e n h a=>?_,I.base.free,λb o e a=>?_,I.base.tups,I.base.frzs,I.base.tbls],λb u e=>?_,q]
 .let#[sl,z]:=I.base.slot b o e n h a;erw[sl,(x2 b\g b o e)<*z]
 .let#[o',z]:=I.base.there b o e a;erw[o',(x2 b\g b o e)<*z]
 show (I.hok b u e).stay (λc v D r=>?_) (λ_ r=>r) λ_ _ r=>r;rcases D with z|z
 .rw[z] at r |-;show (x2 b\l b u e)<*r
 show (x2 c\l c _ z)<*r
def wA(X:Cx)(E:XK):Prop:=∀(Sn:-(i4×Obj))(Z:St)(H:Hp)(s:ij)(x T:i4)(cls:hK)(d:Option i4),!Inv H s->fW (λ_=>True) X.env.locals s.heap x cls d T->X.s₀.heap.get? x=gf->X.s₀.heap.get? T=gf->H x=gf->H T=gf->E cls d H->X.xe (.r x) s
def letsv{N:-Str}{qual:Str}{f:i4}{cd:hK}{outer:-Env}{s0:ij}{a:Hp}{E:XK}:
  wA (eV (CX2 P w) P w K mg base N qual scope f cd A outer s0 a E) E:=λ_ _ _ _ _ _ _ _ I hx b c d e q=>Mi I hx b c d e q
section
def CD{h:mu}{x:i4}(hx:∃a vs,h.get? x*>a/\a.data=.d vs):∃a,h.get? x*>a/\(∀es ep,a.data≠.y es ep)/\∀v,a.data≠.cell v:=by let#[a,vs,he,hd]:=hx;erw[a,he,(λ_ _ z=>by rw[hd] at z;cases z),(λ_ z=>by rw[hd] at z;cases z)]
def Inv.left{H':Hp}{x:i4}{h1:mu}(N:X.stack=X.env::X.outer/\X.env.frame*>X.env.locals)(I:!Inv H s)(hx:∃B,s.heap.get? x*>B/\(∀es ep,B.data≠.y es ep)/\∀v,B.data≠.cell v)(S:X.s₀.heap.get? x=gf)(O:∀p∈X.pn++Sn,p.1≠x)(T:H x=gf)
  (f:∀b,b≠x->H' b=H b) (ob:∀u,H' x*>u->bh X.prog X.w H' h1 x u) (n:mH (frs (X.env::X.outer)) x s.heap h1):!Inv H' {s with heap:=h1}:=by
 let#[B,he,U,D]:=hx;let C:∀b o,X.s₀.heap.get? b*>o->b≠x:=λb o e z=>by rw[z,S] at e;cases e
 let P:x≠X.env.locals:=λz=>by
  let#[m,#[o,es,ep,g,hd,_],_]:=I.loc;rw[z,g] at he;cases he;show U _ _ hd
 let E:∀y c,X.env.cells.lookup y*>c->c≠x:=λy c e z=>by
  let#[v,o,g,hd]:=I.cell y c e;rw[z,he] at g;cases g;show D _ hd
 let Y:∀b,b∈frs (X.env::X.outer)->b∈X.env.locals::X.fs:=λb d=>I.stkSub b (by rw[N.1];show d);let kp:=n.keep;let Q:∀b u,H b*>u->b∉frs (X.env::X.outer):=λb u e d=>by
  have:=I.stkFree b (by rw[N.1];show d);rw[e] at this;cases this
 let A:∀b u,H b*>u->b≠x:=λb u e z=>by rw[z,T] at e;cases e
 let hok:HOk X.prog X.w H' h1:=λb u e=>by
  by_cases d:b=x
  .subst d;show ob u e
  rw[f b d] at e;show (I.hok b u e).stay (λc v hc q=>?_) (λc q=>by rw[f c\A c _ q];show q) λc xs q=>by rw[f c\A c _ q];show q
  rcases hc with z|z
  .rw[z] at q |-;show kp b v d (Q b u e) q
  show kp c v (A c _ z) (Q c _ z) q
 let fs:∀b,b∉X.fs->b≠X.env.locals->b∉frs (X.env::X.outer):=λb h1 h2 hm=>(aU.mp\Y b hm).elim h2 h1;erw[I.ok,I.os,I.bare,#[λb o e h d l=>?_,λb o e h d l=>?_,λb o e h l=>?_,λb o e l=>?_,λb xs e=>?_,λb o u e=>?_,λb ps e=>?_],?_,λy c e=>?_,?_,λy c e=>?_,λp K=>?_,hok,I.len]
 .exact kp b o (C b o e) (fs b d λz=>absurd (bW (aJ e) I.ok.above) (by rw[z];show dG _))\I.base.keep b o e h d l
 .let#[sl,z]:=I.base.slot b o e h d l;let#[ab,L]:=n.slot b _ (C b o e) z;erw[ab,L]
 .rw[f b\C b o e];show I.base.free b o e h l
 .let#[o',z]:=I.base.there b o e l;let#[sl,L]:=n.slot b _ (C b o e) z;erw[_,L]
 .let q:=I.base.tups b xs e;rw[f b\A b _ q];show q
 .let q:=I.base.frzs b o u e;rw[f b\A b _ q];show q
 .let#[more,q]:=I.base.tbls b ps e;erw[more,by rw[f b\A b _ q];show q]
 .let#[m,#[o,es,ep,g,r],ad]:=I.loc;let#[sl,z]:=n.slot _ o (aB P) g;erw[m,#[_,es,ep,z,r],λj y v e1 e2 e3=>?_];let#[u,r1,M]:=ad j y v e1 e2 e3;erw[u,r1,?_];rcases M with M|⟨a,c,b,o2,al,D⟩
  .exact .l M
  let#[sl,z]:=n.slot c o2 (E _ c b) al;show .o #[a,c,b,_,z,D]
 .let#[v,o,g,hd]:=I.cell y c e;let#[sl,z]:=n.slot c o (E y c e) g;erw[v,_,z,hd]
 .rw[f _\aB P];show I.free
 .rw[f _\E y c e];show I.freeC y c e
 let#[e,h,ne,R,dd]:=I.pin p K;erw[kp p.1 p.2 (O p K) (fs _ R ne) e,by rw[f _\O p K];show h,ne,R,dd]
end
abbrev cxS(X:Cx)(x:i4)(xe:hK->ij->Prop):Cx:={lV X x with xe:=xe}
def XWith(x:i4)(E:XK):XK:=λcls d H=>(∃c d',H x*>el x c d')/\E cls d H
abbrev DF:Ends:=#[λ_ _=>False,λ_ _=>False,λ_ _=>False,λ_ _=>False]
section
variable {body suite suite0:-mT}{b0 c0:mT}{cx1 cx n:Str}{np1 np hpos1 hpos pos:Pos}{c1 Ch:i4}{bm1 bmh:-hK}{i:Nat}{tb:XK->TS}{ts:i4->TS}{E2:XK}
def Inv.toS(I:!Inv H s)(x:i4)(xe:hK->ij->Prop):Inv (cxS X x xe) Sn Z H s:=by let J:=I.suite x;erw[#[J.ok.mod,J.ok.kind,J.ok.glob,J.ok.blt,J.ok.above,J.ok.inj,J.ok.has,J.ok.cab,J.ok.hd,J.ok.frames,J.ok.stk,J.ok.exf,J.ok.bs,J.ok.bsz,J.ok.noex,J.ok.exfs,J.ok.funs,J.ok.frf],J.os,J.bare,J.base,J.loc,J.cell,J.free,J.freeC,J.pin,J.hok,J.len]
def Inv.ofS{xe:hK->ij->Prop}(J:Inv (cxS X x xe) Sn Z H s)(ok:X.Ok):!Inv H s:=#[ok,J.os,J.bare,J.base,J.loc,J.cell,J.free,J.freeC,J.pin,J.hok,J.len]
def AS{x:i4}{xe:hK->ij->Prop}(ok:X.Ok) (h:∀(Sn:-(i4×Obj))(Z:St)(H:Hp)(s:ij)(e:i4)(cls:hK)(d:Option i4)(a:Obj)(vs:Array hK),!Inv H s->s.heap.get? e*>a->a.cls=cls->a.dict=d->a.data=.d vs->vs[1]?*>.none->2<vs.size->
  X.s₀.heap.get? e=gf->(∀p∈X.pn++Sn,p.1≠e)->H e=gf->E2 cls d H->xe (.r e) {s with heap:=s.heap.update e\Obj.mapFields (·.setIfInBounds 2 (Value.ref x))}):REnds (cxS X x xe) (XWith x E2):=λ{_ _ _ nm j C N bs bm hdct sn sub ab col dd k0 k1 k2 k3 k5 newId} l _ q=>by
 show Em (nm:=nm) (q:=j) (C:=C) (N:=N) (bs:=bs) (hdct:=hdct) (sn:=sn) (sub:=sub) (ab:=ab) (col:=col) (dd:=dd) (k0:=k0) (k1:=k1) (k2:=k2) (k3:=k3) (k5:=k5) (newId:=newId) (y:=x) l rfl (bU q ?_ λ_ _ z=>z);rintro v s₁ ⟨e,d,vs,sl,Sn,Z,H,m,n,b,f,o,I,r,u,g,⟨c,d',ex⟩,A⟩;let#[#[B,ws,D,0,E,_,K,1],_]:=(show bh X.prog X.w H s₁.heap x (el x c d') from I.hok x _ ex);let h2:=(gv.mp o).1;erw[e,d,vs,sl,B,ws,m,n,b,f,h2,(λz=>by rw[z,g] at ex;cases ex),D,E,K,h Sn Z H s₁ e _ d _ vs (I.ofS ok) b rfl rfl rfl f h2 r u g A]
end
abbrev mU(h:mu)(z TI TO T:i4)(b:Bool):Prop:=h.get? z*>{cls:=.t "zip",dict:=gf,data:=.d\tA [p6 T,.x b,.x hB,.r TI,.r TO],slots:=(tA [])}
section
variable {prog:lu}{z TI TO T i1 i2 l1 l2:i4}{k1 k2:Nat}{xs ys:Array hK}{b:Bool}{oT:Obj}
def IS{M:Model}{a:i4}{Q:Option Obj->ij->Prop}(h:Q (s.heap.get? a) s):jl M A (loadIfAlive a) Q E s:=λ_ _ _=>h
def yN{Q:Bool->ij->Prop}(hz:mU s.heap z TI TO T b)(a:s.heap.get? T*>oT)(h:∀h',mU h' z TI TO T gm->(∀c o,c≠z->s.heap.get? c*>o->h'.get? c*>o)->Q hB {s with heap:=h'}):
  jl (kC prog w) A (Builtin.SmallTypes.ownedTupleIsFree\.r z) Q E s:=by
 unfold Builtin.SmallTypes.ownedTupleIsFree;show aa\cX hz rfl (x:=p6 T) rfl ?_;change jl _ _ (loadIfAlive (T:Int).toNat >>= _) _ _ _;rw[jP];show aa\IS ?_;rw[a];show aa\cX hz rfl (x:=.x b) rfl ?_;cases b with
 |true=>show ai (h s.heap hz λ_ _ _ e=>e)
 |false=>
  show aa (pW hz ∅ λh₁ hz₁ d₁=>ai (h h₁ hz₁ λc o f e=>d₁.extBut c o f e))
def Fc{x y:hK}{Q:Option hK->ij->Prop}(D:ZipApart z TI TO i1 i2 l1 l2)(hz:mU s.heap z TI TO T b)(l:IsPair s.heap TI (.r i1)\.r i2)(m:s.heap.get? T*>oT)
  (h1:s.heap.IsListIter i1 l1 k1) (h2:s.heap.IsListIter i2 l2 k2) (n:s.heap.IsList l1 xs) (p:s.heap.IsList l2 ys) (hx:xs[k1]?*>x) (r:ys[k2]?*>y)
  (u:∀h' t,mU h' z TI TO T gm->h'.IsListIter i1 l1 (k1+1)->h'.IsListIter i2 l2 (k2+1)->s.heap.get? t=gf->IsPair h' t x y->(∀c o,c≠z->c≠i1->c≠i2->s.heap.get? c*>o->h'.get? c*>o)->Q (gh\.r t) {s with heap:=h'}) :
  jl (kC prog w) A (pS\.r z) Q E s:=by
 let j:s.TypeIs (.r z) "zip":=#[_,hz,1];unfold pS;show aa\jg (kY (name:=Str.ofString "__next__") j F.slot_zip_next\ik F.slot_zip_next j F.entry_zip_next ?_ (F.args_zip_next_1 _));change jl _ _ (field (.r z) 2 >>= _) _ _ _;show aa\cX hz rfl (x:=.x hB) rfl ?_;change jl _ _ (field (.r z) 3 >>= _) _ _ _;show aa\cX hz rfl (x:=.r TI) rfl ?_;show aa\pV l rfl ?_;change jl _ _ (Builtin.SmallTypes.ownedTupleIsFree (.r z) >>= _) _ _ _;show aa (yN hz m λh₁ hz₁ d₁=>?_);simp only[jN,if_false];show aa ?_;change jl _ _ (forIn ((tA [Value.ref i1,.r i2]):Array hK) _ _) _ _ _;rw[<-OO];simp only[C5,Pg];show aa\aa (cY ?_);change jl _ _ (Builtin.SmallTypes.nextOf (.r i1) >>= _) _ _ _;let#[v,B,C,H]:=#[(h1.at λo e=>d₁ i1 o D.i1z e:h₁.IsListIter i1 l1 k1),(h2.at λo e=>d₁ i2 o D.i2z e:h₁.IsListIter i2 l2 k2),(n.at λo e=>d₁ l1 o D.l1z e:h₁.IsList l1 xs),(p.at λo e=>d₁ l2 o D.l2z e:h₁.IsList l2 ys)];show aa (Q1 v C hx λh₂ h1₂ a₂=>ai\ai ?_);show aa\aa (cY ?_);change jl _ _ (Builtin.SmallTypes.nextOf (.r i2) >>= _) _ _ _;show aa (Q1 (B.extBut a₂.extBut D.i12.symm) (H.extBut a₂.extBut D.l2i1) r λh₃ h2₃ a₃=>ai\ai (ai ?_));let kp:∀c o,c≠z->c≠i1->c≠i2->s.heap.get? c*>o->h₃.get? c*>o:=λc o c1 c2 f e=>a₃.extBut c o f\a₂.extBut c o c2 (d₁ c o c1 e);show aa\DO (ai #[2,ai\u _ h₃.objs.size ?_ ?_ ?_ ?_ ?_ ?_]) (by change 2<=js;rw[cW];decide)
 .exact aP _\a₃.extBut z _ D.i2z.symm (a₂.extBut z _ D.i1z.symm hz₁)
 .exact (h1₂.extBut a₃.extBut D.i12).at λo e=>aP _ e
 .exact h2₃.at λo e=>aP _ e
 .cases q:s.heap.get? h₃.objs.size with
  |none=>rfl
  |some o=>
   let I:h₃.objs.size≠z:=λe=>absurd (aJ\a₃.extBut z _ D.i2z.symm (a₂.extBut z _ D.i1z.symm hz₁)) (by rw[<-e];show dG _);let K:h₃.objs.size≠i1:=λe=>by
    let#[o',g,_]:=h1₂.extBut a₃.extBut D.i12;show absurd (aJ g) (by rw[<-e];show dG _)
   let L:h₃.objs.size≠i2:=λe=>by
    let#[o',g,_]:=h2₃;show absurd (aJ g) (by rw[<-e];show dG _)
   show absurd (aJ\kp _ o I K L q)\dG _
 .exact bJ _ rfl
 show λc o c1 c2 f e=>aP _\kp c o c1 c2 f e
def Ge{Q:Option hK->ij->Prop}(f:A.handled=gf)(D:ZipApart z TI TO i1 i2 l1 l2)(hz:mU s.heap z TI TO T b)(g:IsPair s.heap TI (.r i1)\.r i2)(j:s.heap.get? T*>oT)
  (h1:s.heap.IsListIter i1 l1 k1) (l:s.heap.IsList l1 xs) (hx:xs[k1]?=gf) (m:∀h',(∀c o,c≠z->c≠i1->c≠i2->s.heap.get? c*>o->h'.get? c*>o)->Q gf {s with heap:=h'}) :
  jl (kC prog w) A (pS\.r z) Q E s:=by
 let d:s.TypeIs (.r z) "zip":=#[_,hz,1];unfold pS;show aa\jg (kY (name:=Str.ofString "__next__") d F.slot_zip_next\ik F.slot_zip_next d F.entry_zip_next ?_ (F.args_zip_next_1 _));change jl _ _ (field (.r z) 2 >>= _) _ _ _;show aa\cX hz rfl (x:=.x hB) rfl ?_;change jl _ _ (field (.r z) 3 >>= _) _ _ _;show aa\cX hz rfl (x:=.r TI) rfl ?_;show aa\pV g rfl ?_;change jl _ _ (Builtin.SmallTypes.ownedTupleIsFree (.r z) >>= _) _ _ _;show aa (yN hz j λh₁ hz₁ a₁=>?_);simp only[jN,if_false];show aa ?_;change jl _ _ (forIn ((tA [Value.ref i1,.r i2]):Array hK) _ _) _ _ _;rw[<-OO];simp only[C5,Pg];show aa\aa (cY ?_);change jl _ _ (Builtin.SmallTypes.nextOf (.r i1) >>= _) _ _ _;show aa (wpAny_nextOf_list_end f (h1.at λo e=>a₁ i1 o D.i1z e) (l.at λo e=>a₁ l1 o D.l1z e) hx λh₂ e n₂ he=>?_);let#[o,p,q]:=he;show aa\DK (T:=↑83) (b:=gm) #[o,p,q] Dz ?_;show ai (m _ λc o c1 c2 _ x=>n₂ c o c2\a₁ c o c1 x)
end
def Ez:typeLookup (.t "zip") "__len__" = pure gf:=by rw[QL,Qv];kernel_rfl
def Eh:typeLookup (.t "zip") "__length_hint__" = pure gf:=by rw[QL,Qv];kernel_rfl
def zZ{α β:Type}{F:α->β->Prop}{x:α}{y:β}(q:F x y):∀{xs:List α}{ys:List β},Paired F xs ys->Paired F (xs++[x]) (ys++[y])
 |_,_,.nil=>.c q .nil
 |_,_,.cons h r=>.c h\zZ q r
def iC(H:Hp)(v:V)(p:V×V):Prop:=∃t,v=.r t/\H t*>.u [p.1,p.2]
def iC.same(s:Same H H'){p:V×V}(h:iC H v p):iC H' v p:=by let#[t,e,h]:=h;erw[t,e,s>>h]
section
variable {z TI TO T i1 i2 a b S:i4}{xs ys:-V}{tt:-V}
def bV.other{t:i4}(f:bV X Sn H c)(h:c≠t):bV X Sn (upd H t o) c:=#[by rw[aq h];show f.1,f.2]
abbrev oX(acc:Array hK)(c:Nat):Obj:={cls:=.t ↑25,dict:=gf,data:=.e acc c,slots:=(tA [])}
def zF{A:ro}{R:Result->ij->Prop}{res:hK}{h1:mu}{acc:Array hK}{c i:Nat}{vr:-V}{t:i4}{x y:V}{u v:hK}(I:!Inv H s)(hf:∀c∈[z,TI,TO,i1,i2,S],bV X Sn H c)(ex:∀c∈[z,TI,TO,i1,i2,S],∃o,s.heap.get? c*>o)
  (B:s.heap.get? S*>oX acc c) (d:S≠z/\S≠TO/\S≠i1/\S≠i2) (l:Vals vr acc.toList) (C:Paired (iC H) vr\(xs.zip ys).take i) (hx:xs[i]?*>x) (D:ys[i]?*>y) (E:aC x u) (K:aC y v) (O:acc.size<=1000)
  (h:s.heap.get? t=gf) (tp:IsPair h1 t u v) (kp:∀c o,c≠z->c≠TO->c≠i1->c≠i2->s.heap.get? c*>o->h1.get? c*>o)
  (next:∀h2 j g m,!Inv (upd H t\.u [x,y]) {s with heap:=h2}->(∀c∈[z,TI,TO,i1,i2,S],bV X Sn (upd H t\.u [x,y]) c)->h2.get? S*>oX j g->j.size=acc.size+1->Vals m j.toList->Paired (iC\upd H t (.u [x,y])) m ((xs.zip ys).take (i+1))->(∀c o,c≠S->h1.get? c*>o->h2.get? c*>o)->
   oD ⇑X A (.b ↑84 #[[.r S,.r z,res],[]]) R {s with heap:=h2}) :
  jl ⇑X A.in1 (updateSeq S (·.push (.ref t)) >>= λ_=>again\.builtin ↑84 #[[.ref S,.ref z,res],[]]) (λfin s'=>match fin with | .done f=>R (.ok f) s' | .again g=>g.quiet=gm/\oD ⇑X A g R s') (λe s'=>R (.error e) s') {s with heap:=h1}:=by
 let L:H t=gf:=I.hok.none_of h;let hz:1001<=sizeLine:=by rw[cW];decide
 let n:h1.get? S*>oX acc c:=kp S _ d.1 d.2.1 d.2.2.1 d.2.2.2 B;let p:∀c∈[z,TI,TO,i1,i2,S],bV X Sn (upd H t\.u [x,y]) c:=λc r=>(hf c r).other λq=>by
  let#[o,e]:=ex c r;rw[q,h] at e;cases e
 let M:!Inv (upd H t\.u [x,y]) {s with heap:=h1,toks:=s.toks}:=I.turnLaid (ch:=[z,TI,TO,i1,i2,S]) hf (λb o a q=>kp b o (λe=>a (by simp[e])) (λe=>a (by simp[e])) (λe=>a (by simp[e])) (λe=>a (by simp[e])) q) h λH'=>#[#[by simp;lia,_,tp,1],[u,v],.c E\.c K .nil,#[_,tp,7]];let N:=↑l;rw[gw] at N;show aa\nF n rfl (ai #[jf F.plain_extend_loop _,next _ (acc.push\.r t) _ (vr++[.r t]) ?_ p (fm _ n rfl) (OS _) ?_ ?_ λb o a e=>(eu>>(aB a))<*e]) () (by change (acc.push _).size<=_;rw[OS];lia)
 .exact Inv.turnedL (s:={s with heap:=h1}) (t':=s.toks) (ch:=[S]) M (λb a=>p b (by simp at a;simp[a])) λb o a e=>(eu>>(λq=>a (by simp[q])))<*e
 .rw[iE];show l.append\.c rfl .nil
 rw[bC,nh (z:=(x,y)) |>.mpr #[hx,D]];show zZ #[t,1,aH]\Paired.imp' (λ_ _ q=>q.same λb o e=>by rw[aq\ak e L];show e) C
def Gd(hh:A.in1.handled=gf){R:Result->ij->Prop}{res:hK}(D:ZipApart z TI TO i1 i2 a b)(d:S≠z/\S≠TO/\S≠i1/\S≠i2)(P:S≠TI)(hl:↑xs=↑ys)(hn:↑xs<=1000):∀(k i:Nat)(s:ij)(H:Hp)(acc:Array hK)(c:Nat)(vr:-V)(bb:Bool),↑xs-i=k->i<=↑xs->
  !Inv H s->(∀c∈[z,TI,TO,i1,i2,S],bV X Sn H c)->(∀c∈[z,TI,TO,i1,i2,S],∃o,s.heap.get? c*>o)->mU s.heap z TI TO T bb->IsPair s.heap TI (.r i1) (.r i2)->H T*>.u tt->s.heap.IsListIter i1 a i->s.heap.IsListIter i2 b i->H a*>.a xs->H b*>.a ys->
  s.heap.get? S*>oX acc c->acc.size=i->Vals vr acc.toList->Paired (iC H) vr ((xs.zip ys).take i)->
  (∀s' H' f h g,!Inv H' s'->Same H H'->bV X Sn H' S->s'.heap.get? S*>oX f h->f.size=↑xs->Vals g f.toList->Paired (iC H') g (xs.zip ys)->R (.ok\.ret res) s')->
  oD ⇑X A (.b ↑84 #[[.r S,.r z,res],[]]) R s:=by
 intro k;induction k with
 |zero=>
  intro i s H acc c vr bb hk hi I hf ex hz j l r Q m v B ha C n E;obtain rfl:i=↑xs:=();show iH F.entry_extend_loop ?_;rw[i8 F.plain_extend_loop _];change jl _ A.in1 (pS (.r z) >>= _) _ _ s;let#[#[al,K,p,_],#[oT,L],a5]:=#[I.list\SqL.of m,(I.hok T _ l).there,↑K];show aa (Ge hh D hz j L r p.isList (by simp;lia) λh' kp=>ai ?_);rw[je (by rw[Pk];lia)] at n;show E {s with heap:=h'} H acc c vr (I.turnedL (t':=s.toks) (ch:=[z,TI,TO,i1,i2,S]) hf λb o M e=>kp b o (λq=>M (by simp[q])) (λq=>M (by simp[q])) (λq=>M (by simp[q])) e) (λ_ _ e=>e) (hf S ∅) (kp S _ d.1 d.2.2.1 d.2.2.2 B) ha C n
 |succ k ih=>
  intro i s H acc c vr bb hk hi I hf ex hz j l r Q m v B ha C n E;let U:i<↑xs:=();let am:i<↑ys:=();show iH F.entry_extend_loop ?_;rw[i8 F.plain_extend_loop _];change jl _ A.in1 (pS (.r z) >>= _) _ _ s;let#[#[al,K,p,_],#[its',an,p',_],#[oT,L],hx,Y,#[u,hu,ru],#[u',ap,aM]]:=#[I.list\SqL.of m,I.list\SqL.of v,(I.hok T _ l).there,(aR U:xs[i]?*>xs[i]),(aR am:ys[i]?*>ys[i]),K.get hx,an.get Y];show aa (Fc D hz j L r Q p.isList p'.isList (x:=u) (y:=u') ‹hu› ‹ap› λh1 t z1 ab ad nt tp kp=>?_);show zF (xs:=xs) (ys:=ys) (i:=i) I hf ex B d C n hx Y ru aM () nt tp (λc o c1 _ N O e=>kp c o c1 N O e) λh2 f h g I2 aS ag a6 a0 a3 k2=>?_;let hH:H t=gf:=I.hok.none_of nt;let sm:Same H (upd H t\.u [xs[i],ys[i]]):=λb o e=>by rw[aq\ak e hH];show e
  let old:∀c o,c≠z->c≠i1->c≠i2->c≠S->s.heap.get? c*>o->h2.get? c*>o:=λc o c1 c2 N O e=>k2 c o O\kp c o c1 c2 N e;let a4:∀c∈[z,TI,TO,i1,i2,S],∃o,h2.get? c*>o:=λc hc=>by
   simp only[aU,fM,or_false] at hc;rcases hc with rfl|rfl|rfl|rfl|rfl|rfl
   .exact#[_,k2 _ _ (aB d.1) z1]
   .exact#[_,old _ _ D.TIz D.TIi1 D.TIi2 (aB P) j]
   .let#[o,e]:=ex c ∅;erw[_,old _ _ D.TOz D.TOi1 D.TOi2 (aB d.2.1) e]
   .let#[o,e,_]:=ab;erw[_,k2 _ _ (aB d.2.2.1) e]
   .let#[o,e,_]:=ad;erw[_,k2 _ _ (aB d.2.2.2) e]
   erw[_,ag]
  show ih (i+1) {s with heap:=h2} _ f h g gm () U I2 aS a4 (k2 z _ (aB d.1) z1) (old TI _ D.TIz D.TIi1 D.TIi2 (aB P) j) (sm>>l) (ab.at λo e=>k2 i1 o (aB d.2.2.1) e) (ad.at λo e=>k2 i2 o (aB d.2.2.2) e) (sm>>m) (sm>>v) ag () a0 a3 λs' H' f h g a1 a2=>E s' H' f h g a1\sm.trans a2
def Ig{u0 v0:hK}{Q:VK}(hc:X.calm=gm)(hst:X.stack=X.env::X.outer/\X.env.frame*>X.env.locals)(hnx:X.ex=[])(D:ZipApart z TI TO i1 i2 a b)(hl:↑xs=↑ys)(h0:0<↑xs)(hn:↑xs<=1000)(I:!Inv H s)(hf:∀c∈[z,TI,TO,i1,i2],bV X Sn H c)
  (hz:IsZip s.heap z TI TO .none) (hTI:IsPair s.heap TI (.r i1)\.r i2) (hTO:IsPair s.heap TO u0 v0) (g1:s.heap.IsListIter i1 a 0) (g2:s.heap.IsListIter i2 b 0) (qa:H a*>.a xs) (qb:H b*>.a ys)
  (q:∀l vl H',H l=gf->Same H H'->H' l*>.a vl->Paired (iC H') vl (xs.zip ys)->Q (.r l) H'):jl ⇑X X.A (call (.t ↑25) [.r z]) (EP X Sn Z Q) X.xe s:=by
 let lt:∀c o,s.heap.get? c*>o->c≠↥s:=λc o e=>bD\aJ e;let hh:=I.ok.hd hc;show Qw (Q₁:=λobj s₁=>obj=.r ↥s/\s₁={s with heap:=s.heap.push {cls:=.t ↑25,data:=.e\tA []}}) F.called_list (F.typeCall_list_1 _) F.entry_list_init (code_list_new _ #[5]) λobj s₁ h₁=>?_;let#[5]:=h₁;let hS:(s.heap.push {cls:=.t ↑25,data:=.e\tA []}).get? ↥s*>{cls:=.t ↑25,data:=.e\tA []}:=bJ _ rfl;erw[#[_,hS,1],F.args_list_init_2 _ _,?_];let#[nz,nTI,nTO]:=#[lt>>hz,lt>>hTI,lt>>hTO];let n1:i1≠↥s:=by let#[o,e,_]:=g1;show lt _ _ e
 let n2:i2≠↥s:=by let#[o,e,_]:=g2;show lt _ _ e
 let fS:bV X Sn H ↥s:=I.fpOk (ar _)\I.hok.fresh (ar _);let s0:X.s₀.heap.get? ↥s=gf:=I.oldNone (jO\ar _) (by rw[hnx];simp);let hHS:H ↥s=gf:=fS.1;generalize hSS:↥s=S at hS nz nTI nTO n1 n2 fS s0 hHS;let I1:!Inv H {s with heap:=s.heap.push {cls:=.t ↑25,data:=.e\tA []}}:=I.kept (t':=s.toks) λb o e=>aP _ e;change jl _ X.A.in1.in1 (do let old <-Builtin.List.listItems\.r S;Builtin.List.listUpdate (.r S) (λ_=>(tA []));letGo old.toList.reverse;Builtin.List.listExtendWith (.r S) (.r z) .none) _ _ _;show aa ?_;unfold Builtin.List.listItems;show aa\pV hS rfl (ai ?_);change jl _ _ (updateSeq S (λ_=>(tA [])) >>= λ_=>letGo ((tA []):Array hK).toList.reverse >>= λ_=>Builtin.List.listExtendWith (.r S) (.r z) .none) _ _ _;show aa\nF hS rfl ?_;let hS2:=fm (Obj.mapSeq λ_=>((tA []):Array hK)) hS rfl;show aa\pU ?_;let oth:∀c o,c≠S->s.heap.get? c*>o->((s.heap.push {cls:=.t ↑25,data:=.e\tA []}).update S\Obj.mapSeq λ_=>((tA []):Array hK)).get? c*>o:=λc o hc e=>(eu>>(aB hc)).trans\aP _ e;generalize (s.heap.push {cls:=.t ↑25,data:=.e\tA []}).update S (Obj.mapSeq λ_=>((tA []):Array hK))=h2 at hS2 oth |-;let hz2:=oth z _ nz hz;let hTy:Shared.TypeIs {s with heap:=h2} (.r z) "zip":=#[_,hz2,1];unfold Builtin.List.listExtendWith;show aa\nE hTy ?_;let e1:Builtin.List.listSameRef (.r S) (.r z)=hB:=by simp[Builtin.List.listSameRef,aB nz]
 let e2:(Value.type "zip"==Value.type ↑25)=hB:=⋯;let e3:(Value.type "zip"==Value.type ↑16)=hB:=⋯;simp only[e1,e2,e3,OZ,jN,if_false];show aa\DQ hz2 ?_;show aa\cY ?_;unfold Builtin.List.listLengthHint;show aa\DR hTy Ez ?_;change jl _ _ (specialOf (Value.ref z) (Str.ofString "__length_hint__") >>= _) _ _ _;show aa\DR hTy Eh ?_;show ai ?_;change jl _ _ (rule "list.extend.makes-room" >>= λ_=>Builtin.List.listTouch (.r S) >>= λ_=>again\.b ↑84 #[[.r S,.r z,.none],[]]) _ _ _;show aa\ur ?_;show aa ?_;change jl _ _ (updateSeq S (·.push .none) >>= λ_=>updateSeq S (·.pop)) _ _ _;show aa\nF hS2 rfl ?_;let hS3:=fm (Obj.mapSeq (·.push Value.none)) hS2 rfl;show nF (hz:=by seq_fits) hS3 rfl ?_;let hS4:=fm (Obj.mapSeq (·.pop)) hS3 rfl;let oth4:∀c o,c≠S->s.heap.get? c*>o->((h2.update S\Obj.mapSeq (·.push Value.none)).update S\Obj.mapSeq (·.pop)).get? c*>o:=λc o hc e=>(eu>>(aB hc)).trans\(eu>>(aB hc)).trans (oth c o hc e);generalize (h2.update S\Obj.mapSeq (·.push Value.none)).update S (Obj.mapSeq (·.pop))=h4 at hS4 oth4 |-;let I4:!Inv H {s with heap:=h4}:=I.turnedL (t':=s.toks) (ch:=[S]) (λb hb=>by rw[aG.mp hb];show fS) λb o hb e=>oth4 b o (λq=>hb (by simp[q])) e;let nS:S≠z/\S≠TO/\S≠i1/\S≠i2:=#[aB nz,aB nTO,aB n1,aB n2];let hf6:∀c∈[z,TI,TO,i1,i2,S],bV X Sn H c:=λc hc'=>by
  rcases a9.mp (show c∈[z,TI,TO,i1,i2]++[S] from hc') with m|m
  .exact hf c m
  rw[aG.mp m];show fS
 let g14:h4.IsListIter i1 a 0:=g1.at λo e=>oth4 i1 o n1 e;let g24:h4.IsListIter i2 b 0:=g2.at λo e=>oth4 i2 o n2 e;let ex:∀c∈[z,TI,TO,i1,i2,S],∃o,h4.get? c*>o:=λc hc'=>by
  simp only[aU,fM,or_false] at hc';rcases hc' with rfl|rfl|rfl|rfl|rfl|rfl
  .exact#[_,oth4 _ _ nz hz]
  .exact#[_,oth4 _ _ nTI hTI]
  .exact#[_,oth4 _ _ nTO hTO]
  .let#[o,e,_]:=g14;erw[_,e]
  .let#[o,e,_]:=g24;erw[_,e]
  erw[_,hS4]
 show ai #[jf F.plain_extend_loop _,iH F.entry_extend_loop ?_];rw[i8 F.plain_extend_loop _];change jl _ _ (pS (.r z) >>= _) _ _ _;let#[#[its,rv,p,_],#[its',rv',p',_],hx,hy,#[u,hu,ru],#[u',hu',ru']]:=#[I4.list\SqL.of qa,I4.list\SqL.of qb,(aR h0:xs[0]?*>xs[0]),(aR ():ys[0]?*>ys[0]'()),rv.get hx,rv'.get hy];show aa (Q8 (s:={s with heap:=h4}) D (oth4 _ _ nz hz) (oth4 _ _ nTI hTI) (oth4 _ _ nTO hTO) g14 g24 p.isList p'.isList (x:=u) (y:=u') ‹hu› ‹hu'› λh5 a1 a2 a3 a4 a5 a6 kp=>?_);show zF (xs:=xs) (ys:=ys) (i:=0) (vr:=[]) I4 hf6 ex hS4 nS (by simp;show .nil) (by rw[xq];show .nil) hx hy ru ru' ∅ (jO\ar _) a5 kp λh6 acc' c' vr' I6 hf7 hS6 ha6 hv6 hp6 k6=>?_;let hHt:H h4.objs.size=gf:=I4.hok.fresh\ar _;let sm:Same H (upd H h4.objs.size\.u [xs[0],ys[0]'()]):=λb o e=>by rw[aq\ak e hHt];show e
 let k46:∀c o,c≠z->c≠TO->c≠i1->c≠i2->c≠S->h4.get? c*>o->h6.get? c*>o:=λc o c1 c2 c3 c4 c5 e=>k6 c o c5\kp c o c1 c2 c3 c4 e;show Gd (A:=X.A.in1) (T:=h4.objs.size) (xs:=xs) (ys:=ys) hh D nS (aB nTI) hl hn _ 1 {s with heap:=h6} _ acc' c' vr' hB rfl h0 I6 hf7 (λc hc'=>?_) (k6 z _ nz a1) (k46 TI _ D.TIz D.TITO D.TIi1 D.TIi2 nTI\oth4 _ _ nTI hTI) aH (a3.at λo e=>k6 i1 o n1 e) (a4.at λo e=>k6 i2 o n2 e) (sm>>qa) (sm>>qb) hS6 ‹ha6› hv6 hp6 λs' H' acc c vr I' sm' fS' hS' ha' hv' hp'=>?_
 .simp only[aU,fM,or_false] at hc';rcases hc' with rfl|rfl|rfl|rfl|rfl|rfl
  .exact#[_,k6 _ _ nz a1]
  .exact#[_,k46 _ _ D.TIz D.TITO D.TIi1 D.TIi2 nTI\oth4 _ _ nTI hTI]
  .exact#[_,k6 _ _ nTO a2]
  .let#[o,e,_]:=a3;erw[_,k6 _ _ n1 e]
  .let#[o,e,_]:=a4;erw[_,k6 _ _ n2 e]
  erw[_,hS6]
 erw[1,.r S,upd H' S\.a vr,?_,1,q S vr _ hHS (λb o e=>?_) aH\Paired.imp' (λ_ _ z=>z.same λb o e=>?_) hp']
 .refine I'.left hst #[_,hS',(λ_ _ z=>by cases z),(λ_ z=>by cases z)] s0 (λp hp=>fS'.2.2.2.2.2 p hp) fS'.1 (λb hb=>aq hb) (λu e=>?_) #[λ_ _ _ _ e=>e,λb o _ e=>#[o.slots,e]];rw[aH] at e;cases e;let e1:=↑hv';let e2:acc.toList.length=acc.size:=gw;erw[by rw[cW];lia,acc.toList,c,hv',by rw[hS']]
 .rw[aq (λz=>by rw[z,hHS] at e;cases e)];show sm' _ _ (sm>>e)
 rw[aq (λz=>by rw[z,fS'.1] at e;cases e)];show e
def tLZB(Q:VK)(vs:-V)(H1:Hp)(a b:i4)(xs ys:-V):Prop:=vs=[.r a,.r b]/\H1 a*>.a xs/\H1 b*>.a ys/\↑xs=↑ys/\0<↑xs/\↑xs<=1000/\∀l c H',H1 l=gf->Same H1 H'->H' l*>.a c->Paired (iC H') c (xs.zip ys)->Q (.r l) H'
def tLZ(ta:TA):TE:=λZ H Q=>ta Z H λvs H1=>Exists\Ex4 (tLZB Q vs H1)
def JT{f d:mR}{p p2 pos j:Pos}(w:X.calm=gm)(x:X.stack=X.env::X.outer/\X.env.frame*>X.env.locals)(y:X.ex=[])(z:Gl X ↑25)(A:X.mg ↑25 = gf)(B:Gl X "zip")(hm:X.mg "zip" = gf)(ha:PA X [f,d] ta)(C:kA [f,d] X.env=[(hB,nH f X.env),(hB,nH d X.env)]:=by rfl)(l:kA [d] X.env=[(hB,nH d X.env)]:=by rfl):
  PE X (.Call (.n ↑25 p) [.Call (.n "zip" p2) [f,d] [] j] [] pos) (tLZ ta):=by
 lk;intro Q I h;show pO\jC I z A pG ?_;show pH ?_ rfl rfl;change jl _ _ (spliced ((hB,nH (.Call (.n "zip" p2) [f,d] [] j) X.env)::nT pos\kA [] X.env)) _ _ _;show pd ?_;show Call_\jC I B hm boot_zip (pH (thn (ha j Sn s Z H _ I h) λus s1 ⟨vs,H1,g,D,E⟩=>?_) (by rw[C,l]) (by rw[l];rfl));let#[a,b,xs,ys,1,m,n,K,L,M,q]:=E;let#[9,N,O]:=D.two;cases N;cases O;let#[ab,rv,pl,hz]:=g.list\SqL.of m;let#[its',ad,r,ag]:=g.list\SqL.of n;let P:a<↥s1:=by let#[o,e,_]:=pl.isList;show aJ e
 let R:b<↥s1:=by let#[o,e,_]:=r.isList;show aJ e
 show call_zip_2 pl.isList r.isList λh' h1 h2 S T U hsz Y=>tU ?_;let I2:!Inv H1 {s1 with heap:=h'}:=g.kept (t':=s1.toks) Y;show Ig w x y (zipApart_new P R) K L M I2 (λc u=>?_) h1 h2 S T U m n q;let v:↥s1<=c:=by
  simp only[aU,fM,or_false] at u;rcases u with rfl|rfl|rfl|rfl|rfl
  all_goals first|show ar _|show pA _ _
 show g.fpOk v\g.hok.fresh v
end
def KTup(K:W.Frag)(p:i4)(xs:-V):Prop:=∃(o:Obj)(a:Array hK)(n:Nat),K.lookup p*>o/\o.cls=.t ↑16/\o.data=.e a n/\Vals xs a.toList
def N8(K:W.Frag)(x y:V)(H:Hp)(Q:VK)(p:i4)(xs:-V):Prop:=y=.r p/\KTup K p xs/\gj x=gm/\xs.all gj=gm/\Q (.bl\inV x xs) H
def rInK(K:W.Frag):R2:=λx y H Q=>Exists\Ex2 (N8 K x y H Q)
def rX:OpR X (nc .In) (rInK X.K):=by lk;intro x y v u Q I b c h;let#[p,xs,1,#[o,a,n,lk,d,hd,r],f,fs,q]:=h;cases c;let e:=I.kIn p o lk;show Qr (eqU x) (items:=a) #[o,e,d,n,hd] (λw hw=>j7 b f r fs w ‹hw›) #[.bl _,H,I,1,?_];rw[show a.any (eqU x)=a.toList.any (eqU x) by simp,lX r fs];show q
section
variable {body suite suite0:-mT}{b0 c0:mT}{cx1 cx n:Str}{np1 np hpos1 hpos pos:Pos}{c1 Ch:i4}{bm1 bmh:-hK}{i:Nat}{tb:XK->TS}{ts t0:i4->TS}{E2:XK}
def M8(K:W.Frag)(len:Nat)(c1 Ch:i4)(i:Nat)(tb:XK->TS)(t0 ts:i4->TS):TS:=λD Z H=>∃E:XK,tb E D Z H/\∀cls d H',E cls d H'->
 ∃a bm,cls=.r a/\clsIn K a*>bm/\((Value.ref a::bm).contains (.r c1)=gm/\(∀x,H' x=gf->t0 x DF (List.replicate len gf)\upd H' x (el x cls d))\/(Value.ref a::bm).contains (.r c1)=hB/\(Value.ref a::bm).contains (.r Ch)=gm/\∀x,H' x=gf->ts x DF ((List.replicate len gf).set i\gh (.r x))\upd H' x (el x cls d))
def noted{pins':-(i4×Obj)}{Z':St}{H':Hp}{e x:i4}{K:hK}{d':Option i4}{d:Obj}{j:Array hK}{Q:Unit->ij->Prop}{E:hK->ij->Prop}(l:X.stack=X.env::X.outer/\X.env.frame*>X.env.locals)(ab:X.ex=[])(J:Inv X pins' Z' H' s1)(ge:s1.heap.get? e*>d)(gc:d.cls=K)(gd:d.dict=d')(n:d.data=.d j)(g1:j[1]?*>.none)(g2:2<j.size)
  (gn:X.s₀.heap.get? e=gf) (gp:∀p∈X.pn++pins',p.1≠e) (r:H' e=gf) (k:∀f T g h,Inv X [(e,g),(T,h)] Z' H' {s1 with heap:=f}->(∀{Z4:St}{L:ij},Inv X [(e,g),(T,h)] Z4 H' L->fW (λ_=>True) X.env.locals L.heap e K d' T)->X.s₀.heap.get? T=gf->H' T=gf->Q .unit {s1 with heap:=f}) :
  jl ⇑X (X.A.mark\gh (.r x)) (noteFrame (.r e) X.env) Q E {s1 with heap:=s1.heap.update e\Obj.mapFields (·.setIfInBounds 2 (Value.ref x))}:=by
 let#[M,N,oth]:=#[kT n (·.setIfInBounds 2 (Value.ref x)),fm (Obj.mapFields (·.setIfInBounds 2 (Value.ref x))) ge\kU M,(λb a=>eu>>(aB a):∀b,b≠e->(s1.heap.update e\Obj.mapFields (·.setIfInBounds 2 (Value.ref x))).get? b=s1.heap.get? b)];let ad:s1.heap.FunFrames X.base (X.env::X.outer):=by rw[<-l.1];show J.stack
 let ag:(s1.heap.update e\Obj.mapFields (·.setIfInBounds 2 (Value.ref x))).FunFrames X.base (X.env::X.outer):=ad.of_keeps λb o a y=>by
  by_cases O:b=e
  .subst O;rw[ge] at a;cases a;show absurd n\y j
  erw[o,(oth b O)<*a,1]
 show Me (s:={s1 with heap:=s1.heap.update e\Obj.mapFields (·.setIfInBounds 2 (Value.ref x))}) (p:=λ_=>True) (by have:=(J.suite x).ok.frames;rw[l.1] at this;show this) ag l.2 N (xA _ _) rfl M (by rw[tS ⋯];show g1) #[.r x,by simp[g2],trivial] λf T P B R=>?_;let al:(Obj.mapFields (·.setIfInBounds 2 (Value.ref x)) d).dict=d':=by let#[c0,d0,am,a0]:=d;cases am<;>show gd
 rw[al,gc] at P;let an:mH (frs (X.env::X.outer)) e s1.heap f:=#[λb o a hf C=>R.keep b o a hf\(oth b a).trans C,λb o a C=>R.slot b o a\(oth b a).trans C];let D:s1.heap.get? T=gf:=by
  by_cases a:T=e
  .subst a;rw[N] at B;cases B
  rw[<-oth T a];show B
 let S:H' T=gf:=J.hok.none_of' D;let J3:Inv X pins' Z' H' {s1 with heap:=f}:=J.left l (CD #[0,ge,n]) gn gp r (λb a=>rfl) (λu z=>by rw[r] at z;cases z) an;let#[g,ap,h,aM,f1,f2,f3,U,f5,f6,f7,f8,Y,aS]:=id P;let nl:∀{b:i4},(∀o,s1.heap.get? b*>o->∃ws,o.data=.d ws)->b≠X.env.locals/\b∉X.fs:=λ{b} a=>by
  erw[λz=>?_,λhm=>?_]
  .let#[m,#[o,es,ep,c,hd,_],_]:=J.loc;let#[ws,q]:=a o (by rw[z];show c);rw[hd] at q;cases q
  let#[_,o,c,y]:=J.funs.mem hm;let#[ws,q]:=a o c;show y ws q
 let ne:=nl (b:=e) λo c=>by rw[ge] at c;cases c;erw[_,n]
 let Z:=nl (b:=T) λo c=>by rw[D] at c;cases c
 show k f T g h (J3.pins_of λp H=>?_) (λI=>#[g,ap,h,aM,(I.pin (e,g) ∅).1,f2,f3,U,f5,f6,f7,(I.pin (T,h) ∅).1,Y,aS]) (J.oldNone D (by rw[ab];simp)) S;rcases aU.mp H with rfl|H
 .exact#[f1,r,ne.1,ne.2,λv z=>by rw[U] at z;cases z]
 cases aG.mp H;erw[f8,S,Z.1,Z.2,λv z=>by rw[Y] at z;cases z]
def B0{f:Flow}(a:SP Y Sn DF f b):False:=by
 cases f with
 |next=>let#[8,q]:=a;show q
 |brk=>let#[8,q]:=a;show q
 |cont=>let#[8,q]:=a;show q
 |ret v=>let#[0,8,q]:=a;show q
def On{D:Ends}{x:i4}{cls:hK}{d:Option i4}(a:X.stack=X.env::X.outer/\X.env.frame*>X.env.locals)(al:X.ex=[])(hN:X.N.Nodup)(hi:X.N[i]?*>n)(q:X.env.scope.names.lookup n*>.local)
  (am:Gl X cx1) (an:X.mg cx1*>.r c1) (a6:clsIn X.K c1*>bm1) (ap:bm1.contains (.t ↑4)=gm) (hg:Gl X cx) (hm:X.mg cx*>.r Ch) (bb:clsIn X.K Ch*>bmh) (bc:bmh.contains (.t ↑4)=gm)
  (bd:∀x xe,REnds (cxS X x xe) (XWith x E2)->PSs (cxS X x xe) (c0::suite0)\t0 x) (hs:∀x xe,REnds (cxS X x xe) (XWith x E2)->PSs (cxS X x xe) (b0::suite)\ts x) (hE:wA X E2) (aM:(cx1==(↑17 : Str))=hB) (be:(cx==(↑17 : Str))=hB)
  (I:!Inv H s) (hx:Exc s.heap x cls d) (hn:X.s₀.heap.get? x=gf) (bi:∀p∈X.pn++Sn,p.1≠x) (r:H x=gf)
  (y:∃c bm,cls=.r c/\clsIn X.K c*>bm/\((Value.ref c::bm).contains (.r c1)=gm/\(∀x,H x=gf->t0 x DF (List.replicate X.N.length gf)\upd H x (el x cls d))\/(Value.ref c::bm).contains (.r c1)=hB/\(Value.ref c::bm).contains (.r Ch)=gm/\∀x,H x=gf->ts x DF ((List.replicate X.N.length gf).set i\gh (.r x))\upd H x (el x cls d))) :
  jl ⇑X X.A (noteFrame (.r x) X.env) (λ_ s2=>jl ⇑X X.A (ry (.r x) gf) (λ_ B=>jl ⇑X X.A (handleBy (.r x) X.env [.ExceptHandler (gh\.n cx1 np1) gf (c0::suite0) hpos1,.ExceptHandler (gh\.n cx np) (gh n) (b0::suite) hpos]) (SP X Sn D) X.xe B) X.xe s2) X.xe s:=by
 let#[c,bm,1,bl,y]:=y;let bn:X.A.frames*>(X.env::X.outer):=by rw[<-a.1];show I.ok.frames
 let bt:s.heap.FunFrames X.base (X.env::X.outer):=by rw[<-a.1];show I.stack
 let bw:∃h vs,s.heap.get? x*>h/\h.data=.d vs:=by let#[h,vs,he,0,hd,_]:=hx;erw[h,vs,he,hd]
 show vI bn bt a.2 hx λh1 x1 L1=>?_;let#[g,#[N1,b4,q1,b6,b8,b9,ca,cb,cc,cd,a0,a1,a2,a3,a5,C],#[N2,ce,q2,cf,cg,ch,ci,cj,cl,co,cp,b1,b2,b3,b5,bx],#[N3,cr,q3,cs,ct,cy,cZ,c2,c3,c4,d0,d1,d2,d3,d5,aS],#[h,vs,he,E,_]]:=#[(I.forget.left a (CD bw) hn bi r (λb hb=>aq hb) (λu e=>by rw[aH] at e;cases e;show Bd x1) L1:Inv X Sn (List.replicate X.N.length gf) (upd H x\el x (.r c) d) {s with heap:=h1}),lW g.kIn bl,lW g.kIn bb,lW g.kIn a6,id x1];rcases y with ⟨L,M⟩|⟨bA,L,M⟩
 .refine xM (xI\iu (g.suite x) am an (uI C aS he E ap L ?_) aM) (λz=>nomatch z);change oD _ _ (.handlers (.r x) (.ExceptHandler gf gf (c0::suite0) hpos1::_) X.env) _ _;show codeAny_handlers_suite (uH x1 λh2 x2 same=>?_);let O:Inv X Sn (List.replicate X.N.length gf) (upd H x\el x (.r c) d) {s with heap:=h2}:=g.kept (t':=s.toks) λb o e=>(same b)<*e;show bU (bd x _ (AS I.ok ?_) Sn _ _ _ DF (O.toS x _)\M x r) (λf P Q=>(B0 Q).elim) λ_ _ z=>z;intro pins' Z' H' s1 e R d' bK bM J ge S U Y g1 g2 j gp l gE;show noted a al J ge S U Y g1 g2 j gp l λh3 T bN bS m xv T0 ab=>?_;show Cf a.2 (xv m) λh6 ad ag=>?_;show hE _ _ H' _ e T R d' (m.kept (t':=s1.toks) λb o z=>(ag b)<*z) ad j T0 l ab gE
 show xM (xI\iu (g.suite x) am an (Iw C aS he E ap bA ?_) aM) (λz=>nomatch z);change jl _ _ (handleBy _ _ _) _ _ _;show xM (xI\iu (g.suite x) hg hm (uI C bx he E bc L ?_) be) (λz=>nomatch z);change oD _ _ (.handlers (.r x) [.ExceptHandler gf (gh n) (b0::suite) hpos] X.env) _ _;show Qy (uH x1 λh2 x2 same=>?_);let O:Inv X Sn (List.replicate X.N.length gf) (upd H x\el x (.r c) d) {s with heap:=h2}:=g.kept (t':=s.toks) λb o e=>(same b)<*e;show j4 O hN hi (.l q) (v:=.r x) rfl (λB I3=>?_)\.o q;show bU (hs x _ (AS I.ok ?_) Sn B _ _ DF (I3.toS x _)\M x r) (λf P Q=>(B0 Q).elim) λ_ _ z=>z;intro pins' Z' H' s1 e R d' bK bM J ge S U Y g1 g2 j gp l gE;show noted a al J ge S U Y g1 g2 j gp l λh3 T bN bS m xv T0 ab=>?_;show m.unname hN hi q λP K4=>?_;show L5 a.2 (xv K4) λh5 a4 bX=>?_;change jl _ _ (noteFrame (.r e) X.env) _ _ _;show Bt a.2 a4 ?_;show Cf a.2 a4 λh6 ad ag=>?_;show hE _ _ H' _ e T R d' (K4.kept (t':=P.toks) λb o z=>(ag b).trans\(bX b).trans z) ad j T0 l ab gE
def JQ(h:X.stack=X.env::X.outer/\X.env.frame*>X.env.locals)(c:X.ex=[])(j:X.N.Nodup)(hi:X.N[i]?*>n)(l:X.env.scope.names.lookup n*>.local)
  (m:Gl X cx1) (o:X.mg cx1*>.r c1) (u:clsIn X.K c1*>bm1) (y:bm1.contains (.t ↑4)=gm) (A:Gl X cx) (hm:X.mg cx*>.r Ch) (B:clsIn X.K Ch*>bmh) (C:bmh.contains (.t ↑4)=gm)
  (L:∀(Sn:-(i4×Obj))(xe:hK->ij->Prop)(E:XK),Passes (CX1 X.prog X.w) (kr X Sn xe) E->PSs (kr X Sn xe) body\tb E)
  (M:∀x xe,REnds (cxS X x xe) (XWith x E2)->PSs (cxS X x xe) (c0::suite0)\t0 x) (O:∀x xe,REnds (cxS X x xe) (XWith x E2)->PSs (cxS X x xe) (b0::suite)\ts x) (P:wA X E2) (Q:(cx1==(↑17 : Str))=hB:=by decide) (R:(cx==(↑17 : Str))=hB:=by decide) :
  PS X (.Try body [.ExceptHandler (gh\.n cx1 np1) gf (c0::suite0) hpos1,.ExceptHandler (gh\.n cx np) (gh n) (b0::suite) hpos] [] [] pos) (M8 X.K X.N.length c1 Ch i tb t0 ts):=by
 rintro Sn s Z H D I ⟨E,S,T⟩;show QP ?_;show bU (L Sn _ E ?_ [] s Z H D I.toBody S) (λf s1 a=>?_) λ_ _ z=>z
 .rintro pins' Z' H' s' e ab J ⟨x,cls,d,H2,rfl,hx,g,U,os,bare,un,hok,q⟩;let Y:=J.call' (ch:=[]) os un hok bare (λb z=>absurd z ∅);show On h c j hi l m o u y A hm B C M O P Q R Y.ofBody hx (J.ofBody.oldNone g (by rw[c];simp)) (λp hp z=>?_) U\T _ _ _ q;let e:=(J.pin p\eK _ hp).1;rw[z,g] at e;cases e
 cases f with
 |next=>
  let#[Z',H',J,q]:=a;show pT #[Z',H',J.ofBody,q]
 |brk=>let#[Z',H',J,q]:=a;erw[Z',H',J.ofBody,q]
 |cont=>let#[Z',H',J,q]:=a;erw[Z',H',J.ofBody,q]
 |ret v=>let#[w',Z',H',J,r,q]:=a;erw[w',Z',H',J.ofBody,r,q]
end
section
variable {body suite:-mT}{b0:mT}{x1 x2:Str}{p1 p2 tpos hpos pos:Pos}{kk:Nat}{c1 c2:i4}{tb:XK->TS}{ts:TS}{p:hK->Prop}
end
def Fun.ok2{st:mT}{k:Nat}{sp:Sp}(F:Fun K x qual st f fd)(S:aQ N ps\au st)(len:∀vs H Q E,sp vs H Q E->↑vs=↑ps)
  (b:∀(a:hK)(A:ro)(outer:-Env)(s:ij)(H:Hp)(vs:-V)(Q:VK)(E:XK),Room k (A.deeper\envOfC qual (au st) ↥s f a)->sp vs H Q E->
   ∃t,PSs (eV (CX2 P w) P w K mg base N qual (au st) f a A outer s H E) (d_ st) t/\t {nx:=λ_ H'=>Q .non H',rt:=Q} (start N vs) H):!az (CX2 P w) (k+1) f fd ps sp:=by
 let#[g,od,kV,doc,pm,an,a,ct,h,1,lk,c]:=F.ex;show wu lk c S len λA outer s H vs Q E d e=>b a A outer s H vs Q E d e
def Oe{p:hK->Prop}:Passes (CXg p X.prog X.w) X E0:=by rintro _ _ _ _ _ _ _ ⟨_,_,_,_,_,_,_,_,_,_,_,_,q⟩;show q.elim
def uW:∀{us:-hK}{ns:-Int}{i:Nat},u3 us ns->i<↑us->∃t,us[i]?*>Value.int (ns.getD i 0) t
 |_,_,_,.nil,h=>by simp at h
 |_,_,0,.cons n t _,_=>#[t,1]
 |_,_,i+1,.cons n t r,h=>by
  let#[t',e]:=uW (i:=i) r ‹h›;erw[t',‹e›]
def IF{ns ms:-Int}{i:Nat}(h1:i<↑ns)(h2:i<↑ms):HT.lexLt (ns.drop i) (ms.drop i)=if ns.getD i 0=ms.getD i 0 then HT.lexLt (ns.drop (i+1)) (ms.drop (i+1)) else decide (ns.getD i 0<ms.getD i 0):=by rw[i_ h1,i_ h2,HT.lexLt_cons];simp[List.getD,h1,h2]
def Kn(l b:i4)(us ws:-hK)(ns ms:-Int)(n m:Nat)(o:u3 us ns)(hw:u3 ws ms)(k:Nat):
  ∀i:Nat,↑us-i=k->i<=↑us->i<=↑ws->Meets (Builtin.«list.__eq__.loop» #[[.r l,.r b,p6 i,p6 0],[]])
   (λ_ R s=>s.heap.get? l*>seqObj ↑25 us.toArray n/\s.heap.get? b*>seqObj ↑25 ws.toArray m/\R (.ok\.ret (.x\HT.lexLt (ns.drop i) (ms.drop i))) s):=by
 let D:=↑o;let lw:=↑hw;let stop:∀i:Nat,i<=↑us->i<=↑ws->(↑us<=i\/↑ws<=i)->Meets (Builtin.«list.__eq__.loop» #[[.r l,.r b,p6 i,p6 0],[]])
   (λ_ R s=>s.heap.get? l*>seqObj ↑25 us.toArray n/\s.heap.get? b*>seqObj ↑25 ws.toArray m/\R (.ok\.ret (.x\HT.lexLt (ns.drop i) (ms.drop i))) s):=by
  intro i h1 h2 j prog w A R s h;let#[v,g,d,tk,os]:=s;let#[a,f,h]:=h
  wp_walk using fY a,fY f
  let e:HT.lexLt (ns.drop i) (ms.drop i)=decide (↑us<↑ws):=by
   by_cases c:↑us<=i
   .rw[CW ()];by_cases c2:↑ws<=i
    .rw[CW (),Sj ()];rfl
    rw[i_ (),Si ()];rfl
   have:↑ws<=i:=();rw[CW (as:=ms) (),i_ (),Sj ()];rfl
  rw[e] at h;rcases j with j|j
  .rw[show us.toArray[((i:Nat):Int).toNat]?=gf by simp;lia]
   wp_walk using fY a,fY f
   change R (.ok\.ret (.x (decide (us.toArray.size<ws.toArray.size)))) _;simpa using h
  by_cases c:↑us<=i
  .rw[show us.toArray[((i:Nat):Int).toNat]?=gf by simp;lia]
   wp_walk using fY a,fY f
   change R (.ok\.ret (.x (decide (us.toArray.size<ws.toArray.size)))) _;simpa using h
  rw[show us.toArray[((i:Nat):Int).toNat]?*>us[i]'() by simp,show ws.toArray[((i:Nat):Int).toNat]?=gf by simp;lia]
  wp_walk using fY a,fY f
  change R (.ok\.ret (.x (decide (us.toArray.size<ws.toArray.size)))) _;simpa using h
 induction k with
 |zero=>
  intro i x h1 h2;show stop i h1 h2\.l ()
 |succ k y=>
  intro i x h1 h2;by_cases c:↑ws<=i
  .exact stop i h1 h2\.o c
  intro prog w A R s h;let#[v,g,d,tk,os]:=s;let#[a,f,h]:=h
  wp_walk using fY a,fY f
  let#[#[p,z],#[q,B],r]:=#[uW (i:=i) o (),uW (i:=i) hw (),(‹z›:us.toArray[((i:Nat):Int).toNat]?*>Value.int (ns.getD i 0) p)]
  let u:ws.toArray[((i:Nat):Int).toNat]?*>Value.int (ms.getD i 0) q:=‹B›
  let C:((i:Int)+1)=((i+1:Nat):Int):=by push_cast;rfl
  rw[IF () ()] at h;rw[r,u];show aa\DI ?_;by_cases e:ns.getD i 0=ms.getD i 0
  .rw[Sh e] at h;rw[show (ns.getD i 0==ms.getD i 0)=gm by simpa using e]
   wp_walk
   rw[C];erw[jf xG _,iH Qf (by
    rw[i8 xG _];show y (i+1) () () () prog w A R _ #[a,f,h])]
  rw[Sg e] at h;rw[show (ns.getD i 0==ms.getD i 0)=hB by simpa using e]
  wp_walk using fY a,fY f
  rw[r,u];show aa ?_;show (show jl (kC prog w) _ (nc .Lt (.i (ns.getD i 0) p)\.i (ms.getD i 0) q) _ _ _ from lt_int ?_)
  wp_walk
  show h
def Ko(l b:i4)(us ws:-hK)(ns ms:-Int)(n a:Nat)(f:u3 us ns)(hw:u3 ws ms):
  Meets (Builtin.«list.__lt__» #[[.r l,.r b],[]])
   (λ_ R s=>s.heap.get? l*>seqObj ↑25 us.toArray n/\s.heap.get? b*>seqObj ↑25 ws.toArray a/\R (.ok\.ret (.x\HT.lexLt ns ms)) s):=by
 intro prog w A R s h;let#[#[j,g,d,tk,os],#[c,e,h],m]:=#[s,h,AutoSeq1.sub_list_list]
 wp_walk using fY c,fY e
 erw[jf xG _,iH Qf (by
  rw[i8 xG _];show Kn l b us ws ns ms n a f hw _ 0 rfl (aZ _) (aZ _) prog w A R _ #[c,e,h])]
section
variable {prog:lu}
def HC{a b:i4}{us ws:-hK}{ns ms:-Int}{n c:Nat}{C:Bool->ij->Prop}(d:A.units<pq)(h1:s.heap.get? a*>seqObj ↑25 us.toArray n)(h2:s.heap.get? b*>seqObj ↑25 ws.toArray c)(e:u3 us ns)(hw:u3 ws ms)(q:C (HT.lexLt ns ms) s):
  jl (kC prog w) A (keyLt' oneType' (.r a)\.r b) C E s:=by
 rw[keyLt'_oneType,oneLt'_eq];simp only[if_true];show aa\wpAny_cRoomFor d ?_;show aa\wpAny_callSpecialIfBound?_slot #[_,h1,1] P9 ?_;show uo P9 #[_,h1,1] PySem.F.entry_list_lt (PySem.F.args_list_lt_2 _ _) (Ko a b us ws ns ms n c e hw) #[h1,h2,?_];show iI q
end
def Lsts(K:Frag)(H:Hp)(ys:-V)(ks:List\-Int):Prop:=Paired (λy k=>∃b,y=V.ref b/\H b*>.a\k.map V.int) ys ks
section
def LJ(K:Frag):-V->Hp->VK->Prop:=λxs H Q=>∃(a:i4)(ys:-V)(ks:List\-Int),xs=[.r a]/\SqL K H a ys/\Lsts K H ys ks/\↑ys<5000/\
 ∀p (ix:-Nat),H p=gf->ix.Perm (List.range ↑ys)->(ix.map λi=>ks.getD i []).Pairwise (λa b=>HT.lexLt b a=hB)->Q (.r p)\upd H p (.a (ix.map λi=>ys.getD i .non))
def DS(hr:X.A.units+2<pq):c7 X (.b ↑48) (LJ []):=by
 lk;intro xs us Q I r h;let#[a,ys,ks,1,d,f,hz,q]:=h;let#[u,1,B]:=Vals.one r;cases B;let#[c,g,p,_]:=I.list d;let hl:=↑g;let at_:∀(ks:List\-Int)(ys:-V)(c:-hK),Lsts [] H ys ks->Vals ys c->Paired (λv k=>∃b us n,v=Value.ref b/\u3 us k/\s.heap.get? b*>seqObj ↑25 us.toArray n) c ks:=by
  intro ks;induction ks with
  |nil=>intro ys c a b;cases a;cases b;show .nil
  |cons k ks D=>
   intro ys c a b;cases a with
   |cons K tt=>
    let#[bb,L,d]:=K;subst L;cases b with
    |cons r M=>
     cases r;let#[z,us,n,N,O]:=I.hok>>d;show .c #[bb,us,n,1,nQ N,O]\D _ _ tt M
 let P:=at_ ks ys c f g;let l:∀{b:i4}{us:-hK}{n:Nat}{k:-Int},u3 us k->s.heap.get? b*>seqObj ↑25 us.toArray n->rkV s.heap (Value.ref b)=k:=λ{b us n k} i1 i2=>by
  change (match s.heap.get? b with|some o=>_|none=>_)=_;rw[i2];show vD i1
 let R:∀i,i<↑c->rkV s.heap (c.getD i Value.none)=ks.getD i []:=λi hi=>by
  let#[k,m,b,us,n,S,i1,i2]:=Paired.getE (i:=i) (x:=c[i]) P (by simp[hi]);rw[show c.getD i Value.none=c[i] by simp[List.getD,hi],S,l i1 i2,List.getD,m];rfl
 show yt (κ:=oneType') (rk:=rkV s.heap) p.isList (by rw[cW];lia) (λh' old h2 Q q=>?_) (λh' old h2 x hx y f C q=>?_) λout p1 p2=>?_
 .refine kas_kind (T:=.t ↑25) h2 (λv U=>?_) ⋯ ⋯ q;let#[i,hi]:=eZ.mp U;let#[k,m,b,us,n,1,i1,i2]:=Paired.getE P hi;intro A Q E s' Y q';have:=Y>>old>>i2;show nE #[_,this,1] q'
 .let#[#[i,hi],#[j,hj],#[k1,_,b1,u1,n1,1,i1,x1],#[k2,_,b2,u2,n2,1,i2,x2]]:=#[eZ.mp hx,eZ.mp f,Paired.getE P hi,Paired.getE P hj];rw[l i1 x1,l i2 x2] at q;show HC (by change X.A.units+1+1<_;lia) (old>>x1) (old>>x2) i1 i2 q
 let#[#[ix,x1,x2,x3],#[e,he],w]:=#[wc g R p1 p2,sortedAll_at s.heap c out.toArray,(pB _:↥s<=↥s+1)];erw[.r (↥s+1),upd H (↥s+1)\.a (ix.map λi=>ys.getD i .non),I.laid (t':=s.toks) (λb o e=>sortedAll_old e) w #[by rw[av,x1.length_eq,jR,cW];lia,out,e,x3,by rw[he]],1,q _ ix (I.hok.fresh w) x1 x2]
end
def rNeE:R2:=λx y H Q=>∃(a b:i4)(kvs:-(Key×V)),x=.r a/\y=.r b/\Rd H a (.k kvs)/\Rd H b (.k [])/\Q (.bl (!kvs.isEmpty)) H
def L6(c:X.A.units<pq):OpR X (nc .NotEq) rNeE:=by
 lk;intro x y v u Q I d f h;let#[a,b,kvs,5,ha,g,q]:=h;cases d;cases f;let#[o,lo,vs,rel,dd]:=fi I.hok ha;let#[w,j,ms,l,m]:=fi I.hok g;let n:ms=[]:=by have:=↑l;show xi.mp this.symm
 subst n;show W.keq_ne (r:=gm) lo j dd m c (λe=>?_) #[.bl _,H,I,?_,q]
 .let e:vs=[]:=xi.mp e;subst e;show .nil
 change Value.bool _=Value.bool _;have:=↑rel;cases kvs with
 |nil=>cases vs with
  |nil=>rfl
  |cons p r=>simp at this
 |cons p r=>cases vs with
  |nil=>simp at this
  |cons z B=>rfl
end L2
namespace HT
open PySem PySem.Spec PyProof.Rows
section
variable {prog:lu}
def getItem_tuple_all{t sl:i4}{items:Array hK}{b c:hK}{lo hi:Option Int}{Q:hK->ij->Prop}(a:IsTup s.heap t items)(d:s.heap.IsSliceOf sl b c .none)(pl:IsPart b lo)(pu:IsPart c hi)
  (hw:sIx items.size 0 lo=0/\sIx items.size items.size hi=items.size) (h:Q (.r t) s):jl (kC prog w) A (getItem (.r t)\.r sl) Q E s:=by
 let#[os,e,f,j]:=id d;let g:s.TypeIs (.r sl) "slice":=#[os,e,f];unfold getItem
 try with_reducible show cY ?_
 first|show aa (ai ?_)|skip
 show aa (Q9 a.typeIs ⋯ ?_);show aa (kY (name:=Str.ofString "__getitem__") a.typeIs pI
  (ik pI a.typeIs QB ?_\Qt _ _))
 change jl _ _ (Builtin.Tuple.tupleItemsOf (.r t) >>= _) _ _ s;show aa\tupleItemsOf_ a ?_;show aa\nE g ?_;rw[Sh ⋯];show aa\xT d pl pu ?_;let yes:(((sIx items.size 0 lo:Nat):Int)==0&&(1:Int)==1&&(sIx items.size items.size hi-sIx items.size 0 lo)==items.size)=gm:=by rw[hw.1,hw.2];simp
 change jl _ _ (if (((sIx items.size 0 lo:Nat):Int)==0&&(1:Int)==1&&(sIx items.size items.size hi-sIx items.size 0 lo)==items.size)=gm then _ else _) _ _ s;rw[Sh yes];unfold Builtin.Tuple.tupleIsExact;show aa\aa (nE a.typeIs\ai ?_);rw[Sh ⋯];show aa\ur (ai #[2,ai h])
end
end HT
namespace L2
open PySem PySem.Spec PyProof.Rows
section
def rSlW(K:W.Frag):V->Option Int->Option Int->Hp->VK->Prop:=λx lo hi H Q=>∃a xs,x=.r a/\SqT K H a xs/\
 ((HT.sIx ↑xs 0 lo=0/\HT.sIx ↑xs ↑xs hi=↑xs)->Q (.r a) H)/\(¬(HT.sIx ↑xs 0 lo=0/\HT.sIx ↑xs ↑xs hi=↑xs)->∀p,H p=gf->Q (.r p)\upd H p (.u\fk xs lo hi))
def vz:SlR X (rSlW []):=by
 lk;intro x v e f lo hi sl Q I b c pl pu h;let#[a,xs,ex,hx,g,j]:=h;by_cases hw:HT.sIx ↑xs 0 lo=0/\HT.sIx ↑xs ↑xs hi=↑xs
 .subst ex;cases b;let#[l,r,d,hz]:=I.tuple hx;let hlen:l.toArray.size=↑xs:=by rw[bI];show r.length.symm
  erw[↑16,_,pI.lookup,d.typeIs,?_];show HT.getItem_tuple_all d c pl pu (by rw[hlen];show hw) #[.r a,H,I,1,g hw]
 show Lw Sn s Z H x v e f lo hi sl Q I b c pl pu #[a,xs,ex,hx,hw,j hw]
end
section
def yP:∀{cs:-i4}{us:-hK},Vals (cs.map V.ref) us->us=cs.map Value.ref
 | [],_,r=>by cases r;rfl
 |c::cs,_,r=>by
  rw[bu] at r;cases r with
  |cons h t=>
   rw[bu,<-yP t];cases (show _=Value.ref c from h);rfl
end
open PySem.W
section
variable {prog:lu}{x D:i4}{ox:Obj}{od:Option Obj}
def E3{Q:Option hK->ij->Prop}(X:K.In s.heap)(c:iV K D)(I:W.InstAt s.heap x ox D od)(h:Q (gh\.r D) {s with toks:=s.toks+1}):jl (kC prog w) A (getAttr? (.r x) ↑65) Q E s:=by
 let#[#[b,g,d,t,os],e,f,L2]:=#[s,I.type (M:=kC prog w),xJ (M:=kC prog w) X c.ga,xJ (M:=kC prog w) X c.ha];let hf:findObj K D od ↑65*>.bind (.b ↑28) (.b ↑11):=by let#[cd,j]:=pD.mp c.cd;unfold findObj;rw[j,PD,c.cl,PD];simp[c.gt,c.tk]
 let l:=looks_find (M:=kC prog w) X I hf;let n:=looks_mroIn (M:=kC prog w) X c.mb;let o:(onTheHeap (Value.ref D)&&Value.builtin ↑2==Value.builtin ↑44)=hB:=by have:(Value.builtin ↑2==Value.builtin ↑44)=hB:=⋯;rw[this];rfl
 unfold getAttr? getAttrBy? getAttrBy;show aa\wpAny_mkText (aa\jg (cY\aa (e.at\aa (f.at ?_))));dsimp only;rw[o];change jl _ _ (getAttrByItsOwn _ _ _ _ _ _) _ _ _;unfold getAttrByItsOwn hookBefore;show aa ?_;change jl _ _ (typeLookup (.r D) "__getattr__") _ _ _;show L2.at\aa (jg\cY ?_);change jl _ _ (boundAndCalled _ _ _) _ _ _;unfold boundAndCalled;rw[F.excAttr_ValueError.ga.bind\.r x];show aa\ai ?_;show kX\xH F.excAttr_ValueError.ga.plain F.entry_bexc_ga ?_;let#[p,q,ha,r]:=#[(⋯:builtinKind ↑2*>.slot),(⋯:splitId ↑2*>(↑4,↑33)),F.args_bexc_ga (.r x)\.s ↑65 t,(e.andThen n:Looks (kC prog w) b (isInstance (.r x)\.t ↑4) gm)];let u:∀(A:ro)(E:hK->ij->Prop)(Q:Unit->ij->Prop),Q .unit #[b,g,d,t+1,os]->jl (kC prog w) A (checkBuiltinCall ↑2 #[[.r x,.s ↑65 t],[]]) Q E #[b,g,d,t+1,os]:=by
  intro A E Q v;simp only[checkBuiltinCall,p,q];show aa\r.at ?_
  repeat (any_goals (first|assumption|wp_step))
 show u _ _ _ ?_;unfold Builtin.«object.__getattribute__»;show aa (m:=slotArgs _ _ _)\nB (a:=(.r x,[.s ↑65 t])) rfl ?_;show aa\nB (a:=(↑65 : Str)) rfl ?_;show aa\e.at (aa\l.at ?_);change jl _ _ (Builtin.ObjectAttr.bindTo (.b ↑28) (.b ↑11) (.r x)\.r D) _ _ _;unfold Builtin.ObjectAttr.bindTo;dsimp only;show aa\cY (kX\class_get (s:=#[b,g,d,t+1,os]) X I c.mo ?_);show ai\handed_on rfl (ai h)
def zl(c:iV K D):W.KitX K (.r x) (.r D) (λh=>∃ox od,W.InstAt h x ox D od) where
 ty:=λ_ _ _ ⟨_,_,I⟩=>I.type
 it:=λ_ _ X _=>by
  let#[d,a]:=pD.mp c.cd;unfold W.clsIn at a
  split at a
  .rename_i f d' g j b;intro m o p s' k q;unfold isType loadHead;show aa\DM (k>>X>>b) (ai q)
  cases a
 ne:=λh tp dd r n sl X l=>by
  let#[d,a]:=pD.mp c.cd;show OX.mpr λq=>?_;let e:D=tp:=Value.ref.inj\beq_iff_eq.mp q;subst e;unfold W.clsIn at a
  split at a
  .rename_i f d' g j b;let z:=(X>>b).symm.trans l;cases z
  cases a
 ca:=λX ⟨_,_,I⟩ k=>E3 X c I k
end
section
def jH(H:Hp)(x D:i4):Prop:=∃pc,H x*>ef pc x (.r D) gf\/∃d fs,H x*>ef pc x (.r D) (gh d)/\H d*>.xd fs
def jH.inst(I:!Inv H s)(h:jH H x D):∃ox od,W.InstAt s.heap x ox D od:=by
 let#[pc,h]:=h;rcases h with h|⟨d,fs,h,hd⟩
 .let#[#[a,vs,h1,h2,b,c,_],_]:=(show bh X.prog X.w H s.heap x (ef pc x (.r D) gf) from I.hok x _ h);erw[a,gf,h1,h2,?_,?_]
  .unfold W.notCls;rw[c]
  rw[b];trivial
 let#[#[#[a,vs,h1,h2,b,c,_],_],#[mA,e,g],#[od,f,j]]:=#[(show bh X.prog X.w H s.heap x (ef pc x (.r D)\gh d) from I.hok x _ h),(show bh X.prog X.w H s.heap d (.xd fs) from I.hok d _ hd),uF e];erw[a,gh od,h1,h2,?_,?_]
 .unfold W.notCls;rw[c]
 rw[b];show f
def jH.same(s:Same H H')(h:jH H x D):jH H' x D:=by
 let#[pc,h]:=h;rcases h with h|⟨d,fs,h,hd⟩
 .exact#[pc,.l (s>>h)]
 erw[pc,.o #[d,fs,s>>h,s>>hd]]
def N7(K:W.Frag)(y:V)(c:hK):-V->Hp->VK->Prop:=λxs H Q=>∃(x D:i4)(b:Bool),xs=[.r x,y]/\jH H x D/\iV K D/\W.kitOne K (.r D) c*>b/\Q (.bl b) H
def lE{c:hK}(a:∀u,aC y u->u=c):c7 X (.b ↑70) (N7 X.K y c):=by lk;intro xs us Q I r h;let#[x,D,b,1,hx,d,e,q]:=h;let#[u,f,1,g,j]:=vals2 r;cases (show u=Value.ref x from g);cases a f j;show ig (zl d) I.kIn (hx.inst I) e (λz=>nomatch z) λtk=>#[.bl b,H,I.tok _,1,q]
def LR(K:W.Frag):-V->Hp->VK->Prop:=λxs H Q=>∃(x D tp:i4)(cs:-i4)(b:Bool),xs=[.r x,.r tp]/\jH H x D/\iV K D/\H tp*>.u (cs.map V.ref)/\W.kitAny K (.r D) (cs.map Value.ref)*>b/\Q (.bl b) H
def E9:c7 X (.b ↑70) (LR X.K):=by
 lk;intro xs us Q I r h;let#[x,D,tp,cs,b,1,hx,c,d,e,q]:=h;let#[u,f,1,g,j]:=vals2 r;cases (show u=Value.ref x from g);cases (show f=Value.ref tp from j);let#[w,l,#[o,m,c1,n,a],_]:=I.tuple\SqT.of d;let p:=yP l;subst p;let v:s.heap.get? tp*>#[.t ↑16,o.dict,.e (cs.map Value.ref).toArray n,o.slots]:=by rw[m];cases o;simp only at c1 a;subst c1 a;rfl
 show W.kia_tup (zl c) I.kIn (hx.inst I) v e (λz=>nomatch z) λtk=>#[.bl b,H,I.tok _,1,q]
end
section
def zA(h:mu):∀{bs:-Bool}{us:-hK},Vals (bs.map V.bl) us->∃as,ReadsAll h us (bs.map PyData.bool) as
 | [],_,r=>by cases r;erw[_,.nil]
 |b::bs,_,r=>by
  rw[bu] at r;cases r with
  |cons a t=>
   let#[as,q]:=zA h t;cases (show _=Value.bool b from a);erw[_,.c (.x b) q]
def JN:V->-V->Hp->VK->Prop:=λx vs H Q=>∃(a:i4)(bs:-Bool)(b:Bool),x=.r a/\vs=[.bl b]/\H a*>.a (bs.map V.bl)/\Q (.i (bs.count b:Nat)) H
def F5(bs:-Bool)(b:Bool):(Spec.countIn (.x b) (bs.map PyData.bool):Int)=(bs.count b:Nat):=by
 induction bs with
 |nil=>rfl
 |cons c bs a=>
  rw[bu,List.count_cons];change (if Spec.same (.x c) (.x b) then (1:Int) else 0)+Spec.countIn (.x b) (bs.map PyData.bool)=_;rw[a];let e:Spec.same (.x c) (.x b)=(c==b):=by cases b<;>cases c<;>decide
  rw[e];cases h:(c==b)<;>simp<;>lia
def FP:MtM X "list.count" JN:=by lk;intro x vs v us Q I c d h;let#[a,bs,b,5,e,q]:=h;cases c;let#[u,1,f]:=d.one;cases (show u=Value.bool b from f);let#[j,r,p,hz]:=I.list\SqL.of e;let#[as,g]:=zA s.heap r;show count_list_bools p.isList g (by simp[Shape.has]) #[.i _,H,I.tok _,#[2],?_];rw[F5];show q
end
section
def JM:V->-V->Hp->VK->Prop:=λx vs H Q=>∃(a:i4)(bs:-Bool)(b:Bool)(j:Nat),x=.r a/\vs=[.bl b]/\H a*>.a (bs.map V.bl)/\bs[j]?*>b/\(∀i,i<j->bs[i]?≠gh b)/\Q (.i (j:Int)) H
def FO:MtM X "list.index" JM:=by
 lk;intro x vs v us Q I p w h;let#[a,bs,m,j,5,A,d,B,q]:=h;cases p;let#[u,1,C]:=w.one;let#[z,b,n,r,D,e]:=I.lstM A;rw[av] at z D;let N:=(aO.mp d).1;let at_:∀i (h:i<b.toArray.size) k,bs[i]?*>k->eqU (V.bl m) b.toArray[i]=eqV (.bl k) (.bl m):=λi h k E=>by
  let#[K,f,c]:=r.get (i:=i) (x:=V.bl k) (by rw[br,E];rfl);let c:K=Value.bool k:=c;subst c;have:b.toArray[i]=.x k:=by
   let h':i<↑b:=‹h›
   rw[aR h'] at f;simpa using f
  rw[this];cases k<;>cases m<;>rfl
 let g:j<b.toArray.size:=by rw[bI];lia
 let sm:(j:Int)<2 ^ 63-1:=by rw[cW] at z;lia
 show Dy F.slot_list_index #[_,e,1] F.entry_list_index (F.args_list_index_2 _ _) (SeqAt.list_indexAt a b.toArray n gf (tA []) u (eqU\V.bl m) j g sm ?_ λi hi L=>?_) #[e,λy M=>?_,?_]
 .rw[at_ j g m d];cases m<;>simp[eqV]
 .let l:i<↑bs:=();rw[at_ i hi _\aR l];have:=B i L;rw[aR l] at this;let o:bs[i]≠m:=λz=>this (by rw[z]);generalize bs[i]=k at o;cases k<;>cases m<;>first|show absurd rfl o|simp[eqV]
 .exact j7 C rfl r (by simp[gj]) y ‹M›
 erw[.i (j:Int),H,I.tok _,#[2],q]
end
end L2
namespace K15
abbrev Tri:=Nat×Nat×Nat
abbrev Ent:=(Nat×Nat)×Nat
def ents(ts:-Tri):-Ent:=ts.flatMap λt=>[((t.1,t.2.1),t.2.2),((t.2.1,t.2.2),t.1),((t.2.2,t.1),t.2.1)]
def cG{ts:-Tri}{a b c:Nat}:((a,b),c)∈ents ts↔(a,b,c)∈ts\/(c,a,b)∈ts\/(b,c,a)∈ts:=by
 unfold ents;rw[jd];constructor
 .rintro⟨⟨x,y,z⟩,d,h⟩;simp only[aU,fM,or_false,xD] at h;rcases h with ⟨⟨rfl,rfl⟩,rfl⟩|⟨⟨rfl,rfl⟩,rfl⟩|⟨⟨rfl,rfl⟩,rfl⟩
  .exact .l d
  .exact .o\.l d
  show .o\.o d
 rintro (h|h|h)
 .exact#[_,h,∅]
 .exact#[_,h,∅]
 erw[_,h,∅]
structure Sk(E:Nat->Nat->Nat->Prop):Prop where
 rot:∀{a b c},E a b c->E b c a
 one:∀{a b c d},E a b c->E a b d->c=d
 ne:∀{a b c},E a b c->a≠b
def En(ts:-Tri)(a b c:Nat):Prop:=((a,b),c)∈ents ts
structure Good(ts:-Tri):Prop where
 ne:∀t∈ts,t.1≠t.2.1/\t.2.1≠t.2.2/\t.2.2≠t.1
 nd:((ents ts).map (·.1)).Nodup
def zf{α β:Type}{l:-(α×β)}(h:(l.map (·.1)).Nodup){a:α}{b c:β}(g:(a,b)∈l)(j:(a,c)∈l):b=c:=by
 induction l with
 |nil=>cases g
 |cons x l n=>
  rw[bu,eR] at h;rcases aU.mp g with e|m
  .rcases aU.mp j with d | f
   .rw[<-e] at d;show (kW d).2.symm
   show (h.1\ax.mpr #[_,f,by rw[<-e]]).elim
  rcases aU.mp j with d | f
  .exact (h.1\ax.mpr #[_,m,by rw[<-d]]).elim
  show n h.2 m f
def j3{l:-Nat}(h:l.Nodup):∀{i j x:Nat},l[i]?*>x->l[j]?*>x->i=j:=by
 induction l with
 |nil=>intro i j x h1;simp at h1
 |cons a l b=>
  intro i j x h1 h2;rw[eR] at h;cases i with
  |zero=>
   cases j with
   |zero=>rfl
   |succ j=>
    simp at h1 h2;subst h1;show (h.1\a_ h2).elim
  |succ i=>
   cases j with
   |zero=>
    simp at h1 h2;subst h2;show (h.1\a_ h1).elim
   |succ j=>
    simp at h1 h2;rw[b h.2 h1 h2]
def Good.sk{ts:-Tri}(g:Good ts):Sk (En ts):=by
 erw[λ{a b c} h=>?_,λ{a b c d} h1 h2=>zf g.nd h1 h2,λ{a b c} h=>?_]
 .unfold En at *;rw[cG] at *;rcases h with h|h|h
  .exact .o\.l h
  .exact .o\.o h
  show .l h
 unfold En at h;rw[cG] at h;rcases h with h|h|h
 .exact (g.ne _ h).1
 .exact (g.ne _ h).2.1
 show (g.ne _ h).2.2
section
variable {E:Nat->Nat->Nat->Prop}
def Sk.inj(k:Sk E){v p a q:Nat}(h:E v p q)(h':E v a q):p=a:=k.one (k.rot\k.rot h)\k.rot (k.rot h')
structure Fan(E:Nat->Nat->Nat->Prop)(v:Nat)(F:-Nat):Prop where
 ne:F≠[]
 nd:F.Nodup
 ch:∀i p q,F[i]?*>p->F[i+1]?*>q->E v p q
 key:∀p∈F,∃q,E v p q
 clF:∀p∈F,∀q,E v p q->(∃r,E v q r)->q∈F
 clB:∀p∈F,∀o,E v o p->o∈F
def One(E:Nat->Nat->Nat->Prop)(v:Nat):Prop:=∃F,Fan E v F/\∀p,(∃q,E v p q)->p∈F
def Im(k:Sk E){v:Nat}{L:-Nat}{at_:Nat}(B:L≠[])(nd:L.Nodup)(u:∀p∈L,∃q,E v p q)(ch:∀i p q,L[i]?*>p->L[i+1]?*>q->E v p q)
  (C:∀p,L.getLast?*>p->E v p at_) (D:(∃q,E v at_ q)->at_∈L) {s:Nat} (w:L.head?*>s) (H:(∀o,¬E v o s)\/∀p,(∃q,E v p q)->∃o,E v o p) :
  (∀p,(∃q,E v p q)->p∈L)↔One E v:=by
 constructor
 .intro c;erw[L,#[B,nd,ch,u,λp _ q _ I=>c q I,λp _ o f=>c o #[p,f]],c]
 rintro⟨F,hF,c⟩;let n:s∈L:=by cases L with|nil=>cases w|cons a l=>cases w;simp
 let clo:∀x∈L,∀y,E v x y->(∃r,E v y r)->y∈L:=by
  intro x hx y b z;let#[i,hi]:=gB hx;let K:=(aO.mp hi).1;by_cases h:i+1<↑L
  .let h1:L[i+1]?*>L[i+1]:=aR h;have:=k.one b\ch i _ _ hi h1;rw[this];show a_ h1
  let e:L.getLast?*>x:=by rw[jQ,show ↑L-1=i by lia];show hi
  have:=k.one b\C x e;rw[this] at z |-;show D z
 let M:s∈F:=c s\u s n;let#[j,g]:=gB M;let A:∀d:Nat,(∀y,F[d]?*>y->y∈L)->∀(m:Nat)(y:Nat),F[d+m]?*>y->y∈L:=by
  intro d N m;induction m with
  |zero=>intro y b;show N y b
  |succ m O=>
   intro y b;let P:d+m<↑F:=by have:=(aO.mp b).1;lia
   let h1:F[d+m]?*>F[d+m]:=aR P;show clo _ (O _ h1) y (hF.ch _ _ _ h1 b)\hF.key y (a_ b)
 let Q:=A j (λy b=>by rw[g] at b;cases b;show n);let zero:∀y,F[0]?*>y->y∈L:=by
  intro y b;by_cases R:j=0
  .subst R;rw[g] at b;cases b;show n
  let#[Y,h1,S]:=#[(aO.mp g).1,(aR ():F[j-1]?*>F[j-1]),hF.ch (j-1) _ _ h1 (by rw[show j-1+1=j by lia];show g)];rcases H with h|h
  .exact (h _ S).elim
  let#[#[o,f],T,#[i,hi],K]:=#[h y\hF.key y (a_ b),hF.clB y (a_ b) o f,gB T,(aO.mp hi).1];by_cases U:i+1<↑F
  .let h2:F[i+1]?*>F[i+1]:=aR U;let e:=k.one (hF.ch i _ _ hi h2) f;rw[e] at h2;have:=j3 hF.nd h2 b;lia
  have:o∈L:=Q (i-j) o (by rw[show j+(i-j)=i by lia];show hi);show clo o this y f\hF.key y (a_ b)
 intro p X;let#[i,hi]:=gB\c p X;show A 0 zero i p (by rw[kQ];show hi)
def Am{v:Nat}{F G:-Nat}(ch:∀i p q,F[i]?*>p->F[i+1]?*>q->E v p q)(key:∀p∈F,∃q,E v p q)(f:Fan E v G){x:Nat}(x1:x∈F)(x2:x∈G):∀y∈F,y∈G:=by
 let#[j,b]:=gB x1;let g:∀(m:Nat)(y:Nat),F[j+m]?*>y->y∈G:=by
  intro m;induction m with
  |zero=>intro y a;rw[Dd,b] at a;cases a;show x2
  |succ m c=>
   intro y a;let d:j+m<↑F:=by have:=(aO.mp a).1;lia
   let h1:F[j+m]?*>F[j+m]:=aR d;show f.clF _ (c _ h1) y (ch (j+m) _ _ h1 a)\key y (a_ a)
 let l:∀m:Nat,m<=j->∀y:Nat,F[j-m]?*>y->y∈G:=by
  intro m;induction m with
  |zero=>intro _ y a;rw[PB,b] at a;cases a;show x2
  |succ m c=>
   intro hm y a;let d:j-m<↑F:=by have:=(aO.mp b).1;lia
   let h1:F[j-m]?*>F[j-m]:=aR d;let e:j-(m+1)+1=j-m:=();show f.clB _ (c () _ h1) y\ch (j-(m+1)) _ _ a (by rw[e];show h1)
 intro y a;let#[i,hi]:=gB a;by_cases h:j<=i
 .exact g (i-j) y (by rw[show j+(i-j)=i by lia];show hi)
 show l (j-i) () y (by rw[show j-(j-i)=i by lia];show hi)
def Iv(k:Sk E){fs:List\-Nat}{left F:-Nat}{x0:Nat}(d:∀G∈fs,Fan E v G)(g:∀p,(∃q,E v p q)->p∈left\/∃G∈fs,p∈G)(j:∀p∈left,∀G∈fs,p∉G)
  (nd:F.Nodup) (key:∀p∈F,∃q,E v p q) (ch:∀i p q,F[i]?*>p->F[i+1]?*>q->E v p q) (x1:x0∈F) (x2:x0∈left)
  (l:∀p,F.getLast?*>p->∀q,E v p q->q∈left->q∈F) (m:∀p,F.head?*>p->∀o,E v o p->o∈F):Fan E v F/\∀p∈F,∀G∈fs,p∉G:=by
 let dis:∀p∈F,∀G∈fs,p∉G:=λp a G b n=>j x0 x2 G b\Am ch key (d G b) a n x0 x1;erw[#[λz=>(by rw[z] at x1;cases x1),nd,ch,key,λp a q c r=>?_,λp a o f=>?_],dis]
 .let#[i,hi]:=gB a;let s:=(aO.mp hi).1;by_cases h:i+1<↑F
  .let h1:F[i+1]?*>F[i+1]:=aR h;rw[k.one c\ch i _ _ hi h1];show a_ h1
  let e:F.getLast?*>p:=by rw[jQ,show ↑F-1=i by lia];show hi
  rcases g q r with z|⟨G,b,u⟩
  .exact l p e q c z
  show (dis p a G b\(d G b).clB q u p c).elim
 let#[i,hi]:=gB a;cases i with
 |zero=>show m p (by rw[C7];show hi) o f
 |succ i=>
  let s:=(aO.mp hi).1;let h1:F[i]?*>F[i]:=aR ();rw[k.inj f\ch i _ _ h1 hi];show a_ h1
structure Fans(E:Nat->Nat->Nat->Prop)(v:Nat)(fs:List\-Nat):Prop where
 fan:∀F∈fs,Fan E v F
 all:∀p,(∃q,E v p q)->∃F∈fs,p∈F
 dis:fs.Pairwise λF G=>∀p∈F,p∉G
def JX(k:Sk E){fs:List\-Nat}(h:Fans E v fs)(f:fs≠[]):One E v↔↑fs=1:=by
 cases fs with
 |nil=>show (f rfl).elim
 |cons F r=>
  let hF:=h.fan F ∅;constructor
  .rintro⟨H,b,c⟩;cases r with
   |nil=>rfl
   |cons G r=>
    let#[a,#[x,hx],#[y,d],hd,g]:=#[h.fan G ∅,wZ F hF.ne,wZ G a.ne,(xo.mp h.dis).1 G ∅,(Am b.ch b.key hF (c x\hF.key x hx) hx y\c y (a.key y d):y∈F)];show (hd y g d).elim
  intro j;let l:r=[]:=xi.mp ‹j›;subst l;erw[F,hF,λp m=>?_];let#[G,a,e]:=h.all p m;rw[aG.mp a] at e;show e
def rn(v n:Nat)(F:-Nat)(a b:Nat):Nat:=if a=v/\b∈F then n else a
def ren(v n:Nat)(F:-Nat)(t:Tri):Tri:=(rn v n F t.1 t.2.1,rn v n F t.2.1 t.2.2,rn v n F t.2.2 t.1)
def Rn(E:Nat->Nat->Nat->Prop)(v n:Nat)(F:-Nat)(x y z:Nat):Prop:=∃a b c,E a b c/\x=rn v n F a b/\y=rn v n F b c/\z=rn v n F c a
def MH{ts:-Tri}:En (ts.map\ren v n F) x y z↔Rn (En ts) v n F x y z:=by
 unfold En Rn;rw[cG];constructor
 .intro h;let key:∀p q r,(p,q,r)∈ts.map (ren v n F)->∃a b c,(a,b,c)∈ts/\p=rn v n F a b/\q=rn v n F b c/\r=rn v n F c a:=by
   intro p q r l;let#[#[a,b,c],d,e]:=ax.mp l;unfold ren at e;simp only[xD] at e;erw[a,b,c,d,e.1.symm,e.2.1.symm,e.2.2.symm]
  rcases h with h|h|h
  .let#[a,b,c,d,f,g,j]:=key _ _ _ h;erw[a,b,c,cG.mpr\.l d,f,g,j]
  .let#[a,b,c,d,f,g,j]:=key _ _ _ h;erw[b,c,a,cG.mpr\.o (.l d),g,j,f]
  let#[a,b,c,d,f,g,j]:=key _ _ _ h;erw[c,a,b,cG.mpr\.o (.o d),j,f,g]
 rintro⟨a,b,c,h,rfl,rfl,rfl⟩;rcases cG.mp h with h|h|h
 .exact .l\ax.mpr #[_,h,1]
 .exact .o\.l (ax.mpr #[_,h,1])
 show .o\.o (ax.mpr #[_,h,1])
def gQ{v:Nat}{a:Nat}(h:a≠v):rn v n F a b=a:=by unfold rn;rw[Sg λz=>h z.1]
def tj{F:-Nat}{b:Nat}(h:b∈F):rn v n F v b=n:=by unfold rn;rw[Sh #[1,h]]
def vX{F:-Nat}{b:Nat}(h:b∉F):rn v n F v b=v:=by unfold rn;rw[Sg λz=>h z.2]
section
variable {v n:Nat}{F:-Nat}
def i6{a:Nat}(ha:a≠n)(h:rn v n F a b=n):a=v/\b∈F:=by
 unfold rn at h
 split at h
 .assumption
 show (ha h).elim
def gU(h:rn v n F a b≠n):rn v n F a b=a:=by
 unfold rn at h |-
 split
 .rename_i z;rw[Sh z] at h;show (h rfl).elim
 rfl
variable (k:Sk E)(fr:∀a b c,E a b c->a≠n)(hF:Fan E v F)
include k fr
theorem ou:Rn E v n F n p q↔E v p q/\p∈F:=by
 constructor
 .rintro⟨a,b,c,h,d,rfl,rfl⟩;let#[1,e]:=i6 (fr _ _ _ h) d.symm;rw[gQ\aB (k.ne h),gQ\k.ne (k.rot\k.rot h)];erw[h,e]
 rintro⟨h,f⟩;erw[v,p,q,h,(tj f).symm,(gQ\aB (k.ne h)).symm,(gQ\k.ne (k.rot\k.rot h)).symm]
theorem lQ(e:v≠n):Rn E v n F v p q↔E v p q/\p∉F:=by
 constructor
 .rintro⟨a,b,c,h,d,rfl,rfl⟩;have:a=v:=by
   let f:=gU (v:=v) (n:=n) (F:=F) (a:=a) (b:=b) (by rw[<-d];show e);rw[d,f]
  subst this;let g:b∉F:=λz=>by rw[tj z] at d;show e d
  rw[gQ\aB (k.ne h),gQ\k.ne (k.rot\k.rot h)];erw[h,g]
 rintro⟨h,j⟩;erw[v,p,q,h,(vX j).symm,(gQ\aB (k.ne h)).symm,(gQ\k.ne (k.rot\k.rot h)).symm]
theorem NU:Sk (Rn E v n F):=by
 erw[?_,?_,?_]
 .rintro x y z ⟨a,b,c,h,d,f,l⟩;erw[b,c,a,k.rot h,f,l,d]
 .rintro x y z D ⟨a,b,c,h,d,f,l⟩ ⟨m,g,s,h',o,p,u⟩;let#[fa,w,q,A]:=#[(fr _ _ _ h:a≠n),(fr _ _ _ h':m≠n),(fr _ _ _\k.rot h:b≠n),(fr _ _ _\k.rot h':g≠n)];let B:a=m:=by
   by_cases hx:x=n
   .rw[(i6 fa\d.symm.trans hx).1,(i6 w\o.symm.trans hx).1]
   rw[<-gU (v:=v) (n:=n) (F:=F) (a:=a) (b:=b) (by rw[<-d];show hx),<-gU (v:=v) (n:=n) (F:=F) (a:=m) (b:=g) (by rw[<-o];show hx),<-d,<-o]
  let C:b=g:=by
   by_cases j:y=n
   .rw[(i6 q\f.symm.trans j).1,(i6 A\p.symm.trans j).1]
   rw[<-gU (v:=v) (n:=n) (F:=F) (a:=b) (b:=c) (by rw[<-f];show j),<-gU (v:=v) (n:=n) (F:=F) (a:=g) (b:=s) (by rw[<-p];show j),<-f,<-p]
  subst B C;rw[l,u,k.one h h']
 rintro x y z ⟨a,b,c,h,rfl,rfl,_⟩;let#[fa,q,r]:=#[(fr _ _ _ h:a≠n),(fr _ _ _\k.rot h:b≠n),k.ne h];intro e;by_cases hx:rn v n F a b=n
 .let h1:=(i6 fa hx).1;let h2:=(i6 q\e.symm.trans hx).1;show r\h1.trans h2.symm
 let h1:=gU hx;let h2:=gU (v:=v) (n:=n) (F:=F) (a:=b) (b:=c) (by rw[<-e];show hx);show r (by rw[<-h1,e,h2])
include hF
theorem HD:One (Rn E v n F) n:=by
 erw[F,#[hF.ne,hF.nd,λi p q a b=>(ou k fr).mpr #[hF.ch i p q a b,a_ a],λp a=>?_,λp a q b c=>?_,λp a o d=>((ou k fr).mp d).2],λp ⟨q,b⟩=>((ou k fr).mp b).2]
 .let#[q,b]:=hF.key p a;erw[q,(ou k fr).mpr #[b,a]]
 let#[r,c]:=c;show ((ou k fr).mp c).2
omit hF in
theorem Iu(c:v≠n){G:-Nat}(b:Fan E v G)(hd:∀p∈F,p∉G):Fan (Rn E v n F) v G:=by
 let out:∀p∈G,p∉F:=λp a z=>hd p z a;erw[b.ne,b.nd,λi p q a d=>(lQ k fr c).mpr #[b.ch i p q a d,out p\a_ a],λp a=>?_,λp a q d e=>?_,λp a o f=>b.clB p a o ((lQ k fr c).mp f).1]
 .let#[q,d]:=b.key p a;erw[q,(lQ k fr c).mpr #[d,out p a]]
 let#[r,e]:=e;show b.clF p a q ((lQ k fr c).mp d).1 #[r,((lQ k fr c).mp e).1]
theorem FC(U:v≠n){u:Nat}(O:u≠v)(P:u≠n)(h:One E u):One (Rn E v n F) u:=by
 let#[G,m,Q]:=h
 refine_lift let cond:Prop:=(∃q∈F,E u v q)\/((∃p,E u p v)/\u∈F);?_
 let dec:=Classical.propDecidable cond
 refine_lift let ρ:Nat->Nat:=λx=>if x=v then (if cond then n else v) else x;?_
 let ρo:∀x,x≠v->ρ x=x:=λx hx=>Sg hx;let ρv:ρ v=if cond then n else v:=Sh rfl
 let L:∀p q,E u p q->rn v n F p q=ρ p:=by
  intro p q h;by_cases s:p=v
  .subst s;by_cases d:q∈F
   .rw[tj d,ρv,Sh\.l #[q,d,h]]
   rw[vX d,ρv,Sg];rintro (⟨A,B,h'⟩|⟨⟨f,j⟩,H⟩)
   .exact d (by rw[k.one h h'];show B)
   show d\hF.clB u H q (k.rot h)
  rw[gQ s,ρo p s]
 let M:∀p q,E u p q->rn v n F q u=ρ q:=by
  intro p q h;by_cases d:q=v
  .subst d;by_cases C:u∈F
   .rw[tj C,ρv,Sh\.o #[#[p,h],C]]
   rw[vX C,ρv,Sg];rintro (⟨A,B,h'⟩|⟨_,H⟩)
   .exact C\hF.clF A B u (k.rot h') #[p,k.rot\k.rot h]
   show C H
  rw[gQ d,ρo q d]
 let R:∀b,rn v n F u b=u:=λb=>gQ O;let to:∀p q,E u p q->Rn E v n F u (ρ p) (ρ q):=λp q h=>#[u,p,q,h,(R p).symm,(L p q h).symm,(M p q h).symm];let back:∀x y,Rn E v n F u x y->∃p q,E u p q/\x=ρ p/\y=ρ q:=by
  rintro x y ⟨a,b,c,h,w,I,S⟩;let ha:a=u:=by
   by_cases hx:rn v n F a b=n
   .exact (P\w.trans hx).elim
   rw[w,gU hx]
  subst ha;erw[b,c,h,I.trans\L b c h,S.trans\M b c h]
 let fresh:∀p q,E u p q->p≠n/\q≠n:=λp q h=>#[fr _ _ _\k.rot h,fr _ _ _\k.rot (k.rot h)];let inj:∀x y,x≠n->y≠n->ρ x=ρ y->x=y:=by
  intro x y hx g e;by_cases h1:x=v
  .by_cases h2:y=v
   .rw[h1,h2]
   rw[h1,ρo y h2,ρv] at e
   split at e
   .exact (g e.symm).elim
   show (h2 e.symm).elim
  by_cases h2:y=v
  .rw[h2,ρo x h1,ρv] at e
   split at e
   .exact (hx e).elim
   show (h1 e).elim
  rw[ρo x h1,ρo y h2] at e;show e
 let D:∀x∈G,x≠n:=λx hx=>by
  let#[q,d]:=m.key x hx;show (fresh x q d).1
 let X:∀x,x≠n->ρ x∈G.map ρ->x∈G:=λx hx h=>by
  let#[y,g,e]:=ax.mp h;rw[<-inj y x (D y g) hx e];show g
 let get:∀(i:Nat)(x:Nat),(G.map ρ)[i]?*>x->∃p,G[i]?*>p/\x=ρ p:=λi x h=>by
  rw[br] at h;cases e:G[i]? with
  |none=>rw[e] at h;cases h
  |some p=>rw[e] at h;cases h;erw[p,5]
 erw[G.map ρ,#[‹m.ne›,?_,λi p q s d=>?_,λp s=>?_,λx hx y g K=>?_,λx hx y g=>?_],?_]
 .have:∀l:-Nat,(∀x∈l,x≠n)->l.Nodup->(l.map ρ).Nodup:=by
   intro l;induction l with
   |nil=>intro _ _;show jT
   |cons a l T=>
    intro h1 h2;rw[eR] at h2;rw[bu,eR];erw[λz=>?_,T (λx hx=>h1 x\dz _ hx) h2.2];let#[y,g,e]:=ax.mp z;have:=inj y a (h1 y\dz _ g) (h1 a ∅) e;show h2.1 (this ▸ g)
  show this G D m.nd
 .let#[f,j,1]:=get i p s;let#[A,B,1]:=get (i+1) q d;show to f A\m.ch i f A j B
 .let#[f,j,1]:=ax.mp s;let#[q,d]:=m.key f j;erw[_,to f q d]
 .let#[#[f,j,1],#[p,q,h1,w,1],ep]:=#[ax.mp hx,back>>g,inj f p (D f j) (fresh p q h1).1 w];subst ep;let#[#[r,K],#[p2,N,h2,I,_],eq]:=#[K,back>>K,inj q p2 (fresh f q h1).2 (fresh p2 N h2).1 I];subst eq;show ax.mpr #[q,m.clF f j q h1 #[N,h2],1]
 .let#[#[f,j,1],#[p,q,h1,1,w],eq]:=#[ax.mp hx,back>>g,inj f q (D f j) (fresh p q h1).2 w];subst eq;show ax.mpr #[p,m.clB f j p h1,1]
 rintro x ⟨y,g⟩;let#[p,q,h1,1,_]:=back>>g;show ax.mpr #[p,Q p #[q,h1],1]
end
end
def reE(v n:Nat)(F:-Nat)(e:Ent):Ent:=((rn v n F e.1.1 e.1.2,rn v n F e.1.2 e.2),rn v n F e.2 e.1.1)
def IC{ts:-Tri}:ents (ts.map\ren v n F)=(ents ts).map (reE v n F):=by
 induction ts with
 |nil=>rfl
 |cons t ts a=>
  let h1:ents ((t::ts).map\ren v n F)=ents [ren v n F t]++ents (ts.map\ren v n F):=by simp[ents]
  let h2:ents (t::ts)=ents [t]++ents ts:=by simp[ents]
  rw[h1,h2,aV,a];rfl
def Co(ts:-Tri)(u:Nat):Prop:=∃p q,En ts u p q
def Io{ts:-Tri}{n:Nat}(g:Good ts)(fr:∀a b c,En ts a b c->a≠n):Good (ts.map\ren v n F):=by
 let k:=g.sk;let ks:=NU (v:=v) (F:=F) k fr;erw[λt w=>?_,?_]
 .let#[#[#[a,b,c],h,1],m,o,A]:=#[ax.mp w,(cG.mpr\.l h:En ts a b c),k.rot m,k.rot o];erw[ks.ne (c:=rn v n F c a) #[a,b,c,m,5,1],ks.ne (c:=rn v n F a b) #[b,c,a,o,5,1],ks.ne (c:=rn v n F b c) #[c,a,b,A,5,1]]
 rw[IC,cw];let nd:=g.nd;let mem:∀e∈ents ts,En ts e.1.1 e.1.2 e.2:=λe he=>he;rw[List.Nodup,gC] at nd |-;show nd.imp_of_mem λ{x y} hx B h z=>h ?_;let#[z,#[#[a,b],c],#[#[j,d],r],e,s,C,D]:=#[kW z,x,y,(mem _ hx:En ts a b c),(mem _ B:En ts j d r),(z.1:rn v n F a b=rn v n F j d),(z.2:rn v n F b c=rn v n F d r)];let key:∀{p q f u},p≠n->f≠n->rn v n F p q=rn v n F f u->p=f:=by
  intro p q f u h1 h2 l;by_cases hx:rn v n F p q=n
  .rw[(i6 h1 hx).1,(i6 h2 (l ▸ hx)).1]
  rw[<-gU hx,l,gU (l ▸ hx)]
 change (a,b)=(j,d);rw[key (fr _ _ _ e) (fr _ _ _ s) C,key (fr _ _ _\k.rot e) (fr _ _ _\k.rot s) D]
structure Mid(ts:-Tri)(v:Nat)(F0:-Nat)(fs:List\-Nat)(rest:-Nat):Prop where
 good:Good ts
 fans:Fans (En ts) v (F0::fs)
 oth:∀u,Co ts u->u=v\/u∈rest\/One (En ts) u
def JY{E d:Nat->Nat->Nat->Prop}(h:∀a b c,E a b c↔d a b c):E=d:=by funext a b c;show propext\h a b c
def Ia{n:Nat}{F:-Nat}{fs:List\-Nat}(m:Mid ts v g (F::fs) rest)(fr:∀u,Co ts u->u≠n):Mid (ts.map\ren v n F) v g fs rest:=by
 let#[f,k,r,hF]:=#[(λa b c h=>fr a #[b,c,h]:∀a b c,En ts a b c->a≠n),m.good.sk,(JY λ_ _ _=>MH:En (ts.map\ren v n F)=Rn (En ts) v n F),m.fans.fan F ∅];let j:v≠n:=by let#[p,d]:=wZ _ hF.ne;let#[q,l]:=hF.key p d;show f _ _ _ l
 let dis:=m.fans.dis;rw[xo,xo] at dis;let#[s,z,A]:=dis;let B:∀G∈g::fs,∀p∈F,p∉G:=by
  intro G e p d w;rcases aU.mp e with rfl|h
  .exact s F ∅ p w d
  show z G h p d w
 erw[Io m.good f,?_,?_]
 .rw[r];erw[λG e=>?_,λp ⟨q,l⟩=>?_,?_]
  .refine Iu k f j (m.fans.fan G ?_)\B G e;rcases aU.mp e with rfl|h
   .simp
   show dz _\dz _ h
  .let#[h1,h2]:=(lQ k f j).mp l;let#[G,e,d]:=m.fans.all p #[q,h1];rcases aU.mp e with rfl|h
   .exact#[G,∅,d]
   rcases aU.mp h with rfl|h
   .exact (h2 d).elim
   erw[G,dz _ h,d]
  rw[xo];erw[λG e=>s G\dz _ e,A]
 rintro u ⟨p,q,h⟩;rw[r] at h |-;by_cases o:u=n
 .subst o;show .o\.o (HD k f hF)
 let#[a,b,c,h,x,0]:=h;let C:u=a:=by rw[x];show gU (by rw[<-x];show o)
 subst C;rcases m.oth u #[b,c,h] with h1|h1|h1
 .exact .l h1
 .exact .o\.l h1
 by_cases y:u=v
 .exact .l y
 show .o\.o (FC k f hF j y o h1)
def Kl(m:Mid ts v a [] rest)(u:Nat)(b:Co ts u):u∈rest\/One (En ts) u:=by
 rcases m.oth u b with rfl|h
 .refine .o #[a,m.fans.fan a ∅,λp c=>?_];let#[G,d,h]:=m.fans.all p c;rw[aG.mp d] at h;show h
 show h
def FQ{ts:-Tri}{a:-Nat}{fs:List\-Nat}{rest:-Nat}(g:Good ts)(h:Fans (En ts) v (a::fs))(o:∀u,Co ts u->u∈v::rest\/One (En ts) u):Mid ts v a fs rest:=
 #[g,h,λu b=>(o u b).elim (λz=>(aU.mp z).elim .inl λz=>.o\.l z) λz=>.o\.o z]
def Ib{rest:-Nat}(h:Fans (En ts) v [])(o:∀u,Co ts u->u∈v::rest\/One (En ts) u)(u:Nat)(a:Co ts u):u∈rest\/One (En ts) u:=by
 rcases o u a with z|z
 .rcases aU.mp z with rfl|z
  .let#[p,q,b]:=a;let#[G,c,_]:=h.all p #[q,b];cases c
  show .l z
 show .o z
def cK:Co ts u↔∃t∈ts,u=t.1\/u=t.2.1\/u=t.2.2:=by
 constructor
 .rintro⟨p,q,h⟩;rcases cG.mp h with h|h|h
  .exact#[_,h,.l rfl]
  .exact#[_,h,.o\.l rfl]
  erw[_,h,.o\.o rfl]
 rintro⟨⟨a,b,c⟩,h,rfl|rfl|rfl⟩
 .exact#[b,c,cG.mpr\.l h]
 .exact#[c,a,cG.mpr\.o (.l h)]
 erw[a,b,cG.mpr\.o (.o h)]
def nam(f:Nat->Nat)(t:Tri):Tri:=(f t.1,f t.2.1,f t.2.2)
def naE(f:Nat->Nat)(e:Ent):Ent:=((f e.1.1,f e.1.2),f e.2)
def uZ{f:Nat->Nat}{ts:-Tri}:ents (ts.map\nam f)=(ents ts).map (naE f):=by
 induction ts with
 |nil=>rfl
 |cons t ts a=>
  let h1:ents ((t::ts).map\nam f)=ents [nam f t]++ents (ts.map\nam f):=by simp[ents]
  let h2:ents (t::ts)=ents [t]++ents ts:=by simp[ents]
  rw[h1,h2,aV,a];rfl
def Ai{f:Nat->Nat}{ts:-Tri}(g:Good ts)(inj:∀a b,Co ts a->Co ts b->f a=f b->a=b):Good (ts.map\nam f):=by
 let k:=g.sk;erw[λt p=>?_,?_]
 .let#[#[#[a,b,c],h,1],ca,m,n]:=#[ax.mp p,(cK.mpr #[_,h,.l rfl]:Co ts a),(cK.mpr #[_,h,.o\.l rfl]:Co ts b),(cK.mpr #[_,h,.o\.o rfl]:Co ts c)];let#[q,r,s]:a≠b/\b≠c/\c≠a:=g.ne _ h;erw[λz=>q\inj _ _ ca m z,λz=>r\inj _ _ m n z,λz=>s\inj _ _ n ca z]
 rw[uZ,cw];let nd:=g.nd;rw[List.Nodup,gC] at nd |-;show nd.imp_of_mem λ{x y} hx u h z=>h ?_;let#[#[#[a,b],c],#[#[d,j],l],z,e,o,v,w]:=#[x,y,kW z,(hx:En ts a b c),(u:En ts d j l),(z.1:f a=f d),(z.2:f b=f j)];change (a,b)=(d,j);rw[inj a d #[b,c,e] #[j,l,o] v,inj b j #[c,a,k.rot e] #[l,d,k.rot o] w]
def Cc{f:Nat->Nat}{ts:-Tri}(h:Co (ts.map\nam f) u):∃a,Co ts a/\u=f a:=by
 let#[t,d,e]:=cK.mp h;let#[#[a,b,c],hm,1]:=ax.mp d;rcases e with rfl|rfl|rfl
 .exact#[a,cK.mpr #[_,hm,.l rfl],1]
 .exact#[b,cK.mpr #[_,hm,.o\.l rfl],1]
 erw[c,cK.mpr #[_,hm,.o\.o rfl],1]
def Win(w j x:Nat):Prop:=w=0/\x=j\/w=1/\7*j<=x/\x<7*j+7\/w=2/\x+(j+1)*10 ^ 9+1<=10 ^ 60/\10 ^ 60<x+(j+2)*10 ^ 9+1
def IT{w:Nat}(h:Win w i x)(h':Win w j x):i=j:=by
 rcases h with ⟨rfl,h⟩|⟨rfl,h1,h2⟩|⟨rfl,h1,h2⟩
 .rcases h' with ⟨_,h'⟩|⟨z,_⟩|⟨z,_⟩
  .lia
  .cases z
  cases z
 .rcases h' with ⟨z,_⟩|⟨_,a,b⟩|⟨z,_⟩
  .cases z
  .lia
  cases z
 rcases h' with ⟨z,_⟩|⟨z,_⟩|⟨_,a,b⟩
 .cases z
 .cases z
 lia
def KZ{w j:Nat}(a:j<=1000)(h:Win w j x):x<10 ^ 60:=by
 rcases h with ⟨_,h⟩|⟨_,_,h⟩|⟨_,h,_⟩
 .lia
 .lia
 lia
def B7{f:Nat->Nat}{ts:-Tri}(g:Good ts)(inj:∀a b,Co ts a->Co ts b->f a=f b->a=b){a b:Nat}(h:En (ts.map\nam f) a b c):∃d e j,En ts d e j/\a=f d/\b=f e/\c=f j:=by unfold En at h;rw[uZ] at h;let#[#[#[d,e],j],h1,h2]:=ax.mp h;let h2:=kW h2;let l:=kW h2.1;erw[d,e,j,h1,l.1.symm,l.2.symm,h2.2.symm]
def B1{f:Nat->Nat}(h:En ts a b c):En (ts.map\nam f) (f a) (f b) (f c):=by unfold En;rw[uZ];show ax.mpr #[_,h,1]
def JW{f:Nat->Nat}{ts:-Tri}(g:Good ts)(inj:∀a b,Co ts a->Co ts b->f a=f b->a=b)(H:Co ts v)(h:One (En ts) v):One (En\ts.map (nam f)) (f v):=by
 let#[F,hF,I]:=h;let k:=g.sk;let key:∀p∈F,Co ts p:=λp d=>by
  let#[q,j]:=hF.key p d;erw[q,v,k.rot j]
 let nx:∀{x y z:Nat},En ts x y z->Co ts y:=λ{x y z} e=>#[z,x,k.rot e];let u:∀{x y z:Nat},En ts x y z->Co ts z:=λ{x y z} e=>#[x,y,k.rot\k.rot e];let back:∀{p q:Nat},En (ts.map\nam f) (f v) p q->∃c m,En ts v c m/\p=f c/\q=f m:=λ{p q} e=>by
  let#[w,A,B,h1,h2,n,K]:=B7 g inj e;have:v=w:=inj v w H #[A,B,h1] h2;subst this;erw[A,B,h1,n,K]
 erw[F.map f,#[λz=>hF.ne\xl.mp z,?_,λi p q d j=>?_,λp d=>?_,λp d q j s=>?_,λp d o L=>?_],λp ⟨q,j⟩=>?_]
 .have:=hF.nd;rw[List.Nodup] at this |-;rw[gC];show this.imp_of_mem λ{x y} hx M N z=>N\inj x y (key x hx) (key y M) z
 .rw[br] at d j;let#[c,h1,1]:=cz.mp d;let#[m,h2,1]:=cz.mp j;show B1\hF.ch i c m h1 h2
 .let#[c,h1,1]:=ax.mp d;let#[q,j]:=hF.key c h1;erw[f q,B1 j]
 .let#[c,h1,1]:=ax.mp d;let#[p2,l,e,h2,1]:=back j;have:c=p2:=inj c p2 (key c h1) (nx e) h2;subst this;let#[r,s]:=s;let#[C,O,D,n,_]:=back s;have:l=C:=inj l C (u e) (nx D) n;subst this;show ax.mpr #[l,hF.clF c h1 l e #[O,D],1]
 .let#[c,h1,1]:=ax.mp d;let#[E,p2,e,1,h2]:=back L;have:c=p2:=inj c p2 (key c h1) (u e) h2;subst this;show ax.mpr #[E,hF.clB c h1 E e,1]
 let#[p2,l,e,5]:=back j;show ax.mpr #[p2,I p2 #[l,e],1]
def ze{E d:Nat->Nat->Nat->Prop}(h:∀a b c,E a b c↔d a b c)(v:Nat):One E v↔One d v:=by
 have:E=d:=by funext a b c;show propext\h a b c
 rw[this]
def nX(a:Tri)(l:-Tri):ents (a::l)=ents [a]++ents l:=by simp[ents]
def IB{ts c:-Tri}(h:c.Sublist ts):(ents c).Sublist (ents ts):=by
 induction h with
 |slnil=>show O7 _
 |cons a _ b=>rw[nX a];show b.trans\List.sublist_append_right _ _
 |cons_cons a _ b=>rw[nX a,nX a];show Rb (O7 _) b
def uX{ts a:-Tri}(g:Good ts)(h:a.Sublist ts):Good a:=by erw[λt b=>g.ne t\h.subset b,g.nd.sublist\CU _ ?_];show IB h
def Ip{as bs:-Tri}(g:Good as)(g':Good bs)(h:∀a,Co as a->¬Co bs a):Good (as++bs):=by
 let e:ents (as++bs)=ents as++ents bs:=by simp[ents]
 erw[λt l=>(a9.mp l).elim (g.ne t)\g'.ne t,?_];rw[e,aV,cD];erw[g.nd,g'.nd,λs m s' n z=>?_];let#[#[#[#[a,b],c],h1,h2],#[#[#[f,j],o],p,d],h2,d]:=#[ax.mp m,ax.mp n,(h2:(a,b)=s),(d:(f,j)=s')];have:(a,b)=(f,j):=by rw[h2,d,z]
 cases this;show h a #[b,c,h1] #[b,o,p]
def FY{l:-Tri}{a b c:Nat}(g:Good (l++[(a,b,c)]))(f:¬Co (l++[(a,b,c)]) n):Good (l++[(a,b,n),(b,c,n),(c,a,n)]):=by
 let e:∀m,ents (l++m)=ents l++ents m:=λm=>by simp[ents]
 let gl:Good l:=uX g ∅;let nd:=g.nd;rw[e,aV,cD] at nd;let#[o,r,v]:a≠b/\b≠c/\c≠a:=g.ne (a,b,c) ∅;let#[co,na,nb,j]:=#[(λx hx=>cK.mpr #[(a,b,c),∅,hx]:∀x,x=a\/x=b\/x=c->Co (l++[(a,b,c)]) x),(λz=>f\co n (.l z):n≠a),(λz=>f\co n (.o\.l z):n≠b),(λz=>f\co n (.o\.o z):n≠c)];let nl:∀s∈(ents l).map (·.1),s.1≠n/\s.2≠n:=λs d=>by
  let#[#[#[x,y],z],h1,1]:=ax.mp d;let h1:En l x y z:=h1;let cx:∀u,Co l u->Co (l++[(a,b,c)]) u:=λu ⟨p,q,B⟩=>#[p,q,by unfold En at *;rw[e];show eK _ B];erw[λw=>f (w ▸ cx x #[y,z,h1]),λw=>f (w ▸ cx y #[z,x,gl.sk.rot h1])]
 let C:∀s∈(ents l).map (·.1),s≠(a,b)/\s≠(b,c)/\s≠(c,a):=λs d=>by
  let h:=nd.2.2 s d;erw[h (a,b) (by simp[ents]),h (b,c) (by simp[ents]),h (c,a) (by simp[ents])]
 erw[λt D=>?_,?_]
 .rcases a9.mp D with h|h
  .exact gl.ne t h
  simp only[aU,fM,or_false] at h;rcases h with rfl|rfl|rfl
  .exact#[o,aB nb,na]
  .exact#[r,aB j,nb]
  erw[v,aB na,j]
 rw[e,aV,cD];erw[gl.nd,?_,λs d s' A z=>?_]
 .simp[ents,o,r,v,na,nb,j,aB o,aB r,aB v,aB na,aB nb,aB j]
 subst z;let#[m1,m2]:=nl s d;let#[E,H,I]:=C s d;simp[ents] at A;rcases A with rfl|rfl|rfl|rfl|rfl|rfl|rfl|rfl|rfl
 all_goals first|show E rfl|show H rfl|show I rfl|show m1 rfl|show m2 rfl
variable {E:Nat->Nat->Nat->Prop}
def bq(E:Nat->Nat->Nat->Prop)(a b:Nat):Prop:=(∃q,E a b q)/\¬∃r,E b a r
def AR(k:Sk E)(hF:Fan E a F)(all:∀p,(∃q,E a p q)->p∈F)(h:bq E a b):F[0]?*>b:=by
 let#[i,hi]:=eZ.mp\all b h.1;cases i with
 |zero=>show hi
 |succ i=>
  let#[d,_]:=aO.mp hi;let c:F[i]?*>F[i]'():=aR _;show (h.2 #[_,k.rot\k.rot (hF.ch i _ _ c hi)]).elim
def Jy(k:Sk E)(o:One E a)(h:bq E a b)(h':bq E a c):b=c:=by let#[F,hF,all]:=o;show eB\(AR k hF all h).symm.trans (AR k hF all h')
def uR(k:Sk E)(hF:Fan E a F)(all:∀p,(∃q,E a p q)->p∈F)(h:bq E z a):∃l,F[↑F-1]?*>l/\E a l z:=by
 let#[#[#[q,b],no],b,#[i,hi],#[f,_]]:=#[h,k.rot b,eZ.mp\all q #[z,b],aO.mp hi];by_cases c:i+1<↑F
 .let d:F[i+1]?*>F[i+1]:=aR c;let e:z=F[i+1]:=k.one b\hF.ch i _ _ hi d;show (no (by rw[e];show hF.key _\ja c)).elim
 erw[q,by rw[show ↑F-1=i by lia];show hi,b]
def JA(k:Sk E)(o:One E a)(h:bq E z a)(h':bq E b a):z=b:=by let#[F,hF,all]:=o;let#[l,h1,h2]:=uR k hF all h;let#[e,c,d]:=uR k hF all h';cases h1.symm.trans c;show k.one h2 d
def Hj(k:Sk E)(o:One E a)(h:bq E z a):∃b,bq E a b:=by
 let#[F,hF,all]:=o;let#[l,h1,h2]:=uR k hF all h;let j:0<↑F:=by
  cases m:F with
  |nil=>show absurd m hF.ne
  |cons x xs=>simp
 let f:F[0]?*>F[0]'j:=aR _;generalize F[0]'j=b at f;erw[b,hF.key b\a_ f,λ⟨r,d⟩=>?_];let#[d,#[i,hi],#[n,_]]:=#[k.rot d,eZ.mp\all r #[b,d],aO.mp hi];by_cases c:i+1<↑F
 .let g:F[i+1]?*>F[i+1]:=aR c;let e:=k.one d\hF.ch i _ _ hi g;rw[<-e] at g;have:=j3 hF.nd g f;lia
 rw[show ↑F-1=i by lia] at h1;cases hi.symm.trans h1;let e:=k.one d h2;show h.2 (by rw[<-e];show hF.key b\a_ f)
section
variable {R:Nat->Nat->Prop}
structure Path(R:Nat->Nat->Prop)(l:-Nat):Prop where
 ne:l≠[]
 nd:l.Nodup
 ch:∀i p q,l[i]?*>p->l[i+1]?*>q->R p q
structure Cyc(R:Nat->Nat->Prop)(l:-Nat):Prop extends Path R l where
 back:∀p q,l[↑l-1]?*>p->l[0]?*>q->R p q
def Path.one(R:Nat->Nat->Prop)(a:Nat):Path R [a]:=#[∅,∅,λi p q h1 h2=>by simp at h2]
def Path.home(inj:∀a b c,R a c->R b c->a=b)(h:Path R l){p z:Nat}(g:l[↑l-1]?*>p)(hz:R p z)(hm:z∈l):l[0]?*>z:=by
 let#[j,d]:=eZ.mp hm;cases j with
 |zero=>show d
 |succ j=>
  let#[#[m,_],f,e]:=#[aO.mp d,(aR _:l[j]?*>l[j]'()),inj _ _ _ hz\h.ch j _ _ f d];rw[<-e] at f;have:=j3 h.nd g f;lia
def Path.snoc(h:Path R l){p z:Nat}(f:l[↑l-1]?*>p)(hz:R p z)(hm:z∉l):Path R (l++[z]):=by
 let j:0<↑l:=ia.mpr h.ne;erw[∅,cD.mpr #[h.nd,∅,λa ha b g e=>hm (by rw[<-aG.mp g,<-e];show ha)],λi x y h1 h2=>?_];by_cases c:i+1<↑l
 .rw[eA c] at h2;rw[eA ()] at h1;show h.ch i x y h1 h2
 by_cases d:i+1=↑l
 .rw[h_ (),show i+1-↑l=0 by lia] at h2;rw[eA (),show i=↑l-1 by lia] at h1;cases f.symm.trans h1;cases (show gh z*>y from h2);show hz
 rw[h_ ()] at h2;have:[z][i+1-↑l]?=gf:=t_ (by simp;lia);rw[this] at h2;cases h2
def Cyc.step(h:Cyc R l){p:Nat}(b:p∈l):∃q∈l,R p q:=by
 let#[i,hi]:=eZ.mp b;let#[d,_]:=aO.mp hi;by_cases c:i+1<↑l
 .exact#[l[i+1],ja c,h.ch i _ _ hi\aR c]
 rw[show i=↑l-1 by lia] at hi;let a:l[0]?*>l[0]'():=aR _;erw[_,a_ a,h.back _ _ hi a]
def Cyc.before(inj:∀a b c,R a c->R b c->a=b)(h:Cyc R l){p q:Nat}(f:q∈l)(e:R p q):p∈l:=by
 let#[i,hi]:=eZ.mp f;let#[g,_]:=aO.mp hi;cases i with
 |zero=>
  let d:l[↑l-1]?*>l[↑l-1]'():=aR _;rw[inj _ _ _ e\h.back _ _ d hi];show a_ d
 |succ i=>
  let d:l[i]?*>l[i]'():=aR _;rw[inj _ _ _ e\h.ch i _ _ d hi];show a_ d
def Path.from(inj:∀a b c,R a c->R b c->a=b)(h:Path R m)(g:Cyc R l){x:Nat}(hx:x∈m)(j:x∈l){y:Nat}(n:m[0]?*>y):y∈l:=by
 let key:∀(i p:Nat),m[i]?*>p->p∈l->y∈l:=by
  intro i;induction i with
  |zero=>intro p d e;cases n.symm.trans d;show e
  |succ i o=>
   intro p d e;let#[hm,_]:=aO.mp d;let f:m[i]?*>m[i]'():=aR _;show o _ f\g.before inj e (h.ch i _ _ f d)
 let#[i,hi]:=eZ.mp hx;show key i x hi j
structure Rims(R:Nat->Nat->Prop)(ls:List\-Nat):Prop where
 cyc:∀l∈ls,Cyc R l
 least:∀l∈ls,∀x,l[0]?*>x->∀p∈l,x<=p
 all:∀p,(∃q,R p q)->∃l∈ls,p∈l
 rise:ls.Pairwise λl m=>∀x y,l[0]?*>x->m[0]?*>y->x<y
def Path.begin(h:Path R l):∃x,l[0]?*>x/\x∈l:=by let a:0<↑l:=ia.mpr h.ne;erw[l[0],aR _,ja _]
end
abbrev Ne3(t:Tri):Prop:=t.1≠t.2.1/\t.2.1≠t.2.2/\t.2.2≠t.1
def bg(t:Tri):Tri:=if t.1<=t.2.1/\t.1<=t.2.2 then t else if t.2.1<=t.2.2/\t.2.1<=t.1 then (t.2.1,t.2.2,t.1) else (t.2.2,t.1,t.2.1)
def CL(t:Tri):bg t=t\/bg t=(t.2.1,t.2.2,t.1)\/bg t=(t.2.2,t.1,t.2.1):=by
 unfold bg
 split
 .exact .l rfl
 split
 .exact .o\.l rfl
 show .o\.o rfl
def OG(t:Tri):(bg t).1<=(bg t).2.1/\(bg t).1<=(bg t).2.2:=by
 unfold bg
 split
 .assumption
 split
 .assumption
 erw[?_,?_]
 .change t.2.2<=t.1;lia
 change t.2.2<=t.2.1;lia
def tF{t:Tri}(h:t.1<=t.2.1/\t.1<=t.2.2):bg t=t:=Sh h
def OH(t:Tri):bg (bg t)=bg t:=tF\OG t
def sF{a b c:Nat}(h:Ne3 (a,b,c)):bg (b,c,a)=bg (a,b,c):=by
 let#[h1,h2,d]:a≠b/\b≠c/\c≠a:=h;unfold bg;dsimp only;by_cases c1:a<=b/\a<=c
 .rw[Sh c1,Sg (),Sg ()]
 rw[Sg c1];by_cases c2:b<=c/\b<=a
 .rw[Sh c2,Sh c2]
 rw[Sg c2,Sg c2,Sh ()]
def ID(t:Tri):(ents [bg t]).Perm (ents [t]):=by
 let#[a,b,c]:=t;let e:ents [(a,b,c)]=[((a,b),c),((b,c),a),((c,a),b)]:=rfl;rcases CL (a,b,c) with h|h|h<;>rw[h]
 .change ([((b,c),a),((c,a),b)]++[((a,b),c)]).Perm ([((a,b),c)]++[((b,c),a),((c,a),b)]);show jU
 change ([((c,a),b)]++[((a,b),c),((b,c),a)]).Perm ([((a,b),c),((b,c),a)]++[((c,a),b)]);show jU
def Bf:∀ts:-Tri,(ents\ts.map bg).Perm (ents ts)
 | []=>.refl _
 |t::ts=>by rw[bu,nX,nX t];show (ID t).append\Bf ts
def Be{as bs:-Tri}(h:as.Perm bs):(ents as).Perm (ents bs):=h.flatMap_right _
def Alike(us ts:-Tri):Prop:=us.Perm\ts.map bg
def Alike.ents{us:-Tri}(h:Alike us ts):(ents us).Perm (ents ts):=(Be h).trans\Bf ts
def Alike.en{us:-Tri}(h:Alike us ts)(a b c:Nat):En us a b c↔En ts a b c:=h.ents.mem_iff
structure Skn(ts:-Tri):Prop where
 g:Good ts
 o:∀c,Co ts c->One (En ts) c
def Skn.pm{d:-Tri}(s:Skn ts)(h:(ents d).Perm\ents ts):Skn d:=by
 erw[#[λt f=>?_,(h.map _).nodup_iff.mpr s.g.nd],λc j=>?_]
 .let#[k,#[a,b,c],e]:=#[s.g.sk,t,(h.mem_iff.mp\cG.mpr (.l f):En ts a b c)];erw[k.ne e,k.ne\k.rot e,k.ne\k.rot (k.rot e)]
 let#[p,q,e]:=j;show (ze (λa b c=>(h.mem_iff:((a,b),c)∈_↔_)) c).mpr\s.o c #[p,q,h.mem_iff.mp e]
def AQ{us:-Tri}(h:Alike us ts){t:Tri}(a:t∈us):bg t=t:=by let#[u,2]:=ax.mp\h.mem_iff.mp a;show OH u
def stT(k:Nat):Tri:=if k%2=0 then (k,k+1,k+2) else (k+1,k,k+2)
def strip(n:Nat):-Tri:=(List.range n).map stT
def S3(k a b c:Nat):Prop:=k%2=0/\(a=k/\b=k+1/\c=k+2\/a=k+1/\b=k+2/\c=k\/a=k+2/\b=k/\c=k+1)\/k%2=1/\(a=k+1/\b=k/\c=k+2\/a=k/\b=k+2/\c=k+1\/a=k+2/\b=k+1/\c=k)
def qq:En (strip n) a b c↔∃k,k<n/\S3 k a b c:=by
 let m:∀t,t∈strip n↔∃k,k<n/\stT k=t:=λt=>by unfold strip;rw[ax];simp
 unfold En;rw[cG,m,m,m];constructor
 .rintro (⟨k,h,e⟩|⟨k,h,e⟩|⟨k,h,e⟩) <;>
  .refine#[k,h,?_];unfold stT at e;unfold S3
   split at e<;>simp only[xD] at e<;>lia
 rintro⟨k,h,⟨d,e|e|e⟩|⟨d,e|e|e⟩⟩<;>let#[5,1]:=e
 .exact .l #[_,h,by rw[stT,Sh d]]
 .exact .o\.l #[_,h,by rw[stT,Sh d]]
 .exact .o\.o #[_,h,by rw[stT,Sh d]]
 .exact .l #[_,h,by rw[stT,Sg ()]]
 .exact .o\.l #[_,h,by rw[stT,Sg ()]]
 show .o\.o #[_,h,by rw[stT,Sg ()]]
def ym(n:Nat):Good (strip n):=by
 erw[λt o=>?_,?_]
 .let#[k,2]:=ax.mp o;unfold stT
  split<;>(simp;try lia)
 induction n with
 |zero=>show jT
 |succ n l=>
  let e:strip (n+1)=strip n++[stT n]:=by unfold strip;rw[Da,aV];rfl
  rw[e,show ents (strip n++[stT n])=ents (strip n)++ents [stT n] from Pc,aV,cD];let f:∀a b:Nat,(a,b)∈(ents [stT n]).map (·.1)->∃c,S3 n a b c:=λa b h=>by
   let#[#[#[p,q],c],h1,h2]:=ax.mp h;cases h2;rw[cG] at h1;simp only[aG] at h1;erw[c,?_];unfold stT at h1;unfold S3
   split at h1<;>simp only[xD] at h1<;>lia
  erw[l,?_,λ⟨a,b⟩ h1 ⟨p,q⟩ h2 e=>?_]
  .unfold stT
   split<;>simp[ents]<;>lia
  cases e;let#[c,h2]:=f a b h2;let#[#[#[0],d],m,r]:=ax.mp h1;cases r;let#[k,v,s]:=qq.mp m;clear m h1 l;rcases h2 with ⟨u,⟨rfl,rfl,_⟩|⟨rfl,rfl,_⟩|⟨rfl,rfl,_⟩⟩|⟨u,⟨rfl,rfl,_⟩|⟨rfl,rfl,_⟩|⟨rfl,rfl,_⟩⟩<;>rcases s with ⟨i1,⟨g,j,_⟩|⟨g,j,_⟩|⟨g,j,_⟩⟩|⟨i1,⟨g,j,_⟩|⟨g,j,_⟩|⟨g,j,_⟩⟩<;>omega
def A9{E:Nat->Nat->Nat->Prop}{v x0 x1 x2 x3:Nat}{P0 P1 P2:Prop}(h:∀p q,E v p q↔P0/\p=x0/\q=x1\/P1/\p=x1/\q=x2\/P2/\p=x2/\q=x3)(f:P0->x0≠x1/\x0≠x2)(g:P1->x1≠x2)(hm:P0->P2->P1)(l:∃p q,E v p q):One E v:=by
 let fin:∀F:-Nat,F≠[]->F.Nodup->(∀i p q,F[i]?*>p->F[i+1]?*>q->E v p q)->(∀p,(P0/\p=x0\/P1/\p=x1\/P2/\p=x2)↔p∈F)->One E v:=λF ne nd ch al=>by
  let all:∀p,(∃q,E v p q)↔p∈F:=λp=>by
   rw[<-al];constructor
   .rintro⟨q,h'⟩;rcases (h p q).mp h' with ⟨a,b,_⟩|⟨a,b,_⟩|⟨a,b,_⟩
    .exact .l #[a,b]
    .exact .o\.l #[a,b]
    show .o\.o #[a,b]
   rintro (⟨a,b⟩|⟨a,b⟩|⟨a,b⟩)
   .exact#[x1,(h p _).mpr\.l #[a,b,1]]
   .exact#[x2,(h p _).mpr\.o (.l #[a,b,1])]
   erw[x3,(h p _).mpr\.o (.o #[a,b,1])]
  erw[F,#[ne,nd,ch,λp h=>(all p).mpr h,λ_ _ q _ h=>(all q).mp h,λp _ o h=>(all o).mp #[p,h]],λp h=>(all p).mp h]
 let j:∀{a b:Nat},E v a b->∀i p q,[a,b][i]?*>p->[a,b][i+1]?*>q->E v p q:=λ{a b} e i p q h1 h2=>by
  cases i with
  |zero=>cases h1;cases h2;show e
  |succ i=>simp at h2
 let d:∀{a:Nat} i p q,[a][i]?*>p->[a][i+1]?*>q->E v p q:=λi p q h1 h2=>by simp at h2
 by_cases c:P0<;>by_cases p1:P1<;>by_cases p2:P2
 .let#[m,n]:=f c;show fin [x0,x1,x2] ∅ (by simp[m,n,g p1]) (λi p q h1 h2=>?_) (by simp[c,p1,p2]);rcases i with _|_|i
  .cases h1;cases h2;show (h _ _).mpr\.l #[c,5]
  .cases h1;cases h2;show (h _ _).mpr\.o (.l #[p1,5])
  simp at h2
 .exact fin [x0,x1] ∅ (by simp[(f c).1]) (j\(h _ _).mpr (.l #[c,5])) (by simp[c,p1,p2])
 .exact (p1\hm c p2).elim
 .exact fin [x0] ∅ ∅ d (by simp[c,p1,p2])
 .exact fin [x1,x2] ∅ (by simp[g p1]) (j\(h _ _).mpr (.o\.l #[p1,5])) (by simp[c,p1,p2])
 .exact fin [x1] ∅ ∅ d (by simp[c,p1,p2])
 .exact fin [x2] ∅ ∅ d (by simp[c,p1,p2])
 let#[p,q,e]:=l;rcases (h p q).mp e with z|z|z
 .exact (c z.1).elim
 .exact (p1 z.1).elim
 show (p2 z.1).elim
def Fj(e:∃p q,En (strip n) c p q):One (En\strip n) c:=by
 rcases Pw c with b|b
 .refine A9 (x0:=c-2) (x1:=c-1) (x2:=c+1) (x3:=c+2) (P0:=2<=c/\c<n+2) (P1:=1<=c/\c<n+1) (P2:=c<n) (λp q=>?_) (λh=>()) (λh=>()) (λh1 h2=>()) e;rw[qq];constructor
  .rintro⟨k,d,⟨h1,⟨rfl,rfl,rfl⟩|⟨rfl,_⟩|⟨rfl,rfl,rfl⟩⟩|⟨h1,⟨rfl,rfl,rfl⟩|⟨rfl,_⟩|⟨rfl,_⟩⟩⟩
   .exact .o\.o #[d,5]
   .lia
   .exact .l #[(),5]
   .exact .o\.l #[(),5]
   .lia
   lia
  rintro (⟨a,rfl,rfl⟩|⟨a,rfl,rfl⟩|⟨a,rfl,rfl⟩)
  .exact#[c-2,(),.l #[(),.o\.o #[(),1,()]]]
  .exact#[c-1,(),.o #[(),.l #[(),1,()]]]
  erw[c,a,.l #[b,.l #[5,1]]]
 show A9 (x0:=c+2) (x1:=c+1) (x2:=c-1) (x3:=c-2) (P0:=c<n) (P1:=c<n+1) (P2:=2<=c/\c<n+2) (λp q=>?_) (λh=>()) (λh=>()) (λh1 h2=>()) e;rw[qq];constructor
 .rintro⟨k,d,⟨h1,⟨rfl,_⟩|⟨rfl,rfl,rfl⟩|⟨rfl,_⟩⟩|⟨h1,⟨rfl,_⟩|⟨rfl,rfl,rfl⟩|⟨rfl,rfl,rfl⟩⟩⟩
  .lia
  .exact .o\.l #[(),5]
  .lia
  .lia
  .exact .l #[d,5]
  show .o\.o #[(),5]
 rintro (⟨a,rfl,rfl⟩|⟨a,rfl,rfl⟩|⟨a,rfl,rfl⟩)
 .exact#[c,a,.o #[b,.o\.l #[5,1]]]
 .exact#[c-1,(),.l #[(),.o\.l #[(),(),1]]]
 erw[c-2,(),.o #[(),.o\.o #[(),(),1]]]
def Fi(n:Nat):Skn (strip n):=#[ym n,λ_ h=>Fj h]
end K15
namespace K51
open PySem L2
def digits(n:Nat):-Nat:=(Nat.toDigits 10 n).map Char.toNat
def uv{n:Nat}(h:n<10):digits n=[48+n]:=by unfold digits;rw[Nat.toDigits_of_lt_base h];have:∀d:Nat,d<10->(Nat.digitChar d).toNat=48+d:=⋯;simp[this n h]
def Ew{n:Nat}(h:10<=n):digits n=digits (n/10)++[48+n%10]:=by let hm:n%10<10:=uh n ⋯;let t:Nat.toDigits 10 (n/10)++Nat.toDigits 10 (n%10)=Nat.toDigits 10 (10*(n/10)+n%10):=Nat.toDigits_append_toDigits ⋯ () hm;rw[Nat.div_add_mod] at t;rw[<-uv hm];unfold digits;rw[<-t,aV]
def qg:∀(m n:Nat),n<10 ^ (m+1)->↑(digits n)<=m+1
 |0,n,h=>by
  rw[uv ‹h›];simp
 |m+1,n,h=>by
  by_cases a:n<10
  .rw[uv a];simp
  rw[Ew (),bo,cV];have:=qg m (n/10) (by rw[Nat.pow_succ] at h;lia);lia
def vv(n:Nat):((toString ((n:Nat):Int):String):Str)=txt (digits n):=by rw[<-IW\Str.ofString (toString ((n:Nat):Int)),RU];rfl
structure cv(mg:Str->Option hK):Prop where
 len:mg "len" = gf
 int:mg "int" = gf
 str:mg "str" = gf
 isi:mg ↑70 = gf
 range:mg "range" = gf
 list:mg ↑25 = gf
 tuple:mg ↑16 = gf
 bool:mg "bool" = gf
 all:mg "all" = gf
 ve:mg ↑20 = gf
 rev:mg "reversed" = gf
 enum:mg ↑73 = gf
def Bm{α:Type}(l:List α)(a b:Nat):mP l (gh (a:Int)) (gh (b:Int))=(l.drop a).take (b-a):=by
 unfold mP;rw[HT.sIx_nat,HT.sIx_nat];by_cases h:a<=↑l
 .rw[xx h];by_cases c:b<=↑l
  .rw[xx c]
  rw[Nat.min_eq_right (),je (by rw[eJ];lia),je (by rw[eJ];lia)]
 rw[Pa (show ↑l<=a by lia),Pa (show ↑l<=min a ↑l by lia)];simp
def Cb{α:Type}(l:List α)(b:Nat):mP l gf (gh (b:Int))=l.take b:=by let h:=Bm l 0 b;unfold mP at h |-;rw[HT.sIx_none];simpa [HT.sIx] using h
def u_{α:Type}(l:List α)(a:Nat):mP l (gh (a:Int)) gf=l.drop a:=by let h:=Bm l a ↑l;rw[je (by rw[eJ];lia)] at h;rw[<-h];unfold mP;rw[HT.sIx_none,HT.sIx_nat,HT.sIx_nat,Nat.min_self]
def line5000:5010<=sizeLine:=by rw[cW];decide
def bG(h:H t=gf):Same H (upd H t o):=λb u e=>by rw[aq\ak e h];show e
def lx{n:Nat}(h:n<10 ^ 160):((n:Nat):Int).natAbs.log2<1920:=by
 change n.log2<1920;by_cases a:n=0
 .subst a;decide
 show (xu a).mpr\bW (jV h (⋯:10 ^ 160<2 ^ 600)) (xy ⋯ ⋯)
def qh{N:-Str}(nd:N.Nodup)(kind:scope.kind=.function)(b:scope.names.all (λy=>y.2 != .cell&&y.2 != .free)=gm)
  (nm:scope.names.all (λy=>y.2 != .local||scope.names.lookup y.1==gh .local)=gm):fP X N (N.map λ_=>gf) scope:=by
 let h1:∀y∈scope.names,y.2≠.cell/\y.2≠.free:=λy a=>by
  have:=i9.mp b y a;simpa using this
 erw[nd,∅,kind,λy a=>(h1 y a).1,λy a e=>?_,λy a e=>absurd e (h1 y a).2,λj i x e _=>?_]
 .have:=i9.mp nm y a;rw[e] at this;simpa using this
 rw[br] at e;cases q:N[j]? with
 |none=>rw[q] at e;cases e
 |some z=>rw[q] at e;cases e
def gk(a b:Int):decide (V.int a=V.int b)=decide (a=b):=by rw[eX];simp
end K51
namespace K31
open K51
abbrev Side:=Nat×Nat
abbrev Lps:=List\-Nat
open PySem L2
def same_of{H H1:Hp}(g:H p=gf)(e:upd H p o=H1):Same H H1:=by rw[<-e];show bG g
def at_of{H H1:Hp}(e:upd H p o=H1):H1 p*>o:=by rw[<-e];show aH
def nV(l:-Nat):-V:=l.map λn:Nat=>V.int (n:Int)
def oZ(H:Hp)(v:V)(l:-Nat):Prop:=∃a,v=.r a/\H a*>.a\nV l
abbrev iY(H:Hp):-V->Lps->Prop:=Paired\oZ H
def tP(H:Hp)(v:V)(t:Nat×Nat×Nat):Prop:=∃a,v=.r a/\H a*>.u [.i (t.1:Int),.i (t.2.1:Int),.i (t.2.2:Int)]
abbrev ay(H:Hp):-V->-(Nat×Nat×Nat)->Prop:=Paired\tP H
def oZ.same(s:Same H H')(h:oZ H v l):oZ H' v l:=by let#[a,e,h]:=h;erw[a,e,s a _ h]
def iY.same{ls:Lps}(s:Same H H')(h:iY H vs ls):iY H' vs ls:=Paired.imp' (λ_ _ q=>q.same s) h
def tP.same{t:Nat×Nat×Nat}(s:Same H H')(h:tP H v t):tP H' v t:=by let#[a,e,h]:=h;erw[a,e,s a _ h]
def ay.same{ls:-(Nat×Nat×Nat)}(s:Same H H')(h:ay H vs ls):ay H' vs ls:=Paired.imp' (λ_ _ q=>q.same s) h
section
variable {α β:Type}{F:α->β->Prop}
def aE:∀{xs:List α}{ys:List β},Paired F xs ys->↑xs=↑ys
 |_,_,.nil=>rfl
 |_,_,.cons _ t=>by rw[ck,ck,aE t]
def bR:∀{xs:List α}{ys:List β}{b:List α}{c:List β},Paired F xs ys->Paired F b c->Paired F (xs++b) (ys++c)
 |_,_,_,_,.nil,h=>h
 |_,_,_,_,.cons a t,h=>.c a\bR t h
def vZ:∀{xs:List α}{ys:List β}{i:Nat}{y:β},Paired F xs ys->ys[i]?*>y->∃x,xs[i]?*>x/\F x y
 |_,_,_,_,.nil,h=>by simp at h
 |_,_,0,_,.cons a t,h=>by
  simp at h;subst h;erw[2,a]
 |_,_,i+1,_,.cons a t,h=>‹vZ (i:=i) t ‹h››
def bY:∀{xs:List α}{ys:List β}{i:Nat}{x:α},Paired F xs ys->xs[i]?*>x->∃y,ys[i]?*>y/\F x y
 |_,_,_,_,.nil,h=>by simp at h
 |_,_,0,_,.cons a t,h=>by
  simp at h;subst h;erw[2,a]
 |_,_,i+1,_,.cons a t,h=>‹bY (i:=i) t ‹h››
end
def bE(l:-Nat):↑(nV l)=↑l:=av ..
def fE(l r:-Nat):nV l++nV r=nV (l++r):=(aV ..).symm
def oH(n:Nat):[V.int (n:Int)]=nV [n]:=rfl
def wa{l:-Nat}{i n:Nat}(h:l[i]?*>n):(nV l)[i]?*>.i (n:Int):=by unfold nV;rw[br,h];rfl
def wr_of{H H1:Hp}(e:upd H p o=H1):∀b,b≠p->H1 b=H b:=λb a=>by rw[<-e,aq a]
def ky(p q:Nat):-Key:=[Sum.inl (p:Int),Sum.inl (q:Int)]
def mn:ky p q=ky a b↔(p,q)=(a,b):=by
 unfold ky;constructor
 .intro h;injection h with h1 h2;injection h2 with h2 _;injection h1 with h1;injection h2 with h2;have:p=a:=();have:q=b:=();simp[*]
 intro h;injection h with h1 h2;rw[h1,h2]
def SdAt(H:Hp)(v:V)(s:Side):Prop:=∃a,v=.r a/\H a*>.u\(ky s.1 s.2).map kV
abbrev SdsAt(H:Hp):-V->-Side->Prop:=Paired\SdAt H
def lit1:1<=sizeLine:=by change 1<=js;decide
def lit2:2<=sizeLine:=by change 2<=js;decide
def lit3:3<=sizeLine:=by change 3<=js;decide
def cR{N:-Str}{fr:List\Option Nat}(nd:N.Nodup)(len:↑fr=↑N)(kind:scope.kind=.function)(b:scope.names.all (λy=>y.2 != .cell)=gm)
  (nm:scope.names.all (λy=>y.2 != .local||scope.names.lookup y.1==gh .local)=gm)
  (c:∀y∈scope.names,y.2=.free->X.env.kindOf y.1*>.cell\/X.env.kindOf y.1*>.free)
  (d:∀(j i:Nat)(x:Str),fr[j]?*>gh i->N[j]?*>x->X.N[i]?*>x/\scope.names.lookup x*>.free):fP X N fr scope:=by
 erw[nd,len,kind,λy a=>?_,λy a e=>?_,c,d]
 .have:=i9.mp b y a;simpa using this
 have:=i9.mp nm y a;rw[e] at this;simpa using this
def cpK{N:-Str}{fr:List\Option Nat}(nd:N.Nodup:=by decide +kernel)(len:↑fr=↑N:=by rfl)(kind:scope.kind=.function:=by rfl)(a:scope.names.all (λy=>y.2 != .cell)=gm:=by decide +kernel)(nm:scope.names.all (λy=>y.2 != .local||scope.names.lookup y.1==gh .local)=gm:=by decide +kernel)(b:scope.names.all (λy=>y.2 != .free||(X.env.kindOf y.1==gh .cell||X.env.kindOf y.1==gh .free))=gm:=by kernel_rfl)(fn:(fr.zip N).all (λp=>p.1.all λi=>X.N[i]?==gh p.2&&scope.names.lookup p.2==gh .free)=gm:=by kernel_rfl):fP X N fr scope:=
 cR nd len kind a nm (λy c e=>by
  have:=i9.mp b y c;rw[e] at this;simpa using this) λj i x d f=>by
  have:=i9.mp fn (gh i,x)\a_ (nh.mpr #[d,f]);simpa using this
end K31
local macro_rules | `(tactic| walk_at $s:str) => let i := fun (x : String) => Lean.mkIdent (Lean.Name.mkSimple x); match s.getString.splitOn " " with | [h, p, g, h1, t, y] => `(tactic| (generalize hq : L2.upd $(i h) $(i p) _ = $(i h1); have $(i t) := K31.same_of $(i g) hq; have $(i y) := K31.at_of hq; clear hq)) | [h, p, h1, k, y] => `(tactic| (generalize hq : L2.upd $(i h) $(i p) _ = $(i h1); have $(i k) := K31.wr_of hq; have $(i y) := K31.at_of hq; clear hq)) | _ => Lean.Macro.throwUnsupported
namespace K51
open PySem L2
def sPx1{a:Type}(B:-V->Hp->VK->a->Prop):Sp:=λvs H Q _=>Exists\B vs H Q
def fV{a b:Type}(B:-V->Hp->VK->a->b->Prop):Sp:=λvs H Q _=>Exists\Ex2 (B vs H Q)
def sEx2{a b:Type}(B:-V->Hp->VK->XK->a->b->Prop):Sp:=λvs H Q E=>Exists\Ex2 (B vs H Q E)
def fj{a b c:Type}(B:-V->Hp->VK->a->b->c->Prop):Sp:=λvs H Q _=>Exists\Ex3 (B vs H Q)
def wK{a b c:Type}(B:-V->Hp->VK->XK->a->b->c->Prop):Sp:=λvs H Q E=>Exists\Ex3 (B vs H Q E)
def oV{a b c d:Type}(B:-V->Hp->VK->a->b->c->d->Prop):Sp:=λvs H Q _=>Exists\Ex4 (B vs H Q)
def oU{a b c d e:Type}(B:-V->Hp->VK->a->b->c->d->e->Prop):Sp:=λvs H Q _=>Exists\Ex5 (B vs H Q)
def sEx5{a b c d e:Type}(B:-V->Hp->VK->XK->a->b->c->d->e->Prop):Sp:=λvs H Q E=>Exists\Ex5 (B vs H Q E)
def mJ{a b c d e f:Type}(B:-V->Hp->VK->a->b->c->d->e->f->Prop):Sp:=λvs H Q _=>Exists\Ex6 (B vs H Q)
def sPx7{a b c d e f g:Type}(B:-V->Hp->VK->a->b->c->d->e->f->g->Prop):Sp:=λvs H Q _=>Exists\Ex7 (B vs H Q)
def wJ{a b c d e f g h:Type}(B:-V->Hp->VK->a->b->c->d->e->f->g->h->Prop):Sp:=λvs H Q _=>Exists\Ex8 (B vs H Q)
def sEx8{a b c d e f g h:Type}(B:-V->Hp->VK->XK->a->b->c->d->e->f->g->h->Prop):Sp:=λvs H Q E=>Exists\Ex8 (B vs H Q E)
def mixed(ns:-Int)(k:Int):Int:=(ns.take 40).foldl (λs c=>(s*48271+c)%2147483647) (7+1009*k)
def mq(ns:-Int)(k:Int):Int:=if k<(↑ns:Int) then ns.getD k.toNat 0 else 0
def potOf(ns:-Int)(k:Int):Int×Int:=(if mq ns k<1000000000000000000 then 0 else mq ns k,mixed ns k)
def refill(p:Int×Int):Int×Int:=if p.1=0 then (((p.2*16807+11)%2147483647)*((p.2*16807+11)%2147483647)%2147483629,(p.2*16807+11)%2147483647) else p
def digO(p:Int×Int)(b:Int):Int:=(refill p).1%b
def nxt(p:Int×Int)(b:Int):Int×Int:=((refill p).1/b,(refill p).2)
def bO(p:Int×Int):-V:=[.i p.1,.i p.2]
def cq(p:Int×Int):Prop:=-(2 ^ 60)<p.2/\p.2<2 ^ 60
def Fw{p:Int×Int}(h:cq p):cq (refill p):=by
 unfold refill
 split
 .have:=tW (p.2*16807+11) (⋯:(0:Int)<2147483647);have:=tX (p.2*16807+11) (⋯:(2147483647:Int)≠0);unfold cq;constructor<;>(change _<_;lia)
 show h
def b7{p:Int×Int}(h:cq p):cq (nxt p b):=Fw h
def Ad(ns:-Int){k:Int}(b:0<=k)(h1:k<1000):-(2 ^ 60)<mixed ns k/\mixed ns k<2 ^ 60:=by
 unfold mixed;have:∀(l:-Int)(s:Int),(-(2 ^ 60)<s/\s<2 ^ 60)->(-(2 ^ 60)<l.foldl (λs c=>(s*48271+c)%2147483647) s/\l.foldl (λs c=>(s*48271+c)%2147483647) s<2 ^ 60):=by
  intro l;induction l with
  |nil=>intro s h;show h
  |cons c r a=>
   intro s h;rw[C4];show a _ ?_;have:=tW (s*48271+c) (⋯:(0:Int)<2147483647);have:=tX (s*48271+c) (⋯:(2147483647:Int)≠0);constructor<;>lia
 show this _ _ (by constructor<;>lia)
def lH:OpR X (binaryOp .FloorDiv) (rI (λ_ j=>0<j/\j.natAbs.log2<9000) λi j=>.i (i/j)):=opI λi j _ _ _ _ _ a q=>by
 let e:i.fdiv j=i/j:=by rw[Int.fdiv_eq_ediv_of_nonneg _\Int.le_of_lt a.1]
 rw[<-e] at q;show Ri () q\.l (PyProof.noPylong_of_log2 a.2)
def NN(K:W.Frag)(vs:-V)(H:Hp)(Q:VK)(a:i4)(ns:-Int)(k:Int):Prop:=vs=[.r a,.i k]/\SqL [] H a (ns.map V.int)/\0<=k/\Q (.i\mq ns k) H
def spAt(K:W.Frag):Sp:=fj\NN K
def Lp(K:W.Frag)(vs:-V)(H:Hp)(Q:VK)(a:i4)(ns:-Int)(k:Int):Prop:=vs=[.r a,.i k]/\SqL [] H a (ns.map V.int)/\0<=k/\k<1000/\
 ∀(p:i4)(H':Hp),H p=gf->Same H H'->H' p*>.a (bO\potOf ns k)->Q (.r p) H'
def Cp(K:W.Frag):Sp:=fj\Lp K
def GM(vs:-V)(H:Hp)(Q:VK)(p:i4)(q:Int×Int)(b:Int):Prop:=vs=[.r p,.i b]/\H p*>.a (bO q)/\cq q/\0<b/\b.natAbs.log2<9000/\WrO H p (.a\bO (nxt q b))\Q (.i\digO q b)
def jq:Sp:=fj GM
section
def scAt:aQ [↑13,↑77] [↑13,↑77] (au sAt):=.f
def Ol(U:Fun K "_law_at" "_law_at" sAt f fd)(T:cv mg):!az CX0 1 f fd [↑13,↑77] (spAt K):=by
 show U.ok scAt (!3) λ_ _ _ _ _ _ _ _ _ h=>?_
 let#[a,ns,k,1,b,m,q]:=h;erw[_,af (bf (aT tm (pv 1) (pln T.len\pv 0)\nomark _) (aj\aF (ixx bQ (pv 0)\pv 1)) ba)\aj (aF ah),?_];erw[3,a,2,.l b,6,2,?_];unfold mq at q;rw[av];show ite2 (λc=>?_) (λc=>?_)
 .let c:k<(↑ns:Int):=Sl c;rw[Sh c] at q;let d:k.toNat<↑ns:=();erw[3,a,_,k,.i\ns.getD k.toNat 0,5,b,?_,q];let e:((k.toNat:Nat):Int)=k:=();rw[<-e];show aW ?_;let g:ns[k.toNat]?*>ns.getD k.toNat 0:=by simp[List.getD,d]
  rw[br,g];rfl
 let c:¬k<(↑ns:Int):=λz=>c\Si z;rw[Sg c] at q;show q
def AN:aQ [↑1,↑52,"_law_digit_here"] [↑1,↑52] (au rR):=.f
def HW{f:i4}(U:Fun K ↑30 ↑30 rR f fd):!az CX0 1 f fd [↑1,↑52] jq:=by
 show U.ok AN (!3) λ_ _ _ _ _ _ _ _ _ h=>?_
 let#[p,#[n,z],b,1,a,hok,g,u,q]:=h;erw[_,af (bf (aT cn (ixx bQ (pv 0) ah) ah\nomark _)
   (af (fD (aD fT (aD cU (aD jA (ixx bQ (pv 0) ah) ah) ah) ah)\v9 (pv 0) ah uN)
    (aj\fD (aD fT (aD jA (ixx bQ (pv 0) ah)\ixx bQ (pv 0) ah) ah) (v9 (pv 0) ah uN))) ba)
  (af (sx 2 AN.nd\aD fT (ixx bQ (pv 0) ah) (pv 1))
  (af (fD (aD lH (ixx bQ (pv 0) ah)\pv 1)\v9 (pv 0) ah uN)
  (aj\aF (pv 2)))),?_]
 let#[d,j,b0,C,v,B]:=#[(λ_ _=>rfl:∀(x y:Int),atI [V.int x,V.int y] 0*>V.int x),(λ_ _=>rfl:∀(x y:Int),atI [V.int x,V.int y] 1*>V.int y),(λ_ _=>rfl:∀(x y:V),ixN [x,y].length 0*>0),(λ_ _=>rfl:∀(x y:V),ixN [x,y].length 1*>1),hok.1,hok.2];erw[2,p,_,(0),2,1,SqL.of a,d _ _,7,?_];let v:-(2 ^ 60)<z:=v;let B:z<2 ^ 60:=B;show ite2 (λc=>?_) (λc=>?_)
 .let c:n=0:=by
   have:=Sl c;injection this
  let m1:=tW (z*16807+11) (⋯:(0:Int)<2147483647);let m2:=tX (z*16807+11) (⋯:(2147483647:Int)≠0);erw[2,p,_,(1),2,1,SqL.of a,j _ _,6,.l #[(),()],6,6,(⋯:(0:Int)<2147483647),2,p,4,a,C _ _,λH1 k1 l=>?_];erw[2,p,_,(1),2,1,SqL.of l,j _ _,2,p,_,(1),2,1,SqL.of l,j _ _,6,.l #[(),()],6,(⋯:(0:Int)<2147483629),2,p,4,l,b0 _ _,λH2 k2 m=>?_];erw[2,p,_,(0),2,1,SqL.of m,d _ _,2,6,g,?_];erw[2,p,_,(0),2,1,SqL.of m,d _ _,2,6,#[g,u],2,p,4,m,b0 _ _,λo k3 r=>?_];erw[2,?_];let e:refill (n,z)=((z*16807+11)%2147483647*((z*16807+11)%2147483647)%2147483629,(z*16807+11)%2147483647):=by unfold refill;rw[Sh c]
  unfold digO nxt bO at q;rw[e] at q;show q o (λb h=>(k3 b h).trans\(k2 b h).trans (k1 b h)) r
 let c:¬n=0:=λy=>c (by rw[y];show Si rfl);erw[2,p,_,(0),2,1,SqL.of a,d _ _,2,6,g,?_];erw[2,p,_,(0),2,1,SqL.of a,d _ _,2,6,#[g,u],2,p,4,a,b0 _ _,λo k3 r=>?_];erw[2,?_];let e:refill (n,z)=(n,z):=by unfold refill;rw[Sg c]
 unfold digO nxt bO at q;rw[e] at q;show q o k3 r
def mB:aQ [↑13,↑77,"_law_seed","_law_cell","_law_number"] [↑13,↑77] (au tL):=.f
def Gh(ns:-Int):fk (ns.map V.int) gf (gh 40)=(ns.take 40).map V.int:=by
 unfold fk;let a:HT.sIx ↑(ns.map V.int) 0 gf=0:=rfl;let b:HT.sIx ↑(ns.map V.int) ↑(ns.map V.int) (gh 40)=min 40 ↑ns:=by rw[av];have:=HT.sIx_nat ↑ns ↑ns 40;simpa using this
 rw[a,b,CZ,<-pk,PB]
 congr 1
 rw[List.take_eq_take_iff];lia
def L9{fd:kS}(U:Fun K "_law_pot" "_law_pot" tL f fd)(n:Fun K "_law_at" "_law_at" sAt d g)(o:Binds K g [↑13,↑77] [])(mA:mg "_law_at"*>.r d)(p:W.keepIn K (.r d)=gm)(T:cv mg):
  !az CX0 2 f fd [↑13,↑77] (Cp K):=by
 let u:!az CX0 1 d g [↑13,↑77] (spAt K):=Ol n T;show U.ok mB (!3) λ_ _ _ s _ _ Q _ x h=>?_
 let#[a,ns,k,1,m,z,h1,q]:=h;erw[_,af (sx 2 mB.nd\aD cU ah (aD jA ah\pv 1))
  (af (dD dA rfl (bT\iN lN (pv 0) iQ (iP ah)) (gx 3 mB.nd)
   (aj\sx 2 mB.nd (aD fT (aD cU (aD jA (pv 2) ah)\pv 3) ah)))
  (af (sx 4 mB.nd\iR u x rfl mA p o .nil pass0 (ae (pv 0)\pa1 (pv 1)))
  (af (bf (aT tm (pv 4) (aD rW ah ah)\nomark _) (aj\sx 4 mB.nd ah) ba)
  (aj\aF (bp\ae (pv 4) (pa1\pv 2)))))),?_]
 erw[2,6,.l #[(),()],6,?_];erw[2,(40),1,a,2,m,λl H1 L sm j=>?_];rw[Gh] at j;erw[l,1,#[_,SqL.of j],fC (K:=[]) (a:=l) (xs:=(ns.take 40).map V.int) (λi Z H2=>∃v,Z=[gh\.r a,gh\.i k,gh\.i (((ns.take 40).take i).foldl (λs c=>(s*48271+c)%2147483647) (7+1009*k)),v,gf]/\H2=H1/\
  (-(2 ^ 60)<(((ns.take 40).take i).foldl (λs c=>(s*48271+c)%2147483647) (7+1009*k))/\(((ns.take 40).take i).foldl (λs c=>(s*48271+c)%2147483647) (7+1009*k))<2 ^ 60))
  #[gf,5,by simp only[xq,Pf];constructor<;>lia] (λi Z H2 _ ⟨_,_,e,_⟩=>by rw[e];show SqL.of j) ?_ ?_]
 .rintro i y Z H2 hi ⟨v,rfl,rfl,M,N⟩;let#[c,B,1]:∃c,(ns.take 40)[i]?*>c/\V.int c=y:=by
   rw[br] at hi;show cz.mp hi
  let e:(ns.take 40).take (i+1)=(ns.take 40).take i++[c]:=by rw[bC,B];rfl
  erw[2,6,.l #[(),()],2,6,6,(⋯:(0:Int)<2147483647),?_];erw[gh\.i c,?_,1,?_]
  .rw[e,Pe];rfl
  rw[e,Pe];let m1:=tW ((((ns.take 40).take i).foldl (λs c=>(s*48271+c)%2147483647) (7+1009*k))*48271+c) (⋯:(0:Int)<2147483647);let m2:=tX ((((ns.take 40).take i).foldl (λs c=>(s*48271+c)%2147483647) (7+1009*k))*48271+c) (⋯:(2147483647:Int)≠0);simp only[C4,Pf];constructor<;>lia
 rintro Z H2 ⟨v,rfl,rfl,_,_⟩;rw[av,cm];erw[3,a,ns,k,1,sm.seq m,z,?_];erw[2,6,#[⋯,⋯,⋯],6,2,?_];let fin:∀(r:i4)(b:Hp),H2 r=gf->Same H2 b->b r*>.a (bO\potOf ns k)->Q (.r r) b:=λr b C s2 D=>q r b (sm.free C) (sm<*s2) D;unfold potOf at fin;show ite2 (λc=>?_) (λc=>?_)
 .let c:mq ns k<1000000000000000000:=Sl c;rw[Sh c] at fin;erw[3,(⋯:2<=js),fin]
 let c:¬mq ns k<1000000000000000000:=λy=>c\Si y;rw[Sg c] at fin;erw[3,(⋯:2<=js),fin]
end
def dU{q:Int×Int}{b:Int}(a:0<b):0<=digO q b/\digO q b<b:=#[tX _ (),tW _ a]
def lC{b:Int}(a:0<b)(h:b<=10 ^ 60):b.natAbs.log2<9000:=by let h1:b.natAbs≠0:=();show (xu h1).mpr ?_;let h2:b.natAbs<=10 ^ 60:=();show kO h2\bW (⋯:10 ^ 60<2 ^ 200) (xy ⋯ ⋯)
end K51
namespace K15
open PySem L2 K51 K31
def bB(e:Ent):-Key×V:=(ky e.1.1 e.1.2,V.int (e.2:Int))
def gO{l:-Ent}:a8 (l.map bB) (ky p q)=gf↔(p,q)∉l.map (·.1):=by
 induction l with
 |nil=>simp[a8]
 |cons e l a=>
  rw[bu,bu,aU];by_cases h:(bB e).1=ky p q
  .rw[iM h];have:e.1=(p,q):=mn.mp h;simp[this]
  rw[gP h,a];have:(p,q)≠e.1:=λz=>h\mn.mpr (by rw[z]);simp[this]
def zI{l:-Ent}(nd:(l.map (·.1)).Nodup){c:Nat}:a8 (l.map bB) (ky p q)*>V.int (c:Int)↔((p,q),c)∈l:=by
 induction l with
 |nil=>simp[a8]
 |cons e l b=>
  rw[bu,eR] at nd;rw[bu,aU];by_cases h:(bB e).1=ky p q
  .rw[iM h];let a:e.1=(p,q):=mn.mp h;constructor
   .intro z;injection z with z;injection z with z;left;have:e.2=c:=();rw[<-a,<-this]
   rintro (z|z)
   .rw[<-z];rfl
   show (nd.1\ax.mpr #[_,z,a.symm]).elim
  rw[gP h,b nd.2];constructor
  .exact .inr
  rintro (z|z)
  .exact (h\mn.mpr (by rw[<-z])).elim
  show z
def IU{l:-Ent}{v:V}(h:a8 (l.map bB) (ky p q)*>v):∃c:Nat,v=V.int (c:Int):=by
 induction l with
 |nil=>cases h
 |cons e l a=>
  rw[bu] at h;by_cases h1:(bB e).1=ky p q
  .rw[iM h1] at h;injection h with h;erw[e.2,h.symm]
  rw[gP h1] at h;show a h
def qA{ts:-Tri}(g:Good ts)(p q:Nat):(∃c,En ts p q c/\a8 ((ents ts).map bB) (ky p q)*>V.int (c:Int))\/((∀c,¬En ts p q c)/\a8 ((ents ts).map bB) (ky p q)=gf):=by
 cases h:a8 ((ents ts).map bB) (ky p q) with
 |none=>
  show .o #[λc a=>?_,1];show gO.mp h\ax.mpr #[_,a,1]
 |some v=>
  let#[c,1]:=IU h;show .l #[c,(zI g.nd).mp h,1]
def j8(a b:-Tri):ents (a++b)=ents a++ents b:=by simp[ents]
def eF(ts:-Tri):↑(ents ts)=3*↑ts:=by
 induction ts with
 |nil=>rfl
 |cons t ts a=>
  rw[show t::ts=[t]++ts from rfl,j8,bo,a,bo];change 3+_=3*(1+_);lia
def qD{l:-Ent}{a b c:Nat}(h:((l++[((a,b),c)]).map (·.1)).Nodup):(l.map (·.1)).Nodup/\(a,b)∉l.map (·.1):=by rw[aV,cD] at h;erw[h.1,λz=>?_];show h.2.2 _ z (a,b) ∅ rfl
def qQ{l:-Ent}{a b c:Nat}(h:(a,b)∉l.map (·.1)):cA (l.map bB) (ky a b) (V.int (c:Int))=(l++[((a,b),c)]).map bB:=by rw[n9 _\gO.mpr h,aV];rfl
def cJ(t:Tri):-(Nat×Nat):=[(t.1,t.2.1),(t.2.1,t.2.2),(t.2.2,t.1)]
def Gs(vs:-V)(H:Hp)(Q:VK)(t:i4)(x:Tri):Prop:=vs=[.r t]/\H t*>.u [.i (x.1:Int),.i (x.2.1:Int),.i (x.2.2:Int)]/\
 ∀r zs H',H r=gf->Same H H'->H' r*>.a zs->SdsAt H' zs (cJ x)->Q (.r r) H'
def lM:Sp:=fV Gs
def Fm(vs:-V)(H:Hp)(Q:VK)(T:i4)(a:-V)(ts:-Tri):Prop:=vs=[.r T]/\H T*>.a a/\ay H a ts/\↑ts<=400/\((ents ts).map (·.1)).Nodup/\
 ∀D H',H D=gf->Same H H'->H' D*>.dT ((ents ts).map bB)->Q (.r D) H'
def jk:Sp:=fj Fm
def jF(ts:-Tri)(x:Tri):Bool:=(cJ x).all λs=>decide (s∉(ents ts).map (·.1))
def Jk(vs:-V)(H:Hp)(Q:VK)(D t:i4)(ts:-Tri)(x:Tri):Prop:=vs=[.r D,.r t]/\H D*>.dT ((ents ts).map bB)/\H t*>.u [.i (x.1:Int),.i (x.2.1:Int),.i (x.2.2:Int)]/\
 ∀H',Same H H'->Q (.bl\jF ts x) H'
def vS:Sp:=oV Jk
section
def qF:aQ [↑8,↑46,↑68,"_law_c"] [↑8] (au rJ):=.f
def HJ{f:i4}(U:Fun K ↑42 ↑42 rJ f fd):!az CX0 1 f fd [↑8] lM:=by
 show U.ok qF (!2) λ_ _ _ _ _ _ _ _ _ h=>?_
 let#[t,x,1,c,q]:=h;erw[_,af (fD (pv 0)\du rfl (aY (gx 1 qF.nd)\aY (gx 2 qF.nd) (aY (gx 3 qF.nd) dh)))
  (aj\aF (bp\ae (ao\ae (pv 1) (pa1\pv 2)) (ae (ao\ae (pv 2) (pa1\pv 3))\pa1 (ao\ae (pv 3) (pa1\pv 1))))),?_]
 erw[2,t,2,SqT.of c,1,9,9,6,?_];erw[3,lit2,λd H1 h1 s1 e=>?_];erw[3,lit2,λg H2 h2 s2 j=>?_];erw[3,lit2,λl y z a m=>?_];erw[lit3,λr n o b p=>?_];show q r _ n ((s1<*s2<*a).free o) (s1<*s2<*a<*b) p\.c #[d,1,(s2<*a<*b) _ _ e] (.c #[g,1,(a<*b) _ _ j]\.c #[l,1,b>>m] .nil)
def nZ:aQ [↑0,↑6,↑46,↑68,"_law_c"] [↑0] (au qJ):=.f
def FE{f:i4}(U:Fun K ↑24 ↑24 qJ f fd):!az CX0 1 f fd [↑0] jk:=by
 show U.ok nZ (!3) λ_ _ _ _ H _ _ _ M h=>?_
 let#[T,N,ts,1,r,u,hl,v,q]:=h;let g:=dC M;erw[_,af (sx 1 nZ.nd uS)
  (af (dD dA rfl (bT\pv 0) (du rfl\aY (gx 2 nZ.nd) (aY (gx 3 nZ.nd)\aY (gx 4 nZ.nd) dh))
   (af (jt g (pv 1) (ao\ae (pv 2) (pa1\pv 3)) (pv 4) rfl)
   (af (jt g (pv 1) (ao\ae (pv 3) (pa1\pv 4)) (pv 2) rfl)
   (aj\jt g (pv 1) (ao\ae (pv 4) (pa1\pv 2)) (pv 3) rfl))))
  (aj\aF (pv 1))),?_]
 let ab:=line5000;let hlen:=aE u;show λD H1 h1 s1 O=>?_;erw[2,T,1,#[_,SqL.of (s1>>r)],fC (K:=[]) (a:=T) (xs:=N) (λi Z H2=>∃j l m,Z=[gh\.r T,gh\.r D,j,l,m]/\Same H H2/\H2 D*>.dT\(ents\ts.take i).map bB)
  #[gf,gf,gf,1,s1,O] (by rintro i Z H2 _ ⟨_,_,_,_,e,_⟩;show SqL.of (e>>r)) ?_ ?_]
 .rintro i x Z H2 hi ⟨j,l,m,rfl,sm,d⟩;let#[#[a,b,c],y,t,1,n]:=bY u hi;let n:H t*>.u [.i (a:Int),.i (b:Int),.i (c:Int)]:=n;let ad:i<↑ts:=(aO.mp y).1;let R:ts.take (i+1)=ts.take i++[(a,b,c)]:=by rw[bC,y];rfl
  let z:((ents\ts.take (i+1)).map (·.1)).Nodup:=by rw[<-gD (i+1) ts,j8,aV,cD] at v;show v.1
  let B:ents (ts.take (i+1))=((ents (ts.take i)++[((a,b),c)])++[((b,c),a)])++[((c,a),b)]:=by rw[R,j8];simp[ents]
  rw[B] at z;let#[#[S,X],#[Y,n2],#[_,n1],l0]:=#[qD z,qD S,qD Y,eF\ts.take i];rw[bz] at l0;erw[t,2,SqT.of (sm>>n),1,9,9,6,?_];erw[3,3,lit2,λt1 H3 g1 C y3=>?_];erw[D,2,DPut.t (k:=ky a b) (C>>d) y3 (by rw[av];lia),?_];rw[qQ n1];walk_at"H3 D H4 k4 y4";erw[3,3,lit2,λt2 H5 g2 I y5=>?_];erw[D,2,DPut.t (k:=ky b c) (I>>y4) y5 (by rw[av,bo,cV];lia),?_];rw[qQ n2];walk_at"H5 D H6 k6 y6";erw[3,3,lit2,λt3 H7 g3 L y7=>?_];erw[D,2,DPut.t (k:=ky c a) (L>>y6) y7 (by rw[av,bo,bo,cV,cV];lia),?_];rw[qQ X];walk_at"H7 D H8 k8 y8";erw[8,1,λp o e=>?_,by rw[y8,B]];let nb:=ak e h1;show (k8 p nb)<*(L>>((k6 p nb)<*(I>>((k4 p nb)<*(C>>sm>>e)))))
 rintro Z H2 ⟨j,l,m,rfl,sm,d⟩;rw[hlen,cm] at d;erw[2,q D H2 h1 sm d]
end
def IM:r6 "all"*>.b "all":=⋯
def iJ:r6 ↑48*>.b ↑48:=⋯
def flat(ts:-Tri):-Nat:=ts.flatMap λt=>[t.1,t.2.1,t.2.2]
def kb(c:Nat):Key×V:=(Sum.inl (c:Int),V.bl gm)
def Mq{d:Nat}:(kb c).1=(Sum.inl (d:Int):Key)↔c=d:=by
 unfold kb;constructor
 .intro h;injection h with h;lia
 rintro rfl;rfl
def LS(dd:-Nat)(c:Nat):cA (dd.map kb) (Sum.inl (c:Int)) (V.bl gm)=(if c∈dd then dd else dd++[c]).map kb:=by
 by_cases h:c∈dd
 .rw[Sh h];let ha:((dd.map kb).any λa=>decide (a.1=(Sum.inl (c:Int):Key)))=gm:=m_.mpr #[kb c,ax.mpr #[c,h,1],Si rfl];unfold cA;rw[Sh ha,cw];show ue λx _=>?_;change (if (kb x).1=(Sum.inl (c:Int):Key) then ((kb x).1,V.bl gm) else kb x)=kb x
  split<;>rfl
 rw[Sg h,n9,aV]
 .rfl
 cases e:a8 (dd.map kb) (Sum.inl (c:Int)) with
 |none=>rfl
 |some v=>
  have:=IV e;rw[cw] at this;let#[x,hx,ex]:=ax.mp this;show (h (Mq.mp ex ▸ hx)).elim
def Cs(ts:-Tri)(cs:-Nat):Prop:=cs.Pairwise (· < ·)/\∀c,c∈cs↔c∈flat ts
def uy{dd:-Nat}{ms:-Int}(nd:dd.Nodup)(f:ms.Perm (dd.map λc:Nat=>(c:Int)))(d:ms.Pairwise (·<=·)):∃cs:-Nat,ms=cs.map (λc:Nat=>(c:Int))/\cs.Pairwise (· < ·)/\cs.Perm dd:=by
 let e:ms=(ms.map Int.toNat).map (λc:Nat=>(c:Int)):=by
  rw[cw];have:∀x∈ms,((λc:Nat=>(c:Int)) ∘ Int.toNat) x=id x:=by intro x hx;let#[c,2]:=ax.mp\f.mem_iff.mp hx;simp
  rw[ue this,C9]
 let pm:(ms.map Int.toNat).Perm dd:=by
  have:=f.map Int.toNat;rw[cw] at this;let g:dd.map (Int.toNat ∘ λc:Nat=>(c:Int))=dd:=by have:∀x∈dd,(Int.toNat ∘ λc:Nat=>(c:Int)) x=id x:=λx _=>∅;rw[ue this,C9]
  rw[g] at this;show this
 erw[ms.map Int.toNat,e,?_,pm];let j:(ms.map Int.toNat).Nodup:=pm.nodup_iff.mpr nd;rw[e] at d;rw[gC] at d;have:=d.and j;show this.imp λ{a b} h=>?_;let h1:=h.1;let h2:=h.2;lia
def EH(vs:-V)(H:Hp)(Q:VK)(T:i4)(a:-V)(ts:-Tri):Prop:=vs=[.r T]/\H T*>.a a/\ay H a ts/\↑ts<=200/\
 ∀r cs H',H r=gf->Same H H'->H' r*>.a (nV cs)->Cs ts cs->↑cs<=3*↑ts->Q (.r r) H'
def iL:Sp:=fj EH
section
def Ly:aQ [↑6,↑8] [↑6,↑8] (au sX):=.f
def Ke{f u:i4}{fd B:kS}(U:Fun K ↑79 ↑79 sX f fd)(T:cv mg)(G:!Use 1 ↑42 [↑8] lM u B):
  !az CX0 2 f fd [↑6,↑8] vS:=by
 show U.ok Ly (!4) λ_ _ _ s _ _ _ _ l h=>?_
 let#[D,t,ts,x,1,C,I,q]:=h;let L:=dC l;erw[_,aj\aF (bP (Eb rfl) (by rfl) T.all IM\pa1 (dq (N:=[↑32,↑6]) (fr:=[gf,gh 0]) cpK rfl (bT\uc G l (pa1\pv 1))
    (λX s' H' fp Sn=>#[gx 0 (⋯:([↑32,↑6]:-Str).Nodup),dZ,BV\nU L (pv 0) (pv 1)]))),?_]
 let Y:=line5000;erw[2,t,x,1,I,λr zs H1 ab s1 m sd=>?_];let M:=aE sd;erw[r,1,#[_,SqL.of m],λZ_ n=>dM (K:=[]) (a:=r) (xs:=zs) (λi Z ys H'=>∃o,Z=[o,gh\.r D]/\ys=(((cJ x).take i).map λs=>decide (s∉(ents ts).map (·.1))).map V.bl/\Same H1 H'/\H' Z_*>.a ys) #[gf,5,bG n,aH] (by rintro i Z ys H' _ ⟨_,_,_,e,_⟩;show SqL.of (e>>m)) ?_ ?_]
 .rintro i y Z ys H' hi ⟨o,rfl,rfl,d,g⟩;let#[#[a,b],p,c,1,O]:=bY sd hi;let ad:=(aO.mp p).1;erw[3,D,2,DGet.t (k:=ky a b) (d>>s1>>C) (d>>O),g,?_,λH3 k3 R=>#[2,?_,λb o e=>(k3 b\ak e n)<*(d>>e),R]]
  .rw[av,av,bz];have:↑(cJ x)=3:=rfl;lia
  rw[bC,p];change _=((((cJ x).take i)++[(a,b)]).map _).map _;rw[aV,aV]
  congr 1
  change [V.bl _]=[V.bl _]
  congr 2
  cases j:a8 ((ents ts).map bB) (ky a b) with
  |none=>show (Si\gO.mp j).symm
  |some v=>show (Sj λz=>by rw[gO.mpr z] at j;cases j).symm
 rintro Z ys H' ⟨o,rfl,rfl,d,g⟩;erw[Z_,(cJ x).map λs=>decide (s∉(ents ts).map (·.1)),1,SqL.of ?_,?_]
 .rw[g,M,cm]
 rw[O8];show q _\s1.trans d
def qi:aQ [↑0,"_law_found",↑8,↑9] [↑0] (au qx):=.f
def ET{f:i4}(U:Fun K ↑18 ↑18 qx f fd)(S:mg ↑48 = gf):!az CX0 1 f fd [↑0] iL:=by
 show U.ok qi (!3) λ_ _ _ _ H vs _ _ X h=>?_
 let#[T,Y,ts,1,L,M,hl,q]:=h;let hu:=dC X;erw[_,af (sx 1 qi.nd j6)
  (af (dD dA rfl (bT\pv 0) (gx 2 qi.nd)
   (aj\dD dA rfl (l_\pv 2) (gx 3 qi.nd) (aj\jt hu (pv 1) (pv 3) gi rfl)))
  (aj\aF (bP (nK rfl) (by rfl) S iJ\pa1 (pv 1)))),?_]
 let ad:=line5000;let hlen:=aE M;show λD H1 h1 s1 y1=>?_;erw[2,T,1,#[_,SqL.of (s1>>L)],fC (K:=[]) (a:=T) (xs:=Y) (λi Z H2=>∃v g dd,Z=[gh\.r T,gh\.r D,v,g]/\Same H H2/\H2 D*>.k (dd.map kb)/\dd.Nodup/\(∀c,c∈dd↔c∈flat\ts.take i)/\↑dd<=3*i)
  #[gf,gf,[],1,s1,y1,jT,by simp[flat],aZ _] (by rintro i Z H2 _ ⟨_,_,_,_,e,_⟩;show SqL.of (e>>L)) ?_ ?_]
 .rintro i x Z H2 hi ⟨v,g,dd,rfl,sm,m,nd,hm,hz⟩;let#[#[a,b,c],N,t,1,r]:=bY M hi;let r:H t*>.u [.i (a:Int),.i (b:Int),.i (c:Int)]:=r;let ag:i<↑ts:=(aO.mp N).1;let et:flat (ts.take (i+1))=flat (ts.take i)++[a,b,c]:=by rw[bC,N];simp[flat]
  erw[2,t,1,#[_,SqT.of (sm>>r)],Kx (K:=[]) (a:=t) (xs:=[.i (a:Int),.i (b:Int),.i (c:Int)]) (λj Z l=>∃g dd,Z=[gh\.r T,gh\.r D,gh\.r t,g]/\Same H l/\l D*>.k (dd.map kb)/\dd.Nodup/\(∀z,z∈dd↔z∈flat (ts.take i)++[a,b,c].take j)/\↑dd<=3*i+j)
   #[_,dd,1,sm,m,nd,‹hm›,hz] (by rintro j Z l _ ⟨_,_,_,e,_⟩;show SqT.of (e>>r)) ?_ ?_]
  .rintro j y Z l d ⟨g,dd,rfl,B,C,u,I,ab⟩;let#[n,O,1]:∃n:Nat,[a,b,c][j]?*>n/\y=.i (n:Int):=by
    match j,d with
    |0,d=>simp at d;erw[a,1,d.symm]
    |1,d=>simp at d;erw[b,1,d.symm]
    |2,d=>simp at d;erw[c,1,d.symm]
    |j+3,d=>simp at d
   let al:j<3:=(aO.mp O).1;erw[3,D,2,DPut.k (k:=Sum.inl (n:Int)) C (by rw[av];lia),?_];rw[LS];walk_at"l D H4 k4 y4";erw[9,λb' o e=>(k4 b'\ak e h1)<*(B>>e),y4,?_,λz=>?_,?_]
   .split
    .exact u
    rename_i h;show cD.mpr #[u,∅,λx hx y hy=>by rw[aG.mp hy];rintro rfl;show h hx]
   .rw[bC,O,<-gz];change _↔z∈(flat (ts.take i)++[a,b,c].take j)++[n];rw[a9,<-I z]
    split
    .rename_i h;constructor
     .exact .inl
     rintro (h' | h')
     .exact h'
     rw[aG.mp h'];show h
    rw[a9]
   split
   .lia
   rw[bo,cV];lia
  rintro Z l ⟨g,dd,rfl,B,C,u,I,ab⟩;erw[0,dd,1,B,C,u,λz=>?_,?_]
  .rw[et];show I z
  have:↑([V.int (a:Int),.i (b:Int),.i (c:Int)]:-V)=3:=rfl;lia
 rintro Z H2 ⟨v,g,dd,rfl,sm,m,nd,hm,hz⟩;rw[hlen,cm] at hm;erw[2,D,1,.l #[_,m],λks vs hk=>.l #[dd.map λc:Nat=>(c:Int),?_,by rw[av];lia,λp ms R pm ps=>?_]]
 .rcases hk with ⟨kvs,e,rfl,_⟩|⟨kvs,as,e,_⟩
  .rw[m] at e;cases e;rw[cw,cw];rfl
  rw[m] at e;cases e
 let#[cs,1,pl,pc]:=uy nd pm ps;let am:=pc.length_eq;let e:(cs.map λc:Nat=>(c:Int)).map V.int=nV cs:=by rw[cw];rfl
 rw[e];show q p cs _ (sm.free R) (sm.trans\bG R) aH #[pl,λc=>by rw[pc.mem_iff];show hm c] ()
end
def iS(l:-Nat):(nV l).all gj=gm:=by rw[i9];intro v a;let#[n,2]:=ax.mp a;rfl
def g_(c:Nat)(l:-Nat):inV (V.int (c:Int)) (nV l)=decide (c∈l):=by
 unfold inV nV;rw[wY,eX,decide_eq_true_eq,m_];constructor
 .rintro⟨x,hx,e⟩;have:(x:Int)=(c:Int):=eq_of_beq (show ((x:Int)==(c:Int))=gm from e);have:x=c:=();rw[<-this];show hx
 intro h;erw[c,h,(show ((c:Int)==(c:Int))=gm by simp)]
def Kt(l:-Nat):inV V.non (nV l)=hB:=by unfold inV nV;rw[wY,O9];intro x _;show bH
def jj{α:Type}[DecidableEq α]{l m:List α}(h:l.Nodup)(b:∀x∈l,x∈m):↑l<=↑m:=by
 induction l generalizing m with
 |nil=>show aZ _
 |cons a l c=>
  rw[eR] at h;let ha:=b a ∅;have:=c (m:=m.erase a) h.2 λx hx=>by
   let d:x≠a:=λz=>h.1 (z ▸ hx);show (List.mem_erase_of_ne d).mpr\b x (dz _ hx)
  rw[List.length_erase_of_mem ha] at this;let hpos:0<↑m:=List.length_pos_of_mem ha;rw[ck];lia
def iK{K:W.Frag}{l:-Ent}{vs:-V}(a:H D*>.dT\l.map bB)(c:DKeys H D ks vs):SdsAt H ks (l.map (·.1)):=by
 rcases c with ⟨kvs,e,_⟩|⟨kvs,as,e,b,rfl,_⟩
 .rw[a] at e;cases e
 rw[a] at e;cases e;rename_i d;clear a d;induction l generalizing as with
 |nil=>cases b;show .nil
 |cons x l f=>
  cases b with
  |cons h t=>show .c #[2,h]\f _ t
def uO{ss:-(Nat×Nat)}(h:SdsAt H ks ss):Tups K H ks (ss.map λs=>[(s.1:Int),(s.2:Int)]):=by
 induction h with
 |nil=>show .nil
 |cons q _ b=>
  let#[a,1,ha]:=q;show .c #[a,1,SqT.of ha,∅] b
def qr{ss:-(Nat×Nat)}(h:SdsAt H ks ss):∀ix:-Nat,(∀i∈ix,i<↑ks)->SdsAt H (ix.map λi=>ks.getD i .non) (ix.map λi=>ss.getD i (0,0))
 | [],_=>.nil
 |i::ix,hi=>by
  let#[a,h1,#[y,b,hf]]:=#[hi i ∅,(aR a:ks[i]?*>ks[i]),bY h h1];show .c ?_ (qr h ix λj c=>hi j\dz _ c);simp only[List.getD,h1,b,xB];show hf
def zc{ss:-(Nat×Nat)}{ix:-Nat}(h:ix.Perm\List.range ↑ss):(ix.map λi=>ss.getD i (0,0)).Perm ss:=by
 have:=h.map λi=>ss.getD i (0,0);show this.trans\wX ?_;show w4 λi=>?_;rw[br];by_cases hi:i<↑ss
 .rw[Pj hi];simp[List.getD,aR hi]
 rw[t_ ‹hi›,t_ ()];rfl
def MJ(l:-Nat):Dts K H (nV l) (l.map λn:Nat=>PyData.int (n:Int)):=by
 induction l with
 |nil=>show .nil
 |cons a l b=>show .c (.i _) b
def MO(l:-Nat):(PyData.list (l.map λn:Nat=>PyData.int (n:Int))).depth<=3:=by
 have:PyData.depthAll (l.map λn:Nat=>PyData.int (n:Int))<=1:=by
  induction l with
  |nil=>simp[PyData.depthAll]
  |cons a l b=>simp only[bu,PyData.depthAll,PyData.depth];lia
 simp only[PyData.depth];lia
def Iz(ds:-pC):PyData.eqv (.list ds) (.list [])=ds.isEmpty:=by cases ds<;>simp[PyData.eqv,PyData.eqvAll]
structure Run(ts:-Tri)(v x0:Nat)(F:-Nat):Prop where
 nd:F.Nodup
 key:∀p∈F,∃q,En ts v p q
 ch:∀i p q,F[i]?*>p->F[i+1]?*>q->En ts v p q
 x1:x0∈F
section
variable {ts:-Tri}{v x0 p c o:Nat}{F:-Nat}
def Ju(h:∃q,En ts v x0 q):Run ts v x0 [x0]:=#[∅,λp a=>by rw[aG.mp a];show h,λi p q _ h2=>by simp at h2,∅]
def Jw(r:Run ts v x0 F)(d:F.getLast?*>p)(e:En ts v p c)(g:∃q,En ts v c q)(j:c∉F):Run ts v x0 (F++[c]):=by
 erw[cD.mpr #[r.nd,∅,λx hx y l=>by rw[aG.mp l];rintro rfl;show j hx],λq m=>?_,λi a b h1 h2=>?_,eK _ r.x1]
 .rcases a9.mp m with h|h
  .exact r.key q h
  rw[aG.mp h];show g
 by_cases hi:i+1<↑F
 .rw[eA hi] at h2;rw[eA ()] at h1;show r.ch i a b h1 h2
 let n:=(aO.mp h2).1;rw[bo,cV] at n;let f:i+1=↑F:=();rw[jQ,<-f,Nat.add_sub_cancel] at d;rw[eA (),d] at h1;rw[f,h_\ar _,Dg] at h2;cases h1;cases h2;show e
def Jv(r:Run ts v x0 F)(c:F.head?*>p)(e:En ts v o p)(d:o∉F):Run ts v x0 (o::F):=by
 erw[eR.mpr #[d,r.nd],λq f=>?_,λi a b h1 h2=>?_,dz _ r.x1]
 .rcases aU.mp f with rfl|h
  .exact#[p,e]
  show r.key q h
 cases i with
 |zero=>
  rw[Ph,<-C7,c] at h2;cases h1;cases h2;show e
 |succ i=>
  rw[Ph] at h1 h2;show r.ch i a b h1 h2
def vB(r:Run ts v x0 F)(b:↑ts<=200):↑F<=600:=by
 have:=jj (m:=(ents ts).map (·.1.2)) r.nd λx hx=>by
  let#[q,a]:=r.key x hx;show ax.mpr #[_,a,1]
 rw[av,eF] at this;lia
def vV(r:Run ts v x0 F):F≠[]:=λz=>by have:=r.x1;rw[z] at this;cases this
def Bb(h:F≠[]):∃p,F.getLast?*>p:=#[_,List.getLast?_eq_some_getLast h]
def Ku(h:F≠[]):∃p,F.head?*>p:=by
 cases F with
 |nil=>show (h rfl).elim
 |cons a l=>erw[a,1]
def MY{α:Type}{l:List α}{x:α}(h:l[↑l-1]?*>x):atI l (-1)*>x:=by let a:=(aO.mp h).1;unfold atI ixN;rw[Sg ⋯,Sh ()];rw[show ((-1:Int)+(↑l:Int)).toNat=↑l-1 by lia];show h
def KP(h:F.getLast?*>p):atI (nV F) (-1)*>V.int (p:Int):=by show MY ?_;rw[bE,nV,br,<-jQ,h];rfl
def Br(h:F.head?*>p):atI (nV F) 0*>V.int (p:Int):=by
 have:(nV F)[0]?*>V.int (p:Int):=by rw[nV,br,<-C7,h];rfl
 show aW this
end
def yO{D:Ends}(R:St->Hp->Prop)(h:∀a:St->Hp->Prop,(∀Z H,R Z H->a Z H)->vQ c tb {D with nx:=a} Z H)(out:∀Z H,R Z H->D.nx Z H):vQ c tb D Z H:=h D.nx out
def EN{α β:Type}{F G:α->β->Prop}{xs:List α}{ys:List β}(h:∀x y,x∈xs->F x y->G x y)(p:Paired F xs ys):Paired G xs ys:=by
 induction p with
 |nil=>show .nil
 |cons a _ b=>show .c (h _ _ ∅ a) (b λx y hx=>h x y\dz _ hx)
def Jl(vs:-V)(H:Hp)(Q:VK)(T:i4)(a:-V)(ts:-Tri)(v:Nat):Prop:=vs=[.r T,.i (v:Int)]/\H T*>.a a/\ay H a ts/\↑ts<=200/\Good ts/\
 ∀r b fs H',H r=gf->Same H H'->H' r*>.a b->iY H' b fs->Fans (En ts) v fs->↑fs<=600->Q (.r r) H'
def rf:Sp:=oV Jl
section
def l7:aQ [↑0,↑9,↑6,"_law_left","_law_found","_law_fan"] [↑0,↑9] (au s_):=.f
def Kf{f f1:i4}{fd d1:kS}(U:Fun K ↑80 ↑80 s_ f fd)(mS:mg ↑48 = gf)(G:!Use 1 ↑24 [↑0] jk f1 d1):
  !az CX0 2 f fd [↑0,↑9] rf:=by
 show U.ok l7 (!4) λ_ _ _ s H vs _ _ hr h=>?_
 let#[T,vt,ts,v,1,hT,ht,hl,g,q]:=h;let hu:=dC hr;erw[_,af (sx 2 l7.nd\uc G hr (pa1\pv 0))
  (af (qR (i:=3) (N:=[↑46,"_law_p",↑9]) (fr:=[gf,gf,gh 1]) (g:=kH [] 2\fU (dv 0) (fU (dv 1) kI)) cpK rfl (bT\bP (nK rfl) (by rfl) mS iJ (pa1\pv 2))
    (λC' s' H' fp Sn=>#[du rfl\aY (gx 0 (⋯:([↑46,"_law_p",↑9]:-Str).Nodup)) (aY (gx 1 (⋯:([↑46,"_law_p",↑9]:-Str).Nodup)) dh),gW\aT cn (pv 0) (pv 2) (nomark _),pv 1]) l7.nd rfl (.l rfl))
  (af (sx 4 l7.nd\bp fh)
  (af (j5 dA (aT (v_ hr.units) (pv 3) (bp fh)\nomark _) (af (sx 5 l7.nd\bp (pa1\ixx bQ (pv 3) ah))
   (af (j5 dA (PW.pt\fQ (aT j2 (uT hu (pv 2) (ao\ae (pv 1) (pa1\ixx bQ (pv 5) (iA iw ah))) #[5,5]) (pv 3) rfl) (fZ\aT ji (ir hu (pv 2) (ao\ae (pv 1) (pa1\ixx bQ (pv 5) (iA iw ah))) λ_ _=>rfl) (pv 5) rfl))\aj (dN\dX eO gG gH fB (pv 5) (pa1\ir hu (pv 2) (ao\ae (pv 1) (pa1\ixx bQ (pv 5) (iA iw ah))) λ_ _=>rfl)))
   (af (j5 dA (PW.pt\fQ (gY\mm hu (ao\ae (ixx bQ (pv 5) ah) (pa1\pv 1)) (pv 2)) (fZ\aT ji (ir hu (pv 2) (ao\ae (ixx bQ (pv 5) ah) (pa1\pv 1)) λ_ _=>rfl) (pv 5) rfl))\aj (dN\dX eO Dl Qc zg (pv 5) (ae ah\pa1 (ir hu (pv 2) (ao\ae (ixx bQ (pv 5) ah) (pa1\pv 1)) λ_ _=>rfl))))
   (af (qR (i:=3) (N:=["_law_p","_law_fan"]) (fr:=[gf,gh 5]) (tt:=gg\tOp (rIn [] gm) (aN 0) (aN 1)) cpK rfl (bT\pv 3)
    (λC' s' H' fp Sn=>#[gx 0 (⋯:(["_law_p","_law_fan"]:-Str).Nodup),gW\aT ji (pv 0) (pv 1) rfl,pv 0]) l7.nd rfl (.l rfl))
   (aj\dN (dX eO gG gH fB (pv 4)\pa1 (pv 5))))))))
  (aj\aF (pv 4))))),?_]
 let c1:=line5000;let k:=g.sk;erw[2,T,vt,ts,1,hT,ht,(),g.nd,λD H1 c2 s1 hD=>?_];erw[2,D,1,.o #[_,hD],λks vs hk=>.o #[_,uO\iK (K:=[]) hD hk,?_,λp ix O pm _=>?_]]
 .rw[aE\iK (K:=[]) hD hk,av,eF];lia
 let bA:=iK (K:=[]) hD hk;let lk:=aE bA;walk_at"H1 p O H2 s2 y2";let#[b9,a1,al]:=#[(λi hi=>iF.mp\pm.mem_iff.mp hi:∀i∈ix,i<↑ks),qr (Paired.imp' (by rintro _ _ ⟨a,e,h⟩;erw[a,e,s2>>h]) bA:SdsAt H2 ks\(ents ts).map (·.1)) ix b9,(zc (by rw[<-lk];show pm):(ix.map λi=>((ents ts).map (·.1)).getD i (0,0)).Perm ((ents ts).map (·.1)))];generalize (ix.map λi=>((ents ts).map (·.1)).getD i (0,0))=ss at a1 al;generalize (ix.map λi=>ks.getD i .non)=zs at a1 y2;let lz:=aE a1;let ca:↑ss<=600:=by rw[al.length_eq,av,eF];lia
 erw[p,1,#[_,SqL.of y2],λZ_ hZ=>dM (K:=[]) (a:=p) (xs:=zs) (λi Z ys H'=>∃o1 o2,Z=[o1,o2,gh\.i (v:Int)]/\ys=nV (((ss.take i).filter λs=>decide (s.1=v)).map (·.2))/\Same H2 H'/\H' Z_*>.a ys) #[gf,gf,5,bG hZ,aH] (by rintro i Z ys H' _ ⟨_,_,_,_,e,_⟩;show SqL.of (e>>y2)) ?_ ?_]
 .rintro i y Z ys H' hi ⟨o1,o2,rfl,rfl,L,R⟩;let#[#[a,b],hs,c,1,I]:=bY a1 hi;let et:ss.take (i+1)=ss.take i++[(a,b)]:=by rw[bC,hs];rfl
  erw[c,2,SqT.of (L>>I),1,9,6,?_];erw[3,7,?_];change if decide (V.int (a:Int)=V.int (v:Int))=gm then _ else _
  rw[gk];by_cases a6:a=v
  .rw[Si (by rw[a6])];show aL #[2,R,?_,λH3 k3 y3=>#[9,?_,λb o e=>(k3 b\ak e hZ)<*(L>>e),y3]]
   .rw[bE,av];let h1:=dJ (λs:Nat×Nat=>decide (s.1=v))\ss.take i;rw[bz] at h1;lia
   rw[et,gA,fq,Sh\Si a6,ng,aV,<-fE];rfl
  rw[Sj ()];show aA #[9,?_,L,R];rw[et,gA,fq,Sg (by simp[a6]),ng,eY]
 rintro Z ys H3 ⟨o1,o2,rfl,rfl,L,R⟩;rw[lz,cm] at R;let bb:∀x,x∈((ss.filter λs=>decide (s.1=v)).map (·.2))↔∃q,En ts v x q:=by
  intro x;rw[ax];constructor
  .rintro⟨⟨a,b⟩,hm,rfl⟩;rw[eL,al.mem_iff] at hm;let#[#[hm,ha],ha,#[#[e1,c],he,e2],e2]:=#[hm,(Sl ha:a=v),ax.mp hm,(e2:e1=(a,b))];subst e2 ha;erw[c,he]
  rintro⟨c,I⟩;erw[(v,x),eL.mpr #[al.mem_iff.mpr\ax.mpr #[_,I,1],Si rfl],1]
 let bK:((ss.filter λs=>decide (s.1=v)).map (·.2)).Nodup:=by
  let cb:ss.Nodup:=al.nodup_iff.mpr g.nd;have:∀l:-(Nat×Nat),l.Nodup->((l.filter λs=>decide (s.1=v)).map (·.2)).Nodup:=by
   intro l;induction l with
   |nil=>intro _;show jT
   |cons x l ih=>
    intro h;rw[eR] at h;rw[fq]
    split
    .rename_i hx;rw[bu,eR];erw[λz=>?_,ih h.2];let#[y,hy,e]:=ax.mp z;rw[eL] at hy;let h1:y.1=v:=Sl hy.2;let h2:x.1=v:=Sl hx;have:y=x:=nr (h1<*h2.symm) e;show h.1 (this ▸ hy.1)
    show ih h.2
  show this ss cb
 let bM:↑((ss.filter λs=>decide (s.1=v)).map (·.2))<=600:=by rw[av];show cQ (dJ _ _) ca
 generalize ((ss.filter λs=>decide (s.1=v)).map (·.2))=cc at bb bK bM R;let q3:=(s1<*s2)<*L;erw[aZ _,λr H4 cd s4 y4=>?_];let q4:=q3<*s4;let ce:=(s2<*L<*s4) _ _ hD;erw[λm Z H'=>∃v5 S lf r gs fs,Z=[gh\V.ref T,gh\.i (v:Int),gh\.r D,gh\.r S,gh\.r r,v5]/\m=↑lf/\H r=gf/\Same H H'/\H' D*>.dT ((ents ts).map bB)/\H' S*>.a (nV lf)/\H' r*>.a gs/\iY H' gs fs/\lf.Nodup/\
   (∀x∈lf,∃q,En ts v x q)/\(∀F∈fs,Fan (En ts) v F)/\(∀x,(∃q,En ts v x q)->x∈lf\/∃F∈fs,x∈F)/\(∀x∈lf,∀F∈fs,x∉F)/\(fs.Pairwise λF G=>∀x∈F,x∉G)/\↑fs+↑lf<=600/\V.ref r∉gs,
  #[_,gf,Z_,cc,r,[],[],5,q3.free cd,q4,ce,s4>>R,y4,.nil,bK,λx hx=>(bb x).mp hx,∅,λx hx=>.l\(bb x).mpr hx,∅,List.Pairwise.nil,‹bM›,∅],?_]
 rintro m Z H5 ⟨v5,S,lf,r,gs,fs,rfl,rfl,bc,sm,cf,bd,bN,be,cg,bi,bl,bm,bS,bX,hsz,b0⟩;erw[2,aZ _,λpe H6 c3 s6 y6=>?_];erw[0,.a (SqL.of (s6>>bd))\MJ lf,.a (SqL.of y6) .nil,cQ (MO lf) ⋯,2,?_];rw[Sh rfl,Iz];cases lf with
 |nil=>
  show aA ?_;erw[2,q r gs fs H6 bc (sm<*s6) (s6>>bN) (be.same s6) #[bl,λx hx=>?_,bX] (by simp at hsz;lia)];show (bm x hx).resolve_left ∅
 |cons x0 lf=>
  show aL ?_;let ci:=bi x0 ∅;erw[_,λZ' H' h=>h,?_];erw[2,S,_,(0),V.int (x0:Int),5,SqL.of (s6>>bd),Br rfl,lit1,λfa H7 cj s7 y7=>?_];let#[nD,X,bn]:=#[(λe=>ak e cj:∀{b:i4}{ob:HO},H6 b*>ob->b≠fa),s6>>cf,s6>>bd];show yO (λZ H'=>∃F,Z=[gh\V.ref T,gh\.i (v:Int),gh\.r D,gh\.r S,gh\.r r,gh\.r fa]/\Same H6 H'/\H' fa*>.a (nV F)/\Run ts v x0 F/\∀p,F.getLast?*>p->∀q,En ts v p q->q∈x0::lf->q∈F) (λNX z=>?_) ?_
  .refine#[λm Z H'=>∃F,Z=[gh\V.ref T,gh\.i (v:Int),gh\.r D,gh\.r S,gh\.r r,gh\.r fa]/\m=1000-↑F/\Same H6 H'/\H' fa*>.a (nV F)/\Run ts v x0 F,#[_,[x0],5,s7,y7,Ju ci],?_];rintro m Z H8 ⟨F,rfl,rfl,Y,d,rn⟩;let#[b1,#[p,O],ap]:=#[vB rn hl,Bb\vV rn,KP O];erw[2,D,1,.o #[_,.l (Y>>X)],3,2,fa,4,SqL.of d,ap,lit2,λk1 H9 g1 j y9=>?_];let B:=Y<*j;rcases qA g v p with ⟨c,I,e⟩|⟨I,e⟩
   .refine#[_,e ▸ DGet.t (k:=ky v p) (B>>X) y9,2,S,2,.l\SqL.of (B>>bn),1,iS _,2,?_];change if (if hB=gm then _ else inV (V.int (c:Int)) (nV (x0::lf)))=gm then _ else _
    rw[Sg bH,g_];by_cases a2:c∈x0::lf
    .rw[Si a2];show aL ?_;erw[3,3,fa,4,SqL.of (j>>d),ap,lit2,λk2 b2 g2 M am=>?_];let ag:=B<*M;erw[D,V.int (c:Int),1,e ▸ DGet.t (k:=ky v p) (ag>>X) am,2,fa,2,.l\SqL.of (M>>j>>d),1,iS _,2,?_];change if (if gm=gm then !inV (V.int (c:Int)) (nV F) else _)=gm then _ else _
     rw[Sh rfl,g_];by_cases ab:c∈F
     .rw[Si ab];show aA\z _ _ #[F,1,ag,M>>j>>d,rn,λp' C q hq _=>?_];rw[O] at C;cases C;rw[k.one hq I];show ab
     rw[Sj ab];show aL #[_,λZ' H' h=>h,?_];erw[2,.l #[1,_,SqL.of (M>>j>>d)],3,3,fa,4,SqL.of (M>>j>>d),ap,lit2,λk3 cl g3 an bt=>?_];let aM:=ag<*an;erw[D,V.int (c:Int),1,e ▸ DGet.t (k:=ky v p) (aM>>X) bt,fa,6,an>>M>>j>>d,by rw[bE];lia,λco bw bx=>?_];erw[_,?_,F++[c],5,λb' o e=>(bw b'\nD e)<*(aM>>e),?_,Jw rn O I (bi c a2) ab]
     .rw[bo,cV];lia
     rw[bx];simp[nV]
    rw[Sj a2];show aA\aA (z _ _ #[F,1,B,j>>d,rn,λp' C q hq b3=>?_]);rw[O] at C;cases C;rw[k.one hq I] at b3;show (a2 b3).elim
   erw[_,e ▸ DGet.t (k:=ky v p) (B>>X) y9,2,S,2,.l\SqL.of (B>>bn),1,iS _,2,?_];change if (if hB=gm then _ else inV V.non (nV (x0::lf)))=gm then _ else _
   rw[Sg bH,Kt];show aA\aA (z _ _ #[F,1,B,j>>d,rn,λp' C q hq _=>?_]);rw[O] at C;cases C;show (I q hq).elim
  rintro Z H8 ⟨F,rfl,Y,d,rn,ad⟩;clear y7 s7 H7;show yO (λZ H'=>∃F,Z=[gh\V.ref T,gh\.i (v:Int),gh\.r D,gh\.r S,gh\.r r,gh\.r fa]/\Same H6 H'/\H' fa*>.a (nV F)/\Run ts v x0 F/\(∀p,F.getLast?*>p->∀q,En ts v p q->q∈x0::lf->q∈F)/\∀p,F.head?*>p->∀o,En ts v o p->o∈F) (λNX z=>?_) ?_
  .refine#[λm Z H'=>∃F,Z=[gh\V.ref T,gh\.i (v:Int),gh\.r D,gh\.r S,gh\.r r,gh\.r fa]/\m=1000-↑F/\Same H6 H'/\H' fa*>.a (nV F)/\Run ts v x0 F/\∀p,F.getLast?*>p->∀q,En ts v p q->q∈x0::lf->q∈F,#[_,F,5,Y,d,rn,ad],?_];clear ad rn d Y;clear F H8;rintro m Z H8 ⟨F,rfl,rfl,Y,d,rn,ad⟩;let#[b1,#[p,O],ap]:=#[vB rn hl,Ku\vV rn,Br O];erw[2,fa,4,SqL.of d,ap,2,lit2,λk1 H9 g1 j y9=>?_];let B:=Y<*j;rcases qA g p v with ⟨c,I,e⟩|⟨I,e⟩
   .refine#[2,D,2,e ▸ DGet.t (k:=ky p v) (B>>X) y9,2,?_];show aL ?_;erw[3,fa,4,SqL.of (j>>d),ap,2,lit2,λk2 b2 g2 M am=>?_];let ag:=B<*M;erw[D,V.int (c:Int),1,e ▸ DGet.t (k:=ky p v) (ag>>X) am,2,fa,2,.l\SqL.of (M>>j>>d),1,iS _,2,?_];change if (if gm=gm then !inV (V.int (c:Int)) (nV F) else _)=gm then _ else _
    rw[Sh rfl,g_];by_cases ab:c∈F
    .rw[Si ab];show aA\z _ _ #[F,1,ag,M>>j>>d,rn,ad,λp' C o ho=>?_];rw[O] at C;cases C;rw[k.one (k.rot\k.rot ho) I];show ab
    rw[Sj ab];show aL #[_,λZ' H' h=>h,?_];erw[2,.l #[1,_,SqL.of (M>>j>>d)],3,fa,4,SqL.of (M>>j>>d),ap,2,lit2,λk3 cl g3 an bt=>?_];let aM:=ag<*an;erw[D,V.int (c:Int),1,e ▸ DGet.t (k:=ky p v) (aM>>X) bt,fa,_,(0),2,1,an>>M>>j>>d,aZ _,by rw[bE];lia,λco bw bx=>?_];erw[_,?_,c::F,5,λb' o e=>(bw b'\nD e)<*(aM>>e),?_,Jv rn O (k.rot I) ab,λp' C q hq cp=>?_]
    .rw[ck];lia
    .rw[bx];simp[nV]
    show dz _\ad p' ?_ q hq cp;rw[<-C];let#[z,hz]:=Bb\vV rn;rw[List.getLast?_cons,hz];rfl
   erw[2,D,2,e ▸ DGet.t (k:=ky p v) (B>>X) y9,2,?_];show aA\aA (z _ _ #[F,1,B,j>>d,rn,ad,λp' C o ho=>?_]);rw[O] at C;cases C;show (I _\k.rot (k.rot ho)).elim
  clear ad rn d Y;clear F H8;rintro Z H8 ⟨F,rfl,Y,d,rn,ad,cr⟩;let#[b1,#[fF,dF],b4]:=#[vB rn hl,Iv k bl bm bS rn.nd rn.key rn.ch rn.x1 ∅ ad cr,Y>>bn];erw[2,S,1,#[_,SqL.of b4],λZ_ hZ=>dM (K:=[]) (a:=S) (xs:=nV (x0::lf)) (λi Z ys H'=>∃o,Z=[o,gh\.r fa]/\ys=nV (((x0::lf).take i).filter λp=>decide (p∉F))/\Same H8 H'/\H' Z_*>.a ys) #[gf,5,bG hZ,aH] (by rintro i Z ys H' _ ⟨_,_,_,e,_⟩;show SqL.of (e>>b4)) ?_ ?_]
  .rintro i y Z ys H' hi ⟨o,rfl,rfl,L,R⟩;rw[nV,br] at hi;let#[n,hn,1]:=cz.mp hi;let et:(x0::lf).take (i+1)=(x0::lf).take i++[n]:=by rw[bC,hn];rfl
   erw[3,fa,2,.l\SqL.of (L>>d),1,iS _,2,?_];change if (if gm=gm then !inV (V.int (n:Int)) (nV F) else _)=gm then _ else _
   rw[Sh rfl,g_];by_cases a3:n∈F
   .rw[Si a3];show aA #[2,?_,L,R];rw[et,gA,fq,Sg (by simp[a3]),ng,eY]
   rw[Sj a3];show aL #[2,R,?_,λH3 k3 y3=>#[2,?_,λb o e=>(k3 b\ak e hZ)<*(L>>e),y3]]
   .rw[bE];let h1:=dJ (λp=>decide (p∉F))\(x0::lf).take i;rw[bz] at h1;rw[ck] at hsz h1;lia
   rw[et,gA,fq,Sh (by simp[a3]),ng,<-fE];rfl
  rintro Z ys H9 ⟨o,rfl,rfl,L,R⟩;rw[bE,cm] at R;let e0:((x0::lf).filter λp=>decide (p∉F))=lf.filter λp=>decide (p∉F):=by rw[fq,Sg (by simp[rn.x1])]
  let l0:=dJ (λp=>decide (p∉F)) lf;rw[<-e0] at l0;let a4:∀x,x∈((x0::lf).filter λp=>decide (p∉F))↔x∈x0::lf/\x∉F:=λx=>by rw[eL,decide_eq_true_eq]
  let cx:((x0::lf).filter λp=>decide (p∉F)).Nodup:=cg.filter _;generalize ((x0::lf).filter λp=>decide (p∉F))=b5 at *;let#[B,a5,b6,hg]:=#[Y<*L,s6>>bN,B>>a5,aE be];rw[ck] at hsz;erw[2,.l #[1,_,SqL.of b6],2,r,gs,2,1,b6,by rw[hg];lia,λb2 aS am=>?_];let b8:r≠fa:=nD a5;let cy:D≠r:=λz=>by rw[z,a5] at X;cases X
  let cZ:Z_≠r:=λz=>by rw[z,Y>>a5] at hZ;cases hZ
  let sH:Same H H9:=(sm<*s6)<*B;erw[↑b5,by rw[ck];lia,_,Z_,b5,r,gs++[V.ref fa],fs++[F],5,bc,λb' o e=>(aS b'\ak e bc)<*(sH>>e),(aS D cy)<*(B>>X),(aS Z_ cZ)<*R,am,?_,cx,λx hx=>bi x ((a4 x).mp hx).1,?_,?_,?_,?_,?_,?_]
  .refine bR ?_\.c #[fa,1,(aS fa\aB b8)<*(L>>d)] .nil;show EN (by rintro u l hu ⟨a,e1,e2⟩;erw[a,e1,(aS a λz=>b0 (by rw[<-z,<-e1];show hu))<*(B>>s6>>e2)]) be
  .intro G hG;rcases a9.mp hG with h|h
   .exact bl G h
   rw[aG.mp h];show fF
  .intro x hx;rcases bm x hx with h|⟨G,hG,h⟩
   .by_cases a0:x∈F
    .exact .o #[F,∅,a0]
    show .l\(a4 x).mpr #[h,a0]
   show .o #[G,eK _ hG,h]
  .intro x hx G hG;rcases a9.mp hG with h|h
   .exact bS x ((a4 x).mp hx).1 G h
   rw[aG.mp h];show ((a4 x).mp hx).2
  .refine xn.mpr #[bX,ug _ _,λG hG F' c0 x hx a0=>?_];rw[aG.mp c0] at a0;show dF x a0 G hG hx
  .rw[bo,cV];lia
  intro z;rcases a9.mp z with h|h
  .exact b0 h
  have:=aG.mp h;cases this;show b8 rfl
end
section
variable {ts us:-Tri}{a b c d x:Nat}
def wo(us gone:-Tri):-Tri:=us.filter λt=>!decide (t∈gone.map bg)
def ne3(g:Good ts)(e:En ts a b c):Ne3 (a,b,c):=#[g.sk.ne e,g.sk.ne\g.sk.rot e,g.sk.ne\g.sk.rot (g.sk.rot e)]
def turned(us:-Tri)(a b c d:Nat):-Tri:=wo us [(a,b,c),(b,a,d)]++[(a,d,c),(d,b,c)]
def inn(us:-Tri)(a b c x:Nat):-Tri:=wo us [(a,b,c)]++[(a,b,x),(b,c,x),(c,a,x)]
def onto(k x c:Nat):Nat:=if c=x then k else c
def rep(k x:Nat)(t:Tri):Tri:=(onto k x t.1,onto k x t.2.1,onto k x t.2.2)
def both(k x:Nat)(t:Tri):Bool:=!decide (k∈[t.1,t.2.1,t.2.2])||!decide (x∈[t.1,t.2.1,t.2.2])
def dwn(us:-Tri)(k x:Nat):-Tri:=(us.filter\both k x).map\rep k x
end
def prs(l:-Nat):-(Nat×Nat):=l.zip (l.drop 1++l.take 1)
def iO(l:-Nat):↑(prs l)=↑l:=by unfold prs;rw[Pk,bo,eJ,bz];lia
def vE(l:-Nat):(prs l).map (·.1)=l:=by unfold prs;show List.map_fst_zip ?_;rw[bo,eJ,bz];lia
def FM{α β:Type}(f:α->β){l:List α}(h:(l.map f).Nodup):l.Nodup:=by rw[List.Nodup,gC] at h;show h.imp λh z=>h\congrArg f z
def vY{l:-Nat}(h:l.Nodup):(prs l).Nodup:=FM (·.1) (by rw[vE];show h)
def JR{l:-Nat}{i p q:Nat}(h1:l[i]?*>p)(h2:l[i+1]?*>q):(prs l)[i]?*>(p,q):=by let a:=(aO.mp h2).1;unfold prs;rw[nh];erw[h1,?_];rw[eA (by rw[eJ];lia),w_,Pr];show h2
def Hv{l:-Nat}{p q:Nat}(h1:l.getLast?*>p)(h2:l[0]?*>q):(p,q)∈prs l:=by let a:=(aO.mp h2).1;show a_ (i:=↑l-1) ?_;unfold prs;rw[nh];erw[by rw[<-jQ];show h1,?_];rw[h_ (by rw[eJ];lia),eJ,show ↑l-1-(↑l-1)=0 by lia,ud ()];show h2
def LW{l:-Nat}{p q:Nat}(h:(p,q)∈prs l):(∃i,l[i]?*>p/\l[i+1]?*>q)\/(l.getLast?*>p/\l[0]?*>q):=by
 let#[i,hi]:=eZ.mp h;unfold prs at hi;rw[nh] at hi;let#[h1,h2]:=hi;let a:=(aO.mp h1).1;by_cases c:i+1<↑l
 .rw[eA (by rw[eJ];lia),w_,Pr] at h2;show .l #[i,h1,h2]
 rw[h_ (by rw[eJ];lia),eJ,show i-(↑l-1)=0 by lia,ud ()] at h2;show .o #[?_,h2];rw[jQ,show ↑l-1=i by lia];show h1
structure Cy(R:Nat->Nat->Prop)(l:-Nat):Prop where
 nd:l.Nodup
 st:∀p q,(p,q)∈prs l->R p q
def wz{R:Nat->Nat->Prop}(h:Path R l)(a:∀z s,l[↑l-1]?*>z->l[0]?*>s->R z s):Cy R l:=by
 erw[h.nd,λp q b=>?_];rcases LW b with ⟨i,h1,h2⟩|⟨h1,h2⟩
 .exact h.ch i p q h1 h2
 rw[jQ] at h1;show a p q h1 h2
def qS{l:-Nat}{p:Nat}(h:p∈l):∃q,(p,q)∈prs l:=by rw[<-vE l] at h;let#[#[a,b],h1,1]:=ax.mp h;erw[b,h1]
def ip{A B:TS}{D:Ends}(R:St->Hp->Prop)(b:∀a:St->Hp->Prop,(∀Z H,R Z H->a Z H)->A {D with nx:=a} Z H)(c:∀Z H,R Z H->B D Z H):wD A B D Z H:=b (B D) c
def j9{x:V}{i:Nat}{B:TS}{D:Ends}(h:B D (Z.set i\gh x) H):wD (oS (tC x)\dv i) B D Z H:=h
def Jx{v a b c:Nat}{F:-Nat}(h1:a=v->b∉F)(h2:b=v->c∉F)(d:c=v->a∉F):rn v n F a b=a/\rn v n F b c=b/\rn v n F c a=c:=by unfold rn;erw[Sg λz=>h1 z.1 z.2,Sg λz=>h2 z.1 z.2,Sg λz=>d z.1 z.2]
def LG{v n a b c:Nat}{F:-Nat}(h:a=v/\b∈F\/b=v/\c∈F\/c=v/\a∈F)(d:a≠b)(e:b≠c)(f:c≠a):
  rn v n F a b=(if a=v then n else a)/\rn v n F b c=(if b=v then n else b)/\rn v n F c a=if c=v then n else c:=by
 unfold rn;rcases h with ⟨rfl,h⟩|⟨rfl,h⟩|⟨rfl,h⟩
 .exact#[by rw[Sh #[1,h],Sh rfl],by rw[Sg λz=>d z.1.symm,Sg λz=>d z.symm],by rw[Sg λz=>f z.1,Sg f]]
 .exact#[by rw[Sg λz=>d z.1,Sg d],by rw[Sh #[1,h],Sh rfl],by rw[Sg λz=>e z.1.symm,Sg λz=>e z.symm]]
 erw[by rw[Sg λz=>f z.1.symm,Sg λz=>f z.symm],by rw[Sg λz=>e z.1,Sg e],by rw[Sh #[1,h],Sh rfl]]
def Gr(vs:-V)(H:Hp)(Q:VK)(T:i4)(b:-V)(ts:-Tri):Prop:=vs=[.r T]/\H T*>.a b/\ay H b ts/\↑ts<=20/\Good ts/\
 ∀r vr a H',Same H H'->H' r*>.a vr->ay H' vr a->↑a=↑ts->Good a->(∀u,Co a u->One (En a) u)->Q (.r r) H'
def vw:Sp:=fj Gr
section
def iq:aQ [↑0,↑9,"_law_fan",↑97,"_law_made",↑8,"_law_at_here"] [↑0] (au rH):=.f
def HH{f f1 f2:i4}{fd d1 d2:kS}(U:Fun K ↑75 ↑75 rH f fd)(T:cv mg)(mM:mg "max" = gf)
  (G1:!Use 2 ↑18 [↑0] iL f1 d1)
  (G2:!Use 2 ↑80 [↑0,↑9] rf f2 d2) :
  !az CX0 3 f fd [↑0] vw:=by
 show U.ok iq (!3) λ_ _ _ _ H _ Q _ hr h=>?_
 let#[T0,vt,ts,1,hT,ht,hl,g,q]:=h;let D:=dC hr;erw[_,(af (dD dA rfl (bT\uc G1 hr (pa1\pv 0)) (gx 1 iq.nd)\aj (dD dA rfl (bT\iN lN (uc G2 hr\ae (pv 0) (pa1\pv 1)) (iP ah) iQ) (gx 2 iq.nd) (af (sx 3 iq.nd\aD cU (bP (p4 rfl) (by rfl) mM xE\pa1 (uc G1 hr\pa1 (pv 0))) ah)
  (af (sx 4 iq.nd\bp fh)
  (af (dD dA rfl (bT\pv 0) (gx 5 iq.nd) (af (sx 6 iq.nd ah)
  (af (bf (aT j2 (pv 1) (pv 5) rfl) (aj\sx 6 iq.nd (Cz PZ Dm Qe (zh hr.units) (pv 5)\pa1 (pv 1))) ba)
  (af (bf (PW.pt\fQ (aT tm (pv 6) ah\nomark _) (fZ\aT j2 (ixx a7 (pv 5)\aD fT (aD cU (pv 6) ah) ah) (pv 2) rfl)) (aj\sx 5 iq.nd (de lh (by rfl) T.tuple jW\pa1 (dq (N:=[↑67,↑97,↑9]) (fr:=[gf,gh 3,gh 1]) (te:=tOp (tN []) (tH\bZ (aN 0) (bZ (aN 1) dH))\tCB (λxs H Q=>(∃i,xs=[.i i]/\Q (.i i) H)\/∃k,xs=[.bl k]/\Q (.i (if k then 1 else 0)) H) (bZ (tOp rEq (aN 0)\aN 2) dH)) cpK rfl (l_\pv 5)
    (λC' s' H' fp Sn=>#[gx 0 (⋯:([↑67,↑97,↑9]:-Str).Nodup),dZ,CB bQ (bp\ae (pv 0) (pa1\pv 1)) (de gL (by rfl) T.int ie\pa1 (ff cn (pv 0) (pv 2)\nomark _)) λ_ _=>rfl])))) ba)
  (aj\dN (dX eO gG gH fB (pv 4)\pa1 (pv 5)))))))
  (aj\sx 0 iq.nd (pv 4)))))))
  (aj\aF (pv 0))),?_]
 let cf:=line5000;erw[2,T0,vt,ts,1,hT,ht,(),λr0 cs H1 cg s1 y1 bX ch=>?_];erw[r0,1,#[_,SqL.of y1],fC (K:=[]) (a:=r0) (xs:=nV cs) (λi Z H'=>∃v1 M O R B C d l tc,Z=[gh\V.ref d,v1,M,O,R,B,C]/\Same H1 H'/\H' d*>.a l/\ay H' l tc/\↑tc=↑ts/\Good tc/\∀u,Co tc u->u∈cs.drop i\/One (En tc) u)
  #[gf,gf,gf,gf,gf,gf,T0,vt,ts,1,Same.refl _,s1>>hT,ht.same s1,1,g,λu D=>.l ?_] (by rintro i Z H' _ ⟨_,_,_,_,_,_,_,_,_,_,e,_⟩;show SqL.of (e>>y1)) ?_ ?_]
 .rw[CZ,bX.2];let#[t,a0,D]:=cK.mp D;show jd.mpr #[t,a0,‹D›]
 .rintro i x Z H2 hi ⟨v1,M,O,R,B,C,d,l,tc,rfl,a1,L,I,Y,gc,oc⟩;rw[nV,br] at hi;let#[v,hv,1]:=cz.mp hi;let bd:=(aO.mp hv).1;let b0:cs.drop i=v::cs.drop (i+1):=by
   rw[i_ bd,(aO.mp hv).2]
  rw[b0] at oc;erw[3,d,l,tc,v,1,L,I,(),gc,λr gs fs H3 ci s3 y3 be bi cj=>?_];erw[(1),1,r,gs,1,SqL.of y3,λp H4 hp s4 y4=>?_];rw[show fk gs (gh 1) gf=gs.drop 1 from u_ gs 1] at y4;let bm:=(a1<*s3)<*s4;cases fs with
  |nil=>
   cases be;erw[p,1,#[_,SqL.of y4],fC (K:=[]) (a:=p) (xs:=[]) (λj Z H'=>Z=[gh\V.ref d,gh\.i (v:Int),M,O,R,B,C]/\H'=H4) #[5] (λj Z H' _ ⟨_,e⟩=>by rw[e];show SqL.of y4) (λj x Z H' h=>by simp at h) ?_];rintro Z H' ⟨rfl,rfl⟩;erw[8,8,d,l,tc,1,bm,s4>>s3>>L,(I.same s3).same s4,Y,gc,Ib bi oc]
  |cons F0 fs=>
   let#[g0,gs,1,cl,bn]:∃g0 bt,gs=g0::bt/\oZ H3 g0 F0/\iY H3 bt fs:=by
    cases be with
    |cons a b=>erw[9,a,b]
   erw[p,1,#[_,SqL.of y4],fC (K:=[]) (a:=p) (xs:=gs) (λj Z H'=>∃M O R B C d l tc,Z=[gh\V.ref d,gh\.i (v:Int),M,O,R,B,C]/\Same H4 H'/\H' d*>.a l/\ay H' l tc/\↑tc=↑ts/\Mid tc v F0 (fs.drop j)\cs.drop (i+1))
    #[M,O,R,B,C,d,l,tc,1,Same.refl _,s4>>s3>>L,(I.same s3).same s4,Y,FQ gc bi oc] (by rintro j Z H' _ ⟨_,_,_,_,_,_,_,_,_,e,_⟩;show SqL.of (e>>y4)) ?_ ?_]
   .rintro j x Z H5 hj ⟨M,O,R,B,C,d,l,tc,rfl,am,L,I,Y,md⟩;let#[F,hF,fa,1,b1]:=bY bn hj;let b2:=(aO.mp hF).1;let b3:fs.drop j=F::fs.drop (j+1):=by
     rw[i_ b2,(aO.mp hF).2]
    rw[b3] at md;let b4:=am>>s4>>b1;erw[2,d,l,tc,1,L,I,(),λrc a2 H6 co s6 y6 b5 cp=>?_];let ev:nV a2=(a2.map λc:Nat=>(c:Int)).map V.int:=by rw[cw];rfl
    let bw:∀u,Co tc u->u∈a2:=λu D=>by
     rw[b5.2];let#[t,a0,D]:=cK.mp D;show jd.mpr #[t,a0,‹D›]
    let bx:Co tc v:=by let fF:=md.fans.fan F ∅;let#[p,hp]:=wZ _ fF.ne;let#[q,hq]:=fF.key p hp;erw[p,q,hq]
    erw[rc,2,SqL.of (by rw[y6,ev]),λz=>?_,λm hm b6=>#[6,?_]]
    .have:=bw v bx;rw[xl.mp z] at this;cases this
    let#[n0,cr,1]:=ax.mp hm;let a3:∀u,Co tc u->u≠n0+1:=λu D z=>by
     have:=b6 (u:Int)\ax.mpr #[u,bw u D,1];lia
    let en:V.int ((n0:Int)+1)=V.int ((n0+1:Nat):Int):=rfl;let bA:=Ia md a3;let b8:=a3 v bx;generalize n0+1=n at a3 en bA b8;erw[aZ _,λmo H7 b9 s7 y7=>?_];let ca:=s7>>s6>>L;let cx:=(I.same s6).same s7;erw[2,d,1,#[_,SqL.of ca],fC (K:=[]) (a:=d) (xs:=l) (λk Z H'=>∃B C vm,Z=[gh\V.ref d,gh\.i (v:Int),gh\.r fa,gh\.i (n:Int),gh\.r mo,B,C]/\Same H6 H'/\H' mo*>.a vm/\ay H' vm\(tc.take k).map (ren v n F))
     #[B,C,[],by rw[<-en];rfl,s7,y7,.nil] (by rintro k Z H' _ ⟨_,_,_,_,e,_⟩;show SqL.of (e>>s6>>L)) ?_ ?_]
    .rintro k x Z H8 hk ⟨B,C,vm,rfl,ad,a4,ag⟩;let#[#[#[a,b,c],hs,t,1,hb],hb,S,cb]:=#[bY I hk,(hb:H5 t*>.u [.i (a:Int),.i (b:Int),.i (c:Int)]),ad>>s6>>hb,ad>>s6>>b4];let#[n1,n2,n3]:a≠b/\b≠c/\c≠a:=md.good.ne (a,b,c)\a_ hs;let et:(tc.take (k+1)).map (ren v n F)=(tc.take k).map (ren v n F)++[(rn v n F a b,rn v n F b c,rn v n F c a)]:=by rw[bC,hs,aV];rfl
     let cy:↑vm<=20:=by rw[aE ag,av,bz];lia
     show j9 ?_;show ip (λZ H'=>∃j:Nat,Z=[gh\V.ref d,gh\.i (v:Int),gh\.r fa,gh\.i (n:Int),gh\.r mo,gh\.r t,gh\.i (j:Int)]/\H'=H8/\(j=3/\a≠v/\b≠v/\c≠v\/j=0/\a=v\/j=1/\b=v\/j=2/\c=v)) (λNX z=>?_) ?_
     .refine#[3,t,2,.o\SqT.of S,5,2,?_];change if (if hB=gm then _ else inV (V.int (v:Int)) (nV [a,b,c]))=gm then _ else _
      rw[Sg bH,g_];by_cases ab:v∈[a,b,c]
      .rw[Si ab];show aL #[2,#[t,2,.l S],2,?_];let dts:Dts [] H8 [V.int (a:Int),.i (b:Int),.i (c:Int)] [.i (a:Int),.i (b:Int),.i (c:Int)]:=.c (.i _)\.c (.i _) (.c (.i _) .nil);let al:∀x y:Nat,PyData.eqv (.i (x:Int)) (.i (y:Int))=decide (x=y):=λx y=>by
        rw[eX];simp[PyData.eqv];lia
       let dd:(PyData.int (v:Int)).depth<=60:=by simp[PyData.depth]
       by_cases ha:a=v
       .exact#[t,8,_,(0),5,SqT.of S,dts,.i _,dd,∅,by change PyData.eqv (.i (a:Int)) _=gm;rw[al];show Si ha,λm hm=>(),z _ _ #[(0),5,.o\.l #[1,ha]]]
       let f0:PyData.eqv (.i (a:Int)) (.i (v:Int))=hB:=by rw[al];show Sj ha
       by_cases an:b=v
       .refine#[t,8,_,(1),5,SqT.of S,dts,.i _,dd,∅,by change PyData.eqv (.i (b:Int)) _=gm;rw[al];show Si an,λm hm=>?_,z _ _ #[(1),5,.o\.o (.l #[1,an])]];obtain rfl:m=0:=();show f0
       let f1:PyData.eqv (.i (b:Int)) (.i (v:Int))=hB:=by rw[al];show Sj an
       let bK:c=v:=by
        simp only[aU,fM,or_false] at ab;rcases ab with h|h|h
        .exact (ha h.symm).elim
        .exact (an h.symm).elim
        show h.symm
       erw[t,8,_,(2),5,SqT.of S,dts,.i _,dd,∅,by change PyData.eqv (.i (c:Int)) _=gm;rw[al];show Si bK,λm hm=>?_,z _ _ #[(2),5,.o\.o (.o #[1,bK])]];obtain rfl|rfl:m=0\/m=1:=()
       .exact f0
       show f1
      rw[Sj ab];simp only[aU,fM,or_false,not_or] at ab;show aA\z _ _ #[(3),5,.l #[1,aB ab.1,aB ab.2.1,aB ab.2.2]]
     rintro Z H9 ⟨j,rfl,rfl,bM⟩;show ip (λZ H'=>∃t' w6,Z=[gh\V.ref d,gh\.i (v:Int),gh\.r fa,gh\.i (n:Int),gh\.r mo,gh\.r t',w6]/\Same H9 H'/\H' t'*>.u [.i (rn v n F a b:Int),.i (rn v n F b c:Int),.i (rn v n F c a:Int)]) (λNX z=>?_) ?_
     .let#[y,hy,bN]:∃y:Nat,(j<3->atI [V.int (a:Int),.i (b:Int),.i (c:Int)] (((j:Int)+1)%3)*>V.int (y:Int))/\(j<3->(y∈F->a=v/\b∈F\/b=v/\c∈F\/c=v/\a∈F)/\(y∉F->(a=v->b∉F)/\(b=v->c∉F)/\(c=v->a∉F))):=by
       rcases bM with ⟨rfl,_⟩|⟨rfl,h⟩|⟨rfl,h⟩|⟨rfl,h⟩
       .exact#[(0),λz=>(),λz=>()]
       .exact#[b,λ_=>aW (j:=1) rfl,λ_=>#[λz=>.l #[h,z],λz=>#[λ_=>z,λe=>(n1\h.trans e.symm).elim,λe=>(n3\e.trans h.symm).elim]]]
       .exact#[c,λ_=>aW (j:=2) rfl,λ_=>#[λz=>.o\.l #[h,z],λz=>#[λe=>(n1\e.trans h.symm).elim,λ_=>z,λe=>(n2\h.trans e.symm).elim]]]
       erw[a,λ_=>aW (j:=0) rfl,λ_=>#[λz=>.o\.o #[h,z],λz=>#[λe=>(n3\h.trans e.symm).elim,λe=>(n2\e.trans h.symm).elim,λ_=>z]]]
      let same:(a=v->b∉F)/\(b=v->c∉F)/\(c=v->a∉F)->NX [gh\V.ref d,gh\.i (v:Int),gh\.r fa,gh\.i (n:Int),gh\.r mo,gh\.r t,gh\.i (j:Int)] H9:=λh=>by
       let#[e1,e2,e3]:=Jx (n:=n) h.1 h.2.1 h.2.2;show z _ _ #[t,2,Same.refl _,by rw[e1,e2,e3];show S]
      erw[2,6,2,?_];change if decide ((j:Int)<3)=gm then _ else _
      by_cases hj:j<3
      .rw[Si (show (j:Int)<3 by lia)];show aL ?_;erw[3,6,6,(),t,4,SqT.of S,hy hj,2,fa,2,.l\SqL.of cb,1,iS _,2,?_];change if (if hB=gm then _ else inV (V.int (y:Int)) (nV F))=gm then _ else _
       rw[Sg bH,g_];by_cases ap:y∈F
       .rw[Si ap];show aL ?_;let#[e1,e2,e3]:=LG (n:=n) ((bN hj).1 ap) n1 n2 n3;let fv:∀z:Nat,atI [V.int (z:Int),V.int (n:Int)] (if decide ((z:Int)=(v:Int))=gm then 1 else 0)*>V.int ((if z=v then n else z:Nat):Int):=λz=>by
         by_cases h:z=v
         .rw[Sh\Si (),Sh h];show aW (j:=1) rfl
         rw[Sg (by simp;lia),Sg h];show aW (j:=0) rfl
        erw[2,t,1,#[_,SqT.of S],λZ_ hZ=>n_ (K:=[]) (a:=t) (xs:=nV [a,b,c]) (λi Z ys H'=>∃o,Z=[o,gh\.i (n:Int),gh\.i (v:Int)]/\ys=nV (([a,b,c].take i).map λz=>if z=v then n else z)/\Same H9 H'/\H' Z_*>.a ys) #[gf,5,bG hZ,aH] (by rintro i Z ys H' _ ⟨_,_,_,e,_⟩;show SqT.of (e>>S)) ?_ ?_]
        .rintro i x Z ys H' hi ⟨o,rfl,rfl,a5,a6⟩;rw[nV,br] at hi;let#[z,hz,1]:=cz.mp hi;let bd:i<3:=(aO.mp hz).1;erw[3,lit2,λl2 cZ c0 bS cc=>?_];erw[3,1,.o #[2,l2,0,V.int ((if z=v then n else z:Nat):Int),5,SqL.of cc,?_,bS>>a6,?_,λH3 k3 y3=>#[2,?_,λX o e=>(k3 X (λq=>by rw[q] at e;rw[e] at hZ;cases hZ))<*(bS>>a5>>e),y3]]]
         .rw[gk];show fv z
         .rw[bE,av,bz];simp;lia
         rw[bC,hz,aV,<-fE];rfl
        rintro Z ys H' ⟨o,rfl,rfl,a5,a6⟩;erw[Z_,2,.l #[SqL.of a6,λt' aM=>?_]];show z _ _ #[t',2,a5.trans\bG aM,by rw[aH,e1,e2,e3];rfl]
       rw[Sj ap];show aA\same ((bN hj).2 ap)
      rw[Sj (show ¬(j:Int)<3 by lia)];show aA\aA (same ?_);rcases bM with ⟨_,h1,h2,h3⟩|⟨h,_⟩|⟨h,_⟩|⟨h,_⟩
      .exact#[λz=>(h1 z).elim,λz=>(h2 z).elim,λz=>(h3 z).elim]
      all_goals lia
     rintro Z cd ⟨t',w6,rfl,aS,aM⟩;let bb:=aS>>a4;erw[2,.l #[1,_,SqL.of bb],2,mo,vm,2,1,bb,(),λc1 bc ce=>?_];erw[8,1,λX o e=>(bc X\ak e b9).trans\(ad<*aS) _ _ e,ce,?_];rw[et];let tn:∀{X:i4}{xs:-V},cd X*>.u xs->X≠mo:=λe=>bL e bb ∅;show bR (Paired.imp' (by rintro _ _ ⟨X,e1,e2⟩;erw[X,e1,(bc X\tn (aS>>e2))<*(aS>>e2)]) ag)\.c #[t',1,(bc t'\tn aM)<*aM] .nil
    rintro Z H8 ⟨B,C,vm,rfl,ad,a4,ag⟩;rw[aE I,cm] at ag;erw[2,0,8,mo,vm,2,am<*s6<*ad,a4,ag,by rw[av];show Y,bA]
   rintro Z H5 ⟨M,O,R,B,C,d,l,tc,rfl,am,L,I,Y,md⟩;rw[aE bn,CY] at md;erw[8,8,d,l,tc,1,bm<*am,L,I,Y,md.good,Kl md]
 rintro Z H2 ⟨v1,M,O,R,B,C,d,l,tc,rfl,a1,L,I,Y,gc,oc⟩;rw[bE,CY] at oc;erw[2,q d l tc H2 (s1<*a1) L I Y gc λu D=>(oc u D).resolve_left ∅]
end
def But(p:i4)(H H':Hp):Prop:=∀b o,b≠p->H b*>o->H' b*>o
def But.refl:But p H H:=λ_ _ _ e=>e
def But.same{H H':Hp}(h:But p H H')(s:Same H' a):But p H a:=λb o n e=>s>>(h b o n e)
def FX{ts d:-Tri}(g:Good ts)(h:(ents d).Perm\ents ts):Good d:=by erw[λt f=>?_,(h.map _).nodup_iff.mpr g.nd];let k:=g.sk;let#[a,b,c]:=t;let e:En ts a b c:=h.mem_iff.mp\cG.mpr (.l f);erw[k.ne e,k.ne\k.rot e,k.ne\k.rot (k.rot e)]
def lg20{n:Nat}(h:n<=1000):((n:Int)+1).natAbs.log2<9000:=by let e:((n:Int)+1).natAbs=n+1:=();rw[e];have:=xu (n:=n+1) (k:=9000) ();rw[this];show bW (show n+1<2 ^ 10 by lia) (xy ⋯ ⋯)
def qm{ts:-Tri}{x:Tri}(g:Good ts)(e:x.1≠x.2.1/\x.2.1≠x.2.2/\x.2.2≠x.1)(hf:jF ts x=gm):Good (ts++[x]):=by
 erw[λt m=>?_,?_]
 .rcases a9.mp m with h|h
  .exact g.ne t h
  rw[aG.mp h];show e
 rw[j8,aV,cD];let#[a,b,c]:=x;let#[f,j,l]:a≠b/\b≠c/\c≠a:=e;let n:∀s∈cJ (a,b,c),s∉(ents ts).map (·.1):=by intro s d;unfold jF at hf;show Sl\i9.mp hf s d
 let o:(ents [(a,b,c)]).map (·.1)=[(a,b),(b,c),(c,a)]:=rfl;rw[o];erw[g.nd,?_,λs d s' p z=>n s' p (z ▸ d)];simp[f,j,l,aB f,aB j,aB l]
def x_{l:-Nat}(nd:l.Nodup){i a:Nat}(h:l[i]?*>a):a∉l.eraseIdx i/\(l.eraseIdx i).Nodup/\(∀x∈l.eraseIdx i,x∈l)/\(l.eraseIdx i).length=↑l-1:=by
 let hi:=(aO.mp h).1;erw[λz=>?_,nd.sublist\kN l i,λx hx=>(kN l i).subset hx,xj hi];let#[j,b]:=gB z;rw[List.getElem?_eraseIdx] at b
 split at b
 .have:=j3 nd h b;lia
 have:=j3 nd h b;lia
def pops3{n s0 s1 s2:Nat}(h:s0<n)(h1:s1<n-1)(h2:s2<n-2):∃a b c,(List.range n)[s0]?*>a/\((List.range n).eraseIdx s0)[s1]?*>b/\(((List.range n).eraseIdx s0).eraseIdx s1)[s2]?*>c/\a≠b/\b≠c/\c≠a:=by
 let f:s0<↑(List.range n):=by rw[jR];show h
 let#[g,j,p,l]:=x_ (Pn (n:=n))\aR f;rw[jR] at l;let d:s1<↑((List.range n).eraseIdx s0):=();let#[m,q,o,r]:=x_ j\aR d;let e:s2<↑(((List.range n).eraseIdx s0).eraseIdx s1):=();erw[8,aR f,aR d,aR e,λz=>g ?_,λz=>m ?_,λz=>g ?_]
 .rw[z];show ja d
 .rw[z];show ja e
 rw[<-z];show o _\ja e
def Iy(l:-Nat)(k:Nat):(nV l).eraseIdx k=nV (l.eraseIdx k):=by
 induction l generalizing k with
 |nil=>rfl
 |cons a l b=>
  cases k with
  |zero=>rfl
  |succ k=>
   change _::(nV l).eraseIdx k=_;rw[b];rfl
def AJ{n k:Nat}(h:k<n):seqIndex? (k:Int) n*>k:=by show (vK ?_).1;unfold ixN;rw[Sh (),Sh ()];simp
def KO{n:Nat}(h:3<=n):(n:Int)*((n:Int)-1)*((n:Int)-2)=((n*(n-1)*(n-2):Nat):Int):=by let a:(n:Int)-1=((n-1:Nat):Int):=();let b:(n:Int)-2=((n-2:Nat):Int):=();rw[a,b,O5,O5]
def IQ{n:Nat}(h:3<=n):0<n*(n-1)*(n-2):=Py (Py () ()) ()
def KN{n:Nat}(h:n<=9):n*(n-1)*(n-2)<=504:=Px (Px h (show n-1<=8 by lia)) (show n-2<=7 by lia)
def zK{n m:Nat}(h:3<=n)(hm:m<n*(n-1)*(n-2)):m/n/(n-1)<n-2:=by rw[Nat.div_div_eq_div_mul];show Nat.div_lt_of_lt_mul hm
def GL(vs:-V)(H:Hp)(Q:VK)(p:i4)(q:Int×Int)(m:Nat):Prop:=vs=[.r p,.i (m:Int)]/\H p*>.a (bO q)/\cq q/\m<=16/\
 ∀r vr ts a H',H r=gf->But p H H'->H' p*>.a (bO a)->cq a->H' r*>.a vr->ay H' vr ts->↑ts<=m->Good ts->Q (.r r) H'
def AF:Sp:=fj GL
section
def j_:aQ [↑1,↑41,"_law_n",↑0,↑77,"_law_number","_law_left",↑8] [↑1,↑41] (au rQ):=.f
def HV{f f1 f2 f3:i4}{fd d1 d2 d3:kS}(U:Fun K ↑81 ↑81 rQ f fd)(T:cv mg)
  (GD:!Use 2 ↑30 [↑1,↑52] jq f1 d1)
  (GT:!Use 2 ↑24 [↑0] jk f2 d2)
  (GF:!Use 2 ↑79 [↑6,↑8] vS f3 d3) :
  !az CX0 3 f fd [↑1,↑41] AF:=by
 show U.ok j_ (!3) λ_ _ _ s H _ _ _ v h=>?_
 let#[p,q,m,1,hp,ag,hm,Qq]:=h;let hu:=dC v;erw[_,(af (sx 2 j_.nd\aD cU ah (uc GD v\ae (pv 0) (pa1 ah)))
  (af (sx 3 j_.nd\bp fh)
  (af (dD dA rfl (lB rfl T.range\pa1 (uc GD v\ae (pv 0) (pa1\aD cU (pv 1) ah))) (gx 4 j_.nd) (af (sx 5 j_.nd\uc GD v (ae (pv 0)\pa1 (aD jA (aD jA (pv 2)\aD jz (pv 2) ah)\aD jz (pv 2) ah)))
  (af (sx 6 j_.nd\de (D_ rfl) (by rfl) T.list pG (pa1\de D2 (by rfl) T.range Rf (pa1\pv 2)))
  (af (sx 7 j_.nd\de lh (by rfl) T.tuple jW (pa1 (dq (N:=["_law_spot","_law_left"]) (fr:=[gf,gh 6]) (te:=tBM [] ↑25 BR (aN 1)\bZ (aN 0) dH) cpK rfl (bT\bp (ae (aD fT (pv 5)\pv 2)\ae (aD fT (aD lH (pv 5)\pv 2)\aD jz (pv 2) ah) (pa1\aD lH (aD lH (pv 5)\pv 2) (aD jz (pv 2) ah))))
    (λC' s' H' fp Sn=>#[gx 0 (⋯:(["_law_spot","_law_left"]:-Str).Nodup),dZ,dX eO P_ Qd Ab (pv 1)\pa1 (pv 0)]))))
  (aj\bf (dW\uc GF v (ae (uc GT v\pa1 (pv 3))\pa1 (pv 7))) (aj\dN (dX eO gG gH fB (pv 3)\pa1 (pv 7))) ba)))))
  (aj\aF (pv 3))))),?_]
 let b6:=line5000;let#[d1,d2]:=dU (q:=q) (b:=7) ⋯;erw[2,p,q,(7),1,hp,ag,⋯,⋯,λH1 k1 y1=>#[6,?_]];let#[n,en,R,bn]:∃n:Nat,3+digO q 7=(n:Int)/\3<=n/\n<=9:=#[(3+digO q 7).toNat,(),(),()];change dv 2 (V.int (3+digO q 7)) _ _ _;rw[en];erw[aZ _,λg H2 a2 s2 y2=>?_];let S:p≠g:=ak y1 a2;let a3:H g=gf:=(k1 g\aB S).symm.trans a2;let#[d3,d4]:=dU (q:=nxt q 7) (b:=(m:Int)+1) ();erw[3,6,p,nxt q 7,2,s2>>y1,b7 ag,(),lg20 (),λH3 k3 y3=>#[2,(),(),?_]];let hN:(digO (nxt q 7) ((m:Int)+1)).toNat<=m:=();generalize (digO (nxt q 7) ((m:Int)+1)).toNat=N at hN;show nW (lo:=0) (n:=N) (λi Z H'=>∃o4 o5 o6 o7 r j q',Z=[gh\V.ref p,gh\.i (m:Int),gh\.i (n:Int),gh\.r g,o4,o5,o6,o7]/\But p H H'/\H' p*>.a (bO q')/\cq q'/\H' g*>.a r/\ay H' r j/\↑j<=i/\Good j)
  #[gf,gf,gf,gf,[],[],2,λd o nb e=>(k3 d nb)<*(s2>>((k1 d nb)<*e)),y3,b7\b7 ag,(k3 g\aB S)<*y2,.nil,ar _,#[∅,by simp[ents]]] ?_ ?_
 .rintro i Z H4 hi ⟨o4,o5,o6,o7,r,j,z,rfl,sm,X,B,al,Y,bw,C⟩;let#[I,b8,b9]:=#[KO R,IQ R,KN bn];erw[3,2,6,6,.l #[(),()],2,6,6,.o #[(),()],p,z,2,X,B,by rw[I];lia,lC (by rw[I];lia) (by rw[I];show CS (show ((n*(n-1)*(n-2):Nat):Int)<=504 by lia) ⋯),λH5 k5 y5=>?_];let#[d5,d6]:=dU (q:=z) (b:=(n:Int)*((n:Int)-1)*((n:Int)-2)) (by rw[I];lia);let#[num,enum]:∃num:Nat,digO z ((n:Int)*((n:Int)-1)*((n:Int)-2))=(num:Int):=#[_,(fK d5).symm];rw[enum] at d6 |-;rw[I] at d6;let a4:num<n*(n-1)*(n-2):=();clear d6 d5;erw[3,λra bx=>?_];walk_at"H5 ra bx L s6 y6";erw[ra,n,1,y6,(),λu a5=>?_];walk_at"L u a5 H7 s7 y7";let y7:H7 u*>.a (nV\List.range n):=y7;let a6:(n:Int).natAbs.log2<9000:=lC () (CS (show (n:Int)<=9 by lia) ⋯);let bA:((n:Int)-1).natAbs.log2<9000:=lC () (CS (show (n:Int)-1<=9 by lia) ⋯);erw[3,6,(),3,6,#[(),a6],2,6,6,(),3,6,#[(),a6],2,6,6,#[(),bA],lit3,λdl H8 bK s8 y8=>?_];let ed:([V.int ((num:Int)%(n:Int)),V.int ((num:Int)/(n:Int)%((n:Int)-1)),V.int ((num:Int)/(n:Int)/((n:Int)-1))]:-V)=nV [num%n,num/n%(n-1),num/n/(n-1)]:=by
   let M:(n:Int)-1=((n-1:Nat):Int):=();rw[M];rfl
  rw[ed] at y8;let#[#[a,b,c,ha,hb,hc,n1,n2,n3],yL,bM]:=#[pops3 (n:=n) (s0:=num%n) (s1:=num/n%(n-1)) (s2:=num/n/(n-1)) (uh _ ()) (uh _ ())\zK R a4,s8>>y7,(aB\ak y7 bK:dl≠u)];erw[dl,1,#[_,SqL.of y8],λZ_ hZ=>?_];let#[bb,bN,bS,bX,bc,am,bd,an]:=#[(ak yL hZ:u≠Z_),(bW (uh _ ()) ():num%n<100),(bW (uh _ ()) ():num/n%(n-1)<100),(bW (zK R a4) ():num/n/(n-1)<100),(λd o nb e=>s6>>((k5 d nb).trans\sm _ _ nb e):But p H L),(s6>>((k5 g\aB S)<*al):L g*>.a r),s6>>y5,(Paired.imp' (by rintro _ _ ⟨d,M,O⟩;erw[d,M,s6>>((k5 d (bL O X ∅))<*O)]) Y:ay L r j)];generalize num%n=s0 at *;generalize num/n%(n-1)=s1 at *;generalize num/n/(n-1)=be at *;show dM (K:=[]) (a:=dl) (xs:=nV [s0,s1,be]) (λi Z ys H'=>∃o l,Z=[o,gh\V.ref u]/\(i=0/\l=List.range n/\ys=[]\/i=1/\l=(List.range n).eraseIdx s0/\ys=nV [a]\/i=2/\l=((List.range n).eraseIdx s0).eraseIdx s1/\ys=nV [a,b]\/i=3/\ys=nV [a,b,c])/\But u H8 H'/\H' u*>.a (nV l)/\H' Z_*>.a ys)
   #[gf,2,.l #[5,1],But.refl.same\bG hZ,bG hZ _ _ yL,aH] (by rintro i Z ys H' _ ⟨_,_,_,_,e,_⟩;show SqL.of\e _ _ bM y8) ?_ ?_
  .rintro i x Z ys H' hi ⟨o,l,rfl,ab,bt,ap,aM⟩;rw[nV,br] at hi;let#[s,hs,1]:=cz.mp hi;let#[y,hy,ca,cb,b0]:∃y:Nat,l[s]?*>y/\s<100/\↑ys<=3/\(i+1=0/\l.eraseIdx s=List.range n/\ys++[V.int (y:Int)]=[]\/i+1=1/\l.eraseIdx s=(List.range n).eraseIdx s0/\ys++[V.int (y:Int)]=nV [a]\/i+1=2/\l.eraseIdx s=((List.range n).eraseIdx s0).eraseIdx s1/\ys++[V.int (y:Int)]=nV [a,b]\/i+1=3/\ys++[V.int (y:Int)]=nV [a,b,c]):=by
    rcases ab with ⟨rfl,rfl,rfl⟩|⟨rfl,rfl,rfl⟩|⟨rfl,rfl,rfl⟩|⟨rfl,rfl⟩
    .cases hs;erw[a,ha,bN,∅,.o\.l #[5,1]]
    .cases hs;erw[b,hb,bS,by simp[nV],.o\.o (.l #[5,1])]
    .cases hs;erw[c,hc,bX,by simp[nV],.o\.o (.o #[5])]
    cases hs
   let b1:=(aO.mp hy).1;erw[2,.l #[1,_,SqL.of ap],2,u,nV l,(s:Int),s,V.int (y:Int),5,ap,(),(),AJ (by rw[bE];show b1),by rw[nV,br,hy];rfl,λcc bi b2=>?_];erw[(bi Z_\aB bb)<*aM,(),λH3 k3 y3=>#[9,b0,λd o nb e=>(k3 d\ak e hZ).trans\(bi d nb).trans (bt _ _ nb e),(k3 u bb)<*(by rw[b2,Iy]),y3]]
  rintro Z ys H' ⟨o,l,rfl,ab,bt,ap,aM⟩;obtain rfl:ys=nV [a,b,c]:=by
   let e3:↑(nV [s0,s1,be])=3:=rfl;rw[e3] at ab;rcases ab with ⟨h,_⟩|⟨h,_⟩|⟨h,_⟩|⟨_,h⟩
   .cases h
   .cases h
   .cases h
   show h
  erw[Z_,2,.l #[SqL.of aM,λt ht=>?_]];walk_at"H' t ht H9 s9 y9";let aS:Same L H9:=λd o e=>s9>>(bt _ _ (ak e a5) (s8>>s7>>e));erw[2,g,r,j,1,aS>>am,an.same aS,(),C.nd,λD cd ce a0 hD=>?_];erw[2,D,t,j,(a,b,c),1,hD,a0>>y9,λb3 bl=>?_];let st:=(aS<*a0)<*bl;let bm:=bl>>a0>>y9;erw[2,?_];cases b4:jF j (a,b,c) with
  |false=>
   show aA #[8,_,r,j,2,λd o nb e=>st>>(bc _ _ nb e),st>>bd,b7 B,st>>am,an.same st,(),C]
  |true=>
   let a1:=st>>am;show aL #[2,.l #[1,_,SqL.of a1],2,g,r,2,1,a1,by rw[aE Y];lia,λcf ad b5=>?_];let tn:∀{d:i4}{xs:-V},b3 d*>.u xs->d≠g:=λe=>bL e a1 ∅;erw[0,8,j++[(a,b,c)],2,λd o nb e=>(ad d\ak e a3)<*(st>>(bc _ _ nb e)),(ad p S)<*(st>>bd),b7 B,b5,?_,by rw[bo,cV];lia,qm C #[n1,n2,n3] b4];show bR (Paired.imp' (by rintro _ _ ⟨d,M,O⟩;erw[d,M,(ad d\tn (st>>O))<*(st>>O)]) an)\.c #[t,1,(ad t\tn bm)<*bm] .nil
 rintro Z H4 ⟨o4,o5,o6,o7,r,j,z,rfl,sm,X,B,al,Y,bw,C⟩;erw[2,Qq g r j z H4 a3 sm X B al Y () C]
end
def Ms(cl:-Nat)(d v:Nat):(nV cl).take d++V.int (v:Int)::(nV cl).drop d=nV (cl.take d++v::cl.drop d):=by unfold nV;rw[aV,bu,pk,C8]
def nmV(x:Nat×Nat):Key×V:=(Sum.inl (x.1:Int),V.int (x.2:Int))
def vN{nm:-(Nat×Nat)}{c:Nat}(h:c∉nm.map (·.1)):a8 (nm.map nmV) (Sum.inl (c:Int):Key)=gf:=by
 induction nm with
 |nil=>simp[a8]
 |cons x nm a=>
  rw[bu,aU,not_or] at h;rw[bu,gP λz=>h.1 ?_]
  .exact a h.2
  have:(x.1:Int)=(c:Int):=pL z;lia
def oF{nm:-(Nat×Nat)}{c x:Nat}(h:c∉nm.map (·.1)):cA (nm.map nmV) (Sum.inl (c:Int):Key) (V.int (x:Int))=(nm++[(c,x)]).map nmV:=by rw[n9 _\vN h,aV];rfl
def nmF(nm:-(Nat×Nat))(c:Nat):Nat:=(nm.lookup c).getD 0
def jB{nm:-(Nat×Nat)}{c:Nat}(h:c∈nm.map (·.1)):∃k x:Nat,nm[k]?*>(c,x)/\a8 (nm.map nmV) (Sum.inl (c:Int):Key)*>V.int (x:Int)/\nmF nm c=x:=by
 induction nm with
 |nil=>cases h
 |cons y nm d=>
  let#[a,x]:=y;by_cases e:a=c
  .subst e;erw[(0),x,1,iM (p:=nmV (a,x)) (r:=nm.map nmV) rfl,by simp[nmF]]
  rw[bu] at h;let#[k,f,h1,h2,b]:=d ((aU.mp h).resolve_left λz=>e z.symm);erw[k+1,f,h1,?_,?_]
  .rw[bu,gP λz=>e ?_]
   .exact h2
   have:(a:Int)=(c:Int):=pL z;lia
  have:(c==a)=hB:=‹λz:c=a=>e z.symm›
  unfold nmF at b |-;rw[jS,this];show b
def Gv(vs:-V)(H:Hp)(Q:VK)(p T:i4)(q:Int×Int)(b:-V)(ts:-Tri):Prop:=vs=[.r p,.r T]/\H p*>.a (bO q)/\cq q/\H T*>.a b/\T≠p/\ay H b ts/\↑ts<=200/\Good ts/\
 ∀r vr a d H',H r=gf->But p H H'->H' p*>.a (bO d)->cq d->H' r*>.a vr->ay H' vr a->↑a=↑ts->Good a->(∀u,Co a u->u<10 ^ 60)->((∀c,Co ts c->One (En ts) c)->∀c,Co a c->One (En a) c)->Q (.r r) H'
def Ax:Sp:=oU Gv
section
def jr:aQ [↑1,↑0,"_law_way","_law_corners_here",↑9,"_law_names","_law_i","_law_far"] [↑1,↑0] (au rK):=.f
def HL{f f1 f2:i4}{fd d1 d2:kS}(U:Fun K ↑76 ↑76 rK f fd)(T:cv mg)
  (GD:!Use 1 ↑30 [↑1,↑52] jq f1 d1)
  (GC:!Use 1 ↑18 [↑0] iL f2 d2) :
  !az CX0 2 f fd [↑1,↑0] Ax:=by
 show U.ok jr (!5) λ_ _ _ _ H _ Q _ X h=>?_
 let#[p,T0,q,vt,ts,1,hp,bw,hT,bx,ht,hl,g,Qq]:=h;let hu:=dC X;erw[_,(af (sx 2 jr.nd\uc GD X (ae (pv 0)\pa1 ah))
  (af (sx 3 jr.nd\bp fh)
  (af (dD dA rfl (bT\uc GC X (pa1\pv 1)) (gx 4 jr.nd)\aj (dN\dX eO Dl Qc zg (pv 3) (ae (uc GD X\ae (pv 0) (pa1\aD cU (pln T.len\pv 3) ah))\pa1 (pv 4))))
  (af (sx 5 jr.nd j6)
  (af (dD dA rfl (vF rfl T.enum\pa1 (pv 3)) (du rfl\aY (gx 6 jr.nd) (aY (gx 4 jr.nd) dh)) (af (sx 7 jr.nd\aD jz (aD jz (aD jz (aD rW ah ah) ah)\aD jA (aD cU (pv 6) ah) (aD rW ah ah)) (uc GD X\ae (pv 0) (pa1\aD rW ah ah)))
  (aj\jt hu (pv 5) (pv 4) (ixx bQ (bp\ae (pv 6) (ae (aD cU (aD jA ah\pv 6)\uc GD X (ae (pv 0)\pa1 ah))\pa1 (pv 7)))\pv 2) rfl)))
  (aj\aF (dq (N:=[↑8,"_law_names"]) (fr:=[gf,gh 5]) (te:=tCB (λxs H Q=>∃p ys,xs=[.r p]/\((SqL [] H p ys/\∀l,H l=gf->Q (.r l)\upd H l (.u ys))\/(SqT [] H p ys/\Q (.r p) H)))\bZ (mz (oY []\aN 0) (dv 0) (λ_ H Q=>Q gm H) (wj (aN 1)\aN 0) [gf,gh 1]) dH) cpK rfl (bT\pv 1)
    (λC' s' H' fp Sn=>#[gx 0 (⋯:([↑8,"_law_names"]:-Str).Nodup),dZ,de lh (by rfl) T.tuple jW\pa1 (dq (N:=[↑9,"_law_names"]) (fr:=[gf,gh 1]) (te:=wj (aN 1)\aN 0) cpK rfl (l_\pv 0)
    (λC2 s2 H2 c6 c8=>#[gx 0 (⋯:([↑9,"_law_names"]:-Str).Nodup),dZ,ir hu (pv 1) (pv 0) λ_ _=>rfl]))])))))))),?_]
 let da:=line5000;let#[d1,d2]:=dU (q:=q) (b:=3) ⋯;let#[r,ew]:∃r:Nat,digO q 3=(r:Int):=#[_,(fK d1).symm];erw[2,p,q,(3),1,hp,bw,⋯,⋯,λH1 k1 y1=>?_];rw[ew] at d2 |-;let db:r<3:=();erw[aZ _,λch H2 bA s2 y2=>?_];let aM:p≠ch:=ak y1 bA;let b5:H ch=gf:=(k1 ch\aB aM).symm.trans bA;let b6:=s2>>((k1 T0 bx)<*hT);let b8:ay H2 vt ts:=Paired.imp' (by rintro _ _ ⟨m,D,I⟩;erw[m,D,s2>>((k1 m (bL I hp ∅))<*I)]) ht;erw[2,T0,vt,ts,1,b6,b8,hl,λr0 cs H3 bK s3 y3 bM dc=>?_];let b9:r0≠p:=aB\ak (s2>>y1) bK;let ca:r0≠ch:=aB\ak y2 bK;erw[r0,1,#[_,SqL.of y3],fC (K:=[]) (a:=r0) (xs:=nV cs) (λi Z H'=>∃L cl q',Z=[gh\V.ref p,gh\.r T0,gh\.i (r:Int),gh\.r ch,L,gf,gf,gf]/\(∀b o,b≠p->b≠ch->H3 b*>o->H' b*>o)/\H' p*>.a (bO q')/\cq q'/\H' ch*>.a (nV cl)/\cl.Perm\cs.take i)
  #[gf,[],2,λ_ _ _ _ e=>e,s3>>s2>>y1,b7 bw,s3>>y2,List.Perm.refl _] (by rintro i Z H' _ ⟨_,_,_,_,e,_⟩;show SqL.of\e _ _ b9 ca y3) ?_ ?_]
 .rintro i x Z H4 hi ⟨L,cl,q4,rfl,sm,aS,a0,ab,M⟩;rw[nV,br] at hi;let#[v,hv,1]:=cz.mp hi;let cb:=(aO.mp hv).1;let bN:↑(nV cl)=i:=by
   rw[bE,M.length_eq,bz];lia
  erw[2,.l #[1,_,SqL.of ab],3,ch,nV cl,1,.l\SqL.of ab,6,p,q4,2,aS,a0,(),by rw[bN];show lg20 (),λH5 k5 y5=>?_];let#[cc,cd]:=dU (q:=q4) (b:=(↑(nV cl):Int)+1) ();let#[d,hd]:∃d:Nat,digO q4 ((↑(nV cl):Int)+1)=(d:Int):=#[_,(fK cc).symm];rw[hd] at cd |-;let a1:=(k5 ch\aB aM)<*ab;erw[2,ch,nV cl,d,2,1,a1,(),(),λO k6 y6=>?_];erw[_,cl.take d++v::cl.drop d,2,λm o n1 n2 e=>(k6 m n2).trans\(k5 m n1).trans (sm _ _ n1 n2 e),(k6 p aM)<*y5,b7 a0,by rw[y6,Ms],?_];let D:cs.take (i+1)=cs.take i++[v]:=by rw[bC,hv];rfl
  rw[D];show List.Perm.trans List.perm_middle ?_;rw[gD];show (List.Perm.cons v M).trans\jU (l₁:=[v]) (l₂:=cs.take i)
 rintro Z H4 ⟨L,cl,q4,rfl,sm,aS,a0,ab,M⟩;rw[bE,cm] at M;show λn H5 a5 s5 y5=>?_;let bN:↑cl<=600:=by rw[M.length_eq];lia
 let ce:cl.Nodup:=M.nodup_iff.mpr (bM.1.imp λh=>bD h);let a6:p≠n:=ak aS a5;let a1:=s5>>ab;let cf:ch≠n:=ak ab a5;erw[2,ch,nV cl,1,SqL.of a1,uY (K:=[]) (a:=ch) (xs:=nV cl) (λj Z H'=>∃L o6 o7 nm q',Z=[gh\V.ref p,gh\.r T0,gh\.i (r:Int),gh\.r ch,L,gh\.r n,o6,o7]/\(∀b o,b≠p->b≠n->H5 b*>o->H' b*>o)/\H' p*>.a (bO q')/\cq q'/\H' n*>.k (nm.map nmV)/\nm.map (·.1)=cl.take j/\∀k c x,nm[k]?*>(c,x)->Win r k x)
  #[_,gf,gf,[],2,λ_ _ _ _ e=>e,s5>>aS,a0,y5,1,λk c x h=>by simp at h] (by rintro j Z H' _ ⟨_,_,_,_,_,_,e,_⟩;show SqL.of\e _ _ (aB aM) cf a1) ?_ ?_]
 .rintro j x pt Z O hj ⟨L,o6,o7,nm,y,rfl,bb,a2,al,bc,R,am⟩ cg;rw[nV,br] at hj;let#[c,S,1]:=cz.mp hj;let dd:=(aO.mp S).1;walk_at"O pt cg H7 s7 y7";erw[pt,2,SqT.of y7,1,9,6,?_];let cp:∀k:Int,0<=k->k<=100->CPow 10 k:=λk h1 h2=>#[h1,(),⋯];let ci:=s7>>a2;erw[6,cp _ ⋯ ⋯,6,2,6,6,cp _ ⋯ ⋯,6,.l #[(),()],6,2,6,cp _ ⋯ ⋯,p,y,(10:Int) ^ 9,1,ci,al,⋯,⋯,λH8 k8 y8=>#[6,?_]];let#[f1,f2]:=dU (q:=y) (b:=(10:Int) ^ 9) ⋯;let#[C,e9]:∃C:Nat,digO y ((10:Int) ^ 9)=(C:Int):=#[_,(fK f1).symm];rw[e9] at f2;let df:C<10 ^ 9:=();change dv 7 (V.int (10 ^ 60-1-((j:Int)+1)*10 ^ 9-digO y ((10:Int) ^ 9))) _ _ _;rw[e9];let cj:(10:Int) ^ 60-1-((j:Int)+1)*10 ^ 9-(C:Int)=((10 ^ 60-1-(j+1)*10 ^ 9-C:Nat):Int):=();rw[cj];erw[3,6,.l #[⋯,⋯],2,p,_,(7),1,y8,b7 al,⋯,⋯,λH9 k9 y9=>#[6,?_]];let#[f3,f4]:=dU (q:=nxt y ((10:Int) ^ 9)) (b:=7) ⋯;let#[d7,e7]:∃d7:Nat,digO (nxt y ((10:Int) ^ 9)) 7=(d7:Int):=#[_,(fK f3).symm];rw[e7] at f4;erw[2,lit3,λl bd di be a3=>?_];rw[show ([V.int (j:Int),(λi j=>V.int (i+j)) (7*(j:Int))\digO (nxt y ((10:Int) ^ 9)) 7,V.int ((10 ^ 60-1-(j+1)*10 ^ 9-C:Nat):Int)]:-V)=nV [j,7*j+d7,10 ^ 60-1-(j+1)*10 ^ 9-C] by rw[e7];rfl] at a3;let#[x,hx,hw]:∃x:Nat,[j,7*j+d7,10 ^ 60-1-(j+1)*10 ^ 9-C][r]?*>x/\Win r j x:=by
   obtain rfl|rfl|rfl:r=0\/r=1\/r=2:=()
   .exact#[2,.l #[5]]
   .exact#[2,.o\.l #[1,(),()]]
   erw[2,.o\.o #[1,(),()]]
  let co:bd n*>.k (nm.map nmV):=be>>((k9 n\aB a6).trans\(k8 n\aB a6).trans (s7>>bc));let bS:↑nm=j:=by have:=congrArg List.length R;rw[av,bz] at this;lia
  let cr:c∉nm.map (·.1):=by rw[R];intro z;let#[k,B]:=gB z;let bX:=(aO.mp B).1;rw[bz] at bX;rw[ud ()] at B;have:=j3 ce B S;lia
  erw[2,l,0,V.int (x:Int),5,SqL.of a3,aW (by rw[nV,br,hx];rfl),3,n,2,DPut.k (k:=Sum.inl (c:Int)) co (by rw[av];lia),?_];rw[oF cr];walk_at"bd n dj b0 cx";erw[8,nm++[(c,x)],2,λm o n1 n2 e=>?_,(b0 p a6)<*(be>>y9),b7\b7 al,cx,?_,λk c' x' h=>?_]
  .exact (b0 m n2).trans (be>>((k9 m n1).trans\(k8 m n1).trans (s7>>(bb _ _ n1 n2 e))))
  .rw[aV,R,bC,S];rfl
  by_cases B:k<↑nm
  .rw[eA B] at h;show am k c' x' h
  let cy:=(aO.mp h).1;rw[bo,cV] at cy;let ek:k=↑nm:=();rw[ek,h_\ar _,Dg] at h;cases h;rw[ek,bS];show hw
 rintro Z O ⟨L,o6,o7,nm,y,rfl,bb,a2,al,bc,R,am⟩;rw[bE,cm] at R;let st:But p H O:=λm o nb e=>by
  let e3:H3 m*>o:=s3>>(s2>>((k1 m nb)<*e));let e4:H4 m*>o:=sm _ _ nb (ak e b5) e3;show bb _ _ nb (ak e4 a5) (s5>>e4)
 let b1:=st _ _ bx hT;let b2:ay O vt ts:=Paired.imp' (by rintro _ _ ⟨m,D,I⟩;erw[m,D,st _ _ (bL I hp ∅) I]) ht;let a4:∀c,Co ts c->c∈nm.map (·.1):=λc S=>by
  rw[R,M.mem_iff,bM.2];let#[t,bi,hu]:=cK.mp S;show jd.mpr #[t,bi,‹hu›]
 let bS:↑nm<=600:=by have:=congrArg List.length R;rw[av] at this;lia
 let inj:∀a b,Co ts a->Co ts b->nmF nm a=nmF nm b->a=b:=λa b ha hb e=>by
  let#[k,x,h1,_,h3]:=jB\a4 a ha;let#[k',x',bl,_,cZ]:=jB\a4 b hb;let ex:x=x':=by rw[<-h3,<-cZ,e]
  subst ex;let ek:=IT (am _ _ _ h1)\am _ _ _ bl;subst ek;rw[h1] at bl;show (kW\eB bl).1
 let c0:∀a,Co ts a->nmF nm a<10 ^ 60:=λa ha=>by
  let#[k,x,h1,_,h3]:=jB\a4 a ha;let B:=(aO.mp h1).1;rw[h3];show KZ ()\am _ _ _ h1
 erw[2,T0,1,#[_,SqL.of b1],λZ_ hZ=>dM (K:=[]) (a:=T0) (xs:=vt) (λi Z ys H'=>∃o,Z=[o,gh\V.ref n]/\ay H' ys ((ts.take i).map\nam (nmF nm))/\Same O H'/\H' Z_*>.a ys) #[gf,1,.nil,bG hZ,aH] (by rintro i Z ys H' _ ⟨_,_,_,e,_⟩;show SqL.of (e>>b1)) ?_ ?_]
 .rintro i x Z ys H' hi ⟨o,rfl,an,ad,bm⟩;let#[#[#[a,b,c],hs,t,1,hb],hb,b3,bi,cb]:=#[bY b2 hi,(hb:O t*>.u (nV [a,b,c])),ad>>hb,a_ hs,(aO.mp hs).1];let dk:↑ys<=200:=by rw[aE an,av,bz];lia
  let c1:∀z∈[a,b,c],Co ts z:=λz hz=>by
   show cK.mpr #[_,bi,?_];simpa using hz
  erw[2,t,1,#[_,SqT.of b3],λY hY=>n_ (K:=[]) (a:=t) (xs:=nV [a,b,c]) (λk Z ap ag=>∃o,Z=[o,gh\V.ref n]/\ap=nV (([a,b,c].take k).map\nmF nm)/\Same H' ag/\ag Y*>.a ap) #[gf,5,bG hY,aH] (by rintro k Z ap ag _ ⟨_,_,_,e,_⟩;show SqT.of (e>>b3)) ?_ ?_]
  .rintro k x Z ap ag B ⟨o,rfl,rfl,sY,bn⟩;rw[nV,br] at B;let#[#[z,hz,1],bX,#[_,x',_,h2,h3]]:=#[cz.mp B,((aO.mp hz).1:k<3),jB\a4 z (c1 z\a_ hz)];subst h3;erw[3,n,V.int (nmF nm z:Int),1,h2 ▸ DGet.k (k:=Sum.inl (z:Int)) (sY>>ad>>bc),bn,?_,λHn kn yn=>#[2,?_,λm o e=>(kn m\ak e hY)<*(sY>>e),yn]]
   .rw[bE,av,bz];have:↑([a,b,c]:-Nat)=3:=rfl;lia
   rw[bC,hz,aV,<-fE];rfl
  rintro Z ap ag ⟨o,rfl,rfl,sY,bn⟩;erw[Y,2,.l #[SqL.of bn,λt' c2=>?_]];walk_at"ag t' c2 H9 s9 y9";let b4:=s9>>sY>>bm;let tn:∀{m:i4}{xs:-V},H9 m*>.u xs->m≠Z_:=λe=>bL e b4 ∅;let et:(ts.take (i+1)).map (nam\nmF nm)=(ts.take i).map (nam\nmF nm)++[nam (nmF nm) (a,b,c)]:=by rw[bC,hs,aV];rfl
  erw[b4,(),λbd bt a3=>#[2,?_,λm o e=>?_,a3]]
  .rw[et];show bR (Paired.imp' (by rintro _ _ ⟨m,D,I⟩;erw[m,D,by let e3:=s9>>sY>>I;show (bt _\tn e3)<*e3]) an)\.c #[t',1,(bt _\tn y9)<*y9] .nil
  show (bt _\ak e hZ)<*(s9>>sY>>ad>>e)
 rintro Z ys H' ⟨o,rfl,an,ad,bm⟩;rw[aE b2,cm] at an;let c3:H Z_=gf:=by
  cases e:H Z_ with
  |none=>rfl
  |some o=>
   let c4:Z_≠p:=λz=>by rw[z,a2] at hZ;cases hZ
   rw[st _ _ c4 e] at hZ;cases hZ
 show Qq Z_ ys _ y H' c3 (st.same ad) (ad>>a2) al bm an (av ..) (Ai g inj) (λu hu=>by
  let#[a,ha,1]:=Cc hu;show c0 a ha) λc5 c S=>by
  let#[a,ha,1]:=Cc S;show JW g inj ha\c5 a ha
end
structure gq(P:lu)(w:n7)(K:W.Frag)(mg:Str->Option hK)(base:mu)(C:i4)(n:Nat)(x:Str)(ps:-Str)(sp:Sp)(f:i4)(fd:kS):Prop where
 g:!az CX0 n f fd ps sp
 b:Binds K fd ps []
 m:Meth K C x f
def jJ{u:TT}{Q:Bool->Hp->Prop}(h:u Z H Q):my (oR u Z Q) gm H:=aA (A:=Q gm H) h
def mO{u:TS}{D:Ends}(h:u D Z H):my (tI t u D Z) gm H:=aA (A:=t D Z H) h
def sL{t:TS}{D:Ends}(h:t D Z H):my (tI t u D Z) hB H:=aL (B:=u D Z H) h
structure o_(K:W.Frag):Prop where
 t:W.kitOne K (.t ↑16) (.t ↑16)*>gm
 i:W.kitOne K (.t "int") (.t "int")*>gm
 b:W.kitOne K (.t "int") (.t "bool")*>hB
def OL(K:W.Frag)(H:Hp)(x:V):Prop:=∃ty,cu K H x ty/\(W.kitOne K ty (.t "int")*>hB\/W.kitOne K ty (.t "int")*>gm/\W.kitOne K ty (.t "bool")*>gm)
def El(K:W.Frag)(H:Hp)(x:V):Option Int->Prop
 |some n=>x=.i n
 |none=>OL K H x
def Kp(H H':Hp):Prop:=∀b o,H b*>o->H' b*>o\/∃xs ys,o=.a xs/\H' b*>.a ys
def kpS(s:Same H H'):Kp H H':=λb o e=>.l\s b o e
def Kp.st(k:Kp H H'){o:HO}(h:H b*>o)(n:∀xs,o≠.a xs):H' b*>o:=(k b o h).elim id λ⟨xs,_,e,_⟩=>(n xs e).elim
def Kp.tp(k:Kp H H')(h:H b*>.u xs):H' b*>.u xs:=k.st h λ_ z=>nomatch z
def cu.kp(s:Kp H H')(h:cu K H x ty):cu K H' x ty:=by
 cases h with
 |non=>show .non
 |bl x=>show .bl x
 |int i=>show .i i
 |str x=>show .s x
 |flt x=>show .flt x
 |lst e=>rcases s _ _ e with h|⟨_,_,_,h⟩<;>show .a h
 |frz e=>show .z (s.st e λ_ z=>nomatch z)
 |tup e=>show .u\s.tp e
 |dK e=>show .k (s.st e λ_ z=>nomatch z)
 |dT e=>show .dT (s.st e λ_ z=>nomatch z)
 |ins e cl ha a b hm=>show .ins (s.st e λ_ z=>nomatch z) cl ha a b hm
def El.kp{o:Option Int}(s:Kp H H')(h:El K H x o):El K H' x o:=by
 cases o with
 |some n=>show h
 |none=>let#[ty,t,q]:=h;erw[ty,cu.kp s t,q]
def Fk(K:W.Frag)(vs:-V)(H:Hp)(Q:VK)(x:V)(o:Option Int):Prop:=vs=[x]/\El K H x o/\Q (.bl o.isSome) H
def zM(K:W.Frag):Sp:=fV\Fk K
def cnr:Option Int->Bool
 |some n=>decide (0<=n)
 |none=>hB
def Ec(K:W.Frag)(vs:-V)(H:Hp)(Q:VK)(x:V)(o:Option Int):Prop:=vs=[x]/\El K H x o/\Q (.bl\cnr o) H
def p7(K:W.Frag):Sp:=fV\Ec K
def sJ{Q:Bool->Hp->Prop}(h:Q gm H):my (oR u Z Q) hB H:=aL (B:=u Z H Q) h
def CC{t u:TS}{D:Ends}{b:Bool}(h1:b=hB->t D Z H)(h2:b=gm->u D Z H):my (tI t u D Z) b H:=by
 cases b with
 |true=>show mO\h2 rfl
 |false=>show sL\h1 rfl
def Ej(vs:-V)(H:Hp)(Q:VK)(n:Nat):Prop:=vs=[.i (n:Int)]/\Q (.bl gm) H
def yq:Sp:=sPx1 Ej
section
def Jp:aQ [↑49] [↑49] (au rD):=.f
def FD(U:Fun K "is_whole" "is_whole" rD f fd)(T:cv mg)(F:o_ K):!az CX0 1 f fd [↑49] (zM K):=by
 show U.ok Jp (!2) λ_ _ _ _ _ _ _ _ _ h=>?_
 erw[_,aj\aF (ml (bP (lD (c:="int")) (by rfl) T.isi gF\ae (pv 0) (pa1\kg (v:=.ty "int") rfl T.int ie rfl))
  (mh\LZ (bP (lD (c:="bool")) (by rfl) T.isi gF\ae (pv 0) (pa1\kg (v:=.ty "bool") rfl T.bool Re rfl)))),?_]
 let#[x,o,1,h,q]:=h;cases o with
 |some n=>cases (show x=.i n from h);erw[2,0,gm,1,.i n,F.i,gm,1,aL #[2,0,hB,1,.i n,F.b,hB,1,q]]
 |none=>
  let#[ty,a,h]:=h;rcases h with h|⟨h1,h2⟩
  .exact#[2,0,hB,1,a,h,hB,1,aA q]
  erw[2,0,gm,1,a,h1,gm,1,aL #[2,0,gm,1,a,h2,gm,1,q]]
def EK:aQ [↑49] [↑49] (au ql):=.f
def Ee{f a:i4}{fd b:kS}(U:Fun K ↑59 ↑59 ql f fd)(G:!Use 1 "is_whole" [↑49] (zM K) a b):
  !az CX0 2 f fd [↑49] (p7 K):=by
 show U.ok EK (!2) λ_ _ _ _ _ _ _ _ c h=>?_
 erw[_,aj\aF (ml (uc G c\pa1 (pv 0))\mh (ff Of (pv 0) ah\nomark _)),?_];let#[x,o,1,h,q]:=h;erw[2,x,o,1,h,?_];cases o with
 |some n=>cases (show x=.i n from h);erw[gm,1,aL #[2,6,q]]
 |none=>erw[hB,1,aA q]
def E4{f:i4}(G:!az CX0 2 f fd [↑49] (p7 K)):!az CX0 2 f fd [↑49] yq:=
 G.imp λvs H Q E ⟨n,e,q⟩=>#[_,gh (n:Int),e,1,by change Q (.bl (decide ((0:Int)<=(n:Int)))) H;rw[Si ()];show q]
end
section
def qd:aQ [↑49,"a","b","c"] [↑49] (au qk):=.f
end
def uJ:r6 "min"*>.b "min":=⋯
def Bg(t u:Tri):Prop:=(u=t\/u=(t.2.1,t.2.2,t.1)\/u=(t.2.2,t.1,t.2.1))/\u.1<=u.2.1/\u.1<=u.2.2
def kyT(u:Tri):-Int:=[(u.1:Int),(u.2.1:Int),(u.2.2:Int)]
def uK{us:-Tri}(h:ay H vs us):Tups K H vs (us.map kyT):=by
 induction h with
 |nil=>show .nil
 |cons q _ b=>
  let#[a,1,ha]:=q;show .c #[a,1,SqT.of ha,by simp[kyT]] b
def uL{ks:-V}{ss:-Tri}(h:ay H ks ss):∀ix:-Nat,(∀i∈ix,i<↑ks)->ay H (ix.map λi=>ks.getD i .non) (ix.map λi=>ss.getD i (0,0,0))
 | [],_=>.nil
 |i::ix,hi=>by
  let#[a,h1,#[y,b,hf]]:=#[hi i ∅,(aR a:ks[i]?*>ks[i]),bY h h1];show .c ?_ (uL h ix λj c=>hi j\dz _ c);simp only[List.getD,h1,b,xB];show hf
def yv{ss:-Tri}{ix:-Nat}(h:ix.Perm\List.range ↑ss):(ix.map λi=>ss.getD i (0,0,0)).Perm ss:=by
 have:=h.map λi=>ss.getD i (0,0,0);show this.trans\wX ?_;show w4 λi=>?_;rw[br];by_cases hi:i<↑ss
 .rw[Pj hi];simp[List.getD,aR hi]
 rw[t_ ‹hi›,t_ ()];rfl
def GY(vs:-V)(H:Hp)(Q:VK)(t:i4)(x:Tri):Prop:=vs=[.r t]/\H t*>.u [.i (x.1:Int),.i (x.2.1:Int),.i (x.2.2:Int)]/\
 ∀r u H',Same H H'->H' r*>.u [.i (u.1:Int),.i (u.2.1:Int),.i (u.2.2:Int)]->Bg x u->Q (.r r) H'
def vy:Sp:=fV GY
def lI{a b:Int}{xs ys:-Int}(h:HT.lexLt (b::ys) (a::xs)=hB):a<=b:=by
 unfold HT.lexLt at h
 split at h
 .lia
 have:=of_decide_eq_false h;lia
section
def qH:aQ [↑57,"a","b","c"] [↑57] (au rS):=.f
def HZ{f:i4}(U:Fun K ↑50 ↑50 rS f fd)(mN:mg "min" = gf):!az CX0 1 f fd [↑57] vy:=by
 show U.ok qH (!2) λ_ _ _ _ H _ _ _ B h=>?_
 let#[t,#[a,b,c],1,j,q]:=h;let j:H t*>.u [.i (a:Int),.i (b:Int),.i (c:Int)]:=j;erw[_,af (fD (pv 0)\du rfl (aY (gx 1 qH.nd)\aY (gx 2 qH.nd) (aY (gx 3 qH.nd) dh)))
  (aj\aF (bP (D9 rfl B.units) (by rfl) mN uJ\pa1 (bp\ae (ao\ae (pv 1) (ae (pv 2)\pa1 (pv 3))) (ae (ao\ae (pv 2) (ae (pv 3)\pa1 (pv 1)))\pa1 (ao\ae (pv 3) (ae (pv 1)\pa1 (pv 2))))))),?_]
 erw[2,t,2,SqT.of j,1,9,9,6,?_];erw[3,2,lit3,λm H1 N s1 C=>?_];erw[3,2,lit3,λn H2 O s2 D=>?_];erw[3,2,lit3,λo R S p I=>?_];erw[lit3,λl e T g L=>?_];let#[v,x,z,r,tr]:=#[(s2<*p<*g) _ _ C,(p<*g) _ _ D,g>>I,(s1<*s2<*p)<*g,(.c #[m,1,v]\.c #[n,1,x] (.c #[o,1,z] .nil):ay e [V.ref m,.r n,.r o] [(a,b,c),(b,c,a),(c,a,b)])];erw[l,9,SqL.of L,uK tr,∅,λi y d u=>?_];let#[m0,m1,m2]:=#[u 0 ∅,u 1 ∅,u 2 ∅]
 match i,d with
 |0,d=>
  cases d;let h1:(a:Int)<=b:=lI m1;let h2:(a:Int)<=c:=lI m2;show q m (a,b,c) e r v #[.l rfl,by change a<=b;lia,by change a<=c;lia]
 |1,d=>
  cases d;let h1:(b:Int)<=a:=lI m0;let h2:(b:Int)<=c:=lI m2;show q n (b,c,a) e r x #[.o\.l rfl,by change b<=c;lia,by change b<=a;lia]
 |2,d=>
  cases d;let h1:(c:Int)<=a:=lI m0;let h2:(c:Int)<=b:=lI m1;show q o (c,a,b) e r z #[.o\.o rfl,by change c<=a;lia,by change c<=b;lia]
 |i+3,d=>simp at d
end
def GJ(vs:-V)(H:Hp)(Q:VK)(d:i4)(l:-(Nat×Nat)):Prop:=vs=[.r d]/\Rd H d (.k\l.map nmV)/\l≠[]/\↑l<=1000/\
 ∀(s:Nat) H',Sm H H'->s∈l.map (·.1)->((∀o,(o,s)∉l)\/∀p,p∈l.map (·.1)->∃o,(o,p)∈l)->Q (.i (s:Int)) H'
def AE:Sp:=fV GJ
def vJ(l:-(Nat×Nat)):(l.map nmV).map (λp=>kV p.1)=nV (l.map (·.1)):=by rw[cw];unfold nV;rw[cw];rfl
def Kj(l:-(Nat×Nat)):(l.map nmV).map (·.2)=nV (l.map (·.2)):=by rw[cw];unfold nV;rw[cw];rfl
section
def vA:aQ ["onward","reached","begins"] ["onward"] (au rP):=.f
def HU(U:Fun K "first_of" "first_of" rP f fd)(T:cv mg)(mN:mg "min" = gf):!az CX0 1 f fd ["onward"] AE:=by
 show U.ok vA (!2) λ_ _ _ _ H vs _ _ _ h=>?_
 let#[d,l,1,hd,ad,hl,q]:=h;erw[_,af (sx 1 vA.nd\de (D3 rfl) (by rfl) T.list pG (pa1\BU P8 PySem.F.type_dict_values FN (pv 0)))
  (af (qR (i:=2) (N:=["p","reached"]) (fr:=[gf,gh 1]) (tt:=gg\tOp (rIn [] gm) (aN 0) (aN 1)) cpK rfl (AX\pv 0)
    (λC' s' H' fp Sn=>#[gx 0 (⋯:(["p","reached"]:-Str).Nodup),gW\aT ji (pv 0) (pv 1) rfl,pv 0]) vA.nd rfl (.l rfl))
  (aj\aF (z8 (Hu (pv 2) λ_=>rfl) (ixx bQ (pv 2) ah)\bP (xX rfl) (by rfl) mN uJ (pa1\pv 0)))),?_]
 let an:=line5000;erw[2,#[d,1,.l #[_,hd]],d,2,1,hd,λv hv=>?_];walk_at"H v hv H1 s1 y1";let M:=(Sm.of s1).rd hd;erw[v,d,2,y1,M,λr ag=>?_];walk_at"H1 r ag H2 s2 O";let al:=(Sm.of s2).rd M;rw[Kj] at O;erw[2,d,2,al,True.intro,λks vs o R hk hz=>?_];let ek:ks=nV (l.map (·.1)):=by
  rcases hk with ⟨kvs,e,e1,_⟩|⟨kvs,as,e,_⟩
  .cases e;rw[e1,vJ]
  cases e
 subst ek;let y3:R r*>.a (nV\l.map (·.2)):=hz.sm.keep O (λz=>z);show λZ_ S=>F9 (d:=d) (o:=o) (u:=.k\l.map nmV) (ks:=nV\l.map (·.1)) (λi Z ys H'=>∃o,Z=[o,gh\.r r]/\ys=nV (((l.map (·.1)).take i).filter λp=>decide (p∉l.map (·.2)))/\Same R H'/\H' Z_*>.a ys) #[gf,5,bG S,aH] (by rintro i Z ys H' _ ⟨_,_,_,e,_⟩;show e _ _ hz.at) ?_ ?_
 .rintro i y Z ys H' hi ⟨o,rfl,rfl,c,X⟩;rw[nV,br] at hi;let#[n,C,1]:=cz.mp hi;let Y:(l.map (·.1)).take (i+1)=(l.map (·.1)).take i++[n]:=by rw[bC,C];rfl
  erw[3,r,2,.l\SqL.of (c>>y3),1,iS _,2,?_];change if (if gm=gm then !inV (V.int (n:Int)) (nV\l.map (·.2)) else _)=gm then _ else _
  rw[Sh rfl,g_];by_cases g:n∈l.map (·.2)
  .rw[Si g];show aA #[2,?_,c,X];rw[Y,gA,fq,Sg ‹g›,ng,eY]
  rw[Sj g];show aL #[2,X,?_,λHn kn yn=>#[2,?_,λb o e=>(kn b\ak e S)<*(c>>e),yn]]
  .rw[bE];let h1:=dJ (λp=>decide (p∉l.map (·.2)))\(l.map (·.1)).take i;rw[bz,av] at h1;lia
  rw[Y,gA,fq,Sh ‹g›,ng,<-fE];rfl
 rintro Z ys D ⟨o',rfl,rfl,c,B⟩;rw[bE,cm] at B;let ab:Sm H D:=((Sm.of\s1.trans s2)<*hz.sm).trans\Sm.of c;let I:∀x,x∈((l.map (·.1)).filter λp=>decide (p∉l.map (·.2)))↔x∈l.map (·.1)/\x∉l.map (·.2):=λx=>by rw[eL,decide_eq_true_eq]
 let am:∀x,x∉l.map (·.2)->∀o,(o,x)∉l:=λx hx o L=>hx\ax.mpr #[_,L,1];generalize ((l.map (·.1)).filter λp=>decide (p∉l.map (·.2)))=bs at I B;erw[2,_,.l #[_,SqL.of B,1],?_];cases bs with
 |cons b bs=>
  show aL #[2,Z_,4,SqL.of B,aW (j:=0) rfl,?_];let#[h1,h2]:=(I b).mp ∅;show q b D ab h1\.l (am b h2)
 |nil=>
  show aA #[2,d,_,(l.map (·.1)).map λn:Nat=>(n:Int),1,(Sm.of c).rd\.o #[_,hz.at],by rw[vJ,cw];rfl,?_,λm hm ap=>?_]
  .cases l with
   |nil=>show absurd rfl ad
   |cons a l=>simp
  let#[n,C,1]:=ax.mp hm;show q n D ab C (.o λp hp=>?_);have:p∈l.map (·.2):=kL λz=>by
   have:=(I p).mpr #[hp,z];cases this
  let#[#[o,p'],L,1]:=ax.mp this;erw[o,L]
end
structure Abt(E:Nat->Nat->Nat->Prop)(v:Nat)(l:-(Nat×Nat)):Prop where
 nd:(l.map (·.1)).Nodup
 mem:∀p q,(p,q)∈l↔E v p q
def Jj(vs:-V)(H:Hp)(Q:VK)(d:i4)(l:-(Nat×Nat))(E:Nat->Nat->Nat->Prop)(v:Nat):Prop:=vs=[.r d]/\Rd H d (.k\l.map nmV)/\l≠[]/\↑l<=1000/\Sk E/\Abt E v l/\
 ∀(b:Bool) H',Sm H H'->(b=gm↔One E v)->Q (.bl b) H'
def BM:Sp:=oV Jj
def Bi(l:-(Nat×Nat))(c:Nat):kF (l.map nmV) (Sum.inl (c:Int):Key)=(l.filter λx=>decide (x.1≠c)).map nmV:=by
 unfold kF;rw[List.filter_map]
 congr 1
 apply tZ;intro x _;change decide ((Sum.inl (x.1:Int):Key)≠Sum.inl (c:Int))=decide (x.1≠c);by_cases h:x.1=c
 .simp[h]
 let z:¬(Sum.inl (x.1:Int):Key)=Sum.inl (c:Int):=λz=>h (by have:(x.1:Int)=(c:Int):=pL z;lia);simp only[ne_eq,h,z,not_false_eq_true]
def zq{α:Type}(l:List α)(f:α->Bool){x:α}(hx:x∈l)(hf:f x=hB):↑(l.filter f)<↑l:=by
 induction l with
 |nil=>cases hx
 |cons a l b=>
  rw[fq];have:=dJ f l;rcases aU.mp hx with e|h
  .subst e;rw[Sg (by rw[hf];decide),ck];lia
  have:=b h
  split<;>simp only[ck]<;>lia
section
def rC:aQ ["about","at","left"] ["about"] (au sW):=.f
def Kc{f f1:i4}{fd d1:kS}(U:Fun K ↑45 ↑45 sW f fd)(T:cv mg)(mD:mg ↑53 = gf)(G:!Use 1 "first_of" ["onward"] AE f1 d1):
  !az CX0 2 f fd ["about"] BM:=by
 show U.ok rC (!4) λ_ _ _ _ H _ _ E S h=>?_
 let#[d,l,E,v,1,hd,ag,X,k,ab,q]:=h;let hu:=dC S;erw[_,af (sx 1 rC.nd\uc G S (pa1\pv 0))
  (af (sx 2 rC.nd\de D4 (by rfl) mD PM (pa1\pv 0))
  (af (j5 dA (gY\mm hu (pv 1) (pv 2))\aj (sx 1 rC.nd\z9 (pv 2) (pv 1) #[5,5]))
  (aj\aF (ff cn (bP F_ (by rfl) T.len Qm\pa1 (pv 2)) ah\nomark _)))),?_]
 erw[2,d,l,1,hd,ag,X,λs1 H1 I al am=>?_];erw[2,d,2,I.rd hd,λp g=>?_];walk_at"H1 p g H2 s2 y2";let an:(∀o,¬E v o s1)\/∀p,(∃q,E v p q)->∃o,E v o p:=by
  rcases am with h|h
  .exact .l λo M=>h o\(ab.mem _ _).mpr M
  show .o λp ⟨q,j⟩=>?_;let#[o,M]:=h p\ax.mpr #[_,(ab.mem _ _).mpr j,1];erw[o,(ab.mem _ _).mp M]
 erw[λm Z H'=>∃(L:-Nat)(at_:Nat)(lf:-(Nat×Nat)),Z=[gh\.r d,gh\.i (at_:Int),gh\.r p]/\m=↑lf/\Sm H H'/\H' p*>.k (lf.map nmV)/\↑lf<=1000/\(lf.map (·.1)).Nodup/\(∀x,x∈lf↔x∈l/\x.1∉L)/\
  L.Nodup/\(∀p∈L,∃q,E v p q)/\(∀i p q,L[i]?*>p->L[i+1]?*>q->E v p q)/\(L=[]/\at_=s1\/L.head?*>s1/\∀p,L.getLast?*>p->E v p at_),
  #[_,[],s1,l,5,I.trans\Sm.of s2,y2,X,ab.nd,∅,jT,∅,∅,.l #[5]],?_]
 rintro m Z H' ⟨L,at_,lf,rfl,rfl,sm,B,a5,nd,mem,Y,key,ch,C⟩;erw[3,p,2,DGet.k (k:=Sum.inl (at_:Int)) B,?_];by_cases D:at_∈lf.map (·.1)
 .let#[i,x,h1,h2,_]:=jB D;let hx:(at_,x)∈lf:=a_ h1;let#[ap,aM]:=(mem _).mp hx;let hE:E v at_ x:=(ab.mem _ _).mp ap;erw[gm,by rw[h2];rfl,?_];show aL #[λZ' N=>∃(L:-Nat)(u:Nat)(n:-(Nat×Nat)),Z'=[gh\.r d,gh\.i (u:Int),gh\.r p]/\↑n<↑lf/\Sm H N/\N p*>.k (n.map nmV)/\↑n<=1000/\(n.map (·.1)).Nodup/\(∀x,x∈n↔x∈l/\x.1∉L)/\
   L.Nodup/\(∀p∈L,∃q,E v p q)/\(∀i p q,L[i]?*>p->L[i+1]?*>q->E v p q)/\(L=[]/\u=s1\/L.head?*>s1/\∀p,L.getLast?*>p->E v p u),
   λZ' N ⟨L,u,n,e,O,r⟩=>#[_,O,L,u,n,e,1,r],?_]
  erw[2,p,1,.l #[_,.l B],2,_,Sum.inl (at_:Int),_,B,1,h2,?_];rw[Bi];let aS:H p=gf:=(I.free g);let O:=zq lf (λy=>decide (y.1≠at_)) hx ∅;show λH3 k3 y3=>#[L++[at_],x,lf.filter λy=>decide (y.1≠at_),1,O,λb o e=>?_,y3,(),?_,λy=>?_,?_,λy hy=>?_,λi p q g j=>?_,.o #[?_,λp g=>?_]]
  .rw[k3 _\ak e aS];show sm b o e
  .exact nd.sublist\CU _ Pb
  .rw[eL,mem y,a9,aG,decide_eq_true_eq];constructor
   .rintro⟨⟨a,b⟩,c⟩;erw[a,λz=>z.elim b c]
   rintro⟨a,b⟩;erw[#[a,λz=>b\.l z],λz=>b\.o z]
  .rw[cD];erw[Y,∅,λa ha b hb=>by rw[aG] at hb;rintro rfl;rw[hb] at ha;show aM ha]
  .rcases a9.mp hy with h|h
   .exact key y h
   rw[aG.mp h];erw[x,hE]
  .by_cases hi:i+1<↑L
   .rw[eA ()] at g;rw[eA hi] at j;show ch i p q g j
   by_cases a0:i+1=↑L
   .rw[eA ()] at g;rw[h_ ()] at j;have:i+1-↑L=0:=();rw[this] at j;simp at j;subst j;rcases C with ⟨rfl,_⟩|⟨_,h⟩
    .simp at a0
    show h p (by rw[jQ,show ↑L-1=i by lia];show g)
   rw[h_ ()] at j;have:=(aO.mp j).1;rw[cV] at this;lia
  .rcases C with ⟨rfl,rfl⟩|⟨h,_⟩
   .rfl
   cases L with
   |nil=>cases h
   |cons a L=>show h
  rw[List.getLast?_append] at g;simp at g;subst g;show hE
 erw[hB,by rw[vN D];rfl,aA ?_];let ad:L≠[]:=by
  rintro rfl;rcases C with ⟨_,rfl⟩|⟨h,_⟩
  .let#[#[a,b],h1,1]:=ax.mp al;show D\ax.mpr #[_,(mem _).mpr #[h1,∅],1]
  cases h
 let#[hh,a1]:L.head?*>s1/\∀p,L.getLast?*>p->E v p at_:=C.resolve_left λz=>ad z.1;let a2:=Im k ad Y key ch a1 (λ⟨r,R⟩=>kL λz=>D\ax.mpr #[_,(mem (at_,r)).mpr #[(ab.mem _ _).mpr R,z],1]) hh an;erw[2,p,2,B,1,?_];rw[av];show q _ H' sm ?_;rw[gk,decide_eq_true_eq,<-a2];constructor
 .intro h0 p ⟨r,R⟩;let a3:lf=[]:=xi.mp ();show kL λz=>?_;have:=(mem (p,r)).mpr #[(ab.mem _ _).mpr R,z];rw[a3] at this;cases this
 intro a4;have:lf=[]:=by
  cases lf with
  |nil=>rfl
  |cons y lf=>
   let#[h1,h2]:=(mem y).mp ∅;let#[a,b]:=y;show absurd (a4 a #[b,(ab.mem _ _).mp h1]) h2
 rw[this];rfl
end
def EnAt(H:Hp)(v:V)(e:Ent):Prop:=∃u s,v=.r u/\H u*>.u [.r s,.i (e.2:Int)]/\H s*>.u\(ky e.1.1 e.1.2).map kV
section
def jZ:aQ ["things",↑56,"k",↑49,"a","b","c"] ["things"] (au n8):=.f
def jm:aQ [↑56,"thirds","k","a","b","c","side","third"] [↑56] (au qP):=.f
end
def stV(x:Nat×i4):Key×V:=(Sum.inl (x.1:Int),V.ref x.2)
def By{L:-(Nat×i4)}{c:Nat}(h:c∉L.map (·.1)):a8 (L.map stV) (Sum.inl (c:Int):Key)=gf:=by
 induction L with
 |nil=>simp[a8]
 |cons x L a=>
  rw[bu,aU,not_or] at h;rw[bu,gP λz=>h.1 ?_]
  .exact a h.2
  have:(x.1:Int)=(c:Int):=pL z;lia
def q_{L:-(Nat×i4)}{c:Nat}(h:c∈L.map (·.1)):∃a,(c,a)∈L/\a8 (L.map stV) (Sum.inl (c:Int):Key)*>V.ref a:=by
 induction L with
 |nil=>cases h
 |cons y L d=>
  let#[b,x]:=y;by_cases e:b=c
  .subst e;erw[x,∅,iM (p:=stV (b,x)) (r:=L.map stV) rfl]
  rw[bu] at h;let#[a,h1,h2]:=d ((aU.mp h).resolve_left λz=>e z.symm);erw[a,dz _ h1,?_];rw[bu,gP λz=>e ?_]
  .exact h2
  have:(b:Int)=(c:Int):=pL z;lia
def abt(es:-Ent)(c:Nat):-(Nat×Nat):=(es.filter λe=>decide (e.1.1=c)).map λe=>(e.1.2,e.2)
def qY{es:-Ent}{c p q:Nat}:(p,q)∈abt es c↔((c,p),q)∈es:=by
 unfold abt;rw[ax];constructor
 .rintro⟨⟨⟨a,b⟩,d⟩,h1,h2⟩;rw[eL,decide_eq_true_eq] at h1;let#[h1,1]:=h1;cases h2;show h1
 intro h;erw[_,eL.mpr #[h,Si rfl],1]
def Bu(es:-Ent)(c:Nat):↑(abt es c)<=↑es:=by unfold abt;rw[av];show dJ _ _
def Ap{es:-Ent}{p:Nat}(h:p∈(abt es c).map (·.1)):(c,p)∈es.map (·.1):=by let#[#[a,q],h1,1]:=ax.mp h;show ax.mpr #[_,qY.mp h1,1]
def M4{es:-Ent}(h:(es.map (·.1)).Nodup)(c:Nat):((abt es c).map (·.1)).Nodup:=by
 induction es with
 |nil=>simp[abt]
 |cons e es b=>
  rw[bu,eR] at h;by_cases he:e.1.1=c
  .let a:abt (e::es) c=(e.1.2,e.2)::abt es c:=by unfold abt;rw[fq,Sh\Si he];rfl
   rw[a,bu,eR];erw[λz=>h.1 ?_,b h.2];have:=Ap z;rw[<-he] at this;show this
  let a:abt (e::es) c=abt es c:=by unfold abt;rw[fq,Sg ‹he›]
  rw[a];show b h.2
def vh(es:-Ent)(c p q a:Nat):abt (es++[((c,p),q)]) a=if c=a then abt es a++[(p,q)] else abt es a:=by
 unfold abt;rw[gA,aV,fq];by_cases h:c=a
 .rw[Sh h,Sh\Si h];rfl
 rw[Sg h,Sg ‹h›];simp
structure StAt(H0 H:Hp)(S:i4)(es:-Ent)(L:-(Nat×i4)):Prop where
 at_:H S*>.k\L.map stV
 len:↑L<=↑es
 nk:(L.map (·.1)).Nodup
 na:(L.map (·.2)).Nodup
 fr:∀x∈L,H0 x.2=gf/\x.2≠S
 ab:∀x∈L,H x.2*>.k\(abt es x.1).map nmV
 key:∀c,c∈L.map (·.1)↔∃p q,((c,p),q)∈es
def Gq(vs:-V)(H:Hp)(Q:VK)(D:i4)(es:-Ent):Prop:=vs=[.r D]/\H D*>.dT (es.map bB)/\(es.map (·.1)).Nodup/\↑es<=1200/\
 ∀S L H',H S=gf->Sm H H'->StAt H H' S es L->Q (.r S) H'
def Av:Sp:=fV Gq
def Km{L:-(Nat×i4)}(nk:(L.map (·.1)).Nodup)(na:(L.map (·.2)).Nodup){c d:Nat}{a:i4}(h:(c,a)∈L)(h':(d,a)∈L):c=d:=by
 induction L with
 |nil=>cases h
 |cons x L f=>
  rw[bu,eR] at nk na;rcases aU.mp h with e|h
  .rcases aU.mp h' with b | h'
   .rw[<-e] at b;cases b;rfl
   show (na.1\ax.mpr #[_,h',by rw[<-e]]).elim
  rcases aU.mp h' with b | h'
  .exact (na.1\ax.mpr #[_,h,by rw[<-b]]).elim
  show f nk.2 na.2 h h'
section
def lO:aQ ["thirds","steps","c","p","q","about"] ["thirds"] (au rG):=.f
def HG{f:i4}(U:Fun K ↑36 ↑36 rG f fd):!az CX0 1 f fd ["thirds"] Av:=by
 show U.ok lO (!2) λ_ _ _ _ H vs _ _ hr h=>?_
 let#[D,es,1,B,a2,hl,q]:=h;let hu:=dC hr;erw[_,af (sx 1 lO.nd j6)
  (af (dD dA rfl (Hy\BU P3 PySem.F.type_dict_items H_ (pv 0)) (du rfl\aY (du rfl\aY (gx 2 lO.nd) (aY (gx 3 lO.nd) dh)) (aY (gx 4 lO.nd) dh))
   (af (sx 5 lO.nd\dX uj P7 PySem.F.type_dict_setdefault D7 (pv 1) (ae (pv 2)\pa1 j6))
   (aj\jt hu (pv 5) (pv 3) (pv 4) rfl)))
  (aj\aF (pv 1))),?_]
 let bX:=line5000;show λS H1 O s1 y1=>?_;let ag:=s1>>B;erw[2,#[D,1,.o #[_,.l ag]],D,2,1,.l ag,True.intro,λv hv=>?_];walk_at"H1 v hv H2 s2 y2";let bc:=s2>>ag;erw[v,D,2,y2,.l bc,True.intro,λks vs o H3 hk hz=>?_];let#[as,pa,5]:∃as,Paired (λ(p:-Key×V) a=>H2 a*>.u\p.1.map kV) (es.map bB) as/\ks=as.map V.ref/\vs=(es.map bB).map (·.2):=by
  rcases hk with ⟨kvs,e,_⟩|⟨kvs,as,e,h1,h2,h3⟩
  .cases e
  cases e;erw[as,h1,h2,h3]
 let lk:↑as=↑es:=by rw[<-aE pa,av]
 let bd:Sm H H3:=(Sm.of\s1.trans s2)<*hz.sm;let be:H3 S*>.k (([]:-(Nat×i4)).map stV):=by rw[hz.ne (λz=>by rw[z,ag] at y1;cases y1)];show s2 _ _ y1
 show FZ (d:=D) (o:=o) (u:=.dT\es.map bB) (ks:=as.map V.ref) (vs:=(es.map bB).map (·.2)) (λi Z H'=>∃v2 v3 v4 v5 L,Z=[gh\.r D,gh\.r S,v2,v3,v4,v5]/\Sm H H'/\H' D*>.z o (.dT\es.map bB)/\(∀a xs,H2 a*>.u xs->H' a*>.u xs)/\StAt H H' S (es.take i) L)
  #[gf,gf,gf,gf,[],1,bd,hz.at,λa xs e=>hz.sm.keep e λz=>z,#[be,aZ _,jT,jT,∅,∅,∅]] (by rintro i Z H' _ ⟨_,_,_,_,_,_,_,e,_⟩;show e) ?_ ?_
 .rintro i x y pr Z H' hx hy ⟨v2,v3,v4,v5,L,rfl,sm,an,al,st⟩ bi;rw[br] at hx hy;let#[a,ha,1]:=cz.mp hx;rw[br] at hy;let#[kv,bl,1]:=cz.mp hy;let#[#[#[c,p],R],he,1]:=cz.mp bl;let bm:H2 a*>.u [.i (c:Int),.i (p:Int)]:=by
   let#[b0,h1,h2]:=bY pa (show (es.map bB)[i]?*>bB ((c,p),R) by rw[br,he];rfl);rw[ha] at h1;cases h1;show h2
  let m:es.take (i+1)=es.take i++[((c,p),R)]:=by rw[bC,he];rfl
  let b2:i<↑es:=(aO.mp he).1;let a3:((es.take (i+1)).map (·.1)).Nodup:=by rw[<-gD (i+1) es,aV,cD] at a2;show a2.1
  rw[m] at a3;let#[b3,bn]:=qD a3;let bt:p∉(abt (es.take i) c).map (·.1):=λz=>bn\Ap z;rw[show (bB ((c,p),R)).2=V.int (R:Int) from rfl];walk_at"H' pr bi H4 M y4";erw[pr,2,SqT.of y4,1,9,a,2,SqT.of (M>>al>>bm),1,9,6,6,?_];let ap:=M>>st.at_;let lt:↑(es.take i)<=1200:=by rw[bz];lia
  erw[2,.o\.o (.l #[1,.l #[_,ap]]),2,λz H5 T s5 y5=>?_];let#[a4,a5,zH,aM,C,la]:=#[s5>>ap,((sm.trans\Sm.of M).trans\Sm.of s5:Sm H H5),((sm.trans\Sm.of M).free T:H z=gf),(M.free T:H' z=gf),M<*s5,Bu (es.take i) c];erw[S,_,Sum.inl (c:Int),.r z,5,a4,by rw[av];have:=st.len;lia,λu am=>?_,λhn=>?_]
  .let N:c∈L.map (·.1):=kL λg=>by rw[By g] at am;cases am
   let#[ad,hL,bw]:=q_ N;rw[bw] at am;cases am;let a6:H5 ad*>.k ((abt (es.take i) c).map nmV):=C>>(st.ab _ hL);let#[bb,bx]:H ad=gf/\ad≠S:=st.fr _ hL;erw[3,2,ad,2,DPut.k (k:=Sum.inl (p:Int)) a6 (by rw[av];lia),?_];rw[oF bt];walk_at"H5 ad H6 j y6";erw[8,_,L,1,λb o e=>?_,?_,λb xs e=>?_,#[(j S bx.symm)<*a4,?_,st.nk,st.na,st.fr,λx I=>?_,λX=>?_]]
   .rw[j b\ak e bb];show a5 b o e
   .rw[j D (λg=>by rw[g,bb] at B;cases B)];show C _ _ an
   .let n:=C>>(al b xs e);rw[j b (λg=>by rw[g,a6] at n;cases n)];show n
   .rw[m,bo];have:=st.len;lia
   .let#[X,b]:=x;rw[m,vh];by_cases aS:c=X
    .subst aS;rw[Sh rfl];have:b=ad:=zf st.nk I hL;subst this;show y6
    rw[Sg aS];let nb:b≠ad:=λg=>aS (by subst g;show Km st.nk st.na hL I);rw[j b nb];show C _ _\st.ab _ I
   rw[st.key X,m];constructor
   .rintro⟨p1,l,h1⟩;erw[p1,l,eK _ h1]
   rintro⟨p1,l,h1⟩;rcases a9.mp h1 with h1|h1
   .exact#[p1,l,h1]
   rw[aG] at h1;cases h1;show (st.key _).mp N
  let N:c∉L.map (·.1):=λg=>by
   let#[0,h]:=q_ g;rw[hn] at h;cases h
  let bA:cA (L.map stV) (Sum.inl (c:Int):Key) (V.ref z)=(L++[(c,z)]).map stV:=by rw[n9 _ hn,aV];rfl
  rw[bA];let zS:z≠S:=λg=>by rw[g,O] at zH;rw[g] at T;rw[ap] at T;cases T
  walk_at"H5 S H6 j y6";let a0:abt (es.take i) c=[]:=by
   cases e:abt (es.take i) c with
   |nil=>rfl
   |cons x r=>
    let#[p1,l]:=x;have:(p1,l)∈abt (es.take i) c:=by rw[e];simp
    show (N\(st.key c).mpr #[p1,l,qY.mp this]).elim
  let bK:H6 z*>.k (([]:-(Nat×Nat)).map nmV):=(j z zS)<*y5;erw[3,2,z,2,DPut.k (k:=Sum.inl (p:Int)) bK (by simp;lia),?_];rw[oF ∅];walk_at"H6 z H7 Y y7";let b4:∀b,H b≠gf->b≠S:=λb h g=>h (by rw[g];show O);erw[8,_,L++[(c,z)],1,λb o e=>?_,?_,λb xs e=>?_,#[(Y S zS.symm)<*y6,?_,?_,?_,λx I=>?_,λx I=>?_,λX=>?_]]
  .rw[Y b\ak e zH,j b\ak e O];show a5 b o e
  .let e1:=C>>an;rw[Y D (λg=>by rw[g,zH] at B;cases B),j D (λg=>by rw[g,O] at B;cases B)];show e1
  .let n:=al b xs e;rw[Y b\ak n aM,j b (λg=>by rw[g,st.at_] at n;cases n)];show C _ _ n
  .rw[m,bo,bo];have:=st.len;simp only[cV];lia
  .rw[aV,cD];erw[st.nk,∅,λa1 h1 b1 h2=>?_];simp at h2;subst h2;rintro rfl;show N h1
  .rw[aV,cD];erw[st.na,∅,λa1 h1 b1 h2=>?_];simp at h2;subst h2;rintro rfl;let#[x,bM,bN]:=ax.mp h1;have:=st.ab x bM;rw[bN,aM] at this;cases this
  .rcases a9.mp I with h|h
   .exact st.fr x h
   rw[aG.mp h];erw[zH,zS]
  .rcases a9.mp I with h|h
   .let bS:x.1≠c:=λg=>N\ax.mpr #[x,h,g];rw[m,vh,Sg λg=>bS g.symm];let e1:=st.ab x h;rw[Y x.2\ak e1 aM,j x.2 (st.fr x h).2];show C _ _ e1
   rw[aG.mp h,m,vh,Sh rfl,a0];show y7
  rw[aV,a9,st.key X,m];constructor
  .rintro (⟨p1,l,h1⟩|h1)
   .exact#[p1,l,eK _ h1]
   simp at h1;subst h1;erw[p,R,∅]
  rintro⟨p1,l,h1⟩;rcases a9.mp h1 with h1|h1
  .exact .l #[p1,l,h1]
  rw[aG] at h1;cases h1;show .o ∅
 rintro Z H' ⟨v2,v3,v4,v5,L,rfl,sm,an,al,st⟩;rw[av,lk,cm] at st;erw[2,q S L H' O sm st]
end
def Fo(K:W.Frag)(vs:-V)(H:Hp)(Q:VK)(x C:i4)(v:V)(d:pC):Prop:=vs=[.r x,v]/\H x*>dI x C gf/\kl K C=gm/\fH K C ↑72/\
 (Dt [] H v d/\d.showable=gm/\d.depth<=60/\d.shown.length<=10000)/\∀dx,H dx=gf->dx≠x->Q .non\upd (upd H x\dI x C (gh dx)) dx (.xd [(↑72,v)])
def nY(K:W.Frag):Sp:=oV\Fo K
section
def G8:aQ [↑87,↑72] [↑87,↑72] (au qK):=.f
def FG{f S:i4}(U:Fun K ↑12 ↑96 qK f fd)(c:mg ↑21*>.r S)(b:BInit K S):!az CX0 1 f fd [↑87,↑72] (nY K):=by
 show U.ok G8 (!4) λ_ _ _ _ _ _ _ _ a h=>?_
 let#[x,C,v,d,1,hx,e,hf,#[g,j,l,n],q]:=h;erw[_,af (dN\z_ rfl c b (ae (pv 0)\pa1 (vG\ke aK (ke (A8 a.units a.gu\pv 1) v8))))\aj (AW (pv 0) (pv 1) rfl),?_];let o:↑(Str.empty++("no skin: " : Str))<=20:=⋯;let hz:10020<=sizeLine:=by rw[cW];lia
 let l1:↑((Str.empty++("no skin: " : Str))++d.shown)<=sizeLine:=by rw[iG];lia
 erw[3,(),2,d,g,j,l,(),2,l1,l1,x,C,2,hx,e,by change 1<=js;lia,?_];erw[3,x,C,1,hx,hf,λdx h1 h2=>q dx h1 h2]
end
def tO(c:Nat):PyData:=.tuple [.s "round",.i (c:Int)]
def Ir{c:Nat}(h:c<10 ^ 160):(tO c).showable=gm/\(tO c).depth<=60/\(tO c).shown.length<=10000:=by
 erw[?_,?_,?_]
 .change (gm&&(decide (((c:Nat):Int).natAbs.log2<1920)&&gm))=gm;rw[Si\lx h];rfl
 .change max 0 (max 0 0)+1<=60;decide
 let h1:↑((toString ((c:Nat):Int):String):Str)<=160:=by rw[vv,vn];show qg 159 c h
 change ↑(tupleText [reprText "round",(toString ((c:Nat):Int):String)])<=10000;let h2:↑(reprText "round")<=20:=⋯;unfold tupleText;rw[iG,iG];let#[a,b,d]:=#[DA [reprText "round",(toString ((c:Nat):Int):String)] ∅,(⋯:↑(("(" : Str))=1),(⋯:↑(Str.ofString ")")=1)];let e:piled [reprText "round",((toString ((c:Nat):Int):String):Str)]<=300:=by generalize ((toString ((c:Nat):Int):String):Str)=z at h1;simp[piled];lia
 change _+_+↑(Str.ofString ")")<=_;lia
def Jd(C:i4)(vs:-V)(H:Hp)(Q:VK)(E:XK)(S:i4)(ts:-Tri)(L:-(Nat×i4)):Prop:=vs=[.r S]/\H S*>.k (L.map stV)/\(L.map (·.1)).Nodup/\(∀x∈L,Rd H x.2\.k ((abt (ents ts) x.1).map nmV))/\
 (∀c,c∈L.map (·.1)↔Co ts c)/\↑L<5000/\↑ts<=200/\Good ts/\((∀c,Co ts c->One (En ts) c)\/∀c,Co ts c->c<10 ^ 160)/\
 (∀H',Sm H H'->(∀c,Co ts c->One (En ts) c)->Q .non H')/\
 ∀(c:Nat) d t H',Sm H H'->H' d*>.xd [(↑72,.r t)]->H' t*>.u [.s "round",.i (c:Int)]->Co ts c->¬One (En ts) c->(∀a,Co ts a->a<c->One (En ts) a)->E (.r C) (gh d) H'
def BG(C:i4):Sp:=wK\Jd C
def M0{ts:-Tri}(g:Good ts)(c:Nat):Abt (En ts) c (abt (ents ts) c):=#[M4 g.nd c,λ_ _=>qY]
section
def AL:aQ ["steps","corner"] ["steps"] (au rL):=.f
def HP{f f1 R C:i4}{fd d1 T:kS}(U:Fun K ↑22 ↑22 rL f fd)(mS:mg ↑48 = gf)(G:!Use 2 ↑45 ["about"] BM f1 d1)
  (M:iZ K C R) (cf:fH K C ↑72) (F:!az CX0 1 R T [↑87,↑72] (nY K)) (b2:Binds K T [↑87,↑72] []) (mC:mg "NoSkin"*>.r C) :
  !az (CX1 P w) 3 f fd ["steps"] (BG C):=by
 show U.ok1 AL (λvs H Q E h=>?_) (λ_ _ _ _ H vs _ _ y h=>?_)
 .let#[S,ts,L,1,_]:=h;rfl
 let#[S,ts,L,1,r,nk,am,B,hL,hl,g,an,q1,q2]:=h;let hu:=dC y;erw[_,aj (dD xC rfl (bT\bP (nK rfl) (by rfl) mS iJ (pa1\pv 0)) (gx 1 AL.nd)
  (aj\bf (fR\dW (uc G y\pa1 (ir hu (pv 0) (pv 1) λ_ _=>rfl))) (aj\uD (uz lets1 rfl) rfl M F y b2 rfl mC (pa1\ao (ae aK\pa1 (pv 1)))) ba)),?_]
 let a6:=line5000;erw[2,S,1,.l #[_,r],λks vs hk=>.l #[(L.map (·.1)).map λc:Nat=>(c:Int),?_,by rw[av,av];show hL,λp ms hp pm ps=>?_]]
 .rcases hk with ⟨kvs,e,rfl,_⟩|⟨kvs,as,e,_⟩
  .rw[r] at e;cases e;rw[cw,cw,cw];rfl
  rw[r] at e;cases e
 let#[cs,1,pl,pc]:=uy nk pm ps;let e:(cs.map λc:Nat=>(c:Int)).map V.int=nV cs:=by rw[cw];rfl
 rw[e];walk_at"H p hp H1 s1 X";erw[p,1,#[_,SqL.of X],fC (K:=[]) (a:=p) (xs:=nV cs) (λi Z H'=>∃D,Z=[gh\.r S,D]/\Sm H1 H'/\∀c∈cs.take i,One (En ts) c) #[gf,1,Sm.refl _,∅] (by rintro i Z H' _ ⟨_,_,e,_⟩;show SqL.of\e.keep X λz=>z) ?_ ?_]
 .rintro i x Z H2 hi ⟨D,rfl,sm,m⟩;rw[nV,br] at hi;let#[#[c,d,1],Y,u,#[a,ha,ap],ab,aM]:=#[cz.mp hi,(pc.mem_iff.mp\a_ d:c∈L.map (·.1)),((B c).mp Y:Co ts c),q_ Y,((Sm.of s1)<*sm:Sm H H2),ab.rd\am _ ha];let et:cs.take (i+1)=cs.take i++[c]:=by rw[bC,d];rfl
  let aS:abt (ents ts) c≠[]:=λz=>by
   let#[p',q',h]:=u;have:=qY.mpr h;rw[z] at this;cases this
  let hlen:↑(abt (ents ts) c)<=1000:=by have:=Bu (ents ts) c;rw[eF] at this;lia
  erw[3,S,2,.l #[_,Sum.inl (c:Int),ab.rd\.l r,1,ap.symm],a,_,En ts,c,1,aM,aS,hlen,g.sk,M0 g c,λb H3 ad hb=>?_];erw[2,?_];cases b with
  |true=>
   show mO #[2,sm<*ad,λn v=>?_];rw[et] at v;rcases a9.mp v with h|h
   .exact m n h
   rw[aG.mp h];show hb.mp rfl
  |false=>
   let ag:¬One (En ts) c:=λz=>by have:=hb.mpr z;cases this
   let a0:c<10 ^ 160:=(an.resolve_left λz=>ag\z c u) c u;let#[a1,a2,a3]:=Ir a0;show sL #[2,lit2,λt H4 ht s4 l=>?_];erw[lit1,λx hx=>?_];erw[x,C,.r t,tO c,1,aH,M.over,cf,#[.u (SqT.of\bG hx _ _ l)\.c (.s _ ⋯) (.c (.i _) .nil),a1,a2,a3],λdx al I=>#[1,gh dx,?_,?_]]
   .rw[aq\aB I,aH]
   let N:H4 dx=gf:=by rw[aq I] at al;show al
   show q2 c dx t _ (λb o e=>?_) ?_ ?_ u ag λn v bb=>m n ?_
   .rcases ((Sm.of s1).trans\sm.trans (ad.trans\Sm.of s4)) b o e with z|⟨z1,ob,z⟩
    .refine .l ?_;rw[eS\ak z hx,aq\ak z N,aq\ak z hx,aq\ak z hx];show z
    show .o #[z1,ob,?_];rw[eS\ak z hx,aq\ak z N,aq\ak z hx,aq\ak z hx];show z
   .rw[eS I,aH]
   .rw[eS\ak l hx,aq\ak l N,aq\ak l hx,aq\ak l hx];show l
   let#[hm,#[j,q],a4,a5]:=#[(pc.mem_iff.mpr\(B n).mpr v:n∈cs),gB hm,(aO.mp q).1,(aO.mp d).1];let O:j<i:=by
    show kL λz=>?_;by_cases O:j=i
    .subst O;rw[d] at q;cases q;lia
    have:=xp.mp pl i j a5 a4 ();rw[(aO.mp d).2,(aO.mp q).2] at this;lia
   show a_ (by rw[List.getElem?_take,Sh O];show q)
 rintro Z H2 ⟨D,rfl,sm,m⟩;rw[bE,cm] at m;show q1 H2 ((Sm.of s1)<*sm) λc d=>m c\pc.mem_iff.mpr ((B c).mpr d)
end
def zY{a:Hp}{E:XK}(M:iZ K C g)(h:fH K C ↑72)(l:a t*>.u xs)(hd:∀H',Same a H'->Dt [] H' (.r t) d)
  (c:d.showable=gm/\d.depth<=60/\d.shown.length<=10000) (q:∀dx H',Same a H'->H' dx*>.xd [(↑72,.r t)]->E (.r C) (gh dx) H') :
  [V.ref t].length<=js/\∀x,a x=gf->nY K [.r x,.r t] (upd a x\dI x C gf) (λv H2=>v=.non/\∃d,H2 x*>dI x C d/\E (.r C) d\del H2 x) E0:=by
 erw[lit1,λx hx=>?_];erw[x,C,.r t,d,1,aH,M.over,h,#[hd _\bG hx,c.1,c.2.1,c.2.2],λdx f e=>#[1,gh dx,?_,?_]]
 .rw[aq\aB e,aH]
 let j:a dx=gf:=by rw[aq e] at f;show f
 show q dx _ (λb o z=>?_) ?_
 .rw[eS\ak z hx,aq\ak z j,aq\ak z hx,aq\ak z hx];show z
 rw[eS e,aH]
def sN(k:Nat):PyData:=.tuple [.s ↑57,.i (k:Int)]
def Fh{c:Nat}(h:c<10 ^ 160):(sN c).showable=gm/\(sN c).depth<=60/\(sN c).shown.length<=10000:=by
 erw[?_,?_,?_]
 .change (gm&&(decide (((c:Nat):Int).natAbs.log2<1920)&&gm))=gm;rw[Si\lx h];rfl
 .change max 0 (max 0 0)+1<=60;decide
 let h1:↑((toString ((c:Nat):Int):String):Str)<=160:=by rw[vv,vn];show qg 159 c h
 change ↑(tupleText [reprText ↑57,(toString ((c:Nat):Int):String)])<=10000;let h2:↑(reprText ↑57)<=20:=⋯;unfold tupleText;rw[iG,iG];let#[a,b,d]:=#[DA [reprText ↑57,(toString ((c:Nat):Int):String)] ∅,(⋯:↑(("(" : Str))=1),(⋯:↑(Str.ofString ")")=1)];let e:piled [reprText ↑57,((toString ((c:Nat):Int):String):Str)]<=300:=by generalize ((toString ((c:Nat):Int):String):Str)=z at h1;simp[piled];lia
 change _+_+↑(Str.ofString ")")<=_;lia
def uC{n:Nat}(h:n<=1000):n<10 ^ 160:=kO h ⋯
def ent3(t:Tri):-Ent:=[((t.1,t.2.1),t.2.2),((t.2.1,t.2.2),t.1),((t.2.2,t.1),t.2.1)]
def SdF(ts:-Tri)(k:Nat)(s:Nat×Nat):Prop:=((ents\ts.take k).map (·.1)).Nodup/\∃t j,ts[k]?*>t/\((ent3 t).map (·.1))[j]?*>s/\s∈(ents\ts.take k).map (·.1)/\∀s'∈((ent3 t).map (·.1)).take j,s'∉(ents\ts.take k).map (·.1)
def FltS(H:Hp)(d:i4)(k m n:Nat):Prop:=∃t u,H d*>.xd [(↑72,.r t)]/\H t*>.u [.s "side",.i (k:Int),.r u]/\H u*>.u [.i (m:Int),.i (n:Int)]
def EG(C:i4)(vs:-V)(H:Hp)(Q:VK)(E:XK)(T:i4)(a:-V)(ts:-Tri):Prop:=vs=[.r T]/\H T*>.a a/\ay H a ts/\↑ts<=400/\(∀t∈ts,t.1≠t.2.1/\t.2.1≠t.2.2/\t.2.2≠t.1)/\(((ents ts).map (·.1)).Nodup\/∀t∈ts,t.1<10 ^ 160/\t.2.1<10 ^ 160/\t.2.2<10 ^ 160)/\
 (∀D H',((ents ts).map (·.1)).Nodup->H D=gf->Same H H'->H' D*>.dT ((ents ts).map bB)->Q (.r D) H')/\
 ∀k m n d H',SdF ts k (m,n)->Same H H'->FltS H' d k m n->E (.r C) (gh d) H'
def y0(C:i4):Sp:=wK\EG C
def zt(ts:-Tri)(t:Tri):ents (ts++[t])=ents ts++ent3 t:=by rw[j8];simp[ents,ent3]
def SdF.not{s:Nat×Nat}(h:SdF ts k s):¬((ents ts).map (·.1)).Nodup:=λnd=>by
 let#[_,t,j,a,b,c,_]:=h;rw[<-gD (k+1) ts,j8,aV,cD] at nd;let nd:=nd.1;rw[bC,a] at nd;let nd:((ents (ts.take k++[t])).map (·.1)).Nodup:=nd;rw[zt,aV,cD] at nd;show nd.2.2 _ c _ (a_ b) rfl
def Bh{t:Tri}(h:t.1≠t.2.1/\t.2.1≠t.2.2/\t.2.2≠t.1):((ent3 t).map (·.1)).Nodup:=by let#[a,b,c]:=t;let#[h1,h2,d]:=h;let h1:a≠b:=h1;let h2:b≠c:=h2;let d:c≠a:=d;simp[ent3];lia
def sQ(k m n:Nat):PyData:=.tuple [.s "side",.i (k:Int),.tuple [.i (m:Int),.i (n:Int)]]
def qU{c:Nat}(h:c<10 ^ 160):↑((toString ((c:Nat):Int):String):Str)<=160:=by rw[vv,vn];show qg 159 c h
def z7{n:Nat}:∀{xs:-Str},(∀x∈xs,↑x<=n)->piled xs<=↑xs*(n+2)
 | [],_=>by simp[piled]
 |x::xs,h=>by
  let h1:=h x ∅;let h2:=z7 (n:=n) (xs:=xs) λy a=>h y (by simp[a]);let b:piled (x::xs)=↑x+2+piled xs:=by simp[piled]
  rw[b,ck,Nat.succ_mul];lia
def Aq{xs:-Str}{n:Nat}(h1:2<=↑xs)(h:∀x∈xs,↑x<=n):↑(tupleText xs)<=↑xs*(n+2)+3:=by unfold tupleText;rw[iG,iG];let a:=DA xs (λz=>by rw[z] at h1;simp at h1);let b:↑(("(" : Str))=1:=⋯;let c:↑(Str.ofString ")")=1:=⋯;let d:=z7 h;rw[Sg (by simp;lia)];change _+_+↑(Str.ofString ")")<=_;lia
def Fu{k m n:Nat}(a:k<10 ^ 160)(hm:m<10 ^ 160)(b:n<10 ^ 160):(sQ k m n).showable=gm/\(sQ k m n).depth<=60/\(sQ k m n).shown.length<=10000:=by
 erw[?_,?_,?_]
 .change (gm&&(decide (((k:Nat):Int).natAbs.log2<1920)&&((decide (((m:Nat):Int).natAbs.log2<1920)&&(decide (((n:Nat):Int).natAbs.log2<1920)&&gm))&&gm)))=gm;rw[Si\lx a,Si\lx hm,Si\lx b];rfl
 .change max 0 (max 0\max (max 0 (max 0 0)+1) 0)+1<=60;decide
 change ↑(tupleText [reprText "side",(toString ((k:Nat):Int):String),tupleText [(toString ((m:Nat):Int):String),(toString ((n:Nat):Int):String)]])<=10000;let#[h2,i1,i2,c]:=#[(⋯:↑(reprText "side")<=20),qU a,qU hm,qU b];let h1:↑(tupleText [((toString ((m:Nat):Int):String):Str),((toString ((n:Nat):Int):String):Str)])<=2*(160+2)+3:=Aq ∅ λx hx=>by
  rcases aU.mp hx with rfl|hx
  .exact i2
  rw[aG.mp hx];show c
 show cQ (Aq (n:=400) ∅ λx hx=>?_) (by change 3*(400+2)+3<=10000;decide);rcases aU.mp hx with rfl|hx
 .lia
 rcases aU.mp hx with rfl|hx
 .lia
 rw[aG.mp hx];lia
section
def EU{f f2 C:i4}{fd d2:kS}(U:Fun K ↑40 ↑40 qP f fd)(T:cv mg)
  (MX:iZ K C f2) (cf:fH K C ↑72) (F:!az CX0 1 f2 d2 [↑87,↑72] (nY K)) (b2:Binds K d2 [↑87,↑72] []) (mC:mg "NoSkin"*>.r C):!az (CX1 P w) 3 f fd [↑56] (y0 C):=by
 show U.ok1 jm (λvs H Q E h=>?_) (λ_ _ _ _ H _ _ _ hr h=>?_)
 .let#[T,vt,ts,1,_]:=h;rfl
 let#[T0,vt,ts,1,hT,ht,hl,a1,a2,q,qE]:=h;let hu:=dC hr;erw[_,af (sx 1 jm.nd uS)
  (af (dD xC rfl (vF rfl T.enum\pa1 (pv 0)) (du rfl\aY (gx 2 jm.nd) (aY (du rfl\aY (gx 3 jm.nd) (aY (gx 4 jm.nd)\aY (gx 5 jm.nd) dh)) dh))
   (aj (dD xC rfl (bT\bp (ae (ao\ae (ao\ae (pv 3) (pa1\pv 4)) (pa1\pv 5))\ae (ao\ae (ao\ae (pv 4) (pa1\pv 5)) (pa1\pv 3)) (pa1\ao (ae (ao\ae (pv 5) (pa1\pv 3))\pa1 (pv 4))))) (du rfl\aY (gx 6 jm.nd) (aY (gx 7 jm.nd) dh))
    (af (bf (gY\mm hu (pv 6) (pv 1)) (aj\uD (uz lets1 rfl) rfl MX F hr b2 rfl mC (pa1\ao (ae aK\ae (pv 2) (pa1\pv 6)))) ba)
    (aj\jt hu (pv 1) (pv 6) (pv 7) rfl)))))
  (aj\aF (pv 1))),?_]
 let bi:=line5000;let hlen:=aE ht;show λD H1 h1 s1 y1=>?_;erw[2,T0,vt,1,SqL.of (s1>>hT),uY (K:=[]) (a:=T0) (xs:=vt) (λi Z H2=>∃v2 v3 v4 v5 v6 v7,Z=[gh\.r T0,gh\.r D,v2,v3,v4,v5,v6,v7]/\Same H H2/\H2 D*>.dT ((ents\ts.take i).map bB)/\((ents\ts.take i).map (·.1)).Nodup)
  #[gf,gf,gf,gf,gf,gf,1,s1,y1,List.Pairwise.nil] (by rintro i Z H2 _ ⟨_,_,_,_,_,_,_,e,_⟩;show SqL.of (e>>hT)) ?_ ?_]
 .rintro i x p Z H2 hi ⟨v2,v3,v4,v5,v6,v7,rfl,sm,hD,B⟩ hp;let#[#[a,b,c],I,t,1,hb]:=bY ht hi;let hb:H t*>.u [.i (a:Int),.i (b:Int),.i (c:Int)]:=hb;let et:ts.take (i+1)=ts.take i++[(a,b,c)]:=by rw[bC,I];rfl
  walk_at"H2 p hp H3 s3 y3";erw[p,2,SqT.of y3,1,9,9,t,2,SqT.of (s3>>sm>>hb),1,9,9,6,1,?_];erw[3,lit2,λsa H4 ga s4 y4=>?_];erw[2,lit2,λua H5 bl R S=>?_];erw[3,lit2,λsb H6 gb y y6=>?_];erw[2,lit2,λub H7 bm s7 y7=>?_];erw[3,lit2,λsc H8 gc s8 y8=>?_];erw[2,lit2,λuc H9 bn s9 y9=>?_];erw[lit3,λM r gM sA yM=>?_];let a3:Same H3 H7:=(s4<*R<*y)<*s7;let X:Same H7 r:=(s8<*s9)<*sA;let al:Same H3 r:=a3<*X;let en:Paired (EnAt r) [V.ref ua,.r ub,.r uc] [((a,b),c),((b,c),a),((c,a),b)]:=
   .c #[ua,sa,1,X>>s7>>y>>S,X>>s7>>y>>R>>y4] (.c #[ub,sb,1,X>>y7,X>>s7>>y6]\.c #[uc,sc,1,sA>>y9,sA>>s9>>y8] .nil)
  let ag:r D*>.dT ((ents\ts.take i).map bB):=al>>s3>>hD;let ee:ents (ts.take (i+1))=ents (ts.take i)++[((a,b),c),((b,c),a),((c,a),b)]:=by rw[et,j8];simp[ents]
  let#[L,L,Y,bt,l0]:=#[Bh\a1 _ (a_ I),(L:(([((a,b),c),((b,c),a),((c,a),b)]:-Ent).map (·.1)).Nodup),(rfl:ent3 (a,b,c)=[((a,b),c),((b,c),a),((c,a),b)]),((aO.mp I).1:i<↑ts),eF\ts.take i];rw[bz] at l0;let am:Same H r:=(sm<*s3)<*al;generalize an:[((a,b),c),((b,c),a),((c,a),b)]=g at en L ee Y;let a4:↑g=3:=by rw[<-an];rfl
  let a5:M≠D:=λz=>by rw[z,ag] at yM;cases yM
  erw[M,1,#[_,SqL.of yM],fC (K:=[]) (a:=M) (xs:=[V.ref ua,.r ub,.r uc]) (λj Z H'=>∃w6 w7,Z=[gh\.r T0,gh\.r D,gh\.i (i:Int),gh\.i (a:Int),gh\.i (b:Int),gh\.i (c:Int),w6,w7]/\(∀l o,l≠D->r l*>o->H' l*>o)/\H' D*>.dT ((ents (ts.take i)++g.take j).map bB)/\∀s'∈(g.take j).map (·.1),s'∉(ents\ts.take i).map (·.1))
   #[v6,v7,1,λ_ _ _ e=>e,by rw[xq,eY];show ag,∅] (by rintro j Z H' _ ⟨_,_,_,e,_⟩;show SqL.of\e _ _ a5 yM) ?_ ?_]
  .rintro j x Z H' hj ⟨w6,w7,rfl,but,N,O⟩;let#[#[#[m,n],o],ho,u,sd,1,ab,v]:=bY en hj;let ab:r u*>.u [.r sd,.i (o:Int)]:=ab;let v:r sd*>.u ((ky m n).map kV):=v;let ej:g.take (j+1)=g.take j++[((m,n),o)]:=by rw[bC,ho];rfl
   let bw:j<↑g:=(aO.mp ho).1;let nu:u≠D:=λz=>by rw[z,ag] at ab;cases ab
   let ns:sd≠D:=λz=>by rw[z,ag] at v;cases v
   erw[u,2,SqT.of\but _ _ nu ab,1,9,6,?_];let a6:Same H H':=λl o e=>but l o (ak e h1) (am>>e);by_cases ad:(m,n)∈(ents\ts.take i).map (·.1)
   .let bb:∀t∈ts,t.1<10 ^ 160/\t.2.1<10 ^ 160/\t.2.2<10 ^ 160:=a2.resolve_left λnd=>by
     let sd:SdF ts i (m,n):=#[B,(a,b,c),j,I,by rw[Y,br,ho];rfl,ad,by rw[Y,<-pk];show O];show sd.not nd
    let bc:SdF ts i (m,n):=#[B,(a,b,c),j,I,by rw[Y,br,ho];rfl,ad,by rw[Y,<-pk];show O];let hc:=bb _\a_ I;let ap:m<10 ^ 160/\n<10 ^ 160:=by
     let hm:=a_ ho;rw[<-an] at hm;let#[c1,c2,c3]:=hc;simp at hm;rcases hm with ⟨⟨rfl,rfl⟩,_⟩|⟨⟨rfl,rfl⟩,_⟩|⟨⟨rfl,rfl⟩,_⟩
     .exact#[c1,c2]
     .exact#[c2,c3]
     erw[c3,c1]
    let#[x,hx]:∃x,a8 ((ents (ts.take i)++g.take j).map bB) (ky m n)*>x:=by
     cases hv:a8 ((ents (ts.take i)++g.take j).map bB) (ky m n) with
     |some x=>erw[x,1]
     |none=>show absurd (by rw[aV];show eK _ ad)\gO.mp hv
    erw[3,D,2,DGet.t (k:=ky m n) N\but _ _ ns v,gm,by rw[hx];rfl,aL ?_];erw[3,lit3,λt5 H5 g5 R S=>?_];let aM:H5 sd*>.u [.i (m:Int),.i (n:Int)]:=R>>(but _ _ ns v);show zY (d:=sQ i m n) MX cf S (λH' s'=>.u (SqT.of (s'>>S))\.c (.s _ ⋯) (.c (.i _)\.c (.u (SqT.of (s'>>aM))\.c (.i _) (.c (.i _) .nil)) .nil)) (Fu (uC ()) ap.1 ap.2) λdx H6 y e6=>?_;show qE i m n dx H6 bc (a6<*R<*y) #[t5,sd,e6,y>>S,y>>aM]
   let aS:(m,n)∉(ents (ts.take i)++g.take j).map (·.1):=by
    rw[aV,a9];rintro (z|z)
    .exact ad z
    rw[<-gD (j+1) g,ej,gz,aV,cD] at L;show L.2.2 _ z (m,n) ∅ rfl
   erw[3,D,2,DGet.t (k:=ky m n) N\but _ _ ns v,hB,by rw[gO.mpr aS];rfl,aA ?_];erw[3,2,D,2,DPut.t (k:=ky m n) N (but _ _ ns v) (by rw[av,bo,bz];lia),?_];rw[qQ aS];walk_at"H' D Hb kb yb";erw[9,λl o e1 e2=>(kb l e1).trans\but l o e1 e2,by rw[yb,ej,gz],λs' a0=>?_];rw[ej,aV] at a0;rcases a9.mp a0 with z|z
   .exact O s' z
   rw[aG.mp z];show ad
  rintro Z H' ⟨w6,w7,rfl,but,N,O⟩;have:g.take [V.ref ua,.r ub,.r uc].length=g:=je (by rw[a4];show ar 3);rw[this] at N O;erw[8,8,1,λl o e=>but l o (ak e h1) (am>>e),by rw[N,ee],?_];rw[ee,aV,cD];erw[B,L,λa' bd l be z=>O l be (z ▸ bd)]
 rintro Z H2 ⟨v2,v3,v4,v5,v6,v7,rfl,sm,hD,B⟩;rw[hlen,cm] at hD B;erw[2,q D H2 B h1 sm hD]
end
structure jL(CX:CXT)(P:lu)(w:n7)(K:W.Frag)(mg:Str->Option hK)(base:mu)(n:Nat)(x:Str)(ps:-Str)(sp:Sp)(f:i4)(fd:kS):Prop where
 g:!az CX n f fd ps sp
 b:Binds K fd ps []
 m:mg x*>.r f
 k:W.keepIn K (.r f)=gm
def wN(H:Hp)(d:i4)(k:Str):Prop:=∃t xs,H d*>.xd [(↑72,.r t)]/\H t*>.u (.s k::xs)
abbrev tri3(t:Tri):HO:=.u [.i (t.1:Int),.i (t.2.1:Int),.i (t.2.2:Int)]
def GE(vs:-V)(H:Hp)(Q:VK)(t:i4)(x:Tri):Prop:=vs=[.r t]/\H t*>tri3 x/\Q (.bl (decide (Ne3 x))) H
def AC:Sp:=fV GE
def GV(C:i4)(vs:-V)(H:Hp)(Q:VK)(E:XK)(T:i4)(a:-V)(ts:-Tri):Prop:=vs=[.r T]/\H T*>.a a/\ay H a ts/\↑ts<=400/\
 (∀r vr H',H r=gf->Same H H'->H' r*>.a vr->ay H' vr ts->(∀t∈ts,Ne3 t)->Q (.r r) H')/\
 ∀d H',Same H H'->wN H' d ↑57->(¬∀t∈ts,Ne3 t)->E (.r C) (gh d) H'
def AH(C:i4):Sp:=wK\GV C
section
def HR{f l:i4}{fd m:kS}(U:Fun K ↑90 ↑90 qk f fd)(T:cv mg)(F:o_ K)(G:!Use 2 ↑59 [↑49] yq l m):
  !az CX0 3 f fd [↑49] AC:=by
 show U.ok qd (!2) λ_ _ _ _ _ _ _ _ g h=>?_
 let#[t,#[a,b,c],1,j,q]:=h;erw[_,af (bf (PW.pt (iz (fR\dW (bP (lD (c:=↑16)) (by rfl) T.isi gF\ae (pv 0) (pa1\kg (v:=.ty ↑16) rfl T.tuple jW rfl)))
    (iT\aT kE (pln T.len\pv 0) ah (nomark _)))) (aj\aF gi) ba)
  (af (fD (pv 0)\du rfl (aY (gx 1 qd.nd)\aY (gx 2 qd.nd) (aY (gx 3 qd.nd) dh)))
  (af (bf (PW.pt\iz (fR\dW (uc G g\pa1 (pv 1))) (iz (fR\dW (uc G g\pa1 (pv 2)))\iT (fR\dW (uc G g\pa1 (pv 3))))) (aj\aF gi) ba)
  (aj\aF (ml (ff kE (pv 1) (pv 2)\nomark _)\ml (ff kE (pv 2) (pv 3)\nomark _) (mh\ff kE (pv 3) (pv 1) (nomark _)))))),?_]
 erw[2,0,gm,1,.u j,F.t,2,jJ ?_];erw[2,t,2,.o\SqT.of j,7,?_];show aA #[2,t,2,SqT.of j,1,9,9,6,?_];erw[2,a,7,jJ #[2,b,7,jJ #[2,c,7,mO ?_]]];let ne:∀x y:Nat,(!decide (V.int (x:Int)=V.int (y:Int)))=decide (x≠y):=λx y=>by
  rw[gk,eX];simp;lia
 erw[3,7,?_];rw[ne];by_cases d:a=b
 .rw[Sj λz=>z d];show aA ?_;rw[Sj λz:Ne3 (a,b,c)=>z.1 d] at q;show q
 rw[Si d];show aL #[3,7,?_];rw[ne];by_cases e:b=c
 .rw[Sj λz=>z e];show aA ?_;rw[Sj λz:Ne3 (a,b,c)=>z.2.1 e] at q;show q
 rw[Si e];show aL #[3,1,?_];rw[ne,show decide (c≠a)=decide (Ne3 (a,b,c)) from decide_eq_decide.mpr #[λz=>#[d,e,z],λz=>z.2.2]];show q
def HY{f f1 f2 C:i4}{fd d1 d2:kS}(U:Fun K ↑37 ↑37 n8 f fd)(T:cv mg)(G:!Use 3 ↑90 [↑49] AC f1 d1)
  (M:iZ K C f2) (cf:fH K C ↑72) (F:!az CX0 1 f2 d2 [↑87,↑72] (nY K)) (b2:Binds K d2 [↑87,↑72] []) (mC:mg "NoSkin"*>.r C) :
  !az (CX1 P w) 4 f fd ["things"] (AH C):=by
 show U.ok1 jZ (λvs H Q E h=>?_) (λ_ _ _ _ H _ _ _ hr h=>?_)
 .let#[T,y,ts,1,_]:=h;rfl
 let#[B,y,ts,1,hT,ht,hl,q,qE]:=h;let al:Room 2 _:=hr.mono ⋯;erw[_,af (sx 1 jZ.nd\bp fh)
  (af (dD xC rfl (vF rfl T.enum\pa1 (pv 0)) (du rfl\aY (gx 2 jZ.nd) (aY (gx 3 jZ.nd) dh))
   (af (bf (fR\dW (uc G hr\pa1 (pv 3))) (aj\uD (uz lets1 rfl) rfl M F al b2 rfl mC (pa1\ao (ae aK\pa1 (pv 2)))) ba)
   (af (fD (pv 3)\du rfl (aY (gx 4 jZ.nd)\aY (gx 5 jZ.nd) (aY (gx 6 jZ.nd) dh)))
   (aj\dN (dX eO gG gH fB (pv 1)\pa1 (ao\ae (de gL (by rfl) T.int ie\pa1 (pv 4)) (ae (de gL (by rfl) T.int ie\pa1 (pv 5))\pa1 (de gL (by rfl) T.int ie\pa1 (pv 6)))))))))
  (aj\aF (pv 1))),?_]
 let am:=line5000;let hlen:=aE ht;erw[aZ _,λr H1 ab s1 y1=>?_];erw[2,B,y,1,SqL.of (s1>>hT),uY (K:=[]) (a:=B) (xs:=y) (λi Z H'=>∃D I L N O vr,Z=[gh\V.ref B,gh\.r r,D,I,L,N,O]/\Same H H'/\H' r*>.a vr/\ay H' vr (ts.take i)/\∀t∈ts.take i,Ne3 t)
  #[gf,gf,gf,gf,gf,[],1,s1,y1,.nil,∅] (by rintro i Z H' _ ⟨_,_,_,_,_,_,_,e,_⟩;show SqL.of (e>>hT)) ?_ ?_]
 .rintro i x p Z H2 hi ⟨D,I,L,N,O,vr,rfl,sm,m,tr,u⟩ hp;let#[#[a,b,c],R,t,1,S]:=bY ht hi;let S:H t*>tri3 (a,b,c):=S;let an:i<↑ts:=(aO.mp R).1;let et:ts.take (i+1)=ts.take i++[(a,b,c)]:=by rw[bC,R];rfl
  walk_at"H2 p hp H3 g y3";let ad:=g>>sm>>S;erw[p,2,SqT.of y3,1,9,6,?_];erw[2,t,(a,b,c),1,ad,2,?_];by_cases v:Ne3 (a,b,c)
  .rw[Si v];show mO #[2,t,2,SqT.of ad,1,9,9,6,?_];erw[2,.l #[1,_,SqL.of (g>>m)],2,.l #[3,.l #[3,.l #[2,lit3,λt1 H4 g1 n j=>?_]]]];let X:=n>>g>>m;let l1:=aE tr;rw[bz] at l1;erw[r,6,X,(),λH5 k5 y5=>?_];let n1:∀l o,H l*>o->l≠r:=λl o e=>ak e ab;erw[8,8,1,λl o e=>(k5 l\n1 l o e)<*(n>>g>>sm>>e),y5,?_,?_]
   .rw[et];show bR (Paired.imp' (by rintro v' t' ⟨a',e,Y⟩;erw[a',e,(k5 a' (λz=>by rw[z,m] at Y;cases Y))<*(n>>g>>Y)]) tr)\.c #[t1,1,(k5 t1 (λz=>by rw[<-z,j] at X;cases X))<*j] .nil
   intro t ag;rw[et] at ag;rcases a9.mp ag with z|z
   .exact u t z
   rw[aG.mp z];show v
  rw[Sj v];show sL #[2,lit2,λt' H4 ap n j=>?_];show zY (d:=sN i) M cf j (λH' s'=>.u (SqT.of (s'>>j))\.c (.s _ ⋯) (.c (.i _) .nil)) (Fh\uC ()) λdx H' s5 e5=>?_;show qE dx H' (sm<*g<*n<*s5) #[t',_,e5,s5>>j] λz=>v\z _ (a_ R)
 rintro Z H2 ⟨D,I,L,N,O,vr,rfl,sm,m,tr,u⟩;rw[hlen,cm] at tr u;erw[2,q r vr H2 ab sm m tr u]
end
structure SCls(K:W.Frag)(C:i4):Prop where
 cl:Cls K C
 ordered:iy K C "ordered"
 rising:iy K C "rising"
 thirds:iy K C "thirds"
 steps:iy K C "steps"
def sflds(O R D S:i4):-(Str×V):=[("ordered",.r O),("rising",.r R),("thirds",.r D),("steps",.r S)]
def Srt(us:-Tri):Prop:=us.Pairwise (λa b=>HT.lexLt [(b.1:Int),(b.2.1:Int),(b.2.2:Int)] [(a.1:Int),(a.2.1:Int),(a.2.2:Int)]=hB)
structure SkIn(C:i4)(H:Hp)(x:i4)(ts us:-Tri)(dx O R D S:i4)(vo:-V)(L:-(Nat×i4)):Prop where
 ob:H x*>.ins C dx\sflds O R D S
 od:H O*>.a vo
 tr:ay H vo us
 th:Rd H D\.dT ((ents ts).map bB)
 st:Rd H S\.k (L.map stV)
 ab:∀z∈L,Rd H z.2\.k ((abt (ents ts) z.1).map nmV)
structure SkT(ts us:-Tri):Prop where
 sk:Skn ts
 al:Alike us ts
 so:Srt us
 ln:↑ts<=200
 bd:∀c,Co ts c->c<10 ^ 160
def c_(C:i4)(H:Hp)(x:i4)(ts us:-Tri):Prop:=SkT ts us/\∃(dx O R D S:i4)(a:-V)(L:-(Nat×i4)),SkIn C H x ts us dx O R D S a L/\(L.map (·.1)).Nodup/\∀c,c∈L.map (·.1)↔Co ts c
def c_.sm{us:-Tri}(s:Sm H H')(h:c_ C H x ts us):c_ C H' x ts us:=by let#[t,dx,O,R,D,S,b,L,h,r]:=h;erw[t,dx,O,R,D,S,b,L,#[s.keep h.ob λz=>z,s.keep h.od λz=>z,Paired.imp' (by rintro _ _ ⟨a,c,d⟩;erw[a,c,s.keep d λz=>z]) h.tr,s.rd h.th,s.rd h.st,λz hz=>s.rd\h.ab z hz],r]
def SmB(x:i4)(H H':Hp):Prop:=∀b o,b≠x->H b*>o->H' b*>o\/(eP o/\∃ob,H' b*>.z ob o)
def Few(ts:-Tri):Prop:=↑ts<=1000/\∀t∈ts,t.1<10 ^ 160/\t.2.1<10 ^ 160/\t.2.2<10 ^ 160
def fJ(ts:-Tri)(k:Str):Prop:=k = ↑57/\(¬∀t∈ts,Ne3 t)\/(∀t∈ts,Ne3 t)/\(k = "side"/\¬((ents ts).map (·.1)).Nodup\/((ents ts).map (·.1)).Nodup/\k = "round"/\∃c,Co ts c/\¬One (En ts) c)
def Jb(Cs C b:i4)(vs:-V)(H:Hp)(Q:VK)(E:XK)(x dx T:i4)(a:-V)(ts:-Tri):Prop:=vs=[.r x,.r T]/\H x*>.ins Cs dx []/\H T*>.a a/\ay H a ts/\Few ts/\
 (∀us H',↑ts<=200->SmB x H H'->c_ Cs H' x ts us->Q .non H')/\(∀d H' k,↑ts<=200->fJ ts k->Sm H H'->wN H' d k->E (.r C) (gh d) H')/\(200<↑ts->E (.r b) gf H)
def vR(Cs C a:i4):Sp:=sEx5\Jb Cs C a
def CN(n:Ne3 t)(h:Bg t u):u=bg t:=by
 let#[a,b,c]:=t;let#[d,e,f]:a≠b/\b≠c/\c≠a:=n;let#[h,h1,h2]:=h;rcases h with rfl|rfl|rfl
 .exact (tF #[h1,h2]).symm
 .rw[<-sF #[d,e,f]];show (tF #[h1,h2]).symm
 rw[sF (a:=c) (b:=a) (c:=b) #[f,d,e]];show (tF #[h1,h2]).symm
def sy:∀{ts us:-Tri},(∀t∈ts,Ne3 t)->Paired Bg ts us->us=ts.map bg
 |_,_,_,.nil=>rfl
 |_,_,n,.cons h r=>by rw[CN (n _ jc) h,sy (λt a=>n t\dz _ a) r];rfl
section
def rj:aQ [↑87,↑56,"checked","thirds","steps"] [↑87,↑56] (au mF):=.f
def J6{f f1 f2 f3 f4 f5 Cs C CM:i4}{fd d1 d2 d3 d4 d5:kS}(U:Fun K ↑12 "Skin.__init__" mF f fd)(T:cv mg)(mS:mg ↑48 = gf){tM:Tok}(mM:mg "MOST_TRIPLES"*>.i 200 tM)(X:SCls K Cs)(bK:mg "TooMany"*>.r CM)(bM:W.excIn K CM bmV ↑5 = gm)
  (G1:jL (CX1 P w) P w K mg base 4 ↑37 ["things"] (AH C) f1 d1) (G2:jL (CX1 P w) P w K mg base 3 ↑40 [↑56] (y0 C) f2 d2) (G3:!Use 1 ↑36 ["thirds"] Av f3 d3)
  (G4:jL (CX1 P w) P w K mg base 3 ↑22 ["steps"] (BG C) f4 d4) (G5:!Use 1 ↑50 [↑57] vy f5 d5) :
  !az (CX1 P w) 5 f fd [↑87,↑56] (vR Cs C CM):=by
 show U.ok1 rj (λvs H Q E h=>?_) (λ_ _ _ s H vs _ _ hr h=>?_)
 .let#[x,dx,T,l,ts,1,_]:=h;rfl
 let#[x,dx,T0,l,ts,1,hx,hT,ht,#[b9,an],q1,qE,qM]:=h;let a3:Room 1 _:=hr.mono ⋯;let a4:Room 3 _:=hr.mono ⋯;erw[_,af (bf (aT oM (pln T.len\pv 1) (dO (v:=.i 200) rfl mM #[2])\nomark _) (aj\lF lets1 rfl rfl rfl bK bM (pa1\vG (ke (BS\pln T.len (pv 1))\ke aK (ke (BS\dO (v:=.i 200) rfl mM #[2]) v8)))) ba)
  (af (sx 2 rj.nd\iR G1.g hr rfl G1.m G1.k G1.b .nil pass1 (pa1\pv 1))
  (af (sx 3 rj.nd\iR G2.g a4 rfl G2.m G2.k G2.b .nil pass1 (pa1\pv 2))
  (af (sx 4 rj.nd\uc G3 a3 (pa1\pv 3))
  (af (dN\iR G4.g a4 rfl G4.m G4.k G4.b .nil pass1 (pa1\pv 4))
  (af (rT (pv 0) (bP xU (by rfl) mS iJ\pa1 (dq (N:=[↑57]) (fr:=[gf]) (qh ⋯ rfl ⋯ ⋯) rfl (bT\pv 2)
    (λC s H fp Sn=>#[gx 0 (⋯:([↑57]:-Str).Nodup),dZ,uc G5 a3\pa1 (pv 0)]))) rfl)
  (af (rT (pv 0) (bP (DT rfl) (by rfl) mS iJ\pa1 (pv 4)) rfl)
  (af (rT (pv 0) (pv 3) rfl)
  (aj\rT (pv 0) (pv 4) rfl)))))))),?_]
 let ca:=line5000;let hlen:=aE ht;erw[2,T0,2,.l\SqL.of hT,6,2,ite2 (λap=>?_) λap=>?_]
 .let#[ap,hv,i1,i2,i3]:=#[(Sl ap:(200:Int)<(↑l:Int)),(uC ():↑l<10 ^ 160),(qU hv:↑((toString ((↑l:Nat):Int):String):Str)<=160),(⋯:↑((toString (200:Int):String):Str)<=60),(⋯:↑((" triples, more than " : Str))<=60)];let hz:10020<=sizeLine:=by rw[cW];lia
  let i0:↑(Str.empty)=0:=rfl;let l1:↑(Str.empty++((toString ((↑l:Nat):Int):String):Str))<=300:=by rw[iG];lia
  let l2:↑((Str.empty++((toString ((↑l:Nat):Int):String):Str))++(" triples, more than " : Str))<=400:=by rw[iG];lia
  let l3:↑(((Str.empty++((toString ((↑l:Nat):Int):String):Str))++(" triples, more than " : Str))++((toString (200:Int):String):Str))<=500:=by rw[iG];lia
  erw[2,T0,2,.l\SqL.of hT,_,.o #[2,lx hv,1],2,(),2,(),_,.o #[2,⋯,1],2,(),(),lit1,?_];show qM ()
 let hl:↑ts<=200:=by have:¬(200:Int)<(↑l:Int):=λz=>ap\Si z;lia
 erw[2,T0,l,ts,1,hT,ht,(),λr vr H1 cb s1 y1 tr1 al=>?_,λd H1 s1 B e2=>qE d H1 _ hl (.l #[1,e2]) (Sm.of s1) B];erw[2,r,vr,ts,1,y1,tr1,(),al,.o an,λD H2 a5 cc s2 y2=>?_,λk m n d H2 B s2 ⟨t,u,Y,e4,_⟩=>qE d H2 _ hl (.o #[al,.l #[1,B.not]]) (Sm.of\s1.trans s2) #[t,_,Y,e4]];let g:Good ts:=#[al,a5];let a6:∀c,Co ts c->c<10 ^ 160:=λc hc=>by
  let#[p',q',bN]:=hc;rcases cG.mp bN with z|z|z
  .exact (an _ z).1
  .exact (an _ z).2.1
  show (an _ z).2.2
 erw[2,D,ents ts,1,y2,g.nd,by rw[eF];lia,λS L H3 cd aS st=>?_];let lL:↑L<5000:=by have:=st.len;rw[eF] at this;lia
 erw[2,S,ts,L,1,st.at_,st.nk,λz hz=>.l\st.ab z hz,st.key,lL,(),g,.o a6,λp ad bS=>?_,λc d t p ad B e2 Y e4 e5=>qE d p _ hl (.o #[al,.o #[a5,1,c,Y,e4]]) (((Sm.of\s1.trans s2)<*aS)<*ad) #[t,_,B,e2]]
 let bb:Sm H p:=((Sm.of\s1.trans s2)<*aS)<*ad;let bc:p x*>.ins Cs dx []:=bb.keep hx (λz=>z);let a0:Sm H2 p:=aS<*ad;let bd:p r*>.a vr:=a0.keep (s2>>y1) (λz=>z);let be:ay p vr ts:=Paired.imp' (by rintro v' t' ⟨a',e,I⟩;erw[a',e,a0.keep (s2>>I) λz=>z]) tr1;let bX:=aE be;erw[2,r,1,#[_,SqL.of bd],λZ_ hZ=>dM (K:=[]) (a:=r) (xs:=vr) (λi Z ys H'=>∃o us,Z=[o]/\Same p H'/\H' Z_*>.a ys/\ay H' ys us/\Paired Bg (ts.take i) us) #[gf,[],1,bG hZ,aH,.nil,.nil]
  (by rintro i Z ys H' _ ⟨_,_,_,e,_⟩;show SqL.of (e>>bd)) ?_ ?_]
 .rintro i v Z ys H' hi ⟨o,us,rfl,sm,bi,tr,bg⟩;let#[t3,hs,t,1,q]:=bY be hi;let bl:i<↑ts:=(aO.mp hs).1;let ly:↑ys<=200:=by rw[aE tr,<-aE bg,bz];lia
  erw[2,t,t3,1,sm>>q,λr' u H5 s5 y5 b0=>#[s5>>bi,(),λHn kn yn=>#[gh\.r t,us++[u],1,λb o e=>(kn b\ak e hZ)<*(s5>>sm>>e),yn,?_,by rw[bC,hs];show bR bg\.c b0 .nil]]];let b1:=s5>>bi;let tn:∀{b':i4}{xs:-V},H5 b'*>.u xs->b'≠Z_:=λe=>bL e b1 ∅;show bR (Paired.imp' (by rintro _ _ ⟨b',B,e2⟩;erw[b',B,by let Y:=s5>>e2;show (kn _\tn Y)<*Y]) tr)\.c #[r',1,(kn _\tn y5)<*y5] .nil
 rintro Z ys H5 ⟨o,ws,rfl,s5,b2,am,bg⟩;rw[bX,cm] at bg;let ce:↑ys=↑ts:=by rw[aE am,<-aE bg]
 let ly:↑ys<=200:=();erw[Z_,ys,ws.map kyT,1,SqL.of b2,uK am,(),λO ix hO pm ps=>?_];let#[bm,a1,perm]:=#[(λi hi=>iF.mp\pm.mem_iff.mp hi:∀i∈ix,i<↑ys),uL am ix bm,(yv (by rw[<-aE am];show pm):(ix.map λi=>ws.getD i (0,0,0)).Perm ws)];let bn:Srt (ix.map λi=>ws.getD i (0,0,0)):=by
  unfold Srt;rw[gC] at ps |-;show ps.imp_of_mem λ{i j} hi hj h=>?_;let gt:∀i,i∈ix->(ws.map kyT).getD i []=kyT (ws.getD i (0,0,0)):=λi hi=>by
   let bl:i<↑ws:=by rw[<-aE am];show bm i hi
   simp[List.getD,aR bl]
  rw[gt i hi,gt j hj] at h;show h
 generalize (ix.map λi=>ws.getD i (0,0,0))=us at a1 perm bn;generalize (ix.map λi=>ys.getD i .non)=vo at a1 |-;walk_at"H5 O hO y s6 y6";let M:Same p y:=s5<*s6;let b3:ay y vo us:=Paired.imp' (by rintro v' t' ⟨a',e,I⟩;erw[a',e,s6>>I]) a1;erw[2,x,Cs,dx,2,M>>bc,X.cl,X.ordered,(by change 0<1000;decide),?_];let bt:Rd y S (.k\L.map stV):=(Sm.of M).rd\ad.rd (.l st.at_);let aM:=M>>bc;walk_at"y x H7 k7 y7";let bw:∀{b:i4}{u:HO},eP u->Rd y b u->b≠x:=λ{b u} hu q z=>by
  subst z;rcases q with e|⟨ob,e⟩
  .rw[aM] at e;cases e;show hu
  rw[aM] at e;cases e
 let bx:∀{b:i4}{u:HO},eP u->Rd y b u->Rd H7 b u:=λ{b u} hu q=>by
  let n:=bw hu q;rcases q with e|⟨ob,e⟩
  .exact .l\(k7 b n).trans e
  show .o #[ob,(k7 b n)<*e]
 let#[b4,bA,cf]:=#[bx (u:=.k\L.map stV) True.intro bt,((Sm.of M).rd\a0.rd (.l y2):Rd y D (.dT\(ents ts).map bB)),bx (u:=.dT\(ents ts).map bB) True.intro bA];erw[2,S,2,b4,True.intro,λks vs hk=>.l #[(L.map (·.1)).map λc:Nat=>(c:Int),?_,by rw[av,av];show lL,λR ms hR pm ps=>?_]]
 .rcases hk with ⟨kvs,e,rfl,_⟩|⟨kvs,as,e,_⟩
  .cases e;rw[cw,cw,cw];rfl
  cases e
 let#[cs,1,pl,pc]:=uy st.nk pm ps;let e:(cs.map λc:Nat=>(c:Int)).map V.int=nV cs:=by rw[cw];rfl
 rw[e];walk_at"H7 R hR H8 s8 y8";erw[2,x,Cs,dx,2,s8>>y7,X.cl,X.rising,(by change 1<1000;decide),?_];walk_at"H8 x H9 k9 y9";erw[3,x,Cs,dx,2,y9,X.cl,X.thirds,(by change 2<1000;decide),?_];walk_at"H9 x Ha ka ya";erw[3,x,Cs,dx,2,ya,X.cl,X.steps,(by change 3<1000;decide),?_];walk_at"Ha x Hb kb yb";let b5:∀b,b≠x->Hb b=H8 b:=λb n=>(kb b n).trans\(ka b n).trans (k9 b n);let ag:∀b o,b≠x->y b*>o->Hb b*>o:=λb o n e=>(b5 b n)<*(s8>>((k7 b n)<*e));let nO:O≠x:=λz=>by rw[z,aM] at y6;cases y6
 let z2:ay Hb vo us:=Paired.imp' (by rintro v' t' ⟨a',e,I⟩;erw[a',e,ag a' _ (λz=>by rw[z,aM] at I;cases I) I]) b3;let a2:∀{b:i4}{u:HO},eP u->Rd y b u->Rd Hb b u:=λ{b u} hu q=>by
  let n:=bw hu q;rcases q with e|⟨ob,e⟩
  .exact .l\ag b _ n e
  show .o #[ob,ag b _ n e]
 let b6:=a2 (u:=.dT\(ents ts).map bB) True.intro bA;let b8:=a2 (u:=.k\L.map stV) True.intro bt;show q1 us Hb hl (λb o n e=>?_) #[#[#[g,bS],(by let e:=sy al bg;rw[e] at perm;show perm),bn,hl,a6],dx,O,R,D,S,vo,L,#[yb,ag O _ nO y6,z2,b6,b8,λz hz=>a2 (u:=.k\(abt (ents ts) z.1).map nmV) True.intro\(Sm.of M).rd (ad.rd\.l (st.ab z hz))],st.nk,st.key];rcases bb b o e with z|⟨z1,ob,z⟩
 .exact .l\ag b _ n (M>>z)
 show .o #[z1,ob,ag b _ n (M>>z)]
end
def Rim(ts:-Tri)(s:Nat×Nat):Prop:=s∈(ents ts).map (·.1)/\(s.2,s.1)∉(ents ts).map (·.1)
def _root_.K31.SdsAt.same{ls:-(Nat×Nat)}(s:Same H H')(h:SdsAt H vs ls):SdsAt H' vs ls:=Paired.imp' (by rintro _ _ ⟨a,e,q⟩;erw[a,e,s>>q]) h
def Lo(vs:-V)(H:Hp)(Q:VK)(T:i4)(a:-V)(ts:-Tri):Prop:=vs=[.r T]/\H T*>.a a/\ay H a ts/\↑ts<=200/\((ents ts).map (·.1)).Nodup/\
 ∀r zs rs H',H r=gf->Same H H'->H' r*>.a zs->SdsAt H' zs rs->(∀s∈rs,Rim ts s)->↑rs<=600->rs.Nodup/\(∀s,Rim ts s->s∈rs)->Q (.r r) H'
def wm:Sp:=fj Lo
section
def Cu:aQ [↑0,↑6] [↑0] (au qf):=.f
def L8{f f1:i4}{fd d1:kS}(U:Fun K ↑34 ↑34 qf f fd)(mS:mg ↑48 = gf)(G:!Use 1 ↑24 [↑0] jk f1 d1):
  !az CX0 2 f fd [↑0] wm:=by
 show U.ok Cu (!3) λ_ _ _ s _ vs _ _ hr h=>?_
 let#[T,vt,ts,1,hT,ht,hl,ab,q]:=h;let hu:=dC hr;erw[_,af (sx 1 Cu.nd\uc G hr (pa1\pv 0))
  (aj\aF (dq (N:=[↑46,↑68,↑6]) (fr:=[gf,gf,gh 1]) (g:=kH [] 2\fU (dv 0) (fU (dv 1) kI)) cpK rfl (bT\bP (nK rfl) (by rfl) mS iJ (pa1\pv 1))
    (λC' s' H' fp Sn=>#[du rfl\aY (gx 0 (⋯:([↑46,↑68,↑6]:-Str).Nodup)) (aY (gx 1 (⋯:([↑46,↑68,↑6]:-Str).Nodup)) dh),
     gW (gY\nU hu (ao\ae (pv 1) (pa1\pv 0)) (pv 2)),ao\ae (pv 0) (pa1\pv 1)]))),?_]
 let ap:=line5000;erw[2,T,vt,ts,1,hT,ht,(),ab,λD H1 aM s1 m=>?_];erw[2,D,1,.o #[_,m],λks vs S=>.o #[_,uO\iK (K:=[]) m S,?_,λp ix hp pm _=>?_]]
 .rw[aE\iK (K:=[]) m S,av,eF];lia
 let ad:=iK (K:=[]) m S;let lk:=aE ad;walk_at"H1 p hp H2 s2 X";let#[al,C,n]:=#[(λi hi=>iF.mp\pm.mem_iff.mp hi:∀i∈ix,i<↑ks),qr (Paired.imp' (by rintro _ _ ⟨a,e,h⟩;erw[a,e,s2>>h]) ad:SdsAt H2 ks\(ents ts).map (·.1)) ix al,(zc (by rw[<-lk];show pm):(ix.map λi=>((ents ts).map (·.1)).getD i (0,0)).Perm ((ents ts).map (·.1)))];generalize (ix.map λi=>((ents ts).map (·.1)).getD i (0,0))=ss at C n;generalize (ix.map λi=>ks.getD i .non)=zs at C X;let lz:=aE C;let am:ss.Nodup:=n.nodup_iff.mpr ab;let aS:↑ss<=600:=by rw[n.length_eq,av,eF];lia
 erw[p,1,#[_,SqL.of X],λZ_ Y=>dM (K:=[]) (a:=p) (xs:=zs) (λi Z ys H'=>∃o1 o2 rs,Z=[o1,o2,gh\.r D]/\Same H2 H'/\H' Z_*>.a ys/\SdsAt H' ys rs/\(∀s∈rs,Rim ts s)/\↑rs<=i/\rs.Nodup/\(∀s∈rs,s∈ss.take i)/\∀s∈ss.take i,Rim ts s->s∈rs) #[gf,gf,[],1,bG Y,aH,.nil,∅,ar _,.nil,∅,∅] (by rintro i Z ys H' _ ⟨_,_,_,_,e,_⟩;show SqL.of (e>>X)) ?_ ?_]
 .rintro i y Z ys H' hi ⟨o1,o2,rs,rfl,sm,I,sd,L,an,M,inr,O⟩;let#[#[a,b],l,c,1,hc]:=bY C hi;let a0:i<↑ss:=(aO.mp l).1;let hm:(a,b)∈(ents ts).map (·.1):=n.mem_iff.mp\a_ l;let r:ss.take (i+1)=ss.take i++[(a,b)]:=by rw[bC,l];rfl
  erw[c,2,SqT.of (sm>>hc),1,9,6,?_];erw[3,lit2,λt1 H3 g1 j y3=>?_];let a1:↑ys<=600:=by rw[aE sd];lia
  erw[2,D,2,DGet.t (k:=ky b a) (j>>sm>>s2>>m) y3,?_];by_cases R:(b,a)∈(ents ts).map (·.1)
  .let hv:(a8 ((ents ts).map bB)\ky b a).isSome=gm:=by
    cases e:a8 ((ents ts).map bB) (ky b a) with
    |none=>show (gO.mp e R).elim
    |some v=>rfl
   erw[hB,by rw[hv];rfl,aA #[0,rs,1,sm<*j,j>>I,K31.SdsAt.same j sd,L,(),M,λs d=>by rw[r];show eK _\inr s d,λs d u=>by
    rw[r] at d;rcases a9.mp d with h|h
    .exact O s h u
    rw[aG.mp h] at u;show (u.2 R).elim]]
  erw[gm,by rw[gO.mpr R];rfl,aL #[3,lit2,λt2 H4 g2 s4 y4=>?_]];let ag:=s4>>j>>I;let tn:∀{B:i4}{xs:-V},H4 B*>.u xs->B≠Z_:=λe=>bL e ag ∅;erw[ag,(),λH5 k5 y5=>#[0,rs++[(a,b)],1,λB o e=>(k5 _\ak e Y)<*(s4>>j>>sm>>e),y5,?_,?_,by rw[bo,cV];lia,?_,λs d=>?_,λs d u=>?_]]
  .exact bR (Paired.imp' (by rintro _ _ ⟨B,e1,e2⟩;erw[B,e1,by let e3:=s4>>j>>e2;show (k5 _\tn e3)<*e3]) sd)\.c #[t2,1,(k5 _\tn y4)<*y4] .nil
  .intro s d;rcases a9.mp d with h|h
   .exact L s h
   rw[aG.mp h];erw[hm,R]
  .rw[cD];erw[M,∅,λx hx z hz e=>?_];rw[aG.mp hz] at e;rw[e] at hx;let nd:=am;rw[<-gD (i+1) ss,r,cD,cD] at nd;show nd.1.2.2 _ (inr _ hx) _ ∅ rfl
  .rw[r];rcases a9.mp d with h|h
   .exact eK _\inr s h
   show ft _ h
  rw[r] at d;rcases a9.mp d with h|h
  .exact eK _\O s h u
  show ft _ h
 rintro Z ys H' ⟨o1,o2,rs,rfl,sm,I,sd,L,an,M,inr,O⟩;show q Z_ ys rs H' ?_ (s1<*s2<*sm) I sd L () #[M,λs l=>O s (by rw[je ()];show n.mem_iff.mpr l.1) l];show (s1<*s2).free Y
end
def Bc{ps:-Nat}{p:Nat}(h:ps[↑ps-1]?*>p):atI (nV ps) (-1)*>V.int (p:Int):=by let a:=(aO.mp h).1;unfold atI ixN;rw[bE,Sg ⋯,Sh ()];change (nV ps)[_]?=_;rw[show (-1+(↑ps:Int)).toNat=↑ps-1 by lia];show wa h
def Ij{l:-Ent}{vs:-V}(b:DKV H (.dT\l.map bB) ks vs):SdsAt H ks (l.map (·.1)):=by
 rcases b with ⟨kvs,e,_⟩|⟨kvs,as,e,a,rfl,_⟩
 .cases e
 cases e;rename_i c;clear c;induction l generalizing as with
 |nil=>cases a;show .nil
 |cons x l d=>
  cases a with
  |cons h t=>show .c #[2,h]\d _ t
structure sI(R:Nat->Nat->Prop)(l:-(Nat×Nat)):Prop where
 nd:(l.map (·.1)).Nodup
 mem:∀p q,(p,q)∈l↔R p q
def sI.key{R:Nat->Nat->Prop}(h:sI R l)(p:Nat):p∈l.map (·.1)↔∃q,R p q:=by
 constructor
 .intro z;let#[#[a,b],h1,1]:=ax.mp z;erw[b,(h.mem _ _).mp h1]
 rintro⟨q,c⟩;show ax.mpr #[_,(h.mem _ _).mpr c,1]
def EF(vs:-V)(H:Hp)(Q:VK)(d:i4)(l:-(Nat×Nat))(R:Nat->Nat->Prop)(s:Nat):Prop:=vs=[.r d,.i (s:Int)]/\Rd H d (.k\l.map nmV)/\↑l<=1000/\(∀a b c,R a c->R b c->a=b)/\sI R l/\s∈l.map (·.1)/\
 ∀r ps H',H r=gf->Same H H'->H' r*>.a (nV ps)->↑ps<=1001->Path R ps->ps[0]?*>s->(∀z,ps[↑ps-1]?*>z->(∀q,¬R z q)\/R z s)->Q (.r r) H'
def yY:Sp:=oV EF
def eg(ts:-Tri)(es:-Ent):-(Nat×Nat):=(es.map (·.1)).filter λs=>decide ((s.2,s.1)∉(ents ts).map (·.1))
def B4{ts:-Tri}{a b:Nat}:(a,b)∈(ents ts).map (·.1)↔∃c,En ts a b c:=by
 constructor
 .intro h;let#[#[#[x,y],c],h1,h2]:=ax.mp h;cases h2;erw[c,h1]
 rintro⟨c,h⟩;show ax.mpr #[_,h,1]
def lR:bq (En ts) a b↔Rim ts (a,b):=by unfold bq Rim;rw[B4,B4]
def zW{ts:-Tri}{a b:Nat}:(a,b)∈eg ts (ents ts)↔bq (En ts) a b:=by unfold eg;rw[lR,eL,decide_eq_true_eq];rfl
def Hk{ts:-Tri}{es:-Ent}{a b:Nat}(c:∀e∈es,e∈ents ts)(h:(a,b)∈eg ts es):bq (En ts) a b:=by unfold eg at h;let#[h1,h2]:=eL.mp h;let#[e,he,d]:=ax.mp h1;show lR.mpr #[ax.mpr #[e,c e he,d],Sl h2]
def A_{R:Nat->Nat->Prop}(one:∀a b c,R a b->R a c->b=c){l:-(Nat×Nat)}(nd:l.Nodup)(h:∀p∈l,R p.1 p.2):(l.map (·.1)).Nodup:=by
 induction l with
 |nil=>show jT
 |cons x l f=>
  rw[eR] at nd;rw[bu,eR];erw[λz=>?_,f nd.2 λp g=>h p\dz _ g];let#[#[y,d,e],h1,h2]:=#[ax.mp z,h x jc,h y\dz _ d];rw[e] at h2;have:y=x:=nr e\one _ _ _ h2 h1;rw[this] at d;show nd.1 d
def nR{ts:-Tri}(g:Good ts)(o:∀c,Co ts c->One (En ts) c):(∀a b c,bq (En ts) a b->bq (En ts) a c->b=c)/\(∀a b c,bq (En ts) a c->bq (En ts) b c->a=b)/\(∀a b,bq (En ts) a b->∃c,bq (En ts) b c):=by let f:∀{a b},bq (En ts) a b->Co ts a:=λ⟨⟨q,d⟩,_⟩=>#[_,q,d];let e:∀{a b},bq (En ts) a b->Co ts b:=λ⟨⟨q,d⟩,_⟩=>#[q,_,g.sk.rot d];erw[λa b c h1 h2=>Jy g.sk (o a\f h1) h1 h2,λa b c h1 h2=>JA g.sk (o c\e h1) h1 h2,λa b h=>Hj g.sk (o b\e h) h]
def JC{ts:-Tri}(g:Good ts)(o:∀c,Co ts c->One (En ts) c):sI (bq\En ts) (eg ts\ents ts):=
 #[A_ (nR g o).1 (g.nd.filter _) λp a=>zW.mp a,λ_ _=>zW]
def zX(ts:-Tri)(es:-Ent):↑(eg ts es)<=↑es:=by unfold eg;have:=dJ (λs:Nat×Nat=>decide ((s.2,s.1)∉(ents ts).map (·.1)))\es.map (·.1);rw[av] at this;show this
def z5{α β γ:Type}{F:α->γ->Prop}{f:β->γ}:∀{xs:List α}{ys:List β},Paired F xs (ys.map f)->Paired (λx y=>F x\f y) xs ys
 | [],[],_=>.nil
 |_::_,_::_,.cons h r=>.c h\z5 r
def dY(s:Same H H')(h:H' r=gf):H r=gf:=by
 cases e:H r with
 |none=>rfl
 |some o=>rw[s>>e] at h;cases h
def Ei(Cs:i4)(vs:-V)(H:Hp)(Q:VK)(x:i4)(ts us:-Tri):Prop:=vs=[.r x]/\c_ Cs H x ts us/\
 ∀D H',H D=gf->Sm H H'->H' D*>.k ((eg ts\ents ts).map nmV)->Q (.r D) H'
def yo(Cs:i4):Sp:=fj\Ei Cs
def Gn(C:i4)(vs:-V)(H:Hp)(Q:VK)(x:i4)(ts us:-Tri)(a b:Nat):Prop:=vs=[.r x,.i (a:Int),.i (b:Int)]/\c_ C H x ts us/\
 ∀H',Same H H'->(∀c,En ts a b c->Q (.i (c:Int)) H')/\((∀c,¬En ts a b c)->Q .non H')
def oj(C:i4):Sp:=oU\Gn C
def Ln(C:i4)(vs:-V)(H:Hp)(Q:VK)(x:i4)(ts us:-Tri):Prop:=vs=[.r x]/\c_ C H x ts us/\∀l a H',H l=gf->Same H H'->H' l*>.a a->ay H' a us->Q (.r l) H'
def kD(C:i4):Sp:=fj\Ln C
def Gu(vs:-V)(H:Hp)(Q:VK)(a:i4)(l:-Nat):Prop:=vs=[.r a]/\H a*>.a (nV l)/\l≠[]/\↑l<=1000/\
 ∀r vr H',H r=gf->Same H H'->H' r*>.a vr->SdsAt H' vr (prs l)->Q (.r r) H'
def Aw:Sp:=fV Gu
section
def Jq:aQ [↑87,"a","b"] [↑87,"a","b"] (au rE):=.f
def HE(U:Fun K "third" "Skin.third" rE f fd)(X:SCls K C):!az CX0 1 f fd [↑87,"a","b"] (oj C):=by
 show U.ok Jq (!5) λ_ _ _ _ _ _ _ _ e h=>?_
 let#[x,ts,us,a,b,1,#[kt,dx,O,R,D,S,n,L,sk,_],q]:=h;let j:=dC e;erw[_,aj\aF (uT j (oG (pv 0) rfl) (ao\ae (pv 1) (pa1\pv 2)) #[5,5]),?_];erw[2,x,C,dx,9,sk.ob,X.cl,X.thirds,1,D,1,.o #[_,sk.th],3,lit2,λt H1 o s1 l=>?_];erw[_,.o #[_,ky a b,t,(Sm.of s1).rd sk.th,1,l,1],?_];let q:=q _ s1;by_cases d:∃c,En ts a b c
 .let#[c,d]:=d;rw[(zI kt.sk.g.nd).mpr d];show q.1 c d
 rw[gO.mpr λz=>d (by
  let#[#[#[p,r],c],h1,h2]:=ax.mp z;cases h2;erw[c,h1])]
 show q.2 λc z=>d #[c,z]
def Ek:aQ [↑87] [↑87] (au qe):=.f
def L7{f:i4}(U:Fun K ↑43 "Skin.triangles" qe f fd)(X:SCls K C)(T:cv mg):!az CX0 1 f fd [↑87] (kD C):=by
 show U.ok Ek (!3) λ_ _ _ _ _ _ _ _ _ h=>?_
 let#[x,ts,us,1,#[kt,dx,O,R,D,S,e,L,sk,_],q]:=h;erw[_,aj\aF (de uw (by rfl) T.list pG\pa1 (oG (pv 0) rfl)),?_];erw[2,x,C,dx,9,sk.ob,X.cl,X.ordered,1,O,2,.l\SqL.of sk.od,λl H1 a s1 b=>q l _ _ a s1 b\sk.tr.same s1]
def Js:aQ ["ring"] ["ring"] (au p_):=.f
def HK{f:i4}(U:Fun K ↑58 ↑58 p_ f fd)(T:cv mg)(j:mg "zip" = gf):!az CX0 1 f fd ["ring"] Aw:=by
 show U.ok Js (!2) λ_ _ _ s _ _ _ _ _ h=>?_
 let#[a,l,1,ha,m,D,q]:=h;erw[_,aj\aF (JT rfl #[5] rfl rfl T.list rfl j\ae (pv 0) (pa1\aD dP (iN lN (pv 0) (iP ah) iQ) (iN lN (pv 0) iQ\iP ah))),?_];erw[3,(1),1,a,2,SqL.of ha,λp H1 I s1 c=>?_];erw[2,(1),1,a,2,SqL.of (s1>>ha),λp2 H2 L s2 d=>?_];rw[show fk (nV l) (gh 1) gf=(nV l).drop 1 from u_ (nV l) 1] at c;rw[show fk (nV l) gf (gh 1)=(nV l).take 1 from Cb (nV l) 1] at d;let#[hz,ll,M]:=#[line5000,bE l,ia.mpr m];erw[p,p2,6,s2>>c,d,by rw[eJ,bz];lia,λn N O b o=>?_];erw[a,n,nV l,2,(s2<*b) _ _ (s1>>ha),o,by rw[bo,eJ,bz];lia,(),(),λr vr g u v x tp=>?_];show q r vr g (dY (s1.trans\s2.trans b) u) (s1<*s2<*b<*v) x ?_;let e:(nV l).zip ((nV l).drop 1++(nV l).take 1)=(prs l).map λs:Nat×Nat=>(V.int (s.1:Int),V.int (s.2:Int)):=by unfold nV prs;rw[<-C8,<-pk,<-aV,List.zip_map];rfl
 rw[e] at tp;show Paired.imp' (by rintro _ _ ⟨t,y,z⟩;erw[t,y,z])\z5 (F:=iC g) (f:=λs:Nat×Nat=>(V.int (s.1:Int),V.int (s.2:Int))) tp
end
section
def zU:aQ ["onward","begin","row"] ["onward","begin"] (au qI):=.f
def ES(U:Fun K "walked" "walked" qI f fd):!az CX0 1 f fd ["onward","begin"] yY:=by
 show U.ok zU (!4) λSq A outer s0 H vs Q E0 X h=>?_
 let#[d,l,R,s,1,hd,hl,inj,ab,hs,q]:=h;let M:=dC X;erw[_,af (sx 2 zU.nd\bp (pa1\pv 1))
  (af (j5 dA (aT kE (Hz M (pv 0) (ixx bQ (pv 2)\iA iw ah) (pv 1) #[5,5]) (pv 1)\nomark _)
   (aj\dN (dX eO gG gH fB (pv 2)\pa1 (ir M (pv 0) (ixx bQ (pv 2)\iA iw ah) λ_ _=>rfl))))
  (aj\aF (pv 2))),?_]
 let ap:=line5000;let key:∀p,p∈l.map (·.1)↔∃q,R p q:=λp=>by
  constructor
  .intro h;let#[#[a,b],h1,1]:=ax.mp h;erw[b,(ab.mem _ _).mp h1]
  rintro⟨q,g⟩;show ax.mpr #[_,(ab.mem _ _).mpr g,1]
 erw[2,lit1,λr H1 Y s1 y1=>?_];erw[λm Z H'=>∃ps:-Nat,Z=[gh\.r d,gh\.i (s:Int),gh\.r r]/\m=↑l+1-↑ps/\Same H H'/\H' r*>.a (nV ps)/\↑ps<=↑l+1/\ps.Nodup/\ps[0]?*>s/\(∀i p q,ps[i]?*>p->ps[i+1]?*>q->R p q),
  #[_,[s],5,s1,y1,∅,∅,1,λi p q h1 h2=>by simp at h2],?_]
 rintro m Z H' ⟨ps,rfl,rfl,sm,j,aM,nd,u,ch⟩;let v:=(aO.mp u).1;let#[z,hz]:∃z,ps[↑ps-1]?*>z:=#[_,aR ()];let#[C,N,D]:=#[((Sm.of sm).rd hd:Rd H' d (.k\l.map nmV)),Bc hz,(Y:H r=gf)];erw[2,d,1,.l #[_,C],3,r,4,SqL.of j,N,2,_,.l #[_,Sum.inl (z:Int),C,5],?_];by_cases B:z∈l.map (·.1)
 .let#[i,x,h1,h2,_]:=jB B;let hx:(z,x)∈l:=a_ h1;let E:R z x:=(ab.mem _ _).mp hx;rw[h2];erw[2,7,?_];change if (!decide (V.int (x:Int)=V.int (s:Int)))=gm then _ else _
  rw[gk];by_cases O:x=s
  .subst O;rw[Si rfl];show aA #[2,q r ps H' D sm j () #[λz=>by rw[z] at v;simp at v,nd,ch] u λz' y=>.o (by rw[hz] at y;cases y;show E)]
  rw[Sj ()];let ad:∀p∈ps,p∈l.map (·.1):=λp n=>by
   let#[i,hi]:=gB n;let ag:=(aO.mp hi).1;by_cases al:i+1<↑ps
   .exact (key p).mpr #[_,ch i p _ hi\aR al]
   rw[show i=↑ps-1 by lia,hz] at hi;cases hi;show B
  let hlen:=jj nd ad;rw[av] at hlen;show aL #[λZ' I=>∃c:-Nat,Z'=[gh\.r d,gh\.i (s:Int),gh\.r r]/\↑c=↑ps+1/\Same H I/\I r*>.a (nV c)/\c.Nodup/\c[0]?*>s/\(∀i p q,c[i]?*>p->c[i+1]?*>q->R p q),
   λZ' I ⟨c,e,h1,h2,h3,h4,h5,h6⟩=>#[↑l+1-↑c,(),c,e,1,h2,h3,(),h4,h5,h6],?_]
  erw[2,.l #[1,_,SqL.of j],3,2,r,4,SqL.of j,N,d,V.int (x:Int),1,.l #[_,Sum.inl (z:Int),C,1,h2.symm],r,6,j,by rw[bE];lia,λH2 k2 y2=>?_];erw[ps++[x],1,by rw[bo,cV],λb' o e=>?_,by rw[y2,oH,fE],?_,?_,λi p L n g=>?_]
  .rw[k2 _\ak e D];show sm _ _ e
  .rw[cD];erw[nd,∅,λa ha b S=>?_];rw[aG] at S;rintro rfl;subst S;let#[i,hi]:=gB ha;cases i with
   |zero=>rw[u] at hi;cases hi;show O rfl
   |succ i=>
    let ag:=(aO.mp hi).1;let#[o,T]:∃o,ps[i]?*>o:=#[_,aR ()];have:=inj _ _ _ (ch i o a T hi) E;subst this;have:=j3 nd T hz;lia
  .rw[eA v];show u
  by_cases hi:i+1<↑ps
  .rw[eA ()] at n;rw[eA hi] at g;show ch i p L n g
  let am:=(aO.mp g).1;rw[bo,cV] at am;rw[eA (),show i=↑ps-1 by lia,hz] at n;rw[h_ (),show i+1-↑ps=0 by lia] at g;cases n;cases g;show E
 rw[vN B];erw[2,7,?_];change if (!decide (V.int (s:Int)=V.int (s:Int)))=gm then _ else _
 rw[gk,Si rfl];show aA #[2,q r ps H' D sm j () #[λz=>by rw[z] at v;simp at v,nd,ch] u λz' y=>.l λL an=>B\(key z).mpr #[L,by rw[hz] at y;cases y;show an]]
def EJ:aQ [↑47] [↑47] (au qj):=.f
def Ep{f Cs:i4}(U:Fun K ↑88 ↑88 qj f fd)(X:SCls K Cs):!az CX0 1 f fd [↑47] (yo Cs):=by
 show U.ok EJ (!3) λ_ _ _ _ H vs _ _ hr h=>?_
 let#[x,ts,us,1,sk,q]:=h;let#[kt,dx,O,R,p,S,vo,L,sk,_]:=sk;let g:=kt.sk.g;let ab:=kt.sk.o;let hl:=kt.ln;let hx:=sk.ob;let hD:=sk.th;let hu:=dC hr;let al:=line5000;erw[_,aj\aF (HA (N:=["a","b",↑47]) (fr:=[gf,gf,gh 0]) (g:=kH [] 2\fU (dv 0) (fU (dv 1) kI)) (tt:=tB\As (oQ\bZ (aN 1) (bZ (aN 0) dH)) (tFld K (aN 2) "thirds")) cpK rfl (AX\oG (pv 0) rfl)
    (λC' s' H' fp Sn=>#[du rfl\aY (gx 0 (⋯:(["a","b",↑47]:-Str).Nodup)) (aY (gx 1 (⋯:(["a","b",↑47]:-Str).Nodup)) dh),
     gW (gY\nU hu (ao\ae (pv 1) (pa1\pv 0)) (oG (pv 2) rfl)),pv 0,pv 1])),?_]
 erw[2,x,Cs,dx,9,hx,X.cl,X.thirds,1,p,2,hD,True.intro,λks vs o H2 hk fz=>?_];let#[sd,lk,m,ad,T,ag]:=#[Ij hk,aE sd,(fz.sm:Sm H H2),m.keep hx (λz=>z),fz.at,(Paired.imp' (by rintro _ _ ⟨a,e,h⟩;erw[a,e,m.keep h λz=>z]) sd:SdsAt H2 ks ((ents ts).map (·.1)))];intro D r;show E7 (d:=p) (o:=o) (u:=.dT\(ents ts).map bB) (ks:=ks) (λi Z H'=>∃B C,Z=[B,C,gh\.r x]/\Same H2 H'/\H' D*>.k\(eg ts\(ents ts).take i).map nmV) #[gf,gf,1,bG r,aH] (by rintro i Z H' _ ⟨_,_,_,e,_⟩;show e _ _ T) ?_ ?_
 .rintro i y Z H' hi ⟨B,C,rfl,sm,n⟩;let#[#[a,b],Y,c,1,hc]:=bY ag hi;rw[br] at Y;let#[#[#[a',b'],w'],he,hh]:=cz.mp Y;cases hh;let I:(ents ts).take (i+1)=(ents ts).take i++[((a,b),w')]:=by rw[bC,he];rfl
  erw[c,2,SqT.of (sm>>hc),1,9,6,?_];erw[3,lit2,λt1 H3 g1 j y3=>?_];erw[2,x,Cs,dx,9,j>>sm>>ad,X.cl,X.thirds,1,p,2,.o #[_,ky b a,t1,.o #[o,j>>sm>>T],1,y3,1],?_];let ll:=zX ts\(ents ts).take i;let lt:↑((ents ts).take i)<=600:=by rw[bz,eF];lia
  by_cases l:(b,a)∈(ents ts).map (·.1)
  .let hv:(a8 ((ents ts).map bB)\ky b a).isSome=gm:=by
    cases e:a8 ((ents ts).map bB) (ky b a) with
    |none=>show (gO.mp e l).elim
    |some v=>rfl
   let M:eg ts ((ents ts).take (i+1))=eg ts ((ents ts).take i):=by rw[I];unfold eg;rw[aV,gA];change _++List.filter _ [(a,b)]=_;rw[List.filter_cons_of_neg ‹l›];simp
   erw[hB,by rw[hv];rfl,aA #[9,sm<*j,by rw[M];show j _ _ n]]
  let M:eg ts ((ents ts).take (i+1))=eg ts ((ents ts).take i)++[(a,b)]:=by rw[I];unfold eg;rw[aV,gA];change _++List.filter _ [(a,b)]=_;rw[List.filter_cons_of_pos ‹l›];rfl
  let hn:a∉(eg ts\(ents ts).take i).map (·.1):=λz=>by
   let#[#[a2,b2],h1,h2]:=ax.mp z;let h2:a2=a:=h2;subst h2;let#[r1,r2,eb]:=#[Hk (λe he=>Pl he) h1,(lR.mpr #[ax.mpr #[_,a_ he,1],l]:bq (En ts) a2 b),(nR g ab).1 _ _ _ r1 r2];subst eb;unfold eg at h1;let h3:=(eL.mp h1).1;let nd:=g.nd;rw[<-gD (i+1)\ents ts,I,aV,aV,cD,cD] at nd;show nd.1.2.2 _ h3 _ ∅ rfl
  erw[gm,by rw[gO.mpr l];rfl,aL #[3,_,Sum.inl (a:Int),j>>n,1,by rw[av];lia,9,λb' o' e=>?_,?_]]
  .rw[aq\ak e r];show j _ _ (sm>>e)
  rw[aH];change gh (HO.dK\cA _ (Sum.inl (a:Int)) (V.int (b:Int)))=_;rw[oF hn,M]
 rintro Z H' ⟨B,C,rfl,sm,n⟩;show q D H' (m.free r) (m.trans\Sm.of sm) ?_;rw[n,je (by rw[lk,av];show ar _)]
end
abbrev sdT(m n:Nat):HO:=.u [.i (m:Int),.i (n:Int)]
inductive Kd
 |turn|out|draw|inn|on|close
def Kd.sgn:Kd->Str
 |.turn=>"turn" | .out=>"out" | .draw=>"draw" | .inn=>"in" | .on=>"on" | .close=>"close"
def Kd.wis:Kd->Bool
 |.turn=>hB | .out=>hB | .draw=>hB | .inn=>gm | .on=>gm | .close=>gm
def fX(H:Hp)(d:i4)(k:Kd)(m n x:Nat):Prop:=∃sd,H sd*>sdT m n/\H d*>.u (.s k.sgn::.r sd::if k.wis then [.i (x:Int)] else [])
def fX.same(s:Same H H')(h:fX H d k m n x):fX H' d k m n x:=by let#[sd,h1,h2]:=h;erw[sd,s>>h1,s>>h2]
abbrev oK:-V:=[.s "turn",.s "out",.s "draw"]
abbrev jG:-V:=[.s "in",.s "on",.s "close"]
abbrev rimK:-V:=[.s "on",.s "close"]
def PrI(K:W.Frag)(H:Hp)(x:V)(b:Bool):Prop:=(b=hB/\∃ty,cu K H x ty/\W.kitOne K ty (.t ↑16)*>hB)\/∃a xs,x=.r a/\H a*>.u xs/\(b=hB/\↑xs≠2\/∃u v o p,xs=[u,v]/\El K H u o/\El K H v p/\b=(cnr o&&cnr p))
def DdI(K:W.Frag)(H:Hp)(x:V)(b:Bool):Prop:=(b=hB/\∃ty,cu K H x ty/\W.kitOne K ty (.t ↑16)*>hB)\/∃a xs,x=.r a/\H a*>.u xs/\
 (b=hB/\((∃u,xs=[u])\/∃u v w z,xs=[u,v,w,z])\/∃u s tl,xs=u::s::tl/\(tl=[]\/∃c,tl=[c])/\
  (b=hB/\(∃ty,cu K H u ty/\W.kitOne K ty (.t "str")*>hB)\/∃sg bs,u=.s sg/\PrI K H s bs/\(tl=[]/\b=(bs&&inV (.s sg) oK)\/∃c o,tl=[c]/\El K H c o/\b=(bs&&(inV (.s sg) jG&&cnr o)))))
def PrI.kp{b:Bool}(s:Kp H H'):PrI K H x b->PrI K H' x b
 |.inl ⟨e,ty,t,h⟩=>.l #[e,ty,cu.kp s t,h]
 |.inr ⟨a,xs,e,h,.inl q⟩=>.o #[a,xs,e,s.tp h,.l q]
 |.inr ⟨a,xs,e,h,.inr ⟨u,v,o,p,c,h1,h2,q⟩⟩=>.o #[a,xs,e,s.tp h,.o #[u,v,o,p,c,El.kp s h1,El.kp s h2,q]]
def DdI.kp{b:Bool}(s:Kp H H'):DdI K H x b->DdI K H' x b
 |.inl ⟨e,ty,t,h⟩=>.l #[e,ty,cu.kp s t,h]
 |.inr ⟨a,xs,e,h,.inl q⟩=>.o #[a,xs,e,s.tp h,.l q]
 |.inr ⟨a,xs,e,h,.inr ⟨u,v,tl,d,f,.inl ⟨g,ty,t,q⟩⟩⟩=>.o #[a,xs,e,s.tp h,.o #[u,v,tl,d,f,.l #[g,ty,cu.kp s t,q]]]
 |.inr ⟨a,xs,e,h,.inr ⟨u,v,tl,d,f,.inr ⟨sg,bs,g,p,.inl q⟩⟩⟩=>.o #[a,xs,e,s.tp h,.o #[u,v,tl,d,f,.o #[sg,bs,g,p.kp s,.l q]]]
 |.inr ⟨a,xs,e,h,.inr ⟨u,v,tl,d,f,.inr ⟨sg,bs,g,p,.inr ⟨c,o,j,l,q⟩⟩⟩⟩=>.o #[a,xs,e,s.tp h,.o #[u,v,tl,d,f,.o #[sg,bs,g,p.kp s,.o #[c,o,j,El.kp s l,q]]]]
def Ah(k:Kd):inV (.s k.sgn) oK=!k.wis/\inV (.s k.sgn) jG=k.wis:=by cases k<;>erw[⋯,⋯]
def kh(n:Nat):cnr (gh (n:Int))=gm:=by change decide ((0:Int)<=(n:Int))=gm;show Si ()
def fX.i(h:fX H d k m n x):DdI K H (.r d) gm:=by
 let#[sd,h1,h2]:=h;let pr:PrI K H (.r sd) gm:=.o #[sd,2,h1,.o #[0,gh (m:Int),gh (n:Int),5,1,by rw[kh,kh];rfl]];cases hw:k.wis with
 |true=>
  rw[hw] at h2;show .o #[d,2,h2,.o #[0,[.i (x:Int)],1,.o #[2],.o #[k.sgn,gm,1,pr,.o #[_,gh (x:Int),5,by rw[kh,(Ah k).2,hw];rfl]]]]
 |false=>
  rw[hw] at h2;show .o #[d,2,h2,.o #[0,[],1,.l rfl,.o #[k.sgn,gm,1,pr,.l #[1,by rw[(Ah k).1,hw];rfl]]]]
def Fp(K:W.Frag)(vs:-V)(H:Hp)(Q:VK)(x:V)(b:Bool):Prop:=vs=[x]/\PrI K H x b/\Q (.bl b) H
def zO(K:W.Frag):Sp:=fV\Fp K
def Fq(K:W.Frag)(vs:-V)(H:Hp)(Q:VK)(x:V)(b:Bool):Prop:=vs=[x]/\DdI K H x b/\∀H',Same H H'->Q (.bl b) H'
def zP(K:W.Frag):Sp:=fV\Fq K
abbrev Dn:=Option (Kd×Nat×Nat×Nat)
def mV(K:W.Frag)(H:Hp)(v:V):Dn->Prop
 |some (k,m,n,y)=>∃d,v=.r d/\fX H d k m n y
 |none=>DdI K H v hB
def Fs(K:W.Frag)(a:i4)(vs:-V)(H:Hp)(Q:VK)(E:XK)(v:V)(t:Dn):Prop:=vs=[v]/\mV K H v t/\(∀k m n x d' H',t*>(k,m,n,x)->Same H H'->fX H' d' k m n x->Q (.r d') H')/\∀H',t=gf->Same H H'->E (.r a) gf H'
def zQ(K:W.Frag)(a:i4):Sp:=sEx2\Fs K a
section
def uP:aQ [↑49,"a","b"] [↑49] (au qO):=.f
def FH{g:i4}{fd j:kS}(U:Fun K "is_pair" "is_pair" qO f fd)(T:cv mg)(F:o_ K)(G:!Use 2 ↑59 [↑49] (p7 K) g j):
  !az CX0 3 f fd [↑49] (zO K):=by
 show U.ok uP (!2) λ_ _ _ _ _ _ _ _ d h=>?_
 let#[x,b,1,h,q]:=h;erw[_,af (bf (PW.pt (iz (fR\dW (bP (lD (c:=↑16)) (by rfl) T.isi gF\ae (pv 0) (pa1\kg (v:=.ty ↑16) rfl T.tuple jW rfl)))
    (iT\aT kE (pln T.len\pv 0) ah (nomark _)))) (aj\aF gi) ba)
  (af (fD (pv 0)\du rfl (aY (gx 1 uP.nd)\aY (gx 2 uP.nd) dh))
  (aj\aF (ml (uc G d\pa1 (pv 1))\mh (uc G d\pa1 (pv 2))))),?_]
 rcases h with ⟨rfl,ty,l,m⟩|⟨a,xs,rfl,ha,h⟩
 .exact#[2,0,hB,1,l,m,2,sJ q]
 erw[2,0,gm,1,.u ha,F.t,2,jJ #[2,a,2,.o\SqT.of ha,7,?_]];rcases h with ⟨rfl,z⟩|⟨u,v,o,p,rfl,n,r,rfl⟩
 .change if (!decide (V.int (↑xs:Int)=V.int 2))=gm then _ else _
  rw[gk,Sj ()];show aL q
 show aA #[2,a,2,SqT.of ha,1,9,6,?_];erw[2,u,o,1,n,2,?_];cases e:cnr o with
 |true=>rw[e] at q;show aL #[2,v,p,1,r,q]
 |false=>rw[e] at q;show aA q
def G9:aQ [↑49] [↑49] (au lP):=.f
def FI{C D m n:i4}{fd I L:kS}(U:Fun K "is_deed" "is_deed" lP f fd)(T:cv mg)(F:o_ K)(p:W.kitOne K (.t "str") (.t "str")*>gm)(G:!Use 2 ↑59 [↑49] (p7 K) C I)(M:!Use 3 "is_pair" [↑49] (zO K) D L)
  (N:mg "AT_A_SIDE"*>.r m) (O:KTup K m oK) (R:mg "WITH_A_CORNER"*>.r n) (S:KTup K n jG):!az CX0 4 f fd [↑49] (zP K):=by
 show U.ok G9 (!2) λ_ _ _ _ H _ _ _ y h=>?_
 let#[x,b,1,h,q]:=h;let X:Room 3 _:=y.mono ⋯;let Y:Room 2 _:=y.mono ⋯;erw[_,af (bf (PW.pt (iz (fR\dW (bP (lD (c:=↑16)) (by rfl) T.isi gF\ae (pv 0) (pa1\kg (v:=.ty ↑16) rfl T.tuple jW rfl)))
    (iT\aT ji (pln T.len\pv 0) (ao\ae ah (pa1 ah)) rfl))) (aj\aF gi) ba)
  (af (bf (PW.pt (iz (fR\dW (bP (lD (c:="str")) (by rfl) T.isi gF\ae (ixx a7 (pv 0) ah) (pa1\kg (v:=.ty "str") rfl T.str Rg rfl)))
    (iT\fR (dW\uc M X (pa1\ixx a7 (pv 0) ah))))) (aj\aF gi) ba)
  (af (bf (aT cn (pln T.len\pv 0) ah\nomark _) (aj\aF (ff rX (ixx a7 (pv 0) ah) (dO (v:=.r m) rfl N rfl) rfl)) ba)
  (aj\aF (ml (ff rX (ixx a7 (pv 0) ah) (dO (v:=.r n) rfl R rfl) rfl)\mh (uc G Y\pa1 (ixx a7 (pv 0) ah)))))),?_]
 rcases h with ⟨rfl,ty,j,l⟩|⟨d,xs,rfl,hd,h⟩
 .exact#[2,0,hB,1,j,l,2,sJ\q H (Same.refl _)]
 erw[2,0,gm,1,.u hd,F.t,2,jJ #[2,d,2,.o\SqT.of hd,lit2,λZ H1 g1 s1 y1=>#[Z,2,.o\SqT.of y1,1,?_]]];let g:=s1>>hd;let a:=q _ s1;rcases h with ⟨rfl,⟨u,rfl⟩|⟨u,v,z,c,rfl⟩⟩|⟨u,sd,tl,rfl,ab,h⟩
 .exact#[7,aL a]
 .exact#[7,aL a]
 let B:∀{sg bs},(tl=[]/\b=(bs&&inV (.s sg) oK)\/∃c o,tl=[c]/\El K H c o/\b=(bs&&(inV (.s sg) jG&&cnr o)))->bs=hB->b=hB:=λh e=>by
  subst e;rcases h with ⟨_,e⟩|⟨_,_,_,_,e⟩<;>show e
 rcases ab with rfl|⟨c,rfl⟩
 .refine#[7,aA #[2,d,4,SqT.of g,1,?_]];rcases h with ⟨rfl,ty,j,l⟩|⟨sg,bs,rfl,pr,h⟩
  .exact#[0,hB,1,cu.kp (kpS s1) j,l,2,sJ a]
  erw[0,gm,1,.s _,p,2,jJ #[2,d,4,SqT.of g,1,_,bs,1,pr.kp\kpS s1,2,CC (λe=>?_) λe=>?_]]
  .rw[B h e] at a;show a
  erw[2,d,2,.o\SqT.of g,7,aL #[2,d,4,SqT.of g,1,m,2,O,5,?_]];rcases h with ⟨_,rfl⟩|⟨_,_,e,_⟩
  .rw[e] at a;show a
  cases e
 erw[7,aA #[2,d,4,SqT.of g,1,?_]];rcases h with ⟨rfl,ty,j,l⟩|⟨sg,bs,rfl,pr,h⟩
 .exact#[0,hB,1,cu.kp (kpS s1) j,l,2,sJ a]
 erw[0,gm,1,.s _,p,2,jJ #[2,d,4,SqT.of g,1,_,bs,1,pr.kp\kpS s1,2,CC (λe=>?_) λe=>?_]]
 .rw[B h e] at a;show a
 erw[2,d,2,.o\SqT.of g,7,aA #[2,d,4,SqT.of g,1,n,2,S,5,2,?_]];rcases h with ⟨e,_⟩|⟨_,o,e2,hc,rfl⟩
 .cases e
 cases e2;rw[e] at a;cases hi:inV (.s sg) jG with
 |true=>rw[hi] at a;show aL #[2,d,4,SqT.of g,1,_,o,1,El.kp (kpS s1) hc,a]
 |false=>rw[hi] at a;show aA a
def uQ:aQ [↑49,"a","b"] [↑49] (au p5):=.f
def FJ{f o:i4}{fd p:kS}(U:Fun K ↑51 ↑51 p5 f fd)(T:cv mg)(G:!Use 4 "is_deed" [↑49] (zP K) o p){b:i4}(mN:mg "NoDeed"*>.r b)(r:W.excIn K b bmV ↑5 = gm):!az (CX1 P w) 5 f fd [↑49] (zQ K b):=by
 show U.ok1 uQ (λvs H Q E h=>?_) (λ_ _ _ _ _ _ _ _ u h=>?_)
 .let#[v,t,1,_]:=h;rfl
 let#[v,t,1,hd,q,y]:=h;erw[_,af (bf (fR\dW (uc G u\pa1 (pv 0))) (aj\lF lets1 rfl rfl rfl mN r (pa1 aK)) ba)
  (af (fD (ixx a7 (pv 0) ah)\du rfl (aY (gx 1 uQ.nd)\aY (gx 2 uQ.nd) dh))
  (af (bf (aT cn (pln T.len\pv 0) ah\nomark _) (aj\aF (ao\ae (ixx a7 (pv 0) ah) (pa1\ao (ae (de gL (by rfl) T.int ie\pa1 (pv 1))\pa1 (de gL (by rfl) T.int ie\pa1 (pv 2)))))) ba)
  (aj\aF (ao\ae (ixx a7 (pv 0) ah) (ae (ao\ae (de gL (by rfl) T.int ie\pa1 (pv 1)) (pa1\de gL (by rfl) T.int ie (pa1\pv 2)))\pa1 (de gL (by rfl) T.int ie\pa1 (ixx a7 (pv 0) ah))))))),?_]
 cases t with
 |none=>erw[2,_,hB,1,hd,λH1 s1=>#[2,sL #[lit1,y H1 rfl s1]]]
 |some t=>
 let#[#[k,m,n,x],#[d,1,dd],q]:=#[t,hd,λd' H'=>q k m n x d' H' rfl];erw[2,_,gm,1,dd.i,λH1 s1=>#[2,mO ?_]];let#[sd,h1,h2]:=dd.same s1;cases hw:k.wis with
 |true=>
  rw[hw] at h2;let h2:H1 d*>.u [.s k.sgn,.r sd,.i (x:Int)]:=h2;erw[2,d,4,SqT.of h2,1,sd,2,SqT.of h1,1,9,6,?_];erw[2,d,2,.o\SqT.of h2,7,aA ?_];erw[2,d,4,SqT.of h2,7,.l #[3,.l #[2,lit2,λc H2 z s2 e=>?_]]];erw[2,d,4,SqT.of (s2>>h2),1,.l #[2,lit3,λg j B a l=>?_]];show q g j (s1<*s2<*a) #[c,a>>e,by rw[hw];show l]
 |false=>
  rw[hw] at h2;let h2:H1 d*>.u [.s k.sgn,.r sd]:=h2;erw[2,d,4,SqT.of h2,1,sd,2,SqT.of h1,1,9,6,?_];erw[2,d,2,.o\SqT.of h2,7,aL ?_];erw[2,d,4,SqT.of h2,7,.l #[3,.l #[2,lit2,λc H2 z s2 e=>?_]]];erw[lit2,λg j B a l=>q g j (s1<*s2<*a) #[c,a>>e,by rw[hw];show l]]
end
def Gp(vs:-V)(H:Hp)(Q:VK)(m:Nat):Prop:=vs=[.i (m:Int)]/\m<=200/\∀r vr H',H r=gf->Same H H'->H' r*>.a vr->ay H' vr (strip m)->Q (.r r) H'
def Au:Sp:=sPx1 Gp
structure KitO(K:W.Frag):Prop where
 tn:W.kitOne K (.t "NoneType") (.t ↑16)*>hB
 ts:W.kitOne K (.t "str") (.t ↑16)*>hB
 tl:W.kitOne K (.t ↑25) (.t ↑16)*>hB
 si:W.kitOne K (.t "int") (.t "str")*>hB
 st:W.kitOne K (.t ↑16) (.t "str")*>hB
 sl:W.kitOne K (.t ↑25) (.t "str")*>hB
 sd:W.kitOne K (.t ↑53) (.t "str")*>hB
 ib:W.kitOne K (.t "bool") (.t "int")*>gm
 bb:W.kitOne K (.t "bool") (.t "bool")*>gm
 it:W.kitOne K (.t ↑16) (.t "int")*>hB
 is:W.kitOne K (.t "str") (.t "int")*>hB
 il:W.kitOne K (.t ↑25) (.t "int")*>hB
 id:W.kitOne K (.t ↑53) (.t "int")*>hB
def Lr(K:W.Frag)(vs:-V)(H:Hp)(Q:VK)(p S:i4)(q:Int×Int)(m n c:Nat):Prop:=vs=[.r p,.r S,.i (c:Int)]/\H p*>.a (bO q)/\cq q/\H S*>sdT m n/\
 ∀v a H',But p H H'->H' p*>.a (bO a)->cq a->DdI K H' v hB->Q v H'
def Cr(K:W.Frag):Sp:=mJ\Lr K
def DdI.no(t:cu K H x ty)(k:W.kitOne K ty (.t ↑16)*>hB):DdI K H x hB:=.l #[1,ty,t,k]
def PrI.no(t:cu K H x ty)(k:W.kitOne K ty (.t ↑16)*>hB):PrI K H x hB:=.l #[1,ty,t,k]
def PrI.two{u v:V}{o p:Option Int}(h:H a*>.u [u,v])(h1:El K H u o)(h2:El K H v p):PrI K H (.r a) (cnr o&&cnr p):=.o #[a,2,h,.o #[u,v,o,p,1,h1,h2,1]]
def DdI.two{sg:Str}{s:V}{b:Bool}(h:H a*>.u [.s sg,s])(p:PrI K H s b)(e:(b&&inV (.s sg) oK)=hB):DdI K H (.r a) hB:=.o #[a,2,h,.o #[0,[],1,.l rfl,.o #[sg,b,1,p,.l #[1,e.symm]]]]
def DdI.three{sg:Str}{s c:V}{b:Bool}{o:Option Int}(h:H a*>.u [.s sg,s,c])(p:PrI K H s b)(d:El K H c o)(e:(b&&(inV (.s sg) jG&&cnr o))=hB):DdI K H (.r a) hB:=.o #[a,2,h,.o #[0,[c],1,.o #[c,1],.o #[sg,b,1,p,.o #[c,o,1,d,e.symm]]]]
def DdI.kind{u s:V}(h:H a*>.u [u,s])(t:cu K H u ty)(k:W.kitOne K ty (.t "str")*>hB):DdI K H (.r a) hB:=.o #[a,2,h,.o #[u,s,[],1,.l rfl,.l #[1,ty,t,k]]]
structure Od(K:W.Frag)(H H':Hp)(L:i4)(ls xs:-V):Prop where
 s:Same H H'
 y:H' L*>.a ls
 d:∀v,v∈xs->DdI K H' v hB
def Od.li{H H':Hp}{M:i4}{ms xs:-V}(o:Od K H H' L ls xs)(s:Same H' H2)(y:H2 M*>.a ms):Od K H H2 M ms xs:=#[o.s<*s,y,λv h=>(o.d v h).kp\kpS s]
def Od.sn{H H':Hp}{xs:-V}(o:Od K H H' L ls xs)(s:Same H' H2)(d:Same H H2->DdI K H2 v hB):Od K H H2 L ls (xs++[v]):=#[o.s<*s,s>>o.y,λv h=>(a9.mp h).elim (λh=>(o.d v h).kp\kpS s) λh=>by rw[aG.mp h];show d\o.s.trans s]
section
def Jr:aQ ["_law_many"] ["_law_many"] (au qL):=.f
def HF{f:i4}(U:Fun K ↑74 ↑74 qL f fd)(T:cv mg):!az CX0 1 f fd ["_law_many"] Au:=by
 show U.ok Jr (!1) λ_ _ _ s H _ _ _ _ h=>?_
 let#[m,1,hm,q]:=h;let ad:=line5000;erw[_,(aj\aF (dq (N:=[↑77]) (fr:=[gf])  (qh ⋯ rfl ⋯ ⋯) rfl (lB rfl T.range\pa1 (pv 0))
    (λC s H fp Sn=>#[(gx 0 (⋯:([↑77]:-Str).Nodup)),dZ,(ixx bQ (bp\ae (ao\ae (pv 0) (ae (aD cU (pv 0) ah)\pa1 (aD cU (pv 0) ah))) (pa1\ao (ae (aD cU (pv 0) ah)\ae (pv 0) (pa1\aD cU (pv 0) ah))))\aD fT (pv 0) ah)]))),?_]
 erw[2,(m:Int),1,(),(),λD d=>E5 (lo:=0) (n:=((m:Nat):Int).toNat) (λk Z ys H'=>∃o,Z=[o]/\Same H H'/\H' D*>.a ys/\ay H' ys\strip k)
  #[gf,1,bG d,aH,.nil] ?_ ?_]
 .rintro k Z ys H' L ⟨o,rfl,sk,p,a⟩;rw[jP] at L;let ag:↑ys=k:=by rw[aE a];unfold strip;rw[av,jR]
  erw[3,6,2,6,lit3,λr H1 g1 s1 M=>?_];erw[2,6,3,6,lit3,λv H2 g2 s2 O=>?_];erw[lit2,λl x g3 g R=>#[2,6,(by decide:(0:Int)<2),?_]];let c:=(s1<*s2)<*g;let y:∀{b:i4}{xs:-V},x b*>.u xs->b≠D:=λe=>bL e (c>>p) ∅;let#[t,h1,h2]:∃t,atI [V.ref r,.r v] ((0+(k:Int))%2)*>.r t/\∃u,x t*>.u [.i (u.1:Int),.i (u.2.1:Int),.i (u.2.2:Int)]/\stT k=u:=by
   let z:(0:Int)+(k:Int)=(k:Int):=Int.zero_add _;rcases Pw k with B|B
   .rw[show (0+(k:Int))%2=(0:Nat) by lia];erw[r,aW rfl,(k,k+1,k+2),by rw[(s2<*g) _ _ M,z];rfl,Sh B]
   rw[show (0+(k:Int))%2=(1:Nat) by lia];erw[v,aW rfl,(k+1,k,k+2),by rw[g>>O,z];rfl,Sg ()]
  let#[u,h2,S]:=h2;erw[l,4,SqL.of R,h1,c>>p,(),λHn j X=>#[2,λb o e=>(j b\ak e d)<*(c>>sk>>e),X,?_]];rw[show strip (k+1)=strip k++[u] by rw[<-S];unfold strip;rw[Da,aV];rfl];show bR (Paired.imp' (by rintro _ _ ⟨b,Y,I⟩;erw[b,Y,(j b\y (c>>I))<*(c>>I)]) a)\.c #[t,1,(j t\y h2)<*h2] .nil
 rintro Z ys H1 ⟨o,rfl,s1,ab,a⟩;rw[jP] at a;show q D ys H1 d s1 ab a
def mE:aQ [↑1,↑32,↑9,"_law_some"] [↑1,↑32,↑9] (au sS):=.f
def Ma{f1:i4}{fd X:kS}(U:Fun K "_law_odd" "_law_odd" sS f fd)(T:cv mg)(F:KitO K)(G:!Use 1 ↑30 [↑1,↑52] jq f1 X):!az CX0 2 f fd [↑1,↑32,↑9] (Cr K):=by
 show U.ok mE (!6) λ_ _ _ s H _ _ _ hr h=>?_
 let#[p,S,R,m,n,c,1,hp,ad,N,q]:=h;let ag:=line5000;erw[_,(af (sx 3 mE.nd\bp (ae rV\ae aK (ae (ao\pa1 aK)\ae (ao\ae aK (ae (pv 1)\pa1 (pv 2))) (ae (ao\ae aK (pa1\pv 1))\ae (bp\ae aK (pa1\pv 1)) (ae (ao\ae aK (pa1\pv 1))\pa1 (ao\ae ah (pa1\pv 1)))))))
  (af (sx 3 mE.nd\aD dP (pv 3) (bp\ae (ao\ae aK (pa1\ao (pa1\ixx a7 (pv 1) ah))) (ae (ao\ae aK (pa1\de uw (by rfl) T.list pG (pa1\pv 1)))\ae (ao\ae aK (pa1\aD vH (pv 1) (ao\pa1 (pv 2)))) (pa1\ao (ae aK\pa1 (ao\ae (ixx a7 (pv 1) ah) (pa1\iA iw ah)))))))
  (af (sx 3 mE.nd\aD dP (pv 3) (bp\ae (ao\ae aK (ae (pv 1)\pa1 gi)) (ae (ao\ae aK (ae (pv 1)\pa1 (iA iw ah)))\ae (ao\ae aK (ae (pv 1)\pa1 (ao\pa1 (pv 2)))) (pa1\ao (ae aK\pa1 (ao\ae gi (pa1\ixx a7 (pv 1) ah)))))))
  (af (sx 3 mE.nd\aD dP (pv 3) (bp\ae (ao\ae aK (ae (pv 1)\ae (pv 2) (pa1\pv 2))) (ae (ao\ae (ao fh) (pa1\pv 1))\ae (ao\ae aK (ae (pv 1)\pa1 aK)) (pa1\ao (ae aK\pa1 rV)))))
  (af (sx 3 mE.nd\aD dP (pv 3) (bp\ae (ao\ae (bp fh) (pa1\pv 1)) (ae (ao\ae j6 (pa1\pv 1))\ae (ao\ae aK (pa1\ao (ae (bp\pa1 ah)\pa1 ah))) (ae (ao\ae aK (pa1\ao (ae (ixx a7 (pv 1) ah)\pa1 j6)))\pa1 (ao\ae aK (ae (pv 1)\pa1 (bp\pa1 (pv 2))))))))
  (aj\aF (ixx bQ (pv 3)\uc G hr (ae (pv 0)\pa1 (pln T.len\pv 3))))))))),?_]
 let D:∀{k:Nat},k<=100->k<=sizeLine:=λh=>();let pr:∀{H':Hp},Same H H'->PrI K H' (.r S) gm:=λs=>by
  have:=PrI.two (K:=K) (o:=gh (m:Int)) (p:=gh (n:Int)) (s>>N) rfl rfl
  rwa [kh,kh] at this
 let#[O,nb,o,o]:=#[(λt k=>#[_,t,.l k]:∀{H':Hp}{x:V}{ty:hK},cu K H' x ty->W.kitOne K ty (.t "int")*>hB->El K H' x gf),(λ{_ b}=>#[_,.bl b,.o #[F.ib,F.bb]]:∀{H':Hp}{b:Bool},El K H' (.bl b) gf),(#[Same.refl _,hp,λ_ h=>by cases h]:Od K H H p (bO R) []),(o.sn (Same.refl _) λ_=>.no .non F.tn).sn (Same.refl _) λ_=>.no (.s "turn") F.ts];erw[lit1,λg H1 l s1 a=>?_];let o:=o.sn (v:=.r g) s1 λs=>(.o #[g,2,a,.l #[1,.l #[2]]]);erw[3,lit3,λg H1 l s1 a=>?_];let o:=o.sn s1 λs=>(.three (o:=gh (c:Int)) a (pr s) rfl (by rw[kh];decide +kernel));erw[2,lit2,λg H1 l s1 a=>?_];let o:=o.sn s1 λs=>(.two a (pr s) ⋯);erw[2,lit2,λg H1 l s1 a=>?_];let o:=o.sn s1 λs=>(.no (.a a) F.tl);erw[2,lit2,λg H1 l s1 a=>?_];let o:=o.sn s1 λs=>(.two a (pr s) ⋯);erw[2,lit2,λg H1 l s1 a=>?_];let o:=o.sn s1 λs=>(.kind a (.i 3) F.si);erw[D (k:=8) ⋯,λL H7 g7 s7 yL=>?_];let o:=o.li s7 yL;erw[3,S,4,SqT.of (o.s>>N),aW (j:=0) rfl,lit1,λC H1 l s1 r=>#[lit2,λg H2 B s2 a=>?_]];let o:=o.sn (s1<*s2) λs=>(.two a (.o #[C,2,s2>>r,.l #[1,(by decide:1≠2)]]) rfl);erw[2,S,2,.o\SqT.of (o.s>>N),λC H1 l s1 r=>#[lit2,λg H2 B s2 a=>?_]];let o:=o.sn (s1<*s2) λs=>(.two a (.no (.a (s2>>r)) F.tl) rfl);erw[3,lit1,λC H1 l s1 r=>#[S,C,6,SqT.of\(o.s<*s1) _ _ N,SqT.of r,(λz=>nomatch z),lit3,(λz=>nomatch z),λ_ Y B=>?_]];let s2:=bG (o:=.u ([.i (m:Int),.i (n:Int)]++[.i (c:Int)])) B;erw[lit2,λg H3 g3 I a=>?_];let o:=o.sn (s1<*s2<*I) λs=>(.two a (.o #[Y,2,I>>aH,.l #[1,(by decide:3≠2)]]) rfl);erw[2,S,4,SqT.of (o.s>>N),aW (j:=0) rfl,2,lit2,λC H1 l s1 r=>#[lit2,λg H2 B s2 a=>?_]];let o:=o.sn (s1<*s2) λs=>(.two (b:=hB) a (by have:=PrI.two (K:=K) (o:=gh (m:Int)) (p:=gh (-1)) (s2>>r) rfl rfl;rwa [show (cnr (gh (m:Int))&&cnr (gh (-1)))=hB by rw[kh];rfl] at this) rfl);erw[D (k:=4) ⋯,λM H1 l s1 a=>#[L,M,6,s1>>o.y,a,D ∅,λL H2 B s2 yL=>?_]];let o:=o.li (s1<*s2) yL;erw[3,lit3,λg H1 l s1 a=>?_];let o:=o.sn s1 λs=>(.three a (pr s) nb ⋯);erw[3,lit3,λg H1 l s1 a=>?_];let o:=o.sn s1 λs=>(.three (o:=gh (-1)) a (pr s) rfl ⋯);erw[3,lit1,λC H1 l s1 r=>#[lit3,λg H2 B s2 a=>?_]];let o:=o.sn (s1<*s2) λs=>(.three a (pr s) (O (.u (s2>>r)) F.it) ⋯);erw[2,S,4,SqT.of (o.s>>N),aW (j:=1) rfl,lit2,λC H1 l s1 r=>#[lit2,λg H2 B s2 a=>?_]];let o:=o.sn (s1<*s2) λs=>(.two (b:=hB) a (PrI.two (o:=gf) (p:=gh (n:Int)) (s2>>r) nb rfl) rfl);erw[D (k:=4) ⋯,λM H1 l s1 a=>#[L,M,6,s1>>o.y,a,D ∅,λL H2 B s2 yL=>?_]];let o:=o.li (s1<*s2) yL;erw[3,3,D (k:=4) ⋯,λg H1 l s1 a=>?_];let o:=o.sn (v:=.r g) s1 λs=>(.o #[g,2,a,.l #[1,.o #[8,2]]]);erw[aZ _,λC H1 l s1 r=>#[2,lit2,λg H2 B s2 a=>?_]];let o:=o.sn (s1<*s2) λs=>(.kind a (.u (s2>>r)) F.st);erw[2,lit3,λg H1 l s1 a=>?_];let o:=o.sn s1 λs=>(.three a (pr s) (O (.s "7") F.is) ⋯);erw[lit2,λg H1 l s1 a=>?_];let o:=o.sn s1 λs=>(.two a (.no .non F.tn) rfl);erw[D (k:=4) ⋯,λM H1 l s1 a=>#[L,M,6,s1>>o.y,a,D ∅,λL H2 B s2 yL=>?_]];let o:=o.li (s1<*s2) yL;erw[2,aZ _,λC H1 l s1 r=>#[2,lit2,λg H2 B s2 a=>?_]];let o:=o.sn (s1<*s2) λs=>(.kind a (.a (s2>>r)) F.sl);show λC H1 l s1 r=>#[2,lit2,λg H2 B s2 a=>?_];let o:=o.sn (s1<*s2) λs=>(.kind a (.k (s2>>r)) F.sd);erw[lit1,λC H1 l s1 r=>#[lit2,λY H2 B s2 Z=>#[lit2,λg H3 g3 I a=>?_]]];let o:=o.sn (s1<*s2<*I) λs=>(.two (b:=hB) a (PrI.two (o:=gf) (p:=gh 1) (I>>Z) (O (.a (I>>s2>>r)) F.il) rfl) rfl);erw[2,S,4,SqT.of (o.s>>N),aW (j:=0) rfl,λC H1 l s1 r=>#[lit2,λY H2 B s2 Z=>#[lit2,λg H3 g3 I a=>?_]]];let o:=o.sn (s1<*s2<*I) λs=>(.two (b:=hB) a (by have:=PrI.two (K:=K) (o:=gh (m:Int)) (p:=gf) (I>>Z) rfl\O (.k (I>>s2>>r)) F.id;rwa [show (cnr (gh (m:Int))&&cnr gf)=hB from OW _] at this) rfl);erw[3,lit1,λC H1 l s1 r=>#[lit3,λg H2 B s2 a=>?_]];let o:=o.sn (s1<*s2) λs=>(.three a (pr s) (O (.a (s2>>r)) F.il) ⋯);erw[D (k:=5) ⋯,λM H1 l s1 a=>#[L,M,6,s1>>o.y,a,D ∅,λL H2 B s2 yL=>?_]];let o:=o.li (s1<*s2) yL;let#[xs,hx,yL,od]:∃xs,↑xs=25/\H2 L*>.a xs/\∀v,v∈xs->DdI K H2 v hB:=#[2,o.y,λv h=>o.d v (by simpa [or_assoc] using h)];let ab:=o.s>>hp;erw[3,2,L,xs,1,.l\SqL.of yL,p,R,2,ab,ad,(),by rw[hx];decide +kernel,λH1 k1 a=>?_];let#[X,d2]:=dU (q:=R) (b:=(↑xs:Int)) ();let#[j,hj]:∃j:Nat,digO R (↑xs:Int)=(j:Int):=#[_,(fK X).symm];rw[hj] at d2 |-;let nL:L≠p:=λz=>by
  rw[z,ab] at yL;cases yL;show absurd hx (by simp[bO])
 let hv:=aR (show j<↑xs by lia);erw[L,4,SqL.of\(k1 L nL).trans yL,aW hv,?_];show q _ _ H1 (λb _ n e=>(k1 b n)<*(o.s>>e)) a (b7 ad) ((od _\ja _).kp λb u e=>?_);by_cases hb:b=p
 .subst hb;rw[ab] at e;cases e;show .o #[9,a]
 show .l\(k1 b hb).trans e
end
def c_.obj{us:-Tri}(h:c_ C H x ts us):∃dx O R D S,H x*>.ins C dx (sflds O R D S):=by let#[_,dx,O,R,D,S,a,L,h,_]:=h;erw[dx,O,R,D,S,h.ob]
def jE{u:TT}{Q:Bool->Hp->Prop}(h:u Z H Q):wk u Z Q gm H:=aL (B:=Q hB H) h
def oN{Q:Bool->Hp->Prop}(h:Q hB H):wk u Z Q hB H:=aA (A:=u Z H Q) h
def Kd.rim:Kd->Bool
 |.on=>gm | .close=>gm|_=>hB
structure Okd(ts:-Tri)(k:Kd)(m n:Nat):Prop where
 a:∃c,En ts m n c
 b:k=.turn->∃c,En ts n m c
 c:k.rim=gm->∀c,¬En ts n m c
def Gw(Cs a:i4)(vs:-V)(H:Hp)(Q:VK)(E:XK)(x d:i4)(ts us:-Tri)(k:Kd)(m n y:Nat):Prop:=vs=[.r x,.r d]/\c_ Cs H x ts us/\fX H d k m n y/\(∀H',Same H H'->Okd ts k m n->Q .non H')/\∀H',Same H H'->¬Okd ts k m n->E (.r a) gf H'
def Ay(Cs a:i4):Sp:=sEx8\Gw Cs a
def Nw(ts:-Tri)(k:Kd)(y:Nat):Prop:=k.wis=gm->¬Co ts y
def Gx(Cs a:i4)(vs:-V)(H:Hp)(Q:VK)(E:XK)(x d:i4)(ts us:-Tri)(k:Kd)(m n y:Nat):Prop:=vs=[.r x,.r d]/\c_ Cs H x ts us/\fX H d k m n y/\(Nw ts k y->Q .non H)/\(¬Nw ts k y->E (.r a) gf H)
def Az(Cs a:i4):Sp:=sEx8\Gx Cs a
section
def qG:aQ [↑47,"deed","a","b","at_rim"] [↑47,"deed"] (au nJ):=.f
def HN{f T Cs p l:i4}{fd Y:kS}(U:Fun K ↑29 ↑29 nJ f fd)(X:SCls K Cs)(M:!gq Cs 1 "third" [↑87,"a","b"] (oj Cs) T Y)
  (mN:mg "NoSide"*>.r p) (r:W.excIn K p bmV ↑5 = gm) (Z:mg "AT_A_RIM"*>.r l) (kR:KTup K l rimK):!az (CX1 P w) 2 f fd [↑47,"deed"] (Ay Cs p):=by
 show U.ok1 qG (λvs H Q E h=>?_) (λ_ _ _ _ _ _ _ _ hr h=>?_)
 .let#[x,d,ts,us,k,m,n,y,1,_]:=h;rfl
 let#[x,d,ts,us,k,m,n,y,1,sk,dd,q,u]:=h;let C:Room 1 _:=hr.mono ⋯;erw[_,af (fD (ixx a7 (pv 1) ah)\du rfl (aY (gx 2 qG.nd)\aY (gx 3 qG.nd) dh))
  (af (bf (gY\BW (lU (pv 0) X.cl M.m M.g C M.b .nil pass0\ae (pv 2) (pa1\pv 3))) (aj\lF lets1 rfl rfl rfl mN r (pa1 aK)) ba)
  (af (sx 4 qG.nd\BV (BW\lU (pv 0) X.cl M.m M.g C M.b .nil pass0 (ae (pv 3)\pa1 (pv 2))))
  (af (bf (PW.pt\fQ (dW\pv 4) (fZ\aT cn (ixx a7 (pv 1) ah) aK (nomark _))) (aj\lF lets1 rfl rfl rfl mN r (pa1 aK)) ba)
  (aj\bf (PW.pt\fQ (fR\dW (pv 4)) (fZ\aT rX (ixx a7 (pv 1) ah) (dO (v:=.r l) rfl Z rfl) rfl)) (aj\lF lets1 rfl rfl rfl mN r (pa1 aK)) ba)))),?_]
 let#[sd,h1,h2]:=id dd;let#[dx,O,R,D,S,hx]:=sk.obj;erw[2,d,4,SqT.of h2,aW (j:=1) rfl,sd,2,SqT.of h1,1,9,6,?_];erw[2,x,dx,2,hx,7,2,x,ts,us,m,n,1,sk,λH1 s1=>#[λc I=>?_,λo=>#[2,aL #[lit1,u H1 s1 λz=>z.a.elim o]]]];erw[2,aA ?_];erw[2,x,dx,2,s1>>hx,7,2,x,ts,us,n,m,1,sk.sm\Sm.of s1,λH2 s2=>#[λc2 L=>?_,λo=>?_]]
 .refine#[3,aA #[3,?_]];show jE #[2,d,4,SqT.of (s2>>s1>>h2),aW (j:=0) rfl,l,2,kR,5,2,?_];let e:inV (.s k.sgn) rimK=k.rim:=by cases k<;>decide +kernel
  rw[e];cases N:k.rim with
  |true=>show aL #[lit1,u H2 (s1<*s2) λz=>z.c N c2 L]
  |false=>show aA\q H2 (s1<*s2) #[#[c,I],λ_=>#[c2,L],λz=>absurd (N.symm<*z) ⋯]
 erw[3,jE #[2,d,4,SqT.of (s2>>s1>>h2),aW (j:=0) rfl,7,?_]];by_cases B:k=.turn
 .subst B;show aL #[lit1,u H2 (s1<*s2) λz=>(z.b rfl).elim o]
 let e:decide (V.str k.sgn=V.str "turn")=hB:=by cases k<;>first|show absurd rfl B|decide +kernel
 rw[e];show aA #[3,oN\aA (q H2 (s1<*s2) #[#[c,I],λz=>(B z).elim,λ_=>o])]
def Jt:aQ [↑47,"deed"] [↑47,"deed"] (au pX):=.f
def HQ{f Cs g b:i4}(U:Fun K ↑23 ↑23 pX f fd)(X:SCls K Cs)(p:mg "WITH_A_CORNER"*>.r b)(r:KTup K b jG)(u:mg "Taken"*>.r g)(B:W.excIn K g bmV ↑5 = gm):!az (CX1 P w) 1 f fd [↑47,"deed"] (Az Cs g):=by
 show U.ok1 Jt (λvs H Q E h=>?_) (λ_ _ _ _ _ _ _ _ C h=>?_)
 .let#[x,d,ts,us,k,m,n,y,1,_]:=h;rfl
 let#[x,d,ts,us,k,m,n,y,1,#[kt,dx,O,R,D,S,T,L,sk,nk,l],dd,q,I]:=h;let M:=dC C;erw[_,aj\bf (PW.pt\fQ (aT rX (ixx a7 (pv 1) ah) (dO (v:=.r b) rfl p rfl) rfl) (fZ\gY (mm M (ixx a7 (pv 1) ah)\oG (pv 0) rfl))) (aj\lF lets1 rfl rfl rfl u B (pa1 aK)) ba,?_];let#[sd,h1,h2]:=dd;erw[2,d,4,SqT.of h2,aW (j:=0) rfl,b,2,r,5,2,?_];let e:inV (.s k.sgn) jG=k.wis:=by cases k<;>decide +kernel
 rw[e];cases hw:k.wis with
 |false=>show oN\aA (q λz=>absurd (hw.symm<*z) ⋯)
 |true=>
  rw[hw] at h2;let o:(a8 (L.map stV)\Sum.inl (y:Int)).isSome=gm↔Co ts y:=by
   by_cases c:Co ts y
   .exact#[λ_=>c,λ_=>by let#[a,_,e]:=q_\(l y).mpr c;rw[e];rfl]
   erw[λz=>(by rw[By λz=>c\(l y).mp z] at z;cases z),λz=>(c z).elim]
  show jE #[2,d,4,SqT.of h2,7,x,Cs,dx,9,sk.ob,X.cl,X.steps,1,S,2,.l #[_,Sum.inl (y:Int),sk.st,5],2,?_];cases hi:(a8 (L.map stV)\Sum.inl (y:Int)).isSome with
  |true=>show aL #[lit1,I λz=>z hw\o.mp hi]
  |false=>show aA (q λ_ z=>by rw[o.mpr z] at hi;cases hi)
end
def c9(u:Tri):PyData:=.tuple [.i (u.1:Int),.i (u.2.1:Int),.i (u.2.2:Int)]
def Bz(h:H a*>tri3 u):Dt [] H (.r a) (c9 u):=.u (SqT.of h)\.c (.i _) (.c (.i _)\.c (.i _) .nil)
def oB{us:-Tri}(h:ay H vs us):Dts [] H vs (us.map c9):=by
 induction h with
 |nil=>show .nil
 |cons q _ b=>
  let#[a,1,ha]:=q;show .c (Bz ha) b
def uM(u v:Tri):PyData.eqv (c9 u) (c9 v)=decide (u=v):=by let#[a,b,c]:=u;let#[d,e,f]:=v;rw[eX];simp[c9,PyData.eqv,PyData.eqvAll];lia
def IR(u:Tri)(us:-Tri):((us.map c9).any λz=>PyData.eqv z\c9 u)=decide (u∈us):=by
 rw[wY,eX,decide_eq_true_eq,m_];constructor
 .rintro⟨x,hx,e⟩;let e:PyData.eqv (c9 x) (c9 u)=gm:=e;rw[uM,decide_eq_true_eq] at e;show e ▸ hx
 show λh=>#[u,h,by change PyData.eqv (c9 u) (c9 u)=gm;rw[uM];simp]
def NJ(C:i4)(vs:-V)(H:Hp)(Q:VK)(x G:i4)(a:-V)(ts us gone:-Tri):Prop:=vs=[.r x,.r G]/\c_ C H x ts us/\H G*>.a a/\ay H a gone/\(∀t∈gone,Ne3 t)/\↑gone<=10/\
 ∀r vr H',H r=gf->Same H H'->H' r*>.a vr->ay H' vr (wo us gone)->Q (.r r) H'
def tJ(C:i4):Sp:=mJ\NJ C
section
def scWo:aQ [↑47,"gone","leaving"] [↑47,"gone"] (au nG):=.f
def Og{f f1 f2:i4}{fd d1 d2:kS}(U:Fun K ↑19 ↑19 nG f fd)(X:SCls K C)(GB:!Use 1 ↑50 [↑57] vy f1 d1)(M:!gq C 1 ↑43 [↑87] (kD C) f2 d2):
  !az CX0 2 f fd [↑47,"gone"] (tJ C):=by
 show U.ok scWo (!6) λ_ _ _ s H _ _ _ hr h=>?_
 let#[x,G,vg,ts,us,gone,1,sk,hG,hg,an,hl,q]:=h;let ad:Room 1 _:=hr.mono ⋯;erw[_,af (sx 2 scWo.nd (dq (N:=[↑57]) (fr:=[gf]) (qh ⋯ rfl ⋯ ⋯) rfl (bT\pv 1)
    (λC s H fp Sn=>#[gx 0 (⋯:([↑57]:-Str).Nodup),dZ,uc GB ad\pa1 (pv 0)])))
  (aj\aF (dq (N:=["triangle","leaving"]) (fr:=[gf,gh 2]) (tt:=gg\tOp (mL [] gm) (aN 0) (aN 1)) cpK rfl (bT\lG (pv 0) X.cl M.m M.g ad M.b .nil pass0)
    (λC s H fp Sn=>#[gx 0 (⋯:(["triangle","leaving"]:-Str).Nodup),gW\aT (zd hr.units) (pv 0) (pv 1) rfl,pv 0]))),?_]
 let#[#[dx,O,R,D,S,hx],hlen,hz,a3]:=#[sk.obj,aE hg,line5000,sk.1.ln];let a4:↑us<=200:=by have:=sk.1.al.length_eq;rw[av] at this;lia
 erw[2,G,1,#[_,SqL.of hG],λZ_ hZ=>dM (K:=[]) (a:=G) (xs:=vg) (λi Z ys H'=>∃o,Z=[o]/\Same H H'/\H' Z_*>.a ys/\ay H' ys\(gone.take i).map bg) #[gf,1,bG hZ,aH,.nil]
   (by rintro i Z ys H' _ ⟨_,_,e,_⟩;show SqL.of (e>>hG)) ?_ ?_]
 .rintro i v Z ys H' hi ⟨o,rfl,sm,n,tr⟩;let#[d,B,t,1,r]:=bY hg hi;let ly:↑ys<=10:=by rw[aE tr,av,bz];lia
  erw[2,t,d,1,sm>>r,λr' u H5 I L ap=>#[I>>n,(),λHn j T=>#[gh\.r t,1,λb o e=>(j b\ak e hZ)<*(I>>sm>>e),T,?_]]];let aM:=I>>n;let tn:∀{c:i4}{xs:-V},H5 c*>.u xs->c≠Z_:=λe=>bL e aM ∅;rw[bC,B,aV];rw[CN (an d\a_ B) ap] at L;show bR (Paired.imp' (by rintro _ _ ⟨c,y,p⟩;erw[c,y,by let e3:=I>>p;show (j _\tn e3)<*e3]) tr)\.c #[r',1,(j _\tn L)<*L] .nil
 rintro Z ys H1 ⟨o,rfl,s1,aS,tr1⟩;rw[hlen,cm] at tr1;erw[2,x,dx,2,s1>>hx,1,x,ts,us,1,sk.sm\Sm.of s1,λl vo H2 a5 s2 y2 ag=>?_];let a0:=aE ag;erw[l,1,#[_,SqL.of y2],λY ab=>dM (K:=[]) (a:=l) (xs:=vo) (λi Z zs H'=>∃o,Z=[o,gh\.r Z_]/\Same H2 H'/\H' Y*>.a zs/\ay H' zs\wo (us.take i) gone) #[gf,1,bG ab,aH,.nil]
  (by rintro i Z ys H' _ ⟨_,_,e,_⟩;show SqL.of (e>>y2)) ?_ ?_]
 .rintro i v Z zs H' hi ⟨o,rfl,sm,n,tr⟩;let#[d,B,t,1,r]:=bY ag hi;let ew:wo (us.take (i+1)) gone=wo (us.take i) gone++wo [d] gone:=by rw[bC,B];unfold wo;rw[gA];rfl
  let lz:↑zs<=200:=by let h1:=dJ (λt=>!decide (t∈gone.map bg))\us.take i;let h2:↑(wo (us.take i) gone)<=↑(us.take i):=h1;rw[bz] at h2;rw[aE tr];lia
  let a1:H' Z_*>.a ys:=sm>>s2>>aS;erw[3,c9 d,Z_,ys,_,Bz (sm>>r),1,.l\SqL.of a1,oB\Paired.imp' (by rintro _ _ ⟨c,y,p⟩;erw[c,y,sm>>s2>>p]) tr1,by simp[c9,PyData.depth,PyData.depthAll],2,?_];rw[IR,Sh rfl];by_cases hm:d∈gone.map bg
  .rw[Si hm];show aA #[2,sm,n,?_];rw[ew,show wo [d] gone=[] from w8.mpr λz hz=>by rw[aG.mp hz,Si hm];simp,eY];show tr
  rw[Sj hm];show aL #[2,n,(),λHn j T=>#[2,λb o e=>(j b\ak e ab)<*(sm>>e),T,?_]];rw[ew,show wo [d] gone=[d] from w9.mpr λz hz=>by rw[aG.mp hz,Sj hm];rfl];let tn:∀{c:i4}{xs:-V},H' c*>.u xs->c≠Y:=λe=>bL e n ∅;show bR (Paired.imp' (by rintro _ _ ⟨c,y,p⟩;erw[c,y,(j _\tn p)<*p]) tr)\.c #[t,1,(j _\tn (sm>>r))<*(sm>>r)] .nil
 rintro Z zs H3 ⟨o,rfl,s3,a2,am⟩;rw[a0,cm] at am;show q Y zs H3 (dY (s1<*s2) ab) (s1<*s2<*s3) a2 am
end
def Outs(H:Hp)(Q:VK)(rs:-Tri):Prop:=∀r vr H',H r=gf->Same H H'->H' r*>.a vr->ay H' vr rs->Q (.r r) H'
def I_(C:i4)(vs:-V)(H:Hp)(Q:VK)(x:i4)(ts us:-Tri)(a b c d:Nat):Prop:=vs=[.r x,.i (a:Int),.i (b:Int)]/\c_ C H x ts us/\En ts a b c/\En ts b a d/\Outs H Q\turned us a b c d
def BD(C:i4):Sp:=sPx7\I_ C
def Lq(C:i4)(vs:-V)(H:Hp)(Q:VK)(x:i4)(ts us:-Tri)(a b c:Nat):Prop:=vs=[.r x,.i (a:Int),.i (b:Int)]/\c_ C H x ts us/\En ts a b c/\Outs H Q\wo us [(a,b,c)]
def Cq(C:i4):Sp:=mJ\Lq C
def NL(C:i4)(vs:-V)(H:Hp)(Q:VK)(x:i4)(ts us:-Tri)(a b c y:Nat):Prop:=vs=[.r x,.i (a:Int),.i (b:Int),.i (y:Int)]/\c_ C H x ts us/\En ts a b c/\Outs H Q\inn us a b c y
def spIn(C:i4):Sp:=sPx7\NL C
def NK(C:i4)(vs:-V)(H:Hp)(Q:VK)(x:i4)(ts us:-Tri)(a b y:Nat):Prop:=vs=[.r x,.i (a:Int),.i (b:Int),.i (y:Int)]/\c_ C H x ts us/\Outs H Q (us++[(b,a,y)])
def spOn(C:i4):Sp:=mJ\NK C
section
def tr1(h:H t*>tri3 x):ay H [.r t] [x]:=.c #[t,1,h] .nil
def vU:aQ [↑47,"a","b","c","d"] [↑47,"a","b"] (au lq):=.f
def JZ{f Y Z:i4}{fd d1 d2:kS}(U:Fun K ↑55 ↑55 lq f fd)(X:SCls K C)(GW:!Use 2 ↑19 [↑47,"gone"] (tJ C) Y d1)(M:!gq C 1 "third" [↑87,"a","b"] (oj C) Z d2):
  !az CX0 3 f fd [↑47,"a","b"] (BD C):=by
 show U.ok vU (!7) λ_ _ _ _ _ _ _ _ y h=>?_
 let#[x,ts,us,a,b,c,d,1,sk,e,j,q]:=h;let B:Room 1 _:=y.mono ⋯;let ab:Room 2 _:=y.mono ⋯;erw[_,af (sx 3 vU.nd\lU (pv 0) X.cl M.m M.g B M.b .nil pass0 (ae (pv 1)\pa1 (pv 2)))
  (af (sx 4 vU.nd\lU (pv 0) X.cl M.m M.g B M.b .nil pass0 (ae (pv 2)\pa1 (pv 1)))
  (aj\aF (aD dP (uc GW ab\ae (pv 0) (pa1\bp (ae (ao\ae (pv 1) (ae (pv 2)\pa1 (pv 3)))\pa1 (ao\ae (pv 2) (ae (pv 1)\pa1 (pv 4))))))
   (bp\ae (ao\ae (pv 1) (ae (pv 4)\pa1 (pv 3))) (pa1\ao (ae (pv 4)\ae (pv 2) (pa1\pv 3))))))),?_]
 let#[#[dx,O,R,D,S,hx],g,n1,n2,hz]:=#[sk.obj,sk.1.sk.g,ne3 g e,ne3 g j,line5000];let am:↑us<=200:=by have:=sk.1.al.length_eq;have:=sk.1.ln;rw[av] at *;lia
 erw[2,x,dx,2,hx,7,2,x,ts,us,a,b,1,sk,λH1 s1=>#[λc' ad=>?_,λz=>(z c e).elim]];cases g.sk.one ad e;erw[2,x,dx,2,s1>>hx,7,2,x,ts,us,b,a,1,sk.sm\Sm.of s1,λH2 s2=>#[λd' ag=>?_,λz=>(z d j).elim]];cases g.sk.one ag j;erw[3,3,lit3,λt1 H3 g3 s3 y3=>?_];erw[3,2,lit3,λt2 H4 g4 I y4=>?_];erw[lit2,λG H5 g5 l y5=>?_];let L:=(s3<*I)<*l;erw[x,G,_,ts,us,[(a,b,c),(b,a,d)],1,sk.sm\Sm.of (s1<*s2<*L),y5,.c #[t1,1,l>>I>>y3]\tr1 (l>>y4),?_,∅,λr vr H6 an s6 y6 N=>?_]
 .intro t n;rcases aU.mp n with rfl|n
  .exact n1
  rw[aG.mp n];show n2
 erw[3,2,lit3,λt3 H7 g7 s7 y7=>?_];erw[3,2,lit3,λt4 H8 g8 T y8=>?_];erw[lit2,λG2 H9 g9 o y9=>?_];let#[u,ll,lw]:=#[(s7<*T)<*o,aE N,(dJ _ _:↑(wo us [(a,b,c),(b,a,d)])<=↑us)];erw[r,G2,6,u>>y6,y9,by simp;lia,λp Ha ga sa ya=>?_];let all:=(s1<*s2<*L<*s6<*u);show q p _ Ha (dY all ga) (all<*sa) ya\bR ((N.same u).same sa) (.c #[t3,1,sa>>o>>T>>y7]\tr1 (sa>>o>>y8))
def NQ:aQ [↑47,"a","b"] [↑47,"a","b"] (au lA):=.f
def L_{f n o:i4}{fd p u:kS}(U:Fun K ↑86 ↑86 lA f fd)(X:SCls K C)(v:!Use 2 ↑19 [↑47,"gone"] (tJ C) n p)(M:!gq C 1 "third" [↑87,"a","b"] (oj C) o u):
  !az CX0 3 f fd [↑47,"a","b"] (Cq C):=by
 show U.ok NQ (!6) λ_ _ _ _ _ _ _ _ j h=>?_
 let#[x,ts,us,a,b,c,1,sk,d,q]:=h;let y:Room 1 _:=j.mono ⋯;let B:Room 2 _:=j.mono ⋯;erw[_,aj\aF (uc v B\ae (pv 0) (pa1\bp (pa1\ao (ae (pv 1)\ae (pv 2) (pa1\lU (pv 0) X.cl M.m M.g y M.b .nil pass0 (ae (pv 1)\pa1 (pv 2))))))),?_];let#[dx,O,R,D,S,hx]:=sk.obj;let g:=sk.1.sk.g;erw[3,3,x,dx,2,hx,7,2,x,ts,us,a,b,1,sk,λH1 s1=>#[λc' I=>?_,λz=>(z c d).elim]];cases g.sk.one I d;erw[lit3,λt1 H3 g3 L N=>#[lit1,λG H5 g5 l T=>?_]];let all:=(s1<*L)<*l;erw[x,G,_,ts,us,[(a,b,c)],1,sk.sm\Sm.of all,T,tr1 (l>>N),?_,∅,λr vr Y Z s6 y6 ab=>q r vr Y (dY all Z) (all<*s6) y6 ab];intro t ht;rw[aG.mp ht];show ne3 g d
def scIn:aQ [↑47,"a","b","x","c"] [↑47,"a","b","x"] (au l8):=.f
def Oi{I L:i4}{fd N T:kS}(U:Fun K "put_in" "put_in" l8 f fd)(X:SCls K C)(Y:!Use 2 ↑19 [↑47,"gone"] (tJ C) I N)(M:!gq C 1 "third" [↑87,"a","b"] (oj C) L T):
  !az CX0 3 f fd [↑47,"a","b","x"] (spIn C):=by
 show U.ok scIn (!7) λ_ _ _ _ _ _ _ _ n h=>?_
 let#[x,ts,us,a,b,c,y,1,sk,d,q]:=h;let Z:Room 1 _:=n.mono ⋯;let ab:Room 2 _:=n.mono ⋯;erw[_,af (sx 4 scIn.nd\lU (pv 0) X.cl M.m M.g Z M.b .nil pass0 (ae (pv 1)\pa1 (pv 2)))
  (aj\aF (aD dP (uc Y ab\ae (pv 0) (pa1\bp (pa1\ao (ae (pv 1)\ae (pv 2) (pa1\pv 4)))))
   (bp\ae (ao\ae (pv 1) (ae (pv 2)\pa1 (pv 3))) (ae (ao\ae (pv 2) (ae (pv 4)\pa1 (pv 3)))\pa1 (ao\ae (pv 4) (ae (pv 1)\pa1 (pv 3))))))),?_]
 let#[#[dx,O,R,D,S,hx],g,hz]:=#[sk.obj,sk.1.sk.g,line5000];let ag:↑us<=200:=by have:=sk.1.al.length_eq;have:=sk.1.ln;rw[av] at *;lia
 erw[2,x,dx,2,hx,7,2,x,ts,us,a,b,1,sk,λH1 s1=>#[λc' ad=>?_,λz=>(z c d).elim]];cases g.sk.one ad d;erw[3,3,lit3,λt1 H3 g3 s3 y3=>#[lit1,λG H5 g5 o y5=>?_]];let u:=(s1<*s3)<*o;erw[x,G,_,ts,us,[(a,b,c)],1,sk.sm\Sm.of u,y5,tr1 (o>>y3),λt ht=>by rw[aG.mp ht];show ne3 g d,∅,λr vr H6 am s6 y6 v=>?_];erw[3,2,lit3,λt3 H7 g7 s7 y7=>?_];erw[3,2,lit3,λt4 H8 g8 B y8=>?_];erw[3,2,lit3,λt5 H9 g9 e y9=>?_];erw[lit3,λG2 Ha ga sa ya=>?_];let#[j,ll,lw]:=#[(s7<*B<*e)<*sa,aE v,(dJ _ _:↑(wo us [(a,b,c)])<=↑us)];erw[r,G2,6,j>>y6,ya,by simp;lia,λp Hb gb sb yb=>?_];let all:=(u<*s6)<*j;show q p _ Hb (dY all gb) (all<*sb) yb\bR ((v.same j).same sb) (.c #[t3,1,sb>>sa>>e>>B>>y7]\.c #[t4,1,sb>>sa>>e>>y8] (tr1 (sb>>sa>>y9)))
def scOn:aQ [↑47,"a","b","x"] [↑47,"a","b","x"] (au oE):=.f
def Oh{e:i4}{fd j:kS}(U:Fun K "put_on" "put_on" oE f fd)(X:SCls K C)(M:!gq C 1 ↑43 [↑87] (kD C) e j):!az CX0 2 f fd [↑47,"a","b","x"] (spOn C):=by
 show U.ok scOn (!6) λ_ _ _ _ _ _ _ _ n h=>?_
 let#[x,ts,us,a,b,y,1,sk,q]:=h;let o:Room 1 _:=n.mono ⋯;erw[_,aj\aF (aD dP (lG (pv 0) X.cl M.m M.g o M.b .nil pass0)\bp (pa1\ao (ae (pv 2)\ae (pv 1) (pa1\pv 3)))),?_];let#[dx,O,R,D,S,hx]:=sk.obj;let hz:=line5000;let Y:↑us<=200:=by have:=sk.1.al.length_eq;have:=sk.1.ln;rw[av] at *;lia
 erw[2,x,dx,2,hx,1,x,ts,us,1,sk,λr vr Z ab u v d=>?_];erw[3,2,lit3,λt3 H7 g7 c z=>#[lit1,λB Ha ga sa I=>?_]];let ll:=aE d;erw[r,B,6,sa>>c>>v,I,by simp;lia,λp L N sb T=>?_];let all:=(u<*c)<*sa;show q p _ L (dY all N) (all<*sb) T\bR (((d.same c).same sa).same sb) (tr1 (sb>>sa>>z))
end
def clo(y:Nat)(rim:-Nat):-Tri:=(prs rim).map λs=>(s.2,s.1,y)
def GQ(C:i4)(vs:-V)(H:Hp)(Q:VK)(x:i4)(ts us:-Tri)(a y:Nat):Prop:=vs=[.r x,.i (a:Int),.i (y:Int)]/\c_ C H x ts us/\(∃b,bq (En ts) a b)/\
 ∀rim,Cy (bq\En ts) rim->rim[0]?*>a->∀r vr H',H r=gf->Sm H H'->H' r*>.a vr->ay H' vr (us++clo y rim)->Q (.r r) H'
def AG(C:i4):Sp:=oU\GQ C
section
def AO:aQ [↑47,"a","x","rim"] [↑47,"a","x"] (au oq):=.f
def HX{f1 f2 f3 f4:i4}{fd d1 d2 d3 d4:kS}(U:Fun K "closed" "closed" oq f fd)(X:SCls K C)(GR:!Use 1 ↑88 [↑47] (yo C) f1 d1)(GW:!Use 1 "walked" ["onward","begin"] yY f2 d2)(GP:!Use 1 ↑58 ["ring"] Aw f3 d3)(M:!gq C 1 ↑43 [↑87] (kD C) f4 d4):
  !az CX0 2 f fd [↑47,"a","x"] (AG C):=by
 show U.ok AO (!5) λ_ _ _ s H _ _ _ hr h=>?_
 let#[x,ts,us,a,y,1,sk,#[b,ag],q]:=h;let j:Room 1 _:=hr.mono ⋯;erw[_,af (sx 3 AO.nd\uc GW j (ae (uc GR j\pa1 (pv 0))\pa1 (pv 1)))
  (aj\aF (aD dP (lG (pv 0) X.cl M.m M.g j M.b .nil pass0) (dq (N:=["p","q","x"]) (fr:=[gf,gf,gh 2]) (g:=kH [] 2\fU (dv 0) (fU (dv 1) kI)) (te:=oQ\bZ (aN 1) (bZ (aN 0)\bZ (aN 2) dH)) cpK rfl (bT\uc GP j (pa1\pv 3))
    (λC s H fp Sn=>#[du rfl\aY (gx 0 (⋯:(["p","q","x"]:-Str).Nodup)) (aY (gx 1 (⋯:(["p","q","x"]:-Str).Nodup)) dh),dZ,ao\ae (pv 1) (ae (pv 0)\pa1 (pv 2))])))),?_]
 let#[#[dx,O,R,D,S,hx],g,o,a5,hz]:=#[sk.obj,sk.1.sk.g,sk.1.sk.o,sk.1.ln,line5000];let a6:↑us<=200:=by have:=sk.1.al.length_eq;rw[av] at this;lia
 let st:=JC g o;let#[one,inj,aS]:=nR g o;erw[2,x,ts,us,1,sk,λD1 H1 h1 a0 y1=>?_];let bb:↑(eg ts\ents ts)<=600:=by have:=zX ts\ents ts;rw[eF] at this;lia
 erw[2,D1,_,bq\En ts,a,1,.l y1,(),inj,st,(st.key a).mpr #[b,ag],λr ps H2 bc s2 y2 bd n hd en=>?_];let I:Cy (bq\En ts) ps:=wz n λz s' u am=>by
  rw[hd] at am;cases am;show (en z u).resolve_left λhn=>?_;have:∃c,bq (En ts) z c:=by
   by_cases c1:↑ps=1
   .rw[c1,hd] at u;cases u;erw[b,ag]
   let hl:0<↑ps:=ia.mpr n.ne;let h3:ps[↑ps-2]?*>ps[↑ps-2]'():=aR _;show aS _ _\n.ch (↑ps-2) _ z h3 (by rw[show ↑ps-2+1=↑ps-1 by lia];show u)
  let#[c,L]:=this;show hn c L
 let be:↑ps<=600:=by have:=jj (m:=(eg ts\ents ts).map (·.1)) I.nd λp hp=>(st.key p).mpr (by let#[q',a1]:=qS hp;erw[q',I.st>>a1]);rw[av] at this;lia
 let T:=a0.trans\Sm.of s2;erw[2,x,dx,2,T.keep hx λz=>z,1,x,ts,us,1,sk.sm T,λl vo H3 bi s3 y3 an=>?_];erw[2,r,ps,1,s3>>y2,n.ne,(),λr2 a2 H4 bl s4 y4 ap=>?_];let l4:=aE ap;rw[iO] at l4;erw[r2,1,#[_,SqL.of y4],λZ_ hZ=>dM (K:=[]) (a:=r2) (xs:=a2) (λi Z ys H'=>∃Y o2,Z=[Y,o2,gh\.i (y:Int)]/\Same H4 H'/\H' Z_*>.a ys/\ay H' ys (((prs ps).take i).map λs=>(s.2,s.1,y))) #[gf,gf,1,bG hZ,aH,.nil]
   (by rintro i Z ys H' _ ⟨_,_,_,e,_⟩;show SqL.of (e>>y4)) ?_ ?_]
 .rintro i v Z ys H' hi ⟨Y,o2,rfl,sm,aM,tr⟩;let#[#[p,q'],hs,c,1,L]:=bY ap hi;let ly:↑ys<=600:=by rw[aE tr,av,bz,iO];lia
  erw[c,2,SqT.of (sm>>L),1,9,6,?_];erw[3,2,lit3,λt H5 g5 d y5=>#[d>>aM,(),λHn kn yn=>#[9,λb o e=>(kn b\ak e hZ)<*(d>>sm>>e),yn,?_]]];let a3:=d>>aM;let tn:∀{B:i4}{xs:-V},H5 B*>.u xs->B≠Z_:=λe=>bL e a3 ∅;rw[bC,hs,aV];show bR (Paired.imp' (by rintro _ _ ⟨B,e1,e2⟩;erw[B,e1,by let e3:=d>>e2;show (kn _\tn e3)<*e3]) tr)\.c #[t,1,(kn _\tn y5)<*y5] .nil
 rintro Z ys H5 ⟨Y,o2,rfl,d,a4,ab⟩;rw[l4,<-iO,cm] at ab;let ly:↑ys=↑ps:=by rw[aE ab,av,iO]
 let lo:=aE an;let ad:=s4<*d;erw[l,Z_,6,ad>>y3,a4,(),λp H6 g6 s6 y6=>?_];let all:Sm H H5:=T.trans\Sm.of (s3<*ad);show q ps I hd p _ H6 (all.free g6) (all.trans\Sm.of s6) y6\bR ((an.same ad).same s6) (ab.same s6)
end
def goOr{Q:Bool->Hp->Prop}(h:Q gm H):oR u Z Q gm H:=aL (B:=u Z H Q) h
def skOr{u:TT}{Q:Bool->Hp->Prop}(h:u Z H Q):oR u Z Q hB H:=aA (A:=Q gm H) h
def Jm(C:i4)(vs:-V)(H:Hp)(Q:VK)(x:i4)(ts us:-Tri)(a b:Nat):Prop:=vs=[.r x,.i (a:Int),.i (b:Int)]/\c_ C H x ts us/\Outs H Q\dwn us a b
def BN(C:i4):Sp:=oU\Jm C
section
def BO:aQ [↑47,"a","b","left"] [↑47,"a","b"] (au oo):=.f
def Kg{f4:i4}{fd d4:kS}(U:Fun K "drawn" "drawn" oo f fd)(X:SCls K C)(T:cv mg)(M:!gq C 1 ↑43 [↑87] (kD C) f4 d4):
  !az CX0 2 f fd [↑47,"a","b"] (BN C):=by
 show U.ok BO (!5) λ_ _ _ s H _ Q _ hr h=>?_
 let#[x,ts,us,a,b,1,sk,q]:=h;let a5:Room 1 _:=hr.mono ⋯;erw[_,af (qR (i:=3) (N:=["triangle","a","b"]) (fr:=[gf,gh 1,gh 2]) (tt:=tOr (gg\tOp (rIn [] gm) (aN 1) (aN 0))\gg (tOp (rIn [] gm) (aN 2)\aN 0)) cpK rfl (bT\lG (pv 0) X.cl M.m M.g a5 M.b .nil pass0)
    (λC s H fp Sn=>#[gx 0 (⋯:(["triangle","a","b"]:-Str).Nodup),gW\PW.pt (iz (aT ji (pv 1) (pv 0) rfl)\iT (aT ji (pv 2) (pv 0) rfl)),pv 0]) BO.nd rfl (.l rfl))
  (aj\aF (dq (N:=["triangle","a","b"]) (fr:=[gf,gh 1,gh 2]) (te:=tCB (λxs H Q=>∃p ys,xs=[.r p]/\((SqL [] H p ys/\∀l,H l=gf->Q (.r l)\upd H l (.u ys))\/(SqT [] H p ys/\Q (.r p) H)))\bZ (mz (oY []\aN 0) (dv 0) (λ_ H Q=>Q gm H) (tIf (gg\tOp rEq (aN 0) (aN 2)) (aN 1)\aN 0) [gf,gh 1,gh 2]) dH) cpK rfl (bT\pv 3)
    (λC' s' H' fp Sn=>#[gx 0 (⋯:(["triangle","a","b"]:-Str).Nodup),dZ,de lh (by rfl) T.tuple jW\pa1 (dq (N:=["corner","a","b"]) (fr:=[gf,gh 1,gh 2]) (te:=tIf (gg\tOp rEq (aN 0) (aN 2)) (aN 1)\aN 0) cpK rfl (l_\pv 0)
    (λC2 s2 H2 be bi=>#[gx 0 (⋯:(["corner","a","b"]:-Str).Nodup),dZ,z8 (aT cn (pv 0) (pv 2)\nomark _) (pv 1)\pv 0]))]))),?_]
 let#[#[dx,O,R,D,S,hx],bl,hz]:=#[sk.obj,sk.1.ln,line5000];let bm:↑us<=200:=by have:=sk.1.al.length_eq;rw[av] at this;lia
 erw[2,x,dx,2,hx,1,x,ts,us,1,sk,λl vo H1 bn s1 y1 tr1=>?_];let a6:=aE tr1;erw[l,1,#[_,SqL.of y1],λZ_ hZ=>dM (K:=[]) (a:=l) (xs:=vo) (λi Z ys H'=>∃o,Z=[o,gh\.i (a:Int),gh\.i (b:Int)]/\Same H1 H'/\H' Z_*>.a ys/\ay H' ys\(us.take i).filter (both a b)) #[gf,1,bG hZ,aH,.nil]
   (by rintro i Z ys H' _ ⟨_,_,e,_⟩;show SqL.of (e>>y1)) ?_ ?_]
 .rintro i v Z ys H' hi ⟨o,rfl,sm,ap,tr⟩;let#[d,hs,t,1,I]:=bY tr1 hi;let B:=sm>>I;let ew:(us.take (i+1)).filter (both a b)=(us.take i).filter (both a b)++[d].filter (both a b):=by rw[bC,hs,gA];rfl
  let ly:↑ys<=200:=by let h2:=dJ (both a b)\us.take i;rw[bz] at h2;rw[aE tr];lia
  let yes:both a b d=gm->H' Z_*>.a ys/\↑ys<js/\∀j,(∀c,c≠Z_->j c=H' c)->j Z_*>.a (ys++[V.ref t])->∃o,([gh\V.ref t,gh\.i (a:Int),gh\.i (b:Int)]:St)=[o,gh\.i (a:Int),gh\.i (b:Int)]/\Same H1 j/\j Z_*>.a (ys++[V.ref t])/\ay j (ys++[V.ref t]) ((us.take (i+1)).filter\both a b):=λhy=>by
   erw[ap,(),λj L yn=>#[2,λb o e=>(L b\ak e hZ)<*(sm>>e),yn,?_]];let tn:∀{n:i4}{xs:-V},H' n*>.u xs->n≠Z_:=λe=>bL e ap ∅;rw[ew,fq,Sh hy];show bR (Paired.imp' (by rintro _ _ ⟨n,e1,e2⟩;erw[n,e1,(L _\tn e2)<*e2]) tr)\.c #[t,1,(L _\tn B)<*B] .nil
  let iv:∀c:Nat,inV (V.int (c:Int)) [V.int (d.1:Int),V.int (d.2.1:Int),V.int (d.2.2:Int)]=decide (c∈[d.1,d.2.1,d.2.2]):=λc=>g_ c [d.1,d.2.1,d.2.2];erw[3,t,2,.o\SqT.of B,5,2,?_];rw[Sh rfl,iv];by_cases ha:a∈[d.1,d.2.1,d.2.2]
  .rw[Si ha];show skOr #[3,t,2,.o\SqT.of B,5,2,?_];rw[Sh rfl,iv];by_cases ag:b∈[d.1,d.2.1,d.2.2]
   .rw[Si ag];let e:both a b d=hB:=by unfold both;rw[Si ha,Si ag];rfl
    show aA #[2,sm,ap,?_];rw[ew,fq,Sg (by rw[e];simp),ng,eY];show tr
   rw[Sj ag];show aL #[2,yes (by unfold both;rw[Sj ag];simp)]
  rw[Sj ha];show goOr\aL #[2,yes (by unfold both;rw[Sj ha];rfl)]
 rintro Z ys H2 ⟨o,rfl,s2,a2,aM⟩;rw[a6,cm] at aM;let bb:=aE aM;let lf:=dJ (both a b) us;erw[2,Z_,1,#[_,SqL.of a2],λY hY=>dM (K:=[]) (a:=Z_) (xs:=ys) (λi Z zs H'=>∃o,Z=[o,gh\.i (a:Int),gh\.i (b:Int)]/\ay H' zs (((us.filter\both a b).take i).map\rep a b)/\Same H2 H'/\H' Y*>.a zs) #[gf,1,.nil,bG hY,aH] (by rintro i Z zs H' _ ⟨_,_,_,e,_⟩;show SqL.of (e>>a2)) ?_ ?_]
 .rintro i v Z zs H' hi ⟨o,rfl,ab,am,aS⟩;let#[#[#[p,u,r],hs,t,1,I],I,B]:=#[bY aM hi,(I:H2 t*>.u (nV [p,u,r])),am>>I];let bt:↑zs<=200:=by rw[aE ab,av,bz];lia
  erw[2,t,1,#[_,SqT.of B],λW hW=>n_ (K:=[]) (a:=t) (xs:=nV [p,u,r]) (λk Z ad y=>∃o,Z=[o,gh\.i (a:Int),gh\.i (b:Int)]/\ad=nV (([p,u,r].take k).map\onto a b)/\Same H' y/\y W*>.a ad) #[gf,5,bG hW,aH] (by rintro k Z ad y _ ⟨_,_,_,e,_⟩;show SqT.of (e>>B)) ?_ ?_]
  .rintro k x' Z ad y hk ⟨o,rfl,rfl,sY,a0⟩;rw[nV,br] at hk;let#[z,a3,1]:=cz.mp hk;let bw:k<3:=(aO.mp a3).1;let fin:y W*>.a (nV\([p,u,r].take k).map (onto a b))/\(nV\([p,u,r].take k).map (onto a b)).length<js/\∀j,(∀c,c≠W->j c=y c)->j W*>.a (nV (([p,u,r].take k).map\onto a b)++[V.int (onto a b z:Int)])->∃o,([gh\V.int (z:Int),gh\.i (a:Int),gh\.i (b:Int)]:St)=[o,gh\.i (a:Int),gh\.i (b:Int)]/\nV (([p,u,r].take k).map\onto a b)++[V.int (onto a b z:Int)]=nV (([p,u,r].take (k+1)).map\onto a b)/\Same H' j/\j W*>.a (nV (([p,u,r].take k).map\onto a b)++[V.int (onto a b z:Int)]):=by
    erw[a0,?_,λj L yn=>#[2,?_,λn o e=>(L n\ak e hW)<*(sY>>e),yn]]
    .rw[bE,av,bz];have:↑([p,u,r]:-Nat)=3:=rfl;lia
    rw[bC,a3,aV,<-fE];rfl
   erw[3,7,?_];by_cases an:z=b
   .rw[show decide (V.int (z:Int)=V.int (b:Int))=gm from by rw[an];simp];let e:onto a b z=a:=Sh an;rw[e] at fin;show aL #[2,fin]
   rw[show decide (V.int (z:Int)=V.int (b:Int))=hB from Sj λe=>an (by have:=V.int.inj e;lia)];let e:onto a b z=z:=Sg an;rw[e] at fin;show aA #[2,fin]
  rintro Z ad y ⟨o,rfl,rfl,sY,a0⟩;erw[W,2,.l #[SqL.of a0,λt' bc=>?_]];walk_at"y t' bc H9 s9 y9";let a4:=s9>>sY>>aS;let tn:∀{n:i4}{xs:-V},H9 n*>.u xs->n≠Y:=λe=>bL e a4 ∅;erw[a4,(),λbx a1 bd=>#[2,?_,λn o e=>(a1 _\ak e hY)<*(s9>>sY>>am>>e),bd]];rw[bC,hs,aV];show bR (Paired.imp' (by rintro _ _ ⟨n,e1,e2⟩;erw[n,e1,by let e3:=s9>>sY>>e2;show (a1 _\tn e3)<*e3]) ab)\.c #[t',1,(a1 _\tn y9)<*y9] .nil
 rintro Z zs H' ⟨o,rfl,ab,am,aS⟩;rw[bb,cm] at ab;show q Y zs H' (dY (s1<*s2) hY) (s1<*s2<*am) aS ab
end
def AI{Cs:i4}(h1:H x=gf)(h2:H dx=gf)(s:SmB x (upd (upd H dx\.own x) x\.ins Cs dx []) H'):Sm H H':=λb o e=>by
 let a:=ak e h1;let c:=ak e h2;show s b o a (by rw[aq a,aq c];show e)
def za{Cs:i4}(h1:H x=gf)(h2:H dx=gf):Same H (upd (upd H dx\.own x) x\.ins Cs dx []):=λb o e=>by
 rw[aq\ak e h1,aq\ak e h2];show e
def Beh(ts us:-Tri)(m n y:Nat)(rs:-Tri):Kd->Prop
 |.turn=>∃c d,En ts m n c/\En ts n m d/\rs=turned us m n c d
 |.out=>∃c,En ts m n c/\rs=wo us [(m,n,c)]
 |.draw=>rs=dwn us m n
 |.inn=>∃c,En ts m n c/\rs=inn us m n c y
 |.on=>rs=us++[(n,m,y)]
 |.close=>∃rim,Cy (bq\En ts) rim/\rim[0]?*>m/\rs=us++clo y rim
abbrev KdK(k:Str):Prop:=k = ↑57\/k = "side"\/k = "round"\/k = "many"
def Fn(K:W.Frag)(vs:-V)(H:Hp)(Q:VK)(x C:i4)(k:Str):Prop:=vs=[.r x,.s k]/\H x*>dI x C gf/\kl K C=gm/\fH K C "kind"/\KdK k/\∀dx,H dx=gf->dx≠x->Q .non\upd (upd H x\dI x C (gh dx)) dx (.xd [("kind",.s k)])
def zN(K:W.Frag):Sp:=fj\Fn K
def Lu(Cs:i4)(vs:-V)(H:Hp)(Q:VK)(x d:i4)(ts us:-Tri)(k:Kd)(m n y:Nat):Prop:=vs=[.r x,.r d]/\c_ Cs H x ts us/\fX H d k m n y/\(∃c,En ts m n c)/\(k=.turn->∃c,En ts n m c)/\(k.rim=gm->∀c,¬En ts n m c)/\
 ∀rs r vr H',H r=gf->Sm H H'->H' r*>.a vr->ay H' vr rs->Beh ts us m n y rs k->Q (.r r) H'
def Ct(Cs:i4):Sp:=wJ\Lu Cs
def fJ.kk(h:fJ ts k):KdK k:=by
 rcases h with ⟨h,_⟩|⟨_,⟨h,_⟩|⟨_,h,_⟩⟩
 .exact .l h
 .exact .o\.l h
 show .o\.o (.l h)
def eW(rs:-Tri)(kk:Str):Prop:=kk = "many"/\200<↑rs\/↑rs<=200/\fJ rs kk
def eW.kk:eW ts k->KdK k
 |.inl h=>.o\.o (.o h.1)
 |.inr h=>h.2.kk
inductive Due
 |deed
 |side
 |taken
 |spoilt (k:Str)
 |skin (rs:-Tri)
def Out(ts us:-Tri):Dn->Due->Prop
 |none,.deed=>True
 |some (k,m,n,_),.side=>¬Okd ts k m n
 |some (k,m,n,y),.taken=>Okd ts k m n/\¬Nw ts k y
 |some (k,m,n,y),.spoilt kk=>Okd ts k m n/\Nw ts k y/\∃rs,Beh ts us m n y rs k/\eW rs kk
 |some (k,m,n,y),.skin vs=>Okd ts k m n/\Nw ts k y/\∃rs,Beh ts us m n y rs k/\SkT rs vs
 |_,_=>False
def Exn(a b e SP:i4)(H:Hp)(c:hK)(d:Option i4):Due->Prop
 |.deed=>c=.r a/\d=gf
 |.side=>c=.r b/\d=gf
 |.taken=>c=.r e/\d=gf
 |.spoilt kk=>c=.r SP/\∃dx,d*>dx/\H dx*>.xd [("kind",.s kk)]
 |.skin _=>False
def NM(K:W.Frag)(Cs e f g SP:i4)(vs:-V)(H:Hp)(Q:VK)(E:XK)(x:i4)(v:V)(ts us:-Tri)(t:Dn):Prop:=vs=[.r x,v]/\c_ Cs H x ts us/\mV K H v t/\(∀k m n y rs,t*>(k,m,n,y)->Okd ts k m n->Beh ts us m n y rs k->Few rs)/\
 (∀z a rs H',Sm H H'->Out ts us t (.skin a)->c_ Cs H' z rs a->Q (.r z) H')/\∀b c d H',Sm H H'->Out ts us t b->Exn e f g SP H' c d b->E c d H'
def spCh(K:W.Frag)(Cs a b c SP:i4):Sp:=sEx5\NM K Cs a b c SP
section
def G7:aQ [↑87,"kind"] [↑87,"kind"] (au p9):=.f
def FF{f S ex:i4}(U:Fun K ↑12 ↑95 p9 f fd)(c:mg ↑21*>.r S)(b:BInit K S):!wB 1 f fd [↑87,"kind"] ex (zN K):=by
 show U.okH G7 (λvs H Q E h=>?_) (λ_ _ _ _ _ _ _ _ a h=>?_)
 .let#[x,C,k,1,_]:=h;rfl
 let#[x,C,k,1,hx,d,hf,e,q]:=h;erw[_,af (dN\z_ rfl c b (ae (pv 0)\pa1 (vG\ke aK (ke (A8 a.units a.gu\pv 1) v8))))\aj (AW (pv 0) (pv 1) rfl),?_];let hz:10020<=sizeLine:=by rw[cW];lia
 let n:↑(Str.empty++("the deed leaves no skin: " : Str))<=40:=⋯;let#[g,j,l,o]:(PyData.str k).canLay0=gm/\(PyData.str k).showable=gm/\(PyData.str k).depth<=60/\(PyData.str k).shown.length<=40:=by rcases e with rfl|rfl|rfl|rfl<;>decide +kernel
 let l1:↑((Str.empty++("the deed leaves no skin: " : Str))++(PyData.str k).shown)<=sizeLine:=by rw[iG];lia
 erw[3,(),2,.s k,.s k g,j,l,(),2,l1,l1,x,C,2,hx,d,by change 1<=js;lia,?_];erw[3,x,C,1,hx,hf,λdx h1 h2=>q dx h1 h2]
def wq:aQ [↑47,"deed","a","b"] [↑47,"deed"] (au nN):=.f
def Mc{f z B C D I L Cs:i4}{fd M N O R S T:kS}(U:Fun K ↑39 ↑39 nN f fd)(X:!Use 3 ↑55 [↑47,"a","b"] (BD Cs) z M)(Y:!Use 3 ↑86 [↑47,"a","b"] (Cq Cs) B N)(Z:!Use 2 "drawn" [↑47,"a","b"] (BN Cs) C O)
  (G4:!Use 3 "put_in" [↑47,"a","b","x"] (spIn Cs) D R) (G5:!Use 2 "put_on" [↑47,"a","b","x"] (spOn Cs) I S) (G6:!Use 2 "closed" [↑47,"a","x"] (AG Cs) L T) :
  !az CX0 4 f fd [↑47,"deed"] (Ct Cs):=by
 show U.ok wq (!8) λ_ _ _ s _ _ _ _ u h=>?_
 let#[x,d,ts,us,k,m,n,y,1,sk,#[sd,h1,h2],#[c,p],ht,hk,q]:=h;let v:Room 2 _:=u.mono ⋯;erw[_,af (fD (ixx a7 (pv 1) ah)\du rfl (aY (gx 2 wq.nd)\aY (gx 3 wq.nd) dh))
  (af (bf (aT cn (ixx a7 (pv 1) ah) aK\nomark _) (aj\aF (uc X u\ae (pv 0) (ae (pv 2)\pa1 (pv 3)))) ba)
  (af (bf (aT cn (ixx a7 (pv 1) ah) aK\nomark _) (aj\aF (uc Y u\ae (pv 0) (ae (pv 2)\pa1 (pv 3)))) ba)
  (af (bf (aT cn (ixx a7 (pv 1) ah) aK\nomark _) (aj\aF (uc Z v\ae (pv 0) (ae (pv 2)\pa1 (pv 3)))) ba)
  (af (bf (aT cn (ixx a7 (pv 1) ah) aK\nomark _) (aj\aF (uc G4 u\ae (pv 0) (ae (pv 2)\ae (pv 3) (pa1\ixx a7 (pv 1) ah)))) ba)
  (af (bf (aT cn (ixx a7 (pv 1) ah) aK\nomark _) (aj\aF (uc G5 v\ae (pv 0) (ae (pv 2)\ae (pv 3) (pa1\ixx a7 (pv 1) ah)))) ba)
  (aj\aF (uc G6 v\ae (pv 0) (ae (pv 2)\pa1 (ixx a7 (pv 1) ah))))))))),?_]
 erw[2,d,4,SqT.of h2,aW (j:=1) rfl,sd,2,SqT.of h1,1,9,6,?_];let l:=SqT.of (K:=[]) h2;cases k with
 |turn=>
  let#[e,he]:=ht rfl;erw[2,d,4,l,5,2,aL #[3,2,x,ts,us,m,n,c,e,1,sk,p,he,λr vr H' g s o t=>q _ r vr H' g (Sm.of s) o t #[c,e,p,he,1]]]
 |out=>erw[2,d,4,l,5,2,aA #[2,d,4,l,5,2,aL #[3,2,x,ts,us,m,n,c,1,sk,p,λr vr H' g s o t=>q _ r vr H' g (Sm.of s) o t #[c,p,1]]]]
 |draw=>erw[2,d,4,l,5,2,aA #[2,d,4,l,5,2,aA #[2,d,4,l,5,2,aL #[3,2,x,ts,us,m,n,1,sk,λr vr H' g s o t=>q _ r vr H' g (Sm.of s) o t rfl]]]]
 |inn=>erw[2,d,4,l,5,2,aA #[2,d,4,l,5,2,aA #[2,d,4,l,5,2,aA #[2,d,4,l,5,2,aL #[3,3,d,4,l,1,x,ts,us,m,n,c,y,1,sk,p,λr vr H' g s o t=>q _ r vr H' g (Sm.of s) o t #[c,p,1]]]]]]
 |on=>erw[2,d,4,l,5,2,aA #[2,d,4,l,5,2,aA #[2,d,4,l,5,2,aA #[2,d,4,l,5,2,aA #[2,d,4,l,5,2,aL #[3,3,d,4,l,1,x,ts,us,m,n,y,1,sk,λr vr H' g s o t=>q _ r vr H' g (Sm.of s) o t rfl]]]]]]
 |close=>erw[2,d,4,l,5,2,aA #[2,d,4,l,5,2,aA #[2,d,4,l,5,2,aA #[2,d,4,l,5,2,aA #[2,d,4,l,5,2,aA #[3,2,d,4,l,1,x,ts,us,m,y,1,sk,#[n,#[c,p],λ⟨r,u⟩=>hk rfl r u],λrim cy r0 r vr H' g s o t=>q _ r vr H' g s o t #[rim,cy,r0,1]]]]]]]
end
section
def tK:aQ [↑47,"deed","checked",↑56,"e"] [↑47,"deed"] (au jn):=.f
def Oj{f1 f2 f3 f4 f5 f6 Cs C SP I:i4}{fd d1 d2 d3 d4 d5 d6:kS}{N bM:-hK}(U:Fun K "changed" "changed" jn f fd)(O:jL (CX1 P w) P w K mg base 5 ↑51 [↑49] (zQ K ND) f1 d1)(R:jL (CX1 P w) P w K mg base 2 ↑29 [↑47,"deed"] (Ay Cs NS) f2 d2)(S:jL (CX1 P w) P w K mg base 1 ↑23 [↑47,"deed"] (Az Cs TK) f3 d3)(G4:!Use 4 ↑39 [↑47,"deed"] (Ct Cs) f4 d4)
  (MK:Mk K Cs f5) (GK:!az (CX1 P w) 5 f5 d5 [↑87,↑56] (vR Cs C I)) (bK:Binds K d5 [↑87,↑56] []) (mK:mg "Skin"*>.r Cs) (mM:mg "TooMany"*>.r I) (cM:clsIn K I*>bM) (a0:bM.contains (.t ↑4)=gm) (mN:mg "NoSkin"*>.r C) (cN:clsIn K C*>N) (a1:N.contains (.t ↑4)=gm)
  (nM:(Value.ref C::N).contains (.r I)=hB) (T:iZ K SP f6) (X:∀x,!wB 1 f6 d6 [↑87,"kind"] x (zN K)) (bX:Binds K d6 [↑87,"kind"] []) (mX:mg "Spoilt"*>.r SP) (xc:iV K C) (xf:fH K C ↑72) (xk:fH K SP "kind") :
  !az (CX2 P w) 7 f fd [↑47,"deed"] (spCh K Cs ND NS TK SP):=by
 show U.ok2 tK (λvs H Q E h=>?_) (λ_ _ outer s H vs Q E L h=>?_)
 .let#[x,v,ts,us,t,1,_]:=h;rfl
 let#[x,v,ts,us,t,1,sk,hd,few,q,Z]:=h;let a2:Room 5 _:=L.mono ⋯;let a3:Room 4 _:=L.mono ⋯;let al:Room 2 _:=L.mono ⋯;let a4:Room 1 _:=L.mono ⋯;erw[_,af (sx 2 tK.nd\iR O.g.weak a2 rfl O.m O.k O.b .nil pass1 (pa1\pv 1))
  (af (dN\iR R.g.weak al rfl R.m R.k R.b .nil pass1 (ae (pv 0)\pa1 (pv 2)))
  (af (dN\iR S.g.weak a4 rfl S.m S.k S.b .nil pass1 (ae (pv 0)\pa1 (pv 2)))
  (af (sx 3 tK.nd\uc G4 a3 (ae (pv 0)\pa1 (pv 2)))
  (aj (JQ (i:=4) #[5] rfl tK.nd rfl rfl rfl mM cM a0 rfl mN cN a1 (λSn xe E hp=>aj\aF (AZ MK GK L rfl mK bK .nil hp\pa1 (pv 3)))
   (λx xe hR=>aj\uE hR rfl T (X x).len (λam outer s H args us vs Q e0 M hv h=>(X x).run _ outer s H args us vs Q E0 ((al.suite x).make SP am []) e0 M hv h) bX rfl mX (pa1 aK))
   (λx xe hR=>aj\uE hR rfl T (X x).len (λam outer s H args us vs Q e0 M hv h=>(X x).run _ outer s H args us vs Q E0 ((al.suite x).make SP am []) e0 M hv h) bX rfl mX (pa1\ixx a7 (show PE _ _ (M5 K (aN 4) ↑72) from AY (pv 4) rfl) ah)) letsv))))),?_]
 erw[2,v,t,1,hd,λk m n y d' H1 et s1 an=>?_,λH1 et s1=>by subst et;show Z .deed _ _ H1 (Sm.of s1) trivial #[5]];subst et;erw[3,x,d',ts,us,k,m,n,y,1,sk.sm\Sm.of s1,an,λH2 s2 ok=>?_,λH2 s2 e=>Z .side _ _ H2 (Sm.of\s1.trans s2) e #[5]];let ab:=Sm.of\s1.trans s2;erw[3,x,d',ts,us,k,m,n,y,1,sk.sm ab,an.same s2,λnw=>?_,λnw=>Z .taken _ _ H2 ab #[ok,nw] #[5]];erw[3,x,d',ts,us,k,m,n,y,1,sk.sm ab,an.same s2,ok.a,ok.b,ok.c,λrs r vr H3 g3 s3 y3 t3 b3=>?_];let ap:=ab<*s3;erw[λcls d H'=>Sm H3 H'/\(cls=.r I/\d=gf/\200<↑rs\/cls=.r C/\↑rs<=200/\∃B kk,d*>B/\fJ rs kk/\wN H' B kk),?_,?_]
 .refine#[2,λz dx hz aM u=>?_];let ad:=za (Cs:=Cs) hz aM;erw[z,dx,r,vr,rs,1,aH,ad>>y3,t3.same ad,few k m n y rs rfl ok b3,λa5 H' _ sm aS=>#[1,q z a5 rs H' (ap.trans\AI hz aM sm) #[ok,nw,rs,b3,aS.1] aS],λB H' kk l p sm fl=>#[(Sm.of ad)<*sm,.o #[1,l,B,kk,1,p,fl]],λl=>#[Sm.of ad,.l #[5,l]]]
 let fin:∀{H':Hp}{e z dx:i4}{c:hK}{d:Option i4}{o:HO}{kk:Str},Sm H3 H'->eW rs kk->H' e=gf->(upd H' e\el e c d) z=gf->(upd (upd H' e\el e c d) z o) dx=gf->dx≠z->∀o',(∃c' d',(del (upd (upd (upd (upd H' e\el e c d) z o) z o') dx\.xd [("kind",.s kk)]) z) e*>el e c' d')/\E (.r SP) (gh dx) (del (upd (upd (upd (upd H' e\el e c d) z o) z o') dx\.xd [("kind",.s kk)]) z):=λ{H' e z dx c d o kk} sm p he hz hx u o'=>by
  let ag:=bG (o:=el e c d) he;let D:e≠z:=λw=>by rw[<-w,aH] at hz;cases hz
  erw[#[c,d,?_],Z (.spoilt kk) _ _ _ (ap.trans\sm.trans (Sm.of λb ob M=>?_)) #[ok,nw,rs,b3,p] #[1,dx,1,by rw[eS u,aH]]]
  .let h2:upd (upd H' e\el e c d) z o e*>el e c d:=by rw[aq D,aH]
   rw[eS D,aq\ak h2 hx,aq D];show h2
  let h1:=ag>>M;let D:=ak h1 hz;let h2:upd (upd H' e\el e c d) z o b*>ob:=by rw[aq D];show h1
  rw[eS D,aq\ak h2 hx,aq D];show h2
 rintro cls d H' ⟨sm,⟨rfl,rfl,l⟩|⟨rfl,l,B,kk,rfl,p,t,xs,e1,e2⟩⟩
 .refine#[I,bM,1,cM,.l #[by rw[ph];simp,λe he=>?_]];let p:eW rs "many":=.l #[1,l];erw[by change 1<=js;rw[cW];decide,λz hz=>#[z,SP,"many",1,aH,T.over,xk,p.kk,λdx hx u=>#[1,gh dx,by rw[aq\aB u,aH],fin sm p he hz hx u _]]]
 erw[C,N,1,cN,.o #[nM,by rw[ph];simp,λe he=>?_]];let ag:=bG (o:=el e (.r C)\gh B) he;let p:eW rs kk:=.o #[l,p];erw[2,e,C,B,9,aH,ag>>e1,xc,xf,1,t,4,SqT.of (ag>>e2),aW (j:=0) rfl,?_];erw[by change 1<=js;rw[cW];decide,λz hz=>#[z,SP,kk,1,aH,T.over,xk,p.kk,λdx hx u=>#[1,gh dx,by rw[aq\aB u,aH],fin sm p he hz hx u _]]]
end
section
variable {R:Nat->Nat->Prop}
structure f_(R:Nat->Nat->Prop)(ls:List\-Nat):Prop where
 cyc:∀l∈ls,Cyc R l
 least:∀l∈ls,∀x,l[0]?*>x->∀p∈l,x<=p
 rise:ls.Pairwise λl m=>∀x y,l[0]?*>x->m[0]?*>y->x<y
 nd:ls.flatten.Nodup
def f_.nil:f_ R []:=#[∅,∅,.nil,∅]
def f_.step(inj:∀a b c,R a c->R b c->a=b){ls:List\-Nat}{c:Nat}(h:f_ R ls)(d:Cyc R l)(g:l[0]?*>c)(v:∀m∈ls,c∉m)
  (low:∀p,(∃q,R p q)->p<c->∃m∈ls,p∈m) (up:∀m∈ls,∀x,m[0]?*>x->x<c):f_ R (ls++[l])/\∀x∈l,x∉ls.flatten:=by
 let o:∀x∈l,∀m∈ls,x∉m:=λx hx m hm j=>v m hm\d.toPath.from inj (h.cyc m hm) hx j g;let r:∀x∈l,x∉ls.flatten:=λx hx z=>by
  let#[m,hm,j]:=ni.mp z;show o x hx m hm j
 erw[#[λm hm=>?_,λm hm x hx p f=>?_,?_,?_],r]
 .rcases a9.mp hm with z|z
  .exact h.cyc m z
  rw[aG.mp z];show d
 .rcases a9.mp hm with z|z
  .exact h.least m z x hx p f
  rw[aG.mp z] at hx f;cases g.symm.trans hx;show De λlt=>?_;let#[q,_,w]:=d.step f;let#[s,n,A]:=low p #[q,w] lt;show o p f s n A
 .rw[xn];erw[h.rise,ug _ _,λm hm s n x y hx u=>?_];rw[aG.mp n] at u;cases g.symm.trans u;show up m hm x hx
 rw[Pd,cD];erw[h.nd,‹d.nd›,λa ha b B e=>?_];subst e;show r a ‹B› ha
def f_.done{ls:List\-Nat}(h:f_ R ls)(all:∀p,(∃q,R p q)->∃l∈ls,p∈l):Rims R ls:=#[h.cyc,h.least,all,h.rise]
def f_.in{ls:List\-Nat}(h:f_ R ls){p:Nat}(a:p∈ls.flatten):∃q,R p q:=by let#[m,hm,b]:=ni.mp a;let#[q,_,c]:=(h.cyc m hm).step b;erw[q,c]
end
end K15
namespace K71
open PySem L2 K51 K31 K15
def NewL(H H':Hp)(T:i4)(v:V)(l:-Nat):Prop:=∃a,v=.r a/\H a=gf/\a≠T/\H' a*>.a\nV l
def KI{ls:List\-Nat}(h:∀l∈ls,l≠[]):↑ls<=ls.flatten.length:=by
 induction ls with
 |nil=>simp
 |cons l ls a=>
  let h1:=a λm hm=>h m\dz _ hm;let h2:0<↑l:=ia.mpr\h l jc;rw[List.flatten_cons,bo,ck];lia
def AV:∀(rs l:-(Nat×Nat)),((l++rs).map (·.1)).Nodup->jx (l.map nmV) (rs.map nmV)=(l++rs).map nmV
 | [],l,_=>by rw[eY];rfl
 |x::rs,l,nd=>by
  let hx:x.1∉l.map (·.1):=λz=>by
   rw[aV,cD] at nd;show nd.2.2 _ z _ ∅ rfl
  change jx (cA (l.map nmV) (Sum.inl (x.1:Int))\V.int (x.2:Int)) (rs.map nmV)=_;rw[oF hx,AV rs (l++[(x.1,x.2)]) (by rw[gz];show nd),gz];rfl
def AK:∀{vs:-V}{rs:-(Nat×Nat)},SdsAt H vs rs->iX H vs (rs.map nmV)
 |_,_,.nil=>.nil
 |_,_,.cons ⟨a,b,c⟩ t=>.c #[a,b,c]\AK t
def cI(l:-Nat):-Int:=l.map λn:Nat=>(n:Int)
def cI_V(l:-Nat):(cI l).map V.int=nV l:=by unfold cI nV;rw[cw];rfl
def Ae{K:W.Frag}:∀{vs:-V}{ls:List\-Nat},iY H vs ls->Lsts K H vs (ls.map cI)
 |_,_,.nil=>.nil
 |_,_,.cons ⟨a,b,c⟩ t=>.c #[a,b,by rw[cI_V];show c]\Ae (K:=K) t
def FS{l m:-Nat}{x y:Nat}(h1:l[0]?*>x)(h2:m[0]?*>y)(h:x<y):HT.lexLt (cI l) (cI m)=gm:=by
 cases l with
 |nil=>cases h1
 |cons a l=>cases m with
  |nil=>cases h2
  |cons b m=>
   cases h1;cases h2;change HT.lexLt ((x:Int)::cI l) ((y:Int)::cI m)=gm;rw[HT.lexLt_cons,Sg (),Si ()]
def Ks{ks:List\-Int}{ix:-Nat}(pm:ix.Perm\List.range ↑ks)(f:ks.Pairwise λa b=>HT.lexLt a b=gm)(d:(ix.map λi=>ks.getD i []).Pairwise λa b=>HT.lexLt b a=hB):ix=List.range ↑ks:=by
 rw[gC] at d;let c:∀i∈ix,i<↑ks:=λi hi=>iF.mp\pm.mem_iff.mp hi;let h1:ix.Pairwise (·<=·):=wW (λ{i j} hi e h=>by
  show De λlt=>?_;have:=xp.mp f j i (c j e) (c i hi) lt;simp only[List.getD,aR\c i hi,aR\c j e,xB] at h;rw[this] at h;cases h) d
 show O6 (λa b _ _ h1 h2=>Nat.le_antisymm h1 h2) h1 (List.pairwise_le_range) pm
def Gz(vs:-V)(H:Hp)(Q:VK)(T:i4)(a:-V)(ts:-Tri):Prop:=vs=[.r T]/\H T*>.a a/\ay H a ts/\↑ts<=200/\Good ts/\(∀c,Co ts c->One (En ts) c)/\
 ∀p vs ls H',H p=gf->Same H H'->H' p*>.a vs->iY H' vs ls->Rims (bq\En ts) ls->Q (.r p) H'
def AB:Sp:=fj Gz
def Gb:r6 "min"*>.b "min":=⋯
section
def om:aQ [↑0,"_law_ahead","_law_found","_law_rim",↑9] [↑0] (au rO):=.f
def ok_lrims{f f1:i4}{fd d1:kS}(U:Fun K ↑94 ↑94 rO f fd)(mS:mg ↑48 = gf)(mD:mg ↑53 = gf)(mN:mg "min" = gf)
  (GR:!Use 2 ↑34 [↑0] wm f1 d1) :
  !az CX0 3 f fd [↑0] AB:=by
 show U.ok om (!3) λ_ _ _ _ H vs _ _ S h=>?_
 let#[T,vt,ts,1,hT,tr,hl,g,bA,q]:=h;let hu:=dC S;let cl:=line5000;erw[_,af (sx 1 om.nd\de (Ea S.hd) (by rfl) mD PM (pa1\uc GR S (pa1\pv 0)))
  (af (sx 2 om.nd\bp fh)
  (af (j5 dA (aT (L6 S.units0) (pv 1) j6\nomark _)
   (af (sx 3 om.nd\bp (pa1\bP (xX rfl) (by rfl) mN Gb (pa1\pv 1)))
   (af (j5 dA (aT kE (ir hu (pv 1) (ixx bQ (pv 3)\iA iw ah) λ_ _=>rfl) (ixx bQ (pv 3) ah)\nomark _)
    (aj\dN (dX eO gG gH fB (pv 3)\pa1 (ir hu (pv 1) (ixx bQ (pv 3)\iA iw ah) λ_ _=>rfl))))
   (af (dD dA rfl (bT\pv 3) (gx 4 om.nd)\aj (dN\z9 (pv 1) (pv 4) #[5,5]))
   (aj\dN (dX eO gG gH fB (pv 2)\pa1 (pv 3)))))))
  (aj\aF (bP (DS\kO (xr (⋯:2<=64) _) S.units) (by rfl) mS iJ\pa1 (pv 2))))),?_]
 let#[bK,aM,bM]:=nR g bA;erw[2,T,vt,ts,1,hT,tr,hl,g.nd,λr zs rs H1 co s1 y1 sd a2 bN ⟨bS,bX⟩=>?_];let a3:(rs.map (·.1)).Nodup:=A_ bK bS λp d=>lR.mpr\a2 p d;let a4:∀x:Nat×Nat,x∈rs↔bq (En ts) x.1 x.2:=λx=>#[λh=>lR.mpr\a2 x h,λh=>bX x\lR.mp h];erw[r,zs,2,y1,AK sd,by rw[av];lia,λu hA=>?_];let b0:jx [] (rs.map nmV)=rs.map nmV:=AV rs [] a3;rw[b0];walk_at"H1 u hA H2 s2 y2";erw[⋯,λF H3 hF s3 y3=>?_];let b1:=s3>>y2;let a5:u≠F:=ak y2 hF;let b2:=(s1<*s2)<*s3;let b3:H F=gf:=(s1<*s2).free hF;let b4:H u=gf:=s1.free hA;erw[λm Z H'=>∃o3 M vs ls lf,Z=[gh\.r T,gh\.r u,gh\.r F,o3,M]/\m=↑lf/\Same H H'/\H' u*>.k (lf.map nmV)/\H' F*>.a vs/\Paired (NewL H H' F) vs ls/\f_ (bq\En ts) ls/\
   (∀x:Nat×Nat,x∈lf↔bq (En ts) x.1 x.2/\x.1∉ls.flatten)/\(lf.map (·.1)).Nodup/\↑lf<=600/\(∀m∈ls,∀c,m[0]?*>c->∀p∈lf.map (·.1),c<p),
  #[_,gf,gf,[],[],rs,5,b2,b1,y3,.nil,f_.nil,λx=>by rw[a4 x];simp,a3,bN,∅],?_]
 rintro m Z H' ⟨o3,M,ad,ls,lf,rfl,rfl,sm,a6,bb,pr,N,mem,nd,b5,low⟩;erw[2,λe H4 he I y4=>?_];erw[u,e,2,1,.l (I>>a6),.l y4,2,?_];let cp:↑ls<=600:=by
  let h1:=KI λm hm=>(N.cyc m hm).ne;let h2:=jj N.nd (m:=rs.map (·.1)) λz hz=>by
   let#[O,b6]:=N.in hz;show ax.mpr #[(z,O),(a4 _).mpr b6,1]
  rw[av] at h2;lia
 cases am:lf with
 |nil=>
  show aA #[2,F,ad,ls.map cI,1,SqL.of (I>>bb),Ae\Paired.imp' (by rintro _ _ ⟨a,e1,_,_,e4⟩;erw[a,e1,I>>e4]) pr,by rw[aE pr];lia,λp ix d pm pw=>?_];let b8:Rims (bq\En ts) ls:=N.done λp ⟨O,d⟩=>kL λz=>by
   have:(p,O)∈lf:=(mem (p,O)).mpr #[d,λh=>z\ni.mp h];rw[am] at this;cases this
  let er:ix=List.range ↑(ls.map cI):=Ks (by rw[av,<-aE pr];show pm) (by
   rw[gC];show wW (λ{l m} hl hm h=>?_) N.rise;let#[x,hx,_]:=(N.cyc l hl).toPath.begin;let#[y,L,_]:=(N.cyc m hm).toPath.begin;show FS hx L\h x y hx L) pw
  let ev:(ix.map λi=>ad.getD i .non)=ad:=by rw[er,av,<-aE pr];show EL ad
  rw[ev];walk_at"H4 p d H5 s5 y5";let bc:=I<*s5;show q p ad ls H5 ((sm<*I).free d) (sm<*bc) y5 (Paired.imp' (by rintro _ _ ⟨a,e1,_,_,e4⟩;erw[a,e1,bc>>e4]) pr) b8
 |cons x0 cr=>
  let bd:lf≠[]:=by rw[am];simp
  rw[<-am];clear am;rw[show (!(lf.map nmV).isEmpty)=gm by cases lf with
   |nil=>show absurd rfl bd
   |cons a b=>rfl]
  let an:=I>>a6;let be:=I>>bb;show aL #[λZ' B=>∃o3 M vs ls X,Z'=[gh\.r T,gh\.r u,gh\.r F,o3,M]/\↑X<↑lf/\Same H B/\B u*>.k (X.map nmV)/\B F*>.a vs/\Paired (NewL H B F) vs ls/\f_ (bq\En ts) ls/\
    (∀x:Nat×Nat,x∈X↔bq (En ts) x.1 x.2/\x.1∉ls.flatten)/\(X.map (·.1)).Nodup/\↑X<=600/\(∀m∈ls,∀c,m[0]?*>c->∀p∈X.map (·.1),c<p),
   λZ' B ⟨o3,M,vs,ls,X,e,bi,r⟩=>#[_,bi,o3,M,vs,ls,X,e,1,r],?_]
  erw[2,u,_,cI\lf.map (·.1),1,.l an,by rw[vJ,cI_V],by simpa [cI] using bd,λmi b9 ca=>#[lit1,λC H5 ag s5 y5=>?_]];let#[c,hc,1]:=ax.mp b9;let bl:∀p∈lf.map (·.1),c<=p:=λp d=>by
   have:=ca (p:Int)\ax.mpr #[p,d,1];lia
  let key:∀p,p∈lf.map (·.1)↔(∃q,bq (En ts) p q)/\p∉ls.flatten:=λp=>by
   constructor
   .intro h;let#[#[a,b],h1,1]:=ax.mp h;erw[#[b,((mem _).mp h1).1],((mem _).mp h1).2]
   rintro⟨⟨O,h⟩,n⟩;show ax.mpr #[(p,O),(mem _).mpr #[h,n],1]
  let cb:∀p q,p∈lf.map (·.1)->bq (En ts) p q->q∈lf.map (·.1):=λp O d S=>(key O).mpr #[bM>>S,λz=>by
   let#[m,hm,hz]:=ni.mp z;show ((key p).mp d).2\ni.mpr #[m,hm,(N.cyc m hm).before aM hz S]]
  let rF:C≠F:=λz=>by rw[z,be] at ag;cases ag
  let rA:C≠u:=λz=>by rw[z,an] at ag;cases ag
  let cc:H C=gf:=(sm<*I).free ag;erw[λm Z B=>∃ps:-Nat,Z=[gh\.r T,gh\.r u,gh\.r F,gh\.r C,M]/\m=↑lf+1-↑ps/\Same H4 B/\B C*>.a (nV ps)/\Path (bq\En ts) ps/\ps[0]?*>c/\(∀p∈ps,p∈lf.map (·.1)),
   #[_,[c],5,s5,y5,Path.one _ c,1,λp d=>by rw[aG.mp d];show hc],?_]
  rintro m Z H6 ⟨ps,rfl,rfl,s6,Y,path,R,pin⟩;let cd:=(aO.mp R).1;let cs:↑ps<=↑lf:=by have:=jj path.nd pin;rw[av] at this;show this
  let#[z,hz]:∃z,ps[↑ps-1]?*>z:=#[_,aR ()];let#[#[i,x,h1,h2,_],ap,aS,bm,ce]:=#[jB\pin z (a_ hz),(((mem (z,x)).mp\a_ h1).1:bq (En ts) z x),s6>>an,Bc hz,(aW (j:=0)\wa R:atI (nV ps) 0*>V.int (c:Int))];erw[3,2,C,4,SqL.of Y,bm,u,V.int (x:Int),1,.l #[_,Sum.inl (z:Int),.l aS,1,h2.symm],2,C,4,SqL.of Y,ce,7,?_];change if (!decide (V.int (x:Int)=V.int (c:Int)))=gm then _ else _
  rw[gk];by_cases bn:x=c
  .subst bn;rw[Si rfl];let cyc:Cyc (bq\En ts) ps:=#[path,λp O d hq=>by rw[hz] at d;rw[R] at hq;cases d;cases hq;show ap];let#[cf,dj]:=N.step aM cyc R (λm hm D=>((key x).mp hc).2\ni.mpr #[m,hm,D]) (λp d bi=>kL λD=>by
    have:=bl p\(key p).mpr #[d,λh=>D\ni.mp h];lia) (λm hm y L=>low m hm y L x hc)
   show aA #[2,C,1,#[_,SqL.of Y],fC (K:=[]) (a:=C) (xs:=nV ps) (λi Z B=>∃a0,Z=[gh\.r T,gh\.r u,gh\.r F,gh\.r C,a0]/\(∀b o,b≠u->H6 b*>o->B b*>o)/\B u*>.k\(lf.filter λy=>decide (y.1∉ps.take i)).map nmV)
    #[M,1,λb o _ e=>e,by rw[aS,w9.mpr ∅]] (by rintro i Z B _ ⟨_,_,e,_⟩;show SqL.of\e _ _ rA Y) ?_ ?_]
   .rintro j y Z H7 hj ⟨a0,rfl,k7,al⟩;rw[nV,br] at hj;let#[w',hw,1]:=cz.mp hj;let bt:ps.take (j+1)=ps.take j++[w']:=by rw[bC,hw];rfl
    let nz:w'∉ps.take j:=λh=>by
     let nd:=path.nd;rw[<-gD (j+1) ps,bt,cD,cD] at nd;show nd.1.2.2 w' h w' ∅ rfl
    let cg:w'∈(lf.filter λy=>decide (y.1∉ps.take j)).map (·.1):=by let#[y,L,1]:=ax.mp\pin w' (a_ hw);show ax.mpr #[y,eL.mpr #[L,Si nz],1]
    let#[_,v,_,hv,_]:=jB cg;erw[2,u,1,.l #[_,.l al],2,_,Sum.inl (w':Int),_,al,1,hv,λH8 k8 y8=>?_];rw[Bi] at y8;erw[2,λb o n e=>(k8 b n).trans\k7 b o n e,?_];rw[y8,C3,bt]
    congr 3
    show tZ λy _=>?_;rw[eX];simp;show And.comm
   rintro Z H7 ⟨a0,rfl,k7,al⟩;rw[bE,cm] at al;let bw:H7 F*>.a ad:=k7 _ _ a5.symm (s6>>be);erw[2,.l #[1,_,SqL.of bw],2,F,6,bw,by rw[aE pr];lia,λH8 k8 y8=>?_];let up:∀b o,b≠u->b≠F->H4 b*>o->H8 b*>o:=λb o n n' e=>by rw[k8 b n'];show k7 _ _ n (s6>>e)
   erw[8,ls++[ps],lf.filter λy=>decide (y.1∉ps),1,?_,λb o e=>up b o (ak e b4) (ak e b3) (I>>sm>>e),(k8 _ a5)<*al,y8,?_,cf,λy=>?_,nd.sublist\CU _ Pb,?_,λm hm c' a1 p d=>?_]
   .let#[y,L,ch]:=ax.mp hc;show zq lf _ L ?_;rw[ch];show Sj λD=>D\a_ R
   .refine bR (Paired.imp' (by rintro _ _ ⟨a,e1,e2,e3,e4⟩;erw[a,e1,e2,e3,up a _ (bL (I>>e4) an (by intro D;cases D)) e3 (I>>e4)]) pr)\.c #[C,1,cc,rF,?_] .nil;rw[k8 C rF];show k7 _ _ rA Y
   .rw[eL,mem y,decide_eq_true_eq,Pd,a9];constructor
    .rintro⟨⟨a,b⟩,c'⟩;erw[a,λD=>D.elim b λz2=>c' ‹z2›]
    rintro⟨a,b⟩;erw[#[a,λD=>b\.l D],λD=>b (.o ‹D›)]
   .exact cQ (dJ _ _) b5
   let#[#[y,L,1],#[ci,cj],bx]:=#[ax.mp d,eL.mp L,(ax.mpr #[y,ci,1]:y.1∈lf.map (·.1))];rcases a9.mp hm with hm|hm
   .exact low m hm c' a1 _ bx
   rw[aG.mp hm,R] at a1;cases a1;let h3:=bl _ bx;let h4:y.1≠x:=λD=>Sl cj (by rw[D];show a_ R);lia
  rw[Sj ()];show aL #[λZ' B=>∃ab:-Nat,Z'=[gh\.r T,gh\.r u,gh\.r F,gh\.r C,M]/\↑ab=↑ps+1/\Same H4 B/\B C*>.a (nV ab)/\Path (bq\En ts) ab/\ab[0]?*>c/\(∀p∈ab,p∈lf.map (·.1)),
   λZ' B ⟨ab,e,h1,h2,h3,h4,h5,h6⟩=>#[↑lf+1-↑ab,(),ab,e,1,h2,h3,h4,h5,h6],?_]
  let hx:x∉ps:=λh=>by
   have:=path.home aM hz ap h;rw[R] at this;cases this;show bn rfl
  erw[2,.l #[1,_,SqL.of Y],3,2,C,4,SqL.of Y,bm,u,V.int (x:Int),1,.l #[_,Sum.inl (z:Int),.l aS,1,h2.symm],C,6,Y,by rw[bE];lia,λH7 k7 y7=>?_];erw[ps++[x],1,∅,λb' o e=>(k7 b'\ak e ag)<*(s6>>e),by rw[y7,oH,fE],path.snoc hz ap hx,by rw[eA cd];show R,λp d=>?_]
  rcases a9.mp d with h|h
  .exact pin p h
  rw[aG.mp h];show cb z x (pin z\a_ hz) ap
end
end K71
namespace K15
open PySem L2 K51 K31
def Ja(vs:-V)(H:Hp)(Q:VK)(T:i4)(c:-V)(ts:-Tri):Prop:=vs=[.r T]/\H T*>.a c/\ay H c ts/\↑ts<=200/\(∀t∈ts,t.1≠t.2.1/\t.2.1≠t.2.2/\t.2.2≠t.1)/\
 ∀r vr us ws H',H r=gf->Same H H'->H' r*>.a vr->ay H' vr us->us.Perm ws->Paired Bg ts ws->us.Pairwise (λa b=>HT.lexLt [(b.1:Int),(b.2.1:Int),(b.2.2:Int)] [(a.1:Int),(a.2.1:Int),(a.2.2:Int)]=hB)->Q (.r r) H'
def BE:Sp:=fj Ja
section
def rh:aQ [↑0,"_law_found",↑8,"_law_at_here"] [↑0] (au sR):=.f
def J5{f:i4}(U:Fun K ↑91 ↑91 sR f fd)(mN:mg "min" = gf)(mS:mg ↑48 = gf):!az CX0 1 f fd [↑0] BE:=by
 show U.ok rh (!3) λ_ _ _ _ H _ _ _ hr h=>?_
 let#[C,vt,ts,1,hT,ht,hl,a0,Qq]:=h;let hu:=dC hr;erw[_,(af (sx 1 rh.nd\bp fh)
  (af (dD dA rfl (bT\pv 0) (gx 2 rh.nd) (af (sx 3 rh.nd\Cz PZ Dm Qe (zh hr.units) (pv 2) (pa1\bP (Ef rfl) (by rfl) mN uJ (pa1\pv 2)))
  (aj\dN (dX eO gG gH fB (pv 1)\pa1 (aD vH (iN vz (pv 2) (iP\pv 3) iQ)\iN vz (pv 2) iQ (iP\pv 3))))))
  (aj\aF (bP xU (by rfl) mS iJ\pa1 (pv 1))))),?_]
 let bb:=line5000;erw[aZ _,λg H1 a1 s1 y1=>?_];erw[2,C,1,#[_,SqL.of (s1>>hT)],fC (K:=[]) (a:=C) (xs:=vt) (λi Z H'=>∃M N l wf,Z=[gh\V.ref C,gh\.r g,M,N]/\Same H H'/\H' g*>.a l/\ay H' l wf/\Paired Bg (ts.take i) wf)
  #[gf,gf,[],[],1,s1,y1,.nil,.nil] (by rintro i Z H' _ ⟨_,_,_,_,_,e,_⟩;show SqL.of (e>>hT)) ?_ ?_]
 .rintro i x Z H2 hi ⟨M,N,l,wf,rfl,sm,r,v,D⟩;let#[#[#[a,b,c],hs,t,1,hb],hb,n]:=#[bY ht hi,(hb:H t*>.u [.i (a:Int),.i (b:Int),.i (c:Int)]),sm>>hb];let#[n1,n2,n3]:a≠b/\b≠c/\c≠a:=a0 _\a_ hs;let a2:↑l<=200:=by
   rw[aE v,<-aE D,bz];lia
  show ip (λZ H'=>∃j:Nat,Z=[gh\V.ref C,gh\.r g,gh\.r t,gh\.i (j:Int)]/\H'=H2/\(j=0/\a<=b/\a<=c\/j=1/\b<=c/\b<=a\/j=2/\c<=a/\c<=b)) (λNX hOut=>?_) ?_
  .refine#[2,#[t,2,.l n],2,t,[(a:Int),(b:Int),(c:Int)],1,SqT.of n,∅,λm hm ad=>?_];let dts:Dts [] H2 [V.int (a:Int),.i (b:Int),.i (c:Int)] [.i (a:Int),.i (b:Int),.i (c:Int)]:=.c (.i _)\.c (.i _) (.c (.i _) .nil);let O:∀x y:Int,PyData.eqv (.i x) (.i y)=decide (x=y):=λx y=>by
    rw[eX];simp[PyData.eqv]
   let dd:(PyData.int m).depth<=60:=by simp[PyData.depth]
   let#[ma,mb,mc]:=#[ad a ∅,ad b ∅,ad c ∅];by_cases ha:m=a
   .exact#[t,8,_,(0),5,SqT.of n,dts,.i _,dd,∅,by change PyData.eqv (.i (a:Int)) _=gm;rw[O];show Si ha.symm,λk hk=>(),hOut _ _ #[(0),5,.l #[1,(),()]]]
   let f0:PyData.eqv (.i (a:Int)) (.i m)=hB:=by rw[O];show Sj λz=>ha z.symm
   by_cases ag:m=b
   .refine#[t,8,_,(1),5,SqT.of n,dts,.i _,dd,∅,by change PyData.eqv (.i (b:Int)) _=gm;rw[O];show Si ag.symm,λk hk=>?_,hOut _ _ #[(1),5,.o\.l #[1,(),()]]];obtain rfl:k=0:=();show f0
   let f1:PyData.eqv (.i (b:Int)) (.i m)=hB:=by rw[O];show Sj λz=>ag z.symm
   let a3:m=c:=by
    simp only[aU,fM,or_false] at hm;rcases hm with h|h|h
    .exact (ha h).elim
    .exact (ag h).elim
    show h
   erw[t,8,_,(2),5,SqT.of n,dts,.i _,dd,∅,by change PyData.eqv (.i (c:Int)) _=gm;rw[O];show Si a3.symm,λk hk=>?_,hOut _ _ #[(2),5,.o\.o #[1,(),()]]];obtain rfl|rfl:k=0\/k=1:=()
   .exact f0
   show f1
  rintro Z ab ⟨j,rfl,rfl,hj⟩;let fin:∀(t':i4)(u:Tri)(q:Hp),Same ab q->q t'*>.u [.i (u.1:Int),.i (u.2.1:Int),.i (u.2.2:Int)]->Bg (a,b,c) u->∀I,(∀b,b≠g->I b=q b)->I g*>.a (l++[V.ref t'])->∃M N an ap,[gh\V.ref C,gh\.r g,gh\.r t,gh\.i (j:Int)]=[gh\V.ref C,gh\.r g,M,N]/\Same H I/\I g*>.a an/\ay I an ap/\Paired Bg (ts.take (i+1)) ap:=by
   intro t' u q d aM a4 I kn yn;let a5:=d>>r;let tn:∀{L:i4}{xs:-V},q L*>.u xs->L≠g:=λe=>bL e a5 ∅;erw[8,wf++[u],1,λL o e=>(kn L\ak e a1)<*(d>>sm>>e),yn,?_,?_]
   .exact bR (Paired.imp' (by rintro _ _ ⟨L,e1,e2⟩;erw[L,e1,(kn _\tn (d>>e2))<*(d>>e2)]) v)\.c #[t',1,(kn _\tn aM)<*aM] .nil
   rw[bC,hs];show bR D\.c a4 .nil
  rcases hj with ⟨rfl,h1,h2⟩|⟨rfl,h1,h2⟩|⟨rfl,h1,h2⟩
  .refine#[2,.l #[1,_,SqL.of r],3,2,t,2,SqT.of n,λ_=>?_,λz=>(z #[by simp[HT.sIx],by simp[HT.sIx]]).elim];erw[3,2,t,2,SqT.of n,λz=>absurd z.2 (by simp[HT.sIx]),λ_ B R=>?_];walk_at"ab B R q d S";erw[t,B,_,[],5,SqT.of (d>>n),SqT.of S,∅,lit3,λ_=>#[g,l,2,1,d>>r,(),fin t (a,b,c) q d (d>>n) #[.l rfl,h1,h2]],λz=>(z rfl).elim]
  .refine#[2,.l #[1,_,SqL.of r],3,2,t,2,SqT.of n,λz=>absurd z.1 (by simp[HT.sIx]),λ_ T al=>?_];walk_at"ab T al q d S";erw[3,2,t,2,SqT.of (d>>n),λz=>absurd z.2 (by simp[HT.sIx]),λ_ B R=>?_];walk_at"q B R H4 X y4";erw[T,B,[.i (b:Int),.i (c:Int)],[.i (a:Int)],5,SqT.of (X>>S),SqT.of y4,∅,lit3,λz=>(by cases z),λ_ pn am=>?_];walk_at"H4 pn am H5 s5 y5";let Y:=(d<*X)<*s5;erw[g,l,2,1,Y>>r,(),fin pn (b,c,a) H5 Y y5 #[.o\.l rfl,h1,h2]]
  erw[2,.l #[1,_,SqL.of r],3,2,t,2,SqT.of n,λz=>absurd z.1 (by simp[HT.sIx]),λ_ T al=>?_];walk_at"ab T al q d S";erw[3,2,t,2,SqT.of (d>>n),λz=>absurd z.2 (by simp[HT.sIx]),λ_ B R=>?_];walk_at"q B R H4 X y4";erw[T,B,[.i (c:Int)],[.i (a:Int),.i (b:Int)],5,SqT.of (X>>S),SqT.of y4,∅,lit3,λz=>(by cases z),λ_ pn am=>?_];walk_at"H4 pn am H5 s5 y5";let Y:=(d<*X)<*s5;erw[g,l,2,1,Y>>r,(),fin pn (c,a,b) H5 Y y5 #[.o\.o rfl,h1,h2]]
 rintro Z H2 ⟨M,N,l,wf,rfl,sm,r,v,D⟩;rw[aE ht,cm] at D;let a2:↑l<=200:=by rw[aE v,<-aE D];show hl
 erw[2,g,l,wf.map kyT,1,SqL.of r,uK v,(),λp ix hp pm ps=>?_];let aS:∀i∈ix,i<↑l:=λi hi=>iF.mp\pm.mem_iff.mp hi;let d:=bG (o:=.a (ix.map λi=>l.getD i .non)) hp;show Qq p _ _ wf _ (sm.free hp) (sm<*d) aH ((uL v ix aS).same d) (yv (by rw[<-aE v];show pm)) D ?_;rw[gC] at ps |-;show ps.imp_of_mem λ{i j} hi hj h=>?_;let gt:∀i,i∈ix->(wf.map kyT).getD i []=kyT (wf.getD i (0,0,0)):=λi hi=>by
  let a6:i<↑wf:=by rw[<-aE v];show aS i hi
  simp[List.getD,aR a6]
 rw[gt i hi,gt j hj] at h;show h
end
def Oz{g:TG}{x:V}{tb:TS}{rt:VK}{bk P:St->Hp->Prop}(h:∀N:St->Hp->Prop,(∀Z' H',P Z' H'->N Z' H')->g x Z H\tb #[N,rt,bk,N]):g x Z H λσ2 H2=>tb #[P,rt,bk,P] σ2 H2:=h P λ_ _ z=>z
def GI(vs:-V)(H:Hp)(Q:VK)(p:i4)(q:Int×Int)(m:Nat):Prop:=vs=[.r p,.i (m:Int)]/\H p*>.a (bO q)/\cq q/\m<=16/\
 ∀r vr ts a H',H r=gf->But p H H'->H' p*>.a (bO a)->cq a->H' r*>.a vr->ay H' vr ts->↑ts<=m->Good ts->Q (.r r) H'
def AD:Sp:=fj GI
def Cov(ts:-Tri)(n:Nat):Prop:=∀c,Co ts c↔c<n
def MU(h:Cs ts cs)(b:Cov ts n):↑cs=n:=by
 let nd:cs.Nodup:=h.1.imp λc=>bD c;have:cs.Perm (List.range n):=(Po nd Pn).mpr λa=>by
  rw[iF,h.2 a];show Iff.trans ?_\b a;rw[cK];unfold flat;rw[jd];constructor
  .rintro⟨t,h1,h2⟩;erw[t,h1,‹h2›]
  rintro⟨t,h1,h2⟩;erw[t,h1,‹h2›]
 rw[this.length_eq,jR]
def II{a b x:Nat}(d:Cov ts n)(ha:a<n)(e:b<n)(hx:x<n\/x=n):Cov (ts++[(b,a,x)]) (if x=n then n+1 else n):=λc=>by
 have:Co (ts++[(b,a,x)]) c↔Co ts c\/c=b\/c=a\/c=x:=by
  rw[cK,cK];constructor
  .rintro⟨t,h1,h2⟩;rcases a9.mp h1 with h|h
   .exact .l #[t,h,h2]
   rw[aG] at h;subst h;show .o h2
  rintro (⟨t,h1,h2⟩|h)
  .exact#[t,eK _ h1,h2]
  erw[(b,a,x),∅,h]
 rw[this,d c]
 split<;>lia
def KJ(a:Cov ts n):Cov (ts++[(n,n+1,n+2)]) (n+3):=λc=>by
 have:Co (ts++[(n,n+1,n+2)]) c↔Co ts c\/c=n\/c=n+1\/c=n+2:=by
  rw[cK,cK];constructor
  .rintro⟨t,h1,h2⟩;rcases a9.mp h1 with h|h
   .exact .l #[t,h,h2]
   rw[aG] at h;subst h;show .o h2
  rintro (⟨t,h1,h2⟩|h)
  .exact#[t,eK _ h1,h2]
  erw[(n,n+1,n+2),∅,h]
 rw[this,a c];lia
def sdD(s:Nat×Nat):PyData:=.tuple [.i (s.1:Int),.i (s.2:Int)]
def rg{ss:-(Nat×Nat)}(h:SdsAt H vs ss):Dts K H vs (ss.map sdD):=by
 induction h with
 |nil=>show .nil
 |cons q _ b=>
  let#[a,1,ha]:=q;show .c (.u (SqT.of ha)\.c (.i _) (.c (.i _) .nil)) b
def G0(ss:-(Nat×Nat)):(PyData.list\ss.map sdD).depth<=60:=by
 have:PyData.depthAll (ss.map sdD)<=1:=by
  induction ss with
  |nil=>show aZ _
  |cons u us a=>
   rw[bu];change max (sdD u).depth _<=1;have:(sdD u).depth=1:=by simp[sdD,PyData.depth,PyData.depthAll]
   lia
 change PyData.depthAll _+1<=60;lia
def KD(ds:-pC):PyData.eqv (.list ds) (.list [])=ds.isEmpty:=by cases ds<;>simp[PyData.eqv,PyData.eqvAll]
def free_of{ts:-Tri}(g:Good ts){x:Tri}(h:∀s∈cJ x,∀c,¬En ts s.1 s.2 c):jF ts x=gm:=by unfold jF;rw[i9];intro s d;show Si λz=>?_;let#[#[#[a,b],c],h1,1]:=ax.mp z;show h (a,b) d c h1
section
def gR:aQ [↑1,↑41,↑0,↑77,"_law_rim","_law_come",↑97,↑46,↑68,↑6,"_law_some","_law_near"] [↑1,↑41] (au qN):=.f
def HS{f f1 f2 f3 f4 f5:i4}{fd d1 d2 d3 d4 d5:kS}(U:Fun K ↑78 ↑78 qN f fd)(T:cv mg)
  (GD:!Use 2 ↑30 [↑1,↑52] jq f1 d1)
  (GT:!Use 2 ↑24 [↑0] jk f2 d2)
  (GF:!Use 2 ↑79 [↑6,↑8] vS f3 d3)
  (GR:!Use 2 ↑34 [↑0] wm f4 d4)
  (GC:!Use 2 ↑18 [↑0] iL f5 d5) :
  !az CX0 3 f fd [↑1,↑41] AD:=by
 show U.ok gR (!3) λ_ _ _ s H _ _ _ C h=>?_
 let#[p,q,m,1,hp,bw,hm,Qq]:=h;let hu:=dC C;erw[_,(af (sx 2 gR.nd\bp fh)
  (af (dD dA rfl (lB rfl T.range\pa1 (uc GD C\ae (pv 0) (pa1\aD cU (pv 1) ah))) (gx 3 gR.nd)
   (af (sx 4 gR.nd\uc GR C (pa1\pv 2))
  (af (sx 5 gR.nd\uc GC C (pa1\pv 2))
  (af (sx 6 gR.nd\pln T.len (pv 5))
  (af (bf (aT (BZ C.units) (pv 4) (bp fh)\nomark _) (af (dN\dX eO gG gH fB (pv 2) (pa1\ao (ae (pv 6)\ae (aD cU (pv 6) ah) (pa1\aD cU (pv 6) ah))))
  (aj Eo)) ba)
  (af (fD (ixx bQ (pv 4)\uc GD C (ae (pv 0)\pa1 (pln T.len\pv 4)))\du rfl (aY (gx 7 gR.nd)\aY (gx 8 gR.nd) dh))
  (af (sx 9 gR.nd\uc GT C (pa1\pv 2))
  (af (kj (i:=10) gR.nd rfl (.l rfl)\aD dP (dq (N:=["_law_x",↑46,↑68,↑6]) (fr:=[gf,gh 7,gh 8,gh 9])  cpK rfl (bT\pv 5)
    (λC' s' H' fp Sn=>#[(gx 0 (⋯:(["_law_x",↑46,↑68,↑6]:-Str).Nodup)),gW\PW.pt (fQ (aT (show OpR _ (nc .NotIn) (rIn [] gm) from ji) (pv 0) (ao\ae (pv 1) (pa1\pv 2)) rfl)\fZ (dW\uc GF C (ae (pv 3)\pa1 (ao\ae (pv 2) (ae (pv 1)\pa1 (pv 0)))))),(pv 0)])) (bp\pa1 (pv 6)))
  (af (kj (i:=11) gR.nd rfl (.l rfl)\aD dP (dq (N:=["_law_x",↑46,↑68,"_law_rim"]) (fr:=[gf,gh 7,gh 8,gh 4])  cpK rfl (bT\pv 10)
    (λC' s' H' fp Sn=>#[(gx 0 (⋯:(["_law_x",↑46,↑68,"_law_rim"]:-Str).Nodup)),gW\PW.pt (iz (aT (show OpR _ (nc .In) (mL [] hB) from BY C.units) (ao\ae (pv 2) (pa1\pv 0)) (pv 3) rfl)\iT (aT (show OpR _ (nc .In) (mL [] hB) from BY C.units) (ao\ae (pv 0) (pa1\pv 1)) (pv 3) rfl)),(pv 0)])) (pv 10))
  (aj\dN (dX eO gG gH fB (pv 2)\pa1 (ao\ae (pv 8) (ae (pv 7)\pa1 (ixx bQ (pv 11)\uc GD C (ae (pv 0)\pa1 (pln T.len\pv 11))))))))))))))))
  (aj\aF (pv 2)))),?_]
 let dm:=line5000;erw[aZ _,λl H1 a3 s1 y1=>?_];let#[d3,d4]:=dU (q:=q) (b:=(m:Int)+1) ();erw[3,6,p,q,2,s1>>hp,bw,(),lg20 (),λH2 k2 y2=>#[2,(),(),?_]];let a4:l≠p:=λz=>by rw[z,hp] at a3;cases a3
 let hN:(digO q ((m:Int)+1)).toNat<=m:=();generalize (digO q ((m:Int)+1)).toNat=N at hN;show nW (lo:=0) (n:=N) (λi Z H'=>∃o3 o4 o5 o6 o7 o8 o9 oa ob v g q' n,Z=[gh\V.ref p,gh\.i (m:Int),gh\.r l,o3,o4,o5,o6,o7,o8,o9,oa,ob]/\But p H H'/\H' p*>.a (bO q')/\cq q'/\H' l*>.a v/\ay H' v g/\↑g<=i/\Good g/\Cov g n)
  #[gf,gf,gf,gf,gf,gf,gf,gf,gf,[],[],_,(0),1,λd o nb e=>(k2 d nb)<*(s1>>e),y2,b7 bw,(k2 l a4)<*y1,.nil,ar _,#[∅,by simp[ents]],λc=>by simp[cK]] ?_ ?_
 .rintro i Z H4 hi ⟨o3,o4,o5,o6,o7,o8,o9,oa,ob,v,g,R,n,rfl,sm,ad,ap,ab,ag,ci,I,al⟩;show Oz λNX hN=>?_;let dn:↑g<=16:=();let dp:=aE ag;let fin:∀(t:i4)(u:Tri)(r:Hp)(q8:Int×Int)(n':Nat)(x3 x4 x5 x6 x7 x8 x9 xa xb:Option V),But p H r->r p*>.a (bO q8)->cq q8->r l*>.a v->ay r v g->r t*>.u [.i (u.1:Int),.i (u.2.1:Int),.i (u.2.2:Int)]->Good (g++[u])->Cov (g++[u]) n'->∀B:Hp,(∀d,d≠l->B d=r d)->B l*>.a (v++[V.ref t])->
    ∃o3 o4 o5 o6 o7 o8 o9 oa ob bx a5 q' n',[gh\V.ref p,gh\.i (m:Int),gh\.r l,x3,x4,x5,x6,x7,x8,x9,xa,xb]=[gh\V.ref p,gh\.i (m:Int),gh\.r l,o3,o4,o5,o6,o7,o8,o9,oa,ob]/\But p H B/\B p*>.a (bO q')/\cq q'/\B l*>.a bx/\ay B bx a5/\↑a5<=i+1/\Good a5/\Cov a5 n':=by
   intro t u r q8 n' x3 x4 x5 x6 x7 x8 x9 xa xb b8 p8 k8 f8 a6 ht g8 c8 B k9 y9;let tn:∀{d:i4}{xs:-V},r d*>.u xs->d≠l:=λe=>bL e f8 ∅;erw[8,8,8,_,g++[u],q8,n',1,λd o nb e=>(k9 d\ak e a3).trans\b8 d o nb e,(k9 p\aB a4)<*p8,k8,y9,?_,by rw[bo,cV];lia,g8,c8];show bR (Paired.imp' (by rintro _ _ ⟨d,S,X⟩;erw[d,S,(k9 _\tn X)<*X]) a6)\.c #[t,1,(k9 _\tn ht)<*ht] .nil
  let be:∀{a b c:Nat},En g a b c->a<n/\b<n:=λ{a b c} e=>#[(al a).mp #[b,c,e],(al b).mp #[c,a,I.sk.rot e]];erw[2,l,v,g,1,ab,ag,(),I.nd,λRm zs rs H5 cj s5 y5 sd cl dr _=>?_];erw[2,l,v,g,1,s5>>ab,ag.same s5,(),λL cs H6 bA s6 y6 bK lcs=>?_];let bM:=MU bK al;erw[2,L,2,.l\SqL.of y6,?_];rw[bE,bM];let co:=s5<*s6;erw[2,aZ _,λz H7 hz s7 y7=>?_];let am:=co<*s7;erw[.list\rs.map sdD,.list [],.a (SqL.of (s7>>s6>>y5))\rg (K31.SdsAt.same s7\K31.SdsAt.same s6 sd),.a (SqL.of y7) .nil,G0 rs,2,?_];rw[Sg bH,KD];cases rs with
  |nil=>
   show aL #[2,.l #[1,_,SqL.of (am>>ab)],3,6,2,6,lit3,λt r ht s8 y8=>?_];let aM:=am<*s8;erw[l,v,2,1,aM>>ab,(),λB k9 y9=>hN _ _ ?_];show fin t (n,n+1,n+2) r R (n+3) _ _ _ _ _ _ _ _ _ (sm.same aM) (aM>>ad) ap (aM>>ab) (ag.same aM) y8 (qm I #[by change n≠n+1;lia,by change n+1≠n+2;lia,by change n+2≠n;lia] (free_of I λs hs c e=>?_)) (KJ al) B k9 y9;have:=be e;simp only[cJ,aU,fM,or_false] at hs;rcases hs with rfl|rfl|rfl<;>simp only at this<;>lia
  |cons r0 rs=>
   show aA ?_;generalize cp:r0::rs=rl at *;let ds:0<↑rl:=by rw[<-cp];simp
   let dt:=aE sd;let#[S,X]:=dU (q:=R) (b:=(↑zs:Int)) ();let#[k,hk]:∃k:Nat,digO R (↑zs:Int)=(k:Int):=#[_,(fK S).symm];let cr:k<↑rl:=();let#[#[a,b],bN]:∃s,rl[k]?*>s:=#[_,aR cr];let#[zv,cx,tt,1,cy]:=vZ sd bN;let#[bS,cZ]:=cl (a,b)\a_ bN;erw[3,2,Rm,2,.l\SqL.of (s7>>s6>>y5),p,R,2,am>>ad,ap,(),lC () (),λr k8 y8=>?_];rw[hk];let c0:∀{d:i4}{o:HO},H4 d=gf->H7 d*>o->d≠p:=λh0 h1 z=>by rw[z,ad] at h0;cases h0
   let#[an,bX,b0,b3,bi,c1,c2,bl,a6,c3]:=#[(λd o nb e=>(k8 d nb)<*e:∀d o,d≠p->H7 d*>o->r d*>o),(s7>>s6>>y5:H7 Rm*>.a zs),an _ _ (c0 cj bX) bX,(s7>>s6>>cy:H7 tt*>.u [.i (a:Int),.i (b:Int)]),am>>ad,an _ _ (bL b3 bi ∅) b3,(Paired.imp' (by rintro _ _ ⟨d,S,X⟩;erw[d,S,by let M:=s7>>s6>>X;show an _ _ (bL M bi ∅) M]) sd:SdsAt r zs rl),an _ _ a4 (am>>ab),(Paired.imp' (by rintro _ _ ⟨d,S,X⟩;erw[d,S,by let M:=am>>X;show an _ _ (bL M bi ∅) M]) ag:ay r v g),(s7>>y6:H7 L*>.a (nV cs))];let c4:L≠p:=λzz=>by rw[zz,s5>>ad] at bA;cases bA
   let b4:=an _ _ c4 c3;let c5:But p H r:=λd o nb e=>an _ _ nb (am>>(sm d o nb e));let#[c6,da]:a<n/\b<n:=by let#[#[#[x,y],c],h1,h2]:=ax.mp bS;cases h2;show be h1
   let b5:a≠b:=by let#[#[#[x,y],c],h1,h2]:=ax.mp bS;cases h2;show I.sk.ne h1
   erw[Rm,zs,(k:Int),2,1,SqL.of b0,aW cx,tt,2,SqT.of c1,1,9,6,?_];erw[2,l,v,g,1,bl,a6,(),I.nd,λD B dx s9 y9=>?_];erw[2,L,1,#[_,SqL.of (s9>>b4)],λZ_ hZ=>dM (K:=[]) (a:=L) (xs:=nV cs) (λi Z ys H'=>∃o sl,Z=[o,gh\.i (a:Int),gh\.i (b:Int),gh\.r D]/\Same B H'/\H' Z_*>.a ys/\ys=nV sl/\(∀x∈sl,x<n/\x≠a/\x≠b/\jF g (b,a,x)=gm)/\↑sl<=i)
    #[gf,[],1,bG hZ,aH,1,∅,ar _] (by rintro i Z ys H' _ ⟨_,_,_,e,_⟩;show SqL.of (e>>s9>>b4)) ?_ ?_]
   .rintro j y Z ys H' hj ⟨o,sl,rfl,sj,b6,rfl,aS,b9⟩;rw[nV,br] at hj;let#[x,hx,1]:=cz.mp hj;let ca:=(aO.mp hx).1;let db:x<n:=by
     show (al x).mp ?_;have:=(bK.2 x).mp\a_ hx;rw[cK];unfold flat at this;rw[jd] at this;let#[t,h1,h2]:=this;erw[t,h1,‹h2›]
    erw[3,2,lit2,λt1 Ha g1 sA yA=>?_];erw[t1,2,.o\SqT.of yA,5,2,?_];change if (if gm=gm then !inV (V.int (x:Int)) (nV [a,b]) else _)=gm then _ else _
    rw[Sh rfl,g_];by_cases a0:x∈[a,b]
    .rw[Si a0];show aA\aA #[_,sl,1,sj<*sA,sA>>b6,1,aS,()]
    rw[Sj a0];show aL #[3,3,lit3,λt2 Hb g2 sB yB=>?_];erw[D,t2,g,(b,a,x),1,sB>>sA>>sj>>y9,yB,λHc sC=>?_];let cb:=(sj<*sA<*sB)<*sC;let cc:=sC>>sB>>sA>>b6;erw[2,?_];by_cases bm:jF g (b,a,x)=gm
    .rw[bm];show aL #[2,cc,by rw[bE];lia,λH3 k3 y3=>#[_,sl++[x],1,λd o e=>(k3 d\ak e hZ)<*(cb>>e),y3,by rw[oH,fE],λy hy=>?_,by rw[bo,cV];lia]]
     .rcases a9.mp hy with h|h
      .exact aS y h
      rw[aG.mp h];simp at a0;erw[db,a0.1,a0.2,bm]
    rw[OX.mpr bm];show aA #[_,sl,1,cb,cc,1,aS,()]
   rintro Z ys Ha ⟨o,sl,rfl,sA,dc,rfl,aS,b9⟩;rw[bE,bM] at b9;erw[2,lit1,λl1 Hb g1 sB yB=>?_];erw[Z_,l1,6,sB>>dc,yB,by rw[bE];simp only[cV];lia,λSo Hc g2 sC yC=>?_];rw[oH,fE] at yC;let bb:=(sA<*sB)<*sC;erw[2,So,1,#[_,SqL.of yC],λY hY=>dM (K:=[]) (a:=So) (xs:=nV (sl++[n])) (λi Z ys H'=>∃o nl,Z=[o,gh\.i (a:Int),gh\.i (b:Int),gh\.r Rm]/\Same Hc H'/\H' Y*>.a ys/\ys=nV nl/\(∀x∈nl,x∈sl++[n])/\↑nl<=i)
    #[gf,[],1,bG hY,aH,1,∅,ar _] (by rintro i Z ys H' _ ⟨_,_,_,e,_⟩;show SqL.of (e>>yC)) ?_ ?_]
   .rintro j y Z ys H' hj ⟨o,nl,rfl,sj,cd,rfl,bc,ce⟩;rw[nV,br] at hj;let#[x,hx,1]:=cz.mp hj;let ca:=(aO.mp hx).1;rw[bo,cV] at ca;let dd:=a_ hx;let cf:∀{Hx:Hp},Same H' Hx->Hx Rm*>.a zs/\SdsAt Hx zs rl:=λsx=>#[sx>>sj>>bb>>s9>>b0,K31.SdsAt.same (s9<*bb<*sj<*sx) c2];let take:∀Hx:Hp,Same H' Hx->Hx Y*>.a (nV nl)/\(nV nl).length<js/\∀H3:Hp,(∀d,d≠Y->H3 d=Hx d)->H3 Y*>.a (nV nl++[V.int (x:Int)])->∃o bn,[gh\V.int (x:Int),gh\.i (a:Int),gh\.i (b:Int),gh\.r Rm]=[o,gh\.i (a:Int),gh\.i (b:Int),gh\.r Rm]/\Same Hc H3/\H3 Y*>.a (nV nl++[V.int (x:Int)])/\nV nl++[V.int (x:Int)]=nV bn/\(∀y∈bn,y∈sl++[n])/\↑bn<=j+1:=λHx sx=>by
     erw[sx>>cd,by rw[bE];lia,λH3 k3 y3=>#[_,nl++[x],1,λd o e=>(k3 d\ak e hY)<*(sx>>sj>>e),y3,by rw[oH,fE],λy hy=>?_,by rw[bo,cV];lia]]
     rcases a9.mp hy with h|h
     .exact bc y h
     rw[aG.mp h];show dd
    erw[3,lit2,λt1 Hd g1 O yD=>?_];let#[r1,r2]:=cf O;erw[2,sdD (b,x),Rm,zs,_,.u (SqT.of yD)\.c (.i _) (.c (.i _) .nil),1,.l\SqL.of r1,rg r2,by change max 0 (max 0 0)+1<=60;decide,2,?_];rw[Sg bH];generalize (rl.map sdD).any _=b1;cases b1 with
    |true=>show aL\aL #[2,take Hd O]
    |false=>
     show aA #[3,lit2,λt2 He g2 sE yE=>?_];let#[r1,r2]:=cf\O.trans sE;erw[2,sdD (x,a),Rm,zs,_,.u (SqT.of yE)\.c (.i _) (.c (.i _) .nil),1,.l\SqL.of r1,rg r2,by change max 0 (max 0 0)+1<=60;decide,2,?_];rw[Sg bH];generalize (rl.map sdD).any _=b2;cases b2 with
     |true=>show aL #[2,take He\O.trans sE]
     |false=>show aA #[_,nl,1,sj.trans\O.trans sE,sE>>O>>cd,1,bc,()]
   rintro Z ys Hd ⟨o,nl,rfl,O,df,rfl,bc,ce⟩;rw[bE,bo,cV] at ce;erw[2,Y,So,6,df,O>>yC,by rw[bE,bE,bo,cV];lia,λNr He g3 sE yE=>?_];rw[fE] at yE;let a1:Same r He:=(s9<*bb<*O)<*sE;let cg:He p*>.a (bO\nxt R (↑zs:Int)):=a1>>y8;let#[M,e4]:=dU (q:=nxt R (↑zs:Int)) (b:=(↑(nV (nl++(sl++[n]))):Int)) (by rw[bE];simp only[bo,cV];lia);let#[a2,di]:∃k:Nat,digO (nxt R (↑zs:Int)) (↑(nV (nl++(sl++[n]))):Int)=(k:Int):=#[_,(fK M).symm];let dy:↑(nV (nl++(sl++[n])))=↑nl+(↑sl+1):=by rw[bE];simp
   let dj:a2<↑(nl++(sl++[n])):=by let l2:=bE (nl++(sl++[n]));lia
   let bt:(nl++(sl++[n]))[a2]?*>(nl++(sl++[n]))[a2]:=aR dj;generalize (nl++(sl++[n]))[a2]=x at bt;let dk:x∈sl++[n]:=by
    rcases a9.mp (a_ bt) with h|h
    .exact bc x h
    show h
   erw[2,.l #[1,_,SqL.of (a1>>bl)],3,3,2,Nr,2,.l\SqL.of yE,p,9,cg,b7 ap,(),lC () (),λHf kf yf=>?_];rw[di];let bd:∀d o,d≠p->He d*>o->Hf d*>o:=λd o nb e=>(kf d nb)<*e;let dl:Nr≠p:=λzz=>by rw[zz,O>>bb>>s9>>y8] at g3;cases g3
   erw[Nr,_,(a2:Int),2,1,SqL.of\bd _ _ dl yE,aW\wa bt,lit3,λt Hg ht sG yG=>?_];let ch:=sG>>(bd _ _ a4 (a1>>bl));erw[l,v,2,1,ch,(),λB k9 y9=>hN _ _ ?_];let good:Good (g++[(b,a,x)])/\(x<n\/x=n):=by
    rcases a9.mp dk with h|h
    .let#[h1,h2,h3,h4]:=aS x h;erw[qm I #[aB b5,aB h2,h3] h4,.l h1]
    rw[aG.mp h];erw[qm I #[aB b5,by change a≠n;lia,by change n≠b;lia] (free_of I λs hs c e=>?_),.o rfl];let hn:=be e;simp only[cJ,aU,fM,or_false] at hs;rcases hs with rfl|rfl|rfl
    .exact cZ\ax.mpr #[_,e,1]
    .simp only at hn;lia
    simp only at hn;lia
   show fin t (b,a,x) Hg _ _ _ _ _ _ _ _ _ _ _ (λd o nb e=>sG>>(bd _ _ nb (a1>>(c5 d o nb e)))) (sG>>yf) (b7\b7 ap) ch (Paired.imp' (by rintro _ _ ⟨d,S,X⟩;erw[d,S,by let M:=a1>>X;show sG _ _\bd _ _ (bL M cg ∅) M]) a6) yG good.1 (II al c6 da good.2) B k9 y9
 rintro Z H4 ⟨o3,o4,o5,o6,o7,o8,o9,oa,ob,v,g,R,n,rfl,sm,ad,ap,ab,ag,ci,I,al⟩;erw[2,Qq l v g R H4 a3 sm ad ap ab ag () I]
end
def NP{s:Nat×Nat}(h:H a*>sdT s.1 s.2):Dt [] H (.r a) (sdD s):=.u (SqT.of h)\.c (.i _) (.c (.i _) .nil)
def MZ(ss:-(Nat×Nat))(s:Nat×Nat):((ss.map sdD).any λz=>PyData.eqv z\sdD s)=decide (s∈ss):=by
 let f:∀s u:Nat×Nat,PyData.eqv (sdD s) (sdD u)=decide (s=u):=λ⟨a,b⟩ ⟨c,d⟩=>by
  rw[eX];simp[sdD,PyData.eqv,PyData.eqvAll];lia
 rw[eX,m_,decide_eq_true_iff];constructor
 .rintro⟨z,hz,e⟩;let#[u,g,1]:=ax.mp hz;rw[f] at e;rw[<-Sl e];show g
 intro h;erw[sdD s,ax.mpr #[s,h,1],by rw[f];show Si rfl]
def kG(a b:Nat)(t:Tri):Bool:=decide ((a,b)∈cJ t)
def oth(us:-Tri)(a b:Nat):-Tri:=us.filter λt=>!(kG a b t)
def Je(vs:-V)(H:Hp)(Q:VK)(T S:i4)(c:-V)(us:-Tri)(a b:Nat):Prop:=vs=[.r T,.r S]/\H T*>.a c/\ay H c us/\↑us<=200/\H S*>sdT a b/\
 ∀r vr H',H r=gf->Same H H'->H' r*>.a vr->ay H' vr (oth us a b)->Q (.r r) H'
def BH:Sp:=mJ Je
section
def Lx:aQ [↑0,↑32] [↑0,↑32] (au qt):=.f
def J8{f L:i4}{fd M:kS}(U:Fun K ↑60 ↑60 qt f fd)(G:!Use 1 ↑42 [↑8] lM L M):
  !az CX0 2 f fd [↑0,↑32] BH:=by
 show U.ok Lx (!6) λ_ _ _ s H _ _ _ x h=>?_
 let#[T,S,O,us,a,b,1,y,tr,hl,R,q]:=h;erw[_,aj\aF (dq (N:=[↑8,↑32]) (fr:=[gf,gh 1]) (tt:=gg\tOp (mL [] gm) (aN 1) (sO lM [] E0\bZ (aN 0) dH)) cpK rfl (bT\pv 0)
    (λC s H fp Sn=>#[gx 0 (⋯:([↑8,↑32]:-Str).Nodup),gW\aT (zd x.units) (pv 1) (uc G x\pa1 (pv 0)) rfl,pv 0])),?_]
 let hz:=line5000;let X:=aE tr;erw[2,T,1,#[_,SqL.of y],λZ_ l=>dM (K:=[]) (a:=T) (xs:=O) (λi Z zs H'=>∃o,Z=[o,gh\.r S]/\Same H H'/\H' Z_*>.a zs/\ay H' zs\oth (us.take i) a b) #[gf,1,bG l,aH,.nil]
   (by rintro i Z ys H' _ ⟨_,_,e,_⟩;show SqL.of (e>>y)) ?_ ?_]
 .rintro i v Z zs H' hi ⟨o,rfl,sm,Y,tz⟩;let#[d,hs,t,1,hb]:=bY tr hi;let m:=sm>>hb;let ew:oth (us.take (i+1)) a b=oth (us.take i) a b++oth [d] a b:=by rw[bC,hs];unfold oth;rw[gA];rfl
  let lz:↑zs<=200:=by let h2:↑(oth (us.take i) a b)<=↑(us.take i):=dJ _ _;rw[bz] at h2;rw[aE tz];lia
  erw[3,t,d,1,m,λr ss B ad c y5 sd=>?_];erw[sdD (a,b),r,ss,_,NP (s:=(a,b)) (c>>sm>>R),1,.l\SqL.of y5,rg sd,by simp[sdD,PyData.depth,PyData.depthAll],2,?_];rw[MZ,Sh rfl,ew];let n:=c>>Y;let D:ay B zs (oth (us.take i) a b):=Paired.imp' (by rintro _ _ ⟨g,p,j⟩;erw[g,p,c>>j]) tz;by_cases hm:(a,b)∈cJ d
  .rw[Si hm];show aA #[2,sm<*c,n,?_];rw[show oth [d] a b=[] from w8.mpr λz hz=>by rw[aG.mp hz,kG,Si hm];simp,eY];show D
  rw[Sj hm];show aL #[2,n,(),λHn u yn=>#[2,λb o e=>(u b\ak e l)<*(c>>sm>>e),yn,?_]];rw[show oth [d] a b=[d] from w9.mpr λz hz=>by rw[aG.mp hz,kG,Sj hm];rfl];let tn:∀{g:i4}{xs:-V},B g*>.u xs->g≠Z_:=λe=>bL e n ∅;show bR (Paired.imp' (by rintro _ _ ⟨g,p,j⟩;erw[g,p,(u _\tn j)<*j]) D)\.c #[t,1,(u _\tn (c>>m))<*(c>>m)] .nil
 rintro Z zs H3 ⟨o,rfl,s3,ab,I⟩;rw[X,cm] at I;show q Z_ zs H3 l s3 ab I
end
section
variable {ts us:-Tri}{a b c d:Nat}
def Kv(t:Tri):kG a b t=gm↔∃c,((a,b),c)∈ents [t]:=by
 rw[kG,decide_eq_true_iff];constructor
 .intro h;simp only[cJ,aU,fM,or_false] at h;rcases h with e|e|e<;>cases e
  .exact#[_,cG.mpr\.l (aG.mpr rfl)]
  .exact#[t.1,cG.mpr\.o (.l\aG.mpr rfl)]
  erw[t.2.1,cG.mpr\.o (.o\aG.mpr rfl)]
 rintro⟨c,h⟩;rcases cG.mp h with e|e|e<;>(rw[<-aG.mp e];simp[cJ])
def wd(g:Good ts)(h:Alike us ts)(e:En ts a b c){t:Tri}(d:t∈us):kG a b t=decide (t=bg (a,b,c)):=by
 rw[eX,Kv,decide_eq_true_iff];constructor
 .rintro⟨x,hx⟩;let ex:En us a b x:=(cG.mpr (by
   rcases cG.mp hx with m|m|m<;>rw[<-aG.mp m] at d
   .exact .l d
   .exact .o (.l d)
   show .o\.o d))
  let ex':=(h.en _ _ _).mp ex;obtain rfl:x=c:=g.sk.one ex' e;let f:=ne3 g e;rw[<-AQ h d];rcases cG.mp hx with m|m|m<;>rw[<-aG.mp m]
  .exact (sF (a:=x) (b:=a) (c:=b) #[f.2.2,f.1,f.2.1]).symm
  show sF f
 rintro rfl;erw[c,?_];rcases CL (a,b,c) with z|z|z<;>rw[z]
 .exact cG.mpr\.l (aG.mpr rfl)
 .exact cG.mpr\.o (.o\aG.mpr rfl)
 show cG.mpr\.o (.l\aG.mpr rfl)
def BX(g:Good ts)(h:Alike us ts)(e:En ts a b c):oth us a b=wo us [(a,b,c)]:=tZ λt d=>by
 rw[wd g h e d];simp
def JU(g:Good ts)(h:Alike us ts)(e:En ts a b c)(j:En ts b a d):oth (oth us a b) b a=wo us [(a,b,c),(b,a,d)]:=by
 unfold oth;rw[C3];show tZ λt f=>by
  rw[wd g h e f,wd g h j f,eX];simp;show And.comm
def HB(g:Good ts)(h:Alike us ts)(f:a≠b):oth (oth us a b) b a=us.filter (both a b):=by
 unfold oth;rw[C3];show tZ λt c=>?_;let d:Ne3 t:=by let e:En ts t.1 t.2.1 t.2.2:=(h.en _ _ _).mp\cG.mpr (.l c);show ne3 g e
 let#[p,q,r]:=t;let#[j,l,m]:p≠q/\q≠r/\r≠p:=d;unfold kG both;rw[eX];simp[cJ];lia
end
end K15
namespace L2
open PySem PySem.Spec PyProof.Rows
section
variable {a b:i4}{xs ys:-V}{g:TG}{tt:TT}{te:TE}{D:i4}{Z':St}{H1:Hp}{Q:Hp->Prop}
def IJ(Pv:Nat->St->-V->Hp->Prop)(f:Pv 0 Z' []\upd H1 D (.a []))(h:∀i Z zs H,Pv i Z zs H->SqL K H a xs/\SqL K H b ys)
  (j:∀i x y p Z zs H,xs[i]?*>x->ys[i]?*>y->Pv i Z zs H->H p=gf->g (.r p) Z (upd H p\.u [x,y])\mI tt te D zs (Pv (i+1)))
  (hd:∀Z zs H,Pv (min ↑xs ↑ys) Z zs H->Q H):ju (Itz K a b) g tt te D Z' H1 Q:=by
 erw[λi m Z zs H=>m=↑xs-i/\i<=↑xs/\i<=↑ys/\Pv i Z zs H,#[↑xs,∅,aZ _,aZ _,f],?_];rintro i m Z zs H ⟨rfl,hi,w,p⟩;let#[q,d]:=h i Z zs H p;by_cases c:i<↑xs/\i<↑ys
 .refine .o #[#[xs,ys,xs[i]'c.1,ys[i]'c.2,q,d,aR c.1,aR c.2],Pv (i+1),λZ' z H' l=>#[↑xs-(i+1),(),1,c.1,c.2,l],λx H' y=>?_];let#[n,v,o,r,5,s,u]:=y;show j i v o n Z zs H (s xs q) (u ys d) p r
 let e:min ↑xs ↑ys=i:=();show .l #[#[xs,ys,q,d,()],hd Z zs H (by rw[e];show p)]
end
end L2
namespace K15
open PySem L2 K51 K31 K71
def hV(us:-Tri)(m n y:Nat)(rs:-Tri):Kd->Prop
 |.close=>∃rim,Cy (bq\En us) rim/\m∈rim/\rs=us++clo y rim
 |k=>Beh us us m n y rs k
def Jg(vs:-V)(H:Hp)(Q:VK)(T d:i4)(a:-V)(us:-Tri)(k:Kd)(m n y:Nat):Prop:=vs=[.r T,.r d]/\H T*>.a a/\ay H a us/\↑us<=200/\Skn us/\Alike us us/\fX H d k m n y/\Okd us k m n/\
 ∀rs r vr H',H r=gf->Same H H'->H' r*>.a vr->ay H' vr rs->hV us m n y rs k->Q (.r r) H'
def BJ:Sp:=wJ Jg
section
def ki:aQ [↑0,↑27,↑46,↑68,↑6,"_law_c","_law_d","_law_left","_law_rim"] [↑0,↑27] (au qv):=.f
def vM{us:-Tri}(g:Good us)(e:En us a b c):a8 ((ents us).map bB) (ky a b)*>V.int (c:Int):=by
 rcases qA g a b with ⟨f,h,d⟩|⟨h,_⟩
 .rw[d,g.sk.one h e]
 show (h c e).elim
def BQ{us:-Tri}(c:Cyc (bq\En us) l){x:Nat}(hx:x∈l):x∈(ents us).map (·.1.1):=by let#[q,a]:=qS hx;let#[r,b]:=((wz c.toPath λz s h1 h2=>c.back z s h1 h2).st _ _ a).1;show ax.mpr #[_,b,1]
def JB{us:-Tri}(b:↑us<=200)(c:Cyc (bq\En us) l):↑l<=600:=by have:=jj c.nd λp a=>BQ c a;rw[av,eF] at this;lia
def Hi{us:-Tri}(b:↑us<=200){ls:List\-Nat}(r:Rims (bq\En us) ls):↑ls<=600:=by
 let hd:∀l∈ls,l[0]?*>l.headD 0:=λl hm=>by
  cases l with
  |nil=>show ((r.cyc _ hm).ne rfl).elim
  |cons a l=>rfl
 let nd:(ls.map (·.headD 0)).Nodup:=by rw[List.Nodup,gC];show r.rise.imp_of_mem λh1 h2 h=>bD\h _ _ (hd _ h1) (hd _ h2)
 have:=jj (m:=(ents us).map (·.1.1)) nd λx hx=>by
  let#[l,hm,1]:=ax.mp hx;show BQ (r.cyc _ hm)\a_ (hd _ hm)
 rw[av,av,eF] at this;lia
def wdT{D:Ends}{a b:Str}{t:TS}(h:H d*>.u (.s a::xs))(c:Z[1]?*>gh\.r d)(e:decide (V.str a=V.str b)=gm)(q:t D Z H):wG (gg\tOp rEq (tOp (iD []) (aN 1)\tC (.i 0)) (tC\.s b)) t u D Z H:=
 #[_,c,d,4,SqT.of h,aW (j:=0) rfl,7,by rw[e];show aL q]
def wdF{D:Ends}{a b:Str}{u:TS}(h:H d*>.u (.s a::xs))(c:Z[1]?*>gh\.r d)(e:decide (V.str a=V.str b)=hB)(q:u D Z H):wG (gg\tOp rEq (tOp (iD []) (aN 1)\tC (.i 0)) (tC\.s b)) t u D Z H:=
 #[_,c,d,4,SqT.of h,aW (j:=0) rfl,7,by rw[e];show aA q]
def J_{f f1 f2 f3:i4}{fd d1 d2 d3:kS}(U:Fun K ↑62 ↑62 qv f fd)(T:cv mg)(mZ:mg "zip" = gf)(GT:!Use 1 ↑24 [↑0] jk f1 d1)(GO:!Use 2 ↑60 [↑0,↑32] BH f2 d2)(GR:!Use 3 ↑94 [↑0] AB f3 d3):
  !az CX0 4 f fd [↑0,↑27] BJ:=by
 show U.ok ki (!8) λ_ _ _ s H _ Q _ a3 h=>?_
 let#[T0,d,vt,us,k,m,n,y,1,hT,tr,hl,sk,a4,dd,ok,q]:=h;let b2:=a3.mono (⋯:1<=3);let am:=a3.mono (⋯:2<=3);let hu:=dC a3;erw[_,(af (fD (ixx a7 (pv 1) ah)\du rfl (aY (gx 2 ki.nd)\aY (gx 3 ki.nd) dh))
  (af (sx 4 ki.nd\uc GT b2 (pa1\pv 0))
  (af (LV (i:=5) (j:=6) rfl ki.nd rfl rfl ⋯ rfl rfl (ae (ir hu (pv 4) (ao\ae (pv 2) (pa1\pv 3)) λ_ _=>rfl)\pa1 (uT hu (pv 4) (ao\ae (pv 3) (pa1\pv 2)) #[5,5])) rfl)
  (af (bf (aT cn (ixx a7 (pv 1) ah) aK\nomark _) (aj\aF (aD dP (uc GO am\ae (uc GO am\ae (pv 0) (pa1\ao (ae (pv 2)\pa1 (pv 3)))) (pa1\ao (ae (pv 3)\pa1 (pv 2))))\bp (ae (ao\ae (pv 2) (ae (pv 6)\pa1 (pv 5)))\pa1 (ao\ae (pv 6) (ae (pv 3)\pa1 (pv 5)))))) ba)
  (af (bf (aT cn (ixx a7 (pv 1) ah) aK\nomark _) (aj\aF (uc GO am\ae (pv 0) (pa1\ao (ae (pv 2)\pa1 (pv 3))))) ba)
  (af (bf (aT cn (ixx a7 (pv 1) ah) aK\nomark _) (af (sx 7 ki.nd\uc GO am (ae (uc GO am\ae (pv 0) (pa1\ao (ae (pv 2)\pa1 (pv 3))))\pa1 (ao\ae (pv 3) (pa1\pv 2))))
  (aj\aF (dq (N:=[↑8,↑46,↑68]) (fr:=[gf,gh 2,gh 3]) (te:=(tCB (λxs H Q=>∃p ys,xs=[.r p]/\((SqL [] H p ys/\∀l,H l=gf->Q (.r l)\upd H l (.u ys))\/(SqT [] H p ys/\Q (.r p) H)))\bZ (mz (oY []\aN 0) (dv 0) (λ_ H Q=>Q gm H) (tOp (tN []) (tH\bZ (aN 0) (bZ (aN 1) dH))\tCB (λxs H Q=>(∃i,xs=[.i i]/\Q (.i i) H)\/∃k,xs=[.bl k]/\Q (.i (if k then 1 else 0)) H) (bZ (tOp rEq (aN 0)\aN 2) dH)) [gf,gh 1,gh 2]) dH)) cpK rfl (bT\pv 7)
    (λC s H fp Sn=>#[(gx 0 (⋯:([↑8,↑46,↑68]:-Str).Nodup)),dZ,(de lh (by rfl) T.tuple jW\pa1 (dq (N:=[↑67,↑46,↑68]) (fr:=[gf,gh 1,gh 2]) (te:=(tOp (tN []) (tH\bZ (aN 0) (bZ (aN 1) dH))\tCB (λxs H Q=>(∃i,xs=[.i i]/\Q (.i i) H)\/∃k,xs=[.bl k]/\Q (.i (if k then 1 else 0)) H) (bZ (tOp rEq (aN 0)\aN 2) dH))) cpK rfl (l_\pv 0)
    (λC2 s2 H2 co cp=>#[(gx 0 (⋯:([↑67,↑46,↑68]:-Str).Nodup)),dZ,(ixx bQ (bp\ae (pv 0) (pa1\pv 1))\de gL (by rfl) T.int ie (pa1\ff cn (pv 0) (pv 2) (nomark _)))])))])))) ba)
  (af (bf (aT cn (ixx a7 (pv 1) ah) aK\nomark _) (aj\aF (aD dP (uc GO am\ae (pv 0) (pa1\ao (ae (pv 2)\pa1 (pv 3))))\bp (ae (ao\ae (pv 2) (ae (pv 3)\pa1 (ixx a7 (pv 1) ah)))\ae (ao\ae (pv 3) (ae (pv 5)\pa1 (ixx a7 (pv 1) ah))) (pa1\ao (ae (pv 5)\ae (pv 2) (pa1\ixx a7 (pv 1) ah)))))) ba)
  (af (bf (aT cn (ixx a7 (pv 1) ah) aK\nomark _) (aj\aF (aD dP (pv 0)\bp (pa1\ao (ae (pv 3)\ae (pv 2) (pa1\ixx a7 (pv 1) ah))))) ba)
  (af (sx 8 ki.nd\ixx bQ (dq (N:=["_law_rim",↑46]) (fr:=[gf,gh 2]) (tt:=gg\tOp (rIn [] hB) (aN 1) (aN 0)) cpK rfl (bT\uc GR a3 (pa1\pv 0))
    (λC s H fp Sn=>#[(gx 0 (⋯:(["_law_rim",↑46]:-Str).Nodup)),(gW\aT j2 (pv 1) (pv 0) rfl),(pv 0)])) ah)
  (aj\aF (aD dP (pv 0) (dq (N:=["_law_p","_law_q",↑27]) (fr:=[gf,gf,gh 1]) (g:=kH [] 2\fU (dv 0) (fU (dv 1) kI)) (te:=oQ\bZ (aN 1) (bZ (aN 0)\bZ (tOp (iD []) (aN 2)\tC (.i 2)) dH)) cpK rfl (LX rfl mZ\ae (pv 8) (pa1\aD dP (iN lN (pv 8) (iP ah) iQ) (iN lN (pv 8) iQ\iP ah)))
    (λC s H fp Sn=>#[(du rfl\aY (gx 0 (⋯:(["_law_p","_law_q",↑27]:-Str).Nodup)) (aY (gx 1 (⋯:(["_law_p","_law_q",↑27]:-Str).Nodup)) dh)),dZ,(ao\ae (pv 1) (ae (pv 0)\pa1 (ixx a7 (pv 2) ah)))]))))))))))))),?_]
 let#[cr,g,#[sd,h1,h2],#[c,hc]]:=#[line5000,sk.g,id dd,ok.a];erw[2,d,4,SqT.of h2,aW (j:=1) rfl,sd,2,SqT.of h1,1,9,6,?_];erw[2,T0,vt,us,1,hT,tr,(),g.nd,λD H1 cx s1 hD=>?_];erw[3,2,lit2,λt1 H2 g1 s2 y2=>#[D,2,vM g hc ▸ DGet.t (k:=ky m n) (s2>>hD) y2,?_]];erw[2,D,1,.o #[_,.l (s2>>hD)],3,lit2,λt2 H3 g2 s3 y3=>?_];let ag:=(s1<*s2)<*s3;let#[o,ho,b3]:∃o,a8 ((ents us).map bB) (ky n m)=o/\∀e,En us n m e->o*>.i (e:Int):=#[2,λe he=>vM g he];erw[o,ho ▸ DGet.t (k:=ky n m) (s3>>s2>>hD) y3,9,?_];let u:=ag>>h2;let lo:∀a b,↑(oth us a b)<=200:=λa b=>cQ (dJ _ _) hl;cases k with
 |turn=>
  let#[e,he]:=ok.b rfl;obtain rfl:=b3 e he;show wdT u rfl rfl ?_;erw[3,2,lit2,λt4 H4 g4 s4 R=>?_];let I:=ag<*s4;erw[T0,t4,vt,us,m,n,1,I>>hT,tr.same I,hl,R,λr1 v1 H5 al O y5 ab=>?_];erw[3,lit2,λt6 H6 g6 B y6=>?_];erw[r1,t6,v1,_,n,m,1,B>>y5,ab.same B,lo m n,y6,λr2 v2 H7 b4 S y7 bd=>?_];rw[JU g a4 hc he] at bd;erw[3,2,lit3,λt8 H8 g8 s8 y8=>?_];erw[3,2,lit3,λt9 H9 g9 M y9=>?_];let y8:H8 t8*>tri3 (m,e,c):=y8;let y9:H9 t9*>tri3 (e,n,c):=y9;erw[lit2,λl Ha ga sa ya=>?_];let#[a5,ap,l2,l3]:=#[(s8<*M)<*sa,(I<*O<*B)<*S,aE bd,(dJ _ _:↑(wo us [(m,n,c),(n,m,e)])<=↑us)];erw[r2,l,6,a5>>y7,ya,by simp;lia,λp Hb gb sb yb=>?_];show q _ p _ Hb (dY (ap<*a5) gb) (ap<*a5<*sb) yb (bR (bd.same\a5.trans sb)\.c #[t8,1,sb>>sa>>M>>y8] (.c #[t9,1,sb>>sa>>y9] .nil)) #[c,e,hc,he,1]
 |out=>
  show wdF u rfl rfl\wdT u rfl rfl ?_;erw[3,2,lit2,λt4 H4 g4 s4 R=>?_];let I:=ag<*s4;erw[T0,t4,vt,us,m,n,1,I>>hT,tr.same I,hl,R,λr1 v1 H5 al O y5 ab=>?_];rw[BX g a4 hc] at ab;show q _ r1 v1 H5 (dY I al) (I<*O) y5 ab #[c,hc,1]
 |draw=>
  show wdF u rfl rfl\wdF u rfl rfl (wdT u rfl rfl ?_);erw[3,2,lit2,λt4 H4 g4 s4 R=>?_];let I:=ag<*s4;erw[T0,t4,vt,us,m,n,1,I>>hT,tr.same I,hl,R,λr1 v1 H5 al O y5 ab=>?_];erw[3,lit2,λt6 H6 g6 B y6=>?_];erw[r1,t6,v1,_,n,m,1,B>>y5,ab.same B,lo m n,y6,λr2 v2 H2 b4 S bx be=>?_];let b5:m≠n:=(ne3 g hc).1;rw[HB g a4 b5] at be;let#[ap,b6,lf]:=#[(I<*O<*B)<*S,aE be,dJ (both m n) us];let fv:∀z:Nat,atI [V.int (z:Int),V.int (m:Int)] (if decide ((z:Int)=(n:Int))=gm then 1 else 0)*>V.int (onto m n z:Int):=λz=>by
   unfold onto;by_cases h:z=n
   .rw[Sh\Si (),Sh h];show aW (j:=1) rfl
   rw[Sg (by simp;lia),Sg h];show aW (j:=0) rfl
  erw[2,r2,1,#[_,SqL.of bx],λY hY=>dM (K:=[]) (a:=r2) (xs:=v2) (λi Z zs H'=>∃o,Z=[o,gh\.i (m:Int),gh\.i (n:Int)]/\ay H' zs (((us.filter\both m n).take i).map\rep m n)/\Same H2 H'/\H' Y*>.a zs) #[gf,1,.nil,bG hY,aH] (by rintro i Z zs H' _ ⟨_,_,_,e,_⟩;show SqL.of (e>>bx)) ?_ ?_]
  .rintro i v Z zs H' hi ⟨o,rfl,aM,a6,aS⟩;let#[#[#[p,q',r],hs,t,1,hb],hb,bA]:=#[bY be hi,(hb:H2 t*>.u (nV [p,q',r])),a6>>hb];let cZ:↑zs<=200:=by rw[aE aM,av,bz];lia
   erw[2,t,1,#[_,SqT.of bA],λW hW=>n_ (K:=[]) (a:=t) (xs:=nV [p,q',r]) (λk Z a0 an=>∃o,Z=[o,gh\.i (m:Int),gh\.i (n:Int)]/\a0=nV (([p,q',r].take k).map\onto m n)/\Same H' an/\an W*>.a a0) #[gf,5,bG hW,aH] (by rintro k Z a0 an _ ⟨_,_,_,e,_⟩;show SqT.of (e>>bA)) ?_ ?_]
   .rintro k x' Z a0 an hk ⟨o,rfl,rfl,sY,bi⟩;rw[nV,br] at hk;let#[z,bK,1]:=cz.mp hk;let c0:k<3:=(aO.mp bK).1;erw[3,lit2,λl2 c1 c2 bM b8=>?_];erw[3,1,.o #[2,l2,0,V.int (onto m n z:Int),5,SqL.of b8,?_,bM>>bi,?_,λHn kn yn=>#[2,?_,λX o e=>(kn X\ak e hW)<*(bM>>sY>>e),yn]]]
    .rw[gk];show fv z
    .rw[bE,av,bz];have:↑([p,q',r]:-Nat)=3:=rfl;lia
    rw[bC,bK,aV,<-fE];rfl
   rintro Z a0 an ⟨o,rfl,rfl,sY,bi⟩;erw[W,2,.l #[SqL.of bi,λt' b9=>?_]];walk_at"an t' b9 H9 M y9";let bb:=M>>sY>>aS;let tn:∀{X:i4}{xs:-V},H9 X*>.u xs->X≠Y:=λe=>bL e bb ∅;erw[bb,(),λc3 bm ca=>#[2,?_,λX o e=>(bm _\ak e hY)<*(M>>sY>>a6>>e),ca]];rw[bC,hs,aV];show bR (Paired.imp' (by rintro _ _ ⟨X,e1,e2⟩;erw[X,e1,by let e3:=M>>sY>>e2;show (bm _\tn e3)<*e3]) aM)\.c #[t',1,(bm _\tn y9)<*y9] .nil
  rintro Z zs H' ⟨o,rfl,aM,a6,aS⟩;rw[b6,cm] at aM;show q _ Y zs H' (dY ap hY) (ap<*a6) aS aM rfl
 |inn=>
  show wdF u rfl rfl\wdF u rfl rfl (wdF u rfl rfl\wdT u rfl rfl ?_);erw[3,2,lit2,λt4 H4 g4 s4 R=>?_];let I:=ag<*s4;erw[T0,t4,vt,us,m,n,1,I>>hT,tr.same I,hl,R,λr1 v1 H5 al O y5 ab=>?_];rw[BX g a4 hc] at ab;let ad:=I<*O;let d5:=SqT.of (K:=[]) (ad>>h2);erw[3,2,d,4,d5,1,lit3,λt6 H6 g6 B y6=>?_];let d6:=SqT.of (K:=[]) (B>>ad>>h2);erw[3,2,d,4,d6,1,lit3,λt7 H7 g7 S y7=>?_];let d7:=SqT.of (K:=[]) (S>>B>>ad>>h2);erw[3,2,d,4,d7,1,lit3,λt8 H8 g8 s8 y8=>?_];erw[lit3,λl Ha ga sa ya=>?_];let#[bc,l2,l3]:=#[(B<*S<*s8)<*sa,aE ab,(dJ _ _:↑(wo us [(m,n,c)])<=↑us)];erw[r1,l,6,bc>>y5,ya,by simp;lia,λp Hb gb sb yb=>?_];show q _ p _ Hb (dY (ad<*bc) gb) (ad<*bc<*sb) yb (bR (ab.same\bc.trans sb)\.c #[t6,1,sb>>sa>>s8>>S>>y6] (.c #[t7,1,sb>>sa>>s8>>y7]\.c #[t8,1,sb>>sa>>y8] .nil)) #[c,hc,1]
 |on=>
  show wdF u rfl rfl\wdF u rfl rfl (wdF u rfl rfl\wdF u rfl rfl (wdT u rfl rfl ?_));erw[3,3,d,4,SqT.of u,1,lit3,λt4 H4 g4 s4 R=>?_];erw[lit1,λl H5 g5 O y5=>?_];let#[cb,ad,l2]:=#[s4<*O,ag<*cb,aE tr];erw[T0,l,6,ad>>hT,y5,by simp;lia,λp H6 g6 B y6=>?_];show q _ p _ H6 (dY ad g6) (ad<*B) y6 (bR (tr.same\ad.trans B)\.c #[t4,1,B>>O>>R] .nil) rfl
 |close=>
  show wdF u rfl rfl\wdF u rfl rfl (wdF u rfl rfl\wdF u rfl rfl (wdF u rfl rfl ?_));erw[2,T0,vt,us,1,ag>>hT,tr.same ag,hl,g,sk.o,λL ws ls H4 c4 s4 R bN rm=>?_];let lw:=aE bN;let l6:=Hi hl rm;erw[L,1,#[_,SqL.of R],λZ_ hZ=>dM (K:=[]) (a:=L) (xs:=ws) (λi Z zs H'=>∃o,Z=[o,gh\.i (m:Int)]/\Same H4 H'/\H' Z_*>.a zs/\iY H4 zs ((ls.take i).filter λl=>decide (m∈l))) #[gf,1,bG hZ,aH,.nil] (by rintro i Z zs H' _ ⟨_,_,e,_⟩;show SqL.of (e>>R)) ?_ ?_]
  .rintro i v Z zs H' hi ⟨o,rfl,sm,bS,tz⟩;let#[l,hs,r,1,hr]:=bY bN hi;let ew:(ls.take (i+1)).filter (λl=>decide (m∈l))=(ls.take i).filter (λl=>decide (m∈l))++[l].filter λl=>decide (m∈l):=by rw[bC,hs,gA];rfl
   let lz:=aE tz;let cc:=dJ (λl=>decide (m∈l))\ls.take i;rw[bz] at cc;erw[3,r,2,.l\SqL.of (sm>>hr),1,iS _,2,?_];change if (if hB=gm then _ else inV (V.int (m:Int)) (nV l))=gm then _ else _
   rw[Sg bH,g_];by_cases hm:m∈l
   .rw[Si hm];show aL #[2,bS,(),λHn kn yn=>#[2,λb o e=>(kn b\ak e hZ)<*(sm>>e),yn,?_]];rw[ew,show [l].filter (λl=>decide (m∈l))=[l] from w9.mpr λz hz=>by rw[aG.mp hz];show Si hm];show bR tz\.c #[r,1,hr] .nil
   rw[Sj hm];show aA #[2,sm,bS,?_];rw[ew,show [l].filter (λl=>decide (m∈l))=[] from w8.mpr λz hz=>by rw[aG.mp hz,Sj hm];simp,eY];show tz
  rintro Z zs H5 ⟨o,rfl,O,cd,tz⟩;rw[lw,cm] at tz;let#[l,fl,bX]:∃l fl,ls.filter (λl=>decide (m∈l))=l::fl:=by
   let#[l0,ce,cf]:=rm.all m #[n,#[c,hc],λ⟨e,he⟩=>ok.c rfl e he];cases hf:ls.filter (λl=>decide (m∈l)) with
   |nil=>show absurd (w8.mp hf l0 ce) (by simp[cf])
   |cons l fl=>erw[l,fl,1]
  rw[bX] at tz;let#[b0,cg,cyc,cy,c5,ch]:=#[eL.mp (show l∈ls.filter (λl=>decide (m∈l)) by rw[bX];show jc),(Sl b0.2:m∈l),rm.cyc l b0.1,(wz cyc.toPath λz s h1 h2=>cyc.back z s h1 h2:Cy (bq\En us) l),JB hl cyc,cyc.ne];cases tz with
  |cons hh _=>
  let#[r,1,hr]:=hh;erw[Z_,_,(0),V.ref r,5,SqL.of cd,aW (j:=0) rfl,?_];let ci:=s4<*O;let al:=O>>hr;erw[3,2,(1),1,r,2,SqL.of al,λp H6 hp B y6=>?_];erw[2,(1),1,r,2,SqL.of (B>>al),λp2 H7 c6 S y7=>?_];rw[show fk (nV l) (gh 1) gf=(nV l).drop 1 from u_ (nV l) 1] at y6;rw[show fk (nV l) gf (gh 1)=(nV l).take 1 from Cb (nV l) 1] at y7;let ll:=bE l;erw[p,p2,6,S>>y6,y7,by rw[eJ,bz];lia,λp3 H8 c8 s8 y8=>?_];let bn:=(ag<*ci<*B).trans\S.trans s8;rw[show (nV l).drop 1++(nV l).take 1=nV (l.drop 1++l.take 1) by unfold nV;rw[<-C8,<-pk,<-aV]] at y8;let cj:=bE (l.drop 1++l.take 1);let h0:=ia.mpr ch;rw[bo,eJ,bz] at cj;erw[r,p3,nV l,2,SqL.of\(B.trans\S.trans s8) _ _ al,SqL.of y8,λY hY=>IJ (K:=[]) (λi Z zs H'=>∃o1 o2,Z=[o1,o2,gh\.r d]/\Same H8 H'/\H' Y*>.a zs/\ay H' zs (((prs l).take i).map λs=>(s.2,s.1,y))) #[gf,gf,1,bG hY,aH,.nil]
   (by rintro i Z zs H' ⟨_,_,_,e,_⟩;erw[SqL.of (e>>((B.trans\S.trans s8) _ _ al)),SqL.of (e>>y8)]) ?_ ?_]
  .rintro i x x' p0 Z zs H' hx bt ⟨o1,o2,rfl,sm,aS,tz⟩ cl;unfold nV at hx bt;rw[br] at hx bt;let#[a1,e1,1]:=cz.mp hx;let#[a2,e2,1]:=cz.mp bt;let hs:(prs l)[i]?*>(a1,a2):=by unfold prs;show nh.mpr #[e1,e2]
   let ly:↑zs<=600:=by rw[aE tz,av,bz,iO];lia
   walk_at"H' p0 cl H9 M y9";erw[p0,2,SqT.of y9,1,9,6,?_];erw[3,2,d,4,SqT.of (M>>sm>>bn>>h2),1,lit3,λt Ha ga sa ya=>?_];let b1:=sa>>M>>aS;erw[b1,(),λHn kn yn=>#[9,λb o e=>(kn b\ak e hY)<*(sa>>M>>sm>>e),yn,?_]];let tn:∀{X:i4}{xs:-V},Ha X*>.u xs->X≠Y:=λe=>bL e b1 ∅;rw[bC,hs,aV];show bR (Paired.imp' (by rintro _ _ ⟨X,e1,e2⟩;erw[X,e1,by let e3:=sa>>M>>e2;show (kn _\tn e3)<*e3]) tz)\.c #[t,1,(kn _\tn ya)<*ya] .nil
  rintro Z zs H9 ⟨o1,o2,rfl,M,bb,tz⟩;rw[show min ↑(nV l) ↑(nV (l.drop 1++l.take 1))=↑(prs l) by rw[iO];lia,cm] at tz;let lz:=aE tz;rw[av,iO] at lz;let l2:=aE tr;erw[T0,Y,6,M>>bn>>hT,bb,(),λpz Hb gb sb yb=>?_];let bw:=bn<*M;show q _ pz _ Hb (dY bw gb) (bw<*sb) yb (bR (tr.same\bw.trans sb)\tz.same sb) #[l,cy,cg,1]
end
def jK(s:Nat×Nat):-Key×V:=(ky s.1 s.2,V.bl gm)
def va{l:-(Nat×Nat)}:a8 (l.map jK) (ky p q)=gf↔(p,q)∉l:=by
 induction l with
 |nil=>simp[a8]
 |cons e l a=>
  rw[bu,aU];by_cases h:(jK e).1=ky p q
  .rw[iM h];have:e=(p,q):=mn.mp h;simp[this]
  rw[gP h,a];have:(p,q)≠e:=λz=>h\mn.mpr (by rw[z]);simp[this]
def JP{l:-(Nat×Nat)}{a b:Nat}(h:(a,b)∉l):cA (l.map jK) (ky a b) (V.bl gm)=(l++[(a,b)]).map jK:=by rw[n9 _\va.mpr h,aV];rfl
def dg(t:Tri):Bool:=decide (t.1=t.2.1)||(decide (t.2.1=t.2.2)||decide (t.2.2=t.1))
def CJ:dg t=hB↔Ne3 t:=by unfold dg;simp
def tE{ts:-Tri}{c:Nat}:c∈flat ts↔Co ts c:=by rw[cK,flat,jd];show exists_congr λt=>and_congr_right λ_=>∅
def Jh(vs:-V)(H:Hp)(Q:VK)(T:i4)(a:-V)(ts:-Tri):Prop:=vs=[.r T]/\H T*>.a a/\ay H a ts/\↑ts<=200/\(∀H',Same H H'->Skn ts->Q .non H')/\∀k H',Same H H'->fJ ts k->Q (.s k) H'
def BK:Sp:=fj Jh
section
def rB:aQ [↑0,"_law_come",↑8,↑32] [↑0] (au sV):=.f
def Ka{f1 f2 f3:i4}{fd d1 d2 d3:kS}(U:Fun K "_law_bad" "_law_bad" sV f fd)(T:cv mg)(mA:mg "any" = gf)(GS:!Use 1 ↑42 [↑8] lM f1 d1)(GC:!Use 2 ↑18 [↑0] iL f2 d2)(GF:!Use 2 ↑80 [↑0,↑9] rf f3 d3):
  !az CX0 3 f fd [↑0] BK:=by
 show U.ok rB (!3) λ_ _ _ s H _ _ _ al h=>?_
 let#[l,vt,ts,1,O,tr,hl,q0,q1]:=h;let bn:=al.mono (⋯:1<=2);let hu:=dC al;erw[_,(af (bf (dW\bP (xY rfl) (by rfl) mA PL (pa1 (dq (N:=[↑67]) (fr:=[gf]) (te:=wF (tOp rEq (tOp (iD []) (aN 0)\tC (.i 0))\tOp (iD []) (aN 0) (tC\.i 1))\wF (tOp rEq (tOp (iD []) (aN 0)\tC (.i 1))\tOp (iD []) (aN 0) (tC\.i 2)) (tOp rEq (tOp (iD []) (aN 0)\tC (.i 2))\tOp (iD []) (aN 0) (tC\.i 0))) (qh ⋯ rfl ⋯ ⋯) rfl (bT\pv 0)
    (λC s H fp Sn=>#[(gx 0 (⋯:([↑67]:-Str).Nodup)),dZ,(CA (ff cn (ixx a7 (pv 0) ah) (ixx a7 (pv 0) ah)\nomark _)\CA (ff cn (ixx a7 (pv 0) ah) (ixx a7 (pv 0) ah)\nomark _) (mh\ff cn (ixx a7 (pv 0) ah) (ixx a7 (pv 0) ah) (nomark _)))])))) (aj\aF aK) ba)
  (af (sx 1 rB.nd uS)
  (af (dD dA rfl (bT\pv 0) (gx 2 rB.nd)\aj (dD dA rfl (bT\uc GS bn (pa1\pv 2)) (gx 3 rB.nd) (af (bf (gY\mm hu (pv 3) (pv 1)) (aj\aF aK) ba)
  (aj\jt hu (pv 1) (pv 3) gi rfl))))
  (af (bf (dW\bP (xY rfl) (by rfl) mA PL (pa1 (dq (N:=[↑9,↑0]) (fr:=[gf,gh 0]) (te:=tOp (rI0 λi j=>.bl (decide (j<i))) (tCB (wt [])\bZ (sO rf [] E0\bZ (aN 1) (bZ (aN 0) dH)) dH)\tC (.i 1)) cpK rfl (bT\uc GC al (pa1\pv 0))
    (λC s H fp Sn=>#[(gx 0 (⋯:([↑9,↑0]:-Str).Nodup)),dZ,(ff oM (pln T.len\uc GF al (ae (pv 1)\pa1 (pv 0))) ah\nomark _)])))) (aj\aF aK) ba)
  (aj\aF rV))))),?_]
 let b3:=line5000;let hlen:=aE tr;erw[2,l,1,#[_,SqL.of O],λZ_ hZ=>dM (K:=[]) (a:=l) (xs:=vt) (λi Z ys H'=>∃o,Z=[o]/\ys=((ts.take i).map dg).map V.bl/\Same H H'/\H' Z_*>.a ys) #[gf,5,bG hZ,aH] (by rintro i Z ys H' _ ⟨_,_,_,e,_⟩;show SqL.of (e>>O)) ?_ ?_]
 .rintro i v Z ys H' hi ⟨o,rfl,rfl,sm,ap⟩;let#[#[#[a,b,c],R,t,1,y],y,S]:=#[bY tr hi,(y:H t*>.u (nV [a,b,c])),SqT.of (K:=[]) (sm>>y)];let fin:H' Z_*>.a (((ts.take i).map dg).map V.bl)/\(((ts.take i).map dg).map V.bl).length<js/\∀X,(∀c,c≠Z_->X c=H' c)->X Z_*>.a (((ts.take i).map dg).map V.bl++[V.bl\dg (a,b,c)])->∃o,([gh\V.ref t]:St)=[o]/\((ts.take i).map dg).map V.bl++[V.bl\dg (a,b,c)]=((ts.take (i+1)).map dg).map V.bl/\Same H X/\X Z_*>.a (((ts.take i).map dg).map V.bl++[V.bl\dg (a,b,c)]):=
   #[ap,by rw[av,av,bz];lia,λX kn yn=>#[2,by rw[bC,R,aV,aV];rfl,λu o e=>(kn u\ak e hZ)<*(sm>>e),yn]]
  erw[2,t,4,S,aW (j:=0) rfl,2,t,4,S,aW (j:=1) rfl,7,?_];rw[gk,show decide ((a:Int)=(b:Int))=decide (a=b) from decide_eq_decide.mpr CT];cases Y:decide (a=b) with
  |true=>
   rw[show dg (a,b,c)=gm by unfold dg;rw[Y];rfl] at fin;show aL fin
  |false=>
   show aA #[2,t,4,S,aW (j:=1) rfl,2,t,4,S,aW (j:=2) rfl,7,?_];rw[gk,show decide ((b:Int)=(c:Int))=decide (b=c) from decide_eq_decide.mpr CT];cases e2:decide (b=c) with
   |true=>
    rw[show dg (a,b,c)=gm by unfold dg;rw[Y,e2];rfl] at fin;show aL fin
   |false=>
    show aA #[2,t,4,S,aW (j:=2) rfl,2,t,4,S,aW (j:=0) rfl,1,?_];rw[gk,show decide ((c:Int)=(a:Int))=decide (c=a) from decide_eq_decide.mpr CT];rw[show dg (a,b,c)=decide (c=a) by unfold dg;rw[Y,e2];rfl] at fin;show fin
 rintro Z ys H1 ⟨o,rfl,rfl,s1,a2⟩;rw[hlen,cm] at a2;erw[Z_,ts.map dg,1,SqL.of a2,2,ite2 (λB=>?_) λB=>?_]
 .refine q1 _ H1 s1\.l #[1,λhn=>?_];let#[b,y,bt]:=m_.mp B;let#[t,ht,1]:=ax.mp y;have:=CJ.mpr\hn t ht;rw[show dg t=gm from bt] at this;cases this
 let am:∀t∈ts,Ne3 t:=λt ht=>CJ.mp (by
  cases hd:dg t with
  |false=>rfl
  |true=>show (B\m_.mpr #[_,ax.mpr #[t,ht,hd],1]).elim)
 show λC H2 bw s2 yC=>?_;let a3:=s1<*s2;erw[2,l,1,#[_,SqL.of (a3>>O)],fC (K:=[]) (a:=l) (xs:=vt) (λi Z H'=>∃o2 D,Z=[gh\V.ref l,gh\.r C,o2,D]/\Same H H'/\H' C*>.dT (((ents\ts.take i).map (·.1)).map jK)/\((ents\ts.take i).map (·.1)).Nodup)
  #[gf,gf,1,a3,yC,List.Pairwise.nil] (by rintro i Z H' _ ⟨_,_,_,e,_⟩;show SqL.of (e>>O)) ?_ ?_]
 .rintro i v Z H3 hi ⟨o2,D,rfl,a4,hC,nd⟩;let#[d,R,t,1,y]:=bY tr hi;let bx:i<↑ts:=(aO.mp R).1;let a5:H C=gf:=dY s1 bw;erw[2,t,d,1,a4>>y,λr zr H5 b4 I y5 sr=>?_];let#[a6,aM,bA,aS,l0]:=#[a4<*I,I>>hC,aE sr,(Bh\am _ (a_ R):(cJ d).Nodup),eF\ts.take i];rw[bz] at l0;let ee:(ents\ts.take (i+1)).map (·.1)=(ents\ts.take i).map (·.1)++cJ d:=by rw[bC,R];change (ents (ts.take i++[d])).map (·.1)=_;rw[zt,aV];rfl
  let bK:r≠C:=λz=>by rw[z,aM] at y5;cases y5
  erw[r,1,#[_,SqL.of y5],fC (K:=[]) (a:=r) (xs:=zr) (λj Z H'=>(∃D,Z=[gh\V.ref l,gh\.r C,gh\.r t,D])/\(∀b o,b≠C->H5 b*>o->H' b*>o)/\H' C*>.dT (((ents\ts.take i).map (·.1)++(cJ d).take j).map jK)/\∀s'∈(cJ d).take j,s'∉(ents\ts.take i).map (·.1))
   #[#[2],λ_ _ _ e=>e,by rw[xq,eY];show aM,∅] (by rintro j Z H' _ ⟨_,e,_⟩;show SqL.of\e _ _ bK y5) ?_ ?_]
  .rintro j x Z H' hj ⟨⟨D,rfl⟩,but,ab,ad⟩;let#[#[m,n],ho,sd,1,L]:=bY sr hj;let L:H5 sd*>.u ((ky m n).map kV):=L;let a0:sd≠C:=λz=>by rw[z,aM] at L;cases L
   let ej:(cJ d).take (j+1)=(cJ d).take j++[(m,n)]:=by rw[bC,ho];rfl
   let bM:Same H H':=λb o e=>but b o (ak e a5) (a6>>e);by_cases an:(m,n)∈(ents\ts.take i).map (·.1)
   .let#[x,hx]:∃x,a8 (((ents\ts.take i).map (·.1)++(cJ d).take j).map jK) (ky m n)*>x:=by
     cases hv:a8 (((ents\ts.take i).map (·.1)++(cJ d).take j).map jK) (ky m n) with
     |some x=>erw[x,1]
     |none=>show absurd (eK _ an)\va.mp hv
    erw[3,C,2,DGet.t (k:=ky m n) ab\but _ _ a0 L,gm,by rw[hx];rfl,aL ?_];let bN:SdF ts i (m,n):=#[nd,d,j,R,ho,an,ad];show q1 _ H' bM\.o #[am,.l #[1,bN.not]]
   let bb:(m,n)∉(ents\ts.take i).map (·.1)++(cJ d).take j:=by
    rw[a9];rintro (z|z)
    .exact an z
    rw[<-gD (j+1)\cJ d,ej,gz,cD] at aS;show aS.2.2 _ z (m,n) ∅ rfl
   erw[3,C,2,DGet.t (k:=ky m n) ab\but _ _ a0 L,hB,by rw[va.mpr bb];rfl,aA ?_];let lj:↑((cJ d).take j)<=3:=by rw[bz];show Df _ _
   erw[3,C,2,DPut.t (k:=ky m n) ab (but _ _ a0 L) (by rw[av,bo,av];lia),?_];rw[JP bb];walk_at"H' C Hb kb yb";erw[#[2],λu o Y e2=>(kb u Y).trans\but u o Y e2,by rw[yb,ej,gz],λs' bc=>?_];rw[ej] at bc;rcases a9.mp bc with z|z
   .exact ad s' z
   rw[aG.mp z];show an
  rintro Z H' ⟨⟨D,rfl⟩,but,ab,ad⟩;rw[bA,cm] at ab ad;erw[9,λb o e=>but b o (ak e a5) (a6>>e),by rw[ee];show ab,?_];rw[ee,cD];erw[nd,aS,λa' bS u bX z=>ad u bX (z ▸ bS)]
 rintro Z H3 ⟨o2,D,rfl,s3,hC,nd⟩;rw[hlen,cm] at nd;let g:Good ts:=#[am,nd];erw[2,l,vt,ts,1,s3>>O,tr.same s3,hl,λr cs H4 b5 s4 y4 b0 lcs=>?_];let#[bd,lc,a1]:=#[s3<*s4,bE cs,(λc=>(b0.2 c)<*tE:∀c,c∈cs↔Co ts c)];erw[r,1,#[_,SqL.of y4],λZ2 be=>dM (K:=[]) (a:=r) (xs:=nV cs) (λi Z ys H'=>∃o bs,Z=[o,gh\.r l]/\ys=bs.map V.bl/\↑bs=i/\Same H4 H'/\H' Z2*>.a ys/\(bs.any id=gm↔∃c∈cs.take i,¬One (En ts) c)) #[gf,[],5,1,bG be,aH,∅] (by rintro i Z ys H' _ ⟨_,_,_,_,_,e,_⟩;show SqL.of (e>>y4)) ?_ ?_]
 .rintro i v Z ys H' hi ⟨o,bs,rfl,rfl,lb,sm,ap,ag⟩;rw[nV,br] at hi;let#[#[c,M,1],bx,sT]:=#[cz.mp hi,(aO.mp M).1,bd<*sm];erw[3,l,vt,ts,c,1,sT>>O,tr.same sT,hl,g,λq gs fs H5 hq I y5 lp fans lf=>?_];let b1:=(a1 c).mp\a_ M;let bi:fs≠[]:=λz=>by
   let#[p,q',e]:=b1;let#[F,hF,_]:=fans.all p #[q',e];rw[z] at hF;cases hF
  let#[h1,h0,lg]:=#[JX g.sk fans bi,ia.mpr bi,aE lp];erw[q,2,.l\SqL.of y5,6,I>>ap,by rw[av];lia,λX kn yn=>#[_,bs++[decide ((1:Int)<(↑gs:Int))],1,by rw[aV];rfl,by rw[bo,lb];rfl,λu o e=>(kn u\ak e be)<*(I>>sm>>e),yn,?_]];rw[List.any_append,Bool.or_eq_true,ag,bC,M];simp only[Option.toList_some,a9,aG,pf,List.any_nil,OZ,id,decide_eq_true_eq];rw[lg];constructor
  .rintro (⟨c',h2,h3⟩|h2)
   .exact#[c',.l h2,h3]
   erw[c,.o rfl,λz=>by have:=h1.mp z;lia]
  rintro⟨c',h2|rfl,h3⟩
  .exact .l #[c',h2,h3]
  show .o (by have:¬↑fs=1:=λz=>h3\h1.mpr z;lia)
 rintro Z ys H5 ⟨o,bs,rfl,rfl,lb,I,b2,ag⟩;rw[lc,cm] at ag;let bm:=bd<*I;erw[Z2,bs,1,SqL.of b2,2,ite2 (λB=>?_) λB=>?_]
 .let#[c,M,hn]:=ag.mp B;show q1 _ H5 bm\.o #[am,.o #[nd,1,c,(a1 c).mp M,hn]]
 show q0 H5 bm #[g,λc M=>kL λhn=>B\ag.mpr #[c,(a1 c).mpr M,hn]]
end
def fJ.no(h:fJ ts k)(s:Skn ts):False:=by
 rcases h with ⟨_,h⟩|⟨_,⟨_,h⟩|⟨_,_,c,h1,h2⟩⟩
 .exact h λt a=>s.g.ne t a
 .exact h s.g.nd
 show h2\s.o c h1
def OM(us:-Tri)(k:Kd)(m n y:Nat):Due->Prop
 |.deed=>False
 |.side=>¬Okd us k m n
 |.taken=>Okd us k m n/\¬Nw us k y
 |.spoilt kk=>Okd us k m n/\Nw us k y/\∃rs,hV us m n y rs k/\eW rs kk
 |.skin rs=>Okd us k m n/\Nw us k y/\hV us m n y rs k/\Skn rs/\↑rs<=200
def i5(H:Hp)(r:i4):Due->Prop
 |.deed=>H r*>.u [.s "deed"]
 |.side=>H r*>.u [.s "side"]
 |.taken=>H r*>.u [.s "taken"]
 |.spoilt kk=>H r*>.u [.s "spoilt",.s kk]
 |.skin rs=>∃l a,H r*>.u [.s ↑47,.r l]/\H l*>.a a/\ay H a rs
def Jf(vs:-V)(H:Hp)(Q:VK)(T d:i4)(a:-V)(us:-Tri)(k:Kd)(m n y:Nat):Prop:=vs=[.r T,.r d]/\H T*>.a a/\ay H a us/\↑us<=200/\Skn us/\Alike us us/\fX H d k m n y/\(∀rs,Okd us k m n->hV us m n y rs k->↑rs<=1000)/\
 ∀b r H',H r=gf->Same H H'->i5 H' r b->OM us k m n y b->Q (.r r) H'
def BI:Sp:=wJ Jf
section
def oC:aQ [↑0,↑27,↑46,↑68,↑6,"_law_made"] [↑0,↑27] (au sU):=.f
def J9{f1 f2 f3 f4:i4}{fd d1 d2 d3 d4:kS}(U:Fun K "_law_due" "_law_due" sU f fd)(T:cv mg)(GT:!Use 1 ↑24 [↑0] jk f1 d1)(GC:!Use 2 ↑18 [↑0] iL f2 d2)(GB:!Use 3 "_law_bad" [↑0] BK f3 d3)(GH:!Use 4 ↑62 [↑0,↑27] BJ f4 d4):
  !az CX0 5 f fd [↑0,↑27] BI:=by
 show U.ok oC (!8) λ_ _ _ _ H _ Q _ L h=>?_
 let#[B,d,vt,us,k,m,n,y,1,hT,tr,hl,sk,a4,dd,few,q]:=h;let a5:=L.mono (⋯:1<=4);let a6:=L.mono (⋯:2<=4);let aS:=L.mono (⋯:3<=4);let hu:=dC L;erw[_,(af (fD (ixx a7 (pv 1) ah)\du rfl (aY (gx 2 oC.nd)\aY (gx 3 oC.nd) dh))
  (af (sx 4 oC.nd\uc GT a5 (pa1\pv 0))
  (af (bf (PW.pt\iz (gY\nU hu (ao\ae (pv 2) (pa1\pv 3)) (pv 4)) (iT\PW.pt (fQ (aT cn (ixx a7 (pv 1) ah) aK\nomark _)\fZ (gY\nU hu (ao\ae (pv 3) (pa1\pv 2)) (pv 4))))) (aj\aF (ao\pa1 aK)) ba)
  (af (bf (PW.pt\fQ (aT j2 (ixx a7 (pv 1) ah) (ao\ae aK (pa1 aK)) rfl) (fZ\gY (mm hu (ao\ae (pv 3) (pa1\pv 2))\pv 4))) (aj\aF (ao\pa1 aK)) ba)
  (af (bf (PW.pt\fQ (aT cn (pln T.len\pv 1) ah\nomark _) (fZ\aT j2 (ixx a7 (pv 1) ah) (uc GC a6\pa1 (pv 0)) rfl)) (aj\aF (ao\pa1 aK)) ba)
  (af (sx 5 oC.nd\uc GH L (ae (pv 0)\pa1 (pv 1)))
  (af (bf (aT oM (pln T.len\pv 5) ah\nomark _) (aj\aF (ao\ae aK (pa1 aK))) ba)
  (af (bf (aT JV (uc GB aS\pa1 (pv 5)) rV\nomark _) (aj\aF (ao\ae aK (pa1\uc GB aS (pa1\pv 5)))) ba)
  (aj\aF (ao\ae aK (pa1\pv 5))))))))))),?_]
 let g:=sk.g;let#[sd,h1,h2]:=id dd;erw[2,d,4,SqT.of h2,aW (j:=1) rfl,sd,2,SqT.of h1,1,9,6,?_];erw[2,B,vt,us,1,hT,tr,(),g.nd,λD H1 be s1 hD=>?_];let side:∀{Hx:Hp}(r:i4)(H':Hp),Same H Hx->¬Okd us k m n->Hx r=gf->Same Hx H'->H' r*>.u [.s "side"]->Q (.r r) H':=λr H' s0 no g0 s' v=>q .side r H' (dY s0 g0) (s0<*s') v no;let ag:∀a b,(∃c,En us a b c)->(a8 ((ents us).map bB)\ky a b).isSome=gm:=λa b ⟨c,l⟩=>by rw[vM g l];rfl
 let al:∀a b,(¬∃c,En us a b c)->(a8 ((ents us).map bB)\ky a b).isSome=hB:=λa b h=>by
  rcases qA g a b with ⟨c',h',_⟩|⟨_,e⟩
  .exact (h #[c',h']).elim
  rw[e];rfl
 show j9 ?_;show ip (λZ H'=>Z=[gh\V.ref B,gh\.r d,gh\.i (m:Int),gh\.i (n:Int),gh\.r D,gf]/\Same H1 H'/\(∃c,En us m n c)/\(k=.turn->∃c,En us n m c)) (λNX z=>?_) ?_
 .refine#[3,lit2,λt1 H2 g1 s2 y2=>?_];let am:=s1<*s2;erw[2,D,2,DGet.t (k:=ky m n) (s2>>hD) y2,?_];by_cases l:∃c,En us m n c
  .refine#[hB,by rw[ag>>l];rfl,skOr #[2,d,4,SqT.of (am>>h2),aW (j:=0) rfl,7,?_]];by_cases M:k=.turn
   .subst M;show jE #[3,lit2,λt2 H3 g2 u y3=>?_];erw[2,D,2,DGet.t (k:=ky n m) (u>>s2>>hD) y3,?_];by_cases he:∃c,En us n m c
    .exact#[hB,by rw[ag>>he];rfl,aA\z _ _ #[1,s2<*u,l,λ_=>he]]
    erw[gm,by rw[al>>he];rfl,aL #[lit1,λr H' g' s' v=>side r H' (am<*u) (λok=>he\ok.b rfl) g' s' v]]
   let e:decide (V.str k.sgn=V.str "turn")=hB:=by cases k<;>first|show absurd rfl M|decide +kernel
   rw[e];show oN\aA (z _ _ #[1,s2,l,λz=>(M z).elim])
  erw[gm,by rw[al>>l];rfl,goOr\aL #[lit1,λr H' g' s' v=>side r H' am (λok=>l ok.a) g' s' v]]
 rintro Z H2 ⟨rfl,s2,l,ht⟩;let an:=s1<*s2;show ip (λZ H'=>Z=[gh\V.ref B,gh\.r d,gh\.i (m:Int),gh\.i (n:Int),gh\.r D,gf]/\Same H2 H'/\Okd us k m n) (λNX z=>?_) ?_
 .refine#[2,d,4,SqT.of (an>>h2),aW (j:=0) rfl,lit2,λt1 H3 g1 u y3=>?_];erw[t1,2,.o\SqT.of y3,5,2,?_];let e:inV (V.str k.sgn) [V.str "on",V.str "close"]=k.rim:=by cases k<;>decide +kernel
  rw[Sg bH,e];cases a0:k.rim with
  |false=>show oN\aA (z _ _ #[1,u,#[l,ht,λz=>absurd (a0.symm<*z) ⋯]])
  |true=>
   show jE #[3,lit2,λt2 H4 g2 s4 y4=>?_];let ap:=u<*s4;erw[2,D,2,DGet.t (k:=ky n m) (ap>>s2>>hD) y4,?_];by_cases he:∃c,En us n m c
   .exact#[gm,by rw[ag>>he],aL #[lit1,λr H' g' s' v=>side r H' (an<*ap) (λok=>he.elim\ok.c a0) g' s' v]]
   erw[hB,by rw[al>>he],aA\z _ _ #[1,ap,#[l,ht,λ_ c bb=>he #[c,bb]]]]
 rintro Z H3 ⟨rfl,u,ok⟩;let x:=an<*u;show ip (λZ H'=>Z=[gh\V.ref B,gh\.r d,gh\.i (m:Int),gh\.i (n:Int),gh\.r D,gf]/\Same H3 H'/\Nw us k y) (λNX z=>?_) ?_
 .cases R:k.wis with
  |false=>
   rw[R] at h2;let h2:H d*>.u [.s k.sgn,.r sd]:=h2;erw[2,d,2,.o\SqT.of (x>>h2),7,oN\aA (z _ _ #[1,Same.refl _,λz=>absurd (R.symm<*z) ⋯])]
  |true=>
   rw[R] at h2;let h2:H d*>.u [.s k.sgn,.r sd,.i (y:Int)]:=h2;let sq:=SqT.of (K:=[]) (x>>h2);erw[2,d,2,.o sq,7,jE #[2,d,4,sq,aW (j:=2) rfl,2,B,vt,us,1,x>>hT,tr.same x,hl,λr cs H5 bc N C a1 lcs=>?_]];erw[r,2,.l\SqL.of C,1,iS _,2,?_];rw[Sg bH,g_];by_cases l:y∈cs
   .rw[Si l];show aL #[lit1,λp O g6 o y6=>q .taken p O (dY (x<*N) g6) (x<*N<*o) y6 #[ok,λz=>z R\tE.mp ((a1.2 y).mp l)]]
   rw[Sj l];show aA\z _ _ #[1,N,λ_ z=>l\(a1.2 y).mpr (tE.mpr z)]
 rintro Z H4 ⟨rfl,s4,nw⟩;let S:=x<*s4;erw[3,B,d,vt,us,k,m,n,y,1,S>>hT,tr.same S,hl,sk,a4,dd.same S,ok,λrs r vr H5 bc N C X bl=>?_];let#[Y,lr,bi]:=#[S<*N,aE X,few rs ok bl];erw[2,r,2,.l\SqL.of C,6,2,ite2 (λab=>?_) λab=>?_]
 .let ab:(200:Int)<(↑vr:Int):=Sl ab;erw[lit2,λp O g6 o y6=>q (.spoilt "many") p O (dY Y g6) (Y<*o) y6 #[ok,nw,rs,bl,.l #[1,()]]]
 let ad:↑rs<=200:=by have:¬(200:Int)<(↑vr:Int):=λz=>ab\Si z;lia
 erw[2,r,vr,rs,1,C,X,ad,λO o aM=>?_,λkk O o M=>?_]
 .let a2:=Y<*o;erw[7,aA #[2,lit2,λp H7 g7 I y7=>q (.skin rs) p H7 (dY a2 g7) (a2<*I) #[r,vr,y7,I>>o>>C,X.same\o.trans I] #[ok,nw,bl,aM,ad]]]
 erw[7,aL #[2,r,vr,rs,1,o>>C,X.same o,ad,λH7 I aM=>(M.no aM).elim,λk2 H7 I bd=>#[lit2,λp H8 g8 s8 y8=>?_]]];let a3:=(Y<*o)<*I;show q (.spoilt k2) p H8 (dY a3 g8) (a3<*s8) y8 #[ok,nw,rs,bl,.o #[ad,bd]]
end
structure mQ(K:W.Frag)(D S:i4)(ks gs:-i4)(i:Nat):Prop where
 xc:iV K D
 cls:∃bm,clsIn K D*>bm/\(Value.ref D::bm).contains (.r S)=gm
 k:∀j c,ks[j]?*>c->W.kitOne K (.r D) (.r c)*>(i==j)
 val:W.kitOne K (.r D) (.t ↑20)*>gm
 odd:W.kitAny K (.r D) (gs.map Value.ref)*>hB
def Ji(K:W.Frag)(Cs:i4)(vs:-V)(H:Hp)(Q:VK)(x:i4)(v:V)(ts us:-Tri)(t:Dn):Prop:=vs=[.r x,v]/\c_ Cs H x ts us/\mV K H v t/\(∀k m n y rs,t*>(k,m,n,y)->Okd ts k m n->Beh ts us m n y rs k->Few rs)/\
 ∀a r H',Sm H H'->i5 H' r a->Out ts us t a->Q (.r r) H'
def mV.same{t:Dn}(s:Same H H')(h:mV K H v t):mV K H' v t:=by
 cases t with
 |none=>show DdI.kp (kpS s) h
 |some t=>show h.imp λ_ q=>#[q.1,q.2.same s]
def knS:-V:=[.s "deed",.s "side",.s "taken",.s "spoilt"]
def BL(K:W.Frag)(Cs:i4):Sp:=oU\Ji K Cs
def lit4:4<=sizeLine:=by change 4<=js;decide
def lit10:10<=sizeLine:=by change 10<=js;decide
def knD(i:Nat):-Bool:=[i==0,i==1,i==2,i==3]
section
def jw:aQ [↑69,↑27,"_law_told_here","e","_law_kinds","_law_beside_here"] [↑69,↑27] (au qw):=.f
def Kb{f f1 f2 Cs S a d j SP N Y Z n g5 B C I g9 ab:i4}{fd d1 d2:kS}(U:Fun K ↑63 ↑63 qw f fd)(T:cv mg)(X:SCls K Cs)
  (G:jL (CX2 P w) P w K mg base 7 "changed" [↑47,"deed"] (spCh K Cs a d j SP) f1 d1) (GT:!gq Cs 1 ↑43 [↑87] (kD Cs) f2 d2)
  (mS:mg ↑21*>.r S) (cS:∃bm,clsIn K S*>bm/\bm.contains (.t ↑4)=gm) (a0:mg "NoDeed"*>.r a) (a1:mg "NoSide"*>.r d) (a2:mg "Taken"*>.r j) (al:mg "Spoilt"*>.r SP)
  (m1:mg "Gone"*>.r N) (m2:mg "NoCaps"*>.r Y) (m3:mg "NoCode"*>.r Z) (m4:mg "NoCorner"*>.r n) (m5:mg "NoLetter"*>.r g5) (m6:mg "NoPast"*>.r B) (m7:mg "NoSkin"*>.r C) (m8:mg "NoText"*>.r I) (m9:mg "NoWord"*>.r g9) (a3:mg "TooMany"*>.r ab)
  (xf:fH K SP "kind") (k0:mQ K a S [a,d,j,SP] [N,Y,Z,n,g5,B,C,I,g9,ab] 0) (k1:mQ K d S [a,d,j,SP] [N,Y,Z,n,g5,B,C,I,g9,ab] 1) (k2:mQ K j S [a,d,j,SP] [N,Y,Z,n,g5,B,C,I,g9,ab] 2) (k3:mQ K SP S [a,d,j,SP] [N,Y,Z,n,g5,B,C,I,g9,ab] 3) :
  !az CX0 8 f fd [↑69,↑27] (BL K Cs):=by
 show U.ok jw (!5) λ_ _ _ _ H _ _ E am h=>?_
 let#[x,v,ts,us,t,1,sk,hd,few,q]:=h;let#[bm,a4,a5]:=cS;let a6:=am.mono (⋯:1<=7);erw[_,(af (sx 2 jw.nd\ao (pa1 aK))
  (af (LU (i:=3) #[5] rfl jw.nd rfl rfl rfl mS a4 a5
   (λSn xe E hp=>(aj\sx 2 jw.nd (ao\ae aK (pa1\lG (iR G.g am rfl G.m G.k G.b .nil hp\ae (pv 0) (pa1\pv 1)) X.cl GT.m GT.g a6 GT.b .nil pass0))))
   (λx=>(af (sx 4 jw.nd\bp (ae (bP (lE (y:=.r a) (c:=.r a) λ_ e=>e) (by rfl) T.isi gF\ae (pv 3) (pa1\dO (v:=.r a) rfl a0 rfl))\ae (bP (lE (y:=.r d) (c:=.r d) λ_ e=>e) (by rfl) T.isi gF\ae (pv 3) (pa1\dO (v:=.r d) rfl a1 rfl)) (ae (bP (lE (y:=.r j) (c:=.r j) λ_ e=>e) (by rfl) T.isi gF\ae (pv 3) (pa1\dO (v:=.r j) rfl a2 rfl))\pa1 (bP (lE (y:=.r SP) (c:=.r SP) λ_ e=>e) (by rfl) T.isi gF\ae (pv 3) (pa1\dO (v:=.r SP) rfl al rfl)))))
  (af (sx 5 jw.nd\bP E9 (by rfl) T.isi gF (ae (pv 3)\pa1 (ao\ae (dO (v:=.r N) rfl m1 rfl) (ae (dO (v:=.r Y) rfl m2 rfl)\ae (dO (v:=.r Z) rfl m3 rfl) (ae (dO (v:=.r n) rfl m4 rfl)\ae (dO (v:=.r g5) rfl m5 rfl) (ae (dO (v:=.r B) rfl m6 rfl)\ae (dO (v:=.r C) rfl m7 rfl) (ae (dO (v:=.r I) rfl m8 rfl)\ae (dO (v:=.r g9) rfl m9 rfl) (pa1\dO (v:=.r ab) rfl a3 rfl))))))))
  (af (bf (PW.pt\fQ (dW\bP (lE (y:=.ty ↑20) (c:=.t ↑20) λ_ e=>e) (by rfl) T.isi gF (ae (pv 3)\pa1 (kg (v:=.ty ↑20) rfl T.ve rfl rfl))) (fQ (fR\dW (pv 5))\fZ (aT cn (dX eO PySem.F.slot_list_count PySem.F.type_list_count FP (pv 4)\pa1 gi) ah\nomark _))) (aj\sx 2 jw.nd (ao\pa1 (ixx bQ (bp\ae aK (ae aK\ae aK (pa1 aK)))\dX eO PySem.F.slot_list_index PySem.F.type_list_index FO (pv 4) (pa1 gi)))) ba)
  (aj\bf (dW\bP (lE (y:=.r SP) (c:=.r SP) λ_ e=>e) (by rfl) T.isi gF (ae (pv 3)\pa1 (dO (v:=.r SP) rfl al rfl))) (aj\sx 2 jw.nd (aD vH (pv 2)\ao (pa1\AY (pc:=λ_=>True) (pv 3) rfl))) ba))))))
  (aj\aF (pv 2)))),?_]
 erw[lit1,λt0 H1 g0 s1 y1=>?_];let bb:=sk.sm\Sm.of s1;erw[λcls e H'=>Sm H1 H'/\∃M,Out ts us t M/\Exn a d j SP H' cls e M,?_,?_]
 .refine#[3,x,v,ts,us,t,1,bb,hd.same s1,few,λz an rs H2 sm out sz=>?_,λM c e H2 sm out ex=>#[sm,M,out,ex]];let#[dx,O,R,D,S',hz]:=sz.obj;erw[z,dx,2,hz,1,z,rs,an,1,sz,λl vo H3 hl s3 y3 tr=>#[lit2,λt H4 n s4 y4=>#[2,?_]]];show q (.skin an) t H4 ((Sm.of s1).trans\sm.trans (Sm.of\s3.trans s4)) #[l,vo,y4,s4>>y3,tr.same s4] out
 rintro cls e H2 ⟨sm,M,out,ex⟩;let#[D,i,u,1,kn,#[hu,hb,hn,hc],hD]:∃D i u,cls=.r D/\mQ K D S [a,d,j,SP] [N,Y,Z,n,g5,B,C,I,g9,ab] i/\(knS[i]?*>u/\(knD i)[i]?*>gm/\(∀m,m<i->(knD i)[m]?≠gh gm)/\(knD i).count gm=1)/\(e=gf/\(i==3)=hB/\(∀H r,H r*>.u [u]->i5 H r M)\/(i==3)=gm/\u=.s "spoilt"/\D=SP/\∃dx kk,M=.spoilt kk/\e*>dx/\H2 dx*>.xd [("kind",.s kk)]):=by
  cases M with
  |deed=>erw[a,(0),_,ex.1,k0,#[1,⋯],.l #[ex.2,1,λ_ _ y=>y]]
  |side=>erw[d,(1),_,ex.1,k1,#[1,⋯],.l #[ex.2,1,λ_ _ y=>y]]
  |taken=>erw[j,(2),_,ex.1,k2,#[1,⋯],.l #[ex.2,1,λ_ _ y=>y]]
  |spoilt kk=>erw[SP,(3),_,ex.1,k3,#[1,⋯],.o #[5,1,ex.2.elim λdx h=>#[dx,kk,1,h]]]
  |skin _=>show ex.elim
 let#[xc,#[bc,bd,be],kk,val,odd]:=kn;erw[D,bc,1,bd,be,λx hx=>?_];let s2:=bG (o:=ef (λ_=>True) x (.r D) e) hx;let ha:jH (upd H2 x\ef (λ_=>True) x (.r D) e) x D:=by
  rcases hD with ⟨rfl,_⟩|⟨_,_,_,d0,kk,_,rfl,e1⟩
  .exact#[_,.l aH]
  erw[_,.o #[d0,_,aH,s2>>e1]]
 let bi:upd H2 x (ef (λ_=>True) x (.r D) e) x*>ef (λ_=>True) x (.r D) e:=aH;let bn:Sm H (upd H2 x\ef (λ_=>True) x (.r D) e):=((Sm.of s1)<*sm).trans\Sm.of s2;generalize upd H2 x (ef (λ_=>True) x (.r D) e)=H3 at *;erw[2,x,D,2,ha,xc,kk 0 _ rfl,2,x,D,2,ha,xc,kk 1 _ rfl,2,x,D,2,ha,xc,kk 2 _ rfl,2,x,D,2,ha,xc,kk 3 _ rfl,lit4,λL H4 bx s4 y4=>?_];let ap:=ha.same s4;let y4:H4 L*>.a ((knD i).map V.bl):=y4;erw[2,lit10,λtp H5 bA s5 y5=>#[x,D,tp,[N,Y,Z,n,g5,B,C,I,g9,ab],hB,1,ap.same s5,xc,y5,odd,?_]];let#[aM,ag,aS,bt]:=#[ap.same s5,s5>>y4,(bn.trans\Sm.of (s4<*s5):Sm H H5),s5>>s4>>bi];erw[2,x,D,2,aM,xc,val,2,jE #[3,jE #[2,.l #[1,_,SqL.of ag],L,_,gm,5,ag,7,?_]]];rw[hc];show aL #[lit4,λl H6 B s6 y6=>?_];erw[2,.l #[1,_,SqL.of (s6>>ag)],L,_,gm,i,5,s6>>ag,hb,hn,l,4,SqL.of y6,aW hu,lit1,λt H7 C s7 y7=>?_];let ad:=s6<*s7;erw[2,x,D,2,aM.same ad,xc,kk 3 _ rfl,2,?_];rcases hD with ⟨rfl,hi,tl⟩|⟨hi,rfl,rfl,d0,kd,rfl,rfl,e1⟩
 .rw[hi];show aA #[2,q M t H7 (aS.trans\Sm.of ad) (tl>>y7) out]
 rw[hi];let bw:=ad>>s5>>s4>>s2>>e1;show aL #[3,x,D,d0,9,ad>>bt,bw,xc,xf,1,lit1,λt2 H8 I s8 y8=>?_];erw[t,t2,6,SqT.of (s8>>y7),SqT.of y8,(λz=>nomatch z),lit2,(λz=>nomatch z),λ_ p hp=>#[2,?_]];show q (.spoilt kd) p _ (aS.trans\Sm.of ((ad<*s8).trans\bG hp)) aH out
end
def MR{R:Nat->Nat->Prop}(one:∀a b c,R a b->R a c->b=c)(c:Cy R l)(o:Cy R e){m:Nat}(hm:m∈l)(r:m∈e){p:Nat}(s:p∈l):p∈e:=by
 let nx:∀{a b},(a,b)∈prs l->a∈e->b∈e:=λ{a b} h ha=>by
  let#[q,f]:=qS ha;rw[one _ _ _ (c.st>>h) (o.st>>f)];unfold prs at f;have:=(uf f).2;rcases a9.mp this with z|z
  .exact List.mem_of_mem_drop z
  show Pl z
 let fwd:∀(d i a b:Nat),l[i]?*>a->l[i+d]?*>b->a∈e->b∈e:=by
  intro d;induction d with
  |zero=>intro i a b h1 h2 ha;rw[Dd,h1] at h2;cases h2;show ha
  |succ d u=>
   intro i a b h1 h2 ha;let y:=(aO.mp h2).1;let g:l[i+d]?*>l[i+d]'():=aR _;show nx (a_\JR g h2)\u i a _ h1 g ha
 let#[#[i,hi],#[j,v],A,hz,n,w,x]:=#[eZ.mp hm,eZ.mp s,(aO.mp hi).1,(aR _:l[↑l-1]?*>l[↑l-1]'()),(aR _:l[0]?*>l[0]'()),fwd (↑l-1-i) i m _ hi (by rw[show i+(↑l-1-i)=↑l-1 by lia];show hz) r,nx (Hv (by rw[jQ];show hz) n) w];show fwd j 0 _ p n (by rw[kQ];show v) x
def MS{R:Nat->Nat->Prop}(one:∀a b c,R a b->R a c->b=c)(c:Cy R l)(e:Cy R d){m:Nat}(hm:m∈l)(f:m∈d):(prs l).Perm (prs d):=by
 let sub:∀{l d:-Nat},Cy R l->Cy R d->m∈l->m∈d->∀s∈prs l,s∈prs d:=λ{l d} c e hm f ⟨a,b⟩ h=>by
  let ha:a∈l:=by rw[<-vE l];show ax.mpr #[_,h,1]
  let#[q,g]:=qS\MR one c e hm f ha;rw[one _ _ _ (c.st>>h) (e.st>>g)];show g
 show (Po (vY c.nd)\vY e.nd).mpr λs=>#[sub c e hm f s,sub e c f hm s]
def IP{us:-Tri}(sk:Skn ts)(al:Alike us ts)(h:Beh ts us m n y rs k)(h':hV us m n y j k):j.Perm rs:=by
 let en:=al.en;cases k with
 |turn=>
  let#[c,d,h1,h2,1]:=h;let#[e,d',f,l,1]:=h';rw[sk.g.sk.one h1\(en _ _ _).mp f,sk.g.sk.one h2\(en _ _ _).mp l]
 |out=>
  let#[c,h1,1]:=h;let#[e,f,1]:=h';rw[sk.g.sk.one h1\(en _ _ _).mp f]
 |draw=>rw[show rs=_ from h,show j=_ from h']
 |inn=>
  let#[c,h1,1]:=h;let#[e,f,1]:=h';rw[sk.g.sk.one h1\(en _ _ _).mp f]
 |on=>rw[show rs=_ from h,show j=_ from h']
 |close=>
  let#[#[r,c,s,1],#[x,e,h1,1],u,v]:=#[h,h',(nR sk.g sk.o).1,(λa b ⟨⟨c,w⟩,h⟩=>#[#[c,(en _ _ _).mp w],λ⟨d,hd⟩=>h #[d,(en _ _ _).mpr hd]]:∀a b,bq (En us) a b->bq (En ts) a b)];show ((MS u #[e.nd,λp q h=>v>>(e.st p q h)] c h1\a_ s).map _).append_left us
def fJ.pm{d:-Tri}(h:fJ ts k)(p:ts.Perm d):fJ d k:=by
 let#[e,ne,nd]:=#[Be p,(#[λh t f=>h t\p.mem_iff.mpr f,λh t f=>h t\p.mem_iff.mp f]:(∀t∈ts,Ne3 t)↔∀t∈d,Ne3 t),(e.map (·.1)).nodup_iff];rcases h with ⟨h1,h2⟩|⟨h1,⟨h2,g⟩|⟨h2,g,c,⟨a,b,j⟩,l⟩⟩
 .exact .l #[h1,λz=>h2\ne.mpr z]
 .exact .o #[ne.mp h1,.l #[h2,λz=>g\nd.mpr z]]
 show .o #[ne.mp h1,.o #[nd.mp h2,g,c,#[a,b,e.mem_iff.mp j],λz=>l\(ze (λa b c=>(e.mem_iff:((a,b),c)∈_↔_)) c).mpr z]]
def fJ.one(h:fJ ts k)(h':fJ ts a):k=a:=by
 rcases h with ⟨rfl,h2⟩|⟨h1,⟨rfl,c⟩|⟨h2,rfl,_⟩⟩<;>rcases h' with ⟨rfl,b⟩|⟨d,⟨rfl,e⟩|⟨b,rfl,_⟩⟩
 all_goals first|rfl|show absurd (by assumption:∀t∈ts,Ne3 t) (by assumption)|show absurd (by assumption:((ents ts).map (·.1)).Nodup) (by assumption)
def Jz{us:-Tri}(c:Cy (bq\En us) rim):↑rim<=3*↑us:=by
 have:=jj (m:=(ents us).map (·.1)) (vY c.nd) λ⟨p,q⟩ h=>by
  let#[r,a]:=(c.st p q h).1;show ax.mpr #[_,a,1]
 rwa [av,eF,iO] at this
def KM{us:-Tri}(sk:Skn us)(A:↑us<=200){B:Nat}(h:hV us m n y rs k)(j:∀c,Co us c->c<B)(l:y<B)(C:∃c,En us m n c):↑rs<=1000/\∀t∈rs,t.1<B/\t.2.1<B/\t.2.2<B:=by
 let#[tb,o,wl,v,#[c0,D],#[bm,bn,_]]:=#[(λt f=>#[j _\cK.mpr #[t,f,.l rfl],j _\cK.mpr #[t,f,.o\.l rfl],j _\cK.mpr #[t,f,.o\.o rfl]]:∀t∈us,t.1<B/\t.2.1<B/\t.2.2<B),(λ{a b c} e=>#[j _ #[0,e],j _ #[0,sk.g.sk.rot e],j _ #[0,sk.g.sk.rot\sk.g.sk.rot e]]:∀{a b c},En us a b c->a<B/\b<B/\c<B),(λg=>cQ (dJ _ _) A:∀g,↑(wo us g)<=200),(λg t f=>tb t (eL.mp f).1:∀g,∀t∈wo us g,t.1<B/\t.2.1<B/\t.2.2<B),C,o D];cases k with
 |turn=>
  let#[#[c,d,h1,h2,1],#[0,s],#[0,bd]]:=#[h,o h1,o h2];erw[by have:=wl [(m,n,c),(n,m,d)];unfold turned;simp;lia,λt f=>?_];rcases a9.mp f with z|z
  .exact v _ t z
  simp at z;rcases z with rfl|rfl
  .exact#[bm,bd,s]
  erw[bd,bn,s]
 |out=>
  let#[c,h1,1]:=h;erw[cQ (wl _) ⋯,v _]
 |draw=>
  let h:rs=dwn us m n:=h;subst h;erw[by unfold dwn;rw[av];show cQ (dJ _ _) (),λt f=>?_];let#[u,E,1]:=ax.mp f;let#[w,x,H]:=tb u (eL.mp E).1;let ob:∀{c},c<B->onto m n c<B:=λ{c} h=>by unfold onto;split<;>assumption
  erw[ob w,ob x,ob H]
 |inn=>
  let#[c,h1,1]:=h;let#[0,s]:=o h1;erw[by have:=wl [(m,n,c)];unfold inn;simp;lia,λt f=>?_];rcases a9.mp f with z|z
  .exact v _ t z
  simp at z;rcases z with rfl|rfl|rfl
  .exact#[bm,bn,l]
  .exact#[bn,s,l]
  erw[s,bm,l]
 |on=>
  let h:rs=us++[(n,m,y)]:=h;subst h;erw[by simp;lia,λt f=>?_];rcases a9.mp f with z|z
  .exact tb t z
  rw[aG.mp z];erw[bn,bm,l]
 |close=>
  let#[r,c,K,1]:=h;erw[by have:=Jz c;rw[bo];unfold clo;rw[av,iO];lia,λt f=>?_];rcases a9.mp f with z|z
  .exact tb t z
  let#[#[#[p,q],I,1],#[e,he],#[w,x,_]]:=#[ax.mp z,(c.st p q I).1,o he];erw[x,w,l]
def EE{us:-Tri}{q:Int×Int}(h:ay H (bO q) us):False:=by
 cases h with
 |cons h _=>let#[a,e,_]:=h;cases e
def c_.but{q:Int×Int}{us:-Tri}(g:H p*>.a\bO q)(b:But p H H')(h:c_ C H x ts us):c_ C H' x ts us:=by
 let#[t,dx,O,R,D,S,j,L,h,r]:=h;let nd:∀{b:i4}{o:HO},H b*>o->o≠.a (bO q)->b≠p:=λe n z=>by rw[z,g] at e;cases e;show n rfl
 let rd:∀{b:i4}{u:HO},eP u->Rd H b u->Rd H' b u:=λ{a u} c l=>by
  rcases l with e|⟨ob,e⟩
  .exact .l\b _ _ (nd e λz=>by rw[z] at c;show c) e
  show .o #[ob,b _ _ (nd e λz=>nomatch z) e]
 erw[t,dx,O,R,D,S,j,L,#[b _ _ (nd h.ob λz=>nomatch z) h.ob,b _ _ (nd h.od λz=>?_) h.od,Paired.imp' (by rintro _ _ ⟨a,m,d⟩;erw[a,m,b _ _ (nd d λz=>nomatch z) d]) h.tr,rd trivial h.th,rd trivial h.st,λz hz=>rd trivial\h.ab z hz],r];let f:=h.tr;injection z with z;rw[z] at f;show EE f
def zb{us:-Tri}(h:Alike us ts):us.map bg=us:=by have:us.map bg=us.map id:=ue λt a=>AQ h a;rw[this,C9]
def E_{us:-Tri}(h:Alike us ts):Alike us us:=by unfold Alike;rw[zb h]
def lex3{a b:Tri}(h1:HT.lexLt [(b.1:Int),(b.2.1:Int),(b.2.2:Int)] [(a.1:Int),(a.2.1:Int),(a.2.2:Int)]=hB)(h2:HT.lexLt [(a.1:Int),(a.2.1:Int),(a.2.2:Int)] [(b.1:Int),(b.2.1:Int),(b.2.2:Int)]=hB):a=b:=by
 let#[c,d,e]:=a;let#[f,g,h]:=b;simp[HT.lexLt] at h1 h2;let j:c=f:=by split at h1<;>split at h2<;>lia
 subst j;rw[Sh rfl] at h1 h2;let l:d=g:=by split at h1<;>split at h2<;>lia
 subst l;rw[Sh rfl] at h1 h2;let m:e=h:=();rw[m]
def zL{us vs:-Tri}(p:us.Perm vs)(h1:Srt us)(h2:Srt vs):us=vs:=O6 (λa b _ _ x y=>lex3 x y) h1 h2 p
def yV(us:-Tri):PyData.depthAll (us.map c9)<=1:=by
 induction us with
 |nil=>show aZ _
 |cons u us a=>
  rw[bu];change max (c9 u).depth _<=1;have:(c9 u).depth=1:=by simp[c9,PyData.depth,PyData.depthAll]
  lia
def zJ(us:-Tri):PyData.eqv (.list\us.map c9) (.list\us.map c9)=gm:=by
 change PyData.eqvAll _ _=gm;induction us with
 |nil=>rfl
 |cons u us a=>
  rw[bu];change (PyData.eqv (c9 u) (c9 u)&&_)=gm;rw[uM,a];simp
def KF{us:-Tri}{a b:-V}{neg:Bool}{Q:VK}(h1:H l*>.a a)(c:ay H a us)(h2:H m*>.a b)(d:ay H b us)(q:Q (.bl (!neg)) H):oW [] neg (.r l) (.r m) H Q:=by
 erw[0,.a (SqL.of h1)\oB c,.a (SqL.of h2)\oB d,?_,?_]
 .have:=yV us;change PyData.depthAll (us.map c9)+1<=60;lia
 rw[zJ];cases neg<;>show q
def Okd.en{ts us:-Tri}(en:∀a b c,En us a b c↔En ts a b c)(o:Okd ts k m n):Okd us k m n:=
 #[o.a.imp λ_=>(en _ _ _).mpr,λe=>(o.b e).imp λ_=>(en _ _ _).mpr,λe c h=>o.c e c\(en _ _ _).mp h]
def OI{ts us:-Tri}(en:∀a b c,En us a b c↔En ts a b c)(h:Beh ts us m n y rs k):hV us m n y rs k:=by
 cases k with
 |turn=>
  let#[c,d,h1,h2,e]:=h;erw[c,d,(en _ _ _).mpr h1,(en _ _ _).mpr h2,e]
 |out=>
  let#[c,h1,e]:=h;erw[c,(en _ _ _).mpr h1,e]
 |draw=>show h
 |inn=>
  let#[c,h1,e]:=h;erw[c,(en _ _ _).mpr h1,e]
 |on=>show h
 |close=>
  let#[r,c,f,e]:=h;erw[r,#[c.nd,λp q h=>let ⟨⟨a,h1⟩,h2⟩:=c.st p q h;#[#[a,(en _ _ _).mpr h1],λ⟨b,g⟩=>h2 #[b,(en _ _ _).mp g]]],a_ f,e]
def DueF(us:-Tri)(k:Kd)(m n y:Nat):Due->Prop
 |.deed=>False
 |.side=>¬Okd us k m n
 |.taken=>Okd us k m n/\¬Nw us k y
 |.spoilt kk=>Okd us k m n/\Nw us k y/\∃rs,hV us m n y rs k/\eW rs kk
 |.skin vs=>Okd us k m n/\Nw us k y/\∃rs,hV us m n y rs k/\Skn rs/\↑rs<=200/\Alike vs rs/\Srt vs
def eW.pm{a:-Tri}(h:eW ts k)(p:ts.Perm a):eW a k:=
 h.imp (λ⟨e,l⟩=>#[e,by rw[<-p.length_eq];show l]) λ⟨l,h⟩=>#[by rw[<-p.length_eq];show l,h.pm p]
def eW.one(h:eW ts k)(h':eW ts a):k=a:=by
 rcases h with ⟨rfl,h⟩|⟨h,b⟩<;>rcases h' with ⟨rfl,h'⟩|⟨h',c⟩
 .rfl
 .lia
 .lia
 show b.one c
def eW.no(h:eW ts k)(s:Skn ts)(l:↑ts<=200):False:=by
 rcases h with ⟨_,h⟩|⟨_,h⟩
 .lia
 show h.no s
def KG{us:-Tri}(t:SkT ts us){k:Kd}{m n y:Nat}{a b:Due}(ha:Out ts us (gh (k,m,n,y)) a)(d:DueF us k m n y b):a=b:=by
 let#[en,pm,ok,nw]:=#[t.al.en,(λh h'=>IP t.sk t.al h h':∀{rs g},Beh ts us m n y rs k->hV us m n y g k->g.Perm rs),(λo=>o.en λa b c=>(en a b c).symm:Okd us k m n->Okd ts k m n),(forall_congr' λ_=>not_congr #[λ⟨p,q,e⟩=>#[p,q,(en _ _ _).mp e],λ⟨p,q,e⟩=>#[p,q,(en _ _ _).mpr e]]:Nw us k y↔Nw ts k y)];cases a with
 |deed=>show ha.elim
 |side=>cases b with
  |deed=>show d.elim
  |side=>rfl
  |taken=>show (ha\ok d.1).elim
  |spoilt _=>show (ha\ok d.1).elim
  |skin _=>show (ha\ok d.1).elim
 |taken=>cases b with
  |deed=>show d.elim
  |side=>show (d\ha.1.en en).elim
  |taken=>rfl
  |spoilt _=>show (ha.2\nw.mp d.2.1).elim
  |skin _=>show (ha.2\nw.mp d.2.1).elim
 |spoilt kk=>
  let#[o,w,rs,j,u]:=ha;cases b with
  |deed=>show d.elim
  |side=>show (d\o.en en).elim
  |taken=>show (d.2\nw.mpr w).elim
  |spoilt k2=>
   let#[0,g,f,r]:=d;rw[u.one\r.pm (pm j f)]
  |skin ws=>
   let#[0,g,f,s,l,_]:=d;show ((u.pm (pm j f).symm).no s l).elim
 |skin vs=>
  let#[o,w,rs,j,st]:=ha;cases b with
  |deed=>show d.elim
  |side=>show (d\o.en en).elim
  |taken=>show (d.2\nw.mpr w).elim
  |spoilt k2=>
   let#[0,g,f,r]:=d;show ((r.pm\pm j f).no st.sk st.ln).elim
  |skin ws=>
   let#[0,g,f,s,_,al,so]:=d;rw[zL (List.Perm.trans st.al\((pm j f).symm.map bg).trans (List.Perm.symm al)) st.so so]
def B8{a:Due}{neg:Bool}{Q:VK}(h:i5 H r a)(h':i5 H b a)(f:∀kk,a=.spoilt kk->KdK kk)(q:Q (.bl (!neg)) H):oW [] neg (.r r) (.r b) H Q:=by
 let fin:∀d:pC,PyData.eqv d d=gm->Dt [] H (.r r) d->Dt [] H (.r b) d->d.depth<=60->oW [] neg (.r r) (.r b) H Q:=λd e h1 h2 l=>#[d,d,h1,h2,l,by rw[e];cases neg<;>show q];cases a with
 |deed=>
  show fin (.tuple [.s "deed"]) ⋯ (.u (SqT.of h)\.c (.s _ ⋯) .nil) (.u (SqT.of h')\.c (.s _ ⋯) .nil) ⋯
 |taken=>
  show fin (.tuple [.s "taken"]) ⋯ (.u (SqT.of h)\.c (.s _ ⋯) .nil) (.u (SqT.of h')\.c (.s _ ⋯) .nil) ⋯
 |side=>
  show fin (.tuple [.s "side"]) ⋯ (.u (SqT.of h)\.c (.s _ ⋯) .nil) (.u (SqT.of h')\.c (.s _ ⋯) .nil) ⋯
 |spoilt kk=>
  let#[c,e,l]:(PyData.str kk).canLay0=gm/\PyData.eqv (.tuple [.s "spoilt",.s kk]) (.tuple [.s "spoilt",.s kk])=gm/\(PyData.tuple [.s "spoilt",.s kk]).depth<=60:=by rcases f kk rfl with rfl|rfl|rfl|rfl<;>decide +kernel
  show fin (.tuple [.s "spoilt",.s kk]) e (.u (SqT.of h)\.c (.s _ ⋯) (.c (.s _ c) .nil)) (.u (SqT.of h')\.c (.s _ ⋯) (.c (.s _ c) .nil)) l
 |skin vs=>
  let#[l,o,h1,h2,g]:=h;let#[p,s,j,m,n]:=h';show fin (.tuple [.s ↑47,.list\vs.map c9]) ?_ (.u (SqT.of h1)\.c (.s _ ⋯) (.c (.a (SqL.of h2)\oB g) .nil)) (.u (SqT.of j)\.c (.s _ ⋯) (.c (.a (SqL.of m)\oB n) .nil)) ?_
  .change (PyData.eqv (.s ↑47) (.s ↑47)&&(PyData.eqv (.list\vs.map c9) (.list\vs.map c9)&&gm))=gm;rw[zJ,show PyData.eqv (.s ↑47) (.s ↑47)=gm by decide +kernel];rfl
  have:=yV vs;change max 0 (max (PyData.depthAll (vs.map c9)+1) 0)+1<=60;lia
def vO(s:Sm H H'){a:-V}{ts:-Tri}(h:ay H a ts):ay H' a ts:=Paired.imp' (by rintro _ _ ⟨b,c,d⟩;erw[b,c,s.keep d λz=>z]) h
def i5.sm(s:Sm H H'){a:Due}(h:i5 H r a):i5 H' r a:=by
 cases a with
 |deed=>show s.keep h (λz=>z)
 |taken=>show s.keep h (λz=>z)
 |side=>show s.keep h (λz=>z)
 |spoilt _=>show s.keep h (λz=>z)
 |skin _=>
  let#[l,b,h1,h2,c]:=h;erw[l,b,s.keep h1 λz=>z,s.keep h2 λz=>z,vO s c]
def rtF(i:Nat):-Tri:=[(i,(i+1)%7,(i+3)%7),(i,(i+3)%7,(i+2)%7)]
def rt:-Tri:=(List.range 7).flatMap rtF
def vC:Good rt:=#[⋯,⋯]
def LF:∀i:Fin 14,∀j:Fin 13,∃t∈(rt.eraseIdx i).eraseIdx j,6=t.1\/6=t.2.1\/6=t.2.2:=⋯
def Cv:∀t∈rt,t.1<7/\t.2.1<7/\t.2.2<7:=⋯
def uA{α:Type}:∀{l:List α}{i:Nat}{x:α},l[i]?*>x->(l.eraseIdx i++[x]).Perm l
 | [],i,x,h=>by simp at h
 |a::l,0,x,h=>by
  simp at h;subst h;show (jU (l₁:=l) (l₂:=[a]))
 |a::l,i+1,x,h=>(uA (l:=l) (i:=i) ‹h›).cons a
def F2{as bs:-Tri}(h:as.Perm bs):(ents as).Perm (ents bs):=h.flatMap_right _
def qp{H H1:Hp}{d:-V}{f:-Tri}{u:Tri}(hf:H c*>.a d)(k:∀b,b≠c->H1 b=H b)(tr:ay H d f)(g:H t*>.u [.i (u.1:Int),.i (u.2.1:Int),.i (u.2.2:Int)]):
  ay H1 (d++[V.ref t]) (f++[u]):=by
 let tn:∀{a:i4}{xs:-V},H a*>.u xs->a≠c:=λe=>bL e hf ∅;show bR (Paired.imp' (by rintro _ _ ⟨a,j,h⟩;erw[a,j,(k _\tn h)<*h]) tr)\.c #[t,1,(k _\tn g)<*g] .nil
def vp{a pv:-V}{c:-Tri}(b:But p H H')(e:H p*>.a pv)(h:ay H a c):ay H' a c:=
 Paired.imp' (by rintro _ _ ⟨f,g,d⟩;erw[f,g,b _ _ (bL d e ∅) d]) h
def z6{α β:Type}{F:α->β->Prop}:∀{xs:List α}{ys:List β}(k:Nat),Paired F xs ys->Paired F (xs.eraseIdx k) (ys.eraseIdx k)
 |_,_,_,.nil=>.nil
 |_,_,0,.cons _ t=>t
 |_,_,k+1,.cons h t=>.c h\z6 k t
def Jc(vs:-V)(H:Hp)(Q:VK)(p:i4)(q:Int×Int):Prop:=vs=[.r p]/\H p*>.a (bO q)/\cq q/\
 ∀r vr ts a H',H r=gf->But p H H'->H' p*>.a (bO a)->cq a->H' r*>.a vr->ay H' vr ts->↑ts<=16->Good ts->Q (.r r) H'
def BF:Sp:=fV Jc
section
def jv:aQ [↑1,↑0,"_law_i","_law_way",↑77,"_law_gone",↑97] [↑1] (au rN):=.f
def J7{f f1 f2 f3:i4}{fd d1 d2 d3:kS}(U:Fun K ↑93 ↑93 rN f fd)(T:cv mg)(mM:mg "max" = gf)
  (GD:!Use 2 ↑30 [↑1,↑52] jq f1 d1)
  (GC:!Use 2 ↑18 [↑0] iL f2 d2)
  (GS:!Use 2 ↑42 [↑8] lM f3 d3) :
  !az CX0 3 f fd [↑1] BF:=by
 show U.ok jv (!2) λ_ _ _ s H _ _ _ hr h=>?_
 let#[p,q,1,hp,a5,Qq]:=h;let hu:=dC hr;erw[_,(af (sx 1 jv.nd\bp fh)
  (af (dD dA rfl (lB rfl T.range\pa1 ah) (gx 2 jv.nd)
   (af (dN\dX eO gG gH fB (pv 1) (pa1\ao (ae (pv 2)\ae (aD fT (aD cU (pv 2) ah) ah) (pa1\aD fT (aD cU (pv 2) ah) ah))))
  (aj\dN (dX eO gG gH fB (pv 1)\pa1 (ao\ae (pv 2) (ae (aD fT (aD cU (pv 2) ah) ah)\pa1 (aD fT (aD cU (pv 2) ah) ah)))))))
  (af (sx 3 jv.nd\uc GD hr (ae (pv 0)\pa1 ah))
  (af (dD dA rfl (lB rfl T.range\pa1 (aD fT (pv 3) ah)) (gx 4 jv.nd)
   (af (sx 5 jv.nd\dX eO P_ Qd Ab (pv 1) (pa1\uc GD hr (ae (pv 0)\pa1 (pln T.len\pv 1))))
  (aj\bf (aT cn (pv 4) ah\nomark _) (af (sx 6 jv.nd\aD cU (bP (p4 rfl) (by rfl) mM xE\pa1 (uc GC hr\pa1 (pv 1))) ah)
  (aj\sx 1 jv.nd (aD dP (pv 1) (dq (N:=["_law_p","_law_q",↑97]) (fr:=[gf,gf,gh 6]) (g:=kH [] 2\fU (dv 0) (fU (dv 1) kI)) (te:=oQ\bZ (aN 0) (bZ (aN 1)\bZ (aN 2) dH)) cpK rfl (bT\uc GS hr (pa1\pv 5))
    (λC' s' H' fp Sn=>#[(du rfl\aY (gx 0 (⋯:(["_law_p","_law_q",↑97]:-Str).Nodup)) (aY (gx 1 (⋯:(["_law_p","_law_q",↑97]:-Str).Nodup)) dh)),dZ,(ao\ae (pv 0) (ae (pv 1)\pa1 (pv 2)))]))))) ba)))
  (aj\aF (pv 1)))))),?_]
 let ca:=line5000;erw[aZ _,λD H1 ag s1 y1=>?_];let bn:D≠p:=λz=>by rw[z,hp] at ag;cases ag
 erw[2,⋯,⋯,?_];show nW (lo:=0) (n:=7) (λi Z H'=>∃v B,Z=[gh\V.ref p,gh\.r D,v,gf,gf,gf,gf]/\Same H H'/\H' D*>.a B/\ay H' B\(List.range i).flatMap rtF)
  #[gf,[],1,s1,y1,.nil] ?_ ?_
 .rintro i Z H2 hi ⟨v,B,rfl,sm,ap,O⟩;let cb:↑B<=100:=by
   rw[aE O,List.length_flatMap];have:((List.range i).map λa=>↑(rtF a)).sum=2*i:=by
    let e:(List.range i).map (λa=>↑(rtF a))=List.replicate i 2:=by rw[List.eq_replicate_iff];erw[∅,λb hb=>by let#[x,2]:=ax.mp hb;rfl]
    rw[e];clear e;have:∀n:Nat,(List.replicate n 2).sum=2*n:=λn=>by
     induction n with
     |zero=>rfl
     |succ n ih=>rw[List.replicate_succ,List.sum_cons,ih];lia
    show this i
   lia
  erw[2,.l #[1,_,SqL.of ap],3,6,6,(⋯:(0:Int)<7),2,6,6,(⋯:(0:Int)<7),lit3,λt H3 ht s3 y3=>?_];let bt:H3 t*>.u [.i (i:Int),.i (((i+1)%7:Nat):Int),.i (((i+3)%7:Nat):Int)]:=by rw[show (0+(i:Int))=(i:Int) by lia] at y3;show y3
  let a6:=s3>>ap;erw[D,B,2,1,a6,(),λH4 k4 y4=>?_];let I:=qp (u:=(i,(i+1)%7,(i+3)%7)) a6 k4 (O.same s3) bt;let bw:Same H H4:=λd o e=>(k4 d\ak e ag)<*(s3>>sm>>e);erw[2,.l #[1,_,SqL.of y4],3,6,6,(⋯:(0:Int)<7),2,6,6,(⋯:(0:Int)<7),lit3,λt2 H5 cc s5 y5=>?_];let bx:H5 t2*>.u [.i (i:Int),.i (((i+3)%7:Nat):Int),.i (((i+2)%7:Nat):Int)]:=by rw[show (0+(i:Int))=(i:Int) by lia] at y5;show y5
  let bb:=s5>>y4;erw[D,6,bb,by rw[bo,cV];lia,λH6 L y6=>?_];let S:=qp (u:=(i,(i+3)%7,(i+2)%7)) bb L (I.same s5) bx;erw[9,λd o e=>(L d\ak e ag)<*(s5>>bw>>e),y6,?_];rw[Da,Pc];simpa [rtF] using S
 rintro Z H2 ⟨v,B,rfl,sm,ap,O⟩;let O:ay H2 B rt:=O;let#[d1,d2]:=dU (q:=q) (b:=4) ⋯;let#[wy,ew]:∃wy:Nat,digO q 4=(wy:Int):=#[_,(fK d1).symm];erw[2,p,q,(4),1,sm>>hp,a5,⋯,⋯,λH3 k3 y3=>?_];rw[ew] at d2 |-;erw[2,6,(⋯:(0:Int)<3),2,(),(),?_];let hw:((wy:Int)%3).toNat<=2:=();generalize ((wy:Int)%3).toNat=W at hw;let b3:But p H H3:=λd o n e=>(k3 d n)<*(sm>>e);show nW (lo:=0) (n:=W) (λi Z H'=>∃v o4 o5 o6 l r tc q',Z=[gh\V.ref p,gh\.r l,v,gh\.i (wy:Int),o4,o5,o6]/\But p H H'/\H' p*>.a (bO q')/\cq q'/\H l=gf/\H' l*>.a r/\ay H' r tc/\(i=0/\tc=rt\/(i=1/\∃j:Fin 14,tc=rt.eraseIdx j)\/i=2/\↑tc<=16/\Good tc))
  #[_,gf,gf,gf,D,B,rt,2,b3,y3,b7 a5,ag,(k3 D bn)<*ap,Paired.imp' (by rintro _ _ ⟨d,M,y⟩;erw[d,M,(k3 d (bL y (sm>>hp) ∅))<*y]) O,.l #[5]] ?_ ?_
 .rintro i Z H4 hi ⟨v,o4,o5,o6,l,r,tc,X,rfl,b4,al,am,ab,an,I,ad⟩;let ad:i=0/\tc=rt\/(i=1/\∃j:Fin 14,tc=rt.eraseIdx j):=ad.imp_right λh=>h.resolve_right λ⟨z,_⟩=>();let cd:13<=↑tc/\↑tc<=14:=by
   rcases ad with ⟨_,rfl⟩|⟨_,j,rfl⟩
   .decide
   rw[xj (show (j:Nat)<↑rt from j.2)];decide
  let ce:=aE I;let#[M,y]:=dU (q:=X) (b:=(↑r:Int)) ();let#[k,hk]:∃k:Nat,digO X (↑r:Int)=(k:Int):=#[_,(fK M).symm];let a0:k<↑tc:=();let#[#[a,b,c],a1]:∃s,tc[k]?*>s:=#[_,aR a0];let#[zv,bA,tt,1,bc]:=vZ I a1;let bd:l≠p:=λz=>by rw[z,hp] at ab;cases ab
  erw[2,.l #[1,_,SqL.of an],3,l,2,.l\SqL.of an,p,X,2,al,am,(),lC () (),λH5 k5 y5=>?_];rw[hk];let a2:=(k5 l bd)<*an;erw[l,r,(k:Int),k,2,1,a2,(),(),AJ (),bA,λH6 L y6=>?_];let#[b5,bK,be,b6,a3,S,bM]:=#[(λd o n e=>(k5 d n).trans\b4 _ _ n e:But p H H5),(Paired.imp' (by rintro _ _ ⟨d,M,y⟩;erw[d,M,(k5 d (bL y al ∅))<*y]) I:ay H5 r tc),((k5 tt (bL bc al ∅))<*bc:H5 tt*>.u [.i (a:Int),.i (b:Int),.i (c:Int)]),(λd o n e=>(L d\ak e ab).trans\b5 _ _ n e:But p H H6),((L p\aB bd)<*y5:H6 p*>.a (bO\nxt X (↑r:Int))),(Paired.imp' (by rintro _ _ ⟨d,M,y⟩;erw[d,M,(L d (bL y a2 ∅))<*y])\z6 k bK:ay H6 (r.eraseIdx k) (tc.eraseIdx k)),(L tt (bL be a2 ∅))<*be];erw[2,7,?_];rcases ad with ⟨rfl,rfl⟩|⟨rfl,j,rfl⟩
  .exact aA #[8,_,l,8,1,b6,a3,b7 am,ab,y6,S,.o\.l #[1,#[k,a0],1]]
  show aL ?_;let bN:↑(rt.eraseIdx j)=13:=by rw[xj (show (j:Nat)<↑rt from j.2)];rfl
  let bS:↑((rt.eraseIdx j).eraseIdx k)=12:=by rw[xj a0,bN]
  let cf:=aE S;erw[2,l,9,y6,S,(),λrc cs H7 cg s7 y7 bi lcs=>?_];let six:6∈cs:=by rw[bi.2];let#[t,h1,h2]:=LF j #[k,()];show jd.mpr #[t,h1,‹h2›]
  let hle:∀x∈cs,x<7:=λx hx=>by
   rw[bi.2] at hx;let#[#[t,h1,h2],h3,h2]:=#[jd.mp hx,Cv t\(kN _ _).subset ((kN _ _).subset h1),(‹h2›:x=t.1\/x=t.2.1\/x=t.2.2)]
   lia
  erw[rc,cs.map λc:Nat=>(c:Int),1,SqL.of (by rw[y7];simp[nV]),λz=>?_,λm hm bX=>#[6,?_]]
  .rw[xl.mp z] at six;cases six
  let em:m=6:=by let#[x,hx,1]:=ax.mp hm;have:=bX 6\ax.mpr #[(6),six,1];have:=hle x hx;lia
  subst em;erw[3,tt,(a,b,c),1,s7>>bM,λZ_ zs H8 ch s8 y8 sd=>?_];let b0:=s7<*s8;erw[Z_,1,#[_,SqL.of y8],λY hY=>dM (K:=[]) (a:=Z_) (xs:=zs) (λi Z ys H'=>∃o1 v,Z=[o1,v,gh\.i 7]/\Same H8 H'/\H' Y*>.a ys/\ay H' ys (((cJ (a,b,c)).take i).map λs=>(s.1,s.2,7)))
   #[gf,gf,1,bG hY,aH,.nil] (by rintro i Z ys H' _ ⟨_,_,_,e,_⟩;show SqL.of (e>>y8)) ?_ ?_]
  .rintro i x Z ys H' hi ⟨o1,b1,rfl,aM,a4,C⟩;let#[#[x1,x2],hs,c',1,b2]:=bY sd hi;erw[c',2,SqT.of (aM>>b2),1,9,6,?_];erw[3,2,lit3,λt H9 ht s9 y9=>?_];let bl:=s9>>a4;erw[bl,?_,λHn kn yn=>#[9,λd o e=>(kn d\ak e hY)<*(s9>>aM>>e),yn,?_]]
   .rw[aE C,av,bz];simp[cJ];lia
   rw[bC,hs,aV];show qp (u:=(x1,x2,7)) bl kn (C.same s9) y9
  rintro Z ys H9 ⟨o1,b1,rfl,aM,a4,C⟩;let l3:↑zs=3:=aE sd;rw[l3] at C;let C:ay H9 ys [(a,b,7),(b,c,7),(c,a,7)]:=C;let aS:=b0<*aM;erw[l,Y,6,aS>>y6,a4,by have:=aE C;simp at this;lia,λR ci hR bm b8=>?_];let st:=aS<*bm;let b9:H R=gf:=by
   cases e:H R with
   |none=>rfl
   |some o=>
    by_cases ep:R=p
    .rw[ep,aS>>a3] at hR;cases hR
    rw[aS>>(b6 _ _ ep e)] at hR;cases hR
  erw[8,_,R,8,1,λd o n e=>st>>(b6 _ _ n e),st>>a3,b7 am,b9,b8,bR (S.same st)\C.same bm,.o\.o #[1,?_,?_]]
  .rw[bo,bS];show (⋯:12+3<=16)
  show FY (FX (uX vC\kN rt j)\F2 (uA a1)) λz=>?_;let#[t,h1,h2]:=cK.mp z;let h3:=Cv t\(kN _ _).subset ((uA a1).mem_iff.mp h1);lia
 rintro Z H4 ⟨v,o4,o5,o6,l,r,tc,X,rfl,b4,al,am,ab,an,I,ad⟩;let hh:↑tc<=16/\Good tc:=by
  rcases ad with ⟨_,rfl⟩|⟨_,j,rfl⟩|⟨_,h⟩
  .exact#[⋯,vC]
  .exact#[cQ (kN rt j).length_le ⋯,uX vC\kN rt j]
  show h
 erw[2,Qq l r tc X H4 ab b4 al am an I hh.1 hh.2]
end
def Ft(vs:-V)(H:Hp)(Q:VK)(S T:i4)(a b:-V)(ss ts:-Tri):Prop:=vs=[.r S,.r T]/\H S*>.a a/\ay H a ss/\↑ss<=10/\Good ss/\H T*>.a b/\ay H b ts/\↑ts<=10/\Good ts/\
 ∀r vr rs H',H r=gf->Same H H'->H' r*>.a vr->ay H' vr rs->↑rs<=20->Good rs->Q (.r r) H'
def zR:Sp:=mJ Ft
section
def zV:aQ [↑67,"_law_other","_law_more"] [↑67,"_law_other"] (au qu):=.f
def FK{f f2:i4}{fd d2:kS}(U:Fun K ↑61 ↑61 qu f fd)(T:cv mg)(mM:mg "max" = gf)
  (GC:!Use 2 ↑18 [↑0] iL f2 d2) :
  !az CX0 3 f fd [↑67,"_law_other"] zR:=by
 show U.ok zV (!6) λ_ _ _ _ H _ Q _ hr h=>?_
 let#[S,T0,am,vt,ss,ts,1,hS,B,lS,gS,hT,an,lT,gT,Qq]:=h;let hu:=dC hr;erw[_,(af (sx 2 zV.nd\aD cU (bP (p4 rfl) (by rfl) mM xE\pa1 (aD dP (uc GC hr\pa1 (pv 0))\bp (pa1\iA iw ah))) ah)
  (aj\aF (aD dP (pv 0) (dq (N:=[↑8,"_law_more"]) (fr:=[gf,gh 2]) (te:=tCB (λxs H Q=>∃p ys,xs=[.r p]/\((SqL [] H p ys/\∀l,H l=gf->Q (.r l)\upd H l (.u ys))\/(SqT [] H p ys/\Q (.r p) H)))\bZ (mz (oY []\aN 0) (dv 0) (λ_ H Q=>Q gm H) (tOp (rI0 λi j=>.i (i+j)) (aN 0)\aN 1) [gf,gh 1]) dH) cpK rfl (bT\pv 1)
    (λC' s' H' fp Sn=>#[(gx 0 (⋯:([↑8,"_law_more"]:-Str).Nodup)),dZ,(de lh (by rfl) T.tuple jW\pa1 (dq (N:=[↑9,"_law_more"]) (fr:=[gf,gh 1]) (te:=tOp (rI0 λi j=>.i (i+j)) (aN 0)\aN 1) cpK rfl (l_\pv 0)
    (λC' s' H' fp Sn=>#[(gx 0 (⋯:([↑9,"_law_more"]:-Str).Nodup)),dZ,(aD cU (pv 0)\pv 1)])))]))))),?_]
 let a0:=line5000;erw[2,S,am,ss,1,hS,B,(),λL cs H1 a1 s1 y1 ap lcs=>?_];erw[2,lit1,λl1 H2 g1 s2 y2=>?_];erw[L,l1,6,s2>>y1,y2,by rw[bE];simp only[cV];lia,λl2 H3 g2 s3 y3=>?_];erw[l2,cs.map (λc:Nat=>(c:Int))++[-1],1,SqL.of (by rw[y3];simp[nV]),∅,λm hm ab=>#[6,?_]];let#[n,hn]:∃n:Nat,m+1=(n:Int):=by have:=ab (-1) ∅;erw[(m+1).toNat,()]
 let aM:∀c,Co ss c->c<n:=λc hc=>by
  have:c∈cs:=by rw[ap.2];let#[t,h1,h2]:=cK.mp hc;show jd.mpr #[t,h1,‹h2›]
  have:=ab (c:Int)\eK _ (ax.mpr #[c,this,1]);lia
 change dv 2 (V.int (m+1)) _ _ _;rw[hn];let C:=(s1<*s2)<*s3;let ad:=C>>hT;let ag:=an.same C;let gN:Good (ts.map\nam (· + n)):=Ai gT (λa b _ _ h=>‹h›);erw[3,T0,1,#[_,SqL.of ad],λZ_ hZ=>dM (K:=[]) (a:=T0) (xs:=vt) (λi Z ys H'=>∃o,Z=[o,gh\.i (n:Int)]/\Same H3 H'/\H' Z_*>.a ys/\ay H' ys\(ts.take i).map (nam (· + n)))
  #[gf,1,bG hZ,aH,.nil] (by rintro i Z ys H' _ ⟨_,_,e,_⟩;show SqL.of (e>>ad)) ?_ ?_]
 .rintro i x Z ys H' hi ⟨o,rfl,sm,D,d⟩;let#[#[#[a,b,c],hs,t,1,g],g,a2]:=#[bY ag hi,(g:H3 t*>.u [.i (a:Int),.i (b:Int),.i (c:Int)]),(aO.mp hs).1];erw[2,t,1,#[_,SqT.of (sm>>g)],λY hY=>n_ (K:=[]) (a:=t) (xs:=nV [a,b,c]) (λi Z ys I=>∃o,Z=[o,gh\.i (n:Int)]/\ys=nV (([a,b,c].take i).map (· + n))/\Same H' I/\I Y*>.a ys) #[gf,5,bG hY,aH] (by rintro i Z ys I _ ⟨_,_,_,e,_⟩;show SqT.of (e>>sm>>g)) ?_ ?_]
  .rintro j x Z zs M hj ⟨o,rfl,rfl,O,X⟩;rw[nV,br] at hj;let#[z,hz,1]:=cz.mp hj;let a3:j<3:=(aO.mp hz).1;erw[3,6,X,?_,λHn r yn=>#[2,?_,λv o e=>(r v\ak e hY)<*(O>>e),yn]]
   .rw[bE,av,bz];simp;lia
   rw[bC,hz,aV,<-fE];rfl
  rintro Z zs M ⟨o,rfl,rfl,O,X⟩;erw[Y,2,.l #[SqL.of X,λt' aS=>?_]];walk_at"M t' aS H5 q y5";let st:=O<*q;let al:=st>>D;erw[al,?_,λHn r yn=>#[2,λv o e=>(r v\ak e hZ)<*(st>>sm>>e),yn,?_]]
  .rw[aE d,av,bz];lia
  rw[bC,hs,aV];show qp (u:=(a+n,b+n,c+n)) al r (d.same st) y5
 rintro Z ys M ⟨o,rfl,sm,D,d⟩;rw[aE ag,cm] at d;let lz:=aE d;rw[av] at lz;let lv:=aE B;let y:=C<*sm;erw[S,Z_,6,y>>hS,D,(),λR H5 hR q y5=>?_];show Qq R _ _ H5 (y.free hR) (y<*q) y5 (bR (B.same\y.trans q)\d.same q) ?_ ?_
 .rw[bo,av];lia
 show Ip gS gN λa ha g=>?_;have:=aM a ha;let#[#[b,c,e],#[a',v,c',_,h2,_],h2]:=#[g,B7 gT (λa b _ _ h=>‹h›) e,(h2:a=a' + n)];lia
end
def qB{vr:-V}{ts:-Tri}{q:Int×Int}(a:H r*>.a vr)(tr:ay H vr ts)(c:H p*>.a\bO q):r≠p:=λz=>by
 rw[z,c] at a;cases a;cases tr with
 |cons h _=>
  let#[b,e,_]:=h;cases e
def Gy(vs:-V)(H:Hp)(Q:VK)(p:i4)(q:Int×Int):Prop:=vs=[.r p,.i 16]/\H p*>.a (bO q)/\cq q/\
 ∀r vr ts a H',r≠p->But p H H'->H' p*>.a (bO a)->cq a->H' r*>.a vr->ay H' vr ts->↑ts<=20->Good ts->(∀c,Co ts c->One (En ts) c)->Q (.r r) H'
def AA:Sp:=fV Gy
section
def AM:aQ [↑1,↑41,"_law_way"] [↑1,↑41] (au rM):=.f
def HM{f f1 f2 f3 f4 f5 f6:i4}{fd O S d3 d4 d5 d6:kS}(U:Fun K ↑92 ↑92 rM f fd)
  (GD:!Use 3 ↑30 [↑1,↑52] jq f1 O)
  (GR:!Use 3 ↑93 [↑1] BF f2 S)
  (D:!Use 3 ↑75 [↑0] vw f3 d3)
  (GB:!Use 3 ↑61 [↑67,"_law_other"] zR f4 d4)
  (T:!Use 3 ↑78 [↑1,↑41] AD f5 d5)
  (X:!Use 3 ↑81 [↑1,↑41] AF f6 d6) :
  !az CX0 4 f fd [↑1,↑41] AA:=by
 show U.ok AM (!2) λ_ _ _ _ H _ Q E a h=>?_
 let#[p,q,1,hp,x,Qq]:=h;erw[_,(af (sx 2 AM.nd\uc GD a (ae (pv 0)\pa1 ah))
  (af (bf (PW.pt\fQ (aT cn (pv 2) ah\nomark _) (fZ\aT oM (pv 1) ah (nomark _))) (aj\aF (uc D a\pa1 (uc GR a\pa1 (pv 0)))) ba)
  (af (bf (aT cn (pv 2) ah\nomark _) (aj\aF (uc D a\pa1 (uc GB a\ae (uc T a\ae (pv 0) (pa1\aD lH (pv 1) ah)) (pa1\uc X a (ae (pv 0)\pa1 (aD lH (pv 1) ah)))))) ba)
  (af (bf (aT tm (pv 2) ah\nomark _) (aj\aF (uc D a\pa1 (uc X a\ae (pv 0) (pa1\pv 1)))) ba)
  (aj\aF (uc D a\pa1 (uc T a\ae (pv 0) (pa1\pv 1)))))))),?_]
 let#[O,S]:=dU (q:=q) (b:=8) ⋯;erw[2,p,q,(8),1,hp,x,⋯,⋯,λH1 k1 y=>?_];let b1:But p H H1:=λm o n e=>(k1 m n)<*e;let end_:∀(R:i4)(vr:-V)(ts:-Tri)(I:Int×Int)(H2:Hp),But p H1 H2->H2 p*>.a (bO I)->cq I->H2 R*>.a vr->ay H2 vr ts->↑ts<=20->Good ts->vw [.r R] H2 Q E:=by intro R vr ts I H2 d c g j tr B l;erw[R,vr,ts,1,j,tr,B,l,λr ab ad Y M Z L l3 g3 o3=>?_];show Qq r ab ad I Y (qB Z L (M>>c)) (λm o n e=>M>>(d m o n\b1 m o n e)) (M>>c) g Z L () g3 o3
 erw[2,7,?_];generalize digO q 8=u at *;by_cases h0:u=0
 .subst h0;show aL #[2,6,2,aL ?_];erw[2,p,2,y,b7 x,λR vr ts v H2 C d c g j tr B l=>?_];show end_ R vr ts v H2 d c g j tr () l
 rw[show decide (V.int u=V.int 0)=hB from Sj λz=>h0\V.int.inj z];show aA\aA #[2,7,?_];by_cases h1:u=1
 .subst h1;show aL ?_;erw[3,6,#[⋯,⋯],p,_,(8),1,y,b7 x,⋯,λR vr ts v H2 C d c g j tr B l=>?_];erw[3,6,#[⋯,⋯],p,_,(8),1,c,g,⋯,λR3 ag al q3 Y a5 N am an ap L a6 aM=>?_];let aS:R≠p:=λz=>by rw[z,y] at C;cases C
  erw[R,R3,vr,ag,ts,al,1,N _ _ aS j,vp N c tr,(),l,ap,L,(),aM,λR4 a0 a1 H4 bb s4 a2 a3 bc a4=>?_];show end_ R4 a0 a1 q3 H4 (λm o n e=>s4>>(N m o n\d m o n e)) (s4>>am) an a2 a3 () a4
 rw[show decide (V.int u=V.int 1)=hB from Sj λz=>h1\V.int.inj z];show aA #[2,6,2,?_];change if decide (u<5)=gm then _ else _
 by_cases h5:u<5
 .rw[Si h5];show aL ?_;erw[3,p,_,(16),1,y,b7 x,⋯,λR vr ts v H2 C d c g j tr B l=>?_];show end_ R vr ts v H2 d c g j tr () l
 rw[Sj h5];show aA ?_;erw[3,p,_,(16),1,y,b7 x,⋯,λR vr ts v H2 C d c g j tr B l=>?_];show end_ R vr ts v H2 d c g j tr () l
end
def Ls(K:W.Frag)(vs:-V)(H:Hp)(Q:VK)(a:i4)(ns:-Int):Prop:=vs=[.r a]/\SqL [] H a (ns.map V.int)/\↑ns<=63/\∀H',Q (.bl gm) H'
def sP(K:W.Frag):Sp:=fV\Ls K
def Lm(h:SqL [] H a xs)(k:∀b o,H b*>o->H' b*>o):SqL [] H' a xs:=by
 rcases h with (e|⟨o,e⟩)|h
 .exact .l\.l (k>>e)
 .exact .l\.o #[o,k>>e]
 show .o h
def Ll(h:SqL [] H a xs)(s:Sm H H'):SqL [] H' a xs:=by
 rcases h with (e|⟨o,e⟩)|h
 .exact .l\.l (s.keep e λz=>z)
 .exact .l\.o #[o,s.keep e λz=>z]
 show .o h
def Oo{j:Nat}(h:j<6):∃k:Kd,atI [V.str "turn",.s "in",.s "on",.s "out",.s "close",.s "draw"] (j:Int)*>.s k.sgn:=by
 rcases j with _|_|_|_|_|_|j
 .exact#[.turn,aW (j:=0) rfl]
 .exact#[.inn,aW (j:=1) rfl]
 .exact#[.on,aW (j:=2) rfl]
 .exact#[.out,aW (j:=3) rfl]
 .exact#[.close,aW (j:=4) rfl]
 .exact#[.draw,aW (j:=5) rfl]
 lia
structure Row(us:-Tri):Prop where
 sk:Skn us
 so:Srt us
 al:Alike us us
 ln:↑us<=200
 bd:∀c,Co us c->c<10 ^ 60
def BP{us ws:-Tri}(sn:Skn ts)(pm:us.Perm ws)(b:Paired Bg ts ws)(so:Srt us)(l:↑ts<=200)(a:∀c,Co ts c->c<10 ^ 60):Row us:=by rw[sy sn.g.ne b] at pm;let al:Alike us ts:=pm;erw[sn.pm al.ents,so,E_ al,by have:=al.length_eq;rw[av] at this;lia,λc ⟨d,f,e⟩=>a c #[d,f,(al.en _ _ _).mp e]]
structure Sth(Cs p T x L:i4)(vT:-V)(us:-Tri)(ds:-Nat)(H:Hp):Prop where
 yT:H T*>.a vT
 tT:ay H vT us
 sk:c_ Cs H x us us
 yL:H L*>.a\nV ds
 nL:L≠p
def Sth.sm{Cs:i4}{us:-Tri}(h:Sth Cs p T x L a us ds H)(s:Sm H H'):Sth Cs p T x L a us ds H':=#[s.keep h.yT λz=>z,vO s h.tT,h.sk.sm s,s.keep h.yL λz=>z,h.nL]
def Sth.but{Cs:i4}{us:-Tri}{q:Int×Int}(h:Sth Cs p T x L c us ds H)(a:H p*>.a\bO q)(b:But p H H'):Sth Cs p T x L c us ds H':=#[b _ _ (qB h.yT h.tT a) h.yT,vp b a h.tT,h.sk.but a b,b _ _ h.nL h.yL,h.nL]
def pick{ds:-Nat}(q:Int×Int)(h:0<↑ds):∃m:Nat,atI (nV ds) (digO q (↑(nV ds):Int))*>.i (m:Int)/\m∈ds:=by
 let#[c,a]:=dU (q:=q) (b:=(↑(nV ds):Int)) (by rw[bE];lia);let#[j,d]:∃j:Nat,digO q (↑(nV ds):Int)=(j:Int):=#[_,(fK c).symm];rw[d] at a |-;let e:j<↑ds:=by rw[bE] at a;lia
 erw[ds[j],aW (by rw[nV,br,aR e];rfl),ja _]
def yW(n:Nat):↑(strip n)=n:=by unfold strip;rw[av,jR]
def Gm(h:Co (strip n) c):c<=n+1:=by let#[p,q,h]:=h;let#[k,a,h]:=qq.mp h;unfold S3 at h;lia
section
def eG:aQ [↑13,↑1,↑0,"_law_many",↑69,"_law_corners_here",↑77,↑32,"_law_some",↑9,"_law_word",↑27,"_law_due_here"] [↑13] (au jI):=.f
def Mb{f1 f2 f3 f4 f5 f6 f7 f8 f9 cj co cp cr Cs C CM:i4}{d1 d2 d3 d4 d5 d6 d7 d8 d9 ct cx cy cZ:kS}(U:Fun K "law" "law" jI f d)(T:cv mg)(mS:mg ↑48 = gf)(mM:mg "max" = gf)(X:SCls K Cs)
  (GP:!Use 2 "_law_pot" [↑13,↑77] (Cp K) f1 d1) (GN:!Use 2 ↑76 [↑1,↑0] Ax f2 d2) (GS:!Use 4 ↑92 [↑1,↑41] AA f3 d3) (MK:Mk K Cs f4) (GK:!az (CX1 P w) 5 f4 d4 [↑87,↑56] (vR Cs C CM)) (bK:Binds K d4 [↑87,↑56] []) (mK:mg "Skin"*>.r Cs)
  (GO:!Use 1 ↑91 [↑0] BE f5 d5) (GC:!Use 2 ↑18 [↑0] iL f6 d6) (GD:!Use 1 ↑30 [↑1,↑52] jq f7 d7) (GT:!Use 1 ↑24 [↑0] jk f8 d8) (GU:!Use 5 "_law_due" [↑0,↑27] BI f9 d9) (GA:!Use 8 ↑63 [↑69,↑27] (BL K Cs) cj ct)
  (GR:!Use 1 ↑74 ["_law_many"] Au co cx) (GB:!Use 2 "_law_odd" [↑1,↑32,↑9] (Cr K) cp cy) (MT:!gq Cs 1 ↑43 [↑87] (kD Cs) cr cZ) :
  !az CX0 9 f d [↑13] (sP K):=by
 show U.ok eG (!2) λ_ _ _ s H vs _ _ hr h=>?_
 let#[a,ns,1,bM,ej,q]:=h;let ab:=hr.mono (⋯:1<=8);let ag:=hr.mono (⋯:2<=8);let bN:=hr.mono (⋯:4<=8);let c2:=hr.mono (⋯:5<=8);let c3:=hr.mono (⋯:6<=8);let ek:=line5000;erw[_,(af (sx 1 eG.nd\uc GP ag (ae (pv 0)\pa1 ah))
  (af (sx 2 eG.nd\uc GO ab (pa1\uc GN ag (ae (pv 1)\pa1 (uc GS bN\ae (pv 1) (pa1 ah)))))
  (af (sx 3 eG.nd ah)
  (af (bf (aT cn (uc GD ab\ae (pv 1) (pa1 ah)) ah\nomark _) (af (sx 3 eG.nd ah)
  (aj\sx 2 eG.nd (uc GO ab\pa1 (uc GR ab\pa1 (aD cU ah\uc GD ab (ae (pv 1)\pa1 ah)))))) ba)
  (af (sx 4 eG.nd\AZ MK GK c3 rfl mK bK .nil Oe (pa1\de uw (by rfl) T.list pG (pa1\pv 2)))
  (af (sx 1 eG.nd\uc GP ag (ae (pv 0)\pa1 ah))
  (af (sx 5 eG.nd\aD dP (uc GC ag\pa1 (pv 2)) (bp\ae ah (ae ah\pa1 ah)))
  (af (dD dA rfl (lB rfl T.range\pa1 (aD cU ah\uc GD ab (ae (pv 1)\pa1 (pv 3)))) (gx 6 eG.nd) (af (sx 7 eG.nd\ao (ae (ixx bQ (pv 5)\uc GD ab (ae (pv 1)\pa1 (pln T.len\pv 5)))\pa1 (ixx bQ (pv 5)\uc GD ab (ae (pv 1)\pa1 (pln T.len\pv 5)))))
  (af (sx 8 eG.nd\aD dP (bP (nK rfl) (by rfl) mS iJ\pa1 (uc GT ab\pa1 (pv 2))) (bp\pa1 (pv 7)))
  (af (bf (aT oM (uc GD ab\ae (pv 1) (pa1 ah)) ah\nomark _) (aj\sx 7 eG.nd (ixx bQ (pv 8)\uc GD ab (ae (pv 1)\pa1 (pln T.len\pv 8)))) ba)
  (af (sx 9 eG.nd\ixx bQ (bp\ae (ixx bQ (pv 5)\uc GD ab (ae (pv 1)\pa1 (pln T.len\pv 5))) (pa1\aD cU (bP (p4 rfl) (by rfl) mM xE\pa1 (pv 5)) ah)) (uc GD ab\ae (pv 1) (pa1 ah)))
  (af (kj (i:=10) eG.nd rfl (.l rfl)\ixx bQ (bp\ae aK (ae aK\ae aK (ae aK\ae aK (pa1 aK)))) (uc GD ab\ae (pv 1) (pa1 ah)))
  (af (kj (i:=11) eG.nd rfl (.l rfl)\iN vz (ao\ae (pv 10) (ae (pv 7)\pa1 (pv 9))) iQ (iP\aD jz ah (de gL (by rfl) T.int ie\pa1 (ff j2 (pv 10) (ao\ae aK (ae aK\pa1 aK)) rfl))))
  (af (kj (i:=12) eG.nd rfl (.l rfl)\uc GU c2 (ae (pv 2)\pa1 (pv 11)))
  (af (bf (aT cn (ixx a7 (pv 12) ah) aK\nomark _) (aj\kj (i:=12) eG.nd rfl (.l rfl) (ao\ae aK (pa1\uc GO ab (pa1\ixx a7 (pv 12) ah)))) ba)
  (aj\bf (PW.pt\iz (aT (v_ hr.units) (uc GA hr\ae (pv 4) (pa1\pv 11)) (pv 12)\nomark _) (iT\aT (v_ hr.units) (uc GA hr\ae (pv 4) (pa1\uc GB ag (ae (pv 1)\ae (pv 7) (pa1\pv 9)))) (ao\pa1 aK) (nomark _))) (aj\aF gi) ba))))))))))
  (aj\aF (ff (BZ hr.units) (lG (pv 4) X.cl MT.m MT.g ab MT.b .nil pass0) (pv 2)\nomark _)))))))))),?_]
 erw[2,a,ns,(1),1,bM,⋯,⋯,λp1 H1 am s1 y1=>?_];let bS:cq (potOf ns 1):=Ad ns ⋯ ⋯;generalize potOf ns 1=q1 at y1 bS;erw[3,p1,2,y1,bS,λr vr c4 q2 H2 em c5 bX c6 yr tr eo g0 c8=>?_];erw[p1,r,_,vr,c4,1,bX,c6,yr,qB yr tr bX,tr,(),g0,λR vt ts q3 H3 ep db dc b0 yR tR ll g hb one=>?_];let k3:∀b o,H b*>o->H3 b*>o:=λb o e=>db _ _ (ak e am)\c5 _ _ (ak e am) (s1>>e);let sn:Skn ts:=#[g,one c8];let dj:↑ts<=200:=();erw[R,vt,ts,1,yR,tR,(),g.ne,λT0 dk dl ws H4 eq s4 yT tT pm an ap=>?_];let#[dm,k4,bc]:=#[BP sn pm an ap dj hb,(λb o e=>s4>>k3>>e:∀b o,H b*>o->H4 b*>o),s4>>dc];show j9\j9 ?_;show ip (λZ H'=>∃o1 T vT us M,Z=[gh\V.ref a,o1,gh\.r T,gh\.i ((M:Nat):Int),gf,gf,gf,gf,gf,gf,gf,gf,gf]/\(∀b o,H b*>o->H' b*>o)/\H' T*>.a vT/\ay H' vT us/\Row us/\1<=M/\M<=12) (λNX z=>?_) ?_
 .refine#[2,p1,q3,(16),1,bc,b0,⋯,⋯,λH5 k5 y5=>#[7,ite2 (λ_=>?_) λ_=>?_]]
  .let#[d1,d2]:=dU (q:=nxt q3 16) (b:=5) ⋯;let#[d,hd]:∃d:Nat,digO (nxt q3 16) 5=(d:Int):=#[_,(fK d1).symm];erw[2,p1,_,(5),1,y5,b7 b0,⋯,⋯,λH6 k6 y6=>#[6,?_]];rw[hd] at d2 |-;erw[196+d,1,(),λr vr H7 er s7 y7 t7=>?_];erw[r,vr,2,y7,t7,by rw[yW];lia,(ym _).ne,λT1 dp I es H8 et s8 y8 t8 pm an ap=>?_];show z _ _ #[_,T1,dp,I,(1),1,λb o e=>s8>>(s7>>((k6 b\ak e am).trans\(k5 b\ak e am).trans (k4>>e))),y8,t8,BP (Fi _) pm an ap (by rw[yW];lia) λc h=>kO (Gm h) (kO (show 196+d+1<=300 by lia) ⋯),⋯,⋯]
  let b5:But p1 H4 H5:=λb o n e=>(k5 b n)<*e;show z _ _ #[_,T0,dk,dl,(12),1,λb o e=>b5 _ _ (ak e am) (k4>>e),b5 _ _ (qB yT tT bc) yT,vp b5 bc tT,dm,⋯,⋯]
 rintro Z H0 ⟨o1,T,vT,us,M,rfl,k0,yT,tT,row,ev,ew⟩;let ha:SqL [] H0 a (ns.map V.int):=Lm bM k0;erw[2,T,2,.l\SqL.of yT,λl0 H1 ex s1 y1=>λx dx hx b2 ey=>?_];let b4:=za (Cs:=Cs) hx b2;let dr:Few us:=#[by have:=row.ln;lia,λt ht=>#[jV (row.bd _\cK.mpr #[t,ht,.l rfl]) ⋯,jV (row.bd _\cK.mpr #[t,ht,.o\.l rfl]) ⋯,jV (row.bd _\cK.mpr #[t,ht,.o\.o rfl]) ⋯]];erw[x,dx,l0,vT,us,1,aH,b4>>y1,(tT.same s1).same b4,dr,λI H2 _ sm be=>#[1,?_],λd H' kk _ hk _ _=>(hk.no row.sk).elim,λl=>absurd row.ln ()];let bi:=(Sm.of s1).trans\AI hx b2 sm;obtain rfl:I=us:=zL (by have:=be.1.al;unfold Alike at this;rwa [zb row.al] at this) be.1.so row.so;let#[yT,tT,ha]:=#[bi.keep yT (λz=>z),vO bi tT,Ll ha bi];erw[2,a,ns,(2),1,ha,⋯,⋯,λp H3 hp s3 yp=>?_];let ad:cq (potOf ns 2):=Ad ns ⋯ ⋯;generalize potOf ns 2=q0 at yp ad;let#[sk,yT,tT]:=#[be.sm\Sm.of s3,s3>>yT,tT.same s3];erw[2,T,vT,I,1,yT,tT,row.ln,λL0 cs H4 eE s4 y4 dt lcs=>#[lit3,λL1 H5 eH s5 y5=>?_]];erw[L0,L1,6,s5>>y4,y5,by rw[bE];simp only[ck,jb];have:=row.ln;lia,λL H6 hL s6 yL=>?_];let a3:=(s4<*s5)<*s6;let#[ds,st,aM,dy,b6]:∃ds,Sth Cs p T x L vT I ds H6/\0<↑ds/\↑ds<=700/\∀c∈ds,c<10 ^ 60:=by
  erw[cs++[0,3,7],#[a3>>yT,tT.same a3,sk.sm\Sm.of a3,by rw[yL];simp[nV],aB\ak ((s4<*s5) _ _ yp) hL],∅,by simp only[bo,ck,jb];have:=row.ln;lia,λc hc=>?_];rcases a9.mp hc with h|h
  .exact row.bd c\tE.mp ((dt.2 c).mp h)
  simp at h;show kO (show c<=7 by lia) ⋯
 let yp:=a3>>yp;let bl:∀{n:Nat},n<=700->((n:Nat):Int).natAbs.log2<9000:=λ{n} h=>by
  rw[Int.natAbs_natCast];rcases Nat.eq_zero_or_pos n with rfl|h0
  .decide
  show (xu ()).mpr\kO h (bW (⋯:700<2 ^ 10) (xy ⋯ ⋯))
 erw[3,p,q0,(M:Int),1,yp,ad,(),bl (),λH7 k7 y7=>#[6,?_]];let#[v1,v2]:=dU (q:=q0) (b:=(M:Int)) ();let#[N,hN]:∃N:Nat,digO q0 (M:Int)=(N:Int):=#[_,(fK v1).symm];rw[hN] at v2 |-;let st:=st.but yp λb o n e=>(k7 b n)<*e;let ad:=b7 (b:=(M:Int)) ad;generalize nxt q0 (M:Int)=q1 at y7 ad;erw[2,(),(),nW (lo:=0) (n:=(1+(N:Int)).toNat) (λi Z H'=>∃o6 o7 o8 o9 a4 a5 aS q,Z=[gh\V.ref a,gh\.r p,gh\.r T,gh\.i (M:Int),gh\.r x,gh\.r L,o6,o7,o8,o9,a4,a5,aS]/\Sth Cs p T x L vT I ds H'/\H' p*>.a (bO q)/\cq q) #[gf,gf,gf,gf,gf,gf,gf,q1,1,st,y7,ad] ?_ ?_]
 .rintro i Z Ha hi ⟨o6,o7,o8,o9,a4,a5,aS,q3,rfl,st,yp,u⟩;let bm:(↑(nV ds):Int).natAbs.log2<9000:=bl (by rw[bE];show dy);let l0:(0:Int)<(↑(nV ds):Int):=by rw[bE];lia
  let#[m,hm,eM]:=pick q3 aM;erw[3,2,L,2,.l\SqL.of st.yL,p,q3,2,yp,u,l0,bm,λH1 k1 y1=>?_];let st:=st.but yp λb o n e=>(k1 b n)<*e;let u:=b7 (b:=(↑(nV ds):Int)) u;generalize nxt q3 (↑(nV ds):Int)=q4 at y1 u;erw[L,4,SqL.of st.yL,hm,?_];let#[n,hn,eN]:=pick q4 aM;erw[3,2,L,2,.l\SqL.of st.yL,p,q4,2,y1,u,l0,bm,λH2 k2 y2=>?_];let st:=st.but y1 λb o n e=>(k2 b n)<*e;let u:=b7 (b:=(↑(nV ds):Int)) u;generalize nxt q4 (↑(nV ds):Int)=q5 at y2 u;erw[L,4,SqL.of st.yL,hn,lit2,λS H3 g3 s3 z3=>?_];let st:=st.sm\Sm.of s3;let Y:=s3>>y2;erw[2,T,vT,I,1,st.yT,st.tT,by have:=row.ln;lia,row.sk.g.nd,λD H4 eT s4 hD=>?_];erw[D,1,.o #[_,hD],λks vs hk=>.o #[_,uO\iK (K:=[]) hD hk,?_,λZ0 ix hL pm _=>?_]]
  .rw[aE\iK (K:=[]) hD hk,av,eF];have:=row.ln;lia
  let ca:=iK (K:=[]) hD hk;let lk:=aE ca;walk_at"H4 Z0 hL H5 s5 y5";let#[dF,a0,cb]:=#[(λi hi=>iF.mp\pm.mem_iff.mp hi:∀i∈ix,i<↑ks),qr (Paired.imp' (by rintro _ _ ⟨a,e,h⟩;erw[a,e,s5>>h]) ca:SdsAt H5 ks\(ents I).map (·.1)) ix dF,pm.length_eq];rw[jR,lk,av,eF] at cb;let dK:↑(ix.map λi=>ks.getD i .non)=3*↑I:=by rw[av];show cb
  generalize (ix.map λi=>((ents I).map (·.1)).getD i (0,0))=dL at a0;generalize (ix.map λi=>ks.getD i .non)=e0 at a0 y5 dK;erw[2,lit1,λl3 H6 g6 s6 y6=>?_];erw[Z0,l3,6,s6>>y5,y6,by rw[cV];have:=row.ln;lia,λZ_ H7 g7 s7 y7=>?_];let cc:=s6<*s7;let a6:=(s4<*s5)<*cc;let#[zs,ss,hZ,a0,e1,dT]:∃zs ss,H7 Z_*>.a zs/\SdsAt H7 zs ss/\0<↑zs/\↑zs<=700:=
   #[_,dL++[(m,n)],y7,bR (K31.SdsAt.same cc a0)\.c #[S,1,a6>>z3] .nil,∅,by rw[bo,cV];have:=row.ln;lia]
  let#[cd,st,Y,z3]:=#[(aB\ak ((s4<*s5<*s6) _ _ Y) g7:Z_≠p),st.sm\Sm.of a6,a6>>Y,a6>>z3];show j9 ?_;show ip (λZ H'=>∃S m n q,Z=[gh\V.ref a,gh\.r p,gh\.r T,gh\.i (M:Int),gh\.r x,gh\.r L,gh\.i (0+(i:Int)),gh\.r S,gh\.r Z_,o9,a4,a5,aS]/\Sth Cs p T x L vT I ds H'/\H' S*>sdT m n/\H' p*>.a (bO q)/\cq q) (λNX z=>?_) ?_
  .refine#[2,p,q5,(3),1,Y,u,⋯,⋯,λH8 k8 y8=>#[6,2,?_]];let#[b8,st,u]:=#[(λb o n e=>(k8 b n)<*e:But p H7 H8),st.but Y b8,b7 (b:=3) u];generalize nxt q5 3=q6 at y8 u;let ce:=b8 _ _ cd hZ;show ite2 (λ_=>?_) λ_=>?_
   .let#[w1,w2]:=dU (q:=q6) (b:=(↑zs:Int)) ();let#[j,hj]:∃j:Nat,digO q6 (↑zs:Int)=(j:Int):=#[_,(fK w1).symm];let#[cf,#[#[m',n'],hs,sd,ez,a1],a1]:=#[(():j<↑zs),bY a0\aR cf,b8 _ _ (bL a1 Y ∅) a1];erw[3,2,Z_,2,.l\SqL.of ce,p,q6,2,y8,u,(),bl dT,λH9 k9 y9=>?_];let b9:But p H8 H9:=λb o n e=>(k9 b n)<*e;rw[hj];erw[Z_,4,SqL.of\b9 _ _ cd ce,aW (j:=j) (by rw[aR cf,ez]),z _ _ #[sd,m',n',2,st.but y8 b9,b9 _ _ (bL a1 y8 ∅) a1,y9,b7 u]]
   show z _ _ #[S,m,n,2,st,b8 _ _ (bL z3 Y ∅) z3,y8,u]
  rintro Z H7 ⟨S,m,n,q5,rfl,st,B,Y,u⟩;let#[c0,dV,d0]:=pick q5 aM;erw[3,2,L,2,.l\SqL.of st.yL,p,q5,2,Y,u,l0,bm,λH1 k1 y1=>?_];let#[b1,st,B,u]:=#[(λb o n e=>(k1 b n)<*e:But p H7 H1),st.but Y b1,b1 _ _ (bL B Y ∅) B,b7 (b:=(↑(nV ds):Int)) u];generalize nxt q5 (↑(nV ds):Int)=q6 at y1 u;erw[L,4,SqL.of st.yL,dV,2,L,ds.map λc:Nat=>(c:Int),1,SqL.of (by rw[st.yL];simp[nV]),λz=>?_,λmx ea _=>#[6,lit2,λl H2 g2 s2 y2=>?_]]
  .rw[xl] at z;rw[z] at aM;cases aM
  let#[#[c1,eb,1],ec,st,B,bn,y1,#[w1,w2]]:=#[ax.mp ea,b6 c1 eb,st.sm\Sm.of s2,s2>>B,(aB\ak y1 g2:l≠p),s2>>y1,dU (q:=q6) (b:=2) ⋯];let#[y,hy,ed]:∃y:Nat,atI [V.int (c0:Int),.i ((c1:Int)+1)] (digO q6 2)*>.i (y:Int)/\y<=10 ^ 60:=by
   let e:digO q6 2=(0:Nat)\/digO q6 2=(1:Nat):=();rcases e with e|e
   .exact#[c0,by rw[e];show aW rfl,nj\b6 c0 d0]
   erw[c1+1,by rw[e];show aW rfl,ec]
  erw[2,p,q6,(2),1,y1,u,⋯,⋯,λH3 k3 Y=>?_];let#[b3,st,B,y2,u]:=#[(λb o n e=>(k3 b n)<*e:But p H2 H3),st.but y1 b3,b3 _ _ (bL B y1 ∅) B,b3 _ _ bn y2,b7 (b:=2) u];generalize digO q6 2=dg at hy;generalize nxt q6 2=q7 at Y u;erw[l,4,SqL.of y2,hy,?_];erw[by rw[cW];decide,λlw H4 g4 s4 y4=>?_];let#[st,B,bn,Y,#[w1,w2]]:=#[st.sm\Sm.of s4,s4>>B,(aB\ak Y g4:lw≠p),s4>>Y,dU (q:=q7) (b:=6) ⋯];let#[j,hj]:∃j:Nat,digO q7 6=(j:Int):=#[_,(fK w1).symm];let#[k,hk]:=Oo (j:=j) ();erw[2,p,q7,(6),1,Y,u,⋯,⋯,λH5 k5 y5=>?_];let b5:But p H4 H5:=λb o n e=>(k5 b n)<*e;rw[hj];erw[lw,4,SqL.of\b5 _ _ bn y4,hk,?_];let#[st,B,u]:=#[st.but Y b5,b5 _ _ (bL B Y ∅) B,b7 (b:=6) u];generalize nxt q7 6=q8 at y5 u;show j9 ?_;show ip (λZ H'=>∃d,Z=[gh\V.ref a,gh\.r p,gh\.r T,gh\.i (M:Int),gh\.r x,gh\.r L,gh\.i (0+(i:Int)),gh\.r S,gh\.r Z_,gh\.i (y:Int),gh\.s k.sgn,gh\.r d,aS]/\Same H5 H'/\fX H' d k m n y) (λNX z=>?_) ?_
  .refine#[3,2,lit3,λt1 H6 g6 s6 y6=>#[2,lit3,λt2 H7 g7 s7 y7=>?_]];erw[t2,2,.o\SqT.of y7,5,?_];rw[Sg bH,show inV (V.str k.sgn) [V.str "turn",V.str "out",V.str "draw"]=!k.wis by cases k<;>decide +kernel];show .o #[2,6,2,t1,2,SqT.of (s7>>y6),λhw=>?_,λhw t ht=>?_]
   .refine z _ _ #[t1,1,s6<*s7,S,(s6<*s7) _ _ B,?_];cases bt:k.wis with
    |true=>show s7 _ _ y6
    |false=>rw[bt] at hw;show absurd hw.2 (show ¬HT.sIx 3 3 (gh (3-if (!hB)=gm then 1 else 0))=3 by decide)
   let sh:=bG (o:=.u\fk [V.str k.sgn,.r S,.i (y:Int)] gf (gh (3-if (!k.wis)=gm then 1 else 0))) ht;show z _ _ #[t,1,s6<*s7<*sh,S,sh>>((s6<*s7) _ _ B),?_];cases bt:k.wis with
   |true=>rw[bt] at hw;show absurd #[5] hw
   |false=>show aH
  rintro Z H7 ⟨d,rfl,s7,dd⟩;let#[st,B,yp,cg]:=#[st.sm\Sm.of s7,s7>>B,s7>>y5,(λok b=>KM row.sk row.ln b (λc hc=>nq\row.bd c hc) (Nat.lt_succ_of_le ed) ok.a:∀{rs:-Tri},Okd I k m n->hV I m n y rs k->↑rs<=1000/\∀t∈rs,t.1<10 ^ 60+1/\t.2.1<10 ^ 60+1/\t.2.2<10 ^ 60+1)];erw[3,T,d,vT,I,k,m,n,y,1,st.yT,st.tT,row.ln,row.sk,row.al,dd,λrs ok b=>(cg ok b).1,λa2 r H8 e2 s8 da di=>?_];let#[st,B,yp,dd]:=#[st.sm\Sm.of s8,s8>>B,s8>>yp,dd.same s8];show j9 ?_;show ip (λZ H'=>∃a2 r,Z=[gh\V.ref a,gh\.r p,gh\.r T,gh\.i (M:Int),gh\.r x,gh\.r L,gh\.i (0+(i:Int)),gh\.r S,gh\.r Z_,gh\.i (y:Int),gh\.s k.sgn,gh\.r d,gh\.r r]/\Same H8 H'/\i5 H' r a2/\DueF I k m n y a2) (λNX z=>?_) ?_
  .cases a2 with
   |deed=>show di.elim
   |side=>erw[2,r,4,SqT.of da,aW (j:=0) rfl,7,aA\z _ _ #[.side,r,1,Same.refl _,da,di]]
   |taken=>erw[2,r,4,SqT.of da,aW (j:=0) rfl,7,aA\z _ _ #[.taken,r,1,Same.refl _,da,di]]
   |spoilt kk=>erw[2,r,4,SqT.of da,aW (j:=0) rfl,7,aA\z _ _ #[.spoilt kk,r,1,Same.refl _,da,di]]
   |skin rs=>
    let#[ok,nw,b,s,l2]:=di;let#[l,vl,ch,bw,bx]:=da;erw[2,r,4,SqT.of ch,aW (j:=0) rfl,7,aL #[2,r,4,SqT.of ch,aW (j:=1) rfl,l,vl,rs,1,bw,bx,l2,s.g.ne,λr2 ee eh ws H4 bN s4 y4 t4 pm an ap=>#[lit2,λtp H5 g5 s5 y5=>?_]]];rw[sy s.g.ne an] at pm;show z _ _ #[.skin eh,tp,1,s4<*s5,#[r2,ee,y5,s5>>y4,t4.same s5],ok,nw,rs,b,s,l2,pm,ap]
  rintro Z H9 ⟨a2,r,rfl,s9,da,df⟩;let#[st,B,yp,dd,sk,en]:=#[st.sm\Sm.of s9,s9>>B,s9>>yp,dd.same s9,st.sk,sk.1.al.en];erw[3,x,.r d,I,I,gh (k,m,n,y),1,sk,#[d,1,dd],λk' m' n' y' rs e ok b=>?_,λe3 r2 He bb bw bA=>?_]
  .cases e;let#[l,h]:=cg ok\OI en b;erw[l,λt ht=>#[jV (h t ht).1 ⋯,jV (h t ht).2.1 ⋯,jV (h t ht).2.2 ⋯]]
  obtain rfl:=KG sk.1 bA df;erw[2,B8 bw (da.sm bb) (λkk e=>by subst e;let#[0,rs,_,h]:=df;show h.kk) #[2,jJ ?_]];let#[st,B,yp]:=#[st.sm bb,bb.keep B (λz=>z),bb.keep yp (λz=>z)];erw[3,3,p,S,q8,m,n,y,1,yp,u,B,λv q9 Hf but ei u dn=>?_];let st:=st.but yp but;erw[x,v,I,I,gf,1,st.sk,dn,(λ_ _ _ _ _ z=>nomatch z),λci r3 Hg sm bx bA=>#[lit1,λt4 Hh g s z=>?_]];let e:ci=.deed:=by
   cases ci with
   |deed=>rfl
   |_=>show bA.elim
  subst e;show B8 (a:=.deed) (s>>bx) z (λ_ e=>nomatch e) #[2,mO ?_];let sm:=sm.trans\Sm.of s;erw[8,8,_,q9,1,st.sm sm,sm.keep ei λz=>z,u]
 rintro Z Ha ⟨o6,o7,o8,o9,a4,a5,aS,q3,rfl,st,_⟩;let#[dx,O,R,D,S,hx]:=st.sk.obj;erw[2,x,dx,2,hx,1,x,I,I,1,st.sk,λl3 e4 Hf e5 s6 y6 t6=>#[2,KF y6 t6 (s6>>st.yT) (st.tT.same s6)\q _]]
end
def len1(h:↑us=1):∃a,us=[a]:=List.length_eq_one_iff.mp h
def len2(h:↑us=2):∃a b,us=[a,b]:=by let#[a,r,1]:=C0 h;let#[b,1]:=len1\Dh h;erw[a,b,1]
def len3(h:↑us=3):∃a b c,us=[a,b,c]:=by let#[a,r,1]:=C0 h;let#[b,c,1]:=len2\Dh h;erw[a,b,c,1]
def len4(h:↑us=4):∃a b c d,us=[a,b,c,d]:=by let#[a,r,1]:=C0 h;let#[b,c,d,1]:=len3\Dh h;erw[a,b,c,d,1]
def bdA(x q:Str)(st:mT)(us:-hK)(kV doc pm:hK)(an:Option i4)(a ct:hK):=bindArgs (W.fnOf x q (fg st) (d_ st) (au st) .none kV doc pm an a ct) #[us,[]]
section
variable {x q:Str}{st:mT}{f:i4}(F:Fun K x q st f fd)
include F
theorem bd1(a:Str)(h:(λu=>bdA x q st [u])=λu _ _ _ _ _ _=>pure [(a,u)]):Binds K fd [a] []:=F.binds λk d p n c t us b=>by
 let#[u,1]:=len1 b;show congrArg (· u k d p n c t) h
theorem bd2(a b:Str)(h:(λu v=>bdA x q st [u,v])=λu v _ _ _ _ _ _=>pure [(a,u),(b,v)]):Binds K fd [a,b] []:=F.binds λk d p n c t us e=>by
 let#[u,v,1]:=len2 e;show congrArg (· u v k d p n c t) h
theorem bd3(a b e:Str)(h:(λu v w=>bdA x q st [u,v,w])=λu v w _ _ _ _ _ _=>pure [(a,u),(b,v),(e,w)]):Binds K fd [a,b,e] []:=F.binds λk d p n c t us f=>by
 let#[u,v,w,1]:=len3 f;show congrArg (· u v w k d p n c t) h
theorem bd4(a b e g:Str)(h:(λu v w y=>bdA x q st [u,v,w,y])=λu v w y _ _ _ _ _ _=>pure [(a,u),(b,v),(e,w),(g,y)]):Binds K fd [a,b,e,g] []:=F.binds λk d p n c t us f=>by
 let#[u,v,w,y,1]:=len4 f;show congrArg (· u v w y k d p n c t) h
end
structure Top(K:W.Frag)(mg:Str->Option hK)(x:Str)(st:mT)(f:i4)(fd:kS):Prop where
 u:Fun K x x st f fd
 m:mg x*>.r f
structure InC(K:W.Frag)(C:i4)(x q:Str)(st:mT)(f:i4)(fd:kS):Prop where
 u:Fun K x q st f fd
 m:Meth K C x f
def BB{h:mu}{x:Str}{st:mT}{f:i4}{d:hK}{od an:Option i4}{e:Array\Option hK}{kV doc pm b ct:hK}(X:K.In h)(G:h.Ns kz mg)
  (a:W.nsIn K kz x*>gh\.r f) (l:K.lookup f*>#[d,od,.func\W.fnOf x x (fg st) (d_ st) (au st) .none kV doc pm an b ct,e]) (c:W.codeIn K b x=gm) (k:W.keepIn K (.r f)=gm) :
  Top K mg x st f (W.fnOf x x (fg st) (d_ st) (au st) .none kV doc pm an b ct):=#[B5 (st:=st) l c k,dS X G a]
def Mt{C:i4}{x q:Str}{st:mT}{f:i4}{d:hK}{od an:Option i4}{e:Array\Option hK}{kV doc pm b ct:hK}
  (a:W.findIn K (.r C) x*>gh\.r f) (i:W.isFn K (.r f)=gm) (l:K.lookup f*>#[d,od,.func\W.fnOf x q (fg st) (d_ st) (au st) .none kV doc pm an b ct,e]) (c:W.codeIn K b q=gm) (k:W.keepIn K (.r f)=gm) :
  InC K C x q st f (W.fnOf x q (fg st) (d_ st) (au st) .none kV doc pm an b ct):=#[B5 (st:=st) l c k,#[a,i,k]]
def aX(K:W.Frag)(x:Str)(st:mT):Prop:=∃(f:i4)(a:hK)(od an:Option i4)(sl:Array\Option hK)(kV b pm cd ct:hK),W.nsIn K kz x*>gh (.r f)/\K.lookup f*>#[a,od,.func\W.fnOf x x (fg st) (d_ st) (au st) .none kV b pm an cd ct,sl]/\W.codeIn K cd x=gm/\W.keepIn K (.r f)=gm
def top_in{x:Str}{st:mT}{f:i4}{b:hK}{od an:Option i4}{sl:Array\Option hK}{kV d pm cd ct:hK}(a:W.nsIn K kz x*>gh\.r f)(l:K.lookup f*>#[b,od,.func\W.fnOf x x (fg st) (d_ st) (au st) .none kV d pm an cd ct,sl])(c:W.codeIn K cd x=gm)(k:W.keepIn K (.r f)=gm):aX K x st:=#[f,b,od,an,sl,kV,d,pm,cd,ct,a,l,c,k]
def vP{h:mu}{st:mT}(X:K.In h)(G:h.Ns kz mg)(t:aX K x st):∃f d,Top K mg x st f d:=by let#[f,b,od,an,sl,kV,e,pm,cd,ct,a,l,c,k]:=t;erw[0,BB (st:=st) X G a l c k]
def InK(K:W.Frag)(C:i4)(x q:Str)(st:mT):Prop:=∃(f:i4)(a:hK)(od an:Option i4)(sl:Array\Option hK)(kV b pm cd ct:hK),W.findIn K (.r C) x*>gh (.r f)/\W.isFn K (.r f)=gm/\K.lookup f*>#[a,od,.func\W.fnOf x q (fg st) (d_ st) (au st) .none kV b pm an cd ct,sl]/\W.codeIn K cd q=gm/\W.keepIn K (.r f)=gm
def in_in{C:i4}{x q:Str}{st:mT}{f:i4}{b:hK}{od an:Option i4}{sl:Array\Option hK}{kV d pm cd ct:hK}(a:W.findIn K (.r C) x*>gh\.r f)(i:W.isFn K (.r f)=gm)(l:K.lookup f*>#[b,od,.func\W.fnOf x q (fg st) (d_ st) (au st) .none kV d pm an cd ct,sl])(c:W.codeIn K cd q=gm)(k:W.keepIn K (.r f)=gm):InK K C x q st:=#[f,b,od,an,sl,kV,d,pm,cd,ct,a,i,l,c,k]
def oO{st:mT}(t:InK K C x q st):∃f d,InC K C x q st f d:=by let#[f,b,od,an,sl,kV,e,pm,cd,ct,a,i,l,c,k]:=t;erw[0,Mt (st:=st) a i l c k]
def ckF(K:W.Frag)(D:i4)(f:Str):Bool:=W.findIn K (.r D) ↑64==gh (gh\.b ↑35)&&(W.mroIn K D (.t ↑89)==gh gm&&((W.clsIn K D).any (λcd=>qT cd.mro)&&(W.findIn K (.r D) f==gh gf&&(W.clsIn K D).any (·.hasDict))))
def ckM(K:W.Frag)(D:i4):Bool:=kl K D&&W.keepIn K (.r D)
def ckS(K:W.Frag)(S:i4):Bool:=W.specialIn K (.r S) ↑33==gh (gh\.b "type.__getattribute__")&&W.readsIn K S (.t "type")
def ckE(K:W.Frag)(C:i4):Bool:=W.findIn K (.r C) ↑33==gh (gh\.b ↑2)&&(W.findIn K (.r C) "__getattr__"==gh gf&&(W.findIn K (.r C) ↑65==gh (gh\.b ↑11)&&(W.mroIn K C (.t ↑89)==gh gm&&(W.mroIn K C (.t ↑4)==gh gm&&((W.clsIn K C).isSome &&
 (W.specialIn K (.b ↑11) "__get__"==gh (gh\.b ↑28)&&W.takesIn K (.b ↑11)==gh gm))))))
def ckC(K:W.Frag)(C M:i4):Bool:=(L2.clsIn K C).any λbm=>bm.contains (.t ↑4)&&!(Value.ref C::bm).contains (.r M)
def ckK(K:W.Frag)(D S a b c d:i4)(e:-i4)(i:Nat):Bool:=ckE K D&&((L2.clsIn K D).any (λbm=>(Value.ref D::bm).contains\.r S)&&(W.kitOne K (.r D) (.r a)==gh (i==0)&&(W.kitOne K (.r D) (.r b)==gh (i==1)&&(W.kitOne K (.r D) (.r c)==gh (i==2)&&(W.kitOne K (.r D) (.r d)==gh (i==3)&&(W.kitOne K (.r D) (.t ↑20)==gh gm&&W.kitAny K (.r D) (e.map Value.ref)==gh hB))))))
def ckZ(K:W.Frag):Bool:=(["len","int","str",↑70,"range",↑25,↑16,"bool","all",↑20,"reversed",↑73,↑48,"min","max",↑53,"zip","any"]:-Str).all λx=>W.nsIn K kz x==gh gf
def ckB(K:W.Frag)(M:i4):Bool:=(L2.clsIn K M).any λbm=>bm.contains\.t ↑4
def Cn:hK->Option Str
 |.str x _=>gh x
 |_=>gf
def NO:Data->Option (-hK)
 |.seq a _=>gh a.toList
 |_=>gf
def ckT(K:W.Frag)(p:i4)(ks:-Str):Bool:=(K.lookup p).any λo=>o.cls==.t ↑16&&(NO o.data).any λus=>us.map Cn==ks.map gh
section
variable {C M D:i4}
def mv{α:Type}{o:Option α}{p:α->Bool}(h:o.any p=gm):∃a,o*>a/\p a=gm:=by
 cases o with
 |none=>cases h
 |some a=>erw[a,1,h]
def we(h:ckF K D f=gm):fH K D f:=by simp only[ckF,hX,beq_iff_eq] at h;erw[h.1,h.2.1,h.2.2.1,h.2.2.2.1,h.2.2.2.2]
def Cd(h:ckE K C=gm):iV K C:=by simp only[ckE,hX,beq_iff_eq] at h;let#[h1,h2,a,b,c,d,e,f]:=h;erw[h1,h2,a,e,f,b,c,d]
def MV(h:ckC K C M=gm):∃bm,L2.clsIn K C*>bm/\bm.contains (.t ↑4)=gm/\(Value.ref C::bm).contains (.r M)=hB:=by let#[bm,e,h]:=mv h;let#[x,y]:=wR.mp h;erw[bm,e,x,‹y›]
def sv(h:ckK K D S a b c d f i=gm):mQ K D S [a,b,c,d] f i:=by
 simp only[ckK,hX,beq_iff_eq] at h;let#[h1,h2,g,l,m,n,o,p]:=h;erw[Cd h1,mv h2,λj x e=>?_,o,p]
 match j,e with
 |0,e=>cases e;show g
 |1,e=>cases e;show l
 |2,e=>cases e;show m
 |3,e=>cases e;show n
 |j+4,e=>cases e
def zG:∀{us:-hK}{ks:-Str},us.map Cn=ks.map gh->Vals (ks.map V.str) us
 | [],[],_=>.nil
 | [],_::_,h=>by cases h
 |_::_,[],h=>by cases h
 |u::us,k::ks,h=>by
  rw[bu,bu] at h;let#[h1,h2]:=List.cons.inj h;show .c ?_\zG h2;cases u<;>first|cases h1;done|(cases h1;erw[2])
def su(h:ckT K D ks=gm):KTup K D (ks.map V.str):=by
 let#[#[o,e,h],#[h1,h2],#[us,a,b]]:=#[mv h,wR.mp h,mv h2];cases d:o.data with
 |seq c n=>rw[d] at a;cases a;erw[o,c,n,e,beq_iff_eq.mp h1,d,zG\beq_iff_eq.mp b]
 |_=>rw[d] at a;cases a
end
section
variable {h:mu}{CX:CXT}{ps:-Str}{sp:Sp}{n:Nat}{x q:Str}{st:mT}{C f:i4}{d:kS}
def bdx(U:Fun K x q st f d){ps:-Str}(b:∀{f d},Fun K x q st f d->Binds K d ps []:=by first|exact λU=>bd1 U _ rfl|exact λU=>bd2 U _ _ rfl|exact λU=>bd3 U _ _ _ rfl|exact λU=>bd4 U _ _ _ _ rfl):Binds K d ps []:=b U
def bF(Y:K.In h)(G:h.Ns kz mg)(t:aX K x st)(ok:∀{f d},Fun K x x st f d->!az CX0 n f d ps sp)(b:∀{f d},Fun K x x st f d->Binds K d ps []:=by first|exact λU=>bd1 U _ rfl|exact λU=>bd2 U _ _ rfl|exact λU=>bd3 U _ _ _ rfl|exact λU=>bd4 U _ _ _ _ rfl):∃f d,!Use n x ps sp f d:=
 (vP Y G t).imp λ_ t=>t.imp λ_ U=>#[ok U.u,b U.u,U.m,U.u.kp]
def km(Y:K.In h)(G:h.Ns kz mg)(t:aX K x st)(ok:∀{f d},Fun K x x st f d->!az CX n f d ps sp)(b:∀{f d},Fun K x x st f d->Binds K d ps []:=by first|exact λU=>bd1 U _ rfl|exact λU=>bd2 U _ _ rfl|exact λU=>bd3 U _ _ _ rfl|exact λU=>bd4 U _ _ _ _ rfl):∃f d,jL CX P w K mg base n x ps sp f d:=
 (vP Y G t).imp λ_ t=>t.imp λ_ U=>#[ok U.u,b U.u,U.m,U.u.kp]
def fe{m:Nat}(u:!Use n x ps sp f d)(h:n<=m):!Use m x ps sp f d:=#[u.g.mono h,u.b,u.m,u.k]
end
def all_mk{h:mu}{fa Cs S c1 c2 d l n o B C D E H I L M t1 t2 t3:i4}{tM:Tok}(Y:K.In h)(G:h.Ns kz mg)(bm:mg "law"*>.r fa)
  (bn:W.nsIn K kz "Skin"*>gh\.r Cs)
  (aS:W.nsIn K kz ↑21*>gh\.r S)
  (bt:W.nsIn K kz "TooMany"*>gh\.r c1)
  (bw:W.nsIn K kz "NoSkin"*>gh\.r c2)
  (bx:W.nsIn K kz "Spoilt"*>gh\.r d)
  (bA:W.nsIn K kz "NoSide"*>gh\.r l)
  (bK:W.nsIn K kz "NoDeed"*>gh\.r n)
  (bX:W.nsIn K kz "Taken"*>gh\.r o)
  (b0:W.nsIn K kz "Gone"*>gh\.r B)
  (b1:W.nsIn K kz "NoCaps"*>gh\.r C)
  (b2:W.nsIn K kz "NoCode"*>gh\.r D)
  (b3:W.nsIn K kz "NoCorner"*>gh\.r E)
  (b4:W.nsIn K kz "NoLetter"*>gh\.r H)
  (b5:W.nsIn K kz "NoPast"*>gh\.r I)
  (b6:W.nsIn K kz "NoText"*>gh\.r L)
  (b8:W.nsIn K kz "NoWord"*>gh\.r M)
  (b9:W.nsIn K kz "AT_A_SIDE"*>gh\.r t1)
  (ca:W.nsIn K kz "WITH_A_CORNER"*>gh\.r t2)
  (cb:W.nsIn K kz "AT_A_RIM"*>gh\.r t3)
  (aM:W.nsIn K kz "MOST_TRIPLES"*>gh\.i 200 tM)
  (h1:aX K "is_whole" rD)
  (h2:aX K ↑59 ql)
  (h3:aX K "first_of" rP)
  (h4:aX K "walked" qI)
  (h5:aX K ↑58 p_)
  (h6:aX K ↑88 qj)
  (h7:aX K "is_pair" qO)
  (h8:aX K ↑90 qk)
  (h9:aX K ↑37 n8)
  (cc:aX K ↑40 qP)
  (ce:aX K ↑36 rG)
  (cf:aX K ↑45 sW)
  (cg:aX K ↑22 rL)
  (ch:aX K ↑50 rS)
  (ci:aX K "is_deed" lP)
  (cj:aX K ↑51 p5)
  (cl:aX K ↑29 nJ)
  (co:aX K ↑23 pX)
  (cp:aX K ↑19 nG)
  (cr:aX K ↑55 lq)
  (cs:aX K ↑86 lA)
  (cx:aX K "drawn" oo)
  (cy:aX K "put_in" l8)
  (c0:aX K "put_on" oE)
  (c8:aX K "closed" oq)
  (da:aX K ↑39 nN)
  (db:aX K "changed" jn)
  (dd:aX K "_law_at" sAt)
  (df:aX K "_law_pot" tL)
  (di:aX K ↑30 rR)
  (dj:aX K ↑42 rJ)
  (dk:aX K ↑24 qJ)
  (dl:aX K ↑79 sX)
  (dm:aX K ↑18 qx)
  (dn:aX K ↑80 s_)
  (dp:aX K ↑75 rH)
  (dr:aX K ↑81 rQ)
  (ds:aX K ↑34 qf)
  (dt:aX K ↑78 qN)
  (dx:aX K ↑93 rN)
  (dy:aX K ↑61 qu)
  (dF:aX K ↑92 rM)
  (dK:aX K ↑76 rK)
  (dL:aX K ↑91 sR)
  (dT:aX K ↑94 rO)
  (dV:aX K ↑60 qt)
  (d0:aX K ↑62 qv)
  (d1:aX K "_law_bad" sV)
  (d2:aX K "_law_due" sU)
  (d3:aX K ↑63 qw)
  (d4:aX K "_law_odd" sS)
  (d5:aX K ↑74 qL)
  (d6:aX K "law" jI)
  (d7:InK K Cs ↑12 "Skin.__init__" mF)
  (d8:InK K c2 ↑12 ↑96 qK)
  (d9:InK K d ↑12 ↑95 p9)
  (ea:InK K Cs ↑43 "Skin.triangles" qe)
  (eb:InK K Cs "third" "Skin.third" rE)
  (pg:W.plainGet K Cs Str.empty=gm)
  (hd:W.hasDictIn K Cs=gm)
  (po:W.plainOver K Cs=gm)
  (sa:W.findIn K (.r Cs) ↑64*>gh\.b ↑35)
  (mk:W.makesIn K Cs=gm)
  (kc:W.keepIn K (.r Cs)=gm)
  (ec:W.findIn K (.r Cs) "ordered"*>gf)
  (ed:W.findIn K (.r Cs) "rising"*>gf)
  (ee:W.findIn K (.r Cs) "thirds"*>gf)
  (eh:W.findIn K (.r Cs) "steps"*>gf)
  (cZ:ckZ K=gm)
  (y3:W.findCls K (.r S) (.t "type") ↑12*>.val\.b "ValueError.__init__")
  (cS:ckS K S=gm)
  (cC:ckC K c2 c1=gm)
  (cE:ckE K c2=gm)
  (cB:ckB K c1=gm)
  (ei:ckB K S=gm)
  (o2:ckF K c2 ↑72 = gm)
  (o3:ckF K d "kind" = gm)
  (r2:ckM K c2=gm)
  (r3:ckM K d=gm)
  (n4:W.excIn K l bmV ↑5 = gm)
  (n1:W.excIn K c1 bmV ↑5 = gm)
  (n5:W.excIn K n bmV ↑5 = gm)
  (n6:W.excIn K o bmV ↑5 = gm)
  (x0:ckK K n S n l o d [B,C,D,E,H,I,c2,L,M,c1] 0=gm)
  (x1:ckK K l S n l o d [B,C,D,E,H,I,c2,L,M,c1] 1=gm)
  (x2:ckK K o S n l o d [B,C,D,E,H,I,c2,L,M,c1] 2=gm)
  (x3:ckK K d S n l o d [B,C,D,E,H,I,c2,L,M,c1] 3=gm)
  (ej:ckT K t1 ["turn","out","draw"]=gm)
  (a0:ckT K t2 ["in","on","close"]=gm)
  (ek:ckT K t3 ["on","close"]=gm)
  : ∃fd:kS,(∀(s:ij)(v:hK),BindsTo s fd #[[v],[]] [(↑13,v)])/\∀base:mu,K.In base->base.Ns kz mg->!az CX0 9 fa fd [↑13] (sP K):=by
 let#[f9,oc,od,an,sl,kV,dc,pm,cd,ct,a,lk,c,k]:=d6;let e:=bm.symm.trans\dS Y G a;cases e;let z:∀x∈(["len","int","str",↑70,"range",↑25,↑16,"bool","all",↑20,"reversed",↑73,↑48,"min","max",↑53,"zip","any"]:-Str),mg x=gf:=λx h=>W.mg_none_of Y G\beq_iff_eq.mp (i9.mp cZ x h);let T:cv mg:=#[z _ ⋯,z _ ⋯,z _ ⋯,z _ ⋯,z _ ⋯,z _ ⋯,z _ ⋯,z _ ⋯,z _ ⋯,z _ ⋯,z _ ⋯,z _ ⋯];let X:SCls K Cs:=#[#[pg,hd,po,sa],ec,ed,ee,eh];simp only[ckM,hX] at r2 r3;let#[#[0,N],#[0,r],#[0,Q],#[0,ag],#[0,al],f,R,Z,a1,a2,em,a3,mS,am,O,a4,a5,a6,bb,eo,ep,eq,er,es,et,ev,ew,ex,bc,ey,mM,ez,MF,M2,M3]:=#[oO d7,oO d8,oO d9,oO ea,oO eb,z ↑48 ⋯,z "min" ⋯,z "max" ⋯,z ↑53 ⋯,z "zip" ⋯,z "any" ⋯,dS Y G bn,dS Y G aS,dS Y G bt,dS Y G bw,dS Y G bx,dS Y G bA,dS Y G bK,dS Y G bX,dS Y G b0,dS Y G b1,dS Y G b2,dS Y G b3,dS Y G b4,dS Y G b5,dS Y G b6,dS Y G b8,dS Y G b9,dS Y G ca,dS Y G cb,dS Y G aM,BB (st:=jI) Y G a lk c k,(#[mk,N.m.1,N.m.2,kc]:Mk K Cs _),(#[r2.1,r.m.1,beq_iff_eq.mp r.m.2,r2.2]:iZ K c2 _),(#[r3.1,Q.m.1,beq_iff_eq.mp Q.m.2,r3.2]:iZ K d _)];erw[W.fnOf "law" "law" (fg jI) (d_ jI) (au jI) .none kV dc pm an cd ct,λs v=>.of_eq rfl,λbase _ _=>?_];let#[kt,ko,xc,#[bN,eN,eE,eH],#[bM,eM,eT],xf]:=#[(#[5,1]:o_ K),(#[5,5,5,5,5,5,1]:KitO K),Cd cE,MV cC,mv cB,we o2];simp only[ckS,hX,beq_iff_eq] at cS;let#[bS,#[0,q1],#[0,y],#[0,q3],#[0,q4],#[0,q5],#[0,q6],#[0,q7],#[0,q8],gN,#[0,q9],#[0,e0],#[0,e1],#[0,e2],#[0,e3],#[0,bd],gS,A,MD,#[0,e4],#[0,e5],#[0,e6],#[0,e7],#[0,ap],#[0,e8],#[0,e9],#[0,fb],#[0,fc],#[0,fl],#[0,fn],#[0,fo],#[0,fp],#[0,ab],#[0,fv],#[0,p],#[0,ad],#[0,q],#[0,be],#[0,j],#[0,bi],#[0,fw],#[0,fx],#[0,bl],#[0,fy],#[0,fA],#[0,fF],#[0,fI],#[0,fS],#[0,f0],#[0,f1],#[0,f2],#[0,f3],#[0,f4],#[0,f5],#[0,f6],#[0,f7],#[0,f8]]:=#[(#[cS.1,cS.2,y3]:BInit K S),bF Y G h1 λU=>FD U T kt,bF Y G h2 λU=>Ee U q1,bF Y G h3 λU=>HU U T R,bF Y G h4 λU=>ES U,bF Y G h5 λU=>HK U T a2,bF Y G h6 λU=>Ep U X,bF Y G h7 λU=>FH U T kt y,bF Y G h8 λU=>HR U T kt #[E4 y.g,y.b,y.m,y.k],(FG r.u mS bS:!az CX0 _ _ _ _ _),km Y G h9 λU=>HY U T q8 M2 xf gN (bdx r.u) O,km Y G cc λU=>EU U T M2 xf gN (bdx r.u) O,bF Y G ce λU=>HG U,bF Y G cf λU=>Kc U T a1 q3,km Y G cg λU=>HP U f e2 M2 xf gN (bdx r.u) O,bF Y G ch λU=>HZ U R,(J6 N.u T f mM X am n1 q9 e0 e1 e3 bd:!az (CX1 P w) _ _ _ _ _),(#[L7 ag.u X T,bdx ag.u,ag.m]:!gq Cs _ _ _ _ _ _),(#[HE al.u X,bdx al.u,al.m]:!gq Cs _ _ _ _ _ _),bF Y G ci λU=>FI U T kt rfl y q7 ex (su ej) bc\su a0,km Y G cj λU=>FJ U T e4 a6 n5,km Y G cl λU=>HN U X MD a5 n4 ey\su ek,km Y G co λU=>HQ U X bc (su a0) bb n6,bF Y G cp λU=>Og U X bd A,bF Y G cr λU=>JZ U X ap MD,bF Y G cs λU=>L_ U X ap MD,bF Y G cx λU=>Kg U X T A,bF Y G cy λU=>Oi U X ap MD,bF Y G c0 λU=>Oh U X A,bF Y G c8 λU=>HX U X q6 q4 q5 A,bF Y G da λU=>Mc U e8 e9 fb fc fl fn,km Y G db λU=>Oj U e5 e6 e7 fo MF gS (bdx N.u) a3 am eM eT O eN eE eH M3 (λx=>FF Q.u mS bS) (bdx Q.u) a4 xc xf\we o3,vP Y G dd,bF Y G df λU=>L9 U ab.u (bdx ab.u) ab.m ab.u.kp T,bF Y G di λU=>HW U,bF Y G dj λU=>HJ U,bF Y G dk λU=>FE U,bF Y G dl λU=>Ke U T ad,bF Y G dm λU=>ET U f,bF Y G dn λU=>Kf U f q,bF Y G dp λU=>HH U T Z (fe j ⋯) bi,bF Y G dr λU=>HV U T (fe p ⋯) (fe q ⋯) be,bF Y G ds λU=>L8 U f q,bF Y G dt λU=>HS U T (fe p ⋯) (fe q ⋯) be bl (fe j ⋯),bF Y G dx λU=>J7 U T Z (fe p ⋯) (fe j ⋯) (fe ad ⋯),bF Y G dy λU=>FK U T Z (fe j ⋯),bF Y G dF λU=>HM U (fe p ⋯) fA fw fF fy fx,bF Y G dK λU=>HL U T p j,bF Y G dL λU=>J5 U R f,bF Y G dT λU=>K71.ok_lrims U f a1 R bl,bF Y G dV λU=>J8 U ad,bF Y G d0 λU=>J_ U T a2 q f2 f1,bF Y G d1 λU=>Ka U T em ad (fe j ⋯) (fe bi ⋯),bF Y G d2 λU=>J9 U T q (fe j ⋯) f4 f3,bF Y G d5 λU=>HF U T,bF Y G d4 λU=>Ma U T ko p,bF Y G d3 λU=>Kb U T X fp A mS (mv ei) a6 a5 bb a4 eo ep eq er es et O ev ew am (we o3) (sv x0) (sv x1) (sv x2)\sv x3];show Mb ez.u T f Z X fv fS fI MF gS (bdx N.u) a3 f0 (fe j ⋯) p q f5 f8 f6 f7 A
def walk{l:W.OpenLaw}{q:lu}{loose:-Str}{XP:(Str->Option hK)->mu->Prop}{YP:n7->mu->Prop}{d:DefRec}{K:Params->W.Frag}(b:l.most*>63)(c:d.params.defaults=[])
  (e:∀(w:n7)(h:mu),YP w h->(K w.params).In h) (g:∀(w:n7)(a:i4)(o:Obj),(K w.params).lookup a*>o->o.cls≠.t ↑25)
  (F:∀(w:n7)(mg:Str->Option hK)(fa:i4)(h:mu),(K w.params).In h->h.Ns kz mg->mg d.name*>.r fa->
   ∃fd:kS,(∀(s:ij)(u:hK),BindsTo s fd #[[u],[]] [(↑13,u)])/\∀base:mu,(K w.params).In base->base.Ns kz mg->az l.prog w (K w.params) mg base CX0 9 fa fd [↑13]\sP (K w.params)) :
  W.WalkO q loose XP YP l.row.toRowW d [] (λf vs=>PySem.call f vs):=
 L2.walk_of (n:=63) (k:=9) (x:=↑13) (CX:=λ_=>CX0) (sp:=λw=>sP\K w.params) b ⋯ c #[1,⋯,⋯,1] e F g (λ_ _ a ns j _ m=>#[a,ns,1,m,j,λ_=>rfl]) λ_ _ _ _ _ z=>z
open PySem.W
def kf_nl(P:Params)(a:i4)(o:Obj)(h:(kf P).lookup a*>o):o.cls≠.t ↑25:=CF (show _=gm by kernel_rfl) h
end K15
def PySem.W.Fast.tw4253261633162748250:PySem.Program:=PySem.Challenge.pw_shapestring_k63_refused_deeds
theorem PySem.W.Fast.te4253261633162748250:PySem.Challenge.pw_shapestring_k63_refused_deeds=PySem.W.Fast.tw4253261633162748250:=rfl
open PySem PySem.W PyProof.Rows
set_option maxRecDepth 100000 in
set_option maxHeartbeats 0 in
theorem PySem.Challenge.cw_shapestring_k63_refused_deeds_holds : PySem.Challenge.rw_shapestring_k63_refused_deeds.Holds := by
 w_on;o_law
 show W.holds_open (q:=K15.view) (loose:=[]) (Xt:=λs=>xlAt K15.view [] s&&recOk [] s) (XP:=XL K15.view []) (Yf:=Hook.obs\kHook K15.kf K15.ads (λ_=>by kernel_rfl)) (Ya:=Hook.val\kHook K15.kf K15.ads (λ_=>by kernel_rfl)) (YP:=Hook.says\kHook K15.kf K15.ads (λ_=>by kernel_rfl)) (N:=10778) K15.left (Hook.of _) (Hook.keeps _)
  (λs e=>xl_of s (wR.mp e).1) XL.keeps (by rfl) (by rfl) (by rfl) (λs e=>recFacts_of (wR.mp e).2) (by rfl) (by assumption) ⋯ #[5,5,1,⋯] ?hw ?hc
 case hw=>w_witness2
 k_fill
 show K15.walk (l:=PySem.Challenge.rw_shapestring_k63_refused_deeds) rfl rfl (λw h Y=>W.kIn_of Y) (λw=>K15.kf_nl w.params) ?F
 case F=>
  intro w mg fa h KX G hmg
  refine' K15.all_mk KX G hmg ?aCs ?aS ?ac1 ?ac2 ?ac3 ?ac4 ?ac5 ?ac6 ?au1 ?au2 ?au3 ?au4 ?au5 ?au6 ?au8 ?au9 ?at1 ?at2 ?at3 ?aM ?_ ?_ ?_ ?_ ?_ ?_ ?_ ?_ ?_ ?_ ?_ ?_ ?_ ?_ ?_ ?_ ?_ ?_ ?_ ?_ ?_ ?_ ?_ ?_ ?_ ?_ ?_ ?_ ?_ ?_ ?_ ?_ ?_ ?_ ?_ ?_ ?_ ?_ ?_ ?_ ?_ ?_ ?_ ?_ ?_ ?_ ?_ ?_ ?_ ?_ ?_ ?_ ?_ ?_ ?_ ?_ ?_ ?_ ?_ ?_ ?_ ?_ ?_ ?_ ?_ ?_ ?_ ?_ ?_ ?_ ?_ ?_ ?_ ?_ ?_ ?_ ?_ ?_ ?_ ?_ ?_ ?_ ?_ ?_ ?_ ?_ ?_ ?_ ?_ ?_
  (case aCs=>k_is);(case aS=>k_is);(case ac1=>k_is);(case ac2=>k_is);(case ac3=>k_is);(case ac4=>k_is);(case ac5=>k_is);(case ac6=>k_is);(case au1=>k_is);(case au2=>k_is);(case au3=>k_is);(case au4=>k_is);(case au5=>k_is);(case au6=>k_is);(case au8=>k_is);(case au9=>k_is);(case at1=>k_is);(case at2=>k_is);(case at3=>k_is);(case aM=>k_is)
  all_goals first|k_is|(refine' K15.top_in ?a ?l ?c ?k;(case a=>k_is);(case l=>k_is);(case c=>k_is);(case k=>k_is))|(refine' K15.in_in ?a ?i ?l ?c ?k;(case a=>k_is);(case i=>k_is);(case l=>k_is);(case c=>k_is);(case k=>k_is))|kernel_rfl
#print axioms PySem.Challenge.cw_shapestring_k63_refused_deeds_holds

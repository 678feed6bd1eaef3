import PyProof.Rows.All
import Wide.All
import OpenK.AllK
import PySem.Challenge.RW_shapestring_k24_whole_rims_rounds_counts
set_option Elab.async false
set_option linter.all false
set_option maxRecDepth 100000
set_option maxHeartbeats 0
set_option compiler.extract_closed false
def sT_:List String:=["_law_triples","_law_pot_here","_law_skin_here","_law_corner","_law_thirds_here","shapestring.skins","_law_triple","_law_script","dict_itemiterator","_law_corners","list_reverseiterator","look_rounds_through","_law_names","_law_digit","_law_handles_right","list","_law_free_here","triples","_law_begun_least","steps_by_corner","checked_triples","_law_thirds","_law_corners_here","tuple","thirds_by_side","checked_corner","_law_rim_sides","_law_most","_law_new","sorted","hang_together","enumerate","_law_mirrored","_law_base","__debug__","_law_a","skin","is_rim_side","_law_other","checked_side","thing","type.__call__","_law_sides","is_corner","begun_least","_law_k","_law_handed","_law_closed","_law_beside","_law_b","shapestring.pieces","reversed","_law_at_here","_law_more_here","method_descriptor","many_sides","_law_told","_law_split","_law_seven","_law_named","_law_grown","_law_free","_law_drawn","_law_amid","law_shapestring_k24_whole_rims_rounds_counts","first_of","counted","_law_rim","/claim/cut.py","onward","dict_keyiterator","triangles","rim_steps","is_triple","corners","_law_skin","_law_seconds","_law_ring","_law_more","_law_many","_law_fans","_law_ends","round_of","list_reverseiterator.__length_hint__","corner","Skin.triangles","self","_law_at","thirds","range","piece_of","object.__setattr__","is_whole","dict","_law_two","_law_pot","__name__","__init__","StopIteration"]
def nC_(m:Lean.TSyntax `Lean.Parser.Command.declModifiers):Lean.MacroM (Lean.TSyntax `Lean.Parser.Command.declModifiers):=if m.raw[4].isNone then pure ⟨m.raw.setArg 4 (Lean.mkNullNode #[Lean.Syntax.node .none `Lean.Parser.Command.noncomputable #[Lean.mkAtom "noncomputable "]])⟩ else Lean.Macro.throwUnsupported
def sQ_:Nat->List Nat
 |1=>[1]
 |2=>[0,1]
 |3=>[0,1,0,1]
 |4=>[0,0,0,1,1]
 |5=>[1,1]
 |6=>[0,0,1,1]
 |7=>[1,0,1]
 |8=>[0,0,0]
 |9=>[0,0,1]
 |0=>[0,0]
 |_=>[]
def eX_(xs:Array (Lean.TSyntax `term)):Lean.MacroM (Array (Lean.TSyntax `term)):=do
 let mut o:=Array.empty
 for x in xs do
  match x.raw.isNatLit? with
  |some k=>for s in sQ_ k do o:=o.push (<-if s==0 then `(_) else pure (Lean.mkIdent `rfl))
  |none=>o:=o.push x
 return o
def pT_:Nat->Lean.TSyntax `term->Lean.MacroM (Lean.TSyntax `rcasesPat)
 |0,_=>Lean.Macro.throwUnsupported
 |n+1,s=>match s with
  |`(#[$xs,*])=>do
   let ys<-(<-eX_ xs.getElems).mapM (pT_ n)
   `(rcasesPat|⟨$[$ys:rcasesPat],*⟩)
  |`(_)=>`(rcasesPat|_)
  |`($x:ident)=>`(rcasesPat|$x:ident)
  |_=>Lean.Macro.throwUnsupported
def lS_(p e:Lean.TSyntax `term):Lean.MacroM (Lean.TSyntax `tactic):=match p with
 |`($x:ident)=>match e with
  |`(($v : $t))=>`(tactic|have $x:ident : $t := $v)
  |_=>`(tactic|have $x:ident := $e)
 |_=>do
  let q<-pT_ 20 p
  `(tactic|obtain $q:rcasesPat := $e)
def lT_:List (Lean.TSyntax `term×Lean.TSyntax `term)->Lean.MacroM (Lean.TSyntax `tactic)
 |[(p,e)]=>lS_ p e
 |(p,e)::r=>do
  let a<-lS_ p e
  let b<-lT_ r
  `(tactic|($a; $b))
 |_=>Lean.Macro.throwUnsupported
def dI_:Lean.Name->Option Lean.Name
 |`r=>Option.some `ref
 |`i=>Option.some `int
 |`l=>Option.some `inl
 |`o=>Option.some `inr
 |`t=>Option.some `type
 |`a=>Option.some `lst
 |`s=>Option.some `str
 |`c=>Option.some `cons
 |`u=>Option.some `tup
 |`b=>Option.some `builtin
 |`d=>Option.some `fields
 |`e=>Option.some `seq
 |`k=>Option.some `dK
 |`x=>Option.some `bool
 |`n=>Option.some `Name
 |`y=>Option.some `dict
 |`z=>Option.some `frz
 |_=>Option.none
local macro_rules | `($m:declModifiers def $i:declId $s:optDeclSig $v:declVal) => do `($(<-nC_ m):declModifiers def $i:declId $s:optDeclSig $v:declVal) | `($m:declModifiers abbrev $i:declId $s:optDeclSig $v:declVal) => do `($(<-nC_ m):declModifiers abbrev $i:declId $s:optDeclSig $v:declVal)
local macro_rules | `(#[$xs,*]) => do let ys <- eX_ xs.getElems; `(⟨$ys,*⟩)
local macro_rules | `(tactic| erw [$rs,*]) => do let ts : Array (Lean.TSyntax `term) := rs.getElems.map fun r => ⟨r.raw[1]⟩; `(tactic| refine #[$ts,*])
local macro_rules | `(tactic| let $x:ident $bs* $[: $t]? := $e) => `(tactic| have $x:ident $bs* $[: $t]? := $e) | `(tactic| let $p:term $[: $t]? := $e) => do let q <- pT_ 20 p; match t with | some t => `(tactic| obtain $q:rcasesPat : $t := $e) | none => `(tactic| obtain $q:rcasesPat := $e)
local macro_rules | `(tactic| let #[$ps,*] := #[$es,*]) => lT_ (ps.getElems.zip es.getElems).toList
local macro_rules | `($a *> $b) => `($a = some $b)
local macro_rules | `($f $xs* >> $a) => `($f $xs* _ _ $a) | `($f >> $a) => `($f _ _ $a)
local macro_rules | `(!$f:ident $xs*) => do if f.getId ∈ [`gq,`j3,`aA,`Use] then let i := fun (x : String) => Lean.mkIdent (Lean.Name.mkSimple x); `($f $(i "P") $(i "w") $(i "K") $(i "mg") $(i "base") $xs*) else Lean.Macro.throwUnsupported
local macro_rules | `($f $xs* \ $a) => `($f $xs* $a) | `($f \ $a) => `($f $a)
local macro_rules | `($a <* $b) => `(($a).trans $b)
local macro_rules | `(↑$a) => `(($a).length)
local macro_rules | `(↑$n:num) => pure (Lean.Syntax.mkStrLit (sT_.getD n.getNat ""))
local macro_rules | `(!$n:num) => do let ps := (List.replicate n.getNat (<- `(rcasesPat|_)) ++ [<- `(rcasesPat|$(Lean.mkIdent `rfl):ident), <- `(rcasesPat|_)]).toArray; `(by rintro _ _ _ _ ⟨$[$ps:rcasesPat],*⟩;rfl)
local macro_rules | `($n:num \ $o) => `((nat_lit $n,$o))
local macro_rules | `(.f) => `(⟨rfl,rfl,rfl,by decide +kernel,rfl,by decide +kernel,by decide +kernel⟩)
local macro_rules | `(()) => `(by lia)
local macro_rules | `(∅) => `(by simp)
local macro_rules | `(⋯) => `(by decide +kernel)
local macro_rules | `(tactic| show $e:term) => `(tactic| refine $e)
local macro_rules | `(↥$x) => `(($x).heap.objs.size)
local macro_rules | `(⇑$x) => `(PySem.model ($x).prog ($x).w)
local macro_rules | `(‹$e›) => `(by simpa using $e)
local macro_rules | `(-$x:ident) => if x.getId ∈ [`Addr,`Bool,`Ent,`Env,`Int,`Key,`Keyword,`Nat,`Obj,`PyData,`Side,`Stmt,`Str,`Tri,`V,`WData,`es,`gE,`gL,`kA,`lj,`nc,`oD,`sD] then `(List $x) else Lean.Macro.throwUnsupported | `(-($x × $y)) => `(List ($x × $y))
local macro_rules | `(.$x:ident $a $as*) => match dI_ x.getId with | Option.some n => `(.$(Lean.mkIdent n):ident $a $as*) | Option.none => Lean.Macro.throwUnsupported
local macro_rules | `(!$f:ident $xs*) => if f.getId == `Inv then `($f $(Lean.mkIdent `X) $(Lean.mkIdent `Oo) $(Lean.mkIdent `Z) $xs*) else Lean.Macro.throwUnsupported
local macro_rules | `(tactic| lk) => `(tactic| intro $(Lean.mkIdent `Oo):ident $(Lean.mkIdent `s):ident $(Lean.mkIdent `Z):ident $(Lean.mkIdent `H):ident)
open Array renaming length_toList->gr,getElem?_toList->ip,toList_push->iq,toList_inj->nE,toList_extract->uL,toList_map->uM,getElem?_eq_getElem->Ag,getElem?_eq_none->Lg,perm_iff_toList_perm->Lh,size_setIfInBounds->Li,toList_append->Lj,toList_reverse->Ll
open Array.Perm renaming refl->Le
open Bool renaming false_ne_true->bL,and_eq_true->ir,false_eq_true->iu,eq_iff_iff->lK,and_eq_true_iff->Lm,not_eq_true'->Ln
open Classical renaming byContradiction->lO
open Iff renaming rfl->ja
open Int renaming toNat_of_nonneg->eZ,toNat_natCast->nG,emod_lt_of_pos->qZ,emod_nonneg->q_,le_trans->Ak,fdiv_eq_ediv_of_nonneg->Lp,natCast_mul->Lq
open List renaming mem_cons->ah,mem_map->ai,getElem?_eq_some_iff->aq,length_map->av,getElem?_eq_getElem->ay,mem_append->az,mem_cons_of_mem->aC,length_append->aE,mem_of_getElem?->aJ,mem_cons_self->aL,mem_singleton->aN,nodup_append->aQ,getElem?_map->aU,length_take->aZ,map_append->bc,map_cons->bj,take_add_one->bq,length_cons->br,nodup_cons->bF,map_map->bG,size_toArray->bM,mem_append_left->bR,getElem?_append_left->bY,mem_filter->bZ,take_length->b_,length_singleton->ck,getElem?_of_mem->cJ,not_mem_nil->cK,length_drop->cQ,mem_flatten->cR,mem_append_right->cU,take_append_drop->di,mem_iff_getElem?->dD,length_pos_iff->dI,filter_cons->eu,getLast?_eq_getElem?->eC,append_assoc->e8,getElem?_append_right->fB,pairwise_map->fC,perm_append_comm->fD,append_nil->fQ,filter_append->fR,flatten_append->fS,flatMap_append->gQ,getElem?_take_of_lt->gR,length_filter_le->gU,take_of_length_le->gW,all_eq_true->iw,length_nil->iy,length_range->iz,mem_flatMap->iA,mem_range->iB,append_of_mem->jb,drop_eq_getElem_cons->jc,filter_nil->jd,getElem_mem->je,length_reverse->jf,lookup_cons->jg,nodup_nil->jh,pairwise_cons->ji,eraseIdx_sublist->j5,flatten_cons->j6,getElem?_zip_eq_some->j7,mem_reverse->j8,getElem?_drop->lP,pairwise_iff_getElem->lQ,pairwise_singleton->lR,any_cons->nH,ext_getElem?->nI,find?_cons->nJ,flatten_singleton->nK,getElem?_eq_none->nL,getElem?_reverse->nM,length_eraseIdx_of_lt->nN,pairwise_append->nP,reverse_perm->nQ,exists_mem_of_ne_nil->rf,map_congr_left->rg,nodup_range->rh,drop_eq_nil_of_le->uP,ext_getElem->uQ,extract_eq_take_drop->uR,head?_eq_getElem?->uS,map_eq_nil_iff->uT,map_nil->uU,mem_filterMap->uV,range_succ->uW,reverse_cons->uX,sum_cons->uY,all_cons->An,any_eq_true->Ap,drop_zero->Aq,exists_cons_of_length_eq_add_one->Ar,filterMap_cons->As,filter_cons_of_neg->Au,filter_cons_of_pos->Av,foldl_cons->Aw,getLast?_append->Ax,map_fst_zip->Ay,map_id->Az,map_reverse->AA,map_take->AB,mem_of_getLast?->AC,of_mem_zip->AD,pairwise_flatten->AE,perm_ext_iff_of_nodup->AF,take_zero->AG,all_map->Lw,any_eq_false->Lx,any_map->Ly,drop_drop->Lz,drop_length->LA,drop_of_length_le->LB,eraseIdxIfInBounds_toArray->LC,filter_congr->LD,filter_filter->LF,find?_eq_none->LG,foldl_append->LH,foldl_nil->LI,getElem?_cons_succ->LJ,getElem?_eq_none_iff->LK,getElem?_range->LL,getElem?_set_ne->LM,getElem?_set_self->LN,getLast?_cons->LO,getLast?_eq_some_getLast->LP,length_erase_of_mem->LQ,length_pos_of_mem->LR,map_drop->LS,map_snd_zip->LU,mem_of_mem_take->LV,nil_append->LW,pairwise_reverse->LX,take_sublist->LY,zip_cons_cons->LZ,toArray->tA
open List.Pairwise renaming imp_of_mem->gv,filter->j4,imp->Nj
open List.Perm renaming refl->uO,of_eq->Am,append_left->Lr,append_right->Ls
open List.Sublist renaming map->Lu,refl->Lv,append->Nk
open Nat renaming le_refl->au,zero_le->aV,ne_of_lt->bz,lt_of_lt_of_le->cS,le_trans->dw,lt_irrefl->dW,lt_succ_self->gX,mod_lt->jj,le_antisymm->j9,ne_of_gt->lU,zero_add->lV,add_le_add_left->nU,le_of_lt->nW,le_succ->nX,sub_self->nY,lt_of_le_of_lt->rj,lt_succ_of_lt->rA,le_add_right->uZ,le_of_eq->u4,max_eq_right->u5,min_eq_left->u6,add_assoc->AH,add_comm->AI,add_sub_cancel->AJ,add_sub_cancel_left->AK,mod_eq_of_lt->AL,sub_add_eq->AM,add_lt_add_left->L1,add_mod_right->L3,add_zero->L4,le_of_lt_succ->L5,le_of_not_lt->L6,log2_lt->L7,lt_of_not_le->L8,lt_or_eq_of_le->L9,lt_trans->L_,mod_add_mod->Ma,mul_le_mul->Mb,mul_pos->Mc,not_lt_zero->Me,pow_le_pow_right->Mf,sub_zero->Mg
open Nat.succ renaming inj->AN
open Ne renaming symm->aO
open Option renaming map_eq_some_iff->bQ,map_some->nZ,getD_some->u7,isSome_iff_exists->AO,isSome_map->AQ,getD_none->Mi
open Option.some renaming inj->df,injEq->Nl
open Prod renaming ext->lX
open Prod.mk renaming inj->gY,injEq->jk
open PyProof.Rows renaming wpS_bind->aH,wpS_pure->ba,wpS_forRange->eP,wpS_mono->e_,wpS_get->iD,wpS_modify->jn,boot_int->j_,boot_list->ke,boot_tuple->kg,callWith_type1->n8,boot_isinstance->u9,reverseSlice'_eq->vv,boot_max->AR,Subscript_->AY,boot_range->Ml,args_list_sort->MQ,entry_list_sort->MS,slot_list_sort->MX,subscriptTail_builtinR->MY,boot_bool->Nn,boot_dict->Np,callWith_builtin1->Nq,floordiv_int->Nt,lt_int->Nu
open PySem renaming wpAny_bind->aa,wpAny_pure->aw,wpAny_mono->dq,sizeLine_eq->dX,wpAny_holding->gw,wpAny_newObj_type->iC,wpAny_truthy_bool->jm,call_meetsIn->kh,wpAny_call_entry->kj,wpAny_fieldsOf->kl,plainId_quiet->l6,wpAny_passesOwn->l7,mem_of_lookup->n_,tupleKind_room_in1->og,wpAny_Call_Name_kw->oh,wpAny_dictEntries->oi,wpAny_dictEpoch->oj,wpAny_letGo->om,codeAny_builtin->rJ,wpAny_attempt->rK,wpAny_setField_rec->rL,wpAny_standAt->rM,boot_len->vk,call_meets->vn,call_meets->vp,codeAny_mono->vq,wpAny_callSpecial?_slot->vy,wpAny_execs_nil->vz,wpAny_field->vA,wpAny_isOneOf_itemiter->vB,wpAny_ite_split->vD,wpAny_seqItems->vE,wpAny_tryCatch->vF,wpAny_typeNameOfWhole_itemiter->vG,wpAny_typeNameOfWhole_keyiter->vH,wpAny_typeNameOf_itemiter->vI,wpAny_typeNameOf_keyiter->vJ,wpAny_updateSeq->vK,seqIndex_neg->AZ,seqIndex_of->A6,wpAny_Call_method->A7,wpAny_Name->A8,wpAny_comprehension_free->A9,wpAny_eqBool_int->A_,wpAny_isInstance->Ba,wpAny_isOneOf_keyiter->Bb,wpAny_loadPart'->Bc,wpAny_of_eq->Bd,wpAny_pyIter_list->Be,wpAny_setField->Bf,wpAny_specialOf->Bh,evalArgs_none->ML,builtinLookup_eq_fast->MR,fitsIndex_both->MU,isSubtype_stop->MV,slot_list_getitem->MW,typeLookup_type->MZ,wpAny_Call_method0_late->M0,wpAny_Call_method_late->M3,wpAny_Compare1->M4,wpAny_Dict_empty->M5,wpAny_assign_Name->M6,wpAny_execs_cons->M7,wpAny_forIn_list->M8,wpAny_isTrue_Compare1->M9,wpAny_newFunctionEnv->M_,wpAny_newTuple->Na,wpAny_notOrdered_dict->Nb,wpAny_pyIter_enum->Nc,wpAny_pyIter_keyiter->Nf,wpAny_pyIter_slot->Ng
open PySem.Around renaming under_plainId->qW
open PySem.AutoSeq1 renaming wpAny_loadPart'->fu,list_insert_list_int_val_1->Nv,wpAny_loadPart'->Nw
open PySem.Calls renaming callWith_builtin->lM,spliced_cons->lN,evalArgs_plain->qX,spliced_nil->uN,Name_function_global->Lo
open PySem.EqMixed renaming eq_bool_str->Nz,eq_int_str->NA,eq_str_bool->NB,eq_str_int->NC,ne_bool_str->ND,ne_int_str->NF,ne_str_bool->NG,ne_str_int->NH
open PySem.EqNone renaming eq_bool_none->NI,eq_int_none->NJ,eq_none_bool->NK,eq_none_int->NL,eq_none_none->NM,eq_none_str->NN,eq_str_none->NO,ne_bool_none->NP,ne_int_none->NQ,ne_none_bool->NR,ne_none_int->NS,ne_none_none->NT,ne_none_str->NU,ne_str_none->NV
open PySem.F renaming plainAttrs_list->c7,slot_list_append->eM,type_list_append->eO,plainAttrs_dict->lY,plain_min_loop->lZ,slot_dict_get->n9,slot_dict_itemiterator_next->rD,slot_dict_keyiterator_next->rE,slot_list_pop->rG,type_list_pop->rH,entry_dict_get->u_,slot_list_insert->vd,entry_min_loop->AS,slot_dict_update->AU,type_list_insert->AV,args_dict_get_2->Mm,args_dict_get_3->Mn,args_dict_itemiterator_next_1->Mo,args_dict_keyiterator_next_1->Mp,entry_dict_itemiterator_next->Mq,entry_dict_keyiterator_next->Mr,slot_dict_items->Ms,slot_dict_items_iter->Mt,slot_dict_iter->Mu,slot_dict_pop->Mv,slot_dict_setdefault->Mw,slot_dict_values->Mx,slot_list_lt->My,slot_tuple_index->Mz,type_dict_get->MA,type_dict_update->MB
open PySem.Heap renaming lt_size->aX,get?_push_of_some->bh,get?_push_size->bX,size_push->i_,get?_update_other->nF,get?_update_self->qY,get?_none_of_le->Ai,get?_update_ne->Aj
open PySem.Heap.DictOf renaming new->Nh
open PySem.Heap.IsSliceOf renaming new->Ni
open PySem.Heap.SameBut renaming update->Ah
open PySem.MeetsSeq3 renaming plain_eq_loop->vg,entry_eq_loop->ME
open PySem.Obj renaming data_mapFields->Mh
open PySem.Paired renaming length->n6,snoc->Mj
open PySem.PassesOwn renaming never->bP
open PySem.SeqAt renaming compareEq_reads->NY,compareNe_reads->NZ,eqAt_reads->N0,in_list_reads->N1,in_tuple_reads->N2
open PySem.SeqAt.EqAt renaming int_int->MM,int_str->MN,str_int->MO,bool_bool->N5,bool_int->N6,bool_none->N7,bool_str->N8,int_bool->N9,int_none->N_,none_bool->Oa,none_int->Ob,none_str->Oc,same->Od,str_bool->Oe,str_none->Of,str_str->Og
open PySem.SeqAt.ReadsAll renaming length->NW
open PySem.W renaming kia_one->gZ,mg_of->vh,callWith_K->AW,plainGet_of->AX,cellsFrom_some->MG,kitx_dict->MH,kitx_list->MJ,methodCall_KW->MK
open PySem.W.Looks renaming here->N3
open PySem.Walks renaming list->MP
open PySem.Within renaming cons->N4
open Std.Legacy.Range renaming forIn_eq_forIn_range'->Oh
open Sum.inl renaming inj->oe
open Option renaming none->gf,some->gm
open Bool renaming true->gn,false->gB
open PySem renaming Value->gE,Addr->gL,Shared->hA,wpAny->hB,sizeLine->hH,mainGlobals->hK,starEach->hM,model->i3,FuncData->i4,Program->jl,Heap->js,Expr->kA,Stmt->lj,World->lp,compareOp->lx,eval->m3,sysModules->mc,backTo->mu,codeAny->mE,rawInt->mL,cLine->n7,PyData->nc,DictEntry->oD,pyNext->q0,treeTable->qs,importedModules->r4,bootBuiltins->r6,argBest->ro,OsState->rq,Around->ru,behindInMarks->ry,attributeBase->rz
open PySem.W renaming boot_heap->sh
open PyProof.Rows renaming Keyed->sD,pendingOf->sZ,SortSt->tf,IntsAre->u0,arrOf->ua,failedOf->ub,SortKind->v7
def Oi.{u}{c : Prop}{h : Decidable c}(b : ¬c){α : Sort u}{t e : α} : (if c then t else e)=e := if_neg b
def Oj.{u}{c : Prop}{h : Decidable c}(b : c){α : Sort u}{t e : α} : (if c then t else e)=t := if_pos b
def Ol{p : Prop}[h : Decidable p](b : p) : decide p=gn := decide_eq_true b
def Om{p : Prop}[h : Decidable p](b : ¬p) : decide p=gB := decide_eq_false b
def On{p : Prop}[h : Decidable p](b : decide p=gn) : p := of_decide_eq_true b
abbrev P_W:=PySem.Challenge.pw_shapestring_k24_whole_rims_rounds_counts
variable {Oo:-(PySem.Addr×PySem.Obj)}{s:PySem.Shared}{P:PySem.Program}{w:PySem.World}{A:PySem.Around}{mg:PySem.Str->Option PySem.Value}{base:PySem.Heap}{us:List PySem.Value}{E:PySem.Value->PySem.Shared->Prop}{fd:PySem.FuncData}{K:PySem.W.Frag}{scope:PySem.Scope}
namespace L2
open PySem
def eF(s:lj):Arguments:=match s with
 |.FunctionDef _ a _ _ _ _ _ _ _ _=>a
 |_=>{posonlyargs:=[],args:=[],vararg:=gf,kwonlyargs:=[],kw_defaults:=[],kwarg:=gf,defaults:=[]}
def dZ(s:lj):-Stmt:=match s with
 |.FunctionDef _ _ b _ _ _ _ _ _ _=>b
 |_=>[]
def aI(s:lj):Scope:=match s with
 |.FunctionDef _ _ _ _ _ _ sc _ _ _=>sc
 |_=>{kind:=.function,names:=[],isGenerator:=gB,isCoroutine:=gB}
end L2
namespace K51
open PySem L2
def KY:Nat:=38
def aF(i:Nat):Stmt:=P_W.main.body.getD i\.Pass #[(0),(0),(0),(0)]
def top(i:Nat):Stmt:=aF (KY+i)
def pW(c j:Nat):Stmt:=match aF c with
 |.ClassDef _ _ _ body _ _ _ _ _ _ _=>body.getD j\.Pass #[(0),(0),(0),(0)]
 |_=>.Pass #[(0),(0),(0),(0)]
abbrev qk:Stmt:=aF 1
abbrev pF:Stmt:=aF 2
abbrev oJ:Stmt:=aF 4
abbrev qE:Stmt:=aF 5
abbrev oR:Stmt:=aF 7
abbrev pH:Stmt:=aF 8
abbrev oE:Stmt:=aF 9
abbrev oU:Stmt:=aF 10
abbrev p9:Stmt:=aF 18
abbrev oM:Stmt:=aF 19
abbrev oq:Stmt:=aF 21
abbrev pK:Stmt:=aF 22
abbrev oy:Stmt:=aF 23
abbrev oH:Stmt:=aF 25
abbrev oQ:Stmt:=aF 26
abbrev oK:Stmt:=aF 29
abbrev oW:Stmt:=aF 30
abbrev pM:Stmt:=aF 31
abbrev qa:Stmt:=aF 32
abbrev qG:Stmt:=aF 33
abbrev qe:Stmt:=aF 34
abbrev qo:Stmt:=aF 35
abbrev lD:Stmt:=pW 36 0
abbrev oB:Stmt:=pW 36 1
abbrev oC:Stmt:=pW 36 2
abbrev p_:Stmt:=pW 36 3
abbrev sAt:Stmt:=top 0
abbrev qR:Stmt:=top 1
abbrev qm:Stmt:=top 2
abbrev qc:Stmt:=top 3
abbrev pG:Stmt:=top 4
abbrev qH:Stmt:=top 5
abbrev oV:Stmt:=top 6
abbrev qI:Stmt:=top 7
abbrev qb:Stmt:=top 8
abbrev ql:Stmt:=top 9
abbrev oF:Stmt:=top 10
abbrev pJ:Stmt:=top 11
abbrev qg:Stmt:=top 12
abbrev oT:Stmt:=top 13
abbrev qf:Stmt:=top 14
abbrev qd:Stmt:=top 15
abbrev pL:Stmt:=top 16
abbrev ow:Stmt:=top 17
abbrev qi:Stmt:=top 18
abbrev qj:Stmt:=top 19
abbrev oG:Stmt:=top 20
abbrev qh:Stmt:=top 21
abbrev oS:Stmt:=top 22
abbrev qF:Stmt:=top 23
abbrev pI:Stmt:=top 24
abbrev oo:Stmt:=top 25
abbrev i9:Stmt:=top 26
end K51
namespace K15
open PySem L2 PySem.W K51
def cO'(x y:Str)(t l n a b:Nat):Obj:=#[.t "code",gf,.d\tA [.s x t,.s y (t+1),.s ↑68 (t+2),.i l 0,.i n 0,.i 0 0,.i 0 0,.i 3 0,.r a,.x gn,.i 181 0,.r (a+1),.none,.r (a+2),.r (a+3),.r (a+4),.i b 0,.i l 0,.s ↑68 (b+1)],(tA [])]
def cN'(x y:Str)(t l n a b:Nat):Obj:=#[.t "code",gf,.d\tA [.s x t,.s y (t+1),.s ↑68 (t+2),.i l 0,.i n 0,.i 0 0,.i 0 0,.i 3 0,.r a,.x gn,.i 181 0,.r (a+1),.none,.none,.none,.r (a+2),.i b 0,.i l 0,.s ↑68 (b+1)],(tA [])]
def fO'(x y:Str)(s:lj)(m:Str)(t c:Nat):Obj:=#[.t "function",gf,.func\fnOf x y (eF s) (dZ s) (aI s) .none .none .none (.s m t) gf (.r c) .none,(tA [])]
def dE(P:Params)(x:Str)(t:Nat)(v:gE):DictEntry:=PySem.DictEntry.mk (PySem.PyData.keyHash P x) (.s x t) v
def cO(x:Str):=cO' x x
def cN(x:Str):=cN' x x
def fO(x:Str):=fO' x x
def fL(x:Str)(s:lj):=fO x s ↑64 549
def kf:Params->Frag:=λP=>
 2\#[.none,gf,(.y (tA []) 0),(tA [])]::
 3\#[(.t ↑93),gf,(.y (tA [(dE P ↑96 165\.s ↑64 549),(dE P "__doc__" 166 .none),(dE P "__package__" 167 .none),(dE P "__loader__" 168\.b "__main__.__loader__#opaque"),(dE P "__spec__" 169 .none),(dE P "__annotations__" 170\.r 6),(dE P "__builtins__" 171\.r 4),(dE P "__file__" 173\.s ↑68 172),(dE P "__cached__" 174 .none),(dE P ↑65 194\.r 19),(dE P "walked" 203\.r 26),(dE P ↑72 211\.r 31),(dE P "rims" 217\.r 36),(dE P ↑90 231\.r 43),(dE P "pieces" 237\.r 48),(dE P ↑55 243\.r 53),(dE P ↑66 256\.r 60),(dE P "ShapeError" 276\.r 70),(dE P "TooMany" 292\.r 83),(dE P "NoCorner" 308\.r 95),(dE P "NoSide" 324\.r 107),(dE P "NoSkin" 349\.r 126),(dE P ↑92 358\.r 135),(dE P ↑43 365\.r 142),(dE P ↑25 375\.r 149),(dE P "is_pair" 384\.r 156),(dE P ↑39 394\.r 163),(dE P ↑37 406\.r 170),(dE P ↑82 415\.r 177),(dE P "MOST_TRIPLES" 419\.i 200 418),(dE P ↑73 429\.r 184),(dE P ↑20 442\.r 191),(dE P ↑24 456\.r 198),(dE P ↑19 468\.r 205),(dE P ↑30 477\.r 212),(dE P ↑11 485\.r 219),(dE P ↑44 495\.r 226),(dE P "Skin" 548\.r 262),(dE P ↑87 558\.r 273),(dE P ↑95 569\.r 280),(dE P ↑13 578\.r 287),(dE P ↑42 588\.r 294),(dE P ↑21 599\.r 301),(dE P ↑61 605\.r 306),(dE P ↑9 615\.r 313),(dE P ↑80 621\.r 318),(dE P ↑57 627\.r 323),(dE P ↑62 633\.r 328),(dE P ↑26 639\.r 333),(dE P ↑60 645\.r 338),(dE P ↑77 651\.r 343),(dE P ↑48 657\.r 348),(dE P ↑75 666\.r 355),(dE P ↑59 672\.r 360),(dE P ↑46 685\.r 367),(dE P ↑18 693\.r 374),(dE P ↑81 707\.r 381),(dE P ↑63 716\.r 388),(dE P ↑32 722\.r 393),(dE P ↑78 742\.r 400),(dE P ↑47 748\.r 405),(dE P ↑94 754\.r 410),(dE P ↑58 763\.r 417),(dE P ↑14 777\.r 424),(dE P "law" 783\.r 429)]) 65),(tA [])]::
 18\cN ↑65 189 2 1 15 192::
 19\fO ↑65 qk "shapestring.rings" 187 18::
 25\cO "walked" 195 6 2 20 201::
 26\fO "walked" pF "shapestring.rings" 187 25::
 30\cN ↑72 206 12 1 27 209::
 31\fO ↑72 oJ "shapestring.rims" 204 30::
 35\cN "rims" 212 14 1 32 215::
 36\fO "rims" qE "shapestring.rims" 204 35::
 42\cO ↑90 220 25 2 37 229::
 43\fO ↑90 oR ↑50 218 42::
 47\cN "pieces" 232 35 1 44 235::
 48\fO "pieces" pH ↑50 218 47::
 52\cN ↑55 238 44 1 49 241::
 53\fO ↑55 oE ↑50 218 52::
 59\cO ↑66 244 46 1 54 254::
 60\fO ↑66 oU ↑50 218 59::
 134\cO ↑92 352 69 1 129 356::
 135\fO ↑92 p9 "shapestring.kinds" 350 134::
 141\cO ↑43 359 71 1 136 363::
 142\fO ↑43 oM "shapestring.kinds" 350 141::
 148\cO ↑25 368 74 2 143 373::
 149\fO ↑25 oq "shapestring.sides" 366 148::
 155\cO "is_pair" 376 78 1 150 382::
 156\fO "is_pair" pK "shapestring.sides" 366 155::
 162\cO ↑39 385 83 2 157 392::
 163\fO ↑39 oy "shapestring.sides" 366 162::
 169\cO ↑37 397 91 2 164 404::
 170\fO ↑37 oH "shapestring.rounds" 395 169::
 176\cO ↑82 407 94 2 171 413::
 177\fO ↑82 oQ "shapestring.rounds" 395 176::
 183\cO ↑73 420 99 1 178 427::
 184\fO ↑73 oK ↑5 416 183::
 190\cO ↑20 430 106 1 185 440::
 191\fO ↑20 oW ↑5 416 190::
 197\cO ↑24 443 114 1 192 454::
 198\fO ↑24 pM ↑5 416 197::
 204\cO ↑19 457 122 1 199 466::
 205\fO ↑19 qa ↑5 416 204::
 211\cO ↑30 469 128 1 206 475::
 212\fO ↑30 qG ↑5 416 211::
 218\cO ↑11 478 134 1 213 483::
 219\fO ↑11 qe ↑5 416 218::
 225\cO ↑44 486 138 1 220 493::
 226\fO ↑44 qo ↑5 416 225::
 237\cN' ↑97 "Skin.__init__" 508 143 2 234 511::
 238\fO' ↑97 "Skin.__init__" lD ↑5 416 237::
 244\cO' ↑71 ↑85 514 155 1 239 518::
 245\fO' ↑71 ↑85 oB ↑5 416 244::
 251\cO' ↑74 "Skin.corners" 521 158 1 246 525::
 252\fO' ↑74 "Skin.corners" oC ↑5 416 251::
 258\cO' "third" "Skin.third" 528 161 3 253 534::
 259\fO' "third" "Skin.third" p_ ↑5 416 258::
 261\#[(.t ↑93),gf,(.y (tA [(dE P "__module__" 503\.s ↑5 416),(dE P "__firstlineno__" 507\.i 141 506),(dE P ↑97 513\.r 238),(dE P ↑71 520\.r 245),(dE P ↑74 527\.r 252),(dE P "third" 536\.r 259),(dE P "__static_attributes__" 541\.r 260),(dE P "__dict__" 543\.r 263),(dE P "__weakref__" 545\.r 264),(dE P "__doc__" 546 .none)]) 4),(tA [])]::
 262\#[(.t "type"),gf,(.cls\PySem.ClassData.mk "Skin" [(.t "object")] [(.r 262),(.t "object")] 261 "Skin" Bool.true [] [] Bool.false gf Bool.false),(tA [gf,gf,(Option.some\.s "Skin" 496),(Option.some\.s "Skin" 504),(Option.some\.b "object.__new__"),(Option.some\.x Bool.true)])]::
 263\#[(.t "getset_descriptor"),gf,(.d\tA [(.s "__dict__" 542),(.r 262),(.b "function.__dict__"),(.b "function.__dict__#set")]),(tA [])]::
 264\#[(.t "getset_descriptor"),gf,(.d\tA [(.s "__weakref__" 544),(.r 262),(.b "ExceptionGroup.__weakref__"),.none]),(tA [])]::
 272\cO ↑87 551 164 2 267 556::
 273\fL ↑87 sAt 272::
 279\cO ↑95 559 168 2 274 567::
 280\fL ↑95 qR 279::
 286\cO ↑13 570 176 2 281 576::
 287\fL ↑13 qm 286::
 293\cO ↑42 579 183 1 288 586::
 294\fL ↑42 qc 293::
 300\cO ↑21 589 186 1 295 597::
 301\fL ↑21 pG 300::
 305\cN ↑61 600 193 2 302 603::
 306\fL ↑61 qH 305::
 312\cO ↑9 606 195 1 307 613::
 313\fL ↑9 oV 312::
 317\cN ↑80 616 201 2 314 619::
 318\fL ↑80 qI 317::
 322\cN ↑57 622 214 1 319 625::
 323\fL ↑57 qb 322::
 327\cN ↑62 628 228 2 324 631::
 328\fL ↑62 ql 327::
 332\cN ↑26 634 238 1 329 637::
 333\fL ↑26 oF 332::
 337\cN ↑60 640 241 2 334 643::
 338\fL ↑60 pJ 337::
 342\cN ↑77 646 256 1 339 649::
 343\fL ↑77 qg 342::
 347\cN ↑48 652 268 2 344 655::
 348\fL ↑48 oT 347::
 354\cO ↑75 658 271 2 349 664::
 355\fL ↑75 qf 354::
 359\cN ↑59 667 280 2 356 670::
 360\fL ↑59 qd 359::
 366\cO ↑46 673 290 2 361 683::
 367\fL ↑46 pL 366::
 373\cO ↑18 686 296 1 368 691::
 374\fL ↑18 ow 373::
 380\cO ↑81 694 299 2 375 705::
 381\fL ↑81 qi 380::
 387\cO ↑63 708 317 3 382 714::
 388\fL ↑63 qj 387::
 392\cN ↑32 717 319 2 389 720::
 393\fL ↑32 oG 392::
 399\cO ↑78 723 331 4 394 740::
 400\fL ↑78 qh 399::
 404\cN ↑47 743 336 3 401 746::
 405\fL ↑47 oS 404::
 409\cN ↑94 749 347 4 406 752::
 410\fL ↑94 qF 409::
 416\cO ↑58 755 357 1 411 761::
 417\fL ↑58 pI 416::
 423\cO ↑14 764 363 2 418 775::
 424\fL ↑14 oo 423::
 428\cN "law" 778 373 1 425 781::
 (nat_lit 429,fL "law" i9 428)::[]
end K15
namespace L2
open PySem PySem.W PySem.Calls PyProof.Rows
def mG(tb:String->Option Builtin)(p:jl)(w:lp)(n₀:Nat)(ann:Option gE):Nat->SharedT->Thread->Option SharedT
 |0,_,_=>gf
 |n+1,s,t=>match through t with
  |true=>gm s
  |false=>match stepOk n₀ ann t with
   |false=>gf
   |true=>match stepT (denote tb) p w s t with
    |some (s',t')=>mG tb p w n₀ ann n s' t'
    |none=>gf
def vV{tb:String->Option Builtin}{p:jl}{n₀:Nat}{ann:Option gE}:∀{n:Nat}{s s':SharedT}{t:Thread},mG tb p w n₀ ann n s t*>s'->topRun tb p w n₀ ann n s.abs t*>s'.abs
 |0,_,_,_,h=>by cases h
 |n+1,s,s',t,h=>by
  unfold mG at h;unfold topRun;cases c:through t with
  |true=>rw[c] at h;cases h;rfl
  |false=>
   rw[c] at h;cases d:stepOk n₀ ann t with
   |false=>rw[d] at h;cases h
   |true=>
    rw[d] at h;cases b:stepT (denote tb) p w s t with
    |none=>rw[b] at h;cases h
    |some r=>let#[s₂,t₂]:=r;rw[b] at h;rw[stepT_spec b];show vV h
def yT:-Obj->Nat->BT->BT
 | [],_,t=>t
 |o::os,n,t=>yT os (n+1)\t.ins n o
def st0(w:lp)(os:rq):SharedT:=#[yT (sh w.params).objs.toList 0 .nil,(sh w.params).objs.size,(sh w.params).life,Array.mk [],boot_drawn,boot_toks,os]
def Fy(w:lp)(os:rq):(st0 w os).abs=#[sh w.params,Array.mk [],boot_drawn,boot_toks,os]:=by kernel_rfl
def HM(w:lp):((sh w.params).isNs hK&&(Array.mk []:Array GenState).size==0)=gn:=by kernel_rfl
def JY(w:lp):(sh w.params).objs.size=11:=by kernel_rfl
def Fj(w:lp):(sh w.params).nsMap hK "__annotations__"*>.r 6:=by kernel_rfl
def tq(p:jl)(w:lp)(s:hA):Bool:=staticsOk (r4 p.main.body) (sh w.params) s.heap&&namesBound p s.heap&&gensDone s&&laidKept (sh w.params) s.heap
def G9{p q:jl}{loose:-Str}{Xt:hA->Bool}{α:Type}{Yf:hA->α}{Ya:lp->α}{N:Nat}{g:Bool}{run:lp->rq->Option SharedT}(m:∀w os,run w os=mG qs p w 11 (gm\.r 6) N (st0 w os)\topStub p)(n:Nat.ble 600 N=gn)
  (e:opening p=plainProg p.main.scope.names) (f:∀s,fenceModules? p s*>s)
  (a:∀(w:lp)(os:rq),(run w os).map (λs=>(openSeen q loose (r4 p.main.body) Xt g s.abs).1)*>(openGood q loose).1)
  (c:∀(w:lp)(os:rq),(run w os).map (λs=>((openSeen q loose (r4 p.main.body) Xt g s.abs).2.1,(openSeen q loose (r4 p.main.body) Xt g s.abs).2.2.1))*>((openGood q loose).2.1,(openGood q loose).2.2.1))
  (i:∀(w:lp)(os:rq),(run w os).map (λs=>(openSeen q loose (r4 p.main.body) Xt g s.abs).2.2.2)*>(openGood q loose).2.2.2)
  (b:∀(w:lp)(os:rq),(run w os).map (λs=>(tq p w s.abs,Yf s.abs))*>(gn,Ya w)):LeftO p q loose Xt Yf Ya N g:=λw=>by
 let#[#[h,o,d,k,os],u,e']:=bQ.mp\boot_open e n f w;let#[5,5]:h=sh w.params/\o=Array.mk []/\d=boot_drawn/\k=boot_toks:=‹e'›
 let#[#[s1,j,v],c,i,b]:=#[bQ.mp\a w os,c w os,i w os,b w os];rw[j,nZ] at c i b;let#[c,i,#[l,x],l2]:=#[gY\df c,df i,gY\df b,(lX v\lX c.1 (lX c.2 i):openSeen q loose (r4 p.main.body) Xt g s1.abs=openGood q loose)];rw[m] at j;let r:=vV j;rw[Fy] at r;let t:topFrom qs p w N #[sh w.params,Array.mk [],boot_drawn,boot_toks,os]=gm s1.abs:=by unfold topFrom;dsimp only;rw[HM,JY,Fj,r];unfold tq at l;change (match staticsOk (r4 p.main.body) (sh w.params) s1.abs.heap&&namesBound p s1.abs.heap&&gensDone s1.abs&&laidKept (sh w.params) s1.abs.heap with|true=>_|false=>_)=_;rw[l]
 unfold openEnds;rw[u];change (topFrom qs p w N _).map _=_;rw[t];show congrArg gm\lX l2 x
end L2
namespace K15
open PySem L2 PySem.W K51
def ads:-Addr:=[2,3,18,19,25,26,30,31,35,36,42,43,47,48,52,53,59,60,134,135,141,142,148,149,155,156,162,163,169,170,176,177,183,184,190,191,197,198,204,205,211,212,218,219,225,226,237,238,244,245,251,252,258,259,261,262,263,264,272,273,279,280,286,287,293,294,300,301,305,306,312,313,317,318,322,323,327,328,332,333,337,338,342,343,347,348,354,355,359,360,366,367,373,374,380,381,387,388,392,393,399,400,404,405,409,410,416,417,423,424,428,429]
def view:Program:={P_W with main:={(P_W).main with body:=[aF 1,aF 2,aF 4,aF 5,aF 7,aF 8,aF 9,aF 10,aF 12,aF 13,aF 14,aF 15,aF 16,aF 18,aF 19,aF 21,aF 22,aF 23,aF 25,aF 26,aF 28,aF 29,aF 30,aF 31,aF 32,aF 33,aF 34,aF 35,aF 36,aF 38,aF 39,aF 40,aF 41,aF 42,aF 43,aF 44,aF 45,aF 46,aF 47,aF 48,aF 49,aF 50,aF 51,aF 52,aF 53,aF 54,aF 55,aF 56,aF 57,aF 58,aF 59,aF 60,aF 61,aF 62,aF 63,aF 64]}}
abbrev run(w:lp)(os:rq):Option SharedT:=mG qs P_W w 11 (gm\.r 6) 6028 (st0 w os)\topStub P_W
abbrev seenAt(s:SharedT):=openSeen view [] (r4 (P_W).main.body) (λs=>xlAt view [] s&&recOk [] s) gn s.abs
def leftA(w:lp)(os:rq):(run w os).map (λs=>(seenAt s).1)*>(openGood view []).1:=by kernel_rfl
def leftA2(w:lp)(os:rq):(run w os).map (λs=>((seenAt s).2.1,(seenAt s).2.2.1))*>((openGood view []).2.1,(openGood view []).2.2.1):=by kernel_rfl
def leftA3(w:lp)(os:rq):(run w os).map (λs=>(seenAt s).2.2.2)*>(openGood view []).2.2.2:=by kernel_rfl
def leftB(w:lp)(os:rq):(run w os).map (λs=>(tq P_W w s.abs,Hook.obs (kHook K15.kf K15.ads (λ_=>by kernel_rfl)) s.abs))*>(gn,Hook.val (kHook K15.kf K15.ads (λ_=>by kernel_rfl)) w):=by kernel_rfl
def left:LeftO P_W view [] (λs=>xlAt view [] s&&recOk [] s) (Hook.obs\kHook K15.kf K15.ads (λ_=>by kernel_rfl)) (Hook.val\kHook K15.kf K15.ads (λ_=>by kernel_rfl)) 6028:=
 G9 (run:=run) (λ_ _=>rfl) ⋯ (by kernel_rfl) (λs=>by kernel_rfl) leftA leftA2 leftA3 leftB
end K15
namespace TimS
open PySem PySem.W PyProof.Rows
def half{u w:Nat}(h:¬u ≥ w):u<=(u+w)/2/\(u+w)/2<w:=()
def half'{u w:Nat}(h:¬u ≥ w):u<=u+(w-u)/2/\u+(w-u)/2<w:=()
def fewer{u w k t m:Nat}(h:w-u<=k-t)(h1:m<w)(h2:u<=m):m-u<=k-(t+1):=by rw[AM];show Nat.le_sub_one_of_lt\cS (Nat.sub_lt_sub_right h2 h1) h
def fewer'{u w k t m:Nat}(h:w-u<=k-t)(h1:m<w)(h2:u<=m):w-(m+1)<=k-(t+1):=by rw[AM,AM];show Nat.sub_le_sub_right (dw (Nat.sub_le_sub_left h2 w) h) 1
abbrev SM:=StateT tf Sem
def gal:Bool->sD->Array sD->Nat->Nat->Nat->SM (Option Nat):=sortPriv% PySem.Builtin.gallop
def mlo:Array sD->Array sD->SM (Array sD):=sortPriv% PySem.Builtin.mergeLo
def mhi:Array sD->Array sD->SM (Array sD):=sortPriv% PySem.Builtin.mergeHi
def smg:Nat->SM Unit:=sortPriv% PySem.Builtin.setMinGallop
def bey(l:Bool)(q:sD)(v:Array sD)(o i:Nat):SM (Option Bool):=do
 let x <-elem' v (o+i)
 if l then lt' x q else return (<-lt' q x).map (!·)
def JI(l:Bool)(q:sD)(v:Array sD)(o n h:Nat):gal l q v o n h=(do
 let mut z:=0
 let mut c:=1
 let mut u:=0
 let mut w:=0
 let gm r <-bey l q v o h|return gf
 if r then
  let m:=n-h
  for _ in [0:n] do
   if c ≥ m then break
   let gm g <-bey l q v o (h+c)|return gf
   if !g then break
   z:=c
   c:=2*c+1
  u:=h+z+1
  w:=h+min c m
 else
  let m:=h+1
  for _ in [0:n] do
   if c ≥ m then break
   let gm g <-bey l q v o (h-c)|return gf
   if g then break
   z:=c
   c:=2*c+1
  u:=h+1-min c m
  w:=h-z
 for _ in [0:n] do
  if u ≥ w then break
  let m:=u+(w-u)/2
  let gm g <-bey l q v o m|return gf
  if g then u:=m+1 else w:=m
 return gm w):=rfl
def faL(x y v:Array sD)(i j:Nat):Array Keyed:=v++x.extract i x.size++y.extract j y.size
def fbL(x y v:Array sD)(i j:Nat):Array Keyed:=v++y.extract j y.size++x.extract i x.size
abbrev ZS:=Option (Array sD)×Array sD×Nat×Nat×Nat×Nat
abbrev ZG:=Option (Array sD)×Array sD×Nat×Nat×Nat×Nat×Nat
section
variable (x y:Array sD)
def loS(h:Nat)(v:Array sD)(i j c d:Nat):SM (ForInStep ZS):=do
 let gm b <-lt' (<-elem' y j) (<-elem' x i)|pure (.done (gm\faL x y v i j,v,i,j,c,d))
 if b then elem' y j >>= λa=>
  if j+1==y.size then pure (.done (gm\faL x y (v.push a) i (j+1),v.push a,i,j+1,0,d+1)) else
  if d+1 ≥ h then pure (.done (gf,v.push a,i,j+1,0,d+1)) else pure (.yield (gf,v.push a,i,j+1,0,d+1))
 else elem' x i >>= λa=>
  if i+1+1==x.size then pure (.done (gm\fbL x y (v.push a) (i+1) j,v.push a,i+1,j,c+1,0)) else
  if c+1 ≥ h then pure (.done (gf,v.push a,i+1,j,c+1,0)) else pure (.yield (gf,v.push a,i+1,j,c+1,0))
def loE(v:Array sD)(i j g c d:Nat):SM (ForInStep ZG):=elem' x i >>= λa=>
 if i+1+1==x.size then pure (.done (gm\fbL x y (v.push a) (i+1) j,v.push a,i+1,j,g,c,d)) else
 if c<7&&d<7 then pure (.done (gf,v.push a,i+1,j,g,c,d)) else pure (.yield (gf,v.push a,i+1,j,g,c,d))
def loD(v:Array sD)(i j g c k:Nat):SM (ForInStep ZG):=
 if k>0 then if j+k==y.size then pure (.done (gm\faL x y (v++y.extract j (j+k)) i (j+k),v++y.extract j (j+k),i,j+k,g,c,k)) else loE x y (v++y.extract j (j+k)) i (j+k) g c k
 else loE x y v i j g c k
def loC(v:Array sD)(i j g c d:Nat):SM (ForInStep ZG):=elem' y j >>= λa=>
 if j+1==y.size then pure (.done (gm\faL x y (v.push a) i (j+1),v.push a,i,j+1,g,c,d)) else do
 let gm k <-gal gn (<-elem' x i) y (j+1) (y.size-(j+1)) 0|pure (.done (gm\faL x y (v.push a) i (j+1),v.push a,i,j+1,g,c,d))
 loD x y (v.push a) i (j+1) g c k
def loB(v:Array sD)(i j g k d:Nat):SM (ForInStep ZG):=
 if k>0 then
  if i+k+1==x.size then pure (.done (gm\fbL x y (v++x.extract i (i+k)) (i+k) j,v++x.extract i (i+k),i+k,j,g,k,d)) else
  if i+k==x.size then pure (.done (gm\faL x y (v++x.extract i (i+k)) (i+k) j,v++x.extract i (i+k),i+k,j,g,k,d)) else loC x y (v++x.extract i (i+k)) (i+k) j g k d
 else loC x y v i j g k d
def loA(v:Array sD)(i j g c d:Nat):SM (ForInStep ZG):=do
 smg g
 let gm k <-gal gB (<-elem' y j) x i (x.size-i) 0|pure (.done (gm\faL x y v i j,v,i,j,g,c,d))
 loB x y v i j g k d
theorem Jm:mlo x y=(do
 rule "list.sort.merge-lo"
 let a <-elem' y 0
 if 1==y.size then pure (faL x y (tA [a]) 0 1) else
 if 0+1==x.size then pure (fbL x y (tA [a]) 0 1) else
 let s <-get
 let z <-forIn [0:x.size+y.size] ((gf,(tA [a]),0,1,gallopOf s):Option (Array sD)×Array sD×Nat×Nat×Nat) λ_ z=>do
  let w <-forIn [0:x.size+y.size] ((gf,z.2.1,z.2.2.1,z.2.2.2.1,0,0):ZS) λ_ w=>loS x y z.2.2.2.2 w.2.1 w.2.2.1 w.2.2.2.1 w.2.2.2.2.1 w.2.2.2.2.2
  match w.1 with
  |some r=>pure (.done (gm r,w.2.1,w.2.2.1,w.2.2.2.1,z.2.2.2.2))
  |none=>do
   rule "list.sort.gallop"
   let u <-forIn [0:x.size+y.size] ((gf,w.2.1,w.2.2.1,w.2.2.2.1,z.2.2.2.2+1,w.2.2.2.2.1,w.2.2.2.2.2):ZG) λ_ u=>if u.2.2.2.2.1>1 then loA x y u.2.1 u.2.2.1 u.2.2.2.1 (u.2.2.2.2.1-1) u.2.2.2.2.2.1 u.2.2.2.2.2.2 else loA x y u.2.1 u.2.2.1 u.2.2.2.1 u.2.2.2.2.1 u.2.2.2.2.2.1 u.2.2.2.2.2.2
   match u.1 with
   |some r=>pure (.done (gm r,u.2.1,u.2.2.1,u.2.2.2.1,u.2.2.2.2.1))
   |none=>do
    smg (u.2.2.2.2.1+1)
    pure (.yield (gf,u.2.1,u.2.2.1,u.2.2.2.1,u.2.2.2.2.1+1))
 match z.1 with
 |some r=>pure r
 |none=>unsupported "internal:list.sort.merge-bound"):=by kernel_rfl
end
def G(a:Array sD)(i:Nat):Keyed:=a.getD i (Value.none,Value.none)
structure Cmp(M:Model)(A:ru)(E:gE->hA->Prop)(s:hA)(κ:v7)(N:sD->Prop)(lt:sD->sD->Bool):Prop where
 asym:∀x y,lt x y=gn->lt y x=gB
 tr:∀x y z,lt y x=gB->lt z y=gB->lt z x=gB
 ask:∀{x y:sD}{st:tf}{Q:Option Bool->tf->Prop},N x->N y->kindOf st=κ->Q (gm\lt x y) st->wpS M A E s (lt' x y) Q st
section
variable {M:Model}{κ:v7}{N:sD->Prop}{lt:sD->sD->Bool}
def qP{a:Array sD}{i:Nat}(h:i<a.size):a[i]?*>G a i:=by simp[G,Array.getD,h]
def cT{α:Type}{c:Prop}[Decidable c]{t e:StateT tf Sem α}{Q:α->tf->Prop}{st:tf}(h:c)(q:wpS M A E s t Q st):wpS M A E s (if c then t else e) Q st:=by rw[Oj h];show q
def cH{α:Type}{c:Prop}[Decidable c]{t e:StateT tf Sem α}{Q:α->tf->Prop}{st:tf}(h:¬c)(q:wpS M A E s e Q st):wpS M A E s (if c then t else e) Q st:=by rw[Oi h];show q
def iL{a:Array sD}{i:Nat}{Q:sD->tf->Prop}{st:tf}(h:i<a.size)(q:Q (G a i) st):wpS M A E s (elem' a i) Q st:=by rw[elem'_eq,qP h];show ba q
def jP{α:Type}{a:Array sD}{i:Nat}{k:sD->SM α}{Q:α->tf->Prop}{st:tf}(h:i<a.size)(q:wpS M A E s (k\G a i) Q st):wpS M A E s (elem' a i >>= k) Q st:=aH\iL h q
def jO{α:Type}{m n:Nat}{r:α}{k:SM α}{Q:α->tf->Prop}{st:tf}(b:m=n->Q r st)(c:m≠n->wpS M A E s k Q st):wpS M A E s (if (m==n)=gn then pure r else k) Q st:=by
 by_cases h:m=n
 .exact cT ‹h› (ba\b h)
 show cH ‹h› (c h)
def iY{α:Type}{a:Array sD}{i m n:Nat}{r:sD->α}{k:sD->SM α}{Q:α->tf->Prop}{st:tf}(h:i<a.size)(b:m=n->Q (r\G a i) st)(c:m≠n->wpS M A E s (k\G a i) Q st):wpS M A E s (elem' a i >>= λz=>if (m==n)=gn then pure (r z) else k z) Q st:=jP h\jO b c
def lg{α:Type}{c:Prop}[Decidable c]{b d:α}{Q:α->tf->Prop}{st:tf}(e:Q b st)(f:Q d st):wpS M A E s (if c then pure b else pure d) Q st:=by split<;>apply ba<;>assumption
def wp_b{α:Type}{b:Bool}{t e:SM α}{Q:α->tf->Prop}{st:tf}(c:b=gn->wpS M A E s t Q st)(d:b=gB->wpS M A E s e Q st):wpS M A E s (if b=gn then t else e) Q st:=by
 cases b with
 |true=>show c rfl
 |false=>show d rfl
def yQ{α β:Type}{c:Prop}[Decidable c]{t e:SM α}{Q:α->tf->Prop}{st:tf}{K:β->SM α}(a b:β)(he:K b=e)(d:K a=t)(q:∀g,wpS M A E s (K g) Q st):wpS M A E s (if c then t else e) Q st:=by
 subst he d
 split<;>show q _
def qC{α:Type}{c:Prop}[Decidable c]{t e:SM α}{Q:α->tf->Prop}{st:tf}{K:Array sD->Nat->SM α}(R:Array sD->Nat->Prop)(v:Array sD)(i:Nat)(he:K v i=e)(q:∀v i,R v i->wpS M A E s (K v i) Q st)(b:c->(∀v i,R v i->wpS M A E s (K v i) Q st)->wpS M A E s t Q st)(d:¬c->R v i):wpS M A E s (if c then t else e) Q st:=by
 subst he;by_cases h:c
 .exact cT h\b h q
 show cH h (q>>(d h))
def Cmp.refl(C:Cmp M A E s κ N lt)(x:sD):lt x x=gB:=by
 cases h:lt x x with
 |false=>rfl
 |true=>let z:=C.asym x x h;rw[h] at z;cases z
def Cmp.ltle(C:Cmp M A E s κ N lt){x y z:sD}(h:lt x y=gn)(h2:lt z y=gB):lt x z=gn:=by
 cases q:lt x z with
 |true=>rfl
 |false=>have:=C.tr _ _ _ h2 q;rw[h] at this;cases this
def Cmp.lelt(C:Cmp M A E s κ N lt){x y z:sD}(h:lt y x=gB)(h2:lt y z=gn):lt x z=gn:=by
 cases q:lt x z with
 |true=>rfl
 |false=>have:=C.tr _ _ _ q h;rw[h2] at this;cases this
def zN(C:Cmp M A E s κ N lt){α:Type}{a b:Array sD}{i j:Nat}{k:Option Bool->SM α}{Q:α->tf->Prop}{st:tf}(h1:i<a.size)(h2:j<b.size)(na:∀i,i<a.size->N\G a i)(nb:∀i,i<b.size->N\G b i)(hk:kindOf st=κ)(q:wpS M A E s (k\gm (lt (G a i)\G b j)) Q st):wpS M A E s (do k (<-lt' (<-elem' a i) (<-elem' b j))) Q st:=
 jP h1 (jP h2\aH (C.ask (na _ h1) (nb _ h2) hk q))
def kL{x:String}{Q:Unit->tf->Prop}{st:tf}(h:Q .unit st):wpS M A E s (liftM (rule x):SM Unit) Q st:=wpS_lift\wpAny_rule #[1,h]
def bv(lt:sD->sD->Bool)(l:Bool)(q:sD)(v:Array sD)(o i:Nat):Bool:=if l then lt (G v (o+i)) q else !lt q (G v (o+i))
def kS(C:Cmp M A E s κ N lt){l:Bool}{q:sD}{v:Array sD}{o i:Nat}{st:tf}{Q:Option Bool->tf->Prop}(b:∀i,i<v.size->N\G v i)(c:N q)(hi:o+i<v.size)(d:kindOf st=κ)(h:Q (gm\bv lt l q v o i) st):wpS M A E s (bey l q v o i) Q st:=by
 unfold bey;show aH\iL hi ?_;cases l with
 |true=>show C.ask (b _ hi) c d h
 |false=>show aH\C.ask c (b _ hi) d (ba h)
def kR{l:Bool}{q:sD}{v:Array sD}{o n h:Nat}{st:tf}{Q:Option Nat->tf->Prop}(b:Nat->Bool)(hb:∀i,i<n->∀Q:Option Bool->tf->Prop,Q (gm\b i) st->wpS M A E s (bey l q v o i) Q st)
  (mo:∀i j,i<=j->j<n->b j=gn->b i=gn) (hh:h<n) (hQ:∀k,k<=n->(∀i,i<k->b i=gn)->(∀i,k<=i->i<n->b i=gB)->Q (gm k) st):wpS M A E s (gal l q v o n h) Q st:=by
 let mf:∀i j,i<=j->j<n->b i=gB->b j=gB:=λi j a c d=>by
  cases e:b j with
  |false=>rfl
  |true=>rw[mo i j a c e] at d;cases d
 let tail:∀(u w:Nat),u<=w->w<=n->(∀i,i<u->b i=gn)->(∀i,w<=i->i<n->b i=gB)->wpS M A E s (do
   let mut u:=u
   let mut w:=w
   for _ in [0:n] do
    if u ≥ w then break
    let m:=u+(w-u)/2
    let gm g <-bey l q v o m|return gf
    if g then u:=m+1 else w:=m
   return gm w) Q st:=by
  intro u w h1 h2 h3 h4;dsimp only;show aH (e_ (eP (I:=λi x st'=>st'=st/\x.1=gf/\x.2.1<=x.2.2/\x.2.2<=n/\x.2.2-x.2.1<=n-i/\(∀i,i<x.2.1->b i=gn)/\(∀i,x.2.2<=i->i<n->b i=gB)) (Q:=λx st'=>st'=st/\x.1=gf/\x.2.1=x.2.2/\x.2.2<=n/\(∀i,i<x.2.1->b i=gn)/\(∀i,x.2.2<=i->i<n->b i=gB)) ?step ?fin #[5,h1,h2,by change w-u<=n-0;lia,h3,h4]) ?post)
  case fin=>
   rintro⟨r,u,w⟩ st' ⟨rfl,e,a1,a2,a3,a4,a5⟩;let a1:u<=w:=a1;let a3:w-u<=n-max 0 n:=a3;erw[1,e,by change u=w;lia,a2,a4,a5]
  case step=>
   rintro i ⟨r,u,w⟩ st' _ hi ⟨rfl,e,a1,a2,a3,a4,a5⟩;let#[a1,a2,a3,a4,a5]:=#[(a1:u<=w),(a2:w<=n),(a3:w-u<=n-i),(a4:∀i,i<u->b i=gn),(a5:∀i,w<=i->i<n->b i=gB)];dsimp only;by_cases c:u ≥ w
   .refine cT c ?_;show ba #[5,by change u=w;lia,a2,a4,a5]
   show cH c ?_;let#[m1,m2]:=half' c;generalize u+(w-u)/2=m at m1 m2 |-;show aH\hb _ (cS m2 a2) _ ?_;dsimp only;cases hm:b m with
   |true=>
    show cT rfl ?_;show ba #[5,m2,a2,fewer' a3 m2 m1,λk hk=>mo k m (L5 hk) (cS m2 a2) hm,a5]
   |false=>
    show cH ⋯ ?_;show ba #[5,m1,nW\cS m2 a2,fewer a3 m2 m1,a4,λk hk h'=>mf _ k hk h' hm]
  case post=>
   rintro⟨r,u,w⟩ st' ⟨rfl,e,a1,a2,a3,a4⟩;let e:r=gf:=e;cases e;cases (show u=w from a1);show ba\hQ u a2 a3 a4
 rw[JI];dsimp only;show aH\hb h hh _ ?_;dsimp only;cases b0:b h with
 |true=>
  show cT rfl ?_;show aH (e_ (eP (β:=Option (Option Nat)×Nat×Nat) (I:=λi x st'=>st'=st/\x.1=gf/\b (h+x.2.1)=gn/\h+x.2.1<n/\x.2.1<x.2.2/\i<x.2.2) (Q:=λx st'=>st'=st/\x.1=gf/\b (h+x.2.1)=gn/\h+x.2.1<n/\x.2.1<x.2.2/\(x.2.2 ≥ n-h\/b (h+x.2.2)=gB)) ?s1 ?f1 #[5,b0,hh,gX 0,gX 0]) ?p1)
  case f1=>
   rintro⟨r,z,c⟩ st' ⟨rfl,e,a1,a2,a3,a4⟩;let a4:max 0 n<c:=a4;erw[1,e,a1,a2,a3,.l (by change c ≥ n-h;lia)]
  case s1=>
   rintro i ⟨r,z,c⟩ st' _ hi ⟨rfl,e,a1,a2,a3,a4⟩;let#[a1,a2,a3,a4]:=#[(a1:b (h+z)=gn),(a2:h+z<n),(a3:z<c),(a4:i<c)];dsimp only;by_cases c1:c ≥ n-h
   .exact cT c1\ba #[5,a1,a2,a3,.l c1]
   show cH c1 ?_;show aH\hb _ () _ ?_;dsimp only;cases hm:b (h+c) with
   |true=>
    show cH ⋯ ?_;show ba #[5,hm,by change h+c<n;lia,by change c<2*c+1;lia,by change i+1<2*c+1;lia]
   |false=>
    show cT ⋯ ?_;show ba #[5,a1,a2,a3,.o hm]
  case p1=>
   rintro⟨r,z,c⟩ st' ⟨rfl,e,a1,a2,a3,a4⟩;let e:r=gf:=e;subst e;let#[a1,a2,a3,a4]:=#[(a1:b (h+z)=gn),(a2:h+z<n),(a3:z<c),(a4:c ≥ n-h\/b (h+c)=gB)];dsimp only;show tail (h+z+1) (h+min c (n-h)) () () (λi hi=>mo i (h+z) () a2 a1) (λi hi hn=>?_);rcases a4 with a4|a4
   .lia
   by_cases c1:c ≥ n-h
   .lia
   show mf (h+c) i () hn a4
 |false=>
  show cH ⋯ ?_;show aH (e_ (eP (β:=Option (Option Nat)×Nat×Nat) (I:=λi x st'=>st'=st/\x.1=gf/\b (h-x.2.1)=gB/\x.2.1<=h/\x.2.1<x.2.2/\i<x.2.2) (Q:=λx st'=>st'=st/\x.1=gf/\b (h-x.2.1)=gB/\x.2.1<=h/\x.2.1<x.2.2/\(x.2.2 ≥ h+1\/b (h-x.2.2)=gn)) ?s2 ?f2 #[5,b0,aV _,gX 0,gX 0]) ?p2)
  case f2=>
   rintro⟨r,z,c⟩ st' ⟨rfl,e,a1,a2,a3,a4⟩;let a4:max 0 n<c:=a4;erw[1,e,a1,a2,a3,.l (by change c ≥ h+1;lia)]
  case s2=>
   rintro i ⟨r,z,c⟩ st' _ hi ⟨rfl,e,a1,a2,a3,a4⟩;let#[a1,a2,a3,a4]:=#[(a1:b (h-z)=gB),(a2:z<=h),(a3:z<c),(a4:i<c)];dsimp only;by_cases c1:c ≥ h+1
   .exact cT c1\ba #[5,a1,a2,a3,.l c1]
   show cH c1 ?_;show aH\hb _ () _ ?_;dsimp only;cases hm:b (h-c) with
   |true=>
    show cT rfl ?_;show ba #[5,a1,a2,a3,.o hm]
   |false=>
    show cH ⋯ ?_;show ba #[5,hm,by change c<=h;lia,by change c<2*c+1;lia,by change i+1<2*c+1;lia]
  case p2=>
   rintro⟨r,z,c⟩ st' ⟨rfl,e,a1,a2,a3,a4⟩;let e:r=gf:=e;subst e;let#[a1,a2,a3,a4]:=#[(a1:b (h-z)=gB),(a2:z<=h),(a3:z<c),(a4:c ≥ h+1\/b (h-c)=gn)];dsimp only;show tail (h+1-min c (h+1)) (h-z) () () (λi hi=>?_) (λi hi hn=>mf (h-z) i () hn a1);rcases a4 with a4|a4
   .lia
   by_cases c1:c ≥ h+1
   .lia
   show mo i (h-c) () () a4
end
def faH(x y v:Array sD)(i j:Nat):Array Keyed:=x.extract 0 i++y.extract 0 j++v.reverse
def fbH(x y v:Array sD)(i j:Nat):Array Keyed:=y.extract 0 j++x.extract 0 i++v.reverse
abbrev YS:=Option (Array sD)×Nat×Nat×Array sD×Nat×Nat
abbrev YG:=Option (Array sD)×Nat×Nat×Array sD×Nat×Nat×Nat
section
variable (x y:Array sD)
def hiS(h:Nat)(v:Array sD)(i j c d:Nat):SM (ForInStep YS):=do
 let gm b <-lt' (<-elem' y (j-1)) (<-elem' x (i-1))|pure (.done (gm\faH x y v i j,i,j,v,c,d))
 if b then elem' x (i-1) >>= λa=>
  if i-1==0 then pure (.done (gm\faH x y (v.push a) (i-1) j,i-1,j,v.push a,c+1,0)) else
  if c+1 ≥ h then pure (.done (gf,i-1,j,v.push a,c+1,0)) else pure (.yield (gf,i-1,j,v.push a,c+1,0))
 else elem' y (j-1) >>= λa=>
  if j-1==1 then pure (.done (gm\fbH x y (v.push a) i (j-1),i,j-1,v.push a,0,d+1)) else
  if d+1 ≥ h then pure (.done (gf,i,j-1,v.push a,0,d+1)) else pure (.yield (gf,i,j-1,v.push a,0,d+1))
def hiE(v:Array sD)(i j g c d:Nat):SM (ForInStep YG):=elem' x (i-1) >>= λa=>
 if i-1==0 then pure (.done (gm\faH x y (v.push a) (i-1) j,i-1,j,v.push a,g,c,d)) else
 if c<7&&d<7 then pure (.done (gf,i-1,j,v.push a,g,c,d)) else pure (.yield (gf,i-1,j,v.push a,g,c,d))
def hiD(v:Array sD)(i j g c p k:Nat):SM (ForInStep YG):=
 if k>0 then
  if p==1 then pure (.done (gm\fbH x y (v++(y.extract p j).reverse) i p,i,p,v++(y.extract p j).reverse,g,c,k)) else
  if p==0 then pure (.done (gm\faH x y (v++(y.extract p j).reverse) i p,i,p,v++(y.extract p j).reverse,g,c,k)) else hiE x y (v++(y.extract p j).reverse) i p g c k
 else hiE x y v i j g c k
def hiC(v:Array sD)(i j g c d:Nat):SM (ForInStep YG):=elem' y (j-1) >>= λa=>
 if j-1==1 then pure (.done (gm\fbH x y (v.push a) i (j-1),i,j-1,v.push a,g,c,d)) else do
 let gm p <-gal gn (<-elem' x (i-1)) y 0 (j-1) (j-1-1)|pure (.done (gm\faH x y (v.push a) i (j-1),i,j-1,v.push a,g,c,d))
 hiD x y (v.push a) i (j-1) g c p (j-1-p)
def hiB(v:Array sD)(i j g p k d:Nat):SM (ForInStep YG):=
 if k>0 then
  if p==0 then pure (.done (gm\faH x y (v++(x.extract p i).reverse) p j,p,j,v++(x.extract p i).reverse,g,k,d)) else hiC x y (v++(x.extract p i).reverse) p j g k d
 else hiC x y v i j g k d
def hiA(v:Array sD)(i j g c d:Nat):SM (ForInStep YG):=do
 smg g
 let gm p <-gal gB (<-elem' y (j-1)) x 0 i (i-1)|pure (.done (gm\faH x y v i j,i,j,v,g,c,d))
 hiB x y v i j g p (i-p) d
theorem Jn:mhi x y=(do
 rule "list.sort.merge-hi"
 let a <-elem' x (x.size-1)
 if x.size-1==0 then pure (faH x y (tA [a]) (x.size-1) y.size) else
 if y.size==1 then pure (fbH x y (tA [a]) (x.size-1) y.size) else
 let s <-get
 let z <-forIn [0:x.size+y.size] ((gf,x.size-1,y.size,(tA [a]),gallopOf s):Option (Array sD)×Nat×Nat×Array sD×Nat) λ_ z=>do
  let w <-forIn [0:x.size+y.size] ((gf,z.2.1,z.2.2.1,z.2.2.2.1,0,0):YS) λ_ w=>hiS x y z.2.2.2.2 w.2.2.2.1 w.2.1 w.2.2.1 w.2.2.2.2.1 w.2.2.2.2.2
  match w.1 with
  |some r=>pure (.done (gm r,w.2.1,w.2.2.1,w.2.2.2.1,z.2.2.2.2))
  |none=>do
   rule "list.sort.gallop"
   let u <-forIn [0:x.size+y.size] ((gf,w.2.1,w.2.2.1,w.2.2.2.1,z.2.2.2.2+1,w.2.2.2.2.1,w.2.2.2.2.2):YG) λ_ u=>if u.2.2.2.2.1>1 then hiA x y u.2.2.2.1 u.2.1 u.2.2.1 (u.2.2.2.2.1-1) u.2.2.2.2.2.1 u.2.2.2.2.2.2 else hiA x y u.2.2.2.1 u.2.1 u.2.2.1 u.2.2.2.2.1 u.2.2.2.2.2.1 u.2.2.2.2.2.2
   match u.1 with
   |some r=>pure (.done (gm r,u.2.1,u.2.2.1,u.2.2.2.1,u.2.2.2.2.1))
   |none=>do
    smg (u.2.2.2.2.1+1)
    pure (.yield (gf,u.2.1,u.2.2.1,u.2.2.2.1,u.2.2.2.2.1+1))
 match z.1 with
 |some r=>pure r
 |none=>unsupported "internal:list.sort.merge-bound"):=by kernel_rfl
end
def IE(g:Nat):smg g=modify λs=>SortSt.mk' (kindOf s) (ua s) (sZ s) g (ub s):=rfl
def Jo(i:Nat):mergeAt' i=(do
 let s <-get
 let (gm (p,m,e),gm (q,n,_)):=((sZ s)[i]?,(sZ s)[i+1]?)|unsupported "internal:list.sort.pending"
 set (setPending s\((sZ s).setIfInBounds i (p,m+n,e)).eraseIdxIfInBounds (i+1))
 let gm k <-gal gB (<-elem' (ua s) q) (ua s) p m 0|return gB
 let (p,m):=(p+k,m-k)
 if m==0 then return gn
 let gm n <-gal gn (<-elem' (ua s) (p+m-1)) (ua s) q n (n-1)|return gB
 if n==0 then return gn
 let x:=(ua s).extract p q
 let y:=(ua s).extract q (q+n)
 let r <-if m<=n then mlo x y else mhi x y
 modify λs=>setArr s (r.toList.zipIdx.foldl (λa (z,j)=>a.setIfInBounds (p+j) z)\ua s)
 return (ub (<-get)).isNone):=rfl
section
variable {M:Model}{κ:v7}{N:sD->Prop}{lt:sD->sD->Bool}
def Asc(lt:sD->sD->Bool)(x:Array sD):Prop:=∀i j,i<=j->j<x.size->lt (G x j) (G x i)=gB
def Srt(lt:sD->sD->Bool)(l:-sD):Prop:=l.Pairwise λa b=>lt b a=gB
structure MI(lt:sD->sD->Bool)(x y v:Array sD)(i j:Nat):Prop where
 ix:i<=x.size
 jy:j<=y.size
 pm:v.toList.Perm (x.toList.take i++y.toList.take j)
 so:Srt lt v.toList
 bx:∀a∈v.toList,∀k,i<=k->k<x.size->lt (G x k) a=gB
 by_:∀a∈v.toList,∀k,j<=k->k<y.size->lt (G y k) a=gB
def Good(lt:sD->sD->Bool)(x y v:Array sD):Prop:=v.toList.Perm (x.toList++y.toList)/\Srt lt v.toList
def MI.sw{x y v:Array sD}{i j:Nat}(h:MI lt x y v i j):MI lt y x v j i:=#[h.jy,h.ix,h.pm<*fD,h.so,h.by_,h.bx]
def Ib{x:Array sD}{i:Nat}(h:i<x.size):x.toList.take (i+1)=x.toList.take i++[G x i]:=by rw[bq,ip,qP h];rfl
def MI.push{x y v:Array sD}{i j:Nat}(c:Asc lt x)(h:MI lt x y v i j)(hi:i<x.size)(d:∀k,j<=k->k<y.size->lt (G y k) (G x i)=gB):MI lt x y (v.push\G x i) (i+1) j:=by
 erw[hi,h.jy,?_,?_,λa ha k h1 h2=>?_,λa ha k h1 h2=>?_]
 .rw[iq,Ib hi,e8];show (h.pm.append_right _).trans ?_;rw[e8];show Lr _ fD
 .unfold Srt;rw[iq,nP];erw[h.so,lR _ _,λa ha b e=>?_];rw[aN.mp e];show h.bx a ha i (au _) hi
 .rw[iq] at ha;rcases az.mp ha with ha|ha
  .exact h.bx a ha k () h2
  rw[aN.mp ha];show c i k () h2
 rw[iq] at ha;rcases az.mp ha with ha|ha
 .exact h.by_ a ha k h1 h2
 rw[aN.mp ha];show d k h1 h2
def Ac{x v:Array sD}{i k:Nat}(h:i+k<x.size):v++x.extract i (i+(k+1))=(v++x.extract i (i+k)).push (G x (i+k)):=by
 apply nE.mp;rw[iq,Lj,Lj,uL,uL,uR,uR,e8]
 congr 1
 rw[show i+(k+1)-i=k+1 by lia,show i+k-i=k by lia,bq,lP,ip,qP h];rfl
def MI.chunk{x y v:Array sD}{i j:Nat}(c:Asc lt x)(h:MI lt x y v i j):∀(k:Nat),i+k<=x.size->(∀m,m<k->∀b,j<=b->b<y.size->lt (G y b) (G x (i+m))=gB)->MI lt x y (v++x.extract i (i+k)) (i+k) j
 |0,_,_=>by
  let e:v++x.extract i (i+0)=v:=by apply nE.mp;simp
  rw[e];show h
 |k+1,d,hm=>by
  rw[Ac ()];show (MI.chunk c h k () λm f=>hm m ()).push c ()\hm k (gX _)
def MI.fin{x y v:Array sD}(h:MI lt x y v x.size y.size):Good lt x y v:=by
 erw[?_,h.so];have:=h.pm
 rwa [gW ∅,gW ∅] at this
def MI.fa{x y v:Array sD}{i j:Nat}(d:Asc lt x)(e:Asc lt y)(h:MI lt x y v i j)(f:∀m,i<=m->m<x.size->∀k,j<=k->k<y.size->lt (G y k) (G x m)=gB):Good lt x y (v++x.extract i x.size++y.extract j y.size):=by let hi:=h.ix;let g:=h.jy;let b:=MI.chunk d h (x.size-i) () λm hm k h1 h2=>f _ () () k h1 h2;rw[show i+(x.size-i)=x.size by lia] at b;let c:=MI.chunk e b.sw (y.size-j) () λm hm k h1 h2=>absurd h1 ();rw[show j+(y.size-j)=y.size by lia] at c;show c.sw.fin
def Good.sw{x y v:Array sD}(h:Good lt y x v):Good lt x y v:=#[h.1<*fD,h.2]
def Fr(st b:tf):Prop:=kindOf b=kindOf st/\ua b=ua st/\sZ b=sZ st/\ub b=ub st
def p4{g:Nat}{st b:tf}{Q:Unit->tf->Prop}(f:Fr st b)(h:∀c,Fr st c->Q .unit c):wpS M A E s (smg g) Q b:=by rw[IE];show jn\h _ f
structure J(lt:sD->sD->Bool)(x y:Array sD)(st:tf)(lo:Nat)(r:Option\Array sD)(v:Array sD)(i j:Nat)(st':tf):Prop where
 f:Fr st st'
 yes:∀a,r*>a->Good lt x y a
 no:r=gf->MI lt x y v i j/\i+1<x.size/\j<y.size/\lo<=i+j
def J.on{x y:Array sD}{st b:tf}{lo i j:Nat}{v:Array sD}(f:Fr st b)(h:MI lt x y v i j)(hi:i+1<x.size)(c:j<y.size)(d:lo<=i+j):J lt x y st lo gf v i j b:=#[f,λ_ z=>(nomatch z),λ_=>#[h,hi,c,d]]
def J.end_{x y:Array sD}{st b:tf}{lo i j:Nat}{v a:Array sD}(f:Fr st b)(h:Good lt x y a):J lt x y st lo (gm a) v i j b:=#[f,λ_ z=>df z ▸ h,λz=>(nomatch z)]
def HV(C:Cmp M A E s κ N lt){x y:Array sD}{st:tf}{Q:Array sD->tf->Prop}(hk:kindOf st=κ)(Nx:∀i,i<x.size->N\G x i)(Ny:∀i,i<y.size->N\G y i)(D:Asc lt x)(H:Asc lt y)(h0:0<x.size)(h1:0<y.size)
  (hb:lt (G y 0) (G x 0)=gn) (hl:∀j,j<y.size->lt (G y j) (G x (x.size-1))=gn) (q:∀r l,Fr st l->Good lt x y r->Q r l):wpS M A E s (mlo x y) Q st:=by
 let m0:MI lt x y (tA [G y 0]) 0 1:=by let z:MI lt y x (tA []) 0 0:=#[aV _,aV _,∅,List.Pairwise.nil,∅,∅];show (z.push H h1 λk _ ab=>C.tr _ _ _ (C.asym>>hb)\D 0 k (aV _) ab).sw
 let fa:∀{v:Array sD}{i j:Nat},MI lt x y v i j->j=y.size\/i=x.size->Good lt x y (v++x.extract i x.size++y.extract j y.size):=λ{v i j} m e=>m.fa D H λa h2 u b h4 h5=>absurd e ();let fb:∀{v:Array sD}{i j:Nat},MI lt x y v i j->i+1=x.size->Good lt x y (v++y.extract j y.size++x.extract i x.size):=λ{v i j} m e=>(m.sw.fa H D λa h2 u b h4 h5=>by
  rw[show b=x.size-1 by lia];show C.asym _ _\hl a u).sw
 let al:∀{a b:Nat},(a==b)=gn->a=b:=λh=>‹h›
 let am:∀{a b:Nat},¬(a==b)=gn->a≠b:=λh=>‹h›
 rw[Jm];show aH\kL (aH\iL h1 ?_);by_cases U:(1==y.size)=gn
 .exact cT U\ba (q _ _ #[5,5]\fa m0 (.l\al U))
 show cH U ?_;by_cases X:(0+1==x.size)=gn
 .exact cT X\ba (q _ _ #[5,5]\fb m0 (al X))
 show cH X ?_;let#[U,X,j0]:=#[am U,am X,J.on (lo:=0) (show Fr st st from #[5,5]) m0 () ()\aV _];show aH\iD (aH (e_ (eP (β:=Option (Array sD)×Array sD×Nat×Nat×Nat) (I:=λt z l=>z.1=gf/\J lt x y st t gf z.2.1 z.2.2.1 z.2.2.2.1 l) (Q:=λz l=>J lt x y st (x.size+y.size) z.1 z.2.1 z.2.2.1 z.2.2.2.1 l) ?step ?fin #[1,j0]) ?post))
 case fin=>
  rintro⟨r,v,i,j,g⟩ l ⟨e,h⟩;let e:r=gf:=e;subst e;erw[h.f,h.yes,λz=>by
   let#[a1,w,n,B]:=h.no z;erw[a1,w,n,by rw[u5\aV _] at B;show B]]
 case post=>
  rintro⟨r,v,i,j,g⟩ l h;cases r with
  |some r=>show ba\q _ _ h.f (h.yes _ rfl)
  |none=>
   let#[#[_,w,n,B],w,n,B]:=#[h.no rfl,(w:i+1<x.size),(n:j<y.size),(B:x.size+y.size<=i+j)];lia
 case step=>
  rintro t ⟨r,v,i,j,g⟩ ap _ ht ⟨e,h⟩;let e:r=gf:=e;subst e;dsimp only at h |-;show aH (e_ (eP (β:=ZS) (I:=λk z l=>z.1=gf/\J lt x y st (t+k) gf z.2.1 z.2.2.1 z.2.2.2.1 l) (Q:=λz l=>J lt x y st (t+1) z.1 z.2.1 z.2.2.1 z.2.2.2.1 l) ?s1 ?f1 #[1,h]) ?p1)
  case f1=>
   rintro⟨r,v,i,j,c,d⟩ l ⟨e,h⟩;let e:r=gf:=e;subst e;erw[h.f,h.yes,λz=>by
    let#[a1,w,n,B]:=h.no z;erw[a1,w,n,by rw[u5\aV _] at B;lia]]
  case s1=>
   rintro k ⟨r,v,i,j,c,d⟩ l _ ab ⟨e,h⟩;let#[m,w,n,B]:=h.no rfl;let f:=h.f;clear h e;dsimp only at m w n B |-;show zN C n () Ny Nx (f.1<*hk) ?_;show wp_b (λR=>?_) λR=>?_
   .let O:=(m.sw.push H n λk h2 u=>C.tr _ _ _ (C.asym>>R)\D i k h2 u).sw;show iY n (λe=>J.end_ f\fa O (.l e)) λe=>lg (J.on f O w () ()) #[1,J.on f O w () ()]
   let O:=m.push D () λk h2 u=>C.tr _ _ _ R\H j k h2 u;show iY () (λe=>J.end_ f\fb O e) λe=>lg (J.on f O () n ()) #[1,J.on f O () n ()]
  case p1=>
   rintro⟨r,v,i,j,c,d⟩ l h;cases r with
   |some r=>show ba #[h.f,h.yes,λz=>nomatch z]
   |none=>
   dsimp only at h |-;show aH\kL (aH (e_ (eP (β:=ZG) (I:=λk z l=>z.1=gf/\J lt x y st (t+1) gf z.2.1 z.2.2.1 z.2.2.2.1 l) (Q:=λz l=>J lt x y st (t+1) z.1 z.2.1 z.2.2.1 z.2.2.2.1 l) ?s2 ?f2 #[1,h]) ?p2))
   case f2=>
    rintro⟨r,v,i,j,g,c,d⟩ l ⟨e,h⟩;let e:r=gf:=e;subst e;show h
   case p2=>
    rintro⟨r,v,i,j,g,c,d⟩ l h;cases r with
    |some r=>show ba #[h.f,h.yes,λz=>nomatch z]
    |none=>show aH (p4 h.f λaM f'=>ba #[1,f',λ_ z=>(nomatch z),h.no])
   case s2=>
    rintro k ⟨r,v,i,j,g,c,d⟩ a0 _ ab ⟨e,h⟩;let#[m,w,n,B]:=h.no rfl;let f:=h.f;clear h e;dsimp only at m w n B |-;let tl:∀{o:Nat},bv lt gB (G y j) x i o=gn->lt (G y j) (G x (i+o))=gB:=λh=>by simpa [bv] using h
    let fl:∀{o:Nat},bv lt gB (G y j) x i o=gB->lt (G y j) (G x (i+o))=gn:=λh=>by simpa [bv] using h
    refine' yQ (g-1) g ?he ?ht λg=>?_
    case he=>rfl
    case ht=>rfl
    show aH (p4 f λa5 K=>jP n\aH (kR (bv lt gB (G y j) x i) (λo P Q' q'=>kS C Nx (Ny _ n) () (K.1<*hk) q') (λo p P hp ad=>?_) () λk an Y Z=>?_))
    .cases R:lt (G y j) (G x (i+o)) with
     |false=>change (!lt _ _)=gn;rw[R];rfl
     |true=>have:=C.ltle R\D (i+o) (i+p) () ();rw[tl ad] at this;cases this
    let S:=m.chunk D k () λo P k' h2 u=>C.tr _ _ _ (tl\Y o P)\H j k' h2 u;let n1:i+k<x.size->lt (G y j) (G x (i+k))=gn:=λz=>fl\Z k (au _) ();clear Y Z tl fl
    refine' qC (λv i=>MI lt x y v i j/\i+1<x.size/\lt (G y j) (G x i)=gn/\t+1<=i+j) v i ?he ?tl ?ch λz=>#[m,w,?_,B]
    case he=>rfl
    case ch=>show λ_ tl=>jO (λc1=>J.end_ K\fb S c1) λc1=>jO (λc2=>J.end_ K\fa S (.o c2)) λc2=>tl _ _ #[S,(),n1 (),()]
    rotate_left
    .have:=n1 ()
     rwa [show i+k=i by lia] at this
    rintro v1 L ⟨S,b2,n1,i0⟩;let m2:=(S.sw.push H n λk h2 u=>C.tr _ _ _ (C.asym>>n1)\D L k h2 u).sw;show iY n (λc3=>J.end_ K\fa m2 (.l c3)) λc3=>?_;show jP ()\aH (kR (bv lt gn (G x L) y (j+1)) (λo P Q' q'=>kS C Ny (Nx _ ()) () (K.1<*hk) q') (λo p P hp ad=>C.lelt (H _ _ () ()) ad) () λk an Y Z=>?_);let T:=(m2.sw.chunk H k () λo P k h2 u=>C.tr _ _ _ (C.asym>>(Y o P))\D L k h2 u).sw;let n2:j+1+k<y.size->lt (G y (j+1+k)) (G x L)=gB:=λz=>Z k (au _) ();clear Y Z S n1 m B;let b4:j+1<y.size:=();let i0:t+1<=L+(j+1):=();generalize v1.push (G y j)=v2 at m2 T |-;generalize j+1=j1 at m2 T n2 b4 i0 an |-
    refine' qC (λv j=>MI lt x y v L j/\j<y.size/\lt (G y j) (G x L)=gB/\t+1<=L+j) v2 j1 ?he2 ?tl2 ?ch2 λz=>#[m2,b4,?_,i0]
    case he2=>rfl
    case ch2=>show λ_ tl=>jO (λc4=>J.end_ K\fa T (.l c4)) λc4=>tl _ _ #[T,(),n2 (),()]
    rotate_left
    .have:=n2 ()
     rwa [show j1+k=j1 by lia] at this
    rintro v3 j1 ⟨T,b3,n2,j0⟩;let m4:=T.push D () λk h2 u=>C.tr _ _ _ n2\H j1 k h2 u;show iY () (λc5=>J.end_ K\fb m4 c5) λc5=>lg (J.on K m4 () b3 ()) #[1,J.on K m4 () b3 ()]
end
section
variable {M:Model}{κ:v7}{N:sD->Prop}{lt:sD->sD->Bool}
structure HI(lt:sD->sD->Bool)(x y v:Array sD)(i j:Nat):Prop where
 ix:i<=x.size
 jy:j<=y.size
 pm:v.toList.Perm (x.toList.drop i++y.toList.drop j)
 so:v.toList.Pairwise λa b=>lt a b=gB
 bx:∀a∈v.toList,∀k,k<i->lt a (G x k)=gB
 by_:∀a∈v.toList,∀k,k<j->lt a (G y k)=gB
def HI.sw{x y v:Array sD}{i j:Nat}(h:HI lt x y v i j):HI lt y x v j i:=#[h.jy,h.ix,h.pm<*fD,h.so,h.by_,h.bx]
def JP{x:Array sD}{i:Nat}(h:i<x.size):x.toList.drop i=G x i::x.toList.drop (i+1):=by rw[jc ‹h›];simp[G,h]
def HI.push{x y v:Array sD}{i j:Nat}(c:Asc lt x)(h:HI lt x y v (i+1) j)(d:∀k,k<j->lt (G x i) (G y k)=gB):HI lt x y (v.push\G x i) i j:=by
 let hi:=h.ix;erw[(),h.jy,?_,?_,λa ha k h1=>?_,λa ha k h1=>?_]
 .rw[iq,JP (show i<x.size by lia)];show (fD.trans\List.Perm.cons _ h.pm)
 .rw[iq,nP];erw[h.so,lR _ _,λa ha b e=>?_];rw[aN.mp e];show h.bx a ha i\gX _
 .rw[iq] at ha;rcases az.mp ha with ha|ha
  .exact h.bx a ha k ()
  rw[aN.mp ha];show c k i () ()
 rw[iq] at ha;rcases az.mp ha with ha|ha
 .exact h.by_ a ha k h1
 rw[aN.mp ha];show d k h1
def KA{x v:Array sD}{p k:Nat}(h:p+k<x.size):v++(x.extract p (p+(k+1))).reverse=v.push (G x (p+k))++(x.extract p (p+k)).reverse:=by let e:=Ac (v:=(tA [])) h;simp only[Array.empty_append] at e;rw[e];apply nE.mp;simp
def HI.chunk{x y:Array sD}{p j:Nat}(b:Asc lt x):∀(k:Nat){v:Array sD},HI lt x y v (p+k) j->(∀m,m<k->∀c,c<j->lt (G x (p+m)) (G y c)=gB)->HI lt x y (v++(x.extract p (p+k)).reverse) p j
 |0,v,h,_=>by
  let e:v++(x.extract p (p+0)).reverse=v:=by apply nE.mp;simp
  rw[e];show h
 |k+1,v,h,hm=>by
  let hi:=h.ix;rw[KA ()];show HI.chunk b k (h.push b\hm k (gX _)) λm d=>hm m ()
def HI.fa{x y v:Array sD}{i j:Nat}(d:Asc lt x)(f:Asc lt y)(h:HI lt x y v i j)(g:∀m,m<j->∀k,k<i->lt (G y m) (G x k)=gB):Good lt x y (x.extract 0 i++y.extract 0 j++v.reverse):=by
 let l:=HI.chunk (p:=0) f j (by rw[lV];show h.sw) λm hm k b=>by rw[lV];show g m hm k b
 let c:=HI.chunk (p:=0) d i (by rw[lV];show l.sw) λm hm k b=>absurd b\Me _;rw[lV,lV] at c;let e:(x.extract 0 i++y.extract 0 j++v.reverse)=(v++(y.extract 0 j).reverse++(x.extract 0 i).reverse).reverse:=by apply nE.mp;simp
 rw[e];erw[?_,?_]
 .rw[Ll];have:=c.pm;simp only[Aq] at this;show (nQ _)<*this
 unfold Srt;rw[Ll,LX];show c.so
structure JH(lt:sD->sD->Bool)(x y:Array sD)(st:tf)(lo:Nat)(r:Option\Array sD)(v:Array sD)(i j:Nat)(st':tf):Prop where
 f:Fr st st'
 yes:∀a,r*>a->Good lt x y a
 no:r=gf->HI lt x y v i j/\0<i/\1<j/\lo+(i+j)<=x.size+y.size
def JH.on{x y:Array sD}{st b:tf}{lo i j:Nat}{v:Array sD}(f:Fr st b)(h:HI lt x y v i j)(hi:0<i)(c:1<j)(d:lo+(i+j)<=x.size+y.size):JH lt x y st lo gf v i j b:=#[f,λ_ z=>(nomatch z),λ_=>#[h,hi,c,d]]
def JH.end_{x y:Array sD}{st b:tf}{lo i j:Nat}{v a:Array sD}(f:Fr st b)(h:Good lt x y a):JH lt x y st lo (gm a) v i j b:=#[f,λ_ z=>df z ▸ h,λz=>(nomatch z)]
def HW(C:Cmp M A E s κ N lt){x y:Array sD}{st:tf}{Q:Array sD->tf->Prop}(hk:kindOf st=κ)(Nx:∀i,i<x.size->N\G x i)(Ny:∀i,i<y.size->N\G y i)(B:Asc lt x)(K:Asc lt y)(h0:0<x.size)(h1:0<y.size)
  (hb:lt (G y 0) (G x 0)=gn) (hl:∀j,j<y.size->lt (G y j) (G x (x.size-1))=gn) (q:∀r l,Fr st l->Good lt x y r->Q r l):wpS M A E s (mhi x y) Q st:=by
 let m0:HI lt x y (tA [G x (x.size-1)]) (x.size-1) y.size:=by let z:HI lt x y (tA []) (x.size-1+1) y.size:=#[(),au _,by rw[show x.size-1+1=x.size by lia];simp,List.Pairwise.nil,∅,∅];show z.push B λk ab=>C.asym>>(hl k ab)
 let fa:∀{v:Array sD}{i j:Nat},HI lt x y v i j->i=0\/j=0->Good lt x y (x.extract 0 i++y.extract 0 j++v.reverse):=λ{v i j} m e=>m.fa B K λa h2 b h4=>absurd e ();let fb:∀{v:Array sD}{i j:Nat},HI lt x y v i j->j=1->Good lt x y (y.extract 0 j++x.extract 0 i++v.reverse):=λ{v i j} m e=>(m.sw.fa K B λa h2 b h4=>by
  have:=m.ix;rw[show b=0 by lia];show C.asym _ _\C.ltle hb (B 0 a (aV _) ())).sw
 let al:∀{a b:Nat},(a==b)=gn->a=b:=λh=>‹h›
 let am:∀{a b:Nat},¬(a==b)=gn->a≠b:=λh=>‹h›
 rw[Jn];show aH\kL (aH\iL () ?_);by_cases U:(x.size-1==0)=gn
 .exact cT U\ba (q _ _ #[5,5]\fa m0 (.l\al U))
 show cH U ?_;by_cases X:(y.size==1)=gn
 .exact cT X\ba (q _ _ #[5,5]\fb m0 (al X))
 show cH X ?_;let#[U,X,j0]:=#[am U,am X,JH.on (lo:=0) (show Fr st st from #[5,5]) m0 () () ()];show aH\iD (aH (e_ (eP (β:=Option (Array sD)×Nat×Nat×Array sD×Nat) (I:=λt z l=>z.1=gf/\JH lt x y st t gf z.2.2.2.1 z.2.1 z.2.2.1 l) (Q:=λz l=>JH lt x y st (x.size+y.size) z.1 z.2.2.2.1 z.2.1 z.2.2.1 l) ?step ?fin #[1,j0]) ?post))
 case fin=>
  rintro⟨r,i,j,v,g⟩ l ⟨e,h⟩;let e:r=gf:=e;subst e;erw[h.f,h.yes,λz=>by
   let#[a1,w,L,n]:=h.no z;erw[a1,w,L,by rw[u5\aV _] at n;show n]]
 case post=>
  rintro⟨r,i,j,v,g⟩ l h;cases r with
  |some r=>show ba\q _ _ h.f (h.yes _ rfl)
  |none=>
   let#[_,w,L,n]:=h.no rfl;let w:0<i:=w;let n:x.size+y.size+(i+j)<=x.size+y.size:=n;lia
 case step=>
  rintro t ⟨r,i,j,v,g⟩ ap _ ht ⟨e,h⟩;let e:r=gf:=e;subst e;dsimp only at h |-;show aH (e_ (eP (β:=YS) (I:=λk z l=>z.1=gf/\JH lt x y st (t+k) gf z.2.2.2.1 z.2.1 z.2.2.1 l) (Q:=λz l=>JH lt x y st (t+1) z.1 z.2.2.2.1 z.2.1 z.2.2.1 l) ?s1 ?f1 #[1,h]) ?p1)
  case f1=>
   rintro⟨r,i,j,v,c,d⟩ l ⟨e,h⟩;let e:r=gf:=e;subst e;erw[h.f,h.yes,λz=>by
    let#[a1,w,L,n]:=h.no z;erw[a1,w,L,by rw[u5\aV _] at n;lia]]
  case s1=>
   rintro k ⟨r,i,j,v,c,d⟩ l _ ab ⟨e,h⟩;let#[m,w,L,n]:=h.no rfl;let f:=h.f;clear h e;dsimp only at m w L n |-;let mi:=m.ix;let mj:=m.jy;let#[i,1]:∃i',i=i' + 1:=#[i-1,()];let#[j,1]:∃j',j=j' + 1:=#[j-1,()];show zN C () () Ny Nx (f.1<*hk) ?_;show wp_b (λT=>?_) λT=>?_
   .let P:=m.push B λk h2=>C.tr _ _ _ (K k j () ()) (C.asym>>T);show iY () (λO=>JH.end_ f\fa P (.l O)) λO=>lg (JH.on f P () () ()) #[1,JH.on f P () () ()]
   let P:=(m.sw.push K λk h2=>C.tr _ _ _ (B k i () ()) T).sw;show iY () (λO=>JH.end_ f\fb P O) λO=>lg (JH.on f P () () ()) #[1,JH.on f P () () ()]
  case p1=>
   rintro⟨r,i,j,v,c,d⟩ l h;cases r with
   |some r=>show ba #[h.f,h.yes,λz=>nomatch z]
   |none=>
   dsimp only at h |-;show aH\kL (aH (e_ (eP (β:=YG) (I:=λk z l=>z.1=gf/\JH lt x y st (t+1) gf z.2.2.2.1 z.2.1 z.2.2.1 l) (Q:=λz l=>JH lt x y st (t+1) z.1 z.2.2.2.1 z.2.1 z.2.2.1 l) ?s2 ?f2 #[1,h]) ?p2))
   case f2=>
    rintro⟨r,i,j,v,g,c,d⟩ l ⟨e,h⟩;let e:r=gf:=e;subst e;show h
   case p2=>
    rintro⟨r,i,j,v,g,c,d⟩ l h;cases r with
    |some r=>show ba #[h.f,h.yes,λz=>nomatch z]
    |none=>show aH (p4 h.f λaM f'=>ba #[1,f',λ_ z=>(nomatch z),h.no])
   case s2=>
    rintro k ⟨r,i,j,v,g,c,d⟩ a0 _ ab ⟨e,h⟩;let#[m,w,L,n]:=h.no rfl;let f:=h.f;clear h e;dsimp only at m w L n |-;let mi:=m.ix;let mj:=m.jy;let#[j,1]:∃j',j=j' + 1:=#[j-1,()];let tl:∀{o:Nat},bv lt gB (G y j) x 0 o=gn->lt (G y j) (G x o)=gB:=λh=>by simpa [bv] using h
    let fl:∀{o:Nat},bv lt gB (G y j) x 0 o=gB->lt (G y j) (G x o)=gn:=λh=>by simpa [bv] using h
    refine' yQ (g-1) g ?he ?ht λg=>?_
    case he=>rfl
    case ht=>rfl
    show aH (p4 f λa5 D=>jP ()\aH (kR (bv lt gB (G y j) x 0) (λo H Q' q'=>kS C Nx (Ny _ ()) () (D.1<*hk) q') (λo p H hp ad=>?_) () λp an Y Z=>?_))
    .cases T:lt (G y j) (G x o) with
     |false=>change (!lt _ (G x (0+o)))=gn;rw[lV,T];rfl
     |true=>have:=C.ltle T\B o p () ();rw[tl ad] at this;cases this
    let R:=HI.chunk (p:=p) (v:=v) (j:=j+1) B (i-p) (by rw[show p+(i-p)=i by lia];show m) λo H k' h2=>C.tr _ _ _ (K k' j () ()) (C.asym>>(fl\Z (p+o) () ()));rw[show p+(i-p)=i by lia] at R;let n1:∀o,o<p->lt (G y j) (G x o)=gB:=λo H=>tl\Y o H;clear Y Z tl fl;change wpS _ _ _ _ (hiB x y v i (j+1) g p (i-p) d) _ _;generalize hq:i-p=q
    refine' qC (λv i=>HI lt x y v i (j+1)/\0<i/\(∀o,o<i->lt (G y j) (G x o)=gB)/\t+1+(i+(j+1))<=x.size+y.size) v i ?he ?tl ?ch λz=>#[m,w,?_,n]
    case he=>rfl
    case ch=>show λ_ tl=>jO (λO=>JH.end_ D\fa R (.l O)) λO=>tl _ _ #[R,(),n1,()]
    rotate_left
    .rwa [show p=i by lia] at n1
    rintro v1 u ⟨R,b2,n1,i0⟩;let#[u,1]:∃i',u=i' + 1:=#[u-1,()];let m2:=(R.sw.push K n1).sw;show iY () (λc3=>JH.end_ D\fb m2 c3) λc3=>?_;let mi:=R.ix;show jP ()\aH (kR (bv lt gn (G x u) y 0) (λo H Q' q'=>kS C Ny (Nx _ ()) () (D.1<*hk) q') (λo p H hp ad=>C.lelt (K _ _ () ()) ad) () λp an Y Z=>?_);let tl:∀{o:Nat},bv lt gn (G x u) y 0 o=lt (G y o) (G x u):=λ{o}=>by simp[bv]
    let S:=(HI.chunk (p:=p) (v:=v1.push\G y j) K (j-p) (by rw[show p+(j-p)=j by lia];show m2.sw) λo H k' h2=>C.tr _ _ _ (B k' u () ()) (tl ▸ Z (p+o) () ())).sw;rw[show p+(j-p)=j by lia] at S;let n2:∀o,o<p->lt (G x u) (G y o)=gB:=λo H=>C.asym>>(tl ▸ Y o H);clear Y Z R n1 m n tl;change wpS _ _ _ _ (hiD x y (v1.push\G y j) (u+1) j g q p (j-p)) _ _;generalize hr:j-p=r;generalize v1.push (G y j)=v2 at m2 S |-
    refine' qC (λv j=>HI lt x y v (u+1) j/\1<j/\(∀o,o<j->lt (G x u) (G y o)=gB)/\t+1+(u+1+j)<=x.size+y.size) v2 j ?he2 ?tl2 ?ch2 λz=>#[m2,(),?_,()]
    case he2=>rfl
    case ch2=>show λ_ tl=>jO (λc4=>JH.end_ D\fb S c4) λc4=>jO (λc5=>JH.end_ D\fa S (.o c5)) λc5=>tl _ _ #[S,(),n2,()]
    rotate_left
    .rwa [show p=j by lia] at n2
    rintro v3 j1 ⟨S,b3,n2,j0⟩;let m4:=S.push B n2;show iY () (λc6=>JH.end_ D\fa m4 (.l c6)) λc6=>lg (JH.on D m4 () b3 ()) #[1,JH.on D m4 () b3 ()]
end
def Seg(lt:sD->sD->Bool)(a:Array sD)(lo hi:Nat):Prop:=∀i j,lo<=i->i<=j->j<hi->lt (G a j) (G a i)=gB
def Dn(lt:sD->sD->Bool)(a:Array sD)(lo hi:Nat):Prop:=∀i j,lo<=i->i<=j->j<hi->lt (G a i) (G a j)=gB
def Tl(lt:sD->sD->Bool)(a:Array sD)(hi q:Nat):Prop:=∀i j,hi<=i+(q+1)->i<hi->hi<=j+(q+1)->j<hi->lt (G a i) (G a j)=gB
structure Cg(lo hi:Nat)(a a':Array sD):Prop where
 pm:a'.Perm a
 at_:∀k,k<lo\/hi<=k->G a' k=G a k
def Cg.size{lo hi:Nat}{a b:Array sD}(h:Cg lo hi a b):b.size=a.size:=h.pm.size_eq
def Cg.refl(lo hi:Nat)(a:Array sD):Cg lo hi a a:=#[Le _,λ_ _=>rfl]
def Cg.trans{lo hi:Nat}{a b c:Array sD}(h:Cg lo hi a b)(h2:Cg lo hi b c):Cg lo hi a c:=#[h2.pm<*h.pm,λk d=>(h2.at_ k d).trans\h.at_ k d]
def Cg.mono{lo hi c d:Nat}{a b:Array sD}(h:Cg lo hi a b)(h1:c<=lo)(h2:hi<=d):Cg c d a b:=#[h.pm,λk e=>h.at_ k ()]
def j2{p q:Array sD}{i j:Nat}(h:p[i]?=q[j]?):G p i=G q j:=by
 let e:∀(a:Array sD)(k:Nat),G a k=(a[k]?).getD (Value.none,Value.none):=λa k=>by simp[G]
 rw[e,e,h]
def gh{p:Array sD}{i j:Nat}(b:j<=p.size)(k:Nat):G (mirror p i j ((j-i)/2)) k=if i<=k/\k<j then G p (i+j-1-k) else G p k:=by
 let h:=getElem?_mirror_all (xs:=p) (i:=i) b k
 split
 .rename_i c;rw[Oj c] at h;show j2 h
 rename_i c;rw[Oi c] at h;show j2 h
def qu{p:Array sD}{i j:Nat}(b:j<=p.size):Cg i j p (mirror p i j ((j-i)/2)):=#[mirror_perm _ _ _ _,λk c=>by rw[gh b,Oi ()]]
abbrev sa(st:tf)(a:Array sD):SortSt:=setArr st a
section
variable {M:Model}{κ:v7}{N:sD->Prop}{lt:sD->sD->Bool}
def Nm(N:sD->Prop)(a:Array sD):Prop:=∀x,x∈a->N x
def Nm.at{a:Array sD}(h:Nm N a){i:Nat}(hi:i<a.size):N (G a i):=h _\Array.mem_of_getElem? (qP hi)
def Nm.perm{a b:Array sD}(h:Nm N a)(e:b.Perm a):Nm N b:=λx c=>h x\e.mem_iff.mp c
def mF(C:Cmp M A E s κ N lt){st:tf}{a:Array sD}{i j:Nat}{Q:Option Bool->tf->Prop}(hk:kindOf st=κ)(hN:Nm N a)(hi:i<a.size)(hj:j<a.size)(h:Q (gm\lt (G a i) (G a j))\sa st a):wpS M A E s (ltAt' i j) Q (sa st a):=by rw[ltAt'_eq];show aH\iD ?_;change wpS _ _ _ _ (do let x <-elem' a i;let y <-elem' a j;lt' x y) Q _;show aH\iL hi (aH\iL hj (C.ask (hN.at hi) (hN.at hj) hk h))
def FK(C:Cmp M A E s κ N lt){a:Array sD}{l:Nat}:Seg lt a l (l+1):=λi j h1 h2 b=>by
 have:i=j:=();subst this;show C.refl _
def D6(C:Cmp M A E s κ N lt){a:Array sD}{l n:Nat}(h:Seg lt a l (l+n))(h1:1<=n)(b:lt (G a (l+n)) (G a (l+n-1))=gB):Seg lt a l (l+(n+1)):=λi j hi c f=>by
 by_cases e:j=l+n
 .subst e;by_cases d:i=l+n
  .subst d;show C.refl _
  show C.tr _ (G a (l+n-1)) _ (h i (l+n-1) hi () ()) b
 show h i j hi c ()
def mQ(C:Cmp M A E s κ N lt){a:Array sD}{l n:Nat}(h:Dn lt a l (l+n))(h1:1<=n)(b:lt (G a (l+n-1)) (G a (l+n))=gB):Dn lt a l (l+(n+1)):=λi j hi c f=>by
 by_cases e:j=l+n
 .subst e;by_cases d:i=l+n
  .subst d;show C.refl _
  show C.tr _ (G a (l+n-1)) _ b\h i (l+n-1) hi () ()
 show h i j hi c ()
def DE(C:Cmp M A E s κ N lt){st:tf}{a:Array sD}{l m:Nat}{Q:Option Nat->tf->Prop}(hk:kindOf st=κ)(hN:Nm N a)(h1:1<=m)(hs:l+m<=a.size)
  (q:∀n a',Cg l (l+m) a a'->1<=n->n<=m->Seg lt a' l (l+n)->Q (gm n)\sa st a'):wpS M A E s (countRun' l m) Q (sa st a):=by
 let asc:∀(n:Nat)(a':Array sD)(Q':Option (Option Nat)×Nat->tf->Prop),Cg l (l+m) a a'->1<=n->n<=m->Seg lt a' l (l+n)->(∀n',n<=n'->n'<=m->Seg lt a' l (l+n')->(n'<m->lt (G a' (l+n')) (G a' (l+n'-1))=gn)->Q' (gf,n')\sa st a')->
   wpS M A E s (forIn [n:m] ((gf,n):Option (Option Nat)×Nat) λ_ x=>do
    let z <-ltAt' (l+x.2) (l+x.2-1)
    match z with
    |some z=>if z=gn then pure (ForInStep.done (gf,x.2)) else pure (ForInStep.yield (gf,x.2+1))
    |_=>pure\ForInStep.done (gm gf,x.2)) Q' (sa st a'):=by
  intro n a' Q' cg n1 nm sg q';show eP (β:=Option (Option Nat)×Nat) (I:=λt x st'=>st'=sa st a'/\x.1=gf/\x.2=t/\n<=t/\t<=m/\Seg lt a' l (l+t)) (Q:=Q') ?_ ?_ #[5,1,au _,nm,sg]
  .rintro t ⟨r,n'⟩ st' _ ht ⟨rfl,e1,e2,e3,e4,e5⟩;let e2:n'=t:=e2;subst e2;let hz:=cg.size;show aH\mF C hk (hN.perm cg.pm) () () ?_;cases hc:lt (G a' (l+n')) (G a' (l+n'-1)) with
   |true=>show ba (q' n' e3 () e5 λ_=>hc)
   |false=>show ba #[5,1,(),(),D6 C e5 () hc]
  rintro⟨r,n'⟩ st' ⟨rfl,e1,e2,e3,e4,e5⟩;let e1:r=gf:=e1;let e2:n'=max n m:=e2;subst e1;have:n'=m:=();subst this;rw[show max n n'=n' by lia] at e5;show q' n' nm (au _) e5 λz=>absurd z ()
 let rv:∀{a':Array sD}{n:Nat},Cg l (l+m) a a'->n<=m->Dn lt a' l (l+n)->Seg lt (mirror a' l (l+n) ((l+n-l)/2)) l (l+n):=λ{a' n} cg nm d i j hi hij hj=>by
  let hz:=cg.size;rw[gh (),gh (),Oj (),Oj ()];show d _ _ () () ()
 let rt:∀{a':Array sD}{n q:Nat},Cg l (l+m) a a'->n<=m->q<n->Dn lt a' l (l+n)->Tl lt a' (l+n) q->Dn lt (mirror a' (l+n-(q+1)) (l+n) ((l+n-(l+n-(q+1)))/2)) l (l+n):=λ{a' n q} cg nm hq d tl i j hi hij hj=>by
  let hz:=cg.size;rw[gh (),gh ()]
  split
  .split
   .exact tl _ _ () () () ()
   lia
  split
  .exact d _ _ hi () ()
  show d _ _ hi hij hj
 let t0:∀{a':Array sD}{h:Nat},Tl lt a' h 0:=λ{a' h} i j h1 h2 h3 h4=>by
  have:i=j:=();subst this;show C.refl _
 let dl:∀(n:Nat)(a':Array sD),Cg l (l+m) a a'->1<=n->n<=m->Dn lt a' l (l+n)->wpS M A E s (do
   rule "list.sort.descending-run"
   let mut n:=n
   let mut q:=0
   for _ in [n:m] do
    let gm z <-ltAt' (l+n) (l+n-1)|return gf
    if z then
     if q>0 then reverseSlice' (l+n-(q+1)) (l+n)
     q:=0
    else
     let gm z <-ltAt' (l+n-1) (l+n)|return gf
     if z then break
     q:=q+1
    n:=n+1
   if q>0 then reverseSlice' (l+n-(q+1)) (l+n)
   reverseSlice' l (l+n)
   for _ in [n:m] do
    let gm z <-ltAt' (l+n) (l+n-1)|return gf
    if z then break
    n:=n+1
   return gm n) Q (sa st a'):=by
  intro n a1 cg n1 nm d;dsimp only;show aH\kL (aH\e_ (eP (β:=Option (Option Nat)×Nat×Nat) (I:=λt x st'=>x.1=gf/\x.2.1=t/\n<=t/\t<=m/\x.2.2<t/\∃a',st'=sa st a'/\Cg l (l+m) a a'/\Dn lt a' l (l+t)/\Tl lt a' (l+t) x.2.2)
   (Q:=λx st'=>x.1=gf/\n<=x.2.1/\x.2.1<=m/\x.2.2<x.2.1/\∃a',st'=sa st a'/\Cg l (l+m) a a'/\Dn lt a' l (l+x.2.1)/\Tl lt a' (l+x.2.1) x.2.2) ?_ ?_ #[5,au _,nm,n1,a1,1,cg,d,t0]) ?_)
  .rintro t ⟨r,n',q'⟩ st' _ ht ⟨e1,e2,e3,e4,e5,a',rfl,cg',d',tl⟩;let e2:n'=t:=e2;subst e2;let e5:q'<n':=e5;let hz:=cg'.size;dsimp only at tl |-;show aH\mF C hk (hN.perm cg'.pm) () () ?_;dsimp only;cases hc:lt (G a' (l+n')) (G a' (l+n'-1)) with
   |true=>
    show cT rfl ?_;by_cases hq:q'>0
    .rw[Oj hq,vv];show aH\jn (ba #[5,(),(),by change 0<n' + 1;lia,2,cg'.trans\(qu ()).mono () (),?_,t0]);show mQ C (rt cg' () e5 d' tl) () ?_;rw[gh (by change l+n'<=a'.size;lia),gh (by change l+n'<=a'.size;lia),Oj (),Oi ()];show C.tr _ (G a' (l+n'-1)) _ (C.asym>>hc)\d' _ _ () () ()
    show cH hq ?_;show ba #[5,(),(),by change 0<n' + 1;lia,a',1,cg',mQ C d' () (C.asym>>hc),t0]
   |false=>
    show cH ⋯ ?_;show aH\mF C hk (hN.perm cg'.pm) () () ?_;dsimp only;cases hc2:lt (G a' (l+n'-1)) (G a' (l+n')) with
    |true=>
     show cT rfl ?_;show ba #[1,e3,e4,e5,a',1,cg',d',tl]
    |false=>
     show cH ⋯ ?_;show ba #[5,(),(),by change q' + 1<n' + 1;lia,a',1,cg',mQ C d' () hc2,λi j b1 b2 b3 b4=>?_];let b1:l+(n' + 1)<=i+(q' + 1+1):=b1;let b3:l+(n' + 1)<=j+(q' + 1+1):=b3;by_cases ei:i=l+n'
     .by_cases ej:j=l+n'
      .subst ei;subst ej;show C.refl _
      subst ei;show C.tr _ (G a' (l+n'-1)) _ (tl _ _ () () () ()) hc
     by_cases ej:j=l+n'
     .subst ej;show C.tr _ (G a' (l+n'-1)) _ hc2\tl _ _ () () () ()
     show tl _ _ () () () ()
  .rintro⟨r,n',q'⟩ st' ⟨e1,e2,e3,e4,e5,a',rfl,cg',d',tl⟩;let e2:n'=max n m:=e2;have:n'=m:=();subst this;rw[show max n n'=n' by lia] at d' tl e5 e3;erw[e1,e3,au _,e5,a',1,cg',d',tl]
  rintro⟨r,n',q'⟩ st' ⟨e1,e3,e4,e5,a',rfl,cg',d',tl⟩;cases e1;dsimp only at e3 e4 e5 d' tl |-;let hz:=cg'.size;by_cases hq:q'>0;rw[Oj hq,vv];show aH\jn ?_;let cg2:=cg'.trans\(qu (i:=l+n'-(q' + 1)) (j:=l+n') (p:=a') ()).mono (show l<=_ by lia) (show _<=l+m by lia);let d2:=rt cg' e4 e5 d' tl;change wpS _ _ _ _ _ _\sa st (mirror a' (l+n'-(q' + 1)) (l+n') ((l+n'-(l+n'-(q' + 1)))/2));generalize mirror a' (l+n'-(q' + 1)) (l+n') ((l+n'-(l+n'-(q' + 1)))/2)=a2 at cg2 d2 |-
  rotate_left
  show cH hq ?_;let cg2:=cg';let d2:=d';generalize a'=a2 at cg2 d2 |-
  all_goals
   let hz2:=cg2.size;rw[vv];show aH\jn ?_;let cg3:=cg2.trans\(qu (i:=l) (j:=l+n') (p:=a2) ()).mono (au _) (show _<=l+m by lia);show aH (asc n' _ _ cg3 () e4 (rv cg2 e4 d2) λn'' b1 b2 b3 b4=>?_);show ba\q n'' _ cg3 () b2 b3
 rw[countRun'_eq];dsimp only;show aH (asc 1 a _ (Cg.refl _ _ _) (au _) h1 (FK C) λn b1 b2 b3 b4=>?_);dsimp only;by_cases c1:(n==m)=gn
 .exact cT c1\ba (q n a (Cg.refl _ _ _) b1 b2 b3)
 show cH c1 ?_;let c1:n≠m:=‹c1›
 let hl:=b4 ();by_cases c2:n>1
 .refine cT c2 ?_;show aH\mF C hk hN () () ?_;dsimp only;cases hc:lt (G a l) (G a (l+n-1)) with
  |true=>rw[Oj rfl];show ba\q n a (Cg.refl _ _ _) b1 b2 b3
  |false=>
   rw[Oi ⋯,vv];show aH\jn ?_;let cg:=(qu (i:=l) (j:=l+n) (p:=a) ()).mono (au _) (show l+n<=l+m by lia);change wpS _ _ _ _ _ _\sa st (mirror a l (l+n) ((l+n-l)/2));show dl (n+1) _ cg () ()\mQ C (λi j hi hij hj=>?_) () ?_
   .rw[gh (),gh (),Oj (),Oj ()];show b3 _ _ () () ()
   rw[gh (),gh (),Oj (),Oi (),show l+(l+n)-1-(l+n-1)=l by lia];show C.tr _ (G a (l+n-1)) _ (C.asym>>hl) hc
 show cH c2 ?_;have:n=1:=();subst this;show dl 2 a (Cg.refl _ _ _) () ()\mQ C (λi j hi hij hj=>?_) (au _) (C.asym>>hl);have:i=j:=();subst this;show C.refl _
end
section
variable {M:Model}{κ:v7}{N:sD->Prop}{lt:sD->sD->Bool}
def uu{p:Array sD}{k z:Nat}(d:k<p.size)(f:z<=k)(i:Nat):G (bubble p k (k-z)) i=if i=z then G p k else if z<i/\i<=k then G p (i-1) else G p i:=by
 let h:=getElem?_bubble (xs:=p) (src:=k) d (k-z) () i;let e:k-(k-z)=z:=();rw[e] at h
 repeat' split at h
 .rename_i c;rw[Oj c];show j2 h
 .rename_i c b;rw[Oi c,Oj b];show j2 h
 rename_i c b;rw[Oi c,Oi b];show j2 h
def HY(C:Cmp M A E s κ N lt){st:tf}{a:Array sD}{l n o:Nat}{Q:Bool->tf->Prop}(O:kindOf st=κ)(P:Nm N a)(h1:1<=o)(h2:o<=n)(X:l+n<=a.size)(sg:Seg lt a l (l+o))
  (q:∀b,Cg l (l+n) a b->Seg lt b l (l+n)->Q gn\sa st b):wpS M A E s (binarySort' l n o) Q (sa st a):=by
 rw[binarySort'_eq];dsimp only;show aH (e_ (eP (I:=λk x c=>x.1=gf/\1<=k/\k<=n/\∃b,c=sa st b/\Cg l (l+n) a b/\Seg lt b l (l+k)) (Q:=λx c=>x.1=gf/\∃b,c=sa st b/\Cg l (l+n) a b/\Seg lt b l (l+n)) ?step ?fin #[1,(),(),a,1,Cg.refl _ _ _,by rw[show max o 1=o by lia];show sg]) ?post)
 case fin=>
  rintro⟨r,u⟩ c ⟨e,R,S,b,rfl,p,f⟩;rw[show max (max o 1) n=n by lia] at f;erw[e,b,1,p,f]
 case post=>
  rintro⟨r,u⟩ c ⟨e,b,rfl,p,f⟩;cases e;show ba\q b p f
 case step=>
  rintro k ⟨r,u⟩ c _ Y ⟨e,R,S,b,rfl,p,f⟩;let Z:=p.size;show aH (e_ (eP (β:=Option Bool×Nat×Nat) (I:=λt x c=>c=sa st b/\x.1=gf/\x.2.1<=x.2.2/\x.2.2<=k/\x.2.2-x.2.1<=k-t/\(∀i,i<x.2.1->lt (G b (l+k)) (G b (l+i))=gB)/\(∀i,x.2.2<=i->i<k->lt (G b (l+i)) (G b (l+k))=gB))
   (Q:=λx c=>c=sa st b/\x.1=gf/\x.2.1<=k/\(∀i,i<x.2.1->lt (G b (l+k)) (G b (l+i))=gB)/\(∀i,x.2.1<=i->i<k->lt (G b (l+i)) (G b (l+k))=gB)) ?s8 ?f8 #[5,aV _,au _,au _,λi hi=>absurd hi\Me _,λi hi K=>absurd hi\Nat.not_le_of_lt K]) ?p8)
  case f8=>
   rintro⟨r,u,w⟩ c ⟨rfl,e,B,d,v,g,h⟩;let B:u<=w:=B;let v:w-u<=k-max 0 k:=v;have:u=w:=();subst this;erw[1,e,d,g,h]
  case s8=>
   rintro t ⟨r,u,w⟩ c _ ht ⟨rfl,e,B,d,v,g,h⟩;let B:u<=w:=B;let d:w<=k:=d;let v:w-u<=k-t:=v;dsimp only at g h |-;by_cases H:u ≥ w
   .refine cT H ?_;have:u=w:=();subst this;show ba #[5,d,g,h]
   show cH H ?_;let#[D,y]:=half H;generalize (u+w)/2=m at D y |-;show aH\mF C O (P.perm p.pm) () () ?_;dsimp only;cases L:lt (G b (l+k)) (G b (l+m)) with
   |true=>
    show cT rfl ?_;show ba #[5,D,nW\cS y d,fewer v y D,g,λi hi T=>?_];show C.asym _ _\C.ltle L (f _ _ (uZ _ _) (nU hi l)\L1 T l)
   |false=>
    show cH ⋯ ?_;show ba #[5,y,d,fewer' v y D,λi hi=>?_,h];show C.tr _ _ _ (f _ _ (uZ _ _) (nU (L5 hi) l)\L1 (cS y d) l) L
  case p8=>
   rintro⟨r,u,w⟩ c ⟨rfl,e,d,g,h⟩;cases e;let d:u<=k:=d;dsimp only at g h |-;rw[moveDown'_eq];show aH\jn (ba #[1,(),(),bubble b (l+k) (l+k-(l+u)),1,p.trans #[bubble_perm _ _ _,λi hi=>?_],λi j hi ab K=>?_])
   .rw[uu () (),Oi (),Oi ()]
   rw[uu () (),uu () ()]
   repeat' split
   .exact C.refl _
   all_goals first
    |lia
    |show f _ _ () () ()
    |(let z:=h (j-1-l) () ();rw[show l+(j-1-l)=j-1 by lia] at z;show (by
      rename_i h1 h2 h3;cases U:lt (G b (j-1)) (G b (l+k)) with
      |false=>rfl
      |true=>rw[U] at z;cases z))
    |(let z:=g (i-l) ();rw[show l+(i-l)=i by lia] at z;show z)
end
def zM(p:Nat):∀(l:-sD)(n:Nat)(a:Array sD),p+n+↑l<=a.size->
  ((l.zipIdx n).foldl (λa (z:sD×Nat)=>a.setIfInBounds (p+z.2) z.1) a).size=a.size/\∀m:Nat,((l.zipIdx n).foldl (λa (z:sD×Nat)=>a.setIfInBounds (p+z.2) z.1) a)[m]?=if p+n<=m/\m<p+n+↑l then l[m-(p+n)]? else a[m]?
 | [],n,a,h=>#[1,λm=>by rw[Oi (by simp only[iy];lia)];rfl]
 |x::l,n,a,h=>by
  rw[br] at h;let#[h1,h2]:=zM p l (n+1) (a.setIfInBounds (p+n) x) (by rw[Li];lia);rw[List.zipIdx_cons,Aw];erw[h1<*Li,λm=>?_];rw[h2 m,br,Array.getElem?_setIfInBounds];by_cases c:m=p+n
  .subst c;rw[Oi (),Oj rfl,Oj (),Oj (),nY];rfl
  by_cases b:p+(n+1)<=m/\m<p+(n+1)+↑l
  .rw[Oj b,Oj (),show m-(p+n)=m-(p+(n+1))+1 by lia];rfl
  rw[Oi b,Oi λz=>c z.symm,Oi ()]
def qV{a:Array sD}{k:Nat}{x:sD}(h:a[k]?*>x):G a k=x:=by
 let e:G a k=(a[k]?).getD (Value.none,Value.none):=by simp[G]
 rw[e,h];rfl
def qy{a:Array sD}{p q k:Nat}(h:p+k<q)(b:q<=a.size):G (a.extract p q) k=G a (p+k):=by apply j2;rw[Array.getElem?_extract,Oj ()]
def EK{a:Array sD}{p q r:Nat}(h1:p<=q)(h2:q<=r)(d:r<=a.size):a.toList=a.toList.take p++((a.extract p q).toList++(a.extract q r).toList)++a.toList.drop r:=by
 rw[uL,uL,uR,uR];let b:(a.toList.drop p).take (q-p)++(a.toList.drop q).take (r-q)=(a.toList.drop p).take (r-p):=by rw[show r-p=(q-p)+(r-q) by lia,List.take_add,Lz,show p+(q-p)=q by lia]
 rw[b,e8];let c:(a.toList.drop p).take (r-p)++a.toList.drop r=a.toList.drop p:=by
  conv=>rhs;rw[<-di (r-p)\a.toList.drop p]
  rw[Lz,show p+(r-p)=r by lia]
 rw[c,di]
section
variable {M:Model}{κ:v7}{N:sD->Prop}{lt:sD->sD->Bool}
def wx{α:Type}(u v w:α)(l2:List α):∀b:List α,((b++u::w::l2).set ↑b v).eraseIdx (↑b+1)=b++v::l2
 | []=>rfl
 |x::b=>by
  change x::((b++u::w::l2).set ↑b v).eraseIdx (↑b+1)=_;rw[wx u v w l2 b];rfl
def kK{a:Array sD}{i j:Nat}(h:j<=a.size):(a.extract i j).size=j-i:=by rw[Array.size_extract,u6 h]
def z9{a:Array sD}{x:sD}(h:x∈a.toList):∃k,k<a.size/\G a k=x:=by let#[k,b]:=dD.mp h;rw[ip] at b;erw[k,(Array.getElem?_eq_some_iff.mp b).1,qV b]
def Eh(C:Cmp M A E s κ N lt){a r:Array sD}{p p1 q b z:Nat}(h1:p<=p1)(h2:p1<=q)(O:q+b<=z)(P:z<=a.size)(g:Good lt (a.extract p1 q) (a.extract q (q+b)) r)
  (s1:Seg lt a p q) (s2:Seg lt a q z) (lo:∀k,p<=k->k<p1->∀j,q<=j->j<z->lt (G a j) (G a k)=gB) (hi:∀j,q+b<=j->j<z->∀k,p<=k->k<q->lt (G a j) (G a k)=gB) :
  Cg p z a (r.toList.zipIdx.foldl (λa (z:sD×Nat)=>a.setIfInBounds (p1+z.2) z.1) a)/\Seg lt (r.toList.zipIdx.foldl (λa (z:sD×Nat)=>a.setIfInBounds (p1+z.2) z.1) a) p z:=by
 let w:q+b<=a.size:=dw O P;let x:q<=a.size:=dw (uZ q b) w;let n:↑(a.toList.take p1)=p1:=by rw[aZ,gr,u6\dw h2 x]
 let len:r.toList.length=q-p1+b:=by rw[g.1.length_eq,aE,gr,gr,kK x,kK w,AK]
 let#[Q,l]:=zM p1 r.toList 0 a ();generalize (r.toList.zipIdx.foldl (λa (z:sD×Nat)=>a.setIfInBounds (p1+z.2) z.1) a)=o at Q l |-;rw[len] at l;simp only[L4] at l;let out:∀k,k<p1\/q+b<=k->G o k=G a k:=λk R=>j2 (by rw[l k,Oi ()]);let inn:∀k,p1<=k->k<q+b->∃c,p1<=c/\c<q+b/\G o k=G a c:=λk Y Z=>by
  let e:=l k;rw[Oj ()] at e;let S:k-p1<r.toList.length:=();rw[ay S] at e;let e:=qV e;let mem:r.toList[k-p1]∈r.toList:=je _;rcases az.mp (g.1.mem_iff.mp mem) with h|h
  .let#[c,d,f]:=z9 h;rw[kK x] at d;erw[p1+c,(),(),by rw[e,<-f,qy () ()]]
  let#[c,d,f]:=z9 h;rw[kK w,AK] at d;erw[q+c,(),(),by rw[e,<-f,qy () ()]]
 let T:∀i j,p1<=i->i<=j->j<q+b->lt (G o j) (G o i)=gB:=λi j i1 ij j1=>by
  let y:=l i;let B:=l j;rw[Oj ()] at y B;let li:i-p1<r.toList.length:=();let K:j-p1<r.toList.length:=();rw[ay li] at y;rw[ay K] at B;rw[qV y,qV B];by_cases e:i=j
  .subst e;show C.refl _
  show lQ.mp g.2 (i-p1) (j-p1) li K ()
 erw[#[?_,λk R=>out k ()],λi j v L D=>?_]
 .rw[Lh];let e:o.toList=a.toList.take p1++r.toList++a.toList.drop (q+b):=by
   apply nI;intro m;rw[ip,l m];by_cases d:m<p1
   .rw[Oi (),e8,bY (by rw[n];show d),gR d,ip]
   by_cases f:m<q+b
   .rw[Oj (),e8,fB (by rw[n];lia),bY (by rw[n];lia),n]
   rw[Oi (),fB (by rw[aE,n];lia),lP,ip,aE,n]
   congr 1
   lia
  rw[e];show ((g.1.append_left _).append_right _).trans\Am (EK (a:=a) h2 (uZ q b) ()).symm
 by_cases ci:i<p1
 .rw[out i\.l ci];by_cases H:j<p1
  .rw[out j\.l H];show s1 i j v L ()
  let u:∀c,p1<=c->c<z->lt (G a c) (G a i)=gB:=λc d f=>by
   by_cases I:c<q
   .exact s1 i c v () I
   show lo i v ci c () f
  by_cases U:j<q+b
  .let#[c,d,f,e]:=inn j () U;rw[e];show u c d ()
  rw[out j\.o ()];show u j () D
 by_cases H:j<q+b
 .exact T i j () L H
 rw[out j\.o ()];let u:∀c,p<=c->c<j->lt (G a j) (G a c)=gB:=λc d f=>by
  by_cases I:c<q
  .exact hi j () D c d I
  show s2 c j () () D
 by_cases X:i<q+b
 .let#[c,d,f,e]:=inn i () X;rw[e];show u c () ()
 rw[out i\.o ()];by_cases e:i=j
 .subst e;show C.refl _
 show u i v ()
def HU{st b:tf}{Q:PUnit->tf->Prop}(h:Q #[] b):wpS M A E s (set b:SM PUnit) Q st:=by unfold wpS;rw[StateT.run_set];show aw #[1,h]
def HX(C:Cmp M A E s κ N lt){st:tf}{a:Array sD}{i p m e q n e':Nat}{l1 l2:-(Nat×Nat×Nat)}{Q:Bool->tf->Prop}(hk:kindOf st=κ)(hf:ub st=gf)(hN:Nm N a)(hp:(sZ st).toList=l1++(p,m,e)::(q,n,e')::l2)(hi:↑l1=i)
  (hq:q=p+m) (hm:1<=m) (hn:1<=n) (hs:q+n<=a.size) (s1:Seg lt a p q) (s2:Seg lt a q (q+n))
  (h:∀(a':Array sD)(st':tf),PyProof.Rows.kindOf st'=κ->ub st'=gf->ua st'=a'->(sZ st').toList=l1++(p,m+n,e)::l2->Cg p (q+n) a a'->Seg lt a' p (q+n)->Q gn st'):wpS M A E s (mergeAt' i) Q (sa st a):=by
 let e1:(sZ st)[i]?*>(p,m,e):=by rw[<-ip,hp,<-hi];simp
 let e2:(sZ st)[i+1]?*>(q,n,e'):=by rw[<-ip,hp,<-hi];simp
 let e3:(((sZ st).setIfInBounds i (p,m+n,e)).eraseIdxIfInBounds (i+1)).toList=l1++(p,m+n,e)::l2:=by rw[Array.toList_eraseIdxIfInBounds,Array.toList_setIfInBounds,hp,<-hi];show wx _ _ _ _ _
 let eqt:∀{a b:Nat},(a==b)=gn->a=b:=λh=>‹h›
 let eqf:∀{a b:Nat},¬(a==b)=gn->a≠b:=λh=>‹h›
 rw[Jo];show aH\iD ?_;change wpS _ _ _ _ (match ((sZ st)[i]?,(sZ st)[i+1]?) with|(gm (p,m,e),gm (q,n,_))=>_|_=>_) _ _;rw[e1,e2];dsimp only;show aH\HU ?_;let tl:∀{o:Nat},bv lt gB (G a q) a p o=gn->lt (G a q) (G a (p+o))=gB:=λh=>by simpa [bv] using h
 let fl:∀{o:Nat},bv lt gB (G a q) a p o=gB->lt (G a q) (G a (p+o))=gn:=λh=>by simpa [bv] using h
 show aH\iL (show q<a.size by lia) (aH (kR (bv lt gB (G a q) a p) (λo ho Q' q'=>kS C (λ_ z=>hN.at z) (hN.at ()) (show p+o<a.size by lia) hk q') (λo o' ho hp' hb'=>?_) () λk hk1 hk2 hk3=>?_))
 .cases hc:lt (G a q) (G a (p+o)) with
  |false=>change (!lt _ _)=gn;rw[hc];rfl
  |true=>have:=C.ltle hc\s1 (p+o) (p+o') () () ();rw[tl hb'] at this;cases this
 dsimp only;let seg:(∀i,p<=i->i<q->∀j,q<=j->j<q+n->lt (G a j) (G a i)=gB)->Seg lt a p (q+n):=λhh i j h1 h2 h3=>by
  by_cases c:j<q
  .exact s1 i j h1 h2 c
  by_cases c2:i<q
  .exact hh i h1 c2 j () h3
  show s2 i j () h2 h3
 let low:∀i,p<=i->i<p+k->∀j,q<=j->j<q+n->lt (G a j) (G a i)=gB:=λi h1 h2 j h3 h4=>by
  let z:=tl\hk2 (i-p) ();rw[show p+(i-p)=i by lia] at z;show C.tr _ _ _ z\s2 q j (au _) h3 h4
 by_cases c1:(m-k==0)=gn
 .refine cT c1 ?_;let c1:=eqt c1;show ba\h a _ hk hf rfl e3 (Cg.refl _ _ _) (seg λi h1 h2=>low i h1 ())
 show cH c1 ?_;let c1:=eqf c1;rw[show p+k+(m-k)-1=q-1 by lia];show aH\iL (show q-1<a.size by lia) (aH (kR (bv lt gn (G a (q-1)) a q) (λo ho Q' q'=>kS C (λ_ z=>hN.at z) (hN.at ()) (show q+o<a.size by lia) hk q') (λo o' ho hp' hb'=>C.lelt (s2 _ _ () () ()) hb') () λn1 hn1 hn2 hn3=>?_));dsimp only;let hig:∀j,q+n1<=j->j<q+n->∀i,p<=i->i<q->lt (G a j) (G a i)=gB:=λj h1 h2 i h3 h4=>by
  let z:=hn3 (j-q) () ();let z:lt (G a (q+(j-q))) (G a (q-1))=gB:=z;rw[show q+(j-q)=j by lia] at z;show C.tr _ _ _ (s1 i (q-1) h3 () ()) z
 by_cases c2:(n1==0)=gn
 .refine cT c2 ?_;let c2:=eqt c2;show ba\h a _ hk hf rfl e3 (Cg.refl _ _ _) (seg λi h1 h2 j h3 h4=>hig j () h4 i h1 h2)
 show cH c2 ?_;let c2:=eqf c2;let zx:(a.extract (p+k) q).size=q-(p+k):=kK ();let zy:(a.extract q (q+n1)).size=n1:=by rw[kK (),AK]
 let gx:∀i,i<(a.extract (p+k) q).size->G (a.extract (p+k) q) i=G a (p+k+i):=λi hi=>qy () ();let gy:∀i,i<(a.extract q (q+n1)).size->G (a.extract q (q+n1)) i=G a (q+i):=λi hi=>qy () ();let hx:Asc lt (a.extract (p+k) q):=λi j hij hj=>by rw[gx i (),gx j hj];show s1 _ _ () () ()
 let hy:Asc lt (a.extract q (q+n1)):=λi j hij hj=>by rw[gy i (),gy j hj];show s2 _ _ () () ()
 let Nx:∀i,i<(a.extract (p+k) q).size->N (G (a.extract (p+k) q) i):=λi hi=>by rw[gx i hi];show hN.at ()
 let Ny:∀i,i<(a.extract q (q+n1)).size->N (G (a.extract q (q+n1)) i):=λi hi=>by rw[gy i hi];show hN.at ()
 let hb:lt (G (a.extract q (q+n1)) 0) (G (a.extract (p+k) q) 0)=gn:=by rw[gx 0 (),gy 0 ()];show fl\hk3 k (au _) ()
 let hl:∀j,j<(a.extract q (q+n1)).size->lt (G (a.extract q (q+n1)) j) (G (a.extract (p+k) q) ((a.extract (p+k) q).size-1))=gn:=λj hj=>by
  rw[gx _ (),gy j hj,zx,show p+k+(q-(p+k)-1)=q-1 by lia];show hn2 j ()
 let fin:∀(r:Array sD)(st2:tf),Fr (SortSt.mk' (kindOf st) a (((sZ st).setIfInBounds i (p,m+n,e)).eraseIdxIfInBounds (i+1)) (gallopOf st)\ub st) st2->Good lt (a.extract (p+k) q) (a.extract q (q+n1)) r->
   wpS M A E s (do
    modify λs=>setArr s (r.toList.zipIdx.foldl (λa (z,j)=>a.setIfInBounds (p+k+j) z)\ua s)
    return (ub (<-get)).isNone) Q st2:=λr st2 f g=>by
  let#[f1,f2,f3,f4]:=f;let f2:ua st2=a:=f2;show aH\jn (aH\iD ?_);let#[b1,b2]:=Eh C (p:=p) (z:=q+n) () () () hs g s1 s2 low hig;let fn:ub st2=gf:=f4<*hf;let e9:(ub\setArr st2 (r.toList.zipIdx.foldl (λa (z:sD×Nat)=>a.setIfInBounds (p+k+z.2) z.1)\ua st2)).isNone=gn:=by change (ub st2).isNone=gn;rw[fn];rfl
  change wpS _ _ _ _ (pure (ub\setArr st2 (r.toList.zipIdx.foldl (λa (z:sD×Nat)=>a.setIfInBounds (p+k+z.2) z.1)\ua st2)).isNone) _\setArr st2 (r.toList.zipIdx.foldl (λa (z:sD×Nat)=>a.setIfInBounds (p+k+z.2) z.1)\ua st2);rw[e9];show ba\h _ _ (f1<*hk) fn rfl ?_ ?_ ?_
  .exact (congrArg Array.toList f3).trans e3
  .rw[f2];show b1
  rw[f2];show b2
 by_cases c3:m-k<=n1
 .refine cT c3 ?_;show aH (HV C hk Nx Ny hx hy (show 0<(a.extract (p+k) q).size by lia) (show 0<(a.extract q (q+n1)).size by lia) hb hl λr st2 f g=>fin r st2 f g)
 show cH c3 ?_;show aH (HW C hk Nx Ny hx hy (show 0<(a.extract (p+k) q).size by lia) (show 0<(a.extract q (q+n1)).size by lia) hb hl λr st2 f g=>fin r st2 f g)
end
def Runs(lt:sD->sD->Bool)(a:Array sD):-(Nat×Nat×Nat)->Nat->Nat->Prop
 | [],b,e=>b=e
 |x::l,b,e=>x.1=b/\1<=x.2.1/\Seg lt a b (b+x.2.1)/\Runs lt a l (b+x.2.1) e
section
variable {M:Model}{κ:v7}{N:sD->Prop}{lt:sD->sD->Bool}
def Runs.len{a:Array sD}:∀{l:-(Nat×Nat×Nat)}{b e:Nat},Runs lt a l b e->b+↑l<=e
 | [],_,_,h=>u4 h
 |x::l,b,e,h=>by
  have:=Runs.len h.2.2.2;have:=h.2.1;rw[br];lia
def Seg.congr{a c:Array sD}{b e:Nat}(h:∀k,b<=k->k<e->G c k=G a k)(r:Seg lt a b e):Seg lt c b e:=λi j h1 h2 d=>by
 rw[h i h1 (),h j () d];show r i j h1 h2 d
def Runs.congr{a c:Array sD}:∀{l:-(Nat×Nat×Nat)}{b e:Nat},(∀k,b<=k->k<e->G c k=G a k)->Runs lt a l b e->Runs lt c l b e
 | [],_,_,_,r=>r
 |x::l,b,e,h,r=>by
  have:=Runs.len r.2.2.2;erw[r.1,r.2.1,r.2.2.1.congr λk h1 h2=>h k h1 (),Runs.congr (λk h1 h2=>h k () h2) r.2.2.2]
def Runs.app{a:Array sD}{l2:-(Nat×Nat×Nat)}:∀{c:-(Nat×Nat×Nat)}{b e:Nat},Runs lt a (c++l2) b e↔∃m,Runs lt a c b m/\Runs lt a l2 m e
 | [],b,e=>#[λh=>#[b,1,h],λ⟨m,h1,h2⟩=>by cases h1;show h2]
 |x::c,b,e=>by
  constructor
  .rintro⟨h1,h2,d,f⟩;let#[m,g,i]:=Runs.app.mp f;erw[m,#[h1,h2,d,g],i]
  rintro⟨m,⟨h1,h2,d,f⟩,g⟩;erw[h1,h2,d,Runs.app.mpr #[m,f,g]]
structure RS(κ:v7)(N:sD->Prop)(lt:sD->sD->Bool)(a0:Array sD)(lo:Nat)(st:tf):Prop where
 k:PyProof.Rows.kindOf st=κ
 f:ub st=gf
 pm:(ua st).Perm a0
 r:Runs lt (ua st) (sZ st).toList 0 lo
def yP(C:Cmp M A E s κ N lt){g:Array sD}{lo i:Nat}{st:tf}{Q:Bool->tf->Prop}(L:Nm N g)(R:RS κ N lt g lo st)(Z:lo<=g.size)(hi:i+1<(sZ st).size)
  (q:∀c,RS κ N lt g lo c->(sZ c).size+1=(sZ st).size->(∀k,lo<=k->G (ua c) k=G (ua st) k)->Q gn c):wpS M A E s (mergeAt' i) Q st:=by
 let hz:=R.pm.size_eq;let O:Nm N (ua st):=L.perm R.pm;let#[j,x,y,l2,e,P]:∃j x y l2,(sZ st).toList=j++x::y::l2/\↑j=i:=by
  let h1:i<(sZ st).toList.length:=by rw[gr];lia
  let h2:i+1<(sZ st).toList.length:=by rw[gr];lia
  erw[(sZ st).toList.take i,(sZ st).toList[i],(sZ st).toList[i+1],(sZ st).toList.drop (i+1+1),?_,by rw[aZ];lia];rw[<-jc h2,<-jc h1,di]
 let#[#[p,m,w],#[S,n,w'],r]:=#[x,y,R.r];rw[e] at r;let#[b,u,h1,h2,v,d,z,B,l]:=Runs.app.mp r;let h1:p=b:=h1;subst h1;let d:S=p+m:=d;dsimp only at h2 v z B l;let le:=l.len;change wpS M A E s (mergeAt' i) Q\sa st (ua st);show HX C R.k R.f O e P d h2 z () (by rw[d];show v) (by rw[d];show B) λD c T U o H h I=>q c #[T,U,by rw[o];show h.pm<*R.pm,?_] ?_ λk K=>by rw[o];show h.at_ k ()
 .rw[o,H];let ab:=u.len;show Runs.app.mpr #[p,u.congr λk _ K=>h.at_ k (),1,by change 1<=m+n;lia,?_,?_]
  .change Seg lt D p (p+(m+n));rw[d,AH] at I;show I
  change Runs lt D l2 (p+(m+n)) lo;rw[<-AH];show l.congr λk K _=>h.at_ k ()
 let X:=congrArg List.length e;let Y:=congrArg List.length H;simp only[gr,aE,br] at X Y;lia
def xu{a:Array sD}{w:Nat}:∀{l:-(Nat×Nat×Nat)}{i b e:Nat},Runs lt a l b e->Runs lt a (l.modify i λx=>(x.1,x.2.1,w)) b e
 | [],i,_,_,h=>by
  simpa using h
 |x::l,0,_,_,h=>h
 |x::l,i+1,_,_,h=>#[h.1,h.2.1,h.2.2.1,xu h.2.2.2]
def wp_runs(C:Cmp M A E s κ N lt){a0:Array sD}{st:tf}{Q:Unit->tf->Prop}(hN:Nm N a0)(hk:PyProof.Rows.kindOf st=κ)(hf:ub st=gf)(ha:ua st=a0)(hp:sZ st=(tA []))(h2:2<=a0.size)
  (q:∀st',ub st'=gf->(ua st').Perm a0->Seg lt (ua st') 0 a0.size->Q .unit st'):wpS M A E s sortRuns' Q st:=by
 rw[sortRuns'_eq];show aH\iD ?_;dsimp only;rw[ha];generalize minRun' a0.size a0.size 0=mr;let R0:RS κ N lt a0 0 st:=#[hk,hf,ha ▸ Le _,by rw[hp];show rfl];show aH (e_ (eP (I:=λt x st'=>x.1=gf/\t<=x.2/\x.2<=a0.size/\RS κ N lt a0 x.2 st') (Q:=λx st'=>x.1=gf/\x.2=a0.size/\RS κ N lt a0 x.2 st') ?step ?fin #[1,au _,aV _,R0]) ?post)
 case fin=>
  rintro⟨r,lo⟩ st' ⟨e1,e2,e3,e4⟩;let e2:max 0 a0.size<=lo:=e2;let e3:lo<=a0.size:=e3;erw[e1,by change lo=_;lia,e4]
 case post=>
  rintro⟨r,lo⟩ st' ⟨e1,e2,R⟩;cases e1;let e2:lo=a0.size:=e2;subst e2;dsimp only at R |-;let l0:=R.r.len;rw[gr] at l0;show aH (e_ (eP (I:=λt x st'=>x.1=gf/\RS κ N lt a0 a0.size st'/\((sZ st').size+t<=a0.size\/(sZ st').size<=1)) (Q:=λx st'=>x.1=gf/\RS κ N lt a0 a0.size st'/\(sZ st').size<=1) ?s2 ?f2 #[1,R,.l ()]) ?p2)
  case f2=>
   rintro⟨r,u⟩ st' ⟨e1,R,e2⟩;erw[e1,R,()]
  case p2=>
   rintro⟨r,u⟩ st' ⟨e1,R,e2⟩;cases e1;show ba\q st' R.f R.pm ?_;let r:=R.r;let z:(sZ st').toList.length<=1:=by rw[gr];show e2
   match hh:(sZ st').toList,r,z with
   | [],r,_=>have:0=a0.size:=r;lia
   | [x],r,_=>
    let r3:=r.2.2.1;let e:0+x.2.1=a0.size:=r.2.2.2;rw[e] at r3;show r3
   |x::y::l,r,z=>simp only[br] at z;lia
  case s2=>
   rintro t ⟨r,u⟩ st' _ ht ⟨e1,R,e2⟩;show aH\iD ?_;by_cases c:(sZ st').size<=1
   .exact cT c\ba #[1,R,c]
   show cH c ?_;show aH (yP C hN R (au _) ?_ λst'' R' hz _=>ba #[1,R',()])
   repeat' split
   all_goals lia
 case step=>
  rintro t ⟨r,lo⟩ st' _ ht ⟨e1,e2,e3,R⟩;cases e1;dsimp only at e2 e3 R |-;by_cases c:lo ≥ a0.size
  .exact cT c\ba #[1,by change lo=_;lia,R]
  show cH c ?_;let hz:=R.pm.size_eq;change wpS M A E s _ _\sa st' (ua st');show aH (DE C R.k (hN.perm R.pm) () () λn a1 cg n1 n2 sg=>?_);dsimp only;let R1:RS κ N lt a0 lo (sa st' a1):=#[R.k,R.f,cg.pm<*R.pm,R.r.congr λk _ hk'=>cg.at_ k\.l hk'];let z1:=cg.size;by_cases c2:n<mr;show cT c2 ?_;show aH\kL (aH (HY C R.k (hN.perm R1.pm) (o:=n) n1 () () sg λa2 cg2 sg2=>?_));show cH ⋯ ?_;let R2:RS κ N lt a0 lo (sa st' a2):=#[R.k,R.f,cg2.pm<*R1.pm,R1.r.congr λk _ hk'=>cg2.at_ k\.l hk'];let n3:1<=min (a0.size-lo) mr:=();let n4:lo+min (a0.size-lo) mr<=a0.size:=();generalize min (a0.size-lo) mr=nn at sg2 n3 n4 |-
  rotate_left
  show cH c2 ?_;let#[sg2,R2,n3,n4]:=#[sg,R1,n1,(():lo+n<=a0.size)];clear n1 n2 sg c2;generalize n=nn at sg2 n3 n4 |-;generalize a1=a2 at sg2 R2 |-
  all_goals
   show aH\iD ?_;let last:∀st3,RS κ N lt a0 lo st3->Seg lt (ua st3) lo (lo+nn)->wpS M A E s (do
     modify λs=>setPending s ((sZ s).push (lo,nn,0))
     pure (ForInStep.yield ((gf:Option Unit),lo+nn))) (λ(r:ForInStep (Option Unit×Nat)) st'=>match r with | .done x=>x.1=gf/\x.2=a0.size/\RS κ N lt a0 x.2 st' | .yield x=>x.1=gf/\t+1<=x.2/\x.2<=a0.size/\RS κ N lt a0 x.2 st') st3:=λst3 R3 sg3=>by
    show aH\jn (ba #[1,by change t+1<=lo+nn;lia,n4,R3.k,R3.f,R3.pm,?_]);change Runs lt (ua st3) ((sZ st3).push (lo,nn,0)).toList 0 (lo+nn);rw[iq];show Runs.app.mpr #[lo,R3.r,1,n3,sg3,1]
   cases hb:(sZ\sa st' a2).back? with
   |none=>show last _ R2 sg2
   |some y=>
    let#[s1,n5,w]:=y;dsimp only;generalize power' _ _ _ _=pw;show aH\e_ (eP (I:=λ_ x st3=>x.1=gf/\RS κ N lt a0 lo st3/\Seg lt (ua st3) lo (lo+nn)) (Q:=λx st3=>x.1=gf/\RS κ N lt a0 lo st3/\Seg lt (ua st3) lo (lo+nn)) ?_ (λ_ _ z=>z) #[1,R2,sg2]) ?_
    .rintro t3 ⟨r,u⟩ st3 _ ht3 ⟨e1,R3,sg3⟩;show aH\iD ?_;by_cases c3:(sZ st3).size>1
     .rw[Oj c3,Ag (show (sZ st3).size-2<(sZ st3).size by lia)];dsimp only
      split
      .exact ba #[1,R3,sg3]
      show aH (yP C hN R3 e3 () λst4 R4 _ k4=>ba #[1,R4,sg3.congr λk hk1 _=>k4 k hk1])
     rw[Oi c3];show ba #[1,R3,sg3]
    rintro⟨r,u⟩ st3 ⟨e1,R3,sg3⟩;cases e1;show aH\jn (last _ #[R3.k,R3.f,R3.pm,?_] sg3);change Runs lt (ua st3) ((sZ st3).modify _ _).toList 0 lo;rw[Array.toList_modify];show xu R3.r
end
end TimS
section
namespace L2
open PySem PySem.Spec PyProof.Rows
abbrev Key:=Sum Int Str
def lE:Key->gE->Bool
 |.inl k,v=>Value.isInt k v
 |.inr x,v=>Value.isStrOf x v
def keyH(w:lp):Key->Int
 |.inl k=>hashInt k
 |.inr x=>hashStr w x
def fU:∀{k:Key}{v:gE},lE k v=gn->(∃i t,k=Sum.inl i/\v=Value.int i t)\/(∃x t,k=Sum.inr x/\v=Value.str x t)
 |.inl i,v,h=>by
  let#[t,e]:=Value.isInt_shape (k:=i) (v:=v) h;show .l #[i,t,1,e]
 |.inr x,v,h=>by
  let#[t,e]:=Value.isStrOf_shape (x:=x) (v:=v) h;show .o #[x,t,1,e]
def Dk(i:Int)(t:Tok):lE (.l i) (.i i t)=gn:=by simp[lE,Value.isInt]
def Di(x:Str)(t:Tok):lE (.o x) (.s x t)=gn:=by simp[lE,Value.isStrOf]
def Ju(a b:Int):decide ((Sum.inl a:Key)=Sum.inl b)=(a==b):=by
 by_cases e:a=b
 .subst e;simp
 let h:¬(Sum.inl a:Key)=Sum.inl b:=λq=>e\oe q;rw[Om h];show (beq_eq_false_iff_ne.mpr e).symm
def Jr(a b:Str):decide ((Sum.inr a:Key)=Sum.inr b)=decide (a=b):=by
 by_cases e:a=b
 .subst e;simp
 let h:¬(Sum.inr a:Key)=Sum.inr b:=λq=>e\Sum.inr.inj q;rw[Om h,Om e]
def Jt(a:Int)(b:Str):decide ((Sum.inl a:Key)=Sum.inr b)=gB:=Om (λq=>nomatch q)
def Js(a:Str)(b:Int):decide ((Sum.inr a:Key)=Sum.inl b)=gB:=Om (λq=>nomatch q)
def cM(prog:jl)(w:lp):PySem.KeyKind prog w Key where
 is:=lE
 hash:=keyH w
 inj:=λv a b ha f=>by
  rcases fU ha with ⟨i,t,rfl,rfl⟩|⟨x,t,rfl,rfl⟩
  .rcases fU f with ⟨j,u,rfl,e⟩|⟨y,u,rfl,e⟩
   .injection e with c _;rw[c]
   show nomatch e
  rcases fU f with ⟨j,u,rfl,e⟩|⟨y,u,rfl,e⟩
  .exact nomatch e
  injection e with c _;rw[c]
 byValue:=λk v h=>by
  rcases fU h with ⟨i,t,rfl,rfl⟩|⟨x,t,rfl,rfl⟩<;>rfl
 pyHash:=λd h=>by
  rcases fU d with ⟨i,t,rfl,rfl⟩|⟨x,t,rfl,rfl⟩
  .exact wpAny_pyHash_int h
  show wpAny_pyHash_str h
 eqBool:=λg d h=>by
  rcases fU g with ⟨i,t,rfl,rfl⟩|⟨x,t,rfl,rfl⟩
  .rcases fU d with ⟨j,u,rfl,rfl⟩|⟨y,u,rfl,rfl⟩
   .rw[Ju] at h;show A_ h
   rw[Jt] at h;show MN i t y u _ _ _ _ h
  rcases fU d with ⟨j,u,rfl,rfl⟩|⟨y,u,rfl,rfl⟩
  .rw[Js] at h;show MO x t j u _ _ _ _ h
  rw[Jr] at h;show wpAny_eqBool_str h
 «strs»:=λk x t v h=>by
  rcases fU h with ⟨i,u,rfl,e⟩|⟨y,u,rfl,e⟩
  .exact nomatch e
  injection e with c _;subst c;cases v<;>rfl
def BQ(prog:jl)(w:lp)(i:Int)(t:Tok):(cM prog w).is (.l i) (.i i t)=gn:=Dk i t
def BP(prog:jl)(w:lp)(x:Str)(t:Tok):(cM prog w).is (.o x) (.s x t)=gn:=Di x t
end L2
namespace L2
open PySem PySem.Spec PyProof.Rows
inductive V where
 |non|bl (b:Bool)|int (i:Int)|str (x:Str)|byt (b:Array UInt8)|flt (b:UInt64)|ref (a:gL)|ty (n:String)
 deriving DecidableEq
def aB:V->gE->Prop
 |.non,u=>u=Value.none
 |.bl b,u=>u=Value.bool b
 |.int i,u=>∃t,u=Value.int i t
 |.str x,u=>∃t,u=Value.str x t
 |.byt b,u=>∃t,u=Value.bytes b t
 |.flt b,u=>∃t,u=Value.float b t
 |.ref a,u=>u=Value.ref a
 |.ty n,u=>u=Value.type n
abbrev Vals:-V->-gE->Prop:=Paired aB
def Vals.length{xs:-V}(r:Vals xs us):↑xs=↑us:=n6 r
def Vals.get:∀{xs:-V}{us:-gE}{i:Nat}{x:V},Vals xs us->xs[i]?*>x->∃u,us[i]?*>u/\aB x u
 |_,_,_,_,.nil,e=>by simp at e
 |_,_,0,_,.cons r _,e=>by simp at e;subst e;erw[2,r]
 |_,_,i+1,x,.cons _ t,e=>by
  let#[u,h1,h2]:=Vals.get (i:=i) (x:=x) t ‹e›;erw[u,‹h1›,h2]
def Vals.set{x:V}{u:gE}(r:aB x u):∀{xs:-V}{us:-gE}(i:Nat),Vals xs us->Vals (xs.set i x) (us.set i u)
 |_,_,_,.nil=>.nil
 |_,_,0,.cons _ t=>.c r t
 |_,_,i+1,.cons q t=>.c q\Vals.set r i t
def Vals.append{xs ys:-V}{us ws:-gE}(h:Vals xs us)(s:Vals ys ws):Vals (xs++ys) (us++ws):=by
 induction h with
 |nil=>show s
 |cons r t b=>show .c r b
def Vals.take:∀{xs:-V}{us:-gE}(n:Nat),Vals xs us->Vals (xs.take n) (us.take n)
 |_,_,0,_=>.nil
 |_,_,_+1,.nil=>.nil
 |_,_,n+1,.cons r t=>.c r\Vals.take n t
def Vals.drop:∀{xs:-V}{us:-gE}(n:Nat),Vals xs us->Vals (xs.drop n) (us.drop n)
 |_,_,0,r=>r
 |_,_,_+1,.nil=>.nil
 |_,_,n+1,.cons _ t=>Vals.drop n t
def dC:Option V->Option gE->Prop
 |some v,gm u=>aB v u
 |none,gf=>True
 |_,_=>False
def KV{κ:Type}:-(κ×V)->-(κ×gE)->Prop:=Paired λ(p:κ×V)(q:κ×gE)=>p.1=q.1/\aB p.2 q.2
def kV:Key->V
 |.inl i=>.i i
 |.inr x=>.s x
inductive HO where
 |lst (xs:-V)
 |tup (xs:-V)
 |dK (kvs:-(Key×V))|dT (kvs:-(-Key×V))
 |set (S:Int->Bool) (n:Nat)
 |ins (C dx:gL) (fs:-(Str×V))
 |own (x:gL)
 |xd (fs:-(Str×V))
 |met (f x:gL)
 |rng (lo hi:Int)
 |frz (o:Obj) (u:HO)
 |tbl (ps:Array gE)
 |ext (φ:js->Prop)
abbrev Hp:=gL->Option HO
def upd(H:Hp)(a:gL)(o:HO):Hp:=λb=>if b=a then gm o else H b
def aW{H:Hp}{a:gL}{o:HO}:upd H a o a*>o:=by unfold upd;rw[Oj rfl]
def aS{H:Hp}{a b:gL}{o:HO}(h:b≠a):upd H a o b=H b:=by unfold upd;rw[Oi h]
def tm{H:Hp}{a:gL}{o u:HO}:upd (upd H a o) a u=upd H a u:=by funext b;unfold upd;split<;>rfl
def bI{H:Hp}{a b:gL}{o u:HO}(h:H a*>o)(h':H b*>u)(d:o≠u):a≠b:=by intro e;subst e;rw[h] at h';show d\df h'
def ao{H:Hp}{a b:gL}{o:HO}(h:H a*>o)(h':H b=gf):a≠b:=by intro e;subst e;rw[h] at h';cases h'
section
variable (P:jl)(w:lp)
def bJ(H:Hp)(h:js)(a:gL):HO->Prop
 |.lst xs=>↑xs<=hH/\∃(b:-gE)(n:Nat),Vals xs b/\h.get? a*>{cls:=.t ↑15,data:=.e b.toArray n}
 |.tup xs=>(↑xs<=hH/\∃o,h.get? a*>o/\o.dict=gf)/\∃b:-gE,Vals xs b/\IsTup h a b.toArray
 |.dK kvs=>↑kvs<=hH/\(a==mc)=gB/\∃vs,KV kvs vs/\h.DictOf (cM P w) a vs
 |.dT kvs=>↑kvs<=hH/\(a==mc)=gB/\∃xs:-(-Key×gL×gE),
   Paired (λ(p:-Key×V)(q:-Key×gL×gE)=>p.1=q.1/\H q.2.1*>.u (p.1.map kV)/\aB p.2 q.2.2) kvs xs/\
   ∃o es ep,h.get? a*>o/\o.ExactDict/\o.data=.y es ep/\es.toList=xs.map (entryOfKey\tupleKind (cM P w))/\(xs.map (·.1)).Nodup
 |.set S n=>h.SetOf (intKind P w) a S n
 |.ins C dx fs=>H dx*>.own a/\↑fs<=1000/\dx≠a/\h.get? a*>W.instObj C dx/\
   ∃mA,h.Ns1 dx mA/\(∀f,dC (fs.lookup f)\mA f)/\PySem.Within mA\fs.map (·.1)
 |.own _=>∃o,h.get? a*>o
 |.xd fs=>∃mA,h.Ns1 a mA/\∀f,dC (fs.lookup f)\mA f
 |.rng lo hi=>∃t u v,h.get? a*>{cls:=.t ↑89,data:=.d\tA [.i lo t,.i hi u,.i 1 v]}
 |.frz o u=>h.get? a*>o/\bJ H h a u
 |.tbl ps=>h.get? a*>{cls:=.none,data:=.d ps}
 |.met f x=>h.get? a*>W.methodObj (.r f)\.r x
 |.ext φ=>φ h/\(∃o,h.get? a*>o)/\∀h1 h2:js,φ h1->(∀o,h1.get? a*>o->h2.get? a*>o)->φ h2
def HOk(H:Hp)(h:js):Prop:=∀a o,H a*>o->bJ P w H h a o
end
section
variable {H H':Hp}{h h':js}{a:gL}{o:HO}
def bJ.lt(x:bJ P w H h a o):a<h.objs.size:=by
 cases o with
 |lst xs=>let#[8,_,e]:=x;show aX e
 |tup xs=>let#[8,p]:=x;show p.lt
 |dK kvs=>let#[8,_,o,0,e,_]:=x;show aX e
 |dT kvs=>let#[8,_,o,0,e,_]:=x;show aX e
 |set S n=>let#[o,8,e,_]:=x;show aX e
 |ins C dx fs=>let#[8,e,_]:=x;show aX e
 |own y=>let#[_,e]:=x;show aX e
 |xd fs=>let#[_,#[8,e,_],_]:=x;show aX e
 |rng lo hi=>let#[8,e]:=x;show aX e
 |frz ob u=>let#[e,_]:=x;show aX e
 |tbl ps=>show aX (show h.get? a*>_ from x)
 |met f y=>show aX (show h.get? a*>_ from x)
 |ext φ=>let#[_,#[_,e],_]:=x;show aX e
def Paired.mapP{α β:Type}{F G:α->β->Prop}:∀{l₁:List α}{l₂:List β},Paired F l₁ l₂->(∀a b,F a b->G a b)->Paired G l₁ l₂
 |_,_,.nil,_=>.nil
 |_,_,.cons r t,f=>.c (f>>r)\Paired.mapP t f
def Paired.imp'{α β:Type}{F G:α->β->Prop}(f:∀a b,F a b->G a b){l₁:List α}{l₂:List β}(r:Paired F l₁ l₂):Paired G l₁ l₂:=Paired.mapP r f
def bJ.stay(x:bJ P w H h a o)(k:∀b u,(b=a\/H b*>.own a)->h.get? b*>u->h'.get? b*>u)
  (i:∀b,H b*>.own a->H' b*>.own a) (j:∀b xs,H b*>.u xs->H' b*>.u xs):bJ P w H' h' a o:=by
 induction o with
 |lst xs=>let#[z,g,n,r,e]:=x;erw[z,g,n,r,k _ _ (.l rfl) e]
 |tup xs=>let#[#[z,o',e',d'],g,r,ob,e,c]:=x;erw[#[z,o',k _ _ (.l rfl) e',d'],g,r,ob,k _ _ (.l rfl) e,c]
 |dK kvs=>let#[z,y,vs,r,ob,es,ep,e,c]:=x;erw[z,y,vs,r,ob,es,ep,k _ _ (.l rfl) e,c]
 |dT kvs=>
  let#[z,y,xs,r,ob,es,ep,e,c]:=x;erw[z,y,xs,Paired.mapP r λp q z=>#[z.1,j>>z.2.1,z.2.2],ob,es,ep,k _ _ (.l rfl) e,c]
 |set S n=>let#[ob,es,ep,t,e,c]:=x;erw[ob,es,ep,t,k _ _ (.l rfl) e,c]
 |ins C dx fs=>
  let#[d,z,ne,e,mA,#[od,es,ep,l,c],r]:=x;erw[i _ d,z,ne,k _ _ (.l rfl) e,mA,#[od,es,ep,k _ _ (.o d) l,c],r]
 |own y=>let#[ob,e]:=x;erw[ob,k _ _ (.l rfl) e]
 |xd fs=>let#[mA,#[od,es,ep,e,c],r]:=x;erw[mA,#[od,es,ep,k _ _ (.l rfl) e,c],r]
 |rng lo hi=>let#[t,u,v,e]:=x;erw[t,u,v,k _ _ (.l rfl) e]
 |frz ob u m=>let#[e,q]:=x;erw[k _ _ (.l rfl) e,m q]
 |tbl ps=>
  let e:h.get? a*>{cls:=.none,data:=.d ps}:=x;change h'.get? a*>{cls:=.none,data:=.d ps};show k a _ (.l rfl) e
 |met f y=>
  let e:h.get? a*>W.methodObj (.r f) (.r y):=x;change h'.get? a*>W.methodObj (.r f)\.r y;show k a _ (.l rfl) e
 |ext φ=>let#[p,#[o,e],st]:=x;erw[st _ _ p λo q=>k _ _ (.l rfl) q,#[o,k _ _ (.l rfl) e],st]
def HOk.lt(x:HOk P w H h)(e:H a*>o):a<h.objs.size:=(x a o e).lt
def HOk.fresh(x:HOk P w H h)(e:h.objs.size<=a):H a=gf:=by
 cases q:H a with
 |none=>rfl
 |some u=>show absurd (cS (x.lt q) e)\dW _
def HOk.kept(x:HOk P w H h)(k:∀b u,h.get? b*>u->h'.get? b*>u):HOk P w H h':=λa o e=>
 (x a o e).stay (λb u _ q=>k b u q) (λ_ q=>q) λ_ _ q=>q
def HOk.laid(x:HOk P w H h)(k:∀b u,h.get? b*>u->h'.get? b*>u)(g:h.objs.size<=a)(new:bJ P w (upd H a o) h' a o):HOk P w (upd H a o) h':=λb u e=>by
 let d:=x.fresh g;by_cases f:b=a
 .subst f;rw[aW] at e;cases e;show new
 rw[aS f] at e;show (x b u e).stay (λc v _ q=>k c v q) (λc q=>by rw[aS\ao q d];show q) λc xs q=>by rw[aS\ao q d];show q
end
def Rd(H:Hp)(a:gL)(u:HO):Prop:=H a*>u\/∃o,H a*>.z o u
def Rd.ok{H:Hp}{h:js}{a:gL}{u:HO}(r:Rd H a u)(x:HOk P w H h):bJ P w H h a u:=by
 rcases r with r|⟨o,r⟩
 .exact x a u r
 let#[_,q]:=x a _ r;show q
def Mut:Option HO->Prop
 |some (.lst _)=>True
 |some (.dK _)=>True
 |some (.dT _)=>True
 |some (.set _ _)=>True
 |some (.ins _ _ _)=>True
 |some (.ext _)=>True
 |_=>False
section
variable {H:Hp}{h h':js}{x e:gL}{o':HO}
def HOk.write(ok:HOk P w H h)(d:Mut\H x)(he:e=x\/H e*>.own x)(k:∀b u,b≠e->h.get? b*>u->h'.get? b*>u)(m:∃u,h'.get? e*>u)
  (new:bJ P w (upd H x o') h' x o'):HOk P w (upd H x o') h':=λb u q=>by
 let j:∀c y,H c*>.own y->c≠x:=λc y r z=>by subst z;rw[r] at d;show d
 let n:∀c xs,H c*>.u xs->c≠x:=λc xs r z=>by subst z;rw[r] at d;show d
 by_cases f:b=x
 .subst f;rw[aW] at q;cases q;show new
 rw[aS f] at q;by_cases g:b=e
 .let l:H b*>.own x:=by
   rcases he with z|z
   .exact absurd (g<*z) f
   rw[g];show z
  rw[q] at l;cases l;let#[v,o]:=m;erw[v,by rw[g];show o]
 show (ok b u q).stay (λc v i r=>k c v ?_ r) (λc r=>by rw[aS\j c b r];show r) λc xs r=>by rw[aS\n c xs r];show r
 rcases i with rfl|i
 .exact g
 rintro rfl;rcases he with z|z
 .exact j c b i z
 rw[i] at z;cases z;show f rfl
end
structure Un(fs ex:-gL)(H H':Hp)(h h':js):Prop where
 keep:∀b o,h.get? b*>o->H b=gf->b∉fs->b∉ex->h'.get? b*>o
 slot:∀b o,h.get? b*>o->H b=gf->b∈fs->b∉ex->∃sl,h'.get? b*>{o with slots:=sl}
 free:∀b o,h.get? b*>o->H b=gf->b∉ex->H' b=gf
 there:∀b o,h.get? b*>o->b∉ex->∃o',h'.get? b*>o'
 tups:∀b xs,H b*>.u xs->H' b*>.u xs
 frzs:∀b o u,H b*>.z o u->H' b*>.z o u
 tbls:∀b ps,H b*>.tbl ps->∃more,H' b*>.tbl (ps++more)
section
variable {fs fs' ex ex':-gL}{H H1 H2:Hp}{h h1 h2 h':js}{a x e:gL}{o:HO}
def Un.any(u:Un fs ex H H1 h h1){b:gL}{ob:Obj}(q:h.get? b*>ob)(n:H b=gf)(c:b∉ex):∃e,h1.get? b*>{ob with slots:=e}:=by
 by_cases d:b∈fs
 .exact u.slot b ob q n d c
 erw[ob.slots,u.keep b ob q n d c]
def Un.kept(k:∀b u,h.get? b*>u->h'.get? b*>u):Un fs ex H H h h':=
 #[λb ob q _ _ _=>k b ob q,λb ob q _ _ _=>#[ob.slots,k b ob q],λ_ _ _ n _=>n,λb ob q _=>#[ob,k b ob q],λ_ _ q=>q,λ_ _ _ q=>q,λ_ ps q=>#[(tA []),by rw[q];simp]]
def Un.refl:Un fs ex H H h h:=Un.kept λ_ _ q=>q
def Un.laid(k:∀b u,h.get? b*>u->h'.get? b*>u)(d:h.objs.size<=a)(c:H a=gf):Un fs ex H (upd H a o) h h' where
 keep:=λb u q _ _ _=>k b u q
 slot:=λb u q _ _ _=>#[u.slots,k b u q]
 free:=λb u q n _=>by rw[aS\bz (cS (aX q) d)];show n
 there:=λb u q _=>#[u,k b u q]
 tups:=λb xs q=>by rw[aS\ao q c];show q
 frzs:=λb u xs q=>by rw[aS\ao q c];show q
 tbls:=λb ps q=>#[(tA []),by rw[aS\ao q c,q];simp]
def Un.write(c:Mut\H x)(he:e=x\/H e*>.own x)(k:∀b u,b≠e->h.get? b*>u->h'.get? b*>u)(i:∃u,h'.get? e*>u):Un fs ex H (upd H x o) h h':=by
 let d:∀b,H b=gf->b≠x:=λb n z=>by subst z;rw[n] at c;show c
 let f:∀b,H b=gf->b≠e:=λb n z=>by
  subst z;rcases he with r|r
  .exact d b n r
  rw[n] at r;cases r
 let hm:∀b u,H b*>u->¬Mut (gm u)->b≠x:=λb u q nm z=>by subst z;rw[q] at c;show nm c
 erw[λb u q n _ _=>k b u (f b n) q,λb u q n _ _=>#[u.slots,k b u (f b n) q],λb u q n _=>by rw[aS\d b n];show n,λb u q _=>?_,
  λb xs q=>by rw[aS (hm b _ q λz=>z)];show q,λb u xs q=>by rw[aS (hm b _ q λz=>z)];show q,λb ps q=>#[(tA []),by rw[aS (hm b _ q λz=>z),q];simp]]
 by_cases g:b=e
 .subst g;show i
 erw[u,k b u g q]
end
def trk(h:js)(H:Hp):-Addr:=(List.range h.objs.size).filter λa=>(H a).isSome
def il(h:js)(H:Hp):Heap:=W.hideAll h\trk h H
def Do(h:js)(H:Hp):(il h H).objs.size=h.objs.size:=W.hideAll_size _ _
def ER{h:js}{H:Hp}{b:gL}{o:Obj}(e:h.get? b*>o)(n:H b=gf):(il h H).get? b*>o:=
 W.hideAll_get _ e λhm=>by
  let q:(H b).isSome=gn:=(bZ.mp hm).2;rw[n] at q;simp at q
def GJ{h:js}{H:Hp}{b:gL}{o:Obj}(e:(il h H).get? b*>o):h.get? b*>o/\H b=gf:=by
 let e':h.get? b*>o:=W.of_hideAll (trk h H) e;erw[e',?_];cases q:H b with
 |none=>rfl
 |some x=>
  let hm:b∈trk h H:=bZ.mpr #[iB.mpr\aX e',by simp[q]];let z:(il h H).get? b=gf:=W.hideAll_none (trk h H) hm;rw[z] at e;cases e
def pZ(g h:js)(L:gL):-(gL×Obj):=(List.range h.objs.size).filterMap λa=>if a=L\/(g.get? a).isSome=gn then gf else (h.get? a).map λo=>(a,o)
def rQ{g h:js}{L a:gL}{o:Obj}(h1:a≠L)(h2:g.get? a=gf)(b:h.get? a*>o):(a,o)∈pZ g h L:=
 uV.mpr #[a,iB.mpr\aX b,by simp[h1,h2,b]]
def Bm{g h:js}{L:gL}{p:gL×Obj}(d:p∈pZ g h L):p.1≠L/\g.get? p.1=gf/\h.get? p.1*>p.2:=by
 let#[b,_,e]:=uV.mp d
 split at e
 .cases e
 rename_i c;cases q:h.get? b with
 |none=>rw[q] at e;simp at e
 |some u=>
  rw[q] at e;simp only[nZ,Nl] at e;subst e;erw[λz=>c\.l z,?_,q];change g.get? b=gf;cases r:g.get? b with
  |none=>rfl
  |some v=>show (c\.o (by simp[r])).elim
def o_{g h:js}{L:gL}:News g L h (pZ g h L):=λp d=>let ⟨a,b,c⟩:=Bm d;#[c,a,b]
end L2
namespace L2
open PySem PySem.Spec PyProof.Rows
structure Mod(K:W.Frag)(mg:Str->Option gE)(base:js):Prop where
 kin:K.In base
 glob:base.Ns hK mg
 blt:∃mb,base.Ns builtinsNs mb/\∀x:Str,x≠↑96->mb x=r6 x
 nolimit:base.NoLimit
structure Cx where
 prog:jl
 w:lp
 K:W.Frag
 mg:Str->Option gE
 base:js
 A:ru
 N:-Str
 s₀:hA
 H₀:Hp
 env:Env
 outer:-Env
 stack:-Env
 ex:-gL
 fn:Str->Bool
 calm:Bool
 pn:-(gL×Obj)
 xe:gE->hA->Prop
def frs(l:-Env):-Addr:=l.filterMap (·.frame)
abbrev Cx.fs(X:Cx):-Addr:=frs X.outer
def Vis(sc:Scope)(x:Str):Prop:=sc.names.lookup x*>.local\/sc.names.lookup x*>.cell\/sc.names.lookup x*>.free
def Loc(sc:Scope)(x:Str):Prop:=sc.names.lookup x*>.local\/sc.names.lookup x*>.cell
def Look(env:Env)(h:js)(m:Str->Option gE)(x:Str)(u:gE):Prop:=
 (env.kindOf x*>.local/\m x*>u)\/((env.kindOf x*>.cell\/env.kindOf x*>.free)/\∃c,env.cells.lookup x*>c/\h.IsCell c\gm u)
structure Cx.Ok(X:Cx):Prop where
 mod:Mod X.K X.mg X.base
 kind:X.env.scope.kind=.function
 glob:X.env.globals=hK
 blt:X.env.builtins=builtinsNs
 above:X.s₀.heap.objs.size<=X.env.locals
 inj:∀x y c,X.env.cells.lookup x*>c->X.env.cells.lookup y*>c->x=y
 has:∀x,(X.env.kindOf x*>.cell\/X.env.kindOf x*>.free)->∃c,X.env.cells.lookup x*>c
 cab:∀x c,X.fn x=gn->X.env.cells.lookup x*>c->X.s₀.heap.objs.size<=c
 hd:X.calm=gn->X.A.handled=gf
 frames:X.A.frames*>X.stack
 stk:X.stack=X.outer\/(X.stack=X.env::X.outer/\X.env.frame*>X.env.locals)
 exf:∀b∈X.ex,b≠X.env.locals/\∀x c,X.env.cells.lookup x*>c->c≠b
 bs:∀b o,X.base.get? b*>o->X.s₀.heap.get? b*>o/\X.H₀ b=gf
 bsz:X.base.objs.size<=X.s₀.heap.objs.size
 noex:∀b o,X.base.get? b*>o->b∉X.ex
 exfs:∀b∈X.ex,b∉X.fs
 funs:X.s₀.heap.FunFrames X.base X.outer
 frf:∀b∈X.fs,X.H₀ b=gf
structure Inv(X:Cx)(Oo:-(gL×Obj))(Z:List\Option V)(H:Hp)(s:hA):Prop where
 ok:X.Ok
 os:s.os=X.s₀.os
 bare:AllBare s.gens
 base:Un X.fs X.ex X.H₀ H X.s₀.heap s.heap
 loc:∃m,s.heap.Ns X.env.locals m/\∀(i:Nat)(x:Str)(v:V),X.N[i]?*>x->Z[i]?*>gm v->Vis X.env.scope x->∃u,aB v u/\Look X.env s.heap m x u
 cell:∀x c,X.env.cells.lookup x*>c->∃v,s.heap.IsCell c v
 free:H X.env.locals=gf
 freeC:∀x c,X.env.cells.lookup x*>c->H c=gf
 pin:∀p∈X.pn++Oo,s.heap.get? p.1*>p.2/\H p.1=gf/\p.1≠X.env.locals/\p.1∉X.fs/\∀v,p.2.data≠.cell v
 hok:HOk X.prog X.w H s.heap
 len:↑Z=X.N.length
section
variable {X:Cx}{Z:List (Option V)}{H H':Hp}{h':js}
def Cx.Ok.nofr(ok:X.Ok){b:gL}{o:Obj}(e:X.base.get? b*>o):b∉X.fs:=λc=>by
 have:=(ok.funs.mem c).1;rw[e] at this;cases this
def Inv.bs(I:!Inv H s):∀b o,X.base.get? b*>o->s.heap.get? b*>o/\H b=gf:=λb o e=>
 #[I.base.keep b o (I.ok.bs b o e).1 (I.ok.bs b o e).2 (I.ok.nofr e)\I.ok.noex b o e,I.base.free b o (I.ok.bs b o e).1 (I.ok.bs b o e).2\I.ok.noex b o e]
def Inv.bk(I:!Inv H s):∀b o,X.base.get? b*>o->s.heap.get? b*>o:=λb o e=>(I.bs b o e).1
def Inv.mod(I:!Inv H s):Mod X.K X.mg X.base:=I.ok.mod
def Inv.kIn(I:!Inv H s):X.K.In s.heap:=I.ok.mod.kin.keeps I.bk
def Inv.fr(I:!Inv H s):∃m,Fr X.base X.env.locals s.heap m:=
 let ⟨m,b,_⟩:=I.loc
 #[m,b,I.bk,dw I.ok.bsz I.ok.above]
def Inv.lt(I:!Inv H s):X.env.locals<↥s:=let ⟨_,b,_⟩:=I.loc;b.lt
def Inv.sz(I:!Inv H s):X.s₀.heap.objs.size<=↥s:=dw I.ok.above\nW I.lt
def Inv.nofs(I:!Inv H s){a:gL}(h:↥s<=a):a∉X.fs:=λb=>by
 let#[_,o,c,_]:=I.ok.funs.mem b;show absurd (cS (aX c)\dw I.sz h)\dW _
def Inv.cne(I:!Inv H s):∀x c,X.env.cells.lookup x*>c->c≠X.env.locals:=λx c e z=>by
 let#[v,o,b,hd]:=I.cell x c e;let#[m,#[o',es,ep,d,f,_],_]:=I.loc;rw[z,d] at b;cases b;rw[f] at hd;cases hd
def Inv.funs(I:!Inv H s):s.heap.FunFrames X.base X.outer:=by
 let all:∀(l:-Env),(∀b∈frs l,b∈X.fs)->X.s₀.heap.FunFrames X.base l->s.heap.FunFrames X.base l:=by
  intro l;induction l with
  |nil=>intro _ _;trivial
  |cons env r g=>
   intro f h;let#[#[i,#[L,o,hf,j,m,hd],n],c,#[p,e]]:=#[h,(f L (by unfold frs;rw[As,hf];show aL):L∈X.fs),I.base.slot L o m (I.ok.frf L c) c λz=>I.ok.exfs L z c];erw[i,#[L,_,hf,j,e,hd],g (λb d=>f b (by unfold frs;rw[As,hf];show aC _ d)) n]
 show all X.outer (λ_ d=>d) I.ok.funs
def Inv.stack(I:!Inv H s):s.heap.FunFrames X.base X.stack:=by
 rcases I.ok.stk with e|⟨e,hf⟩
 .rw[e];show I.funs
 rw[e];let#[m,b,_]:=I.loc;show .c (by rw[I.ok.kind];decide) hf b ?_ I.funs;show Ai\dw I.ok.bsz I.ok.above
def Inv.stkSub(I:!Inv H s):∀b∈frs X.stack,b∈X.env.locals::X.fs:=λb c=>by
 rcases I.ok.stk with e|⟨e,hf⟩
 .rw[e] at c;show aC _ c
 rw[e] at c;unfold frs at c;rw[As,hf] at c;show c
def Inv.stkFree(I:!Inv H s):∀b∈frs X.stack,H b=gf:=λb c=>by
 rcases ah.mp (I.stkSub b c) with e|c
 .rw[e];show I.free
 let#[_,o,d,_]:=I.ok.funs.mem c;show I.base.free b o d (I.ok.frf b c) λz=>I.ok.exfs b z c
def Inv.step{g':Array GenState}{t':Nat}{d':Drawn}{ch:-gL}(I:!Inv H s)
  (y:∀b∈ch,(b∈X.ex\/X.s₀.heap.objs.size<=b)/\b≠X.env.locals/\(∀x c,X.env.cells.lookup x*>c->c≠b)/\∀p∈X.pn++Oo,p.1≠b)
  (keep:∀b o,b≠X.env.locals->b∉X.fs->b∉ch->s.heap.get? b*>o->H b=gf->h'.get? b*>o)
  (slot:∀b o,b≠X.env.locals->b∈X.fs->b∉ch->s.heap.get? b*>o->H b=gf->∃D,h'.get? b*>{o with slots:=D}) (free:∀b o,b∉ch->s.heap.get? b*>o->H b=gf->H' b=gf)
  (there:∀b o,b∉ch->s.heap.get? b*>o->∃o',h'.get? b*>o')
  (tups:∀b xs,H b*>.u xs->H' b*>.u xs) (frzs:∀b o u,H b*>.z o u->H' b*>.z o u) (tbls:∀b ps,H b*>.tbl ps->∃more,H' b*>.tbl (ps++more))
  (ns:∀m,s.heap.Ns X.env.locals m->h'.Ns X.env.locals m) (hok:HOk X.prog X.w H' h') (N:AllBare g') :
  !Inv H' {s with heap:=h',gens:=g',drawn:=d',toks:=t'}:=by
 let E:∀b o,X.s₀.heap.get? b*>o->b≠X.env.locals:=λb o e=>bz\cS (aX e) I.ok.above;let C:∀b o,X.s₀.heap.get? b*>o->b∉X.ex->b∉ch:=λb o e f h=>by
  rcases (y b h).1 with z|z
  .exact f z
  show absurd (cS (aX e) z)\dW _
 let cellK:∀x c,X.env.cells.lookup x*>c->∀v,s.heap.IsCell c v->h'.IsCell c v:=λx c e v ⟨o,j,hd⟩=>by
  let A:c∉ch:=λz=>(y c z).2.2.1 x c e rfl;by_cases K:c∈X.fs
  .let#[D,q]:=slot c o (I.cne x c e) K A j\I.freeC x c e;erw[_,q,hd]
  erw[o,keep c o (I.cne x c e) K A j\I.freeC x c e,hd]
 erw[I.ok,I.os,N,#[λb o e n h f=>?_,λb o e n h f=>?_,λb o e n f=>?_,λb o e f=>?_,λb xs e=>tups b xs\I.base.tups b xs e,λb o xs e=>frzs b o xs\I.base.frzs b o xs e,λb ps e=>?_],?_,λx c e=>?_,?_,λx c e=>?_,λp L=>?_,hok,I.len]
 .exact keep b o (E b o e) h (C b o e f) (I.base.keep b o e n h f)\I.base.free b o e n f
 .let#[D,g]:=I.base.slot b o e n h f;let#[O,B]:=slot b _ (E b o e) h (C b o e f) g\I.base.free b o e n f;erw[O,B]
 .let#[o',g]:=I.base.there b o e f;show free b o' (C b o e f) g\I.base.free b o e n f
 .let#[o',g]:=I.base.there b o e f;show there b o' (C b o e f) g
 .let#[P,g]:=I.base.tbls b ps e;let#[Q,B]:=tbls b _ g;erw[P++Q,by rw[B,Array.append_assoc]]
 .let#[m,R,S]:=I.loc;erw[m,ns m R,λi x v g B T=>?_];let#[u,r,l]:=S i x v g B T;erw[u,r,?_];rcases l with l|⟨k,c,e,z⟩
  .exact .l l
  show .o #[k,c,e,cellK x c e _ z]
 .let#[v,z]:=I.cell x c e;erw[v,cellK x c e v z]
 .let#[m,#[o,0,j,_],_]:=I.loc;show free _ o (λz=>(y _ z).2.1 rfl) j I.free
 .let#[v,o,j,hd]:=I.cell x c e;show free c o (λz=>(y c z).2.2.1 x c e rfl) j\I.freeC x c e
 let#[e,n,ne,M,d]:=I.pin p L;let A:p.1∉ch:=λz=>(y p.1 z).2.2.2 p L rfl;erw[keep p.1 p.2 ne M A e n,free p.1 p.2 A e n,ne,M,d]
def Inv.un{t':Nat}(I:!Inv H s)(u:Un X.fs [] H H' s.heap h')(hok:HOk X.prog X.w H' h'):!Inv H' {s with heap:=h',toks:=t'}:=by
 let#[m,#[o,es,ep,d,r],_]:=id I.loc;let#[j,g]:=u.any d I.free ∅;show I.step (g':=s.gens) (d':=s.drawn) (ch:=[]) (λ_ z=>nomatch z) (λb o _ c _ e n=>u.keep b o e n c ∅) (λb o _ c _ e n=>u.slot b o e n c ∅) (λb o _ e n=>u.free b o e n ∅) (λb o _ e=>u.there b o e ∅) u.tups u.frzs u.tbls (λl hm=>by
  let#[o',h,i,f,r']:=hm;rw[d] at f;cases f;erw[_,h,i,g,r']) hok I.bare
def Inv.call{g':Array GenState}{t':Nat}{d':Drawn}{ch:-gL}(I:!Inv H s)(u:Un (frs X.stack) ch H H' s.heap h')(hok:HOk X.prog X.w H' h')(j:AllBare g')
  (g:∀b∈ch,(b∈X.ex\/X.s₀.heap.objs.size<=b)/\b≠X.env.locals/\(∀x c,X.env.cells.lookup x*>c->c≠b)/\∀p∈X.pn++Oo,p.1≠b) :
  !Inv H' {s with heap:=h',gens:=g',drawn:=d',toks:=t'}:=by
 let#[m,#[o,es,ep,h,r],_]:=id I.loc;let#[y,f]:=u.any h I.free λz=>(g _ z).2.1 rfl;show I.step (ch:=ch) g (λb o f l d e n=>u.keep b o e n (λz=>(ah.mp\I.stkSub b z).elim f l) d) (λb o _ _ d e n=>u.any e n d) (λb o d e n=>u.free b o e n d) (λb o d e=>u.there b o e d) u.tups u.frzs u.tbls (λA hm=>by
  let#[o',q,v,i,r']:=hm;rw[h] at i;cases i;erw[_,q,v,f,r']) hok j
def Inv.turned{t':Nat}{it:gL}(I:!Inv H s)(k:∀b o,b≠it->s.heap.get? b*>o->h'.get? b*>o)(h:H it=gf)(f:it≠X.env.locals)
  (h1:it∈X.ex\/X.s₀.heap.objs.size<=it) (h2:∀x c,X.env.cells.lookup x*>c->c≠it) (i:∀p∈X.pn++Oo,p.1≠it):!Inv H {s with heap:=h',toks:=t'}:=by
 let g:∀b u,H b*>u->b≠it:=λb u e z=>by rw[z,h] at e;cases e
 show I.step (g':=s.gens) (d':=s.drawn) (ch:=[it]) (λb j=>?_) (λb o _ _ d e _=>k b o (λz=>d (by simp[z])) e) (λb o _ _ d e _=>#[o.slots,k b o (λz=>d (by simp[z])) e]) (λ_ _ _ _ n=>n)
  (λb o d e=>#[o,k b o (λz=>d (by simp[z])) e]) (λ_ _ e=>e) (λ_ _ _ e=>e) (λb ps e=>#[(tA []),by rw[e];simp]) (λm hm=>?_) (λb u e=>?_) I.bare
 .let e:b=it:=‹j›
  subst e;erw[h1,f,h2,i]
 .let#[o,es,ep,l,r]:=hm;erw[o,es,ep,k _ o (aO f) l,r]
 show (I.hok b u e).stay (λc v d q=>k c v ?_ q) (λ_ q=>q) λ_ _ q=>q;rcases d with z|z
 .rw[z];show g b u e
 show g c _ z
def Inv.tok(I:!Inv H s)(t:Nat):!Inv H {s with toks:=t}:=I.un (h':=s.heap) (t':=t) Un.refl I.hok
def Inv.kept{t':Nat}(I:!Inv H s)(k:∀b u,s.heap.get? b*>u->h'.get? b*>u):!Inv H {s with heap:=h',toks:=t'}:=I.un (Un.kept k)\I.hok.kept k
def Inv.laid{a:gL}{o:HO}{t':Nat}(I:!Inv H s)(k:∀b u,s.heap.get? b*>u->h'.get? b*>u)(c:↥s<=a)(new:bJ X.prog X.w (upd H a o) h' a o) :
  !Inv (upd H a o) {s with heap:=h',toks:=t'}:=I.un (Un.laid k c\I.hok.fresh c)\I.hok.laid k c new
def Inv.write{x e:gL}{o:HO}{t':Nat}(I:!Inv H s)(c:Mut\H x)(he:e=x\/H e*>.own x)(k:∀b u,b≠e->s.heap.get? b*>u->h'.get? b*>u)(d:∃u,h'.get? e*>u)
  (new:bJ X.prog X.w (upd H x o) h' x o):!Inv (upd H x o) {s with heap:=h',toks:=t'}:=I.un (Un.write c he k d)\I.hok.write c he k d new
def Inv.pins_of{b:-(gL×Obj)}(I:!Inv H s)(h:∀p∈b,s.heap.get? p.1*>p.2/\H p.1=gf/\p.1≠X.env.locals/\p.1∉X.fs/\∀v,p.2.data≠.cell v):Inv X b Z H s:=
 #[I.ok,I.os,I.bare,I.base,I.loc,I.cell,I.free,I.freeC,λp c=>(az.mp c).elim (λz=>I.pin p\bR _ z)\h p,I.hok,I.len]
def xt{N:-Str}(c:N.Nodup){i j:Nat}{x:Str}(a:N[i]?*>x)(b:N[j]?*>x):i=j:=by let#[h1,d]:=aq.mp a;let#[h2,e]:=aq.mp b;show (List.getElem_inj c).mp\d.trans e.symm
def wo{M:Model}{i:Nat}{x:Str}{v:V}{u:gE}{Q:Unit->hA->Prop}(I:!Inv H s)(hN:X.N.Nodup)(hi:X.N[i]?*>x)(B:Loc X.env.scope x)(r:aB v u)
  (h:∀s',Inv X Oo (Z.set i\gm v) H s'->(∃a,Heap.SameBut a s.heap s'.heap/\(a=X.env.locals\/X.env.cells.lookup x*>a))->Q .unit s') (hf:X.fn x=gn\/X.env.scope.names.lookup x*>.local:=by first|exact .l rfl|exact .o rfl|assumption):hB M A (storeName X.env x u) Q E s:=by
 let#[m,R,hl]:=id I.loc;let ap:(X.env.scope.kind==.class||(X.env.scope.kind==.module&&X.env.locals != X.env.globals))=gB:=by rw[I.ok.kind];rfl
 have hiσ:i<↑Z:=by rw[I.len];show (aq.mp hi).1
 let cne:=I.cne;let tracked:∀{a:gL}{h':js},(∃o,s.heap.get? a*>o/\H a=gf)->Heap.SameBut a s.heap h'->HOk X.prog X.w H h':=λ{a h'} ha f b ob e=>by
  let#[0,ad]:=ha;show (I.hok b ob e).stay (λc O l q=>(f.2 c ?_)<*q) (λ_ q=>q) λ_ _ q=>q;rintro rfl;rcases l with rfl|l
  .rw[ad] at e;cases e
  rw[ad] at l;cases l
 rcases B with D|D
 .refine wpAny_storeName_local D R (λh' aM f=>?_) ap;let#[oL,0,a0,_]:=id R;show h _ #[I.ok,I.os,I.bare,#[λb o e n K B=>?_,λb o e n K B=>?_,I.base.free,λb o e B=>?_,I.base.tups,I.base.frzs,I.base.tbls],#[_,aM,λj y v' g C S=>?_],λy c e=>?_,I.free,I.freeC,λp T=>?_,tracked #[oL,a0,I.free] f,‹I.len›] #[_,f,.l rfl]
  .exact (f.2 b\bz (cS (aX e) I.ok.above)).trans\I.base.keep b o e n K B
  .let#[U,g]:=I.base.slot b o e n K B;erw[U,(f.2 b\bz (cS (aX e) I.ok.above))<*g]
  .let#[o',g]:=I.base.there b o e B;erw[o',(f.2 b\bz (cS (aX e) I.ok.above))<*g]
  .by_cases L:j=i
   .subst L;rw[hi] at g;cases g;rw[LN hiσ] at C;cases C;erw[u,r,.l #[D,∅]]
   rw[LM\aO L] at C;let#[Y,r',q]:=hl j y v' g C S;erw[Y,r',?_];rcases q with ⟨k,e⟩|⟨k,c,e,z⟩
   .refine .l #[k,?_];have:y≠x:=λe=>L\xt hN g (e ▸ hi);simp[this,e]
   show .o #[k,c,e,z.sameBut f\cne y c e]
  .let#[O,z]:=I.cell y c e;erw[O,z.sameBut f\cne y c e]
  let#[e,n,ne,nf,d]:=I.pin p T;erw[(f.2 p.1 ne)<*e,n,ne,nf,d]
 let ab:X.fn x=gn:=by
  rcases hf with z|z
  .exact z
  rw[z] at D;cases D
 let#[c,l]:=I.ok.has x\.l D;let#[O,z]:=I.cell x c l;show wpAny_storeName_cell I.ok.kind D l z (λh' al f=>?_);let#[oc,am,a1]:=id z;show h {s with heap:=h'} #[I.ok,I.os,I.bare,#[λb o e n K B=>?_,λb o e n K B=>?_,I.base.free,λb o e B=>?_,I.base.tups,I.base.frzs,I.base.tbls],#[m,R.sameBut f\aO (cne x c l),λj y v' g C S=>?_],λy P e=>?_,I.free,I.freeC,λp T=>?_,tracked #[oc,am,I.freeC x c l] f,‹I.len›] #[c,f,.o l]
 .exact (f.2 b\bz (cS (aX e)\I.ok.cab x c ab l)).trans\I.base.keep b o e n K B
 .let#[U,g]:=I.base.slot b o e n K B;erw[U,(f.2 b\bz (cS (aX e)\I.ok.cab x c ab l))<*g]
 .let#[o',g]:=I.base.there b o e B;erw[o',(f.2 b\bz (cS (aX e)\I.ok.cab x c ab l))<*g]
 .by_cases L:j=i
  .subst L;rw[hi] at g;cases g;rw[LN hiσ] at C;cases C;erw[u,r,.o #[.l D,c,l,al]]
  rw[LM\aO L] at C;let#[Y,r',q]:=hl j y v' g C S;erw[Y,r',?_];rcases q with q|⟨k,P,e,z'⟩
  .exact .l q
  show .o #[k,P,e,z'.sameBut f ?_];rintro rfl;show L\xt hN g (I.ok.inj _ _ _ e l ▸ hi)
 .by_cases an:P=c
  .subst an;erw[_,al]
  let#[w2,z2]:=I.cell y P e;erw[w2,z2.sameBut f an]
 let#[e,n,ne,nf,d]:=I.pin p T;erw[(f.2 p.1 ?_)<*e,n,ne,nf,d];intro q;rw[q,am] at e;let q':oc=p.2:=df e;show d O (by rw[<-q'];show a1)
def w4{M:Model}{i:Nat}{x:Str}{v:V}{u:gE}{Q:Unit->hA->Prop}(I:!Inv H s)(b:X.N.Nodup)(hi:X.N[i]?*>x)(c:Loc X.env.scope x)(r:aB v u)
  (h:∀s',Inv X Oo (Z.set i\gm v) H s'->Q .unit s') (hf:X.fn x=gn\/X.env.scope.names.lookup x*>.local:=by first|exact .l rfl|exact .o rfl|assumption):hB M A (storeName X.env x u) Q E s:=
 wo I b hi c r (λs' d _=>h s' d) hf
def Inv.call'{s':hA}{ch:-gL}(I:!Inv H s)(d:s'.os=s.os)(u:Un (frs X.stack) ch H H' s.heap s'.heap)(hok:HOk X.prog X.w H' s'.heap)(f:AllBare s'.gens)
  (g:∀b∈ch,(b∈X.ex\/X.s₀.heap.objs.size<=b)/\b≠X.env.locals/\(∀x c,X.env.cells.lookup x*>c->c≠b)/\∀p∈X.pn++Oo,p.1≠b):!Inv H' s':=by
 let#[h',g',d',t',o']:=s';let e:o'=s.os:=d;subst e;show I.call (g':=g') (t':=t') (d':=d') u hok f g
end
abbrev XK:=gE->Option gL->Hp->Prop
abbrev St:=List\Option V
abbrev VK:=V->Hp->Prop
abbrev TE:=St->Hp->VK->Prop
abbrev TT:=St->Hp->(Bool->Hp->Prop)->Prop
abbrev TA:=St->Hp->(-V->Hp->Prop)->Prop
structure Ends where
 nx:St->Hp->Prop
 rt:VK
 bk:St->Hp->Prop:=λ_ _=>False
 ct:St->Hp->Prop:=λ_ _=>False
abbrev TS:=Ends->St->Hp->Prop
def EP(X:Cx)(Oo:-(gL×Obj))(Z:St)(Q:VK)(u:gE)(s':hA):Prop:=∃v H',!Inv H' s'/\aB v u/\Q v H'
def TP(X:Cx)(Oo:-(gL×Obj))(Z:St)(Q:Bool->Hp->Prop)(b:Bool)(s':hA):Prop:=∃H',!Inv H' s'/\Q b H'
def AP(X:Cx)(Oo:-(gL×Obj))(Z:St)(Q:-V->Hp->Prop)(us:-gE)(s':hA):Prop:=∃vs H',!Inv H' s'/\Vals vs us/\Q vs H'
def SP(X:Cx)(Oo:-(gL×Obj))(D:Ends)(f:Flow)(s':hA):Prop:=
 match f with
 |.next=>∃Z' H',Inv X Oo Z' H' s'/\D.nx Z' H'
 |.brk=>∃Z' H',Inv X Oo Z' H' s'/\D.bk Z' H'
 |.cont=>∃Z' H',Inv X Oo Z' H' s'/\D.ct Z' H'
 |.ret u=>∃v Z' H',Inv X Oo Z' H' s'/\aB v u/\D.rt v H'
def PE(X:Cx)(e:kA)(t:TE):Prop:=
 ∀(Oo:-(gL×Obj))(s:hA)(Z:St)(H:Hp)(Q:VK),!Inv H s->t Z H Q->hB ⇑X X.A (m3 e X.env) (EP X Oo Z Q) X.xe s
def PT(X:Cx)(e:kA)(t:TT):Prop:=
 ∀(Oo:-(gL×Obj))(s:hA)(Z:St)(H:Hp)(Q:Bool->Hp->Prop),!Inv H s->t Z H Q->hB ⇑X X.A (isTrue e X.env\m3 e X.env) (TP X Oo Z Q) X.xe s
def PW(X:Cx)(e:kA)(t:TT):Prop:=
 ∀(whole:Sem gE)(Oo:-(gL×Obj))(s:hA)(Z:St)(H:Hp)(Q:Bool->Hp->Prop),!Inv H s->t Z H Q->hB ⇑X X.A (isTrue e X.env whole) (TP X Oo Z Q) X.xe s
def PW.pt{X:Cx}{e:kA}{t:TT}(h:PW X e t):PT X e t:=h _
def PA(X:Cx)(es:-kA)(t:TA):Prop:=
 ∀(pos:Pos)(Oo:-(gL×Obj))(s:hA)(Z:St)(H:Hp)(Q:-V->Hp->Prop),!Inv H s->t Z H Q->hB ⇑X X.A (spliced\mu pos (hM es X.env)) (AP X Oo Z Q) X.xe s
def PS(X:Cx)(st:lj)(t:TS):Prop:=
 ∀(Oo:-(gL×Obj))(s:hA)(Z:St)(H:Hp)(D:Ends),!Inv H s->t D Z H->hB ⇑X X.A (exec st X.env) (SP X Oo D) X.xe s
def PSs(X:Cx)(st:-lj)(t:TS):Prop:=
 ∀(Oo:-(gL×Obj))(s:hA)(Z:St)(H:Hp)(D:Ends),!Inv H s->t D Z H->hB ⇑X X.A (execs st X.env) (SP X Oo D) X.xe s
def thn{α:Type}{t:Sem α}{Q b:α->hA->Prop}{M:Model}(h:hB M A t Q E s)(c:∀a s,Q a s->b a s):hB M A t b E s:=dq h c λ_ _ x=>x
end L2
variable {H:L2.Hp}{Z:L2.St}{X:L2.Cx}{xs:List L2.V}{vs:List L2.V}{H':L2.Hp}
namespace L2
open PySem PySem.Spec PyProof.Rows
section
def Ex2{α β:Type}(P:α->β->Prop)(a:α):Prop:=Exists\P a
def Ex3{α β γ:Type}(P:α->β->γ->Prop)(a:α):Prop:=Exists\Ex2 (P a)
def Ex4{α β γ δ:Type}(P:α->β->γ->δ->Prop)(a:α):Prop:=Exists\Ex3 (P a)
def Ex5{α β γ δ ε:Type}(P:α->β->γ->δ->ε->Prop)(a:α):Prop:=Exists\Ex4 (P a)
def Ex6{α β γ δ ε ζ:Type}(P:α->β->γ->δ->ε->ζ->Prop)(a:α):Prop:=Exists\Ex5 (P a)
def Ex7{α β γ δ ε ζ η:Type}(P:α->β->γ->δ->ε->ζ->η->Prop)(a:α):Prop:=Exists\Ex6 (P a)
def Ex8{α β γ δ ε ζ η θ:Type}(P:α->β->γ->δ->ε->ζ->η->θ->Prop)(a:α):Prop:=Exists\Ex7 (P a)
def Same(H H':Hp):Prop:=∀b o,H b*>o->H' b*>o
def fP(H:Hp)(o:HO)(Q:VK):Prop:=∀p H',H p=gf->Same H H'->H' p*>o->Q (.r p) H'
def fP.at{o:HO}{Q:VK}{p:gL}(q:fP H o Q)(h:H p=gf):Q (.r p) (upd H p o):=q p _ h (λb u e=>(aS (λz=>by rw[z,h] at e;cases e))<*e) aW
def WrO(H:Hp)(l:gL)(o:HO)(k:Hp->Prop):Prop:=∀H',(∀b,b≠l->H' b=H b)->H' l*>o->k H'
def WrO.at{l:gL}{o:HO}{k:Hp->Prop}(q:WrO H l o k):k (upd H l o):=q _ (λ_ h=>aS h) aW
def J3(i:Nat)(Z:St)(H:Hp)(Q:VK)(v:V):Prop:=Z[i]?*>gm v/\Q v H
def bC(i:Nat):TE:=λZ H Q=>Exists\J3 i Z H Q
def tC(v:V):TE:=λ_ H Q=>Q v H
def Jc{i:Nat}{x:Str}{pos:Pos}(g:X.N[i]?*>x)(j:Vis X.env.scope x)(hd:(x==(↑34 : Str))=gB:=by decide)(n:(x==("__classdict__" : Str))=gB:=by decide):PE X (.n x pos) (bC i):=by
 lk;intro Q I h;let#[#[v,e,h],#[m,o,p],#[u,r,l],fin]:=#[h,I.loc,p i x v g e j,(#[v,H,I,r,h]:EP X Oo Z Q u s)];rcases l with ⟨b,hm⟩|⟨b,c,d,f⟩
 .exact A8 (wpAny_loadName_local I.ok.kind b o hm fin) hd
 rcases b with b|b
 .exact A8 (wpAny_loadName_cell I.ok.kind b d f fin) hd
 show A8 (wpAny_loadName_free I.ok.kind b d f fin n) hd
def ag{i j pos}:PE X (.Constant (.i i) j pos) (tC\.i i):=λ_ _ _ H _ I h=>wpAny_Constant_int #[.i i,H,I.tok _,#[2],h]
def d_{b j pos}:PE X (.Constant (.x b) j pos) (tC\.bl b):=λ_ _ _ H _ I h=>Constant_bool #[.bl b,H,I,1,h]
def qr{j pos}:PE X (.Constant .none j pos) (tC .non):=λ_ _ _ H _ I h=>Constant_none #[.non,H,I,1,h]
def Gl(X:Cx)(x:Str):Prop:=X.env.kindOf x*>.globalImplicit
def tS{x:Str}{u:gE}{pos:Pos}{Q:gE->hA->Prop}(I:!Inv H s)(b:Gl X x)(hm:X.mg x*>u)(h:Q u s)
  (hd:(x==(↑34 : Str))=gB:=by decide):hB ⇑X X.A (m3 (.n x pos) X.env) Q E s:=
 Lo I.ok.kind b (Calls.loadGlobal_global (by rw[I.ok.glob];show I.mod.glob.keeps I.bk) hm h) hd
def iW{x:Str}{u:gE}{pos:Pos}{Q:gE->hA->Prop}(I:!Inv H s)(b:Gl X x)(hm:X.mg x=gf)(c:r6 x*>u)(h:Q u s)
  (d:x≠↑96:=by decide) (hd:(x==(↑34 : Str))=gB:=by decide):hB ⇑X X.A (m3 (.n x pos) X.env) Q E s:=by
 let#[mb,h1,h2]:=I.mod.blt;show Lo I.ok.kind b (Calls.loadGlobal_builtin (by rw[I.ok.glob];show I.mod.glob.keeps I.bk) hm (by rw[I.ok.blt];show h1.keeps I.bk) ((h2 x d)<*c) h) hd
def Gd{x:Str}{v:V}{u:gE}{pos:Pos}(b:Gl X x)(hm:X.mg x*>u)(r:aB v u)(hd:(x==(↑34 : Str))=gB:=by decide):PE X (.n x pos) (tC v):=
 λ_ _ _ H _ I h=>tS I b hm #[v,H,I,r,h] hd
def pS{x:Str}{v:V}{u:gE}{pos:Pos}(b:Gl X x)(hm:X.mg x=gf)(c:r6 x*>u)(r:aB v u)(d:x≠↑96:=by decide)(hd:(x==(↑34 : Str))=gB:=by decide):PE X (.n x pos) (tC v):=
 λ_ _ _ H _ I h=>iW I b hm c #[v,H,I,r,h] d hd
variable {a b:kA}{ta tb:TE}{pos:Pos}
def PC(X:Cx)(op:CmpOp)(a b:kA)(t:TE):Prop:=
 ∀(Oo:-(gL×Obj))(s:hA)(Z:St)(H:Hp)(Q:VK),!Inv H s->t Z H Q->
  hB ⇑X X.A (m3 a X.env) (λv s₁=>hB ⇑X X.A (m3 b X.env) (λu s₂=>hB ⇑X X.A (lx op v u) (EP X Oo Z Q) X.xe s₂) X.xe s₁) X.xe s
def nobehind(b:kA){op:CmpOp}(h:op≠.In)(h2:op≠.NotIn):ry op b=gB:=by
 let c:(op==CmpOp.In)=gB:=by cases op<;>first|rfl|show absurd rfl h
 let d:(op==CmpOp.NotIn)=gB:=by cases op<;>first|rfl|show absurd rfl h2
 cases b<;>simp[ry,c,d]
def tIsN(ta:TE):TE:=λZ H Q=>ta Z H λx H1=>Q (.bl (decide (x=.non))) H1
def aB.none_iff{x:V}{v:gE}(r:aB x v):(v==Value.none)=decide (x=.non):=by
 cases x with
 |non=>cases r;rfl
 |bl _=>cases r;rfl
 |int _=>let#[t,1]:=r;rfl
 |str _=>let#[t,1]:=r;rfl
 |byt _=>let#[t,1]:=r;rfl
 |flt _=>let#[t,1]:=r;rfl
 |ref _=>cases r;rfl
 |ty _=>cases r;rfl
def ui{j pos'}(ha:PE X a ta):PC X .Is a (.Constant .none j pos') (tIsN ta):=by lk;intro Q I h;show thn (ha Oo s Z H _ I h) λv s1 b=>?_;let#[x,H1,c,d,e]:=b;show Constant_none\is_none_gen #[.bl _,H1,c,by rw[d.none_iff];rfl,e]
def tBB(Q:Bool->Hp->Prop)(x:V)(H1:Hp)(c:Bool):Prop:=x=.bl c/\Q c H1
def tBK(Q:Bool->Hp->Prop):VK:=λx H1=>Exists\tBB Q x H1
def tB(t:TE):TT:=λZ H Q=>t Z H\tBK Q
def zl{op:CmpOp}{t:TE}(h:PC X op a b t)(h1:ry op b=gB:=by first|exact nobehind _ ⋯ ⋯ | rfl):PE X (.Compare a [op] [b] pos) t:=λOo s Z H Q I hw=>M4 (h Oo s Z H Q I hw) h1
def eG{op:CmpOp}{t:TE}(h:PC X op a b t)(h1:ry op b=gB:=by first|exact nobehind _ ⋯ ⋯ | rfl):PT X (.Compare a [op] [b] pos) (tB t):=by lk;intro Q I hw;refine M9 (thn (h Oo s Z H _ I hw) λv s1 h1=>thn h1 λu s2 h2=>thn h2 λc j e=>?_) h1;let#[x,H1,f,g,i]:=e;let#[d,1,q]:=i;cases g;exact jm #[H1,f,q]
def dO{e:kA}{t:TE}(h:PE X e t)(he:∀whole,isTrue e X.env whole=(do let v <-whole;standAt e.pos;holding [v]\truthy v):=by intro _;rfl):PT X e (tB t):=by lk;intro Q I hw;show isTrue_plain (thn (h Oo s Z H _ I hw) λv s1 ⟨x,H1,I1,r1,q1⟩=>?_)\he _;let#[d,1,q]:=q1;cases r1;show jm #[H1,I1,q]
variable {tA tB':TT}{rest:-kA}
def Ks(u:TT)(Z:St)(Q:Bool->Hp->Prop):Bool->Hp->Prop:=λc H1=>if c=gn then u Z H1 Q else Q gB H1
def tAnd(t u:TT):TT:=λZ H Q=>t Z H\Ks u Z Q
def tOrK(u:TT)(Z:St)(Q:Bool->Hp->Prop):Bool->Hp->Prop:=λc H1=>if c=gn then Q gn H1 else u Z H1 Q
def tOr(t u:TT):TT:=λZ H Q=>t Z H\tOrK u Z Q
def uv(Q:Bool->Hp->Prop):Bool->Hp->Prop:=λc H1=>Q (!c) H1
def tNot(t:TT):TT:=λZ H Q=>t Z H\uv Q
def iN(ha:PT X a tA):PW X (.BoolOp .And [a] pos) tA:=by
 intro b Oo s Z H Q I h;show isTrue_and (thn (ha Oo s Z H Q I h) λc s1 e=>?_);cases c with
 |true=>show isTrue_and_nil e
 |false=>show e
def gH(ha:PT X a tA):PW X (.BoolOp .Or [a] pos) tA:=by
 intro b Oo s Z H Q I h;show isTrue_or (thn (ha Oo s Z H Q I h) λc s1 e=>?_);cases c with
 |false=>show isTrue_or_nil e
 |true=>show e
def iS(ha:PT X a tA)(f:PW X (.BoolOp .And (b::rest) pos) tB'):PW X (.BoolOp .And (a::b::rest) pos) (tAnd tA tB'):=by
 intro g Oo s Z H Q I h;show isTrue_and (thn (ha Oo s Z H _ I h) λc s1 ⟨H1,d,e⟩=>?_);cases c with
 |true=>show f g Oo s1 Z H1 Q d e
 |false=>erw[H1,d,e]
def gk(ha:PT X a tA)(f:PW X (.BoolOp .Or (b::rest) pos) tB'):PW X (.BoolOp .Or (a::b::rest) pos) (tOr tA tB'):=by
 intro g Oo s Z H Q I h;show isTrue_or (thn (ha Oo s Z H _ I h) λc s1 ⟨H1,d,e⟩=>?_);cases c with
 |true=>erw[H1,d,e]
 |false=>show f g Oo s1 Z H1 Q d e
def eU(ha:PT X a tA):PT X (.UnaryOp .Not a pos) (tNot tA):=by lk;intro Q I h;show isTrue_not\ha Oo s Z H (λc H1=>Q (!c) H1) I h
def Kr(ta tb:TE):TE:=λZ H Q=>ta Z H λx H1=>∃c,x=.bl c/\if c=gn then tb Z H1 Q else Q (.bl gB) H1
def J6(ta:TE):TE:=λZ H Q=>ta Z H λx H1=>∃c,x=.bl c/\Q (.bl (!c)) H1
def jJ{op}{t:TE}(h:PE X a t):PE X (.BoolOp op [a] pos) t:=λOo s Z H Q I hw=>BoolOp_one\h Oo s Z H Q I hw
def hX(ha:PE X a ta)(f:PE X (.BoolOp .And (b::rest) pos) tb):PE X (.BoolOp .And (a::b::rest) pos) (Kr ta tb):=by
 lk;intro Q I h;show BoolOp_and (thn (ha Oo s Z H _ I h) λv s1 g=>?_);let#[x,H1,e,i,d]:=g;let#[c,1,d]:=d;cases i;show jm ?_;cases c with
 |true=>show f Oo s1 Z H1 Q e d
 |false=>erw[.bl gB,H1,e,1,d]
def zj(ha:PE X a ta):PE X (.UnaryOp .Not a pos) (J6 ta):=by lk;intro Q I h;show UnaryOp_ (thn (ha Oo s Z H _ I h) λv s1 d=>?_);let#[x,H1,e,f,b]:=d;let#[c,1,b]:=b;cases f;show not_of\jm #[.bl (!c),H1,e,1,b]
def tIf(t:TT)(ta tb:TE):TE:=λZ H Q=>t Z H λc H1=>if c=gn then ta Z H1 Q else tb Z H1 Q
def Ek{c:kA}(g:PT X c tA)(ha:PE X a ta)(i:PE X b tb):PE X (.IfExp c a b pos) (tIf tA ta tb):=by
 lk;intro Q I h;show wpAny_IfExp (thn (g Oo s Z H _ I h) λd s1 ⟨H1,e,f⟩=>?_);cases d with
 |true=>show ha Oo s1 Z H1 Q e f
 |false=>show i Oo s1 Z H1 Q e f
end
end L2
namespace L2
open PySem PySem.Spec PyProof.Rows
def SqL(K:W.Frag)(H:Hp)(a:gL)(xs:-V):Prop:=
 Rd H a (.a xs) \/
  ∃(o:Obj)(b:Array gE)(n:Nat),K.lookup a*>o/\o.cls=.t ↑15/\o.dict=gf/\o.data=.e b n/\b.size<=hH/\Vals xs b.toList
def SqT(K:W.Frag)(H:Hp)(a:gL)(xs:-V):Prop:=
 Rd H a (.u xs) \/
  ∃(o:Obj)(b:Array gE)(n:Nat),K.lookup a*>o/\o.cls=.t ↑23/\o.data=.e b n/\b.size<=hH/\Vals xs b.toList
def absV:gE->Option V
 |.none=>gm .non
 |.bool b=>gm\.bl b
 |.int i _=>gm\.i i
 |.str x _=>gm\.s x
 |.bytes b _=>gm\.byt b
 |.float b _=>gm\.flt b
 |.ref a=>gm\.r a
 |.type n=>gm\.ty n
 |_=>gf
def aB.abs{x:V}{u:gE}(r:aB x u):absV u*>x:=by
 cases x with
 |non=>cases r;rfl
 |bl _=>cases r;rfl
 |int _=>let#[t,1]:=r;rfl
 |str _=>let#[t,1]:=r;rfl
 |byt _=>let#[t,1]:=r;rfl
 |flt _=>let#[t,1]:=r;rfl
 |ref _=>cases r;rfl
 |ty _=>cases r;rfl
def aB.inj{x y:V}{u:gE}(r:aB x u)(q:aB y u):x=y:=df\r.abs.symm.trans q.abs
def Vals.inj{xs ys:-V}(h:Vals xs us)(h':Vals ys us):xs=ys:=by
 induction h generalizing ys with
 |nil=>cases h';rfl
 |cons r t b=>cases h' with
  |cons r' t'=>rw[r.inj r',b t']
section
variable {a:gL}{xs ys:-V}
def SqL.of(h:H a*>.a xs):SqL K H a xs:=.l\.l h
def SqT.of(h:H a*>.u xs):SqT K H a xs:=.l\.l h
def Inv.list(I:!Inv H s)(h:SqL [] H a xs):∃b:-gE,Vals xs b/\PlainL s.heap a b.toArray/\↑xs<=sizeLine:=by
 rcases h with h|⟨o,b,n,c,d,hd,f,g,r⟩
 .let#[z,b,n,r,e]:=h.ok I.hok;erw[b,r,#[_,n,e,5,1],z]
 cases c
def Inv.tuple(I:!Inv H s)(h:SqT [] H a xs):∃b:-gE,Vals xs b/\IsTup s.heap a b.toArray/\↑xs<=sizeLine:=by
 rcases h with h|⟨o,b,n,c,d,e,f,r⟩
 .let#[#[z,_],b,r,p]:=h.ok I.hok;erw[b,r,p,z]
 cases c
def Inv.list_inj(I:!Inv H s)(h:SqL [] H a xs)(h':SqL [] H a ys):xs=ys:=by
 let#[b,r,#[o,n,e,0,d],_]:=I.list h;let#[its',r',#[o',c,e',0,d'],_]:=I.list h';rw[e] at e';cases e';rw[d] at d';injection d' with d1 _;have:b=its':=‹congrArg Array.toList d1›
 subst this;show r.inj r'
def Inv.tuple_inj(I:!Inv H s)(h:SqT [] H a xs)(h':SqT [] H a ys):xs=ys:=by
 let#[b,r,#[o,e,_,n,d],_]:=I.tuple h;let#[its',r',#[o',e',_,c,d'],_]:=I.tuple h';rw[e] at e';cases e';rw[d] at d';injection d' with d1 _;have:b=its':=‹congrArg Array.toList d1›
 subst this;show r.inj r'
end
abbrev Cx.wish(X:Cx)(E:gE->hA->Prop):Cx:={X with xe:=E}
abbrev Cx.nox(X:Cx):Cx:=X.wish λ_ _=>False
def Cx.Ok.wish(ok:X.Ok)(E:gE->hA->Prop):(X.wish E).Ok:=
 #[ok.mod,ok.kind,ok.glob,ok.blt,ok.above,ok.inj,ok.has,ok.cab,ok.hd,ok.frames,ok.stk,ok.exf,ok.bs,ok.bsz,ok.noex,ok.exfs,ok.funs,ok.frf]
def Cx.Ok.unwish(ok:(X.wish E).Ok):X.Ok:=
 #[ok.mod,ok.kind,ok.glob,ok.blt,ok.above,ok.inj,ok.has,ok.cab,ok.hd,ok.frames,ok.stk,ok.exf,ok.bs,ok.bsz,ok.noex,ok.exfs,ok.funs,ok.frf]
section
def Inv.wish(I:!Inv H s)(E:gE->hA->Prop):Inv (X.wish E) Oo Z H s:=#[I.ok.wish E,I.os,I.bare,I.base,I.loc,I.cell,I.free,I.freeC,I.pin,I.hok,I.len]
def Inv.unwish(I:Inv (X.wish E) Oo Z H s):!Inv H s:=#[I.ok.unwish,I.os,I.bare,I.base,I.loc,I.cell,I.free,I.freeC,I.pin,I.hok,I.len]
def SP.unwish{D:Ends}{f:Flow}{s':hA}(h:SP (X.wish E) Oo D f s'):SP X Oo D f s':=by
 cases f with
 |next=>let#[Z',H',I,q]:=h;erw[Z',H',I.unwish,q]
 |brk=>let#[Z',H',I,q]:=h;erw[Z',H',I.unwish,q]
 |cont=>let#[Z',H',I,q]:=h;erw[Z',H',I.unwish,q]
 |ret u=>let#[v,Z',H',I,r,q]:=h;erw[v,Z',H',I.unwish,r,q]
def PSs.nox{st:-lj}{t:TS}(h:PSs X.nox st t):PSs X st t:=λOo s Z H D I hw=>
 dq (h Oo s Z H D (I.wish _) hw) (λ_ _ q=>q.unwish) λ_ _ z=>False.elim z
end
section
variable {st:lj}{rest:-lj}{t u:TS}{e:kA}{te:TE}{pos:Pos}
def J7:TS:=λD Z H=>D.nx Z H
def uC(t u:TS):TS:=λD Z H=>t {D with nx:=u D} Z H
def bN:PSs X [] J7:=λ_ _ Z H _ I h=>vz #[Z,H,I,h]
def af(h1:PS X st t)(h2:PSs X rest u):PSs X (st::rest) (uC t u):=by
 lk;intro D I h;show M7 (thn (h1 Oo s Z H {D with nx:=u D} I h) λf s1 q=>?_);cases f with
 |next=>
  let#[Z',H',b,q]:=q;show h2 Oo s1 Z' H' D b q
 |ret v=>show q
 |brk=>show q
 |cont=>show q
def aj(h1:PS X st t):PSs X [st] t:=by
 lk;intro D I h;show M7 (thn (h1 Oo s Z H D I h) λf s1 q=>?_);cases f with
 |next=>show vz q
 |ret v=>show q
 |brk=>show q
 |cont=>show q
def Kp:TS:=λD Z H=>D.ct Z H
def BL:PS X (.Continue pos) Kp:=λ_ _ Z H _ I h=>wpAny_Continue #[Z,H,I,h]
def Inv.quiet(I:!Inv H s):interactive X.env=gB:=by simp[interactive,I.ok.kind]
def Ih(D:Ends)(Z:St):VK:=λ_ H1=>D.nx Z H1
def Kc(te:TE):TS:=λD Z H=>te Z H\Ih D Z
def c9(he:PE X e te)(b:swapsWith e gf pos.line X.env=pure gB:=by rfl):PS X (.Expr e pos) (Kc te):=by lk;intro D I h;show wpAny_Expr_any (thn (he Oo s Z H _ I h) λv s1 ⟨x,H1,c,f,d⟩=>#[Z,H1,c,d]) I.quiet b
def tRet(te:TE):TS:=λD Z H=>te Z H D.rt
def aK(he:PE X e te):PS X (.Return (gm e) pos) (tRet te):=by lk;intro D I h;show wpAny_Return_some (thn (he Oo s Z H _ I h) λv s1 ⟨x,H1,b,c,d⟩=>#[x,Z,H1,b,c,d])
def tIfK(t u:TS)(D:Ends)(Z:St):Bool->Hp->Prop:=λb H1=>if b=gn then t D Z H1 else u D Z H1
def tIfS(c:TT)(t u:TS):TS:=λD Z H=>c Z H\tIfK t u D Z
def bO{c:kA}{a b:-lj}{tc:TT}(g:PT X c tc)(ha:PSs X a t)(i:PSs X b u):PS X (.If c a b pos) (tIfS tc t u):=by
 lk;intro D I h;show wpAny_If (thn (g Oo s Z H _ I h) λd s1 ⟨H1,e,f⟩=>?_);cases d with
 |true=>show ha Oo s1 Z H1 D e f
 |false=>show i Oo s1 Z H1 D e f
def Ig:TS:=λ_ _ _=>False
def jt{b:-lj}:PSs X b Ig:=λ_ _ _ _ _ _ h=>h.elim
end
abbrev TG:=V->St->Hp->(St->Hp->Prop)->Prop
abbrev TGs:=-V->St->Hp->(St->Hp->Prop)->Prop
def PG(X:Cx)(target:kA)(t:TG):Prop:=
 ∀(Oo:-(gL×Obj))(s:hA)(Z:St)(H:Hp)(v:V)(u:gE)(Q:St->Hp->Prop),!Inv H s->aB v u->t v Z H Q->
  hB ⇑X X.A (assign target X.env u) (λ_ s'=>∃Z' H',Inv X Oo Z' H' s'/\Q Z' H') X.xe s
def PGs(X:Cx)(ts:-kA)(t:TGs):Prop:=
 ∀(Oo:-(gL×Obj))(s:hA)(Z:St)(H:Hp)(vs:-V)(us:-gE)(Q:St->Hp->Prop),!Inv H s->Vals vs us->t vs Z H Q->
  hB ⇑X X.A (assignInOrder ((assignEach ts X.env).map (·.2)) us) (λ_ s'=>∃Z' H',Inv X Oo Z' H' s'/\Q Z' H') X.xe s
abbrev TSet:=V->V->V->Hp->(Hp->Prop)->Prop
def PSet(X:Cx)(t:TSet):Prop:=
 ∀(Oo:-(gL×Obj))(s:hA)(Z:St)(H:Hp)(o i v:V)(b c u:gE)(Q:Hp->Prop),!Inv H s->aB o b->aB i c->aB v u->t o i v H Q->
  hB ⇑X X.A (setItem b c u) (λ_ s'=>∃H',!Inv H' s'/\Q H') X.xe s
section
variable {pos:Pos}
def cE(i:Nat):TG:=λv Z H Q=>Q (Z.set i\gm v) H
def fZ{i:Nat}{x:Str}(b:X.N.Nodup)(hi:X.N[i]?*>x)(c:Loc X.env.scope x)(hf:X.fn x=gn\/X.env.scope.names.lookup x*>.local:=by first|exact .l rfl|exact .o rfl|assumption):PG X (.n x pos) (cE i):=by lk;intro v u Q I r h;exact M6\w4 I b hi c r (λs' d=>#[_,H,d,h]) hf
def gx(i:Nat){x:Str}(b:X.N.Nodup)(hi:X.N[i]?*>x:=by rfl)(c:Loc X.env.scope x:=by first|exact .l rfl|exact .o rfl)(hf:X.fn x=gn\/X.env.scope.names.lookup x*>.local:=by first|exact .l rfl|exact .o rfl|assumption):PG X (.n x pos) (cE i):=fZ b hi c hf
def jX:TGs:=λvs Z H Q=>vs=[]/\Q Z H
def JJ(u:TGs)(r:-V)(Q:St->Hp->Prop):St->Hp->Prop:=λZ' H'=>u r Z' H' Q
def JK(t:TG)(u:TGs)(vs:-V)(Z:St)(H:Hp)(Q:St->Hp->Prop)(v:V)(r:-V):Prop:=vs=v::r/\t v Z H\JJ u r Q
def eX(t:TG)(u:TGs):TGs:=λvs Z H Q=>Exists\Ex2 (JK t u vs Z H Q)
def cq:PGs X [] jX:=by lk;intro vs us Q I r h;let#[e,h]:=h;subst e;cases r;show assignInOrder_nil #[Z,H,I,h]
def aG{e:kA}{es:-kA}{t:TG}{u:TGs}(h1:PG X e t)(h2:PGs X es u)
  (b:(assignEach (e::es) X.env).map (·.2)=assign e X.env::(assignEach es X.env).map (·.2):=by rfl):PGs X (e::es) (eX t u):=by
 lk;intro vs us Q I r h;let#[v,j,c,h]:=h;subst c;cases r with
 |cons r d=>
  rw[b];show assignInOrder_cons (thn (h1 Oo s Z H _ _ _ I r h) λ_ s1 ⟨f,H1,g,i⟩=>?_);show h2 Oo s1 f H1 _ _ Q g d i
def K7(K:W.Frag)(n:Nat)(t:TGs)(v:V)(Z:St)(H:Hp)(Q:St->Hp->Prop)(a:gL)(xs:-V):Prop:=v=.r a/\SqT K H a xs/\↑xs=n/\t xs Z H Q
def jW(K:W.Frag)(n:Nat)(t:TGs):TG:=λv Z H Q=>Exists\Ex2 (K7 K n t v Z H Q)
def cu{es:-kA}{k:Nat}{t:TGs}(d:X.calm=gn)(h:PGs X es t)
  (f:↑(assignEach es X.env)=↑es:=by rfl) (g:(assignEach es X.env).findIdx? (·.1)=gf:=by rfl):PG X (.Tuple es k pos) (jW [] ↑es t):=by
 lk;intro v u Q I r hw;let#[a,xs,i,j,l,hw]:=hw;subst i;cases r;let#[q,c,m,w]:=I.tuple j;show assign_Tuple_tuple (I.ok.hd d) m (by simp[f,<-l,(↑c)]) g λh' n=>?_;let p:!Inv H {s with heap:=h'}:=I.kept (t':=s.toks) λb o e=>n b o (bz\aX e) e;show h Oo _ Z H xs _ Q p ‹c› hw
def K8(t:TSet)(o v:V)(Z:St)(Q:St->Hp->Prop):VK:=λi H2=>t o i v H2\Q Z
def K9(b:TE)(t:TSet)(v:V)(Z:St)(Q:St->Hp->Prop):VK:=λo H1=>b Z H1\K8 t o v Z Q
def gSub(to b:TE)(t:TSet):TG:=λv Z H Q=>to Z H\K9 b t v Z Q
def uh{o i:kA}{to ti:TE}{t:TSet}(ho:PE X o to)(hi:PE X i ti)(hs:PSet X t)
  (ha:∀v,assign (.Subscript o i pos) X.env v=(do
   let ov <-holding [v] (m3 o X.env)
   let iv <-holding [v,ov] (m3 i X.env)
   standAt pos
   holding [v,ov,iv] (setItem ov iv v)
   release [v,ov,iv] []):=by intro _;rfl):PG X (.Subscript o i pos) (gSub to ti t):=by
 lk;intro v u Q I r h;rw[ha];show aa\gw (thn (ho Oo s Z H _ I h) λov s1 hZQ=>?_);let#[x,H1,I1,r1,q1]:=hZQ;show aa\gw (thn (hi Oo s1 Z H1 _ I1 q1) λiv s2 hZQ=>?_);let#[y,H2,I2,r2,q2]:=hZQ;show aa\rM (aa\gw (thn (hs Oo s2 Z H2 x y v ov iv u _ I2 r1 r2 r q2) λ_ s3 ⟨H3,I3,q3⟩=>?_));show wpAny_release #[Z,H3,I3,q3]
def nh(g:TG)(D:Ends)(Z:St):VK:=λx H1=>g x Z H1 D.nx
def ny(te:TE)(g:TG):TS:=λD Z H=>te Z H\nh g D Z
def eI{tg e:kA}{te:TE}{g:TG}(he:PE X e te)(b:PG X tg g)(c:swapsWithSole [tg] e pos.line X.env=pure gB:=by rfl)(hw:swappedStores [tg] e X.env=pure gf:=by rfl)
  (h1:(assignEach [tg] X.env).map (·.2)=[assign tg X.env]:=by rfl):PS X (.Assign [tg] e pos) (ny te g):=by
 lk;intro D I h;show wpAny_Assign_stores (thn (he Oo s Z H _ I h) λv s1 d=>?_) c hw;let#[x,H1,f,i,j]:=d;rw[h1];show thn (b Oo s1 Z H1 x v _ f i j) λ_ s2 q=>q
def mW{i:Nat}{x:Str}{e:kA}{te:TE}{pos':Pos}(b:X.N.Nodup)(hi:X.N[i]?*>x)(c:Loc X.env.scope x)(he:PE X e te)(d:swapsWith e (gm\.n x pos') pos.line X.env=pure gB:=by rfl)(hf:X.fn x=gn\/X.env.scope.names.lookup x*>.local:=by first|exact .l rfl|exact .o rfl|assumption) :
  PS X (.Assign [.n x pos'] e pos) (ny te\cE i):=by
 lk;intro D I h;show wpAny_Assign_Name (thn (he Oo s Z H _ I h) λv s1 f=>?_) d;let#[y,H1,g,j,l]:=f;show w4 g b hi c j (λs2 m=>#[_,H1,m,l]) hf
def sx(i:Nat){x:Str}{e:kA}{te:TE}{pos':Pos}(b:X.N.Nodup)(he:PE X e te)(hi:X.N[i]?*>x:=by rfl)(c:Loc X.env.scope x:=by first|exact .l rfl|exact .o rfl)(d:swapsWith e (gm\.n x pos') pos.line X.env=pure gB:=by rfl)(hf:X.fn x=gn\/X.env.scope.names.lookup x*>.local:=by first|exact .l rfl|exact .o rfl|assumption):PS X (.Assign [.n x pos'] e pos) (ny te\cE i):=mW b hi c he d hf
end
section
variable {pos:Pos}
def tWhN(tb:TS)(D:Ends)(W:Nat->St->Hp->Prop)(m:Nat)(Z:St)(H1:Hp)(N:St->Hp->Prop):Prop:=(∀Z' H',N Z' H'->∃b,b<m/\W b Z' H')/\tb {D with nx:=N,ct:=N,bk:=D.nx} Z H1
def tWhK(tb:TS)(D:Ends)(W:Nat->St->Hp->Prop)(m:Nat)(Z:St):Bool->Hp->Prop:=λb H1=>if b=gn then Exists (tWhN tb D W m Z H1) else D.nx Z H1
def tWhB(c:TT)(tb:TS)(D:Ends)(Z:St)(H:Hp)(W:Nat->St->Hp->Prop):Prop:=(∃m,W m Z H)/\∀m Z H,W m Z H->c Z H\tWhK tb D W m Z
def t6(c:TT)(tb:TS):TS:=λD Z H=>Exists\tWhB c tb D Z H
def kF{c:kA}{body:-lj}{tc:TT}{tb:TS}(q:PassesOwn ⇑X X.A X.env X.xe)(x:PT X c tc)(y:PSs X body tb):PS X (.While c body [] pos) (t6 tc tb):=by
 lk;intro D I h;let#[W,#[z,B],turn]:=h;show wpAny_While\codeAny_whileLoop (λn s'=>∃Z' H',Inv X Oo Z' H' s'/\W n Z' H') ?_ z #[Z,H,I,B];rintro n s1 ⟨g,H1,C,E⟩;show l7 q (thn (x Oo s1 g H1 _ C\turn n g H1 E) λb s2 ⟨H2,r,i⟩=>?_);cases b with
 |true=>
  let#[N,u,i]:=i;rw[Oj rfl];show l7 q (thn (y Oo s2 g H2 _ r i) λf K j=>?_);cases f with
  |next=>
   let#[d,e,l,m]:=j;let#[o,hm,p]:=u d e m;erw[o,hm,d,e,l,p]
  |cont=>
   let#[d,e,l,m]:=j;let#[o,hm,p]:=u d e m;erw[o,hm,d,e,l,p]
  |brk=>show j
  |ret v=>show j
 |false=>
  rw[Oi bL];show vz #[g,H2,r,i]
end
structure It where
 go:Nat->Hp->Prop
 yld:Nat->Hp->V->Hp->Prop
 stop:Nat->Hp->Prop
def dv(X:Cx)(Oo:-(gL×Obj))(H:Hp)(b:gL):Prop:=
 H b=gf/\b≠X.env.locals/\b∉X.fs/\(b∈X.ex\/X.s₀.heap.objs.size<=b)/\(∀x c,X.env.cells.lookup x*>c->c≠b)/\∀p∈X.pn++Oo,p.1≠b
def Inv.fpOk{b:gL}(I:!Inv H s)(d:↥s<=b)(f:H' b=gf):dv X Oo H' b:=by
 erw[f,lU\cS I.lt d,I.nofs d,.o\dw I.sz d,λx c e z=>?_,λp g z=>?_]
 .let#[v,q]:=I.cell x c e;show absurd (cS q.lt (by rw[z];show d))\dW _
 show absurd (cS (aX (I.pin p g).1) (by rw[z];show d))\dW _
structure Turn(P:jl)(w:lp)(K:W.Frag)(tg:kA)(J:It)(fp:-gL)(it:gL)(tn:Nat->js->Prop):Prop where
 mem:it∈fp
 obj:∀i h,tn i h->∀b∈fp,∃o,h.get? b*>o/\∀v,o.data≠.cell v
 keep:∀i h h',tn i h->(∀b∈fp,∀o,h.get? b*>o->h'.get? b*>o)->tn i h'
 item:∀(X:Cx),X.prog=P->X.w=w->X.K=K->X.calm=gn->∀(i:Nat)(Oo:-(gL×Obj))(s:hA)(Z:St)(H:Hp)(E:gE->hA->Prop),!Inv H s->(∀b∈fp,dv X Oo H b)->tn i s.heap->J.go i H->
  hB (i3 P w) X.A (q0\.r it) (λr s1=>∃u,r*>u/\
   hB (i3 P w) X.A (letOwnedTupleGo tg (.r it) u) (λ_ s2=>∃x H',!Inv H' s2/\aB x u/\J.yld i H x H'/\tn (i+1) s2.heap/\∀b∈fp,H' b=gf) E s1) E s
 done:∀(X:Cx),X.prog=P->X.w=w->X.K=K->X.calm=gn->∀(i:Nat)(Oo:-(gL×Obj))(s:hA)(Z:St)(H:Hp)(E:gE->hA->Prop),!Inv H s->(∀b∈fp,dv X Oo H b)->tn i s.heap->J.stop i H->
  hB (i3 P w) X.A (q0\.r it) (λr s1=>r=gf/\!Inv H s1) E s
 self:∀(A:ru)(i:Nat)(s:hA)(Q:gE->hA->Prop)(E:gE->hA->Prop),tn i s.heap->Q (.r it) s->hB (i3 P w) A (pyIter\.r it) Q E s
abbrev TI:=St->Hp->(It->Hp->Prop)->Prop
def PIE(X:Cx)(Oo:-(gL×Obj))(Z:St)(tg:kA)(R:It->Hp->Prop)(d:gE)(s2:hA):Prop:=
 ∃(it:gL)(fp:-gL)(c:Nat->js->Prop)(J:It)(H':Hp),d=.r it/\!Inv H' s2/\Turn X.prog X.w X.K tg J fp it c/\c 0 s2.heap/\(∀b∈fp,dv X Oo H' b)/\R J H'
def PI(X:Cx)(tg iter:kA)(wi:TI):Prop:=
 ∀(Oo:-(gL×Obj))(s:hA)(Z:St)(H:Hp)(R:It->Hp->Prop),!Inv H s->wi Z H R->
  hB ⇑X X.A (m3 iter X.env) (λv s1=>hB ⇑X X.A (pyIter v) (PIE X Oo Z tg R) X.xe s1) X.xe s
def qM{M:Model}{tg:kA}{it:gL}{u:gE}{o:Obj}{n:String}{vs:Array gE}{Q:Unit->hA->Prop}(c:s.heap.get? it*>o)(d:o.cls=.t n)(hd:o.data=.d vs)
  (e:[↑31,"zip",↑8,"dict_reverseitemiterator","odict_iterator","itertools.zip_longest","itertools.pairwise"].contains n=gB) (b:Q .unit s):hB M A (letOwnedTupleGo tg (.r it) u) Q E s:=by
 unfold letOwnedTupleGo;cases tg<;>first
  |show aw b
  |(cases u<;>first
    |show aw b
    |(show aa (wpAny_load c ?_)
      rw[d,hd];change hB M A (if ([↑31,"zip",↑8,"dict_reverseitemiterator","odict_iterator","itertools.zip_longest","itertools.pairwise"].contains n&&vs[0]?==gm\mL _)=gn then _ else _) Q E s;rw[Oi (by intro h;rw[e,Bool.false_and] at h;cases h)];show aw b))
def Itl(K:W.Frag)(a:gL):It:=
 #[λi H=>∃xs x,SqL K H a xs/\xs[i]?*>x,λi H x H'=>H'=H/\∀xs,SqL K H a xs->xs[i]?*>x,λi H=>∃xs,SqL K H a xs/\↑xs<=i]
def Itt(K:W.Frag)(a:gL):It:=
 #[λi H=>∃xs x,SqT K H a xs/\xs[i]?*>x,λi H x H'=>H'=H/\∀xs,SqT K H a xs->xs[i]?*>x,λi H=>∃xs,SqT K H a xs/\↑xs<=i]
def Itr(lo:Int)(n:Nat):It:=#[λi _=>i<n,λi H x H'=>H'=H/\x=.i (lo+i),λi _=>n<=i]
def CF{tg:kA}(a it:gL):Turn P w K tg (Itl [] a) [it] it (λi h=>h.IsListIter it a i) where
 mem:=∅
 obj:=λi h st b f=>by
  let e:b=it:=‹f›
  subst e;let#[o,e,c,d]:=st;erw[o,e,λv z=>by rw[d] at z;cases z]
 keep:=λi h h' st k=>st.at λo e=>k it ∅ o e
 item:=by intro X j hw l D i Oo s Z H E I hf st m;subst j hw l;let#[xs,x,g,n]:=m;let#[M,q,p,N]:=I.list g;let#[u,O,Q]:=q.get n;let#[r,y,R,A,B,C]:=hf it ∅;show wpAny_pyNext_list_item st p.isList (x:=u) ‹O› λh' L sb=>?_;let S:!Inv H {s with heap:=h'}:=I.turned (t':=s.toks) (λb o f e=>(sb.2 b f)<*e) r y A B C;let#[o,e,c,d]:=id L;erw[u,1,qM (s:={s with heap:=h'}) e c d ⋯ #[x,H,S,Q,#[1,λys T=>by rw[I.list_inj T g];show n],L,λb f=>(hf b f).1]]
 done:=by intro X j hw l D i Oo s Z H E I hf st m;subst j hw l;let#[xs,g,n]:=m;let#[M,q,p,N]:=I.list g;let#[r,y,R,A,B,C]:=hf it ∅;let Y:=↑q;show wpAny_pyNext_list_end (I.ok.hd D) st p.isList (by simp;lia) λh' U=>#[1,I.turned (t':=s.toks) (λb o f e=>U b o f e) r y A B C]
 self:=λ_ _ _ _ _ st h=>wpAny_pyIter_listiter st h
def BX{tg:kA}(a it:gL):Turn P w K tg (Itt [] a) [it] it (λi h=>h.IsTupleIter it a i) where
 mem:=∅
 obj:=λi h st b f=>by
  let e:b=it:=‹f›
  subst e;let#[o,e,c,d]:=st;erw[o,e,λv z=>by rw[d] at z;cases z]
 keep:=λi h h' st k=>st.at λo e=>k it ∅ o e
 item:=by intro X j hw l L i Oo s Z H E I hf st m;subst j hw l;let#[xs,x,g,n]:=m;let#[q,r,p,N]:=I.tuple g;let#[u,O,Q]:=r.get n;let#[y,A,R,B,C,D]:=hf it ∅;show wpAny_pyNext_tuple_item st (show s.heap.IsTuple a q.toArray from p) (x:=u) ‹O› λh' M sb=>?_;let S:!Inv H {s with heap:=h'}:=I.turned (t':=s.toks) (λb o f e=>(sb.2 b f)<*e) y A B C D;let#[o,e,c,d]:=id M;erw[u,1,qM (s:={s with heap:=h'}) e c d ⋯ #[x,H,S,Q,#[1,λys T=>by rw[I.tuple_inj T g];show n],M,λb f=>(hf b f).1]]
 done:=by intro X j hw l L i Oo s Z H E I hf st m;subst j hw l;let#[xs,g,n]:=m;let#[q,r,p,N]:=I.tuple g;let#[y,A,R,B,C,D]:=hf it ∅;let Y:=↑r;show wpAny_pyNext_tuple_end (I.ok.hd L) st (show s.heap.IsTuple a q.toArray from p) (by simp;lia) λh' U=>#[1,I.turned (t':=s.toks) (λb o f e=>U b o f e) y A B C D]
 self:=λ_ _ _ _ _ st h=>wpAny_pyIter_tupleiter st h
def BY{tg:kA}(it:gL)(lo:Int)(n:Nat):Turn P w K tg (Itr lo n) [it] it (λi h=>IsRangeIter h it (lo+(i:Nat)*1) ((n:Int)-(i:Nat)) 1) where
 mem:=∅
 obj:=λi h st b c=>by
  let e:b=it:=‹c›
  subst e;erw[_,st,λv z=>by
   let x:Data.fields _=Data.cell v:=z;cases x]
 keep:=λi h h' st k=>k it ∅ _ st
 item:=by intro X d hw f g i Oo s Z H E I hf st j;subst d hw f;let#[l,m,y,p,q,r]:=hf it ∅;let W:=Walks.range (prog:=X.prog) (w:=X.w) (I.ok.hd g) it lo 1 n;show W.item i s _ _ j st λv h' tk A u B=>?_;let#[t,1]:=A;let C:!Inv H {s with heap:=h',toks:=tk}:=I.turned (λb o c e=>B b o ‹c› e) l m p q r;erw[2,qM (s:={s with heap:=h',toks:=tk}) (n:="range_iterator") u rfl rfl ⋯ #[.i (lo+i),H,C,#[t,?_],#[5],u,λb c=>(hf b c).1]];rw[Int.mul_one]
 done:=by intro X d hw f g i Oo s Z H E I hf st j;subst d hw f;let#[l,m,y,p,q,r]:=hf it ∅;show wpAny_pyNext_range_end (I.ok.hd g) st (by have:n<=i:=j;lia) λh' D=>#[1,I.turned (t':=s.toks) (λb o c e=>D b o c e) l m p q r]
 self:=λ_ _ _ _ _ st h=>wpAny_pyIter_rangeiter st h
end L2
namespace L2
open PySem PySem.Spec PyProof.Rows
section
variable {tg:kA}
def JC(K:W.Frag)(R:It->Hp->Prop)(x:V)(H1:Hp)(a:gL):Prop:=x=.r a/\(∃xs,SqL K H1 a xs)/\R (Itl K a) H1
def JB(K:W.Frag)(R:It->Hp->Prop):VK:=λx H1=>Exists\JC K R x H1
def K3(K:W.Frag)(tl:TE):TI:=λZ H R=>tl Z H\JB K R
def K0(K:W.Frag)(R:It->Hp->Prop)(x:V)(H1:Hp)(a:gL):Prop:=x=.r a/\(∃xs,SqT K H1 a xs)/\R (Itt K a) H1
def KZ(K:W.Frag)(R:It->Hp->Prop):VK:=λx H1=>Exists\K0 K R x H1
def qS(K:W.Frag)(tl:TE):TI:=λZ H R=>tl Z H\KZ K R
def bU{l:kA}{tl:TE}(d:PE X l tl):PI X tg l (K3 [] tl):=by
 lk;intro R I h;show thn (d Oo s Z H _ I h) λv s1 f=>?_;let#[x,H1,c,g,i]:=f;let#[a,e,#[xs,j],q]:=i;subst e;cases g;let#[n,r,p,u]:=c.list j;show Be p.isList ?_;erw[↥s1,[↥s1],0,H1,1,c.kept (t':=s1.toks) λb o e=>bh _ e,CF a _,#[_,bX _ rfl,5],λb m=>?_,q];let e:b=↥s1:=‹m›
 subst e;show c.fpOk (au _)\c.hok.fresh (au _)
def mX{l:kA}{tl:TE}(d:PE X l tl):PI X tg l (qS [] tl):=by
 lk;intro R I h;show thn (d Oo s Z H _ I h) λv s1 f=>?_;let#[x,H1,c,g,i]:=f;let#[a,e,#[xs,j],q]:=i;subst e;cases g;let#[m,r,p,u]:=c.tuple j;show wpAny_pyIter_tuple (show s1.heap.IsTuple a m.toArray from p) ?_;erw[↥s1,[↥s1],0,H1,1,c.kept (t':=s1.toks) λb o e=>bh _ e,BX a _,#[_,bX _ rfl,5],λb n=>?_,q];let e:b=↥s1:=‹n›
 subst e;show c.fpOk (au _)\c.hok.fresh (au _)
def xm{R:It->Hp->Prop}{lo hi:Int}{t u v:Tok}{tk:Nat}(I:!Inv H s)(h1:-(2 ^ 62)<=lo)(h2:lo<2 ^ 62)(d:-(2 ^ 62)<=hi)(f:hi<2 ^ 62)
  (q:R (Itr lo (hi-lo).toNat) H):hB ⇑X X.A (pyIter\.r ↥s) (PIE X Oo Z tg R) E {s with heap:=s.heap.push {cls:=.t ↑89,data:=.d\tA [.i lo t,.i hi u,.i 1 v]},toks:=tk}:=by
 show wpAny_pyIter_range (IsRange.new ..) (small_one h1 h2 d f) ?_;let c:!Inv H {s with heap:=s.heap.push {cls:=.t ↑89,data:=.d\tA [.i lo t,.i hi u,.i 1 v]},toks:=tk}:=I.kept λb o e=>bh _ e;erw[(s.heap.push {cls:=.t ↑89,data:=.d\tA [.i lo t,.i hi u,.i 1 v]}).objs.size,[(s.heap.push {cls:=.t ↑89,data:=.d\tA [.i lo t,.i hi u,.i 1 v]}).objs.size],0,H,1,
  c.kept (t':=tk) λb o e=>bh _ e,BY _ lo (hi-lo).toNat,?_,λb g=>?_,q]
 .let h:lo+((0:Nat):Int)*1=lo:=∅;let i:(((hi-lo).toNat:Nat):Int)-((0:Nat):Int)=Builtin.Range.rangeSize lo hi 1:=by rw[rangeSize_one];split<;>lia
  change IsRangeIter _ _ (lo+((0:Nat):Int)*1) ((((hi-lo).toNat:Nat):Int)-((0:Nat):Int)) 1;rw[h,i];show bX _ rfl
 let e:b=(s.heap.push {cls:=.t ↑89,data:=.d\tA [.i lo t,.i hi u,.i 1 v]}).objs.size:=‹g›
 subst e;show c.fpOk (au _)\c.hok.fresh (au _)
def JA(R:It->Hp->Prop)(vs:-V)(H1:Hp)(j:Int):Prop:=vs=[.i j]/\-(2 ^ 62)<=j/\j<2 ^ 62/\R (Itr 0 j.toNat) H1
def Jz(R:It->Hp->Prop):-V->Hp->Prop:=λvs H1=>Exists\JA R vs H1
def K2(ta:TA):TI:=λZ H R=>ta Z H\Jz R
def K1(ta:TA):TI:=λZ H R=>ta Z H λvs H1=>∃i j:Int,vs=[.i i,.i j]/\(-(2 ^ 62)<=i/\i<2 ^ 62/\-(2 ^ 62)<=j/\j<2 ^ 62)/\R (Itr i (j-i).toNat) H1
def ju{a:kA}{ta:TA}{p pos:Pos}(c:Gl X ↑89)(hm:X.mg ↑89 = gf)(ha:PA X [a] ta)(d:hM [a] X.env=[(gB,m3 a X.env)]:=by rfl):PI X tg (.Call (.n ↑89 p) [a] [] pos) (K2 ta):=by
 lk;intro R I h;show Call_\iW I c hm boot_range (n8 (thn (ha pos Oo s Z H _ I h) λus s1 ⟨vs,H1,f,g,b⟩=>?_) d rfl);let#[j,e,b,i,q]:=b;subst e;cases g with
 |cons r l=>
  cases l;let#[t,1]:=r;show call_range_1 (xm f () () b i ‹q›)
def CW{a b:kA}{ta:TA}{p pos:Pos}(g:Gl X ↑89)(hm:X.mg ↑89 = gf)(ha:PA X [a,b] ta)(l:hM [a,b] X.env=[(gB,m3 a X.env),(gB,m3 b X.env)]:=by rfl)(f:hM [b] X.env=[(gB,m3 b X.env)]:=by rfl) :
  PI X tg (.Call (.n ↑89 p) [a,b] [] pos) (K1 ta):=by
 lk;intro R I h;show Call_\iW I g hm boot_range (n8 (thn (ha pos Oo s Z H _ I h) λus s1 ⟨vs,H1,m,n,c⟩=>?_) (by rw[l,f]) (by rw[f];rfl));let#[i,j,e,#[c,o,u,v],q]:=c;subst e;cases n with
 |cons r d=>
  cases d with
  |cons r' d=>
   cases d;let#[t,1]:=r;let#[t',1]:=r';show call_range_2\xm m c o u v q
def J_(J:It)(g:TG)(tb:TS)(D:Ends)(W:Nat->Nat->St->Hp->Prop)(i m:Nat)(Z:St)(H:Hp)(N:St->Hp->Prop):Prop:=(∀Z' H',N Z' H'->∃b,b<m/\W (i+1) b Z' H')/\∀x H',J.yld i H x H'->g x Z H'\tb {D with nx:=N,ct:=N,bk:=D.nx}
def Kb(g:TG)(tb:TS)(D:Ends)(Z:St)(J:It)(H1:Hp)(W:Nat->Nat->St->Hp->Prop):Prop:=(∃m,W 0 m Z H1)/\∀i m Z H,W i m Z H->(J.stop i H/\D.nx Z H)\/(J.go i H/\Exists\J_ J g tb D W i m Z H)
def Ka(g:TG)(tb:TS)(D:Ends)(Z:St):It->Hp->Prop:=λJ H1=>Exists\Kb g tb D Z J H1
def tFor(wi:TI)(g:TG)(tb:TS):TS:=λD Z H=>wi Z H\Ka g tb D Z
def kY(fp:-gL)(h:js):-(gL×Obj):=fp.filterMap λb=>(h.get? b).map λo=>(b,o)
def kr{fp:-gL}{h:js}{b:gL}{o:Obj}(c:b∈fp)(e:h.get? b*>o):(b,o)∈kY fp h:=uV.mpr #[b,c,by rw[e];rfl]
def C9{fp:-gL}{h:js}{p:gL×Obj}(c:p∈kY fp h):p.1∈fp/\h.get? p.1*>p.2:=by
 let#[b,d,e]:=uV.mp c;cases q:h.get? b with
 |none=>rw[q] at e;cases e
 |some o=>
  rw[q] at e;let e':(b,o)=p:=df e;subst e';erw[d,q]
def Inv.pinned{fp:-gL}(I:!Inv H s)(hf:∀b∈fp,dv X Oo H b)(f:∀b∈fp,∃o,s.heap.get? b*>o/\∀v,o.data≠.cell v):Inv X (Oo++kY fp s.heap) Z H s:=
 I.pins_of λp g=>(az.mp g).elim (λz=>I.pin p\cU _ z) λz=>by
  let#[#[c,e],#[h,i,j,_],#[o,e',d]]:=#[C9 z,hf p.1 c,f p.1 c];rw[e] at e';cases e';erw[e,h,i,j,d]
def Inv.unpinned{Oo pl:-(gL×Obj)}(I:Inv X (Oo++pl) Z H s):!Inv H s:=I.pins_of λp b=>I.pin p\cU _ (bR _ b)
def cf{iter:kA}{body:-lj}{wi:TI}{g:TG}{tb:TS}{pos:Pos}(y:PassesOwn ⇑X X.A X.env X.xe)(O:X.calm=gn)(hi:PI X tg iter wi)(hg:PG X tg g)(c:PSs X body tb)
  (hs:∀x,foldedSetIterable iter X.env x=pure x:=by intro _;rfl):PS X (.For tg iter body [] pos) (tFor wi g tb):=by
 lk;intro D I h;show wpAny_For (thn (hi Oo s Z H _ I h) λv s1 h1=>thn h1 λan s2 h2=>?_) hs;let#[it,fp,P,J,H2,e,I2,T,ab,Q,W,#[m0,w0],turn]:=h2;subst e;let E:∀{H':Hp},(∀b∈fp,H' b=gf)->∀b∈fp,dv X Oo H' b:=λhn b c=>#[hn b c,(Q b c).2];show codeAny_forLoop_any (λn s'=>∃i Z' H',Inv X Oo Z' H' s'/\P i s'.heap/\(∀b∈fp,H' b=gf)/\W i n Z' H') ?_ m0 #[(0),Z,H2,I2,ab,λb c=>(Q b c).1,w0];rintro n R ⟨i,z,C,S,U,Y,w3⟩;rcases turn i n z C w3 with ⟨stop,qn⟩|⟨go,N,hN,step⟩
 .refine l7 y (thn (T.done X rfl rfl rfl O i Oo R z C X.xe S (E Y) U stop) λr s4 ⟨K,I4⟩=>?_);subst K;show vz #[z,C,I4,qn]
 show l7 y (thn (T.item X rfl rfl rfl O i Oo R z C X.xe S (E Y) U go) λr s4 ⟨u,K,h4⟩=>?_);subst K;show l7 y (thn h4 λ_ s5 ad=>?_);let#[x,H5,I5,r5,y5,L,al]:=ad;let am:=I5.pinned (E al) (T.obj>>L);show l7 y (thn (hg _ s5 z H5 x u _ am r5\step x H5 y5) λ_ s6 ⟨Z6,H6,I6,q6⟩=>?_);show l7 y (thn (c _ s6 Z6 H6 _ I6 q6) λf M q=>?_);let again:∀{j:St}{l:Hp},Inv X (Oo++kY fp s5.heap) j l M->N j l->∃m,m<n/\∃i Z' H',Inv X Oo Z' H' M/\P i M.heap/\(∀b∈fp,H' b=gf)/\W i m Z' H':=λ{j l} p B=>by
  let#[m',hm,w7]:=hN j l B;erw[m',hm,i+1,j,l,p.unpinned,T.keep _ _ _ L λb c o e=>(p.pin (b,o)\cU _ (cU _\kr c e)).1,λb c=>?_,w7];let#[o,e,d]:=T.obj _ _ L b c;show (p.pin (b,o)\cU _ (cU _\kr c e)).2.1
 cases f with
 |next=>let#[j,l,p,B]:=q;show again p B
 |cont=>let#[j,l,p,B]:=q;show again p B
 |brk=>let#[j,l,p,q]:=q;erw[j,l,p.unpinned,q]
 |ret v=>let#[x7,j,l,p,r7,q]:=q;erw[x7,j,l,p.unpinned,r7,q]
end
def dM{a:gL}{g:TG}{tb:TS}{D:Ends}(Pv:Nat->St->Hp->Prop)(f:Pv 0 Z H)(h:∀i Z H,i<=↑xs->Pv i Z H->SqL K H a xs)
  (j:∀i x Z H,xs[i]?*>x->Pv i Z H->g x Z H λb H2=>tb {D with nx:=Pv (i+1),ct:=Pv (i+1),bk:=D.nx} b H2) (hd:∀Z H,Pv ↑xs Z H->D.nx Z H) :
  ∃W:Nat->Nat->St->Hp->Prop,(∃m,W 0 m Z H)/\∀i m Z H,W i m Z H->
   ((Itl K a).stop i H/\D.nx Z H)\/((Itl K a).go i H/\∃N:St->Hp->Prop,(∀Z' H',N Z' H'->∃c,c<m/\W (i+1) c Z' H')/\∀x H',(Itl K a).yld i H x H'->g x Z H' λb H2=>tb {D with nx:=N,ct:=N,bk:=D.nx} b H2):=by
 erw[λi m Z H=>m=↑xs-i/\i<=↑xs/\Pv i Z H,#[↑xs,∅,aV _,f],?_];rintro i m Z H ⟨rfl,hi,p⟩;let q:=h i Z H hi p;by_cases d:i<↑xs
 .refine .o #[#[xs,xs[i],q,by simp[d]],Pv (i+1),λZ' H' p'=>#[↑xs-(i+1),(),1,d,p'],λx H' y=>?_];let#[e,y]:=y;subst e;show j i x Z _ (y xs q) p
 let e:i=↑xs:=();subst e;show .l #[#[xs,q,au _],hd Z H p]
def Hs{a:gL}{g:TG}{tb:TS}{D:Ends}(Pv:Nat->St->Hp->Prop)(f:Pv 0 Z H)(h:∀i Z H,i<=↑xs->Pv i Z H->SqT K H a xs)
  (j:∀i x Z H,xs[i]?*>x->Pv i Z H->g x Z H λb H2=>tb {D with nx:=Pv (i+1),ct:=Pv (i+1),bk:=D.nx} b H2) (hd:∀Z H,Pv ↑xs Z H->D.nx Z H) :
  ∃W:Nat->Nat->St->Hp->Prop,(∃m,W 0 m Z H)/\∀i m Z H,W i m Z H->
   ((Itt K a).stop i H/\D.nx Z H)\/((Itt K a).go i H/\∃N:St->Hp->Prop,(∀Z' H',N Z' H'->∃c,c<m/\W (i+1) c Z' H')/\∀x H',(Itt K a).yld i H x H'->g x Z H' λb H2=>tb {D with nx:=N,ct:=N,bk:=D.nx} b H2):=by
 erw[λi m Z H=>m=↑xs-i/\i<=↑xs/\Pv i Z H,#[↑xs,∅,aV _,f],?_];rintro i m Z H ⟨rfl,hi,p⟩;let q:=h i Z H hi p;by_cases d:i<↑xs
 .refine .o #[#[xs,xs[i],q,by simp[d]],Pv (i+1),λZ' H' p'=>#[↑xs-(i+1),(),1,d,p'],λx H' y=>?_];let#[e,y]:=y;subst e;show j i x Z _ (y xs q) p
 let e:i=↑xs:=();subst e;show .l #[#[xs,q,au _],hd Z H p]
def kC{lo:Int}{n:Nat}{g:TG}{tb:TS}{D:Ends}(Pv:Nat->St->Hp->Prop)(f:Pv 0 Z H)
  (h:∀i Z H,i<n->Pv i Z H->g (.i (lo+i)) Z H λb H2=>tb {D with nx:=Pv (i+1),ct:=Pv (i+1),bk:=D.nx} b H2) (hd:∀Z H,Pv n Z H->D.nx Z H) :
  ∃W:Nat->Nat->St->Hp->Prop,(∃m,W 0 m Z H)/\∀i m Z H,W i m Z H->
   ((Itr lo n).stop i H/\D.nx Z H)\/((Itr lo n).go i H/\∃N:St->Hp->Prop,(∀Z' H',N Z' H'->∃d,d<m/\W (i+1) d Z' H')/\∀x H',(Itr lo n).yld i H x H'->g x Z H' λb H2=>tb {D with nx:=N,ct:=N,bk:=D.nx} b H2):=by
 erw[λi m Z H=>m=n-i/\i<=n/\Pv i Z H,#[n,∅,aV _,f],?_];rintro i m Z H ⟨rfl,hi,p⟩;by_cases c:i<n
 .refine .o #[c,Pv (i+1),λZ' H' p'=>#[n-(i+1),(),1,c,p'],λx H' y=>?_];let#[e,y]:=y;subst e y;show h i Z _ c p
 let e:i=n:=();subst e;show .l #[au _,hd Z H p]
end L2
namespace L2
open PySem PySem.Spec PyProof.Rows
abbrev R2:=V->V->Hp->VK->Prop
def OpR(X:Cx)(f:gE->gE->Sem gE)(r:R2):Prop:=
 ∀(Oo:-(gL×Obj))(s:hA)(Z:St)(H:Hp)(x y:V)(v u:gE)(Q:VK),!Inv H s->aB x v->aB y u->r x y H Q->
  hB ⇑X X.A (f v u) (EP X Oo Z Q) X.xe s
def UnR(X:Cx)(f:gE->Sem gE)(r:V->Hp->VK->Prop):Prop:=
 ∀(Oo:-(gL×Obj))(s:hA)(Z:St)(H:Hp)(x:V)(v:gE)(Q:VK),!Inv H s->aB x v->r x H Q->
  hB ⇑X X.A (f v) (EP X Oo Z Q) X.xe s
def de(X:Cx)(f:gE)(r:-V->Hp->VK->Prop):Prop:=
 ∀(Oo:-(gL×Obj))(s:hA)(Z:St)(H:Hp)(xs:-V)(us:-gE)(Q:VK),!Inv H s->Vals xs us->r xs H Q->
  hB ⇑X X.A (call f us) (EP X Oo Z Q) X.xe s
def TruR(X:Cx)(r:V->Hp->(Bool->Hp->Prop)->Prop):Prop:=
 ∀(Oo:-(gL×Obj))(s:hA)(Z:St)(H:Hp)(x:V)(v:gE)(Q:Bool->Hp->Prop),!Inv H s->aB x v->r x H Q->
  hB ⇑X X.A (truthy v) (TP X Oo Z Q) X.xe s
def tOp2(r:R2)(x:V)(Q:VK):VK:=λy H2=>r x y H2 Q
def tOp1(r:R2)(tb:TE)(Z:St)(Q:VK):VK:=λx H1=>tb Z H1\tOp2 r x Q
def tOp(r:R2)(ta tb:TE):TE:=λZ H Q=>ta Z H\tOp1 r tb Z Q
def tUnK(r:V->Hp->VK->Prop)(Q:VK):VK:=λx H1=>r x H1 Q
def tUn(r:V->Hp->VK->Prop)(ta:TE):TE:=λZ H Q=>ta Z H\tUnK r Q
def rIB(C:Int->Int->Prop)(g:Int->Int->V)(x y:V)(H:Hp)(Q:VK)(i j:Int):Prop:=x=.i i/\y=.i j/\C i j/\Q (g i j) H
def rI(C:Int->Int->Prop)(g:Int->Int->V):R2:=λx y H Q=>Exists\Ex2 (rIB C g x y H Q)
def rI0B(g:Int->Int->V)(x y:V)(H:Hp)(Q:VK)(i j:Int):Prop:=x=.i i/\y=.i j/\Q (g i j) H
def rI0(g:Int->Int->V):R2:=λx y H Q=>Exists\Ex2 (rI0B g x y H Q)
def rUB(g:Int->V)(x:V)(H:Hp)(Q:VK)(i:Int):Prop:=x=.i i/\Q (g i) H
def rU(g:Int->V):V->Hp->VK->Prop:=λx H Q=>Exists\rUB g x H Q
section
variable {a b c:kA}{ta tb tc:TE}{pos:Pos}
def uK(ha:PE X a ta)(d:PE X b tb){R:V->V->Hp->Prop}(I:!Inv H s)
  (h:ta Z H λx H1=>tb Z H1 λy H2=>R x y H2) {Q:gE->hA->Prop} {f:gE->gE->Sem gE}
  (hf:∀v u s2 x y H2,!Inv H2 s2->aB x v->aB y u->R x y H2->hB ⇑X X.A (f v u) Q X.xe s2) :
  hB ⇑X X.A (m3 a X.env) (λv s₁=>hB ⇑X X.A (m3 b X.env) (λu s₂=>hB ⇑X X.A (f v u) Q X.xe s₂) X.xe s₁) X.xe s:=by
 show thn (ha Oo s Z H _ I h) λv s1 c=>?_;let#[x,H1,e,g,i]:=c;show thn (d Oo s1 Z H1 _ e i) λu s2 c=>?_;let#[y,H2,j,l,m]:=c;show hf v u s2 x y H2 j g l m
def ak{op:Operator}{r:R2}(c:OpR X (binaryOp op) r)(ha:PE X a ta)(d:PE X b tb):PE X (.BinOp a op b pos) (tOp r ta tb):=by lk;intro Q I h;show wpAny_BinOp (uK ha d I h λv u s2 x y H2 e f g q=>c Oo s2 Z H2 x y v u Q e f g q)
def i6{op:UnaryOp}{r:V->Hp->VK->Prop}(b:UnR X (unaryOp op) r)(ha:PE X a ta):PE X (.UnaryOp op a pos) (tUn r ta):=by lk;intro Q I h;show UnaryOp_ (thn (ha Oo s Z H _ I h) λv s1 ⟨x,H1,c,d,e⟩=>b Oo s1 Z H1 x v Q c d e)
def opI{f:gE->gE->Sem gE}{C:Int->Int->Prop}{g:Int->Int->Int}
  (rule:∀(i j:Int)(t u:Tok)(s:hA)(Q:gE->hA->Prop)(E:gE->hA->Prop),C i j->Q (.i (g i j) s.toks) {s with toks:=s.toks+1}->hB ⇑X X.A (f (.i i t)\.i j u) Q E s) :
  OpR X f (rI C λi j=>.i\g i j):=by
 lk;intro x y v u Q I b c h;let#[#[i,j,5,d,q],#[t,1],#[t',1]]:=#[h,b,c];show rule i j t t' s _ _ d #[.i\g i j,H,I.tok _,#[2],q]
def opI0{f:gE->gE->Sem gE}{g:Int->Int->Int}
  (rule:∀(i j:Int)(t u:Tok)(s:hA)(Q:gE->hA->Prop)(E:gE->hA->Prop),Q (.i (g i j) s.toks) {s with toks:=s.toks+1}->hB ⇑X X.A (f (.i i t)\.i j u) Q E s) :
  OpR X f (rI0 λi j=>.i\g i j):=by
 lk;intro x y v u Q I b c h;let#[#[i,j,5,q],#[t,1],#[t',1]]:=#[h,b,c];show rule i j t t' s _ _ #[.i\g i j,H,I.tok _,#[2],q]
def uI{f:gE->gE->Sem gE}{g:Int->Int->Bool}
  (rule:∀(i j:Int)(t u:Tok)(s:hA)(Q:gE->hA->Prop)(E:gE->hA->Prop),Q (.x\g i j) s->hB ⇑X X.A (f (.i i t)\.i j u) Q E s) :
  OpR X f (rI0 λi j=>.bl\g i j):=by
 lk;intro x y v u Q I b c h;let#[#[i,j,5,q],#[t,1],#[t',1]]:=#[h,b,c];show rule i j t t' s _ _ #[.bl\g i j,H,I,1,q]
def CDiv(i j:Int):Prop:=0<j/\j<1073741824
def CPow(i j:Int):Prop:=0<=j/\j<=1000000/\i.natAbs<2 ^ 64
def CMul(i j:Int):Prop:=(-(2 ^ 64)<i/\i<2 ^ 64)\/(-(2 ^ 64)<j/\j<2 ^ 64)
def CMul.ok{i j:Int}(h:CMul i j):IntMulOk i j:=by
 rcases h with ⟨h1,h2⟩|⟨h1,h2⟩
 .exact .of_left\intBits_le_64 h1 h2
 show .of_right\intBits_le_64 h1 h2
def bo:OpR X (binaryOp .Add) (rI0 λi j=>.i (i+j)):=opI0 λ_ _ _ _ _ _ _ q=>add_int q
def fh:OpR X (binaryOp .Sub) (rI0 λi j=>.i (i-j)):=opI0 λ_ _ _ _ _ _ _ q=>sub_int q
def dQ:OpR X (binaryOp .Mult) (rI CMul λi j=>.i (i*j)):=opI λ_ _ _ _ _ _ _ b q=>mul_int q b.ok
def Gh:OpR X (binaryOp .FloorDiv) (rI CDiv λi j=>.i (i/j)):=opI λi j _ _ _ _ _ b q=>by
 let h1:(0:Int)<j:=b.1;let h2:j<1073741824:=b.2;show floordiv_int () (by rw[Lp i ()];show q)\.l (PyProof.noPylong_small ())
def dR:OpR X (binaryOp .Mod) (rI (λ_ j=>0<j) λi j=>.i (i%j)):=opI λi j _ _ _ _ _ b q=>by
 let h1:(0:Int)<j:=b;show mod_int' () (by rw[Int.fmod_eq_emod_of_nonneg i ()];show q)
def qt:OpR X (binaryOp .Pow) (rI CPow λi j=>.i (i ^ j.toNat)):=opI λ_ _ _ _ _ _ _ b q=>pow_int_small b.1 b.2.1 b.2.2 q
def unI{f:gE->Sem gE}{g:Int->Int}
  (rule:∀(i:Int)(t:Tok)(s:hA)(Q:gE->hA->Prop)(E:gE->hA->Prop),Q (.i (g i) s.toks) {s with toks:=s.toks+1}->hB ⇑X X.A (f\.i i t) Q E s) :
  UnR X f (rU λi=>.i\g i):=by
 lk;intro x v Q I b h;let#[i,1,q]:=h;let#[t,1]:=b;show rule i t s _ _ #[.i\g i,H,I.tok _,#[2],q]
def iQ:UnR X (unaryOp .USub) (rU λi=>.i (-i)):=unI λ_ _ _ _ _ q=>neg_int q
end
def scal:V->V->Bool
 |.non,.non=>gn | .non,.int _=>gn | .int _,.non=>gn | .non,.bl _=>gn | .bl _,.non=>gn | .non,.str _=>gn | .str _,.non=>gn
 |.int _,.int _=>gn | .bl _,.bl _=>gn | .str _,.str _=>gn | .byt _,.byt _=>gn
 |.int _,.str _=>gn | .str _,.int _=>gn | .bl _,.str _=>gn | .str _,.bl _=>gn
 |_,_=>gB
def rEq:R2:=λx y H Q=>scal x y=gn/\Q (.bl (decide (x=y))) H
def rNe:R2:=λx y H Q=>scal x y=gn/\Q (.bl (!decide (x=y))) H
def yy{i j:Int}:decide (V.int i=V.int j)=(i==j):=by rw[lK];simp
def zC{i j:Bool}:decide (V.bl i=V.bl j)=(i==j):=by rw[lK];simp
def yx{i j:Str}:decide (V.str i=V.str j)=(i==j):=by rw[lK];simp
def yF{i j:Array UInt8}:decide (V.byt i=V.byt j)=(i.toList==j.toList):=by rw[lK];cases i;cases j;simp
section
variable {a b c:kA}{ta tb tc:TE}{pos:Pos}
def cB{Q:VK}{k b:Bool}(I:!Inv H s)(q:Q (.bl k) H)(e:k=b):EP X Oo Z Q (.x b) s:=by subst e;erw[.bl k,H,I,1,q]
def ic:OpR X (lx .Eq) rEq:=by
 lk;intro x y v u Q I d b h;let#[c,q]:=h;cases x with
 |non=>
  cases d;cases y with
  |non=>cases b;show NM (cB I q ∅)
  |bl j=>cases b;show NK (cB I q ∅)
  |int j=>let#[t',1]:=b;show NL (cB I q ∅)
  |str j=>let#[t',1]:=b;show NN (cB I q ∅)
  |_=>show absurd (show gB=gn from c) bL
 |bl i=>
  cases d;cases y with
  |non=>cases b;show NI (cB I q ∅)
  |bl j=>cases b;show eq_bool\cB I q zC
  |str j=>let#[t',1]:=b;show Nz (cB I q ∅)
  |_=>show absurd (show gB=gn from c) bL
 |int i=>
  let#[t,1]:=d;cases y with
  |non=>cases b;show NJ (cB I q ∅)
  |int j=>let#[t',1]:=b;show eq_int\cB I q yy
  |str j=>let#[t',1]:=b;show NA (cB I q ∅)
  |_=>show absurd (show gB=gn from c) bL
 |str i=>
  let#[t,1]:=d;cases y with
  |non=>cases b;show NO (cB I q ∅)
  |bl j=>cases b;show NB (cB I q ∅)
  |int j=>let#[t',1]:=b;show NC (cB I q ∅)
  |str j=>let#[t',1]:=b;show eq_str\cB I q yx
  |_=>show absurd (show gB=gn from c) bL
 |byt i=>
  let#[t,1]:=d;cases y with
  |byt j=>let#[t',1]:=b;show W.eq_bytes\cB I q yF
  |_=>show absurd (show gB=gn from c) bL
 |_=>cases y<;>show absurd (show gB=gn from c) bL
def jQ:OpR X (lx .NotEq) rNe:=by
 lk;intro x y v u Q I d b h;let#[c,q]:=h;cases x with
 |non=>
  cases d;cases y with
  |non=>cases b;show NT (cB I q ∅)
  |bl j=>cases b;show NR (cB I q ∅)
  |int j=>let#[t',1]:=b;show NS (cB I q ∅)
  |str j=>let#[t',1]:=b;show NU (cB I q ∅)
  |_=>show absurd (show gB=gn from c) bL
 |bl i=>
  cases d;cases y with
  |non=>cases b;show NP (cB I q ∅)
  |bl j=>cases b;show ne_bool\cB I q (congrArg not zC)
  |str j=>let#[t',1]:=b;show ND (cB I q ∅)
  |_=>show absurd (show gB=gn from c) bL
 |int i=>
  let#[t,1]:=d;cases y with
  |non=>cases b;show NQ (cB I q ∅)
  |int j=>let#[t',1]:=b;show ne_int\cB I q (congrArg not yy)
  |str j=>let#[t',1]:=b;show NF (cB I q ∅)
  |_=>show absurd (show gB=gn from c) bL
 |str i=>
  let#[t,1]:=d;cases y with
  |non=>cases b;show NV (cB I q ∅)
  |bl j=>cases b;show NG (cB I q ∅)
  |int j=>let#[t',1]:=b;show NH (cB I q ∅)
  |str j=>let#[t',1]:=b;show ne_str\cB I q (congrArg not yx)
  |_=>show absurd (show gB=gn from c) bL
 |byt i=>
  let#[t,1]:=d;cases y with
  |byt j=>let#[t',1]:=b;show W.ne_bytes\cB I q (congrArg not yF)
  |_=>show absurd (show gB=gn from c) bL
 |_=>cases y<;>show absurd (show gB=gn from c) bL
def ni:OpR X (lx .Lt) (rI0 λi j=>.bl (decide (i<j))):=uI λ_ _ _ _ _ _ _ q=>lt_int q
def z7:OpR X (lx .Gt) (rI0 λi j=>.bl (decide (j<i))):=uI λ_ _ _ _ _ _ _ q=>gt_int q
def KQ:OpR X (lx .GtE) (rI0 λi j=>.bl (decide (j<=i))):=uI λ_ _ _ _ _ _ _ q=>ge_int q
def nomark(b:kA){op:CmpOp}(h:op≠.In:=by decide)(h2:op≠.NotIn:=by decide):ry op b=gB:=by
 let c:(op==CmpOp.In)=gB:=by cases op<;>first|rfl|show absurd rfl h
 let d:(op==CmpOp.NotIn)=gB:=by cases op<;>first|rfl|show absurd rfl h2
 cases b<;>simp[ry,c,d]
def fg{op:CmpOp}{r:R2}(c:OpR X (lx op) r)(ha:PE X a ta)(d:PE X b tb)(hm:ry op b=gB):PE X (.Compare a [op] [b] pos) (tOp r ta tb):=by lk;intro Q I h;show M4 (uK ha d I h λv u s2 x y H2 e f g q=>c Oo s2 Z H2 x y v u Q e f g q) hm
def m9(t:TE):TT:=λZ H Q=>t Z H\tBK Q
def bH{op:CmpOp}{r:R2}(d:OpR X (lx op) r)(ha:PE X a ta)(f:PE X b tb)(hm:ry op b=gB):PT X (.Compare a [op] [b] pos) (m9\tOp r ta tb):=by
 lk;intro Q I h;show M9 (thn (ha Oo s Z H _ I h) λv s1 ⟨x,H1,g,i,j⟩=>thn (f Oo s1 Z H1 _ g j) λu s2 ⟨y,H2,l,m,n⟩=>
  thn (d Oo s2 Z H2 x y v u _ l i m n) λc A ⟨z,o,p,q,k,e,w⟩=>?_) hm
 subst e;cases q;show jm #[o,p,w]
def TruV(K:W.Frag)(x:V)(H:Hp)(k:Bool):Prop:=
 match x with
 |.non=>k=gB
 |.bl b=>k=b
 |.int i=>k=(i != 0)
 |.str y=>↑y<=hH/\k=((↑y:Int) != 0)
 |.byt y=>y.size<=hH/\k=((y.size:Int) != 0)
 |.ref p=>(∃xs,SqL K H p xs/\k=!xs.isEmpty)\/(∃xs,SqT K H p xs/\k=!xs.isEmpty)\/∃kvs,H p*>.k kvs/\k=!kvs.isEmpty
 |_=>False
def Cw{κ:Type}{kvs:-(κ×V)}{vs:-(κ×gE)}(r:KV kvs vs):(!vs.isEmpty)=!kvs.isEmpty:=by cases r<;>rfl
def v8{b:-gE}(r:Vals xs b):(!b.toArray.isEmpty)=!xs.isEmpty:=by cases r<;>simp
def line63:(hH:Nat)<2 ^ 63:=by rw[dX];decide
def H_:TruR X (λx H Q=>∃k,TruV [] x H k/\Q k H):=by
 lk;intro x v Q I c h;let#[#[k,e,q],n,o]:=#[h,line63,(dX:hH=16777216)];cases x with
 |non=>
  cases c;let e':k=gB:=e;subst e';show truthy_none #[H,I,q]
 |bl b=>
  cases c;let e':k=b:=e;subst e';show jm #[H,I,q]
 |int i=>
  let#[t,1]:=c;let e':k=(i != 0):=e;subst e';show PySem.P.truthy_int #[H,I,q]
 |str y=>
  let#[t,1]:=c;let#[g,e']:↑y<=hH/\k=((↑y:Int) != 0):=e;subst e';show PySem.P.truthy_str () #[H,I.tok _,q]
 |byt y=>
  let#[t,1]:=c;let#[g,e']:y.size<=hH/\k=((y.size:Int) != 0):=e;subst e';show W.truthy_bytes () #[H,I.tok _,q]
 |ref p=>
  cases c;let e':(∃xs,SqL [] H p xs/\k=!xs.isEmpty)\/(∃xs,SqT [] H p xs/\k=!xs.isEmpty)\/∃kvs,H p*>.k kvs/\k=!kvs.isEmpty:=e;rcases e' with ⟨xs,d,e'⟩|⟨xs,d,e'⟩|⟨kvs,d,e'⟩
  .subst e';let#[j,r,pl,f]:=I.list d;let hlen:=↑r;show wpAny_truthy_list pl.isList (by simp only[bM];lia) #[H,I.tok _,by rw[v8 r];show q]
  .subst e';let#[j,r,pl,f]:=I.tuple d;let hlen:=↑r;show truthy_tuple pl (by simp only[bM];lia) #[H,I.tok _,by rw[v8 r];show q]
  subst e';let#[f,l,vs,r,m]:↑kvs<=hH/\(p==mc)=gB/\∃vs,KV kvs vs/\s.heap.DictOf (cM X.prog X.w) p vs:=I.hok p _ d;let hlen:↑kvs=↑vs:=n6 r;show wpAny_truthy_dict l m () #[H,I.tok _,by rw[Cw r];show q]
 |_=>show (show False from e).elim
def xn(ha:PE X a ta)(he:∀whole,isTrue a X.env whole=(do let v <-whole;standAt a.pos;holding [v]\truthy v)) :
  PT X a (λZ H Q=>ta Z H λx H'=>∃k,TruV [] x H' k/\Q k H'):=by
 lk;intro Q I h;show isTrue_plain (thn (ha Oo s Z H _ I h) λv s1 ⟨x,H1,I1,r1,q1⟩=>H_ Oo s1 Z H1 x v Q I1 r1 q1)\he _
def vals1{x:V}(r:Vals [x] us):∃u,us=[u]/\aB x u:=by
 cases r with
 |cons b c=>cases c;erw[2,b]
def vals2{x y:V}(r:Vals [x,y] us):∃u b,us=[u,b]/\aB x u/\aB y b:=by
 cases r with
 |cons c d=>
  cases d with
  |cons e f=>cases f;erw[9,c,e]
def jv:de X (.t "int") (λxs H Q=>(∃i,xs=[.i i]/\Q (.i i) H)\/∃k,xs=[.bl k]/\Q (.i (if k then 1 else 0)) H):=by
 lk;intro xs us Q I r h;rcases h with ⟨i,rfl,q⟩|⟨k,rfl,q⟩
 .let#[u,1,t,1]:=vals1 r;show call_int_int #[.i i,H,I,#[2],q]
 let#[u,1,b]:=vals1 r;cases b;show call_int_bool #[.i (if k then 1 else 0),H,I.tok _,#[2],q]
end
end L2
namespace L2
open PySem PySem.Spec PyProof.Rows
structure jZ(h:js)(x dx C:gL)(mA:Str->Option gE):Prop where
 obj:h.get? x*>W.instObj C dx
 ns:h.Ns1 dx mA
 ne:dx≠x
def Dg{h:js}{dx:gL}{mA:Str->Option gE}(n:h.Ns1 dx mA):∃od,h.get? dx*>od/\∀name,W.lookIn name od*>mA name:=by
 let#[o,es,ep,b,hd,c,_,hm]:=n;erw[o,b,λname=>?_];let e:=hm name;unfold nsFind findBy at e;rw[<-Array.find?_toList] at e;unfold W.lookIn;rw[hd];dsimp only
 split
 .rename_i y q;rw[q] at e;show congrArg gm e
 rename_i q;rw[q] at e;let a:es.toList.any (·.refKey)=gB:=by rw[Lx];intro y d;let#[z,t,f]:=c y\Array.mem_toList_iff.mp d;simp[DictEntry.refKey,f]
 let g:¬es.toList.any (·.refKey)=gn:=by rw[a];show bL
 rw[Oi g];show congrArg gm e
def jZ.look{h:js}{x dx C:gL}{mA:Str->Option gE}(I:jZ h x dx C mA):∃od,W.InstAt h x (W.instObj C dx) C (gm od)/\∀name,W.lookIn name od*>mA name:=
 let ⟨od,b,c⟩:=Dg I.ns
 #[od,#[I.obj,5,b],c]
section
variable {prog:jl}{x dx C f:gL}{mA:Str->Option gE}{name:Str}{v:gE}
def Hr{expr:Bool}{Q:gE->hA->Prop}(X:K.In s.heap)(I:jZ s.heap x dx C mA)(b:W.plainGet K C name=gn)(c:W.hasDictIn K C=gn)
  (ha:W.findIn K (.r C) name*>gf) (d:mA name*>v) (e:W.handedIn v=gn) (h:Q v {s with toks:=s.toks+1}) :
  hB (i3 prog w) A (getAttr (.r x) name expr) Q E s:=by
 let#[od,J,f]:=I.look;show W.get_value X J (AX b).1 (W.findObj_own c ha rfl (by rw[f,d])) e h
def EV{pl:Sem Bool}{Q:gE×-gE->hA->Prop}(X:K.In s.heap)(I:jZ s.heap x dx C mA)(b:W.plainGet K C name=gn)
  (hf:W.findIn K (.r C) name*>gm\.r f) (c:W.isFn K (.r f)=gn) (d:mA name=gf) (h:Q (.r f,[.r x]) s) :
  hB (i3 prog w) A (getMethod (.r x) name pl) Q E s:=by
 let#[od,J,e]:=I.look;show W.method_fn X J (AX b).1 (AX b).2 hf (beq_iff_eq.mp c) (by change (W.lookIn name od).map (·.isSome)*>gB;rw[e,d];rfl) h
def FJ{ns:-Str}{Q:Unit->hA->Prop}(X:K.In s.heap)(I:jZ s.heap x dx C mA)
  (e:W.findIn K (.r C) "__setattr__"*>gm\.b ↑91) (f:W.plainOver K C=gn) (g:W.takerIn K C name*>gf) (i:W.hasDictIn K C=gn)
  (hw:PySem.Within mA ns) (hsz:↑ns<=hH)
  (h:∀h',jZ h' x dx C (λy=>if y=name then gm v else mA y)->Heap.SameBut dx s.heap h'->Q .unit {s with heap:=h',toks:=s.toks+2}) :
  hB (i3 prog w) A (setAttr (.r x) name v) Q E s:=by
 let#[od,J,q]:=I.look;show W.set_plain X J e (W.osa_open (s:={s with toks:=s.toks+1}) (r:=gf) X J f g λb=>?_);let#[cd,j,l]:=W.any_some i;let m:s.heap.get? x*>#[.r C,gm dx,.plain,(tA [])]:=I.obj;show aa\aw (aa\aa (wpAny_loadPart m\aa (N3 (s:={s with toks:=s.toks+1}) (W.looks_clsIn X j) ?_)));rw[l];show aw (a:=gm dx)\aa (aw\aa ?_);show wpAny_nsSet1 (s:={s with toks:=s.toks+1}) I.ns λh' c d=>?_;let#[u,z,B,n,o,p]:=c.count\N4 name v hw;show aa\wpAny_lookBehind n (by rw[o];show pastItsLine_dict\dw p (by rw[br];lia)) ?_;show aw\h _ #[(d.2 _\aO I.ne)<*I.obj,c,I.ne] d
def EL{R:Result->hA->Prop}{vs:-gE}{kw:-(Str×gE)}(X:K.In s.heap)(hm:W.makesIn K C=gn)
  (hi:W.findIn K (.r C) ↑97*>gm\.r f) (hf:W.typeIn K (.r f)*>.t "function")
  (h:mE (i3 prog w) (A.under\.b ↑41 #[.r C::vs,kw]) (.call (.r f) #[.r (↥s+1)::vs,kw]) (W.InitBack (↥s+1) R)
   {s with heap:=(s.heap.push W.emptyDict).push\W.instObj C ↥s}) :
  mE (i3 prog w) A (.call (.r C) #[vs,kw]) R s:=by
 let#[b,g,d,t,os]:=s;show W.make_core (W.makes_of X hm) (W.looks_findIn X hi) (λself=>W.bind_fn X self hf) (.l rfl) h
end
def eg(f:Str)(v:V):-(Str×V)->-(Str×V)
 | []=>[(f,v)]
 |(g,x)::r=>if g=f then (g,v)::r else (g,x)::eg f v r
def vS(f g:Str)(v:V):∀fs:-(Str×V),(eg f v fs).lookup g=if g=f then gm v else fs.lookup g
 | []=>by
  change List.lookup g [(f,v)]=_;by_cases h:g=f
  .let b:(g==f)=gn:=beq_iff_eq.mpr h;simp only[List.lookup,b,Oj h]
  let b:(g==f)=gB:=beq_eq_false_iff_ne.mpr h;simp only[List.lookup,b,Oi h]
 |(k,x)::r=>by
  let d:=vS f g v r;rw[show eg f v ((k,x)::r)=(if k=f then (k,v)::r else (k,x)::eg f v r) from rfl];by_cases c:k=f
  .rw[Oj c];by_cases h:g=k
   .let b:(g==k)=gn:=beq_iff_eq.mpr h;simp only[List.lookup,b,Oj\h.trans c]
   let b:(g==k)=gB:=beq_eq_false_iff_ne.mpr h;simp only[List.lookup,b,Oi λe:g=f=>h\e.trans c.symm]
  rw[Oi c];by_cases h:g=k
  .let b:(g==k)=gn:=beq_iff_eq.mpr h;simp only[List.lookup,b,Oi λe:g=f=>c\h.symm.trans e]
  let b:(g==k)=gB:=beq_eq_false_iff_ne.mpr h;simp only[List.lookup,b];show d
def sF(f:Str)(v:V):∀fs:-(Str×V),f∈(eg f v fs).map (·.1)/\∀g,g∈fs.map (·.1)->g∈(eg f v fs).map (·.1)
 | []=>#[by simp[eg],λg h=>by simp at h]
 |(k,x)::r=>by
  let#[c,d]:=sF f v r;rw[show eg f v ((k,x)::r)=(if k=f then (k,v)::r else (k,x)::eg f v r) from rfl];by_cases b:k=f
  .rw[Oj b];subst b;erw[∅,λg h=>‹h›]
  rw[Oi b];erw[?_,λg h=>?_]
  .rw[bj];show aC _ c
  rw[bj] at h |-;rcases ah.mp h with e|e
  .exact ah.mpr\.l e
  show aC _\d g e
def vT(f:Str)(v:V):∀fs:-(Str×V),↑(eg f v fs)<=↑fs+1
 | []=>by simp[eg]
 |(k,x)::r=>by
  let c:=vT f v r;rw[show eg f v ((k,x)::r)=(if k=f then (k,v)::r else (k,x)::eg f v r) from rfl];by_cases b:k=f
  .rw[Oj b,br,br];lia
  rw[Oi b,br,br];lia
def dC.some_of{v:V}{o:Option gE}(r:dC (gm v) o):∃u,o*>u/\aB v u:=by
 cases o with
 |none=>show (show False from r).elim
 |some u=>erw[u,1,r]
def dC.none_of{o:Option gE}(r:dC gf o):o=gf:=by
 cases o with
 |none=>rfl
 |some u=>show (show False from r).elim
def Dp{v:V}{u:gE}(r:aB v u):W.handedIn u=gn:=by
 cases v with
 |non=>cases (show u=Value.none from r);rfl
 |bl b=>cases (show u=Value.bool b from r);rfl
 |int i=>let#[t,e]:=(show ∃t,u=Value.int i t from r);cases e;rfl
 |str x=>let#[t,e]:=(show ∃t,u=Value.str x t from r);cases e;rfl
 |byt b=>let#[t,e]:=(show ∃t,u=Value.bytes b t from r);cases e;rfl
 |flt b=>let#[t,e]:=(show ∃t,u=Value.float b t from r);cases e;rfl
 |ref a=>cases (show u=Value.ref a from r);rfl
 |ty n=>cases (show u=Value.type n from r);rfl
section
variable {h h':js}{a C dx:gL}{fs fs':-(Str×V)}
def pV(hok:HOk P w H h)(e:H a*>.ins C dx fs):∃mA,jZ h a dx C mA/\(∀f,dC (fs.lookup f)\mA f)/\PySem.Within mA (fs.map (·.1))/\↑fs<=1000/\H dx*>.own a:=by let#[d,z,ne,ob,mA,n,r,q]:=(show bJ P w H h a (.ins C dx fs) from hok a _ e);erw[mA,#[ob,n,ne],r,q,z,d]
end
structure Cls(K:W.Frag)(C:gL):Prop where
 pg:W.plainGet K C Str.empty=gn
 hd:W.hasDictIn K C=gn
 po:W.plainOver K C=gn
 sa:W.findIn K (.r C) "__setattr__"*>gm\.b ↑91
def Cls.get{C:gL}(c:Cls K C)(f:Str):W.plainGet K C f=gn:=c.pg
def gK(K:W.Frag)(C:gL)(f:Str):Prop:=W.findIn K (.r C) f*>gf
def gK.taker{C:gL}{f:Str}(n:gK K C f):W.takerIn K C f*>gf:=by unfold W.takerIn;rw[show W.findIn K (.r C) f*>gf from n];rfl
structure Meth(K:W.Frag)(C:gL)(m:Str)(f:gL):Prop where
 at_:W.findIn K (.r C) m*>gm\.r f
 fn:W.isFn K (.r f)=gn
 kp:W.keepIn K (.r f)=gn
section
variable {a C dx:gL}{fs:-(Str×V)}{f:Str}{v:V}
def Cz{b:Bool}{Q:gE->hA->Prop}(I:!Inv H s)(e:H a*>.ins C dx fs)(c:Cls X.K C)(n:gK X.K C f)(l:fs.lookup f*>v)
  (h:∀u s',!Inv H s'->aB v u->Q u s'):hB ⇑X A (getAttr (.r a) f b) Q E s:=by
 let#[mA,O,r,8]:=pV I.hok e;let#[u,g,d]:=dC.some_of (v:=v) (o:=mA f) (by rw[<-l];show r f);show Hr I.kIn O (c.get f) c.hd n g (Dp d)\h u _ (I.tok _) d
def v9{m:Str}{g:gL}{pl:Sem Bool}{Q:gE×-gE->hA->Prop}(I:!Inv H s)(e:H a*>.ins C dx fs)(c:Cls X.K C)(k:Meth X.K C m g)(l:fs.lookup m=gf)
  (h:Q (.r g,[.r a]) s):hB ⇑X A (getMethod (.r a) m pl) Q E s:=by
 let#[mA,O,r,8]:=pV I.hok e;let b:mA m=gf:=dC.none_of (by rw[<-l];show r m);show EV I.kIn O (c.get m) k.at_ k.fn b h
def B9{y:V}{u:gE}{Q:Unit->hA->Prop}(I:!Inv H s)(e:H a*>.ins C dx fs)(c:Cls X.K C)(n:gK X.K C f)(v:↑fs<1000)(j:aB y u)
  (h:∀s',!Inv (upd H a\.ins C dx (eg f y fs)) s'->Q .unit s'):hB ⇑X A (setAttr (.r a) f u) Q E s:=by
 let#[mA,O,r,wi,_,i]:=pV I.hok e;let l:↑(fs.map (·.1))<=sizeLine:=by rw[av,dX];lia
 show FJ I.kIn O c.sa c.po n.taker c.hd wi l λh' d sb=>h _ ?_;let hd:∃o,h'.get? dx*>o:=let ⟨o,_,_,e',_⟩:=d.ns;#[o,e'];show I.write (x:=a) (e:=dx) (by rw[e];show True.intro) (.o i) (λb q m z=>(sb.2 b m)<*z) hd ?_;erw[by rw[aS O.ne];show i,?_,O.ne,d.obj,_,d.ns,λg=>?_,λg p=>?_]
 .have:=vT f y fs;lia
 .change dC ((eg f y fs).lookup g) (if g=f then gm u else mA g);rw[vS];by_cases q:g=f
  .rw[Oj q,Oj q];show j
  rw[Oi q,Oi q];show r g
 by_cases q:g=f
 .rw[q];show (sF f y fs).1
 show (sF f y fs).2 g (wi g λz=>p ?_);change (if g=f then gm u else mA g)=gf;rw[Oi q];show z
def Inv.made(I:!Inv H s):!Inv (upd (upd H ↥s\.own (↥s+1)) (↥s+1)\.ins C ↥s [])
  {s with heap:=(s.heap.push W.emptyDict).push\W.instObj C ↥s}:=by
 let c:(s.heap.push W.emptyDict).get? ↥s*>W.emptyDict:=bX s.heap rfl;let d:((s.heap.push W.emptyDict).push\W.instObj C ↥s).get? (↥s+1)*>W.instObj C ↥s:=by
  have:=bX (s.heap.push W.emptyDict) (o:=W.instObj C ↥s) rfl
  rwa [i_] at this
 let f:(s.heap.push W.emptyDict).Ns ↥s (λ_=>gf):=#[W.emptyDict,(tA []),_,c,1,(λe he=>absurd he ∅),λ_=>rfl];let g:=I.laid (a:=↥s) (o:=.own (↥s+1)) (h':=s.heap.push W.emptyDict) (t':=s.toks) (λb u q=>bh _ q) (au _) #[_,c];show g.laid (a:=↥s+1) (o:=.ins C ↥s []) (t':=s.toks) (λb u q=>bh _ q) (u4\i_ _ _) ?_;let ne:↥s≠↥s+1:=bz\gX _;erw[by rw[aS ne,aW],aV _,ne,d,λ_=>gf,(Heap.Ns1.of_empty f).at λo q=>bh _ q,λ_=>True.intro,λy h=>absurd rfl h]
def HQ{prog:jl}{env:Env}{e:kA}{f:Str}{pos:Pos}{Q:gE->hA->Prop}(b:rz e f env (m3 e env)=m3 e env)
  (h:hB (i3 prog w) A (m3 e env) (λo s₁=>hB (i3 prog w) A (getAttr o f gn) Q E s₁) E s):hB (i3 prog w) A (m3 (.Attribute e f pos) env) Q E s:=
 Attribute_any_ h (by rw[arm_eval_Attribute,b])
end
def uD(K:W.Frag)(ta:TE)(f:Str):TE:=λZ H Q=>ta Z H λx H1=>∃a C dx fs v,x=.r a/\H1 a*>.ins C dx fs/\Cls K C/\gK K C f/\fs.lookup f*>v/\Q v H1
def sFld(K:W.Frag)(ta tv:TE)(f:Str):TS:=λD Z H=>tv Z H λy H1=>ta Z H1 λx H2=>∃a C dx fs,x=.r a/\H2 a*>.ins C dx fs/\Cls K C/\gK K C f/\↑fs<1000/\
 D.nx Z (upd H2 a\.ins C dx (eg f y fs))
section
variable {o e value:kA}{f:Str}{pos pos' tpos:Pos}{ta tv:TE}
def gI(he:PE X e ta)(b:rz e f X.env (m3 e X.env)=m3 e X.env):PE X (.Attribute e f pos) (uD X.K ta f):=by lk;intro Q I h;show HQ b (thn (he Oo s Z H _ I h) λu s1 d=>?_);let#[x,H1,g,i,a,C,dx,fs,v,ex,j,c,n,l,q]:=d;subst ex;obtain rfl:u=Value.ref a:=i;show Cz g j c n l λp s2 m o=>#[v,H1,m,o,q]
def qq(ha:PE X o ta)(d:PE X value tv)(e:swapsWith value (gm\.Attribute o f pos') pos.line X.env=pure gB):PS X (.Assign [.Attribute o f pos'] value pos) (sFld X.K ta tv f):=by lk;intro D I h;show plainObj_wpAny_Assign_Attribute (thn (d Oo s Z H _ I h) λu s1 b=>?_) e;let#[y,H1,g,i,q]:=b;show thn (ha Oo s1 Z H1 _ g q) λj s2 b=>?_;let#[x,H2,m,p,a,C,dx,fs,ex,r,c,n,l,v]:=b;subst ex;obtain rfl:j=Value.ref a:=p;show B9 m r c n l i λz w=>#[Z,_,w,v]
end
section
variable {Q:gE->hA->Prop}{c:gE}{b:Bool}
inductive fq (K:W.Frag) (H:Hp):V->gE->Prop where
 |non:fq K H .non\.type "NoneType"
 |bl (x:Bool):fq K H (.bl x)\.type "bool"
 |int (i:Int):fq K H (.int i)\.type "int"
 |str (x:Str):fq K H (.str x)\.type "str"
 |flt (x:UInt64):fq K H (.flt x)\.type "float"
 |lst {a:gL} {xs:-V} (e:H a*>.lst xs):fq K H (.ref a)\.type ↑15
 |frz {a:gL} {o:Obj} {xs:-V} (e:H a*>.frz o\.lst xs):fq K H (.ref a)\.type ↑15
 |tup {a:gL} {xs:-V} (e:H a*>.tup xs):fq K H (.ref a)\.type ↑23
 |dK {a:gL} {kvs:-(Key×V)} (e:H a*>.dK kvs):fq K H (.ref a)\.type ↑93
 |dT {a:gL} {kvs:-(-Key×V)} (e:H a*>.dT kvs):fq K H (.ref a)\.type ↑93
 |ins {a C dx:gL} {fs:-(Str×V)} (e:H a*>.ins C dx fs) (cl:Cls K C) (ha:W.findIn K (.ref C) "__class__"*>gm\.builtin "object.__class__")
   (hn:W.specialIn K (.b "object.__class__") "__get__"*>gm\.b "getset_descriptor.__get__") (htk:W.takesIn K (.b "object.__class__")*>gn)
   (hm:W.mroIn K C (.t "object")*>gn):fq K H (.r a)\.r C
def Dl{x:V}{u t:gE}(I:!Inv H s)(d:aB x u)(ty:fq X.K H x t)(e:W.kitOne X.K t c*>b)(h:∀tk,Q (.x b) {s with toks:=tk}) :
  hB ⇑X A (call (.b "isinstance") [u,c]) Q E s:=by
 cases ty with
 |non=>cases (show u=Value.none from d);show gZ W.kitx_none I.kIn True.intro e (λz=>nomatch z) h
 |bl y=>cases (show u=Value.bool y from d);show gZ W.kitx_bool I.kIn True.intro e (λz=>nomatch z) h
 |int i=>let#[t,q]:=(show ∃t,u=Value.int i t from d);cases q;show gZ W.kitx_int I.kIn True.intro e (λz=>nomatch z) h
 |str y=>let#[t,q]:=(show ∃t,u=Value.str y t from d);cases q;show gZ W.kitx_str I.kIn True.intro e (λz=>nomatch z) h
 |flt y=>let#[t,q]:=(show ∃t,u=Value.float y t from d);cases q;show gZ W.kitx_float I.kIn True.intro e (λz=>nomatch z) h
 | @lst a xs f=>
  cases (show u=Value.ref a from d);let#[0,n,_,h1]:=(show bJ X.prog X.w H s.heap a (.a xs) from I.hok a _ f);show gZ MJ I.kIn #[_,h1,1] e (λz=>nomatch z) h
 | @frz a ob xs f=>
  cases (show u=Value.ref a from d);let#[8,n,_,h1]:=(show bJ X.prog X.w H s.heap a (.z ob\.a xs) from I.hok a _ f);show gZ MJ I.kIn #[_,h1,1] e (λz=>nomatch z) h
 | @tup a xs f=>
  cases (show u=Value.ref a from d);let#[8,p]:=(show bJ X.prog X.w H s.heap a (.u xs) from I.hok a _ f);let#[o,h1,h2,_]:=p;show gZ W.kitx_tuple I.kIn #[o,h1,h2] e (λz=>nomatch z) h
 | @dK a kvs f=>
  cases (show u=Value.ref a from d);let#[0,vs,_,p]:=(show bJ X.prog X.w H s.heap a (.k kvs) from I.hok a _ f);let#[o,es,ep,h1,h2,_]:=p;show gZ MH I.kIn #[o,h1,h2.1] e (λz=>nomatch z) h
 | @dT a kvs f=>
  cases (show u=Value.ref a from d);let#[0,xs,_,o,es,ep,h1,h2,_]:=(show bJ X.prog X.w H s.heap a (.dT kvs) from I.hok a _ f);show gZ MH I.kIn #[o,h1,h2.1] e (λz=>nomatch z) h
 | @ins a C dx fs f cl ha g j hm=>
  cases (show u=Value.ref a from d);let#[mA,O,_]:=pV I.hok f;let#[od,J,_]:=O.look;show gZ (W.kitx_own (cl.get _) cl.hd ha g j hm) I.kIn J e (λz=>nomatch z) h
end
end L2
namespace L2
open PySem PySem.Spec PyProof.Rows
structure Room(k:Nat)(A:ru):Prop where
 hd:A.handled=gf
 dp:A.depth+3*k+5<recursionLimit
 un:A.units+16*k+200<n7
 gu:A.guards*>[]
def Room.mono{j k:Nat}(r:Room k A)(h:j<=k):Room j A:=#[r.hd,by have:=r.dp;lia,by have:=r.un;lia,r.gu]
def Room.deeper{k:Nat}(r:Room (k+1) A)(env:Env):Room k (A.deeper env):=
 #[r.hd,by have:=r.dp;change A.depth+1+3*k+5<_;lia,by have:=r.un;change A.units+3+16*k+200<_;lia,r.gu]
def Cu{C:gL}{kw:-(Str×gE)}:(A.under\.b ↑41 #[.r C::us,kw]).depth=A.depth+1:=by first|rfl|simp[Around.under,Code.weight,Code.isCreation,Code.isGuard,Code.isCaller,Code.frames,Code.isFrame,guardIds]
def Ct{C:gL}{kw:-(Str×gE)}:(A.under\.b ↑41 #[.r C::us,kw]).units=A.units+1:=by first|rfl|simp[Around.under,Code.cUnits,Code.frames,Code.isFrame]
def BS{C:gL}{kw:-(Str×gE)}(h:A.guards*>[]):(A.under\.b ↑41 #[.r C::us,kw]).guards*>[]:=by first|exact h|simp[Around.under,Code.isGuard,guardIds,h]
def Room.make{k:Nat}(r:Room (k+1) A)(C:gL)(us:-gE)(kw:-(Str×gE)):Room k (A.under\.b ↑41 #[.r C::us,kw]):=
 #[r.hd,by have:=r.dp;rw[Cu];lia,by have:=r.un;rw[Ct];lia,BS r.gu]
def Room.depth{k:Nat}(r:Room k A):A.depth<recursionLimit:=by have:=r.dp;lia
def Room.units{k:Nat}(r:Room k A):A.units+64<cLine:=by have:=r.un;lia
def fk:TA:=λ_ H Q=>Q [] H
def Iq(x:V)(Q:-V->Hp->Prop):-V->Hp->Prop:=λxs H2=>Q (x::xs) H2
def Ir(tr:TA)(Z:St)(Q:-V->Hp->Prop):VK:=λx H1=>tr Z H1\Iq x Q
def dU(ta:TE)(tr:TA):TA:=λZ H Q=>ta Z H\Ir tr Z Q
section
variable {e:kA}{es:-kA}{te:TE}{t:TA}{pos:Pos}
def dP:PA X [] fk:=λ_ _ _ _ H Q I h=>uN #[[],H,I,.nil,h]
def ae(ha:PE X e te)(b:PA X es t)(c:hM (e::es) X.env=(gB,m3 e X.env)::hM es X.env:=by rfl):PA X (e::es) (dU te t):=by intro pos Oo s Z H Q I h;rw[c];change hB _ _ (spliced ((gB,m3 e X.env)::mu pos\hM es X.env)) _ _ s;show lN (thn (ha Oo s Z H _ I h) λu s1 d=>?_);let#[x,H1,f,g,i]:=d;show thn (b pos Oo s1 Z H1 _ f i) λus s2 ⟨xs,H2,j,l,m⟩=>#[x::xs,H2,j,.c g l,m]
def pa1{e:kA}{te:TE}(ha:PE X e te)(b:hM [e] X.env=(gB,m3 e X.env)::hM [] X.env:=by rfl):PA X [e] (dU te fk):=ae ha dP b
def J4(Q:VK):-V->Hp->Prop:=λxs H1=>↑xs<=hH/\fP H1 (.u xs) Q
def qQ(t:TA):TE:=λZ H Q=>t Z H\J4 Q
def J9(Q:VK):-V->Hp->Prop:=λxs H1=>↑xs<=hH/\fP H1 (.a xs) Q
def tLst(t:TA):TE:=λZ H Q=>t Z H\J9 Q
def aT{d}(h:PA X es t):PE X (.Tuple es d pos) (qQ t):=by lk;intro Q I f;show wpAny_Tuple_spliced (thn (h pos Oo s Z H _ I f) λus s1 ⟨xs,H1,c,r,z,q⟩=>#[by rw[<-↑r];show z,?_]);let hf:H1 ↥s1=gf:=c.hok.fresh\au _;erw[.r ↥s1,upd H1 ↥s1\.u xs,c.laid (t':=s1.toks) (λb u e=>bh _ e) (au _) ?_,1,q.at hf];erw[#[z,_,bX _ rfl,1],us,r,#[_,bX _ rfl,7]]
def cz(h:PA X es t):PE X (.List es pos) (tLst t):=by lk;intro Q I d;show wpAny_List_spliced (thn (h pos Oo s Z H _ I d) λus s1 ⟨xs,H1,c,r,z,q⟩=>#[by rw[<-↑r];show z,?_]);let hf:H1 ↥s1=gf:=c.hok.fresh\au _;erw[.r ↥s1,upd H1 ↥s1\.a xs,c.laid (t':=s1.toks) (λb u e=>bh _ e) (au _) ?_,1,q.at hf];erw[z,us,(0),r,bX _ rfl]
end
abbrev Sp:=-V->Hp->VK->XK->Prop
abbrev CXT:=-Env->Hp->hA->XK->gE->hA->Prop
structure j3(P:jl)(w:lp)(K:W.Frag)(mg:Str->Option gE)(base:js)(A:ru)(outer:-Env)(s:hA)(H:Hp):Prop where
 frames:A.frames*>outer
 mod:Mod K mg base
 bs:∀b o,base.get? b*>o->s.heap.get? b*>o/\H b=gf
 bsz:base.objs.size<=↥s
 funs:s.heap.FunFrames base outer
 frf:∀b∈frs outer,H b=gf
 hok:HOk P w H s.heap
 bare:AllBare s.gens
def CE(outer:-Env)(P:jl)(w:lp)(H:Hp)(s:hA)(Q:VK)(u:gE)(s':hA):Prop:=
 ∃v H',s'.os=s.os/\AllBare s'.gens/\Un (frs outer) [] H H' s.heap s'.heap/\HOk P w H' s'.heap/\aB v u/\Q v H'
def CR(CX:CXT)(outer:-Env)(P:jl)(w:lp)(H:Hp)(s:hA)(Q:VK)(E:XK)(r:Result)(s':hA):Prop:=
 match r with
 |.ok (.ret u)=>CE outer P w H s Q u s'
 |.ok _=>False
 |.error e=>CX outer H s E e s'
structure aA(P:jl)(w:lp)(K:W.Frag)(mg:Str->Option gE)(base:js)(CX:CXT)(k:Nat)(f:gL)(fd:i4)(ps:-Str)(sp:Sp):Prop where
 len:∀vs H Q E,sp vs H Q E->↑vs=↑ps
 run:∀(A:ru)(outer:-Env)(s:hA)(H:Hp)(args:Args)(us:-gE)(vs:-V)(Q:VK)(E:XK),Room k A->!j3 A outer s H->BindsTo s fd args (ps.zip us)->Vals vs us->sp vs H Q E->
  mE (i3 P w) A (.call (.r f) args) (CR CX outer P w H s Q E) s
def aA.mono{CX:CXT}{j k:Nat}{f:gL}{ps:-Str}{sp:Sp}(F:!aA CX j f fd ps sp)(h:j<=k) :
  !aA CX k f fd ps sp:=#[F.len,λA outer s H args us vs Q E b=>F.run A outer s H args us vs Q E\b.mono h]
def aA.imp{CX:CXT}{k:Nat}{f:gL}{ps:-Str}{sp b:Sp}(F:!aA CX k f fd ps sp)
  (h:∀vs H Q E,b vs H Q E->sp vs H Q E):!aA CX k f fd ps b:=
 #[λvs H Q E q=>F.len vs H Q E\h _ _ _ _ q,λA outer s H args us vs Q E c he d e g=>F.run A outer s H args us vs Q E c he d e\h _ _ _ _ g]
def j3.make{outer:-Env}(e:!j3 A outer s H)(C:gL)(us:-gE)(kw:-(Str×gE)) :
  !j3 (A.under\.b ↑41 #[.r C::us,kw]) outer s H:=#[by first|show e.frames|(simpa [Around.under,Code.envs,Code.isFrame,pushEnvs] using e.frames),e.mod,e.bs,e.bsz,e.funs,e.frf,e.hok,e.bare]
section
variable {s s':hA}
def Inv.env0(I:!Inv H s):j3 X.prog X.w X.K X.mg X.base X.A X.stack s H:=
 #[I.ok.frames,I.ok.mod,I.bs,dw I.ok.bsz I.sz,I.stack,I.stkFree,I.hok,I.bare]
def Inv.after{Q:VK}{u:gE}(I:!Inv H s)(h:CE X.stack X.prog X.w H s Q u s'):EP X Oo Z Q u s':=by let#[v,H',os,bare,un,hok,r,q]:=h;let#[c,g,d,t,e]:=s';obtain rfl:e=s.os:=os;erw[v,H',I.call (h':=c) (g':=g) (d':=d) (t':=t) (ch:=[]) un hok bare λb z=>absurd z ∅,r,q]
end
def Iv(sp:Sp)(dvs:-V)(E:XK)(Q:VK):-V->Hp->Prop:=λvs H1=>sp (vs++dvs) H1 Q E
def zP(sp:Sp)(dvs:-V)(E:XK)(t:TA):TE:=λZ H Q=>t Z H\Iv sp dvs E Q
def zO(C:gL)(m:Str)(sp:Sp)(dvs:-V)(E:XK)(ta:TE)(t:TA):TE:=λZ H Q=>ta Z H λx H1=>∃a dx fs,x=.r a/\H1 a*>.ins C dx fs/\fs.lookup m=gf/\
 t Z H1 λvs H2=>sp (x::(vs++dvs)) H2 Q E
def J8(C:gL)(sp:Sp)(dvs:-V)(E:XK)(t:TA):TE:=λZ H Q=>t Z H λvs H1=>∀x dx,H1 x=gf->H1 dx=gf->dx≠x->
 sp (.r x::(vs++dvs)) (upd (upd H1 dx\.own x) x\.ins C dx []) (λv H2=>v=.non/\Q (.r x) H2) E
def Binds(K:W.Frag)(fd:i4)(ps:-Str)(ds:-gE):Prop:=
 ∀(s:hA)(us:-gE),K.In s.heap->↑(us++ds)=↑ps->BindsTo s fd #[us,[]]\ps.zip (us++ds)
def Binds.all{ps:-Str}(h:∀us:-gE,↑us=↑ps->bindArgs fd #[us,[]]=pure\ps.zip us):Binds K fd ps []:=λs us _ b=>by
 rw[fQ] at b |-;show .of_eq\h us b
def Passes(CX:CXT)(X:Cx)(E:XK):Prop:=∀(Oo:-(gL×Obj))(Z:St)(H:Hp)(s:hA)(e:gE)(s':hA),!Inv H s->CX X.stack H s E e s'->X.xe e s'
section
variable {CX:CXT}{k:Nat}{f C:gL}{ps:-Str}{sp:Sp}{dvs:-V}{ds:-gE}{E:XK}{x m:Str}{p pos apos:Pos}{e o:kA}{es:-kA}{ta:TE}{t:TA}
def uf{Q:VK}(F:aA X.prog X.w X.K X.mg X.base CX k f fd ps sp)(d:Room k X.A)(g:Binds X.K fd ps ds)(hd:Vals dvs ds)(i:Passes CX X E)
  (I:!Inv H s) (r:Vals vs us) (h:sp (vs++dvs) H Q E):hB ⇑X X.A (call (.r f) us) (EP X Oo Z Q) X.xe s:=by
 let c:Vals (vs++dvs) (us++ds):=r.append hd;let j:↑(us++ds)=↑ps:=by rw[<-↑c];show F.len _ _ _ _ h
 show wpAny_call (vq (F.run X.A X.stack s H #[us,[]] (us++ds) (vs++dvs) Q E d I.env0 (g s us I.kIn j) c h) λr s' b=>?_);cases r with
 |error e=>show i Oo Z H s e s' I b
 |ok fl=>
  cases fl with
  |ret u=>show I.after b
  |next=>show False.elim b
  |brk=>show False.elim b
  |cont=>show False.elim b
def yt(F:aA X.prog X.w X.K X.mg X.base CX k f fd ps sp)(c:Room k X.A)(d:Gl X x)(hm:X.mg x*>.r f)(g:W.keepIn X.K (.r f)=gn)(i:Binds X.K fd ps ds)(hd:Vals dvs ds)(j:Passes CX X E)
  (ha:PA X (e::es) t) (l:(x==(↑34 : Str))=gB:=by decide) (he:hM (e::es) X.env=(gB,m3 e X.env)::hM es X.env:=by rfl) (m:(mu pos\hM es X.env).any (·.1)=gB:=by rfl) :
  PE X (.Call (.n x p) (e::es) [] pos) (zP sp dvs E t):=by
 lk;intro Q I h;show oh\tS I d hm ?_ l;show AW (h₀:=X.base) I.ok.mod.kin g (thn (ha pos Oo s Z H _ I h) λus s1 ⟨vs,H1,b,r,q⟩=>#[b.kIn,?_]) he m;show uf F c i hd j b r q
def tQ{pl:Sem Bool}(he:PE X o ta)(c:Cls X.K C)(hm:Meth X.K C m f)(F:aA X.prog X.w X.K X.mg X.base CX k f fd ps sp)(hr:Room k X.A)(hb:Binds X.K fd ps ds)(hd:Vals dvs ds)(hx:Passes CX X E)(ha:PA X (e::es) t)
  (hst:hM (e::es) X.env=(gB,m3 e X.env)::hM es X.env:=by rfl) (hpl:(mu pos\hM es X.env).any (·.1)=gB:=by rfl)
  (ht:m3 (.Call (.Attribute o m apos) (e::es) [] pos) X.env=(do
   let ov <-m3 o X.env
   standAt apos.atName
   let (f,first) <-holding [ov] (getMethod ov m pl)
   callWith pos f first (mu pos\hM (e::es) X.env) (backToKw pos\keywordEach [] X.env)):=by rfl) :
  PE X (.Call (.Attribute o m apos) (e::es) [] pos) (zO C m sp dvs E ta t):=by
 lk;intro Q I h;show MK (pl:=pl) (thn (he Oo s Z H _ I h) λu s1 hZQ=>?_) ht;let#[x,H1,I1,rx,a,dx,fs,ex,ea,l,q]:=hZQ;subst ex;obtain rfl:u=Value.ref a:=rx;show v9 I1 ea c hm l ?_;show AW (first:=[.r a]) (h₀:=X.base) I.ok.mod.kin hm.kp (thn (ha pos Oo s1 Z H1 _ I1 q) λus s2 ⟨vs,H2,I2,r,q2⟩=>#[I2.kIn,?_]) hst hpl;show uf (us:=.r a::us) (vs:=.r a::vs) F hr hb hd hx I2 (.c rfl r) q2
def mz{pl:Sem Bool}(he:PE X o ta)(c:Cls X.K C)(hm:Meth X.K C m f)(F:aA X.prog X.w X.K X.mg X.base CX k f fd ps sp)(hr:Room k X.A)(hb:Binds X.K fd ps ds)(hd:Vals dvs ds)(hx:Passes CX X E)
  (ht:m3 (.Call (.Attribute o m apos) [] [] pos) X.env=(do
   let ov <-m3 o X.env
   standAt apos.atName
   let (f,first) <-holding [ov] (getMethod ov m pl)
   callWith pos f first (mu pos\hM [] X.env) (backToKw pos\keywordEach [] X.env)):=by rfl) :
  PE X (.Call (.Attribute o m apos) [] [] pos) (zO C m sp dvs E ta fk):=by
 lk;intro Q I h;show MK (pl:=pl) (thn (he Oo s Z H _ I h) λu s1 hZQ=>?_) ht;let#[x,H1,I1,rx,a,dx,fs,ex,ea,l,q]:=hZQ;subst ex;obtain rfl:u=Value.ref a:=rx;show v9 I1 ea c hm l ?_;show W.callWith_K0 (first:=[.r a]) I1.kIn hm.kp\uf (us:=[.r a]) (vs:=[.r a]) F hr hb hd hx I1 (.c rfl .nil) q
structure Mk(K:W.Frag)(C f:gL):Prop where
 makes:W.makesIn K C=gn
 init:W.findIn K (.r C) ↑97*>gm\.r f
 fn:W.isFn K (.r f)=gn
 kp:W.keepIn K (.r C)=gn
def D8{Q:VK}(M:Mk X.K C f)(F:aA X.prog X.w X.K X.mg X.base CX k f fd ps sp)(i:Room (k+1) X.A)(j:Binds X.K fd ps ds)(hd:Vals dvs ds)
  (l:Passes CX X E) (I:!Inv H s) (r:Vals vs us)
  (h:∀x dx,H x=gf->H dx=gf->dx≠x->sp (.r x::(vs++dvs)) (upd (upd H dx\.own x) x\.ins C dx []) (λv H2=>v=.non/\Q (.r x) H2) E) :
  hB ⇑X X.A (call (.r C) us) (EP X Oo Z Q) X.xe s:=by
 let#[d,c,g]:=#[h (↥s+1) ↥s (I.hok.fresh\nX _) (I.hok.fresh\au _)\bz (gX _),Inv.made (C:=C) I,(.c rfl\r.append hd:Vals (V.ref (↥s+1)::(vs++dvs)) (Value.ref (↥s+1)::(us++ds)))];let m:↑(Value.ref (↥s+1)::us++ds)=↑ps:=by let e:=↑g;rw[F.len _ _ _ _ d] at e;show e.symm
 show wpAny_call\EL (f:=f) I.kIn M.makes M.init (beq_iff_eq.mp M.fn) (vq (F.run _ X.stack _ _ #[Value.ref (↥s+1)::us,[]] (Value.ref (↥s+1)::(us++ds)) _ _ E (i.make C us [])
  (c.env0.make C us []) (j _ (Value.ref (↥s+1)::us) c.kIn m) g d) λr s' b=>?_)
 cases r with
 |error e=>show l Oo Z _ _ e s' c b
 |ok fl=>
  cases fl with
  |ret u=>
   let#[v,H',n,o,ev,p]:=c.after b;subst ev;erw[o,#[V.ref (↥s+1),H',n,1,p]]
  |next=>show False.elim b
  |brk=>show False.elim b
  |cont=>show False.elim b
def iO(M:Mk X.K C f)(F:aA X.prog X.w X.K X.mg X.base CX k f fd ps sp)(c:Room (k+1) X.A)(d:Gl X x)(hm:X.mg x*>.r C)(g:Binds X.K fd ps ds)(hd:Vals dvs ds)(i:Passes CX X E)
  (ha:PA X (e::es) t) (j:(x==(↑34 : Str))=gB:=by decide) (he:hM (e::es) X.env=(gB,m3 e X.env)::hM es X.env:=by rfl) (l:(mu pos\hM es X.env).any (·.1)=gB:=by rfl) :
  PE X (.Call (.n x p) (e::es) [] pos) (J8 C sp dvs E t):=by
 lk;intro Q I h;show oh\tS I d hm ?_ j;show AW (h₀:=X.base) I.ok.mod.kin M.kp (thn (ha pos Oo s Z H _ I h) λus s1 ⟨vs,H1,b,r,q⟩=>#[b.kIn,?_]) he l;show D8 M F c g hd i b r q
end
section
variable {CX:CXT}{k:Nat}{f C:gL}{ps ks:-Str}{sp:Sp}{E:XK}{x m:Str}{p pos apos kpos:Pos}{e o:kA}{es:-kA}{kws:-Keyword}{te ta:TE}{t tk:TA}{nm:Option Str}
variable {g:-gE->-gE->-gE}{gV:-V->-V->-V}
end
structure aR(N P:-Str)(sc:Scope):Prop where
 kind:sc.kind=.function
 co:sc.isCoroutine=gB
 gen:sc.isGenerator=gB
 nd:N.Nodup
 pre:N.take ↑P=P
 par:∀x∈P,sc.names.lookup x*>.local\/sc.names.lookup x*>.cell
 nofree:∀y∈sc.names,y.2≠.free
def wN{kindOf:Str->Option NameKind}{x:Str}:∀{binds:-(Str×gE)}{m:Str->Option gE},(∀v,(x,v)∉binds)->bindL kindOf binds m x=m x
 | [],_,_=>rfl
 |(n,v)::r,m,h=>by
  unfold bindL;rw[wN λw hw=>h w\aC _ hw]
  split
  .have:x≠n:=by rintro rfl;show h v aL
   simp[this]
  rfl
def wQ{kindOf:Str->Option NameKind}{x:Str}:∀{binds:-(Str×gE)}{m:Str->Option gE},(∀v,(x,v)∉binds)->bindC kindOf binds m x=m x
 | [],_,_=>rfl
 |(n,v)::r,m,h=>by
  unfold bindC;rw[wQ λw hw=>h w\aC _ hw]
  split
  .rfl
  have:x≠n:=by rintro rfl;show h v aL
  simp[this]
def wO{kindOf:Str->Option NameKind}{x:Str}{v:gE}:∀{P:-Str}{vs:-gE}{i:Nat}{m:Str->Option gE},P.Nodup->P[i]?*>x->vs[i]?*>v->kindOf x*>.local->
  bindL kindOf (P.zip vs) m x*>v
 | [],_,_,_,_,h,_,_=>by simp at h
 |_::_,[],_,_,_,_,h,_=>by simp at h
 |p::P,w::vs,0,m,nd,h1,h2,b=>by
  simp at h1 h2;subst h1;subst h2;change bindL kindOf ((p,w)::P.zip vs) m p=_;unfold bindL;rw[wN λv c=>(bF.mp nd).1 (AD c).1,Oj b];simp
 |p::P,w::vs,i+1,m,nd,h1,h2,b=>by
  change bindL kindOf ((p,w)::P.zip vs) m x=_;unfold bindL;show wO (i:=i) (bF.mp nd).2 ‹h1› ‹h2› b
def wR{kindOf:Str->Option NameKind}{x:Str}{v:gE}:∀{P:-Str}{vs:-gE}{i:Nat}{m:Str->Option gE},P.Nodup->P[i]?*>x->vs[i]?*>v->kindOf x≠gm .local->
  bindC kindOf (P.zip vs) m x*>v
 | [],_,_,_,_,h,_,_=>by simp at h
 |_::_,[],_,_,_,_,h,_=>by simp at h
 |p::P,w::vs,0,m,nd,h1,h2,b=>by
  simp at h1 h2;subst h1;subst h2;change bindC kindOf ((p,w)::P.zip vs) m p=_;unfold bindC;rw[wQ λv c=>(bF.mp nd).1 (AD c).1,Oi b];simp
 |p::P,w::vs,i+1,m,nd,h1,h2,b=>by
  change bindC kindOf ((p,w)::P.zip vs) m x=_;unfold bindC;show wR (i:=i) (bF.mp nd).2 ‹h1› ‹h2› b
def start(N:-Str)(vs:-V):St:=vs.map gm++List.replicate (↑N-↑vs) gf
def lH(CX:CXT)(P:jl)(w:lp)(K:W.Frag)(mg:Str->Option gE)(base:js)(N:-Str)(qual:Str)(scope:Scope)(f:gL)(cd:gE)(A:ru)(outer:-Env)(s:hA)(H:Hp)(E:XK):Cx where
 prog:=P
 w:=w
 K:=K
 mg:=mg
 base:=base
 A:=A.deeper\envOfC qual scope ↥s f cd
 N:=N
 s₀:=s
 H₀:=H
 env:=envOfC qual scope ↥s f cd
 outer:=outer
 stack:=envOfC qual scope ↥s f cd::outer
 ex:=[]
 calm:=gn
 fn:=λ_=>gn
 pn:=[]
 xe:=λe s'=>hB (i3 P w) (A.deeper\envOfC qual scope ↥s f cd) (leaving (envOfC qual scope ↥s f cd) e) (λ_ b=>CX outer H s E e b) (λe' b=>CX outer H s E e' b) s'
def xI{sc:Scope}{n:Nat}{x:Str}(h:sc.names.lookup x*>.cell):∃c,(cellsFrom n sc.names []).lookup x*>c:=by let q:=MG sc.names n []\.l h;show AO.mp q
def Dm{CX:CXT}{N ps:-Str}{qual:Str}{f:gL}{cd:gE}{outer:-Env}{s s1:hA}{E:XK}
  (S:aR N ps scope) (hd:A.handled=gf) (d:!j3 A outer s H) (D:↑vs=↑ps) (r:Vals vs us)
  (x:InCallC s ↥s (bindL (envOfC qual scope ↥s f cd).kindOf (ps.zip us) λ_=>gf) (cellsFrom (↥s+1) scope.names []) (bindC (envOfC qual scope ↥s f cd).kindOf (ps.zip us) λ_=>gf) s1) :
  Inv (lH CX P w K mg base N qual scope f cd A outer s H E) [] (start N vs) H s1:=by
 let I:↑ps<=↑N:=by have:=congrArg List.length S.pre;rw[aZ] at this;lia
 let#[h1,tk,1,m]:=x.done;let l:∀b:gL,b∉(lH CX P w K mg base N qual scope f cd A outer s H E).ex:=λb z=>absurd (show b∈([]:-gL) from z) ∅;erw[#[d.mod,S.kind,5,au _,λy z c h1 h2=>?_,λy g=>?_,λy c _ h=>?_,λ_=>hd,Around.frames_deeper d.frames,.o #[5],λb z=>absurd z\l b,d.bs,d.bsz,λb _ _=>l b,λb z=>absurd z\l b,d.funs,d.frf],
  1,d.bare,Un.kept m,#[_,x.toInCall.ns,λi y v h1 h2 L=>?_],λy c h=>#[_,x.cell y c h],d.hok.fresh\au _,λy c h=>?_,λp j=>absurd (show p∈([]:-(gL×Obj)) from j) ∅,d.hok.kept m,?_]
 .exact name_of_addr x.apart (n_ h1)\n_ h2
 .let g:scope.names.lookup y*>.cell\/scope.names.lookup y*>.free:=g;rcases g with g|g
  .exact xI g
  show absurd rfl\S.nofree _ (n_ g)
 .exact nW\x.above y c (n_ h)
 .let hi:i<↑vs:=by
   unfold start at h2;by_cases hi:i<↑vs
   .exact hi
   rw[fB ‹hi›] at h2;rw[List.getElem?_replicate] at h2
   split at h2<;>cases h2
  let ha:vs[i]?*>v:=by
   unfold start at h2;rw[bY ‹hi›,aU] at h2;cases e:vs[i]? with
   |none=>rw[e] at h2;cases h2
   |some a=>rw[e] at h2;cases h2;rfl
  let#[u,o,C]:=r.get ha;let j:ps[i]?*>y:=by rw[<-S.pre,gR ()];show h1
  let B:ps.Nodup:=by rw[<-S.pre];show S.nd.sublist\LY _ _
  erw[u,C,?_];rcases S.par y (aJ j) with k|k
  .exact .l #[k,wO B j o k]
  let#[c,e]:=xI (n:=↥s+1) k;show .o #[.l k,c,e,?_];let q:=x.cell y c e;rw[wR B j o (by change scope.names.lookup y≠_;rw[k];decide)] at q;show q
 .exact d.hok.fresh\nW (x.above y c\n_ h)
 unfold start;change _=↑N;rw[aE,av,List.length_replicate];lia
def K_{CX:CXT}{k:Nat}{f:gL}{name qual:Str}{params:Arguments}{body:-lj}{j kV doc pm c ct p:gE}{an od:Option gL}
  {z:Array\Option gE} {N ps:-Str} {sp:Sp} (lk:K.lookup f*>#[p,od,.func\W.fnOf name qual params body scope j kV doc pm an c ct,z]) (B:W.codeIn K c qual=gn) (S:aR N ps scope)
  (len:∀vs H Q E,sp vs H Q E->↑vs=↑ps)
  (C:∀(A:ru)(outer:-Env)(s:hA)(H:Hp)(vs:-V)(Q:VK)(E:XK),Room k (A.deeper\envOfC qual scope ↥s f c)->sp vs H Q E->
   ∃t,PSs (lH CX P w K mg base N qual scope f c A outer s H E) body t/\t {nx:=λ_ H'=>Q .non H',rt:=Q} (start N vs) H) :
  !aA CX (k+1) f (W.fnOf name qual params body scope j kV doc pm an c ct) ps sp:=by
 erw[len,λA outer s H args us vs Q E h g D r l=>?_];let#[L,m,lim]:=#[len _ _ _ _ l,(g.mod.kin.keeps λb o e=>(g.bs b o e).1:K.In s.heap),(g.mod.nolimit.keeps λb o e=>(g.bs b o e).1:s.heap.NoLimit)];let M:∀y∈ps.zip us,scope.names.lookup y.1*>.local\/(scope.names.lookup y.1*>.cell/\((cellsFrom (↥s+1) scope.names []).lookup y.1).isSome=gn):=λ⟨n,v⟩ O=>by
  rcases S.par n (AD O).1 with q|q
  .exact .l q
  show .o #[q,MG _ _ _\.l q]
 show codeAny_call_function h.depth (m>>lk) rfl S.co S.gen rfl (W.codeRec_of m B)\D _ _ _ _ ?_;show wpAny_newFunctionEnv_cells S.kind M λenv he s1 x=>?_;subst he;erw[lim.keeps x.toInCall.keep,codeAny_func ?_];let#[t,R,T]:=C A outer s H vs Q E (h.deeper _) l;let I:Inv (lH CX P w K mg base N qual scope f c A outer s H E) [] (start N vs) H s1:=Dm S h.hd g L r x;show dq (R [] s1 (start N vs) H _ I T) (λfl s' d=>?_) λe s' d=>d;let fin:∀{Z':St}{H':Hp}{v:V}{u:gE},Inv (lH CX P w K mg base N qual scope f c A outer s H E) [] Z' H' s'->aB v u->Q v H'->CE outer P w H s Q u s':=
  λ{Z' H' v u} J i q=>#[v,H',J.os,J.bare,J.base,J.hok,i,q]
 cases fl with
 |ret u=>
  let#[v,Z',H',J,i,q]:=d;show fin J i q
 |next=>
  let#[Z',H',J,q]:=d;show fin (v:=V.non) (u:=Value.none) J rfl q
 |brk=>
  let#[8,q]:=d;show False.elim q
 |cont=>
  let#[8,q]:=d;show False.elim q
end L2
namespace L2
open PySem PySem.Spec PyProof.Rows
section
variable {x:Str}{p pos:Pos}{e:kA}{es:-kA}{t:TA}{id T:String}{r:-V->Hp->VK->Prop}
def tCBK(r:-V->Hp->VK->Prop)(Q:VK):-V->Hp->Prop:=λvs H1=>r vs H1 Q
def tCB(r:-V->Hp->VK->Prop)(t:TA):TE:=λZ H Q=>t Z H\tCBK r Q
def cL(b:de X (.b id) r)(c:Gl X x)(hm:X.mg x=gf)(d:r6 x*>.b id)(ha:PA X (e::es) t)(f:x≠↑96:=by decide)(g:(x==(↑34 : Str))=gB:=by decide)
  (he:hM (e::es) X.env=(gB,m3 e X.env)::hM es X.env:=by rfl) (i:(mu pos\hM es X.env).any (·.1)=gB:=by rfl):PE X (.Call (.n x p) (e::es) [] pos) (tCB r t):=by
 lk;intro Q I h;show oh\iW I c hm d ?_ f g;show Nq (thn (ha pos Oo s Z H _ I h) λus s1 ⟨vs,H1,j,l,m⟩=>b Oo s1 Z H1 vs us Q j l m) he i
def cV(b:de X (.t T) r)(c:Gl X x)(hm:X.mg x=gf)(d:r6 x*>.t T)(ha:PA X (e::es) t)(f:x≠↑96:=by decide)(g:(x==(↑34 : Str))=gB:=by decide)
  (he:hM (e::es) X.env=(gB,m3 e X.env)::hM es X.env:=by rfl) (i:(mu pos\hM es X.env).any (·.1)=gB:=by rfl):PE X (.Call (.n x p) (e::es) [] pos) (tCB r t):=by
 lk;intro Q I h;show oh\iW I c hm d ?_ f g;show n8 (thn (ha pos Oo s Z H _ I h) λus s1 ⟨vs,H1,j,l,m⟩=>b Oo s1 Z H1 vs us Q j l m) he i
end
end L2
namespace HT
open PySem PyProof.Rows
def lexLt:-Int->-Int->Bool
 | [],[]=>gB
 | [],_::_=>gn
 |_::_,[]=>gB
 |x::xs,y::ys=>if x=y then lexLt xs ys else decide (x<y)
def lexLt_cons(x y:Int)(xs ys:-Int):lexLt (x::xs) (y::ys)=if x=y then lexLt xs ys else decide (x<y):=rfl
def Bu:lexLt [] []=gB:=rfl
def Bn(y:Int)(ys:-Int):lexLt [] (y::ys)=gn:=rfl
def Bo(x:Int)(xs:-Int):lexLt (x::xs) []=gB:=rfl
def E3(A:ru)(s:hA)(a:Int)(t:Tok)(c:Int)(u:Tok):∃e,SeqAt.EqAt A s (.i a t) (.i c u) e/\(e=gn↔a=c):=
 #[(a==c),MM a t c u,∅]
def Ed(A:ru)(s:hA)(a:Int)(t:Tok)(c:Int)(u:Tok)(prog:jl)(w:lp)(E:gE->hA->Prop)(Q:gE->hA->Prop)(h:Q (.x (decide (a<c))) s) :
  hB (i3 prog w) A (richCompare .Lt (.i a t)\.i c u) Q E s:=
 (Nu h:hB (i3 prog w) A (lx .Lt (.i a t)\.i c u) Q E s)
section
open PySem.SeqAt
open PySem.AutoSeq1 (wpAny_loadPart')
open PySem.MeetsSeq PySem.MeetsSeq2 PySem.MeetsSeq3
def Br(l b:gL)(items j:Array gE)(n E:Nat)(H I:Option gL)(K L:Array\Option gE)(ns ms:-Int)(hi:u0 items.toList ns)(B:u0 j.toList ms) :
  Meets (Builtin.«tuple.__lt__» #[[.r l,.r b],[]])
   (λ_ R s=>s.heap.get? l*>{cls:=.t ↑23,dict:=H,data:=.e items n,slots:=K}/\s.heap.get? b*>{cls:=.t ↑23,dict:=I,data:=.e j E,slots:=L}/\
    R (.ok\.ret (.x\lexLt ns ms)) s):=
 .of_wp λprog w A R s h=>by
  let#[#[p,g,d,tk,os],#[M,N,h],Y]:=#[s,h,AutoSeq1.sub_tuple_tuple];let Z:items.size=↑ns:=by rw[<-↑hi];simp
  let z2:j.size=↑ms:=by rw[<-↑B];simp
  wp_walk using Bc M,Bc N,M8 _ (λrest b s'=>b.1=gf/\s'=#[p,g,d,tk,os]/\∃(vs ws:-gE)(m o:-Int),rest=vs.zip ws/\
   u0 vs m/\u0 ws o/\↑m+j.size=↑o+items.size/\R (.ok\.ret (.x\lexLt m o)) #[p,g,d,tk,os]) _
  case turn=>
   rintro⟨y,x⟩ rest b s' ⟨v,rfl,vs,ws,m,o,f,z,r,hlen,i⟩;cases z with
   |nil=>rw[List.zip_nil_left] at f;cases f
   |cons a t O=>
    cases r with
    |nil=>rw[List.zip_nil_right] at f;cases f
    |cons c u P=>
     rw[LZ] at f;injection f with Q S;injection Q with T U;subst T U;rw[lexLt_cons] at i;simp only[br] at hlen;let#[e,he,C]:=E3 A.in1 #[p,g,d,tk,os] a t c u;show aa\he prog w _ _ ?_;cases e with
     |true=>
      rw[Oj\C.mp rfl] at i
      wp_walk
      erw[5,8,_,S,O,P,(),i]
     |false=>
      rw[Oi λq=>absurd (C.mpr q) bL] at i;let X:=Ed A.in1 #[p,g,d,tk,os] a t c u prog w
      wp_walk using X
      erw[2,‹i›]
  case fin=>
   rintro⟨b1,b2⟩ s' ⟨v,rfl,vs,ws,m,o,f,z,r,hlen,i⟩;simp only at v;subst v;let D:lexLt m o=decide (items.size<j.size):=by
    cases z with
    |nil=>
     cases r with
     |nil=>
      simp only[iy] at hlen;rw[Bu];show (Om ()).symm
     |cons c u hw=>
      simp only[iy,br] at hlen;rw[Bn];show (Ol ()).symm
    |cons a t D=>
     cases r with
     |nil=>
      simp only[iy,br] at hlen;rw[Bo];show (Om ()).symm
     |cons c u hw=>
      rw[LZ] at f;cases f
   rw[D] at i
   wp_walk
   erw[2,by simpa [Builtin.Tuple.tupleCompareSizes] using i]
  case h=>
   erw[5,items.toList,j.toList,ns,ms,1,hi,B,(),h]
end
section
variable {prog:jl}
def lt_tupInts{l b:gL}{items c:Array gE}{ns ms:-Int}{Q:gE->hA->Prop}(j:IsTup s.heap l items)(m:IsTup s.heap b c)(hi:u0 items.toList ns)(o:u0 c.toList ms)
  (p:A.units<n7) (h:Q (.x\lexLt ns ms) s):hB (i3 prog w) A (lx .Lt (.r l)\.r b) Q E s:=by
 let#[#[cls,q,data,r],d,e,n,hd]:=id j;let#[#[z,u,data2,v],f,g,y,i]:=id m;simp only at e hd g i;subst e hd g i;show richCompare_meets_room (op:=.Lt) #[_,d,1] #[_,f,1] PySem.F.slot_tuple_lt PySem.F.entry_tuple_lt (PySem.F.args_tuple_lt_2 _ _) (Br l b items c n y q u r v ns ms hi o)
  #[d,f,show Value.bool (lexLt ns ms)≠Value.notImplemented/\Q (.x\lexLt ns ms) s from #[(λx=>nomatch x),h]] p
def sIx(n d:Nat):Option Int->Nat
 |none=>d
 |some v=>if v<0 then (v+(n:Int)).toNat else min v.toNat n
def sIx_none(n d:Nat):sIx n d gf=d:=rfl
def sIx_nat(n d k:Nat):sIx n d (gm (k:Int))=min k n:=by change (if (k:Int)<0 then ((k:Int)+(n:Int)).toNat else min (k:Int).toNat n)=min k n;rw[Oi (),nG]
end
end HT
namespace L2
open PySem PySem.Spec PyProof.Rows
abbrev TO:=St->Hp->(Option Int->Hp->Prop)->Prop
def PO(X:Cx)(e:Option kA)(t:TO):Prop:=
 ∀(Oo:-(gL×Obj))(s:hA)(Z:St)(H:Hp)(Q:Option Int->Hp->Prop),!Inv H s->t Z H Q->
  hB ⇑X X.A (evalPart e X.env) (λu s'=>∃o H',!Inv H' s'/\IsPart u o/\Q o H') X.xe s
def Fv:TO:=λ_ H Q=>Q gf H
def Ie(Q:Option Int->Hp->Prop)(x:V)(H1:Hp)(i:Int):Prop:=x=.i i/\Q (gm i) H1
def Ic(Q:Option Int->Hp->Prop):VK:=λx H1=>Exists\Ie Q x H1
def J5(t:TE):TO:=λZ H Q=>t Z H\Ic Q
def jo{ns:-Int}:∀{us:-gE},Vals (ns.map V.int) us->u0 us ns:=by
 induction ns with
 |nil=>intro us r;rw[uU] at r;cases r;show .nil
 |cons n ns b=>
  intro us r;rw[bj] at r;cases r with
  |cons c d=>
   let#[t,e]:=c;subst e;show .c n t\b d
section
variable {e:kA}{te:TE}{lo hi:Option kA}{tl th:TO}{pos p2:Pos}
def jE:PO X gf Fv:=by lk;intro Q I h;rw[evalPart_none];show aw #[gf,H,I,.none,h]
def jD(h:PE X e te):PO X (gm e) (J5 te):=by lk;intro Q I hw;rw[evalPart_some];show thn (h Oo s Z H _ I hw) λu s1 b=>?_;let#[x,H1,c,d,f]:=b;let#[i,1,q]:=f;let#[t,1]:=d;erw[gm i,H1,c,.i i t,q]
def SlR(X:Cx)(r:V->Option Int->Option Int->Hp->VK->Prop):Prop:=
 ∀(Oo:-(gL×Obj))(s:hA)(Z:St)(H:Hp)(x:V)(v b c:gE)(lo hi:Option Int)(d:gL)(Q:VK),!Inv H s->aB x v->s.heap.IsSliceOf d b c .none->IsPart b lo->IsPart c hi->r x lo hi H Q->
  ∃T id,typeLookup (.t T) "__getitem__" = pure (gm\.b id)/\s.TypeIs v T/\hB ⇑X X.A (getItem v\.r d) (EP X Oo Z Q) X.xe s
def tSl3(r:V->Option Int->Option Int->Hp->VK->Prop)(x:V)(l:Option Int)(Q:VK):Option Int->Hp->Prop:=λu b=>r x l u b Q
def tSl2(r:V->Option Int->Option Int->Hp->VK->Prop)(th:TO)(Z:St)(x:V)(Q:VK):Option Int->Hp->Prop:=λl H2=>th Z H2\tSl3 r x l Q
def tSl1(r:V->Option Int->Option Int->Hp->VK->Prop)(tl th:TO)(Z:St)(Q:VK):VK:=λx H1=>tl Z H1\tSl2 r th Z x Q
def tSl(r:V->Option Int->Option Int->Hp->VK->Prop)(te:TE)(tl th:TO):TE:=λZ H Q=>te Z H\tSl1 r tl th Z Q
def jx{r:V->Option Int->Option Int->Hp->VK->Prop}(j:SlR X r)(he:PE X e te)(m:PO X lo tl)(n:PO X hi th):PE X (.Subscript e (.Slice lo hi gf p2) pos) (tSl r te tl th):=by lk;intro Q I h;show AY (thn (he Oo s Z H _ I h) λv s1 d=>?_);let#[x,H1,o,p,y]:=d;show wpAny_Slice (thn (m Oo s1 Z H1 _ o y) λf s2 d=>?_);let#[l,H2,z,pl,B]:=d;show thn (n Oo s2 Z H2 _ z B) λg c d=>?_;let#[u,i,C,pu,D]:=d;rw[evalPart_none];show aw ?_;let E:!Inv i {c with heap:=c.heap.push {cls:=.t "slice",data:=.d\tA [f,g,.none]}}:=C.kept (t':=c.toks) λb ob q=>bh _ q;let#[T,id,K,L,M]:=j Oo {c with heap:=c.heap.push {cls:=.t "slice",data:=.d\tA [f,g,.none]}} Z i x v f g l u ↥c Q E p (Ni ..) pl pu D;change hB ⇑X X.A (subscriptTail e (.Slice lo hi gf p2) v\.r ↥c) (EP X Oo Z Q) X.xe {c with heap:=c.heap.push {cls:=.t "slice",data:=.d\tA [f,g,.none]}};show tail_any (ops:=[.r ↥c,v]) L K M (by with_unfolding_all rfl)
def fN(xs:-V)(lo hi:Option Int):-V:=(xs.drop\HT.sIx ↑xs 0 lo).take (HT.sIx ↑xs ↑xs hi-HT.sIx ↑xs 0 lo)
def BV(xs:-V)(lo hi:Option Int):↑(fN xs lo hi)<=↑xs:=by unfold fN;rw[aZ,cQ];lia
end
end L2
namespace L2
open PySem PySem.Spec PyProof.Rows
def ixN(n:Nat)(i:Int):Option Nat:=if 0<=i then (if i<n then gm i.toNat else gf) else if -(n:Int)<=i then gm (i+n).toNat else gf
def atI{α:Type}(xs:List α)(i:Int):Option α:=(ixN ↑xs i).bind λj=>xs[j]?
def tU{n:Nat}{i:Int}{j:Nat}(h:ixN n i*>j):seqIndex? i n*>j/\j<n/\-(n:Int)<=i/\i<n:=by
 unfold ixN at h;by_cases b:0<=i
 .rw[Oj b] at h;by_cases h1:i<n
  .rw[Oj h1] at h;let e:i.toNat=j:=df h;erw[by rw[A6 b h1,e],(),(),h1]
  rw[Oi h1] at h;cases h
 rw[Oi b] at h;by_cases h1:-(n:Int)<=i
 .rw[Oj h1] at h;let e:(i+n).toNat=j:=df h;erw[by rw[AZ () h1,e],(),h1,()]
 rw[Oi h1] at h;cases h
def yN{α:Type}{xs:List α}{i:Int}{v:α}(h:atI xs i*>v):∃j,seqIndex? i ↑xs*>j/\xs[j]?*>v/\j<↑xs/\-(↑xs:Int)<=i/\i<↑xs:=by
 unfold atI at h;cases e:ixN ↑xs i with
 |none=>rw[e] at h;cases h
 |some j=>
  rw[e] at h;let#[h1,h2,b,c]:=tU e;erw[j,h1,h,h2,b,c]
def cF{α:Type}{xs:List α}{j:Nat}{v:α}(h:xs[j]?*>v):atI xs (j:Int)*>v:=by
 let b:j<↑xs:=(aq.mp h).1;let e:ixN ↑xs (j:Int)*>j:=by unfold ixN;rw[Oj (),Oj ()];simp
 unfold atI;rw[e];show h
def yO(b:kA):Prop:=∀o i,subscripted b gB o i=operate [o,i]\getItem o i
def IxR(X:Cx)(r:R2):Prop:=
 ∀(value slice:kA)(Oo:-(gL×Obj))(s:hA)(Z:St)(H:Hp)(x y:V)(v u:gE)(Q:VK),!Inv H s->aB x v->aB y u->r x y H Q->
  subscripted slice gB v u=operate [v,u] (getItem v u)->hB ⇑X X.A (subscriptTail value slice v u) (EP X Oo Z Q) X.xe s
def MtR(X:Cx)(id:String)(r:V->-V->Hp->VK->Prop):Prop:=
 ∀(Oo:-(gL×Obj))(s:hA)(Z:St)(H:Hp)(x:V)(xs:-V)(v:gE)(us:-gE)(Q:VK),!Inv H s->aB x v->Vals xs us->r x xs H Q->
  hB ⇑X X.A (call (.b id) (v::us)) (EP X Oo Z Q) X.xe s
section
variable {a b:kA}{ta tb:TE}{pos:Pos}
def z6{r:R2}(c:IxR X r)(ha:PE X a ta)(d:PE X b tb)(e:yO b):PE X (.Subscript a b pos) (tOp r ta tb):=by lk;intro Q I h;show AY (uK ha d I h λv u s2 x y H2 f g i q=>c a b Oo s2 Z H2 x y v u Q f g i q\e _ _)
def ixx{r:R2}(c:IxR X r)(ha:PE X a ta)(d:PE X b tb)(e:yO b:=by (intro _ _;rfl)):PE X (.Subscript a b pos) (tOp r ta tb):=z6 c ha d e
def KL(K:W.Frag)(x y:V)(H:Hp)(Q:VK)(p:gL)(xs:-V)(i:Int)(v:V):Prop:=x=.r p/\y=.i i/\SqL K H p xs/\atI xs i*>v/\Q v H
def rIxL(K:W.Frag):R2:=λx y H Q=>Exists\Ex4 (KL K x y H Q)
def KJ(K:W.Frag)(x y:V)(H:Hp)(Q:VK)(p:gL)(xs:-V)(i:Int)(v:V):Prop:=x=.r p/\y=.i i/\SqT K H p xs/\atI xs i*>v/\Q v H
def rIxT(K:W.Frag):R2:=λx y H Q=>Exists\Ex4 (KJ K x y H Q)
def bB:IxR X (rIxL []):=by
 intro value slice Oo s Z H x y v u Q I f g h c;let#[p,xs,i,z,5,l,he,q]:=h;cases f;let#[#[t,1],#[m,r,pl,C],#[j,h1,h2,D,n,o],#[w,d,A],B,E,fin]:=#[g,I.list l,yN he,r.get h2,↑r,line63,(#[z,H,I,A,q]:EP X Oo Z Q w s)];by_cases e:0<=i
 .let b:i.toNat=j:=by
   rw[A6 e o] at h1;show df h1
  show item_listR pl.isList e () (by rw[b];simpa using d) fin c
 let b:(i+(m.toArray.size:Int)).toNat=j:=by rw[AZ () n] at h1;rw[bM,<-B];show df h1
 show MY (x:=w) pl.isList.typeIs MW.lookup
  (wpAny_getItem_list_neg (Q:=λr s'=>r=w/\EP X Oo Z Q r s') pl.isList () (by rw[bM]<;>lia) () (by rw[b];simpa using d) #[1,fin]) c
def ur:IxR X (rIxT []):=by
 intro value slice Oo s Z H x y v u Q I b c h d;let#[p,xs,i,z,5,e,he,q]:=h;cases b;let#[#[t,1],#[m,r,pl,n],#[j,h1,h2,o,A,B],#[w,f,g],l,C,fin]:=#[c,I.tuple e,yN he,r.get h2,↑r,line63,(#[z,H,I,g,q]:EP X Oo Z Q w s)];show MY (x:=w) pl.typeIs slot_tuple_getitem.lookup
  (getItem_tuple (j:=j) (Q:=λr s'=>r=w/\EP X Oo Z Q r s') pl () () (by rw[bM,<-l];show h1) ‹f› #[1,fin]) d
def Cr(b:-gE)(n j:Nat)(u:gE):Obj.mapSeq (·.setIfInBounds j u) {cls:=.t ↑15,data:=.e b.toArray n}={cls:=.t ↑15,data:=.e (b.set j u).toArray n}:=by simp[Obj.mapSeq]
def Inv.lst{p:gL}(I:!Inv H s)(h:H p*>.a xs) :
  ∃(b:-gE)(n:Nat),Vals xs b/\s.heap.get? p*>{cls:=.t ↑15,data:=.e b.toArray n}/\↑xs<=sizeLine:=by
 let#[z,b,n,r,e]:=I.hok p _ h;erw[b,n,r,e,z]
def Inv.lstUpd{p:gL}{xs ys:-V}{d its':-gE}{n c:Nat}{f:Obj->Obj}(I:!Inv H s)(h:H p*>.a xs)
  (g:s.heap.get? p*>{cls:=.t ↑15,data:=.e d.toArray n}) (hf:f {cls:=.t ↑15,data:=.e d.toArray n}={cls:=.t ↑15,data:=.e its'.toArray c}) (r:Vals ys its') (i:↑ys<=hH) (t:Nat) :
  !Inv (upd H p\.a ys) {s with heap:=s.heap.update p f,toks:=t}:=by
 let e:(s.heap.update p f).get? p*>{cls:=.t ↑15,data:=.e its'.toArray c}:=by rw[qY f g (by rw[hf]<;>rfl),hf]
 show I.write (x:=p) (e:=p) (by rw[h];trivial) (.l rfl) (λb u j q=>(nF>>(aO j))<*q) #[_,e] ?_;erw[i,its',c,r,e]
def IY(o i v:V)(H:Hp)(Q:Hp->Prop)(p:gL)(xs:-V)(k:Int)(j:Nat):Prop:=o=.r p/\i=.i k/\H p*>.a xs/\ixN ↑xs k*>j/\WrO H p (.a\xs.set j v) Q
def KD:V->V->V->Hp->(Hp->Prop)->Prop:=λo i v H Q=>Exists\Ex4 (IY o i v H Q)
def sN:PSet X KD:=by
 lk;intro o i v B C u Q I x ri y h;let#[p,xs,k,j,5,e,z,q]:=h;replace q:=q.at;cases x;let#[#[t,1],#[f,n,r,b,A],#[h1,h2,g,l],c,D]:=#[ri,I.lst e,tU z,↑r,line63];let m:!Inv (upd H p\.a (xs.set j v)) {s with heap:=s.heap.update p\Obj.mapSeq (·.setIfInBounds j u)}:=
  I.lstUpd e b (Cr f n j u) (r.set y j) (by rw[List.length_set];show A) s.toks
 by_cases w:0<=k
 .let d:k.toNat=j:=by
   rw[A6 w l] at h1;show df h1
  show W.ki_setAt b w () (by rw[bM,<-c];show l) (by rw[d];erw[_,m,q])
 let d:(k+(f.toArray.size:Int)).toNat=j:=by rw[AZ () g] at h1;rw[bM,<-c];show df h1
 show W.ki_setBack b () (by rw[bM,<-c];show g) () (by rw[d];erw[_,m,q])
def BC(lo hi:Option Int)(n:Nat):(sliceBounds lo hi gf n).1=((HT.sIx n 0 lo:Nat):Int)/\(sliceBounds lo hi gf n).2.1=((HT.sIx n n hi:Nat):Int)/\(sliceBounds lo hi gf n).2.2=1:=by
 erw[?_,?_,1]
 .cases lo with
  |none=>simp[sliceBounds,HT.sIx]
  |some i=>
   simp only[sliceBounds,HT.sIx,Mi,show (1:Int)>0 by decide,if_true];by_cases h:i<0
   .simp only[h,if_true]<;>lia
   simp only[h,if_false]<;>lia
 cases hi with
 |none=>simp[sliceBounds,HT.sIx]
 |some i=>
  simp only[sliceBounds,HT.sIx,Mi,show (1:Int)>0 by decide,if_true];by_cases h:i<0
  .simp only[h,if_true]<;>lia
  simp only[h,if_false]<;>lia
def Bs(b:-gE)(lo hi:Option Int):slicePick b.toArray lo hi gf=((b.drop\HT.sIx ↑b 0 lo).take (HT.sIx ↑b ↑b hi-HT.sIx ↑b 0 lo)).toArray:=by let#[h1,h2,c]:=BC lo hi b.toArray.size;unfold slicePick;rw[h1,h2,c];simp only[sliceRange_one,pick_run,bM]<;>rfl
def KC(K:W.Frag)(x:V)(lo hi:Option Int)(H:Hp)(Q:VK)(a:gL)(xs:-V):Prop:=x=.r a/\SqL K H a xs/\fP H (.a\fN xs lo hi) Q
def rSlL(K:W.Frag):V->Option Int->Option Int->Hp->VK->Prop:=λx lo hi H Q=>Exists\Ex2 (KC K x lo hi H Q)
def jA:SlR X (rSlL []):=by lk;intro x v i j lo hi l Q I d e pl pu h;let#[a,xs,1,f,q]:=h;cases d;let#[m,r,c,g]:=I.list f;let hlen:=↑r;erw[↑15,_,MW.lookup,c.isList.typeIs,?_];show wpAny_getItem_list_slice c.isList e pl pu .none ∅ ?_ (by rw[bM]<;>lia);rw[Bs,<-hlen];erw[.r ↥s,_,I.laid (t':=s.toks) (o:=.a\fN xs lo hi) (λb ob q=>bh _ q) (au _) ?_,1,q.at\I.hok.fresh (au _)];erw[dw (BV xs lo hi) g,_,(0),(r.drop\HT.sIx ↑xs 0 lo).take (HT.sIx ↑xs ↑xs hi-HT.sIx ↑xs 0 lo),bX _ rfl]
def gO:V->Bool
 |.non=>gn
 |.bl _=>gn
 |.int _=>gn
 |.str _=>gn
 |_=>gB
def eqV:V->V->Bool
 |.non,.non=>gn
 |.bl a,.bl b=>a==b
 |.bl a,.int b=>(if a then 1 else 0)==b
 |.int a,.bl b=>a==(if b then 1 else 0)
 |.int a,.int b=>a==b
 |.str a,.str b=>a==b
 |_,_=>gB
def JM{y x:V}{u v:gE}(d:aB y u)(c:aB x v)(f:gO y=gn)(e:gO x=gn):SeqAt.EqAt A s u v (eqV y x):=by
 cases y with
 |non=>
  cases d;cases x with
  |non=>cases c;show Od _
  |bl b=>cases c;show Oa b
  |int b=>let#[t,1]:=c;show Ob b t
  |str b=>let#[t,1]:=c;show Oc b t
  |_=>show absurd (show gB=gn from e) bL
 |bl a=>
  cases d;cases x with
  |non=>cases c;show N7 a
  |bl b=>cases c;show N5 a b
  |int b=>let#[t,1]:=c;show N6 a b t
  |str b=>let#[t,1]:=c;show N8 a b t
  |_=>show absurd (show gB=gn from e) bL
 |int a=>
  let#[t',1]:=d;cases x with
  |non=>cases c;show N_ a t'
  |bl b=>cases c;show N9 a t' b
  |int b=>let#[t,1]:=c;show MM a t' b t
  |str b=>let#[t,1]:=c;show MN a t' b t
  |_=>show absurd (show gB=gn from e) bL
 |str a=>
  let#[t',1]:=d;cases x with
  |non=>cases c;show Of a t'
  |bl b=>cases c;show Oe a t' b
  |int b=>let#[t,1]:=c;show MO a t' b t
  |str b=>let#[t,1]:=c;show Og a t' b t
  |_=>show absurd (show gB=gn from e) bL
 |_=>show absurd (show gB=gn from f) bL
def eqU(x:V)(u:gE):Bool:=match u with
 |.none=>eqV .non x
 |.bool b=>eqV (.bl b) x
 |.int i _=>eqV (.i i) x
 |.str z _=>eqV (.s z) x
 |_=>gB
def zA{x y:V}{u:gE}(r:aB y u)(f:gO y=gn):eqU x u=eqV y x:=by
 cases y with
 |non=>cases r;rfl
 |bl b=>cases r;rfl
 |int i=>let#[t,1]:=r;rfl
 |str z=>let#[t,1]:=r;rfl
 |_=>show absurd (show gB=gn from f) bL
def mR{x:V}:∀{xs:-V}{us:-gE},Vals xs us->xs.all gO=gn->us.any (eqU x)=xs.any λy=>eqV y x
 |_,_,.nil,_=>rfl
 |y::xs,u::us,.cons r t,f=>by
  rw[An,ir] at f;rw[nH,nH,zA r f.1,mR t f.2]
def kH{x:V}{v:gE}(c:aB x v)(d:gO x=gn):∀{xs:-V}{us:-gE},Vals xs us->xs.all gO=gn->∀u∈us,SeqAt.EqAt A s u v (eqU x u)
 |_,_,.nil,_=>λu b=>by cases b
 |y::xs,u::us,.cons r t,f=>λe b=>by
  rw[An,ir] at f;rcases ah.mp b with rfl|b
  .rw[zA r f.1];show JM r c f.1 d
  show kH c d t f.2 e b
def inV(x:V)(xs:-V):Bool:=xs.any λy=>eqV y x
def rInB(K:W.Frag)(neg:Bool)(x y:V)(H:Hp)(Q:VK)(p:gL)(xs:-V):Prop:=y=.r p/\(SqL K H p xs\/SqT K H p xs)/\gO x=gn/\xs.all gO=gn/\Q (.bl (if neg then !inV x xs else inV x xs)) H
def rIn(K:W.Frag)(neg:Bool):R2:=λx y H Q=>Exists\Ex2 (rInB K neg x y H Q)
def sr:OpR X (lx .In) (rIn [] gB):=by
 lk;intro x y v u Q I d f h;let#[p,xs,1,b,e,fs,q]:=h;cases f;rcases b with b|b
 .let#[c,r,pl,g]:=I.list b;show SeqAt.in_listAt (eqU x) pl.isList (λw hw=>kH d e r fs w ‹hw›) #[.bl _,H,I,1,?_];rw[show c.toArray.any (eqU x)=c.any (eqU x) by simp,mR r fs];show q
 let#[c,r,pl,g]:=I.tuple b;show SeqAt.in_tupleAt (eqU x) pl (λw hw=>kH d e r fs w ‹hw›) #[.bl _,H,I,1,?_];rw[show c.toArray.any (eqU x)=c.any (eqU x) by simp,mR r fs];show q
def ko:OpR X (lx .NotIn) (rIn [] gn):=by
 lk;intro x y v u Q I d f h;let#[p,xs,1,b,e,fs,q]:=h;cases f;rcases b with b|b
 .let#[c,r,pl,g]:=I.list b;show SeqAt.notIn_listAt (eqU x) pl.isList (λw hw=>kH d e r fs w ‹hw›) #[.bl _,H,I,1,?_];rw[show c.toArray.any (eqU x)=c.any (eqU x) by simp,mR r fs];show q
 let#[c,r,pl,g]:=I.tuple b;show SeqAt.notIn_tupleAt (eqU x) pl (λw hw=>kH d e r fs w ‹hw›) #[.bl _,H,I,1,?_];rw[show c.toArray.any (eqU x)=c.any (eqU x) by simp,mR r fs];show q
def I_(K:W.Frag)(xs:-V)(H:Hp)(Q:VK)(p:gL)(ys:-V):Prop:=xs=[.r p]/\(SqL K H p ys\/SqT K H p ys)/\Q (.i ↑ys) H
def zY(K:W.Frag):-V->Hp->VK->Prop:=λxs H Q=>Exists\Ex2 (I_ K xs H Q)
def BF:de X (.b "len") (zY []):=by
 lk;intro xs us Q I r h;let#[p,ys,1,b,q]:=h;let#[u,1,c]:=vals1 r;cases c;let f:=line63;rcases b with b|b
 .let#[d,r',pl,e]:=I.list b;let hlen:=↑r';show Calls.call_len_list pl.isList (by simp only[bM]<;>lia) #[.i ↑ys,H,I.tok _,#[s.toks+1,by rw[bM,hlen]],q]
 let#[d,r',pl,e]:=I.tuple b;let hlen:=↑r';show len_tuple pl (by simp only[bM]<;>lia) #[.i ↑ys,H,I.tok _,#[s.toks+1,by rw[bM,hlen]],q]
def pln{e:kA}{te:TE}{p pos:Pos}(hm:X.mg "len" = gf)(he:PE X e te)(c:Gl X "len":=by rfl)(b:hM [e] X.env=(gB,m3 e X.env)::hM [] X.env:=by rfl)(d:(mu pos\hM ([]:-kA) X.env).any (·.1)=gB:=by rfl):PE X (.Call (.n "len" p) [e] [] pos) (tCB (zY [])\dU te fk):=cL BF c hm vk (ae he dP b) ⋯ ⋯ b d
def F5(K:W.Frag)(xs:-V)(H:Hp)(Q:VK)(p:gL)(ys:-V):Prop:=xs=[.r p]/\(SqL K H p ys\/SqT K H p ys)/\fP H (.a ys) Q
def I0(K:W.Frag):-V->Hp->VK->Prop:=λxs H Q=>Exists\Ex2 (F5 K xs H Q)
def l_:de X (.t ↑15) (I0 []):=by
 lk;intro xs us Q I r h;let#[p,ys,1,f,q]:=h;let#[u,1,l]:=vals1 r;cases l;let fin:∀(c:-gE),Vals ys c->↑ys<=hH->∀(h':js)(d:Nat),(∀b o',s.heap.get? b*>o'->h'.get? b*>o')->
   h'.get? ↥s*>{cls:=.t ↑15,dict:=gf,data:=.e c.toArray d,slots:=(tA [])}->EP X Oo Z Q (.r ↥s) {s with heap:=h'}:=λc r' g h' d kp e=>
  #[.r ↥s,_,I.laid (t':=s.toks) kp (au _) (show bJ X.prog X.w _ h' _ (.a ys) from #[g,c,d,r',e]),1,q.at\I.hok.fresh (au _)]
 rcases f with f|f
 .let#[#[c,r',pl,g],hlen,#[o,i,j,n,hd]]:=#[I.list f,↑r',pl.isList];show call_list_seq p (.l rfl) i j hd (λh' d kp e=>fin c r' g h' d kp e) (by simp only[bM]<;>lia)
 let#[#[c,r',pl,g],hlen,#[o,i,j,n,hd]]:=#[I.tuple f,↑r',pl];show call_list_seq p (.o rfl) i j hd (λh' d kp e=>fin c r' g h' d kp e) (by simp only[bM]<;>lia)
def km:de X (.t ↑23) (λxs H Q=>∃p ys,xs=[.r p]/\((SqL [] H p ys/\∀l,H l=gf->Q (.r l)\upd H l (.u ys))\/(SqT [] H p ys/\Q (.r p) H))):=by
 lk;intro xs us Q I r h;let#[p,ys,1,h]:=h;let#[u,1,i]:=vals1 r;cases i;rcases h with ⟨c,q⟩|⟨c,q⟩
 .let#[d,r',pl,f]:=I.list c;let hlen:=↑r';show call_tuple_list pl.isList (λh' kp=>?_) (by simp only[bM]<;>lia);let g:!Inv H {s with heap:=h'}:=I.kept (t':=s.toks) kp;let j:!Inv (upd H h'.objs.size\.u ys) {s with heap:=h'.push {cls:=.t ↑23,data:=.e d.toArray}}:=
   g.laid (t':=s.toks) (λb o e=>bh _ e) (au _) (show bJ X.prog X.w _ _ _ (.u ys) from #[#[f,_,bX _ rfl,1],d,r',IsTup.new _ _])
  erw[.r h'.objs.size,_,j,1,q _\g.hok.fresh (au _)]
 let#[d,r',pl,f]:=I.tuple c;show call_tuple_same pl #[.r p,H,I,1,q]
def tyV(K:W.Frag)(T:String)(x:V)(H:Hp):Prop:=match x with
 |.str _=>T = "str"
 |.int _=>T = "int"
 |.ref p=>(T = ↑15/\∃xs,SqL K H p xs)\/(T = ↑23/\∃o,K.lookup p*>o/\o.cls=.t ↑23/\o.dict=gf) \/
   (T = ↑93/\((∃kvs,H p*>.k kvs)\/∃kvs,H p*>.dT kvs))\/(T = "set"/\∃S n,H p*>.set S n)
 |_=>False
def yS{T:String}{x:V}{v:gE}(I:!Inv H s)(r:aB x v)(ty:tyV [] T x H) :
  s.TypeIs v T/\∀a,v=.r a->∃ob,s.heap.get? a*>ob/\ob.dict=gf:=by
 cases x with
 |str z=>
  let#[t,1]:=r;cases (show T = "str" from ty);erw[typeIs_str s z t,λ_ e=>nomatch e]
 |int i=>
  let#[t,1]:=r;cases (show T = "int" from ty);erw[typeIs_int s i t,λ_ e=>nomatch e]
 |ref p=>
  cases r;rcases ty with ⟨rfl,xs,f⟩|⟨rfl,o,b,g,hd⟩|⟨rfl,b⟩|⟨rfl,S,n,b⟩
  .let#[h,_,pl,_]:=I.list f;erw[pl.isList.typeIs,λa e=>?_];cases e;let#[o,n,e,c,hd,_]:=pl;erw[o,e,hd]
  .cases b
  .let z:∃o,s.heap.get? p*>o/\o.ExactDict:=by
    rcases b with ⟨kvs,b⟩|⟨kvs,b⟩
    .let#[8,_,o,0,e,ex,_]:=I.hok p _ b;erw[o,e,ex]
    let#[8,_,o,0,e,ex,_]:=I.hok p _ b;erw[o,e,ex]
   let#[o,e,ex]:=z;erw[#[o,e,ex.1],λa d=>?_];cases d;erw[o,e,ex.2.1]
  let#[o,8,e,ex,_]:=I.hok p _ b;erw[#[o,e,ex.1],λa d=>?_];cases d;erw[o,e,ex.2.1]
 |_=>show False.elim ty
def Kq(K:W.Frag)(T:String)(r:V->-V->Hp->VK->Prop)(Q:VK):VK:=λx H1=>tyV K T x H1/\r x [] H1 Q
def tBM0(K:W.Frag)(T:String)(r:V->-V->Hp->VK->Prop)(to:TE):TE:=λZ H Q=>to Z H\Kq K T r Q
def tBM2(r:V->-V->Hp->VK->Prop)(x:V)(Q:VK):-V->Hp->Prop:=λxs H2=>r x xs H2 Q
def tBM1(K:W.Frag)(T:String)(r:V->-V->Hp->VK->Prop)(t:TA)(Z:St)(Q:VK):VK:=λx H1=>tyV K T x H1/\t Z H1\tBM2 r x Q
def tBM(K:W.Frag)(T:String)(r:V->-V->Hp->VK->Prop)(to:TE)(t:TA):TE:=λZ H Q=>to Z H\tBM1 K T r t Z Q
variable {o e:kA}{es:-kA}{to:TE}{t:TA}{name:Str}{apos cpos:Pos}{T id:String}{r:V->-V->Hp->VK->Prop}
def Jd(d:PlainAttrs T)(slot:Slot T name id)(e:typeOf (.b id)=pure\.t ↑54)(hm:MtR X id r)(f:PE X o to)
  (g:rz o name X.env (m3 o X.env)=m3 o X.env:=by rfl) (i:(apos.endLine==cpos.line)=gn:=by rfl):PE X (.Call (.Attribute o name apos) [] [] cpos) (tBM0 [] T r to):=by
 lk;intro Q I h;show M0 g i (thn (f Oo s Z H _ I h) λv s1 j=>?_);let#[x,H1,b,c,ty,l]:=j;let#[h1,h2]:=yS b c ty;erw[T,id,d,slot,e,h1,h2,lM rfl\ML (hm Oo s1 Z H1 x [] v [] Q b c .nil l)]
def cP(f:PlainAttrs T)(slot:Slot T name id)(g:typeOf (.b id)=pure\.t ↑54)(hm:MtR X id r)(i:PE X o to)(ha:PA X (e::es) t)
  (j:rz o name X.env (m3 o X.env)=m3 o X.env:=by rfl)
  (l:((mu cpos\hM (e::es) X.env).all (λx=>!x.1)&&(backToKw cpos\keywordEach [] X.env).all (λx=>x.1.isSome)
   && decide (↑(e::es)+↑([]:-Keyword)+(if ([]:-Keyword).isEmpty then 0 else 1)<30))=gn:=by rfl)
  (m:(apos.endLine==cpos.line)=gn:=by rfl) (n:hM (e::es) X.env=(gB,m3 e X.env)::hM es X.env:=by rfl) (p:(mu cpos\hM es X.env).any (·.1)=gB:=by rfl) :
  PE X (.Call (.Attribute o name apos) (e::es) [] cpos) (tBM [] T r to t):=by
 lk;intro Q I h;show M3 j l m rfl (thn (i Oo s Z H _ I h) λv s1 q=>?_);let#[x,H1,b,c,ty,u]:=q;let#[h1,h2]:=yS b c ty;erw[T,id,f,slot,g,h1,h2,?_];let d:=ha cpos Oo s1 Z H1 _ b u;rw[n] at d |-;show lM (by change (gB||(mu cpos\hM es X.env).any (·.1))=gB;rw[p]<;>rfl)\qX ?_;show thn d λus s2 ⟨vs,H2,w,y,z⟩=>hm Oo s2 Z H2 x vs v us Q w c y z
end
end L2
namespace L2
open PySem PySem.Spec PyProof.Rows
def MtM(X:Cx)(id:String)(r:V->-V->Hp->VK->Prop):Prop:=
 ∀(Oo:-(gL×Obj))(s:hA)(Z:St)(H:Hp)(x:V)(xs:-V)(v:gE)(us:-gE)(Q:VK),!Inv H s->aB x v->Vals xs us->r x xs H Q->
  hB ⇑X X.A (call (.b id) (v::us)) (EP X Oo Z Q) X.xe s
def Vals.one{x:V}(h:Vals [x] us):∃u,us=[u]/\aB x u:=by
 cases h with
 |cons r t=>cases t;erw[2,r]
def Vals.two{x y:V}(h:Vals [x,y] us):∃u v,us=[u,v]/\aB x u/\aB y v:=by
 cases h with
 |cons r t=>
  let#[v,1,q]:=Vals.one t;erw[_,v,1,r,q]
def Vals.zero:∀{us:-gE},Vals [] us->us=[]
 |_,.nil=>rfl
def Vals.dropLast(h:Vals xs us):Vals xs.dropLast us.dropLast:=by
 induction h with
 |nil=>show .nil
 |cons r t b=>
  cases t with
  |nil=>show .nil
  |cons q t'=>show .c r b
def Vals.eraseIdx:∀{xs:-V}{us:-gE}(i:Nat),Vals xs us->Vals (xs.eraseIdx i) (us.eraseIdx i)
 |_,_,_,.nil=>.nil
 |_,_,0,.cons _ t=>t
 |_,_,i+1,.cons r t=>.c r\Vals.eraseIdx i t
def CA{α:Type}(l:List α):l.eraseIdx (↑l-1)=l.dropLast:=by
 induction l with
 |nil=>rfl
 |cons a r c=>
  cases r with
  |nil=>rfl
  |cons b r=>
   let e:↑(a::b::r)-1=(↑(b::r)-1)+1:=by let h1:↑(a::b::r)=↑r+2:=rfl;let h2:↑(b::r)=↑r+1:=rfl;lia
   rw[e,List.eraseIdx_cons_succ,c]
   all_goals rfl
def wF{α:Type}:∀(l:List α)(i:Nat),↑(l.eraseIdx i)<=↑l
 | [],_=>au _
 |_::_,0=>nX _
 |_::r,i+1=>Nat.succ_le_succ\wF r i
section
variable {l b:gL}{xs ys zs:-V}
def Inv.lset{b its':-gE}{n:Nat}{f:Array gE->Array gE}{t':Nat}(I:!Inv H s)(c:H l*>.a xs)
  (e:s.heap.get? l*>{cls:=.t ↑15,data:=.e b.toArray n}) (hf:f b.toArray=its'.toArray) (d:Vals ys its') (g:↑ys<=hH) :
  !Inv (upd H l\.a ys) {s with heap:=s.heap.update l\Obj.mapSeq f,toks:=t'}:=by
 let q:=PySem.IsL.update e f;rw[hf] at q;show I.write (x:=l) (e:=l) (by rw[c];show trivial) (.l rfl) (λj u h i=>(nF s.heap (Obj.mapSeq f)\aO h)<*i) #[_,q] ?_;erw[g,its',_,d,q]
def Inv.lnew{b:-gE}{t':Nat}(I:!Inv H s)(c:Vals ys b)(d:↑ys<=hH) :
  !Inv (upd H ↥s\.a ys) {s with heap:=s.heap.push {cls:=.t ↑15,data:=.e b.toArray},toks:=t'}:=
 I.laid (λ_ _ q=>bh _ q) (au _) #[d,b,(0),c,bX _ rfl]
def Inv.fresh(I:!Inv H s):H ↥s=gf:=I.hok.fresh\au _
def Inv.lstM(I:!Inv H s)(c:H l*>.a xs):↑xs<=hH/\∃(b:-gE)(n:Nat),Vals xs b/\↑xs=↑b/\s.heap.get? l*>{cls:=.t ↑15,data:=.e b.toArray n}:=by let#[z,b,n,r,e]:=I.hok l _ c;erw[z,b,n,r,↑r,e]
end
section
def Eg(x:V)(vs:-V)(H:Hp)(Q:VK)(l:gL)(xs:-V)(y:V):Prop:=x=.r l/\vs=[y]/\H l*>.a xs/\↑xs<hH/\WrO H l (.a (xs++[y]))\Q .non
def F_:V->-V->Hp->VK->Prop:=λx vs H Q=>Exists\Ex3 (Eg x vs H Q)
def dJ:MtM X "list.append" F_:=by lk;intro x vs v us Q I d f h;let#[l,xs,y,5,b,i,q]:=h;cases d;let#[u,1,g]:=f.one;let#[z,c,n,r,j,e]:=I.lstM b;show vp F.slot_list_append #[_,e,1] F.entry_list_append (F.args_list_append_2 _ _) (PySem.list_append l c.toArray n u (by rw[bM];lia)) #[e,?_];erw[.non,_,I.lset (its':=c++[u]) b e ∅ (r.append\.c g .nil) ?_,1,q.at];rw[aE,ck];lia
def KF(x:V)(vs:-V)(H:Hp)(Q:VK)(l:gL)(xs:-V)(y:V):Prop:=x=.r l/\vs=[]/\H l*>.a xs/\xs[↑xs-1]?*>y/\WrO H l (.a xs.dropLast)\Q y
def rPop:V->-V->Hp->VK->Prop:=λx vs H Q=>Exists\Ex3 (KF x vs H Q)
def Jl:MtM X "list.pop" rPop:=by
 lk;intro x vs v us Q I d f h;let#[l,xs,y,5,c,g,q]:=h;cases d;let i:=f.zero;subst i;let#[z,b,n,r,j,e]:=I.lstM c;let#[u,m,o]:=r.get g;let p:b.toArray[b.toArray.size-1]?*>u:=by change b.toArray[↑b-1]?*>u;rw[<-ip,<-j];show m
 show vp F.slot_list_pop #[_,e,1] F.entry_list_pop (F.args_list_pop_1 _) (MeetsSeq.list_pop_last l b.toArray n u p (by rw[bM];lia)) #[e,?_];erw[y,_,I.lset (its':=b.dropLast) c e ?_ r.dropLast ?_,o,q.at]
 .change b.toArray.eraseIdxIfInBounds (b.toArray.size-1)=b.dropLast.toArray;rw[bM,LC,CA]
 rw[List.length_dropLast];lia
def F4(x:V)(vs:-V)(H:Hp)(Q:VK)(l:gL)(xs:-V)(i:Int)(k:Nat)(y:V):Prop:=x=.r l/\vs=[.i i]/\H l*>.a xs/\-(2 ^ 63)<=i/\i<2 ^ 63/\seqIndex? i ↑xs*>k/\xs[k]?*>y/\WrO H l (.a\xs.eraseIdx k)\Q y
def zh:V->-V->Hp->VK->Prop:=λx vs H Q=>Exists\Ex5 (F4 x vs H Q)
def pb:MtM X "list.pop" zh:=by
 lk;intro x vs v us Q I d f h;let#[l,xs,i,k,y,5,c,h1,h2,g,j,q]:=h;cases d;let#[#[u,1,m],#[t,1],#[z,b,n,r,o,e],#[w,hw,p]]:=#[f.one,m,I.lstM c,r.get j];show vp F.slot_list_pop #[_,e,1] F.entry_list_pop (F.args_list_pop_2 _ _)
  (MeetsSeq.list_pop_at l b.toArray n i t k w (MU h1 h2) (by rw[bM,<-o];show g) (by rw[<-ip];show hw) (by rw[bM];lia)) #[e,?_]
 erw[y,_,I.lset (its':=b.eraseIdx k) c e ?_ (r.eraseIdx k) ?_,p,q.at]
 .change b.toArray.eraseIdxIfInBounds k=(b.eraseIdx k).toArray;rw[LC]
 have:=wF xs k;lia
def KO(x y:V)(H:Hp)(Q:VK)(l b:gL)(xs zs:-V):Prop:=x=.r l/\y=.r b/\H l*>.a xs/\H b*>.a zs/\↑xs+↑zs<=hH/\fP H (.a (xs++zs)) Q
def rCat:R2:=λx y H Q=>Exists\Ex4 (KO x y H Q)
def fJ:OpR X (binaryOp .Add) rCat:=by lk;intro x y v u Q I f g h;let#[l,b,xs,zs,5,i,j,w,q]:=h;cases f;cases g;let#[z,c,n,r,A,e]:=I.lstM i;let#[B,d,C,m,D,o]:=I.lstM j;show PySem.P.add_list e o ?_ (by rw[bM,bM];lia);let p:c.toArray++d.toArray=(c++d).toArray:=∅;rw[p];erw[.r _,_,I.lnew (t':=s.toks) (r.append m) (by rw[aE];lia),1,q.at I.fresh]
end
section
variable {prog:jl}
set_option maxRecDepth 100000 in
end
section
end
end L2
namespace L2
open PySem PySem.Spec PyProof.Rows
section
variable {κ:Type}[DecidableEq κ]
def bu(kvs:-(κ×V))(k:κ):Option V:=(kvs.find? λb=>decide (b.1=k)).map (·.2)
def bV(kvs:-(κ×V))(k:κ)(v:V):-(κ×V):=
 if (kvs.any λb=>decide (b.1=k))=gn then kvs.map (λb=>if b.1=k then (b.1,v) else b) else kvs++[(k,v)]
def jS(kvs:-(κ×V))(k:κ):-(κ×V):=kvs.filter λb=>decide (b.1≠k)
def iG{p:κ×V}{r:-(κ×V)}{k:κ}(e:p.1=k):bu (p::r) k*>p.2:=by simp[bu,nJ,e]
def gz{p:κ×V}{r:-(κ×V)}{k:κ}(e:¬p.1=k):bu (p::r) k=bu r k:=by simp[bu,nJ,e]
def mq(k:κ):∀kvs:-(κ×V),(kvs.any λb=>decide (b.1=k))=(bu kvs k).isSome
 | []=>rfl
 |p::r=>by
  rw[nH];by_cases e:p.1=k
  .simp only[iG e,Ol e,Bool.true_or,Option.isSome_some]
  rw[gz e,Om e,Bool.false_or];show mq k r
def me(kvs:-(κ×V))(k:κ)(v:V):↑(bV kvs k v)<=↑kvs+1:=by
 unfold bV
 split
 .rw[av];lia
 rw[aE,br,iy];lia
def my{kvs:-(κ×V)}{k:κ}(v:V)(h:bu kvs k=gf):bV kvs k v=kvs++[(k,v)]:=by unfold bV;rw[mq,h];show Oi ⋯
def dC.isSome_eq{o:Option V}{u:Option gE}(r:dC o u):o.isSome=u.isSome:=by
 cases o with
 |none=>cases u with
  |none=>rfl
  |some _=>show (show False from r).elim
 |some _=>cases u with
  |none=>show (show False from r).elim
  |some _=>rfl
def dC.getD{o:Option V}{u:Option gE}{d:V}{d':gE}(r:dC o u)(rd:aB d d'):aB (o.getD d) (u.getD d'):=by
 cases o with
 |none=>cases u with
  |none=>show rd
  |some _=>show (show False from r).elim
 |some _=>cases u with
  |none=>show (show False from r).elim
  |some _=>show r
def KV.val{kvs:-(κ×V)}{vs:-(κ×gE)}(r:KV kvs vs)(k:κ):dC (bu kvs k) (valueAt vs k):=by
 unfold KV at r;induction r with
 |nil=>show True.intro
 | @cons p q ps c h t d=>
  let#[h1,h2]:=h;by_cases e:p.1=k
  .let e':q.1=k:=h1.symm<*e;let b:valueAt (q::c) k*>q.2:=by simp[valueAt,nJ,e']
   rw[iG e,b];show h2
  let e':¬q.1=k:=λz=>e\h1.trans z;let b:valueAt (q::c) k=valueAt c k:=by simp[valueAt,nJ,e']
  rw[gz e,b];show d
def KV.any{kvs:-(κ×V)}{vs:-(κ×gE)}(r:KV kvs vs)(k:κ):(kvs.any λb=>decide (b.1=k))=vs.any λb=>decide (b.1=k):=by
 unfold KV at r;induction r with
 |nil=>rfl
 |cons h t c=>rw[nH,nH,c,h.1]
def KV.repl{kvs:-(κ×V)}{vs:-(κ×gE)}(r:KV kvs vs)(k:κ){y:V}{u:gE}(c:aB y u) :
  KV (kvs.map λb=>if b.1=k then (b.1,y) else b) (vs.map λb=>if b.1=k then (b.1,u) else b):=by
 unfold KV at r |-;induction r with
 |nil=>show .nil
 | @cons p q ps f h t d=>
  rw[bj,bj];show .c ?_ d;let#[h1,h2]:=h;by_cases e:p.1=k
  .rw[Oj e,Oj\h1.symm.trans e];erw[h1,c]
  rw[Oi e,Oi λz=>e\h1.trans z];erw[h1,h2]
def KV.put{kvs:-(κ×V)}{vs:-(κ×gE)}(r:KV kvs vs)(k:κ){y:V}{u:gE}(b:aB y u):KV (bV kvs k y) (stored vs k u):=by
 unfold bV stored;rw[r.any k];by_cases e:(vs.any λc=>decide (c.1=k))=gn
 .rw[Oj e,Oj e];show r.repl k b
 rw[Oi e,Oi e];show Mj r #[1,b]
def KV.drop{kvs:-(κ×V)}{vs:-(κ×gE)}(r:KV kvs vs)(k:κ):KV (jS kvs k) (without vs k):=by
 unfold KV at r |-;unfold jS without;induction r with
 |nil=>show .nil
 | @cons p q ps d h t c=>
  let#[h1,h2]:=h;rw[eu,eu];by_cases e:p.1=k
  .let a:¬decide (p.1≠k)=gn:=by simp[e]
   let b:¬decide (q.1≠k)=gn:=by simp[h1.symm<*e]
   rw[Oi a,Oi b];show c
  let e':¬q.1=k:=λz=>e\h1.trans z;let a:decide (p.1≠k)=gn:=by simp[e]
  let b:decide (q.1≠k)=gn:=by simp[e']
  rw[Oj a,Oj b];show .c #[h1,h2] c
def KV.length{kvs:-(κ×V)}{vs:-(κ×gE)}(r:KV kvs vs):↑kvs=↑vs:=n6 r
def E8(kvs:-(κ×V))(k:κ):↑(jS kvs k)<=↑kvs:=gU _ _
end
def gp{k:Key}{u:gE}(r:aB (kV k) u):(cM P w).is k u=gn:=by
 cases k with
 |inl i=>let#[t,e]:=(show ∃t,u=Value.int i t from r);subst e;show BQ P w i t
 |inr x=>let#[t,e]:=(show ∃t,u=Value.str x t from r);subst e;show BP P w x t
def wG:∀{ks:-Key}{us:-gE},Vals (ks.map kV) us->ItemsAre (cM P w) ks us
 | [],_,r=>by rw[uU] at r;cases r;show .nil
 |k::ks,_,r=>by
  rw[bj] at r;cases r with
  |cons h t=>show .c (gp h)\wG t
abbrev KT(H:Hp):-(-Key×V)->-(-Key×gL×gE)->Prop:=Paired λp q=>p.1=q.1/\H q.2.1*>.u (p.1.map kV)/\aB p.2 q.2.2
def KT.val{kvs:-(-Key×V)}{xs:-(-Key×gL×gE)}(r:KT H kvs xs)(k:-Key):dC (bu kvs k) ((atKey xs k).map (·.2)):=by
 induction r with
 |nil=>show True.intro
 | @cons p q ps c h t d=>
  let#[h1,_,h2]:=h;by_cases e:p.1=k
  .let e':q.1=k:=h1.symm<*e;let b:atKey (q::c) k*>q.2:=by simp[atKey,nJ,e']
   rw[iG e,b];show h2
  let e':¬q.1=k:=λz=>e\h1.trans z;let b:atKey (q::c) k=atKey c k:=by simp[atKey,nJ,e']
  rw[gz e,b];show d
def KT.repl{kvs:-(-Key×V)}{xs:-(-Key×gL×gE)}(r:KT H kvs xs)(k:-Key){y:V}{u:gE}(c:aB y u) :
  KT H (kvs.map λb=>if b.1=k then (b.1,y) else b) (xs.map\putAt k u):=by
 induction r with
 |nil=>show .nil
 | @cons p q ps g h t d=>
  rw[bj,bj];show .c ?_ d;let#[h1,h2,f]:=h;unfold putAt;by_cases e:p.1=k
  .rw[Oj e,Oj\h1.symm.trans e];erw[h1,h2,c]
  rw[Oi e,Oi λz=>e\h1.trans z];erw[h1,h2,f]
def KT.put{kvs:-(-Key×V)}{xs:-(-Key×gL×gE)}(r:KT H kvs xs)(k:-Key){b:gL}{y:V}{u:gE}(d:H b*>.u\k.map kV)(c:aB y u) :
  KT H (bV kvs k y) (storedH xs k b u):=by
 let e:(kvs.any λf=>decide (f.1=k))=(atKey xs k).isSome:=by rw[mq,(r.val k).isSome_eq,AQ]
 unfold bV storedH;rw[e];by_cases q:(atKey xs k).isSome=gn
 .rw[Oj q,Oj q];show r.repl k c
 rw[Oi q,Oi q];show Mj r #[1,d,c]
def KT.keeps{kvs:-(-Key×V)}{xs:-(-Key×gL×gE)}(r:KT H kvs xs)(c:∀b ys,H b*>.u ys->H' b*>.u ys):KT H' kvs xs:=
 Paired.mapP r λ_ _ z=>#[z.1,c>>z.2.1,z.2.2]
section
variable {h:js}{a:gL}
def zX{u:HO}(ok:HOk P w H h)(e:Rd H a u):bJ P w H h a u:=e.ok ok
def eY{kvs:-(Key×V)}(ok:HOk P w H h)(e:Rd H a\.k kvs):↑kvs<=hH/\(a==mc)=gB/\∃vs,KV kvs vs/\h.DictOf (cM P w) a vs:=
 show bJ P w H h a (.k kvs) from zX ok e
def jT{kvs:-(Key×V)}(ok:HOk P w H h)(e:H a*>.k kvs):↑kvs<=hH/\(a==mc)=gB/\∃vs,KV kvs vs/\h.DictOf (cM P w) a vs:=eY ok\.l e
def jM{ks:-Key}(ok:HOk P w H h)(e:H a*>.u\ks.map kV):(tupleKind\cM P w).is h ks a:=by let#[_,b,r,o,h1,h2,n,c]:=(show bJ P w H h a (.u\ks.map kV) from ok a _ e);erw[o,b.toArray,n,h1,h2,c,‹wG r›]
def ie{kvs:-(-Key×V)}(ok:HOk P w H h)(e:Rd H a\.dT kvs):↑kvs<=hH/\(a==mc)=gB/\
  ∃xs,KT H kvs xs/\h.DictOfH (tupleKind\cM P w) a xs:=by
 let#[z,y,xs,r,o,es,ep,h1,h2,d,f,g]:=(show bJ P w H h a (.dT kvs) from zX ok e);erw[z,y,xs,r,o,es,ep,h1,h2,d,f,λx b=>?_,g];let all:∀{l:-(-Key×V)}{m:-(-Key×gL×gE)},KT H l m->∀x∈m,(tupleKind\cM P w).is h x.1 x.2.1:=by
  intro l m q;induction q with
  |nil=>intro x b;show nomatch b
  | @cons p q ps j c t i=>
   intro x b;rcases ah.mp b with e|b
   .subst e;show jM ok (by rw[<-c.1];show c.2.1)
   show i x b
 show all r x b
def Ad{kvs:-(-Key×V)}(ok:HOk P w H h)(e:H a*>.dT kvs):↑kvs<=hH/\(a==mc)=gB/\
  ∃xs,KT H kvs xs/\h.DictOfH (tupleKind\cM P w) a xs:=ie ok\.l e
end
def DGet(H:Hp)(a:gL)(y:V)(r:Option V):Prop:=
 (∃kvs k,Rd H a (.k kvs)/\y=kV k/\r=bu kvs k)\/∃kvs k b,Rd H a (.dT kvs)/\y=.r b/\H b*>.u (k.map kV)/\r=bu kvs k
def DPut(H:Hp)(a:gL)(y v:V)(H':Hp):Prop:=
 (∃kvs k,H a*>.k kvs/\y=kV k/\↑kvs<hH/\H'=upd H a\.k (bV kvs k v)) \/
 ∃kvs k b,H a*>.dT kvs/\y=.r b/\H b*>.u (k.map kV)/\↑kvs<hH/\H'=upd H a\.dT (bV kvs k v)
def DGet.k{a:gL}{kvs:-(Key×V)}{k:Key}(e:H a*>.k kvs):DGet H a (kV k) (bu kvs k):=.l #[kvs,k,.l e,5]
def DGet.t{a b:gL}{kvs:-(-Key×V)}{k:-Key}(e:H a*>.dT kvs)(c:H b*>.u\k.map kV):DGet H a (.r b) (bu kvs k):=.o #[kvs,k,b,.l e,1,c,1]
def DPut.k{a:gL}{kvs:-(Key×V)}{k:Key}{v:V}(e:H a*>.k kvs)(b:↑kvs<hH):DPut H a (kV k) v (upd H a\.k (bV kvs k v)):=.l #[kvs,k,e,1,b,1]
def DPut.t{a b:gL}{kvs:-(-Key×V)}{k:-Key}{v:V}(e:H a*>.dT kvs)(c:H b*>.u\k.map kV)(d:↑kvs<hH) :
  DPut H a (.r b) v (upd H a\.dT (bV kvs k v)):=.o #[kvs,k,b,e,1,c,d,1]
section
variable {a:gL}{y v:V}{u r:gE}{o:Option V}
def Inv.big(I:!Inv H s):mc<↥s:=by let h:hK<↥s:=(I.mod.glob.keeps I.bk).lt;show L_ ⋯ h
def Dx{Q:gE->hA->Prop}(m:A.units+1<n7)(I:!Inv H s)(g:DGet H a y\gm v)(j:aB y u)(h:∀c s',!Inv H s'->aB v c->Q c s') :
  hB ⇑X A (getItem (.r a) u) Q E s:=by
 rcases g with ⟨kvs,k,e,d,l⟩|⟨kvs,k,b,e,d,n,l⟩
 .subst d;let#[z,hd,vs,rel,f]:=eY I.hok e;let#[c,hw,i]:=dC.some_of (v:=v) (o:=valueAt vs k) (by rw[l];show rel.val k);show wpAny_getItem_of (gp j) f.mapOf hw\h c _ (I.tok _) i
 subst d;cases (show u=Value.ref b from j);let#[#[z,hd,xs,rel,f],#[c,hw,i],#[p,q,r]]:=#[ie I.hok e,dC.some_of (v:=v) (o:=(atKey xs k).map (·.2)) (by rw[l];show rel.val k),bQ.mp hw];show wpAny_getItem_heap (og m) (jM I.hok n) f q ?_;rw[r];show h c _ (I.tok _) i
def d_in{Q:gE->hA->Prop}(i:A.units+1<n7)(I:!Inv H s)(g:DGet H a y o)(f:aB y u)(h:∀s',!Inv H s'->Q (.x o.isSome) s') :
  hB ⇑X A (lx .In u\.r a) Q E s:=by
 rcases g with ⟨kvs,k,e,c,l⟩|⟨kvs,k,b,e,c,j,l⟩
 .subst c;let#[z,hd,vs,rel,d]:=eY I.hok e;show wpAny_in_of (gp f) hd d.mapOf ?_;rw[<-(rel.val k).isSome_eq,<-l];show h _\I.tok _
 subst c;cases (show u=Value.ref b from f);let#[z,hd,xs,rel,d]:=ie I.hok e;show wpAny_in_heap (og i) (jM I.hok j) hd d ?_;let q:=(rel.val k).isSome_eq;rw[AQ] at q;rw[<-q,<-l];show h _\I.tok _
def HE{Q:gE->hA->Prop}(i:A.units+1<n7)(I:!Inv H s)(g:DGet H a y o)(f:aB y u)(h:∀s',!Inv H s'->Q (.x (!o.isSome)) s') :
  hB ⇑X A (lx .NotIn u\.r a) Q E s:=by
 rcases g with ⟨kvs,k,e,c,l⟩|⟨kvs,k,b,e,c,j,l⟩
 .subst c;let#[z,hd,vs,rel,d]:=eY I.hok e;show wpAny_notIn_of (gp f) hd d.mapOf ?_;rw[<-(rel.val k).isSome_eq,<-l];show h _\I.tok _
 subst c;cases (show u=Value.ref b from f);let#[z,hd,xs,rel,d]:=ie I.hok e;show wpAny_notIn_heap (og i) (jM I.hok j) hd d ?_;let q:=(rel.val k).isSome_eq;rw[AQ] at q;rw[<-q,<-l];show h _\I.tok _
def jG{h':js}{t':Nat}{ob:HO}(I:!Inv H s)(c:Mut\H a)(d:Heap.SameBut a s.heap h')(he:∃q,h'.get? a*>q)(new:bJ X.prog X.w (upd H a ob) h' a ob) :
  !Inv (upd H a ob) {s with heap:=h',toks:=t'}:=
 I.write (x:=a) (e:=a) c (.l rfl) (λb q f z=>(d.2 b f)<*z) he new
def jN{H':Hp}{h':js}{kvs:-(Key×V)}{vs:-(Key×gE)}(z:↑kvs<=hH)(hd:(a==mc)=gB)(rel:KV kvs vs)(b:h'.DictOf (cM P w) a vs) :
  bJ P w H' h' a (.k kvs):=#[z,hd,vs,rel,b]
def Dw{H':Hp}{Q:Unit->hA->Prop}(K:A.units+1<n7)(I:!Inv H s)(g:DPut H a y v H')(x:aB y u)(B:aB v r)(h:∀s',!Inv H' s'->Q .unit s') :
  hB ⇑X A (setItem (.r a) u r) Q E s:=by
 rcases g with ⟨kvs,k,e,i,l,j⟩|⟨kvs,k,b,e,i,C,l,j⟩
 .subst i j;let#[z,hd,vs,rel,m]:=jT I.hok e;let n:↑vs<=sizeLine:=by rw[<-↑rel];show z
  let o:↑(bV kvs k v)<=sizeLine:=by have:=me kvs k v;lia
  show wpAny_setItem_pairs (hsz:=n) (gp x) m λh' d p=>h _ ?_;let he:∃q,h'.get? a*>q:=let ⟨q,_,_,f,_⟩:=d;#[q,f];show jG I (by rw[e];show True.intro) p he\jN o hd (rel.put k B) d
 subst i j;cases (show u=Value.ref b from x);let#[z,hd,xs,rel,m]:=Ad I.hok e;let n:↑xs<=sizeLine:=by rw[<-n6 rel];show z
 let o:↑(bV kvs k v)<=sizeLine:=by have:=me kvs k v;lia
 show wpAny_setItem_heap (hsz:=n) (og K) (jM I.hok C) m λh' d p=>h _ ?_;let#[q,es,ep,f,h2,L,M,_,N]:=d;show jG I (by rw[e];show True.intro) p #[q,f] #[o,hd,_,(rel.put k C B).keeps λc ys D=>?_,q,es,ep,f,h2,L,M,N];rw[aS\bI D e λz=>nomatch z];show D
end
section
variable {a:gL}{kvs:-(Key×V)}{k:Key}{u:gE}
def Lb{v:V}{more:-gE}{Q:gE->hA->Prop}(I:!Inv H s)(e:H a*>.k kvs)(c:aB (kV k) u)(l:bu kvs k*>v)(hm:more=[]\/∃x,more=[x])
  (h:∀b s',!Inv (upd H a\.k (jS kvs k)) s'->aB v b->Q b s'):hB ⇑X A (call (.b "dict.pop") (.r a::u::more)) Q E s:=by
 let#[z,hd,vs,rel,d]:=jT I.hok e;let#[b,hw,g]:=dC.some_of (v:=v) (o:=valueAt vs k) (by rw[<-l];show rel.val k);let j:(keyPart u).isSome=gn:=by
  cases k with
  |inl i=>let#[t,q]:=(show ∃t,u=Value.int i t from c);subst q;rfl
  |inr x=>let#[t,q]:=(show ∃t,u=Value.str x t from c);subst q;rfl
 let ha:argsOk "dict.pop" #[.r a::u::more,[]]:=by
  rcases hm with q|⟨x,q⟩
  .subst q;show PySem.F.args_dict_pop_2 _ _
  subst q;show PySem.F.args_dict_pop_3 _ _ _
 show kh Mv d.typeIs PySem.F.entry_dict_pop ha (meets_dict_pop_there (cM X.prog X.w) a (gp c) more hm j)
  #[vs,b,d,by rw[<-↑rel];show z,hw,λh' f m=>h b _ ?_ g]
 let he:∃q,h'.get? a*>q:=let ⟨q,_,_,n,_⟩:=f;#[q,n];show jG I (by rw[e];show True.intro) m he\jN (dw (E8 kvs k) z) hd (rel.drop k) f
def Lc{Q:gE->hA->Prop}(I:!Inv H s)(e:Rd H a\.k kvs)(h:∀t s',!Inv H s'->Q (.i ↑kvs t) s'):hB ⇑X A (call (.b "len") [.r a]) Q E s:=by let#[z,hd,vs,rel,b]:=eY I.hok e;show call_len_dict hd b (by rw[<-↑rel];rw[dX] at z;lia) ?_;rw[<-↑rel];show h _ _\I.tok _
end
def NoSl(i:kA):Prop:=∀b c,subscripted i gB b c=operate [b,c]\getItem b c
def Fx{prog:jl}{env:Env}{value slice:kA}{pos:Pos}{T id:String}{Q:gE->hA->Prop}
  (c:typeLookup (.t T) "__getitem__" = pure\gm (.b id)) (d:NoSl slice)
  (h:hB (i3 prog w) A (m3 value env) (λo s₁=>hB (i3 prog w) A (m3 slice env) (λi s₂=>s₂.TypeIs o T/\hB (i3 prog w) A (getItem o i) Q E s₂) E s₁) E s) :
  hB (i3 prog w) A (m3 (.Subscript value slice pos) env) Q E s:=by
 show AY (dq h (λo s₁ h₁=>dq h₁ (λi s₂ h₂=>?_) λ_ _ x=>x) λ_ _ x=>x);let#[b,h₂]:=h₂;unfold subscriptTail;show aa ?_;rw[getitemInPython_of_ne b.not_modules];show aa\Bh b c ?_;let fin:hB (i3 prog w) A (subscripted slice gB o i) (λr s₃=>hB (i3 prog w) A (letTemporaryGo value o r >>= λ_=>pure r) Q E s₃) E s₂:=by rw[d o i];show wpAny_operating (dq h₂ (λr s₃ h₃=>aa\wpAny_letTemporaryGo (aw h₃)) λ_ _ x=>x)
 first
  |show aw\aa fin
  |show aa\aw (aa fin)
  |show aa fin
def BU{a:gL}{y:V}{o:Option V}(I:!Inv H s)(g:DGet H a y o):s.TypeIs (.r a) ↑93:=by
 rcases g with ⟨kvs,k,e,_,_⟩|⟨kvs,k,b,e,_,_,_⟩
 .let#[0,vs,_,c]:=eY I.hok e;show c.typeIs
 let#[0,xs,_,c]:=ie I.hok e;show c.typeIs
def Im(x y:V)(H2:Hp)(Q:VK)(a:gL)(v:V):Prop:=x=.r a/\DGet H2 a y (gm v)/\Q v H2
def Fw(x:V)(Q:VK):VK:=λy H2=>Exists\Ex2 (Im x y H2 Q)
def Il(ty:TE)(Z:St)(Q:VK):VK:=λx H1=>ty Z H1\Fw x Q
def m_(td ty:TE):TE:=λZ H Q=>td Z H\Il ty Z Q
def Ki(x y:V)(H2:Hp)(Q:VK)(a:gL)(o:Option V):Prop:=x=.r a/\DGet H2 a y o/\Q (.bl o.isSome) H2
def Kj(y:V)(Q:VK):VK:=λx H2=>Exists\Ex2 (Ki x y H2 Q)
def Kk(td:TE)(Z:St)(Q:VK):VK:=λy H1=>td Z H1\Kj y Q
def tDIn(ty td:TE):TE:=λZ H Q=>ty Z H\Kk td Z Q
def DJ(x y:V)(H2:Hp)(Q:VK)(a:gL)(o:Option V):Prop:=x=.r a/\DGet H2 a y o/\Q (.bl (!o.isSome)) H2
def DK(y:V)(Q:VK):VK:=λx H2=>Exists\Ex2 (DJ x y H2 Q)
def DL(td:TE)(Z:St)(Q:VK):VK:=λy H1=>td Z H1\DK y Q
def tu(ty td:TE):TE:=λZ H Q=>ty Z H\DL td Z Q
def IJ(D:Ends)(Z:St)(v x y:V)(c:Hp)(a:gL)(b:Hp):Prop:=x=.r a/\DPut c a y v b/\D.nx Z b
def IK(D:Ends)(Z:St)(v x:V):VK:=λy b=>Exists\Ex2 (IJ D Z v x y b)
def IL(ty:TE)(D:Ends)(Z:St)(v:V):VK:=λx H2=>ty Z H2\IK D Z v x
def IM(td ty:TE)(D:Ends)(Z:St):VK:=λv H1=>td Z H1\IL ty D Z v
def Kx(td ty tv:TE):TS:=λD Z H=>tv Z H\IM td ty D Z
section
variable {o i e value:kA}{pos pos' tpos:Pos}{td ty tv:TE}
def f_(d:X.A.units+1<n7)(e:PE X o td)(hi:PE X i ty)(f:NoSl i):PE X (.Subscript o i pos) (m_ td ty):=by lk;intro Q I h;show Fx PySem.F.slot_dict_getitem.lookup f (thn (e Oo s Z H _ I h) λu s1 b=>?_);let#[x,H1,j,l,m]:=b;show thn (hi Oo s1 Z H1 _ j m) λw s2 b=>?_;let#[y,H2,c,n,a,v,ex,g,p]:=b;subst ex;obtain rfl:u=Value.ref a:=l;erw[BU c g,Dx d c g n λz B q r=>#[v,H2,q,r,p]]
def mY(b:X.A.units+1<n7)(hi:PE X i ty)(c:PE X o td):PC X .In i o (tDIn ty td):=by lk;intro Q I h;show thn (hi Oo s Z H _ I h) λr s1 ⟨y,H1,d,e,f⟩=>thn (c Oo s1 Z H1 _ d f) λu s2 j=>?_;let#[x,H2,l,m,a,n,ex,g,p]:=j;subst ex;obtain rfl:u=Value.ref a:=m;show d_in b l g e λv q=>#[.bl n.isSome,H2,q,1,p]
def g6(b:X.A.units+1<n7)(hi:PE X i ty)(c:PE X o td):PC X .NotIn i o (tu ty td):=by lk;intro Q I h;show thn (hi Oo s Z H _ I h) λr s1 ⟨y,H1,d,e,f⟩=>thn (c Oo s1 Z H1 _ d f) λu s2 j=>?_;let#[x,H2,l,m,a,n,ex,g,p]:=j;subst ex;obtain rfl:u=Value.ref a:=m;show HE b l g e λv q=>#[.bl (!n.isSome),H2,q,1,p]
def gF(b:X.A.units+1<n7)(c:PE X o td)(hi:PE X i ty)(d:PE X value tv)(e:swapsWith value (gm\.Subscript o i pos') pos.line X.env=pure gB) :
  PS X (.Assign [.Subscript o i pos'] value pos) (Kx td ty tv):=by
 lk;intro D I h;show wpAny_Assign_Subscript (thn (d Oo s Z H _ I h) λr s1 ⟨v,H1,f,j,l⟩=>thn (c Oo s1 Z H1 _ f l) λu s2 ⟨x,H2,m,n,p⟩=>thn (hi Oo s2 Z H2 _ m p) λK L q=>?_) e;let#[y,M,w,z,a,B,ex,g,C]:=q;subst ex;obtain rfl:u=Value.ref a:=n;show Dw b w g z j λN E=>#[Z,B,E,C]
end
def sX(h:js)(b:mc<h.objs.size):bJ P w H (h.push {cls:=.t ↑93,data:=.y\tA []}) h.objs.size (.k []):=
 #[aV _,beq_eq_false_iff_ne.mpr\aO (bz b),[],.nil,Nh h]
def E6(h:js)(b:mc<h.objs.size):bJ P w H (h.push {cls:=.t ↑93,data:=.y\tA []}) h.objs.size (.dT []):=
 #[aV _,beq_eq_false_iff_ne.mpr\aO (bz b),[],.nil,_,(tA []),(0),bX _ rfl,#[5,1],5,jh]
def Ik:TE:=λ_ H Q=>fP H (.k []) Q
def Ij:TE:=λ_ H Q=>fP H (.dT []) Q
section
variable {pos:Pos}
def iJ:PE X (.Dict [] [] pos) Ik:=λOo s Z H Q I h=>
 M5 #[.r ↥s,_,I.laid (a:=↥s) (o:=.k []) (t':=s.toks) (λ_ _ q=>bh _ q) (au _)\sX s.heap I.big,1,fP.at h\I.hok.fresh (au _)]
def xp:PE X (.Dict [] [] pos) Ij:=λOo s Z H Q I h=>
 M5 #[.r ↥s,_,I.laid (a:=↥s) (o:=.dT []) (t':=s.toks) (λ_ _ q=>bh _ q) (au _)\E6 s.heap I.big,1,fP.at h\I.hok.fresh (au _)]
end
def t7:-(TE×TE)->St->Hp->(-(V×V)->Hp->Prop)->Prop
 | [],_,H,Q=>Q [] H
 |(tk,tv)::r,Z,H,Q=>tk Z H λx H1=>tv Z H1 λy H2=>t7 r Z H2 λps b=>Q ((x,y)::ps) b
abbrev VV:-(V×V)->-(gE×gE)->Prop:=Paired λp q=>aB p.1 q.1/\aB p.2 q.2
def PPs(X:Cx)(pos:Pos)(keys:List\Option kA)(values:-kA)(trs:-(TE×TE)):Prop:=
 ∀(Oo:-(gL×Obj))(s:hA)(Z:St)(H:Hp)(Q:-(V×V)->Hp->Prop),!Inv H s->t7 trs Z H Q->
  hB ⇑X X.A (evalPairs\pairTrees keys values X.env pos) (λvs s'=>∃ps H',!Inv H' s'/\VV ps vs/\Q ps H') X.xe s
def Gc{pos:Pos}:PPs X pos [] [] []:=λOo s Z H Q I h=>pairTrees_nil_walk #[[],H,I,.nil,h]
def Ei{pos:Pos}{k v:kA}{ks:List\Option kA}{vs:-kA}{tk tv:TE}{trs:-(TE×TE)}(b:PE X k tk)(c:PE X v tv)(d:PPs X pos ks vs trs) :
  PPs X pos (gm k::ks) (v::vs) ((tk,tv)::trs):=λOo s Z H Q I h=>
 pairTrees_cons_walk (thn (b Oo s Z H _ I h) λu s1 ⟨x,H1,e,f,g⟩=>thn (c Oo s1 Z H1 _ e g) λp s2 ⟨y,H2,i,j,l⟩=>
  thn (d Oo s2 Z H2 _ i l) λws q ⟨ps,m,n,rel,o⟩=>#[(x,y)::ps,m,n,.c #[f,j] rel,o])
def iV(kvs more:-(Key×V)):-(Key×V):=more.foldl (λacc b=>bV acc b.1 b.2) kvs
def KV.merge:∀{more:-(Key×V)}{rs:-(Key×gE)}{kvs:-(Key×V)}{vs:-(Key×gE)},KV more rs->KV kvs vs->KV (iV kvs more) (merged vs rs):=by
 intro more rs kvs vs r;unfold KV at r;induction r generalizing kvs vs with
 |nil=>intro q;show q
 | @cons p q ps d h t b=>
  intro c;let e:KV (bV kvs p.1 p.2) (stored vs q.1 q.2):=by have:=c.put p.1 h.2;rw[<-h.1];show this
  show b e
def rO:∀(more kvs:-(Key×V)),↑(iV kvs more)<=↑kvs+↑more
 | [],kvs=>by change ↑kvs<=↑kvs+0;lia
 |p::r,kvs=>by
  let h1:=rO r\bV kvs p.1 p.2;let h2:=me kvs p.1 p.2;change ↑(iV (bV kvs p.1 p.2) r)<=_;rw[br];lia
def we{P:jl}{w:lp}:∀{kvs:-(Key×V)}{ws:-(gE×gE)},VV (kvs.map λd=>(kV d.1,d.2)) ws->∃rs,Carries (cM P w) ws rs/\KV kvs rs
 | [],_,r=>by rw[uU] at r;cases r;erw[[],True.intro,.nil]
 |p::kvs,_,r=>by
  rw[bj] at r;cases r with
  | @cons a b as bs h t=>
   let#[rs,c,q]:=we (P:=P) (w:=w) t;let#[f,e]:=b;erw[(p.1,e)::rs,#[gp h.1,1,c],.c #[1,h.2] q]
def Kd(trs:-(TE×TE)):TE:=λZ H Q=>∀p,H p=gf->t7 trs Z (upd H p\.k []) λps H2=>H2 p*>.k []/\∃kvs:-(Key×V),ps=kvs.map (λb=>(kV b.1,b.2))/\↑kvs<=15/\Q (.r p)\upd H2 p (.k\iV [] kvs)
def Ge{pos:Pos}{keys:List\Option kA}{values:-kA}{trs:-(TE×TE)}(h:PPs X pos keys values trs)(f:keys.all (·.isSome)=gn)(g:↑keys=↑values)(i:keys≠[])
  (j:↑keys<=15):PE X (.Dict keys values pos) (Kd trs):=by
 lk;intro Q I q;let l:=I.hok.fresh\au ↥s;let m:=I.laid (a:=↥s) (o:=.k []) (h':=s.heap.push {cls:=.t ↑93,data:=.y\tA []}) (t':=s.toks) (λ_ _ q=>bh _ q) (au _)\sX s.heap I.big;show wpAny_Dict_walk (knd:=cM X.prog X.w) f g i j (thn (h Oo _ Z _ _ m\q _ l) λws s2 n=>?_);let#[ps,H2,b,rel,e,kvs,ep,lk,p]:=n;subst ep;let#[rs,c,rk]:=we (P:=X.prog) (w:=X.w) rel;let#[z,hd,A,r,u]:=jT b.hok e;cases r;erw[rs,c,u,λh' d v=>#[.r ↥s,_,?_,1,p]];let x:↑(iV [] kvs)<=sizeLine:=by let h1:=rO kvs [];rw[iy] at h1;rw[dX];lia
 let he:∃q,h'.get? ↥s*>q:=let ⟨q,_,_,y,_⟩:=d;#[q,y];show jG b (by rw[e];show True.intro) v he\jN x hd (rk.merge .nil) d
structure M1(X:Cx)(o:kA)(m:Str)(apos:Pos)(e:kA)(cpos:Pos):Prop where
 base:rz o m X.env (m3 o X.env)=m3 o X.env
 few:((mu cpos\hM [e] X.env).all (λx=>!x.1)&&(backToKw cpos\keywordEach [] X.env).all (λx=>x.1.isSome)
  && decide (↑([e]:-kA)+↑([]:-Keyword)+(if ([]:-Keyword).isEmpty then 0 else 1)<30))=gn
 line:(apos.endLine==cpos.line)=gn
 trees:mu cpos (hM [e] X.env)=[(gB,m3 e X.env)]
structure M2(X:Cx)(o:kA)(m:Str)(apos:Pos)(e f:kA)(cpos:Pos):Prop where
 base:rz o m X.env (m3 o X.env)=m3 o X.env
 few:((mu cpos\hM [e,f] X.env).all (λx=>!x.1)&&(backToKw cpos\keywordEach [] X.env).all (λx=>x.1.isSome)
  && decide (↑([e,f]:-kA)+↑([]:-Keyword)+(if ([]:-Keyword).isEmpty then 0 else 1)<30))=gn
 line:(apos.endLine==cpos.line)=gn
 trees:mu cpos (hM [e,f] X.env)=[(gB,m3 e X.env),(gB,m3 f X.env)]
def IsD(H:Hp)(a:gL):Prop:=(∃kvs,Rd H a\.k kvs)\/∃kvs,Rd H a\.dT kvs
def qx{a:gL}(I:!Inv H s)(d:IsD H a) :
  s.TypeIs (.r a) ↑93/\(∀b,Value.ref a=.r b->∃ob,s.heap.get? b*>ob/\ob.dict=gf)/\(a==mc)=gB:=by
 rcases d with ⟨kvs,e⟩|⟨kvs,e⟩
 .let#[_,hd,vs,_,c]:=eY I.hok e;erw[c.typeIs,λb q=>?_,hd];cases q;let#[ob,0,h1,h2,_]:=c;erw[ob,h1,h2.2.1]
 let#[_,hd,xs,_,c]:=ie I.hok e;erw[c.typeIs,λb q=>?_,hd];cases q;let#[ob,0,h1,h2,_]:=c;erw[ob,h1,h2.2.1]
section
variable {a:gL}{y d:V}{u r:gE}{o:Option V}
def JU{Q:gE->hA->Prop}(j:A.units+1<n7)(I:!Inv H s)(g:DGet H a y o)(f:aB y u)(h:∀i s',!Inv H s'->aB (o.getD .non) i->Q i s') :
  hB ⇑X A (call (.b "dict.get") [.r a,u]) Q E s:=by
 rcases g with ⟨kvs,k,e,d,l⟩|⟨kvs,k,b,e,d,m,l⟩
 .subst d;let#[z,hd,vs,rel,c]:=eY I.hok e;show kh n9 c.typeIs u_ (Mm _ _) (meets_dict_get (cM X.prog X.w) a (gp f) hd) #[_,c.mapOf,h _ _ (I.tok _) ?_];rw[l];show (rel.val k).getD rfl
 subst d;cases (show u=Value.ref b from f);let#[z,hd,xs,rel,c]:=ie I.hok e;show kh n9 c.typeIs u_ (Mm _ _) (meetsH_dict_get (tupleKind\cM X.prog X.w) a b hd) #[og j,k,xs,jM I.hok m,c,h _ _ (I.tok _) ?_];rw[l];show (rel.val k).getD rfl
def JT{Q:gE->hA->Prop}(m:A.units+1<n7)(I:!Inv H s)(g:DGet H a y o)(i:aB y u)(rd:aB d r)(h:∀j s',!Inv H s'->aB (o.getD d) j->Q j s') :
  hB ⇑X A (call (.b "dict.get") [.r a,u,r]) Q E s:=by
 rcases g with ⟨kvs,k,e,f,l⟩|⟨kvs,k,b,e,f,n,l⟩
 .subst f;let#[z,hd,vs,rel,c]:=eY I.hok e;show kh n9 c.typeIs u_ (Mn _ _ _) (meets_dict_get_default (cM X.prog X.w) a (gp i) hd r) #[_,c.mapOf,h _ _ (I.tok _) ?_];rw[l];show (rel.val k).getD rd
 subst f;cases (show u=Value.ref b from i);let#[z,hd,xs,rel,c]:=ie I.hok e;show kh n9 c.typeIs u_ (Mn _ _ _) (meetsH_dict_get_default (tupleKind\cM X.prog X.w) a b hd r) #[og m,k,xs,jM I.hok n,c,h _ _ (I.tok _) ?_];rw[l];show (rel.val k).getD rd
end
def Kn(a:gL)(Q:VK)(y:V)(H2:Hp)(o:Option V):Prop:=DGet H2 a y o/\Q (o.getD .non) H2
def Kl(a:gL)(Q:VK):VK:=λy H2=>Exists\Kn a Q y H2
def Ko(ty:TE)(Z:St)(Q:VK)(x:V)(H1:Hp)(a:gL):Prop:=x=.r a/\IsD H1 a/\ty Z H1\Kl a Q
def Km(ty:TE)(Z:St)(Q:VK):VK:=λx H1=>Exists\Ko ty Z Q x H1
def Ip(td ty:TE):TE:=λZ H Q=>td Z H\Km ty Z Q
def Io(td ty tx:TE):TE:=λZ H Q=>td Z H λx H1=>∃a,x=.r a/\IsD H1 a/\ty Z H1 λy H2=>tx Z H2 λz b=>∃o,DGet b a y o/\Q (o.getD z) b
def Kg(a:gL)(Q:VK)(y:V)(H2:Hp)(kvs:-(Key×V))(k:Key)(v:V):Prop:=H2 a*>.k kvs/\y=kV k/\bu kvs k*>v/\WrO H2 a (.k\jS kvs k)\Q v
def Ke(a:gL)(Q:VK):VK:=λy H2=>Exists\Ex3 (Kg a Q y H2)
def Kh(ty:TE)(Z:St)(Q:VK)(x:V)(H1:Hp)(a:gL):Prop:=x=.r a/\IsD H1 a/\ty Z H1\Ke a Q
def Kf(ty:TE)(Z:St)(Q:VK):VK:=λx H1=>Exists\Kh ty Z Q x H1
def Ii(td ty:TE):TE:=λZ H Q=>td Z H\Kf ty Z Q
section
variable {o e f:kA}{apos cpos:Pos}{td ty tx:TE}
def xq(c:X.A.units+1<n7)(f:PE X o td)(he:PE X e ty)(m:M1 X o "get" apos e cpos):PE X (.Call (.Attribute o "get" apos) [e] [] cpos) (Ip td ty):=by lk;intro Q I h;show A7 m.base m.few m.line lY n9 MA (thn (f Oo s Z H _ I h) λu s1 i=>?_);let#[x,H1,b,j,a,ex,d,l]:=i;subst ex;obtain rfl:u=Value.ref a:=j;let#[n,p,_]:=qx b d;erw[n,p,?_];rw[m.trees];show lM rfl\qX (lN (thn (he Oo s1 Z H1 _ b l) λB s2 ⟨y,H2,q,r,C,g,v⟩=>uN ?_));show JU c q g r λD E w z=>#[_,H2,w,z,v]
def Em(c:X.A.units+1<n7)(i:PE X o td)(he:PE X e ty)(hf:PE X f tx)(m:M2 X o "get" apos e f cpos):PE X (.Call (.Attribute o "get" apos) [e,f] [] cpos) (Io td ty tx):=by
 lk;intro Q I h;show A7 m.base m.few m.line lY n9 MA (thn (i Oo s Z H _ I h) λu s1 j=>?_);let#[x,H1,b,l,a,ex,d,n]:=j;subst ex;obtain rfl:u=Value.ref a:=l;let#[p,q,_]:=qx b d;erw[p,q,?_];rw[m.trees];show lM rfl\qX (lN (thn (he Oo s1 Z H1 _ b n) λM s2 ⟨y,H2,r,v,w⟩=>
  lN (thn (hf Oo s2 Z H2 _ r w) λN O ⟨z,B,C,D,P,g,E⟩=>uN ?_)))
 show JT c C g v D λR S K L=>#[_,B,K,L,E]
def El(c:PE X o td)(he:PE X e ty)(m:M1 X o "pop" apos e cpos):PE X (.Call (.Attribute o "pop" apos) [e] [] cpos) (Ii td ty):=by lk;intro Q I h;show A7 m.base m.few m.line lY Mv PySem.F.type_dict_pop (thn (c Oo s Z H _ I h) λu s1 f=>?_);let#[x,H1,b,g,a,ex,d,i]:=f;subst ex;obtain rfl:u=Value.ref a:=g;let#[j,n,_]:=qx b d;erw[j,n,?_];rw[m.trees];show lM rfl\qX (lN (thn (he Oo s1 Z H1 _ b i) λC s2 ⟨y,H2,p,q,kvs,k,v,r,w,l,z⟩=>uN ?_));subst w;show Lb p r q l (.l rfl) λD E A B=>#[v,_,A,B,WrO.at z]
end
section
variable {a:gL}{kvs:-(Key×V)}
def E9{Q:gE->hA->Prop}(I:!Inv H s)(e:Rd H a\.k kvs)(h:∀p s',H p=gf->!Inv (upd H p\.k kvs) s'->Q (.r p) s'):hB ⇑X A (call (.t ↑93) [.r a]) Q E s:=by let#[z,hd,vs,rel,d]:=eY I.hok e;show kt_call_dict hd d (by rw[<-↑rel];show z) λh' f g=>?_;show h _ _ (I.hok.fresh\au _)\I.laid (a:=↥s) (o:=.k kvs) (t':=s.toks) (λb q c=>?_) (au _) (jN z (beq_eq_false_iff_ne.mpr\aO (bz I.big)) rel f);show (g.2 b\bz (aX c)).trans\bh _ c
end
section
variable {a:gL}{y:V}{u:gE}
end
end L2
namespace Att
open PySem PySem.W PySem.Calls PyProof.Rows
def Bj{P:Params}{h:js}:∀(ns:-Int)(vs:-gE),WellAll P h vs (ns.map WData.int)->u0 vs ns:=by
 intro ns;induction ns with
 |nil=>
  intro vs w;rw[uU] at w;cases w;show .nil
 |cons n ns c=>
  intro vs w;rw[bj] at w;cases w with
  |cons a b=>
   cases a;show .c _ _\c _ b
def CP{l:OpenLaw}{n:Nat}(g:l.most*>n){P:Params}{h:js}{args:-WData}{vals:-gE}
  (e:l.row.toRowW.claim.pre args=gn) (i:WellAll P h vals args) :
  ∃a vs ns,vals=[Value.ref a]/\args=[WData.list\ns.map WData.int]/\h.get? a*>{cls:=.t ↑15,data:=.e vs.toArray}/\u0 vs ns/\↑ns<=n:=by
 let j:WShape.hasAll [] args [.list .int]=gn:=(pre_splitW e).1;let f:l.pre.holds [] {args:=args}=gn:=(pre_splitW e).2;let#[d,r,1,h1,h2]:=hasAllW_cons j;obtain rfl:=hasAllW_nil h2;let#[xs,1,m]:=hasW_list h1;let#[ns,1]:=items_int m;let hlen:↑ns<=n:=by
  unfold OpenLaw.pre at f;let b:(WTm.not\.lt (.lit\.i (n:Int)) (.len\.arg 0)).holds [] {args:=[.list\ns.map .int]}=gn:=by let b:=(holds_andW f).1;rw[g] at b;show b
  let c:=condW_of b\w_not (w_lt w_lit\w_len_list (w_arg rfl));rw[av] at c;show L6 λq=>?_;let o:(n:Int)<((↑ns:Nat):Int):=()
  first
   |(rw[Ol o] at c;show absurd c ⋯)
   |(simp at c;lia)
 cases i with
 |cons p s=>
  cases s;cases p with
  |list u v=>erw[0,ns,5,u,Bj ns _ v,hlen]
def CU(l:OpenLaw)(args:-WData):l.row.toRowW.claim.post args (.x gn) args=gn:=
 postW_of (r:=l.row.toRowW) (X:=(gn==gn))
  (show WShape.has [] (.x gn) .bool=gn by first|rfl|decide|simp[WShape.has,WShape.arms,WShape.armsAll])
  (show (WTm.eq .res\.lit (.x gn)).value [] {args:=args,res:=gm\.x gn,after:=args}*>.x (gn==gn) from w_eq_bool (w_res rfl) w_lit) rfl
def attach_call{l:OpenLaw}{n:Nat}{q:jl}{loose:-Str}{XP:(Str->Option gE)->js->Prop}{YP:lp->js->Prop}{d:DefRec}
  (c:l.most*>n) (e:d.params.defaults=[])
  (call:∀(w:lp)(s₀ s₁:hA)(mg mb:Str->Option gE)(fa:gL)(o:Obj)(pm cd doc:gE)(a:gL)(vs:-gE)(ns:-Int),
   Ground q loose [] XP w s₀ mg mb s₁.heap->YP w s₁.heap->
   s₁.heap.get? fa*>o->o.data=.func (docDef d.name d.params d.body d.scope pm cd doc)->s₁.heap.CodeRec cd d.name->mg d.name*>.r fa->
   s₁.heap.get? a*>{cls:=.t ↑15,data:=.e vs.toArray}->u0 vs ns->↑ns<=n->s₁.gens=(tA [])->
   mE (i3 l.prog w) callerA (.call (.r fa) #[[.r a],[]]) (λr s'=>r=.ok (.ret\.x gn)/\OldK s₁.heap s'.heap/\s'.os=s₁.os/\AllBare s'.gens) s₁) :
  WalkO q loose XP YP l.row.toRowW d [] (λf vs=>PySem.call f vs):=by
 intro w s₀ s₁ mg mb G Y fa o pm cd doc g kV h hd i b j m args vals as p A B u C;obtain rfl:g=.none:=Dflts.none b e;obtain rfl:kV=.none:=Dflts.noKw b;let#[a,vs,ns,5,v,hints,hlen]:=CP c p u;show enter_call (vq (call w s₀ s₁ mg mb fa o pm cd doc a vs ns G Y h (fd_plain hd) i j v hints hlen m) λr s' x=>?_);let#[1,h2,y,z]:=x;erw[.l #[.x gn,.x gn,[],1,λ_=>rfl,.x gn,CU l _,λ_=>#[List.Pairwise.nil,λ_ hm=>(nomatch hm)]],h2,y,z]
section
variable {prog:jl}{K:Frag}
end
end Att
namespace L2
open PySem PySem.Spec PyProof.Rows
def wm:∀{vs:-gE}{ns:-Int},u0 vs ns->Vals (ns.map V.int) vs
 |_,_,.nil=>.nil
 |_,_,.cons n t h=>.c #[t,1]\wm h
def Only(H:Hp):Prop:=∀b,H b=gf\/∃o xs,H b*>.z o\.a xs
def EN{P:jl}{w:lp}{mg mb:Str->Option gE}{CX:CXT}{k:Nat}{fa a:gL}{fd:i4}{x:Str}{sp:Sp}{s₁:hA}{vs:-gE}{ns:-Int}
  (j:K.In s₁.heap) (l:s₁.heap.Ns hK mg) (c:s₁.heap.Ns builtinsNs mb) (D:∀x:Str,x≠↑96->mb x=r6 x) (E:s₁.heap.NoLimit) (I:s₁.gens=(tA []))
  (ha:s₁.heap.get? a*>{cls:=.t ↑15,data:=.e vs.toArray}) (hi:u0 vs ns) (L:↑ns<=hH) (M:Room k callerA)
  (F:∀base:js,K.In base->base.Ns hK mg->!aA CX k fa fd [x] sp) (N:∀(s:hA)(u:gE),BindsTo s fd #[[u],[]] [(x,u)])
  (O:∀o,K.lookup a*>o->o.cls≠.t ↑15) (Q:∀H:Hp,Only H->SqL [] H a (ns.map V.int)->sp [.r a] H (λv _=>v=.bl gn) λ_ _ _=>False)
  (R:∀H e s',CX [] H s₁ (λ_ _ _=>False) e s'->False) :
  mE (i3 P w) callerA (.call (.r fa) #[[.r a],[]]) (λr s'=>r=.ok (.ret\.x gn)/\OldK s₁.heap s'.heap/\s'.os=s₁.os/\AllBare s'.gens) s₁:=by
 let S:=wm hi;let ad:=↑hi;let core:∀H:Hp,Only H->SqL [] H a (ns.map V.int)->HOk P w H s₁.heap->(∀b,H b≠gf->b=a)->(H a≠gf->K.lookup a=gf)->
   mE (i3 P w) callerA (.call (.r fa) #[[.r a],[]]) (λr s'=>r=.ok (.ret\.x gn)/\OldK s₁.heap s'.heap/\s'.os=s₁.os/\AllBare s'.gens) s₁:=by
  intro H p T hok y U;let A:∀{b:gL}{o:Obj},s₁.heap.get? b*>o->H b=gf->(il s₁.heap H).get? b*>o:=λe n=>ER e n;let X:∀{b:gL}{o:Obj}{es:Array oD}{ep:Nat},s₁.heap.get? b*>o->o.data=.y es ep->H b=gf:=λ{b o es ep} e d=>by
   cases q:H b with
   |none=>rfl
   |some u=>
    let e':b=a:=y b (by rw[q];simp);subst e';rw[ha] at e;cases e;let d':Data.seq vs.toArray _=Data.dict es ep:=d;cases d'
  let f:∀{b:gL}{m:Str->Option gE},s₁.heap.Ns b m->(il s₁.heap H).Ns b m:=λ{b m} ⟨o,es,ep,e,d,r⟩=>#[o,es,ep,A e\X e d,d,r];let B:K.In (il s₁.heap H):=λb o e=>A (j b o e) (by
   cases q:H b with
   |none=>rfl
   |some u=>
    let e':b=a:=y b (by rw[q];simp);subst e';rw[U (by rw[q];simp)] at e;cases e)
  let Y:Mod K mg (il s₁.heap H):=#[B,f l,#[mb,f c,D],let ⟨Z,h1,h2⟩:=E;#[Z,f h1,h2]];let e0:j3 P w K mg (il s₁.heap H) callerA [] s₁ H:=#[1,Y,λb o e=>GJ e,u4\Do _ _,trivial,λb c=>absurd (show b∈([]:-gL) from c) ∅,hok,.of_eq I];show vq ((F _ B\f l).run callerA [] s₁ H #[[.r a],[]] [.r a] [.r a] _ _ M e0 (N s₁\.r a) (.c rfl .nil)\Q H p T) λr s' h=>?_;cases r with
  |error e=>show (R H e s' h).elim
  |ok fl=>
   cases fl with
   |next=>show False.elim h
   |brk=>show False.elim h
   |cont=>show False.elim h
   |ret u=>
    let#[v,H',os,bare,un,ab,r',q]:=h;let q':v=.bl gn:=q;subst q';obtain rfl:u=Value.bool gn:=r';erw[1,OldK.of_keep λb o e=>?_,os,bare];cases q:H b with
    |none=>show un.keep b o e q (by intro z;show absurd (show b∈([]:-gL) from z) ∅) ∅
    |some u=>
     rcases p b with z|⟨ob,xs,z⟩
     .rw[q] at z;cases z
     let#[z2,#[C,_],#[e2,_]]:=#[un.frzs b ob _ z,hok b _ z,ab b _ z2];rw[e] at C;cases C;show e2
 cases g:K.lookup a with
 |some o=>
  let e:=j a o g;rw[ha] at e;cases e;show absurd rfl\O _ g
 |none=>
  show core (λb=>if b=a then gm (.z {cls:=.t ↑15,data:=.e vs.toArray}\.a (ns.map V.int)) else gf) (λb=>?_) (.l\.o #[{cls:=.t ↑15,data:=.e vs.toArray},Oj rfl]) (λb u z=>?_) (λb z=>?_) λ_=>g
  .by_cases c:b=a
   .exact .o #[0,Oj c]
   show .l\Oi c
  .by_cases c:b=a
   .let i:=(Oj c).symm.trans z;cases i;subst c;erw[ha,by rw[av];show L,vs,_,S,ha]
   let i:=(Oi c).symm.trans z;cases i
  by_cases c:b=a
  .exact c
  show absurd (Oi c) z
end L2
namespace L2
open PySem PySem.Spec PyProof.Rows
def walk_of{l:W.OpenLaw}{n k:Nat}{q:jl}{loose:-Str}{XP:(Str->Option gE)->js->Prop}{YP:lp->js->Prop}{d:DefRec}{K:Params->W.Frag}{CX:lp->CXT}{sp:lp->Sp}{x:Str}
  (i:l.most*>n) (j:n<=hH) (m:d.params.defaults=[]) (p:Room k callerA)
  (r:∀(w:lp)(h:js),YP w h->(K w.params).In h)
  (F:∀(w:lp)(mg:Str->Option gE)(fa:gL)(h:js),(K w.params).In h->h.Ns hK mg->mg d.name*>.r fa->
   ∃fd:i4,(∀(s:hA)(u:gE),BindsTo s fd #[[u],[]] [(x,u)])/\
    ∀base:js,(K w.params).In base->base.Ns hK mg->aA l.prog w (K w.params) mg base (CX w) k fa fd [x]\sp w)
  (y:∀(w:lp)(a:gL)(o:Obj),(K w.params).lookup a*>o->o.cls≠.t ↑15) (z:∀(w:lp)(H:Hp)(a:gL)(ns:-Int),↑ns<=n->Only H->SqL [] H a (ns.map V.int)->sp w [.r a] H (λv _=>v=.bl gn) λ_ _ _=>False)
  (A:∀(w:lp)(H:Hp)(s:hA)(e:gE)(s':hA),CX w [] H s (λ_ _ _=>False) e s'->False) :
  W.WalkO q loose XP YP l.row.toRowW d [] (λf vs=>PySem.call f vs):=by
 show Att.attach_call i m λw s₀ s₁ mg mb fa o pm cd doc a vs ns G Y M hd N B C hints hlen D=>?_;let c:=r w _ Y;let#[fd,E,hF]:=F w mg fa _ c G.T.g B;show EN c G.T.g G.T.b G.T.builtins G.T.nolimit D C hints (dw hlen j) p hF E (y w a) (λH I L=>z w H a ns hlen I L) λH e s'=>A w H s₁ e s'
def nlV:gE->Bool
 |.type s=>!(s==↑15)
 |_=>gn
def z8{a:gL}{o:Obj}:∀{K:W.Frag},K.all (λx=>nlV x.2.cls)=gn->K.lookup a*>o->o.cls≠.t ↑15
 | [],_,h=>nomatch h
 |(b,u)::K,e,h=>by
  rw[An,ir] at e;rw[jg] at h
  split at h
  .cases h;intro z;have:=e.1;rw[z] at this;show absurd this ⋯
  show z8 e.2 h
end L2
namespace L2
open PySem PySem.Spec PyProof.Rows
abbrev CX0:CXT:=λ_ _ _ _ _ _=>False
abbrev E0:XK:=λ_ _ _=>False
def pass0:Passes CX0 X E0:=λ_ _ _ _ _ _ _ h=>h.elim
structure Use(P:jl)(w:lp)(K:W.Frag)(mg:Str->Option gE)(base:js)(n:Nat)(x:Str)(ps:-Str)(sp:Sp)(f:gL)(fd:i4):Prop where
 g:!aA CX0 n f fd ps sp
 b:Binds K fd ps []
 m:mg x*>.r f
 k:W.keepIn K (.r f)=gn
def uc{k:Nat}{x:Str}{ps:-Str}{sp:Sp}{f:gL}{e:kA}{es:-kA}{t:TA}{p pos:Pos}(G:Use X.prog X.w X.K X.mg X.base k x ps sp f fd)(c:Room k X.A)(ha:PA X (e::es) t)(d:Gl X x:=by rfl)(h:(x==(↑34 : Str))=gB:=by decide)(he:hM (e::es) X.env=(gB,m3 e X.env)::hM es X.env:=by rfl)(i:(mu pos\hM es X.env).any (·.1)=gB:=by rfl):PE X (.Call (.n x p) (e::es) [] pos) (zP sp [] E0 t):=yt G.g c d G.m G.k G.b .nil pass0 ha h he i
structure Fun(K:W.Frag)(x qual:Str)(st:lj)(f:gL)(fd:i4):Prop where
 ex:∃(oc:gE)(od:Option gL)(kV doc pm:gE)(an:Option gL)(Oq ct:gE)(osl:Array\Option gE),
  fd=W.fnOf x qual (eF st) (dZ st) (aI st) .none kV doc pm an Oq ct/\K.lookup f*>#[oc,od,.func fd,osl]/\W.codeIn K Oq qual=gn
 kp:W.keepIn K (.r f)=gn
section
def Fun.ok{x qual:Str}{st:lj}{f:gL}{N ps:-Str}{k:Nat}{sp:Sp}(F:Fun K x qual st f fd)(S:aR N ps\aI st)(len:∀vs H Q E,sp vs H Q E->↑vs=↑ps)
  (c:∀(b:gE)(A:ru)(outer:-Env)(s:hA)(H:Hp)(vs:-V)(Q:VK)(E:XK),Room k (A.deeper\envOfC qual (aI st) ↥s f b)->sp vs H Q E->
   ∃t,PSs (lH CX0 P w K mg base N qual (aI st) f b A outer s H E).nox (dZ st) t/\t {nx:=λ_ H'=>Q .non H',rt:=Q} (start N vs) H):!aA CX0 (k+1) f fd ps sp:=by
 let#[i,od,kV,doc,pm,an,b,ct,j,1,lk,d]:=F.ex;show K_ lk d S len λA outer s H vs Q E e g=>?_;let#[t,h,q]:=c b A outer s H vs Q E e g;erw[t,h.nox,q]
def Fun.binds{x qual:Str}{st:lj}{f:gL}{ps:-Str}(F:Fun K x qual st f fd)
  (h:∀(kV doc pm:gE)(an:Option gL)(b ct:gE)(us:-gE),↑us=↑ps->bindArgs (W.fnOf x qual (eF st) (dZ st) (aI st) .none kV doc pm an b ct) #[us,[]]=pure\ps.zip us):Binds K fd ps []:=by
 let#[c,od,kV,doc,pm,an,b,ct,d,1,lk,e]:=F.ex;show .all\h kV doc pm an b ct
def zw{x qual:Str}{st:lj}{f:gL}{d:gE}{od an:Option gL}{e:Array\Option gE}{kV doc pm b ct:gE}(l:K.lookup f*>#[d,od,.func\W.fnOf x qual (eF st) (dZ st) (aI st) .none kV doc pm an b ct,e])
  (c:W.codeIn K b qual=gn) (k:W.keepIn K (.r f)=gn):Fun K x qual st f (W.fnOf x qual (eF st) (dZ st) (aI st) .none kV doc pm an b ct):=#[#[d,od,kV,doc,pm,an,b,ct,e,1,l,c],k]
end
def cG{k:Nat}(b:Room k A):A.units+1<cLine:=rj (nU (by decide:1<=64) _) b.units
section
def pv(i:Nat){x:Str}{pos:Pos}(b:X.N[i]?*>x:=by rfl)(c:Vis X.env.scope x:=by first|exact Or.inl rfl|exact Or.inr (.l rfl)|exact Or.inr\.o rfl)(hd:(x==(↑34 : Str))=gB:=by decide)
  (d:(x==("__classdict__" : Str))=gB:=by decide):PE X (.n x pos) (bC i):=Jc b c hd d
def sI:de X (.b "len") (λxs H Q=>∃a kvs,xs=[V.ref a]/\H a*>.k kvs/\Q (.i ↑kvs) H):=by lk;intro xs us Q I r h;let#[a,kvs,1,ha,q]:=h;let#[u,1,b]:=vals1 r;cases b;show Lc I (.l ha) λt s' c=>#[.i ↑kvs,H,c,#[t,1],q]
end
def aP{A B:Prop}(h:B):if gB=gn then A else B:=by rw[Oi bL];show h
def bf{A B:Prop}(h:A):if gn=gn then A else B:=by rw[Oj rfl];show h
def ite2{c A B:Prop}[Decidable c](h1:c->A)(h2:¬c->B):if c then A else B:=by
 by_cases h:c
 .rw[Oj h];show h1 h
 rw[Oi h];show h2 h
def Same.refl(H:Hp):Same H H:=λ_ _ h=>h
def Same.trans{H H1 H2:Hp}(a:Same H H1)(b:Same H1 H2):Same H H2:=λc o h=>b c o\a c o h
def Same.free(e:Same H H'){l:gL}(h:H' l=Option.none):H l=Option.none:=by
 cases q:H l with
 |none=>rfl
 |some o=>
  rw[e l o q] at h;cases h
def Same.seq{a:gL}(e:Same H H')(h:SqL K H a xs):SqL K H' a xs:=by
 rcases h with (h|⟨o,h⟩)|h
 .exact .l\.l (e>>h)
 .exact .l\.o #[o,e>>h]
 show .o h
section
variable {κ:Type}[DecidableEq κ]
def Fq{kvs:-(κ×V)}{k:κ}{v:V}(h:bu kvs k*>v):k∈kvs.map (·.1):=by
 let q:(kvs.any λb=>decide (b.1=k))=gn:=by
  rw[mq,h]
  all_goals rfl
 let#[p,c,e]:=Ap.mp q;show ai.mpr #[p,c,On e]
end
end L2
end
variable {H:L2.Hp}{Z:L2.St}{X:L2.Cx}{xs:List L2.V}{vs:List L2.V}{H':L2.Hp}
namespace L2
open PySem PySem.Spec PyProof.Rows
def dH(env:Env):-(Str×NameKind)->-(Str×gL)->-(Str×gL)
 | [],cs=>cs
 |(n,k)::r,cs=>dH env r (if k==.free then (n,(env.cells.lookup n).getD 0)::cs else cs)
def wd(env:Env):∀(names:-(Str×NameKind))(cs:-(Str×gL)),(∀x∈names,x.2=.free->∃c,env.cells.lookup x.1*>c)->
  (forIn names cs λ(x:Str×NameKind)(r:-(Str×gL))=>(do
   if x.2==NameKind.free then
    let a <-cellOf env x.1
    pure (ForInStep.yield ((x.1,a)::r))
   else pure (ForInStep.yield r):Sem\ForInStep (-(Str×gL))))=pure\dH env names cs
 | [],cs,_=>rfl
 |(n,k)::r,cs,h=>by
  let ih:=λcs=>wd env r cs λx hx=>h x\aC _ hx;rw[List.forIn_cons];by_cases hk:k=.free
  .subst hk;let#[c,hc]:=h (n,.free) aL rfl;let e:cellOf env n=pure c:=by
    let hc':env.cells.lookup n*>c:=hc;unfold cellOf;rw[hc']
    try rfl
   rw[Oj (show (((n,NameKind.free).2==NameKind.free)=gn) from rfl),e];show Eq.trans ?_\(ih ((n,c)::cs)).trans ?_
   .rfl
   let hc':env.cells.lookup n*>c:=hc;change pure (dH env r ((n,c)::cs))=pure\dH env r ((n,(env.cells.lookup n).getD 0)::cs);rw[hc'];rfl
  let hb:(k==NameKind.free)=gB:=‹hk›
  rw[Oi (show ¬(((n,k).2==NameKind.free)=gn) by rw[show ((n,k).2==NameKind.free)=gB from hb];simp)];show Eq.trans ?_\(ih cs).trans ?_
  .rfl
  change pure (dH env r cs)=pure\dH env r (if (k==NameKind.free)=gn then _ else cs);rw[hb];rfl
def rW{env:Env}(h:∀x∈scope.names,x.2=.free->∃c,env.cells.lookup x.1*>c):closureFor scope env=pure (dH env scope.names []):=by
 let e:=wd env scope.names [] h;unfold closureFor;simp only[bind_pure_comp,map_pure] at e |-
 first
  |(rw[e];rfl)
  |show e
def yI{env:Env}:∀{names:-(Str×NameKind)}{cs:-(Str×gL)}{x:Str}{c:gL},(∀y∈names,y.2=.free->∃c,env.cells.lookup y.1*>c)->
  (dH env names cs).lookup x*>c->env.cells.lookup x*>c\/cs.lookup x*>c
 | [],cs,x,c,_,h=>.o h
 |(n,k)::r,cs,x,c,hf,h=>by
  let g:∀y∈r,y.2=.free->∃c,env.cells.lookup y.1*>c:=λy i=>hf y\aC _ i;rcases yI (names:=r) g h with q|q
  .exact .l q
  by_cases b:(k==NameKind.free)=gn
  .rw[Oj b] at q;let j:k=.free:=‹b›
   let#[f,e]:=hf (n,k) aL j;let e:env.cells.lookup n*>f:=e;rw[jg] at q;cases d:x==n with
   |true=>
    rw[d] at q;let l:x=n:=‹d›
    subst l;rw[e] at q;let m:f=c:=‹q›
    show .l (m ▸ e)
   |false=>
    rw[d] at q;show .o q
  rw[Oi b] at q;show .o q
def s_{env:Env}:∀{names:-(Str×NameKind)}{cs:-(Str×gL)}{x:Str},((x,NameKind.free)∈names\/(cs.lookup x).isSome=gn)->((dH env names cs).lookup x).isSome=gn
 | [],cs,x,h=>by
  rcases h with h|h
  .simp at h
  show h
 |(n,k)::r,cs,x,h=>by
  show s_ (names:=r) ?_;rcases h with h|h
  .rcases ah.mp h with e|e
   .cases e;show .o ?_;rw[Oj (by rfl),jg,beq_self_eq_true];rfl
   show .l e
  show .o ?_;by_cases b:(k==NameKind.free)=gn
  .rw[Oj b,jg];cases c:x==n with
   |true=>rfl
   |false=>show h
  rw[Oi b];show h
def vM(env:Env):∀(names:-(Str×NameKind))(x:Str),
  (names.map λ(n,k)=>if (k==NameKind.free&&env.scope.kind==.function&&env.kindOf n==gm .cell) then (n,NameKind.cell) else (n,k)).lookup x=(names.lookup x).map λk=>if (k==NameKind.free&&env.scope.kind==.function&&env.kindOf x==gm .cell) then NameKind.cell else k
 | [],_=>rfl
 |(n,k)::r,x=>by
  let c:=vM env r x;rw[bj];dsimp only at c |-;by_cases b:(k==NameKind.free&&env.scope.kind==.function&&env.kindOf n==gm .cell)=gn
  .rw[Oj b,jg,jg];cases d:x==n with
   |true=>
    let e:x=n:=‹d›
    subst e;simp only[nZ,b,if_true]
   |false=>show c
  rw[Oi b,jg,jg];cases d:x==n with
  |true=>
   let e:x=n:=‹d›
   subst e;simp only[nZ];rw[Oi b]
  |false=>show c
def eV(X:Cx)(N:-Str)(scope:Scope)(C:gL)(s:hA)(H:Hp)(fp:-gL)(Oo:-(gL×Obj)):Cx:=
 {X with N:=N,s₀:=s,H₀:=H,env:=compEnvC scope (dH X.env scope.names []) C X.env,outer:=X.stack,ex:=fp,fn:=λ_=>gB,pn:=X.pn++Oo,xe:=λ_ _=>False}
def ib(fr:List\Option Nat)(Z:St):St:=fr.map λo=>o.bind λi=>(Z[i]?).join
structure fe(X:Cx)(N:-Str)(fr:List\Option Nat)(scope:Scope):Prop where
 nd:N.Nodup
 len:↑fr=↑N
 kind:scope.kind=.function
 nocell:∀y∈scope.names,y.2≠.cell
 names:∀y∈scope.names,y.2=.local->scope.names.lookup y.1*>.local
 frees:∀y∈scope.names,y.2=.free->X.env.kindOf y.1*>.cell\/X.env.kindOf y.1*>.free
 fr:∀(j i:Nat)(x:Str),fr[j]?*>gm i->N[j]?*>x->X.N[i]?*>x/\scope.names.lookup x*>.free
section
variable {N:-Str}{fr:List (Option Nat)}{fp:-gL}
def fe.cells(S:fe X N fr scope)(ok:X.Ok):∀y∈scope.names,y.2=.free->∃c,X.env.cells.lookup y.1*>c:=λy b hf=>ok.has y.1\S.frees y b hf
def ou{names:-(Str×NameKind)}{x:Str}{k:NameKind}(h:names.lookup x*>k):(x,k)∈names:=n_ h
def wL{C:gL}{x:Str}:(compEnvC scope (dH X.env scope.names []) C X.env).kindOf x=(scope.names.lookup x).map λk=>if (k==NameKind.free&&X.env.scope.kind==.function&&X.env.kindOf x==gm .cell) then NameKind.cell else k:=vM X.env scope.names x
def fe.free_of(S:fe X N fr scope){C:gL}{x:Str}(h:(compEnvC scope (dH X.env scope.names []) C X.env).kindOf x*>.cell\/(compEnvC scope (dH X.env scope.names []) C X.env).kindOf x*>.free):scope.names.lookup x*>.free:=by
 rw[wL] at h;cases e:scope.names.lookup x with
 |none=>rw[e] at h;simp at h
 |some k=>
  rw[e] at h;let b:=S.nocell _\ou e;cases k with
  |free=>rfl
  |cell=>show absurd rfl b
  |_=>
   exfalso;rcases h with h|h<;>simp at h
def DB{C:gL}{x:Str}(h:scope.names.lookup x*>.free):(compEnvC scope (dH X.env scope.names []) C X.env).kindOf x*>.cell\/(compEnvC scope (dH X.env scope.names []) C X.env).kindOf x*>.free:=by
 rw[wL,h,nZ];by_cases c:(NameKind.free==NameKind.free&&X.env.scope.kind==.function&&X.env.kindOf x==gm .cell)=gn
 .rw[Oj c];show .l rfl
 rw[Oi c];show .o rfl
end
section
variable {N:-Str}{fr:List (Option Nat)}{fp:-gL}
def v_{C:gL}{h1:js}{m:Str->Option gE}{t:Nat}(S:fe X N fr scope)(I:!Inv H s)(hf:∀b∈fp,dv X Oo H b)(hC:↥s<=C)(K:∀b∈fp,b≠C)
  (L:h1.Ns C m) (l:∀b o,s.heap.get? b*>o->h1.get? b*>o):Inv (eV X N scope C s H fp Oo) [] (ib fr Z) H {s with heap:=h1,toks:=t}:=by
 let M:=S.cells I.ok;let sub:∀x c,(dH X.env scope.names []).lookup x*>c->X.env.cells.lookup x*>c:=λx c e=>by
  rcases yI M e with q|q
  .exact q
  simp at q
 let ok:(eV X N scope C s H fp Oo).Ok:=by
  erw[I.ok.mod,S.kind,I.ok.glob,I.ok.blt,hC,λx y c h1 h2=>I.ok.inj x y c (sub x c h1)\sub y c h2,λx O=>?_,λx c e=>absurd e (by change ¬(gB=gn);decide),I.ok.hd,I.ok.frames,.l rfl,λb g=>?_,λb o e=>I.bs b o e,dw I.ok.bsz I.sz,λb o e g=>?_,λb g=>?_,I.stack,I.stkFree]
  .let e:=S.free_of O;show AO.mp\s_ (.l\ou e)
  .exact#[K b g,λx c e=>(hf b g).2.2.2.2.1 x c (sub x c e)]
  .rcases (hf b g).2.2.2.1 with z|z
   .exact I.ok.noex b o e z
   show absurd (cS (aX e)\dw I.ok.bsz z)\dW _
  intro z;rcases ah.mp (I.stkSub b z) with q|q
  .exact (hf b g).2.1 q
  show (hf b g).2.2.1 q
 let P:H C=gf:=I.hok.fresh hC;erw[ok,1,I.bare,Un.kept l,#[m,L,λj x v Q f e3=>?_],λx c e=>?_,P,λx c e=>I.freeC x c\sub x c e,λp w=>?_,I.hok.kept l,?_]
 .let f:(ib fr Z)[j]?*>gm v:=f;unfold ib at f;rw[aU] at f;cases q:fr[j]? with
  |none=>rw[q] at f;cases f
  |some o=>
   rw[q] at f;cases o with
   |none=>cases f
   |some i=>
    let f:(Z[i]?).join*>v:=df f;let#[hi,A]:=S.fr j i x q Q;have hσ:Z[i]?*>gm v:=by
     cases z:Z[i]? with
     |none=>rw[z] at f;cases f
     |some y=>rw[z] at f;cases y with
      |none=>cases f
      |some R=>let f:gm R*>v:=f;rw[f]
    let#[#[m0,_,T],D,U,#[u,r,lk]]:=#[I.loc,(S.frees (x,.free) (ou A) rfl:X.env.kindOf x*>.cell\/X.env.kindOf x*>.free),(D.elim (λz=>.o\.l z) λz=>.o\.o z:Vis X.env.scope x),T i x v hi hσ U];rcases lk with ⟨z,_⟩|⟨_,c,Y,ab⟩
    .rcases D with y|y<;>(rw[y] at z;cases z)
    erw[u,r,.o #[DB A,?_]];let#[c',E]:=AO.mp\s_ (env:=X.env) (names:=scope.names) (cs:=[]) (.l\ou A);have:=sub x c' E;rw[Y] at this;cases this;let#[o,B,hd]:=ab;erw[c,E,o,l c o B,hd]
 .let#[v,o,B,hd]:=I.cell x c\sub x c e;erw[v,o,l c o B,hd]
 .let w:p∈(X.pn++Oo)++[]:=w;rw[fQ] at w;let#[e,n,ne,nf,d]:=I.pin p w;erw[l>>e,n,λz=>?_,λz=>?_,d]
  .let z:p.1=C:=z;show absurd (cS (aX e) hC) (by rw[z];show dW _)
  rcases ah.mp (I.stkSub p.1 z) with q|q
  .exact ne q
  show nf q
 change ↑(ib fr Z)=↑N;unfold ib;rw[av];show S.len
def xH{C:gL}{H2:Hp}{s':hA}{Z':St}{p':-(gL×Obj)}(I:!Inv H s)(hf:∀b∈fp,dv X Oo H b)(hC:↥s<=C)(J:Inv (eV X N scope C s H fp Oo) p' Z' H2 s') :
  !Inv H2 s'/\dv X Oo H2 C:=by
 let d:!Inv H2 s':=I.call' J.os J.base J.hok J.bare λb c=>#[(hf b c).2.2.2.1,(hf b c).2.1,(hf b c).2.2.2.2.1,(hf b c).2.2.2.2.2];erw[d,I.fpOk hC J.free]
end
def PIf(X:Cx)(ifs:-kA)(t:TT):Prop:=
 ∀(Oo:-(gL×Obj))(s:hA)(Z:St)(H:Hp)(Q:Bool->Hp->Prop),!Inv H s->t Z H Q->
  hB ⇑X X.A (forIn ifs gn λc r=>if r=gn then do let ok <-isTrue c X.env\m3 c X.env;pure (ForInStep.yield ok) else pure (ForInStep.yield r)) (TP X Oo Z Q) X.xe s
def dN:PIf X [] (λ_ H Q=>Q gn H):=λ_ _ _ H _ I h=>wpAny_tests_nil #[H,I,h]
def hU{c:kA}{t:TT}(h:PT X c t):PIf X [c] t:=λOo s Z H Q I q=>wpAny_tests_one\h Oo s Z H Q I q
def tBlE(D:gL)(ys:-V)(N:St->-V->Hp->Prop)(c:St):VK:=λy b=>b D*>.a ys/\↑ys<hH/\WrO b D (.a (ys++[y]))\N c (ys++[y])
def uE(te:TE)(D:gL)(ys:-V)(N:St->-V->Hp->Prop)(c:St):Bool->Hp->Prop:=λb d=>if b=gn then te c d (tBlE D ys N c) else N c ys d
def nv(tt:TT)(te:TE)(D:gL)(ys:-V)(N:St->-V->Hp->Prop):St->Hp->Prop:=λb H2=>tt b H2\uE te D ys N b
def tBlN(J:It)(g:TG)(tt:TT)(te:TE)(D:gL)(W:Nat->Nat->St->-V->Hp->Prop)(i m:Nat)(Z:St)(ys:-V)(H:Hp)(N:St->-V->Hp->Prop):Prop:=(∀Z' b H',N Z' b H'->∃c,c<m/\W (i+1) c Z' b H')/\∀x H',J.yld i H x H'->g x Z H'\nv tt te D ys N
def tBlB(J:It)(g:TG)(tt:TT)(te:TE)(D:gL)(Z':St)(H1:Hp)(Q:Hp->Prop)(W:Nat->Nat->St->-V->Hp->Prop):Prop:=(∃m,W 0 m Z' []\upd H1 D (.a []))/\∀i m Z ys H,W i m Z ys H->(J.stop i H/\Q H)\/(J.go i H/\Exists\tBlN J g tt te D W i m Z ys H)
def jH(J:It)(g:TG)(tt:TT)(te:TE)(D:gL)(Z':St)(H1:Hp)(Q:Hp->Prop):Prop:=Exists\tBlB J g tt te D Z' H1 Q
def DA{elt target iter:kA}{ifs:-kA}{scope:Scope}{pos:Pos}{it acc:gE}{env:Env}{R:Result->hA->Prop}(I:Nat->hA->Prop)
  (turn:∀n s,I n s->hB (i3 P w) A (q0 it) (λr s1=>match r with
   |none=>R (.ok .next) s1
   |some v=>hB (i3 P w) A (letOwnedTupleGo target it v) (λ_ s1'=>hB (i3 P w) A (assign target env v) (λ_ s2=>
     hB (i3 P w) A (forIn ifs gn λc r=>if r=gn then do let ok <-isTrue c env\m3 c env;pure (ForInStep.yield ok) else pure (ForInStep.yield r)) (λok s3=>
      if ok=gn then hB (i3 P w) A (m3 elt env) (λx s4=>
       hB (i3 P w) A (call (.b "list.append") [acc,x]) (λ_ s5=>∃m,m<n/\I m s5) (λ_ _=>False) s4) (λ_ _=>False) s3
      else ∃m,m<n/\I m s3) (λ_ _=>False) s2) (λ_ _=>False) s1') (λ_ _=>False) s1) (λ_ _=>False) s)
  (n:Nat) (h:I n s) :
  mE (i3 P w) A (.compLoop (.ListComp elt [#[target,iter,ifs,(0)]] scope pos) 0 it acc env) R s:=by
 let no:∀(e:gE)(t:hA),False->notedBy (i3 P w) A env (λe s'=>R (.error e) s') e t:=λ_ _ z=>z.elim;show codeAny_loop rfl I (λn s hI=>?_) n h;show wpAny_noted ?_;rw[compTurn_list];show aa\rM (aa\dq (turn n s hI) (λr s1 h1=>?_) no);cases r with
 |none=>show aw h1
 |some v=>
  show aa\dq h1 (λ_ s1' h1'=>?_) no;show aa\dq h1' (λ_ s2 h2=>aa\dq h2 (λok s3 h3=>?_) no) no;cases ok with
  |false=>show aw #[1,h3]
  |true=>
   show aa\aa (dq h3 (λx s4 h4=>aa\dq h4 (λ_ s5 h5=>aw\aw #[1,h5]) no) no)
section
variable {N:-Str}{fr:List (Option Nat)}{fp:-gL}
def Fh{elt target iter:kA}{ifs:-kA}{pos:Pos}{it D:gL}{B:Nat->js->Prop}{J:It}{g:TG}{tt:TT}{te:TE}{R:Result->hA->Prop}{s1:hA}{N:St}{H1:Hp}{Q:Hp->Prop}
  {Y:Cx} (hY:Y.xe=λ_ _=>False) (X:Y.calm=gn) (I:Inv Y [] N (upd H1 D\.a []) s1) (T:Turn Y.prog Y.w Y.K target J fp it B) (ht:B 0 s1.heap) (hf:∀b∈fp,dv Y [] (upd H1 D\.a []) b)
  (hg:PG Y target g) (hi:PIf Y ifs tt) (he:PE Y elt te) (h:jH J g tt te D N H1 Q) (hR:∀s' Z' H',Inv Y [] Z' H' s'->Q H'->R (.ok .next) s') :
  mE (i3 Y.prog Y.w) Y.A (.compLoop (.ListComp elt [#[target,iter,ifs,(0)]] scope pos) 0 (.r it) (.r D) Y.env) R s1:=by
 let#[W,#[m0,w0],turn]:=h;let O:∀{H':Hp},(∀b∈fp,H' b=gf)->∀b∈fp,dv Y [] H' b:=λhn b c=>#[hn b c,(hf b c).2];show DA (λn s'=>∃i Z' ys H',Inv Y [] Z' H' s'/\B i s'.heap/\(∀b∈fp,H' b=gf)/\W i n Z' ys H') ?_ m0 #[(0),N,[],_,I,ht,λb c=>(hf b c).1,w0];rintro n Z ⟨i,q,ys,C,I3,ab,ad,w3⟩;let back:∀{α:Type}{t:Sem α}{Q:α->hA->Prop}{s:hA},hB (i3 Y.prog Y.w) Y.A t Q Y.xe s->hB (i3 Y.prog Y.w) Y.A t Q (λ_ _=>False) s:=λh=>by rw[hY] at h;show h
 rcases turn i n q ys C w3 with ⟨stop,qn⟩|⟨go,N',al,step⟩
 .refine thn (T.done Y rfl rfl rfl X i [] Z q C _ I3 (O ad) ab stop) λr s4 ⟨P,I4⟩=>?_;subst P;show hR s4 q C I4 qn
 show thn (T.item Y rfl rfl rfl X i [] Z q C _ I3 (O ad) ab go) λr s4 ⟨u,P,h4⟩=>?_;subst P;show thn h4 λ_ s5 z=>?_;let#[x,H5,I5,r5,y5,S,an]:=z;let am:=I5.pinned (O an) (T.obj>>S);rw[LW] at am;show thn (back\hg _ s5 q H5 x u _ am r5 (step x H5 y5)) λ_ s6 ⟨E,H6,I6,q6⟩=>?_;show thn (back\hi _ s6 E H6 _ I6 q6) λb f ⟨j,l,H⟩=>?_;let again:∀{L:St}{j:Hp}{f:hA}{U:-V},Inv Y (kY fp s5.heap) L j f->(∃M,M<n/\W (i+1) M L U j)->∃m,m<n/\∃i Z' ys H',Inv Y [] Z' H' f/\B i f.heap/\(∀b∈fp,H' b=gf)/\W i m Z' ys H':=λ{L j f U} l ⟨M,hm,w7⟩=>by
  erw[M,hm,i+1,L,U,j,l.pins_of (λp hp=>by simp at hp),T.keep _ _ _ S λb c o e=>(l.pin (b,o)\cU _ (kr c e)).1,λb c=>?_,w7];let#[o,e,d]:=T.obj _ _ S b c;show (l.pin (b,o)\cU _ (kr c e)).2.1
 cases b with
 |false=>
  rw[uE,Oi bL] at H;rw[Oi bL];show again l\al _ _ _ H
 |true=>
  rw[uE,Oj rfl] at H;rw[Oj rfl];show thn (back\he _ f E j _ l H) λv s8 z=>?_;let#[y,H8,I8,r8,hD,hl,q8]:=z;show thn (back\dJ _ s8 E H8 (.r D) [y] (.r D) [v] (λ_ H'=>N' E (ys++[y]) H') I8 rfl (.c r8 .nil) #[D,ys,y,5,hD,hl,q8]) λ_ s9 z=>?_;let#[_,H9,I9,_,q9]:=z;show again I9\al _ _ _ q9
end
def tCoD(Q:VK)(D:gL):Hp->Prop:=λH2=>Q (.r D) H2
def tCoA(g:TG)(tt:TT)(te:TE)(fr:List\Option Nat)(Z:St)(Q:VK)(J:It)(H1:Hp):Prop:=∀D,H1 D=gf->jH J g tt te D (ib fr Z) H1\tCoD Q D
def tCoK(g:TG)(tt:TT)(te:TE)(fr:List\Option Nat)(Z:St)(Q:VK):It->Hp->Prop:=λJ H1=>tCoA g tt te fr Z Q J H1
def ng(wi:TI)(g:TG)(tt:TT)(te:TE)(fr:List\Option Nat):TE:=λZ H Q=>wi Z H\tCoK g tt te fr Z Q
section
variable {N:-Str}{fr:List (Option Nat)}{elt tg iter:kA}{ifs:-kA}{pos:Pos}{wi:TI}{g:TG}{tt:TT}{te:TE}
def PComp(X:Cx)(N:-Str)(scope:Scope)(tg:kA)(ifs:-kA)(elt:kA)(g:TG)(tt:TT)(te:TE):Prop:=
 ∀(C:gL)(s:hA)(H:Hp)(fp:-gL)(Oo:-(gL×Obj)),PG (eV X N scope C s H fp Oo) tg g/\PIf (eV X N scope C s H fp Oo) ifs tt/\PE (eV X N scope C s H fp Oo) elt te
def wb{j:gE}{Z_:gE->gL->Result->hA->Prop}{QQ:gL->Hp->Prop}(S:fe X N fr scope)(K:X.calm=gn)
  (c:PComp X N scope tg ifs elt g tt te) (h2:PIE X Oo Z tg (λJ H1=>∀D,H1 D=gf->jH J g tt te D (ib fr Z) H1\QQ D) j s)
  (L:∀D C s' H',!Inv H' s'->dv X Oo H' C->(∃m,s'.heap.Ns C m)->QQ D H'->Z_ (.r D) C (.ok .next) s') :
  hB ⇑X X.A (newList []) (λacc M=>hB ⇑X X.A (newFunctionEnv scope X.env.globals (dH X.env scope.names []) [] X.env.qual gf .none\gm X.env) (λl O=>
   mE ⇑X X.A (.compStart (.ListComp elt [#[tg,iter,ifs,(0)]] scope pos) 0 j acc {l with scope:=relabel scope X.env}) (Z_ acc l.locals) O) E M) E s:=by
 let#[it,fp,P,J,H1,e,n,T,r,v,q]:=h2;subst e;let Q:H1 ↥s=gf:=n.hok.fresh\au _;let old:∀b∈fp,b<↥s:=λb c=>by
  let#[o,e,_]:=T.obj _ _ r b c;show aX e
 show iC\M_ S.nocell (by intro y U;simp at U) (λh1 x i=>?_) S.kind;dsimp only at x i |-;let z:!Inv (upd H1 ↥s\.a []) {s with heap:=s.heap.push {cls:=.t ↑15,dict:=gf,data:=.e ([]:-gE).toArray}}:=by show n.laid (t':=s.toks) (λb u e=>bh _ e) (au _) ?_;erw[aV _,[],_,.nil,bX _ rfl]
 let d:∀b∈fp,dv X Oo (upd H1 ↥s\.a []) b:=λb c=>#[by rw[aS\bz (old b c)];show (v b c).1,(v b c).2];let hsz:(s.heap.push {cls:=.t ↑15,dict:=gf,data:=.e ([]:-gE).toArray}).objs.size=↥s+1:=i_ ..;let f:=v_ (C:=(s.heap.push {cls:=.t ↑15,dict:=gf,data:=.e ([]:-gE).toArray}).objs.size) (h1:=h1) (t:=s.toks+↑([]:-(Str×gE))) (fp:=fp) S z d (au _)
  (λb c=>by rw[hsz];show bz\rA (old b c)) x λb o e=>i.extBut b o (bz\aX e)\bh _ e
 let B:P 0 h1:=T.keep _ _ _ r λb c o e=>by
  let H:=bh {cls:=.t ↑15,dict:=gf,data:=.e ([]:-gE).toArray} e;show i.extBut b o (bz\aX H)\bh _ H
 let f4:∀b∈fp,dv (eV X N scope (s.heap.push {cls:=.t ↑15,dict:=gf,data:=.e ([]:-gE).toArray}).objs.size {s with heap:=s.heap.push {cls:=.t ↑15,dict:=gf,data:=.e ([]:-gE).toArray}} (upd H1 ↥s\.a []) fp Oo) [] (upd H1 ↥s\.a []) b:=λb c=>by
  erw[(d b c).1,(f.ok.exf b c).1,f.ok.exfs b c,.l c,(f.ok.exf b c).2,λp h=>?_];let h:p∈(X.pn++Oo)++[]:=h;rw[fQ] at h;show (d b c).2.2.2.2.2 p h
 let#[b1,b2,b3]:=c (s.heap.push {cls:=.t ↑15,dict:=gf,data:=.e ([]:-gE).toArray}).objs.size {s with heap:=s.heap.push {cls:=.t ↑15,dict:=gf,data:=.e ([]:-gE).toArray}} (upd H1 ↥s\.a []) fp Oo;let run:=Fh (Y:=eV X N scope (s.heap.push {cls:=.t ↑15,dict:=gf,data:=.e ([]:-gE).toArray}).objs.size {s with heap:=s.heap.push {cls:=.t ↑15,dict:=gf,data:=.e ([]:-gE).toArray}} (upd H1 ↥s\.a []) fp Oo) (elt:=elt) (iter:=iter) (pos:=pos) (scope:=scope) (R:=Z_ (.r ↥s) (s.heap.push {cls:=.t ↑15,dict:=gf,data:=.e ([]:-gE).toArray}).objs.size) rfl K f T B f4 b1 b2 b3 (q _ Q) λs' Z' H' I q'=>by
  let#[J1,F1]:=xH z d (au _) I;let#[m,hm,_]:=I.loc;show L _ _ s' H' J1 F1 #[m,hm] q'
 show codeAny_compStart_list run\T.self _ 0 _ _ _ B run
def dG(S:fe X N fr scope)(d:X.calm=gn)(hi:PI X tg iter wi)(c:PComp X N scope tg ifs elt g tt te)
  (f:∀x,foldedSetIterable iter X.env x=pure x:=by intro _;rfl):PE X (.ListComp elt [#[tg,iter,ifs,(0)]] scope pos) (ng wi g tt te fr):=by
 lk;intro Q I h;rw[eval_ListComp];show A9 (use:=gf) rfl f (rW\S.cells I.ok) S.kind S.names (thn (hi Oo s Z H _ I h) λv s1 h1=>thn h1 λj s2 h2=>?_);show wb (QQ:=λD H2=>Q (.r D) H2) (Z_:=λacc C=>compPost ⇑X X.A X.xe gf (EP X Oo Z Q) acc C) S d c h2 λD C s' H' J F hm q=>?_;let#[m,hm]:=hm;erw[m,hm,λh' i=>#[.r D,H',?_,1,q]];show J.turned (t':=s'.toks) (λb o c e=>i.extBut b o c e) F.1 F.2.1 F.2.2.2.1 F.2.2.2.2.1 F.2.2.2.2.2
def mK{i:Nat}{x:Str}{pos' spos:Pos}(S:fe X N fr scope)(hc:X.calm=gn)(hi:PI X tg iter wi)(hb:PComp X N scope tg ifs elt g tt te)(hN:X.N.Nodup)(hx:X.N[i]?*>x)(hl:Loc X.env.scope x)
  (hsw:swapsWith (.ListComp elt [#[tg,iter,ifs,(0)]] scope pos) (gm\.n x pos') spos.line X.env=pure gn:=by rfl)
  (hf:X.fn x=gn\/X.env.scope.names.lookup x*>.local:=by first|exact .l rfl|exact .o rfl|assumption)
  (hs:∀x,foldedSetIterable iter X.env x=pure x:=by intro _;rfl):PS X (.Assign [.n x pos'] (.ListComp elt [#[tg,iter,ifs,(0)]] scope pos) spos) (ny (ng wi g tt te fr)\cE i):=by
 lk;intro D I h;rw[exec_Assign_Name_used _ _ _ _ hsw];show aa\rM (aa ?_);change hB _ _ (do let _ <-comprehension (.ListComp elt [#[tg,iter,ifs,(0)]] scope pos) scope X.env _ (newList []) gB (m3 iter X.env)\gm (assign (.n x pos') X.env)) _ _ s;show aa (thn (A9 (use:=gm\assign (.n x pos') X.env) (Q:=λ_ s'=>SP X Oo D .next s') rfl hs (rW\S.cells I.ok) S.kind S.names (thn (hi Oo s Z H _ I h) λv s1 h1=>thn h1 λitv s2 h2=>?_)) λ_ s' hq=>aw\aw hq);show wb (QQ:=λd H2=>D.nx (Z.set i\gm (.r d)) H2) (Z_:=λacc C=>compPost ⇑X X.A X.xe (gm\assign (.n x pos') X.env) (λ_ s'=>SP X Oo D .next s') acc C) S hc hb h2 λd C s' H' J F hm q=>?_;let#[m,hm]:=hm;change hB _ _ (assign (.n x pos') X.env\.r d) _ _ s';show M6\wo J hN hx hl (v:=.r d) rfl (λs2 I2 ⟨a,sb,ha⟩=>?_) hf;let hCa:C≠a:=by
  rcases ha with e|e
  .rw[e];show F.2.1
  show λz=>F.2.2.2.2.1 x a e z.symm
 erw[m,hm.sameBut sb hCa,λh' hs'=>#[_,H',?_,q]];show I2.turned (t':=s2.toks) (λb o hb e=>hs'.extBut b o hb e) F.1 F.2.1 F.2.2.2.1 F.2.2.2.2.1 F.2.2.2.2.2
end
section
variable {a D:gL}{g:TG}{tt:TT}{te:TE}{Z':St}{H1:Hp}{Q:Hp->Prop}
def eD(Pv:Nat->St->-V->Hp->Prop)(c:Pv 0 Z' []\upd H1 D (.a []))(d:∀i Z ys H,i<=↑xs->Pv i Z ys H->SqL K H a xs)
  (f:∀i x Z ys H,xs[i]?*>x->Pv i Z ys H->g x Z H\nv tt te D ys (Pv (i+1)))
  (hd:∀Z ys H,Pv ↑xs Z ys H->Q H):jH (Itl K a) g tt te D Z' H1 Q:=by
 erw[λi m Z ys H=>m=↑xs-i/\i<=↑xs/\Pv i Z ys H,#[↑xs,∅,aV _,c],?_];rintro i m Z ys H ⟨rfl,hi,p⟩;let q:=d i Z ys H hi p;by_cases b:i<↑xs
 .refine .o #[#[xs,xs[i],q,by simp[b]],Pv (i+1),λZ' h H' p'=>#[↑xs-(i+1),(),1,b,p'],λx H' y=>?_];let#[e,y]:=y;subst e;show f i x Z ys _ (y xs q) p
 let e:i=↑xs:=();subst e;show .l #[#[xs,q,au _],hd Z ys H p]
def ph(Pv:Nat->St->-V->Hp->Prop)(c:Pv 0 Z' []\upd H1 D (.a []))(d:∀i Z ys H,i<=↑xs->Pv i Z ys H->SqT K H a xs)
  (f:∀i x Z ys H,xs[i]?*>x->Pv i Z ys H->g x Z H\nv tt te D ys (Pv (i+1)))
  (hd:∀Z ys H,Pv ↑xs Z ys H->Q H):jH (Itt K a) g tt te D Z' H1 Q:=by
 erw[λi m Z ys H=>m=↑xs-i/\i<=↑xs/\Pv i Z ys H,#[↑xs,∅,aV _,c],?_];rintro i m Z ys H ⟨rfl,hi,p⟩;let q:=d i Z ys H hi p;by_cases b:i<↑xs
 .refine .o #[#[xs,xs[i],q,by simp[b]],Pv (i+1),λZ' h H' p'=>#[↑xs-(i+1),(),1,b,p'],λx H' y=>?_];let#[e,y]:=y;subst e;show f i x Z ys _ (y xs q) p
 let e:i=↑xs:=();subst e;show .l #[#[xs,q,au _],hd Z ys H p]
def wa{lo:Int}{n:Nat}(Pv:Nat->St->-V->Hp->Prop)(c:Pv 0 Z' []\upd H1 D (.a []))
  (d:∀i Z ys H,i<n->Pv i Z ys H->g (.i (lo+i)) Z H\nv tt te D ys (Pv (i+1)))
  (hd:∀Z ys H,Pv n Z ys H->Q H):jH (Itr lo n) g tt te D Z' H1 Q:=by
 erw[λi m Z ys H=>m=n-i/\i<=n/\Pv i Z ys H,#[n,∅,aV _,c],?_];rintro i m Z ys H ⟨rfl,hi,p⟩;by_cases b:i<n
 .refine .o #[b,Pv (i+1),λZ' f H' p'=>#[n-(i+1),(),1,b,p'],λx H' y=>?_];let#[e,y]:=y;subst e y;show d i Z ys _ b p
 let e:i=n:=();subst e;show .l #[au _,hd Z ys H p]
end
open PySem.W
open HT (lexLt)
def xA:∀a b:-Int,lexLt a b=gn->lexLt b a=gB
 | [],[],h=>rfl
 | [],_::_,_=>rfl
 |_::_,[],h=>by cases h
 |x::xs,y::ys,h=>by
  rw[HT.lexLt_cons] at h |-;by_cases e:x=y
  .rw[Oj e] at h;rw[Oj e.symm];show xA xs ys h
  rw[Oi e] at h;rw[Oi λz=>e z.symm];have:x<y:=On h;show Om ()
def zq:∀a b c:-Int,lexLt b a=gB->lexLt c b=gB->lexLt c a=gB
 | [],b,[],_,_=>rfl
 | [],[],_::_,_,h=>rfl
 | [],_::_,_::_,_,_=>rfl
 |_::_,[],_,h,_=>by cases h
 |_::_,_::_,[],_,h=>by cases h
 |x::xs,y::ys,z::zs,h1,h2=>by
  rw[HT.lexLt_cons] at h1 h2 |-;by_cases e:y=x
  .subst e;rw[Oj rfl] at h1;by_cases d:z=y
   .rw[Oj d] at h2 |-;show zq xs ys zs h1 h2
   rw[Oi d] at h2 |-;show h2
  rw[Oi e] at h1;let f:¬y<x:=of_decide_eq_false h1;by_cases d:z=y
  .subst d;rw[Oi e];show h1
  rw[Oi d] at h2;let l2:¬z<y:=of_decide_eq_false h2;rw[Oi ()];show Om ()
def Tups(K:Frag)(H:Hp)(ys:-V)(ks:List\-Int):Prop:=Paired (λy k=>∃b,y=V.ref b/\SqT K H b (k.map V.int)/\k≠[]) ys ks
def Jk{h h':js}{a:gL}{m b:Str->Option gE}(h1:h.Ns a m)(h2:h.Ns a b):m=b:=by let#[o,es,ep,e,f,_,g]:=h1;let#[o',j,l,c,d,_,i]:=h2;rw[e] at c;cases c;rw[f] at d;cases d;funext x;rw[<-g,<-i]
section
def Inv.newsKept{h':js}{m:Str->Option gE}{t':Nat}{more:-(gL×Obj)}(I:!Inv H s)(F:Fr X.base X.env.locals s.heap m)(c:Fr X.base X.env.locals h' m)(N:News X.base X.env.locals h' (more++pZ X.base s.heap X.env.locals)) :
  (∀b o,b≠X.env.locals->s.heap.get? b*>o->h'.get? b*>o)/\(∀m,s.heap.Ns X.env.locals m->h'.Ns X.env.locals m):=by
 erw[λb o f e=>?_,λg hm=>by rw[<-Jk (h':=h') F.ns hm];show c.ns];cases q:X.base.get? b with
 |some u=>
  let d:=I.bk b u q;rw[e] at d;cases d;show c.keep b _ q
 |none=>show (N (b,o)\cU _ (rQ f q e)).1
def bJ.there{h:js}{a:gL}{o:HO}(x:bJ P w H h a o):∃ob,h.get? a*>ob:=by
 cases o with
 |lst xs=>let#[8,_,e]:=x;erw[_,e]
 |tup xs=>let#[8,ob,e,_]:=x;erw[_,e]
 |dK kvs=>let#[8,_,o,0,e,_]:=x;erw[_,e]
 |dT kvs=>let#[8,_,o,0,e,_]:=x;erw[_,e]
 |set S n=>let#[o,8,e,_]:=x;erw[_,e]
 |ins C dx fs=>let#[8,e,_]:=x;erw[_,e]
 |own y=>show x
 |xd fs=>let#[_,#[8,e,_],_]:=x;erw[_,e]
 |rng lo hi=>let#[8,e]:=x;erw[_,e]
 |frz ob u=>let#[e,_]:=x;erw[_,e]
 |tbl ps=>erw[_,(show h.get? a*>_ from x)]
 |met f y=>erw[_,(show h.get? a*>_ from x)]
 |ext φ=>let#[_,e,_]:=x;show e
def HOk.none_of{h:js}{a:gL}(x:HOk P w H h)(e:h.get? a=gf):H a=gf:=by
 cases q:H a with
 |none=>rfl
 |some u=>
  let#[o,z]:=(x a u q).there;rw[e] at z;cases z
def Inv.laidN{h':js}{t':Nat}{a:gL}{o:HO}(I:!Inv H s)(k:∀b o,b≠X.env.locals->s.heap.get? b*>o->h'.get? b*>o)(g:∀m,s.heap.Ns X.env.locals m->h'.Ns X.env.locals m)
  (ha:s.heap.get? a=gf) (new:∀H',bJ X.prog X.w H' h' a o) (j:∀y fs,o≠.ins y fs []):!Inv (upd H a o) {s with heap:=h',toks:=t'}:=by
 let f:H a=gf:=I.hok.none_of ha;let h:∀b u,H b*>u->b≠X.env.locals:=λb u e z=>by rw[z,I.free] at e;cases e
 show I.step (g':=s.gens) (d':=s.drawn) (ch:=[]) (λ_ z=>nomatch z) (λb o d _ _ e _=>k b o d e) (λb o d _ _ e _=>#[o.slots,k b o d e]) (λb o _ e n=>?_) (λb o _ e=>?_) (λb xs e=>?_) (λb o u e=>?_) (λb ps e=>#[(tA []),?_]) g (λb u e=>?_) I.bare
 .rw[aS (λz=>by rw[z,ha] at e;cases e)];show n
 .by_cases d:b=X.env.locals
  .subst d;let#[m,hm,_]:=I.loc;let#[o',0,e',_]:=g m hm;erw[o',e']
  erw[o,k b o d e]
 .rw[aS\ao e f];show e
 .rw[aS\ao e f];show e
 .rw[aS\ao e f,e];simp
 by_cases d:b=a
 .subst d;rw[aW] at e;cases e;show new _
 rw[aS d] at e;show (I.hok b u e).stay (λc v i q=>k c v ?_ q) (λc q=>by rw[aS\ao q f];show q) λc xs q=>by rw[aS\ao q f];show q
 rcases i with z|z
 .rw[z];show h b u e
 show h c _ z
def Inv.keptN{h':js}{t':Nat}(I:!Inv H s)(k:∀b o,b≠X.env.locals->s.heap.get? b*>o->h'.get? b*>o)(f:∀m,s.heap.Ns X.env.locals m->h'.Ns X.env.locals m):!Inv H {s with heap:=h',toks:=t'}:=by
 let g:∀b u,H b*>u->b≠X.env.locals:=λb u e z=>by rw[z,I.free] at e;cases e
 show I.step (g':=s.gens) (d':=s.drawn) (ch:=[]) (λ_ z=>nomatch z) (λb o d _ _ e _=>k b o d e) (λb o d _ _ e _=>#[o.slots,k b o d e]) (λb o _ e n=>n) (λb o _ e=>?_) (λb xs e=>e) (λb o u e=>e) (λb ps e=>#[(tA []),by rw[e];simp]) f (λb u e=>?_) I.bare
 .by_cases d:b=X.env.locals
  .subst d;let#[m,hm,_]:=I.loc;let#[o',0,e',_]:=f m hm;erw[o',e']
  erw[o,k b o d e]
 show (I.hok b u e).stay (λc v h q=>k c v ?_ q) (λc q=>q) λc xs q=>q;rcases h with z|z
 .rw[z];show g b u e
 show g c _ z
end
def gd(h:js)(a:gL)(vs:-gE):Heap:=((h.update a (Obj.mapSeq λ_=>(tA []))).push\seqObj ↑23 vs.toArray 0).push\seqObj ↑15 (tA []) 0
section
variable {prog:jl}{κ:v7}{rk:gE->-Int}
def wC{a:gL}{vs:-gE}{n:Nat}{P:PySem.Fin->hA->Prop}(ho:s.heap.get? a*>seqObj ↑15 vs.toArray n)(hz:↑vs<=hH)
  (hk:2<=↑vs->∀Q:v7->hA->Prop,Q κ {s with heap:=gd s.heap a vs}->hB (i3 prog w) A (keyKind' vs.toArray) Q E {s with heap:=gd s.heap a vs})
  (hc:2<=↑vs->∀x∈vs,∀y∈vs,∀C:Bool->hA->Prop,C (HT.lexLt (rk x)\rk y) {s with heap:=gd s.heap a vs}->hB (i3 prog w) A (keyLt' κ x y) C (λ_ _=>False) {s with heap:=gd s.heap a vs})
  (h:∀out:-gE,out.Perm vs->out.Pairwise (λu v=>HT.lexLt (rk v) (rk u)=gB)->P (.done\.ret .none) {s with heap:=sortedHeap s.heap a vs out.toArray}):hB (i3 prog w) A (Builtin.«list.sort» #[[.r a],[]]) P E s:=by
 let lt:a<↥s:=aX ho;let#[e1,h1]:∃e1,(s.heap.update a (Obj.mapSeq λ_=>((tA []):Array gE))).get? a*>seqObj ↑15 (tA []) e1:=#[_,get?_update_seq ho λ_=>(tA [])];let h3:(gd s.heap a vs).get? a*>seqObj ↑15 (tA []) e1:=bh _\bh _ h1;let zs:(vs.toArray.zip vs.toArray).map (·.2)=vs.toArray:=by apply nE.mp;simp only[uM,List.zip_toArray];show LU\au _
 rw[list_sort_plain];show aa\listItems_at ho rfl (aa\listUpdate_at ho rfl (aa\seqEpoch_at h1 rfl (aa\Na (aa\wpAny_newList (gw ?_) (aV _)) hz)) (by rw[bM];lia) (aV _));change hB _ _ _ _ _ {s with heap:=gd s.heap a vs};let fin:∀st:tf,ub st=gf->((ua st).map (·.2)).toList.Perm vs->((ua st).map (·.2)).toList.Pairwise (λu v=>HT.lexLt (rk v) (rk u)=gB)->∀s':hA,s'={s with heap:=gd s.heap a vs}->hB (i3 prog w) A (do
   let touched:=(<-seqEpoch a) != e1
   Builtin.List.listUpdate (.r a) λ_=>(ua st).map (·.2)
   if let gm e:=ub st then rule "list.sort.comparison-raised";throw e
   if touched then rule "list.sort.modified";raiseError "ValueError" "list modified during sort"
   ret .none) P E s':=by
  rintro st hf hp hs _ rfl;show aa\seqEpoch_at h3 rfl (aa\listUpdate_at h3 rfl ?_ (aV _) (by have:=hp.length_eq;rw[gr] at this;lia));rw[hf];simp only[bne_self_eq_false,iu,if_false];show aw (by
   let z:=h _ hp hs
   rwa [Array.toArray_toList] at z)
 dsimp only;by_cases h2:↑vs<2
 .let hs2:vs.toArray.size<2:=by rw[bM];show h2
  rw[Oj hs2,Oj hs2];show aa\aw ?_;rw[StateT.run_pure];show aa\aw ?_;show fin (SortSt.mk' general' (vs.toArray.zip vs.toArray) (tA []) 7 gf) rfl ?_ ?_ _ rfl
  .change (((vs.toArray.zip vs.toArray).map (·.2)).toList).Perm vs;rw[zs]
  change (((vs.toArray.zip vs.toArray).map (·.2)).toList).Pairwise _;rw[zs];cases vs with
  |nil=>show .nil
  |cons x l=>rw[List.eq_nil_of_length_eq_zero (show ↑l=0 by rw[br] at h2;lia)];show lR _ _
 let nt:¬vs.toArray.size<2:=by rw[bM];lia
 rw[Oi nt,Oi nt];show aa\hk () _ ?_;let mem:∀x∈(vs.toArray.zip vs.toArray),x.1∈vs/\x.1=x.2:=λx hx=>by
  let hx:x∈vs.zip vs:=‹hx›
  let#[i,hi]:=dD.mp hx;rw[j7] at hi;erw[aJ hi.1,df\hi.1.symm.trans hi.2]
 let C:TimS.Cmp (i3 prog w) A E {s with heap:=gd s.heap a vs} κ (λx=>x∈(vs.toArray.zip vs.toArray)) (λx y=>HT.lexLt (rk x.1)\rk y.1):=by erw[λ_ _=>xA _ _,λ_ _ _=>zq _ _ _,λ{x y st Q} hx hy hk' q=>?_];rw[lt'_eq];show aH\iD ?_;rw[hk'];show aH\wpS_lift (rK (dq (hc () _ (mem x hx).1 _ (mem y hy).1 (λb s'=>b=HT.lexLt (rk x.1) (rk y.1)/\s'={s with heap:=gd s.heap a vs}) #[5]) (λb s' ⟨e,e'⟩=>?_) λ_ _ z=>z.elim));subst e e';erw[1,ba q]
 let hzz:(vs.toArray.zip vs.toArray).size=↑vs:=∅;show aa (dq (TimS.wp_runs C (st:=SortSt.mk' κ (vs.toArray.zip vs.toArray) (tA []) 7 gf) (λx hx=>hx) rfl rfl rfl rfl (by rw[hzz];lia) (Q:=λ_ st=>ub st=gf/\(ua st).Perm (vs.toArray.zip vs.toArray)/\TimS.Seg (λx y=>HT.lexLt (rk x.1)\rk y.1) (ua st) 0 ↑vs) λst' f p g=>#[f,p,by rw[hzz] at g;show g]) ?_ λ_ _ e=>e);rintro⟨⟨⟩,st'⟩ s' ⟨e,hf,hp,hg⟩;show fin st' hf ?_ ?_ s' e
 .have:=(Lh.mp hp).map (·.2);rw[<-uM,<-uM,zs] at this;show this
 rw[uM,fC];show lQ.mpr λi j hi hj hij=>?_;let hz2:(ua st').size=↑vs:=hp.size_eq<*hzz;let hi':i<(ua st').size:=‹hi›
 let hj':j<(ua st').size:=‹hj›
 let g:=hg i j (aV _) () ();let e2:∀k (hk:k<(ua st').size),TimS.G (ua st') k=(ua st')[k]:=λk hk=>by simp[TimS.G,hk]
 let e3:∀k (hk:k<(ua st').size),((ua st')[k]).1=((ua st')[k]).2:=λk hk=>(mem _\hp.mem_iff.mp (Array.getElem_mem hk)).2;let g:HT.lexLt (rk (TimS.G (ua st') j).1) (rk (TimS.G (ua st') i).1)=gB:=g;rw[e2 i hi',e2 j hj',e3 i hi',e3 j hj'] at g;simpa using g
def vY{l:gL}{vs:-gE}{Q:gE->hA->Prop}(f:s.heap.IsList l vs.toArray)(p:↑vs+1<=hH)
  (i:∀h':js,(∀b o,s.heap.get? b*>o->h'.get? b*>o)->2<=↑vs->∀Q:v7->hA->Prop,Q κ {s with heap:=h'}->hB (i3 prog w) A.in1.in1 (keyKind' vs.toArray) Q E {s with heap:=h'})
  (j:∀h':js,(∀b o,s.heap.get? b*>o->h'.get? b*>o)->2<=↑vs->∀x∈vs,∀y∈vs,∀C:Bool->hA->Prop,C (HT.lexLt (rk x)\rk y) {s with heap:=h'}->hB (i3 prog w) A.in1.in1 (keyLt' κ x y) C (λ_ _=>False) {s with heap:=h'})
  (h:∀out:-gE,out.Perm vs->out.Pairwise (λu v=>HT.lexLt (rk v) (rk u)=gB)->Q (.r (↥s+1)) {s with heap:=sortedAll s.heap vs out.toArray}):hB (i3 prog w) A (call (.b ↑29) [.r l]) Q E s:=by
 show Calls.call_function_entry kind_sorted plain_sorted entry_sorted (args_sorted1 _) ?_;unfold Builtin.«sorted»;show aa (m:=checkCount ↑29 1 1 _)\aw (aa\collect_list f (aa\wpAny_newList ?_ ()) ());generalize c:(s.heap.push\seqObj ↑15 (tA []) 0).update ↥s (Obj.mapSeq (·++vs.toArray))=G;let d:G.objs.size=↥s+1:=by rw[<-c,Heap.size_update,size_push']
 let e:(G.push\seqObj ↑15 vs.toArray 0).get? (↥s+1)*>seqObj ↑15 vs.toArray 0:=by rw[<-d];show bX _ rfl
 let n:∀out:-gE,sortedAll s.heap vs out.toArray=sortedHeap (G.push\seqObj ↑15 vs.toArray 0) (↥s+1) vs out.toArray:=λout=>by rw[<-c];rfl
 let old:∀b o,s.heap.get? b*>o->(gd (G.push\seqObj ↑15 vs.toArray 0) (↥s+1) vs).get? b*>o:=λb o q=>by
  let lt:=aX q;let g:G.get? b*>o:=by rw[<-c,Aj _ _ _ _\bz lt];show bh _ q
  show bh _\bh _ ?_;rw[Aj _ _ _ _\bz (rA lt)];show bh _ g
 change hB _ _ _ _ _ {s with heap:=G.push\seqObj ↑15 vs.toArray 0};rw[d];show aa\gw (kj MX #[_,e,1] MS ?body\MQ _)
 case body=>
  show wC (rk:=rk) (κ:=κ) (s:={s with heap:=G.push\seqObj ↑15 vs.toArray 0}) e () (i _ old) (j _ old) λout p1 p2=>?_;erw[2,aw #[2,(n out) ▸ h out p1 p2]]
end
section
def Paired.getE{α β:Type}{F:α->β->Prop}:∀{b:List α}{l2:List β}{i:Nat}{x:α},Paired F b l2->b[i]?*>x->∃y,l2[i]?*>y/\F x y
 |_,_,_,_,.nil,e=>by simp at e
 |_,_,0,_,.cons r _,e=>by simp at e;subst e;erw[2,r]
 |_,_,i+1,x,.cons _ t,e=>by
  let#[u,h1,h2]:=Paired.getE (i:=i) (x:=x) t ‹e›;erw[u,‹h1›,h2]
def wj{ys:-V}{b:-gE}(r:Vals ys b):∀(ix:-Nat),(∀i∈ix,i<↑ys)->Vals (ix.map λi=>ys.getD i .non) (ix.map λi=>b.getD i Value.none)
 | [],_=>.nil
 |i::ix,h=>by
  show .c ?_ (wj r ix λj c=>h j\aC _ c);let hi:=h i aL;let#[u,d,e]:=r.get (i:=i) (x:=ys[i]) (by simp[hi]);let f:ys.getD i .non=ys[i]:=by simp[List.getD,hi]
  let g:b.getD i Value.none=u:=by rw[List.getD,d];rfl
  change aB (ys.getD i .non)\b.getD i Value.none;rw[f,g];show e
def HS{prog:jl}(us ws:-gE)(ns ms:-Int)(i:Nat)(s:hA){fin:Bool}{Q:Bool->hA->Prop}(h1:u0 us ns)(h2:u0 ws ms)(e:fin=decide (↑ns<↑ms))(q:Q (HT.lexLt ns ms) s):KatLex prog w A gn fin Q (us.zip ws) i s:=by
 induction h1 generalizing ws ms i with
 |nil=>
  subst e;cases h2 with
  |nil=>show q
  |cons _ _ _=>show kat_nil (by simpa [HT.lexLt] using q)
 |cons a t f c=>cases h2 with
  |nil=>subst e;show kat_nil (by simpa [HT.lexLt] using q)
  |cons b u d=>
  rw[HT.lexLt_cons] at q;show kat_cons\A_ ?_;by_cases h:a=b
  .rw[Oj h] at q;rw[show (a==b)=gn by simpa using h];show kat_yes\c _ _ (i+1) d ?_ q;rw[e];simp
  rw[Oi h] at q;rw[show (a==b)=gB by simpa using h];show kat_no ?_;cases g:(gn&&i==0) with
  |true=>show oneLt_int q
  |false=>show kat_one _ _\lt_int q
def CV{α β:Type}{f:α->β}:∀{l c:List β},c.Perm l->∀ix:List α,l=ix.map f->∃b:List α,b.Perm ix/\c=b.map f:=by
 intro l c h;induction h with
 |nil=>show λix e=>#[ix,.refl _,e]
 |cons x _ d=>
  intro ix e;cases ix with
  |nil=>cases e
  |cons i ix=>
   rw[bj] at e;injection e with g m;let#[b,p,q]:=d ix m;erw[i::b,p.cons i,by rw[bj,g,q]]
 |swap x y l=>
  intro ix e
  match ix,e with
  |i::j::ix,e=>
   simp only[bj,List.cons.injEq] at e;erw[j::i::ix,.swap _ _ _,by rw[bj,bj,e.1,e.2.1,e.2.2]]
 |trans _ _ n o=>
  intro ix e;let#[r,p2,s]:=o ix e;let#[u,p1,v]:=n r s;erw[u,p1<*p2,v]
def Ky(K:Frag)(H:Hp)(ys:-V)(ks:List\-Int):Prop:=Paired (λy k=>∃n,y=V.int n/\k=[n]) ys ks\/Tups K H ys ks
def rkV(h:js):gE->-Int
 |.int n _=>[n]
 |.ref b=>match h.get? b with
  |some o=>match o.data with
   |.seq xs _=>xs.toList.map λv=>match v with | .int n _=>n|_=>0
   |_=>[]
  |none=>[]
 |_=>[]
def tJ:∀{us:-gE}{ns:-Int},u0 us ns->(us.map λv=>match v with | .int n _=>n|_=>0)=ns
 |_,_,.nil=>rfl
 |_,_,.cons n t r=>by rw[bj,tJ r]
def zr(I:!Inv H s){ys:-V}{ks:List\-Int}{c:-gE}(h:Ky [] H ys ks)(p:Vals ys c):∃κ:v7,(∀i,i<↑c->rkV s.heap (c.getD i Value.none)=ks.getD i [])/\
  ∀{A:ru}{E:gE->hA->Prop}(h':js),(∀b o,s.heap.get? b*>o->o.cls=.t ↑23->h'.get? b*>o)->2<=↑c->
   (∀Q:v7->hA->Prop,Q κ {s with heap:=h'}->hB ⇑X A (keyKind' c.toArray) Q E {s with heap:=h'})/\
   ∀x∈c,∀y∈c,∀C:Bool->hA->Prop,C (HT.lexLt (rkV s.heap x)\rkV s.heap y) {s with heap:=h'}->hB ⇑X A (keyLt' κ x y) C (λ_ _=>False) {s with heap:=h'}:=by
 rcases h with h|h
 .let#[ns,5]:∃ns:-Int,ys=ns.map V.int/\ks=ns.map λn=>[n]:=by
   clear p;induction h with
   |nil=>erw[[],5]
   |cons r _ B=>
    let#[n,5]:=r;let#[ns,5]:=B;erw[n::ns,5]
  let D:=jo p;let g:∀{c:-gE}{ns:-Int},u0 c ns->∀x∈c,∃n t,x=Value.int n t:=λ{c ns} D x l=>by
   induction D with
   |nil=>cases l
   |cons n t _ B=>
    rcases ah.mp l with rfl|l
    .exact#[n,t,1]
    show B l
  erw[oneType',λi hi=>?_,λ{A E} h' _ h2=>#[λQ q=>?_,λx l y M C q=>?_]]
  .let#[u,N,L]:=p.get (i:=i) (x:=(ns.map V.int)[i]'(by rw[↑p];show hi)) ∅;let ab:i<↑ns:=by have:=↑p;rw[av] at this;lia
   rw[List.getElem_map] at L;let#[t,1]:=L;rw[List.getD,N,List.getD,aU,ay ab];rfl
  .match c,h2,D with
   |v1::v2::rest,_,D=>rw[keyKind_ints D];show aw q
  let#[n,t,1]:=g D x l;let#[m,u,1]:=g D y M;show kat_lt_int ?_;let e:HT.lexLt (rkV s.heap\Value.int n t) (rkV s.heap\Value.int m u)=decide (n<m):=by
   change HT.lexLt [n] [m]=_;rw[HT.lexLt_cons];by_cases z:n=m
   .rw[Oj z,Om ()];rfl
   rw[Oi z]
  rw[<-e];show q
 let at_:∀(ks:List\-Int)(ys:-V)(c:-gE),Tups [] H ys ks->Vals ys c->Paired (λv k=>k≠[]/\∃b us o n,v=Value.ref b/\u0 us k/\s.heap.get? b*>o/\o.cls=.t ↑23/\o.data=.e us.toArray n) c ks:=by
  intro ks;induction ks with
  |nil=>intro ys c a b;cases a;cases b;show .nil
  |cons k ks B=>
   intro ys c a b;cases a with
   |cons hh tt=>
    let#[bb,e0,hq,O]:=hh;subst e0;cases b with
    |cons r rr=>
     cases r;let#[us,r5,#[o,p1,p2,n,p3],_]:=I.tuple hq;show .c #[O,bb,us,o,n,1,jo r5,p1,p2,p3]\B _ _ tt rr
 let P:=at_ ks ys c h p;let R:∀{b:gL}{us:-gE}{o:Obj}{n:Nat}{k:-Int},u0 us k->s.heap.get? b*>o->o.data=.e us.toArray n->rkV s.heap (Value.ref b)=k:=λ{b us o n k} d f K=>by
  change (match s.heap.get? b with|some o=>_|none=>_)=_;rw[f];change (match o.data with | .seq xs _=>_|_=>_)=_;rw[K];show tJ d
 erw[tuples' (Value.type "int" != Value.type ↑23),λi hi=>?_,λ{A E} h' old h2=>#[λQ q=>?_,λx l y M C q=>?_]]
 .let#[k,N,_,b,us,o,n,L,d,f,_,K]:=Paired.getE (i:=i) (x:=c[i]) P (by simp[hi]);rw[show c.getD i Value.none=c[i] by simp[List.getD,hi],L,R d f K,List.getD,N];rfl
 .let#[fs,hk,an,ad]:∃fs,KatTups h' c fs/\↑fs=↑c/\∀v∈fs,∃n t,v=Value.int n t:=by
   clear p h2 h at_;induction P with
   |nil=>erw[[],.nil,1,λ_ h=>nomatch h]
   |cons r _ B=>
    let#[O,b,us,o,n,1,d,f,S,K]:=r;let#[fs,U,al,am]:=B;cases d with
    |nil=>show absurd rfl O
    |cons z tk r2=>
     erw[Value.int z tk::fs,.c (old _ _ f S) S K ∅ U,by simp[al],λv g=>?_];rcases ah.mp g with rfl|g
     .exact#[9]
     show am v g
  show kat_kind (T:=.t "int") hk () (λv g=>?_) ⋯ q;let#[n,t,1]:=ad v g;show Looks.of_pure rfl
 let#[#[i,hi],#[j,hj],#[U,0,b1,u1,o1,n1,1,d,Y,c1,z1],#[k2,0,b2,u2,o2,n2,1,f,x2,c2,z2]]:=#[dD.mp l,dD.mp M,Paired.getE P hi,Paired.getE P hj];rw[R d Y z1,R f x2 z2] at q;rw[show (Value.type "int" != Value.type ↑23)=gn by decide];show kat_lt (old _ _ Y c1) z1 (old _ _ x2 c2) z2\HS u1 u2 _ _ 0 _ d f ?_ q;rw[<-↑d,<-↑f];simp
def uo{ys:-V}{ks:List\-Int}{c out:-gE}(d:Vals ys c)(g:∀i,i<↑c->rkV s.heap (c.getD i Value.none)=ks.getD i [])(p:out.Perm c)(j:out.Pairwise λu v=>HT.lexLt (rkV s.heap v) (rkV s.heap u)=gB) :
  ∃ix:-Nat,ix.Perm (List.range ↑ys)/\(ix.map λi=>ks.getD i []).Pairwise (λa b=>HT.lexLt b a=gB)/\Vals (ix.map λi=>ys.getD i .non) out:=by
 let e:c=(List.range ↑c).map λi=>c.getD i Value.none:=by show uQ ∅ λi h1 h2=>?_;simp[h1]
 let#[ix,p2,1]:=CV p _ e;let f:∀i∈ix,i<↑c:=λi hi=>iB.mp\p2.mem_iff.mp hi;erw[ix,by rw[↑d];show p2,?_,wj d ix λi hi=>by rw[↑d];show f i hi];rw[fC] at j |-;show gv (λ{a b} ha l h=>?_) j;rw[g _\f a ha,g _\f b l] at h;show h
def IW(K:Frag):-V->Hp->VK->Prop:=λxs H Q=>∃(a:gL)(ys:-V)(ks:List\-Int),xs=[.r a]/\SqL K H a ys/\Ky K H ys ks/\↑ys<5000/\
 ∀p (ix:-Nat),H p=gf->ix.Perm (List.range ↑ys)->(ix.map λi=>ks.getD i []).Pairwise (λa b=>HT.lexLt b a=gB)->Q (.r p)\upd H p (.a (ix.map λi=>ys.getD i .non))
def Bk:de X (.b ↑29) (IW []):=by lk;intro xs us Q I r h;let#[a,ys,ks,1,g,j,x,q]:=h;let#[u,1,l]:=Vals.one r;cases l;let#[m,c,p,_]:=I.list g;let y:=↑c;let#[κ,n,ask]:=zr I j c;show vY (κ:=κ) (rk:=rkV s.heap) p.isList (by rw[dX];lia) (λh' old h2=>(ask h' (λb o e _=>old b o e) h2).1) (λh' old h2=>(ask (E:=λ_ _=>False) h' (λb o e _=>old b o e) h2).2) λout p1 p2=>?_;let#[ix,d,v,w]:=uo c n p1 p2;let#[e,he]:=sortedAll_at s.heap m out.toArray;let f:↥s<=↥s+1:=nX _;erw[.r (↥s+1),upd H (↥s+1)\.a (ix.map λi=>ys.getD i .non),I.laid (t':=s.toks) (λb o e=>sortedAll_old e) f #[by rw[av,d.length_eq,iz,dX];lia,out,e,w,by rw[he]],1,q _ ix (I.hok.fresh f) d v]
def Jq{K:Frag}(ns:-Int):Ky K H (ns.map V.int) (ns.map λn=>[n]):=.l (by
 induction ns with
 |nil=>show .nil
 |cons n ns b=>show .c #[n,5] b)
def Jw{ns:-Int}{ix:-Nat}(p:ix.Perm\List.range ↑(ns.map V.int))(w:(ix.map λi=>(ns.map λn=>[n]).getD i []).Pairwise λa b=>HT.lexLt b a=gB) :
  ∃ms:-Int,ms.Perm ns/\ms.Pairwise (·<=·)/\(ix.map λi=>(ns.map V.int).getD i .non)=ms.map V.int:=by
 rw[av] at p;let c:∀i∈ix,i<↑ns:=λi hi=>iB.mp\p.mem_iff.mp hi;erw[ix.map λi=>ns.getD i 0,?_,?_,?_]
 .have:=p.map λi=>ns.getD i 0;show this.trans\Am (uQ ∅ λi h1 h2=>?_);simp[h2]
 .rw[fC] at w |-;show gv (λ{a b} ha d h=>?_) w;let h1:=c a ha;let h2:=c b d;simp only[List.getD,aU,ay h1,ay h2,nZ,u7] at h |-;rw[HT.lexLt_cons] at h;by_cases z:ns[b]=ns[a]
  .lia
  rw[Oi z] at h;have:=of_decide_eq_false h;lia
 rw[bG];show rg λi hi=>?_;have:=c i hi;simp[List.getD,this]
def IV(K:Frag):-V->Hp->VK->Prop:=λxs H Q=>∃(a:gL)(ys:-V)(ks:List\-Int),xs=[.r a]/\SqL K H a ys/\Tups K H ys ks/\↑ys<5000/\
 ∀p (ix:-Nat),H p=gf->ix.Perm (List.range ↑ys)->(ix.map λi=>ks.getD i []).Pairwise (λa b=>HT.lexLt b a=gB)->Q (.r p)\upd H p (.a (ix.map λi=>ys.getD i .non))
def Bi:de X (.b ↑29) (IV []):=by lk;intro xs us Q I r h;let#[a,ys,ks,1,b,c,d,q]:=h;show Bk Oo s Z H _ us Q I r #[a,9,b,.o c,d,q]
end
def DAt(h:js)(d:gL)(es:Array oD)(ep:Nat):Prop:=∃o,h.get? d*>o/\o.ExactDict/\o.data=.y es ep
def DAt.lt{h:js}{d:gL}{es:Array oD}{ep:Nat}(x:DAt h d es ep):d<h.objs.size:=let ⟨_,e,_⟩:=x;aX e
def DAt.at{h h':js}{d:gL}{es:Array oD}{ep:Nat}(x:DAt h d es ep)(k:∀o,h.get? d*>o->h'.get? d*>o):DAt h' d es ep:=let ⟨o,e,r⟩:=x;#[o,k o e,r]
def DAt.ty{d:gL}{es:Array oD}{ep:Nat}(x:DAt s.heap d es ep):s.TypeIs (.r d) ↑93:=let ⟨o,e,c,_⟩:=x;#[o,e,c.1]
section
variable {prog:jl}{d it:gL}{es:Array oD}{ep i:Nat}
def uz{Q:gE->hA->Prop}(lo:(d==mc)=gB)(m:DAt s.heap d es ep)
  (q:Q (.r ↥s) {s with heap:=s.heap.push {cls:=.t ↑70,data:=.d\tA [.r d,.i 0 0,.i es.size 0,.i ep 0]}}):hB (i3 prog w) A (pyIter\.r d) Q E s:=by
 let#[o,b,_,c]:=id m;show Ng m.ty Mu (kj Mu m.ty PySem.F.entry_dict_iter ?tree\PySem.F.args_dict_iter_1 _);unfold Builtin.«dict.__iter__» Builtin.Dict.dictSlotNone;show aa\aa (Nb m.ty ?_);show aw (show hB _ _ (Builtin.Dict.showsAll d >>= _) _ _ s from ?_);unfold Builtin.Dict.showsAll;rw[Oi (show ¬(d==mc)=gn by rw[lo];simp)];show aa\aw (aa\oi b c (aa\oj b c ?_));show aa\iC (aw #[2,↑70,_,#[_,bX _ rfl,1],rE.lookup,?_]);simpa [mL] using q
def Ae{Q:Option gE->hA->Prop}(hit:s.heap.IsKeyIter it d i es.size ep)(m:DAt s.heap d es ep)(hi:i<es.size)
  (q:∀h',h'.IsKeyIter it d (i+1) es.size ep->Heap.SameBut it s.heap h'->Q (gm es[i].key) {s with heap:=h'}):hB (i3 prog w) A (q0\.r it) Q E s:=by
 let#[o,b,f,hd]:=id hit;let#[od,c,_,e]:=id m;unfold q0;show aa\rK (vy (name:=Str.ofString "__next__") hit.typeIs rE (kj rE hit.typeIs Mr ?tree\Mp _));show aa\aw (aa\aa ?_)
 first|show aa (vH hit.typeIs\aw (aa\kl b hd ?_))|show aa\vJ hit.typeIs (aw\aa (kl b hd ?_))
 simp only[show Builtin.Dict_items.ownsTuple ↑70 = gB by decide,iu,if_false];show (show hB _ _ (if (Value.ref d==Value.none)=gn then _ else _) _ _ s from ?_);rw[Oi (show ¬(Value.ref d==Value.none)=gn from bL)];show aa\aw (aa\oi c e ?_);rw[Oi ∅];show aa\aw (aa\oj c e ?_);rw[Oi ∅];show aw ?_;simp only[show ¬((i:Int)<0) by lia,if_false,nG,Ag hi];show aa ?_
 first|show aa (vH hit.typeIs\aw (aa\Bb hit.typeIs ?_))|show aa\vJ hit.typeIs (aw\aa (Bb hit.typeIs ?_))
 change hB _ _ (setField (.r it) 1 (mL ((i:Int)+1)) >>= _) _ _ s;show aa (Bf b hd ∅ ?_);let t':(s.heap.update it\Obj.mapFields (·.setIfInBounds 1 (mL ((i:Int)+1)))).IsKeyIter it d (i+1) es.size ep:=
  #[_,qY _ b\Obj.isFreed_of_fields (Mh hd _),(Obj.cls_mapFields ..)<*f,by rw[Mh hd];simp[mL]]
 show aa\gw (aa\Bb (s:={s with heap:=s.heap.update it\Obj.mapFields (·.setIfInBounds 1 (mL ((i:Int)+1)))}) t'.typeIs ?_);change hB _ _ (pure es[i].key) _ _ _;show aw\aw #[2,aw\q _ t' (Ah ..)]
def dEnd{Q:Option gE->hA->Prop}(g:A.handled=gf)(hit:s.heap.IsKeyIter it d i es.size ep)(m:DAt s.heap d es ep)(hi:es.size<=i)
  (q:∀h',Heap.ExtBut it s.heap h'->Q gf {s with heap:=h'}):hB (i3 prog w) A (q0\.r it) Q E s:=by
 let#[o,c,h,hd]:=id hit;let#[od,e,_,f]:=id m;unfold q0;show aa\rK (vy (name:=Str.ofString "__next__") hit.typeIs rE (kj rE hit.typeIs Mr ?tree\Mp _));show aa\aw (aa\aa ?_)
 first|show aa (vH hit.typeIs\aw (aa\kl c hd ?_))|show aa\vJ hit.typeIs (aw\aa (kl c hd ?_))
 simp only[show Builtin.Dict_items.ownsTuple ↑70 = gB by decide,iu,if_false];show (show hB _ _ (if (Value.ref d==Value.none)=gn then _ else _) _ _ s from ?_);rw[Oi (show ¬(Value.ref d==Value.none)=gn from bL)];show aa\aw (aa\oi e f ?_);rw[Oi ∅];show aa\aw (aa\oj e f ?_);rw[Oi ∅];show aw ?_;simp only[show ¬((i:Int)<0) by lia,if_false,nG,Lg hi];show aa ?_
 first|show aa (vH hit.typeIs\aw ?_)|show aa\vJ hit.typeIs (aw ?_)
 show (show hB _ _ (setField (.r it) 0 .none >>= _) _ _ s from aa (Bf c hd ∅ ?_));change hB _ _ (newExc (.t ↑98) [] >>= _) _ _ _;show aa ?_;simp only[newExc,newTuple];show aa\iC (aa (m:=firstArgMember _ _)\Bd (a:=Value.none) (by first|rfl|(simp only[firstArgMember];rfl)) (iC ?_ (by size_fits))) (by size_fits);simp only[raiseNew];show aa\wpAny_handled ?_;rw[show A.in1.handled=gf from g];show aa\aw (wpAny_throw ?_);show aa\Ba (b:=gn) (T:=↑98) #[_,bX _ rfl,1] MV ?_;show aw\q _ (((Ah ..).extBut.push _).push _)
def zE(j:A.handled=gf)(I:gL)(l:d≠I):Walks prog w A I [I,d] [I] es.size (λi v=>∃(h:i<es.size),v=es[i].key) (λi h=>h.IsKeyIter I d i es.size ep/\DAt h d es ep) where
 sub:=λb c=>by simp at c;simp[c]
 frame:=λ_ _ _ st g=>#[st.1.at λo e=>g I ∅ o e,st.2.at λo e=>g d ∅ o e]
 item:=λi s Q E hi st f=>Ae st.1 st.2 hi λh' t' sb=>f _ h' s.toks #[hi,1] #[t',st.2.at λo e=>(sb.2 d l)<*e] λb o c e=>sb.extBut b o (λh=>c (by simp[h])) e
 done:=λs Q E st f=>dEnd j st.1 st.2 (au _) λh' x=>f h' s.toks λb o c e=>x b o (λh=>c (by simp[h])) e
 self:=λ_ _ _ _ st f=>Nf st.1 f
def dSrc(lo:(d==mc)=gB):KdlSrc prog w ↑93 d d es.size (λi v=>∃(h:i<es.size),v=es[i].key) (λh=>DAt h d es ep) where
 type:=λ_ m=>m.ty
 there:=λ_ m=>#[m.lt,m.lt]
 keep:=λ_ _ m c=>m.at λo e=>c d (.l rfl) o e
 notList:=⋯
 notTuple:=⋯
 hint:=λ_ _ _ _ m b=>kdl_hint_dict m.ty b
 iter:=λ_ _ f m=>#[0,(λ_ _ b=>uz lo m b),zE f _\bz m.lt,#[#[_,bX _ rfl,5],m.at λo e=>bh _ e]]
end
def DKeys(H:Hp)(d:gL)(ks vs:-V):Prop:=
 (∃kvs,H d*>.k kvs/\ks=kvs.map (λp=>kV p.1)/\vs=kvs.map (·.2)) \/
 ∃kvs as,H d*>.dT kvs/\Paired (λ(p:-Key×V) a=>H a*>.u\p.1.map kV) kvs as/\ks=as.map V.ref/\vs=kvs.map (·.2)
def DIs(H:Hp)(d:gL):Prop:=(∃kvs,H d*>.k kvs)\/∃kvs,H d*>.dT kvs
def dview{d:gL}(I:!Inv H s)(hd:DIs H d) :
  (d==mc)=gB/\∃ks vs es ep,DKeys H d ks vs/\↑ks<=hH/\DAt s.heap d es ep/\Vals ks (es.toList.map (·.key))/\Vals vs (es.toList.map (·.val)):=by
 rcases hd with ⟨kvs,e⟩|⟨kvs,e⟩
 .let#[z,lo,us,rel,o,es,ep,h1,h2,f,_,n,_]:=jT I.hok e;erw[lo,0,es,ep,.l #[kvs,e,5],by rw[av];show z,#[o,h1,h2,f],?_];generalize es.toList=l at n;let go:∀{kvs:-(Key×V)}{us:-(Key×gE)}{l:-oD},KV kvs us->Pairs (cM X.prog X.w) l us->Vals (kvs.map λp=>kV p.1) (l.map (·.key))/\Vals (kvs.map (·.2)) (l.map (·.val)):=by
   intro kvs us l r;induction r generalizing l with
   |nil=>intro p;cases p;erw[.nil,.nil]
   | @cons a b C l2 h1 h2 c=>
    intro p;cases p with
    |cons p1 p2 v=>
     let#[y,A]:=c v;erw[.c ?_ y,.c ?_ A]
     .dsimp only;rw[h1.1];rcases fU p1 with ⟨i,t,g,h⟩|⟨x,t,g,h⟩
      .rw[g,h];erw[t,1]
      rw[g,h];erw[t,1]
     dsimp only;rw[p2];show h1.2
  show go rel n
 let#[z,lo,xs,rel,o,es,ep,h1,h2,f,j,B]:=Ad I.hok e;clear B;let go:∀{kvs:-(-Key×V)}{xs:-(-Key×gL×gE)},KT H kvs xs->Paired (λ(p:-Key×V) a=>H a*>.u\p.1.map kV) kvs (xs.map (·.2.1))/\Vals (kvs.map (·.2)) (xs.map (·.2.2)):=by
  intro kvs xs r;induction r with
  |nil=>erw[.nil,.nil]
  |cons h1 h2 c=>erw[.c h1.2.1 c.1,.c h1.2.2 c.2]
 let#[m,q]:=go rel;let u:=n6 m;erw[lo,0,es,ep,.o #[kvs,_,e,m,5],by rw[av,<-u];show z,#[o,h1,h2,f],?_,?_]
 .rw[j,bG,bG];clear j rel m q u;induction xs with
  |nil=>show .nil
  |cons x r c=>show .c rfl c
 rw[j,bG];show q
abbrev qO(X:Cx):Cx:={X with A:=X.A.in1}
section
def Inv.toIn1(I:!Inv H s):Inv (qO X) Oo Z H s:=
 #[#[I.ok.mod,I.ok.kind,I.ok.glob,I.ok.blt,I.ok.above,I.ok.inj,I.ok.has,I.ok.cab,I.ok.hd,I.ok.frames,I.ok.stk,I.ok.exf,I.ok.bs,I.ok.bsz,I.ok.noex,I.ok.exfs,I.ok.funs,I.ok.frf],I.os,I.bare,I.base,I.loc,I.cell,I.free,I.freeC,I.pin,I.hok,I.len]
def Inv.ofIn1(I:Inv (qO X) Oo Z H s):!Inv H s:=
 #[#[I.ok.mod,I.ok.kind,I.ok.glob,I.ok.blt,I.ok.above,I.ok.inj,I.ok.has,I.ok.cab,I.ok.hd,I.ok.frames,I.ok.stk,I.ok.exf,I.ok.bs,I.ok.bsz,I.ok.noex,I.ok.exfs,I.ok.funs,I.ok.frf],I.os,I.bare,I.base,I.loc,I.cell,I.free,I.freeC,I.pin,I.hok,I.len]
end
section
def yq(K:Frag):V->-V->Hp->VK->Prop:=λx vs H Q=>∃(l:gL)(ys:-V)(ks:List\-Int),x=.r l/\vs=[]/\H l*>.a ys/\Ky K H ys ks/\↑ys<5000/\
 ∀(ix:-Nat),ix.Perm (List.range ↑ys)->(ix.map λi=>ks.getD i []).Pairwise (λa b=>HT.lexLt b a=gB)->Q .non\upd H l (.a (ix.map λi=>ys.getD i .non))
def vR:MtM X "list.sort" (yq []):=by
 lk;intro x vs v us Q I g j h;let#[l,ys,ks,5,d,m,D,q]:=h;cases g;cases j;let#[#[z,p,n,r,hlen,e],K,#[κ,w,ask]]:=#[I.lstM d,↑r,zr I m r];let old:∀b o,s.heap.get? b*>o->o.cls=.t ↑23->(gd s.heap l p).get? b*>o:=λb o c A=>by
  show bh _\bh _ ?_;rw[Aj _ _ _ _ (λy=>by rw[y,e] at c;cases c;show absurd (show Value.type ↑15 = Value.type ↑23 from A) ⋯)];show c
 show kj MX #[_,e,1] MS (wC (κ:=κ) (rk:=rkV s.heap) e (by rw[dX];lia) (λh2=>(ask _ old h2).1) (λh2=>(ask (E:=λ_ _=>False) _ old h2).2) λout p1 p2=>#[2,?_])\MQ _;let#[ix,f,B,C]:=uo r w p1 p2;let#[e',he]:=sortedHeap_at (out:=out.toArray) e;erw[.non,_,I.write (x:=l) (e:=l) (o:=.a (ix.map λi=>ys.getD i .non)) (t':=s.toks) (by rw[d];show True.intro) (.l rfl) (λb u c q=>(sortedHeap_old c\aX q)<*q) #[_,he] #[by rw[av,f.length_eq,iz,dX];lia,out,e',C,by rw[he]],1,q ix f B]
end
def Tups.mono{K:Frag}{ys:-V}{ks:List\-Int}(h:Tups K H ys ks)(k:∀a xs,H a*>.u xs->H' a*>.u xs)(kf:∀a o xs,H a*>.z o (.u xs)->H' a*>.z o\.u xs):Tups K H' ys ks:=by
 show Paired.mapP h λy z ⟨b,e,q,n⟩=>#[b,e,?_,n];rcases q with (q|⟨o,q⟩)|q
 .exact .l\.l (k>>q)
 .exact .l\.o #[o,kf _ _ _ q]
 show .o q
def xc{K:Frag}{D:gL}{ks:-V}{Q:V->Hp->Prop}(c:H D=gf)
  (k:(∃ns:-Int,ks=ns.map V.int/\↑ns<5000/\∀(p:gL)(ms:-Int),H p=gf->ms.Perm ns->ms.Pairwise (·<=·)->Q (.r p)\upd H p (.a\ms.map V.int)) \/
   ∃d:List\-Int,Tups K H ks d/\↑ks<5000/\∀(p:gL)(ix:-Nat),H p=gf->ix.Perm (List.range ↑ks)->(ix.map λi=>d.getD i []).Pairwise (λa b=>HT.lexLt b a=gB)->Q (.r p)\upd H p (.a (ix.map λi=>ks.getD i .non))) :
  yq K (.r D) [] (upd H D\.a ks) λ_ H'=>Q (.r D) H':=by
 rcases k with ⟨ns,g,f,q⟩|⟨d,h,f,q⟩
 .subst g;erw[D,6,aW,Jq ns,by rw[av];show f,λix h1 h2=>?_];let#[ms,j,l,m]:=Jw h1 h2;rw[tm,m];show q D ms c j l
 erw[D,ks,d,5,aW,.o (h.mono (λb xs e=>by rw[aS\ao e c];show e) λb o xs e=>by rw[aS\ao e c];show e),f,λix h1 h2=>?_];rw[tm];show q D ix c h1 h2
section
def IX(K:Frag):-V->Hp->VK->Prop:=λxs H Q=>∃a:gL,xs=[.r a]/\DIs H a/\∀ks vs,DKeys H a ks vs->
 (∃ns:-Int,ks=ns.map V.int/\↑ns<5000/\∀(p:gL)(ms:-Int),H p=gf->ms.Perm ns->ms.Pairwise (·<=·)->Q (.r p)\upd H p (.a\ms.map V.int)) \/
 ∃c:List\-Int,Tups K H ks c/\↑ks<5000/\∀(p:gL)(ix:-Nat),H p=gf->ix.Perm (List.range ↑ks)->(ix.map λi=>c.getD i []).Pairwise (λa b=>HT.lexLt b a=gB)->Q (.r p)\upd H p (.a (ix.map λi=>ks.getD i .non))
def vZ{α:Type}{l m:List α}(b:↑l=↑m)(h:∀(j:Nat)(v:α),l[j]?*>v->m[j]?*>v):l=m:=by
 show nI λi=>?_;cases e:l[i]? with
 |some v=>rw[h i v e]
 |none=>
  have:↑l<=i:=LK.mp e;show (LK.mpr ()).symm
def l8(n:X.calm=gn):de X (.b ↑29) (IX []):=by
 lk;intro xs us Q I r h;let#[a,1,hd,k]:=h;let#[u,1,p]:=Vals.one r;cases p;let#[lo,ks,vs,es,ep,q,d,w,f,P]:=dview I hd;let#[m,F]:=I.fr;let x:↑ks=es.size:=by have:=↑f;simpa using this
 show kdu_sorted (dSrc (es:=es) (ep:=ep) lo) (I.ok.hd n) F (o_ (g:=X.base) (L:=X.env.locals)) w (by rw[<-x];show d) λD h' tk b y i A B C=>?_;let#[E,K]:=I.newsKept (t':=s.toks) (more:=[(D,listOf b.toArray 0)]) F y i;let c:=i (D,listOf b.toArray 0)\.head _;let l:s.heap.get? D=gf:=by
  cases e:s.heap.get? D with
  |none=>rfl
  |some o=>show absurd (A (D,o)\rQ c.2.1 c.2.2 e)\dW _
 let ev:b=es.toList.map (·.key):=by show vZ (by rw[B];simp) λj v e=>?_;let#[M,1]:=C j v e;rw[aU];simp[M]
 let N:!Inv (upd H D\.a ks) {s with heap:=h',toks:=tk}:=I.laidN (t':=tk) E K l (λH'=>#[d,b,(0),by rw[ev];show f,c.1]) (λ_ _ z=>by cases z);let z:=vR (X:=qO X) Oo _ Z _ (.r D) [] (.r D) [] (λ_ H'=>Q (.r D) H') N.toIn1 rfl .nil\xc (I.hok.none_of l) (k ks vs q);show thn z λ_ s' ⟨_,H',J,_,O⟩=>#[.r D,H',J.ofIn1,1,O]
end
section
def Ef(x:V)(vs:-V)(H:Hp)(Q:VK)(l:gL)(xs:-V)(i:Nat)(y:V):Prop:=x=.r l/\vs=[.i i,y]/\H l*>.a xs/\i<=↑xs/\↑xs<hH/\WrO H l (.a (xs.take i++y::xs.drop i))\Q .non
def F7:V->-V->Hp->VK->Prop:=λx vs H Q=>Exists\Ex4 (Ef x vs H Q)
def Hu{i n:Nat}(hi:i<=n)(b:n<hH):¬(!Builtin.List.listFitsIndex (i:Int))=gn:=by rw[dX] at b;let f:=MU (k:=(i:Int)) () ();intro y;rw[f] at y;cases y
def EO{prog:jl}{w:lp}{A:ru}{E:gE->hA->Prop}{Q:gE->hA->Prop}{l:gL}{b:Array gE}{n:Nat}{i:Int}{t:Tok}{c:gE}(d:s.TypeIs (Value.ref l) ↑15)(f:¬(!Builtin.List.listFitsIndex i)=gn)(hsz:b.size<=hH)
  (e:s.heap.get? l*>{cls:=.t ↑15,data:=.e b n})
  (h:Q .none {s with heap:=s.heap.update l (Obj.mapSeq λxs=>(xs.extract 0 (if i<0 then (i+(xs.size:Int)).toNat else min i.toNat xs.size)).push c++xs.extract (if i<0 then (i+(xs.size:Int)).toNat else min i.toNat xs.size))}) :
  hB (i3 prog w) A (call (Value.builtin "list.insert") [Value.ref l,Value.int i t,c]) Q E s:=
 vn vd d PySem.F.entry_list_insert (PySem.F.args_list_insert_3 _ _ _) (Nv l b n i t c f hsz) #[e,h]
def sy:MtM X "list.insert" F7:=by
 lk;intro x vs v us Q I f g h;let#[l,xs,i,y,5,c,hi,j,q]:=h;cases f;let#[#[A,d,1,m,o],#[t,1],#[z,b,n,r,p,e],u]:=#[g.two,m,I.lstM c,Hu hi j];let hsz:b.toArray.size<=sizeLine:=by rw[bM,<-p];show z
 show EO (s:=s) #[_,e,1] u hsz e ?_;erw[.non,_,I.lset (its':=b.take i++d::b.drop i) c e ?_ (Vals.append (r.take i)\.c o (r.drop i)) ?_,1,q.at]
 .let w:(if (i:Int)<0 then ((i:Int)+(b.toArray.size:Int)).toNat else min (i:Int).toNat b.toArray.size)=i:=by
   rw[Oi (),nG,bM];lia
  change ((b.toArray.extract 0 _).push d++b.toArray.extract _)=_;rw[w];let hd:(b.drop i).take (↑b-i)=b.drop i:=gW (by rw[cQ];show au _);simp[List.extract_eq_drop_take,hd]
 rw[aE,br,aZ,cQ];lia
def KI(K:Frag):-V->Hp->VK->Prop:=λxs H Q=>∃(a:gL)(ns:-Int),xs=[.r a]/\SqL K H a (ns.map V.int)/\ns≠[]/\∀m,m∈ns->(∀n∈ns,n<=m)->Q (.i m) H
def pk(r:Vals xs us){i:Nat}{v:gE}(e:us[i]?*>v):∃x,xs[i]?*>x/\aB x v:=by
 let d:=↑r;let hi:i<↑xs:=by have:=(aq.mp e).1;lia
 let#[u,b,c]:=r.get (i:=i) (x:=xs[i]) (by simp[hi]);rw[e] at b;cases b;erw[_,by simp[hi],c]
def zu{ns:-Int}(r:Vals (ns.map V.int) us)(i:Nat)(v:gE)(e:us.toArray[i]?*>v):∃t,v=.i (ns.getD i 0) t:=by let#[x,b,c]:=pk r (i:=i) (v:=v) ‹e›;rw[aU] at b;let#[n,d,1]:=bQ.mp b;let#[t,1]:=c;erw[t,by rw[List.getD,d];rfl]
def rP(b:X.calm=gn):de X (.b "max") (KI []):=by lk;intro xs us Q I r h;let#[a,ns,1,c,d,q]:=h;let#[u,1,e]:=Vals.one r;cases e;let#[o,f,p,v]:=I.list c;let#[m,F]:=I.fr;show max_list_N (I.ok.hd b) F (o_ (g:=X.base) (L:=X.env.locals)) p.isList (jo f) (dI.mpr d) λh' M t tk i j h1 h2=>?_;let#[l,n]:=I.newsKept (t':=tk) (more:=[]) F i j;erw[.i M,H,I.keptN (t':=tk) l n,#[t,1],q M h1 h2]
def Fl(ns:-Int)(c:ns≠[]):(ns.getD (ro (λi j=>decide (ns.getD i 0<ns.getD j 0)) (↑ns-1)) 0)∈ns/\∀n∈ns,ns.getD (ro (λi j=>decide (ns.getD i 0<ns.getD j 0)) (↑ns-1)) 0<=n:=by
 let#[h1,h2]:=argBest_lt (λi=>ns.getD i 0) (↑ns-1);let g:=dI.mpr c;erw[?_,λn d=>?_]
 .let b:ro (λi j=>decide (ns.getD i 0<ns.getD j 0)) (↑ns-1)<↑ns:=();rw[List.getD,ay b];show je b
 let#[j,f,1]:=List.getElem_of_mem d;have:=h2 j ();let e:ns.getD j 0=ns[j]:=by simp[List.getD,f]
 rw[e] at this;show this
end
section
def F2:-V->Hp->VK->Prop:=λxs H Q=>∃j:Int,xs=[.i j]/\∀r,H r=gf->Q (.r r)\upd H r (.rng 0 j)
def vN:de X (.t ↑89) F2:=by lk;intro xs us Q I r h;let#[j,1,q]:=h;let#[u,1,t,1]:=Vals.one r;show call_range_1 #[.r ↥s,upd H ↥s\.rng 0 j,I.laid (t':=s.toks+1+1) (λb o e=>bh _ e) (au _) #[8,bX _ rfl],1,q _\I.hok.fresh (au _)]
def Ee:-V->Hp->VK->Prop:=λxs H Q=>∃(a:gL)(n:Nat),xs=[.r a]/\H a*>.rng 0 (n:Int)/\n<=1000/\∀l,H l=gf->Q (.r l)\upd H l (.a ((List.range n).map λ(i:Nat)=>V.int (i:Int)))
def vU(b:↑us=↑xs)(h:∀(j:Nat)(v:gE),us[j]?*>v->∃x,xs[j]?*>x/\aB x v):Vals xs us:=by
 induction xs generalizing us with
 |nil=>cases us with
  |nil=>show .nil
  |cons _ _=>simp at b
 |cons x xs c=>cases us with
  |nil=>simp at b
  |cons u us=>
   let#[y,e,r]:=h 0 u rfl;cases e;show .c r (c ‹b› λj v e=>‹h (j+1) v ‹e››)
def vO(f:X.calm=gn):de X (.t ↑15) Ee:=by
 lk;intro xs us Q I r h;let#[a,n,1,ha,z,q]:=h;let#[u,1,g]:=Vals.one r;cases g;let#[l,m,o,e]:=(show bJ X.prog X.w H s.heap a (.rng 0 (n:Int)) from I.hok a _ ha);let p:IsRange s.heap a 0 (n:Int) 1 l m o:=e;let hsz:Builtin.Range.rangeSize 0 (n:Int) 1=(n:Nat):=by rw[rangeSize_one];split<;>lia
 show call_list_range (I.ok.hd f) p (small_one () () () ()) hsz () λh' tk acc c kp e' it=>?_;let b:↥s<=↥s:=au _;erw[.r ↥s,upd H ↥s\.a ((List.range n).map λ(i:Nat)=>V.int (i:Int)),I.laid (t':=tk) kp b #[by simp;rw[dX];lia,acc.toList,c,vU (by simp[it.1]) λj v d=>?_,by rw[e']],1,q _\I.hok.fresh b];let#[tv,x]:=it.2 j v ‹d›;let y:j<n:=by have:=(aq.mp d).1;rw[gr,it.1] at this;show this
 erw[.i (j:Int),by simp[y],tv,?_];rw[x];simp
def rAll(K:W.Frag):-V->Hp->VK->Prop:=λxs H Q=>∃(a:gL)(bs:-Bool),xs=[.r a]/\SqL K H a (bs.map V.bl)/\Q (.bl\bs.all id) H
def Bz(n:X.calm=gn):de X (.b "all") (rAll []):=by
 lk;intro xs us Q I r h;let#[a,bs,1,w,q]:=h;let#[u,1,y]:=Vals.one r;cases y;let#[g,j,p,K]:=I.list w;let l:=↑j;rw[av] at l;let c:=p.isList;let B:a<↥s:=by let#[_,e,_]:=c;show aX e
 show call_all_walk\Be c ?_;erw[↥s,0,8,(λi=>bs.getD i gB),1,MP (A:=X.A.in1) (I.ok.hd n) _ a (bz B) g.toArray,#[#[_,bX _ rfl,5],c.push _],λi v s' L E' C d=>?_,λh' tk D=>?_]
 .let#[x,m,f]:=pk j (i:=i) (v:=v) ‹C›;rw[aU] at m;let#[b,E,1]:=bQ.mp m;cases f;have:bs.getD i gB=b:=by rw[List.getD,E];rfl
  dsimp only at d;rw[this] at d;show jm d
 let e:(List.range g.toArray.size).all (λi=>bs.getD i gB)=bs.all id:=by
  rw[bM,<-l];let f:bs=(List.range ↑bs).map λi=>bs.getD i gB:=by show uQ ∅ λi h1 h2=>?_;simp[h1]
  conv=>rhs;rw[f,Lw]
  rfl
 rw[e];erw[.bl _,H,I.kept (t':=tk) λb o e=>D b o (λz=>by rw[aN.mp z] at e;show absurd (aX e)\dW _)\bh _ e,1,q]
def CT:-V->Hp->VK->Prop:=λxs H Q=>∃(a:gL)(kvs:-(Key×V)),xs=[.r a]/\Rd H a (.k kvs)/\∀p,H p=gf->Q (.r p)\upd H p (.k kvs)
def Bq:de X (.t ↑93) CT:=by lk;intro xs us Q I r h;let#[a,kvs,1,ha,q]:=h;let#[u,1,b]:=Vals.one r;cases b;show E9 I ha λp s' c d=>#[.r p,_,d,1,q p c]
end
mutual
inductive Dt (K:W.Frag) (H:Hp):V->nc->Prop
 |non:Dt K H .non .none
 |bl (b:Bool):Dt K H (.bl b)\.bool b
 |int (i:Int):Dt K H (.int i)\.int i
 |str (x:Str) (h:(PyData.str x).canLay0=gn):Dt K H (.str x)\.str x
 |lst {a:gL} {xs:-V} {ds:-nc} (h:SqL K H a xs) (r:Dts K H xs ds):Dt K H (.ref a)\.list ds
 |tup {a:gL} {xs:-V} {ds:-nc} (h:SqT K H a xs) (r:Dts K H xs ds):Dt K H (.ref a)\.tuple ds
inductive Dts (K:W.Frag) (H:Hp):-V->-nc->Prop
 |nil:Dts K H [] []
 |cons {x:V} {d:nc} {xs:-V} {ds:-nc} (h:Dt K H x d) (r:Dts K H xs ds):Dts K H (x::xs) (d::ds)
end
section
def Dts.reads(I:!Inv H s)(ds:-nc)(xs:-V)(us:-gE)(h:Dts [] H xs ds)(r:Vals xs us):∃as,ReadsAll s.heap us ds as:=
 Dts.rec (motive_1:=λv d _=>∀u,aB v u->∃as,Reads s.heap u d as) (motive_2:=λxs ds _=>∀us,Vals xs us->∃as,ReadsAll s.heap us ds as)
  (λu r=>by cases r;erw[_,.none]) (λb u r=>by cases r;erw[_,.x b]) (λi u r=>by let#[t,1]:=r;erw[_,.i i t]) (λx _ u r=>by let#[t,1]:=r;erw[_,.s x t])
  (λh _ f u r=>by
   cases r;let#[l,g,#[o,n,e,c,_,j],_]:=I.list h;let#[as,q]:=f _ g;erw[_,.list e c j ‹q›])
  (λh _ f u r=>by
   cases r;let#[l,g,#[o,e,c,n,j],_]:=I.tuple h;let#[as,q]:=f _ g;erw[_,.tuple e c j ‹q›])
  (λu r=>by cases r;erw[_,.nil])
  (λ_ _ f m us r=>by
   cases r with
   |cons r rs=>
    let#[as,q]:=f _ r;let#[bs,p]:=m _ rs;erw[_,.c q p]) h us r
def Dt.reads(I:!Inv H s)(d:nc)(v:V)(u:gE)(h:Dt [] H v d)(r:aB v u):∃as,Reads s.heap u d as:=by
 let#[as,q]:=Dts.reads I _ _ _ (.c h .nil)\.c r .nil;cases q with
 |cons q _=>erw[_,q]
def Dts.can(ds:-nc)(xs:-V)(h:Dts K H xs ds):PyData.canLayAll0 ds=gn:=
 Dts.rec (motive_1:=λv d _=>d.canLay0=gn) (motive_2:=λxs ds _=>PyData.canLayAll0 ds=gn) rfl (λ_=>rfl) (λ_=>rfl) (λ_ h=>h) (λ_ _ b=>b) (λ_ _ b=>b) rfl
  (λ_ _ b c=>by rw[PyData.canLayAll0,b,c];rfl) h
def Dt.can(d:nc)(v:V)(h:Dt K H v d):d.canLay0=gn:=by
 have:=Dts.can>>(.c h .nil)
 rwa [PyData.canLayAll0,PyData.canLayAll0,Bool.and_true] at this
mutual
def jV:nc->Bool
 |.bool _=>gB
 |.list ds=>eS ds
 |.tuple ds=>eS ds
 |.dict _=>gB
 |_=>gn
def eS:-nc->Bool
 | []=>gn
 |d::ds=>jV d&&eS ds
end
mutual
def yw:∀(d e:nc),jV d=gn->jV e=gn->(PyData.eqv d e=gn↔d=e)
 |.none,e,_,h=>by cases e<;>simp[PyData.eqv]
 |.bool b,_,h,_=>nomatch h
 |.int i,e,_,h=>by
  cases e with
  |bool _=>show nomatch h
  |_=>simp[PyData.eqv]
 |.str i,e,_,h=>by
  cases e with
  |bool _=>show nomatch h
  |_=>simp[PyData.eqv]
 |.list xs,e,h1,h=>by
  cases e with
  |list ys=>rw[PyData.eqv,rV xs ys h1 h];simp
  |_=>simp[PyData.eqv]
 |.tuple xs,e,h1,h=>by
  cases e with
  |tuple ys=>rw[PyData.eqv,rV xs ys h1 h];simp
  |_=>simp[PyData.eqv]
 |.dict _,_,h,_=>nomatch h
def rV:∀(ds es:-nc),eS ds=gn->eS es=gn->(PyData.eqvAll ds es=gn↔ds=es)
 | [],[],_,_=>by simp[PyData.eqvAll]
 | [],_::_,_,_=>by simp[PyData.eqvAll]
 |_::_,[],_,_=>by simp[PyData.eqvAll]
 |d::ds,e::es,h1,h2=>by
  let b:jV d=gn/\eS ds=gn:=by simpa [eS] using h1
  let c:jV e=gn/\eS es=gn:=by simpa [eS] using h2
  rw[PyData.eqvAll,ir,yw d e b.1 c.1,rV ds es b.2 c.2];simp
end
def KN(K:W.Frag)(neg:Bool)(x y:V)(H:Hp)(Q:VK)(d e:nc):Prop:=Dt K H x d/\Dt K H y e/\d.depth<=60/\Q (.bl (if neg then !PyData.eqv d e else PyData.eqv d e)) H
def lG(K:W.Frag)(neg:Bool):R2:=λx y H Q=>Exists\Ex2 (KN K neg x y H Q)
def min60{u a b:Nat}(h:u+64<n7)(h':a<=60):u+min a b<cLine:=by have:min a b<=a:=Nat.min_le_left _ _;lia
def kZ(b:X.A.units+64<n7):OpR X (lx .Eq) (lG [] gB):=by lk;intro x y v u Q I c f h;let#[d,e,hd,he,g,q]:=h;let#[as,i]:=Dt.reads I d x v hd c;let#[bs,j]:=Dt.reads I e y u he f;show NY i j (Dt.can d x hd) (Dt.can e y he) (min60 b g) #[.bl _,H,I,1,q]
def h_(b:X.A.units+64<n7):OpR X (lx .NotEq) (lG [] gn):=by lk;intro x y v u Q I c f h;let#[d,e,hd,he,g,q]:=h;let#[as,i]:=Dt.reads I d x v hd c;let#[bs,j]:=Dt.reads I e y u he f;show NZ i j (Dt.can d x hd) (Dt.can e y he) (min60 b g) #[.bl _,H,I,1,q]
def KM(K:W.Frag)(neg:Bool)(x y:V)(H:Hp)(Q:VK)(d:nc)(a:gL)(xs:-V)(ds:-nc):Prop:=Dt K H x d/\y=.r a/\(SqL K H a xs\/SqT K H a xs)/\Dts K H xs ds/\d.depth<=60/\
 Q (.bl (if neg then !(ds.any λz=>PyData.eqv z d) else ds.any λz=>PyData.eqv z d)) H
def uH(K:W.Frag)(neg:Bool):R2:=λx y H Q=>Exists\Ex4 (KM K neg x y H Q)
def min61{u a b:Nat}(h:u+64<n7)(h':b<=60):u+1+min a b<cLine:=by have:min a b<=b:=Nat.min_le_right _ _;lia
def zp(f:X.A.units+64<n7):OpR X (lx .In) (uH [] gB):=by
 lk;intro x y v u Q I j l h;let#[d,a,xs,ds,hd,1,b,c,g,q]:=h;cases l;let#[as,i]:=Dt.reads I d x v hd j;rcases b with b|b
 .let#[bs,e]:=Dt.reads I (.list ds) (.r a) _ (.a b c) rfl;show N1 e i (Dts.can ds _ c) (Dt.can d x hd) (min61 f g) #[.bl _,H,I,1,q]
 let#[bs,e]:=Dt.reads I (.tuple ds) (.r a) _ (.u b c) rfl;show N2 e i (Dts.can ds _ c) (Dt.can d x hd) (min61 f g) #[.bl _,H,I,1,q]
end
section
def Inv.turnLaid{h':js}{t':Nat}{a:gL}{o:HO}{ch:-gL}(I:!Inv H s)(h:∀b∈ch,dv X Oo H b)(k:∀b o,b∉ch->s.heap.get? b*>o->h'.get? b*>o)
  (ha:s.heap.get? a=gf) (new:∀H',bJ X.prog X.w H' h' a o):!Inv (upd H a o) {s with heap:=h',toks:=t'}:=by
 let f:H a=gf:=I.hok.none_of ha;let i:∀b u,H b*>u->b∉ch:=λb u e z=>by
  have:=(h b z).1;rw[this] at e;cases e
 show I.step (g':=s.gens) (d':=s.drawn) (ch:=ch) (λb g=>?_) (λb o _ _ d e _=>k b o d e) (λb o _ _ d e _=>#[o.slots,k b o d e]) (λb o _ e n=>?_) (λb o d e=>#[o,k b o d e]) (λb xs e=>?_) (λb o u e=>?_) (λb ps e=>#[(tA []),?_]) (λm hm=>?_) (λb u e=>?_) I.bare
 .let#[_,j,_,l,p,x]:=h b g;erw[l,j,p,x]
 .rw[aS (λz=>by rw[z,ha] at e;cases e)];show n
 .rw[aS\ao e f];show e
 .rw[aS\ao e f];show e
 .rw[aS\ao e f,e];simp
 .let#[o,es,ep,y,r]:=hm;erw[o,es,ep,k _ o (λz=>(h _ z).2.1 rfl) y,r]
 by_cases g:b=a
 .subst g;rw[aW] at e;cases e;show new _
 rw[aS g] at e;show (I.hok b u e).stay (λc v d q=>k c v ?_ q) (λc q=>by rw[aS\ao q f];show q) λc xs q=>by rw[aS\ao q f];show q
 rcases d with z|z
 .rw[z];show i b u e
 show i c _ z
end
def Ite(K:W.Frag)(a:gL):It:=
 #[λi H=>∃xs x,SqL K H a xs/\xs[i]?*>x,
  λi H v H'=>∃p x,H p=gf/\v=.r p/\H'=upd H p (.u [.i (i:Int),x])/\∀xs,SqL K H a xs->xs[i]?*>x,
  λi H=>∃xs,SqL K H a xs/\↑xs<=i]
def CH{elts:-kA}{O}{pos:Pos}(a it e:gL)(C:e≠it) :
  Turn P w K (.Tuple elts O pos) (Ite [] a) [e,it] e (λi h=>(∃old,IsEnum h e it (i:Int) old)/\h.IsListIter it a i) where
 mem:=∅
 obj:=λi h st b g=>by
  let#[#[old,f],o,Q,c,d]:=st;rcases ah.mp g with z|z
  .subst z;erw[_,f,λv z=>by
    let R:Data.fields _=Data.cell v:=z;cases R]
  let z:b=it:=‹z›
  subst z;erw[o,Q,λv z=>by rw[d] at z;cases z]
 keep:=λi h h' st k=>by
  let#[#[old,f],j]:=st;erw[#[old,k e ∅ _ f],j.at λo q=>k it ∅ o q]
 item:=by
  intro X n hw r D i Oo s Z H E I hf st y;subst n hw r;let#[#[xs,x,m,A],#[#[old,f],j],#[S,B,p,T],#[u,U,Y]]:=#[y,st,I.list m,B.get A];show wpAny_pyNext_enum_item f j p.isList (x:=u) ‹U› C λh1 ab ad al a1 am=>?_;erw[2,?_];show wpAny_letOwnedTupleGo_enum ab λh2 an l=>?_;replace l:Heap.SameBut e h1 h2:=l;let ap:s.heap.get? ↥s=gf:=Ai\au _;let L:e<↥s:=aX f;let aM:it<↥s:=by let#[_,q,_]:=j;show aX q
  let hn:H ↥s=gf:=I.hok.fresh\au _;let M:h2.get? ↥s*>{cls:=.t ↑23,data:=.e\tA [.i i s.toks,u]}:=(l.2 _\lU L)<*al;let I2:!Inv (upd H ↥s\.u [.i (i:Int),x]) {s with heap:=h2,toks:=s.toks+1}:=by
   show I.turnLaid (ch:=[e,it]) hf (λb o g q=>?_) ap λH'=>?_
   .let N:b≠e:=λz=>g (by simp[z]);let a0:b≠it:=λz=>g (by simp[z]);show (l.2 b N).trans\am b o N a0 q
   erw[#[by simp;rw[dX];lia,_,M,1],[.i i s.toks,u],.c #[2]\.c Y .nil,#[_,M,7]]
  erw[.r ↥s,_,I2,1,#[↥s,x,hn,5,λys hy=>by rw[I.list_inj hy m];show A],#[#[_,an],?_],λb g=>?_]
  .let#[o,q1,q2]:=ad;erw[o,(l.2 it\aO C)<*q1,q2]
  have:b≠↥s:=by
   rcases ah.mp g with z|z
   .rw[z];show bz L
   rw[(by simpa using z:b=it)];show bz aM
  rw[aS this];show (hf b g).1
 done:=by intro X n hw r D i Oo s Z H E I hf st y;subst n hw r;let#[xs,m,A]:=y;let#[#[old,f],j]:=st;let#[S,B,p,T]:=I.list m;let#[f0,f1,f2,f3,f4,f5]:=hf it ∅;let hl:=↑B;show wpAny_pyNext_enum_end (I.ok.hd D) f j p.isList (by simp;lia) λh' eb=>#[1,I.turned (t':=s.toks) (λb o g q=>eb b o g q) f0 f1 f3 f4 f5]
 self:=λ_ _ _ _ _ st h=>by
  let#[#[old,f],_]:=st;show Nc f h
section
def JF(K:W.Frag)(R:It->Hp->Prop)(vs:-V)(H1:Hp)(a:gL)(xs:-V):Prop:=vs=[.r a]/\SqL K H1 a xs/\R (Ite K a) H1
def JE(K:W.Frag)(R:It->Hp->Prop):-V->Hp->Prop:=λvs H1=>Exists\Ex2 (JF K R vs H1)
def K4(K:W.Frag)(ta:TA):TI:=λZ H R=>ta Z H\JE K R
def kQ{elts:-kA}{f}{tpos:Pos}{a:kA}{ta:TA}{p pos:Pos}(g:Gl X ↑31)(hm:X.mg ↑31 = gf)(ha:PA X [a] ta)(i:hM [a] X.env=[(gB,m3 a X.env)]:=by rfl) :
  PI X (.Tuple elts f tpos) (.Call (.n ↑31 p) [a] [] pos) (K4 [] ta):=by
 lk;intro R I h;show Call_\iW I g hm boot_enumerate (n8 (thn (ha pos Oo s Z H _ I h) λus s1 ⟨vs,H1,c,j,l⟩=>?_) i rfl);let#[a,xs,e,m,q]:=l;subst e;let#[u,1,n]:=Vals.one j;cases n;let#[w,x,pl,y]:=c.list m;show call_enumerate_list pl.isList λh' he hi hsz o=>?_;show Nc he ?_;let r:!Inv H1 {s1 with heap:=h'}:=c.kept (t':=s1.toks) o;erw[_,[↥s1+1,↥s1],0,H1,1,r,CH a _ _\Nat.succ_ne_self _,#[#[.none,he],hi],λb v=>?_,q];let d:↥s1<=b:=by
  rcases ah.mp v with z|z
  .rw[z];show nX _
  have:b=↥s1:=‹z›
  show u4 this.symm
 show c.fpOk d\c.hok.fresh d
end
section
variable {prog:jl}{d it v:gL}{es:Array oD}{ep i:Nat}
def JR{Q:gE->hA->Prop}(b:s.heap.IsItemsView v d)(m:DAt s.heap d es ep)
  (q:Q (.r ↥s) {s with heap:=s.heap.push {cls:=.t ↑8,data:=.d\tA [.none,.x gB,.r d,.i 0 0,.i es.size 0,.i ep 0,.none,.none]}}):hB (i3 prog w) A (pyIter\.r v) Q E s:=by
 let#[g,f,_,d1]:=id b;let#[o,c,_,e]:=id m;show Ng b.typeIs Mt\kj Mt b.typeIs PySem.F.entry_dict_items_iter ?_ (PySem.F.args_dict_items_iter_1 _);unfold Builtin.«dict_items.__iter__» Builtin.Dict_items.dictOf Builtin.Dict_items.newIterator;show aa\aw (aa\aa (vA f d1 (x:=.r d) rfl\aw (aa\aa (oi c e\aa (oj c e ?_)))));simp only[show Builtin.Dict_items.ownsTuple ↑8 = gn by decide,if_true];show iC (aw #[2,↑8,_,#[_,bX _ rfl,1],rD.lookup,by simpa [mL,Builtin.Dict_items.ownedTupleFields] using q])
  (by simp only[sizeOk,Builtin.Dict_items.ownedTupleFields,bM,aE,br,iy];rw[dX];lia)
def JQ{x y:gE}{Q:Option gE->hA->Prop}(hit:IsItemIter s.heap it d i es.size ep x y)(m:DAt s.heap d es ep)(hi:i<es.size)
  (q:∀h',IsItemIterOut h' it d (i+1) es.size ep es[i].key es[i].val ↥s->h'.get? ↥s*>{cls:=.t ↑23,data:=.e\tA [es[i].key,es[i].val]}->
   (∀b o,b≠it->s.heap.get? b*>o->h'.get? b*>o)->Q (gm\.r ↥s) {s with heap:=h'}):hB (i3 prog w) A (q0\.r it) Q E s:=by
 let#[#[c,g,h,tk,os],#[od,M,_,N],ty]:=#[s,id m,(#[_,hit,1]:Shared.TypeIs #[c,g,h,tk,os] (.r it) ↑8)];unfold q0;show aa\rK (vy (name:=Str.ofString "__next__") ty rD (kj rD ty Mq ?tree\Mo _));show aa\aw (aa\aa ?_)
 first|show aa (vG ty\aw (aa\kl hit rfl ?_))|show aa\vI ty (aw\aa (kl hit rfl ?_))
 simp only[show Builtin.Dict_items.ownsTuple ↑8 = gn by decide,if_true];show (show hB _ _ (if (Value.ref d==Value.none)=gn then _ else _) _ _ _ from ?_);rw[Oi (show ¬(Value.ref d==Value.none)=gn from bL)];show aa\aw (aa\oi M N ?_);rw[Oi ∅];show aa\aw (aa\oj M N ?_);rw[Oi ∅];show aw ?_;simp only[show ¬((i:Int)<0) by lia,if_false,nG,Ag hi];show aa ?_
 first|show aa (vG ty\aw (aa\vB ty ?_))|show aa\vI ty (aw\aa (vB ty ?_))
 show (show hB _ _ (setField (.r it) 3 (mL ((i:Int)+1)) >>= _) _ _ #[c,g,h,tk,os] from aa (rL hit ∅ λh1 j l=>?_));replace l:Heap.SameBut it c h1:=l;replace j:IsItemIter h1 it d (i+1) es.size ep x y:=by unfold IsItemIter;rw[show ((i+1:Nat):Int)=(i:Int)+1 by lia];simpa [mL] using j
 let O:Shared.TypeIs #[h1,g,h,tk,os] (.r it) ↑8:=#[_,j,1];show aa\gw (aa\vB O (aa\vB O ?_));show (show hB _ _ (Builtin.Dict_items.pairFromOwner (.r it) 6 es[i].key es[i].val) _ _ #[h1,g,h,tk,os] from ?_);unfold Builtin.Dict_items.pairFromOwner;show aa\Na ?_;let P:h1.objs.size=c.objs.size:=l.1;let lt:it<c.objs.size:=aX hit;let ne:c.objs.size≠it:=lU lt;let#[h2,n,R,S,T]:∃h2:js,IsItemIter h2 it d (i+1) es.size ep x y/\h2.get? c.objs.size*>{cls:=.t ↑23,data:=.e\tA [es[i].key,es[i].val]}/\(∀b o,b≠it->c.get? b*>o->h2.get? b*>o)/\
   h1.push {cls:=.t ↑23,data:=.e\tA [es[i].key,es[i].val]}=h2:=
  #[_,bh _ j,by rw[<-P];show bX _ rfl,λb o f e=>bh _\l.extBut b o f e,1]
 show (show hB _ _ (Builtin.Dict_items.ownedTupleIsFree (.r it) >>= _) _ _ #[h1.push {cls:=.t ↑23,data:=.e\tA [es[i].key,es[i].val]},g,h,tk,os] from ?_);rw[P,T];unfold Builtin.Dict_items.ownedTupleIsFree;show aa\aa (vA n rfl (x:=.none) rfl\aw ?_);simp only[if_true];show aa\vA n rfl (x:=x) rfl (aa\vA n rfl (x:=y) rfl (aa (rL n ∅ λr u v=>?_)));replace v:Heap.SameBut it h2 r:=v;replace u:IsItemIter r it d (i+1) es.size ep es[i].key y:=u;show aa (rL u ∅ λz B C=>?_);replace C:Heap.SameBut it r z:=C;replace B:IsItemIter z it d (i+1) es.size ep es[i].key es[i].val:=B;show aa (rL B ∅ λD H I=>?_);replace I:Heap.SameBut it z D:=I;replace H:IsItemIterOut D it d (i+1) es.size ep es[i].key es[i].val c.objs.size:=H;show aa (rL H ∅ λp K L=>?_);replace L:Heap.SameBut it D p:=L;replace K:IsItemIterOut p it d (i+1) es.size ep es[i].key es[i].val c.objs.size:=K;let up:∀b o,b≠it->h2.get? b*>o->p.get? b*>o:=λb o f e=>L.extBut b o f\I.extBut b o f (C.extBut b o f\v.extBut b o f e);show aa\om (aw\aw #[2,aw (q p K (up _ _ ne R) λb o f e=>up b o f\S b o f e)])
def La{x y:gE}{Q:Option gE->hA->Prop}(f:A.handled=gf)(hit:IsItemIter s.heap it d i es.size ep x y)(m:DAt s.heap d es ep)(hi:es.size<=i)
  (q:∀h',Heap.ExtBut it s.heap h'->Q gf {s with heap:=h'}):hB (i3 prog w) A (q0\.r it) Q E s:=by
 let#[od,c,_,e]:=id m;let ty:s.TypeIs (.r it) ↑8:=#[_,hit,1];unfold q0;show aa\rK (vy (name:=Str.ofString "__next__") ty rD (kj rD ty Mq ?tree\Mo _));show aa\aw (aa\aa ?_)
 first|show aa (vG ty\aw (aa\kl hit rfl ?_))|show aa\vI ty (aw\aa (kl hit rfl ?_))
 simp only[show Builtin.Dict_items.ownsTuple ↑8 = gn by decide,if_true];show (show hB _ _ (if (Value.ref d==Value.none)=gn then _ else _) _ _ s from ?_);rw[Oi (show ¬(Value.ref d==Value.none)=gn from bL)];show aa\aw (aa\oi c e ?_);rw[Oi ∅];show aa\aw (aa\oj c e ?_);rw[Oi ∅];show aw ?_;simp only[show ¬((i:Int)<0) by lia,if_false,nG,Lg hi];show aa ?_
 first|show aa (vG ty\aw ?_)|show aa\vI ty (aw ?_)
 show (show hB _ _ (setField (.r it) 2 .none >>= _) _ _ s from aa (Bf hit rfl ∅ ?_));show (show hB _ _ (newExc (.t ↑98) [] >>= _) _ _ _ from aa ?_);simp only[newExc,newTuple];show aa\iC (aa (m:=firstArgMember _ _)\Bd (a:=Value.none) (by first|rfl|(simp only[firstArgMember];rfl)) (iC ?_ (by size_fits))) (by size_fits);simp only[raiseNew];show aa\wpAny_handled ?_;rw[show A.in1.handled=gf from f];show aa\aw (wpAny_throw ?_);show aa\Ba (b:=gn) (T:=↑98) #[_,bX _ rfl,1] MV ?_;show aw\q _ (((Ah ..).extBut.push _).push _)
end
section
variable {d:gL}{u:HO}
def dh:HO->Prop
 |.dK _=>True
 |.dT _=>True
 |_=>False
def dh.notT{u:HO}(h:dh u):(∀xs,u≠.u xs)/\(∀o v,u≠.z o v)/\(∀ps,u≠.tbl ps)/\∀y,u≠.own y:=by cases u<;>first|show False.elim h|erw[λ_ z=>(nomatch z),λ_ _ z=>(nomatch z),λ_ z=>(nomatch z),λ_ z=>(nomatch z)]
def Inv.freeze(I:!Inv H s)(hd:H d*>u)(h:dh u){o:Obj}(i:s.heap.get? d*>o):!Inv (upd H d\.z o u) s:=by
 let#[f,j,l,p]:=h.notT;let ne:∀{b v},H b*>v->v≠u->b≠d:=λe z y=>z (by rw[y,hd] at e;show (df e).symm);show I.step (h':=s.heap) (g':=s.gens) (d':=s.drawn) (t':=s.toks) (ch:=[]) (λ_ z=>nomatch z) (λb o _ _ _ e _=>e) (λb o _ _ _ e _=>#[o.slots,e]) (λb o _ _ n=>?_) (λb o _ e=>#[o,e]) (λb xs e=>?_) (λb o v e=>?_) (λb ps e=>#[(tA []),?_]) (λ_ m=>m) (λb v e=>?_) I.bare
 .rw[aS (λz=>by rw[z,hd] at n;cases n)];show n
 .rw[aS (ne e λz=>f xs z.symm)];show e
 .rw[aS (ne e λz=>j o v z.symm)];show e
 .rw[aS (ne e λz=>l ps z.symm),e];simp
 let st:∀{b v},bJ X.prog X.w H s.heap b v->bJ X.prog X.w (upd H d\.z o u) s.heap b v:=λx=>
  x.stay (λ_ _ _ q=>q) (λc q=>by rw[aS (ne q λz=>p _ z.symm)];show q) λc xs q=>by rw[aS (ne q λz=>f xs z.symm)];show q
 by_cases g:b=d
 .subst g;rw[aW] at e;cases e;erw[i,st (I.hok>>hd)]
 rw[aS g] at e;show st\I.hok b v e
def Fz(H H2:Hp)(d:gL)(o:Obj)(u:HO):Prop:=(H d*>u\/H d*>.z o u)/\dh u/\H2=upd H d\.z o u
def Fz.at{H2:Hp}{o:Obj}(f:Fz H H2 d o u):H2 d*>.z o u:=by rw[f.2.2,aW]
def Fz.ne{H2:Hp}{o:Obj}{b:gL}(f:Fz H H2 d o u)(h:b≠d):H2 b=H b:=by rw[f.2.2,aS h]
def Inv.fz(I:!Inv H s)(hd:Rd H d u)(c:dh u):∃o,s.heap.get? d*>o/\Fz H (upd H d\.z o u) d o u/\!Inv (upd H d\.z o u) s:=by
 rcases hd with hd|⟨o,hd⟩
 .let#[o,f]:=(I.hok d u hd).there;erw[o,f,#[.l hd,c,1],I.freeze hd c f]
 let e:upd H d (.z o u)=H:=by
  funext b;unfold upd;split
  .rename_i z;rw[z,hd]
  rfl
 erw[o,(I.hok d _ hd).1,#[.o hd,c,1],by rw[e];show I]
def DKV(H:Hp)(u:HO)(ks vs:-V):Prop:=
 (∃kvs,u=.k kvs/\ks=kvs.map (λp=>kV p.1)/\vs=kvs.map (·.2)) \/
 ∃kvs as,u=.dT kvs/\Paired (λ(p:-Key×V) a=>H a*>.u\p.1.map kV) kvs as/\ks=as.map V.ref/\vs=kvs.map (·.2)
def m6(I:!Inv H s)(hd:Rd H d u)(v:dh u) :
  (d==mc)=gB/\∃ks vs es ep,DKV H u ks vs/\↑ks<=hH/\DAt s.heap d es ep/\Vals ks (es.toList.map (·.key))/\Vals vs (es.toList.map (·.val)):=by
 cases u<;>first|show False.elim v|skip
 case dK kvs=>
  let#[z,lo,us,rel,o,es,ep,h1,h2,e,_,m,_]:=eY I.hok hd;erw[lo,0,es,ep,.l #[kvs,5,1],by rw[av];show z,#[o,h1,h2,e],?_];generalize es.toList=l at m;let go:∀{kvs:-(Key×V)}{us:-(Key×gE)}{l:-oD},KV kvs us->Pairs (cM X.prog X.w) l us->Vals (kvs.map λp=>kV p.1) (l.map (·.key))/\Vals (kvs.map (·.2)) (l.map (·.val)):=by
   intro kvs us l r;induction r generalizing l with
   |nil=>intro p;cases p;erw[.nil,.nil]
   | @cons a b D l2 h1 h2 c=>
    intro p;cases p with
    |cons p1 p2 y=>
     let#[A,B]:=c y;erw[.c ?_ A,.c ?_ B]
     .dsimp only;rw[h1.1];rcases fU p1 with ⟨i,t,f,g⟩|⟨x,t,f,g⟩
      .rw[f,g];erw[t,1]
      rw[f,g];erw[t,1]
     dsimp only;rw[p2];show h1.2
  show go rel m
 case dT kvs=>
  let#[z,lo,xs,rel,o,es,ep,h1,h2,e,h,C]:=ie I.hok hd;clear C;let go:∀{kvs:-(-Key×V)}{xs:-(-Key×gL×gE)},KT H kvs xs->Paired (λ(p:-Key×V) a=>H a*>.u\p.1.map kV) kvs (xs.map (·.2.1))/\Vals (kvs.map (·.2)) (xs.map (·.2.2)):=by
   intro kvs xs r;induction r with
   |nil=>erw[.nil,.nil]
   |cons h1 h2 c=>erw[.c h1.2.1 c.1,.c h1.2.2 c.2]
  let#[j,n]:=go rel;let q:=n6 j;erw[lo,0,es,ep,.o #[kvs,2,j,5],by rw[av,<-q];show z,#[o,h1,h2,e],?_,?_]
  .rw[h,bG,bG];clear h rel j n q;induction xs with
   |nil=>show .nil
   |cons x r c=>show .c rfl c
  rw[h,bG];show n
end
def Itk(d:gL)(o:Obj)(ks:-V):It:=
 #[λi H=>i<↑ks/\∃u,H d*>.z o u,λi H x H'=>H'=H/\ks[i]?*>x,λi H=>↑ks<=i/\∃u,H d*>.z o u]
def pY{d:gL}{o:Obj}{u:HO}{es:Array oD}{ep:Nat}(I:!Inv H s)(h:H d*>.z o u)(x:o.ExactDict)(e:o.data=.y es ep):DAt s.heap d es ep:=
 #[o,(I.hok d _ h).1,x,e]
def CG{tg:kA}{d it:gL}{o:Obj}{es:Array oD}{ep:Nat}{ks:-V}(x:o.ExactDict)(e:o.data=.y es ep)(r:Vals ks\es.toList.map (·.key)) :
  Turn P w K tg (Itk d o ks) [it] it (λi h=>h.IsKeyIter it d i es.size ep) where
 mem:=∅
 obj:=λi h st b f=>by
  let e:b=it:=‹f›
  subst e;let#[o,e,c,d]:=st;erw[o,e,λv z=>by rw[d] at z;cases z]
 keep:=λi h h' st k=>st.at λo e=>k it ∅ o e
 item:=by
  intro X g hw j D i Oo s Z H E I hf st l;subst g hw j;let#[hi,u,m]:=l;let O:↑ks=es.size:=by have:=↑r;simpa using this
  let#[y,L]:∃y,ks[i]?*>y:=#[ks[i],by simp[hi]];let#[z,n,Q]:=r.get L;let M:i<es.size:=();let R:z=es[i].key:=by rw[aU] at n;simp[M] at n;show n.symm
  let#[p,q,S,A,B,C]:=hf it ∅;show Ae st (pY I m x e) M λh' N sb=>?_;let T:!Inv H {s with heap:=h'}:=I.turned (t':=s.toks) (λb o f e=>(sb.2 b f)<*e) p q A B C;let#[o',e',U,d']:=id N;erw[2,qM (s:={s with heap:=h'}) e' U d' ⋯ #[y,H,T,by rw[<-R];show Q,#[1,L],N,λb f=>(hf b f).1]]
 done:=by
  intro X g hw j D i Oo s Z H E I hf st l;subst g hw j;let#[hi,u,m]:=l;let O:↑ks=es.size:=by have:=↑r;simpa using this
  let#[p,q,S,A,B,C]:=hf it ∅;show dEnd (I.ok.hd D) st (pY I m x e) () λh' Y=>#[1,I.turned (t':=s.toks) (λb o f e=>Y b o f e) p q A B C]
 self:=λ_ _ _ _ _ st h=>Nf st h
section
variable {tg:kA}
def K5(td:TE):TI:=λZ H R=>td Z H λx H1=>∃(d:gL)(u:HO),x=.r d/\Rd H1 d u/\dh u/\∀ks vs o H2,DKV H1 u ks vs->Fz H1 H2 d o u->R (Itk d o ks) H2
def zD{h:js}{d:gL}{es:Array oD}{ep:Nat}{o:Obj}(m:DAt h d es ep)(e:h.get? d*>o):o.ExactDict/\o.data=.y es ep:=by let#[o',e',x]:=m;rw[e] at e';cases e';show x
def pR{l:kA}{td:TE}(j:PE X l td):PI X tg l (K5 td):=by
 lk;intro R I h;show thn (j Oo s Z H _ I h) λv s1 m=>?_;let#[x,H1,f,n,p]:=m;let#[d,u,e,hd,g,q]:=p;subst e;cases n;let#[#[lo,ks,vs,es,ep,r,A,i,rk,B],#[o,w,fz,c],#[ex,y]]:=#[m6 f hd g,f.fz hd g,zD i w];show uz lo i ?_;erw[↥s1,[↥s1],8,1,c.kept (t':=s1.toks) λb o e=>bh _ e,CG (d:=d) (o:=o) ex y rk,#[_,bX _ rfl,5],λb z=>?_,q ks vs o _ r fz];let e:b=↥s1:=‹z›
 subst e;show c.fpOk (au _)\c.hok.fresh (au _)
end
def qw(v d:gL):HO:=.ext λh=>h.IsItemsView v d
def Iti(d:gL)(o:Obj)(ks vs:-V):It:=
 #[λi H=>i<↑ks/\∃u,H d*>.z o u,
  λi H v H'=>∃p x y,H p=gf/\v=.r p/\H'=upd H p (.u [x,y])/\ks[i]?*>x/\vs[i]?*>y,λi H=>↑ks<=i/\∃u,H d*>.z o u]
def BZ{elts:-kA}{Q}{pos:Pos}{d it:gL}{o:Obj}{es:Array oD}{ep:Nat}{ks vs:-V}(x:o.ExactDict)(e:o.data=.y es ep)(r:Vals ks\es.toList.map (·.key))(r':Vals vs\es.toList.map (·.val)) :
  Turn P w K (.Tuple elts Q pos) (Iti d o ks vs) [it] it (λi h=>∃a b,IsItemIter h it d i es.size ep a b) where
 mem:=∅
 obj:=λi h st b c=>by
  let e:b=it:=‹c›
  subst e;let#[0,st]:=st;erw[_,st,λv z=>by
   let f:Data.fields _=Data.cell v:=z;cases f]
 keep:=λi h h' st k=>let ⟨a,b,st⟩:=st;#[a,b,k it ∅ _ st]
 item:=by
  intro X g hw j C i Oo s Z H E I hf st l;subst g hw j;let#[hi,u,m]:=l;let#[0,st]:=st;let R:↑ks=es.size:=by have:=↑r;simpa using this
  let an:↑vs=es.size:=by have:=↑r';simpa using this
  let#[y,D]:∃y,ks[i]?*>y:=#[ks[i],by simp[hi]];let#[L,M]:∃y,vs[i]?*>y:=#[vs[i]'(),∅];let#[#[z,n,S],#[f,p,T],A]:=#[r.get D,r'.get M,(():i<es.size)];let U:z=es[i].key:=by rw[aU] at n;simp[A] at n;show n.symm
  let Y:f=es[i].val:=by rw[aU] at p;simp[A] at p;show p.symm
  show JQ st (pY I m x e) A λh1 ab N k1=>?_;erw[2,wpAny_letOwnedTupleGo_items ab λh2 ad sb=>?_];replace sb:Heap.SameBut it h1 h2:=sb;let B:it<↥s:=aX st;let al:s.heap.get? ↥s=gf:=Ai\au _;let hn:H ↥s=gf:=I.hok.fresh\au _;let I2:!Inv (upd H ↥s\.u [y,L]) {s with heap:=h2}:=by
   show I.turnLaid (t':=s.toks) (ch:=[it]) hf (λb o c q=>?_) al λH'=>?_
   .let O:b≠it:=λz=>c (by simp[z]);show (sb.2 b O).trans\k1 b o O q
   erw[#[by simp;rw[dX];lia,_,(sb.2 _\lU B)<*N,1],[es[i].key,es[i].val],.c (by rw[<-U];show S)\.c (by rw[<-Y];show T) .nil,#[_,(sb.2 _\lU B)<*N,7]]
  erw[.r ↥s,_,I2,1,#[↥s,y,L,hn,5,D,M],#[0,ad],λb c=>?_];let am:b=it:=‹c›
  rw[am,aS\bz B];show (hf it ∅).1
 done:=by
  intro X g hw j C i Oo s Z H E I hf st l;subst g hw j;let#[hi,u,m]:=l;let#[0,st]:=st;let R:↑ks=es.size:=by have:=↑r;simpa using this
  let#[f0,f1,f2,f3,f4,f5]:=hf it ∅;show La (I.ok.hd C) st (pY I m x e) () λh' eb=>#[1,I.turned (t':=s.toks) (λb o c e=>eb b o c e) f0 f1 f3 f4 f5]
 self:=λ_ _ _ _ _ st h=>by
  let#[0,st]:=st;show kcp_self st h
section
def Ja:V->-V->Hp->VK->Prop:=λx xs H Q=>∃(d:gL)(u:HO),x=.r d/\xs=[]/\Rd H d u/\dh u/\∀v,H v=gf->Q (.r v)\upd H v (qw v d)
def EH:MtM X "dict.items" Ja:=by
 lk;intro x xs v us Q I g rs h;let#[d,u,5,hd,i,q]:=h;cases g;cases rs;let#[lo,ks,vs,es,ep,j,l,f,rk,m]:=m6 I hd i;show vn Ms f.ty PySem.F.entry_dict_items (PySem.F.args_dict_items_1 _) (S:=λA R s=>(∃es ep,DAt s.heap d es ep)/\R (.ok\.ret (.r ↥s)) {s with heap:=s.heap.push {cls:=.t "dict_items",data:=.d\tA [.r d]}}) (.of_wp λprog w A R s h=>?_) #[#[es,ep,f],?_]
 .let#[#[es,ep,f],h]:=h;unfold Builtin.«dict.items» Builtin.Dict.noArgs;show aa\aa (Nb f.ty ?_);show (show hB _ _ (pure d) _ _ s from aw ?_);show (show hB _ _ (Builtin.Dict.showsAll d >>= _) _ _ s from ?_);unfold Builtin.Dict.showsAll;rw[Oi (show ¬(d==mc)=gn by rw[lo];simp)];show aa\aw (aa\iC (aw #[2,h]))
 erw[.r ↥s,_,I.laid (a:=↥s) (o:=qw ↥s d) (t':=s.toks) (λb o e=>bh _ e) (au _) #[#[_,bX _ rfl,5],#[_,bX _ rfl],λh1 h2 p k=>?_],1,q _\I.hok.fresh (au _)];let#[o,e,c]:=p;erw[o,k o e,c]
def JD(td:TE):TI:=λZ H R=>td Z H λx H1=>∃(v d:gL)(u:HO),x=.r v/\H1 v*>qw v d/\Rd H1 d u/\dh u/\∀ks vs o H2,DKV H1 u ks vs->Fz H1 H2 d o u->R (Iti d o ks vs) H2
def Ej{l:kA}{td:TE}{elts:-kA}{j}{pos:Pos}(m:PE X l td):PI X (.Tuple elts j pos) l (JD td):=by
 lk;intro R I h;show thn (m Oo s Z H _ I h) λv s1 n=>?_;let#[x,H1,c,p,r]:=n;let#[v,d,u,e,y,hd,g,q]:=r;subst e;cases p;let#[z,#[lo,ks,vs,es,ep,A,K,i,rk,B],#[o,C,fz,f],#[ex,D]]:=#[((show bJ X.prog X.w H1 s1.heap v (qw v d) from c.hok v _ y).1:s1.heap.IsItemsView v d),m6 c hd g,c.fz hd g,zD i C];show JR z i ?_;erw[↥s1,[↥s1],8,1,f.kept (t':=s1.toks) λb o e=>bh _ e,BZ (d:=d) (o:=o) ex D rk B,#[0,bX _ rfl],λb E=>?_,q ks vs o _ A fz];let e:b=↥s1:=‹E›
 subst e;show f.fpOk (au _)\f.hok.fresh (au _)
end
section
def pj(v d:gL):HO:=.ext λh=>h.IsValuesView v d
def FW:V->-V->Hp->VK->Prop:=λx xs H Q=>∃(d:gL)(kvs:-(Key×V)),x=.r d/\xs=[]/\Rd H d (.k kvs)/\∀v,H v=gf->Q (.r v)\upd H v (pj v d)
def C_:MtM X "dict.values" FW:=by lk;intro x xs v us Q I g rs h;let#[d,kvs,5,hd,q]:=h;cases g;cases rs;let#[z,lo,vs,rel,f]:=eY I.hok hd;show kh Mx f.typeIs PySem.F.entry_dict_values (PySem.F.args_dict_values_1 _) (meets_dict_values (cM X.prog X.w) d lo) #[#[_,f],?_];erw[.r ↥s,_,I.laid (a:=↥s) (o:=pj ↥s d) (t':=s.toks) (λb o e=>bh _ e) (au _) #[#[_,bX _ rfl,5],#[_,bX _ rfl],λh1 h2 p k=>?_],1,q _\I.hok.fresh (au _)];let#[o,e,c]:=p;erw[o,k o e,c]
def CS:-V->Hp->VK->Prop:=λxs H Q=>∃(v d:gL)(kvs:-(Key×V)),xs=[.r v]/\H v*>pj v d/\Rd H d (.k kvs)/\∀l,H l=gf->Q (.r l)\upd H l (.a\kvs.map (·.2))
def Bp(x:X.calm=gn):de X (.t ↑15) CS:=by
 lk;intro xs us Q I r h;let#[v,d,kvs,1,A,hd,q]:=h;let#[u,1,B]:=Vals.one r;cases B;let#[C,#[z,lo,vs,rel,D],E,#[ep,K]]:=#[((show bJ X.prog X.w H s.heap v (pj v d) from I.hok v _ A).1:s.heap.IsValuesView v d),eY I.hok hd,(↑rel:↑kvs=↑vs),D.dictAt];show kdl_call (kdl_values (knd:=cM X.prog X.w) (r:=v) (d:=d) (kvs:=vs) (ep:=ep)) (I.ok.hd x) #[C,K] () λh' tk acc c kp e it=>?_;let g:↥s<=↥s:=au _;erw[.r ↥s,_,I.laid (t':=tk) (o:=.a\kvs.map (·.2)) kp g #[by rw[av];show z,acc.toList,c,vU (by rw[av,E];simp[it.1]) λj y L=>?_,by rw[e]],1,q _\I.hok.fresh g];let#[k,i]:=it.2 j y ‹L›;let n:j<↑kvs:=by have:=(aq.mp i).1;lia
 erw[kvs[j].2,by simp[n],?_];let at_:∀{l:-(Key×V)}{m:-(Key×gE)}{j:Nat}{p:Key×V}{q:Key×gE},KV l m->l[j]?*>p->m[j]?*>q->aB p.2 q.2:=by
  intro l m j p q r;induction r generalizing j with
  |nil=>intro e;simp at e
  |cons h1 h2 M=>
   intro b f;cases j with
   |zero=>simp at b f;subst b f;show h1.2
   |succ j=>show M ‹b› ‹f›
 show at_ rel (by simp[n]:kvs[j]?*>kvs[j]) i
def FZ:V->-V->Hp->VK->Prop:=λx xs H Q=>∃(d:gL)(kvs:-(Key×V))(k:Key)(z:V),x=.r d/\xs=[kV k,z]/\H d*>.k kvs/\↑kvs<hH/\
 (∀v,bu kvs k*>v->Q v H)/\(bu kvs k=gf->Q z\upd H d (.k\bV kvs k z))
def Bt:MtM X "dict.setdefault" FZ:=by
 lk;intro x xs v us Q I i rs h;let#[d,kvs,k,z,5,hd,B,j,l]:=h;cases i;let#[#[C,m,1,n,c],#[D,lo,vs,rel,f],E,b]:=#[rs.two,jT I.hok hd,(↑rel:↑kvs=↑vs),rel.val k];show kh Mw f.typeIs PySem.F.entry_dict_setdefault (PySem.F.args_dict_setdefault_3 _ _ _) (kt_meets_setdefault (cM X.prog X.w) d (gp n) lo m) #[vs,f,(),λv o=>?_,λp h' g r=>?_]
 .rw[o] at b;cases e:bu kvs k with
  |none=>rw[e] at b;show False.elim b
  |some y=>
   rw[e] at b;erw[y,H,I.tok _,b,j y e]
 rw[p] at b;cases e:bu kvs k with
 |some y=>rw[e] at b;show False.elim b
 |none=>
  let u:↑(bV kvs k z)<=sizeLine:=by have:=me kvs k z;lia
  let he:∃q,h'.get? d*>q:=let ⟨q,_,_,A,_⟩:=g;#[q,A];erw[z,_,jG I (by rw[hd];show True.intro) r he\jN u lo (rel.put k c) g,c,l e]
end
section
def KH:-V->Hp->VK->Prop:=λxs H Q=>∃(d:gL)(kvs:-(Key×V))(ns:-Int),xs=[.r d]/\Rd H d (.k kvs)/\kvs.map (λp=>kV p.1)=ns.map V.int/\ns≠[]/\∀m,m∈ns->(∀n∈ns,m<=n)->Q (.i m) H
def Jv(es:Array oD){i:Nat}(hi:i<es.size):(es.toList.map (·.key)).toArray[i]?*>es[i].key:=by simp[hi]
def By(l:X.calm=gn):de X (.b "min") KH:=by
 lk;intro xs us Q I r h;let#[d,kvs,ns,1,hd,m,g,q]:=h;let#[u,1,n]:=Vals.one r;cases n;let#[lo,ks,vs,es,ep,p,K,c,rk,L]:=m6 I hd (u:=.k kvs) trivial;let w:ks=ns.map V.int:=by
  rcases p with ⟨M,e,x,_⟩|⟨_,_,e,_⟩
  .cases e;rw[x,m]
  cases e
 subst w;let j:↑ns=es.size:=by have:=↑rk;simpa using this
 show call_min_walk\uz lo c ?_;erw[↥s,8,8,1,zE (A:=X.A.in1) (es:=es) (ep:=ep) (d:=d) (I.ok.hd l) _\bz c.lt,#[#[_,bX _ rfl,5],c.at λo e=>bh _ e],λb f=>?_,?_,CmpOf.ints_lt (λi=>ns.getD i 0) λi v e=>?_,λv h' tk y B=>?_]
 .change b<(s.heap.push _).objs.size;rw[i_];rcases ah.mp f with rfl|f
  .exact gX _
  rw[aN.mp f];show rA c.lt
 .rw[<-j];show dI.mpr g
 .let#[hi,1]:=e;show zu rk i _ (by simp[hi])
 let#[#[hi,1],#[t,C],#[D,E]]:=#[y,zu rk _ _\Jv es hi,Fl ns g];let e:es.size-1=↑ns-1:=by rw[j]
 erw[.i _,H,I.kept (t':=tk) λb o e=>B b o (λz=>by rw[aN.mp z] at e;show absurd (aX e)\dW _)\bh _ e,#[t,C],?_];rw[e];show q _ D E
end
open PySem.SeqAt in
def Bl(l:gL)(items:Array gE)(n:Nat)(o:Option gL)(p:Array\Option gE)(x:gE)(e:Nat->Bool)(j:Nat)(D:j<items.size)(hit:e j=gn)(q:∀m,m<j->e m=gB) :
  Meets (Builtin.«tuple.index» #[[.r l,x],[]])
   (λA R s=>s.heap.get? l*>{cls:=.t ↑23,dict:=o,data:=.e items n,slots:=p}/\(∀m (h:m<items.size),EqAt A.in1 s items[m] x\e m)/\R (.ok\.ret (.i j s.toks)) {s with toks:=s.toks+1}):=
 .of_wp λprog w A R s h=>by
  let#[r,g,d,tk,os]:=s;let#[u,he,h]:=h;unfold Builtin.«tuple.index»;simp only[Oh]
  wp_walk using Nw u,M8 _ (λrest b s'=>b.1=gf/\s'=#[r,g,d,tk,os]/\∃i,i<=j/\rest=List.range' i (items.size-i)) _
  case turn=>
   rintro y rest b s' ⟨E,rfl,i,v,c⟩;let B:items.size-i=(items.size-(i+1))+1:=();rw[B,List.range'_succ] at c;injection c with h1 h2;subst h1;let f:y<items.size:=();let C:items[y]?*>items[y]:=by simp[f]
   rw[C];show aa\he y f prog w _ _ ?_;by_cases z:y=j
   .subst z;rw[hit]
    wp_walk
    erw[2,h]
   rw[q y ()]
   wp_walk
   erw[5,y+1,(),h2]
  case fin=>
   rintro b s' ⟨_,_,i,v,c⟩;have:=congrArg List.length c;simp at this;lia
  case h=>
   erw[5,(0),aV _,by simp[Std.Legacy.Range.size]]
section
def F8(K:Frag):V->-V->Hp->VK->Prop:=λx vs H Q=>∃(a:gL)(xs:-V)(ds:-nc)(y:V)(d:nc)(j:Nat),x=.r a/\vs=[y]/\SqT K H a xs/\Dts K H xs ds/\Dt K H y d/\d.depth<=60/\
 j<↑ds/\PyData.eqv (ds.getD j .none) d=gn/\(∀m,m<j->PyData.eqv (ds.getD m .none) d=gB)/\Q (.i (j:Int)) H
def Da(z:X.A.units+64<n7):MtM X "tuple.index" (F8 []):=by
 lk;intro x vs v us Q I B C h;let#[a,xs,ds,y,d,j,5,D,f,hd,E,hj,K,L,q]:=h;cases B;let#[#[u,1,M],#[b,rs,p,hsz],#[as,g],#[bs,N],hl,#[#[cls,O,data,P],i,l,n,o]]:=#[C.one,I.tuple D,Dts.reads I ds xs b f rs,Dt.reads I d y u hd M,(NW _ _ _ g:↑b=↑ds),id p];simp only at l o;subst l o;show vn Mz #[_,i,1] PySem.F.entry_tuple_index (PySem.F.args_tuple_index_2 _ _) (Bl a b.toArray n O P u (λm=>PyData.eqv (ds.getD m .none) d) j (by simp;lia) K L) #[i,λm hm=>?_,?_]
 .let ab:m<↑ds:=by rw[bM] at hm;lia
  let#[e,cs,R,S,hle]:∃e cs,PySem.Reads s.heap b.toArray[m] e cs/\e.canLay0=gn/\e=ds.getD m .none:=by
   let go:∀(ds:-nc)(b:-gE)(as:-gL)(m:Nat)(h:m<↑b),ReadsAll s.heap b ds as->PyData.canLayAll0 ds=gn->∃cs,PySem.Reads s.heap b[m] (ds.getD m .none) cs/\(ds.getD m .none).canLay0=gn:=by
    intro ds;induction ds with
    |nil=>intro b as m h r _;cases r;simp at h
    |cons d ds T=>
     intro b as m h r c;let w:d.canLay0=gn/\PyData.canLayAll0 ds=gn:=by simpa [PyData.canLayAll0] using c
     cases r with
     |cons U Y=>
      cases m with
      |zero=>erw[_,U,w.1]
      |succ m=>show T _ _ m ‹h› Y w.2
   let#[cs,h1,h2]:=go ds b as m ‹hm› g (Dts.can ds _ f);erw[_,cs,‹h1›,h2,1]
  rw[<-hle];show N0 e d X.A.in1 s _ _ _ _ R N S (Dt.can d y hd) ?_;change X.A.units+1+min _ _<n7;show min61 z E
 erw[.i (j:Int),H,I.tok _,#[2],q]
end
section
variable {prog:jl}{R:Result->hA->Prop}{I:gL}{fp wr:-gL}{n:Nat}{P:Nat->gE->Prop}{St:Nat->js->Prop}{OK:js->Prop}
def uA(prog:jl)(w:lp)(A:ru)(OK:js->Prop)(P:Nat->gE->Prop)(d:Nat->Nat->Bool):Prop:=
 ∀i j b c (s:hA) (Q:gE->hA->Prop) (E:gE->hA->Prop),OK s.heap->P i b->P j c->Q (.x\d i j) s->hB (i3 prog w) A (richCompare .Lt b c) Q E s
def Cq(W:Walks prog w A.in1 I fp wr n P St)(l:Nat->Nat->Bool)(N:uA prog w A.in1 OK P l)(S:gL)(E:S∉fp)
  (ok:∀h h':js,OK h->(∀b o,b∉wr->b≠S->h.get? b*>o->h'.get? b*>o)->OK h') :
  ∀(k j:Nat)(s:hA)(f:gE)(c:Nat),n-(j+1)=k->j+1<=n->OK s.heap->St (j+1) s.heap->P (ro l j) f->
  s.heap.get? S*>{cls:=.t ↑15,dict:=gf,data:=.e (tA [f,f]) c,slots:=(tA [])}->
  (∀v h' tk,P (ro l (n-1)) v->(∀b o,b∉wr->b≠S->s.heap.get? b*>o->h'.get? b*>o)->R (.ok\.ret v) {s with heap:=h',toks:=tk})->
  mE (i3 prog w) A (.b "min.loop" #[[.r I,.none,.r S],[]]) R s:=by
 let nw:S∉wr:=λh=>E\W.sub _ h;let nm:(toString "min"++toString ".loop" : String) = "min.loop":=⋯;intro k;induction k with
 |zero=>
  intro j s f c O Q H u p m q;let z:j+1=n:=();show rJ AS ?_;rw[qW lZ _];show (show hB _ A.in1 (seqItems? (.r S) >>= _) _ _ s from aa\vE m rfl ?_);show (show hB _ A.in1 (tryCatch (q0\.r I) _ >>= _) _ _ s from aa\vF (W.done s _ _ (z ▸ u) λh' tk g=>?_));show (show hB _ A.in1 (updateSeq S (λ_=>(tA [])) >>= _) _ _ _ from aa\vK (g S _ nw m) rfl (aa\om (aw ?_)));show q f _ tk (by rw[<-z];show p) λb o i d e=>(nF>>(aO d)).trans\g b o i e
 |succ k K=>
  intro j s f c O Q H u p m q;let lt:j+1<n:=();show rJ AS ?_;rw[qW lZ _];show (show hB _ A.in1 (seqItems? (.r S) >>= _) _ _ s from aa\vE m rfl ?_);show (show hB _ A.in1 (tryCatch (q0\.r I) _ >>= _) _ _ s from aa\vF (W.item (j+1) s _ _ lt u λv h' tk L M g=>?_));let x:=g S _ nw m;let h1:OK h':=ok _ _ H λb o r _ e=>g b o r e;show (show hB _ A.in1 (tryCatch (holding [v,v] (richCompare .Lt v f >>= _)) _ >>= _) _ _ _ from aa\vF (gw\aa (N (j+1) (ro l j) v f _ _ _ h1 L p ?_)));show aa\gw (jm\aa (om\aw ?_));cases r:l (j+1) (ro l j) with
  |true=>
   simp only[if_true];show aa\vK x rfl (aa\om ?_);rw[nm];let up:∀b o,b≠S->h'.get? b*>o->(h'.update S (Obj.mapSeq λ_=>(tA [v,v]))).get? b*>o:=λb o d e=>(nF>>(aO d))<*e;show aw #[l6 lZ _,K (j+1) _ v _ () lt (ok _ _ h1 λb o _ d e=>up b o d e) (W.frame _ _ _ M λb T o e=>up b o (λh=>E (by rw[<-h];show T)) e) (by simp only[ro,r,if_true];show L) (qY _ x rfl)
    λv' y B C D=>q v' y B C λb o i d e=>D b o i d\up b o d (g b o i e)]
  |false=>
   simp only[iu,if_false];show aa\om ?_;rw[nm];show aw #[l6 lZ _,K (j+1) _ f c () lt h1 M (by simp only[ro,r,iu,if_false];show p) x λv' y B C D=>q v' y B C λb o i d e=>D b o i d\g b o i e]
def BR(W:Walks prog w A.in1 I fp wr n P St)(f:Nat->Nat->Bool)(q:uA prog w A.in1 OK P f)(S:gL)(g:S∉fp)(ok:∀h h':js,OK h->(∀b o,b∉wr->b≠S->h.get? b*>o->h'.get? b*>o)->OK h')(j:0<n){c:Nat}(r:OK s.heap)(u:St 0 s.heap)
  (l:s.heap.get? S*>{cls:=.t ↑15,dict:=gf,data:=.e (tA []) c,slots:=(tA [])})
  (x:∀v h' tk,P (ro f (n-1)) v->(∀b o,b∉wr->b≠S->s.heap.get? b*>o->h'.get? b*>o)->R (.ok\.ret v) {s with heap:=h',toks:=tk}) :
  mE (i3 prog w) A (.b "min.loop" #[[.r I,.none,.r S],[]]) R s:=by
 let nw:S∉wr:=λh=>g\W.sub _ h;let nm:(toString "min"++toString ".loop" : String) = "min.loop":=⋯;show rJ AS ?_;rw[qW lZ _];show (show hB _ A.in1 (seqItems? (.r S) >>= _) _ _ s from aa\vE l rfl ?_);show (show hB _ A.in1 (tryCatch (q0\.r I) _ >>= _) _ _ s from aa\vF (W.item 0 s _ _ j u λv h' tk y z i=>?_));let m:=i S _ nw l;let h1:OK h':=ok _ _ r λb o B _ e=>i b o B e;show (show hB _ A.in1 (updateSeq S (λ_=>(tA [v,v])) >>= _) _ _ _ from aa\vK m rfl ?_);rw[nm];let up:∀b o,b≠S->h'.get? b*>o->(h'.update S (Obj.mapSeq λ_=>(tA [v,v]))).get? b*>o:=λb o d e=>(nF>>(aO d))<*e;show aw #[l6 lZ _,Cq W f q S g ok _ 0 _ v _ rfl j (ok _ _ h1 λb o _ d e=>up b o d e) (W.frame _ _ _ z λb C o e=>up b o (λh=>g (by rw[<-h];show C)) e) y (qY _ m rfl)
  λv' D E H K=>x v' D E H λb o p d e=>K b o p d\up b o d (i b o p e)]
end
section
variable {prog:jl}
def CD{x:gE}{Q:gE->hA->Prop}{OK:js->Prop}
  (h:hB (i3 prog w) A.in1 (pyIter x) (λit s₂=>∃I fp wr n P St c,it=.r I/\Walks prog w A.in1 I fp wr n P St/\St 0 s₂.heap/\OK s₂.heap/\(∀S,↥s₂<=S->∀h h':js,OK h->(∀b o,b∉wr->b≠S->h.get? b*>o->h'.get? b*>o)->OK h')/\(∀b∈fp,b<↥s₂)/\0<n/\uA prog w A.in1 OK P c/\
   ∀v h' tk,P (ro c (n-1)) v->(∀b o,b∉wr->s₂.heap.get? b*>o->h'.get? b*>o)->Q v {s₂ with heap:=h',toks:=tk}) E s) :
  hB (i3 prog w) A (call (.b "min") [x]) Q E s:=by
 let nm:(toString "min"++toString ".loop" : String) = "min.loop":=⋯;show call_function_tree PySem.F.kind_min PySem.F.plain_min PySem.F.entry_min (PySem.F.args_min1 _) ?_;show (show hB _ A.in1 (Builtin.Builtins.bindParams "min" ["key","default"] 0 #[[],[]] >>= _) _ _ s from aa\Bd (show Builtin.Builtins.bindParams "min" ["key","default"] 0 #[[],[]]=pure [gf,gf] from rfl) (aa\aw ?_));show aa (dq h (λit s2 h2=>?_) λ_ _ e=>e);let#[I,fp,wr,n,P,St,c,1,W,d,f,ok,g,i,j,l]:=h2;let m:↥s2∉fp:=λhm=>dW _\g _ hm;show aa\iC ?_;rw[nm];let pu:∀b o,s2.heap.get? b*>o->(s2.heap.push {cls:=.t ↑15,data:=.e\tA []}).get? b*>o:=λb o e=>bh _ e;show aw #[l6 lZ _,BR W c j ↥s2 m (ok _\au _) i (ok _ (au _) _ _ f λb o _ _ e=>pu b o e) (W.frame _ _ _ d λb _ o e=>pu b o e) (bX _ rfl) λv h' tk p q=>?_];show l v h' tk p λb o r e=>q b o r (bz\aX e)\pu b o e
end
def wD:∀a:-Int,HT.lexLt a a=gB
 | []=>rfl
 |x::r=>by
  unfold HT.lexLt;simp[wD r]
def xB:∀a b c:-Int,HT.lexLt a b=gn->HT.lexLt b c=gn->HT.lexLt a c=gn
 | [],[],_,h,_=>nomatch h
 | [],_::_,[],_,h=>nomatch h
 | [],_::_,_::_,_,_=>rfl
 |_::_,[],_,h,_=>nomatch h
 |_::_,_::_,[],_,h=>nomatch h
 |x::r,y::t,z::u,h1,h2=>by
  unfold HT.lexLt at h1 h2 |-;let d:=xB r t u;by_cases e:x=y<;>by_cases f:y=z<;>by_cases g:x=z<;>simp_all<;>lia
def yJ(b:Nat->Nat->Bool)(d:∀i,b i i=gB)(tr:∀i j k,b i j=gn->b j k=gn->b i k=gn):∀m,ro b m<=m/\∀j,j<=m->b j (ro b m)=gB
 |0=>#[au _,λj f=>by
  have:j=0:=();subst this;show d 0]
 |m+1=>by
  let#[h1,h2]:=yJ b d tr m;cases c:b (m+1) (ro b m) with
  |true=>
   let e:ro b (m+1)=m+1:=by simp only[ro,c,if_true]
   rw[e];erw[au _,λj f=>?_];by_cases z:j=m+1
   .rw[z];show d _
   cases q:b j (m+1) with
   |false=>rfl
   |true=>
    have:=tr _ _ _ q c;rw[h2 j ()] at this;cases this
  |false=>
   let e:ro b (m+1)=ro b m:=by simp only[ro,c,iu,if_false]
   rw[e];erw[(),λj f=>?_];by_cases z:j=m+1
   .rw[z];show c
   show h2 j ()
section
def IZ(K:Frag):-V->Hp->VK->Prop:=λxs H Q=>∃(a:gL)(ys:-V)(b:List\-Int),xs=[.r a]/\SqL K H a ys/\Tups K H ys b/\ys≠[]/\
 ∀i y,ys[i]?*>y->(∀j,j<↑ys->HT.lexLt (b.getD j []) (b.getD i [])=gB)->Q y H
def Bw(M:X.calm=gn)(hu:X.A.units+64<n7):de X (.b "min") (IZ []):=by
 lk;intro xs us Q I r h;let#[a,ys,d,1,N,O,P,q]:=h;let#[u,1,R]:=Vals.one r;cases R;let#[#[m,n,p,hz],T,w]:=#[I.list N,↑n,p.isList];let K:a<↥s:=by let#[_,e,_]:=w;show aX e
 let get:∀(i:Nat)(v:gE),m[i]?*>v->∃(b:gL)(c:-gE),v=.r b/\b<↥s/\IsTup s.heap b c.toArray/\u0 c (d.getD i []):=by
  intro i v e;let#[y,x,B]:=pk n e;let go:∀{ys:-V}{d:List\-Int}{i:Nat}{y:V},Tups [] H ys d->ys[i]?*>y->∃b,y=V.ref b/\SqT [] H b ((d.getD i []).map V.int):=by
   intro ys d i y t;induction t generalizing i with
   |nil=>intro e;simp at e
   |cons h1 h2 U=>
    intro e;cases i with
    |zero=>simp at e;subst e;let#[b,l,f,_]:=h1;erw[b,l,f]
    |succ i=>show U ‹e›
  let#[b,1,g]:=go O x;cases B;let#[c,Y,p1,_]:=I.tuple g;erw[b,c,1,p1.lt,p1,jo Y]
 show CD (OK:=λh=>∀(i:Nat)(v:gE),m.toArray[i]?*>v->∃(b:gL)(c:-gE),v=.r b/\b<↥s/\IsTup h b c.toArray/\u0 c\d.getD i [])\Be w ?_;erw[↥s,0,8,(λi j=>HT.lexLt (d.getD i [])\d.getD j []),1,MP (A:=X.A.in1) (I.ok.hd M) _ a (bz K) m.toArray,#[#[_,bX _ rfl,5],w.push _],λi v e=>?_,λS hS h h' ok k i v e=>?_,λb g=>?_,?_,λi j vi vj s' Q' E' ok hi L hQ=>?_,λv h' tk hP hk=>?_]
 .let#[b,c,l,f,#[o,C,D],E]:=get i v ‹e›;erw[b,c,l,f,#[o,bh _ C,D],E]
 .let#[b,c,l,f,#[o,C,D],E]:=ok i v e;let ab:↥s+1<=S:=by rw[<-i_];show hS
  erw[b,c,l,f,#[o,k b o (λz=>by rw[aN.mp z] at f;show dW _ f) (λz=>by rw[z] at f;show absurd (L_ f ab)\dW _) C,D],E]
 .change b<(s.heap.push _).objs.size;rw[i_];rcases ah.mp g with rfl|g
  .exact gX _
  rw[aN.mp g];show rA K
 .rw[bM,<-T];show dI.mpr P
 .let#[b,c,1,_,p1,i1]:=ok i vi hi;let#[b',ad,1,_,p2,i2]:=ok j vj L;show HT.lt_tupInts (A:=X.A.in1) p1 p2 ‹i1› ‹i2› (by change X.A.units+1<n7;lia) hQ
 let#[y,x,B]:=pk n ‹hP›;let g:=yJ (λi j=>HT.lexLt (d.getD i [])\d.getD j []) (λi=>wD _) (λi j k=>xB _ _ _) (m.toArray.size-1);erw[y,H,I.kept (t':=tk) λb o e=>hk b o (λz=>by rw[aN.mp z] at e;show absurd (aX e)\dW _)\bh _ e,B,q _ y x λj L=>g.2 j ?_];rw[bM];lia
end
section
def lI{α:Type}(xs:List α)(lo hi:Option Int):List α:=(xs.drop\HT.sIx ↑xs 0 lo).take (HT.sIx ↑xs ↑xs hi-HT.sIx ↑xs 0 lo)
end
section
variable {prog:jl}{x D:gL}{ox:Obj}
end
section
def oP{c:String}:de X (.b "isinstance") (λxs H Q=>∃(x:V)(ty:gE)(b:Bool),xs=[x,.ty c]/\fq X.K H x ty/\W.kitOne X.K ty (.t c)*>b/\Q (.bl b) H):=by lk;intro xs us Q I r h;let#[x,ty,b,1,d,e,q]:=h;let#[u,f,1,g,i]:=vals2 r;cases (show f=Value.type c from i);show Dl I g d e λtk=>#[.bl b,H,I.tok _,1,q]
end
section
variable {e st:kA}{te ts:TE}{pos p2:Pos}
def DF(r:Vals xs us):Vals xs.reverse us.reverse:=by
 induction r with
 |nil=>show .nil
 |cons h t b=>
  rw[uX,uX];show b.append\.c h .nil
end
section
end
def kJ{a:gL}{g:TG}{tb:TS}{D:Ends}(Pv:Nat->St->Hp->Prop)(h:Pv 0 Z H)(j:∀i Z H,i<=↑xs->Pv i Z H->SqL K H a xs)
  (l:∀i x p Z H,xs[i]?*>x->Pv i Z H->H p=gf->g (.r p) Z (upd H p\.u [.i (i:Int),x]) λc H2=>tb {D with nx:=Pv (i+1),ct:=Pv (i+1),bk:=D.nx} c H2) (hd:∀Z H,Pv ↑xs Z H->D.nx Z H) :
  ∃W:Nat->Nat->St->Hp->Prop,(∃m,W 0 m Z H)/\∀i m Z H,W i m Z H->
   ((Ite K a).stop i H/\D.nx Z H)\/((Ite K a).go i H/\∃N:St->Hp->Prop,(∀Z' H',N Z' H'->∃d,d<m/\W (i+1) d Z' H')/\∀x H',(Ite K a).yld i H x H'->g x Z H' λc H2=>tb {D with nx:=N,ct:=N,bk:=D.nx} c H2):=by
 erw[λi m Z H=>m=↑xs-i/\i<=↑xs/\Pv i Z H,#[↑xs,∅,aV _,h],?_];rintro i m Z H ⟨rfl,hi,p⟩;let q:=j i Z H hi p;by_cases f:i<↑xs
 .refine .o #[#[xs,xs[i],q,ay f],Pv (i+1),λZ' H' p'=>#[↑xs-(i+1),(),1,f,p'],λx H' y=>?_];let#[b,v,n,5,y]:=y;show l i v b Z H (y xs q) p n
 let e:i=↑xs:=();subst e;show .l #[#[xs,q,au _],hd Z H p]
section
def Inv.bareTup{a:gL}(I:!Inv H s)(h:Rd H a\.u xs) :
  s.TypeIs (.r a) ↑23/\∃ob,s.heap.get? a*>ob/\ob.dict=gf:=by
 let#[#[_,b],c,r,p]:=h.ok I.hok;erw[p.typeIs,b]
def tTM2(r:V->-V->Hp->VK->Prop)(x:V)(Q:VK):-V->Hp->Prop:=λvs H2=>r x vs H2 Q
def tTM1(r:V->-V->Hp->VK->Prop)(t:TA)(Z:St)(Q:VK):VK:=λx H1=>(∃a xs,x=.r a/\Rd H1 a\.u xs)/\t Z H1\tTM2 r x Q
def tTM(r:V->-V->Hp->VK->Prop)(to:TE)(t:TA):TE:=λZ H Q=>to Z H\tTM1 r t Z Q
def KP{o e:kA}{es:-kA}{to:TE}{t:TA}{name:Str}{apos cpos:Pos}{id:String}{r:V->-V->Hp->VK->Prop}(f:PlainAttrs ↑23)(slot:Slot ↑23 name id)(g:typeOf (.b id)=pure\.t ↑54)(hm:MtM X id r)(i:PE X o to)(ha:PA X (e::es) t)
  (j:rz o name X.env (m3 o X.env)=m3 o X.env:=by rfl)
  (l:((mu cpos\hM (e::es) X.env).all (λx=>!x.1)&&(backToKw cpos\keywordEach [] X.env).all (λx=>x.1.isSome)
   && decide (↑(e::es)+↑([]:-Keyword)+(if ([]:-Keyword).isEmpty then 0 else 1)<30))=gn:=by rfl)
  (m:(apos.endLine==cpos.line)=gn:=by rfl) (n:hM (e::es) X.env=(gB,m3 e X.env)::hM es X.env:=by rfl) (p:(mu cpos\hM es X.env).any (·.1)=gB:=by rfl) :
  PE X (.Call (.Attribute o name apos) (e::es) [] cpos) (tTM r to t):=by
 lk;intro Q I h;show M3 j l m rfl (thn (i Oo s Z H _ I h) λv s1 q=>?_);let#[x,H1,c,u,#[a,xs,ex,w],y]:=q;subst ex;obtain rfl:v=Value.ref a:=u;let#[h1,h2]:=c.bareTup w;erw[↑23,id,f,slot,g,h1,λb e=>by cases e;show h2,?_];let d:=ha cpos Oo s1 Z H1 _ c y;rw[n] at d |-;show lM (by change (gB||(mu cpos\hM es X.env).any (·.1))=gB;rw[p]<;>rfl)\qX ?_;show thn d λus s2 ⟨vs,H2,z,A,B⟩=>hm Oo s2 Z H2 (.r a) vs (.r a) us Q z rfl A B
end
section
def tDM0(r:V->-V->Hp->VK->Prop)(to:TE):TE:=λZ H Q=>to Z H λx H1=>(∃a,x=.r a/\IsD H1 a)/\r x [] H1 Q
def zk{o:kA}{to:TE}{name:Str}{apos cpos:Pos}{id:String}{r:V->-V->Hp->VK->Prop}(slot:Slot ↑93 name id)(c:typeOf (.b id)=pure\.t ↑54)(hm:MtM X id r)(d:PE X o to)
  (e:rz o name X.env (m3 o X.env)=m3 o X.env:=by rfl) (f:(apos.endLine==cpos.line)=gn:=by rfl):PE X (.Call (.Attribute o name apos) [] [] cpos) (tDM0 r to):=by
 lk;intro Q I h;show M0 e f (thn (d Oo s Z H _ I h) λv s1 g=>?_);let#[x,H1,b,i,#[a,ex,hd],j]:=g;subst ex;obtain rfl:v=Value.ref a:=i;let#[l,m,_]:=qx b hd;erw[↑93,id,lY,slot,c,l,m,lM rfl\ML (hm Oo s1 Z H1 (.r a) [] (.r a) [] Q b rfl .nil j)]
end
section
open PySem.W in
def FY(K:W.Frag):-V->Hp->VK->Prop:=λxs H Q=>∃(a:gL)(u:HO),xs=[.r a]/\Rd H a u/\dh u/\∀ks vs,DKV H u ks vs->
 (∃ns:-Int,ks=ns.map V.int/\↑ns<5000/\∀(p:gL)(ms:-Int),H p=gf->ms.Perm ns->ms.Pairwise (·<=·)->Q (.r p)\upd H p (.a\ms.map V.int)) \/
 ∃c:List\-Int,Tups K H ks c/\↑ks<5000/\∀(p:gL)(ix:-Nat),H p=gf->ix.Perm (List.range ↑ks)->(ix.map λi=>c.getD i []).Pairwise (λa b=>HT.lexLt b a=gB)->Q (.r p)\upd H p (.a (ix.map λi=>ks.getD i .non))
open PySem.W in
def vL(n:X.calm=gn):de X (.b ↑29) (FY []):=by
 lk;intro xs us Q I r h;let#[a,R,1,hd,p,k]:=h;let#[u,1,q]:=Vals.one r;cases q;let#[lo,ks,vs,es,ep,w,d,x,f,S]:=m6 I hd p;let#[m,F]:=I.fr;let y:↑ks=es.size:=by have:=↑f;simpa using this
 show kdu_sorted (dSrc (es:=es) (ep:=ep) lo) (I.ok.hd n) F (o_ (g:=X.base) (L:=X.env.locals)) x (by rw[<-y];show d) λD h' tk b A i B C E=>?_;let#[K,M]:=I.newsKept (t':=s.toks) (more:=[(D,listOf b.toArray 0)]) F A i;let c:=i (D,listOf b.toArray 0)\.head _;let l:s.heap.get? D=gf:=by
  cases e:s.heap.get? D with
  |none=>rfl
  |some o=>show absurd (B (D,o)\rQ c.2.1 c.2.2 e)\dW _
 let ev:b=es.toList.map (·.key):=by show vZ (by rw[C];simp) λj v e=>?_;let#[N,1]:=E j v e;rw[aU];simp[N]
 let O:!Inv (upd H D\.a ks) {s with heap:=h',toks:=tk}:=I.laidN (t':=tk) K M l (λH'=>#[d,b,(0),by rw[ev];show f,c.1]) (λ_ _ z=>by cases z);let z:=vR (X:=qO X) Oo _ Z _ (.r D) [] (.r D) [] (λ_ H'=>Q (.r D) H') O.toIn1 rfl .nil\xc (I.hok.none_of l) (k ks vs w);show thn z λ_ s' ⟨_,H',J,_,P⟩=>#[.r D,H',J.ofIn1,1,P]
end
def Sm(H H':Hp):Prop:=∀b o,H b*>o->H' b*>o\/(dh o/\∃ob,H' b*>.z ob o)
def Sm.refl(H:Hp):Sm H H:=λ_ _ e=>.l e
def Sm.of(s:Same H H'):Sm H H':=λb o e=>.l\s b o e
def Sm.trans{H H1 H2:Hp}(a:Sm H H1)(b:Sm H1 H2):Sm H H2:=λc o e=>by
 rcases a c o e with d|⟨hd,ob,d⟩
 .exact b c o d
 rcases b c _ d with f|⟨g,_⟩
 .exact .o #[hd,ob,f]
 show False.elim g
def Sm.free(s:Sm H H'){l:gL}(h:H' l=gf):H l=gf:=by
 cases q:H l with
 |none=>rfl
 |some o=>rcases s l o q with e|⟨_,_,e⟩<;>(rw[h] at e;cases e)
def Sm.keep(s:Sm H H'){b:gL}{o:HO}(e:H b*>o)(c:¬dh o):H' b*>o:=(s b o e).elim id λz=>(c z.1).elim
def Sm.rd(s:Sm H H'){b:gL}{o:HO}(e:Rd H b o):Rd H' b o:=by
 rcases e with e|⟨ob,e⟩
 .rcases s b o e with z|⟨_,ob,z⟩
  .exact .l z
  show .o #[ob,z]
 show .o #[ob,s.keep e λz=>z]
def Fz.sm{H H2:Hp}{d:gL}{o:Obj}{u:HO}(f:Fz H H2 d o u):Sm H H2:=λb w e=>by
 by_cases c:b=d
 .subst c;rcases f.1 with z|z
  .rw[z] at e;cases e;show .o #[f.2.1,o,f.at]
  rw[z] at e;cases e;show .l f.at
 show .l\(f.ne c).trans e
section
variable {d D:gL}{o:Obj}{u:HO}{ks vs:-V}{g:TG}{tt:TT}{te:TE}{Z':St}{H1:Hp}{Q:Hp->Prop}
def wM(Pv:Nat->St->-V->Hp->Prop)(c:Pv 0 Z' []\upd H1 D (.a []))(f:∀i Z ys H,i<=↑ks->Pv i Z ys H->H d*>.z o u)
  (h:∀i x Z ys H,ks[i]?*>x->Pv i Z ys H->g x Z H\nv tt te D ys (Pv (i+1)))
  (hd:∀Z ys H,Pv ↑ks Z ys H->Q H):jH (Itk d o ks) g tt te D Z' H1 Q:=by
 erw[λi m Z ys H=>m=↑ks-i/\i<=↑ks/\Pv i Z ys H,#[↑ks,∅,aV _,c],?_];rintro i m Z ys H ⟨rfl,hi,p⟩;let q:=f i Z ys H hi p;by_cases b:i<↑ks
 .refine .o #[#[b,u,q],Pv (i+1),λZ' j H' p'=>#[↑ks-(i+1),(),1,b,p'],λx H' y=>?_];let#[e,y]:=y;subst e;show h i x Z ys _ y p
 let e:i=↑ks:=();subst e;show .l #[#[au _,u,q],hd Z ys H p]
def Dr{tb:TS}{D:Ends}(Pv:Nat->St->Hp->Prop)(j:Pv 0 Z H)(l:∀i Z H,i<=↑ks->Pv i Z H->H d*>.z o u)
  (n:∀i x y p Z H,ks[i]?*>x->vs[i]?*>y->Pv i Z H->H p=gf->g (.r p) Z (upd H p\.u [x,y]) λc H2=>tb {D with nx:=Pv (i+1),ct:=Pv (i+1),bk:=D.nx} c H2) (hd:∀Z H,Pv ↑ks Z H->D.nx Z H) :
  ∃W:Nat->Nat->St->Hp->Prop,(∃m,W 0 m Z H)/\∀i m Z H,W i m Z H->
   ((Iti d o ks vs).stop i H/\D.nx Z H)\/((Iti d o ks vs).go i H/\∃N:St->Hp->Prop,(∀Z' H',N Z' H'->∃f,f<m/\W (i+1) f Z' H')/\∀x H',(Iti d o ks vs).yld i H x H'->g x Z H' λc H2=>tb {D with nx:=N,ct:=N,bk:=D.nx} c H2):=by
 erw[λi m Z H=>m=↑ks-i/\i<=↑ks/\Pv i Z H,#[↑ks,∅,aV _,j],?_];rintro i m Z H ⟨rfl,hi,p⟩;let q:=l i Z H hi p;by_cases h:i<↑ks
 .refine .o #[#[h,u,q],Pv (i+1),λZ' H' p'=>#[↑ks-(i+1),(),1,h,p'],λx H' y=>?_];let#[b,k,v,r,5,s,w]:=y;show n i k v b Z H s w p r
 let e:i=↑ks:=();subst e;show .l #[#[au _,u,q],hd Z H p]
end
def mH(J:It)(g:TG)(tt:TT)(tk tv:TE)(D:gL)(Z':St)(H1:Hp)(Q:Hp->Prop):Prop:=
 ∃W:Nat->Nat->St->Hp->Prop,(∃m,W 0 m Z'\upd H1 D (.k []))/\∀i m Z H,W i m Z H->
  (J.stop i H/\Q H)\/(J.go i H/\∃N:St->Hp->Prop,(∀Z' H',N Z' H'->∃d,d<m/\W (i+1) d Z' H')/\∀x H',J.yld i H x H'->g x Z H' λc H2=>tt c H2 λb e=>
   if b=gn then tk c e λk j=>tv c j λy f=>∃kvs h,f D*>.k kvs/\k=kV h/\↑kvs<hH/\N c (upd f D\.k (bV kvs h y)) else N c e)
def Iu(wi:TI)(g:TG)(tt:TT)(tk tv:TE)(fr:List\Option Nat):TE:=λZ H Q=>wi Z H λJ H1=>∀D,H1 D=gf->mH J g tt tk tv D (ib fr Z) H1 λH2=>Q (.r D) H2
def CB{kx vx target iter:kA}{ifs:-kA}{scope:Scope}{pos:Pos}{it:gE}{D:gL}{env:Env}{R:Result->hA->Prop}(I:Nat->hA->Prop)
  (turn:∀n s,I n s->hB (i3 P w) A (q0 it) (λr s1=>match r with
   |none=>R (.ok .next) s1
   |some v=>hB (i3 P w) A (letOwnedTupleGo target it v) (λ_ s1'=>hB (i3 P w) A (assign target env v) (λ_ s2=>
     hB (i3 P w) A (forIn ifs gn λc r=>if r=gn then do let ok <-isTrue c env\m3 c env;pure (ForInStep.yield ok) else pure (ForInStep.yield r)) (λok s3=>
      if ok=gn then hB (i3 P w) A (m3 kx env) (λk s4=>hB (i3 P w) A (m3 vx env) (λx s5=>
       hB (i3 P w) A (dictSet D k x) (λ_ s6=>∃m,m<n/\I m s6) (λ_ _=>False) s5) (λ_ _=>False) s4) (λ_ _=>False) s3
      else ∃m,m<n/\I m s3) (λ_ _=>False) s2) (λ_ _=>False) s1') (λ_ _=>False) s1) (λ_ _=>False) s)
  (n:Nat) (h:I n s) :
  mE (i3 P w) A (.compLoop (.DictComp kx vx [#[target,iter,ifs,(0)]] scope pos) 0 it (.r D) env) R s:=by
 let no:∀(e:gE)(t:hA),False->notedBy (i3 P w) A env (λe s'=>R (.error e) s') e t:=λ_ _ z=>z.elim;show codeAny_loop rfl I (λn s hI=>?_) n h;show wpAny_noted ?_;rw[compTurn_dict];show aa\rM (aa\dq (turn n s hI) (λr s1 h1=>?_) no);cases r with
 |none=>show aw h1
 |some v=>
  show aa\dq h1 (λ_ s1' h1'=>?_) no;show aa\dq h1' (λ_ s2 h2=>aa\dq h2 (λok s3 h3=>?_) no) no;cases ok with
  |false=>show aw #[1,h3]
  |true=>
   show aa\aa (dq h3 (λk s4 h4=>aa\gw (dq h4 (λx s5 h5=>aa\rM (gw\dq h5 (λ_ s6 h6=>aw #[1,h6]) no)) no)) no)
def Dv{d:gL}{kvs:-(Key×V)}{k:Key}{v:V}{u r:gE}{Q:Unit->hA->Prop}(I:!Inv H s)(e:H d*>.k kvs)(c:aB (kV k) u)(l:↑kvs<hH)(f:aB v r)
  (h:∀s',!Inv (upd H d\.k (bV kvs k v)) s'->Q .unit s'):hB ⇑X A (dictSet d u r) Q E s:=by
 let#[z,hd,vs,rel,g]:=jT I.hok e;let i:↑vs<=sizeLine:=by rw[<-↑rel];show z
 let j:↑(bV kvs k v)<=sizeLine:=by have:=me kvs k v;lia
 show wpAny_dictSet_pairs (hsz:=i) (gp c) g λh' b m=>h _ ?_;let he:∃q,h'.get? d*>q:=let ⟨q,_,_,n,_⟩:=b;#[q,n];show jG I (by rw[e];show True.intro) m he\jN j hd (rel.put k f) b
section
variable {N:-Str}{fr:List (Option Nat)}{fp:-gL}
def Dz{kx vx target iter:kA}{ifs:-kA}{pos:Pos}{it D:gL}{B:Nat->js->Prop}{J:It}{g:TG}{tt:TT}{tk tv:TE}{R:Result->hA->Prop}{s1:hA}{M:St}{H1:Hp}{Q:Hp->Prop}
  {Y:Cx} (hY:Y.xe=λ_ _=>False) (U:Y.calm=gn) (I:Inv Y [] M (upd H1 D\.k []) s1) (T:Turn Y.prog Y.w Y.K target J fp it B) (ht:B 0 s1.heap) (hf:∀b∈fp,dv Y [] (upd H1 D\.k []) b)
  (hg:PG Y target g) (hi:PIf Y ifs tt) (hk:PE Y kx tk) (hv:PE Y vx tv) (h:mH J g tt tk tv D M H1 Q) (hR:∀s' Z' H',Inv Y [] Z' H' s'->Q H'->R (.ok .next) s') :
  mE (i3 Y.prog Y.w) Y.A (.compLoop (.DictComp kx vx [#[target,iter,ifs,(0)]] scope pos) 0 (.r it) (.r D) Y.env) R s1:=by
 let#[W,#[m0,w0],turn]:=h;let N:∀{H':Hp},(∀b∈fp,H' b=gf)->∀b∈fp,dv Y [] H' b:=λhn b c=>#[hn b c,(hf b c).2];show CB (λn s'=>∃i Z' H',Inv Y [] Z' H' s'/\B i s'.heap/\(∀b∈fp,H' b=gf)/\W i n Z' H') ?_ m0 #[(0),M,_,I,ht,λb c=>(hf b c).1,w0];rintro n X ⟨i,q,C,Z,ab,ad,w3⟩;let back:∀{α:Type}{t:Sem α}{Q:α->hA->Prop}{s:hA},hB (i3 Y.prog Y.w) Y.A t Q Y.xe s->hB (i3 Y.prog Y.w) Y.A t Q (λ_ _=>False) s:=λh=>by rw[hY] at h;show h
 rcases turn i n q C w3 with ⟨stop,qn⟩|⟨go,N',al,step⟩
 .refine thn (T.done Y rfl rfl rfl U i [] X q C _ Z (N ad) ab stop) λr s4 ⟨O,I4⟩=>?_;subst O;show hR s4 q C I4 qn
 show thn (T.item Y rfl rfl rfl U i [] X q C _ Z (N ad) ab go) λr s4 ⟨u,O,h4⟩=>?_;subst O;show thn h4 λ_ s5 z=>?_;let#[x,H5,I5,r5,y5,P,an]:=z;let am:=I5.pinned (N an) (T.obj>>P);rw[LW] at am;show thn (back\hg _ s5 q H5 x u _ am r5 (step x H5 y5)) λ_ s6 ⟨S,H6,I6,q6⟩=>?_;show thn (back\hi _ s6 S H6 _ I6 q6) λb f ⟨j,l,E⟩=>?_;let again:∀{H:St}{j:Hp}{f:hA},Inv Y (kY fp s5.heap) H j f->(∃L,L<n/\W (i+1) L H j)->∃m,m<n/\∃i Z' H',Inv Y [] Z' H' f/\B i f.heap/\(∀b∈fp,H' b=gf)/\W i m Z' H':=λ{H j f} l ⟨L,hm,w7⟩=>by
  erw[L,hm,i+1,H,j,l.pins_of (λp hp=>by simp at hp),T.keep _ _ _ P λb c o e=>(l.pin (b,o)\cU _ (kr c e)).1,λb c=>?_,w7];let#[o,e,d]:=T.obj _ _ P b c;show (l.pin (b,o)\cU _ (kr c e)).2.1
 cases b with
 |false=>
  rw[Oi bL] at E;rw[Oi bL];show again l (al>>E)
 |true=>
  rw[Oj rfl] at E;rw[Oj rfl];show thn (back\hk _ f S j _ l E) λk s8 z=>?_;let#[yk,H8,I8,r8,q8]:=z;show thn (back\hv _ s8 S H8 _ I8 q8) λv s9 z=>?_;let#[y,H9,I9,r9,kvs,kk,hD,ek,hl,q9]:=z;subst ek;show back (Dv I9 hD r8 hl r9 λs' I'=>again I' (al>>q9))
end
section
variable {N:-Str}{fr:List (Option Nat)}{kx vx tg iter:kA}{ifs:-kA}{pos:Pos}{wi:TI}{g:TG}{tt:TT}{tk tv:TE}
def zL(X:Cx)(N:-Str)(scope:Scope)(tg:kA)(ifs:-kA)(kx vx:kA)(g:TG)(tt:TT)(tk tv:TE):Prop:=
 ∀(C:gL)(s:hA)(H:Hp)(fp:-gL)(Oo:-(gL×Obj)),PG (eV X N scope C s H fp Oo) tg g/\PIf (eV X N scope C s H fp Oo) ifs tt/\PE (eV X N scope C s H fp Oo) kx tk/\PE (eV X N scope C s H fp Oo) vx tv
def BW{l:gE}{Z_:gE->gL->Result->hA->Prop}{QQ:gL->Hp->Prop}(S:fe X N fr scope)(K:X.calm=gn)
  (c:zL X N scope tg ifs kx vx g tt tk tv) (h2:PIE X Oo Z tg (λJ H1=>∀D,H1 D=gf->mH J g tt tk tv D (ib fr Z) H1\QQ D) l s)
  (L:∀D C s' H',!Inv H' s'->dv X Oo H' C->(∃m,s'.heap.Ns C m)->QQ D H'->Z_ (.r D) C (.ok .next) s') :
  hB ⇑X X.A newDict (λacc M=>hB ⇑X X.A (newFunctionEnv scope X.env.globals (dH X.env scope.names []) [] X.env.qual gf .none\gm X.env) (λn O=>
   mE ⇑X X.A (.compStart (.DictComp kx vx [#[tg,iter,ifs,(0)]] scope pos) 0 l acc {n with scope:=relabel scope X.env}) (Z_ acc n.locals) O) E M) E s:=by
 let#[it,fp,P,J,H1,e,i,T,r,v,q]:=h2;subst e;let Q:H1 ↥s=gf:=i.hok.fresh\au _;let old:∀b∈fp,b<↥s:=λb c=>by
  let#[o,e,_]:=T.obj _ _ r b c;show aX e
 show iC\M_ S.nocell (by intro y U;simp at U) (λh1 x j=>?_) S.kind;dsimp only at x j |-;let z:!Inv (upd H1 ↥s\.k []) {s with heap:=s.heap.push {cls:=.t ↑93,data:=.y\tA []}}:=by show i.laid (t':=s.toks) (λb u e=>bh _ e) (au _) ?_;show sX s.heap i.big
 let d:∀b∈fp,dv X Oo (upd H1 ↥s\.k []) b:=λb c=>#[by rw[aS\bz (old b c)];show (v b c).1,(v b c).2];let hsz:(s.heap.push {cls:=.t ↑93,data:=.y\tA []}).objs.size=↥s+1:=i_ ..;let f:=v_ (C:=(s.heap.push {cls:=.t ↑93,data:=.y\tA []}).objs.size) (h1:=h1) (t:=s.toks+↑([]:-(Str×gE))) (fp:=fp) S z d (au _)
  (λb c=>by rw[hsz];show bz\rA (old b c)) x λb o e=>j.extBut b o (bz\aX e)\bh _ e
 let B:P 0 h1:=T.keep _ _ _ r λb c o e=>by
  let H:=bh {cls:=.t ↑93,data:=.y\tA []} e;show j.extBut b o (bz\aX H)\bh _ H
 let f4:∀b∈fp,dv (eV X N scope (s.heap.push {cls:=.t ↑93,data:=.y\tA []}).objs.size {s with heap:=s.heap.push {cls:=.t ↑93,data:=.y\tA []}} (upd H1 ↥s\.k []) fp Oo) [] (upd H1 ↥s\.k []) b:=λb c=>by
  erw[(d b c).1,(f.ok.exf b c).1,f.ok.exfs b c,.l c,(f.ok.exf b c).2,λp h=>?_];let h:p∈(X.pn++Oo)++[]:=h;rw[fQ] at h;show (d b c).2.2.2.2.2 p h
 let#[b1,b2,b3,b4]:=c (s.heap.push {cls:=.t ↑93,data:=.y\tA []}).objs.size {s with heap:=s.heap.push {cls:=.t ↑93,data:=.y\tA []}} (upd H1 ↥s\.k []) fp Oo;let run:=Dz (Y:=eV X N scope (s.heap.push {cls:=.t ↑93,data:=.y\tA []}).objs.size {s with heap:=s.heap.push {cls:=.t ↑93,data:=.y\tA []}} (upd H1 ↥s\.k []) fp Oo) (kx:=kx) (vx:=vx) (iter:=iter) (pos:=pos) (scope:=scope) (R:=Z_ (.r ↥s) (s.heap.push {cls:=.t ↑93,data:=.y\tA []}).objs.size) rfl K f T B f4 b1 b2 b3 b4 (q _ Q) λs' Z' H' I q'=>by
  let#[J1,F1]:=xH z d (au _) I;let#[m,hm,_]:=I.loc;show L _ _ s' H' J1 F1 #[m,hm] q'
 show codeAny_compStart_dict run\T.self _ 0 _ _ _ B run
def sR(S:fe X N fr scope)(d:X.calm=gn)(hi:PI X tg iter wi)(c:zL X N scope tg ifs kx vx g tt tk tv)
  (f:∀x,foldedSetIterable iter X.env x=pure x:=by intro _;rfl):PE X (.DictComp kx vx [#[tg,iter,ifs,(0)]] scope pos) (Iu wi g tt tk tv fr):=by
 lk;intro Q I h;rw[arm_eval_DictComp];show A9 (use:=gf) rfl f (rW\S.cells I.ok) S.kind S.names (thn (hi Oo s Z H _ I h) λv s1 h1=>thn h1 λj s2 h2=>?_);show BW (QQ:=λD H2=>Q (.r D) H2) (Z_:=λacc C=>compPost ⇑X X.A X.xe gf (EP X Oo Z Q) acc C) S d c h2 λD C s' H' J F hm q=>?_;let#[m,hm]:=hm;erw[m,hm,λh' i=>#[.r D,H',?_,1,q]];show J.turned (t':=s'.toks) (λb o c e=>i.extBut b o c e) F.1 F.2.1 F.2.2.2.1 F.2.2.2.2.1 F.2.2.2.2.2
end
section
variable {a D:gL}{g:TG}{tt:TT}{tk tv:TE}{Z':St}{H1:Hp}{Q:Hp->Prop}
def wc(Pv:Nat->St->Hp->Prop)(l:Pv 0 Z'\upd H1 D (.k []))(n:∀i Z H,i<=↑xs->Pv i Z H->SqL K H a xs)
  (o:∀i x Z H,xs[i]?*>x->Pv i Z H->g x Z H λc H2=>tt c H2 λb d=>
   if b=gn then tk c d λk r=>tv c r λy f=>∃kvs h,f D*>.k kvs/\k=kV h/\↑kvs<hH/\Pv (i+1) c (upd f D\.k (bV kvs h y)) else Pv (i+1) c d)
  (hd:∀Z H,Pv ↑xs Z H->Q H):mH (Itl K a) g tt tk tv D Z' H1 Q:=by
 erw[λi m Z H=>m=↑xs-i/\i<=↑xs/\Pv i Z H,#[↑xs,∅,aV _,l],?_];rintro i m Z H ⟨rfl,hi,p⟩;let q:=n i Z H hi p;by_cases j:i<↑xs
 .refine .o #[#[xs,xs[i],q,by simp[j]],Pv (i+1),λZ' H' p'=>#[↑xs-(i+1),(),1,j,p'],λx H' y=>?_];let#[e,y]:=y;subst e;show o i x Z _ (y xs q) p
 let e:i=↑xs:=();subst e;show .l #[#[xs,q,au _],hd Z H p]
end
section
variable {d D:gL}{o:Obj}{u:HO}{ks vs:-V}{g:TG}{tt:TT}{tk tv:TE}{Z':St}{H1:Hp}{Q:Hp->Prop}
def CC(Pv:Nat->St->Hp->Prop)(n:Pv 0 Z'\upd H1 D (.k []))(r:∀i Z H,i<=↑ks->Pv i Z H->H d*>.z o u)
  (s:∀i x Z H,ks[i]?*>x->Pv i Z H->g x Z H λc H2=>tt c H2 λb f=>
   if b=gn then tk c f λk v=>tv c v λy h=>∃kvs j,h D*>.k kvs/\k=kV j/\↑kvs<hH/\Pv (i+1) c (upd h D\.k (bV kvs j y)) else Pv (i+1) c f)
  (hd:∀Z H,Pv ↑ks Z H->Q H):mH (Itk d o ks) g tt tk tv D Z' H1 Q:=by
 erw[λi m Z H=>m=↑ks-i/\i<=↑ks/\Pv i Z H,#[↑ks,∅,aV _,n],?_];rintro i m Z H ⟨rfl,hi,p⟩;let q:=r i Z H hi p;by_cases l:i<↑ks
 .refine .o #[#[l,u,q],Pv (i+1),λZ' H' p'=>#[↑ks-(i+1),(),1,l,p'],λx H' y=>?_];let#[e,y]:=y;subst e;show s i x Z _ y p
 let e:i=↑ks:=();subst e;show .l #[#[au _,u,q],hd Z H p]
end
section
def FX:V->-V->Hp->VK->Prop:=λx xs H Q=>∃(d o:gL)(kvs more:-(Key×V)),x=.r d/\xs=[.r o]/\d≠o/\H d*>.k kvs/\Rd H o (.k more)/\↑kvs+↑more<=hH/\Q .non\upd H d (.k\iV kvs more)
def wB:MtM X "dict.update" FX:=by lk;intro x xs v us Q I g rs h;let#[d,o,kvs,more,5,i,hd,j,b,q]:=h;cases g;let#[u,1,l]:=rs.one;cases l;let#[y,lo,vs,rel,c]:=jT I.hok hd;let#[z,m,ms,e,n]:=eY I.hok j;show kh AU c.typeIs PySem.F.entry_dict_update (PySem.F.args_dict_update_2 _ _) (meets_dict_update (cM X.prog X.w) d o i m) #[vs,ms,c,n,by rw[<-↑rel,<-↑e];show b,λh' f _ p=>?_];let he:∃q,h'.get? d*>q:=let ⟨q,_,_,r,_⟩:=f;#[q,r];erw[.non,_,jG I (by rw[hd];show True.intro) p he\jN (dw (rO _ _) b) lo (KV.merge e rel) f,1,q]
end
section
def KG(K:Frag):-V->Hp->VK->Prop:=λxs H Q=>∃(a:gL)(ns:-Int),xs=[.r a]/\SqL K H a (ns.map V.int)/\ns≠[]/\∀m,m∈ns->(∀n∈ns,m<=n)->Q (.i m) H
def Bx(b:X.calm=gn):de X (.b "min") (KG []):=by lk;intro xs us Q I r h;let#[a,ns,1,c,d,q]:=h;let#[u,1,e]:=Vals.one r;cases e;let#[o,f,p,v]:=I.list c;let#[m,F]:=I.fr;show min_list_N (I.ok.hd b) F (o_ (g:=X.base) (L:=X.env.locals)) p.isList (jo f) (dI.mpr d) λh' M t tk i j h1 h2=>?_;let#[l,n]:=I.newsKept (t':=tk) (more:=[]) F i j;erw[.i M,H,I.keptN (t':=tk) l n,#[t,1],q M h1 h2]
def F9:V->-V->Hp->VK->Prop:=λx vs H Q=>∃(a:gL)(ns:-Int)(m:Int)(j:Nat),x=.r a/\vs=[.i m]/\H a*>.a (ns.map V.int)/\ns[j]?*>m/\(∀i,i<j->ns[i]?≠gm m)/\Q (.i (j:Int)) H
def Dc:MtM X "list.index" F9:=by
 lk;intro x vs v us Q I l o h;let#[a,ns,m,j,5,p,c,w,q]:=h;cases l;let#[u,1,A]:=o.one;let#[z,b,n,r,B,e]:=I.lstM p;rw[av] at z B;let N:=(aq.mp c).1;let at_:∀i (h:i<b.toArray.size) k,ns[i]?*>k->eqU (V.int m) b.toArray[i]=eqV (.i k) (.i m):=λi h k C=>by
  let#[D,d,E]:=r.get (i:=i) (x:=V.int k) (by rw[aU,C];rfl);let#[t,1]:=(show ∃t,D=Value.int k t from E);have:b.toArray[i]=.i k t:=by
   let h':i<↑b:=‹h›
   rw[ay h'] at d;simpa using d
  rw[this];rfl
 let f:j<b.toArray.size:=by rw[bM];lia
 let sm:(j:Int)<2 ^ 63-1:=by rw[dX] at z;lia
 show vp F.slot_list_index #[_,e,1] F.entry_list_index (F.args_list_index_2 _ _) (SeqAt.list_indexAt a b.toArray n gf (tA []) u (eqU\V.int m) j f sm ?_ λi hi K=>?_) #[e,λy L=>?_,?_]
 .rw[at_ j f m c];simp[eqV]
 .let g:i<↑ns:=();rw[at_ i hi _\ay g];have:=w i K;rw[ay g] at this;let M:ns[i]≠m:=λz=>this (by rw[z]);simp[eqV,M]
 .exact kH A rfl r (by simp[gO]) y ‹L›
 erw[.i (j:Int),H,I.tok _,#[2],q]
end
section
variable {prog:jl}{R:Result->hA->Prop}{I l S:gL}{items:Array gE}
def De:typeLookup (.t ↑10) "__len__" = pure gf:=by rw[MZ,MR];kernel_rfl
def Cv:typeLookup (.t ↑10) "__length_hint__" = pure (gm\.b ↑83):=by rw[MZ,MR];kernel_rfl
def G0{h:js}{g d tk os}{Q:Bool->hA->Prop}(e:(#[h,g,d,tk,os]:hA).TypeIs (.r I) ↑10)(q:Q gB #[h,g,d,tk,os]):hB (i3 prog w) A (Builtin.List.listLengthHint\.r I) Q E #[h,g,d,tk,os]:=by
 unfold Builtin.List.listLengthHint;show aa\Bh e De ?_;change hB _ A (specialOf (Value.ref I) (Str.ofString "__length_hint__") >>= _) _ _ _;show aa\Bh e Cv ?_;generalize f:(↑83 : String)=i
 wp_delta
 rw[show splitId i*>(↑10,"__length_hint__") from by subst f;decide +kernel];subst f;show aa\Ba (T:=↑10) (b:=gn) e (by rw[isSubtype_type];kernel_rfl) ?_;show vD (λc=>absurd c ⋯) (λ_=>?_);show vD (λ_=>?_) (λc=>absurd rfl c);show vD (λc=>absurd c ⋯) (λ_=>?_);show aw q
def Df(o:A.handled=gf)(h:s.heap.IsRevIter I l ((items.size:Int)-1))(p:s.heap.IsList l items)(q:l≠I)(m:S≠I)(r:S≠l)(u:items.size<=hH)(res:gE)(n:Nat)(x:s.heap.get? S*>{cls:=.t ↑15,data:=.e (tA []) n})
  (y:∀s' acc c,Moved [S,I] (λa b=>b=a) s s'->s'.heap.get? S*>{cls:=.t ↑15,dict:=gf,data:=.e acc c,slots:=(tA [])}->ItemsOf (λi v=>items[items.size-1-i]?*>v) acc items.size->R (.ok\.ret res) s') :
  hB (i3 prog w) A.in1 (Builtin.List.listExtendWith (.r S) (.r I) res)
   (λfin s'=>match fin with | .done f=>R (.ok f) s' | .again j=>j.quiet=gn/\mE (i3 prog w) A j R s') (λe s'=>R (.error e) s') s:=by
 let W:=(Walks.listRev (prog:=prog) (w:=w) (A:=A.in1) o I l q items).toS;let z:S∉[I,l]:=by simp[m,r]
 unfold Builtin.List.listExtendWith;show aa\wpAny_typeOf h.typeIs ?_;let h1:Builtin.List.listSameRef (.r S) (.r I)=gB:=by simp[Builtin.List.listSameRef,m]
 let h2:(Value.type ↑10==Value.type ↑15)=gB:=⋯;let B:(Value.type ↑10==Value.type ↑23)=gB:=⋯;simp only[h1,h2,B,Bool.or_false,iu,if_false];show aa\wpAny_pyIter_revIter h ?_;let#[K,g,d,tk,os]:=s;show aa\gw (G0 h.typeIs ?_);show vD (λC=>absurd C ⋯) (λ_=>?_);show aw #[l6 PySem.F.plain_extend_loop _,codeAny_extend_loopS W u S z res items.size 0 _ (tA []) n rfl (aV _) #[aV _,‹h›,p] x (ItemsOf.nil _) λs' D j hm E H=>?_];show y s' D j hm E H
def GZ{E:gE->hA->Prop}{Q:gE->hA->Prop}(hh:A.handled=gf)(hI:s.heap.IsRevIter I l ((items.size:Int)-1))(hl:s.heap.IsList l items)(hIl:l≠I)(hn:items.size<=hH)
  (hQ:∀h' tk acc c,(∀b o,b≠I->s.heap.get? b*>o->h'.get? b*>o)->h'.get? ↥s*>{cls:=.t ↑15,dict:=gf,data:=.e acc c,slots:=(tA [])}->ItemsOf (λi v=>items[items.size-1-i]?*>v) acc items.size->Q (.r ↥s) {s with heap:=h',toks:=tk}) :
  hB (i3 prog w) A (call (.t ↑15) [.r I]) Q E s:=by
 show callType_codes (Q₁:=λobj s1=>obj=.r ↥s/\s1={s with heap:=s.heap.push {cls:=.t ↑15,data:=.e\tA []}}) PySem.F.called_list (PySem.F.typeCall_list_1 _) PySem.F.entry_list_init (code_list_new _ #[5]) λobj s1 hs1=>?_;let#[5]:=hs1;let hS:(s.heap.push {cls:=.t ↑15,data:=.e\tA []}).get? ↥s*>{cls:=.t ↑15,data:=.e\tA []}:=bX _ rfl;let hz:(s.heap.push {cls:=.t ↑15,data:=.e\tA []}).objs.size=↥s+1:=i_ ..;let hIlt:I<↥s:=by let#[_,y,_]:=hI;show aX y
 let hllt:l<↥s:=by let#[_,y,_]:=hl;show aX y
 erw[#[_,hS,1],PySem.F.args_list_init_2 _ _,?_];change hB _ A.in1.in1 (do let old <-Builtin.List.listItems\.r ↥s;Builtin.List.listUpdate (.r ↥s) (λ_=>(tA []));letGo old.toList.reverse;Builtin.List.listExtendWith (.r ↥s) (.r I) .none) _ _ _;show aa ?_;unfold Builtin.List.listItems;show aa\vE hS rfl (aw ?_);change hB _ A.in1.in1 (updateSeq ↥s (λ_=>(tA [])) >>= λ_=>letGo ((tA []):Array gE).toList.reverse >>= λ_=>Builtin.List.listExtendWith (.r ↥s) (.r I) .none) _ _ _;show aa\vK hS rfl ?_;let hS2:=qY (Obj.mapSeq λ_=>((tA []):Array gE)) hS rfl;let oth:∀b o,b≠↥s->(s.heap.push {cls:=.t ↑15,data:=.e\tA []}).get? b*>o->((s.heap.push {cls:=.t ↑15,data:=.e\tA []}).update ↥s\Obj.mapSeq λ_=>((tA []):Array gE)).get? b*>o:=λb o hb q=>(nF>>(aO hb))<*q;let up:∀b o,s.heap.get? b*>o->((s.heap.push {cls:=.t ↑15,data:=.e\tA []}).update ↥s\Obj.mapSeq λ_=>((tA []):Array gE)).get? b*>o:=λb o e=>oth b o (bz\aX e)\bh _ e;show aa\om ?_;show Df (s:={s with heap:=(s.heap.push {cls:=.t ↑15,data:=.e\tA []}).update ↥s\Obj.mapSeq λ_=>((tA []):Array gE)}) (A:=A.in1) hh (hI.at λo e=>up>>e) (by let#[o,e,r]:=hl;erw[o,up>>e,r]) hIl (lU hIlt) (lU hllt) hn .none _ hS2 λs' acc c hm hS' hacc=>?_;rw[Moved.eq_with hm];erw[1,hQ _ _ acc c (λb o n e=>hm.heap b o (λz=>by
  rcases ah.mp z with z|z
  .exact absurd (aX e) (by rw[z];show dW _)
  show n\aN.mp z) (up>>e)) hS' hacc]
end
section
variable {x:kA}{tx:TE}{p1 p2 pos1 pos2:Pos}
def DI(tx:TE):TE:=λZ H Q=>tx Z H λv H1=>∃(a:gL)(xs:-V),v=.r a/\SqL [] H1 a xs/\fP H1 (.a xs.reverse) Q
def rR(w:X.calm=gn)(z:Gl X ↑15)(A:X.mg ↑15 = gf)(B:Gl X ↑51)(C:X.mg ↑51 = gf)(D:PE X x tx)
  (g:hM [.Call (.n ↑51 p2) [x] [] pos2] X.env=[(gB,m3 (.Call (.n ↑51 p2) [x] [] pos2) X.env)]:=by rfl) (j:hM [x] X.env=[(gB,m3 x X.env)]:=by rfl) :
  PE X (.Call (.n ↑15 p1) [.Call (.n ↑51 p2) [x] [] pos2] [] pos1) (DI tx):=by
 lk;intro Q I h;show oh\iW I z A boot_list ?_;show n8 ?_ g rfl;rw[g];show lN ?_;show oh\iW I B C boot_reversed ?_;show n8 ?_ j rfl;rw[j];show lN (thn (D Oo s Z H _ I h) λu s1 E=>?_);let#[v,H1,f,K,L]:=E;let#[a,xs,1,M,q]:=L;cases K;show aw ?_;let#[d,l,pl,N]:=f.list M;let T:=↑l;show call_reversed_list pl.isList ?_;show aw ?_;let O:a<↥s1:=by let#[_,y,_]:=pl.isList;show aX y
 show GZ (s:={s1 with heap:=s1.heap.push\revObj a ((d.toArray.size:Int)-1)}) (items:=d.toArray) (f.ok.hd w) #[_,bX _ rfl,5] (by let#[o,e,r]:=pl.isList;erw[o,bh _ e,r]) (bz O) (by rw[bM];lia) λh' tk acc c kp e' it=>?_;let m:(s1.heap.push\revObj a ((d.toArray.size:Int)-1)).objs.size=↥s1+1:=i_ ..;dsimp only at e' kp;rw[m] at e';let P:∀b o,s1.heap.get? b*>o->h'.get? b*>o:=λb o e=>kp b o (bz\aX e)\bh _ e;let n:↥s1<=↥s1+1:=nX _;change EP X Oo Z Q (.r (s1.heap.push\revObj a ((d.toArray.size:Int)-1)).objs.size) {s1 with heap:=h',toks:=tk};rw[m];let R:=f.hok.fresh n;erw[.r _,upd H1 (↥s1+1)\.a xs.reverse,f.laid (t':=tk) P n #[by rw[jf];show N,acc.toList,c,?_,by rw[e']],1,q.at R];let S:acc.toList=d.reverse:=by
  show nI λi=>?_;by_cases hi:i<↑d
  .let#[v,p]:∃v,acc.toList[i]?*>v:=#[_,ay (by rw[gr,it.1,bM];show hi)];have:=it.2 i v ‹p›;rw[p,nM hi];simpa using this.symm
  rw[nL (by rw[gr,it.1,bM];lia),nL (by rw[jf];lia)]
 rw[S];show DF l
end
def sT:∀{us:-gE}{ns:-Int}{i:Nat},u0 us ns->i<↑us->∃t,us[i]?*>Value.int (ns.getD i 0) t
 |_,_,_,.nil,h=>by simp at h
 |_,_,0,.cons n t _,_=>#[t,1]
 |_,_,i+1,.cons n t r,h=>by
  let#[t',e]:=sT (i:=i) r ‹h›;erw[t',‹e›]
def E7{ns ms:-Int}{i:Nat}(h1:i<↑ns)(h2:i<↑ms):HT.lexLt (ns.drop i) (ms.drop i)=if ns.getD i 0=ms.getD i 0 then HT.lexLt (ns.drop (i+1)) (ms.drop (i+1)) else decide (ns.getD i 0<ms.getD i 0):=by rw[jc h1,jc h2,HT.lexLt_cons];simp[List.getD,h1,h2]
def GY(l b:gL)(us ws:-gE)(ns ms:-Int)(n o:Nat)(p:u0 us ns)(hw:u0 ws ms)(k:Nat) :
  ∀i:Nat,↑us-i=k->i<=↑us->i<=↑ws->Meets (Builtin.«list.__eq__.loop» #[[.r l,.r b,mL i,mL 0],[]])
   (λ_ R s=>s.heap.get? l*>seqObj ↑15 us.toArray n/\s.heap.get? b*>seqObj ↑15 ws.toArray o/\R (.ok\.ret (.x\HT.lexLt (ns.drop i) (ms.drop i))) s):=by
 let E:=↑p;let lw:=↑hw;let stop:∀i:Nat,i<=↑us->i<=↑ws->(↑us<=i\/↑ws<=i)->Meets (Builtin.«list.__eq__.loop» #[[.r l,.r b,mL i,mL 0],[]])
   (λ_ R s=>s.heap.get? l*>seqObj ↑15 us.toArray n/\s.heap.get? b*>seqObj ↑15 ws.toArray o/\R (.ok\.ret (.x\HT.lexLt (ns.drop i) (ms.drop i))) s):=by
  intro i h1 h2 m prog w A R s h;let#[x,g,d,tk,os]:=s;let#[f,j,h]:=h
  wp_walk using fu f,fu j
  let e:HT.lexLt (ns.drop i) (ms.drop i)=decide (↑us<↑ws):=by
   by_cases c:↑us<=i
   .rw[uP ()];by_cases H:↑ws<=i
    .rw[uP (),Om ()];rfl
    rw[jc (),Ol ()];rfl
   have:↑ws<=i:=();rw[uP (as:=ms) (),jc (),Om ()];rfl
  rw[e] at h;rcases m with m|m
  .rw[show us.toArray[((i:Nat):Int).toNat]?=gf by simp;lia]
   wp_walk using fu f,fu j
   change R (.ok\.ret (.x (decide (us.toArray.size<ws.toArray.size)))) _;simpa using h
  by_cases c:↑us<=i
  .rw[show us.toArray[((i:Nat):Int).toNat]?=gf by simp;lia]
   wp_walk using fu f,fu j
   change R (.ok\.ret (.x (decide (us.toArray.size<ws.toArray.size)))) _;simpa using h
  rw[show us.toArray[((i:Nat):Int).toNat]?*>us[i]'() by simp,show ws.toArray[((i:Nat):Int).toNat]?=gf by simp;lia]
  wp_walk using fu f,fu j
  change R (.ok\.ret (.x (decide (us.toArray.size<ws.toArray.size)))) _;simpa using h
 induction k with
 |zero=>
  intro i y h1 h2;show stop i h1 h2\.l ()
 |succ k z=>
  intro i y h1 h2;by_cases c:↑ws<=i
  .exact stop i h1 h2\.o c
  intro prog w A R s h;let#[x,g,d,tk,os]:=s;let#[f,j,h]:=h
  wp_walk using fu f,fu j
  let#[#[q,B],#[r,C],u]:=#[sT (i:=i) p (),sT (i:=i) hw (),(‹B›:us.toArray[((i:Nat):Int).toNat]?*>Value.int (ns.getD i 0) q)]
  let v:ws.toArray[((i:Nat):Int).toNat]?*>Value.int (ms.getD i 0) r:=‹C›
  let D:((i:Int)+1)=((i+1:Nat):Int):=by push_cast;rfl
  rw[E7 () ()] at h;rw[u,v];show aa\A_ ?_;by_cases e:ns.getD i 0=ms.getD i 0
  .rw[Oj e] at h;rw[show (ns.getD i 0==ms.getD i 0)=gn by simpa using e]
   wp_walk
   rw[D];erw[l6 vg _,rJ ME (by
    rw[qW vg _];show z (i+1) () () () prog w A R _ #[f,j,h])]
  rw[Oi e] at h;rw[show (ns.getD i 0==ms.getD i 0)=gB by simpa using e]
  wp_walk using fu f,fu j
  rw[u,v];show aa ?_;show (show hB (i3 prog w) _ (lx .Lt (.i (ns.getD i 0) q)\.i (ms.getD i 0) r) _ _ _ from lt_int ?_)
  wp_walk
  show h
def G8(l b:gL)(us ws:-gE)(ns ms:-Int)(n c:Nat)(i:u0 us ns)(hw:u0 ws ms) :
  Meets (Builtin.«list.__lt__» #[[.r l,.r b],[]])
   (λ_ R s=>s.heap.get? l*>seqObj ↑15 us.toArray n/\s.heap.get? b*>seqObj ↑15 ws.toArray c/\R (.ok\.ret (.x\HT.lexLt ns ms)) s):=by
 intro prog w A R s h;let#[#[j,g,d,tk,os],#[e,f,h],m]:=#[s,h,AutoSeq1.sub_list_list]
 wp_walk using fu e,fu f
 erw[l6 vg _,rJ ME (by
  rw[qW vg _];show GY l b us ws ns ms n c i hw _ 0 rfl (aV _) (aV _) prog w A R _ #[e,f,h])]
section
variable {prog:jl}
def Eo{a b:gL}{us ws:-gE}{ns ms:-Int}{n c:Nat}{C:Bool->hA->Prop}(d:A.units<n7)(h1:s.heap.get? a*>seqObj ↑15 us.toArray n)(h2:s.heap.get? b*>seqObj ↑15 ws.toArray c)(e:u0 us ns)(hw:u0 ws ms)(q:C (HT.lexLt ns ms) s) :
  hB (i3 prog w) A (keyLt' oneType' (.r a)\.r b) C E s:=by
 rw[keyLt'_oneType,oneLt'_eq];simp only[if_true];show aa\wpAny_cRoomFor d ?_;show aa\wpAny_callSpecialIfBound?_slot #[_,h1,1] My ?_;show vn My #[_,h1,1] PySem.F.entry_list_lt (PySem.F.args_list_lt_2 _ _) (G8 a b us ws ns ms n c e hw) #[h1,h2,?_];show jm q
end
def Lsts(K:Frag)(H:Hp)(ys:-V)(ks:List\-Int):Prop:=Paired (λy k=>∃b,y=V.ref b/\H b*>.a\k.map V.int) ys ks
section
def zg(K:Frag):-V->Hp->VK->Prop:=λxs H Q=>∃(a:gL)(ys:-V)(ks:List\-Int),xs=[.r a]/\SqL K H a ys/\Lsts K H ys ks/\↑ys<5000/\
 ∀p (ix:-Nat),H p=gf->ix.Perm (List.range ↑ys)->(ix.map λi=>ks.getD i []).Pairwise (λa b=>HT.lexLt b a=gB)->Q (.r p)\upd H p (.a (ix.map λi=>ys.getD i .non))
def rN(hr:X.A.units+2<n7):de X (.b ↑29) (zg []):=by
 lk;intro xs us Q I r h;let#[a,ys,ks,1,m,w,hz,q]:=h;let#[u,1,M]:=Vals.one r;cases M;let#[c,B,p,_]:=I.list m;let hl:=↑B;let at_:∀(ks:List\-Int)(ys:-V)(c:-gE),Lsts [] H ys ks->Vals ys c->Paired (λv k=>∃b us n,v=Value.ref b/\u0 us k/\s.heap.get? b*>seqObj ↑15 us.toArray n) c ks:=by
  intro ks;induction ks with
  |nil=>intro ys c a b;cases a;cases b;show .nil
  |cons k ks N=>
   intro ys c a b;cases a with
   |cons O tt=>
    let#[R,S,m]:=O;subst S;cases b with
    |cons r U=>
     cases r;let#[z,us,n,Y,p6]:=I.hok>>m;show .c #[R,us,n,1,jo Y,p6]\N _ _ tt U
 let P:=at_ ks ys c w B;let D:∀{b:gL}{us:-gE}{n:Nat}{k:-Int},u0 us k->s.heap.get? b*>seqObj ↑15 us.toArray n->rkV s.heap (Value.ref b)=k:=λ{b us n k} f d=>by
  change (match s.heap.get? b with|some o=>_|none=>_)=_;rw[d];show tJ f
 let hk:∀i,i<↑c->rkV s.heap (c.getD i Value.none)=ks.getD i []:=λi hi=>by
  let#[k,K,b,us,n,e2,f,d]:=Paired.getE (i:=i) (x:=c[i]) P (by simp[hi]);rw[show c.getD i Value.none=c[i] by simp[List.getD,hi],e2,D f d,List.getD,K];rfl
 show vY (κ:=oneType') (rk:=rkV s.heap) p.isList (by rw[dX];lia) (λh' old h2 Q q=>?_) (λh' old h2 x hx y w C q=>?_) λout p1 p2=>?_
 .refine kas_kind (T:=.t ↑15) h2 (λv hv=>?_) ⋯ ⋯ q;let#[i,hi]:=dD.mp hv;let#[k,K,b,us,n,1,f,d]:=Paired.getE P hi;intro A Q E s' k' q';have:=k'>>old>>d;show wpAny_typeOf #[_,this,1] q'
 .let#[#[i,hi],#[j,hj],#[k1,_,b1,u1,n1,1,f,g],#[k2,_,b2,u2,n2,1,d,l]]:=#[dD.mp hx,dD.mp w,Paired.getE P hi,Paired.getE P hj];rw[D f g,D d l] at q;show Eo (by change X.A.units+1+1<_;lia) (old>>g) (old>>l) f d q
 let#[#[ix,g,l,x3],#[e,he],L]:=#[uo B hk p1 p2,sortedAll_at s.heap c out.toArray,(nX _:↥s<=↥s+1)];erw[.r (↥s+1),upd H (↥s+1)\.a (ix.map λi=>ys.getD i .non),I.laid (t':=s.toks) (λb o e=>sortedAll_old e) L #[by rw[av,g.length_eq,iz,dX];lia,out,e,x3,by rw[he]],1,q _ ix (I.hok.fresh L) g l]
end
section
def KB(K:Frag):-V->Hp->VK->Prop:=λxs H Q=>∃(a:gL)(ns:-Int),xs=[.r a]/\SqL K H a (ns.map V.int)/\Q (.i ns.sum) H
def Bv(c:X.calm=gn):de X (.b "sum") (KB []):=by lk;intro xs us Q I r h;let#[a,ns,1,d,q]:=h;let#[u,1,f]:=Vals.one r;cases f;let#[g,i,p,m]:=I.list d;let hi:=jo i;let#[xs,b]:=hi.allInts.items;show sum_intListG (I.ok.hd c) (l:=a) (xs:=xs) (by rw[<-b];show p.isList) λh' tk t' kp=>?_;erw[.i _,H,I.kept (t':=tk) kp,#[t',1],?_];let e:=nums_intItems (xs:=xs);rw[<-b] at e;let j:=hi.numsOf;rw[preSum_eq,gW ∅];rw[<-e];change Q (.i (numsOf g).sum) H;rw[j];show q
end
end L2
namespace K51
open PySem L2
structure bW(mg:Str->Option gE):Prop where
 len:mg "len" = gf
 int:mg "int" = gf
 str:mg "str" = gf
 isi:mg "isinstance" = gf
 range:mg ↑89 = gf
 list:mg ↑15 = gf
 tuple:mg ↑23 = gf
 bool:mg "bool" = gf
 all:mg "all" = gf
 ve:mg "ValueError" = gf
 rev:mg ↑51 = gf
 enum:mg ↑31 = gf
def yH{α:Type}(l:List α)(a b:Nat):lI l (gm (a:Int)) (gm (b:Int))=(l.drop a).take (b-a):=by
 unfold lI;rw[HT.sIx_nat,HT.sIx_nat];by_cases h:a<=↑l
 .rw[u6 h];by_cases c:b<=↑l
  .rw[u6 c]
  rw[Nat.min_eq_right (),gW (by rw[cQ];lia),gW (by rw[cQ];lia)]
 rw[LB (show ↑l<=a by lia),LB (show ↑l<=min a ↑l by lia)];simp
def zF{α:Type}(l:List α)(b:Nat):lI l gf (gm (b:Int))=l.take b:=by let h:=yH l 0 b;unfold lI at h |-;rw[HT.sIx_none];simpa [HT.sIx] using h
def pf{α:Type}(l:List α)(a:Nat):lI l (gm (a:Int)) gf=l.drop a:=by let h:=yH l a ↑l;rw[gW (by rw[cQ];lia)] at h;rw[<-h];unfold lI;rw[HT.sIx_none,HT.sIx_nat,HT.sIx_nat,Nat.min_self]
def line5000:5010<=sizeLine:=by rw[dX];decide
def bT{t:gL}{o:HO}(h:H t=gf):Same H (upd H t o):=λb u e=>by rw[aS\ao e h];show e
def kB{N:-Str}(nd:N.Nodup)(kind:scope.kind=.function)(c:scope.names.all (λy=>y.2 != .cell&&y.2 != .free)=gn)
  (nm:scope.names.all (λy=>y.2 != .local||scope.names.lookup y.1==gm .local)=gn):fe X N (N.map λ_=>gf) scope:=by
 let h1:∀y∈scope.names,y.2≠.cell/\y.2≠.free:=λy b=>by
  have:=iw.mp c y b;simpa using this
 erw[nd,∅,kind,λy b=>(h1 y b).1,λy b e=>?_,λy b e=>absurd e (h1 y b).2,λj i x e _=>?_]
 .have:=iw.mp nm y b;rw[e] at this;simpa using this
 rw[aU] at e;cases q:N[j]? with
 |none=>rw[q] at e;cases e
 |some z=>rw[q] at e;cases e
def jY(a b:Int):decide (V.int a=V.int b)=decide (a=b):=by rw[lK];simp
end K51
namespace K31
open K51
abbrev Side:=Nat×Nat
abbrev Lps:=List\-Nat
end K31
namespace K15
abbrev Tri:=Nat×Nat×Nat
abbrev Ent:=(Nat×Nat)×Nat
def ents(ts:-Tri):-Ent:=ts.flatMap λt=>[((t.1,t.2.1),t.2.2),((t.2.1,t.2.2),t.1),((t.2.2,t.1),t.2.1)]
def dz{ts:-Tri}{a b c:Nat}:((a,b),c)∈ents ts↔(a,b,c)∈ts\/(c,a,b)∈ts\/(b,c,a)∈ts:=by
 unfold ents;rw[iA];constructor
 .rintro⟨⟨x,y,z⟩,d,h⟩;simp only[ah,cK,or_false,jk] at h;rcases h with ⟨⟨rfl,rfl⟩,rfl⟩|⟨⟨rfl,rfl⟩,rfl⟩|⟨⟨rfl,rfl⟩,rfl⟩
  .exact .l d
  .exact .o\.l d
  show .o\.o d
 rintro (h|h|h)
 .exact#[_,h,∅]
 .exact#[_,h,∅]
 erw[_,h,∅]
structure Sk(E:Nat->Nat->Nat->Prop):Prop where
 rot:∀{a b c},E a b c->E b c a
 one:∀{a b c d},E a b c->E a b d->c=d
 ne:∀{a b c},E a b c->a≠b
def En(ts:-Tri)(a b c:Nat):Prop:=((a,b),c)∈ents ts
structure Good(ts:-Tri):Prop where
 ne:∀t∈ts,t.1≠t.2.1/\t.2.1≠t.2.2/\t.2.2≠t.1
 nd:((ents ts).map (·.1)).Nodup
def wA{α β:Type}{l:-(α×β)}(h:(l.map (·.1)).Nodup){a:α}{b c:β}(f:(a,b)∈l)(g:(a,c)∈l):b=c:=by
 induction l with
 |nil=>cases f
 |cons x l j=>
  rw[bj,bF] at h;rcases ah.mp f with e|i
  .rcases ah.mp g with e' | d
   .rw[<-e] at e';show (gY e').2.symm
   show (h.1\ai.mpr #[_,d,by rw[<-e]]).elim
  rcases ah.mp g with e' | d
  .exact (h.1\ai.mpr #[_,i,by rw[<-e']]).elim
  show j h.2 i d
def eQ{l:-Nat}(h:l.Nodup):∀{i j x:Nat},l[i]?*>x->l[j]?*>x->i=j:=by
 induction l with
 |nil=>intro i j x h1;simp at h1
 |cons a l b=>
  intro i j x h1 h2;rw[bF] at h;cases i with
  |zero=>
   cases j with
   |zero=>rfl
   |succ j=>
    simp at h1 h2;subst h1;show (h.1\aJ h2).elim
  |succ i=>
   cases j with
   |zero=>
    simp at h1 h2;subst h2;show (h.1\aJ h1).elim
   |succ j=>
    simp at h1 h2;rw[b h.2 h1 h2]
def Good.sk{ts:-Tri}(g:Good ts):Sk (En ts):=by
 erw[λ{a b c} h=>?_,λ{a b c d} h1 h2=>wA g.nd h1 h2,λ{a b c} h=>?_]
 .unfold En at *;rw[dz] at *;rcases h with h|h|h
  .exact .o\.l h
  .exact .o\.o h
  show .l h
 unfold En at h;rw[dz] at h;rcases h with h|h|h
 .exact (g.ne _ h).1
 .exact (g.ne _ h).2.1
 show (g.ne _ h).2.2
section
variable {E:Nat->Nat->Nat->Prop}
def Sk.inj(k:Sk E){v p p' q:Nat}(h:E v p q)(h':E v p' q):p=p':=k.one (k.rot\k.rot h)\k.rot (k.rot h')
structure Fan(E:Nat->Nat->Nat->Prop)(v:Nat)(F:-Nat):Prop where
 ne:F≠[]
 nd:F.Nodup
 ch:∀i p q,F[i]?*>p->F[i+1]?*>q->E v p q
 key:∀p∈F,∃q,E v p q
 clF:∀p∈F,∀q,E v p q->(∃r,E v q r)->q∈F
 clB:∀p∈F,∀o,E v o p->o∈F
def One(E:Nat->Nat->Nat->Prop)(v:Nat):Prop:=∃F,Fan E v F/\∀p,(∃q,E v p q)->p∈F
def sU(k:Sk E){v:Nat}{L:-Nat}{at_:Nat}(C:L≠[])(nd:L.Nodup)(u:∀p∈L,∃q,E v p q)(ch:∀i p q,L[i]?*>p->L[i+1]?*>q->E v p q)
  (D:∀p,L.getLast?*>p->E v p at_) (H:(∃q,E v at_ q)->at_∈L) {s:Nat} (w:L.head?*>s) (I:(∀o,¬E v o s)\/∀p,(∃q,E v p q)->∃o,E v o p) :
  (∀p,(∃q,E v p q)->p∈L)↔One E v:=by
 constructor
 .intro c;erw[L,#[C,nd,ch,u,λp _ q _ K=>c q K,λp _ o f=>c o #[p,f]],c]
 rintro⟨F,hF,c⟩;let n:s∈L:=by cases L with|nil=>cases w|cons a l=>cases w;simp
 let z:∀x∈L,∀y,E v x y->(∃r,E v y r)->y∈L:=by
  intro x M y b A;let#[i,hi]:=cJ M;let N:=(aq.mp hi).1;by_cases h:i+1<↑L
  .let h1:L[i+1]?*>L[i+1]:=ay h;have:=k.one b\ch i _ _ hi h1;rw[this];show aJ h1
  let e:L.getLast?*>x:=by rw[eC,show ↑L-1=i by lia];show hi
  have:=k.one b\D x e;rw[this] at A |-;show H A
 let O:s∈F:=c s\u s n;let#[j,g]:=cJ O;let B:∀d:Nat,(∀y,F[d]?*>y->y∈L)->∀(m:Nat)(y:Nat),F[d+m]?*>y->y∈L:=by
  intro d P m;induction m with
  |zero=>intro y b;show P y b
  |succ m Q=>
   intro y b;let R:d+m<↑F:=by have:=(aq.mp b).1;lia
   let h1:F[d+m]?*>F[d+m]:=ay R;show z _ (Q _ h1) y (hF.ch _ _ _ h1 b)\hF.key y (aJ b)
 let S:=B j (λy b=>by rw[g] at b;cases b;show n);let zero:∀y,F[0]?*>y->y∈L:=by
  intro y b;by_cases T:j=0
  .subst T;rw[g] at b;cases b;show n
  let#[ab,h1,U]:=#[(aq.mp g).1,(ay ():F[j-1]?*>F[j-1]),hF.ch (j-1) _ _ h1 (by rw[show j-1+1=j by lia];show g)];rcases I with h|h
  .exact (h _ U).elim
  let#[#[o,f],X,#[i,hi],N]:=#[h y\hF.key y (aJ b),hF.clB y (aJ b) o f,cJ X,(aq.mp hi).1];by_cases Y:i+1<↑F
  .let h2:F[i+1]?*>F[i+1]:=ay Y;let e:=k.one (hF.ch i _ _ hi h2) f;rw[e] at h2;have:=eQ hF.nd h2 b;lia
  have:o∈L:=S (i-j) o (by rw[show j+(i-j)=i by lia];show hi);show z o this y f\hF.key y (aJ b)
 intro p Z;let#[i,hi]:=cJ\c p Z;show B 0 zero i p (by rw[lV];show hi)
def Fi{v:Nat}{F G:-Nat}(ch:∀i p q,F[i]?*>p->F[i+1]?*>q->E v p q)(key:∀p∈F,∃q,E v p q)(g:Fan E v G){x:Nat}(n:x∈F)(l:x∈G):∀y∈F,y∈G:=by
 let#[j,c]:=cJ n;let o:∀(m:Nat)(y:Nat),F[j+m]?*>y->y∈G:=by
  intro m;induction m with
  |zero=>intro y b;rw[L4,c] at b;cases b;show l
  |succ m d=>
   intro y b;let f:j+m<↑F:=by have:=(aq.mp b).1;lia
   let h1:F[j+m]?*>F[j+m]:=ay f;show g.clF _ (d _ h1) y (ch (j+m) _ _ h1 b)\key y (aJ b)
 let r:∀m:Nat,m<=j->∀y:Nat,F[j-m]?*>y->y∈G:=by
  intro m;induction m with
  |zero=>intro _ y b;rw[Mg,c] at b;cases b;show l
  |succ m d=>
   intro hm y b;let f:j-m<↑F:=by have:=(aq.mp c).1;lia
   let h1:F[j-m]?*>F[j-m]:=ay f;let e:j-(m+1)+1=j-m:=();show g.clB _ (d () _ h1) y\ch (j-(m+1)) _ _ b (by rw[e];show h1)
 intro y b;let#[i,hi]:=cJ b;by_cases h:j<=i
 .exact o (i-j) y (by rw[show j+(i-j)=i by lia];show hi)
 show r (j-i) () y (by rw[show j-(j-i)=i by lia];show hi)
def EZ(k:Sk E){v:Nat}{fs:List\-Nat}{left F:-Nat}{x0:Nat}(g:∀G∈fs,Fan E v G)(l:∀p,(∃q,E v p q)->p∈left\/∃G∈fs,p∈G)(m:∀p∈left,∀G∈fs,p∉G)
  (nd:F.Nodup) (key:∀p∈F,∃q,E v p q) (ch:∀i p q,F[i]?*>p->F[i+1]?*>q->E v p q) (d:x0∈F) (n:x0∈left)
  (r:∀p,F.getLast?*>p->∀q,E v p q->q∈left->q∈F) (s:∀p,F.head?*>p->∀o,E v o p->o∈F):Fan E v F/\∀p∈F,∀G∈fs,p∉G:=by
 let dis:∀p∈F,∀G∈fs,p∉G:=λp b G c u=>m x0 n G c\Fi ch key (g G c) b u x0 d;erw[#[λz=>(by rw[z] at d;cases d),nd,ch,key,λp b q f w=>?_,λp b o j=>?_],dis]
 .let#[i,hi]:=cJ b;let x:=(aq.mp hi).1;by_cases h:i+1<↑F
  .let h1:F[i+1]?*>F[i+1]:=ay h;rw[k.one f\ch i _ _ hi h1];show aJ h1
  let e:F.getLast?*>p:=by rw[eC,show ↑F-1=i by lia];show hi
  rcases l q w with z|⟨G,c,y⟩
  .exact r p e q f z
  show (dis p b G c\(g G c).clB q y p f).elim
 let#[i,hi]:=cJ b;cases i with
 |zero=>show s p (by rw[uS];show hi) o j
 |succ i=>
  let x:=(aq.mp hi).1;let h1:F[i]?*>F[i]:=ay ();rw[k.inj j\ch i _ _ h1 hi];show aJ h1
structure Fans(E:Nat->Nat->Nat->Prop)(v:Nat)(fs:List\-Nat):Prop where
 fan:∀F∈fs,Fan E v F
 all:∀p,(∃q,E v p q)->∃F∈fs,p∈F
 dis:fs.Pairwise λF G=>∀p∈F,p∉G
def rn(v n:Nat)(F:-Nat)(a b:Nat):Nat:=if a=v/\b∈F then n else a
def ren(v n:Nat)(F:-Nat)(t:Tri):Tri:=(rn v n F t.1 t.2.1,rn v n F t.2.1 t.2.2,rn v n F t.2.2 t.1)
def Rn(E:Nat->Nat->Nat->Prop)(v n:Nat)(F:-Nat)(x y z:Nat):Prop:=∃a b c,E a b c/\x=rn v n F a b/\y=rn v n F b c/\z=rn v n F c a
def JN{ts:-Tri}{v n:Nat}{F:-Nat}{x y z:Nat}:En (ts.map\ren v n F) x y z↔Rn (En ts) v n F x y z:=by
 unfold En Rn;rw[dz];constructor
 .intro h;let key:∀p q r,(p,q,r)∈ts.map (ren v n F)->∃a b c,(a,b,c)∈ts/\p=rn v n F a b/\q=rn v n F b c/\r=rn v n F c a:=by
   intro p q r j;let#[#[a,b,c],d,e]:=ai.mp j;unfold ren at e;simp only[jk] at e;erw[a,b,c,d,e.1.symm,e.2.1.symm,e.2.2.symm]
  rcases h with h|h|h
  .let#[a,b,c,d,f,g,i]:=key _ _ _ h;erw[a,b,c,dz.mpr\.l d,f,g,i]
  .let#[a,b,c,d,f,g,i]:=key _ _ _ h;erw[b,c,a,dz.mpr\.o (.l d),g,i,f]
  let#[a,b,c,d,f,g,i]:=key _ _ _ h;erw[c,a,b,dz.mpr\.o (.o d),i,f,g]
 rintro⟨a,b,c,h,rfl,rfl,rfl⟩;rcases dz.mp h with h|h|h
 .exact .l\ai.mpr #[_,h,1]
 .exact .o\.l (ai.mpr #[_,h,1])
 show .o\.o (ai.mpr #[_,h,1])
def fV{v n:Nat}{F:-Nat}{a b:Nat}(h:a≠v):rn v n F a b=a:=by unfold rn;rw[Oi λz=>h z.1]
def qJ{v n:Nat}{F:-Nat}{b:Nat}(h:b∈F):rn v n F v b=n:=by unfold rn;rw[Oj #[1,h]]
def ug{v n:Nat}{F:-Nat}{b:Nat}(h:b∉F):rn v n F v b=v:=by unfold rn;rw[Oi λz=>h z.2]
section
variable {v n:Nat}{F:-Nat}
def ig{a b:Nat}(ha:a≠n)(h:rn v n F a b=n):a=v/\b∈F:=by
 unfold rn at h
 split at h
 .assumption
 show (ha h).elim
def fY{a b:Nat}(h:rn v n F a b≠n):rn v n F a b=a:=by
 unfold rn at h |-
 split
 .rename_i z;rw[Oj z] at h;show (h rfl).elim
 rfl
variable (k:Sk E)(fr:∀a b c,E a b c->a≠n)(hF:Fan E v F)
include k fr
theorem mI{p q:Nat}:Rn E v n F n p q↔E v p q/\p∈F:=by
 constructor
 .rintro⟨a,b,c,h,d,rfl,rfl⟩;let#[1,e]:=ig (fr _ _ _ h) d.symm;rw[fV\aO (k.ne h),fV\k.ne (k.rot\k.rot h)];erw[h,e]
 rintro⟨h,f⟩;erw[v,p,q,h,(qJ f).symm,(fV\aO (k.ne h)).symm,(fV\k.ne (k.rot\k.rot h)).symm]
theorem kO(e:v≠n){p q:Nat}:Rn E v n F v p q↔E v p q/\p∉F:=by
 constructor
 .rintro⟨a,b,c,h,d,rfl,rfl⟩;have:a=v:=by
   let f:=fY (v:=v) (n:=n) (F:=F) (a:=a) (b:=b) (by rw[<-d];show e);rw[d,f]
  subst this;let g:b∉F:=λz=>by rw[qJ z] at d;show e d
  rw[fV\aO (k.ne h),fV\k.ne (k.rot\k.rot h)];erw[h,g]
 rintro⟨h,i⟩;erw[v,p,q,h,(ug i).symm,(fV\aO (k.ne h)).symm,(fV\k.ne (k.rot\k.rot h)).symm]
theorem Kz:Sk (Rn E v n F):=by
 erw[?_,?_,?_]
 .rintro x y z ⟨a,b,c,h,f,g,l⟩;erw[b,c,a,k.rot h,g,l,f]
 .rintro x y z D ⟨a,b,c,h,f,g,l⟩ ⟨m,i,s,h',o,p,u⟩;let#[fa,w,q,A]:=#[(fr _ _ _ h:a≠n),(fr _ _ _ h':m≠n),(fr _ _ _\k.rot h:b≠n),(fr _ _ _\k.rot h':i≠n)];let B:a=m:=by
   by_cases d:x=n
   .rw[(ig fa\f.symm.trans d).1,(ig w\o.symm.trans d).1]
   rw[<-fY (v:=v) (n:=n) (F:=F) (a:=a) (b:=b) (by rw[<-f];show d),<-fY (v:=v) (n:=n) (F:=F) (a:=m) (b:=i) (by rw[<-o];show d),<-f,<-o]
  let C:b=i:=by
   by_cases j:y=n
   .rw[(ig q\g.symm.trans j).1,(ig A\p.symm.trans j).1]
   rw[<-fY (v:=v) (n:=n) (F:=F) (a:=b) (b:=c) (by rw[<-g];show j),<-fY (v:=v) (n:=n) (F:=F) (a:=i) (b:=s) (by rw[<-p];show j),<-g,<-p]
  subst B C;rw[l,u,k.one h h']
 rintro x y z ⟨a,b,c,h,rfl,rfl,_⟩;let#[fa,q,r]:=#[(fr _ _ _ h:a≠n),(fr _ _ _\k.rot h:b≠n),k.ne h];intro e;by_cases d:rn v n F a b=n
 .let h1:=(ig fa d).1;let h2:=(ig q\e.symm.trans d).1;show r\h1.trans h2.symm
 let h1:=fY d;let h2:=fY (v:=v) (n:=n) (F:=F) (a:=b) (b:=c) (by rw[<-e];show d);show r (by rw[<-h1,e,h2])
include hF
theorem Er:One (Rn E v n F) n:=by
 erw[F,#[hF.ne,hF.nd,λi p q b c=>(mI k fr).mpr #[hF.ch i p q b c,aJ b],λp b=>?_,λp b q c d=>?_,λp b o e=>((mI k fr).mp e).2],λp ⟨q,c⟩=>((mI k fr).mp c).2]
 .let#[q,c]:=hF.key p b;erw[q,(mI k fr).mpr #[c,b]]
 let#[r,d]:=d;show ((mI k fr).mp d).2
omit hF in
theorem EY(d:v≠n){G:-Nat}(c:Fan E v G)(hd:∀p∈F,p∉G):Fan (Rn E v n F) v G:=by
 let out:∀p∈G,p∉F:=λp b z=>hd p z b;erw[c.ne,c.nd,λi p q b e=>(kO k fr d).mpr #[c.ch i p q b e,out p\aJ b],λp b=>?_,λp b q e f=>?_,λp b o g=>c.clB p b o ((kO k fr d).mp g).1]
 .let#[q,e]:=c.key p b;erw[q,(kO k fr d).mpr #[e,out p b]]
 let#[r,f]:=f;show c.clF p b q ((kO k fr d).mp e).1 #[r,((kO k fr d).mp f).1]
theorem CY(U:v≠n){u:Nat}(O:u≠v)(P:u≠n)(h:One E u):One (Rn E v n F) u:=by
 let#[G,m,Q]:=h
 refine_lift let cond:Prop:=(∃q∈F,E u v q)\/((∃p,E u p v)/\u∈F);?_
 let dec:=Classical.propDecidable cond
 refine_lift let ρ:Nat->Nat:=λx=>if x=v then (if cond then n else v) else x;?_
 let ρo:∀x,x≠v->ρ x=x:=λx d=>Oi d;let ρv:ρ v=if cond then n else v:=Oj rfl
 let L:∀p q,E u p q->rn v n F p q=ρ p:=by
  intro p q h;by_cases s:p=v
  .subst s;by_cases f:q∈F
   .rw[qJ f,ρv,Oj\.l #[q,f,h]]
   rw[ug f,ρv,Oi];rintro (⟨A,B,h'⟩|⟨⟨p',j⟩,H⟩)
   .exact f (by rw[k.one h h'];show B)
   show f\hF.clB u H q (k.rot h)
  rw[fV s,ρo p s]
 let M:∀p q,E u p q->rn v n F q u=ρ q:=by
  intro p q h;by_cases f:q=v
  .subst f;by_cases C:u∈F
   .rw[qJ C,ρv,Oj\.o #[#[p,h],C]]
   rw[ug C,ρv,Oi];rintro (⟨A,B,h'⟩|⟨_,H⟩)
   .exact C\hF.clF A B u (k.rot h') #[p,k.rot\k.rot h]
   show C H
  rw[fV f,ρo q f]
 let R:∀b,rn v n F u b=u:=λb=>fV O;let to:∀p q,E u p q->Rn E v n F u (ρ p) (ρ q):=λp q h=>#[u,p,q,h,(R p).symm,(L p q h).symm,(M p q h).symm];let back:∀x y,Rn E v n F u x y->∃p q,E u p q/\x=ρ p/\y=ρ q:=by
  rintro x y ⟨a,b,c,h,w,I,S⟩;let ha:a=u:=by
   by_cases d:rn v n F a b=n
   .exact (P\w.trans d).elim
   rw[w,fY d]
  subst ha;erw[b,c,h,I.trans\L b c h,S.trans\M b c h]
 let fresh:∀p q,E u p q->p≠n/\q≠n:=λp q h=>#[fr _ _ _\k.rot h,fr _ _ _\k.rot (k.rot h)];let inj:∀x y,x≠n->y≠n->ρ x=ρ y->x=y:=by
  intro x y d g e;by_cases h1:x=v
  .by_cases h2:y=v
   .rw[h1,h2]
   rw[h1,ρo y h2,ρv] at e
   split at e
   .exact (g e.symm).elim
   show (h2 e.symm).elim
  by_cases h2:y=v
  .rw[h2,ρo x h1,ρv] at e
   split at e
   .exact (d e).elim
   show (h1 e).elim
  rw[ρo x h1,ρo y h2] at e;show e
 let D:∀x∈G,x≠n:=λx d=>by
  let#[q,f]:=m.key x d;show (fresh x q f).1
 let X:∀x,x≠n->ρ x∈G.map ρ->x∈G:=λx d h=>by
  let#[y,g,e]:=ai.mp h;rw[<-inj y x (D y g) d e];show g
 let get:∀(i:Nat)(x:Nat),(G.map ρ)[i]?*>x->∃p,G[i]?*>p/\x=ρ p:=λi x h=>by
  rw[aU] at h;cases e:G[i]? with
  |none=>rw[e] at h;cases h
  |some p=>rw[e] at h;cases h;erw[p,5]
 erw[G.map ρ,#[‹m.ne›,?_,λi p q s f=>?_,λp s=>?_,λx d y g K=>?_,λx d y g=>?_],?_]
 .have:∀l:-Nat,(∀x∈l,x≠n)->l.Nodup->(l.map ρ).Nodup:=by
   intro l;induction l with
   |nil=>intro _ _;show jh
   |cons a l T=>
    intro h1 h2;rw[bF] at h2;rw[bj,bF];erw[λz=>?_,T (λx d=>h1 x\aC _ d) h2.2];let#[y,g,e]:=ai.mp z;have:=inj y a (h1 y\aC _ g) (h1 a ∅) e;show h2.1 (this ▸ g)
  show this G D m.nd
 .let#[p',j,1]:=get i p s;let#[A,B,1]:=get (i+1) q f;show to p' A\m.ch i p' A j B
 .let#[p',j,1]:=ai.mp s;let#[q,f]:=m.key p' j;erw[_,to p' q f]
 .let#[#[p',j,1],#[p,q,h1,w,1],ep]:=#[ai.mp d,back>>g,inj p' p (D p' j) (fresh p q h1).1 w];subst ep;let#[#[r,K],#[p2,N,h2,I,_],eq]:=#[K,back>>K,inj q p2 (fresh p' q h1).2 (fresh p2 N h2).1 I];subst eq;show ai.mpr #[q,m.clF p' j q h1 #[N,h2],1]
 .let#[#[p',j,1],#[p,q,h1,1,w],eq]:=#[ai.mp d,back>>g,inj p' q (D p' j) (fresh p q h1).2 w];subst eq;show ai.mpr #[p,m.clB p' j p h1,1]
 rintro x ⟨y,g⟩;let#[p,q,h1,1,_]:=back>>g;show ai.mpr #[p,Q p #[q,h1],1]
end
end
end K15
namespace K31
open PySem L2 K51
def same_of{H H1:Hp}{p:gL}{o:HO}(g:H p=gf)(e:upd H p o=H1):Same H H1:=by rw[<-e];show bT g
def at_of{H H1:Hp}{p:gL}{o:HO}(e:upd H p o=H1):H1 p*>o:=by rw[<-e];show aW
def nV(l:-Nat):-V:=l.map λn:Nat=>V.int (n:Int)
def nC(H:Hp)(v:V)(l:-Nat):Prop:=∃a,v=.r a/\H a*>.a\nV l
abbrev dA(H:Hp):-V->Lps->Prop:=Paired\nC H
def qT(H:Hp)(v:V)(t:Nat×Nat×Nat):Prop:=∃a,v=.r a/\H a*>.u [.i (t.1:Int),.i (t.2.1:Int),.i (t.2.2:Int)]
abbrev ax(H:Hp):-V->-(Nat×Nat×Nat)->Prop:=Paired\qT H
def nC.same{v:V}{l:-Nat}(s:Same H H')(h:nC H v l):nC H' v l:=by let#[a,e,h]:=h;erw[a,e,s a _ h]
def dA.same{ls:Lps}(s:Same H H')(h:dA H vs ls):dA H' vs ls:=Paired.imp' (λ_ _ q=>q.same s) h
def qT.same{v:V}{t:Nat×Nat×Nat}(s:Same H H')(h:qT H v t):qT H' v t:=by let#[a,e,h]:=h;erw[a,e,s a _ h]
def ax.same{ls:-(Nat×Nat×Nat)}(s:Same H H')(h:ax H vs ls):ax H' vs ls:=Paired.imp' (λ_ _ q=>q.same s) h
section
variable {α β:Type}{F:α->β->Prop}
def aD:∀{xs:List α}{ys:List β},Paired F xs ys->↑xs=↑ys
 |_,_,.nil=>rfl
 |_,_,.cons _ t=>by rw[br,br,aD t]
def cW:∀{xs:List α}{ys:List β}{b:List α}{c:List β},Paired F xs ys->Paired F b c->Paired F (xs++b) (ys++c)
 |_,_,_,_,.nil,h=>h
 |_,_,_,_,.cons a t,h=>.c a\cW t h
def pr_take:∀{xs:List α}{ys:List β}(k:Nat),Paired F xs ys->Paired F (xs.take k) (ys.take k)
 |_,_,0,_=>by simp only[AG];show .nil
 |_,_,_+1,.nil=>by simp only[List.take_nil];show .nil
 |_,_,k+1,.cons a t=>.c a\pr_take k t
def iT:∀{xs:List α}{ys:List β}{i:Nat}{y:β},Paired F xs ys->ys[i]?*>y->∃x,xs[i]?*>x/\F x y
 |_,_,_,_,.nil,h=>by simp at h
 |_,_,0,_,.cons a t,h=>by
  simp at h;subst h;erw[2,a]
 |_,_,i+1,_,.cons a t,h=>‹iT (i:=i) t ‹h››
def cD:∀{xs:List α}{ys:List β}{i:Nat}{x:α},Paired F xs ys->xs[i]?*>x->∃y,ys[i]?*>y/\F x y
 |_,_,_,_,.nil,h=>by simp at h
 |_,_,0,_,.cons a t,h=>by
  simp at h;subst h;erw[2,a]
 |_,_,i+1,_,.cons a t,h=>‹cD (i:=i) t ‹h››
end
def a_(l:-Nat):↑(nV l)=↑l:=av ..
def eJ(l r:-Nat):nV l++nV r=nV (l++r):=(bc ..).symm
def mZ(n:Nat):[V.int (n:Int)]=nV [n]:=rfl
def fM{l:-Nat}{i n:Nat}(h:l[i]?*>n):(nV l)[i]?*>.i (n:Int):=by unfold nV;rw[aU,h];rfl
def wr_of{H H1:Hp}{p:gL}{o:HO}(e:upd H p o=H1):∀b,b≠p->H1 b=H b:=λb c=>by rw[<-e,aS c]
def ky(p q:Nat):-Key:=[Sum.inl (p:Int),Sum.inl (q:Int)]
def qv{p q p' b:Nat}:ky p q=ky p' b↔(p,q)=(p',b):=by
 unfold ky;constructor
 .intro h;injection h with h1 h2;injection h2 with h2 _;injection h1 with h1;injection h2 with h2;have:p=p':=();have:q=b:=();simp[*]
 intro h;injection h with h1 h2;rw[h1,h2]
def SdAt(H:Hp)(v:V)(s:Side):Prop:=∃a,v=.r a/\H a*>.u\(ky s.1 s.2).map kV
abbrev SdsAt(H:Hp):-V->-Side->Prop:=Paired\SdAt H
def lit1:1<=sizeLine:=by change 1<=hH;decide
def lit2:2<=sizeLine:=by change 2<=hH;decide
def lit3:3<=sizeLine:=by change 3<=hH;decide
def dg{N:-Str}{fr:List\Option Nat}(nd:N.Nodup)(len:↑fr=↑N)(kind:scope.kind=.function)(c:scope.names.all (λy=>y.2 != .cell)=gn)
  (nm:scope.names.all (λy=>y.2 != .local||scope.names.lookup y.1==gm .local)=gn)
  (d:∀y∈scope.names,y.2=.free->X.env.kindOf y.1*>.cell\/X.env.kindOf y.1*>.free)
  (f:∀(j i:Nat)(x:Str),fr[j]?*>gm i->N[j]?*>x->X.N[i]?*>x/\scope.names.lookup x*>.free):fe X N fr scope:=by
 erw[nd,len,kind,λy b=>?_,λy b e=>?_,d,f]
 .have:=iw.mp c y b;simpa using this
 have:=iw.mp nm y b;rw[e] at this;simpa using this
def cpK{N:-Str}{fr:List\Option Nat}(nd:N.Nodup:=by decide +kernel)(len:↑fr=↑N:=by rfl)(kind:scope.kind=.function:=by rfl)(b:scope.names.all (λy=>y.2 != .cell)=gn:=by decide +kernel)(nm:scope.names.all (λy=>y.2 != .local||scope.names.lookup y.1==gm .local)=gn:=by decide +kernel)(c:scope.names.all (λy=>y.2 != .free||(X.env.kindOf y.1==gm .cell||X.env.kindOf y.1==gm .free))=gn:=by kernel_rfl)(fn:(fr.zip N).all (λp=>p.1.all λi=>X.N[i]?==gm p.2&&scope.names.lookup p.2==gm .free)=gn:=by kernel_rfl):fe X N fr scope:=
 dg nd len kind b nm (λy d e=>by
  have:=iw.mp c y d;rw[e] at this;simpa using this) λj i x f g=>by
  have:=iw.mp fn (gm i,x)\aJ (j7.mpr #[f,g]);simpa using this
end K31
local macro_rules | `(tactic| walk_at $s:str) => let i := fun (x : String) => Lean.mkIdent (Lean.Name.mkSimple x); match s.getString.splitOn " " with | [h, p, g, h1, t, y] => `(tactic| (generalize hq : L2.upd $(i h) $(i p) _ = $(i h1); have $(i t) := K31.same_of $(i g) hq; have $(i y) := K31.at_of hq; clear hq)) | [h, p, h1, k, y] => `(tactic| (generalize hq : L2.upd $(i h) $(i p) _ = $(i h1); have $(i k) := K31.wr_of hq; have $(i y) := K31.at_of hq; clear hq)) | _ => Lean.Macro.throwUnsupported
namespace K51
open PySem L2
def sPx1{b:Type}(B:-V->Hp->VK->b->Prop):Sp:=λvs H Q _=>Exists\B vs H Q
def fm{b c:Type}(B:-V->Hp->VK->b->c->Prop):Sp:=λvs H Q _=>Exists\Ex2 (B vs H Q)
def du{b c d:Type}(B:-V->Hp->VK->b->c->d->Prop):Sp:=λvs H Q _=>Exists\Ex3 (B vs H Q)
def i8{b c d e:Type}(B:-V->Hp->VK->b->c->d->e->Prop):Sp:=λvs H Q _=>Exists\Ex4 (B vs H Q)
def jU{b c d e f:Type}(B:-V->Hp->VK->b->c->d->e->f->Prop):Sp:=λvs H Q _=>Exists\Ex5 (B vs H Q)
def uG{b c d e f g:Type}(B:-V->Hp->VK->b->c->d->e->f->g->Prop):Sp:=λvs H Q _=>Exists\Ex6 (B vs H Q)
def mixed(ns:-Int)(k:Int):Int:=(ns.take 40).foldl (λs c=>(s*48271+c)%2147483647) (7+1009*k)
def lb(ns:-Int)(k:Int):Int:=if k<(↑ns:Int) then ns.getD k.toNat 0 else 0
def uy(ns:-Int)(k:Int):Int×Int:=(if lb ns k<1000000000000000000 then 0 else lb ns k,mixed ns k)
def refill(p:Int×Int):Int×Int:=if p.1=0 then (((p.2*16807+11)%2147483647)*((p.2*16807+11)%2147483647)%2147483629,(p.2*16807+11)%2147483647) else p
def digO(p:Int×Int)(b:Int):Int:=(refill p).1%b
def nxt(p:Int×Int)(b:Int):Int×Int:=((refill p).1/b,(refill p).2)
def bE(p:Int×Int):-V:=[.i p.1,.i p.2]
def cC(p:Int×Int):Prop:=-(2 ^ 60)<p.2/\p.2<2 ^ 60
def CQ{p:Int×Int}(h:cC p):cC (refill p):=by
 unfold refill
 split
 .have:=qZ (p.2*16807+11) (⋯:(0:Int)<2147483647);have:=q_ (p.2*16807+11) (⋯:(2147483647:Int)≠0);unfold cC;constructor<;>(change _<_;lia)
 show h
def cA{p:Int×Int}{b:Int}(h:cC p):cC (nxt p b):=CQ h
def xv(ns:-Int){k:Int}(d:0<=k)(h1:k<1000):-(2 ^ 60)<mixed ns k/\mixed ns k<2 ^ 60:=by
 unfold mixed;have:∀(l:-Int)(s:Int),(-(2 ^ 60)<s/\s<2 ^ 60)->(-(2 ^ 60)<l.foldl (λs c=>(s*48271+c)%2147483647) s/\l.foldl (λs c=>(s*48271+c)%2147483647) s<2 ^ 60):=by
  intro l;induction l with
  |nil=>intro s h;show h
  |cons c r b=>
   intro s h;rw[Aw];show b _ ?_;have:=qZ (s*48271+c) (⋯:(0:Int)<2147483647);have:=q_ (s*48271+c) (⋯:(2147483647:Int)≠0);constructor<;>lia
 show this _ _ (by constructor<;>lia)
def kG:OpR X (binaryOp .FloorDiv) (rI (λ_ j=>0<j/\j.natAbs.log2<9000) λi j=>.i (i/j)):=opI λi j _ _ _ _ _ b q=>by
 let e:i.fdiv j=i/j:=by rw[Lp _\Int.le_of_lt b.1]
 rw[<-e] at q;show Nt () q\.l (PyProof.noPylong_of_log2 b.2)
def Kw(K:W.Frag)(vs:-V)(H:Hp)(Q:VK)(a:gL)(ns:-Int)(k:Int):Prop:=vs=[.r a,.i k]/\SqL [] H a (ns.map V.int)/\0<=k/\Q (.i\lb ns k) H
def spAt(K:W.Frag):Sp:=du\Kw K
def Iz(K:W.Frag)(vs:-V)(H:Hp)(Q:VK)(a:gL)(ns:-Int)(k:Int):Prop:=vs=[.r a,.i k]/\SqL [] H a (ns.map V.int)/\0<=k/\k<1000/\
 ∀(p:gL)(H':Hp),H p=gf->Same H H'->H' p*>.a (bE\uy ns k)->Q (.r p) H'
def zT(K:W.Frag):Sp:=du\Iz K
def D1(vs:-V)(H:Hp)(Q:VK)(p:gL)(q:Int×Int)(b:Int):Prop:=vs=[.r p,.i b]/\H p*>.a (bE q)/\cC q/\0<b/\b.natAbs.log2<9000/\WrO H p (.a\bE (nxt q b))\Q (.i\digO q b)
def hJ:Sp:=du D1
section
def scAt:aR [↑7,↑45] [↑7,↑45] (aI sAt):=.f
def KW{f:gL}(U:Fun K ↑87 ↑87 sAt f fd)(T:bW mg):!aA CX0 1 f fd [↑7,↑45] (spAt K):=by
 show U.ok scAt (!3) λ_ _ _ _ _ _ _ _ _ h=>?_
 let#[a,ns,k,1,b,l,q]:=h;erw[_,af (bO (bH ni (pv 1) (pln T.len\pv 0)\nomark _) (aj\aK (ixx bB (pv 0)\pv 1)) bN)\aj (aK ag),?_];erw[3,a,2,.l b,6,2,?_];unfold lb at q;rw[av];show ite2 (λc=>?_) (λc=>?_)
 .let c:k<(↑ns:Int):=On c;rw[Oj c] at q;let d:k.toNat<↑ns:=();erw[3,a,_,k,.i\ns.getD k.toNat 0,5,b,?_,q];let e:((k.toNat:Nat):Int)=k:=();rw[<-e];show cF ?_;let g:ns[k.toNat]?*>ns.getD k.toNat 0:=by simp[List.getD,d]
  rw[aU,g];rfl
 let c:¬k<(↑ns:Int):=λz=>c\Ol z;rw[Oi c] at q;show q
def yj:aR [↑1,↑33,"_law_digit_here"] [↑1,↑33] (aI qm):=.f
def EF{f:gL}(U:Fun K ↑13 ↑13 qm f fd):!aA CX0 1 f fd [↑1,↑33] hJ:=by
 show U.ok yj (!3) λ_ _ _ _ _ _ _ _ _ h=>?_
 let#[p,#[n,z],b,1,d,hok,i,B,q]:=h;erw[_,af (bO (bH ic (ixx bB (pv 0) ag) ag\nomark _)
   (af (eI (ak dR (ak bo (ak dQ (ixx bB (pv 0) ag) ag) ag) ag)\uh (pv 0) ag sN)
    (aj\eI (ak dR (ak dQ (ixx bB (pv 0) ag)\ixx bB (pv 0) ag) ag) (uh (pv 0) ag sN))) bN)
  (af (sx 2 yj.nd\ak dR (ixx bB (pv 0) ag) (pv 1))
  (af (eI (ak kG (ixx bB (pv 0) ag)\pv 1)\uh (pv 0) ag sN)
  (aj\aK (pv 2)))),?_]
 let#[g,j,l,I,C,D]:=#[(λ_ _=>rfl:∀(x y:Int),atI [V.int x,V.int y] 0*>V.int x),(λ_ _=>rfl:∀(x y:Int),atI [V.int x,V.int y] 1*>V.int y),(λ_ _=>rfl:∀(x y:V),ixN [x,y].length 0*>0),(λ_ _=>rfl:∀(x y:V),ixN [x,y].length 1*>1),hok.1,hok.2];erw[2,p,_,(0),2,1,SqL.of d,g _ _,7,?_];let C:-(2 ^ 60)<z:=C;let D:z<2 ^ 60:=D;show ite2 (λc=>?_) (λc=>?_)
 .let c:n=0:=by
   have:=On c;injection this
  let R:=qZ (z*16807+11) (⋯:(0:Int)<2147483647);let S:=q_ (z*16807+11) (⋯:(2147483647:Int)≠0);erw[2,p,_,(1),2,1,SqL.of d,j _ _,6,.l #[(),()],6,6,(⋯:(0:Int)<2147483647),2,p,4,d,I _ _,λH1 L m=>?_];erw[2,p,_,(1),2,1,SqL.of m,j _ _,2,p,_,(1),2,1,SqL.of m,j _ _,6,.l #[(),()],6,(⋯:(0:Int)<2147483629),2,p,4,m,l _ _,λH2 M o=>?_];erw[2,p,_,(0),2,1,SqL.of o,g _ _,2,6,i,?_];erw[2,p,_,(0),2,1,SqL.of o,g _ _,2,6,#[i,B],2,p,4,o,l _ _,λr u v=>?_];erw[2,?_];let e:refill (n,z)=((z*16807+11)%2147483647*((z*16807+11)%2147483647)%2147483629,(z*16807+11)%2147483647):=by unfold refill;rw[Oj c]
  unfold digO nxt bE at q;rw[e] at q;show q r (λb h=>(u b h).trans\(M b h).trans (L b h)) v
 let c:¬n=0:=λy=>c (by rw[y];show Ol rfl);erw[2,p,_,(0),2,1,SqL.of d,g _ _,2,6,i,?_];erw[2,p,_,(0),2,1,SqL.of d,g _ _,2,6,#[i,B],2,p,4,d,l _ _,λr u v=>?_];erw[2,?_];let e:refill (n,z)=(n,z):=by unfold refill;rw[Oi c]
 unfold digO nxt bE at q;rw[e] at q;show q r u v
def lB:aR [↑7,↑45,"_law_seed","_law_cell","_law_number"] [↑7,↑45] (aI qR):=.f
def DH(ns:-Int):fN (ns.map V.int) gf (gm 40)=(ns.take 40).map V.int:=by
 unfold fN;let b:HT.sIx ↑(ns.map V.int) 0 gf=0:=rfl;let c:HT.sIx ↑(ns.map V.int) ↑(ns.map V.int) (gm 40)=min 40 ↑ns:=by rw[av];have:=HT.sIx_nat ↑ns ↑ns 40;simpa using this
 rw[b,c,Aq,<-AB,Mg]
 congr 1
 rw[List.take_eq_take_iff];lia
def Jg{f d:gL}{fd g:i4}(U:Fun K ↑95 ↑95 qR f fd)(n:Fun K ↑87 ↑87 sAt d g)(o:Binds K g [↑7,↑45] [])(mA:mg ↑87*>.r d)(p:W.keepIn K (.r d)=gn)(T:bW mg) :
  !aA CX0 2 f fd [↑7,↑45] (zT K):=by
 let u:!aA CX0 1 d g [↑7,↑45] (spAt K):=KW n T;show U.ok lB (!3) λ_ _ _ s _ _ Q _ x h=>?_
 let#[a,ns,k,1,m,z,h1,q]:=h;erw[_,af (sx 2 lB.nd\ak bo ag (ak dQ ag\pv 1))
  (af (cf bP rfl (bU\jx jA (pv 0) jE (jD ag)) (gx 3 lB.nd)
   (aj\sx 2 lB.nd (ak dR (ak bo (ak dQ (pv 2) ag)\pv 3) ag)))
  (af (sx 4 lB.nd\yt u x rfl mA p o .nil pass0 (ae (pv 0)\pa1 (pv 1)))
  (af (bO (bH ni (pv 4) (ak qt ag ag)\nomark _) (aj\sx 4 lB.nd ag) bN)
  (aj\aK (cz\ae (pv 4) (pa1\pv 2)))))),?_]
 erw[2,6,.l #[(),()],6,?_];erw[2,(40),1,a,2,m,λl H1 L sm j=>?_];rw[DH] at j;erw[l,1,#[_,SqL.of j],dM (K:=[]) (a:=l) (xs:=(ns.take 40).map V.int) (λi Z H2=>∃v,Z=[gm\.r a,gm\.i k,gm\.i (((ns.take 40).take i).foldl (λs c=>(s*48271+c)%2147483647) (7+1009*k)),v,gf]/\H2=H1/\
  (-(2 ^ 60)<(((ns.take 40).take i).foldl (λs c=>(s*48271+c)%2147483647) (7+1009*k))/\(((ns.take 40).take i).foldl (λs c=>(s*48271+c)%2147483647) (7+1009*k))<2 ^ 60))
  #[gf,5,by simp only[AG,LI];constructor<;>lia] (λi Z H2 _ ⟨_,_,e,_⟩=>by rw[e];show SqL.of j) ?_ ?_]
 .rintro i y Z H2 hi ⟨v,rfl,rfl,M,N⟩;let#[c,B,1]:∃c,(ns.take 40)[i]?*>c/\V.int c=y:=by
   rw[aU] at hi;show bQ.mp hi
  let e:(ns.take 40).take (i+1)=(ns.take 40).take i++[c]:=by rw[bq,B];rfl
  erw[2,6,.l #[(),()],2,6,6,(⋯:(0:Int)<2147483647),?_];erw[gm\.i c,?_,1,?_]
  .rw[e,LH];rfl
  rw[e,LH];let O:=qZ ((((ns.take 40).take i).foldl (λs c=>(s*48271+c)%2147483647) (7+1009*k))*48271+c) (⋯:(0:Int)<2147483647);let R:=q_ ((((ns.take 40).take i).foldl (λs c=>(s*48271+c)%2147483647) (7+1009*k))*48271+c) (⋯:(2147483647:Int)≠0);simp only[Aw,LI];constructor<;>lia
 rintro Z H2 ⟨v,rfl,rfl,_,_⟩;rw[av,b_];erw[3,a,ns,k,1,sm.seq m,z,?_];erw[2,6,#[⋯,⋯,⋯],6,2,?_];let fin:∀(r:gL)(b:Hp),H2 r=gf->Same H2 b->b r*>.a (bE\uy ns k)->Q (.r r) b:=λr b C s2 D=>q r b (sm.free C) (sm<*s2) D;unfold uy at fin;show ite2 (λc=>?_) (λc=>?_)
 .let c:lb ns k<1000000000000000000:=On c;rw[Oj c] at fin;erw[3,(⋯:2<=hH),fin]
 let c:¬lb ns k<1000000000000000000:=λy=>c\Ol y;rw[Oi c] at fin;erw[3,(⋯:2<=hH),fin]
end
def dt{q:Int×Int}{b:Int}(c:0<b):0<=digO q b/\digO q b<b:=#[q_ _ (),qZ _ c]
def g9{b:Int}(c:0<b)(h:b<=10 ^ 60):b.natAbs.log2<9000:=by let h1:b.natAbs≠0:=();show (L7 h1).mpr ?_;let h2:b.natAbs<=10 ^ 60:=();show rj h2\cS (⋯:10 ^ 60<2 ^ 200) (Mf ⋯ ⋯)
end K51
namespace K15
open PySem L2 K51 K31
def bD(e:Ent):-Key×V:=(ky e.1.1 e.1.2,V.int (e.2:Int))
def fE{l:-Ent}{p q:Nat}:bu (l.map bD) (ky p q)=gf↔(p,q)∉l.map (·.1):=by
 induction l with
 |nil=>simp[bu]
 |cons e l b=>
  rw[bj,bj,ah];by_cases h:(bD e).1=ky p q
  .rw[iG h];have:e.1=(p,q):=qv.mp h;simp[this]
  rw[gz h,b];have:(p,q)≠e.1:=λz=>h\qv.mpr (by rw[z]);simp[this]
def wV{l:-Ent}(nd:(l.map (·.1)).Nodup){p q c:Nat}:bu (l.map bD) (ky p q)*>V.int (c:Int)↔((p,q),c)∈l:=by
 induction l with
 |nil=>simp[bu]
 |cons e l d=>
  rw[bj,bF] at nd;rw[bj,ah];by_cases h:(bD e).1=ky p q
  .rw[iG h];let b:e.1=(p,q):=qv.mp h;constructor
   .intro z;injection z with z;injection z with z;left;have:e.2=c:=();rw[<-b,<-this]
   rintro (z|z)
   .rw[<-z];rfl
   show (nd.1\ai.mpr #[_,z,b.symm]).elim
  rw[gz h,d nd.2];constructor
  .exact .inr
  rintro (z|z)
  .exact (h\qv.mpr (by rw[<-z])).elim
  show z
def Fp{l:-Ent}{p q:Nat}{v:V}(h:bu (l.map bD) (ky p q)*>v):∃c:Nat,v=V.int (c:Int):=by
 induction l with
 |nil=>cases h
 |cons e l b=>
  rw[bj] at h;by_cases h1:(bD e).1=ky p q
  .rw[iG h1] at h;injection h with h;erw[e.2,h.symm]
  rw[gz h1] at h;show b h
def xK{ts:-Tri}(g:Good ts)(p q:Nat):(∃c,En ts p q c/\bu ((ents ts).map bD) (ky p q)*>V.int (c:Int))\/((∀c,¬En ts p q c)/\bu ((ents ts).map bD) (ky p q)=gf):=by
 cases h:bu ((ents ts).map bD) (ky p q) with
 |none=>
  show .o #[λc b=>?_,1];show fE.mp h\ai.mpr #[_,b,1]
 |some v=>
  let#[c,1]:=Fp h;show .l #[c,(wV g.nd).mp h,1]
def gA(a b:-Tri):ents (a++b)=ents a++ents b:=by simp[ents]
def eR(ts:-Tri):↑(ents ts)=3*↑ts:=by
 induction ts with
 |nil=>rfl
 |cons t ts b=>
  rw[show t::ts=[t]++ts from rfl,gA,aE,b,aE];change 3+_=3*(1+_);lia
def px{l:-Ent}{a b c:Nat}(h:((l++[((a,b),c)]).map (·.1)).Nodup):(l.map (·.1)).Nodup/\(a,b)∉l.map (·.1):=by rw[bc,aQ] at h;erw[h.1,λz=>?_];show h.2.2 _ z (a,b) ∅ rfl
def pO{l:-Ent}{a b c:Nat}(h:(a,b)∉l.map (·.1)):bV (l.map bD) (ky a b) (V.int (c:Int))=(l++[((a,b),c)]).map bD:=by rw[my _\fE.mpr h,bc];rfl
def fH(t:Tri):-(Nat×Nat):=[(t.1,t.2.1),(t.2.1,t.2.2),(t.2.2,t.1)]
def DR(vs:-V)(H:Hp)(Q:VK)(t:gL)(x:Tri):Prop:=vs=[.r t]/\H t*>.u [.i (x.1:Int),.i (x.2.1:Int),.i (x.2.2:Int)]/\
 ∀r zs H',H r=gf->Same H H'->H' r*>.a zs->SdsAt H' zs (fH x)->Q (.r r) H'
def tD:Sp:=fm DR
def CI(vs:-V)(H:Hp)(Q:VK)(T:gL)(b:-V)(ts:-Tri):Prop:=vs=[.r T]/\H T*>.a b/\ax H b ts/\↑ts<=400/\((ents ts).map (·.1)).Nodup/\
 ∀D H',H D=gf->Same H H'->H' D*>.dT ((ents ts).map bD)->Q (.r D) H'
def jw:Sp:=du CI
def i7(ts:-Tri)(x:Tri):Bool:=(fH x).all λs=>decide (s∉(ents ts).map (·.1))
def FF(vs:-V)(H:Hp)(Q:VK)(D t:gL)(ts:-Tri)(x:Tri):Prop:=vs=[.r D,.r t]/\H D*>.dT ((ents ts).map bD)/\H t*>.u [.i (x.1:Int),.i (x.2.1:Int),.i (x.2.2:Int)]/\
 ∀H',Same H H'->Q (.bl\i7 ts x) H'
def t8:Sp:=i8 FF
section
def pD:aR [↑6,↑35,↑49,"_law_c"] [↑6] (aI qc):=.f
def Ey{f:gL}(U:Fun K ↑42 ↑42 qc f fd):!aA CX0 1 f fd [↑6] tD:=by
 show U.ok pD (!2) λ_ _ _ _ _ _ _ _ _ h=>?_
 let#[t,x,1,d,q]:=h;erw[_,af (eI (pv 0)\cu rfl (aG (gx 1 pD.nd)\aG (gx 2 pD.nd) (aG (gx 3 pD.nd) cq)))
  (aj\aK (cz\ae (aT\ae (pv 1) (pa1\pv 2)) (ae (aT\ae (pv 2) (pa1\pv 3))\pa1 (aT\ae (pv 3) (pa1\pv 1))))),?_]
 erw[2,t,2,SqT.of d,1,9,9,6,?_];erw[3,lit2,λe H1 h1 s1 g=>?_];erw[3,lit2,λi H2 h2 s2 j=>?_];erw[3,lit2,λl y z b m=>?_];erw[lit3,λr n o c p=>?_];show q r _ n ((s1<*s2<*b).free o) (s1<*s2<*b<*c) p\.c #[e,1,(s2<*b<*c) _ _ g] (.c #[i,1,(b<*c) _ _ j]\.c #[l,1,c>>m] .nil)
def mv:aR [↑0,↑4,↑35,↑49,"_law_c"] [↑0] (aI pG):=.f
def CZ{f:gL}(U:Fun K ↑21 ↑21 pG f fd):!aA CX0 1 f fd [↑0] jw:=by
 show U.ok mv (!3) λ_ _ _ _ H _ _ _ M h=>?_
 let#[T,N,ts,1,r,u,hl,v,q]:=h;let g:=cG M;erw[_,af (sx 1 mv.nd xp)
  (af (cf bP rfl (bU\pv 0) (cu rfl\aG (gx 2 mv.nd) (aG (gx 3 mv.nd)\aG (gx 4 mv.nd) cq))
   (af (gF g (pv 1) (aT\ae (pv 2) (pa1\pv 3)) (pv 4) rfl)
   (af (gF g (pv 1) (aT\ae (pv 3) (pa1\pv 4)) (pv 2) rfl)
   (aj\gF g (pv 1) (aT\ae (pv 4) (pa1\pv 2)) (pv 3) rfl))))
  (aj\aK (pv 1))),?_]
 let ab:=line5000;let hlen:=aD u;show λD H1 h1 s1 O=>?_;erw[2,T,1,#[_,SqL.of (s1>>r)],dM (K:=[]) (a:=T) (xs:=N) (λi Z H2=>∃j l m,Z=[gm\.r T,gm\.r D,j,l,m]/\Same H H2/\H2 D*>.dT\(ents\ts.take i).map bD)
  #[gf,gf,gf,1,s1,O] (by rintro i Z H2 _ ⟨_,_,_,_,e,_⟩;show SqL.of (e>>r)) ?_ ?_]
 .rintro i x Z H2 hi ⟨j,l,m,rfl,sm,d⟩;let#[#[a,b,c],y,t,1,n]:=cD u hi;let n:H t*>.u [.i (a:Int),.i (b:Int),.i (c:Int)]:=n;let ad:i<↑ts:=(aq.mp y).1;let R:ts.take (i+1)=ts.take i++[(a,b,c)]:=by rw[bq,y];rfl
  let z:((ents\ts.take (i+1)).map (·.1)).Nodup:=by rw[<-di (i+1) ts,gA,bc,aQ] at v;show v.1
  let B:ents (ts.take (i+1))=((ents (ts.take i)++[((a,b),c)])++[((b,c),a)])++[((c,a),b)]:=by rw[R,gA];simp[ents]
  rw[B] at z;let#[#[S,X],#[Y,n2],#[_,n1],l0]:=#[px z,px S,px Y,eR\ts.take i];rw[aZ] at l0;erw[t,2,SqT.of (sm>>n),1,9,9,6,?_];erw[3,3,lit2,λt1 H3 g1 C y3=>?_];erw[D,2,DPut.t (k:=ky a b) (C>>d) y3 (by rw[av];lia),?_];rw[pO n1];walk_at"H3 D H4 k4 y4";erw[3,3,lit2,λt2 H5 g2 I y5=>?_];erw[D,2,DPut.t (k:=ky b c) (I>>y4) y5 (by rw[av,aE,ck];lia),?_];rw[pO n2];walk_at"H5 D H6 k6 y6";erw[3,3,lit2,λt3 H7 g3 L y7=>?_];erw[D,2,DPut.t (k:=ky c a) (L>>y6) y7 (by rw[av,aE,aE,ck,ck];lia),?_];rw[pO X];walk_at"H7 D H8 k8 y8";erw[8,1,λp o e=>?_,by rw[y8,B]];let nb:=ao e h1;show (k8 p nb)<*(L>>((k6 p nb)<*(I>>((k4 p nb)<*(C>>sm>>e)))))
 rintro Z H2 ⟨j,l,m,rfl,sm,d⟩;rw[hlen,b_] at d;erw[2,q D H2 h1 sm d]
end
def Fk:r6 "all"*>.b "all":=⋯
def fT:r6 ↑29*>.b ↑29:=⋯
def flat(ts:-Tri):-Nat:=ts.flatMap λt=>[t.1,t.2.1,t.2.2]
def kb(c:Nat):Key×V:=(Sum.inl (c:Int),V.bl gn)
def zt{c d:Nat}:(kb c).1=(Sum.inl (d:Int):Key)↔c=d:=by
 unfold kb;constructor
 .intro h;injection h with h;lia
 rintro rfl;rfl
def mV(b:-Nat)(c:Nat):bV (b.map kb) (Sum.inl (c:Int)) (V.bl gn)=(if c∈b then b else b++[c]).map kb:=by
 by_cases h:c∈b
 .rw[Oj h];let ha:((b.map kb).any λd=>decide (d.1=(Sum.inl (c:Int):Key)))=gn:=Ap.mpr #[kb c,ai.mpr #[c,h,1],Ol rfl];unfold bV;rw[Oj ha,bG];show rg λx _=>?_;change (if (kb x).1=(Sum.inl (c:Int):Key) then ((kb x).1,V.bl gn) else kb x)=kb x
  split<;>rfl
 rw[Oi h,my,bc]
 .rfl
 cases e:bu (b.map kb) (Sum.inl (c:Int)) with
 |none=>rfl
 |some v=>
  have:=Fq e;rw[bG] at this;let#[x,f,ex]:=ai.mp this;show (h (zt.mp ex ▸ f)).elim
def Cs(ts:-Tri)(cs:-Nat):Prop:=cs.Pairwise (· < ·)/\∀c,c∈cs↔c∈flat ts
def mh{d:-Nat}{ms:-Int}(nd:d.Nodup)(g:ms.Perm (d.map λc:Nat=>(c:Int)))(f:ms.Pairwise (·<=·)):∃cs:-Nat,ms=cs.map (λc:Nat=>(c:Int))/\cs.Pairwise (· < ·)/\cs.Perm d:=by
 let e:ms=(ms.map Int.toNat).map (λc:Nat=>(c:Int)):=by
  rw[bG];have:∀x∈ms,((λc:Nat=>(c:Int)) ∘ Int.toNat) x=id x:=by intro x i;let#[c,2]:=ai.mp\g.mem_iff.mp i;simp
  rw[rg this,Az]
 let pm:(ms.map Int.toNat).Perm d:=by
  have:=g.map Int.toNat;rw[bG] at this;let j:d.map (Int.toNat ∘ λc:Nat=>(c:Int))=d:=by have:∀x∈d,(Int.toNat ∘ λc:Nat=>(c:Int)) x=id x:=λx _=>∅;rw[rg this,Az]
  rw[j] at this;show this
 erw[ms.map Int.toNat,e,?_,pm];let l:(ms.map Int.toNat).Nodup:=pm.nodup_iff.mpr nd;rw[e] at f;rw[fC] at f;have:=f.and l;show this.imp λ{a b} h=>?_;let h1:=h.1;let h2:=h.2;lia
def B7(vs:-V)(H:Hp)(Q:VK)(T:gL)(b:-V)(ts:-Tri):Prop:=vs=[.r T]/\H T*>.a b/\ax H b ts/\↑ts<=200/\
 ∀r cs H',H r=gf->Same H H'->H' r*>.a (nV cs)->Cs ts cs->↑cs<=3*↑ts->Q (.r r) H'
def iE:Sp:=du B7
section
def IH:aR [↑4,↑6] [↑4,↑6] (aI qH):=.f
def Gw{f B:gL}{fd d1:i4}(U:Fun K ↑61 ↑61 qH f fd)(T:bW mg)(G:!Use 1 ↑42 [↑6] tD B d1) :
  !aA CX0 2 f fd [↑4,↑6] t8:=by
 show U.ok IH (!4) λ_ _ _ s _ _ _ _ l h=>?_
 let#[D,t,ts,x,1,C,I,q]:=h;let L:=cG l;erw[_,aj\aK (cL (Bz rfl) (by rfl) T.all Fk\pa1 (dG (N:=["_law_side",↑4]) (fr:=[gf,gm 0]) cpK rfl (bU\uc G l (pa1\pv 1))
    (λY s' H' fp Oo=>#[gx 0 (⋯:(["_law_side",↑4]:-Str).Nodup),dN,zl\g6 L (pv 0) (pv 1)]))),?_]
 let ab:=line5000;erw[2,t,x,1,I,λr zs H1 ad s1 m n=>?_];let M:=aD n;erw[r,1,#[_,SqL.of m],λZ_ p=>eD (K:=[]) (a:=r) (xs:=zs) (λi Z ys H'=>∃o,Z=[o,gm\.r D]/\ys=(((fH x).take i).map λs=>decide (s∉(ents ts).map (·.1))).map V.bl/\Same H1 H'/\H' Z_*>.a ys) #[gf,5,bT p,aW] (by rintro i Z ys H' _ ⟨_,_,_,e,_⟩;show SqL.of (e>>m)) ?_ ?_]
 .rintro i y Z ys H' hi ⟨o,rfl,rfl,d,g⟩;let#[#[a,b],u,c,1,O]:=cD n hi;let al:=(aq.mp u).1;erw[3,D,2,DGet.t (k:=ky a b) (d>>s1>>C) (d>>O),g,?_,λH3 R S=>#[2,?_,λb o e=>(R b\ao e p)<*(d>>e),S]]
  .rw[av,av,aZ];have:↑(fH x)=3:=rfl;lia
  rw[bq,u];change _=((((fH x).take i)++[(a,b)]).map _).map _;rw[bc,bc]
  congr 1
  change [V.bl _]=[V.bl _]
  congr 2
  cases j:bu ((ents ts).map bD) (ky a b) with
  |none=>show (Ol\fE.mp j).symm
  |some v=>show (Om λz=>by rw[fE.mpr z] at j;cases j).symm
 rintro Z ys H' ⟨o,rfl,rfl,d,g⟩;erw[Z_,(fH x).map λs=>decide (s∉(ents ts).map (·.1)),1,SqL.of ?_,?_]
 .rw[g,M,b_]
 rw[Lw];show q _\s1.trans d
def oI:aR [↑0,"_law_found",↑6,↑3] [↑0] (aI oV):=.f
def Cm{f:gL}(U:Fun K ↑9 ↑9 oV f fd)(Y:mg ↑29 = gf):!aA CX0 1 f fd [↑0] iE:=by
 show U.ok oI (!3) λ_ _ _ _ H vs _ _ hr h=>?_
 let#[T,vt,ts,1,M,N,hl,q]:=h;let hu:=cG hr;erw[_,af (sx 1 oI.nd iJ)
  (af (cf bP rfl (bU\pv 0) (gx 2 oI.nd)
   (aj\cf bP rfl (mX\pv 2) (gx 3 oI.nd) (aj\gF hu (pv 1) (pv 3) d_ rfl)))
  (aj\aK (cL (l8 rfl) (by rfl) Y fT\pa1 (pv 1)))),?_]
 let ad:=line5000;let hlen:=aD N;show λD H1 h1 s1 y1=>?_;erw[2,T,1,#[_,SqL.of (s1>>M)],dM (K:=[]) (a:=T) (xs:=vt) (λi Z H2=>∃B l d,Z=[gm\.r T,gm\.r D,B,l]/\Same H H2/\H2 D*>.k (d.map kb)/\d.Nodup/\(∀c,c∈d↔c∈flat\ts.take i)/\↑d<=3*i)
  #[gf,gf,[],1,s1,y1,jh,by simp[flat],aV _] (by rintro i Z H2 _ ⟨_,_,_,_,e,_⟩;show SqL.of (e>>M)) ?_ ?_]
 .rintro i x Z H2 hi ⟨B,l,d,rfl,sm,r,nd,hm,O⟩;let#[#[a,b,c],R,t,1,u]:=cD N hi;let u:H t*>.u [.i (a:Int),.i (b:Int),.i (c:Int)]:=u;let al:i<↑ts:=(aq.mp R).1;let et:flat (ts.take (i+1))=flat (ts.take i)++[a,b,c]:=by rw[bq,R];simp[flat]
  erw[2,t,1,#[_,SqT.of (sm>>u)],Hs (K:=[]) (a:=t) (xs:=[.i (a:Int),.i (b:Int),.i (c:Int)]) (λj Z m=>∃l d,Z=[gm\.r T,gm\.r D,gm\.r t,l]/\Same H m/\m D*>.k (d.map kb)/\d.Nodup/\(∀z,z∈d↔z∈flat (ts.take i)++[a,b,c].take j)/\↑d<=3*i+j)
   #[_,d,1,sm,r,nd,‹hm›,O] (by rintro j Z m _ ⟨_,_,_,e,_⟩;show SqT.of (e>>u)) ?_ ?_]
  .rintro j y Z m g ⟨l,d,rfl,C,I,v,L,ab⟩;let#[n,S,1]:∃n:Nat,[a,b,c][j]?*>n/\y=.i (n:Int):=by
    match j,g with
    |0,g=>simp at g;erw[a,1,g.symm]
    |1,g=>simp at g;erw[b,1,g.symm]
    |2,g=>simp at g;erw[c,1,g.symm]
    |j+3,g=>simp at g
   let am:j<3:=(aq.mp S).1;erw[3,D,2,DPut.k (k:=Sum.inl (n:Int)) I (by rw[av];lia),?_];rw[mV];walk_at"m D H4 k4 y4";erw[9,λb' o e=>(k4 b'\ao e h1)<*(C>>e),y4,?_,λz=>?_,?_]
   .split
    .exact v
    rename_i h;show aQ.mpr #[v,∅,λx hx y hy=>by rw[aN.mp hy];rintro rfl;show h hx]
   .rw[bq,S,<-e8];change _↔z∈(flat (ts.take i)++[a,b,c].take j)++[n];rw[az,<-L z]
    split
    .rename_i h;constructor
     .exact .inl
     rintro (h' | h')
     .exact h'
     rw[aN.mp h'];show h
    rw[az]
   split
   .lia
   rw[aE,ck];lia
  rintro Z m ⟨l,d,rfl,C,I,v,L,ab⟩;erw[0,d,1,C,I,v,λz=>?_,?_]
  .rw[et];show L z
  have:↑([V.int (a:Int),.i (b:Int),.i (c:Int)]:-V)=3:=rfl;lia
 rintro Z H2 ⟨B,l,d,rfl,sm,r,nd,hm,O⟩;rw[hlen,b_] at hm;erw[2,D,1,.l #[_,r],λks vs hk=>.l #[d.map λc:Nat=>(c:Int),?_,by rw[av];lia,λp ms X pm ps=>?_]]
 .rcases hk with ⟨kvs,e,rfl,_⟩|⟨kvs,as,e,_⟩
  .rw[r] at e;cases e;rw[bG,bG];rfl
  rw[r] at e;cases e
 let#[cs,1,pl,pc]:=mh nd pm ps;let an:=pc.length_eq;let e:(cs.map λc:Nat=>(c:Int)).map V.int=nV cs:=by rw[bG];rfl
 rw[e];show q p cs _ (sm.free X) (sm.trans\bT X) aW #[pl,λc=>by rw[pc.mem_iff];show hm c] ()
end
def iP(l:-Nat):(nV l).all gO=gn:=by rw[iw];intro v b;let#[n,2]:=ai.mp b;rfl
def ia(c:Nat)(l:-Nat):inV (V.int (c:Int)) (nV l)=decide (c∈l):=by
 unfold inV nV;rw[Ly,lK,decide_eq_true_eq,Ap];constructor
 .rintro⟨x,b,e⟩;have:(x:Int)=(c:Int):=eq_of_beq (show ((x:Int)==(c:Int))=gn from e);have:x=c:=();rw[<-this];show b
 intro h;erw[c,h,(show ((c:Int)==(c:Int))=gn by simp)]
def G_(l:-Nat):inV V.non (nV l)=gB:=by unfold inV nV;rw[Ly,Lx];intro x _;show bL
def g7{l m:-Nat}(h:l.Nodup)(b:∀x∈l,x∈m):↑l<=↑m:=by
 induction l generalizing m with
 |nil=>show aV _
 |cons a l d=>
  rw[bF] at h;let ha:=b a ∅;have:=d (m:=m.erase a) h.2 λx c=>by
   let e:x≠a:=λz=>h.1 (z ▸ c);show (List.mem_erase_of_ne e).mpr\b x (aC _ c)
  rw[LQ ha] at this;let f:0<↑m:=LR ha;rw[br];lia
def kq{K:W.Frag}{D:gL}{l:-Ent}{ks vs:-V}(b:H D*>.dT\l.map bD)(d:DKeys H D ks vs):SdsAt H ks (l.map (·.1)):=by
 rcases d with ⟨kvs,e,_⟩|⟨kvs,as,e,c,rfl,_⟩
 .rw[b] at e;cases e
 rw[b] at e;cases e;rename_i f;clear b f;induction l generalizing as with
 |nil=>cases c;show .nil
 |cons x l g=>
  cases c with
  |cons h t=>show .c #[2,h]\g _ t
def xf{ks:-V}{ss:-(Nat×Nat)}(h:SdsAt H ks ss):Tups K H ks (ss.map λs=>[(s.1:Int),(s.2:Int)]):=by
 induction h with
 |nil=>show .nil
 |cons q _ b=>
  let#[a,1,ha]:=q;show .c #[a,1,SqT.of ha,∅] b
def sO{ks:-V}{ss:-(Nat×Nat)}(h:SdsAt H ks ss):∀ix:-Nat,(∀i∈ix,i<↑ks)->SdsAt H (ix.map λi=>ks.getD i .non) (ix.map λi=>ss.getD i (0,0))
 | [],_=>.nil
 |i::ix,hi=>by
  let#[b,h1,#[y,c,hf]]:=#[hi i ∅,(ay b:ks[i]?*>ks[i]),cD h h1];show .c ?_ (sO h ix λj d=>hi j\aC _ d);simp only[List.getD,h1,c,u7];show hf
def wz{ss:-(Nat×Nat)}{ix:-Nat}(h:ix.Perm\List.range ↑ss):(ix.map λi=>ss.getD i (0,0)).Perm ss:=by
 have:=h.map λi=>ss.getD i (0,0);show this.trans\Am ?_;show nI λi=>?_;rw[aU];by_cases hi:i<↑ss
 .rw[LL hi];simp[List.getD,ay hi]
 rw[nL ‹hi›,nL ()];rfl
def JO(l:-Nat):Dts K H (nV l) (l.map λn:Nat=>PyData.int (n:Int)):=by
 induction l with
 |nil=>show .nil
 |cons a l b=>show .c (.i _) b
def JS(l:-Nat):(PyData.list (l.map λn:Nat=>PyData.int (n:Int))).depth<=3:=by
 have:PyData.depthAll (l.map λn:Nat=>PyData.int (n:Int))<=1:=by
  induction l with
  |nil=>simp[PyData.depthAll]
  |cons a l b=>simp only[bj,PyData.depthAll,PyData.depth];lia
 simp only[PyData.depth];lia
def E2(ds:-nc):PyData.eqv (.list ds) (.list [])=ds.isEmpty:=by cases ds<;>simp[PyData.eqv,PyData.eqvAll]
structure Run(ts:-Tri)(v x0:Nat)(F:-Nat):Prop where
 nd:F.Nodup
 key:∀p∈F,∃q,En ts v p q
 ch:∀i p q,F[i]?*>p->F[i+1]?*>q->En ts v p q
 x1:x0∈F
section
variable {ts:-Tri}{v x0 p c o:Nat}{F:-Nat}
def FN(h:∃q,En ts v x0 q):Run ts v x0 [x0]:=#[∅,λp b=>by rw[aN.mp b];show h,λi p q _ h2=>by simp at h2,∅]
def FP(r:Run ts v x0 F)(d:F.getLast?*>p)(e:En ts v p c)(g:∃q,En ts v c q)(j:c∉F):Run ts v x0 (F++[c]):=by
 erw[aQ.mpr #[r.nd,∅,λx l y m=>by rw[aN.mp m];rintro rfl;show j l],λq n=>?_,λi a b h1 h2=>?_,bR _ r.x1]
 .rcases az.mp n with h|h
  .exact r.key q h
  rw[aN.mp h];show g
 by_cases hi:i+1<↑F
 .rw[bY hi] at h2;rw[bY ()] at h1;show r.ch i a b h1 h2
 let o:=(aq.mp h2).1;rw[aE,ck] at o;let f:i+1=↑F:=();rw[eC,<-f,AJ] at d;rw[bY (),d] at h1;rw[f,fB\au _,nY] at h2;cases h1;cases h2;show e
def FO(r:Run ts v x0 F)(c:F.head?*>p)(e:En ts v o p)(d:o∉F):Run ts v x0 (o::F):=by
 erw[bF.mpr #[d,r.nd],λq f=>?_,λi a b h1 h2=>?_,aC _ r.x1]
 .rcases ah.mp f with rfl|h
  .exact#[p,e]
  show r.key q h
 cases i with
 |zero=>
  rw[LJ,<-uS,c] at h2;cases h1;cases h2;show e
 |succ i=>
  rw[LJ] at h1 h2;show r.ch i a b h1 h2
def tI(r:Run ts v x0 F)(d:↑ts<=20):↑F<=60:=by
 have:=g7 (m:=(ents ts).map (·.1.2)) r.nd λx b=>by
  let#[q,c]:=r.key x b;show ai.mpr #[_,c,1]
 rw[av,eR] at this;lia
def ue(r:Run ts v x0 F):F≠[]:=λz=>by have:=r.x1;rw[z] at this;cases this
def yu(h:F≠[]):∃p,F.getLast?*>p:=#[_,LP h]
def Hm(h:F≠[]):∃p,F.head?*>p:=by
 cases F with
 |nil=>show (h rfl).elim
 |cons a l=>erw[a,1]
def JZ{α:Type}{l:List α}{x:α}(h:l[↑l-1]?*>x):atI l (-1)*>x:=by let b:=(aq.mp h).1;unfold atI ixN;rw[Oi ⋯,Oj ()];rw[show ((-1:Int)+(↑l:Int)).toNat=↑l-1 by lia];show h
def HR(h:F.getLast?*>p):atI (nV F) (-1)*>V.int (p:Int):=by show JZ ?_;rw[a_,nV,aU,<-eC,h];rfl
def yK(h:F.head?*>p):atI (nV F) 0*>V.int (p:Int):=by
 have:(nV F)[0]?*>V.int (p:Int):=by rw[nV,aU,<-uS,h];rfl
 show cF this
end
def wg{c:TT}{tb:TS}{D:Ends}(R:St->Hp->Prop)(h:∀b:St->Hp->Prop,(∀Z H,R Z H->b Z H)->t6 c tb {D with nx:=b} Z H)(out:∀Z H,R Z H->D.nx Z H):t6 c tb D Z H:=h D.nx out
def Cd{α β:Type}{F G:α->β->Prop}{xs:List α}{ys:List β}(h:∀x y,x∈xs->F x y->G x y)(p:Paired F xs ys):Paired G xs ys:=by
 induction p with
 |nil=>show .nil
 |cons a _ b=>show .c (h _ _ ∅ a) (b λx y c=>h x y\aC _ c)
def FG(vs:-V)(H:Hp)(Q:VK)(T:gL)(b:-V)(ts:-Tri)(v:Nat):Prop:=vs=[.r T,.i (v:Int)]/\H T*>.a b/\ax H b ts/\↑ts<=20/\Good ts/\
 ∀r c fs H',H r=gf->Same H H'->H' r*>.a c->dA H' c fs->Fans (En ts) v fs->↑fs<=60->Q (.r r) H'
def za:Sp:=i8 FG
section
def kW:aR [↑0,↑3,↑4,"_law_left","_law_found","_law_fan"] [↑0,↑3] (aI qI):=.f
def Gx{f f1:gL}{fd d1:i4}(U:Fun K ↑80 ↑80 qI f fd)(mS:mg ↑29 = gf)(G:!Use 1 ↑21 [↑0] jw f1 d1) :
  !aA CX0 2 f fd [↑0,↑3] za:=by
 show U.ok kW (!4) λ_ _ _ s H vs _ _ hr h=>?_
 let#[T,vt,ts,v,1,hT,ht,hl,g,q]:=h;let hu:=cG hr;erw[_,af (sx 2 kW.nd\uc G hr (pa1\pv 0))
  (af (mK (i:=3) (N:=[↑35,"_law_p",↑3]) (fr:=[gf,gf,gm 1]) (g:=jW [] 2\eX (cE 0) (eX (cE 1) jX)) cpK rfl (bU\cL (l8 rfl) (by rfl) mS fT (pa1\pv 2))
    (λC' s' H' fp Oo=>#[cu rfl\aG (gx 0 (⋯:([↑35,"_law_p",↑3]:-Str).Nodup)) (aG (gx 1 (⋯:([↑35,"_law_p",↑3]:-Str).Nodup)) cq),hU\bH ic (pv 0) (pv 2) (nomark _),pv 1]) kW.nd rfl (.l rfl))
  (af (sx 4 kW.nd\cz dP)
  (af (kF bP (bH (h_ hr.units) (pv 3) (cz dP)\nomark _) (af (sx 5 kW.nd\cz (pa1\ixx bB (pv 3) ag))
   (af (kF bP (PW.pt\iS (bH sr (xq hu (pv 2) (aT\ae (pv 1) (pa1\ixx bB (pv 5) (i6 iQ ag))) #[5,5]) (pv 3) rfl) (iN\bH ko (f_ hu (pv 2) (aT\ae (pv 1) (pa1\ixx bB (pv 5) (i6 iQ ag))) λ_ _=>rfl) (pv 5) rfl))\aj (c9\cP c7 eM eO dJ (pv 5) (pa1\f_ hu (pv 2) (aT\ae (pv 1) (pa1\ixx bB (pv 5) (i6 iQ ag))) λ_ _=>rfl)))
   (af (kF bP (PW.pt\iS (eG\mY hu (aT\ae (ixx bB (pv 5) ag) (pa1\pv 1)) (pv 2)) (iN\bH ko (f_ hu (pv 2) (aT\ae (ixx bB (pv 5) ag) (pa1\pv 1)) λ_ _=>rfl) (pv 5) rfl))\aj (c9\cP c7 vd AV sy (pv 5) (ae ag\pa1 (f_ hu (pv 2) (aT\ae (ixx bB (pv 5) ag) (pa1\pv 1)) λ_ _=>rfl))))
   (af (mK (i:=3) (N:=["_law_p","_law_fan"]) (fr:=[gf,gm 5]) (tt:=m9\tOp (rIn [] gn) (bC 0) (bC 1)) cpK rfl (bU\pv 3)
    (λC' s' H' fp Oo=>#[gx 0 (⋯:(["_law_p","_law_fan"]:-Str).Nodup),hU\bH ko (pv 0) (pv 1) rfl,pv 0]) kW.nd rfl (.l rfl))
   (aj\c9 (cP c7 eM eO dJ (pv 4)\pa1 (pv 5))))))))
  (aj\aK (pv 4))))),?_]
 let c3:=line5000;let k:=g.sk;erw[2,T,vt,ts,1,hT,ht,(),g.nd,λD H1 c4 s1 hD=>?_];erw[2,D,1,.o #[_,hD],λks vs hk=>.o #[_,xf\kq (K:=[]) hD hk,?_,λp ix O pm _=>?_]]
 .rw[aD\kq (K:=[]) hD hk,av,eR];lia
 let bx:=kq (K:=[]) hD hk;let lk:=aD bx;walk_at"H1 p O H2 s2 y2";let#[ca,a3,am]:=#[(λi hi=>iB.mp\pm.mem_iff.mp hi:∀i∈ix,i<↑ks),sO (Paired.imp' (by rintro _ _ ⟨a,e,h⟩;erw[a,e,s2>>h]) bx:SdsAt H2 ks\(ents ts).map (·.1)) ix ca,(wz (by rw[<-lk];show pm):(ix.map λi=>((ents ts).map (·.1)).getD i (0,0)).Perm ((ents ts).map (·.1)))];generalize (ix.map λi=>((ents ts).map (·.1)).getD i (0,0))=ss at a3 am;generalize (ix.map λi=>ks.getD i .non)=zs at a3 y2;let lz:=aD a3;let cb:↑ss<=60:=by rw[am.length_eq,av,eR];lia
 erw[p,1,#[_,SqL.of y2],λZ_ hZ=>eD (K:=[]) (a:=p) (xs:=zs) (λi Z ys H'=>∃o1 o2,Z=[o1,o2,gm\.i (v:Int)]/\ys=nV (((ss.take i).filter λs=>decide (s.1=v)).map (·.2))/\Same H2 H'/\H' Z_*>.a ys) #[gf,gf,5,bT hZ,aW] (by rintro i Z ys H' _ ⟨_,_,_,_,e,_⟩;show SqL.of (e>>y2)) ?_ ?_]
 .rintro i y Z ys H' hi ⟨o1,o2,rfl,rfl,L,R⟩;let#[#[a,b],hs,c,1,I]:=cD a3 hi;let et:ss.take (i+1)=ss.take i++[(a,b)]:=by rw[bq,hs];rfl
  erw[c,2,SqT.of (L>>I),1,9,6,?_];erw[3,7,?_];change if decide (V.int (a:Int)=V.int (v:Int))=gn then _ else _
  rw[jY];by_cases a8:a=v
  .rw[Ol (by rw[a8])];show bf #[2,R,?_,λH3 k3 y3=>#[9,?_,λb o e=>(k3 b\ao e hZ)<*(L>>e),y3]]
   .rw[a_,av];let h1:=gU (λs:Nat×Nat=>decide (s.1=v))\ss.take i;rw[aZ] at h1;lia
   rw[et,fR,eu,Oj\Ol a8,jd,bc,<-eJ];rfl
  rw[Om ()];show aP #[9,?_,L,R];rw[et,fR,eu,Oi (by simp[a8]),jd,fQ]
 rintro Z ys H3 ⟨o1,o2,rfl,rfl,L,R⟩;rw[lz,b_] at R;let a9:∀x,x∈((ss.filter λs=>decide (s.1=v)).map (·.2))↔∃q,En ts v x q:=by
  intro x;rw[ai];constructor
  .rintro⟨⟨a,b⟩,hm,rfl⟩;rw[bZ,am.mem_iff] at hm;let#[#[hm,ha],ha,#[#[e1,c],he,e2],e2]:=#[hm,(On ha:a=v),ai.mp hm,(e2:e1=(a,b))];subst e2 ha;erw[c,he]
  rintro⟨c,I⟩;erw[(v,x),bZ.mpr #[am.mem_iff.mpr\ai.mpr #[_,I,1],Ol rfl],1]
 let bA:((ss.filter λs=>decide (s.1=v)).map (·.2)).Nodup:=by
  let cc:ss.Nodup:=am.nodup_iff.mpr g.nd;have:∀l:-(Nat×Nat),l.Nodup->((l.filter λs=>decide (s.1=v)).map (·.2)).Nodup:=by
   intro l;induction l with
   |nil=>intro _;show jh
   |cons x l ih=>
    intro h;rw[bF] at h;rw[eu]
    split
    .rename_i B;rw[bj,bF];erw[λz=>?_,ih h.2];let#[y,hy,e]:=ai.mp z;rw[bZ] at hy;let h1:y.1=v:=On hy.2;let h2:x.1=v:=On B;have:y=x:=lX (h1<*h2.symm) e;show h.1 (this ▸ hy.1)
    show ih h.2
  show this ss cc
 let bK:↑((ss.filter λs=>decide (s.1=v)).map (·.2))<=60:=by rw[av];show dw (gU _ _) cb
 generalize ((ss.filter λs=>decide (s.1=v)).map (·.2))=cd at a9 bA bK R;let q3:=(s1<*s2)<*L;erw[aV _,λFd H4 ce s4 y4=>?_];let q4:=q3<*s4;let cg:=(s2<*L<*s4) _ _ hD;erw[λm Z H'=>∃v5 S lf Fd gs fs,Z=[gm\V.ref T,gm\.i (v:Int),gm\.r D,gm\.r S,gm\.r Fd,v5]/\m=↑lf/\H Fd=gf/\Same H H'/\H' D*>.dT ((ents ts).map bD)/\H' S*>.a (nV lf)/\H' Fd*>.a gs/\dA H' gs fs/\lf.Nodup/\
   (∀x∈lf,∃q,En ts v x q)/\(∀F∈fs,Fan (En ts) v F)/\(∀x,(∃q,En ts v x q)->x∈lf\/∃F∈fs,x∈F)/\(∀x∈lf,∀F∈fs,x∉F)/\(fs.Pairwise λF G=>∀x∈F,x∉G)/\↑fs+↑lf<=60/\V.ref Fd∉gs,
  #[_,gf,Z_,cd,Fd,[],[],5,q3.free ce,q4,cg,s4>>R,y4,.nil,bA,λx B=>(a9 x).mp B,∅,λx B=>.l\(a9 x).mpr B,∅,List.Pairwise.nil,‹bK›,∅],?_]
 rintro m Z H5 ⟨v5,S,lf,Fd,gs,fs,rfl,rfl,bb,sm,ci,bd,bS,be,cj,bg,bi,bl,b0,b1,hsz,b2⟩;erw[2,aV _,λpe H6 c5 s6 y6=>?_];erw[0,.a (SqL.of (s6>>bd))\JO lf,.a (SqL.of y6) .nil,dw (JS lf) ⋯,2,?_];rw[Oj rfl,E2];cases lf with
 |nil=>
  show aP ?_;erw[2,q Fd gs fs H6 bb (sm<*s6) (s6>>bS) (be.same s6) #[bi,λx B=>?_,b1] (by simp at hsz;lia)];show (bl x B).resolve_left ∅
 |cons x0 lf=>
  show bf ?_;let cl:=bg x0 ∅;erw[_,λZ' H' h=>h,?_];erw[2,S,_,(0),V.int (x0:Int),5,SqL.of (s6>>bd),yK rfl,lit1,λfa H7 cn s7 y7=>?_];let#[nD,X,bm]:=#[(λe=>ao e cn:∀{b:gL}{ob:HO},H6 b*>ob->b≠fa),s6>>ci,s6>>bd];show wg (λZ H'=>∃F,Z=[gm\V.ref T,gm\.i (v:Int),gm\.r D,gm\.r S,gm\.r Fd,gm\.r fa]/\Same H6 H'/\H' fa*>.a (nV F)/\Run ts v x0 F/\∀p,F.getLast?*>p->∀q,En ts v p q->q∈x0::lf->q∈F) (λNX z=>?_) ?_
  .refine#[λm Z H'=>∃F,Z=[gm\V.ref T,gm\.i (v:Int),gm\.r D,gm\.r S,gm\.r Fd,gm\.r fa]/\m=100-↑F/\Same H6 H'/\H' fa*>.a (nV F)/\Run ts v x0 F,#[_,[x0],5,s7,y7,FN cl],?_];rintro m Z H8 ⟨F,rfl,rfl,Y,d,rn⟩;let#[b3,#[p,O],ap]:=#[tI rn hl,yu\ue rn,HR O];erw[2,D,1,.o #[_,.l (Y>>X)],3,2,fa,4,SqL.of d,ap,lit2,λk1 H9 g1 j y9=>?_];let r:=Y<*j;rcases xK g v p with ⟨c,I,e⟩|⟨I,e⟩
   .refine#[_,e ▸ DGet.t (k:=ky v p) (r>>X) y9,2,S,2,.l\SqL.of (r>>bm),1,iP _,2,?_];change if (if gB=gn then _ else inV (V.int (c:Int)) (nV (x0::lf)))=gn then _ else _
    rw[Oi bL,ia];by_cases a4:c∈x0::lf
    .rw[Ol a4];show bf ?_;erw[3,3,fa,4,SqL.of (j>>d),ap,lit2,λk2 b4 g2 M an=>?_];let al:=r<*M;erw[D,V.int (c:Int),1,e ▸ DGet.t (k:=ky v p) (al>>X) an,2,fa,2,.l\SqL.of (M>>j>>d),1,iP _,2,?_];change if (if gn=gn then !inV (V.int (c:Int)) (nV F) else _)=gn then _ else _
     rw[Oj rfl,ia];by_cases ab:c∈F
     .rw[Ol ab];show aP\z _ _ #[F,1,al,M>>j>>d,rn,λp' C q hq _=>?_];rw[O] at C;cases C;rw[k.one hq I];show ab
     rw[Om ab];show bf #[_,λZ' H' h=>h,?_];erw[2,.l #[1,_,SqL.of (M>>j>>d)],3,3,fa,4,SqL.of (M>>j>>d),ap,lit2,λk3 cr g3 aM bn=>?_];let a0:=al<*aM;erw[D,V.int (c:Int),1,e ▸ DGet.t (k:=ky v p) (a0>>X) bn,fa,6,aM>>M>>j>>d,by rw[a_];lia,λcv bt bw=>?_];erw[_,?_,F++[c],5,λb' o e=>(bt b'\nD e)<*(a0>>e),?_,FP rn O I (bg c a4) ab]
     .rw[aE,ck];lia
     rw[bw];simp[nV]
    rw[Om a4];show aP\aP (z _ _ #[F,1,r,j>>d,rn,λp' C q hq b5=>?_]);rw[O] at C;cases C;rw[k.one hq I] at b5;show (a4 b5).elim
   erw[_,e ▸ DGet.t (k:=ky v p) (r>>X) y9,2,S,2,.l\SqL.of (r>>bm),1,iP _,2,?_];change if (if gB=gn then _ else inV V.non (nV (x0::lf)))=gn then _ else _
   rw[Oi bL,G_];show aP\aP (z _ _ #[F,1,r,j>>d,rn,λp' C q hq _=>?_]);rw[O] at C;cases C;show (I q hq).elim
  rintro Z H8 ⟨F,rfl,Y,d,rn,ad⟩;clear y7 s7 H7;show wg (λZ H'=>∃F,Z=[gm\V.ref T,gm\.i (v:Int),gm\.r D,gm\.r S,gm\.r Fd,gm\.r fa]/\Same H6 H'/\H' fa*>.a (nV F)/\Run ts v x0 F/\(∀p,F.getLast?*>p->∀q,En ts v p q->q∈x0::lf->q∈F)/\∀p,F.head?*>p->∀o,En ts v o p->o∈F) (λNX z=>?_) ?_
  .refine#[λm Z H'=>∃F,Z=[gm\V.ref T,gm\.i (v:Int),gm\.r D,gm\.r S,gm\.r Fd,gm\.r fa]/\m=100-↑F/\Same H6 H'/\H' fa*>.a (nV F)/\Run ts v x0 F/\∀p,F.getLast?*>p->∀q,En ts v p q->q∈x0::lf->q∈F,#[_,F,5,Y,d,rn,ad],?_];clear ad rn d Y;clear F H8;rintro m Z H8 ⟨F,rfl,rfl,Y,d,rn,ad⟩;let#[b3,#[p,O],ap]:=#[tI rn hl,Hm\ue rn,yK O];erw[2,fa,4,SqL.of d,ap,2,lit2,λk1 H9 g1 j y9=>?_];let r:=Y<*j;rcases xK g p v with ⟨c,I,e⟩|⟨I,e⟩
   .refine#[2,D,2,e ▸ DGet.t (k:=ky p v) (r>>X) y9,2,?_];show bf ?_;erw[3,fa,4,SqL.of (j>>d),ap,2,lit2,λk2 b4 g2 M an=>?_];let al:=r<*M;erw[D,V.int (c:Int),1,e ▸ DGet.t (k:=ky p v) (al>>X) an,2,fa,2,.l\SqL.of (M>>j>>d),1,iP _,2,?_];change if (if gn=gn then !inV (V.int (c:Int)) (nV F) else _)=gn then _ else _
    rw[Oj rfl,ia];by_cases ab:c∈F
    .rw[Ol ab];show aP\z _ _ #[F,1,al,M>>j>>d,rn,ad,λp' C o ho=>?_];rw[O] at C;cases C;rw[k.one (k.rot\k.rot ho) I];show ab
    rw[Om ab];show bf #[_,λZ' H' h=>h,?_];erw[2,.l #[1,_,SqL.of (M>>j>>d)],3,fa,4,SqL.of (M>>j>>d),ap,2,lit2,λk3 cr g3 aM bn=>?_];let a0:=al<*aM;erw[D,V.int (c:Int),1,e ▸ DGet.t (k:=ky p v) (a0>>X) bn,fa,_,(0),2,1,aM>>M>>j>>d,aV _,by rw[a_];lia,λcv bt bw=>?_];erw[_,?_,c::F,5,λb' o e=>(bt b'\nD e)<*(a0>>e),?_,FO rn O (k.rot I) ab,λp' C q hq cw=>?_]
    .rw[br];lia
    .rw[bw];simp[nV]
    show aC _\ad p' ?_ q hq cw;rw[<-C];let#[z,hz]:=yu\ue rn;rw[LO,hz];rfl
   erw[2,D,2,e ▸ DGet.t (k:=ky p v) (r>>X) y9,2,?_];show aP\aP (z _ _ #[F,1,r,j>>d,rn,ad,λp' C o ho=>?_]);rw[O] at C;cases C;show (I _\k.rot (k.rot ho)).elim
  clear ad rn d Y;clear F H8;rintro Z H8 ⟨F,rfl,Y,d,rn,ad,cx⟩;let#[b3,#[fF,dF],b6]:=#[tI rn hl,EZ k bi bl b0 rn.nd rn.key rn.ch rn.x1 ∅ ad cx,Y>>bm];erw[2,S,1,#[_,SqL.of b6],λZ_ hZ=>eD (K:=[]) (a:=S) (xs:=nV (x0::lf)) (λi Z ys H'=>∃o,Z=[o,gm\.r fa]/\ys=nV (((x0::lf).take i).filter λp=>decide (p∉F))/\Same H8 H'/\H' Z_*>.a ys) #[gf,5,bT hZ,aW] (by rintro i Z ys H' _ ⟨_,_,_,e,_⟩;show SqL.of (e>>b6)) ?_ ?_]
  .rintro i y Z ys H' hi ⟨o,rfl,rfl,L,R⟩;rw[nV,aU] at hi;let#[n,hn,1]:=bQ.mp hi;let et:(x0::lf).take (i+1)=(x0::lf).take i++[n]:=by rw[bq,hn];rfl
   erw[3,fa,2,.l\SqL.of (L>>d),1,iP _,2,?_];change if (if gn=gn then !inV (V.int (n:Int)) (nV F) else _)=gn then _ else _
   rw[Oj rfl,ia];by_cases a5:n∈F
   .rw[Ol a5];show aP #[2,?_,L,R];rw[et,fR,eu,Oi (by simp[a5]),jd,fQ]
   rw[Om a5];show bf #[2,R,?_,λH3 k3 y3=>#[2,?_,λb o e=>(k3 b\ao e hZ)<*(L>>e),y3]]
   .rw[a_];let h1:=gU (λp=>decide (p∉F))\(x0::lf).take i;rw[aZ] at h1;rw[br] at hsz h1;lia
   rw[et,fR,eu,Oj (by simp[a5]),jd,<-eJ];rfl
  rintro Z ys H9 ⟨o,rfl,rfl,L,R⟩;rw[a_,b_] at R;let e0:((x0::lf).filter λp=>decide (p∉F))=lf.filter λp=>decide (p∉F):=by rw[eu,Oi (by simp[rn.x1])]
  let l0:=gU (λp=>decide (p∉F)) lf;rw[<-e0] at l0;let a6:∀x,x∈((x0::lf).filter λp=>decide (p∉F))↔x∈x0::lf/\x∉F:=λx=>by rw[bZ,decide_eq_true_eq]
  let cZ:((x0::lf).filter λp=>decide (p∉F)).Nodup:=cj.filter _;generalize ((x0::lf).filter λp=>decide (p∉F))=b7 at *;let#[r,a7,b8,hg]:=#[Y<*L,s6>>bS,r>>a7,aD be];rw[br] at hsz;erw[2,.l #[1,_,SqL.of b8],2,Fd,gs,2,1,b8,by rw[hg];lia,λb4 a1 an=>?_];let b9:Fd≠fa:=nD a7;let c0:D≠Fd:=λz=>by rw[z,a7] at X;cases X
  let c1:Z_≠Fd:=λz=>by rw[z,Y>>a7] at hZ;cases hZ
  let sH:Same H H9:=(sm<*s6)<*r;erw[↑b7,by rw[br];lia,_,Z_,b7,Fd,gs++[V.ref fa],fs++[F],5,bb,λb' o e=>(a1 b'\ao e bb)<*(sH>>e),(a1 D c0)<*(r>>X),(a1 Z_ c1)<*R,an,?_,cZ,λx B=>bg x ((a6 x).mp B).1,?_,?_,?_,?_,?_,?_]
  .refine cW ?_\.c #[fa,1,(a1 fa\aO b9)<*(L>>d)] .nil;show Cd (by rintro u l hu ⟨a,e1,e2⟩;erw[a,e1,(a1 a λz=>b2 (by rw[<-z,<-e1];show hu))<*(r>>s6>>e2)]) be
  .intro G hG;rcases az.mp hG with h|h
   .exact bi G h
   rw[aN.mp h];show fF
  .intro x B;rcases bl x B with h|⟨G,hG,h⟩
   .by_cases a2:x∈F
    .exact .o #[F,∅,a2]
    show .l\(a6 x).mpr #[h,a2]
   show .o #[G,bR _ hG,h]
  .intro x B G hG;rcases az.mp hG with h|h
   .exact b0 x ((a6 x).mp B).1 G h
   rw[aN.mp h];show ((a6 x).mp B).2
  .refine nP.mpr #[b1,lR _ _,λG hG F' c2 x B a2=>?_];rw[aN.mp c2] at a2;show dF x a2 G hG B
  .rw[aE,ck];lia
  intro z;rcases az.mp z with h|h
  .exact b2 h
  have:=aN.mp h;cases this;show b9 rfl
end
def reE(v n:Nat)(F:-Nat)(e:Ent):Ent:=((rn v n F e.1.1 e.1.2,rn v n F e.1.2 e.2),rn v n F e.2 e.1.1)
def E5{ts:-Tri}{v n:Nat}{F:-Nat}:ents (ts.map\ren v n F)=(ents ts).map (reE v n F):=by
 induction ts with
 |nil=>rfl
 |cons t ts b=>
  let h1:ents ((t::ts).map\ren v n F)=ents [ren v n F t]++ents (ts.map\ren v n F):=by simp[ents]
  let h2:ents (t::ts)=ents [t]++ents ts:=by simp[ents]
  rw[h1,h2,bc,b];rfl
def Co(ts:-Tri)(u:Nat):Prop:=∃p q,En ts u p q
def ES{ts:-Tri}{v n:Nat}{F:-Nat}(g:Good ts)(fr:∀a b c,En ts a b c->a≠n):Good (ts.map\ren v n F):=by
 let k:=g.sk;let ks:=Kz (v:=v) (F:=F) k fr;erw[λt s=>?_,?_]
 .let#[#[#[a,b,c],h,1],l,m,u]:=#[ai.mp s,(dz.mpr\.l h:En ts a b c),k.rot l,k.rot m];erw[ks.ne (c:=rn v n F c a) #[a,b,c,l,5,1],ks.ne (c:=rn v n F a b) #[b,c,a,m,5,1],ks.ne (c:=rn v n F b c) #[c,a,b,u,5,1]]
 rw[E5,bG];let nd:=g.nd;let mem:∀e∈ents ts,En ts e.1.1 e.1.2 e.2:=λe he=>he;rw[List.Nodup,fC] at nd |-;show nd.imp_of_mem λ{x y} d w h z=>h ?_;let#[z,#[#[a,b],c],#[#[i,f],o],e,e',A,B]:=#[gY z,x,y,(mem _ d:En ts a b c),(mem _ w:En ts i f o),(z.1:rn v n F a b=rn v n F i f),(z.2:rn v n F b c=rn v n F f o)];let key:∀{p q p' r},p≠n->p'≠n->rn v n F p q=rn v n F p' r->p=p':=by
  intro p q p' r h1 h2 j;by_cases d:rn v n F p q=n
  .rw[(ig h1 d).1,(ig h2 (j ▸ d)).1]
  rw[<-fY d,j,fY (j ▸ d)]
 change (a,b)=(i,f);rw[key (fr _ _ _ e) (fr _ _ _ e') A,key (fr _ _ _\k.rot e) (fr _ _ _\k.rot e') B]
structure Mid(ts:-Tri)(v:Nat)(F0:-Nat)(fs:List\-Nat)(rest:-Nat):Prop where
 good:Good ts
 fans:Fans (En ts) v (F0::fs)
 oth:∀u,Co ts u->u=v\/u∈rest\/One (En ts) u
def Gm{E E':Nat->Nat->Nat->Prop}(h:∀a b c,E a b c↔E' a b c):E=E':=by funext a b c;show propext\h a b c
def EI{ts:-Tri}{v n:Nat}{g F:-Nat}{fs:List\-Nat}{rest:-Nat}(m:Mid ts v g (F::fs) rest)(fr:∀u,Co ts u->u≠n):Mid (ts.map\ren v n F) v g fs rest:=by
 let#[f,k,o,hF]:=#[(λa b c h=>fr a #[b,c,h]:∀a b c,En ts a b c->a≠n),m.good.sk,(Gm λ_ _ _=>JN:En (ts.map\ren v n F)=Rn (En ts) v n F),m.fans.fan F ∅];let i:v≠n:=by let#[p,d]:=rf _ hF.ne;let#[q,j]:=hF.key p d;show f _ _ _ j
 let dis:=m.fans.dis;rw[ji,ji] at dis;let#[r,d1,d2]:=dis;let y:∀G∈g::fs,∀p∈F,p∉G:=by
  intro G e p d s;rcases ah.mp e with rfl|h
  .exact r F ∅ p s d
  show d1 G h p d s
 erw[ES m.good f,?_,?_]
 .rw[o];erw[λG e=>?_,λp ⟨q,j⟩=>?_,?_]
  .refine EY k f i (m.fans.fan G ?_)\y G e;rcases ah.mp e with rfl|h
   .simp
   show aC _\aC _ h
  .let#[h1,h2]:=(kO k f i).mp j;let#[G,e,d]:=m.fans.all p #[q,h1];rcases ah.mp e with rfl|h
   .exact#[G,∅,d]
   rcases ah.mp h with rfl|h
   .exact (h2 d).elim
   erw[G,aC _ h,d]
  rw[ji];erw[λG e=>r G\aC _ e,d2]
 rintro u ⟨p,q,h⟩;rw[o] at h |-;by_cases l:u=n
 .subst l;show .o\.o (Er k f hF)
 let#[a,b,c,h,w,0]:=h;let z:u=a:=by rw[w];show fY (by rw[<-w];show l)
 subst z;rcases m.oth u #[b,c,h] with h1|h1|h1
 .exact .l h1
 .exact .o\.l h1
 by_cases x:u=v
 .exact .l x
 show .o\.o (CY k f hF i x l h1)
def GV{ts:-Tri}{v:Nat}{b:-Nat}{rest:-Nat}(m:Mid ts v b [] rest)(u:Nat)(c:Co ts u):u∈rest\/One (En ts) u:=by
 rcases m.oth u c with rfl|h
 .refine .o #[b,m.fans.fan b ∅,λp d=>?_];let#[G,e,h]:=m.fans.all p d;rw[aN.mp e] at h;show h
 show h
def Dd{ts:-Tri}{v:Nat}{b:-Nat}{fs:List\-Nat}{rest:-Nat}(g:Good ts)(h:Fans (En ts) v (b::fs))(o:∀u,Co ts u->u∈v::rest\/One (En ts) u):Mid ts v b fs rest:=
 #[g,h,λu c=>(o u c).elim (λz=>(ah.mp z).elim .inl λz=>.o\.l z) λz=>.o\.o z]
def EJ{ts:-Tri}{v:Nat}{rest:-Nat}(h:Fans (En ts) v [])(o:∀u,Co ts u->u∈v::rest\/One (En ts) u)(u:Nat)(b:Co ts u):u∈rest\/One (En ts) u:=by
 rcases o u b with z|z
 .rcases ah.mp z with rfl|z
  .let#[p,q,c]:=b;let#[G,d,_]:=h.all p #[q,c];cases d
  show .l z
 show .o z
def c_{ts:-Tri}{u:Nat}:Co ts u↔∃t∈ts,u=t.1\/u=t.2.1\/u=t.2.2:=by
 constructor
 .rintro⟨p,q,h⟩;rcases dz.mp h with h|h|h
  .exact#[_,h,.l rfl]
  .exact#[_,h,.o\.l rfl]
  erw[_,h,.o\.o rfl]
 rintro⟨⟨a,b,c⟩,h,rfl|rfl|rfl⟩
 .exact#[b,c,dz.mpr\.l h]
 .exact#[c,a,dz.mpr\.o (.l h)]
 erw[a,b,dz.mpr\.o (.o h)]
def pA{A B:TS}{D:Ends}(R:St->Hp->Prop)(c:∀b:St->Hp->Prop,(∀Z H,R Z H->b Z H)->A {D with nx:=b} Z H)(d:∀Z H,R Z H->B D Z H):uC A B D Z H:=c (B D) d
def Fn{x:V}{i:Nat}{B:TS}{D:Ends}(h:B D (Z.set i\gm x) H):uC (ny (tC x)\cE i) B D Z H:=h
def FS{v n a b c:Nat}{F:-Nat}(h1:a=v->b∉F)(h2:b=v->c∉F)(d:c=v->a∉F):rn v n F a b=a/\rn v n F b c=b/\rn v n F c a=c:=by unfold rn;erw[Oi λz=>h1 z.1 z.2,Oi λz=>h2 z.1 z.2,Oi λz=>d z.1 z.2]
def IT{v n a b c:Nat}{F:-Nat}(h:a=v/\b∈F\/b=v/\c∈F\/c=v/\a∈F)(d:a≠b)(e:b≠c)(f:c≠a) :
  rn v n F a b=(if a=v then n else a)/\rn v n F b c=(if b=v then n else b)/\rn v n F c a=if c=v then n else c:=by
 unfold rn;rcases h with ⟨rfl,h⟩|⟨rfl,h⟩|⟨rfl,h⟩
 .exact#[by rw[Oj #[1,h],Oj rfl],by rw[Oi λz=>d z.1.symm,Oi λz=>d z.symm],by rw[Oi λz=>f z.1,Oi f]]
 .exact#[by rw[Oi λz=>d z.1,Oi d],by rw[Oj #[1,h],Oj rfl],by rw[Oi λz=>e z.1.symm,Oi λz=>e z.symm]]
 erw[by rw[Oi λz=>f z.1.symm,Oi λz=>f z.symm],by rw[Oi λz=>e z.1,Oi e],by rw[Oj #[1,h],Oj rfl]]
def DP(vs:-V)(H:Hp)(Q:VK)(T:gL)(c:-V)(ts:-Tri):Prop:=vs=[.r T]/\H T*>.a c/\ax H c ts/\↑ts<=20/\Good ts/\
 ∀r d b H',Same H H'->H' r*>.a d->ax H' d b->↑b=↑ts->Good b->(∀u,Co b u->One (En b) u)->Q (.r r) H'
def tw:Sp:=du DP
section
def gD:aR [↑0,↑3,"_law_fan",↑28,"_law_made",↑6,↑52] [↑0] (aI qb):=.f
def Ew{f f1 f2:gL}{fd d1 d2:i4}(U:Fun K ↑57 ↑57 qb f fd)(T:bW mg)(mM:mg "max" = gf)
  (G1:!Use 2 ↑9 [↑0] iE f1 d1)
  (G2:!Use 2 ↑80 [↑0,↑3] za f2 d2) :
  !aA CX0 3 f fd [↑0] tw:=by
 show U.ok gD (!3) λ_ _ _ _ H _ Q _ hr h=>?_
 let#[T0,vt,ts,1,hT,ht,hl,g,q]:=h;let D:=cG hr;erw[_,(af (cf bP rfl (bU\uc G1 hr (pa1\pv 0)) (gx 1 gD.nd)\aj (cf bP rfl (bU\jx jA (uc G2 hr\ae (pv 0) (pa1\pv 1)) (jD ag) jE) (gx 2 gD.nd) (af (sx 3 gD.nd\ak bo (cL (rP rfl) (by rfl) mM AR\pa1 (uc G1 hr\pa1 (pv 0))) ag)
  (af (sx 4 gD.nd\cz dP)
  (af (cf bP rfl (bU\pv 0) (gx 5 gD.nd) (af (sx 6 gD.nd ag)
  (af (bO (bH sr (pv 1) (pv 5) rfl) (aj\sx 6 gD.nd (KP PySem.F.plainAttrs_tuple Mz PySem.F.type_tuple_index (Da hr.units) (pv 5)\pa1 (pv 1))) bN)
  (af (bO (PW.pt\iS (bH ni (pv 6) ag\nomark _) (iN\bH sr (ixx ur (pv 5)\ak dR (ak bo (pv 6) ag) ag) (pv 2) rfl)) (aj\sx 5 gD.nd (cV km (by rfl) T.tuple kg\pa1 (dG (N:=["_law_one",↑28,↑3]) (fr:=[gf,gm 3,gm 1]) (te:=tOp (rIxL []) (tLst\dU (bC 0) (dU (bC 1) fk))\tCB (λxs H Q=>(∃i,xs=[.i i]/\Q (.i i) H)\/∃k,xs=[.bl k]/\Q (.i (if k then 1 else 0)) H) (dU (tOp rEq (bC 0)\bC 2) fk)) cpK rfl (mX\pv 5)
    (λC' s' H' fp Oo=>#[gx 0 (⋯:(["_law_one",↑28,↑3]:-Str).Nodup),dN,z6 bB (cz\ae (pv 0) (pa1\pv 1)) (cV jv (by rfl) T.int j_\pa1 (fg ic (pv 0) (pv 2)\nomark _)) λ_ _=>rfl])))) bN)
  (aj\c9 (cP c7 eM eO dJ (pv 4)\pa1 (pv 5)))))))
  (aj\sx 0 gD.nd (pv 4)))))))
  (aj\aK (pv 0))),?_]
 let ch:=line5000;erw[2,T0,vt,ts,1,hT,ht,(),λr0 cs H1 ci s1 y1 b1 cj=>?_];erw[r0,1,#[_,SqL.of y1],dM (K:=[]) (a:=r0) (xs:=nV cs) (λi Z H'=>∃v1 M O R B C d l tc,Z=[gm\V.ref d,v1,M,O,R,B,C]/\Same H1 H'/\H' d*>.a l/\ax H' l tc/\↑tc=↑ts/\Good tc/\∀u,Co tc u->u∈cs.drop i\/One (En tc) u)
  #[gf,gf,gf,gf,gf,gf,T0,vt,ts,1,Same.refl _,s1>>hT,ht.same s1,1,g,λu D=>.l ?_] (by rintro i Z H' _ ⟨_,_,_,_,_,_,_,_,_,_,e,_⟩;show SqL.of (e>>y1)) ?_ ?_]
 .rw[Aq,b1.2];let#[t,a2,D]:=c_.mp D;show iA.mpr #[t,a2,‹D›]
 .rintro i x Z H2 hi ⟨v1,M,O,R,B,C,d,l,tc,rfl,a3,L,I,Y,gc,oc⟩;rw[nV,aU] at hi;let#[v,hv,1]:=bQ.mp hi;let bd:=(aq.mp hv).1;let b2:cs.drop i=v::cs.drop (i+1):=by
   rw[jc bd,(aq.mp hv).2]
  rw[b2] at oc;erw[3,d,l,tc,v,1,L,I,(),gc,λr gs fs H3 cl s3 y3 be bg cn=>?_];erw[(1),1,r,gs,1,SqL.of y3,λp H4 hp s4 y4=>?_];rw[show fN gs (gm 1) gf=gs.drop 1 from pf gs 1] at y4;let bi:=(a3<*s3)<*s4;cases fs with
  |nil=>
   cases be;erw[p,1,#[_,SqL.of y4],dM (K:=[]) (a:=p) (xs:=[]) (λj Z H'=>Z=[gm\V.ref d,gm\.i (v:Int),M,O,R,B,C]/\H'=H4) #[5] (λj Z H' _ ⟨_,e⟩=>by rw[e];show SqL.of y4) (λj x Z H' h=>by simp at h) ?_];rintro Z H' ⟨rfl,rfl⟩;erw[8,8,d,l,tc,1,bi,s4>>s3>>L,(I.same s3).same s4,Y,gc,EJ bg oc]
  |cons F0 fs=>
   let#[g0,gs,1,cr,bm]:∃g0 bn,gs=g0::bn/\nC H3 g0 F0/\dA H3 bn fs:=by
    cases be with
    |cons a b=>erw[9,a,b]
   erw[p,1,#[_,SqL.of y4],dM (K:=[]) (a:=p) (xs:=gs) (λj Z H'=>∃M O R B C d l tc,Z=[gm\V.ref d,gm\.i (v:Int),M,O,R,B,C]/\Same H4 H'/\H' d*>.a l/\ax H' l tc/\↑tc=↑ts/\Mid tc v F0 (fs.drop j)\cs.drop (i+1))
    #[M,O,R,B,C,d,l,tc,1,Same.refl _,s4>>s3>>L,(I.same s3).same s4,Y,Dd gc bg oc] (by rintro j Z H' _ ⟨_,_,_,_,_,_,_,_,_,e,_⟩;show SqL.of (e>>y4)) ?_ ?_]
   .rintro j x Z H5 hj ⟨M,O,R,B,C,d,l,tc,rfl,an,L,I,Y,md⟩;let#[F,hF,fa,1,b3]:=cD bm hj;let b4:=(aq.mp hF).1;let b5:fs.drop j=F::fs.drop (j+1):=by
     rw[jc b4,(aq.mp hF).2]
    rw[b5] at md;let b6:=an>>s4>>b3;erw[2,d,l,tc,1,L,I,(),λrc a4 H6 cv s6 y6 b7 cw=>?_];let ev:nV a4=(a4.map λc:Nat=>(c:Int)).map V.int:=by rw[bG];rfl
    let bt:∀u,Co tc u->u∈a4:=λu D=>by
     rw[b7.2];let#[t,a2,D]:=c_.mp D;show iA.mpr #[t,a2,‹D›]
    let bw:Co tc v:=by let fF:=md.fans.fan F ∅;let#[p,hp]:=rf _ fF.ne;let#[q,hq]:=fF.key p hp;erw[p,q,hq]
    erw[rc,2,SqL.of (by rw[y6,ev]),λz=>?_,λm hm b8=>#[6,?_]]
    .have:=bt v bw;rw[uT.mp z] at this;cases this
    let#[n0,cx,1]:=ai.mp hm;let a5:∀u,Co tc u->u≠n0+1:=λu D z=>by
     have:=b8 (u:Int)\ai.mpr #[u,bt u D,1];lia
    let en:V.int ((n0:Int)+1)=V.int ((n0+1:Nat):Int):=rfl;let bx:=EI md a5;let b9:=a5 v bw;generalize n0+1=n at a5 en bx b9;erw[aV _,λmo H7 ca s7 y7=>?_];let cb:=s7>>s6>>L;let cZ:=(I.same s6).same s7;erw[2,d,1,#[_,SqL.of cb],dM (K:=[]) (a:=d) (xs:=l) (λk Z H'=>∃B C vm,Z=[gm\V.ref d,gm\.i (v:Int),gm\.r fa,gm\.i (n:Int),gm\.r mo,B,C]/\Same H6 H'/\H' mo*>.a vm/\ax H' vm\(tc.take k).map (ren v n F))
     #[B,C,[],by rw[<-en];rfl,s7,y7,.nil] (by rintro k Z H' _ ⟨_,_,_,_,e,_⟩;show SqL.of (e>>s6>>L)) ?_ ?_]
    .rintro k x Z H8 hk ⟨B,C,vm,rfl,ad,a6,al⟩;let#[#[#[a,b,c],hs,t,1,hb],hb,S,cc]:=#[cD I hk,(hb:H5 t*>.u [.i (a:Int),.i (b:Int),.i (c:Int)]),ad>>s6>>hb,ad>>s6>>b6];let#[n1,n2,n3]:a≠b/\b≠c/\c≠a:=md.good.ne (a,b,c)\aJ hs;let et:(tc.take (k+1)).map (ren v n F)=(tc.take k).map (ren v n F)++[(rn v n F a b,rn v n F b c,rn v n F c a)]:=by rw[bq,hs,bc];rfl
     let c0:↑vm<=20:=by rw[aD al,av,aZ];lia
     show Fn ?_;show pA (λZ H'=>∃j:Nat,Z=[gm\V.ref d,gm\.i (v:Int),gm\.r fa,gm\.i (n:Int),gm\.r mo,gm\.r t,gm\.i (j:Int)]/\H'=H8/\(j=3/\a≠v/\b≠v/\c≠v\/j=0/\a=v\/j=1/\b=v\/j=2/\c=v)) (λNX z=>?_) ?_
     .refine#[3,t,2,.o\SqT.of S,5,2,?_];change if (if gB=gn then _ else inV (V.int (v:Int)) (nV [a,b,c]))=gn then _ else _
      rw[Oi bL,ia];by_cases ab:v∈[a,b,c]
      .rw[Ol ab];show bf #[2,#[t,2,.l S],2,?_];let dts:Dts [] H8 [V.int (a:Int),.i (b:Int),.i (c:Int)] [.i (a:Int),.i (b:Int),.i (c:Int)]:=.c (.i _)\.c (.i _) (.c (.i _) .nil);let am:∀x y:Nat,PyData.eqv (.i (x:Int)) (.i (y:Int))=decide (x=y):=λx y=>by
        rw[lK];simp[PyData.eqv];lia
       let dd:(PyData.int (v:Int)).depth<=60:=by simp[PyData.depth]
       by_cases ha:a=v
       .exact#[t,8,_,(0),5,SqT.of S,dts,.i _,dd,∅,by change PyData.eqv (.i (a:Int)) _=gn;rw[am];show Ol ha,λm hm=>(),z _ _ #[(0),5,.o\.l #[1,ha]]]
       let f0:PyData.eqv (.i (a:Int)) (.i (v:Int))=gB:=by rw[am];show Om ha
       by_cases ap:b=v
       .refine#[t,8,_,(1),5,SqT.of S,dts,.i _,dd,∅,by change PyData.eqv (.i (b:Int)) _=gn;rw[am];show Ol ap,λm hm=>?_,z _ _ #[(1),5,.o\.o (.l #[1,ap])]];obtain rfl:m=0:=();show f0
       let f1:PyData.eqv (.i (b:Int)) (.i (v:Int))=gB:=by rw[am];show Om ap
       let bA:c=v:=by
        simp only[ah,cK,or_false] at ab;rcases ab with h|h|h
        .exact (ha h.symm).elim
        .exact (ap h.symm).elim
        show h.symm
       erw[t,8,_,(2),5,SqT.of S,dts,.i _,dd,∅,by change PyData.eqv (.i (c:Int)) _=gn;rw[am];show Ol bA,λm hm=>?_,z _ _ #[(2),5,.o\.o (.o #[1,bA])]];obtain rfl|rfl:m=0\/m=1:=()
       .exact f0
       show f1
      rw[Om ab];simp only[ah,cK,or_false,not_or] at ab;show aP\z _ _ #[(3),5,.l #[1,aO ab.1,aO ab.2.1,aO ab.2.2]]
     rintro Z H9 ⟨j,rfl,rfl,bK⟩;show pA (λZ H'=>∃t' w6,Z=[gm\V.ref d,gm\.i (v:Int),gm\.r fa,gm\.i (n:Int),gm\.r mo,gm\.r t',w6]/\Same H9 H'/\H' t'*>.u [.i (rn v n F a b:Int),.i (rn v n F b c:Int),.i (rn v n F c a:Int)]) (λNX z=>?_) ?_
     .let#[y,hy,bS]:∃y:Nat,(j<3->atI [V.int (a:Int),.i (b:Int),.i (c:Int)] (((j:Int)+1)%3)*>V.int (y:Int))/\(j<3->(y∈F->a=v/\b∈F\/b=v/\c∈F\/c=v/\a∈F)/\(y∉F->(a=v->b∉F)/\(b=v->c∉F)/\(c=v->a∉F))):=by
       rcases bK with ⟨rfl,_⟩|⟨rfl,h⟩|⟨rfl,h⟩|⟨rfl,h⟩
       .exact#[(0),λz=>(),λz=>()]
       .exact#[b,λ_=>cF (j:=1) rfl,λ_=>#[λz=>.l #[h,z],λz=>#[λ_=>z,λe=>(n1\h.trans e.symm).elim,λe=>(n3\e.trans h.symm).elim]]]
       .exact#[c,λ_=>cF (j:=2) rfl,λ_=>#[λz=>.o\.l #[h,z],λz=>#[λe=>(n1\e.trans h.symm).elim,λ_=>z,λe=>(n2\h.trans e.symm).elim]]]
       erw[a,λ_=>cF (j:=0) rfl,λ_=>#[λz=>.o\.o #[h,z],λz=>#[λe=>(n3\h.trans e.symm).elim,λe=>(n2\e.trans h.symm).elim,λ_=>z]]]
      let same:(a=v->b∉F)/\(b=v->c∉F)/\(c=v->a∉F)->NX [gm\V.ref d,gm\.i (v:Int),gm\.r fa,gm\.i (n:Int),gm\.r mo,gm\.r t,gm\.i (j:Int)] H9:=λh=>by
       let#[e1,e2,e3]:=FS (n:=n) h.1 h.2.1 h.2.2;show z _ _ #[t,2,Same.refl _,by rw[e1,e2,e3];show S]
      erw[2,6,2,?_];change if decide ((j:Int)<3)=gn then _ else _
      by_cases hj:j<3
      .rw[Ol (show (j:Int)<3 by lia)];show bf ?_;erw[3,6,6,(),t,4,SqT.of S,hy hj,2,fa,2,.l\SqL.of cc,1,iP _,2,?_];change if (if gB=gn then _ else inV (V.int (y:Int)) (nV F))=gn then _ else _
       rw[Oi bL,ia];by_cases aM:y∈F
       .rw[Ol aM];show bf ?_;let#[e1,e2,e3]:=IT (n:=n) ((bS hj).1 aM) n1 n2 n3;let fv:∀z:Nat,atI [V.int (z:Int),V.int (n:Int)] (if decide ((z:Int)=(v:Int))=gn then 1 else 0)*>V.int ((if z=v then n else z:Nat):Int):=λz=>by
         by_cases h:z=v
         .rw[Oj\Ol (),Oj h];show cF (j:=1) rfl
         rw[Oi (by simp;lia),Oi h];show cF (j:=0) rfl
        erw[2,t,1,#[_,SqT.of S],λZ_ hZ=>ph (K:=[]) (a:=t) (xs:=nV [a,b,c]) (λi Z ys H'=>∃o,Z=[o,gm\.i (n:Int),gm\.i (v:Int)]/\ys=nV (([a,b,c].take i).map λz=>if z=v then n else z)/\Same H9 H'/\H' Z_*>.a ys) #[gf,5,bT hZ,aW] (by rintro i Z ys H' _ ⟨_,_,_,e,_⟩;show SqT.of (e>>S)) ?_ ?_]
        .rintro i x Z ys H' hi ⟨o,rfl,rfl,a7,a8⟩;rw[nV,aU] at hi;let#[z,hz,1]:=bQ.mp hi;let bd:i<3:=(aq.mp hz).1;erw[3,lit2,λl2 c1 c2 b0 cd=>?_];erw[3,1,.o #[2,l2,0,V.int ((if z=v then n else z:Nat):Int),5,SqL.of cd,?_,b0>>a8,?_,λH3 k3 y3=>#[2,?_,λX o e=>(k3 X (λq=>by rw[q] at e;rw[e] at hZ;cases hZ))<*(b0>>a7>>e),y3]]]
         .rw[jY];show fv z
         .rw[a_,av,aZ];simp;lia
         rw[bq,hz,bc,<-eJ];rfl
        rintro Z ys H' ⟨o,rfl,rfl,a7,a8⟩;erw[Z_,2,.l #[SqL.of a8,λt' a0=>?_]];show z _ _ #[t',2,a7.trans\bT a0,by rw[aW,e1,e2,e3];rfl]
       rw[Om aM];show aP\same ((bS hj).2 aM)
      rw[Om (show ¬(j:Int)<3 by lia)];show aP\aP (same ?_);rcases bK with ⟨_,h1,h2,h3⟩|⟨h,_⟩|⟨h,_⟩|⟨h,_⟩
      .exact#[λz=>(h1 z).elim,λz=>(h2 z).elim,λz=>(h3 z).elim]
      all_goals lia
     rintro Z ce ⟨t',w6,rfl,a1,a0⟩;let a9:=a1>>a6;erw[2,.l #[1,_,SqL.of a9],2,mo,vm,2,1,a9,(),λc3 bb cg=>?_];erw[8,1,λX o e=>(bb X\ao e ca).trans\(ad<*a1) _ _ e,cg,?_];rw[et];let tn:∀{X:gL}{xs:-V},ce X*>.u xs->X≠mo:=λe=>bI e a9 ∅;show cW (Paired.imp' (by rintro _ _ ⟨X,e1,e2⟩;erw[X,e1,(bb X\tn (a1>>e2))<*(a1>>e2)]) al)\.c #[t',1,(bb t'\tn a0)<*a0] .nil
    rintro Z H8 ⟨B,C,vm,rfl,ad,a6,al⟩;rw[aD I,b_] at al;erw[2,0,8,mo,vm,2,an<*s6<*ad,a6,al,by rw[av];show Y,bx]
   rintro Z H5 ⟨M,O,R,B,C,d,l,tc,rfl,an,L,I,Y,md⟩;rw[aD bm,LA] at md;erw[8,8,d,l,tc,1,bi<*an,L,I,Y,md.good,GV md]
 rintro Z H2 ⟨v1,M,O,R,B,C,d,l,tc,rfl,a3,L,I,Y,gc,oc⟩;rw[a_,LA] at oc;erw[2,q d l tc H2 (s1<*a3) L I Y gc λu D=>(oc u D).resolve_left ∅]
end
def Rim(ts:-Tri)(s:Nat×Nat):Prop:=s∈(ents ts).map (·.1)/\(s.2,s.1)∉(ents ts).map (·.1)
def _root_.K31.SdsAt.same{ls:-(Nat×Nat)}(s:Same H H')(h:SdsAt H vs ls):SdsAt H' vs ls:=Paired.imp' (by rintro _ _ ⟨a,e,q⟩;erw[a,e,s>>q]) h
def Iy(vs:-V)(H:Hp)(Q:VK)(T:gL)(b:-V)(ts:-Tri):Prop:=vs=[.r T]/\H T*>.a b/\ax H b ts/\↑ts<=200/\((ents ts).map (·.1)).Nodup/\
 ∀r zs rs H',H r=gf->Same H H'->H' r*>.a zs->SdsAt H' zs rs->(∀s∈rs,Rim ts s)->↑rs<=600->rs.Nodup/\(∀s,Rim ts s->s∈rs)->Q (.r r) H'
def zR:Sp:=du Iy
section
def zW:aR [↑0,↑4] [↑0] (aI oF):=.f
def Jf{f f1:gL}{fd d1:i4}(U:Fun K ↑26 ↑26 oF f fd)(mS:mg ↑29 = gf)(G:!Use 1 ↑21 [↑0] jw f1 d1) :
  !aA CX0 2 f fd [↑0] zR:=by
 show U.ok zW (!3) λ_ _ _ s _ vs _ _ hr h=>?_
 let#[T,vt,ts,1,hT,ht,hl,ab,q]:=h;let hu:=cG hr;erw[_,af (sx 1 zW.nd\uc G hr (pa1\pv 0))
  (aj\aK (dG (N:=[↑35,↑49,↑4]) (fr:=[gf,gf,gm 1]) (g:=jW [] 2\eX (cE 0) (eX (cE 1) jX)) cpK rfl (bU\cL (l8 rfl) (by rfl) mS fT (pa1\pv 1))
    (λC' s' H' fp Oo=>#[cu rfl\aG (gx 0 (⋯:([↑35,↑49,↑4]:-Str).Nodup)) (aG (gx 1 (⋯:([↑35,↑49,↑4]:-Str).Nodup)) cq),
     hU (eG\g6 hu (aT\ae (pv 1) (pa1\pv 0)) (pv 2)),aT\ae (pv 0) (pa1\pv 1)]))),?_]
 let aM:=line5000;erw[2,T,vt,ts,1,hT,ht,(),ab,λD H1 a0 s1 m=>?_];erw[2,D,1,.o #[_,m],λks vs X=>.o #[_,xf\kq (K:=[]) m X,?_,λp ix hp pm _=>?_]]
 .rw[aD\kq (K:=[]) m X,av,eR];lia
 let ad:=kq (K:=[]) m X;let lk:=aD ad;walk_at"H1 p hp H2 s2 Y";let#[am,I,n]:=#[(λi hi=>iB.mp\pm.mem_iff.mp hi:∀i∈ix,i<↑ks),sO (Paired.imp' (by rintro _ _ ⟨a,e,h⟩;erw[a,e,s2>>h]) ad:SdsAt H2 ks\(ents ts).map (·.1)) ix am,(wz (by rw[<-lk];show pm):(ix.map λi=>((ents ts).map (·.1)).getD i (0,0)).Perm ((ents ts).map (·.1)))];generalize (ix.map λi=>((ents ts).map (·.1)).getD i (0,0))=ss at I n;generalize (ix.map λi=>ks.getD i .non)=zs at I Y;let lz:=aD I;let an:ss.Nodup:=n.nodup_iff.mpr ab;let a1:↑ss<=600:=by rw[n.length_eq,av,eR];lia
 erw[p,1,#[_,SqL.of Y],λZ_ hZ=>eD (K:=[]) (a:=p) (xs:=zs) (λi Z ys H'=>∃o1 o2 rs,Z=[o1,o2,gm\.r D]/\Same H2 H'/\H' Z_*>.a ys/\SdsAt H' ys rs/\(∀s∈rs,Rim ts s)/\↑rs<=i/\rs.Nodup/\(∀s∈rs,s∈ss.take i)/\∀s∈ss.take i,Rim ts s->s∈rs) #[gf,gf,[],1,bT hZ,aW,.nil,∅,au _,.nil,∅,∅] (by rintro i Z ys H' _ ⟨_,_,_,_,e,_⟩;show SqL.of (e>>Y)) ?_ ?_]
 .rintro i y Z ys H' hi ⟨o1,o2,rs,rfl,sm,L,r,M,ap,O,inr,R⟩;let#[#[a,b],l,c,1,hc]:=cD I hi;let a2:i<↑ss:=(aq.mp l).1;let hm:(a,b)∈(ents ts).map (·.1):=n.mem_iff.mp\aJ l;let u:ss.take (i+1)=ss.take i++[(a,b)]:=by rw[bq,l];rfl
  erw[c,2,SqT.of (sm>>hc),1,9,6,?_];erw[3,lit2,λt1 H3 g1 j y3=>?_];let a3:↑ys<=600:=by rw[aD r];lia
  erw[2,D,2,DGet.t (k:=ky b a) (j>>sm>>s2>>m) y3,?_];by_cases S:(b,a)∈(ents ts).map (·.1)
  .let hv:(bu ((ents ts).map bD)\ky b a).isSome=gn:=by
    cases e:bu ((ents ts).map bD) (ky b a) with
    |none=>show (fE.mp e S).elim
    |some v=>rfl
   erw[gB,by rw[hv];rfl,aP #[0,rs,1,sm<*j,j>>L,K31.SdsAt.same j r,M,(),O,λs d=>by rw[u];show bR _\inr s d,λs d B=>by
    rw[u] at d;rcases az.mp d with h|h
    .exact R s h B
    rw[aN.mp h] at B;show (B.2 S).elim]]
  erw[gn,by rw[fE.mpr S];rfl,bf #[3,lit2,λt2 H4 g2 s4 y4=>?_]];let al:=s4>>j>>L;let tn:∀{C:gL}{xs:-V},H4 C*>.u xs->C≠Z_:=λe=>bI e al ∅;erw[al,(),λH5 k5 y5=>#[0,rs++[(a,b)],1,λC o e=>(k5 _\ao e hZ)<*(s4>>j>>sm>>e),y5,?_,?_,by rw[aE,ck];lia,?_,λs d=>?_,λs d B=>?_]]
  .exact cW (Paired.imp' (by rintro _ _ ⟨C,e1,e2⟩;erw[C,e1,by let e3:=s4>>j>>e2;show (k5 _\tn e3)<*e3]) r)\.c #[t2,1,(k5 _\tn y4)<*y4] .nil
  .intro s d;rcases az.mp d with h|h
   .exact M s h
   rw[aN.mp h];erw[hm,S]
  .rw[aQ];erw[O,∅,λx hx z hz e=>?_];rw[aN.mp hz] at e;rw[e] at hx;let nd:=an;rw[<-di (i+1) ss,u,aQ,aQ] at nd;show nd.1.2.2 _ (inr _ hx) _ ∅ rfl
  .rw[u];rcases az.mp d with h|h
   .exact bR _\inr s h
   show cU _ h
  rw[u] at d;rcases az.mp d with h|h
  .exact bR _\R s h B
  show cU _ h
 rintro Z ys H' ⟨o1,o2,rs,rfl,sm,L,r,M,ap,O,inr,R⟩;show q Z_ ys rs H' ?_ (s1<*s2<*sm) L r M () #[O,λs l=>R s (by rw[gW ()];show n.mem_iff.mpr l.1) l];show (s1<*s2).free hZ
end
def But(p:gL)(H H':Hp):Prop:=∀b o,b≠p->H b*>o->H' b*>o
def But.refl{p:gL}:But p H H:=λ_ _ _ e=>e
def But.same{p:gL}{H H' c:Hp}(h:But p H H')(s:Same H' c):But p H c:=λb o n e=>s>>(h b o n e)
def wH{ts d:-Tri}(g:Good ts)(h:(ents d).Perm\ents ts):Good d:=by erw[λt f=>?_,(h.map _).nodup_iff.mpr g.nd];let k:=g.sk;let#[a,b,c]:=t;let e:En ts a b c:=h.mem_iff.mp\dz.mpr (.l f);erw[k.ne e,k.ne\k.rot e,k.ne\k.rot (k.rot e)]
def lg20{n:Nat}(h:n<=1000):((n:Int)+1).natAbs.log2<9000:=by let e:((n:Int)+1).natAbs=n+1:=();rw[e];have:=L7 (n:=n+1) (k:=9000) ();rw[this];show cS (show n+1<2 ^ 10 by lia) (Mf ⋯ ⋯)
def oN{ts:-Tri}{x:Tri}(g:Good ts)(e:x.1≠x.2.1/\x.2.1≠x.2.2/\x.2.2≠x.1)(hf:i7 ts x=gn):Good (ts++[x]):=by
 erw[λt l=>?_,?_]
 .rcases az.mp l with h|h
  .exact g.ne t h
  rw[aN.mp h];show e
 rw[gA,bc,aQ];let#[a,b,c]:=x;let#[f,i,j]:a≠b/\b≠c/\c≠a:=e;let m:∀s∈fH (a,b,c),s∉(ents ts).map (·.1):=by intro s d;unfold i7 at hf;show On\iw.mp hf s d
 let n:(ents [(a,b,c)]).map (·.1)=[(a,b),(b,c),(c,a)]:=rfl;rw[n];erw[g.nd,?_,λs d s' o z=>m s' o (z ▸ d)];simp[f,i,j,aO f,aO i,aO j]
def K6{g:TG}{x:V}{tb:TS}{rt:VK}{bk P:St->Hp->Prop}(h:∀N:St->Hp->Prop,(∀Z' H',P Z' H'->N Z' H')->g x Z H\tb #[N,rt,bk,N]):g x Z H λb H2=>tb #[P,rt,bk,P] b H2:=h P λ_ _ z=>z
def DX(vs:-V)(H:Hp)(Q:VK)(p:gL)(q:Int×Int)(m:Nat):Prop:=vs=[.r p,.i (m:Int)]/\H p*>.a (bE q)/\cC q/\m<=16/\
 ∀r b ts c H',H r=gf->But p H H'->H' p*>.a (bE c)->cC c->H' r*>.a b->ax H' b ts->↑ts<=m->Good ts->Q (.r r) H'
def xT:Sp:=du DX
def Cov(ts:-Tri)(n:Nat):Prop:=∀c,Co ts c↔c<n
def JW{ts:-Tri}{cs:-Nat}{n:Nat}(h:Cs ts cs)(b:Cov ts n):↑cs=n:=by
 let nd:cs.Nodup:=h.1.imp λc=>bz c;have:cs.Perm (List.range n):=(AF nd rh).mpr λa=>by
  rw[iB,h.2 a];show Iff.trans ?_\b a;rw[c_];unfold flat;rw[iA];constructor
  .rintro⟨t,h1,h2⟩;erw[t,h1,‹h2›]
  rintro⟨t,h1,h2⟩;erw[t,h1,‹h2›]
 rw[this.length_eq,iz]
def Ff{ts:-Tri}{n a b x:Nat}(d:Cov ts n)(ha:a<n)(e:b<n)(f:x<n\/x=n):Cov (ts++[(b,a,x)]) (if x=n then n+1 else n):=λc=>by
 have:Co (ts++[(b,a,x)]) c↔Co ts c\/c=b\/c=a\/c=x:=by
  rw[c_,c_];constructor
  .rintro⟨t,h1,h2⟩;rcases az.mp h1 with h|h
   .exact .l #[t,h,h2]
   rw[aN] at h;subst h;show .o h2
  rintro (⟨t,h1,h2⟩|h)
  .exact#[t,bR _ h1,h2]
  erw[(b,a,x),∅,h]
 rw[this,d c]
 split<;>lia
def HJ{ts:-Tri}{n:Nat}(b:Cov ts n):Cov (ts++[(n,n+1,n+2)]) (n+3):=λc=>by
 have:Co (ts++[(n,n+1,n+2)]) c↔Co ts c\/c=n\/c=n+1\/c=n+2:=by
  rw[c_,c_];constructor
  .rintro⟨t,h1,h2⟩;rcases az.mp h1 with h|h
   .exact .l #[t,h,h2]
   rw[aN] at h;subst h;show .o h2
  rintro (⟨t,h1,h2⟩|h)
  .exact#[t,bR _ h1,h2]
  erw[(n,n+1,n+2),∅,h]
 rw[this,b c];lia
def sdD(s:Nat×Nat):PyData:=.tuple [.i (s.1:Int),.i (s.2:Int)]
def t_{ss:-(Nat×Nat)}(h:SdsAt H vs ss):Dts K H vs (ss.map sdD):=by
 induction h with
 |nil=>show .nil
 |cons q _ b=>
  let#[a,1,ha]:=q;show .c (.u (SqT.of ha)\.c (.i _) (.c (.i _) .nil)) b
def D7(ss:-(Nat×Nat)):(PyData.list\ss.map sdD).depth<=60:=by
 have:PyData.depthAll (ss.map sdD)<=1:=by
  induction ss with
  |nil=>show aV _
  |cons u us b=>
   rw[bj];change max (sdD u).depth _<=1;have:(sdD u).depth=1:=by simp[sdD,PyData.depth,PyData.depthAll]
   lia
 change PyData.depthAll _+1<=60;lia
def Hw(ds:-nc):PyData.eqv (.list ds) (.list [])=ds.isEmpty:=by cases ds<;>simp[PyData.eqv,PyData.eqvAll]
def free_of{ts:-Tri}(g:Good ts){x:Tri}(h:∀s∈fH x,∀c,¬En ts s.1 s.2 c):i7 ts x=gn:=by unfold i7;rw[iw];intro s d;show Ol λz=>?_;let#[#[#[a,b],c],h1,1]:=ai.mp z;show h (a,b) d c h1
section
def fX:aR [↑1,↑27,↑0,↑45,↑67,"_law_come",↑28,↑35,↑49,↑4,"_law_some","_law_near"] [↑1,↑27] (aI pJ):=.f
def ED{f f1 f2 f3 f4 f5:gL}{fd d1 d2 d3 d4 d5:i4}(U:Fun K ↑60 ↑60 pJ f fd)(T:bW mg)
  (GD:!Use 2 ↑13 [↑1,↑33] hJ f1 d1)
  (GT:!Use 2 ↑21 [↑0] jw f2 d2)
  (GF:!Use 2 ↑61 [↑4,↑6] t8 f3 d3)
  (GR:!Use 2 ↑26 [↑0] zR f4 d4)
  (GC:!Use 2 ↑9 [↑0] iE f5 d5) :
  !aA CX0 3 f fd [↑1,↑27] xT:=by
 show U.ok fX (!3) λ_ _ _ s H _ _ _ I h=>?_
 let#[p,q,m,1,hp,bt,hm,Qq]:=h;let hu:=cG I;erw[_,(af (sx 2 fX.nd\cz dP)
  (af (cf bP rfl (ju rfl T.range\pa1 (uc GD I\ae (pv 0) (pa1\ak bo (pv 1) ag))) (gx 3 fX.nd)
   (af (sx 4 fX.nd\uc GR I (pa1\pv 2))
  (af (sx 5 fX.nd\uc GC I (pa1\pv 2))
  (af (sx 6 fX.nd\pln T.len (pv 5))
  (af (bO (bH (kZ I.units) (pv 4) (cz dP)\nomark _) (af (c9\cP c7 eM eO dJ (pv 2) (pa1\aT (ae (pv 6)\ae (ak bo (pv 6) ag) (pa1\ak bo (pv 6) ag))))
  (aj BL)) bN)
  (af (eI (ixx bB (pv 4)\uc GD I (ae (pv 0)\pa1 (pln T.len\pv 4)))\cu rfl (aG (gx 7 fX.nd)\aG (gx 8 fX.nd) cq))
  (af (sx 9 fX.nd\uc GT I (pa1\pv 2))
  (af (mW (i:=10) fX.nd rfl (.l rfl)\ak fJ (dG (N:=["_law_x",↑35,↑49,↑4]) (fr:=[gf,gm 7,gm 8,gm 9])  cpK rfl (bU\pv 5)
    (λC' s' H' fp Oo=>#[(gx 0 (⋯:(["_law_x",↑35,↑49,↑4]:-Str).Nodup)),hU\PW.pt (iS (bH (show OpR _ (lx .NotIn) (rIn [] gn) from ko) (pv 0) (aT\ae (pv 1) (pa1\pv 2)) rfl)\iN (dO\uc GF I (ae (pv 3)\pa1 (aT\ae (pv 2) (ae (pv 1)\pa1 (pv 0)))))),(pv 0)])) (cz\pa1 (pv 6)))
  (af (mW (i:=11) fX.nd rfl (.l rfl)\ak fJ (dG (N:=["_law_x",↑35,↑49,↑67]) (fr:=[gf,gm 7,gm 8,gm 4])  cpK rfl (bU\pv 10)
    (λC' s' H' fp Oo=>#[(gx 0 (⋯:(["_law_x",↑35,↑49,↑67]:-Str).Nodup)),hU\PW.pt (gk (bH (show OpR _ (lx .In) (uH [] gB) from zp I.units) (aT\ae (pv 2) (pa1\pv 0)) (pv 3) rfl)\gH (bH (show OpR _ (lx .In) (uH [] gB) from zp I.units) (aT\ae (pv 0) (pa1\pv 1)) (pv 3) rfl)),(pv 0)])) (pv 10))
  (aj\c9 (cP c7 eM eO dJ (pv 2)\pa1 (aT\ae (pv 8) (ae (pv 7)\pa1 (ixx bB (pv 11)\uc GD I (ae (pv 0)\pa1 (pln T.len\pv 11))))))))))))))))
  (aj\aK (pv 2)))),?_]
 let ds:=line5000;erw[aV _,λr H1 a5 s1 y1=>?_];let#[d3,d4]:=dt (q:=q) (b:=(m:Int)+1) ();erw[3,6,p,q,2,s1>>hp,bt,(),lg20 (),λH2 k2 y2=>#[2,(),(),?_]];let a6:r≠p:=λz=>by rw[z,hp] at a5;cases a5
 let hN:(digO q ((m:Int)+1)).toNat<=m:=();generalize (digO q ((m:Int)+1)).toNat=N at hN;show kC (lo:=0) (n:=N) (λi Z H'=>∃o3 o4 o5 o6 o7 o8 o9 oa ob B g q' n,Z=[gm\V.ref p,gm\.i (m:Int),gm\.r r,o3,o4,o5,o6,o7,o8,o9,oa,ob]/\But p H H'/\H' p*>.a (bE q')/\cC q'/\H' r*>.a B/\ax H' B g/\↑g<=i/\Good g/\Cov g n)
  #[gf,gf,gf,gf,gf,gf,gf,gf,gf,[],[],_,(0),1,λd o nb e=>(k2 d nb)<*(s1>>e),y2,cA bt,(k2 r a6)<*y1,.nil,au _,#[∅,by simp[ents]],λc=>by simp[c_]] ?_ ?_
 .rintro i Z H4 hi ⟨o3,o4,o5,o6,o7,o8,o9,oa,ob,B,g,S,n,rfl,sm,ad,aM,ab,al,cl,M,am⟩;show K6 λNX hN=>?_;let dx:↑g<=16:=();let dy:=aD al;let fin:∀(t:gL)(u:Tri)(v:Hp)(q8:Int×Int)(n':Nat)(x3 x4 x5 x6 x7 x8 x9 xa xb:Option V),But p H v->v p*>.a (bE q8)->cC q8->v r*>.a B->ax v B g->v t*>.u [.i (u.1:Int),.i (u.2.1:Int),.i (u.2.2:Int)]->Good (g++[u])->Cov (g++[u]) n'->∀C:Hp,(∀d,d≠r->C d=v d)->C r*>.a (B++[V.ref t])->
    ∃o3 o4 o5 o6 o7 o8 o9 oa ob bw a7 q' n',[gm\V.ref p,gm\.i (m:Int),gm\.r r,x3,x4,x5,x6,x7,x8,x9,xa,xb]=[gm\V.ref p,gm\.i (m:Int),gm\.r r,o3,o4,o5,o6,o7,o8,o9,oa,ob]/\But p H C/\C p*>.a (bE q')/\cC q'/\C r*>.a bw/\ax C bw a7/\↑a7<=i+1/\Good a7/\Cov a7 n':=by
   intro t u v q8 n' x3 x4 x5 x6 x7 x8 x9 xa xb b8 p8 k8 f8 a8 ht g8 c8 C k9 y9;let tn:∀{d:gL}{xs:-V},v d*>.u xs->d≠r:=λe=>bI e f8 ∅;erw[8,8,8,_,g++[u],q8,n',1,λd o nb e=>(k9 d\ao e a5).trans\b8 d o nb e,(k9 p\aO a6)<*p8,k8,y9,?_,by rw[aE,ck];lia,g8,c8];show cW (Paired.imp' (by rintro _ _ ⟨d,X,e2⟩;erw[d,X,(k9 _\tn e2)<*e2]) a8)\.c #[t,1,(k9 _\tn ht)<*ht] .nil
  let be:∀{a b c:Nat},En g a b c->a<n/\b<n:=λ{a b c} e=>#[(am a).mp #[b,c,e],(am b).mp #[c,a,M.sk.rot e]];erw[2,r,B,g,1,ab,al,(),M.nd,λRm zs rs H5 cn s5 y5 sd cr dF _=>?_];erw[2,r,B,g,1,s5>>ab,al.same s5,(),λL cs H6 bx s6 y6 bA lcs=>?_];let bK:=JW bA am;erw[2,L,2,.l\SqL.of y6,?_];rw[a_,bK];let cv:=s5<*s6;erw[2,aV _,λz H7 hz s7 y7=>?_];let an:=cv<*s7;erw[.list\rs.map sdD,.list [],.a (SqL.of (s7>>s6>>y5))\t_ (K31.SdsAt.same s7\K31.SdsAt.same s6 sd),.a (SqL.of y7) .nil,D7 rs,2,?_];rw[Oi bL,Hw];cases rs with
  |nil=>
   show bf #[2,.l #[1,_,SqL.of (an>>ab)],3,6,2,6,lit3,λt v ht s8 y8=>?_];let a0:=an<*s8;erw[r,B,2,1,a0>>ab,(),λC k9 y9=>hN _ _ ?_];show fin t (n,n+1,n+2) v S (n+3) _ _ _ _ _ _ _ _ _ (sm.same a0) (a0>>ad) aM (a0>>ab) (al.same a0) y8 (oN M #[by change n≠n+1;lia,by change n+1≠n+2;lia,by change n+2≠n;lia] (free_of M λs hs c e=>?_)) (HJ am) C k9 y9;have:=be e;simp only[fH,ah,cK,or_false] at hs;rcases hs with rfl|rfl|rfl<;>simp only at this<;>lia
  |cons r0 rs=>
   show aP ?_;generalize cw:r0::rs=rl at *;let dK:0<↑rl:=by rw[<-cw];simp
   let dL:=aD sd;let#[X,e2]:=dt (q:=S) (b:=(↑zs:Int)) ();let#[k,hk]:∃k:Nat,digO S (↑zs:Int)=(k:Int):=#[_,(eZ X).symm];let cx:k<↑rl:=();let#[#[a,b],bS]:∃s,rl[k]?*>s:=#[_,ay cx];let#[zv,cZ,tt,1,c0]:=iT sd bS;let#[b0,c1]:=cr (a,b)\aJ bS;erw[3,2,Rm,2,.l\SqL.of (s7>>s6>>y5),p,S,2,an>>ad,aM,(),g9 () (),λv k8 y8=>?_];rw[hk];let c2:∀{d:gL}{o:HO},H4 d=gf->H7 d*>o->d≠p:=λh0 h1 z=>by rw[z,ad] at h0;cases h0
   let#[ap,b3,b4,b5,bg,c3,c4,bi,a8,c5]:=#[(λd o nb e=>(k8 d nb)<*e:∀d o,d≠p->H7 d*>o->v d*>o),(s7>>s6>>y5:H7 Rm*>.a zs),ap _ _ (c2 cn b3) b3,(s7>>s6>>c0:H7 tt*>.u [.i (a:Int),.i (b:Int)]),an>>ad,ap _ _ (bI b5 bg ∅) b5,(Paired.imp' (by rintro _ _ ⟨d,X,e2⟩;erw[d,X,by let O:=s7>>s6>>e2;show ap _ _ (bI O bg ∅) O]) sd:SdsAt v zs rl),ap _ _ a6 (an>>ab),(Paired.imp' (by rintro _ _ ⟨d,X,e2⟩;erw[d,X,by let O:=an>>e2;show ap _ _ (bI O bg ∅) O]) al:ax v B g),(s7>>y6:H7 L*>.a (nV cs))];let c6:L≠p:=λzz=>by rw[zz,s5>>ad] at bx;cases bx
   let b6:=ap _ _ c6 c5;let da:But p H v:=λd o nb e=>ap _ _ nb (an>>(sm d o nb e));let#[db,dc]:a<n/\b<n:=by let#[#[#[x,y],c],h1,h2]:=ai.mp b0;cases h2;show be h1
   let b7:a≠b:=by let#[#[#[x,y],c],h1,h2]:=ai.mp b0;cases h2;show M.sk.ne h1
   erw[Rm,zs,(k:Int),2,1,SqL.of b4,cF cZ,tt,2,SqT.of c3,1,9,6,?_];erw[2,r,B,g,1,bi,a8,(),M.nd,λD C dT s9 y9=>?_];erw[2,L,1,#[_,SqL.of (s9>>b6)],λZ_ hZ=>eD (K:=[]) (a:=L) (xs:=nV cs) (λi Z ys H'=>∃o l,Z=[o,gm\.i (a:Int),gm\.i (b:Int),gm\.r D]/\Same C H'/\H' Z_*>.a ys/\ys=nV l/\(∀x∈l,x<n/\x≠a/\x≠b/\i7 g (b,a,x)=gn)/\↑l<=i)
    #[gf,[],1,bT hZ,aW,1,∅,au _] (by rintro i Z ys H' _ ⟨_,_,_,e,_⟩;show SqL.of (e>>s9>>b6)) ?_ ?_]
   .rintro j y Z ys H' hj ⟨o,l,rfl,sj,b9,rfl,a1,ca⟩;rw[nV,aU] at hj;let#[x,hx,1]:=bQ.mp hj;let cb:=(aq.mp hx).1;let dd:x<n:=by
     show (am x).mp ?_;have:=(bA.2 x).mp\aJ hx;rw[c_];unfold flat at this;rw[iA] at this;let#[t,h1,h2]:=this;erw[t,h1,‹h2›]
    erw[3,2,lit2,λt1 Ha g1 sA yA=>?_];erw[t1,2,.o\SqT.of yA,5,2,?_];change if (if gn=gn then !inV (V.int (x:Int)) (nV [a,b]) else _)=gn then _ else _
    rw[Oj rfl,ia];by_cases a2:x∈[a,b]
    .rw[Ol a2];show aP\aP #[_,l,1,sj<*sA,sA>>b9,1,a1,()]
    rw[Om a2];show bf #[3,3,lit3,λt2 Hb g2 sB yB=>?_];erw[D,t2,g,(b,a,x),1,sB>>sA>>sj>>y9,yB,λHc sC=>?_];let cc:=(sj<*sA<*sB)<*sC;let cd:=sC>>sB>>sA>>b9;erw[2,?_];by_cases bl:i7 g (b,a,x)=gn
    .rw[bl];show bf #[2,cd,by rw[a_];lia,λH3 k3 y3=>#[_,l++[x],1,λd o e=>(k3 d\ao e hZ)<*(cc>>e),y3,by rw[mZ,eJ],λy hy=>?_,by rw[aE,ck];lia]]
     .rcases az.mp hy with h|h
      .exact a1 y h
      rw[aN.mp h];simp at a2;erw[dd,a2.1,a2.2,bl]
    rw[Bool.eq_false_iff.mpr bl];show aP #[_,l,1,cc,cd,1,a1,()]
   rintro Z ys Ha ⟨o,l,rfl,sA,dj,rfl,a1,ca⟩;rw[a_,bK] at ca;erw[2,lit1,λl1 Hb g1 sB yB=>?_];erw[Z_,l1,6,sB>>dj,yB,by rw[a_];simp only[ck];lia,λSo Hc g2 sC yC=>?_];rw[mZ,eJ] at yC;let a9:=(sA<*sB)<*sC;erw[2,So,1,#[_,SqL.of yC],λY hY=>eD (K:=[]) (a:=So) (xs:=nV (l++[n])) (λi Z ys H'=>∃o nl,Z=[o,gm\.i (a:Int),gm\.i (b:Int),gm\.r Rm]/\Same Hc H'/\H' Y*>.a ys/\ys=nV nl/\(∀x∈nl,x∈l++[n])/\↑nl<=i)
    #[gf,[],1,bT hY,aW,1,∅,au _] (by rintro i Z ys H' _ ⟨_,_,_,e,_⟩;show SqL.of (e>>yC)) ?_ ?_]
   .rintro j y Z ys H' hj ⟨o,nl,rfl,sj,ce,rfl,bb,cg⟩;rw[nV,aU] at hj;let#[x,hx,1]:=bQ.mp hj;let cb:=(aq.mp hx).1;rw[aE,ck] at cb;let dk:=aJ hx;let ch:∀{Hx:Hp},Same H' Hx->Hx Rm*>.a zs/\SdsAt Hx zs rl:=λsx=>#[sx>>sj>>a9>>s9>>b4,K31.SdsAt.same (s9<*a9<*sj<*sx) c4];let take:∀Hx:Hp,Same H' Hx->Hx Y*>.a (nV nl)/\(nV nl).length<hH/\∀H3:Hp,(∀d,d≠Y->H3 d=Hx d)->H3 Y*>.a (nV nl++[V.int (x:Int)])->∃o bm,[gm\V.int (x:Int),gm\.i (a:Int),gm\.i (b:Int),gm\.r Rm]=[o,gm\.i (a:Int),gm\.i (b:Int),gm\.r Rm]/\Same Hc H3/\H3 Y*>.a (nV nl++[V.int (x:Int)])/\nV nl++[V.int (x:Int)]=nV bm/\(∀y∈bm,y∈l++[n])/\↑bm<=j+1:=λHx sx=>by
     erw[sx>>ce,by rw[a_];lia,λH3 k3 y3=>#[_,nl++[x],1,λd o e=>(k3 d\ao e hY)<*(sx>>sj>>e),y3,by rw[mZ,eJ],λy hy=>?_,by rw[aE,ck];lia]]
     rcases az.mp hy with h|h
     .exact bb y h
     rw[aN.mp h];show dk
    erw[3,lit2,λt1 Hd g1 R yD=>?_];let#[r1,r2]:=ch R;erw[2,sdD (b,x),Rm,zs,_,.u (SqT.of yD)\.c (.i _) (.c (.i _) .nil),1,.l\SqL.of r1,t_ r2,by change max 0 (max 0 0)+1<=60;decide,2,?_];rw[Oi bL];generalize (rl.map sdD).any _=b1;cases b1 with
    |true=>show bf\bf #[2,take Hd R]
    |false=>
     show aP #[3,lit2,λt2 He g2 sE yE=>?_];let#[r1,r2]:=ch\R.trans sE;erw[2,sdD (x,a),Rm,zs,_,.u (SqT.of yE)\.c (.i _) (.c (.i _) .nil),1,.l\SqL.of r1,t_ r2,by change max 0 (max 0 0)+1<=60;decide,2,?_];rw[Oi bL];generalize (rl.map sdD).any _=b2;cases b2 with
     |true=>show bf #[2,take He\R.trans sE]
     |false=>show aP #[_,nl,1,sj.trans\R.trans sE,sE>>R>>ce,1,bb,()]
   rintro Z ys Hd ⟨o,nl,rfl,R,dl,rfl,bb,cg⟩;rw[a_,aE,ck] at cg;erw[2,Y,So,6,dl,R>>yC,by rw[a_,a_,aE,ck];lia,λNr He g3 sE yE=>?_];rw[eJ] at yE;let a3:Same v He:=(s9<*a9<*R)<*sE;let ci:He p*>.a (bE\nxt S (↑zs:Int)):=a3>>y8;let#[O,e4]:=dt (q:=nxt S (↑zs:Int)) (b:=(↑(nV (nl++(l++[n]))):Int)) (by rw[a_];simp only[aE,ck];lia);let#[a4,dm]:∃k:Nat,digO (nxt S (↑zs:Int)) (↑(nV (nl++(l++[n]))):Int)=(k:Int):=#[_,(eZ O).symm];let dV:↑(nV (nl++(l++[n])))=↑nl+(↑l+1):=by rw[a_];simp
   let dn:a4<↑(nl++(l++[n])):=by let l2:=a_ (nl++(l++[n]));lia
   let bn:(nl++(l++[n]))[a4]?*>(nl++(l++[n]))[a4]:=ay dn;generalize (nl++(l++[n]))[a4]=x at bn;let dp:x∈l++[n]:=by
    rcases az.mp (aJ bn) with h|h
    .exact bb x h
    show h
   erw[2,.l #[1,_,SqL.of (a3>>bi)],3,3,2,Nr,2,.l\SqL.of yE,p,9,ci,cA aM,(),g9 () (),λHf kf yf=>?_];rw[dm];let bd:∀d o,d≠p->He d*>o->Hf d*>o:=λd o nb e=>(kf d nb)<*e;let dr:Nr≠p:=λzz=>by rw[zz,R>>a9>>s9>>y8] at g3;cases g3
   erw[Nr,_,(a4:Int),2,1,SqL.of\bd _ _ dr yE,cF\fM bn,lit3,λt Hg ht sG yG=>?_];let cj:=sG>>(bd _ _ a6 (a3>>bi));erw[r,B,2,1,cj,(),λC k9 y9=>hN _ _ ?_];let good:Good (g++[(b,a,x)])/\(x<n\/x=n):=by
    rcases az.mp dp with h|h
    .let#[h1,h2,h3,h4]:=a1 x h;erw[oN M #[aO b7,aO h2,h3] h4,.l h1]
    rw[aN.mp h];erw[oN M #[aO b7,by change a≠n;lia,by change n≠b;lia] (free_of M λs hs c e=>?_),.o rfl];let hn:=be e;simp only[fH,ah,cK,or_false] at hs;rcases hs with rfl|rfl|rfl
    .exact c1\ai.mpr #[_,e,1]
    .simp only at hn;lia
    simp only at hn;lia
   show fin t (b,a,x) Hg _ _ _ _ _ _ _ _ _ _ _ (λd o nb e=>sG>>(bd _ _ nb (a3>>(da d o nb e)))) (sG>>yf) (cA\cA aM) cj (Paired.imp' (by rintro _ _ ⟨d,X,e2⟩;erw[d,X,by let O:=a3>>e2;show sG _ _\bd _ _ (bI O ci ∅) O]) a8) yG good.1 (Ff am db dc good.2) C k9 y9
 rintro Z H4 ⟨o3,o4,o5,o6,o7,o8,o9,oa,ob,B,g,S,n,rfl,sm,ad,aM,ab,al,cl,M,am⟩;erw[2,Qq r B g S H4 a5 sm ad aM ab al () M]
end
def nam(f:Nat->Nat)(t:Tri):Tri:=(f t.1,f t.2.1,f t.2.2)
def naE(f:Nat->Nat)(e:Ent):Ent:=((f e.1.1,f e.1.2),f e.2)
def sW{f:Nat->Nat}{ts:-Tri}:ents (ts.map\nam f)=(ents ts).map (naE f):=by
 induction ts with
 |nil=>rfl
 |cons t ts b=>
  let h1:ents ((t::ts).map\nam f)=ents [nam f t]++ents (ts.map\nam f):=by simp[ents]
  let h2:ents (t::ts)=ents [t]++ents ts:=by simp[ents]
  rw[h1,h2,bc,b];rfl
def pd{f:Nat->Nat}{ts:-Tri}(g:Good ts)(inj:∀a b,Co ts a->Co ts b->f a=f b->a=b):Good (ts.map\nam f):=by
 let k:=g.sk;erw[λt n=>?_,?_]
 .let#[#[#[a,b,c],h,1],ca,l,m]:=#[ai.mp n,(c_.mpr #[_,h,.l rfl]:Co ts a),(c_.mpr #[_,h,.o\.l rfl]:Co ts b),(c_.mpr #[_,h,.o\.o rfl]:Co ts c)];let#[o,p,q]:a≠b/\b≠c/\c≠a:=g.ne _ h;erw[λz=>o\inj _ _ ca l z,λz=>p\inj _ _ l m z,λz=>q\inj _ _ m ca z]
 rw[sW,bG];let nd:=g.nd;rw[List.Nodup,fC] at nd |-;show nd.imp_of_mem λ{x y} r s h z=>h ?_;let#[#[#[a,b],c],#[#[d,i],j],z,e,e',u,v]:=#[x,y,gY z,(r:En ts a b c),(s:En ts d i j),(z.1:f a=f d),(z.2:f b=f i)];change (a,b)=(d,i);rw[inj a d #[b,c,e] #[i,j,e'] u,inj b i #[c,a,k.rot e] #[j,d,k.rot e'] v]
def qB{f:Nat->Nat}{ts:-Tri}{u:Nat}(h:Co (ts.map\nam f) u):∃a,Co ts a/\u=f a:=by
 let#[t,d,e]:=c_.mp h;let#[#[a,b,c],hm,1]:=ai.mp d;rcases e with rfl|rfl|rfl
 .exact#[a,c_.mpr #[_,hm,.l rfl],1]
 .exact#[b,c_.mpr #[_,hm,.o\.l rfl],1]
 erw[c,c_.mpr #[_,hm,.o\.o rfl],1]
def Win(w j x:Nat):Prop:=w=0/\x=j\/w=1/\7*j<=x/\x<7*j+7\/w=2/\x+(j+1)*10 ^ 9+1<=10 ^ 60/\10 ^ 60<x+(j+2)*10 ^ 9+1
def Fo{w i j x:Nat}(h:Win w i x)(h':Win w j x):i=j:=by
 rcases h with ⟨rfl,h⟩|⟨rfl,h1,h2⟩|⟨rfl,h1,h2⟩
 .rcases h' with ⟨_,h'⟩|⟨z,_⟩|⟨z,_⟩
  .lia
  .cases z
  cases z
 .rcases h' with ⟨z,_⟩|⟨_,b,c⟩|⟨z,_⟩
  .cases z
  .lia
  cases z
 rcases h' with ⟨z,_⟩|⟨z,_⟩|⟨_,b,c⟩
 .cases z
 .cases z
 lia
def HZ{w j x:Nat}(b:j<=1000)(h:Win w j x):x<10 ^ 60:=by
 rcases h with ⟨_,h⟩|⟨_,_,h⟩|⟨_,h,_⟩
 .lia
 .lia
 lia
def vQ{l:-Nat}(nd:l.Nodup){i a:Nat}(h:l[i]?*>a):a∉l.eraseIdx i/\(l.eraseIdx i).Nodup/\(∀x∈l.eraseIdx i,x∈l)/\(l.eraseIdx i).length=↑l-1:=by
 let hi:=(aq.mp h).1;erw[λz=>?_,nd.sublist\j5 l i,λx c=>(j5 l i).subset c,nN hi];let#[j,b]:=cJ z;rw[List.getElem?_eraseIdx] at b
 split at b
 .have:=eQ nd h b;lia
 have:=eQ nd h b;lia
def pops3{n s0 s1 s2:Nat}(h:s0<n)(h1:s1<n-1)(h2:s2<n-2):∃a b c,(List.range n)[s0]?*>a/\((List.range n).eraseIdx s0)[s1]?*>b/\(((List.range n).eraseIdx s0).eraseIdx s1)[s2]?*>c/\a≠b/\b≠c/\c≠a:=by
 let f:s0<↑(List.range n):=by rw[iz];show h
 let#[g,i,o,j]:=vQ (rh (n:=n))\ay f;rw[iz] at j;let d:s1<↑((List.range n).eraseIdx s0):=();let#[l,p,m,q]:=vQ i\ay d;let e:s2<↑(((List.range n).eraseIdx s0).eraseIdx s1):=();erw[8,ay f,ay d,ay e,λz=>g ?_,λz=>l ?_,λz=>g ?_]
 .rw[z];show je d
 .rw[z];show je e
 rw[<-z];show m _\je e
def E1(l:-Nat)(k:Nat):(nV l).eraseIdx k=nV (l.eraseIdx k):=by
 induction l generalizing k with
 |nil=>rfl
 |cons a l b=>
  cases k with
  |zero=>rfl
  |succ k=>
   change _::(nV l).eraseIdx k=_;rw[b];rfl
def pz{n k:Nat}(h:k<n):seqIndex? (k:Int) n*>k:=by show (tU ?_).1;unfold ixN;rw[Oj (),Oj ()];simp
def HP{n:Nat}(h:3<=n):(n:Int)*((n:Int)-1)*((n:Int)-2)=((n*(n-1)*(n-2):Nat):Int):=by let b:(n:Int)-1=((n-1:Nat):Int):=();let c:(n:Int)-2=((n-2:Nat):Int):=();rw[b,c,Lq,Lq]
def Fm{n:Nat}(h:3<=n):0<n*(n-1)*(n-2):=Mc (Mc () ()) ()
def HN{n:Nat}(h:n<=9):n*(n-1)*(n-2)<=504:=Mb (Mb h (show n-1<=8 by lia)) (show n-2<=7 by lia)
def wY{n m:Nat}(h:3<=n)(hm:m<n*(n-1)*(n-2)):m/n/(n-1)<n-2:=by rw[Nat.div_div_eq_div_mul];show Nat.div_lt_of_lt_mul hm
def DZ(vs:-V)(H:Hp)(Q:VK)(p:gL)(q:Int×Int)(m:Nat):Prop:=vs=[.r p,.i (m:Int)]/\H p*>.a (bE q)/\cC q/\m<=16/\
 ∀r b ts c H',H r=gf->But p H H'->H' p*>.a (bE c)->cC c->H' r*>.a b->ax H' b ts->↑ts<=m->Good ts->Q (.r r) H'
def xU:Sp:=du DZ
section
def jB:aR [↑1,↑27,"_law_n",↑0,↑45,"_law_number","_law_left",↑6] [↑1,↑27] (aI ql):=.f
def EE{f f1 f2 f3:gL}{fd d1 d2 d3:i4}(U:Fun K ↑62 ↑62 ql f fd)(T:bW mg)
  (GD:!Use 2 ↑13 [↑1,↑33] hJ f1 d1)
  (GT:!Use 2 ↑21 [↑0] jw f2 d2)
  (GF:!Use 2 ↑61 [↑4,↑6] t8 f3 d3) :
  !aA CX0 3 f fd [↑1,↑27] xU:=by
 show U.ok jB (!3) λ_ _ _ s H _ _ _ v h=>?_
 let#[p,q,m,1,hp,am,hm,Qq]:=h;let hu:=cG v;erw[_,(af (sx 2 jB.nd\ak bo ag (uc GD v\ae (pv 0) (pa1 ag)))
  (af (sx 3 jB.nd\cz dP)
  (af (cf bP rfl (ju rfl T.range\pa1 (uc GD v\ae (pv 0) (pa1\ak bo (pv 1) ag))) (gx 4 jB.nd) (af (sx 5 jB.nd\uc GD v (ae (pv 0)\pa1 (ak dQ (ak dQ (pv 2)\ak fh (pv 2) ag)\ak fh (pv 2) ag)))
  (af (sx 6 jB.nd\cV (vO rfl) (by rfl) T.list ke (pa1\cV vN (by rfl) T.range Ml (pa1\pv 2)))
  (af (sx 7 jB.nd\cV km (by rfl) T.tuple kg (pa1 (dG (N:=["_law_spot","_law_left"]) (fr:=[gf,gm 6]) (te:=tBM [] ↑15 zh (bC 1)\dU (bC 0) fk) cpK rfl (bU\cz (ae (ak dR (pv 5)\pv 2)\ae (ak dR (ak kG (pv 5)\pv 2)\ak fh (pv 2) ag) (pa1\ak kG (ak kG (pv 5)\pv 2) (ak fh (pv 2) ag))))
    (λC' s' H' fp Oo=>#[gx 0 (⋯:(["_law_spot","_law_left"]:-Str).Nodup),dN,cP c7 rG rH pb (pv 1)\pa1 (pv 0)]))))
  (aj\bO (dO\uc GF v (ae (uc GT v\pa1 (pv 3))\pa1 (pv 7))) (aj\c9 (cP c7 eM eO dJ (pv 3)\pa1 (pv 7))) bN)))))
  (aj\aK (pv 3))))),?_]
 let b9:=line5000;let#[d1,d2]:=dt (q:=q) (b:=7) ⋯;erw[2,p,q,(7),1,hp,am,⋯,⋯,λH1 k1 y1=>#[6,?_]];let#[n,en,S,bn]:∃n:Nat,3+digO q 7=(n:Int)/\3<=n/\n<=9:=#[(3+digO q 7).toNat,(),(),()];change cE 2 (V.int (3+digO q 7)) _ _ _;rw[en];erw[aV _,λg H2 a5 s2 y2=>?_];let X:p≠g:=ao y1 a5;let a6:H g=gf:=(k1 g\aO X).symm.trans a5;let#[d3,d4]:=dt (q:=nxt q 7) (b:=(m:Int)+1) ();erw[3,6,p,nxt q 7,2,s2>>y1,cA am,(),lg20 (),λH3 z y3=>#[2,(),(),?_]];let hN:(digO (nxt q 7) ((m:Int)+1)).toNat<=m:=();generalize (digO (nxt q 7) ((m:Int)+1)).toNat=N at hN;show kC (lo:=0) (n:=N) (λi Z H'=>∃o4 o5 o6 o7 r j q',Z=[gm\V.ref p,gm\.i (m:Int),gm\.i (n:Int),gm\.r g,o4,o5,o6,o7]/\But p H H'/\H' p*>.a (bE q')/\cC q'/\H' g*>.a r/\ax H' r j/\↑j<=i/\Good j)
  #[gf,gf,gf,gf,[],[],2,λd o nb e=>(z d nb)<*(s2>>((k1 d nb)<*e)),y3,cA\cA am,(z g\aO X)<*y2,.nil,au _,#[∅,by simp[ents]]] ?_ ?_
 .rintro i Z H4 hi ⟨o4,o5,o6,o7,r,j,B,rfl,sm,Y,C,an,ab,bw,I⟩;let#[L,ca,cb]:=#[HP S,Fm S,HN bn];erw[3,2,6,6,.l #[(),()],2,6,6,.o #[(),()],p,B,2,Y,C,by rw[L];lia,g9 (by rw[L];lia) (by rw[L];show Ak (show ((n*(n-1)*(n-2):Nat):Int)<=504 by lia) ⋯),λH5 k5 y5=>?_];let#[d5,d6]:=dt (q:=B) (b:=(n:Int)*((n:Int)-1)*((n:Int)-2)) (by rw[L];lia);let#[num,enum]:∃num:Nat,digO B ((n:Int)*((n:Int)-1)*((n:Int)-2))=(num:Int):=#[_,(eZ d5).symm];rw[enum] at d6 |-;rw[L] at d6;let a7:num<n*(n-1)*(n-2):=();clear d6 d5;erw[3,λra bx=>?_];walk_at"H5 ra bx M s6 y6";erw[ra,n,1,y6,(),λu a8=>?_];walk_at"M u a8 H7 s7 y7";let y7:H7 u*>.a (nV\List.range n):=y7;let a9:(n:Int).natAbs.log2<9000:=g9 () (Ak (show (n:Int)<=9 by lia) ⋯);let bA:((n:Int)-1).natAbs.log2<9000:=g9 () (Ak (show (n:Int)-1<=9 by lia) ⋯);erw[3,6,(),3,6,#[(),a9],2,6,6,(),3,6,#[(),a9],2,6,6,#[(),bA],lit3,λdl H8 bK s8 y8=>?_];let ed:([V.int ((num:Int)%(n:Int)),V.int ((num:Int)/(n:Int)%((n:Int)-1)),V.int ((num:Int)/(n:Int)/((n:Int)-1))]:-V)=nV [num%n,num/n%(n-1),num/n/(n-1)]:=by
   let O:(n:Int)-1=((n-1:Nat):Int):=();rw[O];rfl
  rw[ed] at y8;let#[#[a,b,c,ha,hb,hc,n1,n2,n3],yL,bS]:=#[pops3 (n:=n) (s0:=num%n) (s1:=num/n%(n-1)) (s2:=num/n/(n-1)) (jj _ ()) (jj _ ())\wY S a7,s8>>y7,(aO\ao y7 bK:dl≠u)];erw[dl,1,#[_,SqL.of y8],λZ_ hZ=>?_];let#[bb,b0,b1,b2,bd,ap,be,aM]:=#[(ao yL hZ:u≠Z_),(cS (jj _ ()) ():num%n<100),(cS (jj _ ()) ():num/n%(n-1)<100),(cS (wY S a7) ():num/n/(n-1)<100),(λd o nb e=>s6>>((k5 d nb).trans\sm _ _ nb e):But p H M),(s6>>((k5 g\aO X)<*an):M g*>.a r),s6>>y5,(Paired.imp' (by rintro _ _ ⟨d,O,R⟩;erw[d,O,s6>>((k5 d (bI R Y ∅))<*R)]) ab:ax M r j)];generalize num%n=s0 at *;generalize num/n%(n-1)=s1 at *;generalize num/n/(n-1)=bg at *;show eD (K:=[]) (a:=dl) (xs:=nV [s0,s1,bg]) (λi Z ys H'=>∃o l,Z=[o,gm\V.ref u]/\(i=0/\l=List.range n/\ys=[]\/i=1/\l=(List.range n).eraseIdx s0/\ys=nV [a]\/i=2/\l=((List.range n).eraseIdx s0).eraseIdx s1/\ys=nV [a,b]\/i=3/\ys=nV [a,b,c])/\But u H8 H'/\H' u*>.a (nV l)/\H' Z_*>.a ys)
   #[gf,2,.l #[5,1],But.refl.same\bT hZ,bT hZ _ _ yL,aW] (by rintro i Z ys H' _ ⟨_,_,_,_,e,_⟩;show SqL.of\e _ _ bS y8) ?_ ?_
  .rintro i x Z ys H' hi ⟨o,l,rfl,ad,bt,a0,a1⟩;rw[nV,aU] at hi;let#[s,hs,1]:=bQ.mp hi;let#[y,hy,cc,cd,b3]:∃y:Nat,l[s]?*>y/\s<100/\↑ys<=3/\(i+1=0/\l.eraseIdx s=List.range n/\ys++[V.int (y:Int)]=[]\/i+1=1/\l.eraseIdx s=(List.range n).eraseIdx s0/\ys++[V.int (y:Int)]=nV [a]\/i+1=2/\l.eraseIdx s=((List.range n).eraseIdx s0).eraseIdx s1/\ys++[V.int (y:Int)]=nV [a,b]\/i+1=3/\ys++[V.int (y:Int)]=nV [a,b,c]):=by
    rcases ad with ⟨rfl,rfl,rfl⟩|⟨rfl,rfl,rfl⟩|⟨rfl,rfl,rfl⟩|⟨rfl,rfl⟩
    .cases hs;erw[a,ha,b0,∅,.o\.l #[5,1]]
    .cases hs;erw[b,hb,b1,by simp[nV],.o\.o (.l #[5,1])]
    .cases hs;erw[c,hc,b2,by simp[nV],.o\.o (.o #[5])]
    cases hs
   let b4:=(aq.mp hy).1;erw[2,.l #[1,_,SqL.of a0],2,u,nV l,(s:Int),s,V.int (y:Int),5,a0,(),(),pz (by rw[a_];show b4),by rw[nV,aU,hy];rfl,λce bi b5=>?_];erw[(bi Z_\aO bb)<*a1,(),λH3 z y3=>#[9,b3,λd o nb e=>(z d\ao e hZ).trans\(bi d nb).trans (bt _ _ nb e),(z u bb)<*(by rw[b5,E1]),y3]]
  rintro Z ys H' ⟨o,l,rfl,ad,bt,a0,a1⟩;obtain rfl:ys=nV [a,b,c]:=by
   let e3:↑(nV [s0,s1,bg])=3:=rfl;rw[e3] at ad;rcases ad with ⟨h,_⟩|⟨h,_⟩|⟨h,_⟩|⟨_,h⟩
   .cases h
   .cases h
   .cases h
   show h
  erw[Z_,2,.l #[SqL.of a1,λt ht=>?_]];walk_at"H' t ht H9 s9 y9";let a2:Same M H9:=λd o e=>s9>>(bt _ _ (ao e a8) (s8>>s7>>e));erw[2,g,r,j,1,a2>>ap,aM.same a2,(),I.nd,λD cg ch a3 hD=>?_];erw[2,D,t,j,(a,b,c),1,hD,a3>>y9,λb6 bl=>?_];let st:=(a2<*a3)<*bl;let bm:=bl>>a3>>y9;erw[2,?_];cases b7:i7 j (a,b,c) with
  |false=>
   show aP #[8,_,r,j,2,λd o nb e=>st>>(bd _ _ nb e),st>>be,cA C,st>>ap,aM.same st,(),I]
  |true=>
   let a4:=st>>ap;show bf #[2,.l #[1,_,SqL.of a4],2,g,r,2,1,a4,by rw[aD ab];lia,λci al b8=>?_];let tn:∀{d:gL}{xs:-V},b6 d*>.u xs->d≠g:=λe=>bI e a4 ∅;erw[0,8,j++[(a,b,c)],2,λd o nb e=>(al d\ao e a6)<*(st>>(bd _ _ nb e)),(al p X)<*(st>>be),cA C,b8,?_,by rw[aE,ck];lia,oN I #[n1,n2,n3] b7];show cW (Paired.imp' (by rintro _ _ ⟨d,O,R⟩;erw[d,O,(al d\tn (st>>R))<*(st>>R)]) aM)\.c #[t,1,(al t\tn bm)<*bm] .nil
 rintro Z H4 ⟨o4,o5,o6,o7,r,j,B,rfl,sm,Y,C,an,ab,bw,I⟩;erw[2,Qq g r j B H4 a6 sm Y C an ab () I]
end
def qA{f:Nat->Nat}{ts:-Tri}(g:Good ts)(inj:∀a b,Co ts a->Co ts b->f a=f b->a=b){a b c:Nat}(h:En (ts.map\nam f) a b c):∃d e i,En ts d e i/\a=f d/\b=f e/\c=f i:=by unfold En at h;rw[sW] at h;let#[#[#[d,e],i],h1,h2]:=ai.mp h;let h2:=gY h2;let j:=gY h2.1;erw[d,e,i,h1,j.1.symm,j.2.symm,h2.2.symm]
def jL{f:Nat->Nat}{ts:-Tri}{a b c:Nat}(h:En ts a b c):En (ts.map\nam f) (f a) (f b) (f c):=by unfold En;rw[sW];show ai.mpr #[_,h,1]
def tR{f:Nat->Nat}{ts:-Tri}(g:Good ts)(inj:∀a b,Co ts a->Co ts b->f a=f b->a=b){v:Nat}(E:Co ts v)(h:One (En ts) v):One (En\ts.map (nam f)) (f v):=by
 let#[F,hF,H]:=h;let k:=g.sk;let key:∀p∈F,Co ts p:=λp c=>by
  let#[q,d]:=hF.key p c;erw[q,v,k.rot d]
 let nx:∀{x y z:Nat},En ts x y z->Co ts y:=λ{x y z} e=>#[z,x,k.rot e];let s:∀{x y z:Nat},En ts x y z->Co ts z:=λ{x y z} e=>#[x,y,k.rot\k.rot e];let back:∀{p q:Nat},En (ts.map\nam f) (f v) p q->∃p' l,En ts v p' l/\p=f p'/\q=f l:=λ{p q} e=>by
  let#[u,w,A,h1,h2,m,I]:=qA g inj e;have:v=u:=inj v u E #[w,A,h1] h2;subst this;erw[w,A,h1,m,I]
 erw[F.map f,#[λz=>hF.ne\uT.mp z,?_,λi p q c d=>?_,λp c=>?_,λp c q d n=>?_,λp c o K=>?_],λp ⟨q,d⟩=>?_]
 .have:=hF.nd;rw[List.Nodup] at this |-;rw[fC];show this.imp_of_mem λ{x y} L M N z=>N\inj x y (key x L) (key y M) z
 .rw[aU] at c d;let#[p',h1,1]:=bQ.mp c;let#[l,h2,1]:=bQ.mp d;show jL\hF.ch i p' l h1 h2
 .let#[p',h1,1]:=ai.mp c;let#[q,d]:=hF.key p' h1;erw[f q,jL d]
 .let#[p',h1,1]:=ai.mp c;let#[p2,j,e,h2,1]:=back d;have:p'=p2:=inj p' p2 (key p' h1) (nx e) h2;subst this;let#[r,n]:=n;let#[B,O,C,m,_]:=back n;have:j=B:=inj j B (s e) (nx C) m;subst this;show ai.mpr #[j,hF.clF p' h1 j e #[O,C],1]
 .let#[p',h1,1]:=ai.mp c;let#[D,p2,e,1,h2]:=back K;have:p'=p2:=inj p' p2 (key p' h1) (s e) h2;subst this;show ai.mpr #[D,hF.clB p' h1 D e,1]
 let#[p2,j,e,5]:=back d;show ai.mpr #[p2,H p2 #[j,e],1]
def su{E E':Nat->Nat->Nat->Prop}(h:∀a b c,E a b c↔E' a b c)(v:Nat):One E v↔One E' v:=by
 have:E=E':=by funext a b c;show propext\h a b c
 rw[this]
def mn(a:Tri)(l:-Tri):ents (a::l)=ents [a]++ents l:=by simp[ents]
def E4{ts c:-Tri}(h:c.Sublist ts):(ents c).Sublist (ents ts):=by
 induction h with
 |slnil=>show Lv _
 |cons a _ b=>rw[mn a];show b.trans\List.sublist_append_right _ _
 |cons_cons a _ b=>rw[mn a,mn a];show Nk (Lv _) b
def sV{ts b:-Tri}(g:Good ts)(h:b.Sublist ts):Good b:=by erw[λt c=>g.ne t\h.subset c,g.nd.sublist\Lu _ ?_];show E4 h
def ET{as bs:-Tri}(g:Good as)(g':Good bs)(h:∀a,Co as a->¬Co bs a):Good (as++bs):=by
 let e:ents (as++bs)=ents as++ents bs:=by simp[ents]
 erw[λt j=>(az.mp j).elim (g.ne t)\g'.ne t,?_];rw[e,bc,aQ];erw[g.nd,g'.nd,λs l s' m z=>?_];let#[#[#[#[a,b],c],h1,h2],#[#[#[f,i],n],o,d],h2,d]:=#[ai.mp l,ai.mp m,(h2:(a,b)=s),(d:(f,i)=s')];have:(a,b)=(f,i):=by rw[h2,d,z]
 cases this;show h a #[b,c,h1] #[b,n,o]
def wI{l:-Tri}{a b c n:Nat}(g:Good (l++[(a,b,c)]))(f:¬Co (l++[(a,b,c)]) n):Good (l++[(a,b,n),(b,c,n),(c,a,n)]):=by
 let e:∀m,ents (l++m)=ents l++ents m:=λm=>by simp[ents]
 let gl:Good l:=sV g ∅;let nd:=g.nd;rw[e,bc,aQ] at nd;let#[j,o,r]:a≠b/\b≠c/\c≠a:=g.ne (a,b,c) ∅;let#[co,na,nb,i]:=#[(λx B=>c_.mpr #[(a,b,c),∅,B]:∀x,x=a\/x=b\/x=c->Co (l++[(a,b,c)]) x),(λz=>f\co n (.l z):n≠a),(λz=>f\co n (.o\.l z):n≠b),(λz=>f\co n (.o\.o z):n≠c)];let nl:∀s∈(ents l).map (·.1),s.1≠n/\s.2≠n:=λs d=>by
  let#[#[#[x,y],z],h1,1]:=ai.mp d;let h1:En l x y z:=h1;let v:∀u,Co l u->Co (l++[(a,b,c)]) u:=λu ⟨p,q,C⟩=>#[p,q,by unfold En at *;rw[e];show bR _ C];erw[λw=>f (w ▸ v x #[y,z,h1]),λw=>f (w ▸ v y #[z,x,gl.sk.rot h1])]
 let D:∀s∈(ents l).map (·.1),s≠(a,b)/\s≠(b,c)/\s≠(c,a):=λs d=>by
  let h:=nd.2.2 s d;erw[h (a,b) (by simp[ents]),h (b,c) (by simp[ents]),h (c,a) (by simp[ents])]
 erw[λt E=>?_,?_]
 .rcases az.mp E with h|h
  .exact gl.ne t h
  simp only[ah,cK,or_false] at h;rcases h with rfl|rfl|rfl
  .exact#[j,aO nb,na]
  .exact#[o,aO i,nb]
  erw[r,aO na,i]
 rw[e,bc,aQ];erw[gl.nd,?_,λs d s' A z=>?_]
 .simp[ents,j,o,r,na,nb,i,aO j,aO o,aO r,aO na,aO nb,aO i]
 subst z;let#[H,I]:=nl s d;let#[d1,d2,K]:=D s d;simp[ents] at A;rcases A with rfl|rfl|rfl|rfl|rfl|rfl|rfl|rfl|rfl
 all_goals first|show d1 rfl|show d2 rfl|show K rfl|show H rfl|show I rfl
def rtF(i:Nat):-Tri:=[(i,(i+1)%7,(i+3)%7),(i,(i+3)%7,(i+2)%7)]
def rt:-Tri:=(List.range 7).flatMap rtF
def kN:Good rt:=#[⋯,⋯]
def IP:∀i:Fin 14,∀j:Fin 13,∃t∈(rt.eraseIdx i).eraseIdx j,6=t.1\/6=t.2.1\/6=t.2.2:=⋯
def uw:∀t∈rt,t.1<7/\t.2.1<7/\t.2.2<7:=⋯
def ku{α:Type}:∀{l:List α}{i:Nat}{x:α},l[i]?*>x->(l.eraseIdx i++[x]).Perm l
 | [],i,x,h=>by simp at h
 |a::l,0,x,h=>by
  simp at h;subst h;show (fD (l₁:=l) (l₂:=[a]))
 |a::l,i+1,x,h=>(ku (l:=l) (i:=i) ‹h›).cons a
def oO{as bs:-Tri}(h:as.Perm bs):(ents as).Perm (ents bs):=h.flatMap_right _
def g_{H H1:Hp}{d t:gL}{f:-V}{g:-Tri}{u:Tri}(hf:H d*>.a f)(k:∀b,b≠d->H1 b=H b)(tr:ax H f g)(h:H t*>.u [.i (u.1:Int),.i (u.2.1:Int),.i (u.2.2:Int)]) :
  ax H1 (f++[V.ref t]) (g++[u]):=by
 let i:∀{c:gL}{xs:-V},H c*>.u xs->c≠d:=λe=>bI e hf ∅;show cW (Paired.imp' (by rintro _ _ ⟨c,l,j⟩;erw[c,l,(k _\i j)<*j]) tr)\.c #[t,1,(k _\i h)<*h] .nil
def Fu{p:gL}{c pv:-V}{d:-Tri}(b:But p H H')(f:H p*>.a pv)(h:ax H c d):ax H' c d:=
 Paired.imp' (by rintro _ _ ⟨g,i,e⟩;erw[g,i,b _ _ (bI e f ∅) e]) h
def oY{α β:Type}{F:α->β->Prop}:∀{xs:List α}{ys:List β}(k:Nat),Paired F xs ys->Paired F (xs.eraseIdx k) (ys.eraseIdx k)
 |_,_,_,.nil=>.nil
 |_,_,0,.cons _ t=>t
 |_,_,k+1,.cons h t=>.c h\oY k t
def Same.but{p:gL}(h:Same H H'):But p H H':=λ_ _ _ e=>h>>e
def FA(vs:-V)(H:Hp)(Q:VK)(p:gL)(q:Int×Int):Prop:=vs=[.r p]/\H p*>.a (bE q)/\cC q/\
 ∀r b ts c H',H r=gf->But p H H'->H' p*>.a (bE c)->cC c->H' r*>.a b->ax H' b ts->↑ts<=16->Good ts->Q (.r r) H'
def yX:Sp:=fm FA
section
def iR:aR [↑1,↑0,"_law_i","_law_way",↑45,"_law_gone",↑28] [↑1] (aI qg):=.f
def Gq{f f1 f2 f3:gL}{fd d1 d2 d3:i4}(U:Fun K ↑77 ↑77 qg f fd)(T:bW mg)(mM:mg "max" = gf)
  (GD:!Use 2 ↑13 [↑1,↑33] hJ f1 d1)
  (GC:!Use 2 ↑9 [↑0] iE f2 d2)
  (GS:!Use 2 ↑42 [↑6] tD f3 d3) :
  !aA CX0 3 f fd [↑1] yX:=by
 show U.ok iR (!2) λ_ _ _ s H _ _ _ hr h=>?_
 let#[p,q,1,hp,a7,Qq]:=h;let hu:=cG hr;erw[_,(af (sx 1 iR.nd\cz dP)
  (af (cf bP rfl (ju rfl T.range\pa1 ag) (gx 2 iR.nd)
   (af (c9\cP c7 eM eO dJ (pv 1) (pa1\aT (ae (pv 2)\ae (ak dR (ak bo (pv 2) ag) ag) (pa1\ak dR (ak bo (pv 2) ag) ag))))
  (aj\c9 (cP c7 eM eO dJ (pv 1)\pa1 (aT\ae (pv 2) (ae (ak dR (ak bo (pv 2) ag) ag)\pa1 (ak dR (ak bo (pv 2) ag) ag)))))))
  (af (sx 3 iR.nd\uc GD hr (ae (pv 0)\pa1 ag))
  (af (cf bP rfl (ju rfl T.range\pa1 (ak dR (pv 3) ag)) (gx 4 iR.nd)
   (af (sx 5 iR.nd\cP c7 rG rH pb (pv 1) (pa1\uc GD hr (ae (pv 0)\pa1 (pln T.len\pv 1))))
  (aj\bO (bH ic (pv 4) ag\nomark _) (af (sx 6 iR.nd\ak bo (cL (rP rfl) (by rfl) mM AR\pa1 (uc GC hr\pa1 (pv 1))) ag)
  (aj\sx 1 iR.nd (ak fJ (pv 1) (dG (N:=["_law_p","_law_q",↑28]) (fr:=[gf,gf,gm 6]) (g:=jW [] 2\eX (cE 0) (eX (cE 1) jX)) (te:=qQ\dU (bC 0) (dU (bC 1)\dU (bC 2) fk)) cpK rfl (bU\uc GS hr (pa1\pv 5))
    (λC' s' H' fp Oo=>#[(cu rfl\aG (gx 0 (⋯:(["_law_p","_law_q",↑28]:-Str).Nodup)) (aG (gx 1 (⋯:(["_law_p","_law_q",↑28]:-Str).Nodup)) cq)),dN,(aT\ae (pv 0) (ae (pv 1)\pa1 (pv 2)))]))))) bN)))
  (aj\aK (pv 1)))))),?_]
 let cb:=line5000;erw[aV _,λD H1 al s1 y1=>?_];let bm:D≠p:=λz=>by rw[z,hp] at al;cases al
 erw[2,⋯,⋯,?_];show kC (lo:=0) (n:=7) (λi Z H'=>∃v B,Z=[gm\V.ref p,gm\.r D,v,gf,gf,gf,gf]/\Same H H'/\H' D*>.a B/\ax H' B\(List.range i).flatMap rtF)
  #[gf,[],1,s1,y1,.nil] ?_ ?_
 .rintro i Z H2 hi ⟨v,B,rfl,sm,aM,O⟩;let cc:↑B<=100:=by
   rw[aD O,List.length_flatMap];have:((List.range i).map λa=>↑(rtF a)).sum=2*i:=by
    let e:(List.range i).map (λa=>↑(rtF a))=List.replicate i 2:=by rw[List.eq_replicate_iff];erw[∅,λb hb=>by let#[x,2]:=ai.mp hb;rfl]
    rw[e];clear e;have:∀n:Nat,(List.replicate n 2).sum=2*n:=λn=>by
     induction n with
     |zero=>rfl
     |succ n ih=>rw[List.replicate_succ,uY,ih];lia
    show this i
   lia
  erw[2,.l #[1,_,SqL.of aM],3,6,6,(⋯:(0:Int)<7),2,6,6,(⋯:(0:Int)<7),lit3,λt H3 ht s3 y3=>?_];let bn:H3 t*>.u [.i (i:Int),.i (((i+1)%7:Nat):Int),.i (((i+3)%7:Nat):Int)]:=by rw[show (0+(i:Int))=(i:Int) by lia] at y3;show y3
  let a8:=s3>>aM;erw[D,B,2,1,a8,(),λH4 k4 y4=>?_];let I:=g_ (u:=(i,(i+1)%7,(i+3)%7)) a8 k4 (O.same s3) bn;let bt:Same H H4:=λd o e=>(k4 d\ao e al)<*(s3>>sm>>e);erw[2,.l #[1,_,SqL.of y4],3,6,6,(⋯:(0:Int)<7),2,6,6,(⋯:(0:Int)<7),lit3,λt2 H5 cd s5 y5=>?_];let bw:H5 t2*>.u [.i (i:Int),.i (((i+3)%7:Nat):Int),.i (((i+2)%7:Nat):Int)]:=by rw[show (0+(i:Int))=(i:Int) by lia] at y5;show y5
  let a9:=s5>>y4;erw[D,6,a9,by rw[aE,ck];lia,λH6 L y6=>?_];let S:=g_ (u:=(i,(i+3)%7,(i+2)%7)) a9 L (I.same s5) bw;erw[9,λd o e=>(L d\ao e al)<*(s5>>bt>>e),y6,?_];rw[uW,gQ];simpa [rtF] using S
 rintro Z H2 ⟨v,B,rfl,sm,aM,O⟩;let O:ax H2 B rt:=O;let#[d1,d2]:=dt (q:=q) (b:=4) ⋯;let#[wy,ew]:∃wy:Nat,digO q 4=(wy:Int):=#[_,(eZ d1).symm];erw[2,p,q,(4),1,sm>>hp,a7,⋯,⋯,λH3 k3 y3=>?_];rw[ew] at d2 |-;erw[2,6,(⋯:(0:Int)<3),2,(),(),?_];let hw:((wy:Int)%3).toNat<=2:=();generalize ((wy:Int)%3).toNat=W at hw;let b3:But p H H3:=λd o n e=>(k3 d n)<*(sm>>e);show kC (lo:=0) (n:=W) (λi Z H'=>∃v o4 o5 o6 l r tc q',Z=[gm\V.ref p,gm\.r l,v,gm\.i (wy:Int),o4,o5,o6]/\But p H H'/\H' p*>.a (bE q')/\cC q'/\H l=gf/\H' l*>.a r/\ax H' r tc/\(i=0/\tc=rt\/(i=1/\∃j:Fin 14,tc=rt.eraseIdx j)\/i=2/\↑tc<=16/\Good tc))
  #[_,gf,gf,gf,D,B,rt,2,b3,y3,cA a7,al,(k3 D bm)<*aM,Paired.imp' (by rintro _ _ ⟨d,M,y⟩;erw[d,M,(k3 d (bI y (sm>>hp) ∅))<*y]) O,.l #[5]] ?_ ?_
 .rintro i Z H4 hi ⟨v,o4,o5,o6,l,r,tc,X,rfl,b4,am,an,ab,ap,I,ad⟩;let ad:i=0/\tc=rt\/(i=1/\∃j:Fin 14,tc=rt.eraseIdx j):=ad.imp_right λh=>h.resolve_right λ⟨z,_⟩=>();let ce:13<=↑tc/\↑tc<=14:=by
   rcases ad with ⟨_,rfl⟩|⟨_,j,rfl⟩
   .decide
   rw[nN (show (j:Nat)<↑rt from j.2)];decide
  let cg:=aD I;let#[M,y]:=dt (q:=X) (b:=(↑r:Int)) ();let#[k,hk]:∃k:Nat,digO X (↑r:Int)=(k:Int):=#[_,(eZ M).symm];let a2:k<↑tc:=();let#[#[a,b,c],a3]:∃s,tc[k]?*>s:=#[_,ay a2];let#[zv,bx,tt,1,bb]:=iT I a3;let bd:l≠p:=λz=>by rw[z,hp] at ab;cases ab
  erw[2,.l #[1,_,SqL.of ap],3,l,2,.l\SqL.of ap,p,X,2,am,an,(),g9 () (),λH5 k5 y5=>?_];rw[hk];let a4:=(k5 l bd)<*ap;erw[l,r,(k:Int),k,2,1,a4,(),(),pz (),bx,λH6 L y6=>?_];let#[b5,bA,be,b6,a5,S,bK]:=#[(λd o n e=>(k5 d n).trans\b4 _ _ n e:But p H H5),(Paired.imp' (by rintro _ _ ⟨d,M,y⟩;erw[d,M,(k5 d (bI y am ∅))<*y]) I:ax H5 r tc),((k5 tt (bI bb am ∅))<*bb:H5 tt*>.u [.i (a:Int),.i (b:Int),.i (c:Int)]),(λd o n e=>(L d\ao e ab).trans\b5 _ _ n e:But p H H6),((L p\aO bd)<*y5:H6 p*>.a (bE\nxt X (↑r:Int))),(Paired.imp' (by rintro _ _ ⟨d,M,y⟩;erw[d,M,(L d (bI y a4 ∅))<*y])\oY k bA:ax H6 (r.eraseIdx k) (tc.eraseIdx k)),(L tt (bI be a4 ∅))<*be];erw[2,7,?_];rcases ad with ⟨rfl,rfl⟩|⟨rfl,j,rfl⟩
  .exact aP #[8,_,l,8,1,b6,a5,cA an,ab,y6,S,.o\.l #[1,#[k,a2],1]]
  show bf ?_;let bS:↑(rt.eraseIdx j)=13:=by rw[nN (show (j:Nat)<↑rt from j.2)];rfl
  let b0:↑((rt.eraseIdx j).eraseIdx k)=12:=by rw[nN a2,bS]
  let ch:=aD S;erw[2,l,9,y6,S,(),λrc cs H7 ci s7 y7 bg lcs=>?_];let six:6∈cs:=by rw[bg.2];let#[t,h1,h2]:=IP j #[k,()];show iA.mpr #[t,h1,‹h2›]
  let hle:∀x∈cs,x<7:=λx hx=>by
   rw[bg.2] at hx;let#[#[t,h1,h2],h3,h2]:=#[iA.mp hx,uw t\(j5 _ _).subset ((j5 _ _).subset h1),(‹h2›:x=t.1\/x=t.2.1\/x=t.2.2)]
   lia
  erw[rc,cs.map λc:Nat=>(c:Int),1,SqL.of (by rw[y7];simp[nV]),λz=>?_,λm hm b1=>#[6,?_]]
  .rw[uT.mp z] at six;cases six
  let em:m=6:=by let#[x,hx,1]:=ai.mp hm;have:=b1 6\ai.mpr #[(6),six,1];have:=hle x hx;lia
  subst em;erw[3,tt,(a,b,c),1,s7>>bK,λZ_ zs H8 cj s8 y8 sd=>?_];let b2:=s7<*s8;erw[Z_,1,#[_,SqL.of y8],λY hY=>eD (K:=[]) (a:=Z_) (xs:=zs) (λi Z ys H'=>∃o1 v,Z=[o1,v,gm\.i 7]/\Same H8 H'/\H' Y*>.a ys/\ax H' ys (((fH (a,b,c)).take i).map λs=>(s.1,s.2,7)))
   #[gf,gf,1,bT hY,aW,.nil] (by rintro i Z ys H' _ ⟨_,_,_,e,_⟩;show SqL.of (e>>y8)) ?_ ?_]
  .rintro i x Z ys H' hi ⟨o1,b7,rfl,a0,a6,C⟩;let#[#[x1,x2],hs,c',1,b8]:=cD sd hi;erw[c',2,SqT.of (a0>>b8),1,9,6,?_];erw[3,2,lit3,λt H9 ht s9 y9=>?_];let bi:=s9>>a6;erw[bi,?_,λHn kn yn=>#[9,λd o e=>(kn d\ao e hY)<*(s9>>a0>>e),yn,?_]]
   .rw[aD C,av,aZ];simp[fH];lia
   rw[bq,hs,bc];show g_ (u:=(x1,x2,7)) bi kn (C.same s9) y9
  rintro Z ys H9 ⟨o1,b7,rfl,a0,a6,C⟩;let l3:↑zs=3:=aD sd;rw[l3] at C;let C:ax H9 ys [(a,b,7),(b,c,7),(c,a,7)]:=C;let a1:=b2<*a0;erw[l,Y,6,a1>>y6,a6,by have:=aD C;simp at this;lia,λR cl hR bl b9=>?_];let st:=a1<*bl;let ca:H R=gf:=by
   cases e:H R with
   |none=>rfl
   |some o=>
    by_cases ep:R=p
    .rw[ep,a1>>a5] at hR;cases hR
    rw[a1>>(b6 _ _ ep e)] at hR;cases hR
  erw[8,_,R,8,1,λd o n e=>st>>(b6 _ _ n e),st>>a5,cA an,ca,b9,cW (S.same st)\C.same bl,.o\.o #[1,?_,?_]]
  .rw[aE,b0];show (⋯:12+3<=16)
  show wI (wH (sV kN\j5 rt j)\oO (ku a3)) λz=>?_;let#[t,h1,h2]:=c_.mp z;let h3:=uw t\(j5 _ _).subset ((ku a3).mem_iff.mp h1);lia
 rintro Z H4 ⟨v,o4,o5,o6,l,r,tc,X,rfl,b4,am,an,ab,ap,I,ad⟩;let hh:↑tc<=16/\Good tc:=by
  rcases ad with ⟨_,rfl⟩|⟨_,j,rfl⟩|⟨_,h⟩
  .exact#[⋯,kN]
  .exact#[dw (j5 rt j).length_le ⋯,sV kN\j5 rt j]
  show h
 erw[2,Qq l r tc X H4 ab b4 am an ap I hh.1 hh.2]
end
def CO(vs:-V)(H:Hp)(Q:VK)(S T:gL)(b c:-V)(ss ts:-Tri):Prop:=vs=[.r S,.r T]/\H S*>.a b/\ax H b ss/\↑ss<=10/\Good ss/\H T*>.a c/\ax H c ts/\↑ts<=10/\Good ts/\
 ∀r d rs H',H r=gf->Same H H'->H' r*>.a d->ax H' d rs->↑rs<=20->Good rs->Q (.r r) H'
def w_:Sp:=uG CO
section
def xh:aR ["_law_one",↑38,↑53] ["_law_one",↑38] (aI oT):=.f
def C8{f f2:gL}{fd d2:i4}(U:Fun K ↑48 ↑48 oT f fd)(T:bW mg)(mM:mg "max" = gf)
  (GC:!Use 2 ↑9 [↑0] iE f2 d2) :
  !aA CX0 3 f fd ["_law_one",↑38] w_:=by
 show U.ok xh (!6) λ_ _ _ _ H _ Q _ hr h=>?_
 let#[S,T0,an,vt,ss,ts,1,hS,B,lS,gS,hT,ap,lT,gT,Qq]:=h;let hu:=cG hr;erw[_,(af (sx 2 xh.nd\ak bo (cL (rP rfl) (by rfl) mM AR\pa1 (ak fJ (uc GC hr\pa1 (pv 0))\cz (pa1\i6 iQ ag))) ag)
  (aj\aK (ak fJ (pv 0) (dG (N:=[↑6,↑53]) (fr:=[gf,gm 2]) (te:=tCB (λxs H Q=>∃p ys,xs=[.r p]/\((SqL [] H p ys/\∀l,H l=gf->Q (.r l)\upd H l (.u ys))\/(SqT [] H p ys/\Q (.r p) H)))\dU (ng (qS []\bC 0) (cE 0) (λ_ H Q=>Q gn H) (tOp (rI0 λi j=>.i (i+j)) (bC 0)\bC 1) [gf,gm 1]) fk) cpK rfl (bU\pv 1)
    (λC' s' H' fp Oo=>#[(gx 0 (⋯:([↑6,↑53]:-Str).Nodup)),dN,(cV km (by rfl) T.tuple kg\pa1 (dG (N:=[↑3,↑53]) (fr:=[gf,gm 1]) (te:=tOp (rI0 λi j=>.i (i+j)) (bC 0)\bC 1) cpK rfl (mX\pv 0)
    (λC' s' H' fp Oo=>#[(gx 0 (⋯:([↑3,↑53]:-Str).Nodup)),dN,(ak bo (pv 0)\pv 1)])))]))))),?_]
 let a2:=line5000;erw[2,S,an,ss,1,hS,B,(),λL cs H1 a3 s1 y1 aM lcs=>?_];erw[2,lit1,λl1 H2 g1 s2 y2=>?_];erw[L,l1,6,s2>>y1,y2,by rw[a_];simp only[ck];lia,λl2 H3 g2 s3 y3=>?_];erw[l2,cs.map (λc:Nat=>(c:Int))++[-1],1,SqL.of (by rw[y3];simp[nV]),∅,λm hm ab=>#[6,?_]];let#[n,hn]:∃n:Nat,m+1=(n:Int):=by have:=ab (-1) ∅;erw[(m+1).toNat,()]
 let a0:∀c,Co ss c->c<n:=λc hc=>by
  have:c∈cs:=by rw[aM.2];let#[t,h1,h2]:=c_.mp hc;show iA.mpr #[t,h1,‹h2›]
  have:=ab (c:Int)\bR _ (ai.mpr #[c,this,1]);lia
 change cE 2 (V.int (m+1)) _ _ _;rw[hn];let C:=(s1<*s2)<*s3;let ad:=C>>hT;let al:=ap.same C;let gN:Good (ts.map\nam (· + n)):=pd gT (λa b _ _ h=>‹h›);erw[3,T0,1,#[_,SqL.of ad],λZ_ hZ=>eD (K:=[]) (a:=T0) (xs:=vt) (λi Z ys H'=>∃o,Z=[o,gm\.i (n:Int)]/\Same H3 H'/\H' Z_*>.a ys/\ax H' ys\(ts.take i).map (nam (· + n)))
  #[gf,1,bT hZ,aW,.nil] (by rintro i Z ys H' _ ⟨_,_,e,_⟩;show SqL.of (e>>ad)) ?_ ?_]
 .rintro i x Z ys H' hi ⟨o,rfl,sm,D,d⟩;let#[#[#[a,b,c],hs,t,1,g],g,a4]:=#[cD al hi,(g:H3 t*>.u [.i (a:Int),.i (b:Int),.i (c:Int)]),(aq.mp hs).1];erw[2,t,1,#[_,SqT.of (sm>>g)],λY hY=>ph (K:=[]) (a:=t) (xs:=nV [a,b,c]) (λi Z ys I=>∃o,Z=[o,gm\.i (n:Int)]/\ys=nV (([a,b,c].take i).map (· + n))/\Same H' I/\I Y*>.a ys) #[gf,5,bT hY,aW] (by rintro i Z ys I _ ⟨_,_,_,e,_⟩;show SqT.of (e>>sm>>g)) ?_ ?_]
  .rintro j x Z zs M hj ⟨o,rfl,rfl,O,X⟩;rw[nV,aU] at hj;let#[z,hz,1]:=bQ.mp hj;let a5:j<3:=(aq.mp hz).1;erw[3,6,X,?_,λHn r yn=>#[2,?_,λv o e=>(r v\ao e hY)<*(O>>e),yn]]
   .rw[a_,av,aZ];simp;lia
   rw[bq,hz,bc,<-eJ];rfl
  rintro Z zs M ⟨o,rfl,rfl,O,X⟩;erw[Y,2,.l #[SqL.of X,λt' a1=>?_]];walk_at"M t' a1 H5 q y5";let st:=O<*q;let am:=st>>D;erw[am,?_,λHn r yn=>#[2,λv o e=>(r v\ao e hZ)<*(st>>sm>>e),yn,?_]]
  .rw[aD d,av,aZ];lia
  rw[bq,hs,bc];show g_ (u:=(a+n,b+n,c+n)) am r (d.same st) y5
 rintro Z ys M ⟨o,rfl,sm,D,d⟩;rw[aD al,b_] at d;let lz:=aD d;rw[av] at lz;let lv:=aD B;let y:=C<*sm;erw[S,Z_,6,y>>hS,D,(),λR H5 hR q y5=>?_];show Qq R _ _ H5 (y.free hR) (y<*q) y5 (cW (B.same\y.trans q)\d.same q) ?_ ?_
 .rw[aE,av];lia
 show ET gS gN λa ha g=>?_;have:=a0 a ha;let#[#[b,c,e],#[a',v,c',_,h2,_],h2]:=#[g,qA gT (λa b _ _ h=>‹h›) e,(h2:a=a' + n)];lia
end
def Ft{r p:gL}{c:-V}{ts:-Tri}{q:Int×Int}(d:H r*>.a c)(tr:ax H c ts)(f:H p*>.a\bE q):r≠p:=λz=>by
 rw[z,f] at d;cases d;cases tr with
 |cons h _=>
  let#[b,e,_]:=h;cases e
def DW(vs:-V)(H:Hp)(Q:VK)(p:gL)(q:Int×Int):Prop:=vs=[.r p,.i 16]/\H p*>.a (bE q)/\cC q/\
 ∀r b ts d H',r≠p->But p H H'->H' p*>.a (bE d)->cC d->H' r*>.a b->ax H' b ts->↑ts<=20->Good ts->(∀c,Co ts c->One (En ts) c)->Q (.r r) H'
def xS:Sp:=fm DW
section
def x_:aR [↑1,↑27,"_law_way"] [↑1,↑27] (aI qf):=.f
def EC{f f1 f2 f3 f4 f5 f6:gL}{fd d1 d2 d3 d4 d5 d6:i4}(U:Fun K ↑75 ↑75 qf f fd)
  (GD:!Use 3 ↑13 [↑1,↑33] hJ f1 d1)
  (GR:!Use 3 ↑77 [↑1] yX f2 d2)
  (I:!Use 3 ↑57 [↑0] tw f3 d3)
  (GB:!Use 3 ↑48 ["_law_one",↑38] w_ f4 d4)
  (S:!Use 3 ↑60 [↑1,↑27] xT f5 d5)
  (T:!Use 3 ↑62 [↑1,↑27] xU f6 d6) :
  !aA CX0 4 f fd [↑1,↑27] xS:=by
 show U.ok x_ (!2) λ_ _ _ _ H _ Q E d h=>?_
 let#[p,q,1,hp,y,Qq]:=h;erw[_,(af (sx 2 x_.nd\uc GD d (ae (pv 0)\pa1 ag))
  (af (bO (PW.pt\iS (bH ic (pv 2) ag\nomark _) (iN\bH z7 (pv 1) ag (nomark _))) (aj\aK (uc I d\pa1 (uc GR d\pa1 (pv 0)))) bN)
  (af (bO (bH ic (pv 2) ag\nomark _) (aj\aK (uc I d\pa1 (uc GB d\ae (uc S d\ae (pv 0) (pa1\ak kG (pv 1) ag)) (pa1\uc T d (ae (pv 0)\pa1 (ak kG (pv 1) ag)))))) bN)
  (af (bO (bH ni (pv 2) ag\nomark _) (aj\aK (uc I d\pa1 (uc T d\ae (pv 0) (pa1\pv 1)))) bN)
  (aj\aK (uc I d\pa1 (uc S d\ae (pv 0) (pa1\pv 1)))))))),?_]
 let#[d1,d2]:=dt (q:=q) (b:=8) ⋯;erw[2,p,q,(8),1,hp,y,⋯,⋯,λH1 k1 B=>?_];let b1:But p H H1:=λu o n e=>(k1 u n)<*e;let end_:∀(R:gL)(c:-V)(ts:-Tri)(L:Int×Int)(H2:Hp),But p H1 H2->H2 p*>.a (bE L)->cC L->H2 R*>.a c->ax H2 c ts->↑ts<=20->Good ts->tw [.r R] H2 Q E:=by intro R c ts L H2 i g j l tr C m;erw[R,c,ts,1,l,tr,C,m,λr ab ad X N Y M l3 g3 o3=>?_];show Qq r ab ad L X (Ft Y M (N>>g)) (λu o n e=>N>>(i u o n\b1 u o n e)) (N>>g) j Y M () g3 o3
 erw[2,7,?_];generalize digO q 8=v at *;by_cases Z:v=0
 .subst Z;show bf #[2,6,2,bf ?_];erw[2,p,2,B,cA y,λR c ts x H2 D i g j l tr C m=>?_];show end_ R c ts x H2 i g j l tr () m
 rw[show decide (V.int v=V.int 0)=gB from Om λz=>Z\V.int.inj z];show aP\aP #[2,7,?_];by_cases h1:v=1
 .subst h1;show bf ?_;erw[3,6,#[⋯,⋯],p,_,(8),1,B,cA y,⋯,λR c ts x H2 D i g j l tr C m=>?_];erw[3,6,#[⋯,⋯],p,_,(8),1,g,j,⋯,λR3 al am q3 X a7 O an ap aM M a8 a0=>?_];let a1:R≠p:=λz=>by rw[z,B] at D;cases D
  erw[R,R3,c,al,ts,am,1,O _ _ a1 l,Fu O g tr,(),m,aM,M,(),a0,λR4 a2 a3 H4 a9 s4 a4 a5 bb a6=>?_];show end_ R4 a2 a3 q3 H4 (λu o n e=>s4>>(O u o n\i u o n e)) (s4>>an) ap a4 a5 () a6
 rw[show decide (V.int v=V.int 1)=gB from Om λz=>h1\V.int.inj z];show aP #[2,6,2,?_];change if decide (v<5)=gn then _ else _
 by_cases h5:v<5
 .rw[Ol h5];show bf ?_;erw[3,p,_,(16),1,B,cA y,⋯,λR c ts x H2 D i g j l tr C m=>?_];show end_ R c ts x H2 i g j l tr () m
 rw[Om h5];show aP ?_;erw[3,p,_,(16),1,B,cA y,⋯,λR c ts x H2 D i g j l tr C m=>?_];show end_ R c ts x H2 i g j l tr () m
end
def Jx(cl:-Nat)(d v:Nat):(nV cl).take d++V.int (v:Int)::(nV cl).drop d=nV (cl.take d++v::cl.drop d):=by unfold nV;rw[bc,bj,AB,LS]
def nmV(x:Nat×Nat):Key×V:=(Sum.inl (x.1:Int),V.int (x.2:Int))
def t4{nm:-(Nat×Nat)}{c:Nat}(h:c∉nm.map (·.1)):bu (nm.map nmV) (Sum.inl (c:Int):Key)=gf:=by
 induction nm with
 |nil=>simp[bu]
 |cons x nm b=>
  rw[bj,ah,not_or] at h;rw[bj,gz λz=>h.1 ?_]
  .exact b h.2
  have:(x.1:Int)=(c:Int):=oe z;lia
def mU{nm:-(Nat×Nat)}{c x:Nat}(h:c∉nm.map (·.1)):bV (nm.map nmV) (Sum.inl (c:Int):Key) (V.int (x:Int))=(nm++[(c,x)]).map nmV:=by rw[my _\t4 h,bc];rfl
def nmF(nm:-(Nat×Nat))(c:Nat):Nat:=(nm.lookup c).getD 0
def iU{nm:-(Nat×Nat)}{c:Nat}(h:c∈nm.map (·.1)):∃k x:Nat,nm[k]?*>(c,x)/\bu (nm.map nmV) (Sum.inl (c:Int):Key)*>V.int (x:Int)/\nmF nm c=x:=by
 induction nm with
 |nil=>cases h
 |cons y nm f=>
  let#[b,x]:=y;by_cases e:b=c
  .subst e;erw[(0),x,1,iG (p:=nmV (b,x)) (r:=nm.map nmV) rfl,by simp[nmF]]
  rw[bj] at h;let#[k,g,h1,h2,d]:=f ((ah.mp h).resolve_left λz=>e z.symm);erw[k+1,g,h1,?_,?_]
  .rw[bj,gz λz=>e ?_]
   .exact h2
   have:(b:Int)=(c:Int):=oe z;lia
  have:(c==b)=gB:=‹λz:c=b=>e z.symm›
  unfold nmF at d |-;rw[jg,this];show d
def DU(vs:-V)(H:Hp)(Q:VK)(p T:gL)(q:Int×Int)(d:-V)(ts:-Tri):Prop:=vs=[.r p,.r T]/\H p*>.a (bE q)/\cC q/\H T*>.a d/\T≠p/\ax H d ts/\↑ts<=200/\Good ts/\
 ∀r e b f H',H r=gf->But p H H'->H' p*>.a (bE f)->cC f->H' r*>.a e->ax H' e b->↑b=↑ts->Good b->(∀u,Co b u->u<10 ^ 60)->((∀c,Co ts c->One (En ts) c)->∀c,Co b c->One (En b) c)->Q (.r r) H'
def xQ:Sp:=jU DU
section
def iM:aR [↑1,↑0,"_law_way",↑22,↑3,↑12,"_law_i","_law_far"] [↑1,↑0] (aI qd):=.f
def EB{f f1 f2:gL}{fd d1 d2:i4}(U:Fun K ↑59 ↑59 qd f fd)(T:bW mg)
  (GD:!Use 1 ↑13 [↑1,↑33] hJ f1 d1)
  (GC:!Use 1 ↑9 [↑0] iE f2 d2) :
  !aA CX0 2 f fd [↑1,↑0] xQ:=by
 show U.ok iM (!5) λ_ _ _ _ H _ Q _ X h=>?_
 let#[p,T0,q,vt,ts,1,hp,bt,hT,bw,ht,hl,g,Qq]:=h;let hu:=cG X;erw[_,(af (sx 2 iM.nd\uc GD X (ae (pv 0)\pa1 ag))
  (af (sx 3 iM.nd\cz dP)
  (af (cf bP rfl (bU\uc GC X (pa1\pv 1)) (gx 4 iM.nd)\aj (c9\cP c7 vd AV sy (pv 3) (ae (uc GD X\ae (pv 0) (pa1\ak bo (pln T.len\pv 3) ag))\pa1 (pv 4))))
  (af (sx 5 iM.nd iJ)
  (af (cf bP rfl (kQ rfl T.enum\pa1 (pv 3)) (cu rfl\aG (gx 6 iM.nd) (aG (gx 4 iM.nd) cq)) (af (sx 7 iM.nd\ak fh (ak fh (ak fh (ak qt ag ag) ag)\ak dQ (ak bo (pv 6) ag) (ak qt ag ag)) (uc GD X\ae (pv 0) (pa1\ak qt ag ag)))
  (aj\gF hu (pv 5) (pv 4) (ixx bB (cz\ae (pv 6) (ae (ak bo (ak dQ ag\pv 6)\uc GD X (ae (pv 0)\pa1 ag))\pa1 (pv 7)))\pv 2) rfl)))
  (aj\aK (dG (N:=[↑6,↑12]) (fr:=[gf,gm 5]) (te:=tCB (λxs H Q=>∃p ys,xs=[.r p]/\((SqL [] H p ys/\∀l,H l=gf->Q (.r l)\upd H l (.u ys))\/(SqT [] H p ys/\Q (.r p) H)))\dU (ng (qS []\bC 0) (cE 0) (λ_ H Q=>Q gn H) (m_ (bC 1)\bC 0) [gf,gm 1]) fk) cpK rfl (bU\pv 1)
    (λC' s' H' fp Oo=>#[gx 0 (⋯:([↑6,↑12]:-Str).Nodup),dN,cV km (by rfl) T.tuple kg\pa1 (dG (N:=[↑3,↑12]) (fr:=[gf,gm 1]) (te:=m_ (bC 1)\bC 0) cpK rfl (mX\pv 0)
    (λC2 s2 H2 c8 da=>#[gx 0 (⋯:([↑3,↑12]:-Str).Nodup),dN,f_ hu (pv 1) (pv 0) λ_ _=>rfl]))])))))))),?_]
 let db:=line5000;let#[d1,d2]:=dt (q:=q) (b:=3) ⋯;let#[r,ew]:∃r:Nat,digO q 3=(r:Int):=#[_,(eZ d1).symm];erw[2,p,q,(3),1,hp,bt,⋯,⋯,λH1 k1 y1=>?_];rw[ew] at d2 |-;let dc:r<3:=();erw[aV _,λch H2 bx s2 y2=>?_];let a0:p≠ch:=ao y1 bx;let b7:H ch=gf:=(k1 ch\aO a0).symm.trans bx;let b8:=s2>>((k1 T0 bw)<*hT);let b9:ax H2 vt ts:=Paired.imp' (by rintro _ _ ⟨m,D,I⟩;erw[m,D,s2>>((k1 m (bI I hp ∅))<*I)]) ht;erw[2,T0,vt,ts,1,b8,b9,hl,λr0 cs H3 bA s3 y3 bK dd=>?_];let ca:r0≠p:=aO\ao (s2>>y1) bA;let cb:r0≠ch:=aO\ao y2 bA;erw[r0,1,#[_,SqL.of y3],dM (K:=[]) (a:=r0) (xs:=nV cs) (λi Z H'=>∃L cl q',Z=[gm\V.ref p,gm\.r T0,gm\.i (r:Int),gm\.r ch,L,gf,gf,gf]/\(∀b o,b≠p->b≠ch->H3 b*>o->H' b*>o)/\H' p*>.a (bE q')/\cC q'/\H' ch*>.a (nV cl)/\cl.Perm\cs.take i)
  #[gf,[],2,λ_ _ _ _ e=>e,s3>>s2>>y1,cA bt,s3>>y2,uO _] (by rintro i Z H' _ ⟨_,_,_,_,e,_⟩;show SqL.of\e _ _ ca cb y3) ?_ ?_]
 .rintro i x Z H4 hi ⟨L,cl,q4,rfl,sm,a1,a2,ab,M⟩;rw[nV,aU] at hi;let#[v,hv,1]:=bQ.mp hi;let cc:=(aq.mp hv).1;let bS:↑(nV cl)=i:=by
   rw[a_,M.length_eq,aZ];lia
  erw[2,.l #[1,_,SqL.of ab],3,ch,nV cl,1,.l\SqL.of ab,6,p,q4,2,a1,a2,(),by rw[bS];show lg20 (),λH5 k5 y5=>?_];let#[cd,ce]:=dt (q:=q4) (b:=(↑(nV cl):Int)+1) ();let#[d,hd]:∃d:Nat,digO q4 ((↑(nV cl):Int)+1)=(d:Int):=#[_,(eZ cd).symm];rw[hd] at ce |-;let a3:=(k5 ch\aO a0)<*ab;erw[2,ch,nV cl,d,2,1,a3,(),(),λO k6 y6=>?_];erw[_,cl.take d++v::cl.drop d,2,λm o n1 n2 e=>(k6 m n2).trans\(k5 m n1).trans (sm _ _ n1 n2 e),(k6 p a0)<*y5,cA a2,by rw[y6,Jx],?_];let D:cs.take (i+1)=cs.take i++[v]:=by rw[bq,hv];rfl
  rw[D];show List.Perm.trans List.perm_middle ?_;rw[di];show (List.Perm.cons v M).trans\fD (l₁:=[v]) (l₂:=cs.take i)
 rintro Z H4 ⟨L,cl,q4,rfl,sm,a1,a2,ab,M⟩;rw[a_,b_] at M;show λn H5 a7 s5 y5=>?_;let bS:↑cl<=600:=by rw[M.length_eq];lia
 let cg:cl.Nodup:=M.nodup_iff.mpr (bK.1.imp λh=>bz h);let a8:p≠n:=ao a1 a7;let a3:=s5>>ab;let ci:ch≠n:=ao ab a7;erw[2,ch,nV cl,1,SqL.of a3,kJ (K:=[]) (a:=ch) (xs:=nV cl) (λj Z H'=>∃L o6 o7 nm q',Z=[gm\V.ref p,gm\.r T0,gm\.i (r:Int),gm\.r ch,L,gm\.r n,o6,o7]/\(∀b o,b≠p->b≠n->H5 b*>o->H' b*>o)/\H' p*>.a (bE q')/\cC q'/\H' n*>.k (nm.map nmV)/\nm.map (·.1)=cl.take j/\∀k c x,nm[k]?*>(c,x)->Win r k x)
  #[_,gf,gf,[],2,λ_ _ _ _ e=>e,s5>>a1,a2,y5,1,λk c x h=>by simp at h] (by rintro j Z H' _ ⟨_,_,_,_,_,_,e,_⟩;show SqL.of\e _ _ (aO a0) ci a3) ?_ ?_]
 .rintro j x pt Z O hj ⟨L,o6,o7,nm,y,rfl,a9,a4,am,bb,R,an⟩ cj;rw[nV,aU] at hj;let#[c,S,1]:=bQ.mp hj;let dj:=(aq.mp S).1;walk_at"O pt cj H7 s7 y7";erw[pt,2,SqT.of y7,1,9,6,?_];let cp:∀k:Int,0<=k->k<=100->CPow 10 k:=λk h1 h2=>#[h1,(),⋯];let cn:=s7>>a4;erw[6,cp _ ⋯ ⋯,6,2,6,6,cp _ ⋯ ⋯,6,.l #[(),()],6,2,6,cp _ ⋯ ⋯,p,y,(10:Int) ^ 9,1,cn,am,⋯,⋯,λH8 k8 y8=>#[6,?_]];let#[f1,f2]:=dt (q:=y) (b:=(10:Int) ^ 9) ⋯;let#[C,e9]:∃C:Nat,digO y ((10:Int) ^ 9)=(C:Int):=#[_,(eZ f1).symm];rw[e9] at f2;let dk:C<10 ^ 9:=();change cE 7 (V.int (10 ^ 60-1-((j:Int)+1)*10 ^ 9-digO y ((10:Int) ^ 9))) _ _ _;rw[e9];let cr:(10:Int) ^ 60-1-((j:Int)+1)*10 ^ 9-(C:Int)=((10 ^ 60-1-(j+1)*10 ^ 9-C:Nat):Int):=();rw[cr];erw[3,6,.l #[⋯,⋯],2,p,_,(7),1,y8,cA am,⋯,⋯,λH9 k9 y9=>#[6,?_]];let#[f3,f4]:=dt (q:=nxt y ((10:Int) ^ 9)) (b:=7) ⋯;let#[d7,e7]:∃d7:Nat,digO (nxt y ((10:Int) ^ 9)) 7=(d7:Int):=#[_,(eZ f3).symm];rw[e7] at f4;erw[2,lit3,λl bd dl be a5=>?_];rw[show ([V.int (j:Int),(λi j=>V.int (i+j)) (7*(j:Int))\digO (nxt y ((10:Int) ^ 9)) 7,V.int ((10 ^ 60-1-(j+1)*10 ^ 9-C:Nat):Int)]:-V)=nV [j,7*j+d7,10 ^ 60-1-(j+1)*10 ^ 9-C] by rw[e7];rfl] at a5;let#[x,hx,hw]:∃x:Nat,[j,7*j+d7,10 ^ 60-1-(j+1)*10 ^ 9-C][r]?*>x/\Win r j x:=by
   obtain rfl|rfl|rfl:r=0\/r=1\/r=2:=()
   .exact#[2,.l #[5]]
   .exact#[2,.o\.l #[1,(),()]]
   erw[2,.o\.o #[1,(),()]]
  let cv:bd n*>.k (nm.map nmV):=be>>((k9 n\aO a8).trans\(k8 n\aO a8).trans (s7>>bb));let b0:↑nm=j:=by have:=congrArg List.length R;rw[av,aZ] at this;lia
  let cw:c∉nm.map (·.1):=by rw[R];intro z;let#[k,B]:=cJ z;let b1:=(aq.mp B).1;rw[aZ] at b1;rw[gR ()] at B;have:=eQ cg B S;lia
  erw[2,l,0,V.int (x:Int),5,SqL.of a5,cF (by rw[nV,aU,hx];rfl),3,n,2,DPut.k (k:=Sum.inl (c:Int)) cv (by rw[av];lia),?_];rw[mU cw];walk_at"bd n dm b2 cx";erw[8,nm++[(c,x)],2,λm o n1 n2 e=>?_,(b2 p a8)<*(be>>y9),cA\cA am,cx,?_,λk c' x' h=>?_]
  .exact (b2 m n2).trans (be>>((k9 m n1).trans\(k8 m n1).trans (s7>>(a9 _ _ n1 n2 e))))
  .rw[bc,R,bq,S];rfl
  by_cases B:k<↑nm
  .rw[bY B] at h;show an k c' x' h
  let cZ:=(aq.mp h).1;rw[aE,ck] at cZ;let ek:k=↑nm:=();rw[ek,fB\au _,nY] at h;cases h;rw[ek,b0];show hw
 rintro Z O ⟨L,o6,o7,nm,y,rfl,a9,a4,am,bb,R,an⟩;rw[a_,b_] at R;let st:But p H O:=λm o nb e=>by
  let e3:H3 m*>o:=s3>>(s2>>((k1 m nb)<*e));let e4:H4 m*>o:=sm _ _ nb (ao e b7) e3;show a9 _ _ nb (ao e4 a7) (s5>>e4)
 let b3:=st _ _ bw hT;let b4:ax O vt ts:=Paired.imp' (by rintro _ _ ⟨m,D,I⟩;erw[m,D,st _ _ (bI I hp ∅) I]) ht;let a6:∀c,Co ts c->c∈nm.map (·.1):=λc S=>by
  rw[R,M.mem_iff,bK.2];let#[t,bg,hu]:=c_.mp S;show iA.mpr #[t,bg,‹hu›]
 let b0:↑nm<=600:=by have:=congrArg List.length R;rw[av] at this;lia
 let inj:∀a b,Co ts a->Co ts b->nmF nm a=nmF nm b->a=b:=λa b ha hb e=>by
  let#[k,x,h1,_,h3]:=iU\a6 a ha;let#[k',x',bi,_,c0]:=iU\a6 b hb;let ex:x=x':=by rw[<-h3,<-c0,e]
  subst ex;let ek:=Fo (an _ _ _ h1)\an _ _ _ bi;subst ek;rw[h1] at bi;show (gY\df bi).1
 let c1:∀a,Co ts a->nmF nm a<10 ^ 60:=λa ha=>by
  let#[k,x,h1,_,h3]:=iU\a6 a ha;let B:=(aq.mp h1).1;rw[h3];show HZ ()\an _ _ _ h1
 erw[2,T0,1,#[_,SqL.of b3],λZ_ hZ=>eD (K:=[]) (a:=T0) (xs:=vt) (λi Z ys H'=>∃o,Z=[o,gm\V.ref n]/\ax H' ys ((ts.take i).map\nam (nmF nm))/\Same O H'/\H' Z_*>.a ys) #[gf,1,.nil,bT hZ,aW] (by rintro i Z ys H' _ ⟨_,_,_,e,_⟩;show SqL.of (e>>b3)) ?_ ?_]
 .rintro i x Z ys H' hi ⟨o,rfl,ap,ad,bl⟩;let#[#[#[a,b,c],hs,t,1,hb],hb,b5,bg,cc]:=#[cD b4 hi,(hb:O t*>.u (nV [a,b,c])),ad>>hb,aJ hs,(aq.mp hs).1];let dn:↑ys<=200:=by rw[aD ap,av,aZ];lia
  let c2:∀z∈[a,b,c],Co ts z:=λz hz=>by
   show c_.mpr #[_,bg,?_];simpa using hz
  erw[2,t,1,#[_,SqT.of b5],λY hY=>ph (K:=[]) (a:=t) (xs:=nV [a,b,c]) (λk Z aM al=>∃o,Z=[o,gm\V.ref n]/\aM=nV (([a,b,c].take k).map\nmF nm)/\Same H' al/\al Y*>.a aM) #[gf,5,bT hY,aW] (by rintro k Z aM al _ ⟨_,_,_,e,_⟩;show SqT.of (e>>b5)) ?_ ?_]
  .rintro k x Z aM al B ⟨o,rfl,rfl,sY,bm⟩;rw[nV,aU] at B;let#[#[z,hz,1],b1,#[_,x',_,h2,h3]]:=#[bQ.mp B,((aq.mp hz).1:k<3),iU\a6 z (c2 z\aJ hz)];subst h3;erw[3,n,V.int (nmF nm z:Int),1,h2 ▸ DGet.k (k:=Sum.inl (z:Int)) (sY>>ad>>bb),bm,?_,λHn kn yn=>#[2,?_,λm o e=>(kn m\ao e hY)<*(sY>>e),yn]]
   .rw[a_,av,aZ];have:↑([a,b,c]:-Nat)=3:=rfl;lia
   rw[bq,hz,bc,<-eJ];rfl
  rintro Z aM al ⟨o,rfl,rfl,sY,bm⟩;erw[Y,2,.l #[SqL.of bm,λt' c3=>?_]];walk_at"al t' c3 H9 s9 y9";let b6:=s9>>sY>>bl;let tn:∀{m:gL}{xs:-V},H9 m*>.u xs->m≠Z_:=λe=>bI e b6 ∅;let et:(ts.take (i+1)).map (nam\nmF nm)=(ts.take i).map (nam\nmF nm)++[nam (nmF nm) (a,b,c)]:=by rw[bq,hs,bc];rfl
  erw[b6,(),λbd bn a5=>#[2,?_,λm o e=>?_,a5]]
  .rw[et];show cW (Paired.imp' (by rintro _ _ ⟨m,D,I⟩;erw[m,D,by let e3:=s9>>sY>>I;show (bn _\tn e3)<*e3]) ap)\.c #[t',1,(bn _\tn y9)<*y9] .nil
  show (bn _\ao e hZ)<*(s9>>sY>>ad>>e)
 rintro Z ys H' ⟨o,rfl,ap,ad,bl⟩;rw[aD b4,b_] at ap;let c4:H Z_=gf:=by
  cases e:H Z_ with
  |none=>rfl
  |some o=>
   let c5:Z_≠p:=λz=>by rw[z,a4] at hZ;cases hZ
   rw[st _ _ c5 e] at hZ;cases hZ
 show Qq Z_ ys _ y H' c4 (st.same ad) (ad>>a4) am bl ap (av ..) (pd g inj) (λu hu=>by
  let#[a,ha,1]:=qB hu;show c1 a ha) λc6 c S=>by
  let#[a,ha,1]:=qB S;show tR g inj ha\c6 a ha
end
structure gq(P:jl)(w:lp)(K:W.Frag)(mg:Str->Option gE)(base:js)(C:gL)(n:Nat)(x:Str)(ps:-Str)(sp:Sp)(f:gL)(fd:i4):Prop where
 g:!aA CX0 n f fd ps sp
 b:Binds K fd ps []
 m:Meth K C x f
def nA{u:TT}{Q:Bool->Hp->Prop}(h:u Z H Q):uv (tOrK u Z Q) gn H:=aP (A:=Q gn H) h
def ik{t u:TS}{D:Ends}(h:u D Z H):uv (tIfK t u D Z) gn H:=aP (A:=t D Z H) h
structure qU(K:W.Frag):Prop where
 t:W.kitOne K (.t ↑23) (.t ↑23)*>gn
 i:W.kitOne K (.t "int") (.t "int")*>gn
 b:W.kitOne K (.t "int") (.t "bool")*>gB
def DM(vs:-V)(H:Hp)(Q:VK)(n:Int):Prop:=vs=[.i n]/\Q (.bl gn) H
def xN:Sp:=sPx1 DM
def BI(vs:-V)(H:Hp)(Q:VK)(n:Nat):Prop:=vs=[.i (n:Int)]/\Q (.bl gn) H
def oz:Sp:=sPx1 BI
section
def FL:aR [↑40] [↑40] (aI p9):=.f
def Es{f:gL}(U:Fun K ↑92 ↑92 p9 f fd)(T:bW mg)(F:qU K):!aA CX0 1 f fd [↑40] xN:=by
 show U.ok FL (!1) λ_ _ _ _ _ _ _ _ _ h=>?_
 let#[n,1,q]:=h;erw[_,aj\aK (hX (cL (oP (c:="int")) (by rfl) T.isi u9\ae (pv 0) (pa1\pS (v:=.ty "int") rfl T.int j_ rfl))
  (jJ\zj (cL (oP (c:="bool")) (by rfl) T.isi u9\ae (pv 0) (pa1\pS (v:=.ty "bool") rfl T.bool Nn rfl)))),?_]
 erw[2,0,gn,1,.i n,F.i,gn,1,bf #[2,0,gB,1,.i n,F.b,gB,1,q]]
def Ca:aR [↑40] [↑40] (aI oM):=.f
def BO{f b:gL}{fd d1:i4}(U:Fun K ↑43 ↑43 oM f fd)(G:!Use 1 ↑92 [↑40] xN b d1) :
  !aA CX0 2 f fd [↑40] oz:=by
 show U.ok Ca (!1) λ_ _ _ _ H _ Q _ c h=>?_
 let#[n,1,q]:=h;erw[_,aj\aK (hX (uc G c\pa1 (pv 0))\jJ (fg KQ (pv 0) ag\nomark _)),?_];erw[2,(n:Int),1,gn,1,bf #[2,6,?_]];change Q (.bl (decide ((n:Int) ≥ 0))) H;rw[Ol ()];show q
end
def BH(vs:-V)(H:Hp)(Q:VK)(t:gL)(x:Tri):Prop:=vs=[.r t]/\H t*>.u [.i (x.1:Int),.i (x.2.1:Int),.i (x.2.2:Int)]/\(x.1≠x.2.1/\x.2.1≠x.2.2/\x.2.2≠x.1)/\Q (.bl gn) H
def vX:Sp:=fm BH
section
def oA:aR [↑40,"a","b","c"] [↑40] (aI oK):=.f
def BN{f l:gL}{fd d1:i4}(U:Fun K ↑73 ↑73 oK f fd)(T:bW mg)(F:qU K)(G:!Use 2 ↑43 [↑40] oz l d1) :
  !aA CX0 3 f fd [↑40] vX:=by
 show U.ok oA (!2) λ_ _ _ _ H _ _ _ e h=>?_
 let#[t,#[a,b,c],1,d,#[g,i,j],q]:=h;let d:H t*>.u [.i (a:Int),.i (b:Int),.i (c:Int)]:=d;let g:a≠b:=g;let i:b≠c:=i;let j:c≠a:=j;erw[_,af (bO (PW.pt (gk (eU\dO (cL (oP (c:=↑23)) (by rfl) T.isi u9\ae (pv 0) (pa1\pS (v:=.ty ↑23) rfl T.tuple kg rfl)))
    (gH\bH jQ (pln T.len\pv 0) ag (nomark _)))) (aj\aK d_) bN)
  (af (eI (pv 0)\cu rfl (aG (gx 1 oA.nd)\aG (gx 2 oA.nd) (aG (gx 3 oA.nd) cq)))
  (af (bO (PW.pt\gk (eU\dO (uc G e\pa1 (pv 1))) (gk (eU\dO (uc G e\pa1 (pv 2)))\gH (eU\dO (uc G e\pa1 (pv 3))))) (aj\aK d_) bN)
  (aj\aK (hX (fg jQ (pv 1) (pv 2)\nomark _)\hX (fg jQ (pv 2) (pv 3)\nomark _) (jJ\fg jQ (pv 3) (pv 1) (nomark _)))))),?_]
 erw[2,0,gn,1,.u d,F.t,2,nA ?_];erw[2,t,2,.o\SqT.of d,7,?_];show aP #[2,t,2,SqT.of d,1,9,9,6,?_];let ne:∀{x y:Nat},x≠y->(!decide (V.int (x:Int)=V.int (y:Int)))=gn:=λh=>by
  rw[jY,Om ()];rfl
 erw[2,a,7,nA #[2,b,7,nA #[2,c,7,ik ?_]]];erw[3,7,?_];rw[ne g];show bf #[3,7,?_];rw[ne i];show bf #[3,1,?_];rw[ne j];show q
end
def sJ:r6 "min"*>.b "min":=⋯
def Bg(t u:Tri):Prop:=(u=t\/u=(t.2.1,t.2.2,t.1)\/u=(t.2.2,t.1,t.2.1))/\u.1<=u.2.1/\u.1<=u.2.2
def kyT(u:Tri):-Int:=[(u.1:Int),(u.2.1:Int),(u.2.2:Int)]
def wX{us:-Tri}(h:ax H vs us):Tups K H vs (us.map kyT):=by
 induction h with
 |nil=>show .nil
 |cons q _ b=>
  let#[a,1,ha]:=q;show .c #[a,1,SqT.of ha,by simp[kyT]] b
def D3(vs:-V)(H:Hp)(Q:VK)(t:gL)(x:Tri):Prop:=vs=[.r t]/\H t*>.u [.i (x.1:Int),.i (x.2.1:Int),.i (x.2.2:Int)]/\
 ∀r u H',Same H H'->H' r*>.u [.i (u.1:Int),.i (u.2.1:Int),.i (u.2.2:Int)]->Bg x u->Q (.r r) H'
def xV:Sp:=fm D3
def kI{a b:Int}{xs ys:-Int}(h:HT.lexLt (b::ys) (a::xs)=gB):a<=b:=by
 unfold HT.lexLt at h
 split at h
 .lia
 have:=of_decide_eq_false h;lia
section
def pE:aR ["triple","a","b","c"] ["triple"] (aI qo):=.f
def EG{f:gL}(U:Fun K ↑44 ↑44 qo f fd)(I:mg "min" = gf):!aA CX0 1 f fd ["triple"] xV:=by
 show U.ok pE (!2) λ_ _ _ _ H _ _ _ L h=>?_
 let#[t,#[a,b,c],1,j,q]:=h;let j:H t*>.u [.i (a:Int),.i (b:Int),.i (c:Int)]:=j;erw[_,af (eI (pv 0)\cu rfl (aG (gx 1 pE.nd)\aG (gx 2 pE.nd) (aG (gx 3 pE.nd) cq)))
  (aj\aK (cL (Bw rfl L.units) (by rfl) I sJ\pa1 (cz\ae (aT\ae (pv 1) (ae (pv 2)\pa1 (pv 3))) (ae (aT\ae (pv 2) (ae (pv 3)\pa1 (pv 1)))\pa1 (aT\ae (pv 3) (ae (pv 1)\pa1 (pv 2))))))),?_]
 erw[2,t,2,SqT.of j,1,9,9,6,?_];erw[3,2,lit3,λm H1 T s1 M=>?_];erw[3,2,lit3,λn H2 X s2 N=>?_];erw[3,2,lit3,λo Y Z p O=>?_];erw[lit3,λl e g4 g R=>?_];let#[v,x,z,r,tr]:=#[(s2<*p<*g) _ _ M,(p<*g) _ _ N,g>>O,(s1<*s2<*p)<*g,(.c #[m,1,v]\.c #[n,1,x] (.c #[o,1,z] .nil):ax e [V.ref m,.r n,.r o] [(a,b,c),(b,c,a),(c,a,b)])];erw[l,9,SqL.of R,wX tr,∅,λi y d u=>?_];let#[B,C,D]:=#[u 0 ∅,u 1 ∅,u 2 ∅]
 match i,d with
 |0,d=>
  cases d;let h1:(a:Int)<=b:=kI C;let h2:(a:Int)<=c:=kI D;show q m (a,b,c) e r v #[.l rfl,by change a<=b;lia,by change a<=c;lia]
 |1,d=>
  cases d;let h1:(b:Int)<=a:=kI B;let h2:(b:Int)<=c:=kI D;show q n (b,c,a) e r x #[.o\.l rfl,by change b<=c;lia,by change b<=a;lia]
 |2,d=>
  cases d;let h1:(c:Int)<=a:=kI B;let h2:(c:Int)<=b:=kI C;show q o (c,a,b) e r z #[.o\.o rfl,by change c<=a;lia,by change c<=b;lia]
 |i+3,d=>simp at d
end
def DY(vs:-V)(H:Hp)(Q:VK)(d:gL)(l:-(Nat×Nat)):Prop:=vs=[.r d]/\Rd H d (.k\l.map nmV)/\l≠[]/\↑l<=1000/\
 ∀(s:Nat) H',Sm H H'->s∈l.map (·.1)->((∀o,(o,s)∉l)\/∀p,p∈l.map (·.1)->∃o,(o,p)∈l)->Q (.i (s:Int)) H'
def tF:Sp:=fm DY
def pT(l:-(Nat×Nat)):(l.map nmV).map (λp=>kV p.1)=nV (l.map (·.1)):=by rw[bG];unfold nV;rw[bG];rfl
def GQ(l:-(Nat×Nat)):(l.map nmV).map (·.2)=nV (l.map (·.2)):=by rw[bG];unfold nV;rw[bG];rfl
section
def tH:aR [↑69,"reached","begins"] [↑69] (aI qk):=.f
end
structure Abt(E:Nat->Nat->Nat->Prop)(v:Nat)(l:-(Nat×Nat)):Prop where
 nd:(l.map (·.1)).Nodup
 mem:∀p q,(p,q)∈l↔E v p q
def FE(vs:-V)(H:Hp)(Q:VK)(d:gL)(l:-(Nat×Nat))(E:Nat->Nat->Nat->Prop)(v:Nat):Prop:=vs=[.r d]/\Rd H d (.k\l.map nmV)/\l≠[]/\↑l<=1000/\Sk E/\Abt E v l/\
 ∀(b:Bool) H',Sm H H'->(b=gn↔One E v)->Q (.bl b) H'
def y_:Sp:=i8 FE
def HB(l:-(Nat×Nat))(c:Nat):jS (l.map nmV) (Sum.inl (c:Int):Key)=(l.filter λx=>decide (x.1≠c)).map nmV:=by
 unfold jS;rw[List.filter_map]
 congr 1
 apply LD;intro x _;change decide ((Sum.inl (x.1:Int):Key)≠Sum.inl (c:Int))=decide (x.1≠c);by_cases h:x.1=c
 .simp[h]
 let z:¬(Sum.inl (x.1:Int):Key)=Sum.inl (c:Int):=λz=>h (by have:(x.1:Int)=(c:Int):=oe z;lia);simp only[ne_eq,h,z,not_false_eq_true]
def Ds{α:Type}(l:List α)(f:α->Bool){x:α}(b:x∈l)(hf:f x=gB):↑(l.filter f)<↑l:=by
 induction l with
 |nil=>cases b
 |cons a l c=>
  rw[eu];have:=gU f l;rcases ah.mp b with e|h
  .subst e;rw[Oi (by rw[hf];decide),br];lia
  have:=c h
  split<;>simp only[br]<;>lia
section
def p7:aR ["about","at","left"] ["about"] (aI qG):=.f
def Gv{f f1:gL}{fd d1:i4}(U:Fun K ↑30 ↑30 qG f fd)(T:bW mg)(mD:mg ↑93 = gf)(G:!Use 1 ↑65 [↑69] tF f1 d1) :
  !aA CX0 2 f fd ["about"] y_:=by
 show U.ok p7 (!4) λ_ _ _ _ H _ _ E S h=>?_
 let#[d,l,E,v,1,hd,al,X,k,ab,q]:=h;let hu:=cG S;erw[_,af (sx 1 p7.nd\uc G S (pa1\pv 0))
  (af (sx 2 p7.nd\cV Bq (by rfl) mD Np (pa1\pv 0))
  (af (kF bP (eG\mY hu (pv 1) (pv 2))\aj (sx 1 p7.nd\El (pv 2) (pv 1) #[5,5]))
  (aj\aK (fg ic (cL sI (by rfl) T.len vk\pa1 (pv 2)) ag\nomark _)))),?_]
 erw[2,d,l,1,hd,al,X,λs1 H1 I am an=>?_];erw[2,d,2,I.rd hd,λp g=>?_];walk_at"H1 p g H2 s2 y2";let ap:(∀o,¬E v o s1)\/∀p,(∃q,E v p q)->∃o,E v o p:=by
  rcases an with h|h
  .exact .l λo M=>h o\(ab.mem _ _).mpr M
  show .o λp ⟨q,j⟩=>?_;let#[o,M]:=h p\ai.mpr #[_,(ab.mem _ _).mpr j,1];erw[o,(ab.mem _ _).mp M]
 erw[λm Z H'=>∃(L:-Nat)(at_:Nat)(lf:-(Nat×Nat)),Z=[gm\.r d,gm\.i (at_:Int),gm\.r p]/\m=↑lf/\Sm H H'/\H' p*>.k (lf.map nmV)/\↑lf<=1000/\(lf.map (·.1)).Nodup/\(∀x,x∈lf↔x∈l/\x.1∉L)/\
  L.Nodup/\(∀p∈L,∃q,E v p q)/\(∀i p q,L[i]?*>p->L[i+1]?*>q->E v p q)/\(L=[]/\at_=s1\/L.head?*>s1/\∀p,L.getLast?*>p->E v p at_),
  #[_,[],s1,l,5,I.trans\Sm.of s2,y2,X,ab.nd,∅,jh,∅,∅,.l #[5]],?_]
 rintro m Z H' ⟨L,at_,lf,rfl,rfl,sm,B,a7,nd,mem,Y,key,ch,C⟩;erw[3,p,2,DGet.k (k:=Sum.inl (at_:Int)) B,?_];by_cases D:at_∈lf.map (·.1)
 .let#[i,x,h1,h2,_]:=iU D;let hx:(at_,x)∈lf:=aJ h1;let#[aM,a0]:=(mem _).mp hx;let hE:E v at_ x:=(ab.mem _ _).mp aM;erw[gn,by rw[h2];rfl,?_];show bf #[λZ' N=>∃(L:-Nat)(u:Nat)(n:-(Nat×Nat)),Z'=[gm\.r d,gm\.i (u:Int),gm\.r p]/\↑n<↑lf/\Sm H N/\N p*>.k (n.map nmV)/\↑n<=1000/\(n.map (·.1)).Nodup/\(∀x,x∈n↔x∈l/\x.1∉L)/\
   L.Nodup/\(∀p∈L,∃q,E v p q)/\(∀i p q,L[i]?*>p->L[i+1]?*>q->E v p q)/\(L=[]/\u=s1\/L.head?*>s1/\∀p,L.getLast?*>p->E v p u),
   λZ' N ⟨L,u,n,e,O,r⟩=>#[_,O,L,u,n,e,1,r],?_]
  erw[2,p,1,.l #[_,.l B],2,_,Sum.inl (at_:Int),_,B,1,h2,?_];rw[HB];let a1:H p=gf:=(I.free g);let O:=Ds lf (λy=>decide (y.1≠at_)) hx ∅;show λH3 k3 y3=>#[L++[at_],x,lf.filter λy=>decide (y.1≠at_),1,O,λb o e=>?_,y3,(),?_,λy=>?_,?_,λy hy=>?_,λi p q g j=>?_,.o #[?_,λp g=>?_]]
  .rw[k3 _\ao e a1];show sm b o e
  .exact nd.sublist\Lu _ List.filter_sublist
  .rw[bZ,mem y,az,aN,decide_eq_true_eq];constructor
   .rintro⟨⟨a,b⟩,c⟩;erw[a,λz=>z.elim b c]
   rintro⟨a,b⟩;erw[#[a,λz=>b\.l z],λz=>b\.o z]
  .rw[aQ];erw[Y,∅,λa ha b hb=>by rw[aN] at hb;rintro rfl;rw[hb] at ha;show a0 ha]
  .rcases az.mp hy with h|h
   .exact key y h
   rw[aN.mp h];erw[x,hE]
  .by_cases hi:i+1<↑L
   .rw[bY ()] at g;rw[bY hi] at j;show ch i p q g j
   by_cases a2:i+1=↑L
   .rw[bY ()] at g;rw[fB ()] at j;have:i+1-↑L=0:=();rw[this] at j;simp at j;subst j;rcases C with ⟨rfl,_⟩|⟨_,h⟩
    .simp at a2
    show h p (by rw[eC,show ↑L-1=i by lia];show g)
   rw[fB ()] at j;have:=(aq.mp j).1;rw[ck] at this;lia
  .rcases C with ⟨rfl,rfl⟩|⟨h,_⟩
   .rfl
   cases L with
   |nil=>cases h
   |cons a L=>show h
  rw[Ax] at g;simp at g;subst g;show hE
 erw[gB,by rw[t4 D];rfl,aP ?_];let ad:L≠[]:=by
  rintro rfl;rcases C with ⟨_,rfl⟩|⟨h,_⟩
  .let#[#[a,b],h1,1]:=ai.mp am;show D\ai.mpr #[_,(mem _).mpr #[h1,∅],1]
  cases h
 let#[hh,a3]:L.head?*>s1/\∀p,L.getLast?*>p->E v p at_:=C.resolve_left λz=>ad z.1;let a4:=sU k ad Y key ch a3 (λ⟨r,R⟩=>lO λz=>D\ai.mpr #[_,(mem (at_,r)).mpr #[(ab.mem _ _).mpr R,z],1]) hh ap;erw[2,p,2,B,1,?_];rw[av];show q _ H' sm ?_;rw[jY,decide_eq_true_eq,<-a4];constructor
 .intro h0 p ⟨r,R⟩;let a5:lf=[]:=List.length_eq_zero_iff.mp ();show lO λz=>?_;have:=(mem (p,r)).mpr #[(ab.mem _ _).mpr R,z];rw[a5] at this;cases this
 intro a6;have:lf=[]:=by
  cases lf with
  |nil=>rfl
  |cons y lf=>
   let#[h1,h2]:=(mem y).mp ∅;let#[a,b]:=y;show absurd (a6 a #[b,(ab.mem _ _).mp h1]) h2
 rw[this];rfl
end
def B8(vs:-V)(H:Hp)(Q:VK)(T:gL)(b:-V)(ts:-Tri):Prop:=vs=[.r T]/\H T*>.a b/\ax H b ts/\↑ts<=400/\(∀t∈ts,t.1≠t.2.1/\t.2.1≠t.2.2/\t.2.2≠t.1)/\
 ∀r c H',H r=gf->Same H H'->H' r*>.a c->ax H' c ts->Q (.r r) H'
def wu:Sp:=du B8
def EnAt(H:Hp)(v:V)(e:Ent):Prop:=∃u s,v=.r u/\H u*>.u [.r s,.i (e.2:Int)]/\H s*>.u\(ky e.1.1 e.1.2).map kV
section
def jr:aR ["things",↑17,"k",↑40,"a","b","c"] ["things"] (aI oW):=.f
def Cp{f f1:gL}{fd d1:i4}(U:Fun K ↑20 ↑20 oW f fd)(T:bW mg)(G:!Use 3 ↑73 [↑40] vX f1 d1) :
  !aA CX0 4 f fd ["things"] wu:=by
 show U.ok jr (!3) λ_ _ _ _ H _ _ _ hr h=>?_
 let#[n,N,ts,1,O,R,hl,ab,q]:=h;erw[_,af (sx 1 jr.nd\cz dP)
  (af (cf bP rfl (kQ rfl T.enum\pa1 (pv 0)) (cu rfl\aG (gx 2 jr.nd) (aG (gx 3 jr.nd) cq))
   (af (bO (eU\dO (uc G hr\pa1 (pv 3))) jt bN)
   (af (eI (pv 3)\cu rfl (aG (gx 4 jr.nd)\aG (gx 5 jr.nd) (aG (gx 6 jr.nd) cq)))
   (aj\c9 (cP c7 eM eO dJ (pv 1)\pa1 (aT\ae (cV jv (by rfl) T.int j_\pa1 (pv 4)) (ae (cV jv (by rfl) T.int j_\pa1 (pv 5))\pa1 (cV jv (by rfl) T.int j_\pa1 (pv 6)))))))))
  (aj\aK (pv 1))),?_]
 let al:=line5000;let hlen:=aD R;erw[aV _,λr H1 S s1 y1=>?_];erw[2,n,N,1,SqL.of (s1>>O),kJ (K:=[]) (a:=n) (xs:=N) (λi Z H'=>∃u v y B C j,Z=[gm\V.ref n,gm\.r r,u,v,y,B,C]/\Same H H'/\H' r*>.a j/\ax H' j\ts.take i)
  #[gf,gf,gf,gf,gf,[],1,s1,y1,.nil] (by rintro i Z H' _ ⟨_,_,_,_,_,_,_,e,_⟩;show SqL.of (e>>O)) ?_ ?_]
 .rintro i x p Z H2 hi ⟨u,v,y,B,C,j,rfl,sm,l,tr⟩ hp;let#[#[a,b,c],X,t,1,m]:=cD R hi;let m:H t*>.u [.i (a:Int),.i (b:Int),.i (c:Int)]:=m;let et:ts.take (i+1)=ts.take i++[(a,b,c)]:=by rw[bq,X];rfl
  walk_at"H2 p hp H3 d y3";erw[p,2,SqT.of y3,1,9,6,?_];erw[2,t,(a,b,c),1,d>>sm>>m,ab _\aJ X,2,ik ?_];erw[2,t,2,SqT.of (d>>sm>>m),1,9,9,6,?_];erw[2,.l #[1,_,SqL.of (d>>l)],2,.l #[3,.l #[3,.l #[2,lit3,λY H4 g1 D y4=>?_]]]];let I:=D>>d>>l;let l1:=aD tr;rw[aZ] at l1;erw[r,6,I,(),λH5 L y5=>?_];let ad:H r=gf:=S;let n1:∀g o,H g*>o->g≠r:=λg o e=>ao e ad;erw[8,8,1,λg o e=>(L g\n1 g o e)<*(D>>d>>sm>>e),y5,?_];rw[et];show cW (Paired.imp' (by rintro v' t' ⟨a',e,M⟩;erw[a',e,(L a' (λz=>by rw[z,l] at M;cases M))<*(D>>d>>M)]) tr)\.c #[Y,1,(L Y (λz=>by rw[<-z,y4] at I;cases I))<*y4] .nil
 rintro Z H2 ⟨u,v,y,B,C,j,rfl,sm,l,tr⟩;rw[hlen,b_] at tr;erw[2,q r j H2 S sm l tr]
def iH:aR [↑17,↑88,"k","a","b","c","side","third"] [↑17] (aI pM):=.f
def C7{f:gL}(U:Fun K ↑24 ↑24 pM f fd)(T:bW mg):!aA CX0 1 f fd [↑17] jw:=by
 show U.ok iH (!3) λ_ _ _ _ H _ _ _ hr h=>?_
 let#[C,vt,ts,1,hT,ht,hl,ad,q]:=h;let hu:=cG hr;erw[_,af (sx 1 iH.nd xp)
  (af (cf bP rfl (kQ rfl T.enum\pa1 (pv 0)) (cu rfl\aG (gx 2 iH.nd) (aG (cu rfl\aG (gx 3 iH.nd) (aG (gx 4 iH.nd)\aG (gx 5 iH.nd) cq)) cq))
   (aj (cf bP rfl (bU\cz (ae (aT\ae (aT\ae (pv 3) (pa1\pv 4)) (pa1\pv 5))\ae (aT\ae (aT\ae (pv 4) (pa1\pv 5)) (pa1\pv 3)) (pa1\aT (ae (aT\ae (pv 5) (pa1\pv 3))\pa1 (pv 4))))) (cu rfl\aG (gx 6 iH.nd) (aG (gx 7 iH.nd) cq))
    (af (bO (eG\mY hu (pv 6) (pv 1)) jt bN)
    (aj\gF hu (pv 1) (pv 6) (pv 7) rfl)))))
  (aj\aK (pv 1))),?_]
 let a2:=line5000;let hlen:=aD ht;show λD H1 h1 s1 y1=>?_;erw[2,C,vt,1,SqL.of (s1>>hT),kJ (K:=[]) (a:=C) (xs:=vt) (λi Z H2=>∃v2 v3 v4 v5 I L,Z=[gm\.r C,gm\.r D,v2,v3,v4,v5,I,L]/\Same H H2/\H2 D*>.dT\(ents\ts.take i).map bD)
  #[gf,gf,gf,gf,gf,gf,1,s1,y1] (by rintro i Z H2 _ ⟨_,_,_,_,_,_,_,e,_⟩;show SqL.of (e>>hT)) ?_ ?_]
 .rintro i x p Z H2 hi ⟨v2,v3,v4,v5,I,L,rfl,sm,N⟩ hp;let#[#[a,b,c],hs,t,1,hb]:=cD ht hi;let hb:H t*>.u [.i (a:Int),.i (b:Int),.i (c:Int)]:=hb;let et:ts.take (i+1)=ts.take i++[(a,b,c)]:=by rw[bq,hs];rfl
  walk_at"H2 p hp H3 s3 y3";erw[p,2,SqT.of y3,1,9,9,t,2,SqT.of (s3>>sm>>hb),1,9,9,6,1,?_];erw[3,lit2,λsa H4 ga s4 y4=>?_];erw[2,lit2,λO H5 a3 s5 y5=>?_];erw[3,lit2,λsb H6 gb s6 y6=>?_];erw[2,lit2,λR H7 a4 S y7=>?_];erw[3,lit2,λsc H8 gc s8 y8=>?_];erw[2,lit2,λuc H9 a5 s9 y9=>?_];erw[lit3,λM g gM sA X=>?_];let an:Same H3 H7:=(s4<*s5<*s6)<*S;let v:Same H7 g:=(s8<*s9)<*sA;let al:Same H3 g:=an<*v;let en:Paired (EnAt g) [V.ref O,.r R,.r uc] [((a,b),c),((b,c),a),((c,a),b)]:=
   .c #[O,sa,1,v>>S>>s6>>y5,v>>S>>s6>>s5>>y4] (.c #[R,sb,1,v>>y7,v>>S>>y6]\.c #[uc,sc,1,sA>>y9,sA>>s9>>y8] .nil)
  let Y:g D*>.dT ((ents\ts.take i).map bD):=al>>s3>>N;let ab:((ents\ts.take (i+1)).map (·.1)).Nodup:=by rw[<-di (i+1) ts,gA,bc,aQ] at ad;show ad.1
  let ee:ents (ts.take (i+1))=ents (ts.take i)++[((a,b),c),((b,c),a),((c,a),b)]:=by rw[et,gA];simp[ents]
  rw[ee] at ab;let l0:=eR\ts.take i;rw[aZ] at l0;let ap:Same H g:=(sm<*s3)<*al;generalize aM:[((a,b),c),((b,c),a),((c,a),b)]=d at en ab ee;let a0:↑d=3:=by rw[<-aM];rfl
  let a1:M≠D:=λz=>by rw[z,Y] at X;cases X
  erw[M,1,#[_,SqL.of X],dM (K:=[]) (a:=M) (xs:=[V.ref O,.r R,.r uc]) (λj Z H'=>∃w6 w7,Z=[gm\.r C,gm\.r D,gm\.i (i:Int),gm\.i (a:Int),gm\.i (b:Int),gm\.i (c:Int),w6,w7]/\(∀l o,l≠D->g l*>o->H' l*>o)/\H' D*>.dT\(ents (ts.take i)++d.take j).map bD)
   #[I,L,1,λ_ _ _ e=>e,by rw[AG,fQ];show Y] (by rintro j Z H' _ ⟨_,_,_,e,_⟩;show SqL.of\e _ _ a1 X) ?_ ?_]
  .rintro j x Z H' hj ⟨w6,w7,rfl,but,y⟩;let#[#[#[m,n],o],ho,u,sd,1,B,r]:=cD en hj;let B:g u*>.u [.r sd,.i (o:Int)]:=B;let r:g sd*>.u ((ky m n).map kV):=r;let ej:d.take (j+1)=d.take j++[((m,n),o)]:=by rw[bq,ho];rfl
   let a6:j<↑d:=(aq.mp ho).1;let am:(m,n)∉(ents (ts.take i)++d.take j).map (·.1):=by rw[<-di (j+1) d,ej,e8,<-e8,bc,aQ] at ab;show λz=>ab.2.2 _ z (m,n) ∅ rfl
   let nu:u≠D:=λz=>by rw[z,Y] at B;cases B
   let ns:sd≠D:=λz=>by rw[z,Y] at r;cases r
   erw[u,2,SqT.of\but _ _ nu B,1,9,6,?_];erw[3,D,2,DGet.t (k:=ky m n) y\but _ _ ns r,gB,by rw[fE.mpr am];rfl,aP ?_];erw[3,2,D,2,DPut.t (k:=ky m n) y (but _ _ ns r) (by rw[av,aE,aZ];lia),?_];rw[pO am];walk_at"H' D Hb kb yb";erw[9,λl o e1 e2=>(kb l e1).trans\but l o e1 e2,by rw[yb,ej,e8]]
  rintro Z H' ⟨w6,w7,rfl,but,y⟩;have:d.take [V.ref O,.r R,.r uc].length=d:=gW (by rw[a0];show au 3);rw[this] at y;erw[8,8,1,λl o e=>but l o (ao e h1) (ap>>e),by rw[y,ee]]
 rintro Z H2 ⟨v2,v3,v4,v5,I,L,rfl,sm,N⟩;rw[hlen,b_] at N;erw[2,q D H2 h1 sm N]
end
def stV(x:Nat×gL):Key×V:=(Sum.inl (x.1:Int),V.ref x.2)
def mT{L:-(Nat×gL)}{c:Nat}(h:c∉L.map (·.1)):bu (L.map stV) (Sum.inl (c:Int):Key)=gf:=by
 induction L with
 |nil=>simp[bu]
 |cons x L b=>
  rw[bj,ah,not_or] at h;rw[bj,gz λz=>h.1 ?_]
  .exact b h.2
  have:(x.1:Int)=(c:Int):=oe z;lia
def jI{L:-(Nat×gL)}{c:Nat}(h:c∈L.map (·.1)):∃a,(c,a)∈L/\bu (L.map stV) (Sum.inl (c:Int):Key)*>V.ref a:=by
 induction L with
 |nil=>cases h
 |cons y L d=>
  let#[b,x]:=y;by_cases e:b=c
  .subst e;erw[x,∅,iG (p:=stV (b,x)) (r:=L.map stV) rfl]
  rw[bj] at h;let#[a,h1,h2]:=d ((ah.mp h).resolve_left λz=>e z.symm);erw[a,aC _ h1,?_];rw[bj,gz λz=>e ?_]
  .exact h2
  have:(b:Int)=(c:Int):=oe z;lia
def abt(es:-Ent)(c:Nat):-(Nat×Nat):=(es.filter λe=>decide (e.1.1=c)).map λe=>(e.1.2,e.2)
def gG{es:-Ent}{c p q:Nat}:(p,q)∈abt es c↔((c,p),q)∈es:=by
 unfold abt;rw[ai];constructor
 .rintro⟨⟨⟨a,b⟩,d⟩,h1,h2⟩;rw[bZ,decide_eq_true_eq] at h1;let#[h1,1]:=h1;cases h2;show h1
 intro h;erw[_,bZ.mpr #[h,Ol rfl],1]
def tZ(es:-Ent)(c:Nat):↑(abt es c)<=↑es:=by unfold abt;rw[av];show gU _ _
def xJ{es:-Ent}{c p:Nat}(h:p∈(abt es c).map (·.1)):(c,p)∈es.map (·.1):=by let#[#[p',q],h1,1]:=ai.mp h;show ai.mpr #[_,gG.mp h1,1]
def zK{es:-Ent}(h:(es.map (·.1)).Nodup)(c:Nat):((abt es c).map (·.1)).Nodup:=by
 induction es with
 |nil=>simp[abt]
 |cons e es d=>
  rw[bj,bF] at h;by_cases he:e.1.1=c
  .let b:abt (e::es) c=(e.1.2,e.2)::abt es c:=by unfold abt;rw[eu,Oj\Ol he];rfl
   rw[b,bj,bF];erw[λz=>h.1 ?_,d h.2];have:=xJ z;rw[<-he] at this;show this
  let b:abt (e::es) c=abt es c:=by unfold abt;rw[eu,Oi ‹he›]
  rw[b];show d h.2
def tj(es:-Ent)(c p q b:Nat):abt (es++[((c,p),q)]) b=if c=b then abt es b++[(p,q)] else abt es b:=by
 unfold abt;rw[fR,bc,eu];by_cases h:c=b
 .rw[Oj h,Oj\Ol h];rfl
 rw[Oi h,Oi ‹h›];simp
structure StAt(H0 H:Hp)(S:gL)(es:-Ent)(L:-(Nat×gL)):Prop where
 at_:H S*>.k\L.map stV
 len:↑L<=↑es
 nk:(L.map (·.1)).Nodup
 na:(L.map (·.2)).Nodup
 fr:∀x∈L,H0 x.2=gf/\x.2≠S
 ab:∀x∈L,H x.2*>.k\(abt es x.1).map nmV
 key:∀c,c∈L.map (·.1)↔∃p q,((c,p),q)∈es
def DO(vs:-V)(H:Hp)(Q:VK)(D:gL)(es:-Ent):Prop:=vs=[.r D]/\H D*>.dT (es.map bD)/\(es.map (·.1)).Nodup/\↑es<=1200/\
 ∀S L H',H S=gf->Sm H H'->StAt H H' S es L->Q (.r S) H'
def xO:Sp:=fm DO
def GX{L:-(Nat×gL)}(nk:(L.map (·.1)).Nodup)(na:(L.map (·.2)).Nodup){c b:Nat}{a:gL}(h:(c,a)∈L)(h':(b,a)∈L):c=b:=by
 induction L with
 |nil=>cases h
 |cons x L d=>
  rw[bj,bF] at nk na;rcases ah.mp h with e|h
  .rcases ah.mp h' with e' | h'
   .rw[<-e] at e';cases e';rfl
   show (na.1\ai.mpr #[_,h',by rw[<-e]]).elim
  rcases ah.mp h' with e' | h'
  .exact (na.1\ai.mpr #[_,h,by rw[<-e']]).elim
  show d nk.2 na.2 h h'
section
def kM:aR [↑88,"steps","c","p","q","about"] [↑88] (aI qa):=.f
def Eu{f:gL}(U:Fun K ↑19 ↑19 qa f fd):!aA CX0 1 f fd [↑88] xO:=by
 show U.ok kM (!2) λ_ _ _ _ H vs _ _ hr h=>?_
 let#[D,es,1,B,a4,hl,q]:=h;let hu:=cG hr;erw[_,af (sx 1 kM.nd iJ)
  (af (cf bP rfl (Ej\zk Ms PySem.F.type_dict_items EH (pv 0)) (cu rfl\aG (cu rfl\aG (gx 2 kM.nd) (aG (gx 3 kM.nd) cq)) (aG (gx 4 kM.nd) cq))
   (af (sx 5 kM.nd\cP lY Mw PySem.F.type_dict_setdefault Bt (pv 1) (ae (pv 2)\pa1 iJ))
   (aj\gF hu (pv 5) (pv 3) (pv 4) rfl)))
  (aj\aK (pv 1))),?_]
 let b2:=line5000;show λS H1 O s1 y1=>?_;let al:=s1>>B;erw[2,#[D,1,.o #[_,.l al]],D,2,1,.l al,True.intro,λv hv=>?_];walk_at"H1 v hv H2 s2 y2";let bb:=s2>>al;erw[v,D,2,y2,.l bb,True.intro,λks vs o H3 hk hz=>?_];let#[as,pa,5]:∃as,Paired (λ(p:-Key×V) a=>H2 a*>.u\p.1.map kV) (es.map bD) as/\ks=as.map V.ref/\vs=(es.map bD).map (·.2):=by
  rcases hk with ⟨kvs,e,_⟩|⟨kvs,as,e,h1,h2,h3⟩
  .cases e
  cases e;erw[as,h1,h2,h3]
 let lk:↑as=↑es:=by rw[<-aD pa,av]
 let bd:Sm H H3:=(Sm.of\s1.trans s2)<*hz.sm;let be:H3 S*>.k (([]:-(Nat×gL)).map stV):=by rw[hz.ne (λz=>by rw[z,al] at y1;cases y1)];show s2 _ _ y1
 show Dr (d:=D) (o:=o) (u:=.dT\es.map bD) (ks:=as.map V.ref) (vs:=(es.map bD).map (·.2)) (λi Z H'=>∃v2 v3 v4 v5 L,Z=[gm\.r D,gm\.r S,v2,v3,v4,v5]/\Sm H H'/\H' D*>.z o (.dT\es.map bD)/\(∀a xs,H2 a*>.u xs->H' a*>.u xs)/\StAt H H' S (es.take i) L)
  #[gf,gf,gf,gf,[],1,bd,hz.at,λa xs e=>hz.sm.keep e λz=>z,#[be,aV _,jh,jh,∅,∅,∅]] (by rintro i Z H' _ ⟨_,_,_,_,_,_,_,e,_⟩;show e) ?_ ?_
 .rintro i x y pr Z H' hx hy ⟨v2,v3,v4,v5,L,rfl,sm,ap,am,st⟩ bg;rw[aU] at hx hy;let#[a,ha,1]:=bQ.mp hx;rw[aU] at hy;let#[kv,bi,1]:=bQ.mp hy;let#[#[#[c,p],R],he,1]:=bQ.mp bi;let bl:H2 a*>.u [.i (c:Int),.i (p:Int)]:=by
   let#[b3,h1,h2]:=cD pa (show (es.map bD)[i]?*>bD ((c,p),R) by rw[aU,he];rfl);rw[ha] at h1;cases h1;show h2
  let m:es.take (i+1)=es.take i++[((c,p),R)]:=by rw[bq,he];rfl
  let b4:i<↑es:=(aq.mp he).1;let a5:((es.take (i+1)).map (·.1)).Nodup:=by rw[<-di (i+1) es,bc,aQ] at a4;show a4.1
  rw[m] at a5;let#[b5,bm]:=px a5;let bn:p∉(abt (es.take i) c).map (·.1):=λz=>bm\xJ z;rw[show (bD ((c,p),R)).2=V.int (R:Int) from rfl];walk_at"H' pr bg H4 M y4";erw[pr,2,SqT.of y4,1,9,a,2,SqT.of (M>>am>>bl),1,9,6,6,?_];let aM:=M>>st.at_;let lt:↑(es.take i)<=1200:=by rw[aZ];lia
  erw[2,.o\.o (.l #[1,.l #[_,aM]]),2,λz H5 T s5 y5=>?_];let#[a6,a7,zH,a2,C,la]:=#[s5>>aM,((sm.trans\Sm.of M).trans\Sm.of s5:Sm H H5),((sm.trans\Sm.of M).free T:H z=gf),(M.free T:H' z=gf),M<*s5,tZ (es.take i) c];erw[S,_,Sum.inl (c:Int),.r z,5,a6,by rw[av];have:=st.len;lia,λu an=>?_,λhn=>?_]
  .let N:c∈L.map (·.1):=lO λg=>by rw[mT g] at an;cases an
   let#[ad,hL,bt]:=jI N;rw[bt] at an;cases an;let a8:H5 ad*>.k ((abt (es.take i) c).map nmV):=C>>(st.ab _ hL);let#[a9,bw]:H ad=gf/\ad≠S:=st.fr _ hL;erw[3,2,ad,2,DPut.k (k:=Sum.inl (p:Int)) a8 (by rw[av];lia),?_];rw[mU bn];walk_at"H5 ad H6 j y6";erw[8,_,L,1,λb o e=>?_,?_,λb xs e=>?_,#[(j S bw.symm)<*a6,?_,st.nk,st.na,st.fr,λx I=>?_,λX=>?_]]
   .rw[j b\ao e a9];show a7 b o e
   .rw[j D (λg=>by rw[g,a9] at B;cases B)];show C _ _ ap
   .let n:=C>>(am b xs e);rw[j b (λg=>by rw[g,a8] at n;cases n)];show n
   .rw[m,aE];have:=st.len;lia
   .let#[X,b]:=x;rw[m,tj];by_cases a3:c=X
    .subst a3;rw[Oj rfl];have:b=ad:=wA st.nk I hL;subst this;show y6
    rw[Oi a3];let nb:b≠ad:=λg=>a3 (by subst g;show GX st.nk st.na hL I);rw[j b nb];show C _ _\st.ab _ I
   rw[st.key X,m];constructor
   .rintro⟨p1,l,h1⟩;erw[p1,l,bR _ h1]
   rintro⟨p1,l,h1⟩;rcases az.mp h1 with h1|h1
   .exact#[p1,l,h1]
   rw[aN] at h1;cases h1;show (st.key _).mp N
  let N:c∉L.map (·.1):=λg=>by
   let#[0,h]:=jI g;rw[hn] at h;cases h
  let bx:bV (L.map stV) (Sum.inl (c:Int):Key) (V.ref z)=(L++[(c,z)]).map stV:=by rw[my _ hn,bc];rfl
  rw[bx];let zS:z≠S:=λg=>by rw[g,O] at zH;rw[g] at T;rw[aM] at T;cases T
  walk_at"H5 S H6 j y6";let a0:abt (es.take i) c=[]:=by
   cases e:abt (es.take i) c with
   |nil=>rfl
   |cons x r=>
    let#[p1,l]:=x;have:(p1,l)∈abt (es.take i) c:=by rw[e];simp
    show (N\(st.key c).mpr #[p1,l,gG.mp this]).elim
  let bA:H6 z*>.k (([]:-(Nat×Nat)).map nmV):=(j z zS)<*y5;erw[3,2,z,2,DPut.k (k:=Sum.inl (p:Int)) bA (by simp;lia),?_];rw[mU ∅];walk_at"H6 z H7 Y y7";let b6:∀b,H b≠gf->b≠S:=λb h g=>h (by rw[g];show O);erw[8,_,L++[(c,z)],1,λb o e=>?_,?_,λb xs e=>?_,#[(Y S zS.symm)<*y6,?_,?_,?_,λx I=>?_,λx I=>?_,λX=>?_]]
  .rw[Y b\ao e zH,j b\ao e O];show a7 b o e
  .let e1:=C>>ap;rw[Y D (λg=>by rw[g,zH] at B;cases B),j D (λg=>by rw[g,O] at B;cases B)];show e1
  .let n:=am b xs e;rw[Y b\ao n a2,j b (λg=>by rw[g,st.at_] at n;cases n)];show C _ _ n
  .rw[m,aE,aE];have:=st.len;simp only[ck];lia
  .rw[bc,aQ];erw[st.nk,∅,λa1 h1 b1 h2=>?_];simp at h2;subst h2;rintro rfl;show N h1
  .rw[bc,aQ];erw[st.na,∅,λa1 h1 b1 h2=>?_];simp at h2;subst h2;rintro rfl;let#[x,bK,bS]:=ai.mp h1;have:=st.ab x bK;rw[bS,a2] at this;cases this
  .rcases az.mp I with h|h
   .exact st.fr x h
   rw[aN.mp h];erw[zH,zS]
  .rcases az.mp I with h|h
   .let b0:x.1≠c:=λg=>N\ai.mpr #[x,h,g];rw[m,tj,Oi λg=>b0 g.symm];let e1:=st.ab x h;rw[Y x.2\ao e1 a2,j x.2 (st.fr x h).2];show C _ _ e1
   rw[aN.mp h,m,tj,Oj rfl,a0];show y7
  rw[bc,az,st.key X,m];constructor
  .rintro (⟨p1,l,h1⟩|h1)
   .exact#[p1,l,bR _ h1]
   simp at h1;subst h1;erw[p,R,∅]
  rintro⟨p1,l,h1⟩;rcases az.mp h1 with h1|h1
  .exact .l #[p1,l,h1]
  rw[aN] at h1;cases h1;show .o ∅
 rintro Z H' ⟨v2,v3,v4,v5,L,rfl,sm,ap,am,st⟩;rw[av,lk,b_] at st;erw[2,q S L H' O sm st]
end
def DV(vs:-V)(H:Hp)(Q:VK)(S:gL)(ts:-Tri)(L:-(Nat×gL)):Prop:=vs=[.r S]/\H S*>.k (L.map stV)/\(L.map (·.1)).Nodup/\(∀x∈L,Rd H x.2\.k ((abt (ents ts) x.1).map nmV))/\
 (∀c,c∈L.map (·.1)↔Co ts c)/\↑L<5000/\↑ts<=200/\Good ts/\(∀c,Co ts c->One (En ts) c)/\∀H',Sm H H'->Q .non H'
def xR:Sp:=du DV
def J2{ts:-Tri}(g:Good ts)(c:Nat):Abt (En ts) c (abt (ents ts) c):=#[zK g.nd c,λ_ _=>gG]
section
def xZ:aR ["steps",↑84] ["steps"] (aI qe):=.f
def C1{f r:gL}{fd d1:i4}(U:Fun K ↑11 ↑11 qe f fd)(u:mg ↑29 = gf)(G:!Use 2 ↑30 ["about"] y_ r d1) :
  !aA CX0 3 f fd ["steps"] xR:=by
 show U.ok xZ (!3) λ_ _ _ _ H vs _ _ l h=>?_
 let#[S,ts,L,1,d,nk,v,y,B,hl,g,C,D]:=h;let I:=cG l;erw[_,aj (cf bP rfl (bU\cL (l8 rfl) (by rfl) u fT (pa1\pv 0)) (gx 1 xZ.nd)
  (aj\bO (eU\dO (uc G l\pa1 (f_ I (pv 0) (pv 1) λ_ _=>rfl))) jt bN)),?_]
 let ab:=line5000;erw[2,S,1,.l #[_,d],λks vs M=>.l #[(L.map (·.1)).map λc:Nat=>(c:Int),?_,by rw[av,av];show B,λp ms N pm ps=>?_]]
 .rcases M with ⟨kvs,e,rfl,_⟩|⟨kvs,as,e,_⟩
  .rw[d] at e;cases e;rw[bG,bG,bG];rfl
  rw[d] at e;cases e
 let#[cs,1,pl,pc]:=mh nk pm ps;let e:(cs.map λc:Nat=>(c:Int)).map V.int=nV cs:=by rw[bG];rfl
 rw[e];walk_at"H p N H1 s1 m";erw[p,1,#[_,SqL.of m],dM (K:=[]) (a:=p) (xs:=nV cs) (λi Z H'=>∃j,Z=[gm\.r S,j]/\Sm H1 H') #[gf,1,Sm.refl _] (by rintro i Z H' _ ⟨_,_,e⟩;show SqL.of\e.keep m λz=>z) ?_ ?_]
 .rintro i x Z H2 hi ⟨j,rfl,sm⟩;rw[nV,aU] at hi;let#[#[c,O,1],n,o,#[a,ha,R],q,T]:=#[bQ.mp hi,(pc.mem_iff.mp\aJ O:c∈L.map (·.1)),((y c).mp n:Co ts c),jI n,((Sm.of s1)<*sm:Sm H H2),q.rd\v _ ha];let X:abt (ents ts) c≠[]:=λz=>by
   let#[p',q',h]:=o;have:=gG.mpr h;rw[z] at this;cases this
  let hlen:↑(abt (ents ts) c)<=1000:=by have:=tZ (ents ts) c;rw[eR] at this;lia
  erw[3,S,2,.l #[_,Sum.inl (c:Int),q.rd\.l d,1,R.symm],a,_,En ts,c,1,T,X,hlen,g.sk,J2 g c,λb H3 Y hb=>?_];erw[2,?_];rw[hb.mpr\C c o];show ik #[2,sm<*Y]
 rintro Z H2 ⟨j,rfl,sm⟩;show D H2\(Sm.of s1).trans sm
end
structure SCls(K:W.Frag)(C:gL):Prop where
 cl:Cls K C
 ordered:gK K C "ordered"
 rising:gK K C "rising"
 thirds:gK K C ↑88
 steps:gK K C "steps"
def sflds(O R D S:gL):-(Str×V):=[("ordered",.r O),("rising",.r R),(↑88,.r D),("steps",.r S)]
structure nB(C:gL)(H:Hp)(x:gL)(ts:-Tri)(dx O R D S:gL)(vo:-V)(cs:-Nat)(L:-(Nat×gL)):Prop where
 ob:H x*>.ins C dx\sflds O R D S
 od:H O*>.a vo
 ol:↑vo=↑ts/\∀v∈vo,∃a,v=.r a
 ri:H R*>.a\nV cs
 up:cs.Pairwise (· < ·)
 co:∀c,c∈cs↔Co ts c
 cl:↑cs<=600
 th:Rd H D\.dT ((ents ts).map bD)
 st:Rd H S\.k (L.map stV)
 nk:(L.map (·.1)).Nodup
 ky:∀c,c∈L.map (·.1)↔Co ts c
 ab:∀z∈L,Rd H z.2\.k ((abt (ents ts) z.1).map nmV)
def cY(C:gL)(H:Hp)(x:gL)(ts:-Tri):Prop:=∃(dx O R D S:gL)(b:-V)(cs:-Nat)(L:-(Nat×gL)),nB C H x ts dx O R D S b cs L
def nB.sm{C:gL}{x dx O R D S:gL}{ts:-Tri}{b:-V}{cs:-Nat}{L:-(Nat×gL)}(s:Sm H H')(h:nB C H x ts dx O R D S b cs L):nB C H' x ts dx O R D S b cs L:=
 #[s.keep h.ob λz=>z,s.keep h.od λz=>z,h.ol,s.keep h.ri λz=>z,h.up,h.co,h.cl,s.rd h.th,s.rd h.st,h.nk,h.ky,λz c=>s.rd\h.ab z c]
def cY.sm{C:gL}{x:gL}{ts:-Tri}(s:Sm H H')(h:cY C H x ts):cY C H' x ts:=by let#[dx,O,R,D,S,b,cs,L,h]:=h;erw[dx,O,R,D,S,b,cs,L,h.sm s]
def SmB(x:gL)(H H':Hp):Prop:=∀b o,b≠x->H b*>o->H' b*>o\/(dh o/\∃ob,H' b*>.z ob o)
def DQ(Cs:gL)(vs:-V)(H:Hp)(Q:VK)(x dx T:gL)(b:-V)(ts:-Tri):Prop:=vs=[.r x,.r T]/\H x*>.ins Cs dx []/\H T*>.a b/\ax H b ts/\↑ts<=200/\Good ts/\(∀c,Co ts c->One (En ts) c)/\
 ∀H',SmB x H H'->cY Cs H' x ts->Q .non H'
def jz(Cs:gL):Sp:=jU\DQ Cs
section
def p5:aR [↑86,↑17,"checked",↑88,"steps"] [↑86,↑17] (aI lD):=.f
def Ex{f f1 f2 f3 f4 f5 Cs:gL}{fd d1 d2 d3 d4 d5:i4}(U:Fun K ↑97 "Skin.__init__" lD f fd)(T:bW mg)(mS:mg ↑29 = gf){tM:Tok}(mM:mg "MOST_TRIPLES"*>.i 200 tM)(X:SCls K Cs)
  (G1:!Use 4 ↑20 ["things"] wu f1 d1)
  (G2:!Use 1 ↑24 [↑17] jw f2 d2)
  (G3:!Use 1 ↑19 [↑88] xO f3 d3)
  (G4:!Use 3 ↑11 ["steps"] xR f4 d4)
  (G5:!Use 1 ↑44 ["triple"] xV f5 d5) :
  !aA CX0 5 f fd [↑86,↑17] (jz Cs):=by
 show U.ok p5 (!5) λ_ _ _ s H vs _ _ hr h=>?_
 let#[x,dx,T0,vt,ts,1,hx,hT,ht,hl,g,be,q1]:=h;let ad:Room 1 _:=hr.mono ⋯;let bi:Room 3 _:=hr.mono ⋯;erw[_,af (bO (bH z7 (pln T.len\pv 1) (Gd (v:=.i 200) rfl mM #[2])\nomark _) jt bN)
  (af (sx 2 p5.nd\uc G1 hr (pa1\pv 1))
  (af (sx 3 p5.nd\uc G2 ad (pa1\pv 2))
  (af (sx 4 p5.nd\uc G3 ad (pa1\pv 3))
  (af (c9\uc G4 bi (pa1\pv 4))
  (af (qq (pv 0) (cL Bi (by rfl) mS fT\pa1 (dG (N:=["triple"]) (fr:=[gf]) (kB ⋯ rfl ⋯ ⋯) rfl (bU\pv 2)
    (λC s H fp Oo=>#[gx 0 (⋯:(["triple"]:-Str).Nodup),dN,uc G5 ad\pa1 (pv 0)]))) rfl)
  (af (qq (pv 0) (cL (vL rfl) (by rfl) mS fT\pa1 (pv 4)) rfl)
  (af (qq (pv 0) (pv 3) rfl)
  (aj\qq (pv 0) (pv 4) rfl)))))))),?_]
 let bx:=line5000;let hlen:=aD ht;erw[2,T0,2,.l\SqL.of hT,6,2,?_];rw[Om (by change ¬((200:Int)<(↑vt:Int));lia)];show aP #[2,T0,vt,ts,1,hT,ht,(),g.ne,λr B H1 bA s1 y1 aM=>?_];erw[2,r,B,ts,1,y1,aM,(),g.nd,λD H2 bK s2 y2=>?_];erw[2,D,ents ts,1,y2,g.nd,by rw[eR];lia,λS L H3 bS a0 st=>?_];let lL:↑L<5000:=by have:=st.len;rw[eR] at this;lia
 erw[2,S,ts,L,1,st.at_,st.nk,λz hz=>.l\st.ab z hz,st.key,lL,(),g,be,λl I=>?_]
 let a1:Sm H l:=((Sm.of\s1.trans s2)<*a0)<*I;let a2:l x*>.ins Cs dx []:=a1.keep hx (λz=>z);let al:Sm H2 l:=a0<*I;let a3:l r*>.a B:=al.keep (s2>>y1) (λz=>z);let a4:ax l B ts:=Paired.imp' (by rintro v' t' ⟨a',e,hh⟩;erw[a',e,al.keep (s2>>hh) λz=>z]) aM;let bl:=aD a4;erw[2,r,1,#[_,SqL.of a3],λZ_ hZ=>eD (K:=[]) (a:=r) (xs:=B) (λi Z ys H'=>∃o us,Z=[o]/\Same l H'/\H' Z_*>.a ys/\ax H' ys us/\↑us=i) #[gf,[],1,bT hZ,aW,.nil,1]
  (by rintro i Z ys H' _ ⟨_,_,_,e,_⟩;show SqL.of (e>>a3)) ?_ ?_]
 .rintro i v Z ys H' hi ⟨o,us,rfl,sm,a5,tr,bg⟩;let#[t3,hs,t,1,d]:=cD a4 hi;let b0:i<↑ts:=(aq.mp hs).1;let ly:↑ys<=200:=by rw[aD tr];lia
  erw[2,t,t3,1,sm>>d,λr' u H5 p y5 b1=>#[p>>a5,(),λHn kn yn=>#[gm\.r t,us++[u],1,λb o e=>(kn b\ao e hZ)<*(p>>sm>>e),yn,?_,by rw[aE,bg];rfl]]];let bm:=p>>a5;let tn:∀{M:gL}{xs:-V},H5 M*>.u xs->M≠Z_:=λe=>bI e bm ∅;show cW (Paired.imp' (by rintro _ _ ⟨M,e1,e2⟩;erw[M,e1,by let e3:=p>>e2;show (kn _\tn e3)<*e3]) tr)\.c #[r',1,(kn _\tn y5)<*y5] .nil
 rintro Z ys H5 ⟨o,ws,rfl,p,bn,am,bg⟩;let bt:↑ys=↑ts:=by rw[aD am,bg,bl]
 let ly:↑ys<=200:=();erw[Z_,ys,ws.map kyT,1,SqL.of bn,wX am,(),λO ix hO pm ps=>?_];let a6:↑(ix.map λi=>ys.getD i .non)=↑ts/\∀v∈(ix.map λi=>ys.getD i .non),∃a,v=.r a:=by erw[by rw[av,pm.length_eq,iz,bt],λv hv=>?_];let#[i,hi,1]:=ai.mp hv;let e:=ay\iB.mp (pm.mem_iff.mp hi);let#[0,a,ea,_]:=cD am e;erw[a,by simp only[List.getD,e,u7];show ea]
 generalize (ix.map λi=>ys.getD i .non)=vo at a6 |-;walk_at"H5 O hO j s6 y6";let m:Same l j:=p<*s6;erw[2,x,Cs,dx,2,m>>a2,X.cl,X.ordered,(by change 0<1000;decide),?_];let a7:Rd j S (.k\L.map stV):=(Sm.of m).rd\I.rd (.l st.at_);let an:=m>>a2;walk_at"j x H7 k7 y7";let a8:∀{b:gL}{u:HO},dh u->Rd j b u->b≠x:=λ{b u} q d z=>by
  subst z;rcases d with e|⟨ob,e⟩
  .rw[an] at e;cases e;show q
  rw[an] at e;cases e
 let a9:∀{b:gL}{u:HO},dh u->Rd j b u->Rd H7 b u:=λ{b u} q d=>by
  let n:=a8 q d;rcases d with e|⟨ob,e⟩
  .exact .l\(k7 b n).trans e
  show .o #[ob,(k7 b n)<*e]
 let#[bw,bb,b2]:=#[a9 (u:=.k\L.map stV) True.intro a7,((Sm.of m).rd\al.rd (.l y2):Rd j D (.dT\(ents ts).map bD)),a9 (u:=.dT\(ents ts).map bD) True.intro bb];erw[2,S,2,bw,True.intro,λks vs hk=>.l #[(L.map (·.1)).map λc:Nat=>(c:Int),?_,by rw[av,av];show lL,λR ms hR pm ps=>?_]]
 .rcases hk with ⟨kvs,e,rfl,_⟩|⟨kvs,as,e,_⟩
  .cases e;rw[bG,bG,bG];rfl
  cases e
 let#[cs,1,pl,pc]:=mh st.nk pm ps;let e:(cs.map λc:Nat=>(c:Int)).map V.int=nV cs:=by rw[bG];rfl
 rw[e];walk_at"H7 R hR H8 s8 y8";erw[2,x,Cs,dx,2,s8>>y7,X.cl,X.rising,(by change 1<1000;decide),?_];walk_at"H8 x H9 k9 y9";erw[3,x,Cs,dx,2,y9,X.cl,X.thirds,(by change 2<1000;decide),?_];walk_at"H9 x Ha ka ya";erw[3,x,Cs,dx,2,ya,X.cl,X.steps,(by change 3<1000;decide),?_];walk_at"Ha x Y kb yb";let bd:∀b,b≠x->Y b=H8 b:=λb n=>(kb b n).trans\(ka b n).trans (k9 b n);let y:∀b o,b≠x->j b*>o->Y b*>o:=λb o n e=>(bd b n)<*(s8>>((k7 b n)<*e));let nO:O≠x:=λz=>by rw[z,an] at y6;cases y6
 let nR:R≠x:=λz=>by rw[z,y7] at hR;cases hR
 let z1:=y O _ nO y6;let z3:=(bd R nR)<*y8;let z4:∀c,c∈cs↔Co ts c:=λc=>by rw[pc.mem_iff];show st.key c
 let z5:↑cs<=600:=by rw[pc.length_eq,av];have:=st.len;rw[eR] at this;lia
 let ap:∀{b:gL}{u:HO},dh u->Rd j b u->Rd Y b u:=λ{b u} q d=>by
  let n:=a8 q d;rcases d with e|⟨ob,e⟩
  .exact .l\y b _ n e
  show .o #[ob,y b _ n e]
 show q1 Y (λb o n e=>?_) #[dx,O,R,D,S,vo,cs,L,yb,z1,a6,z3,pl,z4,z5,ap True.intro bb,ap True.intro a7,st.nk,st.key,λz hz=>ap True.intro\(Sm.of m).rd (I.rd\.l (st.ab z hz))];rcases a1 b o e with z|⟨z1,ob,z⟩
 .exact .l\y b _ n (m>>z)
 show .o #[z1,ob,y b _ n (m>>z)]
end
def SmL(A:-gL)(H H':Hp):Prop:=∀b o,H b*>o->H' b*>o\/(dh o/\b∈A/\∃ob,H' b*>.z ob o)
section
variable {A:-gL}{H H' H1 H2:Hp}
def SmL.sm(s:SmL A H H'):Sm H H':=λb o e=>(s b o e).imp id λ⟨h,_,z⟩=>#[h,z]
def SmL.of(s:Same H H'):SmL A H H':=λb o e=>.l\s b o e
def SmL.trans(a:SmL A H H1)(b:SmL A H1 H2):SmL A H H2:=λc o e=>by
 rcases a c o e with d|⟨hd,f,ob,d⟩
 .exact b c o d
 rcases b c _ d with g|⟨h,_⟩
 .exact .o #[hd,f,ob,g]
 show False.elim h
def SmL.new(s:SmL A H H'){b:gL}{o:HO}(c:b∉A)(e:H b*>o):H' b*>o:=(s b o e).elim id λz=>(c z.2.1).elim
def _root_.L2.Fz.smL{d:gL}{o:Obj}{u:HO}(f:Fz H H2 d o u)(hd:d∈A):SmL A H H2:=λb w e=>by
 by_cases c:b=d
 .rcases f.sm b w e with z|⟨g,h⟩
  .exact .l z
  show .o #[g,c ▸ hd,h]
 show .l\(f.ne c).trans e
end
def SkA(C:gL)(H:Hp)(x:gL)(ts:-Tri)(A:-gL):Prop:=∃(dx O R D S:gL)(b:-V)(cs:-Nat)(L:-(Nat×gL)),nB C H x ts dx O R D S b cs L/\A=D::S::L.map (·.2)
def SkA.sm{C:gL}{x:gL}{ts:-Tri}{A:-gL}(s:Sm H H')(h:SkA C H x ts A):SkA C H' x ts A:=by let#[dx,O,R,D,S,b,cs,L,h,e]:=h;erw[dx,O,R,D,S,b,cs,L,h.sm s,e]
def SkA.at{C:gL}{x:gL}{ts:-Tri}{A:-gL}(h:SkA C H x ts A):cY C H x ts:=by let#[dx,O,R,D,S,b,cs,L,h,e]:=h;erw[dx,O,R,D,S,b,cs,L,h]
def SkA.dom{C:gL}{x:gL}{ts:-Tri}{A:-gL}(h:SkA C H x ts A){b:gL}(c:H b=gf):b∉A:=λhm=>by
 let#[dx,O,R,D,S,g,cs,L,h,1]:=h;let k:∀{u:HO},¬Rd H b u:=λd=>by rcases d with e|⟨ob,e⟩<;>(rw[c] at e;cases e)
 rcases ah.mp hm with rfl|hm
 .exact k h.th
 rcases ah.mp hm with rfl|hm
 .exact k h.st
 let#[z,f,1]:=ai.mp hm;show k\h.ab z f
def cY.a{C:gL}{x:gL}{ts:-Tri}(h:cY C H x ts):∃A,SkA C H x ts A:=by let#[dx,O,R,D,S,b,cs,L,h]:=h;erw[_,dx,O,R,D,S,b,cs,L,h,1]
def BA(C:gL)(vs:-V)(H:Hp)(Q:VK)(x:gL)(ts:-Tri):Prop:=vs=[.r x]/\cY C H x ts/\∀l b H',H l=gf->Same H H'->H' l*>.a b->↑b=↑ts->Q (.r l) H'
def vP(C:gL):Sp:=fm\BA C
def BB(C:gL)(vs:-V)(H:Hp)(Q:VK)(x:gL)(ts:-Tri):Prop:=vs=[.r x]/\cY C H x ts/\
 ∀l cs H',H l=gf->Same H H'->H' l*>.a (nV cs)->cs.Pairwise (· < ·)->(∀c,c∈cs↔Co ts c)->↑cs<=600->Q (.r l) H'
def ma(C:gL):Sp:=fm\BB C
section
def BJ:aR [↑86] [↑86] (aI oB):=.f
def BD{f C:gL}(U:Fun K ↑71 ↑85 oB f fd)(X:SCls K C)(T:bW mg):!aA CX0 1 f fd [↑86] (vP C):=by
 show U.ok BJ (!2) λ_ _ _ _ _ _ _ _ _ h=>?_
 let#[x,ts,1,#[dx,O,R,D,S,g,cs,L,sk],q]:=h;erw[_,aj\aK (cV l_ (by rfl) T.list ke\pa1 (gI (pv 0) rfl)),?_];erw[2,x,C,dx,9,sk.ob,X.cl,X.ordered,1,O,2,.l\SqL.of sk.od,λl H1 b s1 c=>q l _ _ b s1 c sk.ol.1]
def BK:aR [↑86] [↑86] (aI oC):=.f
def BE{f C:gL}(U:Fun K ↑74 "Skin.corners" oC f fd)(X:SCls K C)(T:bW mg):!aA CX0 1 f fd [↑86] (ma C):=by
 show U.ok BK (!2) λ_ _ _ _ _ _ _ _ _ h=>?_
 let#[x,ts,1,#[dx,O,R,D,S,g,cs,L,sk],q]:=h;erw[_,aj\aK (cV l_ (by rfl) T.list ke\pa1 (gI (pv 0) rfl)),?_];erw[2,x,C,dx,9,sk.ob,X.cl,X.rising,1,R,2,.l\SqL.of sk.ri,λl H1 b s1 c=>q l cs _ b s1 c sk.up sk.co sk.cl]
end
section
def gC{x dx:gL}{Cs:gL}(h1:H x=gf)(h2:H dx=gf)(s:SmB x (upd (upd H dx\.own x) x\.ins Cs dx []) H'):Sm H H':=λb o e=>by
 let c:=ao e h1;let d:=ao e h2;show s b o c (by rw[aS c,aS d];show e)
def iF{x dx:gL}{Cs:gL}(h1:H x=gf)(h2:H dx=gf):Same H (upd (upd H dx\.own x) x\.ins Cs dx []):=λb o e=>by
 rw[aS\ao e h1,aS\ao e h2];show e
end
variable {E:Nat->Nat->Nat->Prop}
def ar(E:Nat->Nat->Nat->Prop)(a b:Nat):Prop:=(∃q,E a b q)/\¬∃r,E b a r
def tL(k:Sk E){a b:Nat}{F:-Nat}(hF:Fan E a F)(all:∀p,(∃q,E a p q)->p∈F)(h:ar E a b):F[0]?*>b:=by
 let#[i,hi]:=dD.mp\all b h.1;cases i with
 |zero=>show hi
 |succ i=>
  let#[d,_]:=aq.mp hi;let c:F[i]?*>F[i]'():=ay _;show (h.2 #[_,k.rot\k.rot (hF.ch i _ _ c hi)]).elim
def mJ(k:Sk E){a b c:Nat}(o:One E a)(h:ar E a b)(h':ar E a c):b=c:=by let#[F,hF,all]:=o;show df\(tL k hF all h).symm.trans (tL k hF all h')
def oX(k:Sk E){a z:Nat}{F:-Nat}(hF:Fan E a F)(all:∀p,(∃q,E a p q)->p∈F)(h:ar E z a):∃l,F[↑F-1]?*>l/\E a l z:=by
 let#[#[#[q,b],no],b,#[i,hi],#[f,_]]:=#[h,k.rot b,dD.mp\all q #[z,b],aq.mp hi];by_cases c:i+1<↑F
 .let d:F[i+1]?*>F[i+1]:=ay c;let e:z=F[i+1]:=k.one b\hF.ch i _ _ hi d;show (no (by rw[e];show hF.key _\je c)).elim
 erw[q,by rw[show ↑F-1=i by lia];show hi,b]
def kP(k:Sk E){a z b:Nat}(o:One E a)(h:ar E z a)(h':ar E b a):z=b:=by let#[F,hF,all]:=o;let#[l,h1,h2]:=oX k hF all h;let#[e,c,d]:=oX k hF all h';cases h1.symm.trans c;show k.one h2 d
def xj(k:Sk E){a z:Nat}(o:One E a)(h:ar E z a):∃b,ar E a b:=by
 let#[F,hF,all]:=o;let#[l,h1,h2]:=oX k hF all h;let j:0<↑F:=by
  cases m:F with
  |nil=>show absurd m hF.ne
  |cons x xs=>simp
 let f:F[0]?*>F[0]'j:=ay _;generalize F[0]'j=b at f;erw[b,hF.key b\aJ f,λ⟨r,d⟩=>?_];let#[d,#[i,hi],#[n,_]]:=#[k.rot d,dD.mp\all r #[b,d],aq.mp hi];by_cases c:i+1<↑F
 .let g:F[i+1]?*>F[i+1]:=ay c;let e:=k.one d\hF.ch i _ _ hi g;rw[<-e] at g;have:=eQ hF.nd g f;lia
 rw[show ↑F-1=i by lia] at h1;cases hi.symm.trans h1;let e:=k.one d h2;show h.2 (by rw[<-e];show hF.key b\aJ f)
section
variable {R:Nat->Nat->Prop}
structure Path(R:Nat->Nat->Prop)(l:-Nat):Prop where
 ne:l≠[]
 nd:l.Nodup
 ch:∀i p q,l[i]?*>p->l[i+1]?*>q->R p q
structure Cyc(R:Nat->Nat->Prop)(l:-Nat):Prop extends Path R l where
 back:∀p q,l[↑l-1]?*>p->l[0]?*>q->R p q
def Cyc.step{l:-Nat}(h:Cyc R l){p:Nat}(d:p∈l):∃q∈l,R p q:=by
 let#[i,hi]:=dD.mp d;let#[e,_]:=aq.mp hi;by_cases c:i+1<↑l
 .exact#[l[i+1],je c,h.ch i _ _ hi\ay c]
 rw[show i=↑l-1 by lia] at hi;let b:l[0]?*>l[0]'():=ay _;erw[_,aJ b,h.back _ _ hi b]
def Cyc.closed(one:∀a b c,R a b->R a c->b=c){l:-Nat}(h:Cyc R l){p q:Nat}(d:p∈l)(e:R p q):q∈l:=by let#[f,h1,h2]:=h.step d;rw[one _ _ _ e h2];show h1
def Cyc.same(one:∀a b c,R a b->R a c->b=c)(inj:∀a b c,R a c->R b c->a=b){l m:-Nat}(h:Cyc R l)(hm:Cyc R m){x:Nat}(d:l[0]?*>x)(f:m[0]?*>x):l=m:=by
 let key:∀i,i<↑l->i<↑m->l[i]?=m[i]?:=by
  intro i;induction i with
  |zero=>intro _ _;rw[d,f]
  |succ i q=>
   intro h1 h2;let#[e,n,g,o]:=#[q () (),(ay _:l[i]?*>l[i]'()),(ay h1:l[i+1]?*>l[i+1]),(ay h2:m[i+1]?*>m[i+1])];rw[g,o,one _ _ _ (h.ch i _ _ n g)\hm.ch i _ _ (e ▸ n) o]
 let len:∀{l m:-Nat},Cyc R l->Cyc R m->l[0]?*>x->m[0]?*>x->(∀i,i<↑l->i<↑m->l[i]?=m[i]?)->¬↑l<↑m:=by intro l m h hm d f key c;let g:0<↑l:=dI.mpr h.ne;let p:l[↑l-1]?*>l[↑l-1]'():=ay _;let r:=(key (↑l-1) () ()).symm.trans p;let j:m[↑l]?*>m[↑l]:=ay c;let e:=one _ _ _ (h.back _ _ p d)\hm.ch (↑l-1) _ _ r (by rw[show ↑l-1+1=↑l by lia];show j);rw[<-e] at j;have:=eQ hm.nd j f;lia
 let e:↑l=↑m:=by let h1:=len h hm d f key;let h2:=len hm h f d λi a b=>(key i b a).symm;lia
 apply nI;intro i;by_cases c:i<↑l
 .exact key i c ()
 rw[nL (),nL ()]
def Cyc.before(inj:∀a b c,R a c->R b c->a=b){l:-Nat}(h:Cyc R l){p q:Nat}(f:q∈l)(e:R p q):p∈l:=by
 let#[i,hi]:=dD.mp f;let#[g,_]:=aq.mp hi;cases i with
 |zero=>
  let d:l[↑l-1]?*>l[↑l-1]'():=ay _;rw[inj _ _ _ e\h.back _ _ d hi];show aJ d
 |succ i=>
  let d:l[i]?*>l[i]'():=ay _;rw[inj _ _ _ e\h.ch i _ _ d hi];show aJ d
def Path.from(inj:∀a b c,R a c->R b c->a=b){l m:-Nat}(h:Path R m)(g:Cyc R l){x:Nat}(j:x∈m)(n:x∈l){y:Nat}(o:m[0]?*>y):y∈l:=by
 let key:∀(i p:Nat),m[i]?*>p->p∈l->y∈l:=by
  intro i;induction i with
  |zero=>intro p d e;cases o.symm.trans d;show e
  |succ i q=>
   intro p d e;let#[hm,_]:=aq.mp d;let f:m[i]?*>m[i]'():=ay _;show q _ f\g.before inj e (h.ch i _ _ f d)
 let#[i,hi]:=dD.mp j;show key i x hi n
structure Rims(R:Nat->Nat->Prop)(ls:List\-Nat):Prop where
 cyc:∀l∈ls,Cyc R l
 least:∀l∈ls,∀x,l[0]?*>x->∀p∈l,x<=p
 all:∀p,(∃q,R p q)->∃l∈ls,p∈l
 rise:ls.Pairwise λl m=>∀x y,l[0]?*>x->m[0]?*>y->x<y
def Path.begin{l:-Nat}(h:Path R l):∃x,l[0]?*>x/\x∈l:=by let b:0<↑l:=dI.mpr h.ne;erw[l[0],ay _,je _]
def Rims.sub(one:∀a b c,R a b->R a c->b=c)(inj:∀a b c,R a c->R b c->a=b){ls ms:List\-Nat}(h:Rims R ls)(h':Rims R ms):∀l∈ls,l∈ms:=by intro l d;let#[x,g,i]:=(h.cyc l d).toPath.begin;let#[q,_,n]:=(h.cyc l d).step i;let#[m,hm,j]:=h'.all x #[q,n];let#[y,f,o]:=(h'.cyc m hm).toPath.begin;let h1:=h'.least m hm y f x j;let h2:=h.least l d x g y\(h'.cyc m hm).toPath.from inj (h.cyc l d) j i f;let e:x=y:=j9 h2 h1;subst e;rw[(h.cyc l d).same one inj (h'.cyc m hm) g f];show hm
def Rims.nodup{ls:List\-Nat}(h:Rims R ls):ls.Nodup:=by show gv ?_ h.rise;intro l m c hm d e;subst e;let#[x,b,_]:=(h.cyc l c).toPath.begin;show dW _\d x x b b
def Rims.uniq(one:∀a b c,R a b->R a c->b=c)(inj:∀a b c,R a c->R b c->a=b){ls ms:List\-Nat}(h:Rims R ls)(h':Rims R ms):ls=ms:=by let p:ls.Perm ms:=(AF h.nodup h'.nodup).mpr λl=>#[h.sub one inj h' l,h'.sub one inj h l];show List.Perm.eq_of_pairwise (λl m f hm h1 h2=>?_) h.rise h'.rise p;let#[x,d,_]:=(h.cyc l f).toPath.begin;let#[y,e,_]:=(h'.cyc m hm).toPath.begin;show absurd (h1 x y d e)\Nat.lt_asymm (h2 y x e d)
end
def pU{ps:-Nat}{p:Nat}(h:ps[↑ps-1]?*>p):atI (nV ps) (-1)*>V.int (p:Int):=by let b:=(aq.mp h).1;unfold atI ixN;rw[a_,Oi ⋯,Oj ()];change (nV ps)[_]?=_;rw[show (-1+(↑ps:Int)).toNat=↑ps-1 by lia];show fM h
def xD{l:-Ent}{ks vs:-V}(c:DKV H (.dT\l.map bD) ks vs):SdsAt H ks (l.map (·.1)):=by
 rcases c with ⟨kvs,e,_⟩|⟨kvs,as,e,b,rfl,_⟩
 .cases e
 cases e;rename_i d;clear d;induction l generalizing as with
 |nil=>cases b;show .nil
 |cons x l f=>
  cases b with
  |cons h t=>show .c #[2,h]\f _ t
def xw{ts:-Tri}{c:Nat}:c∈flat ts↔Co ts c:=by
 rw[c_];unfold flat;rw[iA];constructor
 .rintro⟨t,h1,h2⟩;simp only[ah,cK,or_false] at h2;erw[t,h1,h2]
 rintro⟨t,h1,h2⟩;erw[t,h1,by simp only[ah,cK,or_false];show h2]
def HK{ts b:-Tri}(h:(ents b).Perm\ents ts)(c:Nat):Co b c↔Co ts c:=by
 unfold Co En;constructor
 .rintro⟨p,q,h1⟩;erw[p,q,h.mem_iff.mp h1]
 rintro⟨p,q,h1⟩;erw[p,q,h.mem_iff.mpr h1]
structure m8(R:Nat->Nat->Prop)(l:-(Nat×Nat)):Prop where
 nd:(l.map (·.1)).Nodup
 mem:∀p q,(p,q)∈l↔R p q
def m8.key{R:Nat->Nat->Prop}{l:-(Nat×Nat)}(h:m8 R l)(p:Nat):p∈l.map (·.1)↔∃q,R p q:=by
 constructor
 .intro z;let#[#[a,b],h1,1]:=ai.mp z;erw[b,(h.mem _ _).mp h1]
 rintro⟨q,c⟩;show ai.mpr #[_,(h.mem _ _).mpr c,1]
def B0(vs:-V)(H:Hp)(Q:VK)(d:gL)(l:-(Nat×Nat))(R:Nat->Nat->Prop)(s:Nat):Prop:=vs=[.r d,.i (s:Int)]/\Rd H d (.k\l.map nmV)/\↑l<=1000/\(∀a b c,R a c->R b c->a=b)/\m8 R l/\s∈l.map (·.1)/\
 ∀r ps H',H r=gf->Same H H'->H' r*>.a (nV ps)->↑ps<=1001->Path R ps->ps[0]?*>s->(∀z,ps[↑ps-1]?*>z->(∀q,¬R z q)\/R z s)->Q (.r r) H'
def rZ:Sp:=i8 B0
def dB(ts:-Tri)(es:-Ent):-(Nat×Nat):=(es.map (·.1)).filter λs=>decide ((s.2,s.1)∉(ents ts).map (·.1))
def uq{ts:-Tri}{a b:Nat}:(a,b)∈(ents ts).map (·.1)↔∃c,En ts a b c:=by
 constructor
 .intro h;let#[#[#[x,y],c],h1,h2]:=ai.mp h;cases h2;erw[c,h1]
 rintro⟨c,h⟩;show ai.mpr #[_,h,1]
def tN{ts:-Tri}{a b:Nat}:ar (En ts) a b↔Rim ts (a,b):=by unfold ar Rim;rw[uq,uq]
def xk{ts:-Tri}{a b:Nat}:(a,b)∈dB ts (ents ts)↔ar (En ts) a b:=by unfold dB;rw[tN,bZ,decide_eq_true_eq];rfl
def Eb{ts:-Tri}{es:-Ent}{a b:Nat}(c:∀e∈es,e∈ents ts)(h:(a,b)∈dB ts es):ar (En ts) a b:=by unfold dB at h;let#[h1,h2]:=bZ.mp h;let#[e,he,d]:=ai.mp h1;show tN.mpr #[ai.mpr #[e,c e he,d],On h2]
def GU{R:Nat->Nat->Prop}(one:∀a b c,R a b->R a c->b=c){l:-(Nat×Nat)}(nd:l.Nodup)(h:∀p∈l,R p.1 p.2):(l.map (·.1)).Nodup:=by
 induction l with
 |nil=>show jh
 |cons x l f=>
  rw[bF] at nd;rw[bj,bF];erw[λz=>?_,f nd.2 λp g=>h p\aC _ g];let#[#[y,d,e],h1,h2]:=#[ai.mp z,h x aL,h y\aC _ d];rw[e] at h2;have:y=x:=lX e\one _ _ _ h2 h1;rw[this] at d;show nd.1 d
def rX{ts:-Tri}(g:Good ts)(o:∀c,Co ts c->One (En ts) c):(∀a b c,ar (En ts) a b->ar (En ts) a c->b=c)/\(∀a b c,ar (En ts) a c->ar (En ts) b c->a=b)/\(∀a b,ar (En ts) a b->∃c,ar (En ts) b c):=by let co1:∀{a b},ar (En ts) a b->Co ts a:=λ⟨⟨q,d⟩,_⟩=>#[_,q,d];let e:∀{a b},ar (En ts) a b->Co ts b:=λ⟨⟨q,d⟩,_⟩=>#[q,_,g.sk.rot d];erw[λa b c h1 h2=>mJ g.sk (o a\co1 h1) h1 h2,λa b c h1 h2=>kP g.sk (o c\e h1) h1 h2,λa b h=>xj g.sk (o b\e h) h]
def FU{ts:-Tri}(g:Good ts)(o:∀c,Co ts c->One (En ts) c):m8 (ar\En ts) (dB ts\ents ts):=
 #[GU (rX g o).1 (g.nd.filter _) λp b=>xk.mp b,λ_ _=>xk]
def xl(ts:-Tri)(es:-Ent):↑(dB ts es)<=↑es:=by unfold dB;have:=gU (λs:Nat×Nat=>decide ((s.2,s.1)∉(ents ts).map (·.1)))\es.map (·.1);rw[av] at this;show this
def BG(Cs:gL)(vs:-V)(H:Hp)(Q:VK)(x:gL)(ts:-Tri)(A:-gL):Prop:=vs=[.r x]/\SkA Cs H x ts A/\Good ts/\(∀c,Co ts c->One (En ts) c)/\↑ts<=200/\
 ∀D H',H D=gf->SmL A H H'->H' D*>.k ((dB ts\ents ts).map nmV)->Q (.r D) H'
def vW(Cs:gL):Sp:=du\BG Cs
section
def xg:aR [↑69,"begin","row"] [↑69,"begin"] (aI pF):=.f
def Ce{f:gL}(U:Fun K "walked" "walked" pF f fd):!aA CX0 1 f fd [↑69,"begin"] rZ:=by
 show U.ok xg (!4) λOq A outer s0 H vs Q E0 Y h=>?_
 let#[d,l,R,s,1,hd,hl,inj,ab,hs,q]:=h;let N:=cG Y;erw[_,af (sx 2 xg.nd\cz (pa1\pv 1))
  (af (kF bP (bH jQ (Em N (pv 0) (ixx bB (pv 2)\i6 iQ ag) (pv 1) #[5,5]) (pv 1)\nomark _)
   (aj\c9 (cP c7 eM eO dJ (pv 2)\pa1 (f_ N (pv 0) (ixx bB (pv 2)\i6 iQ ag) λ_ _=>rfl))))
  (aj\aK (pv 2))),?_]
 let a0:=line5000;let key:∀p,p∈l.map (·.1)↔∃q,R p q:=λp=>by
  constructor
  .intro h;let#[#[a,b],h1,1]:=ai.mp h;erw[b,(ab.mem _ _).mp h1]
  rintro⟨q,g⟩;show ai.mpr #[_,(ab.mem _ _).mpr g,1]
 erw[2,lit1,λr H1 ad s1 y1=>?_];erw[λm Z H'=>∃ps:-Nat,Z=[gm\.r d,gm\.i (s:Int),gm\.r r]/\m=↑l+1-↑ps/\Same H H'/\H' r*>.a (nV ps)/\↑ps<=↑l+1/\ps.Nodup/\ps[0]?*>s/\(∀i p q,ps[i]?*>p->ps[i+1]?*>q->R p q),
  #[_,[s],5,s1,y1,∅,∅,1,λi p q h1 h2=>by simp at h2],?_]
 rintro m Z H' ⟨ps,rfl,rfl,sm,j,a1,nd,v,ch⟩;let y:=(aq.mp v).1;let#[z,n]:∃z,ps[↑ps-1]?*>z:=#[_,ay ()];let#[D,O,E]:=#[((Sm.of sm).rd hd:Rd H' d (.k\l.map nmV)),pU n,(ad:H r=gf)];erw[2,d,1,.l #[_,D],3,r,4,SqL.of j,O,2,_,.l #[_,Sum.inl (z:Int),D,5],?_];by_cases C:z∈l.map (·.1)
 .let#[i,x,h1,h2,_]:=iU C;let hx:(z,x)∈l:=aJ h1;let I:R z x:=(ab.mem _ _).mp hx;rw[h2];erw[2,7,?_];change if (!decide (V.int (x:Int)=V.int (s:Int)))=gn then _ else _
  rw[jY];by_cases S:x=s
  .subst S;rw[Ol rfl];show aP #[2,q r ps H' E sm j () #[λz=>by rw[z] at y;simp at y,nd,ch] v λz' B=>.o (by rw[n] at B;cases B;show I)]
  rw[Om ()];let al:∀p∈ps,p∈l.map (·.1):=λp u=>by
   let#[i,hi]:=cJ u;let am:=(aq.mp hi).1;by_cases an:i+1<↑ps
   .exact (key p).mpr #[_,ch i p _ hi\ay an]
   rw[show i=↑ps-1 by lia,n] at hi;cases hi;show C
  let hlen:=g7 nd al;rw[av] at hlen;show bf #[λZ' L=>∃c:-Nat,Z'=[gm\.r d,gm\.i (s:Int),gm\.r r]/\↑c=↑ps+1/\Same H L/\L r*>.a (nV c)/\c.Nodup/\c[0]?*>s/\(∀i p q,c[i]?*>p->c[i+1]?*>q->R p q),
   λZ' L ⟨c,e,h1,h2,h3,h4,h5,h6⟩=>#[↑l+1-↑c,(),c,e,1,h2,h3,(),h4,h5,h6],?_]
  erw[2,.l #[1,_,SqL.of j],3,2,r,4,SqL.of j,O,d,V.int (x:Int),1,.l #[_,Sum.inl (z:Int),D,1,h2.symm],r,6,j,by rw[a_];lia,λH2 k2 y2=>?_];erw[ps++[x],1,by rw[aE,ck],λb' o e=>?_,by rw[y2,mZ,eJ],?_,?_,λi p M u g=>?_]
  .rw[k2 _\ao e E];show sm _ _ e
  .rw[aQ];erw[nd,∅,λa ha b T=>?_];rw[aN] at T;rintro rfl;subst T;let#[i,hi]:=cJ ha;cases i with
   |zero=>rw[v] at hi;cases hi;show S rfl
   |succ i=>
    let am:=(aq.mp hi).1;let#[o,X]:∃o,ps[i]?*>o:=#[_,ay ()];have:=inj _ _ _ (ch i o a X hi) I;subst this;have:=eQ nd X n;lia
  .rw[bY y];show v
  by_cases hi:i+1<↑ps
  .rw[bY ()] at u;rw[bY hi] at g;show ch i p M u g
  let ap:=(aq.mp g).1;rw[aE,ck] at ap;rw[bY (),show i=↑ps-1 by lia,n] at u;rw[fB (),show i+1-↑ps=0 by lia] at g;cases u;cases g;show I
 rw[t4 C];erw[2,7,?_];change if (!decide (V.int (s:Int)=V.int (s:Int)))=gn then _ else _
 rw[jY,Ol rfl];show aP #[2,q r ps H' E sm j () #[λz=>by rw[z] at y;simp at y,nd,ch] v λz' B=>.l λM aM=>C\(key z).mpr #[M,by rw[n] at B;cases B;show aM]]
def B_:aR [↑36] [↑36] (aI oJ):=.f
def BM{f Cs:gL}(U:Fun K ↑72 ↑72 oJ f fd)(X:SCls K Cs):!aA CX0 1 f fd [↑36] (vW Cs):=by
 show U.ok B_ (!3) λ_ _ _ _ H vs _ _ hr h=>?_
 let#[x,ts,A',1,sk,g,ad,hl,q]:=h;let#[dx,O,R,n,S,vo,cs,L,sk,eA]:=sk;let T:=sk.ob;let hD:=sk.th;let hu:=cG hr;let an:=line5000;erw[_,aj\aK (sR (N:=["a","b",↑36]) (fr:=[gf,gf,gm 0]) (g:=jW [] 2\eX (cE 0) (eX (cE 1) jX)) (tt:=tB\tu (qQ\dU (bC 1) (dU (bC 0) fk)) (uD K (bC 2) ↑88)) cpK rfl (pR\gI (pv 0) rfl)
    (λC' s' H' fp Oo=>#[cu rfl\aG (gx 0 (⋯:(["a","b",↑36]:-Str).Nodup)) (aG (gx 1 (⋯:(["a","b",↑36]:-Str).Nodup)) cq),
     hU (eG\g6 hu (aT\ae (pv 1) (pa1\pv 0)) (gI (pv 2) rfl)),pv 0,pv 1])),?_]
 erw[2,x,Cs,dx,9,T,X.cl,X.thirds,1,n,2,hD,True.intro,λks vs o H2 hk fz=>?_];let#[Y,lk,p,al,ab,am]:=#[xD hk,aD Y,(fz.sm:Sm H H2),p.keep T (λz=>z),fz.at,(Paired.imp' (by rintro _ _ ⟨a,e,h⟩;erw[a,e,p.keep h λz=>z]) Y:SdsAt H2 ks ((ents ts).map (·.1)))];intro D r;show CC (d:=n) (o:=o) (u:=.dT\(ents ts).map bD) (ks:=ks) (λi Z H'=>∃B C,Z=[B,C,gm\.r x]/\Same H2 H'/\H' D*>.k\(dB ts\(ents ts).take i).map nmV) #[gf,gf,1,bT r,aW] (by rintro i Z H' _ ⟨_,_,_,e,_⟩;show e _ _ ab) ?_ ?_
 .rintro i y Z H' hi ⟨B,C,rfl,sm,m⟩;let#[#[a,b],hs,c,1,hc]:=cD am hi;rw[aU] at hs;let#[#[#[a',b'],w'],he,hh]:=bQ.mp hs;cases hh;let I:(ents ts).take (i+1)=(ents ts).take i++[((a,b),w')]:=by rw[bq,he];rfl
  erw[c,2,SqT.of (sm>>hc),1,9,6,?_];erw[3,lit2,λt1 H3 g1 j y3=>?_];erw[2,x,Cs,dx,9,j>>sm>>al,X.cl,X.thirds,1,n,2,.o #[_,ky b a,t1,.o #[o,j>>sm>>ab],1,y3,1],?_];let ll:=xl ts\(ents ts).take i;let lt:↑((ents ts).take i)<=600:=by rw[aZ,eR];lia
  by_cases l:(b,a)∈(ents ts).map (·.1)
  .let hv:(bu ((ents ts).map bD)\ky b a).isSome=gn:=by
    cases e:bu ((ents ts).map bD) (ky b a) with
    |none=>show (fE.mp e l).elim
    |some v=>rfl
   let M:dB ts ((ents ts).take (i+1))=dB ts ((ents ts).take i):=by rw[I];unfold dB;rw[bc,fR];change _++List.filter _ [(a,b)]=_;rw[Au ‹l›];simp
   erw[gB,by rw[hv];rfl,aP #[9,sm<*j,by rw[M];show j _ _ m]]
  let M:dB ts ((ents ts).take (i+1))=dB ts ((ents ts).take i)++[(a,b)]:=by rw[I];unfold dB;rw[bc,fR];change _++List.filter _ [(a,b)]=_;rw[Av ‹l›];rfl
  let hn:a∉(dB ts\(ents ts).take i).map (·.1):=λz=>by
   let#[#[a2,b2],h1,h2]:=ai.mp z;let h2:a2=a:=h2;subst h2;let#[r1,r2,eb]:=#[Eb (λe he=>LV he) h1,(tN.mpr #[ai.mpr #[_,aJ he,1],l]:ar (En ts) a2 b),(rX g ad).1 _ _ _ r1 r2];subst eb;unfold dB at h1;let h3:=(bZ.mp h1).1;let nd:=g.nd;rw[<-di (i+1)\ents ts,I,bc,bc,aQ,aQ] at nd;show nd.1.2.2 _ h3 _ ∅ rfl
  erw[gn,by rw[fE.mpr l];rfl,bf #[3,_,Sum.inl (a:Int),j>>m,1,by rw[av];lia,9,λb' o' e=>?_,?_]]
  .rw[aS\ao e r];show j _ _ (sm>>e)
  rw[aW];change gm (HO.dK\bV _ (Sum.inl (a:Int)) (V.int (b:Int)))=_;rw[mU hn,M]
 rintro Z H' ⟨B,C,rfl,sm,m⟩;show q D H' (p.free r) ((fz.smL (by rw[eA];show aL)).trans\SmL.of sm) ?_;rw[m,gW (by rw[lk,av];show au _)]
end
def CM(vs:-V)(H:Hp)(Q:VK)(d:gL)(l:-(Nat×Nat)):Prop:=vs=[.r d]/\Rd H d (.k\l.map nmV)/\l≠[]/\↑l<=1000/\
 ∀(s:Nat) H',SmL [d] H H'->s∈l.map (·.1)->((∀o,(o,s)∉l)\/(∀p,p∈l.map (·.1)->∃o,(o,p)∈l)/\∀p,p∈l.map (·.1)->s<=p)->Q (.i (s:Int)) H'
def sM:Sp:=fm CM
section
def C6{f:gL}(U:Fun K ↑65 ↑65 qk f fd)(T:bW mg)(mN:mg "min" = gf):!aA CX0 1 f fd [↑69] sM:=by
 show U.ok tH (!2) λ_ _ _ _ H vs _ _ _ h=>?_
 let#[d,l,1,hd,al,hl,q]:=h;erw[_,af (sx 1 tH.nd\cV (Bp rfl) (by rfl) T.list ke (pa1\zk Mx PySem.F.type_dict_values C_ (pv 0)))
  (af (mK (i:=2) (N:=["p","reached"]) (fr:=[gf,gm 1]) (tt:=m9\tOp (rIn [] gn) (bC 0) (bC 1)) cpK rfl (pR\pv 0)
    (λC' s' H' fp Oo=>#[gx 0 (⋯:(["p","reached"]:-Str).Nodup),hU\bH ko (pv 0) (pv 1) rfl,pv 0]) tH.nd rfl (.l rfl))
  (aj\aK (Ek (xn (pv 2) λ_=>rfl) (ixx bB (pv 2) ag)\cL (By rfl) (by rfl) mN sJ (pa1\pv 0)))),?_]
 let a0:=line5000;erw[2,#[d,1,.l #[_,hd]],d,2,1,hd,λv hv=>?_];walk_at"H v hv H1 s1 y1";let R:=(Sm.of s1).rd hd;erw[v,d,2,y1,R,λr am=>?_];walk_at"H1 r am H2 s2 S";let an:=(Sm.of s2).rd R;rw[GQ] at S;erw[2,d,2,an,True.intro,λks vs o X hk g=>?_];let ek:ks=nV (l.map (·.1)):=by
  rcases hk with ⟨kvs,e,e1,_⟩|⟨kvs,as,e,_⟩
  .cases e;rw[e1,pT]
  cases e
 subst ek;let y3:X r*>.a (nV\l.map (·.2)):=g.sm.keep S (λz=>z);show λZ_ Y=>wM (d:=d) (o:=o) (u:=.k\l.map nmV) (ks:=nV\l.map (·.1)) (λi Z ys H'=>∃o,Z=[o,gm\.r r]/\ys=nV (((l.map (·.1)).take i).filter λp=>decide (p∉l.map (·.2)))/\Same X H'/\H' Z_*>.a ys) #[gf,5,bT Y,aW] (by rintro i Z ys H' _ ⟨_,_,_,e,_⟩;show e _ _ g.at) ?_ ?_
 .rintro i y Z ys H' hi ⟨o,rfl,rfl,c,ab⟩;rw[nV,aU] at hi;let#[n,D,1]:=bQ.mp hi;let et:(l.map (·.1)).take (i+1)=(l.map (·.1)).take i++[n]:=by rw[bq,D];rfl
  erw[3,r,2,.l\SqL.of (c>>y3),1,iP _,2,?_];change if (if gn=gn then !inV (V.int (n:Int)) (nV\l.map (·.2)) else _)=gn then _ else _
  rw[Oj rfl,ia];by_cases B:n∈l.map (·.2)
  .rw[Ol B];show aP #[2,?_,c,ab];rw[et,fR,eu,Oi ‹B›,jd,fQ]
  rw[Om B];show bf #[2,ab,?_,λHn kn yn=>#[2,?_,λb o e=>(kn b\ao e Y)<*(c>>e),yn]]
  .rw[a_];let h1:=gU (λp=>decide (p∉l.map (·.2)))\(l.map (·.1)).take i;rw[aZ,av] at h1;lia
  rw[et,fR,eu,Oj ‹B›,jd,<-eJ];rfl
 rintro Z ys I ⟨o',rfl,rfl,c,C⟩;rw[a_,b_] at C;let ad:SmL [d] H I:=((SmL.of\s1.trans s2).trans\g.smL aL).trans\SmL.of c;let L:∀x,x∈((l.map (·.1)).filter λp=>decide (p∉l.map (·.2)))↔x∈l.map (·.1)/\x∉l.map (·.2):=λx=>by rw[bZ,decide_eq_true_eq]
 let ap:∀x,x∉l.map (·.2)->∀o,(o,x)∉l:=λx hx o M=>hx\ai.mpr #[_,M,1];generalize ((l.map (·.1)).filter λp=>decide (p∉l.map (·.2)))=bs at L C;erw[2,_,.l #[_,SqL.of C,1],?_];cases bs with
 |cons b bs=>
  show bf #[2,Z_,4,SqL.of C,cF (j:=0) rfl,?_];let#[h1,h2]:=(L b).mp ∅;show q b I ad h1\.l (ap b h2)
 |nil=>
  show aP #[2,d,_,(l.map (·.1)).map λn:Nat=>(n:Int),1,(Sm.of c).rd\.o #[_,g.at],by rw[pT,bG];rfl,?_,λm hm aM=>?_]
  .cases l with
   |nil=>show absurd rfl al
   |cons a l=>simp
  let#[n,D,1]:=ai.mp hm;show q n I ad D\.o #[λp O=>?_,λp O=>by have:=aM (p:Int)\ai.mpr #[p,O,1];lia];have:p∈l.map (·.2):=lO λz=>by
   have:=(L p).mpr #[O,z];cases this
  let#[#[o,p'],M,1]:=ai.mp this;erw[o,M]
def Hv{f:gL}{k:Nat}(G:!aA CX0 k f fd [↑69] sM):!aA CX0 k f fd [↑69] tF:=
 G.imp λvs H Q E ⟨d,l,e,h1,h2,b,q⟩=>#[d,l,e,h1,h2,b,λs H' sm c g=>q s H' sm.sm c (g.imp_right λz=>z.1)]
end
def HA{as bs:-Tri}(h:as.Perm bs):(ents as).Perm (ents bs):=h.flatMap_right _
structure Skn(ts:-Tri):Prop where
 g:Good ts
 o:∀c,Co ts c->One (En ts) c
def Skn.pm{ts d:-Tri}(s:Skn ts)(h:(ents d).Perm\ents ts):Skn d:=by
 erw[#[λt f=>?_,(h.map _).nodup_iff.mpr s.g.nd],λc i=>?_]
 .let#[k,#[a,b,c],e]:=#[s.g.sk,t,(h.mem_iff.mp\dz.mpr (.l f):En ts a b c)];erw[k.ne e,k.ne\k.rot e,k.ne\k.rot (k.rot e)]
 let#[p,q,e]:=i;show (su (λa b c=>(h.mem_iff:((a,b),c)∈_↔_)) c).mpr\s.o c #[p,q,h.mem_iff.mp e]
def Lk(R:Nat->Nat->Prop):-Nat->Prop
 |p::q::l=>R p q/\Lk R (q::l)
 |_=>True
def gi{R:Nat->Nat->Prop}:∀{l:-Nat},Lk R l↔∀i p q,l[i]?*>p->l[i+1]?*>q->R p q
 | []=>#[λ_ i p q h=>by simp at h,λ_=>trivial]
 | [a]=>#[λ_ i p q _ h=>by simp at h,λ_=>trivial]
 |a::b::l=>by
  change R a b/\Lk R (b::l)↔_;rw[gi];constructor
  .rintro⟨h1,h2⟩ i p q c d;cases i with
   |zero=>cases c;cases d;show h1
   |succ i=>show h2 i p q c d
  show λh=>#[h 0 a b rfl rfl,λi p q c d=>h (i+1) p q c d]
def eT{R S:Nat->Nat->Prop}:∀{l:-Nat},(∀p q,p∈l->R p q->S p q)->Lk R l->Lk S l
 | [],_,_=>trivial
 | [a],_,_=>trivial
 |a::b::l,k,⟨h1,h2⟩=>#[k a b ∅ h1,eT (λp q c=>k p q\aC _ c) h2]
def eK{R:Nat->Nat->Prop}:∀{l m:-Nat},Lk R (l++m)↔Lk R l/\Lk R m/\∀x y,l.getLast?*>x->m[0]?*>y->R x y
 | [],m=>#[λh=>#[trivial,h,λx y z=>by simp at z],λh=>h.2.1]
 | [a],[]=>#[λh=>#[trivial,trivial,λx y _ z=>by simp at z],λ_=>trivial]
 | [a],b::m=>#[λh=>#[trivial,h.2,λx y e f=>by cases e;cases f;show h.1],λh=>#[h.2.2 a b rfl rfl,h.2.1]]
 |a::b::l,m=>by
  change R a b/\Lk R (b::l++m)↔(R a b/\Lk R (b::l))/\_;rw[eK (l:=b::l),List.getLast?_cons_cons];erw[λ⟨h1,h2,c,d⟩=>#[#[h1,h2],c,d],λ⟨⟨h1,h2⟩,c,d⟩=>#[h1,h2,c,d]]
section
variable {E E':Nat->Nat->Nat->Prop}{v:Nat}
def fK{F:-Nat}(ne:F≠[])(nd:F.Nodup)(ch:Lk (E v) F)(key:∀p,p∈F↔∃q,E v p q):One E v:=
 #[F,#[ne,nd,gi.mp ch,λp b=>(key p).mp b,λp _ q _ c=>(key q).mpr c,λp _ o d=>(key o).mpr #[p,d]],λp b=>(key p).mpr b]
def jK(o:One E v):∃F,F≠[]/\F.Nodup/\Lk (E v) F/\∀p,p∈F↔∃q,E v p q:=by let#[F,hF,all]:=o;erw[F,hF.ne,hF.nd,gi.mpr hF.ch,λp=>#[hF.key p,all p]]
def Gi{b c x:Nat}(k:Sk E)(o:One E v)(g:E v b c)(u:∀p q,E v p q->p≠x)(h:∀p q,E' v p q↔(E v p q/\p≠b)\/(p=b/\q=x)\/(p=x/\q=c)):One E' v:=by
 let#[#[F,ne,nd,ch,key],#[l,m,1],y]:=#[jK o,jb\(key b).mpr #[c,g],(λz=>u b c g z.symm:x≠b)];let i:x∉l++b::m:=λhm=>by
  let#[q,e]:=(key x).mp hm;show u x q e rfl
 let#[#[A,B,j],#[n,C],s,#[D,w,H]]:=#[aQ.mp nd,bF.mp B,(λz=>j b z b ∅ rfl:b∉l),eK.mp ch];rw[az,ah,not_or,not_or] at i;show fK (F:=l++b::x::m) ∅ ?_ (eK.mpr #[eT (λp q f r=>(h p q).mpr\.l #[r,λz=>s (z ▸ f)]) D,#[(h b x).mpr\.o (.l #[5]),?_],λp q f e=>?_]) λp=>?_
 .refine aQ.mpr #[A,bF.mpr #[?_,bF.mpr #[i.2.2,C]],λp f q e=>?_]
  .rw[ah,not_or];erw[aO y,n]
  rcases ah.mp e with rfl|e
  .exact j p f q ∅
  rcases ah.mp e with rfl|e
  .exact λz=>i.1 (z ▸ f)
  show j p f q\aC _ e
 .cases m with
  |nil=>trivial
  |cons d m=>
   let I:d=c:=k.one w.1 g;subst I;erw[(h x d).mpr\.o (.o #[5]),eT (λp q f r=>(h p q).mpr\.l #[r,λz=>n (z ▸ f)]) w.2]
 .cases e;have:=H p b f rfl;show (h p b).mpr\.l #[this,λz=>s (z ▸ AC f)]
 let kp:=key p;rw[az,ah] at kp |-;rw[ah];constructor
 .rintro (f|rfl|rfl|f)
  .let#[q,e]:=kp.mp\.l f;erw[q,(h p q).mpr\.l #[e,λz=>s (z ▸ f)]]
  .exact#[x,(h p x).mpr\.o (.l #[5])]
  .exact#[c,(h p c).mpr\.o (.o #[5])]
  let#[q,e]:=kp.mp\.o (.o f);erw[q,(h p q).mpr\.l #[e,λz=>n (z ▸ f)]]
 rintro⟨q,e⟩;rcases (h p q).mp e with ⟨e,_⟩|⟨rfl,_⟩|⟨rfl,_⟩
 .rcases kp.mpr #[q,e] with z|z|z
  .exact .l z
  .exact .o\.l z
  show .o\.o (.o z)
 .exact .o\.l rfl
 show .o\.o (.l rfl)
def Gp{x:Nat}{A:Nat->Nat->Prop}(k:Sk E)(o:One E v)(g:∀p q,A p q->ar E p q)(w:∀p q,E v p q->p≠x/\q≠x)(h:∀p q,E' v p q↔E v p q\/(A p v/\q=x)\/(p=x/\A v q)):One E' v:=by
 let#[d,hF,all]:=id o;let#[i,n]:∃b,d[0]?*>b:=by
  cases d with
  |nil=>show absurd rfl hF.ne
  |cons b l=>erw[b,1]
 let key:∀p,p∈d↔∃q,E v p q:=λp=>#[hF.key p,all p];let ch:Lk (E v) d:=gi.mpr hF.ch;let up:∀{l},Lk (E v) l->Lk (E' v) l:=λs=>eT (λp q _ r=>(h p q).mpr\.l r) s;let N:x∉d:=λz=>by
  let#[q,c]:=(key x).mp z;show (w x q c).1 rfl
 let#[l2,B,O,C,D]:∃l2:-Nat,(∀z,z∈l2↔A z v)/\l2.Nodup/\(∀z∈l2,z∉d/\z≠x)/\Lk (E' v) (d++l2):=by
  by_cases ha:∃z,A z v
  .let#[z,e]:=ha;let#[l,s,H]:=oX k hF all\g z v e;erw[[z],λy=>#[λj=>by rw[aN.mp j];show e,λj=>by rw[aN];show kP k o (g y v j)\g z v e],∅,λy j=>?_,eK.mpr #[up ch,trivial,λp q f c=>?_]]
   .rw[aN.mp j];erw[λm=>(g z v e).2\(key z).mp m,(w l z H).2]
   cases c;rw[eC,s] at f;cases f;show (h _ _).mpr\.l H
  erw[[],λz=>#[λe=>by simp at e,λe=>(ha #[z,e]).elim],.nil,λz e=>by simp at e,by rw[fQ];show up ch]
 let hd:(d++l2)[0]?*>i:=by rw[bY (by have:=(aq.mp n).1;show this)];show n
 let I:(d++l2).Nodup:=aQ.mpr #[hF.nd,O,λp f q c z=>(C q c).1 (z ▸ f)];let P:x∉d++l2:=λz=>(az.mp z).elim N λz=>(C x z).2 rfl;by_cases K:∃q,A v q
 .let#[L,u]:=K;let Q:i=L:=df\n.symm.trans (tL k hF all\g v L u);subst Q;show fK (F:=x::(d++l2)) ∅ (bF.mpr #[P,I]) ?_ λp=>?_
  .rw[<-List.singleton_append,eK];erw[trivial,D,λa b ha M=>?_];cases ha;rw[hd] at M;cases M;show (h x i).mpr\.o (.o #[1,u])
  rw[ah,az,key,B];constructor
  .rintro (rfl|⟨q,c⟩|f)
   .exact#[i,(h p i).mpr\.o (.o #[1,u])]
   .exact#[q,(h p q).mpr\.l c]
   erw[x,(h p x).mpr\.o (.l #[f,1])]
  rintro⟨q,c⟩;rcases (h p q).mp c with c|⟨c,_⟩|⟨rfl,_⟩
  .exact .o\.l #[q,c]
  .exact .o\.o c
  show .l rfl
 show fK (F:=d++l2) (λz=>hF.ne (List.append_eq_nil_iff.mp z).1) I D λp=>?_;rw[az,key,B];constructor
 .rintro (⟨q,c⟩|f)
  .exact#[q,(h p q).mpr\.l c]
  erw[x,(h p x).mpr\.o (.l #[f,1])]
 rintro⟨q,c⟩;rcases (h p q).mp c with c|⟨c,_⟩|⟨rfl,c⟩
 .exact .l #[q,c]
 .exact .o c
 show (K #[q,c]).elim
end
def R3(a b c p q r:Nat):Prop:=(p=a/\q=b/\r=c)\/(p=b/\q=c/\r=a)\/(p=c/\q=a/\r=b)
def cX{l m:-Tri}{p q r:Nat}:En (l++m) p q r↔En l p q r\/En m p q r:=by unfold En ents;rw[gQ,az]
def fI{a b c:Nat}{m:-Tri}{p q r:Nat}:En ((a,b,c)::m) p q r↔R3 a b c p q r\/En m p q r:=by unfold En;rw[mn,az];show or_congr ?_ ja;change _∈[((a,b),c),((b,c),a),((c,a),b)]↔_;simp only[ah,cK,or_false,jk,and_assoc,R3]
def m5{p q r:Nat}:¬En [] p q r:=λh=>by cases h
def IF{l:-Tri}{a b c x:Nat}(s:Skn (l++[(a,b,c)]))(f:¬Co (l++[(a,b,c)]) x):Skn (l++[(a,b,x),(b,c,x),(c,a,x)]):=by
 let#[k,e,w,A,B,nx,xs]:=#[s.g.sk,(cX.mpr\.o (fI.mpr\.l (.l #[5,1])):En (l++[(a,b,c)]) a b c),k.ne e,k.ne\k.rot e,k.ne\k.rot (k.rot e),(λ{p q r} h=>#[λz=>f #[q,r,z ▸ h],λz=>f #[r,p,z ▸ k.rot h],λz=>f #[p,q,z ▸ k.rot (k.rot h)]]:∀{p q r},En (l++[(a,b,c)]) p q r->p≠x/\q≠x/\r≠x),nx e];let C:∀{p q r},En l p q r↔En (l++[(a,b,c)]) p q r/\¬R3 a b c p q r:=λ{p q r}=>by
  rw[cX,fI];constructor
  .intro h;erw[.l h,λz=>?_];let nd:=s.g.nd;unfold ents at nd;rw[gQ,bc,aQ] at nd;show nd.2.2 (p,q) (ai.mpr #[((p,q),r),h,1]) (p,q) (ai.mpr #[((p,q),r),fI.mpr\.l z,1]) rfl
  rintro⟨h|h|h,D⟩
  .exact h
  .exact (D h).elim
  show (m5 h).elim
 erw[wI s.g f,λv m=>?_];let u:∀v p q,En (l++[(a,b,x),(b,c,x),(c,a,x)]) v p q↔(En (l++[(a,b,c)]) v p q/\¬R3 a b c v p q)\/R3 a b x v p q\/R3 b c x v p q\/R3 c a x v p q:=λv p q=>by
  rw[cX,fI,fI,fI,C];simp only[m5,or_false]
 let sub:∀{v i j},En (l++[(a,b,c)]) v i j->v≠x->(∀p q,R3 a b c v p q↔p=i/\q=j)->(∀p q,R3 a b x v p q\/R3 b c x v p q\/R3 c a x v p q↔(p=i/\q=x)\/(p=x/\q=j))->One (En (l++[(a,b,x),(b,c,x),(c,a,x)])) v:=λ{v i j} h _ h1 h2=>by
  show Gi k (s.o v #[0,h]) h (λp q z=>(nx z).2.1) λp q=>?_;rw[u,h1,h2];show or_congr #[λ⟨z,n⟩=>#[z,λy=>n #[y,k.one (y ▸ z) h]],λ⟨z,n⟩=>#[z,λy=>n y.1]] ja
 by_cases E:v=a
 .subst E;show sub e xs.1 (λp q=>by unfold R3;lia) λp q=>by unfold R3;lia
 by_cases H:v=b
 .subst H;show sub (k.rot e) xs.2.1 (λp q=>by unfold R3;lia) λp q=>by unfold R3;lia
 by_cases I:v=c
 .subst I;show sub (k.rot\k.rot e) xs.2.2 (λp q=>by unfold R3;lia) λp q=>by unfold R3;lia
 by_cases vx:v=x
 .subst vx;let d:∀p q,En (l++[(a,b,v),(b,c,v),(c,a,v)]) v p q↔(p=a/\q=b)\/(p=b/\q=c)\/(p=c/\q=a):=λp q=>by
   rw[u];constructor
   .rintro (⟨h,_⟩|h)
    .exact ((nx h).1 rfl).elim
    unfold R3 at h;lia
   intro h;right;unfold R3;lia
  show fK (F:=[a,b,c]) ∅ (by simp[w,A,aO B]) #[(d _ _).mpr\.l #[5],(d _ _).mpr\.o (.l #[5]),trivial] λp=>?_;simp only[ah,cK,or_false,d];erw[λh=>h.elim (λh=>#[b,.l #[h,1]]) λh=>h.elim (λh=>#[c,.o\.l #[h,1]]) λh=>#[a,.o\.o #[h,1]],λ⟨q,h⟩=>()]
 let d:∀p q,En (l++[(a,b,x),(b,c,x),(c,a,x)]) v p q↔En (l++[(a,b,c)]) v p q:=λp q=>by
  rw[u];erw[λh=>h.elim (λz=>z.1) λz=>by unfold R3 at z;lia,λh=>.l #[h,by unfold R3;lia]]
 let#[p,q,m]:=m;let#[F,K,L,M,N]:=jK\s.o v #[p,q,(d p q).mp m];show fK K L (eT (λp q _ r=>(d p q).mpr r) M) λp=>(N p).trans #[λ⟨q,z⟩=>#[q,(d p q).mpr z],λ⟨q,z⟩=>#[q,(d p q).mp z]]
def caps(x:Nat)(ps:-(Nat×Nat)):-Tri:=ps.map λs=>(x,s.1,s.2)
def mP{x:Nat}{p q r:Nat}:∀{ps:-(Nat×Nat)},En (caps x ps) p q r↔∃s∈ps,R3 x s.1 s.2 p q r
 | []=>#[λh=>(m5 h).elim,λ⟨s,h,_⟩=>by simp at h]
 |(a,b)::ps=>by
  change En ((x,a,b)::caps x ps) p q r↔_;rw[fI,mP];constructor
  .rintro (h|⟨s,h1,h2⟩)
   .exact#[_,aL,h]
   erw[s,aC _ h1,h2]
  rintro⟨s,h1,h2⟩;rcases ah.mp h1 with rfl|h1
  .exact .l h2
  show .o #[s,h1,h2]
def D4{us:-Tri}{ps:-(Nat×Nat)}{x:Nat}{F:-Nat}(s:Skn us)(B:¬Co us x)(nd:ps.Nodup)(c:∀q p,(q,p)∈ps->ar (En us) p q)(hF:F.Nodup)(C:∀q,q∈F↔∃p,(q,p)∈ps)(I:Lk (λq p=>(q,p)∈ps) F):Skn (us++caps x ps):=by
 let k:=s.g.sk;let nx:∀{p q r},En us p q r->p≠x/\q≠x/\r≠x:=λ{p q r} h=>#[λz=>B #[q,r,z ▸ h],λz=>B #[r,p,z ▸ k.rot h],λz=>B #[p,q,z ▸ k.rot (k.rot h)]];let ab:∀q p,(q,p)∈ps->p≠q/\p≠x/\q≠x:=λq p h=>by
  let#[#[r,e],_]:=c q p h;erw[k.ne e,(nx e).1,(nx e).2.1]
 let cp:∀q p,(q,p)∈ps->Co us p/\Co us q:=λq p h=>by
  let#[#[r,e],_]:=c q p h;erw[#[q,r,e],#[r,p,k.rot e]]
 let m:∀v p q,En (us++caps x ps) v p q↔En us v p q\/(v=x/\(p,q)∈ps)\/((v,p)∈ps/\q=x)\/(p=x/\(q,v)∈ps):=λv p q=>by
  rw[cX,mP];show or_congr ja #[?_,?_]
  .rintro⟨⟨a,b⟩,h1,h|h|h⟩
   .let#[5,1]:=h;show .l #[1,h1]
   .let#[5,1]:=h;show .o\.l #[h1,1]
   let#[5,1]:=h;show .o\.o #[1,h1]
  rintro (⟨rfl,h⟩|⟨h,rfl⟩|⟨rfl,h⟩)
  .exact#[_,h,.l #[5,1]]
  .exact#[_,h,.o\.l #[5,1]]
  erw[_,h,.o\.o #[5,1]]
 erw[#[λt L=>?_,?_],λv d=>?_]
 .rcases az.mp L with h|h
  .exact s.g.ne t h
  let#[#[q,p],h1,1]:=ai.mp h;let#[D,n,u]:=ab q p h1;erw[aO u,aO D,n]
 .unfold ents;rw[gQ,bc,aQ];erw[s.g.nd,?_,?_]
  .change ((ents\caps x ps).map (·.1)).Nodup;let one:∀{q p p'},(q,p)∈ps->(q,p')∈ps->p=p':=λ{q p p'} h1 h2=>kP k (s.o q (cp q p h1).2) (c>>h1) (c>>h2);let inj:∀{q f p},(q,p)∈ps->(f,p)∈ps->q=f:=λ{q f p} h1 h2=>mJ k (s.o p (cp q p h1).1) (c>>h1) (c>>h2);clear m C I
   suffices ∀l:-(Nat×Nat),l.Nodup->(∀s∈l,s∈ps)->((ents\caps x l).map (·.1)).Nodup from this ps nd λ_ h=>h
   intro l;induction l with
   |nil=>show λ_ _=>.nil
   |cons s l M=>
    intro nl i;let#[#[q,p],#[N,O],E,#[D,n,u]]:=#[s,bF.mp nl,i _ aL,ab q p E];change ((ents ((x,q,p)::caps x l)).map (·.1)).Nodup;rw[mn,bc,aQ];erw[?_,M O λs h=>i s\aC _ h,λP h1 Q h2 z=>?_]
    .change [(x,q),(q,p),(p,x)].Nodup;simp[n,u,aO D,aO n,aO u]
    subst z;let#[#[#[#[a,b],r],R,1],#[#[f,p'],j,w],H,#[T,U,X],h1]:=#[ai.mp h2,mP.mp (show En (caps x l) a b r from R),i _\aC _ j,ab f p' H,(h1:(a,b)∈[(x,q),(q,p),(p,x)])];simp only[ah,cK,or_false,jk] at h1;let eq:q=f\/p=p':=by unfold R3 at w;dsimp only at w;lia
    show N ?_;rcases eq with rfl|rfl
    .rw[one E H];show j
    rw[inj E H];show j
  intro P h1 Q h2 z;subst z;let#[#[#[a,b],r],j,1]:=ai.mp h1;let#[#[#[Y,Z],r'],w,e]:=ai.mp h2;cases e;let h1:En us a b r:=j;let h2:En (caps x ps) a b r':=w;obtain⟨⟨q,p⟩,i,h|h|h⟩:=mP.mp h2
  .exact (nx h1).1 h.1
  .let#[5,_]:=h;show (c>>i).2 #[r,h1]
  show (nx h1).2.1 h.2.1
 by_cases vx:v=x
 .subst vx;let y:∀p q,En (us++caps v ps) v p q↔(p,q)∈ps:=λp q=>by
   rw[m];constructor
   .rintro (h|⟨_,h⟩|⟨h,_⟩|⟨_,h⟩)
    .exact ((nx h).1 rfl).elim
    .exact h
    .exact ((ab>>h).2.2 rfl).elim
    show ((ab>>h).2.1 rfl).elim
   show λh=>.o\.l #[1,h]
  let#[p,q,d]:=d;let K:=(C p).mpr #[q,(y p q).mp d];show fK (λz=>by rw[z] at K;cases K) hF (eT (λp q _ r=>(y p q).mpr r) I) λp=>(C p).trans #[λ⟨q,h⟩=>#[q,(y p q).mpr h],λ⟨q,h⟩=>#[q,(y p q).mp h]]
 let S:Co us v:=by
  let#[p,q,d]:=d;rcases (m v p q).mp d with h|⟨h,_⟩|⟨h,_⟩|⟨_,h⟩
  .exact#[p,q,h]
  .exact (vx h).elim
  .exact (cp>>h).2
  show (cp>>h).1
 show Gp (A:=λp q=>(q,p)∈ps) k (s.o v S) (λp q h=>c q p h) (λp q h=>(nx h).2) λp q=>?_;rw[m];show or_congr ja #[λh=>h.elim (λz=>(vx z.1).elim) id,.inr]
def prs(l:-Nat):-(Nat×Nat):=l.zip (l.drop 1++l.take 1)
def pP(l:-Nat):(prs l).map (·.1)=l:=by unfold prs;show Ay ?_;rw[aE,cQ,aZ];lia
def Ga{l:-Nat}:(prs l).map (·.2)=l.drop 1++l.take 1:=by unfold prs;show LU ?_;rw[aE,cQ,aZ];lia
def sv{α β:Type}(f:α->β){l:List α}(h:(l.map f).Nodup):l.Nodup:=by rw[List.Nodup,fC] at h;show h.imp λh z=>h\congrArg f z
def tP{l:-Nat}{i p q:Nat}(h1:l[i]?*>p)(h2:l[i+1]?*>q):(prs l)[i]?*>(p,q):=by let b:=(aq.mp h2).1;unfold prs;rw[j7];erw[h1,?_];rw[bY (by rw[cQ];lia),lP,AI];show h2
def xo{l:-Nat}{p q:Nat}(h1:l.getLast?*>p)(h2:l[0]?*>q):(p,q)∈prs l:=by let b:=(aq.mp h2).1;show aJ (i:=↑l-1) ?_;unfold prs;rw[j7];erw[by rw[<-eC];show h1,?_];rw[fB (by rw[cQ];lia),cQ,show ↑l-1-(↑l-1)=0 by lia,gR ()];show h2
def zi{l:-Nat}{p q:Nat}(h:(p,q)∈prs l):(∃i,l[i]?*>p/\l[i+1]?*>q)\/(l.getLast?*>p/\l[0]?*>q):=by
 let#[i,hi]:=dD.mp h;unfold prs at hi;rw[j7] at hi;let#[h1,h2]:=hi;let b:=(aq.mp h1).1;by_cases c:i+1<↑l
 .rw[bY (by rw[cQ];lia),lP,AI] at h2;show .l #[i,h1,h2]
 rw[fB (by rw[cQ];lia),cQ,show i-(↑l-1)=0 by lia,gR ()] at h2;show .o #[?_,h2];rw[eC,show ↑l-1=i by lia];show h1
structure Cy(R:Nat->Nat->Prop)(l:-Nat):Prop where
 nd:l.Nodup
 st:∀p q,(p,q)∈prs l->R p q
def Ld{R:Nat->Nat->Prop}{l:-Nat}(h:Path R l)(b:∀z s,l[↑l-1]?*>z->l[0]?*>s->R z s):Cy R l:=by
 erw[h.nd,λp q c=>?_];rcases zi c with ⟨i,h1,h2⟩|⟨h1,h2⟩
 .exact h.ch i p q h1 h2
 rw[eC] at h1;show b p q h1 h2
def tO{l:-Nat}{p:Nat}(h:p∈l):∃q,(p,q)∈prs l:=by rw[<-pP l] at h;let#[#[a,b],h1,1]:=ai.mp h;erw[b,h1]
def kX{l:-Nat}{q:Nat}:q∈l↔∃p,(p,q)∈prs l:=by
 let e:q∈l↔q∈(prs l).map (·.2):=by rw[Ga,az,or_comm,<-az,di]
 rw[e];constructor
 .intro h;let#[#[a,b],h1,1]:=ai.mp h;erw[a,h1]
 rintro⟨p,h⟩;show ai.mpr #[_,h,1]
def Gb{l:-Nat}(k:Nat){p q:Nat}(h:(p,q)∈prs (l.drop k++l.take k)):(p,q)∈prs l:=by
 by_cases e:↑l<=k
 .rw[uP e,gW e] at h;show h
 let gl:∀{i x},(l.drop k++l.take k)[i]?*>x->i<↑l/\l[(k+i)%↑l]?*>x:=λ{i x} hi=>by
  let f:=(aq.mp hi).1;rw[aE,cQ,aZ] at f;erw[(),?_];by_cases c:i<↑l-k
  .rw[bY (by rw[cQ];show c),lP] at hi;rw[AL ()];show hi
  rw[fB (by rw[cQ];lia),cQ,gR ()] at hi;rw[show (k+i)%↑l=i-(↑l-k) by rw[show k+i=(i-(↑l-k))+↑l by lia,L3,AL ()]];show hi
 let fin:∀{i p q},i<↑l->l[i]?*>p->l[(i+1)%↑l]?*>q->(p,q)∈prs l:=λ{i p q} hi h1 h2=>by
  by_cases c:i+1<↑l
  .rw[AL c] at h2;show aJ\tP h1 h2
  rw[show i+1=↑l by lia,Nat.mod_self] at h2;show xo (by rw[eC,show ↑l-1=i by lia];show h1) h2
 let len:↑(l.drop k++l.take k)=↑l:=by rw[aE,cQ,aZ];lia
 rcases zi h with ⟨i,h1,h2⟩|⟨h1,h2⟩
 .let#[g,b]:=gl h1;let#[j,d]:=gl h2;show fin (jj _ ()) b ?_;rw[Ma];show d
 rw[eC,len] at h1;let#[g,b]:=gl h1;let#[j,d]:=gl h2;show fin (jj _ ()) b ?_;rw[Ma,show k+(↑l-1)+1=k+0+↑l by lia,L3];show d
section
variable {us:-Tri}{x:Nat}
def uk{R:Nat->Nat->Prop}:∀{l:-Nat},Lk R l->Lk (λp q=>R q p) l.reverse
 | [],_=>trivial
 | [a],_=>trivial
 |a::b::l,⟨h1,h2⟩=>by
  rw[uX];show eK.mpr #[uk h2,trivial,λx y c d=>?_];cases d;rw[uX,Ax] at c;cases c;show h1
def swp(s:Nat×Nat):Nat×Nat:=(s.2,s.1)
def fW{ps:-(Nat×Nat)}{q p:Nat}:(q,p)∈ps.map swp↔(p,q)∈ps:=by rw[ai];erw[λ⟨⟨a,b⟩,h1,h2⟩=>by cases h2;show h1,λh=>#[_,h,1]]
def FT{rim:-Nat}(s:Skn us)(b:¬Co us x)(c:Cy (ar\En us) rim):Skn (us++caps x\(prs rim).map swp):=by
 show D4 (F:=rim.reverse) s b ?_ (λq p h=>c.st p q\fW.mp h) (by rw[List.Nodup,LX];show c.nd.imp aO) (λq=>?_) ?_
 .refine sv (·.2) ?_;rw[bG];change ((prs rim).map (·.1)).Nodup;rw[pP];show c.nd
 .rw[j8,kX];erw[λ⟨p,h⟩=>#[p,fW.mpr h],λ⟨p,h⟩=>#[p,fW.mp h]]
 show eT (λp q _ h=>fW.mpr h)\uk (gi.mpr λi p q h1 h2=>(aJ (tP h1 h2):(p,q)∈prs rim))
end
section
variable {R:Nat->Nat->Prop}
def JV(g:∀a b,R a b->∃c,R b c){ps:-Nat}{s:Nat}(h:Path R ps)(f:ps[0]?*>s)(i:∃q,R s q)(en:∀z,ps[↑ps-1]?*>z->(∀q,¬R z q)\/R z s):Cyc R ps:=by
 erw[h,λp q d e=>?_];cases f.symm.trans e;let go:∃q,R p q:=by
  let l:=(aq.mp d).1;by_cases c:↑ps-1=0
  .rw[c] at d;cases f.symm.trans d;show i
  let j:ps[↑ps-2]?*>ps[↑ps-2]'():=ay _;show g _ _\h.ch (↑ps-2) _ _ j (by rw[show ↑ps-2+1=↑ps-1 by lia];show d)
 let#[q,e]:=go;show (en p d).elim (λz=>(z q e).elim) id
structure gj(R:Nat->Nat->Prop)(ls:List\-Nat):Prop where
 cyc:∀l∈ls,Cyc R l
 least:∀l∈ls,∀x,l[0]?*>x->∀p∈l,x<=p
 rise:ls.Pairwise λl m=>∀x y,l[0]?*>x->m[0]?*>y->x<y
 nd:ls.flatten.Nodup
def gj.nil:gj R []:=#[∅,∅,.nil,∅]
def gj.step(inj:∀a b c,R a c->R b c->a=b){ls:List\-Nat}{l:-Nat}{c:Nat}(h:gj R ls)(f:Cyc R l)(i:l[0]?*>c)(v:∀m∈ls,c∉m)
  (low:∀p,(∃q,R p q)->p<c->∃m∈ls,p∈m) (up:∀m∈ls,∀x,m[0]?*>x->x<c):gj R (ls++[l])/\∀x∈l,x∉ls.flatten:=by
 let o:∀x∈l,∀m∈ls,x∉m:=λx d m hm j=>v m hm\f.toPath.from inj (h.cyc m hm) d j i;let r:∀x∈l,x∉ls.flatten:=λx d z=>by
  let#[m,hm,j]:=cR.mp z;show o x d m hm j
 erw[#[λm hm=>?_,λm hm x d p g=>?_,?_,?_],r]
 .rcases az.mp hm with z|z
  .exact h.cyc m z
  rw[aN.mp z];show f
 .rcases az.mp hm with z|z
  .exact h.least m z x d p g
  rw[aN.mp z] at d g;cases i.symm.trans d;show L6 λlt=>?_;let#[q,_,w]:=f.step g;let#[s,n,A]:=low p #[q,w] lt;show o p g s n A
 .rw[nP];erw[h.rise,lR _ _,λm hm s n x y d u=>?_];rw[aN.mp n] at u;cases i.symm.trans u;show up m hm x d
 rw[fS,aQ];erw[h.nd,‹f.nd›,λa ha b B e=>?_];subst e;show r a ‹B› ha
def gj.done{ls:List\-Nat}(h:gj R ls)(all:∀p,(∃q,R p q)->∃l∈ls,p∈l):Rims R ls:=#[h.cyc,h.least,all,h.rise]
def gj.in{ls:List\-Nat}(h:gj R ls){p:Nat}(b:p∈ls.flatten):∃q,R p q:=by let#[m,hm,c]:=cR.mp b;let#[q,_,d]:=(h.cyc m hm).step c;erw[q,d]
end
section
variable {α:Type}
def lk(a:α):List α->α->-(α×α)
 | [],z=>[(a,z)]
 |b::r,z=>(a,b)::lk b r z
def cp:List α->-(α×α)
 | []=>[]
 |x::r=>lk x r x
def um(r:List α)(b:α)(s:List α)(z:α):∀a:α,lk a (r++b::s) z=lk a r b++lk b s z:=by
 induction r with
 |nil=>intro a;rfl
 |cons c r d=>intro a;change (a,c)::lk c (r++b::s) z=_;rw[d];rfl
def z_{r:List α}{w x y:α}(z:α):∀{a:α},(x,y)∈lk a r w->(y=w/\(x,z)∈lk a r z)\/(y∈r/\(x,y)∈lk a r z):=by
 induction r with
 |nil=>
  intro a h;cases aN.mp h;show .l #[1,aN.mpr rfl]
 |cons b r c=>
  intro a h;rcases ah.mp h with h|h
  .cases h;show .o #[aL,aL]
  rcases c h with ⟨h1,h2⟩|⟨h1,h2⟩
  .exact .l #[h1,aC _ h2]
  show .o #[aC _ h1,aC _ h2]
def HG(d:α)(s r:List α)(p:α×α)(h:p∈cp (d::(s++r))):p∈cp (r++d::s):=by
 cases r with
 |nil=>simpa using h
 |cons a r=>
  let h:p∈lk d (s++a::r) d:=h;change p∈lk a (r++d::s) a;rw[um] at h |-;show az.mpr (az.mp h).symm
def wW{x d:α}{s r:List α}:x∈d::(s++r)↔x∈r++d::s:=by rw[az,ah,ah,az];erw[λh=>h.elim (λh=>.o\.l h) λh=>h.elim (λh=>.o\.o h) .inl,λh=>h.elim (λh=>.o\.o h) λh=>h.elim .inl λh=>.o\.l h]
def Al(G:-(α×α))(x y:α):Prop:=(x,y)∈G\/(y,x)∈G\/(x=y/\∀p∈G,p.1≠x/\p.2≠x)
structure Gl(P:α->α->Prop)(f:α->Nat)(cs:-(Nat×List α))(ids:-Nat)(G:-(α×α))(n g:Nat):Prop where
 nd:(cs.map (·.2)).flatten.Nodup
 ne:∀c∈cs,c.2≠[]
 idn:ids.Nodup
 id:∀i,i∈ids↔∃c∈cs,c.1=i
 ok:∀c∈cs,∀x y,(x,y)∈cp c.2->∃z,P x z/\Al G z y
 con:∀c∈cs,∀c'∈cs,c.1=c'.1->∀x∈c.2,∀y∈c'.2,f x=f y
 cl:∀c∈cs,∀x∈c.2,∀z,P x z->∃c'∈cs,c'.1=c.1/\z∈c'.2
 cnt:2*↑ids+↑G=n+↑cs+2*g
variable {P:α->α->Prop}{f:α->Nat}{cs cs':-(Nat×List α)}{ids:-Nat}{G:-(α×α)}{n g:Nat}
def Gl.to(h:Gl P f cs ids G n g)(nd:(cs'.map (·.2)).flatten.Nodup)(u:↑cs'=↑cs)
  (h1:∀j∈cs',∃c∈cs,c.1=j.1/\(∀x,x∈j.2↔x∈c.2)/\∀p∈cp j.2,p∈cp c.2) (h2:∀c∈cs,∃j∈cs',j.1=c.1/\∀x,x∈j.2↔x∈c.2):Gl P f cs' ids G n g:=by
 erw[nd,λc b e=>?_,h.idn,λi=>(h.id i).trans #[?_,?_],λc b x y v=>?_,λc b j m e x l y w=>?_,λc b x l z A=>?_,by rw[u];show h.cnt]
 .let#[d,hd,_,hm,_]:=h1 c b;show h.ne d hd (List.eq_nil_iff_forall_not_mem.mpr λx l=>?_);rw[<-hm,e] at l;cases l
 .rintro⟨c,b,rfl⟩;let#[d,hd,e,_]:=h2 c b;erw[d,hd,e]
 .rintro⟨c,b,rfl⟩;let#[d,hd,e,_]:=h1 c b;erw[d,hd,e]
 .let#[d,hd,0,B]:=h1 c b;show h.ok d hd x y\B _ v
 .let#[d,hd,o,hm,_]:=h1 c b;let#[d',q,r,s,_]:=h1 j m;show h.con d hd d' q (by rw[o,r,e]) x ((hm x).mp l) y\(s y).mp w
 let#[#[d,hd,o,hm,_],#[d',q,r,C],#[j,m,D,s]]:=#[h1 c b,h.cl d hd x ((hm x).mp l) z A,h2 d' q];erw[j,m,by rw[D,r,o],(s z).mpr C]
abbrev fl(cs:-(Nat×List α)):List α:=(cs.map (·.2)).flatten
def dS{x:α}:x∈fl cs↔∃c∈cs,x∈c.2:=by
 rw[fl,cR];constructor
 .rintro⟨l,e,b⟩;let#[c,d,1]:=ai.mp e;erw[c,d,b]
 rintro⟨c,d,b⟩;erw[_,ai.mpr #[c,d,1],b]
def Gl.norm{A B:-(Nat×List α)}{i:Nat}{r s:List α}{d:α}(h:Gl P f (A++(i,r++d::s)::B) ids G n g):Gl P f ((i,d::(s++r))::(A++B)) ids G n g/\(fl (A++(i,r++d::s)::B)).Perm (fl ((i,d::(s++r))::(A++B))):=by
 let pm:(fl (A++(i,r++d::s)::B)).Perm (fl ((i,d::(s++r))::(A++B))):=by simp only[fl,bc,bj,fS,j6];show (List.perm_append_comm_assoc _ _ _).trans\Ls _ (fD (l₁:=r))
 erw[h.to (pm.nodup_iff.mp h.nd) (by simp only[br,aE];lia) (λc b=>?_) λc b=>?_,pm]
 .rcases ah.mp b with rfl|b
  .exact#[_,cU _ aL,1,λx=>wW,λp e=>HG d s r p e]
  erw[c,(az.mp b).elim (bR _) λh=>cU _\aC _ h,1,λ_=>ja,λ_ e=>e]
 rcases az.mp b with b|b
 .exact#[c,aC _\bR _ b,1,λ_=>ja]
 rcases ah.mp b with rfl|b
 .exact#[_,aL,1,λx=>wW]
 erw[c,aC _\cU _ b,1,λ_=>ja]
def Gl.pick(h:Gl P f cs ids G n g){d:α}(hd:d∈fl cs):∃i u A,Gl P f ((i,d::u)::A) ids G n g/\(fl cs).Perm (fl ((i,d::u)::A)):=by let#[#[i,l],b,c]:=dS.mp hd;let#[A,B,1]:=jb b;let#[r,s,1]:=jb (show d∈l from c);erw[i,s++r,A++B,h.norm]
def zI{z y d1 d2:α}(h:Al G z y)(h1:y≠d1)(h2:y≠d2):Al ((d1,d2)::G) z y:=by
 rcases h with h|h|⟨rfl,h⟩
 .exact .l\aC _ h
 .exact .o\.l (aC _ h)
 show .o\.o #[1,λp b=>?_];rcases ah.mp b with rfl|b
 .exact#[λe=>h1 e.symm,λe=>h2 e.symm]
 show h p b
def al_free{z d:α}(b:∀p∈G,p.1≠d/\p.2≠d)(h:Al G z d):z=d:=by
 rcases h with h|h|⟨e,_⟩
 .exact ((b _ h).2 rfl).elim
 .exact ((b _ h).1 rfl).elim
 show e
def qK{a d1 d2 u w:α}{r:List α}(c:∀y∈r,y≠d1/\y≠d2)(d:∀x y,(x,y)∈lk a r u->∃z,P x z/\Al G z y)(f:∀z,Al G z u->Al ((d1,d2)::G) z w) :
  ∀x y,(x,y)∈lk a r w->∃z,P x z/\Al ((d1,d2)::G) z y:=λx y h=>by
 rcases z_ u h with ⟨e,h'⟩|⟨h1,h'⟩
 .let#[z,b,ha]:=d>>h';erw[z,b,e ▸ f z ha]
 let#[z,b,ha]:=d>>h';erw[z,b,zI ha (c y h1).1 (c y h1).2]
def Jp{r:List α}{z x y:α}:∀{a:α},(x,y)∈lk a r z->y=z\/y∈r:=λ{a} h=>(z_ z h).elim (λh=>.l h.1) λh=>.o h.1
def zG{l:List α}{x y:α}(h:(x,y)∈cp l):y∈l:=by
 cases l with
 |nil=>cases h
 |cons a r=>show (Jp h).elim (λe=>e ▸ aL)\aC _
def Gl.mk'{m:-Nat}{o:-(α×α)}{g':Nat}(h:Gl P f cs ids G n g)(ρ:Nat->Nat)(nd:(cs'.map (·.2)).flatten.Nodup)(ne:∀c∈cs',c.2≠[])(idn:m.Nodup)(id:∀i,i∈m↔∃c∈cs',c.1=i)
  (ok:∀c∈cs',∀x y,(x,y)∈cp c.2->∃z,P x z/\Al o z y) (down:∀b∈cs',∀x∈b.2,∃c∈cs,ρ c.1=b.1/\x∈c.2) (up:∀c∈cs,∀x∈c.2,∃b∈cs',b.1=ρ c.1/\x∈b.2)
  (fρ:∀c∈cs,∀b∈cs,ρ c.1=ρ b.1->∀x∈c.2,∀y∈b.2,f x=f y) (cnt:2*↑m+↑o=n+↑cs'+2*g'):Gl P f cs' m o n g':=by
 erw[nd,ne,idn,id,ok,λc p b q e x j y r=>?_,λc p x j z l=>?_,cnt]
 .let#[d,hd,s,j]:=down c p x j;let#[d',u,v,r]:=down b q y r;show fρ d hd d' u (by rw[s,v,e]) x j y r
 let#[#[d,hd,s,j],#[d',u,v,l],#[b,q,w,l]]:=#[down c p x j,h.cl d hd x j z l,up d' u z l];erw[b,q,by rw[w,v,s],l]
def Gl.step(h:Gl P f cs ids G n g){d1 d2:α}(a1:d1≠d2)(m1:d1∈fl cs)(m2:d2∈fl cs)(n1:∀p∈G,p.1≠d1/\p.2≠d1)(n2:∀p∈G,p.1≠d2/\p.2≠d2)(hf:f d1=f d2) :
  ∃cs' K g',Gl P f cs' K ((d1,d2)::G) n g'/\(fl cs).Perm (fl cs'):=by
 let#[i,u,A,h1,R]:=h.pick m1;let q1:∀z,Al G z d1->Al ((d1,d2)::G) z d2:=λz O=>by cases al_free n1 O;show .l aL
 let q2:∀z,Al G z d2->Al ((d1,d2)::G) z d1:=λz O=>by cases al_free n2 O;show .o\.l aL
 let old:∀{ad:-(Nat×List α)},Gl P f ad ids G n g->∀c∈ad,d1∉c.2->d2∉c.2->∀x y,(x,y)∈cp c.2->∃z,P x z/\Al ((d1,d2)::G) z y:=λh0 c o E H x y w=>by
  let#[z,O,ha]:=h0.ok c o x y w;have:=zG w;erw[z,O,zI ha (λe=>E (e ▸ this)) λe=>H (e ▸ this)]
 let dis:∀{j:Nat}{l:List α}{B:-(Nat×List α)},(fl ((j,l)::B)).Nodup->l.Nodup/\(∀x∈l,∀c∈B,x∉c.2)/\(fl B).Nodup:=λnd=>by
  simp only[fl,bj,j6] at nd;let#[a,b,d]:=aQ.mp nd;erw[a,λx q c o a2=>d x q x (dS.mpr #[c,o,a2]) rfl,b]
 let#[al,Y,a3]:=dis h1.nd;let#[c2,S,Q]:=dS.mp\R.mem_iff.mp m2;rcases ah.mp S with rfl|S
 .let#[Q,#[L,M,1],am]:=#[((ah.mp Q).resolve_left λe=>a1 e.symm:d2∈u),jb Q,al];rw[bF,aQ,bF] at am;let#[E,H,#[e3,e4],e5]:=am;let an:∀x y,(x,y)∈lk d1 L d2++lk d2 M d1->∃z,P x z/\Al G z y:=λx y w=>h1.ok _ aL x y (by change _∈lk d1 (L++d2::M) d1;rw[um];show w);let N:fl ((i,d1::(L++d2::M))::A)=fl ((i,d1::L)::(i,d2::M)::A):=by simp[fl]
  erw[(i,d1::L)::(i,d2::M)::A,ids,g,h1.mk' _root_.id (by have:=h1.nd;rw[show (List.map (·.2) ((i,d1::(L++d2::M))::A)).flatten=_ from N] at this;show this) (λc o=>?_) h1.idn (λk=>(h1.id k).trans #[?_,?_]) (λc o=>?_) (λc o x q=>?_) (λc o x q=>?_) h1.con ?_,N ▸ R]
  .rcases ah.mp o with rfl|o
   .simp
   rcases ah.mp o with rfl|o
   .simp
   show h1.ne c\aC _ o
  .rintro⟨c,o,rfl⟩;rcases ah.mp o with rfl|o
   .exact#[_,aL,1]
   erw[c,aC _\aC _ o,1]
  .rintro⟨c,o,rfl⟩;rcases ah.mp o with rfl|o
   .exact#[_,aL,1]
   rcases ah.mp o with rfl|o
   .exact#[_,aL,1]
   erw[c,aC _ o,1]
  .rcases ah.mp o with rfl|o
   .exact qK (λy C=>#[λe=>E (e ▸ bR _ C),λe=>e5 y C d2 aL e]) (λx y w=>an x y\bR _ w) q2
   rcases ah.mp o with rfl|o
   .exact qK (λy C=>#[λe=>E (e ▸ cU _ (aC _ C)),λe=>e3 (e ▸ C)]) (λx y w=>an x y\cU _ w) q1
   show old h1 c (aC _ o) (Y _ aL c o)\Y _ (aC _ Q) c o
  .rcases ah.mp o with rfl|o
   .exact#[_,aL,1,(ah.mp q).elim (λe=>e ▸ aL) λh=>aC _\bR _ h]
   rcases ah.mp o with rfl|o
   .exact#[_,aL,1,aC _\cU _ q]
   erw[c,aC _ o,1,q]
  .rcases ah.mp o with rfl|o
   .rcases ah.mp q with rfl|q
    .exact#[_,aL,1,aL]
    rcases az.mp q with q|q
    .exact#[_,aL,1,aC _ q]
    erw[_,aC _ aL,1,q]
   erw[c,aC _\aC _ o,1,q]
  have:=h1.cnt;simp only[br] at this |-;lia
 let#[#[T,Z,1],#[j,l2],#[r,s,1],#[h2,ap],pm]:=#[jb S,c2,jb (show d2∈l2 from Q),Gl.norm (A:=(i,d1::u)::T) h1,R<*ap];clear R ap h1 Y S a3;generalize s++r=v at h2 pm;replace h2:Gl P f ((j,d2::v)::(i,d1::u)::(T++Z)) ids G n g:=h2;replace pm:(fl cs).Perm (fl ((j,d2::v)::(i,d1::u)::(T++Z))):=pm;generalize T++Z=B at h2 pm;let#[a4,ab,a5]:=dis h2.nd;let#[_,a6,_]:=dis a5;let N:(fl ((j,d2::v)::(i,d1::u)::B)).Perm (fl ((i,d1::(u++d2::v))::B.map λc=>((if c.1=j then i else c.1),c.2))):=by simp only[fl,bj,bG,j6,Function.comp_def,<-e8,<-List.cons_append];show Ls _ fD
 let U:(i,d1::u)∈(j,d2::v)::(i,d1::u)::B:=aC _ aL;let a7:∀k,(∃c∈(i,d1::(u++d2::v))::B.map λc=>((if c.1=j then i else c.1),c.2),c.1=k)↔∃c∈(j,d2::v)::(i,d1::u)::B,(if c.1=j then i else c.1)=k:=λk=>by
  constructor
  .rintro⟨c,o,rfl⟩;rcases ah.mp o with rfl|o
   .exact#[_,aL,Oj rfl]
   let#[c,D,1]:=ai.mp o;erw[c,aC _\aC _ D,1]
  rintro⟨c,o,rfl⟩;rcases ah.mp o with rfl|o
  .exact#[_,aL,(Oj rfl).symm]
  rcases ah.mp o with rfl|o
  .exact#[_,aL,by change i=if i=j then i else i;split<;>rfl]
  erw[_,aC _\ai.mpr #[c,o,1],1]
 let mk:∀K g',K.Nodup->(∀k,k∈K↔∃c∈(j,d2::v)::(i,d1::u)::B,(if c.1=j then i else c.1)=k)->2*↑K+(↑G+1)=n+(↑B+1)+2*g'->
   Gl P f ((i,d1::(u++d2::v))::B.map λc=>((if c.1=j then i else c.1),c.2)) K ((d1,d2)::G) n g':=λK g' idn id cnt=>by
  show h2.mk' (λk=>if k=j then i else k) (N.nodup_iff.mp h2.nd) (λc o=>?_) idn (λk=>(id k).trans (a7 k).symm) (λc o=>?_) (λc o x q=>?_) (λc o x q=>?_) (λc o I D e x q y C=>?_) (by simp only[br,av];show cnt)
  .rcases ah.mp o with rfl|o
   .simp
   let#[c,D,1]:=ai.mp o;show h2.ne c\aC _ (aC _ D)
  .rcases ah.mp o with rfl|o
   .intro x y w;let w:(x,y)∈lk d1 (u++d2::v) d1:=w;rw[um] at w;rcases az.mp w with w|w
    .exact qK (d1:=d1) (d2:=d2) (λy C=>#[λe=>(bF.mp al).1 (e ▸ C),λe=>ab d2 aL _ aL (e ▸ aC _ C)]) (λx y w=>h2.ok _ U x y w) q1 x y w
    show qK (d1:=d1) (d2:=d2) (λy C=>#[λe=>ab d1 (e ▸ aC _ C) _ aL aL,λe=>(bF.mp a4).1 (e ▸ C)]) (λx y w=>h2.ok _ aL x y w) q2 x y w
   let#[c,D,1]:=ai.mp o;show old h2 c (aC _\aC _ D) (a6 _ aL c D)\ab _ aL c (aC _ D)
  .rcases ah.mp o with rfl|o
   .rcases az.mp (show x∈(d1::u)++d2::v from q) with q|q
    .exact#[_,U,by change (if i=j then i else i)=i;split<;>rfl,q]
    erw[_,aL,Oj rfl,q]
   let#[c,D,1]:=ai.mp o;erw[c,aC _\aC _ D,1,q]
  .rcases ah.mp o with rfl|o
   .exact#[_,aL,(Oj rfl).symm,cU (d1::u) q]
   rcases ah.mp o with rfl|o
   .exact#[_,aL,by change i=if i=j then i else i;split<;>rfl,bR (d2::v) q]
   erw[_,aC _\ai.mpr #[c,o,1],1,q]
  let e:(if c.1=j then i else c.1)=if I.1=j then i else I.1:=e
  let X:∀c∈(j,d2::v)::(i,d1::u)::B,c.1=j->∀x∈c.2,f x=f d1:=λc o e x q=>(h2.con c o _ aL e x q d2 aL)<*hf.symm;let fi:∀c∈(j,d2::v)::(i,d1::u)::B,c.1=i->∀x∈c.2,f x=f d1:=λc o e x q=>h2.con c o _ U e x q d1 aL;by_cases E:c.1=j
  .by_cases H:I.1=j
   .rw[X c o E x q,X I D H y C]
   rw[Oj E,Oi H] at e;rw[X c o E x q,fi I D e.symm y C]
  by_cases H:I.1=j
  .rw[Oi E,Oj H] at e;rw[fi c o e x q,X I D H y C]
  rw[Oi E,Oi H] at e;show h2.con c o I D e x q y C
 let cn:=h2.cnt;simp only[br] at cn;by_cases aM:i=j
 .refine#[_,ids,g+1,mk ids (g+1) h2.idn (λk=>(h2.id k).trans ?_) (),pm<*N];have:∀m,(if m=j then i else m)=m:=λm=>by
   by_cases hm:m=j
   .rw[Oj hm,aM];show hm.symm
   show Oi hm
  simp only[this]
 let a0:=(h2.id j).mpr #[_,aL,1];let a8:=(h2.id i).mpr #[_,U,1];have:=LQ a0;have:=LR a0;erw[_,ids.erase j,g,mk _ g (h2.idn.erase j) (λk=>h2.idn.mem_erase_iff.trans #[?_,?_]) (),pm<*N]
 .rintro⟨hk,hm⟩;let#[c,o,1]:=(h2.id k).mp hm;erw[c,o,Oi hk]
 rintro⟨c,o,rfl⟩;by_cases ec:c.1=j
 .rw[Oj ec];erw[aM,a8]
 rw[Oi ec];erw[ec,(h2.id _).mpr #[c,o,1]]
end
def ff{α β:Type}{R:α->β->Prop}{c:List α}:∀{l2:List β},c.Nodup->(∀x∈c,∃y∈l2,R x y)->(∀x∈c,∀d∈c,∀y,R x y->R d y->x=d)->↑c<=↑l2:=by
 induction c with
 |nil=>intro l2 _ _ _;show aV _
 |cons x c g=>
  intro l2 nd tot inj;let#[y,i,j]:=tot x aL;let#[A,B,1]:=jb i;let#[h1,h2]:=bF.mp nd;have:=g (l2:=A++B) h2 (λd e=>by
   let#[l,m,f]:=tot d\aC _ e;erw[l,?_,f];rcases az.mp m with h|h
   .exact bR _ h
   rcases ah.mp h with rfl|h
   .exact (h1 (inj x aL d (aC _ e) _ j f ▸ e)).elim
   show cU _ h) λa ha b n=>inj a (aC _ ha) b\aC _ n
  simp only[aE,br] at this |-;lia
abbrev keys(ts:-Tri):-(Nat×Nat):=(ents ts).map (·.1)
def cm{ts:-Tri}{a b:Nat}:(a,b)∈keys ts↔∃c,En ts a b c:=by
 constructor
 .intro h;let#[#[p,c],d,e]:=ai.mp h;cases e;erw[c,d]
 rintro⟨c,h⟩;show ai.mpr #[_,h,1]
def Pv(ts:-Tri)(x z:Nat×Nat):Prop:=En ts x.1 x.2 z.1/\z.2=x.1
def gls(ts:-Tri):List ((Nat×Nat)×(Nat×Nat)):=((keys ts).filter λd=>decide (d.2<d.1)&&decide ((d.2,d.1)∈keys ts)).map λd=>(d,(d.2,d.1))
def mO{ts:-Tri}{x y:Nat×Nat}:(x,y)∈gls ts↔x∈keys ts/\x.2<x.1/\(x.2,x.1)∈keys ts/\y=(x.2,x.1):=by
 simp only[gls,ai,bZ,ir,decide_eq_true_eq,jk];constructor
 .rintro⟨d,⟨h1,h2,b⟩,rfl,rfl⟩;erw[h1,h2,b,1]
 rintro⟨h1,h2,b,rfl⟩;erw[x,#[h1,h2,b],5]
section
variable {ts:-Tri}{lot:Nat->Nat}
def Hq(g:Good ts)(r:∀a b c,En ts a b c->lot a=lot b):∀us:-Tri,(∀t∈us,t∈ts)->(keys us).Nodup->∃cs ids,Gl (Pv ts) (λd=>lot d.1) cs ids [] ↑us 0/\(fl cs).Perm (keys us)/\∀i∈ids,i<↑us:=by
 intro us;induction us with
 |nil=>intro _ _;erw[[],[],#[∅,∅,∅,∅,∅,∅,∅,1],uO _,∅]
 |cons t us B=>
  intro s nd;let#[#[a,b,c],n,o,p,q]:=#[t,(dz.mpr\.l (s _ aL):En ts a b c),g.sk.rot n,g.sk.rot o,(rfl:keys ((a,b,c)::us)=(a,b)::(b,c)::(c,a)::keys us)];rw[q] at nd;let#[cs,ids,h,pm,hi]:=B (λt C=>s t\aC _ C) (bF.mp (bF.mp (bF.mp nd).2).2).2;let u:(fl ((↑us,[(a,b),(c,a),(b,c)])::cs)).Perm (keys ((a,b,c)::us)):=by rw[q];change ((a,b)::(c,a)::(b,c)::fl cs).Perm _;show List.Perm.cons _\(List.Perm.swap _ _ _).trans (List.Perm.cons _\List.Perm.cons _ pm)
  let v:∀c∈cs,c.1≠↑us:=λc D e=>by
   have:=hi _\(h.id _).mpr #[c,D,1];lia
  let E:∀z:Nat×Nat,∀x∈[(a,b),(c,a),(b,c)],Pv ts x z->z∈[(a,b),(c,a),(b,c)]:=λz x f j=>by
   let#[I,K]:=z;let#[j,e]:=j;simp only[ah,cK,or_false] at f;rcases f with rfl|rfl|rfl
   .cases g.sk.one j n;cases e;simp
   .cases g.sk.one j p;cases e;simp
   cases g.sk.one j o;cases e;simp
  let w:∀x∈[(a,b),(c,a),(b,c)],lot x.1=lot a:=λx f=>by
   simp only[ah,cK,or_false] at f;rcases f with rfl|rfl|rfl
   .rfl
   .exact r _ _ _ p
   show (r _ _ _ n).symm
  erw[(↑us,[(a,b),(c,a),(b,c)])::cs,↑us::ids,#[u.nodup_iff.mpr (q ▸ nd),λd hd=>?_,bF.mpr #[λH=>?_,h.idn],λi=>?_,λd hd x y m=>?_,λd hd d' l e x f y A=>?_,λd hd x f z j=>?_,?_],u,λi hm=>?_]
  .rcases ah.mp hd with rfl|hd
   .simp
   show h.ne d hd
  .have:=hi _ H;lia
  .rw[ah,h.id];constructor
   .rintro (rfl|⟨d,hd,rfl⟩)
    .exact#[_,aL,1]
    erw[d,aC _ hd,1]
   rintro⟨d,hd,rfl⟩;rcases ah.mp hd with rfl|hd
   .exact .l rfl
   show .o #[d,hd,1]
  .rcases ah.mp hd with rfl|hd
   .let m:(x,y)∈[((a,b),(c,a)),((c,a),(b,c)),((b,c),(a,b))]:=m;simp only[ah,cK,or_false,jk] at m;erw[y,?_,.o\.o #[1,∅]];rcases m with ⟨rfl,rfl⟩|⟨rfl,rfl⟩|⟨rfl,rfl⟩
    .exact#[n,1]
    .exact#[p,1]
    erw[o,1]
   show h.ok d hd x y m
  .rcases ah.mp hd with rfl|hd
   .rcases ah.mp l with rfl|l
    .exact (w x f).trans (w y A).symm
    show (v _ l e.symm).elim
   rcases ah.mp l with rfl|l
   .exact (v _ hd e).elim
   show h.con d hd d' l e x f y A
  .rcases ah.mp hd with rfl|hd
   .exact#[_,aL,1,E z x f j]
   let#[d',l,e,j]:=h.cl d hd x f z j;erw[d',aC _ l,e,j]
  .have:=h.cnt;simp only[br] at this |-;lia
  simp only[br];rcases ah.mp hm with rfl|hm
  .lia
  have:=hi i hm;lia
def JG{α:Type}{P:α->α->Prop}{f:α->Nat}{cs:-(Nat×List α)}{ids:-Nat}{n:Nat}(h:Gl P f cs ids [] n 0):∀L:-(α×α),L.Pairwise (λp q=>q.1≠p.1/\q.2≠p.1/\q.1≠p.2/\q.2≠p.2)->(∀p∈L,p.1≠p.2/\p.1∈fl cs/\p.2∈fl cs/\f p.1=f p.2)->
  ∃cs' c g',Gl P f cs' c L n g'/\(fl cs).Perm (fl cs'):=by
 intro L;induction L with
 |nil=>intro _ _;erw[cs,ids,(0),h,uO _]
 |cons p L e=>
  intro g d;let#[#[h1,h2],#[cs',c,g',h',pm],#[i,j,l,m],#[o,r,s,h2,u]]:=#[ji.mp g,e h2 λq b=>d q\aC _ b,d p aL,h'.step i (pm.mem_iff.mp j) (pm.mem_iff.mp l) (λq b=>#[(h1 q b).1,(h1 q b).2.1]) (λq b=>(h1 q b).2.2) m];erw[o,r,s,h2,pm<*u]
def Ho(g:Good ts)(i:∀a b c,En ts a b c->lot a=lot b):∃cs ids h,Gl (Pv ts) (λd=>lot d.1) cs ids (gls ts) ↑ts h/\(keys ts).Perm (fl cs):=by
 let#[cs,ids,h,pm,_]:=Hq g i ts (λ_ h=>h) g.nd;let#[cs',j,g',h',l]:=JG h (gls ts) (by
  rw[gls,fC];show gv ?_\j4 _ g.nd;rintro⟨a,b⟩ ⟨c,d⟩ h1 h2 f;simp only[bZ,ir,decide_eq_true_eq] at h1 h2;simp only[ne_eq,jk] at f |-;erw[λe=>f #[e.1.symm,e.2.symm],λe=>?_,λe=>?_,λe=>f #[e.2.symm,e.1.symm]]
  .lia
  .lia) (by
  rintro⟨⟨a,b⟩,y⟩ m;let#[h1,h2,n,1]:=mO.mp m;let#[c,o]:=cm.mp h1;erw[λe=>?_,pm.mem_iff.mpr h1,pm.mem_iff.mpr n,i _ _ _ o];have:=congrArg Prod.fst e;dsimp only at this h2;lia)
 erw[cs',j,g',h',pm.symm<*l]
end
section
variable {α:Type}
def EM{F:α->Nat}{r:List α}{z:α}:∀{a:α},(∀x y,(x,y)∈lk a r z->F x=F y)->∀y∈r,F y=F a:=by
 induction r with
 |nil=>intro a _ y c;cases c
 |cons b r d=>
  intro a h y c;let e:=h a b aL;rcases ah.mp c with rfl|c
  .exact e.symm
  show (d (λx y f=>h x y\aC _ f) y c)<*e.symm
def Fe{F:α->Nat}{l:List α}(h:∀x y,(x,y)∈cp l->F x=F y):∀x∈l,∀y∈l,F x=F y:=by
 cases l with
 |nil=>intro x b;cases b
 |cons a r=>
  let k:∀y∈a::r,F y=F a:=λy c=>(ah.mp c).elim (λe=>e ▸ rfl)\EM h y;show λx b y c=>(k x b).trans (k y c).symm
def G6{r:List α}{z x:α}:∀{a:α},x∈a::r->∃y,(x,y)∈lk a r z:=by
 induction r with
 |nil=>intro a h;cases aN.mp h;erw[z,aL]
 |cons b r c=>
  intro a h;rcases ah.mp h with rfl|h
  .exact#[b,aL]
  let#[y,d]:=c h;erw[y,aC _ d]
def HH{l:List α}{x:α}(h:x∈l):∃y∈l,(x,y)∈cp l:=by
 cases l with
 |nil=>cases h
 |cons a r=>
  let#[y,b]:=G6 (z:=a) h;erw[y,zG (l:=a::r) b,b]
def fl_uniq{c b:Nat×List α}{x:α}:∀{cs:-(Nat×List α)},(fl cs).Nodup->c∈cs->b∈cs->x∈c.2->x∈b.2->c=b:=by
 intro cs;induction cs with
 |nil=>intro _ h;cases h
 |cons d cs j=>
  intro nd h h' f g;let#[_,l,i]:=aQ.mp (show (d.2++fl cs).Nodup from nd);rcases ah.mp h with e|h1
  .rcases ah.mp h' with e' | h2
   .rw[e,e']
   show (i x (e ▸ f) x (dS.mpr #[_,h2,g]) rfl).elim
  rcases ah.mp h' with e' | h2
  .exact (i x (e' ▸ g) x (dS.mpr #[_,h1,f]) rfl).elim
  show j l h1 h2 f g
def Fc:∀{cs:-(Nat×List α)},(fl cs).Nodup->(∀c∈cs,c.2≠[])->cs.Nodup:=by
 intro cs;induction cs with
 |nil=>intro _ _;show .nil
 |cons d cs e=>
  intro nd ne;let#[_,f,g]:=aQ.mp (show (d.2++fl cs).Nodup from nd);show bF.mpr #[λh=>?_,e f λc i=>ne c\aC _ i];let#[x,b]:=rf _\ne d aL;show g x b x (dS.mpr #[d,h,b]) rfl
end
def Conn(ts:-Tri)(a b:Nat):Prop:=∀S:Nat->Prop,(∀x y z,En ts x y z->(S x↔S y))->S a->S b
def zJ{ts:-Tri}(g:Good ts){z y:Nat×Nat}(d:z∈keys ts)(h:Al (gls ts) z y):y=(z.2,z.1)\/(y=z/\(z.2,z.1)∉keys ts):=by
 rcases h with h|h|⟨rfl,h⟩
 .exact .l (mO.mp h).2.2.2
 .rw[(mO.mp h).2.2.2];show .l rfl
 show .o #[1,λf=>?_];let#[a,b]:=z;let#[c,i]:=cm.mp d;rcases Nat.lt_or_gt_of_ne (g.sk.ne i) with e|e
 .exact (h _\mO.mpr #[f,e,d,1]).2 rfl
 show (h _\mO.mpr #[d,e,f,1]).1 rfl
section
variable {ts:-Tri}{lot:Nat->Nat}{cs:List (Nat×-(Nat×Nat))}{ids:-Nat}{n h:Nat}
def Ab(g:Good ts)(G:Gl (Pv ts) (λd=>lot d.1) cs ids (gls ts) n h)(pm:(keys ts).Perm\fl cs){c:Nat×-(Nat×Nat)}(j:c∈cs){a b t:Nat}(l:(a,b)∈c.2)(he:En ts a b t) :
  ((a,t)∈keys ts->(a,t)∈c.2)/\((a,t)∉keys ts->(t,a)∈c.2):=by
 let#[y,f,m]:=HH l;let#[#[q,r],#[o,e],ha]:=G.ok c j _ _ m;cases g.sk.one he o;cases e;rcases zJ g (cm.mpr #[_,g.sk.rot\g.sk.rot he]) ha with rfl|⟨rfl,i⟩
 .refine#[λ_=>f,λi=>?_];show (i\pm.mem_iff.mpr (dS.mpr #[c,j,f])).elim
 erw[λp=>(i p).elim,λ_=>f]
def k0(g:Good ts)(G:Gl (Pv ts) (λd=>lot d.1) cs ids (gls ts) n h)(pm:(keys ts).Perm\fl cs){a:Nat}(o:One (En ts) a):∃c∈cs,∀p,(∃q,En ts a p q)->(a,p)∈c.2:=by
 let#[F,hF,all]:=o;let#[l,f]:∃p,F[0]?*>p:=#[F[0]'(dI.mpr hF.ne),ay _];let#[c,j,m]:=dS.mp\pm.mem_iff.mp (cm.mpr\hF.key l (aJ f));let k:∀(i p:Nat),F[i]?*>p->(a,p)∈c.2:=by
  intro i;induction i with
  |zero=>intro p b;rw[f] at b;cases b;show m
  |succ i r=>
   intro p b;let hi:i<↑F:=by have:=(aq.mp b).1;lia
   let e:F[i]?*>F[i]:=ay hi;show (Ab g G pm j (r _ e)\hF.ch i _ _ e b).1\cm.mpr (hF.key p\aJ b)
 erw[c,j,λp b=>by
  let#[i,hi]:=cJ\all p b;show k i p hi]
def EU(g:Good ts)(o:∀c,Co ts c->One (En ts) c)(G:Gl (Pv ts) (λd=>lot d.1) cs ids (gls ts) n h)(pm:(keys ts).Perm\fl cs){lab:Nat->Nat}{L:-Nat}(nd:L.Nodup)(E:∀x,x∈L↔Co ts x/\lab x=x)
  (O:∀a c,ar (En ts) c a->lab c=lab a) (H:∀a,Co ts a->lab a∈L) (P:∀a,Co ts a->∀S:Nat->Prop,(∀x y,ar (En ts) x y->(S x↔S y))->S a->S\lab a):↑cs=↑L:=by
 let lc:∀c∈cs,∀x∈c.2,∀y∈c.2,lab x.1=lab y.1:=λc f=>Fe (F:=λd:Nat×Nat=>lab d.1) λx y j=>by
  let#[a,b]:=x;let#[#[Q,z2],#[T,e],ha]:=G.ok c f _ _ j;cases e;let I:=g.sk.rot\g.sk.rot T;rcases zJ g (cm.mpr #[_,I]) ha with rfl|⟨rfl,r⟩
  .rfl
  show (O a Q #[#[_,I],λs=>r\cm.mpr s]).symm
 let co:∀c∈cs,∀x∈c.2,Co ts x.1:=λc f x i=>by
  let#[q,U]:=cm.mp\pm.mem_iff.mpr (dS.mpr #[c,f,i]);erw[_,q,U]
 let fan:∀c∈cs,∀x∈c.2,∀p q,En ts (lab x.1) p q->(lab x.1,p)∈c.2:=λc f x i=>by
  let K:=co c f x i;show P x.1 K (λv=>∀p q,En ts v p q->(v,p)∈c.2) (λv w s=>?_) λp q j=>?_
  .let#[#[#[b,l],r],#[X,u,z],#[Y,M,A],h1,e]:=#[s,k0 g G pm\o v #[0,l],k0 g G pm\o w #[0,g.sk.rot l],(Ab g G pm M (A _ #[_,g.sk.rot l])\g.sk.rot l).2 λZ=>r\cm.mp Z,(fl_uniq G.nd u M (z _ #[_,l]) h1:X=Y)];subst e;constructor
   .intro B p q j;cases fl_uniq G.nd f u (B>>l) (z _ #[_,l]);show A p #[q,j]
   intro B p q j;cases fl_uniq G.nd f u (B>>(g.sk.rot l)) (A _ #[_,g.sk.rot l]);show z p #[q,j]
  let#[ca,ab,fa]:=k0 g G pm\o _ K;let#[q',ad]:=cm.mp\pm.mem_iff.mpr (dS.mpr #[c,f,i]);cases fl_uniq G.nd f ab i (fa _ #[q',ad]);show fa p #[q,j]
 show j9 (ff (R:=λc m=>∃x∈c.2,lab x.1=m) (Fc G.nd G.ne) (λc f=>?_) λc f c' N m ⟨x,i,e⟩ ⟨C,D,e'⟩=>?_)
  (ff (R:=λm c=>c∈cs/\∃x∈c.2,lab x.1=m) nd (λm hm=>?_) λm _ m' _ c ⟨f,x,i,e⟩ ⟨_,C,D,e'⟩=>?_)
 .let#[x,i]:=rf _\G.ne c f;erw[_,H _\co c f x i,x,i,1]
 .subst e;let#[#[p,q,j],h1,h2]:=#[((E _).mp\H _ (co c f x i)).1,fan c f x i p q j,fan c' N C D p q (e' ▸ j)];rw[e'] at h2;show fl_uniq G.nd f N h1 h2
 .let#[#[p,q,j],e]:=(E m).mp hm;let#[c,f,i]:=dS.mp\pm.mem_iff.mp (cm.mpr #[q,j]);erw[c,f,f,_,i,e]
 rw[<-e,<-e',lc c f x i C D]
def Dq(g:Good ts)(o:∀c,Co ts c->One (En ts) c)(G:Gl (Pv ts) (λd=>lot d.1) cs ids (gls ts) n h)(pm:(keys ts).Perm\fl cs){L:-Nat}(nd:L.Nodup)(M:∀x,x∈L↔Co ts x/\lot x=x)
  (N:∀a,Co ts a->lot a∈L) (O:∀a b,Co ts a->Co ts b->lot a=lot b->Conn ts a b):↑ids=↑L:=by
 let co:∀c∈cs,∀x∈c.2,Co ts x.1:=λc f x j=>by
  let#[q,P]:=cm.mp\pm.mem_iff.mpr (dS.mpr #[c,f,j]);erw[_,q,P]
 let same:∀c∈cs,∀r∈cs,∀x∈c.2,∀s∈r.2,lot x.1=lot s.1->r.1=c.1:=λc f r u x j s w e=>by
  show O x.1 s.1 (co c f x j) (co r u s w) e (λv=>∀d∈cs,∀p,(v,p)∈d.2->d.1=c.1) (λa b t he=>?_) (λd hd p l=>?_) r u s.2 w
  .let#[A,#[ca,y,fa],#[K,B,C],#[d,hd,z,Q]]:=#[g.sk.rot he,k0 g G pm\o a #[0,he],k0 g G pm\o b #[0,A],G.cl K B (b,t) (C _ #[_,A]) (a,b) #[A,1]];cases fl_uniq G.nd hd y Q (fa _ #[_,he]);let S:∀d∈cs,∀p,(a,p)∈d.2->d=ca:=λd hd p l=>fl_uniq G.nd hd y l\fa p (cm.mp\pm.mem_iff.mpr (dS.mpr #[d,hd,l]));let T:∀d∈cs,∀p,(b,p)∈d.2->d=K:=λd hd p l=>fl_uniq G.nd hd B l\C p (cm.mp\pm.mem_iff.mpr (dS.mpr #[d,hd,l]));constructor
   .intro D d hd p l;rw[T d hd p l,<-z];show D _ y _\fa _ #[_,he]
   intro D d hd p l;rw[S d hd p l,z];show D _ B _\C _ #[_,A]
  let#[ca,y,fa]:=k0 g G pm\o _ (co c f x j);rw[fl_uniq G.nd hd y l\fa p (cm.mp\pm.mem_iff.mpr (dS.mpr #[d,hd,l])),fl_uniq G.nd f y j\fa _ (cm.mp\pm.mem_iff.mpr (dS.mpr #[c,f,j]))]
 show j9 (ff (R:=λi m=>∃c∈cs,c.1=i/\∃x∈c.2,lot x.1=m) G.idn (λi hi=>?_) λi _ U _ m ⟨c,f,z,x,j,E⟩ ⟨r,u,H,s,w,I⟩=>?_)
  (ff (R:=λm i=>∃c∈cs,c.1=i/\∃x∈c.2,lot x.1=m) nd (λm hm=>?_) λm _ X _ i ⟨c,f,z,x,j,E⟩ ⟨r,u,H,s,w,I⟩=>?_)
 .let#[c,f,1]:=(G.id i).mp hi;let#[x,j]:=rf _\G.ne c f;erw[_,N _\co c f x j,c,f,1,x,j,1]
 .rw[<-z,<-H,same c f r u x j s w\E.trans I.symm]
 .let#[#[p,q,l],e]:=(M m).mp hm;let#[c,f,j]:=dS.mp\pm.mem_iff.mp (cm.mpr #[q,l]);erw[c.1,(G.id _).mpr #[c,f,1],c,f,1,_,j,e]
 rw[<-E,<-I];show G.con c f r u (z<*H.symm) x j s w
end
def iI{R:Nat->Nat->Prop}(inj:∀a b c,R a c->R b c->a=b){ls:List\-Nat}(h:Rims R ls):ls.flatten.Nodup:=by rw[List.Nodup,AE];erw[λl d=>(h.cyc l d).nd,?_];show gv (λ{l m} d hm n=>?_) h.rise;intro c i o j e;subst e;let#[x,f,p]:=(h.cyc l d).toPath.begin;let#[y,g,q]:=(h.cyc m hm).toPath.begin;let h1:=h.least l d x f y\(h.cyc m hm).toPath.from inj (h.cyc l d) j i g;let h2:=h.least m hm y g x\(h.cyc l d).toPath.from inj (h.cyc m hm) i j f;have:=n x y f g;lia
def mx{α:Type}{l m:List α}(h1:l.Nodup)(h2:m.Nodup)(h:∀x,x∈l↔x∈m):↑l=↑m:=
 j9 (ff (R:=Eq) h1 (λx b=>#[x,(h x).mp b,1]) λ_ _ _ _ _ e e'=>e<*e'.symm) (ff (R:=Eq) h2 (λx b=>#[x,(h x).mpr b,1]) λ_ _ _ _ _ e e'=>e<*e'.symm)
def lab(rl:List\-Nat)(a:Nat):Nat:=((rl.find? λl=>decide (a∈l)).bind List.head?).getD a
section
variable {ts:-Tri}{rl:List (-Nat)}
def gJ(nd:rl.flatten.Nodup){l:-Nat}(b:l∈rl){a x:Nat}(ha:a∈l)(d:l[0]?*>x):lab rl a=x:=by
 cases e:rl.find? λl=>decide (a∈l) with
 |none=>show (by simpa using LG.mp e l b:a∉l) ha |>.elim
 |some m=>
  let hm:a∈m:=‹List.find?_some e›
  let f:=List.mem_of_find?_eq_some e;have:m=l:=by
   clear e d;induction rl with
   |nil=>cases b
   |cons r rl i=>
    let#[_,j,g]:=aQ.mp (show (r++rl.flatten).Nodup from nd);rcases ah.mp b with h|h1
    .rcases ah.mp f with c|h2
     .rw[h,c]
     show (g a (h ▸ ha) a (cR.mpr #[m,h2,hm]) rfl).elim
    rcases ah.mp f with c|h2
    .exact (g a (c ▸ hm) a (cR.mpr #[l,h1,ha]) rfl).elim
    show i j h1 h2
  subst this;rw[lab,e];cases m with
  |nil=>cases hm
  |cons y m=>cases d;rfl
def tT{a:Nat}(h:a∉rl.flatten):lab rl a=a:=by
 have:(rl.find? λl=>decide (a∈l))=gf:=LG.mpr λl b=>by
  simpa using λha=>h\cR.mpr #[l,b,ha]
 rw[lab,this];rfl
def mC:∀ts:-Tri,↑(keys ts)=3*↑ts
 | []=>rfl
 |t::ts=>by
  change ↑(keys ts)+1+1+1=3*(↑ts+1);rw[mC ts];lia
def mB{α:Type}(p:α->Bool):∀l:List α,↑(l.filter p)+↑(l.filter λx=>!p x)=↑l
 | []=>rfl
 |a::l=>by
  have:=mB p l;cases e:p a<;>simp only[eu,e,Bool.not_true,Bool.not_false,if_true,iu,if_false,br]<;>lia
def tV(ts:-Tri):↑(gls ts)=↑((keys ts).filter λd=>decide (d.2<d.1)&&decide ((d.2,d.1)∈keys ts)):=av ..
def xx(g:Good ts):↑((keys ts).filter λd=>decide (d.1<d.2)||!decide ((d.2,d.1)∈keys ts))+↑(gls ts)=3*↑ts:=by
 rw[<-mC,tV,<-mB (λd=>decide (d.1<d.2)||!decide ((d.2,d.1)∈keys ts))\keys ts]
 congr 2
 show LD λd hd=>?_;let#[c,b]:=cm.mp hd;have:=g.sk.ne b;rw[Bool.not_or,Bool.not_not]
 congr 1
 rw[<-decide_not];show decide_eq_decide.mpr ()
def pN(g:Good ts)(o:∀c,Co ts c->One (En ts) c)(j:Rims (ar\En ts) rl)(nd:rl.flatten.Nodup):rl.flatten.length+2*(gls ts).length=3*↑ts:=by
 let one:∀a b c,ar (En ts) a b->ar (En ts) a c->b=c:=λa b c h h'=>mJ g.sk (o a (by let#[#[q,m],_]:=h;erw[_,q,m])) h h';let u:↑((keys ts).filter λd=>!decide ((d.2,d.1)∈keys ts))=rl.flatten.length:=by
  show j9 (ff (R:=λd a=>ar (En ts) d.1 d.2/\d.1=a) (j4 _ g.nd) (λd hd=>?_) ?_) (ff (R:=λ(a:Nat)(d:Nat×Nat)=>d.1=a) nd (λa ha=>?_) λa _ b _ d (e:d.1=a) (e':d.1=b)=>e.symm<*e')
  .let#[h1,h2]:=bZ.mp hd;let h2:¬(d.2,d.1)∈keys ts:=‹h2›
   let h:ar (En ts) d.1 d.2:=#[cm.mp h1,λh=>h2\cm.mpr h];let#[l,f,hd]:=j.all d.1 #[_,h];erw[d.1,cR.mpr #[l,f,hd],h,1]
  .rintro⟨a,b⟩ _ ⟨c,d⟩ _ y ⟨h,e⟩ ⟨h',e'⟩;cases e;cases e';cases one _ _ _ h h';rfl
  let#[l,f,n]:=cR.mp ha;let#[b,_,h]:=(j.cyc l f).step n;erw[(a,b),bZ.mpr #[cm.mpr h.1,‹λp=>h.2 (cm.mp p)›],1]
 let v:=mB (λd:Nat×Nat=>decide ((d.2,d.1)∈keys ts))\keys ts;let r:=mB (λd:Nat×Nat=>decide (d.2<d.1)) ((keys ts).filter λd=>decide ((d.2,d.1)∈keys ts));rw[LF,LF] at r;let w:↑((keys ts).filter λd=>(!decide (d.2<d.1))&&decide ((d.2,d.1)∈keys ts))=↑(gls ts):=by
  rw[tV];show j9 (ff (R:=λx y=>x.1=y.2/\x.2=y.1) (j4 _ g.nd) (λx i=>?_) ?_)\ff (R:=λx y=>x.1=y.2/\x.2=y.1) (j4 _ g.nd) (λx i=>?_) ?_
  .let#[h1,h2]:=bZ.mp i;let#[c,s]:=cm.mp h1;have:=g.sk.ne s;simp only[ir,Ln,decide_eq_false_iff_not,decide_eq_true_eq] at h2;erw[(x.2,x.1),bZ.mpr #[h2.2,by simp only[ir,decide_eq_true_eq];erw[(),h1]],5]
  .rintro⟨a,b⟩ _ ⟨c,d⟩ _ y ⟨h,e⟩ ⟨h',e'⟩;dsimp only at h e h' e';rw[h,e,h',e']
  .let#[h1,h2]:=bZ.mp i;simp only[ir,decide_eq_true_eq] at h2;erw[(x.2,x.1),bZ.mpr #[h2.2,by simp only[ir,Ln,decide_eq_false_iff_not,decide_eq_true_eq];erw[(),h1]],5]
  rintro⟨a,b⟩ _ ⟨c,d⟩ _ y ⟨h,e⟩ ⟨h',e'⟩;dsimp only at h e h' e';rw[h,e,h',e']
 let z:=tV ts;let A:=mC ts;lia
def euler(g:Good ts)(o:∀c,Co ts c->One (En ts) c)(j:Rims (ar\En ts) rl){C L:-Nat}{lot:Nat->Nat}(s:C.Nodup)(hC:∀x,x∈C↔Co ts x)(d:∀a b c,En ts a b c->lot a=lot b)(nd:L.Nodup)(I:∀x,x∈L↔Co ts x/\lot x=x)
  (K:∀a,Co ts a->lot a∈L) (M:∀a b,Co ts a->Co ts b->lot a=lot b->Conn ts a b):∃h,2*↑L+2*↑ts=↑rl+↑C+↑(gls ts)+2*h:=by
 let#[inj,one,p]:=#[(λa b c h h'=>kP g.sk (o c (by let#[#[q,u],_]:=h;erw[0,g.sk.rot u])) h h':∀a b c,ar (En ts) a c->ar (En ts) b c->a=b),(λa b c h h'=>mJ g.sk (o a (by let#[#[q,u],_]:=h;erw[_,q,u])) h h':∀a b c,ar (En ts) a b->ar (En ts) a c->b=c),iI inj j];let w:∀a∈rl.flatten,Co ts a:=λa ha=>by
  let#[#[l,d,r],#[b,_,h],#[#[q,u],_]]:=#[cR.mp ha,(j.cyc l d).step r,h];erw[_,q,u]
 let#[cs,ids,h,G,pm]:=Ho g d;let X:=Dq g o G pm nd I K M;let N:∀a,Co ts a->lab rl a∈C.filter λa=>decide (lab rl a=a):=λa ha=>by
  by_cases hf:a∈rl.flatten
  .let#[l,d,r]:=cR.mp hf;let#[x,f,z]:=(j.cyc l d).toPath.begin;rw[gJ p d r f];show bZ.mpr #[(hC x).mpr\w x (cR.mpr #[l,d,z]),Ol\gJ p d z f]
  have:=tT hf;rw[this];show bZ.mpr #[(hC a).mpr ha,Ol this]
 let Y:=EU g o G pm (lab:=lab rl) (L:=C.filter λa=>decide (lab rl a=a)) (j4 _ s) (λx=>by rw[bZ,hC,decide_eq_true_eq]) (λa c E=>by
   let#[l,d,H]:=j.all c #[a,E];let#[x,f,_]:=(j.cyc l d).toPath.begin;rw[gJ p d H f,gJ p d ((j.cyc l d).closed one H E) f]) N λa ha S O A=>by
  by_cases hf:a∈rl.flatten
  .let#[l,d,r]:=cR.mp hf;let#[x,f,z]:=(j.cyc l d).toPath.begin;rw[gJ p d r f];let#[i,hi]:=cJ r;clear hf r ha;induction i generalizing a with
   |zero=>rw[f] at hi;cases hi;show A
   |succ i P=>
    let Q:i<↑l:=by have:=(aq.mp hi).1;lia
    let e:l[i]?*>l[i]:=ay Q;show P _ ((O>>((j.cyc l d).toPath.ch i _ _ e hi)).mpr A) e
  rw[tT hf];show A
 let Z:=pN g o j p;let R:(rl.map λl=>l.headD 0).Nodup:=by
  rw[List.Nodup,fC];show gv (λ{l m} d hm h=>?_) j.rise;let#[x,f,_]:=(j.cyc l d).toPath.begin;let#[y,n,_]:=(j.cyc m hm).toPath.begin;have:=h x y f n;cases l with
  |nil=>cases f
  |cons a l=>
   cases m with
   |nil=>cases n
   |cons b m=>
    cases f;cases n;simp only[List.headD_cons];lia
 let B:∀l∈rl,∀x,l[0]?*>x->l.headD 0=x:=λl _ x f=>by
  cases l with
  |nil=>cases f
  |cons a l=>cases f;rfl
 let T:↑(C.filter λa=>decide (lab rl a=a))=↑(C.filter (λa=>!decide (a∈rl.flatten))++rl.map λl=>l.headD 0):=by
  show mx (j4 _ s) (aQ.mpr #[j4 _ s,R,λa ha b D e=>?_]) λx=>?_
  .subst e;let#[l,d,e]:=ai.mp D;let#[y,n,v]:=(j.cyc l d).toPath.begin;have:¬a∈rl.flatten:=‹(bZ.mp ha).2›
   rw[B l d y n] at e;show this (e ▸ cR.mpr #[l,d,v])
  rw[az,bZ,bZ,ai,decide_eq_true_eq];constructor
  .rintro⟨h1,h2⟩;by_cases hf:x∈rl.flatten
   .let#[l,d,r]:=cR.mp hf;let#[y,n,_]:=(j.cyc l d).toPath.begin;show .o #[l,d,by rw[B l d y n,<-gJ p d r n,h2]]
   show .l #[h1,‹hf›]
  rintro (⟨h1,h2⟩|⟨l,d,e⟩)
  .exact#[h1,tT ‹h2›]
  let#[y,n,v]:=(j.cyc l d).toPath.begin;rw[B l d y n] at e;subst e;erw[(hC _).mpr\w _ (cR.mpr #[l,d,v]),gJ p d v n]
 let U:↑C=↑(C.filter (λa=>!decide (a∈rl.flatten))++rl.flatten):=by
  show mx s (aQ.mpr #[j4 _ s,p,λa ha b D e=>?_]) λx=>?_
  .subst e;have:¬a∈rl.flatten:=‹(bZ.mp ha).2›
   show this D
  rw[az,bZ];constructor
  .intro f;by_cases hf:x∈rl.flatten
   .exact .o hf
   show .l #[f,‹hf›]
  rintro (⟨h1,_⟩|hf)
  .exact h1
  show (hC x).mpr\w x hf
 rw[aE,av] at T;rw[aE] at U;have:=G.cnt;erw[h,()]
end
def qp{α:Type}{R:α->α->Prop}(d:∀a b,R a b->R b a->False):∀{l m:List α},l.Pairwise R->m.Pairwise R->(∀x,x∈l↔x∈m)->l=m:=by
 intro l;induction l with
 |nil=>
  intro m _ _ h;cases m with
  |nil=>rfl
  |cons b m=>cases (h b).mpr aL
 |cons a l i=>
  intro m h1 h2 h;let#[f,j]:=ji.mp h1;cases m with
  |nil=>cases (h a).mp aL
  |cons b m=>
   let#[g,n]:=ji.mp h2;let e:a=b:=by
    rcases ah.mp ((h a).mp aL) with e|e
    .exact e
    rcases ah.mp ((h b).mpr aL) with e' | e'
    .exact e'.symm
    show (d _ _ (g a e)\f b e').elim
   subst e;rw[i j n λx=>#[λc=>?_,λc=>?_]]
   .exact (ah.mp\(h x).mp (aC _ c)).resolve_left λe=>d a a (e ▸ f x c) (e ▸ f x c)
   show (ah.mp\(h x).mpr (aC _ c)).resolve_left λe=>d a a (e ▸ g x c) (e ▸ g x c)
section
variable {ts:-Tri}
def Conn.refl(a:Nat):Conn ts a a:=λ_ _ h=>h
def Conn.trans{a b c:Nat}(h:Conn ts a b)(h':Conn ts b c):Conn ts a c:=λS d e=>h' S d\h S d e
def Conn.symm{a b:Nat}(h:Conn ts a b):Conn ts b a:=λS c d=>lO λf=>h (λx=>¬S x) (λx y z e=>not_congr\c x y z e) f d
def Conn.of{a b c:Nat}(h:En ts a b c):Conn ts a b:=λS d e=>(d _ _ _ h).mp e
def Conn.co{a b:Nat}(g:Good ts)(h:Conn ts a b)(ha:Co ts a):Co ts b:=h (Co ts) (λx y z e=>#[λ_=>#[0,g.sk.rot e],λ_=>#[0,e]]) ha
def Fg{K:-Nat}{a:Nat}(g:Good ts)(b:a∈K)(h1:∀k∈K,Conn ts a k)(h2:∀k∈K,∀p q,En ts k p q->p∈K)(x:Nat):x∈K↔Conn ts a x:=
 #[h1 x,λh=>h (·∈K) (λx y z e=>#[λc=>h2 x c _ _ e,λd=>h2 z (h2 y d _ _\g.sk.rot e) _ _\g.sk.rot (g.sk.rot e)]) b]
structure Pcs(ts:-Tri)(ls:List\-Nat):Prop where
 up:∀l∈ls,l.Pairwise (· < ·)
 co:∀l∈ls,∃a,l[0]?*>a/\Co ts a/\∀x,x∈l↔Conn ts a x
 rise:ls.Pairwise λl m=>∀x y,l[0]?*>x->m[0]?*>y->x<y
def yv{l:-Nat}(h:l.Pairwise (· < ·)){a:Nat}(c:l[0]?*>a):∀x∈l,a<=x:=by
 cases l with
 |nil=>cases c
 |cons b l=>
  cases c;intro x d;rcases ah.mp d with e|e
  .lia
  show nW\(ji.mp h).1 x e
def Pcs.uniq{ls ms:List\-Nat}(h:Pcs ts ls)(h':Pcs ts ms)(al:∀x,Co ts x->∃l∈ls,x∈l)(q:∀x,Co ts x->∃l∈ms,x∈l):ls=ms:=by
 let sub:∀{ls ms:List\-Nat},Pcs ts ls->Pcs ts ms->(∀x,Co ts x->∃l∈ms,x∈l)->∀l∈ls,l∈ms:=λ{ls ms} h h' al l c=>by
  let#[#[a,d,r,hm],#[m,f,s],#[b,0,j],n]:=#[h.co l c,al a r,h'.co m f,(j a).mp s];let e:l=m:=qp (R:=(· < ·)) (λa b h h'=>()) (h.up l c) (h'.up m f) λx=>by
   rw[hm,j];erw[λg=>n<*g,λg=>n.symm<*g]
  show e ▸ f
 show qp (R:=λl m:-Nat=>∃x y,l[0]?*>x/\m[0]?*>y/\x<y) (λl m h1 h2=>?_) (gv (λ{l m} c hm i=>?_) h.rise) (gv (λ{l m} c hm i=>?_) h'.rise) λl=>#[sub h h' q l,sub h' h al l]
 .let#[x,y,u,v,w]:=h1;let#[z,A,o,p,B]:=h2;rw[u] at p;rw[v] at o;cases p;cases o;lia
 .let#[a,d,_]:=h.co l c;let#[b,h1,_]:=h.co m hm;erw[a,b,d,h1,i a b d h1]
 let#[a,d,_]:=h'.co l c;let#[b,h1,_]:=h'.co m hm;erw[a,b,d,h1,i a b d h1]
def Pcs.dis{ls:List\-Nat}(h:Pcs ts ls):ls.flatten.Nodup:=by rw[List.Nodup,AE];erw[λl d=>(h.up l d).imp λf=>bz f,gv (λ{l m} d hm i=>?_) h.rise];intro c j p n e;subst e;let#[a,o,_,ha]:=h.co l d;let#[b,h1,_,g]:=h.co m hm;let f:=((ha c).mp j).trans ((g c).mp n).symm;have:=yv (h.up m hm) h1 a\(g a).mpr f.symm;have:=i a b o h1;lia
def Du(g:Good ts)(o:∀c,Co ts c->One (En ts) c){rl:List\-Nat}(q:Rims (ar\En ts) rl){C:-Nat}{ls:List\-Nat}(v:C.Nodup)(hC:∀x,x∈C↔Co ts x)(h:Pcs ts ls)(al:∀x,Co ts x->∃l∈ls,x∈l) :
  ∃k,2*↑ls+2*↑ts=↑rl+↑C+↑(gls ts)+2*k:=by
 let nd:=h.dis;let hd:∀l∈ls,∀x,l[0]?*>x->l.headD 0=x:=λl _ x j=>by
  cases l with
  |nil=>cases j
  |cons a l=>cases j;rfl
 let i:∀a,Co ts a->∃l∈ls,∃b,l[0]?*>b/\Co ts b/\a∈l/\b∈l/\Conn ts b a/\lab ls a=b:=λa ha=>by
  let#[l,d,n]:=al a ha;let#[b,f,p,hm]:=h.co l d;erw[l,d,b,f,p,n,(hm b).mpr\Conn.refl b,(hm a).mp n,gJ nd d n f]
 let same:∀a b,Co ts a->Conn ts a b->lab ls a=lab ls b:=λa b ha w=>by
  let#[l,d,c,f,p,n,E,r,e]:=i a ha;let#[y,s,_,hm]:=h.co l d;rw[f] at s;cases s;rw[e,gJ nd d ((hm b).mpr\r.trans w) f]
 let#[k,u]:=euler g o q (lot:=lab ls) (L:=ls.map λl=>l.headD 0) v hC (λa b c e=>same a b #[0,e]\Conn.of e) (by
   rw[List.Nodup,fC];show gv (λ{l m} d hm q=>?_) h.rise;let#[a,f,_]:=h.co l d;let#[b,h1,_]:=h.co m hm;have:=q a b f h1;rw[hd l d a f,hd m hm b h1];lia) (λx=>by
   rw[ai];constructor
   .rintro⟨l,d,e⟩;let#[a,f,p,hm]:=h.co l d;rw[hd l d a f] at e;subst e;erw[p,gJ nd d ((hm _).mpr\Conn.refl _) f]
   .rintro⟨j,e⟩;let#[l,d,b,f,8,_,e']:=i x j;erw[l,d,by rw[hd l d b f,<-e',e]]) (λa ha=>by
   let#[l,d,b,f,8,_,e']:=i a ha;show ai.mpr #[l,d,by rw[hd l d b f,e']]) λa b ha z e=>by
  let#[l,d,c,f,8,r,A]:=i a ha;let#[m,hm,y,s,8,B,D]:=i b z;rw[A,D] at e;subst e;show r.symm<*B
 rw[av] at u;erw[k,u]
end
section
variable {ts us:-Tri}{rl ls ms:List (-Nat)}
def rim_steps(s:Skn ts):(∀a b c,ar (En ts) a b->ar (En ts) a c->b=c)/\(∀a b c,ar (En ts) a c->ar (En ts) b c->a=b):=
 #[λa b c h h'=>mJ s.g.sk (s.o a (by let#[#[q,d],_]:=h;erw[_,q,d])) h h',λa b c h h'=>kP s.g.sk (s.o c (by let#[#[q,d],_]:=h;erw[0,s.g.sk.rot d])) h h']
def sides2(s:Skn ts)(b:Rims (ar\En ts) rl):2*((keys ts).filter λd=>decide (d.1<d.2)||!decide ((d.2,d.1)∈keys ts)).length=3*↑ts+rl.flatten.length:=by let h1:=xx s.g;let h2:=pN s.g s.o b\iI (rim_steps s).2 b;lia
def ft(ts:-Tri)(ls:List\-Nat):Prop:=∀x,Co ts x->∃l∈ls,x∈l
def Pcs.nodup(p:Pcs ts ls):ls.Nodup:=gv (λ{l m} c hm d e=>by
 subst e;let#[a,b,_]:=p.co l c;show dW _\d a a b b) p.rise
def zm(p:Pcs ts ls)(p':Pcs us ms)(al:ft us ms)(f:Nat->Nat)(h1:∀c,Co ts c->Co us\f c)(h2:∀a b,Co ts a->Co ts b->Conn us (f a) (f b)->Conn ts a b):↑ls<=↑ms:=by
 show ff (R:=λl m=>m∈ms/\∃a,l[0]?*>a/\f a∈m) p.nodup (λl d=>?_) λl d g i m ⟨hm,a,ha,j⟩ ⟨_,b,n,o⟩=>?_
 .let#[a,q,e,_]:=p.co l d;let#[m,hm,r]:=al _\h1 a e;erw[m,hm,hm,a,q,r]
 let#[C,s,u,v]:=p.co l d;let#[D,w,A,B]:=p.co g i;cases ha.symm.trans s;cases n.symm.trans w;let#[c,0,e]:=p'.co m hm;let cn:=h2 a b u A\((e _).mp j).symm.trans ((e _).mp o);show qp (R:=(· < ·)) (λx y h h'=>()) (p.up l d) (p.up g i) λx=>by
  rw[v,B];erw[λz=>cn.symm<*z,λz=>cn<*z]
structure Ret(ts us:-Tri)(f:Nat->Nat):Prop where
 up:∀a b c,En ts a b c->Conn us a b
 in1:∀c,Co ts c->Co us c
 dn:∀a b c,En us a b c->Conn ts (f a)\f b
 in2:∀c,Co us c->Co ts\f c
 id1:∀c,Co ts c->f c=c
 cn:∀c,Co us c->Conn us c\f c
def iK(f:Nat->Nat)(h:∀a b c,En ts a b c->Conn us (f a)\f b){a b:Nat}(c:Conn ts a b):Conn us (f a) (f b):=
 c (λx=>Conn us (f a)\f x) (λx y z e=>#[λk=>k.trans\h x y z e,λk=>k.trans (h x y z e).symm]) (Conn.refl _)
def Ret.len{f:Nat->Nat}(r:Ret ts us f)(p:Pcs ts ls)(p':Pcs us ms)(al:ft ts ls)(e:ft us ms):↑ls=↑ms:=
 j9 (zm p p' e id r.in1 λa b ha d c=>by
   have:Conn ts (f a) (f b):=iK f r.dn c
   rwa [r.id1 a ha,r.id1 b d] at this)
  (zm p' p al f r.in2 λa b ha d c=>((r.cn a ha).trans\iK id r.up c).trans (r.cn b d).symm)
end
section
variable {E:Nat->Nat->Nat->Prop}{v:Nat}{ps:-Nat}
structure Rnd(E:Nat->Nat->Nat->Prop)(v:Nat)(ps:-Nat):Prop where
 path:Path (E v) ps
 key:∀s,ps[0]?*>s->∃q,E v s q
 fst:∀s,ps[0]?*>s->(∀o,¬E v o s)\/(∀p,(∃q,E v p q)->∃o,E v o p)/\∀p,(∃q,E v p q)->s<=p
 en:∀s z,ps[0]?*>s->ps[↑ps-1]?*>z->(∀q,¬E v z q)\/E v z s
structure Rc(E:Nat->Nat->Nat->Prop)(v:Nat)(ps:-Nat):Prop extends Cyc (E v) ps where
 all:∀p,p∈ps↔∃q,E v p q
 least:∀s,ps[0]?*>s->∀p∈ps,s<=p
structure Ro(E:Nat->Nat->Nat->Prop)(v:Nat)(L:-Nat)(z:Nat):Prop where
 path:Path (E v) (L++[z])
 all:∀p,p∈L↔∃q,E v p q
 ne:L≠[]
 out:∀q,¬E v z q
 first:∀s,L[0]?*>s->∀o,¬E v o s
def mm(k:Sk E)(o:One E v)(r:Rnd E v ps):Rc E v ps\/∃L z,ps=L++[z]/\Ro E v L z:=by
 let#[s,c,D]:=r.path.begin;let N:=(aq.mp c).1;let#[z,j]:∃z,ps[↑ps-1]?*>z:=#[_,ay ()];let hd:∀{l:-Nat},l[0]?*>s->l.head?*>s:=λh=>by rw[uS];show h
 let A:=(r.fst s c).imp_right λz=>z.1;by_cases m:E v z s
 .let g:∀p∈ps,∃q,E v p q:=λp b=>by
   let#[i,hi]:=cJ b;by_cases H:i+1<↑ps
   .exact#[_,r.path.ch i p _ hi\ay H]
   have:=(aq.mp hi).1;rw[show i=↑ps-1 by lia,j] at hi;cases hi;erw[s,m]
  let u:=(sU k r.path.ne r.path.nd g r.path.ch (λp b=>by
   rw[eC,j] at b;cases b;show m) (λ_=>D) (hd c) A).mpr o
  show .l #[#[r.path,λp q b d=>?_],λp=>#[g p,u p],λs' n p b=>?_]
  .rw[j] at b;rw[c] at d;cases b;cases d;show m
  rw[c] at n;cases n;show ((r.fst s c).resolve_left λh=>h z m).2 p\g p b
 let w:=(r.en s z c j).resolve_right m;let I:z≠s:=λe=>by
  let#[q,d]:=r.key s c;show w q (e ▸ d)
 let#[L,f,1]:∃L f,ps=L++[f]:=#[ps.dropLast,_,(List.dropLast_concat_getLast r.path.ne).symm];let K:f=z:=‹j›
 subst K;let x:L≠[]:=λe=>by subst e;simp at c;show I c
 let B:L[0]?*>s:=by rw[bY\dI.mpr x] at c;show c
 let nx:∀i p,L[i]?*>p->∃q,(L++[f])[i+1]?*>q/\E v p q:=λi p hi=>by
  let M:=(aq.mp hi).1;let h2:=ay (l:=L++[f]) (i:=i+1) (by simp;lia);erw[_,h2,r.path.ch i p _ (by rw[bY M];show hi) h2]
 let g:∀p∈L,∃q,E v p q:=λp b=>by
  let#[i,hi]:=cJ b;let#[q,_,h]:=nx i p hi;erw[q,h]
 let u:=(sU k x (aQ.mp r.path.nd).1 g (λi p q b d=>r.path.ch i p q (by rw[bY (aq.mp b).1];show b) (by rw[bY (aq.mp d).1];show d)) (at_:=f) (λp b=>by
  rw[eC] at b;let O:=(aq.mp b).1;let#[q,h2,y]:=nx _ p b;rw[show ↑L-1+1=↑L by lia,fB\au _,nY] at h2;cases h2;show y) (λ⟨q,d⟩=>(w q d).elim) (hd B) A).mpr o
 show .o #[L,f,1,r.path,λp=>#[g p,u p],x,w,λs' n o' C=>?_];rw[B] at n;cases n;let#[i,hi]:=cJ\u o' #[_,C];let#[q,h2,y]:=nx i o' hi;rw[k.one y C] at h2;have:=eQ r.path.nd h2 c;lia
def Ro.rim(k:Sk E){L:-Nat}{z:Nat}(r:Ro E v L z):ar E z v/\∀s,L[0]?*>s->ar E v s:=by let e:0<↑L:=dI.mpr r.ne;let#[p,d]:∃p,L[↑L-1]?*>p:=#[_,ay ()];let h:=r.path.ch (↑L-1) p z (by rw[bY ()];show d) (by rw[show ↑L-1+1=↑L by lia,fB\au _,nY];rfl);erw[#[#[p,k.rot\k.rot h],λ⟨q,b⟩=>r.out q b],λs c=>#[(r.all s).mp\aJ c,λ⟨q,b⟩=>r.first s c q\k.rot b]]
def Rc.rim(k:Sk E)(r:Rc E v ps)(b:Nat):¬ar E v b/\¬ar E b v:=by
 let pre:∀p∈ps,∃o,E v o p:=λp c=>by
  let#[i,hi]:=cJ c;let f:=(aq.mp hi).1;cases i with
  |zero=>erw[_,r.back _ p (ay (show ↑ps-1<↑ps by lia)) hi]
  |succ i=>erw[_,r.ch i _ p (ay (show i<↑ps by lia)) hi]
 erw[λ⟨h,n⟩=>?_,λ⟨⟨q,h⟩,n⟩=>?_]
 .let#[o,d]:=pre b\(r.all b).mpr h;show n #[o,k.rot\k.rot d]
 let h':=k.rot h;let#[p,c,e]:=r.toCyc.step\(r.all q).mpr #[b,h'];rw[k.one h' e] at n;show n\(r.all p).mp c
end
def sdT(m n:Nat):HO:=.u [.i (m:Int),.i (n:Int)]
def DN(C:gL)(vs:-V)(H:Hp)(Q:VK)(x:gL)(ts:-Tri)(a b:Nat):Prop:=vs=[.r x,.i (a:Int),.i (b:Int)]/\cY C H x ts/\Good ts/\
 ∀H',Same H H'->(∀c,En ts a b c->Q (.i (c:Int)) H')/\((∀c,¬En ts a b c)->Q .non H')
def pq(C:gL):Sp:=i8\DN C
def Ku(Cs:gL)(vs:-V)(H:Hp)(Q:VK)(x:gL)(ts:-Tri)(n:Nat):Prop:=vs=[.r x,.i (n:Int)]/\cY Cs H x ts/\Co ts n/\Q (.i (n:Int)) H
def spCC(Cs:gL):Sp:=du\Ku Cs
def DT(Cs:gL)(vs:-V)(H:Hp)(Q:VK)(x:gL)(ts:-Tri)(A:-gL)(n:Nat):Prop:=vs=[.r x,.i (n:Int)]/\SkA Cs H x ts A/\Good ts/\↑ts<=200/\Co ts n/\
 ∀r ps H',H r=gf->SmL A H H'->H' r*>.a (nV ps)->↑ps<=1001->Rnd (En ts) n ps->Q (.r r) H'
def tE(Cs:gL):Sp:=i8\DT Cs
def CK(vs:-V)(H:Hp)(Q:VK)(a:gL)(m n:Nat):Prop:=vs=[.r a]/\H a*>sdT m n/\Q (.bl gn) H
def w5:Sp:=du CK
def Kt(Cs:gL)(vs:-V)(H:Hp)(Q:VK)(x:gL)(ts:-Tri)(a:gL)(m n:Nat):Prop:=vs=[.r x,.r a]/\cY Cs H x ts/\Good ts/\H a*>sdT m n/\(∃c,En ts m n c)/\∀r H',Same H H'->H' r*>sdT m n->Q (.r r) H'
def spCS(Cs:gL):Sp:=jU\Kt Cs
def B4(Cs:gL)(vs:-V)(H:Hp)(Q:VK)(x:gL)(ts:-Tri)(a:gL)(m n:Nat):Prop:=vs=[.r x,.r a]/\cY Cs H x ts/\Good ts/\H a*>sdT m n/\(∃c,En ts m n c)/\∀b H',Same H H'->(b=gn↔ar (En ts) m n)->Q (.bl b) H'
def r_(Cs:gL):Sp:=jU\B4 Cs
def SmL.sub{A B:-gL}(s:SmL A H H')(h:∀b∈A,b∈B):SmL B H H':=λb o e=>(s b o e).imp_right λ⟨h1,h2,c⟩=>#[h1,h b h2,c]
def cY.obj{C:gL}{x:gL}{ts:-Tri}(h:cY C H x ts):∃dx O R D S,H x*>.ins C dx (sflds O R D S):=by let#[dx,O,R,D,S,b,cs,L,sk]:=h;erw[dx,O,R,D,S,sk.ob]
section
def FM:aR [↑86,"a","b"] [↑86,"a","b"] (aI p_):=.f
def Et{f C:gL}(U:Fun K "third" "Skin.third" p_ f fd)(X:SCls K C):!aA CX0 1 f fd [↑86,"a","b"] (pq C):=by
 show U.ok FM (!4) λ_ _ _ _ _ _ _ _ e h=>?_
 let#[x,ts,a,b,1,#[dx,O,R,D,S,m,cs,L,sk],g,q]:=h;let i:=cG e;erw[_,aj\aK (xq i (gI (pv 0) rfl) (aT\ae (pv 1) (pa1\pv 2)) #[5,5]),?_];erw[2,x,C,dx,9,sk.ob,X.cl,X.thirds,1,D,1,.o #[_,sk.th],3,lit2,λt H1 n s1 j=>?_];erw[_,.o #[_,ky a b,t,(Sm.of s1).rd sk.th,1,j,1],?_];let q:=q _ s1;by_cases d:∃c,En ts a b c
 .let#[c,d]:=d;rw[(wV g.nd).mpr d];show q.1 c d
 rw[fE.mpr λz=>d\uq.mp z];show q.2 λc z=>d #[c,z]
def scCC:aR [↑36,↑40] [↑36,↑40] (aI oq):=.f
def KS{f c Cs:gL}{fd d1:i4}(U:Fun K ↑25 ↑25 oq f fd)(T:bW mg)(X:SCls K Cs)(G:!Use 2 ↑43 [↑40] oz c d1):!aA CX0 3 f fd [↑36,↑40] (spCC Cs):=by
 show U.ok scCC (!3) λ_ _ _ _ _ _ _ _ b h=>?_
 let#[x,ts,n,1,#[dx,O,R,D,S,j,cs,L,sk],d,q]:=h;let e:=cG b;erw[_,af (bO (PW.pt\gk (eU\dO (uc G b\pa1 (pv 1))) (gH\eG (g6 e (pv 1)\gI (pv 0) rfl))) jt bN)
  (aj\aK (cV jv (by rfl) T.int j_\pa1 (pv 1))),?_]
 let#[a,_,g]:=jI\(sk.ky n).mpr d;erw[2,n,7,nA ?_];erw[3,x,Cs,dx,9,sk.ob,X.cl,X.steps,1,S,2,.l #[_,Sum.inl (n:Int),sk.st,1,g.symm],gB,1,aP #[2,.l #[2,q]]]
def xY:aR [↑36,↑84,"about"] [↑36,↑84] (aI oQ):=.f
def EA{f C I M Cs:gL}{fd d1 d2 N:i4}(U:Fun K ↑82 ↑82 oQ f fd)(X:SCls K Cs)
  (T:!Use 3 ↑25 [↑36,↑40] (spCC Cs) C d1) (Y:!Use 1 ↑65 [↑69] sM I d2) (Z:!Use 1 "walked" [↑69,"begin"] rZ M N) :
  !aA CX0 4 f fd [↑36,↑84] (tE Cs):=by
 show U.ok xY (!4) λ_ _ _ _ H _ _ _ e h=>?_
 let#[x,ts,A',n,1,u,g,hl,i,q]:=h;let ad:=u.at;let#[dx,O,R,D,S,vo,cs,L,sk,eA]:=u;let hu:=cG e;let v:=e.mono (⋯:1<=3);erw[_,af (sx 2 xY.nd\f_ hu (gI (pv 0) rfl) (uc T e\ae (pv 0) (pa1\pv 1)) λ_ _=>rfl)
  (aj\aK (uc Z v\ae (pv 2) (pa1\uc Y v (pa1\pv 2)))),?_]
 erw[2,x,Cs,dx,9,sk.ob,X.cl,X.steps,7,2,x,ts,n,1,ad,i,?_];let#[a,ha,al]:=jI\(sk.ky n).mpr i;let y:=sk.ab _ ha;let am:abt (ents ts) n≠[]:=λz=>by
  let#[p',q',h]:=i;have:=gG.mpr h;rw[z] at this;cases this
 let hlen:↑(abt (ents ts) n)<=1000:=by have:=tZ (ents ts) n;rw[eR] at this;lia
 let st:m8 (En ts n) (abt (ents ts) n):=#[zK g.nd n,λ_ _=>gG];erw[S,2,.l #[_,Sum.inl (n:Int),sk.st,1,al.symm],3,a,2,y,am,hlen,λs' H1 an B hf=>?_];let j:SmL A' H H1:=an.sub λb d=>by rw[eA,aN.mp d];show aC _\aC _ (ai.mpr #[_,ha,1])
 erw[a,_,En ts n,s',1,j.sm.rd y,hlen,λa b c h1 h2=>g.sk.inj h1 h2,st,B,λr ps H' ap s2 aM a0 a1 hd en=>q r ps H' (j.sm.free ap) (j.trans\SmL.of s2) aM a0 #[a1,λb d=>?_,λb d=>?_,λb z d hz=>?_]]
 .rw[hd] at d;cases d;show (st.key s').mp B
 .rw[hd] at d;cases d;rcases hf with h|⟨h,h'⟩
  .exact .l λo l=>h o\gG.mpr l
  show .o #[λp m=>?_,λp m=>h' p\(st.key p).mpr m];let#[o,l]:=h p\(st.key p).mpr m;erw[o,gG.mp l]
 rw[hd] at d;cases d;show en z hz
def sP:aR [↑40,"a","b"] [↑40] (aI pK):=.f
def C3{f d:gL}{fd d1:i4}(U:Fun K "is_pair" "is_pair" pK f fd)(T:bW mg)(F:qU K)(G:!Use 2 ↑43 [↑40] oz d d1) :
  !aA CX0 3 f fd [↑40] w5:=by
 show U.ok sP (!3) λ_ _ _ _ _ _ _ _ b h=>?_
 let#[a,m,n,1,ha,q]:=h;erw[_,af (bO (PW.pt (gk (eU\dO (cL (oP (c:=↑23)) (by rfl) T.isi u9\ae (pv 0) (pa1\pS (v:=.ty ↑23) rfl T.tuple kg rfl)))
    (gH\bH jQ (pln T.len\pv 0) ag (nomark _)))) (aj\aK d_) bN)
  (af (eI (pv 0)\cu rfl (aG (gx 1 sP.nd)\aG (gx 2 sP.nd) cq))
  (aj\aK (hX (uc G b\pa1 (pv 1))\jJ (uc G b\pa1 (pv 2))))),?_]
 erw[2,0,gn,1,.u ha,F.t,2,nA ?_];erw[2,a,2,.o\SqT.of ha,7,?_];show aP #[2,a,2,SqT.of ha,1,9,6,?_];erw[2,m,7,bf #[2,n,1,q]]
def uF:aR [↑36,↑40,"a","b"] [↑36,↑40] (aI oy):=.f
def KR{f e i Cs:gL}{fd d1 d2:i4}(U:Fun K ↑39 ↑39 oy f fd)(T:bW mg)(X:SCls K Cs)
  (G:!Use 3 "is_pair" [↑40] w5 e d1) (M:!gq Cs 1 "third" [↑86,"a","b"] (pq Cs) i d2):!aA CX0 4 f fd [↑36,↑40] (spCS Cs):=by
 show U.ok uF (!5) λ_ _ _ _ _ _ _ _ d h=>?_
 let#[x,ts,a,m,n,1,sk,g,ha,#[c,j],q]:=h;let#[dx,O,R,D,S,l]:=sk.obj;let o:=d.mono (⋯:1<=3);erw[_,af (bO (eU\dO (uc G d\pa1 (pv 1))) jt bN)
  (af (eI (pv 1)\cu rfl (aG (gx 2 uF.nd)\aG (gx 3 uF.nd) cq))
  (af (bO (eG\ui (tQ (pv 0) X.cl M.m M.g o M.b .nil pass0\ae (pv 2) (pa1\pv 3))) jt bN)
  (aj\aK (aT\ae (cV jv (by rfl) T.int j_\pa1 (pv 2)) (pa1\cV jv (by rfl) T.int j_ (pa1\pv 3)))))),?_]
 erw[2,a,m,n,1,ha,2,ik #[2,a,2,SqT.of ha,1,9,6,?_]];erw[2,x,dx,2,l,7,2,x,ts,m,n,1,sk,g,λH1 s1=>#[λu v=>?_,λz=>(z c j).elim]];erw[2,aP #[2,.l #[3,.l #[2,lit2,λt H2 y s2 p=>?_]]]];show q t _ (s1<*s2) p
def ud:aR [↑36,"side","a","b"] [↑36,"side"] (aI oH):=.f
def Cf{f l o Cs:gL}{fd d1 d2:i4}(U:Fun K ↑37 ↑37 oH f fd)(X:SCls K Cs)
  (G:!Use 4 ↑39 [↑36,↑40] (spCS Cs) l d1) (M:!gq Cs 1 "third" [↑86,"a","b"] (pq Cs) o d2):!aA CX0 5 f fd [↑36,"side"] (r_ Cs):=by
 show U.ok ud (!5) λ_ _ _ _ _ _ _ _ i h=>?_
 let#[x,ts,a,m,n,1,sk,g,ha,j,q]:=h;let#[dx,O,R,D,S,p]:=sk.obj;let d:=i.mono (⋯:1<=4);erw[_,af (eI (uc G i\ae (pv 0) (pa1\pv 1))\cu rfl (aG (gx 2 ud.nd)\aG (gx 3 ud.nd) cq))
  (aj\aK (zl\ui (tQ (pv 0) X.cl M.m M.g d M.b .nil pass0\ae (pv 3) (pa1\pv 2)))),?_]
 erw[3,x,ts,a,m,n,1,sk,g,ha,j,λr H1 s1 d=>#[r,2,SqT.of d,1,9,6,?_]];erw[2,x,dx,2,s1>>p,7,2,x,ts,n,m,1,sk.sm\Sm.of s1,g,λH2 s2=>#[λc e=>?_,λu=>?_]]
 .exact q _ H2 (s1<*s2) #[(λz=>by cases z),λz=>(z.2 #[c,e]).elim]
 show q _ H2 (s1<*s2) #[λ_=>#[j,λ⟨c,e⟩=>u c e],λ_=>rfl]
end
def xr{α:Type}(f:α->Nat)(l:List α):∀{cs:-Nat},cs.Nodup->(∀x∈l,f x∈cs)->(cs.map λc=>↑(l.filter λx=>decide (f x=c))).sum=↑l:=by
 suffices ∀cs:-Nat,cs.Nodup->(cs.map λc=>↑(l.filter λx=>decide (f x=c))).sum=↑(l.filter λx=>decide (f x∈cs)) from λ{cs} nd h=>by
  rw[this cs nd,List.filter_eq_self.mpr λx e=>Ol\h x e]
 intro cs;induction cs with
 |nil=>intro _;show (congrArg List.length (List.filter_eq_nil_iff.mpr λx _=>∅)).symm
 |cons c cs b=>
  intro nd;let#[g,d]:=bF.mp nd;rw[bj,uY,b d];clear b nd d;induction l with
  |nil=>rfl
  |cons x l b=>
   simp only[eu,ah] at b |-;by_cases h1:f x=c
   .subst h1;simp only[g,decide_true,if_true,true_or,decide_false,iu,if_false,br];lia
   by_cases h2:f x∈cs<;>simp only[h1,h2,decide_true,decide_false,iu,if_true,if_false,false_or,br]<;>lia
section
variable {ts:-Tri}{rl:List (-Nat)}{ps:-Nat}{c:Nat}
def deg(ts:-Tri)(rl:List\-Nat)(c:Nat):Nat:=↑((keys ts).filter λd=>decide (d.1=c))+↑(rl.flatten.filter λx=>decide (x=c))
def HC(g:Good ts){cs:-Nat}(nd:cs.Nodup)(e:∀c,c∈cs↔Co ts c)(h:Rims (ar\En ts) rl):(cs.map\deg ts rl).sum=3*↑ts+rl.flatten.length:=by
 let h1:=xr (λd:Nat×Nat=>d.1) (keys ts) nd λd hd=>by
  let#[q,f]:=cm.mp (show (d.1,d.2)∈keys ts from hd);show (e _).mpr #[0,f]
 let h2:=xr (λx:Nat=>x) rl.flatten nd λx i=>by
  let#[l,j,m]:=cR.mp i;let#[b,_,#[q,f],_]:=(h.cyc l j).step m;show (e _).mpr #[0,f]
 rw[<-mC,<-h1,<-h2];clear h1 h2 nd e;induction cs with
 |nil=>rfl
 |cons c cs n=>simp only[bj,uY,n,deg];lia
def Ep{l:-Nat}(nd:l.Nodup)(c:Nat):↑(l.filter λx=>decide (x=c))=if c∈l then 1 else 0:=by
 induction l with
 |nil=>rfl
 |cons a l b=>
  let#[e,d]:=bF.mp nd;rw[eu];by_cases h:a=c
  .subst h;rw[Oj ∅,br,b d,Oi e,Oj ∅]
  rw[Oi ‹h›,b d];simp[aO h]
def HD(s:Skn ts)(f:Rims (ar\En ts) rl)(m:Co ts c)(r:Rnd (En ts) c ps):↑ps=deg ts rl c:=by
 let k:=s.g.sk;let about:∀{L:-Nat},L.Nodup->(∀p,p∈L↔∃q,En ts c p q)->↑((keys ts).filter λd=>decide (d.1=c))=↑L:=λ{L} nd h=>by
  show j9 (ff (R:=λd p=>d=(c,p)) (s.g.nd.filter _) (λd hd=>?_) λ_ _ _ _ _ e e'=>e<*e'.symm) (ff (R:=λp (d:Nat×Nat)=>d=(c,p)) nd (λp n=>?_) λ_ _ _ _ _ e e'=>(gY\e.symm.trans e').2)
  .let#[#[h1,h2],#[a,p],e]:=#[bZ.mp hd,d,(On h2:a=c)];subst e;erw[p,(h p).mpr\cm.mp h1,1]
  erw[(c,p),bZ.mpr #[cm.mpr\(h p).mp n,Ol rfl],1]
 unfold deg;rw[Ep\iI (rim_steps s).2 f];rcases mm k (s.o c m) r with h|⟨L,z,rfl,h⟩
 .rw[about h.nd h.all,Oi]
  .rfl
  intro hf;let#[l,i,j]:=cR.mp hf;let#[b,_,u]:=(f.cyc l i).step j;show (h.rim k b).1 u
 rw[about (aQ.mp h.path.nd).1 h.all,Oj]
 .simp
 let#[s0,v]:∃s0,L[0]?*>s0:=#[_,ay\dI.mpr h.ne];let#[l,i,j]:=f.all c #[s0,(h.rim k).2 s0 v];show cR.mpr #[l,i,j]
end
section
variable {R:Nat->Nat->Prop}{l:-Nat}
def Cyc.cy(h:Cyc R l):Cy R l:=Ld h.toPath h.back
def Cy.cyc(h:Cy R l)(ne:l≠[]):Cyc R l:=#[#[ne,h.nd,λi p q h1 h2=>h.st p q\aJ (tP h1 h2)],λp q h1 h2=>h.st p q\xo (by rw[eC];show h1) h2]
def Cyc.rot(h:Cyc R l)(k:Nat):Cyc R (l.drop k++l.take k):=by let pm:(l.drop k++l.take k).Perm l:=fD.trans\.of_eq (di k l);show Cy.cyc #[pm.nodup_iff.mpr h.nd,λp q b=>h.cy.st p q\Gb k b] λz=>h.ne (by rw[z] at pm;show pm.nil_eq.symm)
def Cyc.rev(h:Cyc R l):Cyc (λa b=>R b a) l.reverse:=by
 let d:0<↑l:=dI.mpr h.ne;erw[#[‹h.ne›,(nQ l).nodup_iff.mpr h.nd,λi p q h1 h2=>?_],λp q h1 h2=>?_]
 .let c:=(aq.mp h2).1;rw[jf] at c;rw[nM ()] at h1 h2;show h.ch (↑l-1-(i+1)) q p h2 (by rw[show ↑l-1-(i+1)+1=↑l-1-i by lia];show h1)
 rw[jf,nM (),show ↑l-1-(↑l-1)=0 by lia] at h1;rw[nM ()] at h2;show h.back q p h2 h1
def tp{l:-Nat}{k x:Nat}:x∈l.drop k++l.take k↔x∈l:=by rw[az,or_comm,<-az,di]
def sQ{l:-Nat}{k m:Nat}(h:l[k]?*>m):(l.drop k++l.take k)[0]?*>m:=by have:=(aq.mp h).1;rw[bY (by rw[cQ];lia),lP];show h
end
def mir(t:Tri):Tri:=(t.1,t.2.2,t.2.1)
section
variable {ts:-Tri}{E:Nat->Nat->Nat->Prop}{v:Nat}
def iX{a b c:Nat}:En (ts.map mir) a b c↔En ts b a c:=by
 let hm:∀{x y z},(x,y,z)∈ts.map mir↔(x,z,y)∈ts:=λ{x y z}=>by
  rw[ai];erw[λ⟨⟨a,b,c⟩,h,e⟩=>by cases e;show h,λh=>#[_,h,1]]
 unfold En;rw[dz,dz,hm,hm,hm];constructor
 .rintro (h|h|h)
  .exact .o\.o h
  .exact .o\.l h
  show .l h
 rintro (h|h|h)
 .exact .o\.o h
 .exact .o\.l h
 show .l h
def xC:∀ts:-Tri,(keys\ts.map mir).Perm ((keys ts).map λd=>(d.2,d.1))
 | []=>.refl _
 |(a,b,c)::ts=>by
  change ((a,c)::(c,b)::(b,a)::keys\ts.map mir).Perm ((b,a)::(c,b)::(a,c)::(keys ts).map λd=>(d.2,d.1));show .trans ?_\(((xC ts).cons _).cons _).cons _;show (((List.Perm.swap _ _ _).cons _).symm.trans\List.Perm.swap _ _ _).trans\(List.Perm.swap _ _ _).cons _
def Gj(k:Sk E)(o:One E v):One (λa b c=>E b a c) v:=by
 let#[F,ne,nd,ch,key]:=jK o;let#[f,d,1]:=List.exists_cons_of_ne_nil ne;let#[l,g]:∃l,(f::d).getLast?*>l:=#[_,LP ne];let A:(f::d)[↑(f::d)-1]?*>l:=by rw[<-eC];show g
 let#[q,B]:=(key l).mp\aJ A;let m:Lk (E v) (f::d++[q]):=eK.mpr #[ch,trivial,λx y n C=>by rw[g] at n;cases n;cases C;show B];let D:Lk (E v) (d++[q]):=gi.mpr λi p r h1 h2=>gi.mp m (i+1) p r h1 h2;let pre:∀i p,(d++[q])[i]?*>p->∃o,(f::d)[i]?*>o/\E v o p:=λi p s=>by
  let hi:=(aq.mp s).1;rw[aE,ck] at hi;let u:=ay (l:=f::d) (i:=i) (by rw[br];lia);erw[_,u,gi.mp m i _ p (by rw[bY (by rw[br];lia)];show u) ‹s›]
 show fK (F:=(d++[q]).reverse) ∅ ?_ (eT (λa b _ h=>k.rot\k.rot h)\uk D) λp=>?_
 .rw[(nQ _).nodup_iff];show lQ.mpr λi j hi H L e=>?_;let#[M,h1,I]:=pre j _\ay H;let#[N,h2,w]:=pre i _\ay hi;rw[e] at w;rw[k.inj w I] at h2;have:=eQ nd h1 h2;lia
 rw[j8];constructor
 .intro h;let#[i,hi]:=cJ h;let#[o,_,e]:=pre i p hi;erw[o,k.rot\k.rot e]
 rintro⟨o,h⟩;let#[h,#[i,hi],K]:=#[k.rot h,cJ\(key o).mpr #[p,h],(aq.mp hi).1];let#[r,z]:∃r,(d++[q])[i]?*>r:=#[_,ay ‹K›];let#[o',h1,e]:=pre i r z;rw[hi] at h1;cases h1;rw[k.one h e];show aJ z
def xX(s:Skn ts):Skn (ts.map mir):=by
 erw[#[λt d=>?_,?_],λc f=>?_]
 .let#[u,i,1]:=ai.mp d;let#[h1,h2,j]:=s.g.ne u i;erw[aO j,aO h2,aO h1]
 .refine (xC ts).nodup_iff.mpr ?_;let h:=s.g.nd;rw[List.Nodup,fC];show Nj (λ{a b} n e=>n\lX (gY e).2 (gY e).1) h
 let#[p,q,h]:=f;show (su (λa b c=>iX) c).mpr\Gj s.g.sk (s.o c #[q,p,?_]);show s.g.sk.rot\iX.mp h
def m7(g:Good ts){c:Nat}:Co (ts.map mir) c↔Co ts c:=
 #[λ⟨p,q,h⟩=>#[q,p,g.sk.rot\iX.mp h],λ⟨p,q,h⟩=>#[q,p,iX.mpr\g.sk.rot (g.sk.rot h)]]
def kE{a b:Nat}:ar (En\ts.map mir) a b↔ar (En ts) b a:=by unfold ar;simp only[iX]
def FV(g:Good ts):Ret ts (ts.map mir) id:=
 #[λa b c h=>(Conn.of\iX.mpr h).symm,λc h=>(m7 g).mpr h,λa b c h=>(Conn.of\iX.mp h).symm,λc h=>(m7 g).mp h,λ_ _=>rfl,λc _=>Conn.refl c]
def Path.uniq{R:Nat->Nat->Prop}(one:∀a b c,R a b->R a c->b=c){l m:-Nat}(p:Path R l)(q:Path R m)(j:l[0]?=m[0]?)(n:∀z,l[↑l-1]?*>z->∀y,¬R z y)(em:∀z,m[↑m-1]?*>z->∀y,¬R z y):l=m:=by
 let go:∀{l m:-Nat},Path R l->Path R m->(∀z,m[↑m-1]?*>z->∀y,¬R z y)->∀i a b,l[i]?*>a->m[i]?*>a->l[i+1]?*>b->m[i+1]?*>b:=λ{l m} p q em i a b h1 h2 o=>by
  let r:=p.ch i a b h1 o;let hi:=(aq.mp h2).1;by_cases s:i+1<↑m
  .let e:=ay s;rw[one _ _ _ r\q.ch i a _ h2 e];show e
  show (em a (by rw[show ↑m-1=i by lia];show h2) b r).elim
 show nI λi=>?_;induction i with
 |zero=>show j
 |succ i f=>
  cases d:l[i+1]? with
  |some b=>
   let hi:=(aq.mp d).1;let h:=ay (show i<↑l by lia);show (go p q em i _ b h (f ▸ h) d).symm
  |none=>
   cases g:m[i+1]? with
   |none=>rfl
   |some b=>
    let hi:=(aq.mp g).1;let h:=ay (show i<↑m by lia);rw[go q p n i _ b h (f<*h) g] at d;cases d
def yo(s:Skn ts)(A:Co ts v){ps n:-Nat}(r:Rnd (En ts) v ps)(r':Rnd (En\ts.map mir) v n) :
  (Rc (En ts) v ps->∀k m,ps.reverse[k]?*>m->(∀x∈ps,m<=x)->n=ps.reverse.drop k++ps.reverse.take k)/\(∀L z,ps=L++[z]->Ro (En ts) v L z->n=ps.reverse):=by
 let#[k,s',d,tr,B]:=#[s.g.sk,xX s,s'.g.sk,(λ{p q}=>iX.trans #[λh=>k.rot h,λh=>k.rot\k.rot h]:∀{p q},En (ts.map mir) v p q↔En ts v q p),(m7 s.g).mpr A];erw[λh j m C hm=>?_,λL z e h=>?_]
 .rcases mm d (s'.o v B) r' with h' | ⟨D,E,_,h'⟩
  .refine Cyc.same (R:=En (ts.map mir) v) (x:=m) (λa b c h1 h2=>d.one h1 h2) (λa b c h1 h2=>d.inj h1 h2) h'.toCyc ?_ ?_ (sQ C)
   .have:=h.toCyc.rev.rot j;erw[#[this.ne,this.nd,λi p q h1 h2=>tr.mpr\this.ch i p q h1 h2],λp q h1 h2=>tr.mpr\this.back p q h1 h2]
   let#[x,H,I]:=h'.toPath.begin;let same:∀p,p∈n↔p∈ps:=λp=>by
    rw[h'.all,h.all];constructor
    .rintro⟨q,f⟩;let#[#[o,S,e],f,#[i,hi],#[w,hw,e']]:=#[h.toCyc.rev.step (by rw[j8];show (h.all q).mpr #[p,tr.mp f]),tr.mp f,cJ\(h.all q).mpr #[p,f],h.toCyc.step\aJ hi];rw[k.one f e'];show (h.all w).mp hw
    intro K;let#[o,_,e]:=h.toCyc.rev.step (p:=p) (by rw[j8];show (h.all p).mpr K);erw[o,tr.mpr e]
   let h1:=h'.least x H m\(same m).mpr (by have:=aJ C;rwa [j8] at this);let h2:=hm x\(same x).mp I;rw[H];congr 1;lia
  show ((h.rim k E).1\kE.mp (h'.rim d).1).elim
 rcases mm d (s'.o v B) r' with h' | ⟨D,E,rfl,h'⟩
 .exact ((h'.rim d z).1\kE.mpr (h.rim k).1).elim
 subst e;let#[s',M,N]:∃s',D[0]?*>s'/\ar (En ts) s' v:=by let u:=dI.mpr h'.ne;erw[_,ay u,kE.mp\(h'.rim d).2 _ (ay u)]
 let#[O,P,Q]:=#[kP k (s.o v A) N (h.rim k).1,dI.mpr h'.ne,dI.mpr h.ne];show Path.uniq (R:=En (ts.map mir) v) (λa b c h1 h2=>d.one h1 h2) h'.path #[∅,(nQ _).nodup_iff.mpr h.path.nd,λi p q h1 h2=>tr.mpr ?_] ?_ (λy l w hw=>?_) λy l w hw=>?_
 .let u:=(aq.mp h2).1;rw[jf] at u;rw[nM ()] at h1 h2;show h.path.ch (↑(L++[z])-1-(i+1)) q p h2 (by rw[show ↑(L++[z])-1-(i+1)+1=↑(L++[z])-1-i by lia];show h1)
 .rw[bY P,M,O];simp
 .rw[aE,ck,fB (),AJ,nY] at l;cases l;show h'.out w hw
 rw[jf,nM ∅,show ↑(L++[z])-1-(↑(L++[z])-1)=0 by lia,bY Q] at l;show h.first y l w\tr.mp hw
end
def Dy(l:-Nat)(a:Nat):fN (nV l) (gm (a:Int)) gf=nV (l.drop a):=by have:=pf (nV l) a;unfold nV at this |-;rw[LS];show this
def HF(l:-Nat)(a:Nat):fN (nV l) gf (gm (a:Int))=nV (l.take a):=by have:=zF (nV l) a;unfold nV at this |-;rw[AB];show this
def Kv(vs:-V)(H:Hp)(Q:VK)(a:gL)(l:-Nat):Prop:=vs=[.r a]/\H a*>.a (nV l)/\l≠[]/\l.Nodup/\↑l<=1001/\
 ∀r k m H',H r=gf->Same H H'->H' r*>.a (nV (l.drop k++l.take k))->l[k]?*>m->(∀x∈l,m<=x)->Q (.r r) H'
def spBL:Sp:=fm Kv
def FI(C:gL)(vs:-V)(H:Hp)(Q:VK)(x:gL)(ts:-Tri)(c:Nat)(a:gL)(ps:-Nat):Prop:=vs=[.r x,.i (c:Int),.r a]/\cY C H x ts/\Skn ts/\Co ts c/\H a*>.a (nV ps)/\Rnd (En ts) c ps/\
 ∀b H',Same H H'->(b=gn->Rc (En ts) c ps)->(b=gB->∃L z,ps=L++[z]/\Ro (En ts) c L z)->Q (.bl b) H'
def t9(C:gL):Sp:=jU\FI C
section
def scBL:aR ["_law_row",↑52] ["_law_row"] (aI ow):=.f
def KU{f:gL}(U:Fun K ↑18 ↑18 ow f fd)(u:mg "min" = gf):!aA CX0 1 f fd ["_law_row"] spBL:=by
 show U.ok scBL (!2) λ_ _ _ _ _ _ _ _ _ h=>?_
 let#[a,l,1,ha,ne,nd,S,q]:=h;erw[_,(af (sx 1 scBL.nd\cP c7 PySem.F.slot_list_index PySem.F.type_list_index Dc (pv 0) (pa1\cL (Bx rfl) (by rfl) u sJ (pa1\pv 0)))
  (aj\aK (ak fJ (jx jA (pv 0) (jD\pv 1) jE)\jx jA (pv 0) jE (jD\pv 1)))),?_]
 let T:=line5000;erw[2,.l #[1,_,SqL.of ha],2,a,l.map λn:Nat=>(n:Int),1,SqL.of (by rw[ha];simp[nV]),λz=>ne\uT.mp z,λm hm v=>?_];let#[#[m,x,1],#[k,b],X]:=#[ai.mp hm,cJ x,(aq.mp b).1];erw[a,l.map λn:Nat=>(n:Int),_,k,5,by rw[ha];simp[nV],by rw[aU,b];rfl,λi hi z=>?_,?_]
 .rw[aU] at z;let#[y,c,e]:=bQ.mp z;have:y=m:=();rw[this] at c;have:=eQ nd c b;lia
 erw[3,2,a,2,SqL.of ha,λB Y Z d g=>?_];rw[Dy] at g;erw[3,2,a,2,SqL.of (d>>ha),λC H5 g5 j o=>?_];rw[HF] at o;erw[B,C,6,j>>g,o,by rw[a_,a_,cQ,aZ];lia,λR D I L r=>?_];rw[eJ] at r;let st:=d<*j;show q R k m D (st.free I) (st<*L) r b λp M=>by have:=v (p:Int)\ai.mpr #[p,M,1];lia
def II:aR [↑2,↑3,↑56] [↑2,↑3,↑56] (aI qj):=.f
def Gz{f I M C:gL}{fd d1 d2:i4}(U:Fun K ↑63 ↑63 qj f fd)(X:SCls K C)(p:!gq C 1 "third" [↑86,"a","b"] (pq C) I d1)
  (N:!Use 5 ↑37 [↑36,"side"] (r_ C) M d2):!aA CX0 6 f fd [↑2,↑3,↑56] (t9 C):=by
 show U.ok II (!5) λ_ _ _ _ _ _ _ _ v h=>?_
 let#[x,ts,c,a,ps,1,sk,S,T,ha,r,q]:=h;let Y:=v.mono (⋯:1<=5);erw[_,(aj\aK (hX (fg ic (tQ (pv 0) X.cl p.m p.g Y p.b .nil pass0\ae (pv 1) (pa1\ixx bB (pv 2) (i6 iQ ag))) (ixx bB (pv 2) ag)\nomark _)\jJ (zj\uc N v (ae (pv 0)\pa1 (aT\ae (pv 1) (pa1\ixx bB (pv 2) ag)))))),?_];let#[k,#[dx,O,R,D,SS,Z],#[s0,d,_],hl]:=#[S.g.sk,sk.obj,r.path.begin,(aq.mp d).1];let#[z,i]:∃z,ps[↑ps-1]?*>z:=#[_,ay ()];erw[2,x,dx,2,Z,7,3,a,4,SqL.of ha,pU i,x,ts,c,z,1,sk,S.g,λH1 s1=>?_];rcases mm k (S.o c T) r with h|⟨L,y,e,h⟩
 .let l:=h.back z s0 i d;erw[λB u=>?_,λn=>(n s0 l).elim];rw[k.one u l];erw[2,a,4,SqL.of (s1>>ha),cF (j:=0)\fM d,1,?_];rw[Ol rfl];erw[2,bf #[3,2,a,4,SqL.of (s1>>ha),cF (j:=0)\fM d,lit2,λt H2 ht s2 y2=>?_]];erw[x,ts,t,c,s0,1,sk.sm\Sm.of (s1<*s2),S.g,y2,(h.all s0).mp\aJ d,λb H3 s3 hb=>?_];let eb:b=gB:=by
   cases b with
   |false=>rfl
   |true=>show ((h.rim k s0).1\hb.mp rfl).elim
  subst eb;erw[2,q gn H3 (s1<*s2<*s3) (λ_=>h) λz=>by cases z]
 let l:y=z:=by rw[e] at i;simpa using i
 subst l;erw[λB u=>(h.out B u).elim,λn=>?_];erw[2,a,4,SqL.of (s1>>ha),cF (j:=0)\fM d,1,?_];erw[2,aP ?_];show q gB H1 s1 (λz=>by cases z) λ_=>#[L,y,e,h]
end
def sS:∀(rim b:-Nat),(∀x∈rim,x∉b)->rim.Nodup->iV (b.map kb) (rim.map kb)=(b++rim).map kb
 | [],b,_,_=>by rw[fQ];rfl
 |x::rim,b,h,nd=>by
  let d:=h x aL;rw[bF] at nd;change iV (bV (b.map kb) (Sum.inl (x:Int))\V.bl gn) (rim.map kb)=_;rw[mV,Oi d,sS rim (b++[x]) (λy c z=>?_) nd.2,e8]
  .rfl
  rcases az.mp z with z|z
  .exact h y (aC _ c) z
  rw[aN.mp z] at c;show nd.1 c
def t5{b:-Nat}{c:Nat}:(bu (b.map kb) (Sum.inl (c:Int):Key)).isSome=decide (c∈b):=by
 rw[<-mq];induction b with
 |nil=>rfl
 |cons x b d=>
  rw[bj,nH,d];by_cases e:c=x
  .subst e;simp[kb]
  have:decide ((kb x).1=(Sum.inl (c:Int):Key))=gB:=Om λz=>e (zt.mp z).symm;rw[this];simp[e]
def lJ(H H':Hp)(T:gL)(v:V)(l:-Nat):Prop:=∃a,v=.r a/\H a=gf/\a≠T/\H' a*>.a\nV l
def FB(Cs:gL)(vs:-V)(H:Hp)(Q:VK)(x:gL)(ts:-Tri)(A:-gL):Prop:=vs=[.r x]/\SkA Cs H x ts A/\Good ts/\(∀c,Co ts c->One (En ts) c)/\↑ts<=200/\
 ∀T vs ls H',H T=gf->SmL A H H'->H' T*>.a vs->Paired (lJ H H' T) vs ls->Rims (ar\En ts) ls->↑ls<=600->(∀l∈ls,↑l<=600)->Q (.r T) H'
def kT(Cs:gL):Sp:=du\FB Cs
def tY{ls:List\-Nat}(h:∀l∈ls,l≠[]):↑ls<=ls.flatten.length:=by
 induction ls with
 |nil=>simp
 |cons l ls b=>
  let h1:=b λm hm=>h m\aC _ hm;let h2:0<↑l:=dI.mpr\h l aL;rw[j6,aE,br];lia
def Ht{ls:List\-Nat}{l:-Nat}(h:l∈ls):↑l<=ls.flatten.length:=by
 induction ls with
 |nil=>cases h
 |cons m ls b=>
  rw[j6,aE];rcases ah.mp h with rfl|h
  .lia
  have:=b h;lia
section
def kU:aR [↑36,↑69,"told","seen",↑84,"rim"] [↑36] (aI qE):=.f
def Gr{f f1 f2 Cs:gL}{fd d1 d2:i4}(U:Fun K "rims" "rims" qE f fd)(mS:mg ↑29 = gf)
  (GS:!Use 1 ↑72 [↑36] (vW Cs) f1 d1) (GW:!Use 1 "walked" [↑69,"begin"] rZ f2 d2) :
  !aA CX0 2 f fd [↑36] (kT Cs):=by
 show U.ok kU (!3) λ_ _ _ s H vs _ _ hr h=>?_
 let#[x,ts,A',1,sk,g,al,hl,q]:=h;let hu:=cG hr;let b2:=line5000;erw[_,af (sx 1 kU.nd\uc GS hr (pa1\pv 0))
  (af (sx 2 kU.nd\cz dP)
  (af (sx 3 kU.nd iJ)
  (af (cf bP rfl (bU\cL (vL rfl) (by rfl) mS fT (pa1\pv 1)) (gx 4 kU.nd)
   (aj (bO (eG\g6 hu (pv 4) (pv 3))
    (af (sx 5 kU.nd\uc GW hr (ae (pv 1)\pa1 (pv 4)))
    (af (c9\cP c7 eM eO dJ (pv 2) (pa1\pv 5))
    (aj\c9 (cP lY AU MB wB (pv 3)\pa1 (sR (N:=["each"]) (fr:=[gf]) (kB ⋯ rfl ⋯ ⋯) rfl (bU\pv 5)
     (λC s H fp Oo=>#[gx 0 (⋯:(["each"]:-Str).Nodup),dN,pv 0,d_])))))) bN)))
  (aj\aK (pv 2))))),?_]
 let#[b3,a5,bi]:=rX g al;let ri:=FU g al;let rl:↑(dB ts\ents ts)<=600:=by have:=xl ts\ents ts;rw[eR] at this;lia
 erw[2,x,ts,A',1,sk,g,al,hl,λD H1 b4 am hD=>?_];generalize b5:dB ts (ents ts)=l at hD ri rl;erw[⋯,λT H2 hT s2 y2=>?_];show λS H3 hS s3 y3=>?_;let a6:=s3>>s2>>hD;let an:=s3>>y2;erw[2,D,2,.l a6,True.intro,λks vs hk=>.l ?_];let ek:ks=(l.map (·.1) |>.map λn:Nat=>(n:Int)).map V.int:=by
  rcases hk with ⟨kvs,e,e2,_⟩|⟨kvs,as,e,_⟩
  .cases e;rw[e2,pT];simp[nV]
  cases e
 erw[_,ek,by rw[av,av];lia,λp ms B pm ps=>?_];let#[cs,1,a7,ap]:=mh ri.nd pm ps;rw[bG];walk_at"H3 p B H4 O y4";let y4:H4 p*>.a (nV cs):=y4;let lcs:↑cs=↑l:=by rw[ap.length_eq,av]
 let L:∀c,c∈cs↔∃q,ar (En ts) c q:=λc=>by rw[ap.mem_iff,ri.key]
 let a8:T≠S:=λz=>by rw[z,hS] at y2;cases y2
 let bl:T≠p:=λz=>by rw[z,B] at an;cases an
 let bm:S≠p:=λz=>by rw[z,B] at y3;cases y3
 erw[p,1,#[_,SqL.of y4],dM (K:=[]) (a:=p) (xs:=nV cs) (λi Z H'=>∃o4 o5 vs ls,Z=[gm\.r x,gm\.r D,gm\.r T,gm\.r S,o4,o5]/\(∀b o,b≠T->b≠S->H4 b*>o->H' b*>o)/\H' T*>.a vs/\Paired (lJ H H' T) vs ls/\H' S*>.k (ls.flatten.map kb)/\
   gj (ar\En ts) ls/\(∀c∈cs.take i,∃m∈ls,c∈m)/\(∀m∈ls,∀c,m[0]?*>c->c∈cs.take i))
  #[gf,gf,[],[],1,λb o _ _ e=>e,O>>an,.nil,O>>y3,gj.nil,∅,∅] (by rintro i Z H' _ ⟨_,_,_,_,_,e,_⟩;show SqL.of\e _ _ bl.symm bm.symm y4) ?_ ?_]
 .rintro i y Z H' hi ⟨o4,o5,aM,ls,rfl,kp,R,pr,X,v,M,ab⟩;rw[nV,aU] at hi;let#[c,I,1]:=bQ.mp hi;let a9:=(aq.mp I).1;let et:cs.take (i+1)=cs.take i++[c]:=by rw[bq,I];rfl
  let bn:ls.flatten.length<=600:=by have:=g7 v.nd (m:=cs) λz d=>(L z).mpr\v.in d;lia
  erw[3,S,2,DGet.k (k:=Sum.inl (c:Int)) X,?_];rw[t5];by_cases ad:c∈ls.flatten
  .refine#[gB,by rw[Ol ad];rfl,aP #[0,aM,ls,1,kp,R,pr,X,v,λz d=>?_,λm hm z d=>?_]]
   .rw[et] at d;rcases az.mp d with d|d
    .exact M z d
    rw[aN.mp d];let#[m,hm,h]:=cR.mp ad;erw[m,hm,h]
   rw[et];show bR _\ab m hm z d
  erw[gn,by rw[Om ad];rfl,bf ?_];let bt:c∈l.map (·.1):=ap.mem_iff.mp\aJ I;let bw:H' D*>.k (l.map nmV):=kp _ _ (ao hD hT) (ao (s2>>hD) hS) (O>>a6);erw[3,D,l,ar\En ts,c,1,.l bw,(),a5,ri,bt,λr ps H5 Y s5 y5 b6 path h0 en=>?_];let cyc:=JV bi path h0 ((L c).mp\aJ I) en;let bx:∀p,(∃q,ar (En ts) p q)->p<c->∃m∈ls,p∈m:=λp B b7=>by
   let#[j,u]:=dD.mp\(L p).mpr B;let a0:=(aq.mp u).1;show M p\dD.mpr #[j,?_];rw[gR,u];show L8 λhle=>?_;rcases L9 hle with h|h
   .have:=lQ.mp a7 i j a9 a0 h;rw[(aq.mp I).2,(aq.mp u).2] at this;lia
   subst h;rw[I] at u;cases u;lia
  let bA:∀m∈ls,∀z,m[0]?*>z->z<c:=λm hm z d=>by
   let#[j,u]:=dD.mp\ab m hm z d;let a0:=(aq.mp u).1;rw[aZ] at a0;rw[gR ()] at u;have:=lQ.mp a7 j i () a9 ();rw[(aq.mp I).2,(aq.mp u).2] at this;show this
  let#[bK,dj]:=v.step a5 cyc h0 (λm hm z=>ad\cR.mpr #[m,hm,z]) bx bA;let b8:↑ps<=600:=by have:=g7 path.nd (m:=cs) λz d=>(L z).mpr (by let#[q',_,h]:=cyc.step d;erw[q',h]);lia
  let bS:↑ls<=600:=by have:=tY λm hm=>(v.cyc m hm).ne;lia
  let bb:=s5>>R;let bd:=s5>>X;let rT:r≠T:=λz=>by rw[z,R] at Y;cases Y
  let rS:r≠S:=λz=>by rw[z,X] at Y;cases Y
  let b0:H r=gf:=by
   cases e:H r with
   |none=>rfl
   |some o=>
    exfalso;let a1:H1 r≠gf:=λz=>by have:=am.sm.free z;rw[e] at this;cases this
    let#[o',a1]:=Option.ne_none_iff_exists'.mp a1;have:=kp _ _ rT rS (O>>s3>>s2>>a1);rw[Y] at this;cases this
  erw[2,.l #[1,_,SqL.of bb],2,T,6,bb,by rw[aD pr];lia,λH6 k6 y6=>?_];let a2:H6 S*>.k (ls.flatten.map kb):=(k6 S a8.symm)<*bd;let be:H6 r*>.a (nV ps):=(k6 r rT)<*y5;erw[2,.o\.o (.l #[1,.l #[_,a2]]),2,r,1,#[_,SqL.of be],λD2 a3=>?_];show wc (K:=[]) (a:=r) (xs:=nV ps) (λi Z H'=>Same H6 H'/\H' D2*>.k ((ps.take i).map kb)/\∃o,Z=[o]) #[bT a3,aW,gf,1] (by rintro i Z H' _ ⟨e,_⟩;show SqL.of (e>>be)) ?_ ?_
  .rintro j y Z H7 u ⟨s7,y7,o,rfl⟩;rw[nV,aU] at u;let#[z,d,1]:=bQ.mp u;let bg:ps.take (j+1)=ps.take j++[z]:=by rw[bq,d];rfl
   let nz:z∉ps.take j:=λh=>by
    let nd:=path.nd;rw[<-di (j+1) ps,bg,aQ,aQ] at nd;show nd.1.2.2 z h z ∅ rfl
   erw[2,_,Sum.inl (z:Int),y7,1,by rw[av,aZ];lia,λb o' e=>?_,?_,2]
   .rw[aS\ao e a3];show s7 _ _ e
   rw[aW,mV,Oi nz,bg]
  rintro Z H7 ⟨s7,y7,o,rfl⟩;rw[a_,b_] at y7;let b1:=s7>>a2;erw[S,D2,6,(ao a2 a3),b1,.l y7,by rw[av,av];lia,?_];walk_at"H7 S H8 k8 y8";rw[sS ps _ dj path.nd] at y8;let a4:∀b o,b≠S->b≠T->H5 b*>o->H8 b*>o:=λb o n n' e=>by rw[k8 b n];show s7 _ _\(k6 b n').trans e
  erw[8,ls++[ps],1,λb o n1 n2 e=>a4 b o n2 n1 (s5>>(kp b o n1 n2 e)),(k8 T a8)<*(s7>>y6),?_,?_,bK,λz d=>?_,λm hm z d=>?_]
  .refine cW (Paired.imp' (by rintro _ _ ⟨a,e1,e2,e3,e4⟩;erw[a,e1,e2,e3,a4 a _ (bI (s5>>e4) bd (by intro z;cases z)) e3 (s5>>e4)]) pr)\.c #[r,1,b0,rT,a4 r _ rS rT y5] .nil
  .rw[y8,fS];simp
  .rw[et] at d;rcases az.mp d with d|d
   .let#[m,hm,h]:=M z d;erw[m,bR _ hm,h]
   rw[aN.mp d];erw[ps,∅,aJ h0]
  rw[et];rcases az.mp hm with hm|hm
  .exact bR _\ab m hm z d
  rw[aN.mp hm,h0] at d;cases d;simp
 rintro Z H' ⟨o4,o5,aM,ls,rfl,kp,R,pr,X,v,M,ab⟩;let ht:cs.take ↑(nV cs)=cs:=by rw[a_,b_]
 rw[ht] at M;let bn:ls.flatten.length<=600:=by have:=g7 v.nd (m:=cs) λz d=>(L z).mpr\v.in d;lia
 let bS:=tY λm hm=>(v.cyc m hm).ne;erw[2,q T aM ls H' (am.sm.free hT) (am.trans λb o e=>.l ?_) R pr (v.done λp B=>M p\(L p).mpr B) () λm hm=>by have:=Ht hm;lia];show kp b o (ao e hT) (ao (s2>>e) hS) (O>>s3>>s2>>e)
end
def cI(l:-Nat):-Int:=l.map λn:Nat=>(n:Int)
def uJ(l:-Nat):(cI l).map V.int=nV l:=by unfold cI nV;rw[bG];rfl
def xy{K:W.Frag}:∀{vs:-V}{ls:List\-Nat},dA H vs ls->Lsts K H vs (ls.map cI)
 |_,_,.nil=>.nil
 |_,_,.cons ⟨a,b,c⟩ t=>.c #[a,b,by rw[uJ];show c]\xy (K:=K) t
def Dh{l m:-Nat}{x y:Nat}(h1:l[0]?*>x)(h2:m[0]?*>y)(h:x<y):HT.lexLt (cI l) (cI m)=gn:=by
 cases l with
 |nil=>cases h1
 |cons a l=>cases m with
  |nil=>cases h2
  |cons b m=>
   cases h1;cases h2;change HT.lexLt ((x:Int)::cI l) ((y:Int)::cI m)=gn;rw[HT.lexLt_cons,Oi (),Ol ()]
def inD(l:-Int):-PyData:=l.map PyData.int
def lF:∀l:-Int,Dts K H (l.map V.int) (inD l)
 | []=>.nil
 |a::l=>.c (.i a)\lF l
def qN:∀l:-Int,PyData.depthAll (inD l)<=1
 | []=>by simp[inD,PyData.depthAll]
 |a::l=>by
  have:=qN l;unfold inD at this |-;simp only[bj,PyData.depthAll,PyData.depth];lia
def uj(l:-Int):eS (inD l)=gn:=by
 induction l with
 |nil=>rfl
 |cons a l b=>change (jV _&&eS (inD l))=gn;rw[b];rfl
def tW{u v:V}{d:nc}{neg:Bool}{Q:VK}(h1:Dt [] H u d)(h2:Dt [] H v d)(nb:jV d=gn)(hd:d.depth<=60)(q:Q (.bl (!neg)) H):lG [] neg u v H Q:=by erw[d,d,h1,h2,hd,?_];rw[(yw _ _ nb nb).mpr rfl];cases neg<;>show q
def jF{a b:gL}{l:-Int}{neg:Bool}{Q:VK}(h1:H a*>.u\l.map V.int)(h2:H b*>.u\l.map V.int)(q:Q (.bl (!neg)) H):lG [] neg (.r a) (.r b) H Q:=
 tW (d:=.tuple\inD l) (.u (SqT.of h1)\lF l) (.u (SqT.of h2)\lF l) (uj l) (by have:=qN l;simp only[PyData.depth];lia) q
def Hy{a b:gL}{l:-Nat}{neg:Bool}{Q:VK}(h1:H a*>.a\nV l)(h2:H b*>.a\nV l)(q:Q (.bl (!neg)) H):lG [] neg (.r a) (.r b) H Q:=by rw[<-uJ] at h1 h2;show tW (d:=.list\inD (cI l)) (.a (SqL.of h1)\lF _) (.a (SqL.of h2)\lF _) (uj _) (by have:=qN\cI l;simp only[PyData.depth];lia) q
def lsD(ls:List\-Nat):-PyData:=ls.map λl=>PyData.list\inD (cI l)
def qz{a b:gL}{f g:-V}{ls:List\-Nat}{neg:Bool}{Q:VK}(h1:H a*>.a f)(p1:dA H f ls)(h2:H b*>.a g)(p2:dA H g ls)(q:Q (.bl (!neg)) H):lG [] neg (.r a) (.r b) H Q:=by
 let dts:∀{vs:-V}{ls:List\-Nat},dA H vs ls->Dts [] H vs (lsD ls):=λh=>by
  induction h with
  |nil=>show .nil
  |cons q _ c=>
   let#[a,1,e]:=q;rw[<-uJ] at e;show .c (.a (SqL.of e)\lF _) c
 let dep:PyData.depthAll (lsD ls)<=2:=by
  clear p1 p2;induction ls with
  |nil=>simp[lsD,PyData.depthAll]
  |cons a l c=>
   have:=qN\cI a;unfold lsD at c |-;simp only[bj,PyData.depthAll,PyData.depth];lia
 let nb:eS (lsD ls)=gn:=by
  clear p1 p2 dep;induction ls with
  |nil=>rfl
  |cons a l c=>change (eS (inD\cI a)&&eS (lsD l))=gn;rw[c,uj];rfl
 show tW (d:=.list\lsD ls) (.a (SqL.of h1)\dts p1) (.a (SqL.of h2)\dts p2) nb (by simp only[PyData.depth];lia) q
def xG{R:Nat->Nat->Prop}{l:-Nat}(h:Cyc R l){k c:Nat}(b:l[k]?*>c):∃p:Nat,atI (nV l) ((k:Int)-1)*>V.int (p:Int)/\R p c:=by
 let d:=(aq.mp b).1;cases k with
 |zero=>
  let e:=ay (show ↑l-1<↑l by lia);erw[_,pU e,h.back _ c e b]
 |succ k=>
  let e:=ay (show k<↑l by lia);erw[_,by rw[show (((k+1:Nat):Int)-1)=(k:Int) by lia];show cF\fM e,h.ch k _ c e b]
def E_{R:Nat->Nat->Prop}{l:-Nat}(h:Cyc R l){k c:Nat}(f:l[k]?*>c):∃b:Nat,atI (nV l) (((k:Int)+1)%(↑(nV l):Int))*>V.int (b:Int)/\R c b:=by
 let g:=(aq.mp f).1;rw[a_];by_cases e:k+1<↑l
 .let d:=ay e;erw[_,?_,h.ch k c _ f d];rw[show ((k:Int)+1)%(↑l:Int)=((k+1:Nat):Int) by rw[show (k:Int)+1=((k+1:Nat):Int) by lia];show Int.emod_eq_of_lt () ()];show cF\fM d
 let d:=ay (show 0<↑l by lia);erw[_,?_,h.back c _ (by rw[show ↑l-1=k by lia];show f) d];rw[show ((k:Int)+1)%(↑l:Int)=((0:Nat):Int) by rw[show (k:Int)+1=(↑l:Int) by lia,Int.emod_self];rfl];show cF\fM d
def Af(ts:-Tri)(H:Hp)(z:Nat×gL):Prop:=∃b p:Nat,H z.2*>sdT b p/\ar (En ts) z.1 b/\ar (En ts) p z.1
def zc{C x D:gL}{ts:-Tri}{A:-gL}(sk:SkA C H x ts A)(g:D∉A)(h:∀b o,b≠D->H b*>o->H' b*>o)(i:∃u,H D*>.k u):SkA C H' x ts A:=by
 let#[#[dx,O,R,c,d,j,cs,L,s,1],#[u,l],ne]:=#[sk,i,(λ{b o} n e=>h b o (λz=>n (by rw[z,l] at e;cases e;show True.intro)) e:∀{b:gL}{o:HO},¬dh o->H b*>o->H' b*>o)];let rd:∀{b:gL}{o:HO},b∈c::d::L.map (·.2)->Rd H b o->Rd H' b o:=λ{b o} m r=>by
  let n:b≠D:=λz=>g (z ▸ m);show r.imp (h b _ n) λ⟨ob,e⟩=>#[ob,h b _ n e]
 erw[dx,O,R,c,d,j,cs,L,#[ne (λz=>z) s.ob,ne (λz=>z) s.od,s.ol,ne (λz=>z) s.ri,s.up,s.co,s.cl,rd ∅ s.th,rd ∅ s.st,s.nk,s.ky,λz f=>rd (by simp only[ah,ai];show .o\.o #[z,f,1])\s.ab z f],1]
def FH(C:gL)(vs:-V)(H:Hp)(Q:VK)(x T:gL)(b:-V)(ts:-Tri)(A:-gL):Prop:=vs=[.r x,.r T]/\SkA C H x ts A/\Skn ts/\↑ts<=200/\H T*>.a b/\ax H b ts/\∀d H',Sm H H'->Q (.r d) H'
def zb(C:gL):Sp:=jU\FH C
section
def hV:aR [↑2,↑0,"_law_ends_here",↑67,↑45,↑3,↑79,↑56] [↑2,↑0] (aI qi):=.f
def Gy{f f1 f2 f3 f4 f5 C:gL}{fd d1 d2 d3 d4 d5:i4}(U:Fun K ↑81 ↑81 qi f fd)(T:bW mg)(bA:mg ↑31 = gf)(X:SCls K C)(GS:!Use 2 "rims" [↑36] (kT C) f1 d1)
  (GR:!Use 5 ↑37 [↑36,"side"] (r_ C) f2 d2) (MC:!gq C 1 ↑74 [↑86] (ma C) f3 d3) (GO:!Use 4 ↑82 [↑36,↑84] (tE C) f4 d4)
  (GA:!Use 6 ↑63 [↑2,↑3,↑56] (t9 C) f5 d5):!aA CX0 7 f fd [↑2,↑0] (zb C):=by
 show U.ok hV (!5) λ_ A _ _ H vs _ _ hr h=>?_
 let#[x,T0,vt,ts,A',1,sk,S,hl,hT,ht,q]:=h;let hu:=cG hr;let bK:=hr.mono (⋯:1<=6);let bS:=hr.mono (⋯:2<=6);let b2:=hr.mono (⋯:4<=6);let b3:=hr.mono (⋯:5<=6);erw[_,(af (sx 2 hV.nd iJ)
  (af (cf bP rfl (bU\uc GS bS (pa1\pv 0)) (gx 3 hV.nd)
   (aj (cf bP rfl (kQ rfl bA\pa1 (pv 3)) (cu rfl\aG (gx 4 hV.nd) (aG (gx 5 hV.nd) cq))
   (af (bO (PW.pt\gk (eG\mY hu (pv 5) (pv 2)) (gH\eU (dO\uc GR b3 (ae (pv 0)\pa1 (aT\ae (ixx bB (pv 3)\ak fh (pv 4) ag) (pa1\pv 5)))))) (aj\aK qr) bN)
  (aj\gF hu (pv 2) (pv 5) (aT\ae (ixx bB (pv 3)\ak dR (ak bo (pv 4) ag) (pln T.len\pv 3)) (pa1\ixx bB (pv 3) (ak fh (pv 4) ag))) rfl)))))
  (af (sx 6 hV.nd ag)
  (af (cf bP rfl (bU\mz (pv 0) X.cl MC.m MC.g bK MC.b .nil pass0) (gx 5 hV.nd)
   (af (sx 7 hV.nd\uc GO b2 (ae (pv 0)\pa1 (pv 5)))
  (af (sx 6 hV.nd\ak bo (pv 6) (pln T.len\pv 7))
  (af (bO (PW.pt\iS (eG\mY hu (pv 5) (pv 2)) (iN\bH (h_ hr.units) (aT\ae (ixx bB (pv 7) ag) (pa1\ixx bB (pv 7) (i6 iQ ag))) (f_ hu (pv 2) (pv 5) λ_ _=>rfl) (nomark _))) (aj\aK qr) bN)
  (aj\bO (PW.pt\iS (eG\g6 hu (pv 5) (pv 2)) (iN\eU (dO\uc GA hr (ae (pv 0)\ae (pv 5) (pa1\pv 7))))) (aj\aK qr) bN)))))
  (af (bO (bH jQ (pv 6) (ak bo (ak dQ ag\pln T.len (pv 1))\cL sI (by rfl) T.len vk (pa1\pv 2))\nomark _) (aj\aK qr) bN)
  (aj\aK (pv 2))))))),?_]
 let c2:=line5000;let k:=S.g.sk;show λD H1 hD s1 y1=>?_;let ad:D∉A':=sk.dom hD;erw[2,x,ts,A',1,sk.sm\Sm.of s1,S.g,S.o,hl,λR vs rl H2 hR ap yR pr rims c3 c4=>?_];let#[aM,b4,bg,b5,b6,nd]:=#[(ap.new ad y1:H2 D*>.k (([]:-(Nat×gL)).map stV)),(ap.sm.keep (s1>>hT) (λz=>z):H2 T0*>.a vt),((sk.sm\Sm.of s1).sm ap.sm:SkA C H2 x ts A'),((SmL.of s1)<*ap:SmL A' H H2),((ao y1 hR).symm:R≠D),iI (rim_steps S).2 rims];let c5:rl.flatten.length<=600:=by have:=pN S.g S.o rims nd;lia
 let#[b7,b8]:=rim_steps S;erw[R,1,#[_,SqL.of yR],dM (K:=[]) (a:=R) (xs:=vs) (λi Z H'=>∃o3 I M dl,Z=[gm\.r x,gm\.r T0,gm\.r D,o3,I,M,gf,gf]/\But D H2 H'/\H' D*>.k (dl.map stV)/\dl.map (·.1)=(rl.take i).flatten/\∀z∈dl,Af ts H' z)
  #[gf,gf,gf,[],1,But.refl,aM,1,∅] (by rintro i Z H' _ ⟨_,_,_,_,_,d,_⟩;show SqL.of\d _ _ b6 yR) ?_ ?_]
 .rintro i v Z H3 hi ⟨o3,I,M,dl,rfl,d,a6,Y,ea⟩;let#[l,a0,a,1,c6,c8,al]:=cD pr hi;let a8:a≠D:=λz=>by rw[z,aM] at al;cases al
  let#[b9,ca,cyc]:=#[d _ _ a8 al,aJ a0,rims.cyc l ca];let off:∀c k',l[k']?*>c->c∉(rl.take i).flatten++l.take k':=λc k' B z=>by
   let et:rl.take (i+1)=rl.take i++[l]:=by rw[bq,a0];rfl
   let n1:=nd;rw[<-di (i+1) rl,fS,aQ,et,fS,nK,aQ] at n1;rcases az.mp z with z|z
   .exact n1.1.2.2 c z c (aJ B) rfl
   let#[j,hj]:=cJ z;let cb:=(aq.mp hj).1;rw[aZ] at cb;rw[gR ()] at hj;have:=eQ cyc.nd hj B;lia
  erw[2,a,2,SqL.of b9,kJ (K:=[]) (a:=a) (xs:=nV l) (λj Z H'=>∃I M dl,Z=[gm\.r x,gm\.r T0,gm\.r D,gm\.r a,I,M,gf,gf]/\But D H2 H'/\H' D*>.k (dl.map stV)/\dl.map (·.1)=(rl.take i).flatten++l.take j/\∀z∈dl,Af ts H' z)
   #[I,M,dl,1,d,a6,by rw[Y];simp,ea] (by rintro j Z H' _ ⟨_,_,_,_,d,_⟩;show SqL.of\d _ _ a8 al) ?_ ?_]
  .rintro j y t Z H4 hj ⟨I,M,dl,rfl,d,ab,Y,ea⟩ cc;rw[nV,aU] at hj;let#[c,B,1]:=bQ.mp hj;walk_at"H4 t cc H5 s5 y5";erw[t,2,SqT.of y5,1,9,6,?_];let am:=s5>>ab;let bi:c∉dl.map (·.1):=by rw[Y];show off c j B
   let#[#[p0,bl,rp],#[b0,cd,rb],a5]:=#[xG cyc B,E_ cyc B,(s5>>(d _ _ a8 al):H5 a*>.a (nV l))];erw[3,D,2,DGet.k (k:=Sum.inl (c:Int)) am,?_];rw[mT bi];erw[gB,1,aP #[3,2,6,a,4,SqL.of a5,bl,2,lit2,λt2 H6 da s6 y6=>?_]];let bm:∀b o,b≠D->H2 b*>o->H6 b*>o:=λb o n e=>s6>>(s5>>(d b o n e));let a9:cY C H6 x ts:=(zc bg ad bm #[_,aM]).at;erw[x,ts,t2,p0,c,1,a9,S.g,y6,rp.1,λbb H7 N ce=>?_];let cg:bb=gn:=ce.mpr rp;subst cg;erw[2,ik ?_];let a7:=N>>s6>>a5;let db:0<↑(nV l):=by rw[a_];have:=(aq.mp B).1;lia
   erw[3,6,2,a,2,.l\SqL.of a7,6,(),a,4,SqL.of a7,cd,?_];erw[3,6,a,4,SqL.of a7,bl,lit2,λt3 H8 ch s8 y8=>?_];let ci:=s8>>N>>s6>>am;let bn:↑dl<=600:=by
    let h1:↑(dl.map (·.1))=↑((rl.take i).flatten++l.take j):=by rw[Y]
    let h2:=congrArg List.length\congrArg List.flatten (di (i+1) rl);rw[bq,a0] at h2;rw[av,aE,aZ] at h1;simp only[fS,aE,Option.toList_some,nK] at h2;lia
   erw[3,D,2,DPut.k (k:=Sum.inl (c:Int)) ci (by rw[av];lia),?_];let cj:bV (dl.map stV) (Sum.inl (c:Int):Key) (V.ref t3)=(dl++[(c,t3)]).map stV:=by rw[my _\mT bi,bc];rfl
   rw[cj];walk_at"H8 D H9 k9 y9";let cn:t3≠D:=(ao (N>>s6>>am) ch).symm;erw[0,dl++[(c,t3)],1,λb o n e=>(k9 b n)<*(s8>>(N>>(bm b o n e))),y9,?_,λz hz=>?_]
   .rw[bc,Y,bq,B,e8];rfl
   rcases az.mp hz with hz|hz
   .let#[b1,p1,u,e2,e3]:=ea z hz;erw[b1,p1,(k9 _\bI u ab (by intro z;cases z))<*(s8>>N>>s6>>s5>>u),e2,e3]
   rw[aN.mp hz];erw[b0,p0,(k9 _ cn)<*y8,rb,rp]
  rintro Z H4 ⟨I,M,dl,rfl,d,ab,Y,ea⟩;erw[8,dl,1,d,ab,?_,ea];rw[Y,a_,b_,bq,a0,fS];simp
 rintro Z H3 ⟨o3,I,M,dl,rfl,d,a6,Y,ea⟩;rw[show ↑vs=↑rl from aD pr,b_] at Y;let bd:=zc bg ad d #[_,aM];let cr:∀b o,H b*>o->H3 b*>o\/dh o/\∃ob,H3 b*>.z ob o:=λb o e=>by
  let n:=ao e hD;rcases b5 b o e with u|⟨h1,_,ob,u⟩
  .exact .l\d _ _ n u
  show .o #[h1,ob,d _ _ n u]
 let#[dx,O,RR,DD,SS,vo,dc,L0,ct,_]:=id bd;erw[2,x,dx,2,ct.ob,1,x,ts,1,bd.at,λp cs H4 hp s4 y4 up bw lcs=>?_];let ab:=s4>>a6;let bx:=bd.sm\Sm.of s4;let cv:∀c,c∈dl.map (·.1)↔∃b,ar (En ts) c b:=λc=>by
  rw[Y,cR];erw[λ⟨l,hl,B⟩=>by let#[b,_,h]:=(rims.cyc l hl).step B;erw[b,h],λh=>rims.all c h]
 erw[p,1,#[_,SqL.of y4],dM (K:=[]) (a:=p) (xs:=nV cs) (λi Z H'=>∃o3 I M o7,Z=[gm\.r x,gm\.r T0,gm\.r D,o3,I,M,gm\.i ((((cs.take i).map\deg ts rl).sum:Nat):Int),o7]/\SmL A' H4 H')
  #[8,gf,1,SmL.of\Same.refl _] (by rintro i Z H' _ ⟨_,_,_,_,_,sm⟩;show SqL.of\sm.sm.keep y4 λz=>z) ?_ ?_]
 .rintro i v Z H5 hi ⟨o3,I,M,o7,rfl,sm⟩;rw[nV,aU] at hi;let#[c,B,1]:=bQ.mp hi;let a1:Co ts c:=(bw c).mp\aJ B;erw[3,x,ts,A',c,1,bx.sm sm.sm,S.g,hl,a1,λr ps H6 dd cw y6 dj a2=>?_];let#[an,a3,a9]:=#[sm<*cw,an.new ad ab,bx.sm an.sm];erw[3,r,2,.l\SqL.of y6,6,?_];let et:cs.take (i+1)=cs.take i++[c]:=by rw[bq,B];rfl
  let many:((((cs.take i).map\deg ts rl).sum:Nat):Int)+(↑(nV ps):Int)=((((cs.take (i+1)).map\deg ts rl).sum:Nat):Int):=by rw[et,bc,List.sum_append,a_,HD S rims a1 a2];change _=((_+(deg ts rl c+0):Nat):Int);lia
  dsimp only [nh,cE];rw[many];let#[s0,h0,_]:=a2.path.begin;let#[z,hz]:∃z,ps[↑ps-1]?*>z:=#[_,ay (by have:=(aq.mp h0).1;lia)];erw[3,D,2,DGet.k (k:=Sum.inl (c:Int)) a3,?_];by_cases a4:c∈dl.map (·.1)
  .let#[tt,cx,be]:=jI a4;rw[be];erw[gn,1,bf ?_];let#[b0,p0,u,e2,e3]:=ea _ cx;let u:H6 tt*>sdT b0 p0:=an.sm.keep (s4>>u) (λz=>z);erw[2,r,4,SqL.of y6,cF (j:=0)\fM h0,3,r,4,SqL.of y6,pU hz,lit2,λt H7 ht N y7=>?_];erw[3,D,V.ref tt,1,be ▸ DGet.k (k:=Sum.inl (c:Int)) (N>>a3),?_];let e7:=N>>u;let#[es,ez]:s0=b0/\z=p0:=by
    rcases mm k (S.o c a1) a2 with h|⟨L,z',e,h⟩
    .exact ((h.rim k b0).1 e2).elim
    let ez:z'=z:=by rw[e] at hz;simpa using hz
    subst ez;erw[b7 _ _ _ ((h.rim k).2 s0 ?_) e2,b8 _ _ _ (h.rim k).1 e3];rw[e,bY\dI.mpr h.ne] at h0;show h0
   subst es ez;show jF (l:=[(s0:Int),(z:Int)]) y7 e7 #[2,aP ?_];erw[3,D,2,DGet.k (k:=Sum.inl (c:Int)) (N>>a3),?_];rw[be];erw[gB,1,aP #[8,2,an.trans\SmL.of N]]
  rw[mT a4];erw[gB,1,aP ?_];erw[3,D,2,DGet.k (k:=Sum.inl (c:Int)) a3,?_];rw[mT a4];erw[gn,1,bf #[3,2,x,ts,c,r,ps,1,a9.at,S,a1,y6,a2,λb H7 N dk cZ=>?_]];let eb:b=gn:=by
   cases b with
   |true=>rfl
   |false=>
    let#[L,z',_,h]:=cZ rfl;let hL:=dI.mpr h.ne;show (a4\(cv c).mpr #[_,(h.rim k).2 _\ay hL]).elim
  subst eb;erw[gn,1,ik #[8,2,an.trans\SmL.of N]]
 rintro Z H5 ⟨o3,I,M,o7,rfl,sm⟩;rw[a_,b_,HC S.g (up.imp λh=>bz h) bw rims];let#[am,c0,c1]:=#[sm.new ad ab,(sm.sm.keep (s4>>(d _ _ (ao hT hD) b4)) (λz=>z):H5 T0*>.a vt),aD ht];let bn:(↑(dl.map stV):Int)=(rl.flatten.length:Nat):=by rw[av,<-Y,av]
 erw[3,T0,2,.l\SqL.of c0,6,.l #[⋯,⋯],2,D,2,am,6,7,?_];rw[bn,c1];change if (!decide (V.int _=V.int _))=gn then _ else _
 rw[jY,Ol ()];show aP #[2,q D H5 λb o e=>?_];rcases cr b o e with u|⟨h1,ob,u⟩
 .exact ((SmL.of (A:=A') s4)<*sm).sm _ _ u
 rcases sm.sm _ _ (s4>>u) with e2|⟨h2,_⟩
 .exact .o #[h1,ob,e2]
 show h2.elim
end
section
variable {ts us:-Tri}{rl rm ls lm:List (-Nat)}
def Skn.co1(s:Skn ts){a b c:Nat}(h:En ts a b c):Co ts a/\Co ts b/\Co ts c:=#[#[0,h],#[0,s.g.sk.rot h],#[0,s.g.sk.rot\s.g.sk.rot h]]
def k_{c:Nat}:Co (ts++us) c↔Co ts c\/Co us c:=
 #[λ⟨p,q,h⟩=>(cX.mp h).imp (λh=>#[p,q,h]) λh=>#[p,q,h],λh=>h.elim (λ⟨p,q,h⟩=>#[p,q,cX.mpr\.l h]) λ⟨p,q,h⟩=>#[p,q,cX.mpr\.o h]]
def oZ{v:Nat}(o:One (En ts) v)(h:∀p q,En us v p q↔En ts v p q):One (En us) v:=by let#[F,b,c,d,e]:=jK o;show fK b c (eT (λp q _ r=>(h p q).mpr r) d) λp=>(e p).trans #[λ⟨q,z⟩=>#[q,(h p q).mpr z],λ⟨q,z⟩=>#[q,(h p q).mp z]]
def xW(s:Skn ts)(s':Skn us)(b:∀c,Co ts c->¬Co us c):Skn (ts++us):=by
 erw[#[λt f=>(az.mp f).elim (s.g.ne t)\s'.g.ne t,?_],λc i=>?_]
 .unfold ents;rw[gQ,bc,aQ];erw[s.g.nd,s'.g.nd,λd hd e he z=>?_];subst z;let#[q,j]:=cm.mp (show (d.1,d.2)∈keys ts from hd);let#[r,l]:=cm.mp (show (d.1,d.2)∈keys us from he);show b _ #[0,j] #[0,l]
 by_cases h:Co ts c
 .exact oZ (s.o c h) λp q=>cX<*(or_iff_left λz=>b c h #[p,q,z])
 show oZ (s'.o c\(k_.mp i).resolve_left h) λp q=>cX<*(or_iff_right λz=>h #[p,q,z])
def Ea(s:Skn ts)(s':Skn us)(e:∀c,Co ts c->¬Co us c){a b:Nat}:ar (En (ts++us)) a b↔ar (En ts) a b\/ar (En us) a b:=by
 unfold ar;simp only[cX];constructor
 .rintro⟨⟨q,h|h⟩,n⟩
  .exact .l #[#[q,h],λ⟨r,d⟩=>n #[r,.l d]]
  show .o #[#[q,h],λ⟨r,d⟩=>n #[r,.o d]]
 rintro (⟨⟨q,h⟩,n⟩|⟨⟨q,h⟩,n⟩)
 .exact#[#[q,.l h],λ⟨r,d⟩=>d.elim (λd=>n #[r,d]) λd=>e a (s.co1 h).1 (s'.co1 d).2.1]
 erw[#[q,.o h],λ⟨r,d⟩=>d.elim (λd=>e a (s.co1 d).2.1 (s'.co1 h).1) λd=>n #[r,d]]
def wK(h:∀a b c,En ts a b c->En us a b c){a b:Nat}(c:Conn ts a b):Conn us a b:=iK id (λa b c e=>Conn.of\h a b c e) c
def wJ(s:Skn ts)(h:∀a b c,En us a b c->En ts a b c\/¬Co ts a/\¬Co ts b){a b:Nat}(ha:Co ts a)(c:Conn us a b):Conn ts a b:=
 c (Conn ts a) (λx y z e=>(h x y z e).elim (λe=>#[λk=>k.trans\.of e,λk=>k.trans (Conn.of e).symm]) λ⟨d,f⟩=>#[λk=>(d\k.co s.g ha).elim,λk=>(f\k.co s.g ha).elim]) (Conn.refl a)
def Gf(s:Skn ts)(s':Skn us)(f:∀c,Co ts c->¬Co us c)(p:Pcs ts ls)(p':Pcs us lm){l:-Nat}(d:l∈ls++lm):l.Pairwise (· < ·)/\∃a,l[0]?*>a/\Co (ts++us) a/\∀x,x∈l↔Conn (ts++us) a x:=by
 rcases az.mp d with d|d
 .let#[a,g,ha,h]:=p.co l d;erw[p.up l d,a,g,k_.mpr\.l ha,λx=>(h x).trans #[wK λa b c e=>cX.mpr\.l e,wJ s (λa b c e=>(cX.mp e).imp_right λe=>?_) ha]];erw[λz=>f _ z (s'.co1 e).1,λz=>f _ z (s'.co1 e).2.1]
 let#[a,g,ha,h]:=p'.co l d;erw[p'.up l d,a,g,k_.mpr\.o ha,λx=>(h x).trans #[wK λa b c e=>cX.mpr\.o e,wJ s' (λa b c e=>(cX.mp e).symm.imp_right λe=>?_) ha]];erw[λz=>f _ (s.co1 e).1 z,λz=>f _ (s.co1 e).2.1 z]
def JL(s:Skn ts)(b:Rims (ar\En ts) rl){C:-Nat}(c:C.Nodup)(hC:∀x,x∈C↔Co ts x)(p:Pcs ts ls)(al:ft ts ls) :
  ∃k:Int,2*(↑ls:Int)-↑rl-↑C+↑((keys ts).filter λd=>decide (d.1<d.2)||!decide ((d.2,d.1)∈keys ts))-↑ts=2*k:=by
 let#[k,e]:=Du s.g s.o b c hC p al;have:=xx s.g;erw[k,()]
end
section
variable {ts us vs:-Tri}
def Ret.trans{f g:Nat->Nat}(r:Ret ts us f)(r':Ret us vs g):Ret ts vs (λc=>f\g c):=
 #[λa b c h=>iK id r'.up\r.up a b c h,λc h=>r'.in1 c\r.in1 c h,λa b c h=>iK f r.dn\r'.dn a b c h,λc h=>r.in2 _\r'.in2 c h,λc h=>by rw[r'.id1 c\r.in1 c h,r.id1 c h],
  λc h=>(r'.cn c h).trans\iK id r'.up (r.cn _\r'.in2 c h)]
def Ret.refl(ts:-Tri):Ret ts ts id:=#[λ_ _ _ h=>.of h,λ_ h=>h,λ_ _ _ h=>.of h,λ_ h=>h,λ_ _=>rfl,λc _=>.refl c]
def Sd(ts:-Tri)(p q:Nat):Prop:=∃r,En ts p q r
def jR(h:(ents us).Perm\ents ts){a b c:Nat}:En us a b c↔En ts a b c:=h.mem_iff
def nq(h:(ents us).Perm\ents ts){c:Nat}:Co us c↔Co ts c:=#[λ⟨p,q,e⟩=>#[p,q,(jR h).mp e],λ⟨p,q,e⟩=>#[p,q,(jR h).mpr e]]
def yp(h:(ents us).Perm\ents ts){a b:Nat}:ar (En us) a b↔ar (En ts) a b:=by unfold ar;simp only[jR h]
def zf(h:(ents us).Perm\ents ts):Ret us ts id:=#[λ_ _ _ e=>.of\(jR h).mp e,λ_ e=>(nq h).mp e,λ_ _ _ e=>.of\(jR h).mpr e,λ_ e=>(nq h).mpr e,λ_ _=>rfl,λc _=>.refl c]
def xE{x m:Nat}{K:Nat->Prop}(C:Nat->Nat->Prop)(s:Skn ts)(j:¬Co ts x)(s':Skn us)(d:∀p,K p->Co ts p)(g:∀p q,K p->K q->Conn ts p q)(hm:K m)
  (hC:∀p q,C p q->K p/\K q) (f:∀p q,Sd us p q↔Sd ts p q\/C p q\/p=x/\K q\/q=x/\K p):(∀c,Co us c↔Co ts c\/c=x)/\Ret ts us λc=>if c=x then m else c:=by
 let i:∀c,Co us c↔Co ts c\/c=x:=λc=>by
  constructor
  .rintro⟨p,q,h⟩;rcases (f c p).mp #[q,h] with ⟨r,h⟩|h|⟨h,_⟩|⟨_,h⟩
   .exact .l #[0,h]
   .exact .l\d _ (hC>>h).1
   .exact .o h
   show .l\d _ h
  rintro (⟨p,q,h⟩|rfl)
  .let#[r,h]:=(f c p).mpr\.l #[q,h];erw[0,h]
  let#[r,h]:=(f c m).mpr\.o (.o\.l #[1,hm]);erw[0,h]
 let nx:∀{c},Co ts c->c≠x:=λh z=>j (z ▸ h);let hf:∀{c},Co ts c->(if c=x then m else c)=c:=λh=>Oi\nx h;let l:∀{a b c},En ts a b c->Conn us a b:=λ{a b c} h=>by
  let#[r,h]:=(f a b).mpr\.l #[c,h];show .of h
 erw[i,λa b c h=>l h,λc h=>(i c).mpr\.l h,λa b c h=>?_,λc h=>?_,λc h=>hf h,λc h=>?_]
 .rcases (f a b).mp #[c,h] with ⟨r,h⟩|h|⟨rfl,h⟩|⟨rfl,h⟩
  .rw[hf (s.co1 h).1,hf (s.co1 h).2.1];show .of h
  .let#[h1,h2]:=hC>>h;rw[hf\d _ h1,hf\d _ h2];show g _ _ h1 h2
  .rw[Oj rfl,hf\d b h];show g _ _ hm h
  rw[Oj rfl,hf\d a h];show g _ _ h hm
 .by_cases e:c=x
  .rw[Oj e];show d m hm
  rw[Oi e];show ((i c).mp h).resolve_right e
 by_cases e:c=x
 .subst e;rw[Oj rfl];let#[r,h]:=(f c m).mpr\.o (.o\.l #[1,hm]);show .of h
 rw[Oi e];show .refl c
def Jb{A:-Tri}{a b c n:Nat}(pm:(ents ts).Perm\ents (A++[(a,b,c)]))(s:Skn ts)(v:¬Co ts n) :
  Skn (A++[(a,b,n),(b,c,n),(c,a,n)])/\(∀p q,ar (En (A++[(a,b,n),(b,c,n),(c,a,n)])) p q↔ar (En ts) p q)/\(∀d,Co (A++[(a,b,n),(b,c,n),(c,a,n)]) d↔Co ts d\/d=n)/\∃f,Ret ts (A++[(a,b,n),(b,c,n),(c,a,n)]) f:=by
 let#[s0,j,s1,k,e]:=#[(s.pm pm.symm:Skn (A++[(a,b,c)])),(λh=>v\(nq pm).mpr h:¬Co (A++[(a,b,c)]) n),IF s0 j,s0.g.sk,(cX.mpr\.o (fI.mpr\.l (.l #[5,1])):En (A++[(a,b,c)]) a b c)];let l:∀p q,Sd (A++[(a,b,n),(b,c,n),(c,a,n)]) p q↔Sd (A++[(a,b,c)]) p q\/(p=n/\(q=a\/q=b\/q=c))\/(q=n/\(p=a\/p=b\/p=c)):=λp q=>by
  unfold Sd;simp only[cX,fI,m5,or_false];constructor
  .rintro⟨r,h|h|h|h⟩
   .exact .l #[r,.l h]
   .rcases h with ⟨h1,h2,_⟩|⟨h1,h2,_⟩|⟨h1,h2,_⟩
    .exact .l #[c,.o\.l #[h1,h2,1]]
    .exact .o\.o #[h2,.o\.l h1]
    show .o\.l #[h1,.l h2]
   .rcases h with ⟨h1,h2,_⟩|⟨h1,h2,_⟩|⟨h1,h2,_⟩
    .exact .l #[a,.o\.o (.l #[h1,h2,1])]
    .exact .o\.o #[h2,.o\.o h1]
    show .o\.l #[h1,.o\.l h2]
   rcases h with ⟨h1,h2,_⟩|⟨h1,h2,_⟩|⟨h1,h2,_⟩
   .exact .l #[b,.o\.o (.o #[h1,h2,1])]
   .exact .o\.o #[h2,.l h1]
   show .o\.l #[h1,.o\.o h2]
  rintro (⟨r,h|h⟩|⟨h1,h2⟩|⟨h2,h1⟩)
  .exact#[r,.l h]
  .rcases h with ⟨h1,h2,_⟩|⟨h1,h2,_⟩|⟨h1,h2,_⟩
   .exact#[n,.o\.l (.l #[h1,h2,1])]
   .exact#[n,.o\.o (.l\.l #[h1,h2,1])]
   erw[n,.o\.o (.o\.l #[h1,h2,1])]
  .rcases h2 with h2|h2|h2
   .exact#[b,.o\.l (.o\.o #[h1,h2,1])]
   .exact#[c,.o\.o (.l\.o (.o #[h1,h2,1]))]
   erw[a,.o\.o (.o\.o (.o #[h1,h2,1]))]
  rcases h1 with h1|h1|h1
  .exact#[c,.o\.o (.o\.o (.l #[h1,h2,1]))]
  .exact#[a,.o\.l (.o\.l #[h1,h2,1])]
  erw[b,.o\.o (.l\.o (.l #[h1,h2,1]))]
 let#[#[ca,w,x],u,y]:=#[s0.co1 e,Conn.of e,Conn.of\k.rot e];let o:∀p,p=a\/p=b\/p=c->Co (A++[(a,b,c)]) p/\Conn (A++[(a,b,c)]) a p:=λp h=>by
  rcases h with rfl|rfl|rfl
  .exact#[ca,.refl _]
  .exact#[w,u]
  erw[x,u<*y]
 let#[B,C]:=xE (m:=a) (K:=λp=>p=a\/p=b\/p=c) (λ_ _=>False) s0 j s1 (λp h=>(o p h).1) (λp q h h'=>(o p h).2.symm.trans (o q h').2) (.l rfl) (λ_ _ h=>h.elim) λp q=>by
  rw[l];show or_congr ja (or_iff_right id).symm
 erw[s1,λp q=>(show ar (En (A++[(a,b,n),(b,c,n),(c,a,n)])) p q↔ar (En (A++[(a,b,c)])) p q from ?_).trans\yp pm.symm,λd=>(B d).trans\or_congr (nq pm.symm) ja,_,(zf pm)<*C];let nn:∀q,¬Sd (A++[(a,b,c)]) n q/\¬Sd (A++[(a,b,c)]) q n:=λq=>#[λ⟨r,h⟩=>j (s0.co1 h).1,λ⟨r,h⟩=>j (s0.co1 h).2.1];change Sd _ p q/\¬Sd _ q p↔Sd _ p q/\¬Sd _ q p;rw[l,l];constructor
 .rintro⟨h|⟨rfl,h⟩|⟨rfl,h⟩,i⟩
  .exact#[h,λz=>i\.l z]
  .exact (i\.o (.o #[1,h])).elim
  show (i\.o (.l #[1,h])).elim
 rintro⟨h,i⟩;erw[.l h,λz=>z.elim i λz=>z.elim (λ⟨e,_⟩=>?_) λ⟨e,_⟩=>?_]
 .subst e;show (nn p).2 h
 subst e;show (nn q).1 h
def Fb{R:Nat->Nat->Prop}{l:-Nat}(h:Cyc R l)(d:∀p q,R p q->Conn ts p q){p q:Nat}(e:p∈l)(f:q∈l):Conn ts p q:=by
 let go:∀(i a b:Nat),l[0]?*>a->l[i]?*>b->Conn ts a b:=λi=>by
  induction i with
  |zero=>intro a b h1 h2;rw[h1] at h2;cases h2;show .refl _
  |succ i g=>
   intro a b h1 h2;let hi:=(aq.mp h2).1;let c:=ay (show i<↑l by lia);show (g a _ h1 c)<*(d>>(h.ch i _ b c h2))
 let#[#[a,ha,_],#[i,hi],#[j,m]]:=#[h.toPath.begin,cJ e,cJ f];show (go i a p ha hi).symm.trans\go j a q ha m
def close1{x:Nat}{rim:-Nat}{cs:-Tri}(s:Skn us)(j:¬Co us x)(c:Cyc (ar\En us) rim)(pm:(ents cs).Perm\ents (caps x\(prs rim).map swp)) :
  Skn (us++cs)/\(∀p q,ar (En (us++cs)) p q↔ar (En us) p q/\p∉rim)/\(∀d,Co (us++cs) d↔Co us d\/d=x)/\∃f,Ret us (us++cs) f:=by
 let l:(ents (us++cs)).Perm (ents (us++caps x\(prs rim).map swp)):=by unfold ents at pm |-;rw[gQ,gQ];show pm.append_left _
 let s1:=FT s j c.cy;let one:=(rim_steps s).1;let st:∀{p q},(p,q)∈prs rim↔ar (En us) p q/\p∈rim:=λ{p q}=>by
  constructor
  .intro h;erw[c.cy.st p q h,?_];rw[<-pP rim];show ai.mpr #[_,h,1]
  rintro⟨h,i⟩;let#[u,h']:=tO i;rw[one _ _ _ h\c.cy.st p u h'];show h'
 let n:∀p q,Sd (us++caps x\(prs rim).map swp) p q↔Sd us p q\/(q,p)∈prs rim\/p=x/\q∈rim\/q=x/\p∈rim:=λp q=>by
  unfold Sd;simp only[cX,mP];constructor
  .rintro⟨r,h|⟨⟨a,b⟩,h1,h|h|h⟩⟩
   .exact .l #[r,h]
   .let#[5,_]:=h;show .o\.o (.l #[1,kX.mpr #[b,fW.mp h1]])
   .let#[5,_]:=h;show .o\.l (fW.mp h1)
   let#[5,_]:=h;show .o\.o (.o #[1,(st.mp\fW.mp h1).2])
  rintro (⟨r,h⟩|h|⟨rfl,h⟩|⟨rfl,h⟩)
  .exact#[r,.l h]
  .exact#[x,.o #[(p,q),fW.mpr h,.o\.l #[5,1]]]
  .let#[b,o]:=kX.mp h;erw[b,.o #[(q,b),fW.mpr o,.l #[5,1]]]
  let#[b,o]:=tO h;erw[b,.o #[(b,p),fW.mpr o,.o\.o #[5,1]]]
 let v:∀{p q},ar (En us) p q->Co us p/\Co us q:=λ{p q} ⟨⟨r,h⟩,_⟩=>#[(s.co1 h).1,(s.co1 h).2.1];let w:∀p,p∈rim->Co us p:=λp i=>by
  let#[q,y]:=tO i;show (v (st.mp y).1).1
 let#[m,_,hm]:=c.toPath.begin;let#[A,B]:=xE (m:=m) (K:=λp=>p∈rim) (λp q=>(q,p)∈prs rim) s j s1 w (λp q=>Fb c λp q ⟨⟨r,h⟩,_⟩=>.of h) hm (λp q h=>#[kX.mpr #[_,h],(st.mp h).2]) n;erw[s1.pm l,λp q=>(yp l).trans ?_,λd=>(nq l).trans\A d,_,B.trans\zf l.symm];let nn:∀q,¬Sd us x q/\¬Sd us q x:=λq=>#[λ⟨r,h⟩=>j (s.co1 h).1,λ⟨r,h⟩=>j (s.co1 h).2.1];change Sd _ p q/\¬Sd _ q p↔(Sd us p q/\¬Sd us q p)/\_;rw[n,n];constructor
 .rintro⟨h|h|⟨rfl,h⟩|⟨rfl,h⟩,g⟩
  .exact#[#[h,λz=>g\.l z],λi=>g\.o (.l\st.mpr #[#[h,λz=>g\.l z],i])]
  .exact (g\.l (st.mp h).1.1).elim
  .exact (g\.o (.o\.o #[1,h])).elim
  show (g\.o (.o\.l #[1,h])).elim
 rintro⟨⟨h,g⟩,C⟩;erw[.l h,λz=>z.elim g λz=>z.elim (λz=>C (st.mp z).2) λz=>z.elim (λ⟨e,_⟩=>?_) λ⟨e,_⟩=>?_]
 .subst e;show (nn p).2 h
 subst e;show (nn q).1 h
end
section
variable {E E':Nat->Nat->Nat->Prop}{v:Nat}
def Gk{b c:Nat}{ms:-Nat}(k:Sk E)(o:One E v)(w:E v b c)(nd:ms.Nodup)(j:∀x∈ms,∀q,¬E v x q)(h:∀p q,E' v p q↔(E v p q/\p≠b)\/(p,q)∈(b::ms).zip (ms++[c])):One E' v:=by
 let#[F,ne,D,ch,key]:=jK o;let#[l,m,1]:=jb\(key b).mpr #[c,w];let s:∀x∈ms,x∉l++b::m:=λx hm z=>by
  let#[q,d]:=(key x).mp z;show j x hm q d
 let#[#[H,I,A],#[u,K],n,#[L,B,M],R]:=#[aQ.mp D,bF.mp I,(λz=>A b z b ∅ rfl:b∉l),eK.mp ch,(∅:↑((b::ms).zip (ms++[c]))=↑ms+1)];let C:∀i p q,(b::(ms++[c]))[i]?*>p->(b::(ms++[c]))[i+1]?*>q->(p,q)∈(b::ms).zip (ms++[c]):=λi p q h1 h2=>by
  show aJ (i:=i)\j7.mpr #[?_,h2];let hi:=(aq.mp h2).1;rw[show b::(ms++[c])=(b::ms)++[c] from rfl,bY (by simp at hi |-;lia)] at h1;show h1
 let N:∀p,p∈b::ms↔∃q,(p,q)∈(b::ms).zip (ms++[c]):=λp=>by
  let e:=Ay (l₁:=b::ms) (l₂:=ms++[c]) ∅;constructor
  .intro f;rw[<-e] at f;let#[#[x,y],h1,1]:=ai.mp f;erw[y,h1]
  rintro⟨q,h⟩;rw[<-e];show ai.mpr #[_,h,1]
 let O:Lk (E' v) ((b::ms)++m):=by
  show eK.mpr #[gi.mpr λi p q h1 h2=>(h p q).mpr\.o (C i p q ?_ ?_),eT (λp q f r=>(h p q).mpr\.l #[r,λz=>u (z ▸ f)]) (eK.mp (show Lk (E v) ([b]++m) from B)).2.1,λx y h1 h2=>?_]
  .rw[show b::(ms++[c])=(b::ms)++[c] from rfl,bY (aq.mp h1).1];show h1
  .rw[show b::(ms++[c])=(b::ms)++[c] from rfl,bY (aq.mp h2).1];show h2
  let e:E v b y:=(eK.mp (show Lk (E v) ([b]++m) from B)).2.2 b y rfl h2;rw[k.one e w];rw[eC,br,AJ] at h1;show (h x c).mpr\.o (C ↑ms x c ?_ ?_)
  .rw[show b::(ms++[c])=(b::ms)++[c] from rfl,bY ∅];show h1
  simp
 show fK (F:=l++((b::ms)++m)) ∅ ?_ (eK.mpr #[eT (λp q f r=>(h p q).mpr\.l #[r,λz=>n (z ▸ f)]) L,O,λx y h1 h2=>?_]) λp=>?_
 .refine aQ.mpr #[H,aQ.mpr #[bF.mpr #[λz=>s b z ∅,nd],K,λx j y g e=>?_],λx j y g e=>?_]
  .subst e;rcases ah.mp j with rfl|j
   .exact u g
   show s x j (by simp[g])
  subst e;rcases az.mp g with g|g
  .rcases ah.mp g with rfl|g
   .exact n j
   show s x g (by simp[j])
  show A x j x (by simp[g]) rfl
 .cases h2;let P:x∈l:=AC h1;show (h x b).mpr\.l #[M x b h1 rfl,λz=>n (z ▸ P)]
 rw[az,az,N];constructor
 .rintro (f|⟨q,d⟩|f)
  .let#[q,d]:=(key p).mp (by simp[f]);erw[q,(h p q).mpr\.l #[d,λz=>n (z ▸ f)]]
  .exact#[q,(h p q).mpr\.o d]
  let#[q,d]:=(key p).mp (by simp[f]);erw[q,(h p q).mpr\.l #[d,λz=>u (z ▸ f)]]
 rintro⟨q,d⟩;rcases (h p q).mp d with ⟨d,Q⟩|d
 .have:=(key p).mpr #[q,d];simp only[az,ah,Q,false_or] at this;show this.imp_right .inr
 show .o\.l #[q,d]
def Gn{b c:Nat}(k:Sk E)(o:One E v)(f:E v b c)(cl:∀p q,E v p q->∃r,E v q r)(h:∀p q,E' v p q↔E v p q/\p≠b):One E' v:=by
 let#[#[F,ne,A,ch,key],#[l,m,1],#[I,K,B],#[g,L],C,#[M,N,T]]:=#[jK o,jb\(key b).mpr #[c,f],aQ.mp A,bF.mp K,(λz=>B b z b ∅ rfl:b∉l),eK.mp ch];let mem:∀p,p∈m++l↔p∈l++b::m/\p≠b:=λp=>by
  simp only[az,ah];constructor
  .rintro (h|h)
   .exact#[.o\.o h,λz=>g (z ▸ h)]
   erw[.l h,λz=>C (z ▸ h)]
  rintro⟨h|h|h,n⟩
  .exact .o h
  .exact (n h).elim
  show .l h
 let O:c≠b:=λz=>(k.ne\k.rot f) z.symm;let D:c∈m++l:=(mem c).mpr #[(key c).mpr\cl b c f,O];show fK (F:=m++l) (λz=>by rw[z] at D;cases D) (aQ.mpr #[L,I,λx P y Q e=>B y Q x (by simp[P]) e.symm]) (eK.mpr #[eT (λp q i r=>(h p q).mpr #[r,λz=>g (z ▸ i)]) (eK.mp (show Lk (E v) ([b]++m) from N)).2.1,eT (λp q i r=>(h p q).mpr #[r,λz=>C (z ▸ i)]) M,λx y h1 h2=>?_]) λp=>?_
 .let#[H,#[w,hw],R]:=#[(AC h1:x∈m),(key x).mp (by simp[H]),(key w).mpr\cl x w hw];let S:(l++b::m)[↑(l++b::m)-1]?*>x:=by
   rw[<-eC,Ax,LO,h1];rfl
  let#[j,s]:=cJ R;let U:=(aq.mp s).1;cases j with
  |zero=>
   have:(l++b::m)[0]?*>y:=by rw[bY (aq.mp h2).1];show h2
   rw[s] at this;show (h x y).mpr #[df this ▸ hw,λz=>g (z ▸ H)]
  |succ j=>
   let u:=ay (show j<↑(l++b::m) by lia);rw[k.inj (gi.mp ch j _ w u s) hw] at u;have:=eQ A u S;lia
 rw[mem,key];erw[λ⟨⟨q,d⟩,n⟩=>#[q,(h p q).mpr #[d,n]],λ⟨q,d⟩=>#[#[q,((h p q).mp d).1],((h p q).mp d).2]]
end
structure Cls(ts:-Tri):Prop where
 s:Skn ts
 cl:∀p q,Sd ts p q->Sd ts q p
 cn:∀p q,Co ts p->Co ts q->Conn ts p q
section
variable {ts A:-Tri}{a b c:Nat}
def tX(s:Skn ts)(pm:(ents ts).Perm\ents (A++[(a,b,c)])){x y z:Nat}:En A x y z↔En ts x y z/\¬R3 a b c x y z:=by
 rw[jR pm,cX,fI];constructor
 .intro h;erw[.l h,λr=>?_];let nd:=(s.pm pm.symm).g.nd;unfold ents at nd;rw[gQ,bc,aQ] at nd;show nd.2.2 (x,y) (ai.mpr #[((x,y),z),h,1]) (x,y) (ai.mpr #[((x,y),z),fI.mpr\.l r,1]) rfl
 rintro⟨h|h|h,d⟩
 .exact h
 .exact (d h).elim
 show (m5 h).elim
def pX(pm:(ents ts).Perm\ents (A++[(a,b,c)])):En ts a b c:=(jR pm).mpr\cX.mpr (.o\fI.mpr (.l\.l #[5,1]))
def Cls.back(C:Cls ts)(pm:(ents ts).Perm\ents (A++[(a,b,c)])){p q r:Nat}(h:R3 a b c p q r):Sd A q p:=by
 let#[k,e,d,f,i]:=#[C.s.g.sk,pX pm,k.ne e,k.ne\k.rot e,k.ne\k.rot (k.rot e)];let e':En ts p q r:=by
  rcases h with ⟨rfl,rfl,rfl⟩|⟨rfl,rfl,rfl⟩|⟨rfl,rfl,rfl⟩
  .exact e
  .exact k.rot e
  show k.rot\k.rot e
 let#[w,hw]:=C.cl p q #[r,e'];erw[w,(tX C.s pm).mpr #[hw,λz=>by unfold R3 at h z;lia]]
def Cls.less(C:Cls ts)(pm:(ents ts).Perm\ents (A++[(a,b,c)])):Skn A/\(∀p q,ar (En A) p q↔(p=b/\q=a)\/(p=c/\q=b)\/(p=a/\q=c))/\(∀d,Co A d↔Co ts d)/\∀p q,Co A p->Co A q->Conn A p q:=by
 let k:=C.s.g.sk;let e:=pX pm;let s0:=C.s.pm pm.symm;let N:=k.ne e;let O:=k.ne\k.rot e;let P:=k.ne\k.rot (k.rot e);let f:=λ{x y z:Nat}=>tX C.s pm (x:=x) (y:=y) (z:=z);let g:Good A:=#[λt u=>s0.g.ne t\bR _ u,by
  let nd:=s0.g.nd;unfold ents at nd;rw[gQ,bc,aQ] at nd;show nd.1]
 let i:∀d,Co A d↔Co ts d:=λd=>by
  erw[λ⟨p,q,h⟩=>#[p,q,(f.mp h).1],λ⟨p,q,h⟩=>?_];by_cases r:R3 a b c d p q
  .let#[w,hw]:=C.back pm r;erw[0,g.sk.rot hw]
  erw[p,q,f.mpr #[h,r]]
 let cl:∀{v p q},En ts v p q->∃r,En ts v q r:=λ{v p q} h=>by
  let#[w,hw]:=C.cl q v #[_,k.rot\k.rot h];erw[w,hw]
 erw[#[g,λv B=>?_],λp q=>?_,i,λp q D E=>?_]
 .let m:=C.s.o v\(i v).mp B;let del:∀{j l},En ts v j l->(∀p q,R3 a b c v p q↔p=j/\q=l)->One (En A) v:=λ{j l} h H=>Gn k m h (λp q h=>cl h) λp q=>by
   rw[f,H];erw[λ⟨z,n⟩=>#[z,λy=>n #[y,k.one (y ▸ z) h]],λ⟨z,n⟩=>#[z,λy=>n y.1]]
  by_cases I:v=a
  .subst I;show del e λp q=>by unfold R3;lia
  by_cases K:v=b
  .subst K;show del (k.rot e) λp q=>by unfold R3;lia
  by_cases L:v=c
  .subst L;show del (k.rot\k.rot e) λp q=>by unfold R3;lia
  show oZ m λp q=>by rw[f];show and_iff_left λz=>by unfold R3 at z;lia
 .let M:(p=b/\q=a)\/(p=c/\q=b)\/(p=a/\q=c)↔∃r,R3 a b c q p r:=by
   unfold R3;erw[λh=>h.elim (λh=>#[c,()]) λh=>h.elim (λh=>#[a,()]) λh=>#[b,()],λ⟨r,h⟩=>()]
  rw[M];constructor
  .rintro⟨⟨r,h⟩,n⟩;let#[w,hw]:=C.cl p q #[r,(f.mp h).1];erw[w,lO λz=>n #[w,f.mpr #[hw,z]]]
  rintro⟨r,h⟩;erw[C.back pm h,λ⟨w,hw⟩=>(f.mp hw).2 ?_];let e':En ts q p r:=by
   rcases h with ⟨rfl,rfl,rfl⟩|⟨rfl,rfl,rfl⟩|⟨rfl,rfl,rfl⟩
   .exact e
   .exact k.rot e
   show k.rot\k.rot e
  rw[k.one (f.mp hw).1 e'];show h
 show iK id (λx y z h=>?_)\C.cn p q ((i p).mp D) ((i q).mp E);by_cases r:R3 a b c x y z
 .let#[w,hw]:=C.back pm r;show (Conn.of hw).symm
 show .of\f.mpr #[h,r]
end
def rF(i:Nat):-Nat:=[1,3,2,6,4,5].map λj=>(i+j)%7
def zZ:∀i:Fin 7,(rF i).Nodup/\(∀z∈(rF i).zip\(rF i).drop 1,(((i:Nat),z.1),z.2)∈ents rt)/\(∀p∈rF i,∃e∈ents rt,e.1=((i:Nat),p))/\∀e∈ents rt,e.1.1=(i:Nat)->e.1.2∈rF i:=⋯
def zd{i:Nat}(hi:i<7):One (En rt) i:=by let#[h1,h2,b,c]:=zZ #[i,hi];show fK (F:=rF i) (by simp[rF]) h1 (gi.mpr λj p q d f=>h2 (p,q)\aJ (i:=j) (j7.mpr #[d,by rw[lP,AI];show f])) λp=>#[λh=>?_,λ⟨q,h⟩=>c _ h rfl];let#[#[#[x,y],z],he,e]:=b p h;cases e;erw[z,he]
def eL{x y z:Nat}(h:En rt x y z):x<7/\y<7/\z<7:=by
 let h1:=uw;rcases dz.mp h with h|h|h
 .exact h1 _ h
 .have:=h1 _ h;erw[this.2.1,this.2.2,this.1]
 have:=h1 _ h;erw[this.2.2,this.1,this.2.1]
def FQ:∀e∈ents rt,∃e'∈ents rt,e'.1=(e.1.2,e.1.1):=⋯
def IR:∀i:Fin 7,∀j:Fin 7,i≠j->∃e∈ents rt,e.1=((i:Nat),(j:Nat)):=⋯
def IQ:Cls rt:=by
 erw[#[kN,λc ⟨p,q,h⟩=>zd (eL h).1],λp q ⟨r,h⟩=>?_,λp q ⟨_,_,h⟩ ⟨_,_,h'⟩=>?_]
 .let#[#[_,z],h1,e]:=FQ _ h;cases e;erw[z,h1]
 by_cases e:p=q
 .rw[e];show .refl _
 let#[#[_,z],h1,e]:=IR #[p,(eL h).1] #[q,(eL h').1] (λz=>e\congrArg Fin.val z);cases e;show .of h1
def ux{d:Nat}:Co rt d↔d<7:=by erw[λ⟨_,_,h⟩=>(eL h).1,λh=>?_];let#[0,b,_]:=zZ #[d,h];let#[#[#[x,y],z],he,e]:=b ((d+1)%7) (by simp[rF]);cases e;erw[0,he]
def FR:∀e∈ents rt.tail,e.1.1∈[0,1,3]->e.1.2∈[0,1,3]->e.1∈[(1,0),(3,1),(0,3)]:=⋯
def D9:∀e∈ents rt.tail,e.1∈[(1,0),(3,1),(0,3)]\/∃e'∈ents rt.tail,e'.1=(e.1.2,e.1.1):=⋯
def IS:∀z∈[(1,0),(3,1),(0,3),(0,2),(0,4),(0,5),(0,6)],∃e'∈ents rt.tail,e'.1=z:=⋯
def jC:∀e∈ents rt.tail,e∈ents rt:=⋯
def ym:∀e∈ents rt,e.1.1∈[2,4,5,6]->e∈ents rt.tail:=⋯
def xi:Good rt.tail:=#[⋯,⋯]
section
variable {ts A:-Tri}{f:Nat->Nat}
def Cls.glue(C:Cls ts)(pm:(ents ts).Perm\ents (A++[(f 0,f 3,f 1)]))(inj:∀i j,i<7->j<7->f i=f j->i=j)(new:∀i∈[2,4,5,6],¬Co ts\f i) :
  Cls (A++rt.tail.map\nam f)/\∀d,Co (A++rt.tail.map\nam f) d↔Co ts d\/∃i∈[2,4,5,6],d=f i:=by
 let#[k,e,B,#[X,_,ab,_],Y]:=#[C.s.g.sk,pX pm,λ{x y z:Nat}=>tX C.s pm (x:=x) (y:=y) (z:=z),C.less pm,(λi j ⟨_,_,h⟩ ⟨_,_,h'⟩=>inj i j (eL\jC _ h).1 (eL\jC _ h').1:∀i j,Co rt.tail i->Co rt.tail j->f i=f j->i=j)];let H:∀{x y z},En (rt.tail.map\nam f) x y z↔∃i j l,En rt.tail i j l/\x=f i/\y=f j/\z=f l:=λ{x y z}=>
  #[λh=>qA xi Y h,λ⟨i,j,l,h,b,c,D⟩=>by rw[b,c,D];show jL h]
 let old:∀i,i<7->Co ts (f i)->i∈[0,1,3]:=λi hi h=>by
  show lO λn=>new i ?_ h;simp only[ah,cK,or_false] at n |-;lia
 let sB:∀{i j l},En rt.tail i j l->Sd (rt.tail.map\nam f) (f i) (f j):=λ{i j l} h=>#[f l,jL h];let E:∀z∈[(1,0),(3,1),(0,3),(0,2),(0,4),(0,5),(0,6)],Sd (rt.tail.map\nam f) (f z.1) (f z.2):=λz hz=>by
  let#[#[_,w],h,e]:=IS z hz;cases e;show sB h
 let both:∀{p q},Sd (A++rt.tail.map\nam f) p q↔Sd A p q\/Sd (rt.tail.map\nam f) p q:=λ{p q}=>by
  unfold Sd;simp only[cX];erw[λ⟨r,h⟩=>h.imp (λh=>#[r,h]) λh=>#[r,h],λh=>h.elim (λ⟨r,h⟩=>#[r,.l h]) λ⟨r,h⟩=>#[r,.o h]]
 let Z:Good (rt.tail.map\nam f):=pd xi Y;let g:Good (A++rt.tail.map\nam f):=by
  erw[λt ht=>(az.mp ht).elim (X.g.ne t)\Z.ne t,?_];unfold ents;rw[gQ,bc,aQ];erw[X.g.nd,Z.nd,λd hd d' ad z=>?_];subst z;let#[#[q,L],#[r,I],#[i,j,l,h,b,c,_],N,K,c1]:=#[cm.mp (show (d.1,d.2)∈keys A from hd),cm.mp (show (d.1,d.2)∈keys (rt.tail.map\nam f) from ad),H.mp I,eL\jC _ h,B.mp L,C.s.co1 K.1];have:=FR _ h (old i N.1 (b ▸ c1.1))\old j N.2.1 (c ▸ c1.2.1);simp only[ah,cK,or_false,jk] at this;show K.2 ?_;rw[b,c] at K |-;rcases this with ⟨rfl,rfl⟩|⟨rfl,rfl⟩|⟨rfl,rfl⟩
  .exact .o\.o #[5,k.one K.1\k.rot (k.rot e)]
  .exact .o\.l #[5,k.one K.1\k.rot e]
  show .l #[5,k.one K.1 e]
 let O:∀d,Co (A++rt.tail.map\nam f) d↔Co ts d\/∃i∈[2,4,5,6],d=f i:=λd=>by
  rw[k_,ab];constructor
  .rintro (h|⟨p,q,h⟩)
   .exact .l h
   let#[i,j,l,h,b,0]:=H.mp h;let N:=(eL\jC _ h).1;by_cases hi:i∈[2,4,5,6]
   .exact .o #[i,hi,b]
   left;simp only[ah,cK,or_false] at hi;have:i=0\/i=1\/i=3:=();let P:=C.s.co1 e;rcases this with rfl|rfl|rfl
   .rw[b];show P.1
   .rw[b];show P.2.2
   rw[b];show P.2.1
  rintro (h|⟨i,hi,rfl⟩)
  .exact .l h
  let#[p,q,h]:=ux.mpr (show i<7 by simp only[ah,cK,or_false] at hi;lia);show .o #[f p,f q,jL\ym _ h hi]
 let Q:∀(i m u:Nat)(mid:-Nat),i<7->(∀e∈ents rt.tail,e.1.1=i->(e.1.2,e.2)∈(m::mid).zip (mid++[u]))->(∀z∈(m::mid).zip (mid++[u]),((i,z.1),z.2)∈ents rt.tail)->(∀x∈mid,x∈[2,4,5,6])->mid.Nodup->
   En ts (f i) (f m) (f u)->(∀p q,R3 (f 0) (f 3) (f 1) (f i) p q↔p=f m/\q=f u)->One (En (A++rt.tail.map\nam f)) (f i):=λi m u mid hi h1 h2 R h4 he I=>by
  show Gk (ms:=mid.map f) k (C.s.o _ #[0,he]) he ?_ (λx S q L=>?_) λp q=>?_
  .rw[List.Nodup,fC];show gv (λ{x y} S T n z=>n\inj x y ?_ ?_ z) h4
   .have:=R x S;simp only[ah,cK,or_false] at this;lia
   have:=R y T;simp only[ah,cK,or_false] at this;lia
  .let#[y,T,1]:=ai.mp S;show new y (R y T) (C.s.co1 L).2.1
  rw[cX,B,I,H];show or_congr #[λ⟨z,n⟩=>#[z,λy=>n #[y,k.one (y ▸ z) he]],λ⟨z,n⟩=>#[z,λy=>n y.1]] ?_;let ez:(f m::mid.map f).zip (mid.map f++[f u])=((m::mid).zip (mid++[u])).map λz=>(f z.1,f z.2):=by rw[show f m::mid.map f=(m::mid).map f from rfl,show mid.map f++[f u]=(mid++[u]).map f by simp,List.zip_map];rfl
  rw[ez,ai];constructor
  .rintro⟨M,j,l,h,b,c,D⟩;have:=inj i M hi (eL\jC _ h).1 b;subst this;erw[(j,l),h1 _ h rfl,by rw[c,D]]
  rintro⟨⟨j,l⟩,h,e'⟩;cases e';erw[i,j,l,h2 _ h,5,1]
 let#[n1,n2,n3]:=#[k.ne e,k.ne\k.rot e,k.ne\k.rot (k.rot e)];let up:∀{x y z},En ts x y z->Conn (A++rt.tail.map\nam f) x y:=λ{x y z} h=>by
  by_cases r:R3 (f 0) (f 3) (f 1) x y z
  .have:Sd (rt.tail.map\nam f) y x\/Sd (rt.tail.map\nam f) x y:=by
    rcases r with ⟨rfl,rfl,_⟩|⟨rfl,rfl,_⟩|⟨rfl,rfl,_⟩
    .exact .o (E (0,3) ∅)
    .exact .o (E (3,1) ∅)
    show .o (E (1,0) ∅)
   rcases this with h|h
   .let#[w,hw]:=both.mpr\.o h;show (Conn.of hw).symm
   let#[w,hw]:=both.mpr\.o h;show .of hw
  show .of\cX.mpr (.l\B.mpr #[h,r])
 erw[#[#[g,λv hv=>?_],λp q h=>?_,λp q hp L=>?_],O]
 .by_cases v0:v=f 0
  .rw[v0];show Q 0 3 1 [2,6,4,5] ⋯ ⋯ ⋯ ⋯ ⋯ e λp q=>by unfold R3;lia
  by_cases v1:v=f 1
  .rw[v1];show Q 1 0 3 [5,6,2,4] ⋯ ⋯ ⋯ ⋯ ⋯ (k.rot\k.rot e) λp q=>by unfold R3;lia
  by_cases v3:v=f 3
  .rw[v3];show Q 3 1 0 [4,6,5,2] ⋯ ⋯ ⋯ ⋯ ⋯ (k.rot e) λp q=>by unfold R3;lia
  rcases (O v).mp hv with h|⟨i,hi,rfl⟩
  .refine oZ (C.s.o v h) λp q=>?_;rw[cX,B];constructor
   .rintro (h|h')
    .exact h.1
    let#[i,j,l,h2,1,0]:=H.mp h';have:=old i (eL\jC _ h2).1 h;simp only[ah,cK,or_false] at this;rcases this with rfl|rfl|rfl
    .exact (v0 rfl).elim
    .exact (v1 rfl).elim
    show (v3 rfl).elim
   show λh=>.l #[h,λz=>by unfold R3 at z;lia]
  let U:i<7:=by simp only[ah,cK,or_false] at hi;lia
  let o:=tR (f:=f) kN (λx y ⟨_,_,h⟩ ⟨_,_,h'⟩=>inj x y (eL h).1 (eL h').1) (ux.mpr U)\zd U;let#[F,f1,f2,f3,f4]:=jK o;let same:∀p q,En (A++rt.tail.map\nam f) (f i) p q↔En (rt.map\nam f) (f i) p q:=λp q=>by
   rw[cX];constructor
   .rintro (h|h)
    .exact (new i hi (C.s.co1 (B.mp h).1).1).elim
    let#[M,j,l,h,b,c,D]:=H.mp h;rw[b,c,D];show jL\jC _ h
   intro h;let#[M,j,l,h,b,c,D]:=qA kN (λx y ⟨_,_,h⟩ ⟨_,_,h'⟩=>inj x y (eL h).1 (eL h').1) h;have:=inj i M U (eL h).1 b;subst this;rw[c,D];show .o\jL (ym _ h hi)
  show fK f1 f2 (eT (λp q _ r=>(same p q).mpr r) f3) λp=>(f4 p).trans #[λ⟨q,z⟩=>#[q,(same p q).mpr z],λ⟨q,z⟩=>#[q,(same p q).mp z]]
 .rcases both.mp h with ⟨r,h⟩|⟨r,h⟩
  .let#[w,hw]:=C.cl p q #[r,(B.mp h).1];by_cases I:R3 (f 0) (f 3) (f 1) q p w
   .refine both.mpr\.o ?_;rcases I with ⟨rfl,rfl,_⟩|⟨rfl,rfl,_⟩|⟨rfl,rfl,_⟩
    .exact E (0,3) ∅
    .exact E (3,1) ∅
    show E (1,0) ∅
   show both.mpr\.l #[w,B.mpr #[hw,I]]
  let#[i,j,l,h2,5,1]:=H.mp h;rcases D9 _ h2 with h' | ⟨⟨_,w⟩,h',e'⟩
  .refine both.mpr\.l ?_;simp only[ah,cK,or_false,jk] at h';rcases h' with ⟨rfl,rfl⟩|⟨rfl,rfl⟩|⟨rfl,rfl⟩
   .exact C.back pm\.o (.o #[5,1])
   .exact C.back pm\.o (.l #[5,1])
   show C.back pm\.l #[5,1]
  cases e';show both.mpr\.o (sB h')
 let near:∀d,Co (A++rt.tail.map\nam f) d->Conn (A++rt.tail.map\nam f) (f 0) d:=λd hd=>by
  rcases (O d).mp hd with h|⟨i,hi,rfl⟩
  .exact iK id (λx y z h=>up h)\C.cn _ _ (C.s.co1 e).1 h
  let#[w,hw]:=both.mpr\.o (E (0,i) (by simp only[ah,cK,or_false] at hi |-;rcases hi with rfl|rfl|rfl|rfl<;>simp));show .of hw
 show (near p hp).symm.trans\near q L
end
def EX{d:gL}{o:Obj}{u:HO}{ks:-V}{g:TG}{tb:TS}{D:Ends}(Pv:Nat->St->Hp->Prop)(h:Pv 0 Z H)(j:∀i Z H,i<=↑ks->Pv i Z H->H d*>.z o u)
  (l:∀i x Z H,ks[i]?*>x->Pv i Z H->g x Z H λb H2=>tb {D with nx:=Pv (i+1),ct:=Pv (i+1),bk:=D.nx} b H2) (hd:∀Z H,Pv ↑ks Z H->D.nx Z H) :
  ∃W:Nat->Nat->St->Hp->Prop,(∃m,W 0 m Z H)/\∀i m Z H,W i m Z H->
   ((Itk d o ks).stop i H/\D.nx Z H)\/((Itk d o ks).go i H/\∃N:St->Hp->Prop,(∀Z' H',N Z' H'->∃c,c<m/\W (i+1) c Z' H')/\∀x H',(Itk d o ks).yld i H x H'->g x Z H' λb H2=>tb {D with nx:=N,ct:=N,bk:=D.nx} b H2):=by
 erw[λi m Z H=>m=↑ks-i/\i<=↑ks/\Pv i Z H,#[↑ks,∅,aV _,h],?_];rintro i m Z H ⟨rfl,hi,p⟩;let q:=j i Z H hi p;by_cases f:i<↑ks
 .refine .o #[#[f,u,q],Pv (i+1),λZ' H' p'=>#[↑ks-(i+1),(),1,f,p'],λx H' y=>?_];let#[1,y]:=y;show l i x Z _ y p
 let e:i=↑ks:=();subst e;show .l #[#[au _,u,q],hd Z H p]
structure Fd(ts:-Tri)(c:Nat)(K W:-Nat):Prop where
 nd:K.Nodup
 c0:c∈K
 cn:∀k∈K,Conn ts c k
 wk:∀w∈W,w∈K
def B5(Cs:gL)(vs:-V)(H:Hp)(Q:VK)(x:gL)(ts:-Tri)(A:-gL)(c:Nat):Prop:=vs=[.r x,.i (c:Int)]/\SkA Cs H x ts A/\Good ts/\↑ts<=200/\Co ts c/\
 ∀r l H',H r=gf->SmL A H H'->H' r*>.a (nV l)->l.Pairwise (· < ·)->(∀x,x∈l↔Conn ts c x)->↑l<=600->Q (.r r) H'
def wq(Cs:gL):Sp:=i8\B5 Cs
section
def ml:aR [↑36,↑84,"found","waiting","here","beside"] [↑36,↑84] (aI oR):=.f
def Ci{f Cs:gL}(U:Fun K ↑90 ↑90 oR f fd)(mS:mg ↑29 = gf)(X:SCls K Cs):!aA CX0 1 f fd [↑36,↑84] (wq Cs):=by
 show U.ok ml (!4) λ_ _ _ _ H vs _ _ hr h=>?_
 let#[x,ts,A',c,1,#[dx,O,R,D,S,vo,cs,L,sk,eA],g,hl,hc,q]:=h;let hu:=cG hr;let b3:=line5000;erw[_,af (sx 2 ml.nd (Ge (Ei (pv 1) d_ Gc) rfl rfl ∅ ⋯))
  (af (sx 3 ml.nd\cz (pa1\pv 1))
  (af (kF bP (xn (pv 3) λ_=>rfl)
   (af (sx 4 ml.nd\Jd c7 rG rH Jl (pv 3))
   (aj (cf bP rfl (pR\f_ hu (gI (pv 0) rfl) (pv 4) λ_ _=>rfl) (gx 5 ml.nd)
    (aj (bO (eG\g6 hu (pv 5) (pv 2))
     (af (gF hu (pv 2) (pv 5) d_ rfl)
     (aj\c9 (cP c7 eM eO dJ (pv 3)\pa1 (pv 5))))
     bN))))))
  (aj\aK (cL (l8 rfl) (by rfl) mS fT\pa1 (pv 2))))),?_]
 let few:∀j:-Nat,j.Nodup->(∀k∈j,Conn ts c k)->↑j<=600:=λj nd h=>by
  have:=g7 nd (m:=cs) λk r=>(sk.co k).mpr\(h k r).co g hc;have:=sk.cl;lia
 show λF hF=>#[2,aW,[kb c],1,∅,?_];rw[tm];walk_at"H F hF H1 s1 y1";erw[2,lit1,λI H2 hW s2 y2=>?_];let a6:F≠I:=ao y1 hW;let a7:H I=gf:=s1.free hW;erw[λm Z H'=>∃Y M K W,Z=[gm\.r x,gm\.i (c:Int),gm\.r F,gm\.r I,Y,M]/\m=2*(600-↑K)+↑W/\2*(600-↑K)+↑W<=1200/\SmL A' H H'/\H' F*>.k (K.map kb)/\H' I*>.a (nV W)/\Fd ts c K W/\∀k∈K,k∉W->∀p q,En ts k p q->p∈K,
  #[_,gf,gf,[c],[c],5,∅,SmL.of\s1.trans s2,s2>>y1,y2,#[∅,∅,by intro k r;rw[aN.mp r];show Conn.refl c,λ_ h=>h],λk r T=>(T r).elim],?_]
 rintro m Z H3 ⟨Y,M,K,W,rfl,rfl,bt,sm,ap,aM,B,cl⟩;rcases List.eq_nil_or_concat W with rfl|⟨W,h,eW⟩
 .refine#[2,gB,.l #[_,SqL.of aM,1],?_];show aP #[2,F,1,.l #[_,ap],λks vs r=>.l #[K.map λc:Nat=>(c:Int),?_,by rw[av];have:=few K B.nd B.cn;lia,λp ms hp pm ps=>?_]]
  .rcases r with ⟨kvs,e,rfl,_⟩|⟨kvs,as,e,_⟩
   .rw[ap] at e;cases e;rw[bG,bG];rfl
   rw[ap] at e;cases e
  let#[l,1,pl,pc]:=mh B.nd pm ps;let e:(l.map λc:Nat=>(c:Int)).map V.int=nV l:=by rw[bG];rfl
  rw[e];have:=few K B.nd B.cn;show q p l _ (sm.sm.free hp) (sm.trans\SmL.of (bT hp)) aW pl (λx=>by rw[pc.mem_iff];show Fg g B.c0 B.cn (λk r=>cl k r ∅) x) (by rw[pc.length_eq];show this)
 rw[List.concat_eq_append] at eW;subst eW;erw[2,gn,.l #[_,SqL.of aM,by simp[nV]],?_];let e1:(nV (W++[h]))[↑(nV (W++[h]))-1]?*>V.int (h:Int):=by simp[nV]
 let e2:(nV (W++[h])).dropLast=nV W:=by simp[nV]
 let bw:Co ts h:=(B.cn h (B.wk h ∅)).co g hc;show bf #[λZ' H'=>∃Y M j v,Z'=[gm\.r x,gm\.i (c:Int),gm\.r F,gm\.r I,Y,M]/\2*(600-↑j)+↑v<2*(600-↑K)+↑(W++[h])/\SmL A' H H'/\H' F*>.k (j.map kb)/\H' I*>.a (nV v)/\Fd ts c j v/\∀k∈j,k∉v->∀p q,En ts k p q->p∈j,
  λZ' H' ⟨Y,M,j,v,a1,a2,a3⟩=>#[_,a2,Y,M,j,v,a1,1,(),a3],?_]
 erw[2,.l #[1,_,SqL.of aM],I,6,aM,e1,λH4 k4 y4=>?_];rw[e2] at y4;let bx:=(k4 F a6)<*ap;let bd:SmL A' H H4:=λb o e=>by
  let n:=ao e a7;rw[k4 b n];show sm b o e
 let a8:=sk.sm bd.sm;let#[ad,hL,bA]:=jI\(sk.ky h).mpr bw;erw[2,x,Cs,dx,9,a8.ob,X.cl,X.steps,7,S,2,.l #[_,Sum.inl (h:Int),a8.st,1,bA.symm],ad,2,a8.ab _ hL,True.intro,λks vs o H5 r fz=>?_];let ek:ks=nV ((abt (ents ts) h).map (·.1)):=by
  rcases r with ⟨kvs,e,e1,_⟩|⟨kvs,as,e,_⟩
  .cases e;rw[e1,pT]
  cases e
 subst ek;let be:ad≠F:=λz=>by
  rcases sk.ab _ hL with e|⟨ob,e⟩<;>(let e:H ad=_:=e;rw[z,hF] at e;cases e)
 let bg:ad≠I:=λz=>by
  rcases sk.ab _ hL with e|⟨ob,e⟩<;>(let e:H ad=_:=e;rw[z,a7] at e;cases e)
 let bK:H5 F*>.k (K.map kb):=by rw[fz.ne be.symm];show bx
 let bS:H5 I*>.a (nV W):=by rw[fz.ne bg.symm];show y4
 let b0:Conn ts c h:=B.cn h (B.wk h ∅);let lW:↑(W++[h])=↑W+1:=∅;rw[lW] at bt |-;show EX (d:=ad) (o:=o) (u:=.k\(abt (ents ts) h).map nmV) (ks:=nV\(abt (ents ts) h).map (·.1)) (λi Z H'=>∃M j v,Z=[gm\.r x,gm\.i (c:Int),gm\.r F,gm\.r I,gm\.i (h:Int),M]/\2*(600-↑j)+↑v<=2*(600-↑K)+↑W/\SmL A' H H'/\H' ad*>.z o (.k\(abt (ents ts) h).map nmV)/\H' F*>.k (j.map kb)/\H' I*>.a (nV v)/\Fd ts c j v/\(∀k∈j,k∉v->k≠h->∀p q,En ts k p q->p∈j)/\∀p∈((abt (ents ts) h).map (·.1)).take i,p∈j)
  #[M,K,W,1,au _,bd.trans\fz.smL (by rw[eA];show aC _\aC _ (ai.mpr #[_,hL,1])),fz.at,bK,bS,#[B.nd,B.c0,B.cn,λw hw=>B.wk w\bR _ hw],λk r T a9=>cl k r (by simp[T,a9]),∅] (by rintro i Z H' _ ⟨_,_,_,_,_,_,e,_⟩;show e) ?_ ?_
 .rintro i y Z H' hi ⟨M,j,v,rfl,ms,a0,bb,am,a4,N,a5,al⟩;rw[nV,aU] at hi;let#[p,hp,1]:=bQ.mp hi;let et:((abt (ents ts) h).map (·.1)).take (i+1)=((abt (ents ts) h).map (·.1)).take i++[p]:=by rw[bq,hp];rfl
  let fw:=few j N.nd N.cn;erw[3,F,2,DGet.k (k:=Sum.inl (p:Int)) am,?_];rw[t5];by_cases an:p∈j
  .refine#[gB,by rw[Ol an];rfl,aP #[_,j,v,1,ms,a0,bb,am,a4,N,a5,λz C=>?_]];rw[et] at C;rcases az.mp C with C|C
   .exact al z C
   rw[aN.mp C];show an
  let#[z,C,ez]:=ai.mp\aJ hp;let#[p',q']:=z;cases ez;let#[hE,b1,bi,bl,b2]:=#[(gG.mp C:En ts h p' q'),(b0.trans\Conn.of hE:Conn ts c p'),(aQ.mpr #[N.nd,∅,λa ha b hb e=>by rw[aN] at hb;subst e;subst hb;show an ha]:(j++[p']).Nodup),(λk r=>(az.mp r).elim (N.cn k) λh=>aN.mp h ▸ b1:∀k∈j++[p'],Conn ts c k),few (j++[p']) bi bl];rw[aE,ck] at b2;erw[gn,by rw[Om an];rfl,bf #[3,F,2,DPut.k (k:=Sum.inl (p':Int)) am (by rw[av];lia),?_]];rw[mV,Oi an];walk_at"H' F H7 k7 y7";let bm:=(k7 I a6.symm)<*a4;erw[2,.l #[1,_,SqL.of bm],2,I,6,bm,by rw[a_];lia,λH8 k8 y8=>?_];erw[_,j++[p'],v++[p'],1,by simp only[aE,ck];lia,λb o e=>?_,?_,?_,by rw[y8,mZ,eJ],#[bi,bR _ N.c0,bl,λw hw=>?_],λk r T a9 p1 q1 he=>?_,λz C=>?_]
  .rw[k8 b\ao e a7,k7 b\ao e hF];show a0 b o e
  .rw[k8 ad bg,k7 ad be];show bb
  .rw[k8 F a6];show y7
  .rcases az.mp hw with hw|hw
   .exact bR _\N.wk w hw
   show cU _ hw
  .rcases az.mp r with r|r
   .exact bR _\a5 k r (λz=>T\bR _ z) a9 p1 q1 he
   show (T\cU _ r).elim
  rw[et] at C;rcases az.mp C with C|C
  .exact bR _\al z C
  show cU _ C
 rintro Z H' ⟨M,j,v,rfl,ms,a0,bb,am,a4,N,a5,al⟩;rw[a_,b_] at al;erw[0,j,v,1,(),a0,am,a4,N,λk r T p1 q1 he=>?_];by_cases bn:k=h
 .subst bn;show al p1\ai.mpr #[_,gG.mpr he,1]
 show a5 k r T bn p1 q1 he
end
def Pcs.step{ts:-Tri}(g:Good ts){ls:List\-Nat}{cs l:-Nat}{i c:Nat}(h:Pcs ts ls)(up:cs.Pairwise (· < ·))(r:∀c,c∈cs↔Co ts c)(hi:cs[i]?*>c)(al:∀x∈cs.take i,∃m∈ls,x∈m)(fst:∀m∈ls,∀x,m[0]?*>x->x∈cs.take i)
  (C:c∉ls.flatten) (s:l.Pairwise (· < ·)) (hm:∀x,x∈l↔Conn ts c x):Pcs ts (ls++[l])/\l[0]?*>c/\∀x∈l,x∉ls.flatten:=by
 let u:Co ts c:=(r c).mp\aJ hi;let v:=(aq.mp hi).1;let low:∀x,x∈cs.take i↔x∈cs/\x<c:=λx=>by
  constructor
  .intro f;let#[j,d]:=dD.mp f;let p:=(aq.mp d).1;rw[aZ] at p;rw[gR ()] at d;have:=lQ.mp up j i () v ();rw[(aq.mp hi).2,(aq.mp d).2] at this;erw[aJ d,this]
  rintro⟨f,I⟩;let#[j,d]:=dD.mp f;let p:=(aq.mp d).1;show dD.mpr #[j,?_];rw[gR,d];show L8 λhle=>?_;rcases L9 hle with h|h
  .have:=lQ.mp up i j v p h;rw[(aq.mp hi).2,(aq.mp d).2] at this;lia
  subst h;rw[hi] at d;cases d;lia
 let w:∀x∈l,x∉ls.flatten:=λx f hf=>by
  let#[m,o,D]:=cR.mp hf;let#[b,0,z]:=h.co m o;show C\cR.mpr #[m,o,(z c).mpr\((z x).mp D).trans ((hm x).mp f).symm]
 let A:c∈l:=(hm c).mpr\Conn.refl c;let q:l[0]?*>c:=by
  cases l with
  |nil=>cases A
  |cons a l=>
   let ha:=(hm a).mp aL;let h1:=yv s rfl c A;by_cases e:a=c
   .rw[e];rfl
   let#[m,o,E]:=al a\(low a).mpr #[(r a).mpr\ha.co g u,()];show (w a aL\cR.mpr #[m,o,E]).elim
 erw[#[λm n=>?_,λm n=>?_,?_],q,w]
 .rcases az.mp n with h' | h'
  .exact h.up m h'
  rw[aN.mp h'];show s
 .rcases az.mp n with h' | h'
  .exact h.co m h'
  rw[aN.mp h'];erw[c,q,u,hm]
 show nP.mpr #[h.rise,lR _ _,λm n K H x y f B=>?_];rw[aN.mp H,q] at B;cases B;show ((low x).mp\fst m n x f).2
def CJ(Cs:gL)(vs:-V)(H:Hp)(Q:VK)(x:gL)(ts:-Tri)(A:-gL):Prop:=vs=[.r x]/\SkA Cs H x ts A/\Good ts/\↑ts<=200/\
 ∀T vs ls H',H T=gf->SmL A H H'->H' T*>.a vs->Paired (lJ H H' T) vs ls->Pcs ts ls->(∀x,Co ts x->∃l∈ls,x∈l)->↑ls<=600->Q (.r T) H'
def sL(Cs:gL):Sp:=du\CJ Cs
section
def mw:aR [↑36,"told","seen",↑84,"piece"] [↑36] (aI pH):=.f
def C0{f f1 f2 Cs:gL}{fd d1 d2:i4}(U:Fun K "pieces" "pieces" pH f fd)(X:SCls K Cs)(MC:!gq Cs 1 ↑74 [↑86] (ma Cs) f1 d1)
  (GO:!Use 1 ↑90 [↑36,↑84] (wq Cs) f2 d2):!aA CX0 2 f fd [↑36] (sL Cs):=by
 show U.ok mw (!3) λ_ _ _ s H vs _ _ hr h=>?_
 let#[x,ts,A',1,sk,g,hl,q]:=h;let hu:=cG hr;let bK:=line5000;erw[_,af (sx 1 mw.nd\cz dP)
  (af (sx 2 mw.nd iJ)
  (af (cf bP rfl (bU\mz (pv 0) X.cl MC.m MC.g hr MC.b .nil pass0) (gx 3 mw.nd)
   (aj (bO (eG\g6 hu (pv 3) (pv 2))
    (af (sx 4 mw.nd\uc GO hr (ae (pv 0)\pa1 (pv 3)))
    (af (c9\cP c7 eM eO dJ (pv 1) (pa1\pv 4))
    (aj\c9 (cP lY AU MB wB (pv 2)\pa1 (sR (N:=["each"]) (fr:=[gf]) (kB ⋯ rfl ⋯ ⋯) rfl (bU\pv 4)
     (λC s H fp Oo=>#[gx 0 (⋯:(["each"]:-Str).Nodup),dN,pv 0,d_])))))) bN)))
  (aj\aK (pv 1)))),?_]
 erw[⋯,λT H1 hT s1 y1=>?_];show λS H2 hS s2 y2=>?_;let a2:T≠S:=ao y1 hS;let a3:H S=gf:=s1.free hS;let sA:=sk.dom a3;let a4:=sk.sm\Sm.of (s1<*s2);let#[dx,O,R,D,S0,vo,bS,L0,bd,eA]:=id a4;erw[2,x,dx,2,bd.ob,1,x,ts,1,a4.at,λp cs H3 hp s3 y3 up ad lcs=>?_];let be:=(s1<*s2)<*s3;let b0:H p=gf:=(s1<*s2).free hp;let bg:T≠p:=ao (s2>>y1) hp;let bi:S≠p:=ao y2 hp;erw[p,1,#[_,SqL.of y3],dM (K:=[]) (a:=p) (xs:=nV cs) (λi Z H'=>∃o3 o4 vs ls,Z=[gm\.r x,gm\.r T,gm\.r S,o3,o4]/\SmL A' H H'/\H' p*>.a (nV cs)/\H' T*>.a vs/\Paired (lJ H H' T) vs ls/\H' S*>.k (ls.flatten.map kb)/\
   Pcs ts ls/\(∀c∈cs.take i,∃m∈ls,c∈m)/\(∀m∈ls,∀c,m[0]?*>c->c∈cs.take i)/\↑ls<=i)
  #[gf,gf,[],[],1,SmL.of be,y3,s3>>s2>>y1,.nil,s3>>y2,#[∅,∅,.nil],∅,∅,au _] (by rintro i Z H' _ ⟨_,_,_,_,_,_,e,_⟩;show SqL.of e) ?_ ?_]
 .rintro i y Z H' hi ⟨o3,o4,al,ls,rfl,sm,am,L,pr,v,B,I,an,a5⟩;rw[nV,aU] at hi;let#[c,hc,1]:=bQ.mp hi;let b1:=(aq.mp hc).1;let et:cs.take (i+1)=cs.take i++[c]:=by rw[bq,hc];rfl
  let b2:ls.flatten.length<=600:=by
   have:=g7 B.dis (m:=cs) λz d=>by
    let#[m,hm,bl]:=cR.mp d;let#[a,_,ha,hh]:=B.co m hm;show (ad z).mpr\((hh z).mp bl).co g ha
   lia
  erw[3,S,2,DGet.k (k:=Sum.inl (c:Int)) v,?_];rw[t5];by_cases ap:c∈ls.flatten
  .refine#[gB,by rw[Ol ap];rfl,aP #[0,al,ls,1,sm,am,L,pr,v,B,λz d=>?_,λm hm z d=>?_,()]]
   .rw[et] at d;rcases az.mp d with d|d
    .exact I z d
    rw[aN.mp d];let#[m,hm,h]:=cR.mp ap;erw[m,hm,h]
   rw[et];show bR _\an m hm z d
  erw[gn,by rw[Om ap];rfl,bf ?_];let bm:Co ts c:=(ad c).mp\aJ hc;erw[3,x,ts,A',c,1,sk.sm sm.sm,g,hl,bm,λr l H5 u M y5 a6 hm ll=>?_];let#[#[bn,h0,dj],a7,a8,bt,bw]:=#[B.step g up ad hc I an ap a6 hm,(a6.imp λh=>bz h:l.Nodup),(M.sm.keep L (λz=>z):H5 T*>.a al),M.new sA v,(M.sm.keep am (λz=>z):H5 p*>.a (nV cs))];let rT:r≠T:=λz=>by rw[z,L] at u;cases u
  let rS:r≠S:=λz=>by rw[z,v] at u;cases u
  let rp:r≠p:=λz=>by rw[z,am] at u;cases u
  let bx:H r=gf:=sm.sm.free u;erw[2,.l #[1,_,SqL.of a8],2,T,6,a8,by rw[aD pr];lia,λH6 k6 y6=>?_];let aM:H6 S*>.k (ls.flatten.map kb):=(k6 S a2.symm)<*bt;let a9:H6 r*>.a (nV l):=(k6 r rT)<*y5;erw[2,.o\.o (.l #[1,.l #[_,aM]]),2,r,1,#[_,SqL.of a9],λD2 a0=>?_];show wc (K:=[]) (a:=r) (xs:=nV l) (λi Z H'=>Same H6 H'/\H' D2*>.k ((l.take i).map kb)/\∃o,Z=[o]) #[bT a0,aW,gf,1] (by rintro i Z H' _ ⟨e,_⟩;show SqL.of (e>>a9)) ?_ ?_
  .rintro j y Z H7 hj ⟨Y,y7,o,rfl⟩;rw[nV,aU] at hj;let#[z,d,1]:=bQ.mp hj;let bb:l.take (j+1)=l.take j++[z]:=by rw[bq,d];rfl
   let nz:z∉l.take j:=λh=>by
    let nd:=a7;rw[<-di (j+1) l,bb,aQ,aQ] at nd;show nd.1.2.2 z h z ∅ rfl
   erw[2,_,Sum.inl (z:Int),y7,1,by rw[av,aZ];lia,λb o' e=>?_,?_,2]
   .rw[aS\ao e a0];show Y _ _ e
   rw[aW,mV,Oi nz,bb]
  rintro Z H7 ⟨Y,y7,o,rfl⟩;rw[a_,b_] at y7;let bA:=Y>>aM;erw[S,D2,6,(ao aM a0),bA,.l y7,by rw[av,av];lia,?_];walk_at"H7 S H8 k8 y8";rw[sS l _ dj a7] at y8;let ab:∀b o,b≠S->b≠T->H5 b*>o->H8 b*>o:=λb o n n' e=>by rw[k8 b n];show Y _ _\(k6 b n').trans e
  erw[8,ls++[l],1,λb o e=>?_,ab p _ bi.symm bg.symm bw,(k8 T a2)<*(Y>>y6),?_,by rw[y8,fS,nK],bn,λz d=>?_,λm a1 z d=>?_,by rw[aE,ck];lia]
  .let nS:=ao e a3;let nT:=ao e hT;rcases (sm<*M) b o e with e1|⟨z1,z2,ob,e1⟩
   .exact .l\ab b _ nS nT e1
   show .o #[z1,z2,ob,ab b _ nS nT e1]
  .refine cW (Paired.imp' (by rintro _ _ ⟨a,e1,e2,e3,e4⟩;erw[a,e1,e2,e3,ab a _ (λz=>by rw[z,v] at e4;cases e4) e3\M.sm.keep e4 λz=>z]) pr)\.c #[r,1,bx,rT,ab r _ rS rT y5] .nil
  .rw[et] at d;rcases az.mp d with d|d
   .let#[m,a1,h]:=I z d;erw[m,bR _ a1,h]
   rw[aN.mp d];erw[l,∅,(hm c).mpr\Conn.refl c]
  rw[et];rcases az.mp a1 with h' | h'
  .exact bR _\an m h' z d
  rw[aN.mp h',h0] at d;cases d;simp
 rintro Z H' ⟨o3,o4,al,ls,rfl,sm,am,L,pr,v,B,I,an,a5⟩;rw[a_] at a5;rw[a_,b_] at I;erw[2,q T al ls H' hT sm L pr B (λx hx=>I x\(ad x).mpr hx) ()]
end
def mny(ts:-Tri)(es:-(Nat×Nat)):-(Nat×Nat):=es.filter λd=>decide (d.1<d.2)||!decide ((d.2,d.1)∈keys ts)
def FD(Cs:gL)(vs:-V)(H:Hp)(Q:VK)(x:gL)(ts:-Tri)(A:-gL):Prop:=vs=[.r x]/\SkA Cs H x ts A/\↑ts<=200/\∀H',SmL A H H'->Q (.i (↑(mny ts\keys ts):Int)) H'
def y0(Cs:gL):Sp:=du\FD Cs
def cntV(ts:-Tri)(c p r:Nat):-V:=[.i (c:Int),.i (↑(mny ts\keys ts):Int),.i (↑ts:Int),.i (p:Int),.i ((2*(p:Int)-r-c+↑(mny ts\keys ts)-↑ts)/2),.i (r:Int)]
def B6(Cs:gL)(vs:-V)(H:Hp)(Q:VK)(x:gL)(ts:-Tri)(A:-gL):Prop:=vs=[.r x]/\SkA Cs H x ts A/\Good ts/\(∀c,Co ts c->One (En ts) c)/\↑ts<=200/\
 ∀T (cs:-Nat) (ls rl:List\-Nat) H',H T=gf->SmL A H H'->cs.Pairwise (· < ·)->(∀c,c∈cs↔Co ts c)->Pcs ts ls->(∀x,Co ts x->∃l∈ls,x∈l)->Rims (ar\En ts) rl->H' T*>.u (cntV ts ↑cs ↑ls ↑rl)->Q (.r T) H'
def wt(Cs:gL):Sp:=du\B6 Cs
section
def IG:aR [↑36] [↑36] (aI oE):=.f
def Gu{f Cs:gL}(U:Fun K ↑55 ↑55 oE f fd)(T:bW mg)(X:SCls K Cs):!aA CX0 1 f fd [↑36] (y0 Cs):=by
 show U.ok IG (!3) λ_ _ _ _ H vs _ _ hr h=>?_
 let#[x,ts,A',1,#[dx,O,R,r,S,vo,cs,L,sk,eA],hl,q]:=h;let hu:=cG hr;let ap:=line5000;erw[_,aj\aK (pln T.len (dG (N:=["a","b",↑36]) (fr:=[gf,gf,gm 0]) (g:=jW [] 2\eX (cE 0) (eX (cE 1) jX)) (tt:=tOr (m9\tOp (rI0 λi j=>.bl (decide (i<j))) (bC 0) (bC 1))\tB (tu (qQ\dU (bC 1) (dU (bC 0) fk))\uD K (bC 2) ↑88)) cpK rfl (pR\gI (pv 0) rfl)
    (λC' s' H' fp Oo=>#[cu rfl\aG (gx 0 (⋯:(["a","b",↑36]:-Str).Nodup)) (aG (gx 1 (⋯:(["a","b",↑36]:-Str).Nodup)) cq),
     hU (PW.pt\gk (bH ni (pv 0) (pv 1)\nomark _) (gH\eG (g6 hu (aT\ae (pv 1) (pa1\pv 0))\gI (pv 2) rfl))),ag]))),?_]
 erw[2,x,Cs,dx,9,sk.ob,X.cl,X.thirds,1,r,2,sk.th,True.intro,λks vs o H2 hk fz=>?_];let#[sd,lk,ab,am,ad,an]:=#[xD hk,aD sd,(fz.sm:Sm H H2),ab.keep sk.ob (λz=>z),fz.at,(Paired.imp' (by rintro _ _ ⟨a,e,h⟩;erw[a,e,ab.keep h λz=>z]) sd:SdsAt H2 ks (keys ts))];show λZ_ B=>wM (d:=r) (o:=o) (u:=.dT\(ents ts).map bD) (ks:=ks) (λi Z ys H'=>∃C D,Z=[C,D,gm\.r x]/\Same H2 H'/\H' Z_*>.a ys/\↑ys=↑(mny ts\(keys ts).take i)) #[gf,gf,1,bT B,aW,1] (by rintro i Z ys H' _ ⟨_,_,_,e,_⟩;show e _ _ ad) ?_ ?_
 .rintro i y Z ys H' hi ⟨C,D,rfl,sm,n,l⟩;let#[#[a,b],hs,c,1,hc]:=cD an hi;let et:(keys ts).take (i+1)=(keys ts).take i++[(a,b)]:=by rw[bq,hs];rfl
  let lt:↑ys<=600:=by rw[l];have:=gU (λd:Nat×Nat=>decide (d.1<d.2)||!decide ((d.2,d.1)∈keys ts))\(keys ts).take i;rw[aZ,mC] at this;unfold mny;lia
  let yes:(decide (a<b)||!decide ((b,a)∈keys ts))=gn->mny ts ((keys ts).take (i+1))=mny ts ((keys ts).take i)++[(a,b)]:=λh=>by
   unfold mny;rw[et,fR,Av (by show h)];rfl
  erw[c,2,SqT.of (sm>>hc),1,9,6,?_];erw[3,6,2,?_];by_cases al:a<b
  .rw[Ol (by change (a:Int)<b;lia)];show bf\bf #[n,(),λHn I M=>#[9,λY o' e=>(I Y\ao e B)<*(sm>>e),M,?_]];rw[yes (by rw[Ol al];rfl),aE,aE,l];rfl
  rw[Om (by change ¬(a:Int)<b;lia)];show aP #[3,lit2,λt1 H3 g1 m y3=>?_];erw[2,x,Cs,dx,9,m>>sm>>am,X.cl,X.thirds,1,r,2,.o #[_,ky b a,t1,.o #[o,m>>sm>>ad],1,y3,1],?_];by_cases p:(b,a)∈keys ts
  .let hv:(bu ((ents ts).map bD)\ky b a).isSome=gn:=by
    cases e:bu ((ents ts).map bD) (ky b a) with
    |none=>show (fE.mp e p).elim
    |some v=>rfl
   erw[gB,by rw[hv];rfl,aP #[9,sm<*m,m>>n,?_]];unfold mny at l |-;rw[et,fR,Au (by simp[al,p]),jd,fQ];show l
  erw[gn,by rw[fE.mpr p];rfl,bf #[m>>n,(),λHn I M=>#[9,λY o' e=>(I Y\ao e B)<*(m>>sm>>e),M,?_]]];rw[yes (by simp[p]),aE,aE,l];rfl
 rintro Z ys H' ⟨C,D,rfl,sm,n,l⟩;rw[show ↑ks=↑(keys ts) from lk,b_] at l;erw[Z_,ys,1,.l\SqL.of n,?_];rw[l];show q H'\(fz.smL (by rw[eA];show aL)).trans (SmL.of sm)
def jq:aR [↑36,↑74,"sides",↑71,"parts","edges","handles"] [↑36] (aI oU):=.f
def Ck{f L M N S Y Cs:gL}{fd d1 d2 Z d4 d5:i4}(U:Fun K ↑66 ↑66 oU f fd)(T:bW mg)(X:SCls K Cs)(d:!gq Cs 1 ↑74 [↑86] (ma Cs) L d1)(e:!gq Cs 1 ↑71 [↑86] (vP Cs) M d2)
  (GM:!Use 1 ↑55 [↑36] (y0 Cs) N Z) (GP:!Use 2 "pieces" [↑36] (sL Cs) S d4) (GR:!Use 2 "rims" [↑36] (kT Cs) Y d5):!aA CX0 3 f fd [↑36] (wt Cs):=by
 show U.ok jq (!3) λ_ _ _ _ H _ _ _ o h=>?_
 let#[x,ts,c,1,sk,g,ab,i,q]:=h;let j:=o.mono (⋯:1<=2);let u:=o.mono (⋯:2<=2);erw[_,af (sx 1 jq.nd\pln T.len (mz (pv 0) X.cl d.m d.g j d.b .nil pass0))
  (af (sx 2 jq.nd\uc GM j (pa1\pv 0))
  (af (sx 3 jq.nd\pln T.len (mz (pv 0) X.cl e.m e.g j e.b .nil pass0))
  (af (sx 4 jq.nd\pln T.len (uc GP u\pa1 (pv 0)))
  (af (sx 5 jq.nd\pln T.len (uc GR u\pa1 (pv 0)))
  (af (sx 6 jq.nd\ak Gh (ak fh (ak bo (ak fh (ak fh (ak dQ ag\pv 4)\pv 5)\pv 1)\pv 2)\pv 3) ag)
  (aj\aK (aT\ae (pv 1) (ae (pv 2)\ae (pv 3) (ae (pv 4)\ae (pv 6) (pa1\pv 5)))))))))),?_]
 let#[dx,O,R,D,S0,vo,a5,L0,v,eA]:=id sk;erw[2,x,dx,2,v.ob,1,x,ts,1,sk.at,λp cs H1 hp s1 y1 up ad lcs=>?_];erw[p,2,.l\SqL.of y1,?_];let y:SmL c H H1:=SmL.of s1;erw[2,x,ts,c,1,sk.sm y.sm,i,λH2 am=>?_];let n:=y<*am;let an:=n.sm.keep v.ob (λz=>z);erw[2,x,dx,2,an,1,x,ts,1,(sk.sm n.sm).at,λl a6 H3 a7 s3 y3 ap=>?_];erw[l,2,.l\SqL.of y3,?_];let B:=n.trans\SmL.of s3;erw[2,x,ts,c,1,sk.sm B.sm,g,i,λT4 a8 ls H4 a9 aM y4 a0 a1 al bb=>?_];erw[T4,2,.l\SqL.of y4,?_];let C:=B<*aM;erw[2,x,ts,c,1,sk.sm C.sm,g,ab,i,λT5 bd rl H5 be a2 y5 a3 rims bg lr=>?_];erw[T5,2,.l\SqL.of y5,?_];let I:=C<*a2;rw[a_,ap,aD a0,aD a3];erw[2,6,.l #[⋯,()],2,6,2,6,2,6,2,6,6,#[⋯,⋯],?_];erw[3,3,3,by change 6<=hH;decide,λr H6 a4 s6 y6=>?_];show q r cs ls rl H6 (I.sm.free a4) (I.trans\SmL.of s6) up ad a1 al rims y6
end
structure Cn(ts:-Tri)(v e t p:Nat)(h:Int)(r:Nat):Prop where
 vC:∃cs:-Nat,cs.Nodup/\(∀c,c∈cs↔Co ts c)/\v=↑cs
 rC:∃rl,Rims (ar\En ts) rl/\r=↑rl/\2*e=3*↑ts+rl.flatten.length
 pC:∃ls,Pcs ts ls/\ft ts ls/\p=↑ls
 tC:t=↑ts
 hC:2*h=2*(p:Int)-r-v+e-t
def cnI(v e t p:Nat)(h:Int)(r:Nat):-Int:=[(v:Int),(e:Int),(t:Int),(p:Int),h,(r:Int)]
section
variable {ts us:-Tri}{v e t p r v' e' t' p' r':Nat}{h h':Int}{rl rl' ls ls':List (-Nat)}
def Cn.corners(c:Cn ts v e t p h r)(f:Cn us v' e' t' p' h' r'){xs:-Nat}(nd:xs.Nodup)(g:∀c,c∈xs->¬Co ts c)(i:∀c,Co us c↔Co ts c\/c∈xs):v'=v+↑xs:=by let#[cs,j,d,1]:=c.vC;let#[ds,l,m,1]:=f.vC;rw[<-aE];show mx l (aQ.mpr #[j,nd,λa ha b n e=>g b n (e ▸ (d a).mp ha)]) λc=>by rw[m,i,az,d]
def Cn.rims(s:Skn ts)(c:Cn ts v e t p h r)(b:Rims (ar\En ts) rl):r=↑rl/\2*e=3*t+rl.flatten.length:=by let#[f,d,h1,h2]:=c.rC;have:=Rims.uniq (rim_steps s).1 (rim_steps s).2 d b;subst this;erw[h1,by rw[c.tC];show h2]
def Cn.pieces(c:Cn ts v e t p h r)(b:Pcs ts ls)(al:ft ts ls):p=↑ls:=by let#[g,d,f,1]:=c.pC;rw[Pcs.uniq d b f al]
def Cn.ret{f:Nat->Nat}(c:Cn ts v e t p h r)(b:Cn us v' e' t' p' h' r')(rt:Ret ts us f):p=p':=by let#[ls,d,g,1]:=c.pC;let#[ms,p1,i,1]:=b.pC;show rt.len d p1 g i
def Cc{R S:Nat->Nat->Prop}(h:∀a b,R a b↔S a b)(c:Rims R rl):Rims S rl:=
 #[λl d=>#[#[(c.cyc l d).ne,(c.cyc l d).nd,λi p q h1 h2=>(h _ _).mp\(c.cyc l d).ch i p q h1 h2],λp q h1 h2=>(h _ _).mp\(c.cyc l d).back p q h1 h2],c.least,λp ⟨q,e⟩=>c.all p #[q,(h _ _).mpr e],c.rise]
def Cn.same(s:Skn ts)(s':Skn us)(c:Cn ts v e t p h r)(d:Cn us v' e' t' p' h' r')(f:∀a b,ar (En us) a b↔ar (En ts) a b):r'=r/\2*e' + 3*t=2*e+3*t':=by let#[rl,g,h1,h2]:=c.rC;let#[i,j]:=d.rims s'\Cc (λa b=>(f a b).symm) g;have:=c.tC;erw[i<*h1.symm,()]
def sq{R:Nat->Nat->Prop}(h:∀a b,¬R a b)(d:Rims R rl):rl=[]:=by
 cases rl with
 |nil=>rfl
 |cons l rl=>
  let#[c,#[x,_,e],#[q,_,f]]:=#[d.cyc l aL,c.toPath.begin,c.step e];show (h>>f).elim
def Cb{R:Nat->Nat->Prop}{a b c:Nat}(i:a≠b)(j:b≠c)(n:c≠a)(h:∀p q,R p q↔(p=b/\q=a)\/(p=c/\q=b)\/(p=a/\q=c))(o:Rims R rl):↑rl=1/\rl.flatten.length=3:=by
 let one:∀a b c,R a b->R a c->b=c:=λx y z h1 h2=>by rw[h] at h1 h2;lia
 let inj:∀a b c,R a c->R b c->a=b:=λx y z h1 h2=>by rw[h] at h1 h2;lia
 let C:Cyc R [a,c,b]:=Cy.cyc #[by simp[i,aO j,aO n],λp q e=>by
  simp[prs] at e;rw[h];lia] ∅
 let ex:∃k m:Nat,([a,c,b]:-Nat)[k]?*>m/\∀x∈([a,c,b]:-Nat),m<=x:=by
  by_cases h1:a<=c/\a<=b
  .exact#[(0),a,1,λx d=>by simp at d;lia]
  by_cases h2:c<=b
  .exact#[(1),c,1,λx d=>by simp at d;lia]
  erw[(2),b,1,λx d=>by simp at d;lia]
 let#[k,m,g,hm]:=ex;let r:Rims R [[a,c,b].drop k++[a,c,b].take k]:=by
  erw[λl f=>?_,λl f x d p e=>?_,λp ⟨q,s⟩=>#[_,aN.mpr rfl,?_],lR _ _]
  .rw[aN.mp f];show C.rot k
  .rw[aN.mp f] at d e;rw[sQ g] at d;cases d;show hm p\tp.mp e
  show tp.mpr ?_;rw[h] at s;simp only[ah,cK,or_false];lia
 rw[Rims.uniq one inj o r];erw[1,?_];rw[nK,aE,cQ,aZ];have:=(aq.mp g).1;simp at this |-;lia
def Gg(g:Good ts)(d:Pcs ts ls)(al:ft ts ls){a:Nat}(ha:Co ts a)(h:∀p q,Co ts p->Co ts q->Conn ts p q):↑ls=1:=by
 let#[l,e,_]:=al a ha;have:∀m∈ls,m=l:=λm hm=>by
  let#[x,_,f,ex]:=d.co m hm;let#[y,_,i,j]:=d.co l e;show qp (R:=(· < ·)) (λa b h h'=>()) (d.up m hm) (d.up l e) λz=>by
   rw[ex,j];erw[λc=>(h y x i f)<*c,λc=>(h x y f i)<*c]
 cases ls with
 |nil=>cases e
 |cons m ms=>
  cases ms with
  |nil=>rfl
  |cons n ms=>
   let o:=this m ∅;let r:=this n ∅;have:=d.nodup;rw[o,r] at this;simp at this
def Cn.upto{n:Nat}(c:Cn ts v e t p h r)(b:∀d,Co ts d↔d<n):v=n:=by
 let#[cs,nd,m,1]:=c.vC;have:=mx nd rh λx=>by rw[m,b,iB]
 rwa [iz] at this
def Cn.all(s:Skn ts)(c:Cn ts v e t p h r){a:Nat}(ha:Co ts a)(b:∀p q,Co ts p->Co ts q->Conn ts p q):p=1:=by let#[ls,d,al,1]:=c.pC;show Gg s.g d al ha b
def Cls.cnt{n:Nat}(C:Cls ts)(c:Cn ts v e t p h r)(g:0<n)(f:∀d,Co ts d↔d<n):v=n/\r=0/\2*e=3*t/\p=1:=by let#[rl,i,h1,h2]:=c.rC;let j:=sq (by rintro a b ⟨x,y⟩;show y\C.cl a b x) i;subst j;have:=c.tC;erw[c.upto f,h1,by simp at h2;lia,c.all C.s ((f 0).mpr g) C.cn]
def Cls.cnt1{n a b d:Nat}{A:-Tri}(C:Cls ts)(pm:(ents ts).Perm\ents (A++[(a,b,d)]))(c:Cn A v e t p h r)(j:0<n)(i:∀d,Co ts d↔d<n):v=n/\r=1/\2*e=3*t+3/\p=1:=by let#[S,l,co,cn]:=C.less pm;let k:=C.s.g.sk;let f:=pX pm;let#[rl,m,h1,h2]:=c.rC;let#[o,q]:=Cb (k.ne f) (k.ne\k.rot f) (k.ne\k.rot (k.rot f)) l m;have:=c.tC;erw[c.upto λd=>(co d).trans\i d,(),(),c.all S ((co 0).mpr\(i 0).mpr j) cn]
end
def ID(Cs:gL)(vs:-V)(H:Hp)(Q:VK)(x:gL)(ts:-Tri):Prop:=vs=[.r x]/\cY Cs H x ts/\Skn ts/\↑ts<=200/\
 ∀T v e t p h r H',H T=gf->Sm H H'->Cn ts v e t p h r->H' T*>.u ((cnI v e t p h r).map V.int)->Q (.r T) H'
def lh(Cs:gL):Sp:=fm\ID Cs
def JX{f C:gL}{k:Nat}{ps:-Str}(G:!aA CX0 k f fd ps (wt C)):!aA CX0 k f fd ps (lh C):=
 G.imp λvs H Q E ⟨x,ts,ev,sk,s,e,q⟩=>by
  let#[A,sa]:=sk.a;erw[x,ts,A,ev,sa,s.g,s.o,e,λT cs ls rl H' i sm up b c al rims y=>?_];let nd:=up.imp λh=>bz h;let#[k,d]:=JL s rims nd b c al;show q T ↑cs ↑(mny ts\keys ts) ↑ts ↑ls k ↑rl H' i sm.sm #[#[cs,nd,b,1],#[rl,rims,1,sides2 s rims],#[ls,c,al,1],1,?_] ?_
  .change 2*k=_;rw[<-d];rfl
  rw[y];unfold cntV cnI;have:(2*(↑ls:Int)-↑rl-↑cs+↑(mny ts\keys ts)-↑ts)/2=k:=by have:2*(↑ls:Int)-↑rl-↑cs+↑(mny ts\keys ts)-↑ts=2*k:=d;lia
  rw[this];rfl
def Dj(xs:List\-Nat):Prop:=xs.Pairwise λl m=>∀x∈l,x∉m
def nj{xs:List\-Nat}(h:xs.flatten.Nodup):Dj xs:=(AE.mp h).2.imp λh x b hm=>h x b x hm rfl
def tK{xs ms:List\-Nat}(pm:ms.Perm xs)(f:Dj xs)(ne:∀l∈xs,l≠[])(g:ms.Pairwise λa b=>HT.lexLt (cI b) (cI a)=gB):ms.Pairwise λl m=>∀x y,l[0]?*>x->m[0]?*>y->x<y:=by
 let i:Dj ms:=(pm.pairwise_iff λ{l m} h x c hm=>h x hm c).mpr f;show (i.and g).imp λ⟨h1,h2⟩ x y c d=>?_;have:x≠y:=λe=>h1 x (aJ c) (e ▸ aJ d);have:¬y<x:=λh=>by rw[Dh d c h] at h2;cases h2
 lia
def si{a:gL}{xs:List\-Nat}{Q:VK}(h:H a*>.a vs)(pr:dA H vs xs)(n:↑vs<5000)
  (q:∀p ms f H',H p=gf->Same H H'->H' p*>.a f->dA H' f ms->ms.Perm xs->(ms.Pairwise λa b=>HT.lexLt (cI b) (cI a)=gB)->Q (.r p) H'):zg [] [.r a] H Q:=by
 erw[a,vs,xs.map cI,1,SqL.of h,xy pr,n,λp ix c pm d=>?_];let g:=aD pr;let e:∀i∈ix,i<↑xs:=λi hi=>by rw[<-g];show iB.mp\pm.mem_iff.mp hi
 let l:(ix.map λi=>(xs.map cI).getD i [])=(ix.map λi=>xs.getD i []).map cI:=by rw[bG];show rg λi hi=>?_;simp[List.getD,ay\e i hi]
 let m:((List.range ↑xs).map λi=>xs.getD i [])=xs:=by show uQ ∅ λi h1 h2=>?_;simp[List.getD,ay h2]
 rw[l,fC] at d;show q p (ix.map λi=>xs.getD i []) _ _ c (bT c) aW ?_ (by
  have:=pm.map λi=>xs.getD i [];rw[g,m] at this;show this) d
 let s1:=bT (o:=.a (ix.map λi=>vs.getD i .non)) c;clear pm d l m;generalize upd H p _=H1 at s1 |-;induction ix with
 |nil=>show .nil
 |cons i ix r=>
  show .c ?_ (r λj s=>e j\aC _ s);let hi:=ay\e i aL;let#[v,u,b,1,w]:=iT pr hi;erw[b,by simp[List.getD,u],by simp only[List.getD,hi,u7];show s1 _ _ w]
def gP(d l:-Nat):Prop:=∃k m,d=l.reverse.drop k++l.reverse.take k/\l.reverse[k]?*>m/\∀x∈l,m<=x
def gP.mem{d l:-Nat}(h:gP d l){x:Nat}:x∈d↔x∈l:=by let#[k,m,1,_]:=h;rw[tp,j8]
def gP.len{d l:-Nat}(h:gP d l):↑d=↑l:=by let#[k,m,1,b,_]:=h;have:=(aq.mp b).1;rw[aE,cQ,aZ];rw[jf] at this |-;lia
def IU{ds rl:List\-Nat}(pr:Paired gP ds rl)(b:Dj rl):Dj ds:=by
 induction pr with
 |nil=>show .nil
 |cons h t c=>
  let#[d1,d2]:=ji.mp b;show ji.mpr #[λe he x d f=>?_,c d2];let#[i,hi]:=cJ he;let#[g,j,l]:=cD t hi;show d1 g (aJ j) x (h.mem.mp d)\l.mem.mp f
def Ec{ds rl:List\-Nat}(pr:Paired gP ds rl):ds.flatten.length=rl.flatten.length:=by
 induction pr with
 |nil=>rfl
 |cons h t b=>rw[j6,j6,aE,aE,b,h.len]
def D_{ts:-Tri}{ds rl ms:List\-Nat}(s:Skn ts)(f:Rims (ar\En ts) rl)(pr:Paired gP ds rl)(pm:ms.Perm ds)(u:ms.Pairwise λa b=>HT.lexLt (cI b) (cI a)=gB) :
  Rims (ar\En (ts.map mir)) ms/\↑ms=↑rl/\ms.flatten.length=rl.flatten.length:=by
 let at_:∀d∈ms,∃l∈rl,gP d l:=λd hd=>by
  let#[i,hi]:=cJ\pm.mem_iff.mp hd;let#[l,c,h]:=cD pr hi;erw[l,aJ c,h]
 let cyc:∀d l,l∈rl->gP d l->Cyc (ar\En (ts.map mir)) d:=λd l c ⟨k,m,e,_⟩=>by
  have:=((f.cyc l c).rev).rot k;rw[e];erw[#[this.ne,this.nd,λi p q h1 h2=>kE.mpr\this.ch i p q h1 h2],λp q h1 h2=>kE.mpr\this.back p q h1 h2]
 erw[#[λd hd=>?_,λd hd x n p v=>?_,λp ⟨q,w⟩=>?_,tK pm (IU pr\nj (iI (rim_steps s).2 f)) (λd hd=>?_) u],pm.length_eq.trans\aD pr,pm.flatten.length_eq.trans\Ec pr]
 .let#[l,c,h]:=at_ d hd;show cyc d l c h
 .let#[#[l,c,h],j,#[k,m,1,y,hm]]:=#[at_ d hd,h.mem.mp v,h];rw[sQ y] at n;cases n;show hm p j
 .let h1:=kE.mp w;let cp:Co ts p:=by let#[#[r,h],_]:=h1;show (s.co1 h).2.1
  let#[#[l,c,j],#[i,hi],#[d,hd,h]]:=#[f.all p\xj s.g.sk (s.o p cp) h1,cJ c,iT pr hi];erw[d,pm.mem_iff.mpr\aJ hd,h.mem.mpr j]
 let#[l,c,h]:=at_ d\pm.mem_iff.mpr hd;show (cyc d l c h).ne
def IA(C:gL)(vs:-V)(H:Hp)(Q:VK)(x T:gL)(b:-V)(ts:-Tri):Prop:=vs=[.r x,.r T]/\cY C H x ts/\Skn ts/\↑ts<=200/\H T*>.a b/\ax H b ts/\∀H',Sm H H'->Q (.bl gn) H'
def zU(C:gL):Sp:=i8\IA C
section
def lC:aR [↑2,↑0,↑38,"_law_due",↑3,↑56] [↑2,↑0] (aI oG):=.f
def Jh{f f1 f2 f3 f4 f5 f6 fa C:gL}{fd d1 d2 d3 d4 d5 d6 da:i4}(U:Fun K ↑32 ↑32 oG f fd)(T:bW mg)(mS:mg ↑29 = gf)(be:mg ↑51 = gf)(X:SCls K C)(M:Mk K C fa)(cw:mg "Skin"*>.r C)(GS:!Use 2 "rims" [↑36] (kT C) f1 d1)
  (GN:!Use 3 ↑66 [↑36] (lh C) f2 d2) (MC:!gq C 1 ↑74 [↑86] (ma C) f3 d3) (GO:!Use 4 ↑82 [↑36,↑84] (tE C) f4 d4)
  (GA:!Use 6 ↑63 [↑2,↑3,↑56] (t9 C) f5 d5) (GB:!Use 1 ↑18 ["_law_row"] spBL f6 d6)
  (GK:!aA CX0 5 fa da [↑86,↑17] (jz C)) (bK:Binds K da [↑86,↑17] []):!aA CX0 7 f fd [↑2,↑0] (zU C):=by
 show U.ok lC (!4) λ_ _ _ s H vs _ _ d h=>?_
 let#[x,T0,vt,ts,1,sk,S,hl,hT,ht,q]:=h;let hu:=cG d;let bg:=d.mono (⋯:1<=6);let bx:=d.mono (⋯:2<=6);let bA:=d.mono (⋯:3<=6);let bS:=d.mono (⋯:4<=6);erw[_,(af (sx 2 lC.nd\iO M GK d rfl cw bK .nil pass0 (pa1 (dG (N:=[↑35,↑49,"_law_c"]) (fr:=[gf,gf,gf]) (g:=jW [] 3\eX (cE 0) (eX (cE 1)\eX (cE 2) jX)) (kB ⋯ rfl ⋯ ⋯) rfl (bU\pv 1)
    (λC s H fp Oo=>#[(cu rfl\aG (gx 0 (⋯:([↑35,↑49,"_law_c"]:-Str).Nodup)) (aG (gx 1 (⋯:([↑35,↑49,"_law_c"]:-Str).Nodup))\aG (gx 2 (⋯:([↑35,↑49,"_law_c"]:-Str).Nodup)) cq)),dN,(aT\ae (pv 0) (ae (pv 2)\pa1 (pv 1)))]))))
  (af (sx 3 lC.nd\cL (rN\rj (nU (⋯:2<=64) _) d.units) (by rfl) mS fT (pa1 (dG (N:=[↑67]) (fr:=[gf]) (kB ⋯ rfl ⋯ ⋯) rfl (bU\uc GS bx (pa1\pv 0))
    (λC s H fp Oo=>#[(gx 0 (⋯:([↑67]:-Str).Nodup)),dN,(uc GB bg\pa1 (rR rfl rfl T.list rfl be\pv 0))]))))
  (af (bO (PW.pt\gk (bH (h_ d.units) (uc GS bx\pa1 (pv 2)) (pv 3)\nomark _) (gH\bH (h_ d.units) (uc GN bA\pa1 (pv 2)) (uc GN bA\pa1 (pv 0)) (nomark _))) (aj\aK d_) bN)
  (af (cf bP rfl (bU\mz (pv 0) X.cl MC.m MC.g bg MC.b .nil pass0) (gx 4 lC.nd)
   (af (sx 5 lC.nd\rR rfl rfl T.list rfl be (uc GO bS\ae (pv 0) (pa1\pv 4)))
  (af (bO (dO\uc GA d (ae (pv 0)\ae (pv 4) (pa1\rR rfl rfl T.list rfl be (pv 5)))) (aj\sx 5 lC.nd (uc GB bg\pa1 (pv 5))) bN)
  (aj\bO (bH (h_ d.units) (uc GO bS\ae (pv 2) (pa1\pv 4)) (pv 5)\nomark _) (aj\aK d_) bN))))
  (aj\aK d_))))),?_]
 let d0:=line5000;let k:=S.g.sk;let cx:=aD ht;erw[2,T0,1,#[_,SqL.of hT],λZ_ hZ=>eD (K:=[]) (a:=T0) (xs:=vt) (λi Z ys H'=>∃o1 o2 o3,Z=[o1,o2,o3]/\Same H H'/\H' Z_*>.a ys/\ax H' ys\(ts.take i).map mir) #[gf,gf,gf,1,bT hZ,aW,.nil]
  (by rintro i Z ys H' _ ⟨_,_,_,_,e,_⟩;show SqL.of (e>>hT)) ?_ ?_]
 .rintro i v Z ys H' hi ⟨o1,o2,o3,rfl,sm,cZ,tr⟩;let#[#[#[a,b,c],hs,t,1,hb],d7,hb]:=#[cD ht hi,(aq.mp hs).1,(hb:H t*>.u [.i (a:Int),.i (b:Int),.i (c:Int)])];erw[t,2,SqT.of (sm>>hb),1,9,9,6,3,2,lit3,λt1 H3 d8 s3 y3=>?_];let b0:=s3>>cZ;erw[b0,by rw[aD tr,av,aZ];lia,λHn y yn=>#[8,1,λb' o e=>(y b'\ao e hZ)<*(s3>>sm>>e),yn,?_]];rw[bq,hs,bc];show g_ (u:=(a,c,b)) b0 y (tr.same s3) y3
 rintro Z ys H1 ⟨o1,o2,o3,rfl,s1,c0,b1⟩;rw[cx,b_] at b1;let j:=xX S;let lm:↑(ts.map mir)<=200:=by rw[av];show hl
 show λB c1 b2 b3 d9=>?_;let b4:=iF (Cs:=C) b2 b3;erw[B,c1,Z_,ys,ts.map mir,1,aW,b4>>c0,b1.same b4,lm,j.g,j.o,λH2 c2 ap=>#[1,?_]];let aM:Sm H H2:=(Sm.of s1).trans\gC b2 b3 c2;let#[A2,c3]:=(sk.sm aM).a;erw[2,x,ts,A2,1,c3,S.g,S.o,hl,λR vs rl H3 hR c4 yR pr rims ea c5=>?_];let bi:dA H3 vs rl:=Paired.imp' (by rintro _ _ ⟨a,e,_,_,h⟩;erw[a,e,h]) pr;erw[R,1,#[_,SqL.of yR],λY hY=>eD (K:=[]) (a:=R) (xs:=vs) (λi Z ys H'=>∃o ds,Z=[o]/\Same H3 H'/\H' Y*>.a ys/\Paired (lJ H3 H' Y) ys ds/\Paired gP ds\rl.take i) #[gf,[],1,bT hY,aW,.nil,.nil]
  (by rintro i Z ys H' _ ⟨_,_,_,e,_⟩;show SqL.of (e>>yR)) ?_ ?_]
 .rintro i v Z zs H' hi ⟨o,ds,rfl,sm,b5,D,n⟩;let#[#[l,bl,a,1,ha],b6,cyc,eb,ec]:=#[cD bi hi,aJ bl,rims.cyc l b6,(aq.mp bl).1,c5 l b6];erw[2,a,2,SqL.of (sm>>ha),λb H4 hb s4 y4=>?_];let y4:H4 b*>.a (nV l.reverse):=by rw[y4];unfold nV;rw[AA]
  erw[b,l.reverse,1,y4,‹cyc.ne›,(nQ l).nodup_iff.mpr cyc.nd,by rw[jf];lia,λr kk m H5 b7 s5 y5 hk hm=>?_];let bm:=s4<*s5;let c6:=bm>>b5;erw[c6,by rw[aD D,aD n,aZ];lia,λHn y yn=>#[_,ds++[l.reverse.drop kk++l.reverse.take kk],1,λb' o e=>(y b'\ao e hY)<*(bm>>sm>>e),yn,?_,?_]]
  .let rY:r≠Y:=(ao (s4>>b5) b7).symm;show cW (Paired.imp' (by rintro _ _ ⟨a,I,e2,e3,e4⟩;erw[a,I,e2,e3,(y a e3)<*(bm>>e4)]) D)\.c #[r,1,sm.free\s4.free b7,rY,(y r rY)<*y5] .nil
  rw[bq,bl];show cW n\.c #[kk,m,1,hk,λx hx=>hm x (by rw[j8];show hx)] .nil
 rintro Z zs H4 ⟨o,ds,rfl,s4,c8,D,n⟩;rw[aD bi,b_] at n;show si c8 (Paired.imp' (by rintro _ _ ⟨a,I,_,_,e4⟩;erw[a,I,e4]) D) (by rw[aD D,aD n];lia) λW ms vm H5 hW s5 yW b8 pm pw=>?_;let#[#[bn,db,dc],b9,#[A1,ca]]:=#[D_ S rims n pm pw,(c4.sm.trans\(Sm.of s4).trans (Sm.of s5):Sm H2 H5),(ap.sm b9).a];erw[2,B,ts.map mir,A1,1,ca,j.g,j.o,lm,λR2 ed ee H6 ef bt cb cc cd _ _=>?_];let e2:=Rims.uniq (rim_steps j).1 (rim_steps j).2 cd bn;subst e2;let dd:∀{H H':Hp}{vs:-V}{ls:List\-Nat},Sm H H'->dA H vs ls->dA H' vs ls:=λs h=>Paired.imp' (by rintro _ _ ⟨a,e,h⟩;erw[a,e,s.keep h λz=>z]) h;erw[2,qz cb (Paired.imp' (by rintro _ _ ⟨a,e,_,_,h⟩;erw[a,e,h]) cc) (bt.sm.keep yW λz=>z) (dd bt.sm b8) #[2,aP ?_]];let ce:=b9<*bt.sm;erw[2,B,ts.map mir,1,ap.sm ce,j,lm,λT1 v1 I t1 p1 h1 r1 H7 eh dj ab y1=>?_];let cg:=ce<*dj;erw[2,x,ts,1,(sk.sm aM).sm cg,S,hl,λT2 v2 e2 t2 p2 h2 r2 H8 ei ch ad y2=>?_];let ci:cnI v1 I t1 p1 h1 r1=cnI v2 e2 t2 p2 h2 r2:=by
  let a1:=ad.corners ab (xs:=[]) .nil ∅ λc=>by rw[m7 S.g];simp
  let#[#[a2,a3],#[a4,a5],a6,a7,a8]:=#[ab.rims j bn,ad.rims S rims,ad.ret ab\FV S.g,ab.tC,ad.tC];rw[av] at a7;let a9:=ab.hC;let a0:=ad.hC;simp only[iy] at a1;unfold cnI;rw[show v1=v2 by lia,show I=e2 by lia,show t1=t2 by lia,show p1=p2 by lia,show r1=r2 by lia,show h1=h2 by lia]
 rw[ci] at y1;show jF (ch.keep y1 λz=>z) y2 #[2,aP ?_];let#[bw,bb,dk,#[dx,O,RR,DD,SS,dl],dm]:=#[cg<*ch,(sk.sm aM).sm bw,ap.sm bw,bb.obj,aM<*bw];clear ci ab ad y1 y2 bn db dc cd cc cb pm pw b8 D n ca ap rims bi pr;erw[2,x,dx,2,dl,1,x,ts,1,bb,λp cs H9 hp s9 y9 up dn lcs=>?_];erw[p,1,#[_,SqL.of y9],dM (K:=[]) (a:=p) (xs:=nV cs) (λi Z H'=>∃o4 o5,Z=[gm\.r x,gm\.r T0,gm\.r B,gm\.r W,o4,o5]/\Sm H9 H') #[9,Sm.of\Same.refl _] (by rintro i Z H' _ ⟨_,_,_,sm⟩;show SqL.of\sm.keep y9 λz=>z) ?_ ?_]
 .rintro i v Z Ha hi ⟨o4,o5,rfl,bd⟩;rw[nV,aU] at hi;let#[#[c,hc,1],am,cj,#[Aa,dp]]:=#[bQ.mp hi,((dn c).mp\aJ hc:Co ts c),(Sm.of s9)<*bd,(bb.sm cj).a];erw[3,x,ts,Aa,c,1,dp,S.g,hl,am,λr ps Hb ej cn yb dr an=>?_];erw[r,2,SqL.of yb,λu Hc ek sc yc=>?_];let yc:Hc u*>.a (nV ps.reverse):=by rw[yc];unfold nV;rw[AA]
  let cr:=cj.trans\cn.sm.trans (Sm.of sc);dsimp only [nh,cE];show pA (λZ H'=>∃u tt,Z=[gm\.r x,gm\.r T0,gm\.r B,gm\.r W,gm\.i (c:Int),gm\.r u]/\Sm Hc H'/\H' u*>.a (nV tt)/\∀al,Rnd (En\ts.map mir) c al->al=tt) ?_ ?_
  .intro NX tl;erw[3,2,u,2,SqL.of yc,λu2 Hd el sd yd=>?_];let yd:Hd u2*>.a (nV ps):=by rw[yd];unfold nV;rw[<-AA,List.reverse_reverse]
   erw[x,ts,c,u2,ps,1,bb.sm\cr.trans (Sm.of sd),S,am,yd,an,λb He se dy dF=>?_];let ye:=se>>sd>>yc;let ct:=sd<*se;cases b with
   |false=>
    let#[L,z,e,h]:=dF rfl;erw[2,aP\tl _ _ #[u,ps.reverse,1,Sm.of ct,ye,λal r'=>(yo S am an r').2 L z e h]]
   |true=>
    let h:=dy rfl;erw[2,bf #[2,u,ps.reverse,1,ye,‹an.path.ne›,(nQ ps).nodup_iff.mpr an.path.nd,by rw[jf];show dr,λu3 kk m Hf em sf yf hk hm=>?_]];show tl _ _ #[u3,2,Sm.of\ct.trans sf,yf,λal r'=>(yo S am an r').1 h kk m hk λx hx=>hm x (by rw[j8];show hx)]
  rintro Z Hf ⟨u,tt,rfl,cv,yf,dK⟩;let dL:=cr<*cv;let#[Ao,dT]:=(dk.sm dL).a;erw[3,B,ts.map mir,Ao,c,1,dT,j.g,lm,(m7 S.g).mpr am,λr' al Hg en smg yg eo dV=>?_];rw[dK al dV] at yg;erw[2,Hy yg (smg.sm.keep yf λz=>z) #[2,aP #[9,?_]]];show bd.trans\(cn.sm.trans\Sm.of sc).trans (cv<*smg.sm)
 rintro Z Ha ⟨o4,o5,rfl,bd⟩;show q Ha\dm.trans ((Sm.of s9)<*bd)
end
def pQ{α β:Type}{F:α->β->Prop}:∀{xs:List α}{ys:List β}(k:Nat),Paired F xs ys->Paired F (xs.drop k) (ys.drop k)
 |_,_,0,h=>h
 |_,_,_+1,.nil=>.nil
 |_,_,k+1,.cons _ t=>pQ k t
def CL(vs:-V)(H:Hp)(Q:VK)(p T:gL)(q:Int×Int)(c:-V)(ts:-Tri):Prop:=vs=[.r p,.r T]/\H p*>.a (bE q)/\cC q/\H T*>.a c/\T≠p/\ax H c ts/\↑ts<=200/\
 ∀r d b e H',H r=gf->But p H H'->H' p*>.a (bE e)->cC e->H' r*>.a d->ax H' d b->↑b=↑ts->(ents b).Perm (ents ts)->Q (.r r) H'
def w8:Sp:=jU CL
section
def kD:aR [↑1,↑0,"_law_found",↑35,↑49,"_law_c",↑6] [↑1,↑0] (aI pL):=.f
def C5{f f1:gL}{fd d1:i4}(U:Fun K ↑46 ↑46 pL f fd)(T:bW mg)
  (GD:!Use 1 ↑13 [↑1,↑33] hJ f1 d1) :
  !aA CX0 2 f fd [↑1,↑0] w8:=by
 show U.ok kD (!5) λ_ _ _ _ H _ _ _ X h=>?_
 let#[p,Y,q,vt,ts,1,hp,an,hT,ap,ht,hl,Qq]:=h;let hu:=cG X;erw[_,(af (sx 2 kD.nd\cz dP)
  (af (cf bP rfl (bU\pv 1) (cu rfl\aG (gx 3 kD.nd) (aG (gx 4 kD.nd)\aG (gx 5 kD.nd) cq)) (af (sx 6 kD.nd\ixx bB (cz\ae (aT\ae (pv 3) (ae (pv 4)\pa1 (pv 5))) (ae (aT\ae (pv 4) (ae (pv 5)\pa1 (pv 3)))\pa1 (aT\ae (pv 5) (ae (pv 3)\pa1 (pv 4))))) (uc GD X\ae (pv 0) (pa1 ag)))
  (aj\c9 (cP c7 vd AV sy (pv 2)\ae (uc GD X\ae (pv 0) (pa1\ak bo (pln T.len\pv 2) ag)) (pa1\pv 6)))))
  (aj\aK (pv 2)))),?_]
 let a7:=line5000;erw[aV _,λu H1 ab s1 y1=>?_];let ad:p≠u:=ao hp ab;erw[2,Y,1,#[_,SqL.of (s1>>hT)],dM (K:=[]) (a:=Y) (xs:=vt) (λi Z H'=>∃oa ob oc ot j g q',Z=[gm\V.ref p,gm\.r Y,gm\.r u,oa,ob,oc,ot]/\But p H H'/\H' p*>.a (bE q')/\cC q'/\H' u*>.a j/\ax H' j g/\↑g=i/\(ents g).Perm\ents (ts.take i))
  #[gf,gf,gf,gf,[],[],q,1,But.refl.same s1,s1>>hp,an,y1,.nil,1,by simp[ents]] (by rintro i Z H' _ ⟨_,_,_,_,_,_,_,_,e,_⟩;show SqL.of\e _ _ ap hT) ?_ ?_]
 .rintro i x Z H2 hi ⟨oa,ob,oc,ot,j,g,m,rfl,sm,C,v,D,I,L,M⟩;let#[#[#[a,b,c],hs,t,1,N],N,a8,aM]:=#[cD ht hi,(N:H t*>.u [.i (a:Int),.i (b:Int),.i (c:Int)]),((aq.mp hs).1:i<↑ts),sm _ _ (bI N hp ∅) N];erw[t,2,SqT.of aM,1,9,9,6,?_];erw[3,2,lit3,λt1 H3 g1 s3 y3=>?_];erw[3,2,lit3,λt2 H4 g2 s4 y4=>?_];erw[3,2,lit3,λt3 H5 g3 O y5=>?_];erw[lit3,λl H6 g4 R y6=>?_];let#[y,am,z1,z2,z3]:=#[(s3<*s4<*O)<*R,y>>C,(s4<*O<*R) _ _ y3,(O<*R) _ _ y4,R>>y5];erw[2,p,m,(3),1,am,v,⋯,⋯,λH7 S y7=>?_];let nl:l≠p:=λz=>by rw[z,(s3<*s4<*O) _ _ C] at g4;cases g4
  let tn:∀{r:gL}{xs:-V},H6 r*>.u xs->r≠p:=λe=>bI e am ∅;let#[a9,bb]:=dt (q:=m) (b:=3) ⋯;let#[tr,x,a0,a1,a2]:∃(tr:gL)(x:Tri),atI [V.ref t1,.r t2,.r t3] (digO m 3)*>.r tr/\H6 tr*>.u [.i (x.1:Int),.i (x.2.1:Int),.i (x.2.2:Int)]/\(ents [x]).Perm (ents [(a,b,c)]):=by
   obtain h|h|h:digO m 3=(0:Nat)\/digO m 3=(1:Nat)\/digO m 3=(2:Nat):=()
   .rw[h];erw[t1,(a,b,c),cF rfl,z1,uO _]
   .rw[h];erw[t2,(b,c,a),cF rfl,z2,?_];change List.Perm [((b,c),a),((c,a),b),((a,b),c)] [((a,b),c),((b,c),a),((c,a),b)];show fD (l₁:=[((b,c),a),((c,a),b)]) (l₂:=[((a,b),c)])
   rw[h];erw[t3,(c,a,b),cF rfl,z3,?_];change List.Perm [((c,a),b),((a,b),c),((b,c),a)] [((a,b),c),((b,c),a),((c,a),b)];show fD (l₁:=[((c,a),b)]) (l₂:=[((a,b),c),((b,c),a)])
  erw[l,4,SqL.of\(S l nl).trans y6,a0,?_];let al:=(S u\aO ad)<*(y>>D);let a3:↑j=i:=by rw[aD I];show L
  erw[2,.l #[1,_,SqL.of al],3,u,j,1,.l\SqL.of al,6,p,nxt m 3,2,y7,cA v,(),by rw[a3];show lg20 (),λH8 k8 y8=>?_];let#[a4,a5]:=dt (q:=nxt m 3) (b:=(↑j:Int)+1) ();let#[d,hd]:∃d:Nat,digO (nxt m 3) ((↑j:Int)+1)=(d:Int):=#[_,(eZ a4).symm];rw[hd] at a5 |-;let a6:=(k8 u\aO ad)<*al;erw[2,u,j,d,2,1,a6,(),(),λH9 k9 y9=>?_];let keep:∀{r:gL}{xs:-V},H6 r*>.u xs->H9 r*>.u xs:=λe=>(k9 _ (bI e (y>>D) ∅)).trans\(k8 _\tn e).trans ((S _\tn e)<*e);erw[0,8,g.take d++x::g.drop d,2,λr o n e=>?_,(k9 p ad)<*y8,cA\cA v,y9,?_,?_,?_]
  .let B:=y>>(sm _ _ n e);show (k9 r\ao e ab).trans\(k8 r n).trans ((S r n)<*B)
  .let h1:ax H9 j g:=Paired.imp' (by rintro _ _ ⟨r,e1,B⟩;erw[r,e1,keep (y>>B)]) I;show cW (pr_take d h1)\.c #[tr,1,keep a1] (pQ d h1)
  .rw[aE,br,aZ,cQ];lia
  let e1:ts.take (i+1)=ts.take i++[(a,b,c)]:=by rw[bq,hs];rfl
  rw[e1,gA,gA];let B:ents (x::g.drop d)=ents [x]++ents (g.drop d):=gA [x] _;rw[B];let e3:(ents g)=ents (g.take d)++ents (g.drop d):=by rw[<-gA,di]
  show List.Perm.trans ?_\M.append a2;rw[e3,e8];show Lr _ fD
 rintro Z H2 ⟨oa,ob,oc,ot,j,g,m,rfl,sm,C,v,D,I,L,M⟩;rw[aD ht,b_] at M;rw[aD ht] at L;erw[2,Qq u j g m H2 ab sm C v D I L M]
end
def pr_take{α β:Type}{F:α->β->Prop}:∀{xs:List α}{ys:List β}(k:Nat),Paired F xs ys->Paired F (xs.take k) (ys.take k)
 |_,_,0,_=>.nil
 |_,_,_+1,.nil=>.nil
 |_,_,k+1,.cons h t=>.c h\pr_take k t
def FC(C:gL)(vs:-V)(H:Hp)(Q:VK)(x T:gL)(b:-V)(ts:-Tri)(i n:Nat):Prop:=vs=[.r x,.r T,.i (i:Int),.i (n:Int)]/\cY C H x ts/\Skn ts/\↑ts<=150/\H T*>.a b/\ax H b ts/\i<↑ts/\¬Co ts n/\∀H',Sm H H'->Q (.bl gn) H'
def yY(C:gL):Sp:=uG\FC C
section
def gg:aR [↑2,↑0,↑52,↑28,↑35,↑49,"_law_c","_law_made",↑22,"_law_sides_here",↑79,"_law_lots","_law_handles","_law_holes"] [↑2,↑0,↑52,↑28] (aI qh):=.f
def Gs{f f2 fa C:gL}{fd d2 da:i4}(U:Fun K ↑78 ↑78 qh f fd)(X:SCls K C)(M:Mk K C fa)(be:mg "Skin"*>.r C)
  (GN:!Use 3 ↑66 [↑36] (lh C) f2 d2) (GK:!aA CX0 5 fa da [↑86,↑17] (jz C)) (bK:Binds K da [↑86,↑17] []):!aA CX0 7 f fd [↑2,↑0,↑52,↑28] (yY C):=by
 show U.ok gg (!6) λ_ _ _ _ H _ _ _ I h=>?_
 let#[x,L,d,ts,i,n,1,sk,S,hl,N,O,hi,hn,q]:=h;let am:=I.mono (⋯:3<=6);erw[_,(af (eI (ixx bB (pv 1)\pv 2)\cu rfl (aG (gx 4 gg.nd)\aG (gx 5 gg.nd) (aG (gx 6 gg.nd) cq)))
  (af (sx 7 gg.nd\ak fJ (ak fJ (jx jA (pv 1) jE\jD (pv 2))\jx jA (pv 1) (jD\ak bo (pv 2) ag) jE) (cz\ae (aT\ae (pv 4) (ae (pv 5)\pa1 (pv 3))) (ae (aT\ae (pv 5) (ae (pv 6)\pa1 (pv 3)))\pa1 (aT\ae (pv 6) (ae (pv 4)\pa1 (pv 3))))))
  (af (eI (uc GN am\pa1 (pv 0))\cu rfl (aG (gx 8 gg.nd)\aG (gx 9 gg.nd) (aG (fZ (i:=10) gg.nd rfl\.l rfl)\aG (fZ (i:=11) gg.nd rfl\.l rfl) (aG (fZ (i:=12) gg.nd rfl\.l rfl)\aG (fZ (i:=13) gg.nd rfl\.l rfl) cq))))
  (aj\aK (fg (kZ I.units) (uc GN am\pa1 (iO M GK I rfl be bK .nil pass0\pa1 (pv 7))) (aT\ae (ak bo (pv 8) ag) (ae (ak bo (pv 9) ag)\ae (ak bo (pv 10) ag) (ae (pv 11)\ae (pv 12) (pa1\pv 13))))\nomark _))))),?_]
 let bA:=line5000;let bS:=aD O;let#[#[a,b,c],an]:∃t,ts[i]?*>t:=#[_,ay hi];let#[v,hv,t,1,T]:=iT O an;let T:H t*>.u [.i (a:Int),.i (b:Int),.i (c:Int)]:=T;erw[3,L,4,SqL.of N,cF (j:=i) hv,t,2,SqT.of T,1,9,9,6,?_];erw[3,2,L,2,SqL.of N,λl1 H1 b0 s1 Y=>?_];rw[show fN d gf (gm (i:Int))=d.take i from zF d i] at Y;erw[3,6,2,L,2,SqL.of (s1>>N),λl2 H2 b1 s2 Z=>?_];rw[show ((i:Int)+1)=((i+1:Nat):Int) by lia,show fN d (gm ((i+1:Nat):Int)) gf=d.drop (i+1) from pf d (i+1)] at Z;erw[l1,l2,6,s2>>Y,Z,by rw[aZ,cQ];lia,λl3 H3 b2 s3 y3=>?_];erw[3,2,lit3,λt1 H4 b3 s4 z1=>?_];erw[3,2,lit3,λl H5 b4 s5 z2=>?_];erw[3,2,lit3,λt3 H6 b5 B z3=>#[lit3,λl4 H7 b6 m y7=>?_]];let ab:=s4.trans\s5.trans (B<*m);erw[l3,l4,6,ab>>y3,y7,by rw[aE,aZ,cQ];simp only[br,iy];lia,λl5 H8 b7 D y8=>?_];let ad:Same H H8:=s1.trans\s2.trans (s3.trans\ab.trans D);let tr:ax H8 (d.take i++d.drop (i+1)++[.r t1,.r l,.r t3]) (ts.take i++ts.drop (i+1)++[(a,b,n),(b,c,n),(c,a,n)]):=by
  let h0:=O.same ad;show cW (cW (pr_take i h0)\pQ (i+1) h0)\.c #[t1,1,?_] (.c #[l,1,?_]\.c #[t3,1,?_] .nil)
  .exact D _ _ (m>>B>>s5>>z1)
  .exact D _ _ (m>>B>>z2)
  show D _ _ (m>>z3)
 let pm:(ents ts).Perm (ents (ts.take i++ts.drop (i+1)++[(a,b,c)])):=by rw[<-List.eraseIdx_eq_take_drop_succ];show oO (ku an).symm
 let#[u,ap,aM,f1,a4]:=Jb pm S hn;let lA:↑(ts.take i++ts.drop (i+1)++[(a,b,n),(b,c,n),(c,a,n)])=↑ts+2:=by rw[aE,aE,aZ,cQ];simp only[br,iy];lia
 generalize ts.take i++ts.drop (i+1)++[(a,b,n),(b,c,n),(c,a,n)]=made at tr u ap aM a4 lA;generalize d.take i++d.drop (i+1)++[V.ref t1,.r l,.r t3]=vm at tr y8;clear pm ab z1 z2 z3 y7 y3 Z Y m B s5 s4 s3 s2 s1;erw[2,x,ts,1,sk.sm\Sm.of ad,S,(),λT1 v e t' p h r H9 b8 al cn y9=>?_];erw[T1,2,SqT.of y9,1,9,9,9,9,9,6,?_];erw[2,λx1 bg a5 bb b9=>?_];let#[bd,bi,bl]:=#[iF (Cs:=C) a5 bb,al.keep y8 (λz=>z),(Paired.imp' (by rintro _ _ ⟨a,e,h⟩;erw[a,e,al.keep h λz=>z]) tr:ax H9 vm made)];erw[x1,bg,l5,vm,made,1,aW,bd>>bi,bl.same bd,(),u.g,u.o,λHa bm bn=>#[1,?_]];let bt:=gC a5 bb bm;erw[x1,made,1,bn,u,(),λT2 v2 e2 l p2 h2 r2 Hb ca bw y yb=>?_];erw[2,6,2,6,2,6,3,2,by change 6<=hH;decide,λR Hc hR sc yc=>?_];let bx:cnI v2 e2 l p2 h2 r2=[(v:Int)+1,(e:Int)+3,(t':Int)+2,(p:Int),h,(r:Int)]:=by
  let a1:=cn.corners y (xs:=[n]) ∅ (λc hc=>by rw[aN.mp hc];show hn) λc=>by rw[aM];simp
  let#[#[a2,a3],a6,a7,a8,a9,a0]:=#[cn.same S u y ap,cn.ret y a4,cn.tC,y.tC,cn.hC,y.hC];simp only[ck] at a1;unfold cnI;rw[show (v2:Int)=v+1 by lia,show (e2:Int)=e+3 by lia,show (l:Int)=t' + 2 by lia,show (p2:Int)=p by lia,show (r2:Int)=r by lia,show h2=h by lia]
 rw[bx] at yb;show jF (sc>>yb) yc ?_;show q Hc\(Sm.of ad).trans (al.trans\bt.trans (bw.trans\Sm.of sc))
end
def DS(vs:-V)(H:Hp)(Q:VK)(L:gL)(ns:-Int)(f:Nat->Nat):Prop:=vs=[.r L]/\H L*>.a (ns.map V.int)/\(∀i<7,ns[i]?*>(f i:Int))/\
 ∀r b H',H r=gf->Same H H'->H' r*>.a b->ax H' b (rt.map\nam f)->Q (.r r) H'
def xP:Sp:=du DS
def D5{a b c N:Nat}(d:a≠b)(e:b≠c)(f:c≠a)(ha:a<N)(g:b<N)(h:c<N):[a,c,N,b,N+1,N+2,N+3].Nodup:=by simp only[bF,ah,cK,or_false,not_or,not_false_eq_true,jh,and_true];show#[#[?_,?_,?_,?_,?_,?_],#[?_,?_,?_,?_,?_],#[?_,?_,?_,?_],#[?_,?_,?_],#[?_,?_],?_]<;>lia
def IC(C:gL)(vs:-V)(H:Hp)(Q:VK)(p:gL)(q:Int×Int)(m:Nat):Prop:=vs=[.r p,.i (m:Int)]/\H p*>.a (bE q)/\cC q/\1<=m/\m<=6/\∀H',SmB p H H'->Q (.bl gn) H'
def zV(C:gL):Sp:=du\IC C
section
def tG:aR [↑12,"_law_found","_law_i"] [↑12] (aI pI):=.f
def lsv(a b c i:Nat):-Nat:=[a,c,4*i+7,b,4*i+8,4*i+9,4*i+10]
def Ez{f:gL}(U:Fun K ↑58 ↑58 pI f fd)(T:bW mg):!aA CX0 1 f fd [↑12] xP:=by
 show U.ok tG (!3) λ_ _ _ _ H _ _ _ _ h=>?_
 let#[L,ns,f,1,z,hf,q]:=h;erw[_,(af (sx 1 tG.nd\cz dP)
  (af (cf bP rfl (ju rfl T.range\pa1 ag) (gx 2 tG.nd)
   (af (c9\cP c7 eM eO dJ (pv 1) (pa1\aT (ae (ixx bB (pv 0)\pv 2)\ae (ixx bB (pv 0)\ak dR (ak bo (pv 2) ag) ag) (pa1\ixx bB (pv 0) (ak dR (ak bo (pv 2) ag) ag)))))
  (aj\c9 (cP c7 eM eO dJ (pv 1)\pa1 (aT\ae (ixx bB (pv 0)\pv 2) (ae (ixx bB (pv 0)\ak dR (ak bo (pv 2) ag) ag)\pa1 (ixx bB (pv 0)\ak dR (ak bo (pv 2) ag) ag)))))))
  (aj\aK (pv 1)))),?_]
 let al:=line5000;let at_:∀j:Nat,j<7->atI (ns.map V.int) (j:Int)*>V.int (f j:Int):=λj X=>cF (by rw[aU,hf j X];rfl);erw[aV _,λc H1 l s1 Y=>?_];erw[2,⋯,⋯,?_];show kC (lo:=0) (n:=7) (λi Z H'=>∃m b,Z=[gm\V.ref L,gm\.r c,m]/\Same H H'/\H' c*>.a b/\ax H' b\((List.range i).flatMap rtF).map (nam f))
  #[gf,[],1,s1,Y,.nil] ?_ ?_
 .rintro i Z H2 hi ⟨m,b,rfl,sm,d,g⟩;let am:↑b<=14:=by
   rw[aD g,av];show (show ∀i:Fin 8,↑((List.range i).flatMap rtF)<=14 by decide +kernel) #[i,()]
  let#[p,B,m1,m2,C,l1,l2,D]:=#[sm>>z,(():(0+(i:Int))=(i:Int)),(():(0+(i:Int)+1)%7=((i+1)%7:Nat)),(():(0+(i:Int)+2)%7=((i+2)%7:Nat)),(():(0+(i:Int)+3)%7=((i+3)%7:Nat)),(jj _ ⋯:(i+1)%7<7),(jj _ ⋯:(i+2)%7<7),(jj _ ⋯:(i+3)%7<7)];erw[2,.l #[1,_,SqL.of d],3,L,4,SqL.of p,by rw[B];show at_ i hi,?_];erw[3,6,6,(⋯:(0:Int)<7),L,4,SqL.of p,by rw[m1];show at_ _ l1,?_];erw[3,6,6,(⋯:(0:Int)<7),L,4,SqL.of p,by rw[C];show at_ _ D,?_];erw[lit3,λt H3 ht r y3=>?_];let I:=r>>d;erw[c,b,2,1,I,(),λH4 M N=>?_];let#[ab,O,x]:=#[g_ (u:=(f i,f ((i+1)%7),f ((i+3)%7))) I M (g.same r) y3,(λv o e=>(M v\ao e l)<*(r>>sm>>e):Same H H4),O>>z];erw[2,.l #[1,_,SqL.of N],3,L,4,SqL.of x,by rw[B];show at_ i hi,?_];erw[3,6,6,(⋯:(0:Int)<7),L,4,SqL.of x,by rw[C];show at_ _ D,?_];erw[3,6,6,(⋯:(0:Int)<7),L,4,SqL.of x,by rw[m2];show at_ _ l2,?_];erw[lit3,λt2 H5 an y y5=>?_];let R:=y>>N;erw[c,6,R,by rw[aE,ck];lia,λH6 S y6=>?_];let ad:=g_ (u:=(f i,f ((i+3)%7),f ((i+2)%7))) R S (ab.same y) y5;erw[9,λv o e=>(S v\ao e l)<*(y>>O>>e),y6,?_];rw[uW,gQ];simpa [rtF,nam] using ad
 rintro Z H2 ⟨m,b,rfl,sm,d,g⟩;erw[2,q c b H2 l sm d g]
def i5:aR [↑1,↑79,↑0,↑45,↑35,↑49,"_law_c",↑28] [↑1,↑79] (aI oo):=.f
def Jj{f f1 f2 f3 fa C:gL}{fd d1 d2 d3 da:i4}(U:Fun K ↑14 ↑14 oo f fd)(T:bW mg)(X:SCls K C)(M:Mk K C fa)(bt:mg "Skin"*>.r C)(G7:!Use 1 ↑58 [↑12] xP f1 d1)
  (GN:!Use 3 ↑66 [↑36] (lh C) f2 d2) (GD:!Use 1 ↑13 [↑1,↑33] hJ f3 d3) (GK:!aA CX0 5 fa da [↑86,↑17] (jz C)) (bK:Binds K da [↑86,↑17] []):!aA CX0 7 f fd [↑1,↑79] (zV C):=by
 show U.ok i5 (!3) λ_ _ _ s H _ _ _ hr h=>?_
 let#[p,q,m,1,hp,ci,h1,h6,Qq]:=h;let ap:=hr.mono (⋯:1<=6);let bw:=hr.mono (⋯:3<=6);erw[_,(af (sx 2 i5.nd\uc G7 ap (pa1\cV (vO rfl) (by rfl) T.list ke (pa1\cV vN (by rfl) T.range Ml (pa1 ag))))
  (af (cf bP rfl (CW rfl T.range\ae ag (pa1\pv 1)) (gx 3 i5.nd)
   (af (eI (cP c7 rG rH pb (pv 2)\pa1 (uc GD ap\ae (pv 0) (pa1\pln T.len (pv 2))))\cu rfl (aG (gx 4 i5.nd)\aG (gx 5 i5.nd) (aG (gx 6 i5.nd) cq)))
  (af (sx 7 i5.nd\ak bo ag (ak dQ ag\pv 3))
  (aj\sx 2 i5.nd (ak fJ (pv 2)\jx jA (uc G7 ap\pa1 (cz\ae (pv 4) (ae (pv 6)\ae (pv 7) (ae (pv 5)\ae (ak bo (pv 7) ag) (ae (ak bo (pv 7) ag)\pa1 (ak bo (pv 7) ag)))))) (jD ag) jE)))))
  (af (bO (bH (h_ hr.units) (uc GN bw\pa1 (iO M GK hr rfl bt bK .nil pass0\pa1 (pv 2))) (aT\ae (ak bo (ak dQ ag\pv 1) ag) (ae (ak bo (ak dQ ag\pv 1) ag)\ae (ak bo (ak dQ ag\pv 1) ag) (ae ag\ae (pv 1) (pa1 ag))))\nomark _) (aj\aK d_) bN)
  (af (c9\cP c7 rG rH pb (pv 2) (pa1\uc GD ap (ae (pv 0)\pa1 (pln T.len\pv 2))))
  (aj\aK (fg (kZ hr.units) (uc GN bw\pa1 (iO M GK hr rfl bt bK .nil pass0\pa1 (pv 2))) (aT\ae (ak bo (ak dQ ag\pv 1) ag) (ae (ak bo (ak dQ ag\pv 1) ag)\ae (ak bo (ak dQ ag\pv 1) ag) (ae ag\ae (pv 1) (pa1 ag))))\nomark _)))))),?_]
 let dr:=line5000;let cj:∀(g:Nat->Nat)(ns:-Int),ns=(List.range 7).map (λi=>(g i:Int))->∀i<7,ns[i]?*>(g i:Int):=λg ns e i hi=>by rw[e,aU,LL hi];rfl
 erw[2,λr0 cl=>?_];walk_at"H r0 cl H1 s1 y1";erw[r0,(7),1,y1,⋯,λl1 cr=>?_];walk_at"H1 l1 cr H2 s2 y2";let bx:=s1<*s2;erw[l1,(List.range 7).map λi=>((id i:Nat):Int),id,1,y2,cj id _ rfl,λT0 v0 H3 cs s3 y3 bA=>?_];let bS:=bx<*s3;let e0:rt.map (nam id)=rt:=Az _;rw[e0] at bA;erw[2,(1),(m:Int),1,#[⋯,⋯,(),()],?_];rw[show ((m:Int)-1).toNat=m-1 by lia];let b3:But p H H3:=Same.but bS;let ct:H T0=gf:=bx.free cs;show kC (lo:=1) (n:=m-1) (λi Z H'=>∃o3 o4 o5 o6 o7 u B tc q',Z=[gm\.r p,gm\.i (m:Int),gm\.r u,o3,o4,o5,o6,o7]/\But p H H'/\H' p*>.a (bE q')/\cC q'/\H u=gf/\H' u*>.a B/\ax H' B tc/\Cls tc/\↑tc=12*i+14/\∀d,Co tc d↔d<4*i+7)
  #[gf,gf,gf,gf,gf,T0,v0,rt,q,1,b3,bS>>hp,ci,ct,y3,bA,IQ,1,λd=>ux] ?_ ?_
 .rintro i Z H4 hi ⟨o3,o4,o5,o6,o7,u,B,tc,N,rfl,b4,al,aM,S,ab,Y,D,lc,cc⟩;let cv:=aD Y;let#[O,I]:=dt (q:=N) (b:=(↑B:Int)) ();let#[k,hk]:∃k:Nat,digO N (↑B:Int)=(k:Int):=#[_,(eZ O).symm];let am:k<↑tc:=();let#[#[a,b,c],ad]:∃s,tc[k]?*>s:=#[_,ay am];let#[zv,bb,tt,1,bd]:=iT Y ad;let a0:u≠p:=λz=>by rw[z,hp] at S;cases S
  erw[2,.inl #[1,_,SqL.of ab],3,u,2,.inl\SqL.of ab,p,N,2,al,aM,(),g9 () (),λH5 k5 y5=>?_];rw[hk];let be:=(k5 u a0)<*ab;erw[u,B,(k:Int),k,2,1,be,(),(),pz (),bb,λH6 k6 y6=>?_];let#[b5,cw,b0,b6,b1,b2,cx]:=#[(λl o n e=>(k5 l n).trans\b4 _ _ n e:But p H H5),(Paired.imp' (by rintro _ _ ⟨l,O,I⟩;erw[l,O,(k5 l (bI I al ∅))<*I]) Y:ax H5 B tc),((k5 tt (bI bd al ∅))<*bd:H5 tt*>.tup [.int (a:Int),.int (b:Int),.int (c:Int)]),(λl o n e=>(k6 l\ao e S).trans\b5 _ _ n e:But p H H6),((k6 p\aO a0)<*y5:H6 p*>.lst (bE\nxt N (↑B:Int))),(Paired.imp' (by rintro _ _ ⟨l,O,I⟩;erw[l,O,(k6 l (bI I be ∅))<*I])\oY k cw:ax H6 (B.eraseIdx k) (tc.eraseIdx k)),(k6 tt (bI b0 be ∅))<*b0];erw[tt,2,SqT.of cx,1,9,9,6,?_];erw[2,6,.inl #[⋯,⋯],6,?_];let eN:(3+4*(1+(i:Int)))=((4*i+7:Nat):Int):=();dsimp only [nh,cE];rw[eN];erw[3,3,3,6,2,6,2,6,by change 7<=hH;lia,λL H7 ds s7 y7=>?_];let#[e,n1,n2,n3,#[ca,cb,c3]]:=#[(dz.mpr\.inl (aJ ad):En tc a b c),D.s.g.sk.ne e,D.s.g.sk.ne\D.s.g.sk.rot e,D.s.g.sk.ne\D.s.g.sk.rot (D.s.g.sk.rot e),D.s.co1 e];rw[cc] at ca cb c3;let cZ:(lsv a b c i).Nodup:=D5 n1 n2 n3 ca cb c3;let hf:∀j<7,(lsv a b c i)[j]?*>(lsv a b c i).getD j 0:=λj hj=>match j,hj with
   |0,_=>rfl|1,_=>rfl|2,_=>rfl|3,_=>rfl|4,_=>rfl|5,_=>rfl|6,_=>rfl
  erw[L,(lsv a b c i).map λn:Nat=>(n:Int),λj=>(lsv a b c i).getD j 0,1,y7,λj hj=>by rw[aU,hf j hj];rfl,λr vr H8 dx s8 y8 c0=>?_];erw[2,r,2,SqL.of y8,λl9 H9 dy s9 y9=>?_];rw[show fN vr (gm 1) gf=vr.drop 1 from pf vr 1] at y9;let#[a5,a6,dF,lk]:=#[s7.trans\s8.trans s9,(pQ 1\c0.same s9:ax H9 (vr.drop 1) (rt.tail.map (nam λj=>(lsv a b c i).getD j 0))),aD a6,aD b2];let c1:↑(tc.eraseIdx k)+1=↑tc:=by rw[nN am];lia
  let dK:↑(rt.tail.map (nam λj=>(lsv a b c i).getD j 0))=13:=rfl;erw[u,l9,6,a5>>y6,y9,(),λR Ha hR sa ya=>?_];let bg:=a5<*sa;let#[C',c2]:=D.glue (f:=λj=>(lsv a b c i).getD j 0) (oO (ku ad).symm) (λx y hx hy e=>eQ cZ (hf x hx)\(hf y hy).trans (congrArg gm e.symm)) (λj hj=>by
   rw[cc];simp only[ah,cK,or_false] at hj;rcases hj with rfl|rfl|rfl|rfl<;>simp[lsv])
  let c4:H R=gf:=by
   cases e:H R with
   |none=>rfl
   |some o=>
    by_cases ep:R=p
    .rw[ep,a5>>b1] at hR;cases hR
    rw[a5>>(b6 _ _ ep e)] at hR;cases hR
  erw[0,8,R,8,1,λl o n e=>bg>>(b6 _ _ n e),bg>>b1,cA aM,c4,ya,cW (b2.same bg)\a6.same sa,C',by rw[aE];lia,λd=>?_];rw[c2,cc];simp only[ah,cK,or_false,exists_eq_or_imp,exists_eq_left,lsv];change _\/d=4*i+7\/d=4*i+8\/d=4*i+9\/d=4*i+10↔_;lia
 rintro Z H4 ⟨o3,o4,o5,o6,o7,u,B,tc,N,rfl,b4,al,aM,S,ab,Y,D,lc,cc⟩;let e4:4*(m-1)+7=4*m+3:=();let c5:12*(m-1)+14=12*m+2:=();rw[c5] at lc;simp only[e4] at cc;let cv:=aD Y;let a0:u≠p:=λz=>by rw[z,hp] at S;cases S
 erw[2,λx1 c6 b7 b8 dL=>?_];let an:=iF (Cs:=C) b7 b8;erw[x1,c6,u,B,tc,1,aW,an>>ab,Y.same an,(),D.s.g,D.s.o,λH5 bi c8=>#[1,?_]];let db:=gC b7 b8 bi;erw[x1,tc,1,c8,D.s,(),λT1 v e t p1 h r H6 dT dc cn y6=>?_];let dd:=db<*dc;erw[2,6,.l #[⋯,⋯],6,2,6,.l #[⋯,⋯],6,2,6,.l #[⋯,⋯],6,2,by change 6<=hH;lia,λR H7 hR s7 y7=>?_];let dj:cnI v e t p1 h r=[4*(m:Int)+3,18*(m:Int)+3,12*(m:Int)+2,1,(m:Int),0]:=by let#[a1,a2,a3,a4]:=D.cnt cn () cc;let a7:=cn.tC;let a9:=cn.hC;unfold cnI;rw[show (v:Int)=4*m+3 by lia,show (e:Int)=18*m+3 by lia,show (t:Int)=12*m+2 by lia,show (p1:Int)=1 by lia,show (r:Int)=0 by lia,show h=(m:Int) by lia]
 rw[dj] at y6;show jF (s7>>y6) y7 #[2,aP ?_];let#[a8,bl,bm,b9,#[O,I]]:=#[dd.trans\Sm.of s7,(a8.keep ab (λz=>z):H7 u*>.a B),(a8.keep al (λz=>z):H7 p*>.a (bE N)),(Paired.imp' (by rintro _ _ ⟨a,e,h⟩;erw[a,e,a8.keep h λz=>z]) Y:ax H7 B tc),dt (q:=N) (b:=(↑B:Int)) ()];let#[k,hk]:∃k:Nat,digO N (↑B:Int)=(k:Int):=#[_,(eZ O).symm];let am:k<↑tc:=();let#[#[a,b,c],ad]:∃s,tc[k]?*>s:=#[_,ay am];let#[zv,bb,tt,1,bd]:=iT b9 ad;erw[2,.l #[1,_,SqL.of bl],3,u,2,.l\SqL.of bl,p,N,2,bm,aM,(),g9 () (),λH8 k8 y8=>?_];rw[hk];let cd:=(k8 u a0)<*bl;erw[u,B,(k:Int),k,2,1,cd,(),(),pz (),bb,λH9 k9 y9=>?_];let a6:ax H9 (B.eraseIdx k) (tc.eraseIdx k):=Paired.imp' (by rintro _ _ ⟨l,O,I⟩;erw[l,O,(k9 l (bI ((k8 l (bI I bm ∅))<*I) cd ∅)).trans\(k8 l (bI I bm ∅)).trans I])\oY k b9;let c1:↑(tc.eraseIdx k)+1=↑tc:=by rw[nN am];lia
 let pm:=oO (ku ad).symm;let#[S9,r9,dV,d0]:=D.less pm;erw[2,λx2 dk ce cg d4=>?_];let an:=iF (Cs:=C) ce cg;erw[x2,dk,u,_,tc.eraseIdx k,1,aW,an>>y9,a6.same an,(),S9.g,S9.o,λHa bi dl=>#[1,?_]];let dm:=gC ce cg bi;erw[x2,2,dl,S9,(),λT2 v2 I t2 p2 h2 r2 Hb d5 dn bn yb=>?_];erw[2,6,.l #[⋯,⋯],6,2,6,.l #[⋯,⋯],6,2,6,.l #[⋯,⋯],6,2,by change 6<=hH;lia,λR2 Hc d6 sc yc=>?_];let dp:cnI v2 I t2 p2 h2 r2=[4*(m:Int)+3,18*(m:Int)+3,12*(m:Int)+1,1,(m:Int),1]:=by let#[a1,a2,a3,a4]:=D.cnt1 pm bn () cc;let a7:=bn.tC;let a9:=bn.hC;unfold cnI;rw[show (v2:Int)=4*m+3 by lia,show (I:Int)=18*m+3 by lia,show (t2:Int)=12*m+1 by lia,show (p2:Int)=1 by lia,show (r2:Int)=1 by lia,show h2=(m:Int) by lia]
 rw[dp] at yb;show jF (sc>>yb) yc (Qq Hc λl o n e=>?_);let#[h4,nT,ch]:=#[b4 l o n e,ao e S,dm.trans\dn.trans (Sm.of sc)];rcases a8 _ _ h4 with h7|⟨hd,ob,h7⟩
 .exact ch _ _\(k9 l nT).trans ((k8 l n)<*h7)
 rcases ch _ _ ((k9 l nT).trans\(k8 l n).trans h7) with hz|⟨hz,_⟩
 .exact .o #[hd,ob,hz]
 show hz.elim
end
section
variable {ts us cs:-Tri}{l:-Nat}{x:Nat}{R:Nat->Nat->Prop}
def uB(R:Nat->Nat->Prop)(x:Nat)(t:Tri)(c:Nat):Prop:=∃p,R p c/\t=(c,p,x)
def HL(inj:∀a b c,R a c->R b c->a=b)(h:Cyc R l)(pr:Paired (uB R x) cs l):(ents cs).Perm (ents\caps x ((prs l).map swp)):=by
 let#[ps,o,f,e]:∃ps:-(Nat×Nat),cs=ps.map (λs=>(s.1,s.2,x))/\ps.map (·.1)=l/\∀s∈ps,R s.2 s.1:=by
  clear h;induction pr with
  |nil=>erw[[],5,∅]
  |cons h t g=>
   let#[p,q,1]:=h;let#[ps,5,e]:=g;erw[(_,p)::ps,5,λs d=>?_];rcases ah.mp d with rfl|d
   .exact q
   show e s d
 let rot:∀ps:-(Nat×Nat),(ents (ps.map λs=>((s.1,s.2,x):Tri))).Perm (ents\caps x ps):=λps=>by
  induction ps with
  |nil=>show .refl _
  |cons s l g=>
   change (([((s.1,s.2),x),((s.2,x),s.1),((x,s.1),s.2)]:List _)++ents _).Perm ([((x,s.1),s.2),((s.1,s.2),x),((s.2,x),s.1)]++ents _);show .append (fD (l₁:=[((s.1,s.2),x),((s.2,x),s.1)]) (l₂:=[((x,s.1),s.2)])) g
 rw[o];show (rot ps).trans\HA (List.Perm.map _ ((AF (sv (·.1) (by rw[f];show h.nd))\sv (·.2) ?_).mpr λ⟨c,p⟩=>?_))
 .rw[bG];change ((prs l).map (·.1)).Nodup;rw[pP];show h.nd
 rw[fW];let m:=h.cy;constructor
 .intro d;let i:c∈l:=by rw[<-f];show ai.mpr #[_,d,1]
  let#[p',n]:=kX.mp i;let j:p=p':=inj _ _ _ (e (c,p) d)\m.st p' c n;rw[j];show n
 intro d;let i:c∈ps.map (·.1):=by rw[f];show kX.mpr #[p,d]
 let#[#[r,p'],h1,1]:=ai.mp i;let j:p=p':=inj _ _ _ (m.st p _ d)\e (_,p') h1;rw[j];show h1
structure Shut(ts:-Tri)(gone:-Nat)(xs:-Nat)(us:-Tri):Prop where
 s:Skn us
 len:↑us=↑ts+↑gone
 rim:∀p q,ar (En us) p q↔ar (En ts) p q/\p∉gone
 co:∀d,Co us d↔Co ts d\/d∈xs
 ret:∃f,Ret ts us f
def Shut.none(s:Skn ts):Shut ts [] [] ts:=#[s,∅,∅,∅,_,Ret.refl ts]
def Shut.step{gone xs:-Nat}(h:Shut ts gone xs us)(f:¬Co ts x)(g:x∉xs)(c:Cyc (ar\En ts) l)(e:∀p∈l,p∉gone)(pr:Paired (uB (ar\En ts) x) cs l)(inj:∀a b c,ar (En ts) a c->ar (En ts) b c->a=b):Shut ts (gone++l) (xs++[x]) (us++cs):=by
 let#[j,#[s1,m,co1,r,n],#[u,o]]:=#[(#[#[c.ne,c.nd,λi p q h1 h2=>(h.rim p q).mpr #[c.ch i p q h1 h2,e p\aJ h1]],λp q h1 h2=>(h.rim p q).mpr #[c.back p q h1 h2,e p\aJ h1]]:Cyc (ar\En us) l),close1 h.s (λz=>((h.co x).mp z).elim f g) j\HL inj c pr,h.ret];erw[s1,by rw[aE,aE,h.len,aD pr,AH],λp q=>?_,λd=>?_,_,o<*n]
 .rw[m,h.rim,az,not_or,and_assoc]
 rw[co1,h.co,az,aN,or_assoc]
end
structure Fre(ts:-Tri)(fs:-Nat):Prop where
 nd:fs.Nodup
 out:∀d∈fs,¬Co ts d
 len:300<=↑fs
 few:↑fs<=400
def CN(C:gL)(vs:-V)(H:Hp)(Q:VK)(x T F:gL)(b:-V)(ts:-Tri)(fs:-Nat):Prop:=vs=[.r x,.r T,.r F]/\cY C H x ts/\Skn ts/\↑ts<=50/\H T*>.a b/\ax H b ts/\H F*>.a (nV fs)/\Fre ts fs/\∀H',Sm H H'->Q (.bl gn) H'
def w9(C:gL):Sp:=uG\CN C
def wZ:∀rl:List\-Nat,(rl.map λl=>(↑l:Int)).sum=(rl.flatten.length:Int)
 | []=>rfl
 |l::rl=>by rw[bj,uY,wZ rl,j6,aE];lia
def DC:r6 "sum"*>.b "sum":=⋯
section
def dY:aR [↑2,↑0,↑16,"_law_made",↑56,↑45,↑67,"_law_i",↑3,"_law_some",↑22,"_law_sides_here",↑79,"_law_lots","_law_handles","_law_holes",↑38,"_law_due"] [↑2,↑0,↑16] (aI oS):=.f
def Cj{f f1 f2 fa C:gL}{fd d1 d2 da:i4}(U:Fun K ↑47 ↑47 oS f fd)(T:bW mg)(bm:mg ↑31 = gf)(cv:mg "sum" = gf)(X:SCls K C)(M:Mk K C fa)(cw:mg "Skin"*>.r C)(GS:!Use 2 "rims" [↑36] (kT C) f1 d1)
  (GN:!Use 3 ↑66 [↑36] (lh C) f2 d2) (GK:!aA CX0 5 fa da [↑86,↑17] (jz C)) (bK:Binds K da [↑86,↑17] []):!aA CX0 7 f fd [↑2,↑0,↑16] (w9 C):=by
 show U.ok dY (!6) λ_ A _ s H vs _ _ hr h=>?_
 let#[x,T0,F,vt,ts,fs,1,sk,S,hl,hT,ht,hF,fr,q]:=h;let bn:=hr.mono (⋯:2<=6);let bw:=hr.mono (⋯:3<=6);erw[_,(af (sx 3 dY.nd\cV l_ (by rfl) T.list ke (pa1\pv 1))
  (af (sx 4 dY.nd\uc GS bn (pa1\pv 0))
  (af (cf bP rfl (kQ rfl bm\pa1 (pv 4)) (cu rfl\aG (gx 5 dY.nd) (aG (gx 6 dY.nd) cq))
   (aj (cf bP rfl (kQ rfl bm\pa1 (pv 6)) (cu rfl\aG (gx 7 dY.nd) (aG (gx 8 dY.nd) cq))
   (aj\c9 (cP c7 eM eO dJ (pv 3)\pa1 (aT\ae (pv 8) (ae (ixx bB (pv 6)\ak fh (pv 7) ag)\pa1 (ixx bB (pv 2)\pv 5))))))))
  (af (sx 9 dY.nd\cL (Bv rfl) (by rfl) cv DC (pa1 (dG (N:=[↑67]) (fr:=[gf]) (kB ⋯ rfl ⋯ ⋯) rfl (bU\pv 4)
    (λC s H fp Oo=>#[(gx 0 (⋯:([↑67]:-Str).Nodup)),dN,(pln T.len\pv 0)]))))
  (af (eI (uc GN bw\pa1 (pv 0))\cu rfl (aG (fZ (i:=10) dY.nd rfl\.l rfl)\aG (fZ (i:=11) dY.nd rfl\.l rfl) (aG (fZ (i:=12) dY.nd rfl\.l rfl)\aG (fZ (i:=13) dY.nd rfl\.l rfl) (aG (fZ (i:=14) dY.nd rfl\.l rfl)\aG (fZ (i:=15) dY.nd rfl\.l rfl) cq))))
  (af (mW (i:=16) dY.nd rfl (.l rfl)\iO M GK hr rfl cw bK .nil pass0 (pa1\pv 3))
  (af (mW (i:=17) dY.nd rfl (.l rfl)\aT (ae (ak bo (pv 10)\pv 15)\ae (ak bo (pv 11)\pv 9) (ae (ak bo (pv 12)\pv 9)\ae (pv 13) (ae (pv 14)\pa1 ag))))
  (aj\aK (hX (fg (kZ hr.units) (uc GN bw\pa1 (pv 16)) (pv 17)\nomark _)\hX (fg (kZ hr.units) (uc GS bn\pa1 (pv 16)) (cz dP)\nomark _) (jJ\fg ic (pv 15) (pln T.len\pv 4) (nomark _))))))))))),?_]
 let dL:=line5000;let dT:=aD ht;erw[2,T0,vt,1,.l\SqL.of hT,λO H1 bx s1 y1=>?_];let#[A,bA]:=(sk.sm\Sm.of s1).a;erw[2,x,ts,A,1,bA,S.g,S.o,(),λR vs rl H2 hR ap yR pr rims dV cx=>?_];let#[an,bS,b4,b5,b6,cZ,#[d0,b7],nd]:=#[((Sm.of s1)<*ap.sm:Sm H H2),(ap.sm.keep y1 (λz=>z):H2 O*>.a vt),(Paired.imp' (by rintro _ _ ⟨a,e,h⟩;erw[a,e,an.keep h λz=>z]) ht:ax H2 vt ts),(an.keep hF (λz=>z):H2 F*>.a (nV fs)),((ao y1 hR).symm:R≠O),(ao hF bx:F≠O),rim_steps S,iI b7 rims];let c0:rl.flatten.length<=150:=by have:=pN S.g S.o rims nd;lia
 let d3:↑rl<=150:=dw (tY λm hm=>(rims.cyc m hm).ne) c0;let aM:=aD pr;erw[2,R,2,SqL.of yR,kJ (K:=[]) (a:=R) (xs:=vs) (λk Z H'=>∃o5 o6 Y o8 I us,Z=[gm\.r x,gm\.r T0,gm\.r F,gm\.r O,gm\.r R,o5,o6,Y,o8,gf,gf,gf,gf,gf,gf,gf,gf,gf]/\But O H2 H'/\H' O*>.a I/\ax H' I us/\Shut ts (rl.take k).flatten (fs.take k) us)
  #[gf,gf,gf,gf,vt,ts,1,But.refl,bS,b4,Shut.none S] (by rintro k Z H' _ ⟨_,_,_,_,_,_,_,B,_⟩;show SqL.of\B _ _ b6 yR) ?_ ?_]
 .rintro k v t0 Z H3 hk ⟨o5,o6,Y,o8,I,us,rfl,B,a0,bb,L⟩ c1;let#[l,ad,a,1,b8,d4,bd]:=cD pr hk;walk_at"H3 t0 c1 H4 s4 y4";erw[t0,2,SqT.of y4,1,9,6,?_];let be:a≠O:=λz=>by rw[z,y1] at b8;cases b8
  let#[b9,d5,cyc,ca,c2,c3]:=#[aJ ad,(aq.mp ad).1,rims.cyc l b9,(B.same s4:But O H2 H4),ca _ _ be bd,s4>>a0];let#[z,hz]:∃z,fs[k]?*>z:=#[_,ay (by have:=fr.len;lia)];let lu:↑us<=200:=by rw[L.len];let h2:=congrArg List.length\congrArg List.flatten (di k rl);rw[fS,aE] at h2;lia
  erw[2,a,2,SqL.of c2,kJ (K:=[]) (a:=a) (xs:=nV l) (λj Z H'=>∃Y o8 I cs,Z=[gm\.r x,gm\.r T0,gm\.r F,gm\.r O,gm\.r R,gm\.i (k:Int),gm\.r a,Y,o8,gf,gf,gf,gf,gf,gf,gf,gf,gf]/\But O H2 H'/\H' O*>.a I/\ax H' I (us++cs)/\Paired (uB (ar\En ts) z) cs\l.take j)
   #[Y,o8,I,[],1,ca,c3,by rw[fQ];show bb.same s4,.nil] (by rintro j Z H' _ ⟨_,_,_,_,_,B,_⟩;show SqL.of\B _ _ be bd) ?_ ?_]
  .rintro j y t1 Z H5 hj ⟨Y,o8,I,cs,rfl,B,al,ab,cp⟩ c4;rw[nV,aU] at hj;let#[c,hc,1]:=bQ.mp hj;walk_at"H5 t1 c4 H6 s6 y6";erw[t1,2,SqT.of y6,1,9,6,?_];let#[cb,#[p0,c5,rp],a6,F6]:=#[s6>>al,xG cyc hc,s6>>(B _ _ be bd),s6>>(B _ _ cZ b5)];erw[2,.l #[1,_,SqL.of cb],3,2,6,a,4,SqL.of a6,c5,?_];erw[3,F,4,SqL.of F6,cF (j:=k)\fM hz,lit3,λt2 H7 d6 s7 y7=>?_];let cc:=s7>>cb;let lcs:↑cs<=600:=by rw[aD cp,aZ];have:=cx l b9;lia
   erw[O,I,2,1,cc,by rw[aD ab,aE];lia,λH8 k8 y8=>#[8,cs++[(c,p0,z)],1,λb o n e=>(k8 b n)<*(s7>>(s6>>(B b o n e))),y8,?_,?_]]
   .rw[<-e8];show g_ (u:=(c,p0,z)) cc k8 (ab.same\s6.trans s7) y7
   rw[bq,hc];show cW cp\.c #[p0,rp,1] .nil
  rintro Z H5 ⟨Y,o8,I,cs,rfl,B,al,ab,cp⟩;rw[a_,b_] at cp;let et:rl.take (k+1)=rl.take k++[l]:=by rw[bq,ad];rfl
  let ef:fs.take (k+1)=fs.take k++[z]:=by rw[bq,hz];rfl
  erw[8,_,I,us++cs,1,B,al,ab,?_];rw[et,ef,fS,nK];show L.step (fr.out z\aJ hz) (λhm=>?_) cyc (λp hp hm=>?_) cp b7
  .let n1:=fr.nd;rw[<-di (k+1) fs,ef,aQ,aQ] at n1;show n1.1.2.2 z hm z ∅ rfl
  let n1:=nd;rw[<-di (k+1) rl,fS,aQ,et,fS,nK,aQ] at n1;show n1.1.2.2 p hm p hp rfl
 rintro Z H3 ⟨o5,o6,Y,o8,I,us,rfl,B,a0,bb,L⟩;rw[aM,b_] at L;let d7:↑(fs.take ↑rl)=↑rl:=by rw[aZ];have:=fr.len;lia
 let lu:↑us<=200:=by rw[L.len];lia
 let bg:=B _ _ b6 yR;let c6:dA H3 vs rl:=Paired.imp' (by rintro _ _ ⟨a,e1,e2,_,e4⟩;erw[a,e1,B _ _ (λz=>by rw[z,y1] at e2;cases e2) e4]) pr;let c8:Sm H H3:=λb o e=>by
  let n:=ao e bx;show (an b o e).imp (B>>n) λ⟨h1,ob,h2⟩=>#[h1,ob,B _ _ n h2]
 clear B pr yR bS b4 b5 ap an bA y1 s1;erw[2,R,1,#[_,SqL.of bg],λZ_ hZ=>eD (K:=[]) (a:=R) (xs:=vs) (λi Z ys H'=>∃o,Z=[o]/\ys=((rl.take i).map λl=>(↑l:Int)).map V.int/\Same H3 H'/\H' Z_*>.a ys) #[gf,5,bT hZ,aW] (by rintro i Z ys H' _ ⟨_,_,_,e,_⟩;show SqL.of (e>>bg)) ?_ ?_]
 .rintro i v Z ys H' hi ⟨o,rfl,rfl,sm,db⟩;let#[l,ad,a,1,ha]:=cD c6 hi;erw[2,a,2,.l\SqL.of (sm>>ha),db,by rw[av,av,aZ];lia,λHn kn yn=>#[2,?_,λb o e=>(kn b\ao e hZ)<*(sm>>e),yn]];rw[bq,ad,a_];simp
 rintro Z ys H4 ⟨o,rfl,rfl,s4,cd⟩;rw[aM,b_] at cd;erw[Z_,2,SqL.of cd,?_];rw[wZ];let ce:=c8.trans\Sm.of s4;erw[2,x,ts,1,sk.sm ce,S,(),λT1 v e t p h r H5 d8 bi cn y5=>?_];erw[T1,2,SqT.of y5,1,9,9,9,9,9,6,?_];let#[cg,al,ab]:=#[(Sm.of s4)<*bi,cg.keep a0 (λz=>z),(Paired.imp' (by rintro _ _ ⟨a,e,h⟩;erw[a,e,cg.keep h λz=>z]) bb:ax H5 I us)];erw[2,λx1 dc ch ci d9=>?_];let cj:=iF (Cs:=C) ch ci;erw[x1,dc,O,I,us,1,aW,cj>>al,ab.same cj,lu,L.s.g,L.s.o,λH6 dd cl=>#[1,?_]];let dj:=gC ch ci dd;erw[3,6,3,6,3,6,3,by change 6<=hH;lia,λD H7 hD s7 y7=>?_];erw[2,x1,us,1,cl.sm\Sm.of s7,L.s,lu,λT2 v2 e2 t2 p2 h2 r2 H8 ea bl am y8=>#[2,?_]];let cr:∀a b,¬ar (En us) a b:=λa b dk=>by
  let#[h1,h2]:=(L.rim a b).mp dk;let#[l,hl,dl]:=rims.all a #[b,h1];show h2\cR.mpr #[l,hl,dl]
 let#[f,rt]:=L.ret;let dm:r=↑rl/\cnI v2 e2 t2 p2 h2 r2=[(v:Int)+r,(e:Int)+rl.flatten.length,(t:Int)+rl.flatten.length,(p:Int),h,0]:=by let#[a1,a2]:=cn.rims S rims;let#[dn,b0,b1,b2]:=am.rC;let b3:=sq cr b0;subst b3;let a3:=cn.corners am (xs:=fs.take ↑rl) ((LY _ _).nodup fr.nd) (λd hd=>fr.out d\LV hd) L.co;let a4:=cn.ret am rt;let a5:=cn.tC;let a6:=am.tC;let a7:=cn.hC;let a8:=am.hC;let a9:=L.len;simp at b1 b2;erw[a1,?_];unfold cnI;rw[show (v2:Int)=v+r by lia,show (e2:Int)=e+rl.flatten.length by lia,show (t2:Int)=t+rl.flatten.length by lia,show (p2:Int)=p by lia,show (r2:Int)=0 by lia,show h2=h by lia]
 let#[er,dp]:=dm;rw[dp] at y8;show jF y8 (bl.keep y7 λz=>z) ?_;let dr:=dj.trans\(Sm.of s7).trans bl;let#[A1,ds]:=(cl.sm\(Sm.of s7).trans bl).a;erw[gn,1,bf #[2,x1,us,A1,1,ds,L.s.g,L.s.o,lu,λR2 eb dn H9 ec dx dy dF dK _ _=>?_]];let e0:=sq cr dK;subst e0;cases dF;erw[aV _,λE0 Ha hE sa ya=>qz (ls:=[]) (sa>>dy) .nil ya .nil #[gn,1,bf ?_]];let ct:=dr.trans\dx.sm.trans (Sm.of sa);erw[3,R,2,.l\SqL.of (((Sm.of s4).trans\bi.trans ct).keep bg λz=>z),1,?_];rw[aM,er,Ol rfl];show q Ha\ce.trans (bi<*ct)
end
section
variable {ts us:-Tri}{rl rm ls lm ms:List (-Nat)}
def zB{xs ys:List\-Nat}(h1:Dj xs)(h2:Dj ys)(h:∀l∈xs,∀x∈l,∀m∈ys,x∉m):Dj (xs++ys):=
 nP.mpr #[h1,h2,λl b m hm x c=>h l b x c m hm]
def ze(s:Skn ts)(c:Rims (ar\En ts) rl){l:-Nat}(d:l∈rl){x:Nat}(e:x∈l):Co ts x:=by let#[b,_,#[q,f],_]:=(c.cyc l d).step e;erw[0,f]
def DG(s:Skn ts)(s':Skn us)(n:∀c,Co ts c->¬Co us c)(e:Rims (ar\En ts) rl)(f:Rims (ar\En us) rm)(pm:ms.Perm (rl++rm))(o:ms.Pairwise λa b=>HT.lexLt (cI b) (cI a)=gB):Rims (ar\En (ts++us)) ms:=by
 let h:=λ{a b:Nat}=>Ea s s' n (a:=a) (b:=b);let cyc:∀l∈rl++rm,Cyc (ar\En (ts++us)) l/\∀x,l[0]?*>x->∀p∈l,x<=p:=λl d=>by
  rcases az.mp d with d|d
  .let c:=e.cyc l d;erw[#[#[c.ne,c.nd,λi p q h1 h2=>h.mpr\.l (c.ch i p q h1 h2)],λp q h1 h2=>h.mpr\.l (c.back p q h1 h2)],e.least l d]
  let c:=f.cyc l d;erw[#[#[c.ne,c.nd,λi p q h1 h2=>h.mpr\.o (c.ch i p q h1 h2)],λp q h1 h2=>h.mpr\.o (c.back p q h1 h2)],f.least l d]
 erw[λl d=>(cyc l\pm.mem_iff.mp d).1,λl d=>(cyc l\pm.mem_iff.mp d).2,λp ⟨q,g⟩=>?_,tK pm (zB (nj\iI (rim_steps s).2 e) (nj\iI (rim_steps s').2 f) λl d x r m hm u=>n x (ze s e d r)\ze s' f hm u) (λl d=>(cyc l d).1.ne) o];rcases h.mp g with g|g
 .let#[l,d,j]:=e.all p #[q,g];erw[l,pm.mem_iff.mpr\bR _ d,j]
 let#[l,d,j]:=f.all p #[q,g];erw[l,pm.mem_iff.mpr\cU _ d,j]
def zo(s:Skn ts)(p:Pcs ts ls){l:-Nat}(b:l∈ls){x:Nat}(c:x∈l):Co ts x:=by let#[a,_,ha,h]:=p.co l b;show ((h x).mp c).co s.g ha
def Fs(s:Skn ts)(s':Skn us)(g:∀c,Co ts c->¬Co us c)(p:Pcs ts ls)(p':Pcs us lm)(al:ft ts ls)(j:ft us lm)(pm:ms.Perm (ls++lm))(n:ms.Pairwise λa b=>HT.lexLt (cI b) (cI a)=gB):Pcs (ts++us) ms/\ft (ts++us) ms:=by
 let h:=λ{l:-Nat}=>Gf s s' g p p' (l:=l);erw[#[λl d=>(h\pm.mem_iff.mp d).1,λl d=>(h\pm.mem_iff.mp d).2,tK pm (zB (nj p.dis) (nj p'.dis) λl d x e m hm o=>g x (zo s p d e)\zo s' p' hm o) (λl d z=>?_) n],λx e=>?_]
 .let#[_,a,i,_]:=h d;rw[z] at i;cases i
 rcases k_.mp e with e|e
 .let#[l,d,f]:=al x e;erw[l,pm.mem_iff.mpr\bR _ d,f]
 let#[l,d,f]:=j x e;erw[l,pm.mem_iff.mpr\cU _ d,f]
def Cn.two{v e t p r g i j p1 l m n o p2 u:Nat}{h h1 h2:Int}(s:Skn ts)(s':Skn us)(w:∀c,Co ts c->¬Co us c)(c:Cn (ts++us) v e t p h r)(d:Cn ts g i j p1 h1 l)(f:Cn us m n o p2 h2 u)
  (D:Rims (ar\En ts) rl) (E:Rims (ar\En us) rm) (q:Pcs ts ls) (H:Pcs us lm) (al:ft ts ls) (I:ft us lm) {y mp:List\-Nat} (pr:y.Perm (rl++rm)) (pp:mp.Perm (ls++lm)) (hm:Rims (ar\En (ts++us)) y) (z:Pcs (ts++us) mp/\ft (ts++us) mp) :
  v=g+m/\e=i+n/\t=j+o/\p=p1+p2/\r=l+u/\h=h1+h2:=by
 let#[#[cs,K,A,1],S,#[ds,L,B,1],#[es,M,N,1]]:=#[d.vC,d.vC,f.vC,c.vC];let C:=mx M (aQ.mpr #[K,L,λa ha b O e=>w a ((A a).mp ha) (e ▸ (B b).mp O)]) λx=>by rw[N,k_,az,A,B]
 rw[aE] at C;let#[#[T,U],#[X,Y],#[Z,b7],b8,b9,ab,d1,d2,d3,d4,d5,d6,P,Q,R]:=#[c.rims (xW s s' w) hm,d.rims s D,f.rims s' E,c.pieces z.1 z.2,d.pieces q al,f.pieces H I,c.tC,d.tC,f.tC,c.hC,d.hC,f.hC,pr.length_eq,pp.length_eq,pr.flatten.length_eq];rw[fS,aE] at R;rw[aE] at d1 P Q;show#[C,?_,?_,?_,?_,?_]<;>lia
end
def wU:∀{cs fs:-Nat}{i c z:Nat},cs[i]?*>c->fs[i]?*>z->(cs.take (i+1)).zip fs=(cs.take i).zip fs++[(c,z)]
 | [],_,i,c,z,h,_=>by simp at h
 |_::_,[],i,c,z,_,h=>by simp at h
 |a::cs,b::fs,0,c,z,h,h'=>by cases h;cases h';rfl
 |a::cs,b::fs,i+1,c,z,h,h'=>by
  change (a,b)::(cs.take (i+1)).zip fs=(a,b)::((cs.take i).zip fs++[(c,z)]);rw[wU (cs:=cs) (fs:=fs) (i:=i) h h']
def Iw(C:gL)(vs:-V)(H:Hp)(Q:VK)(x T S F:gL)(b c:-V)(ts us:-Tri)(fs:-Nat):Prop:=vs=[.r x,.r T,.r S,.r F]/\cY C H x ts/\Skn ts/\↑ts<=50/\H T*>.a b/\ax H b ts/\H S*>.a c/\ax H c us/\Skn us/\↑us<=50/\H F*>.a (nV fs)/\Fre ts fs/\∀H',Sm H H'->Q (.bl gn) H'
def zQ(C:gL):Sp:=λvs H Q _=>Exists λx=>Exists\Ex8 (Iw C vs H Q x)
section
def lq:aR [↑2,↑0,↑76,↑16,↑12,↑3,↑38,"_law_both"] [↑2,↑0,↑76,↑16] (aI qF):=.f
def Je{f f1 f2 f3 f4 fa C:gL}{fd d1 d2 d3 d4 da:i4}(U:Fun K ↑94 ↑94 qF f fd)(T:bW mg)(mS:mg ↑29 = gf)(X:SCls K C)(M:Mk K C fa)(c3:mg "Skin"*>.r C)(GS:!Use 2 "rims" [↑36] (kT C) f1 d1)
  (GN:!Use 3 ↑66 [↑36] (lh C) f2 d2) (GP:!Use 2 "pieces" [↑36] (sL C) f3 d3) (GC:!Use 1 ↑9 [↑0] iE f4 d4) (GK:!aA CX0 5 fa da [↑86,↑17] (jz C)) (bK:Binds K da [↑86,↑17] []):!aA CX0 7 f fd [↑2,↑0,↑76,↑16] (zQ C):=by
 show U.ok lq (!9) λ_ _ _ s H vs Q _ d h=>?_
 let#[x,T0,S0,F,vt,vu,ts,us,fs,1,sk,S,hl,hT,ht,hS,hs,SU,ec,hF,fr,q]:=h;let hu:=cG d;let ed:=d.mono (⋯:1<=6);let an:=d.mono (⋯:2<=6);let bi:=d.mono (⋯:3<=6);erw[_,(af (sx 4 lq.nd iJ)
  (af (cf bP rfl (bU\uc GC ed (pa1\pv 2)) (gx 5 lq.nd)
   (aj\gF hu (pv 4) (pv 5) (ixx bB (pv 3)\cL sI (by rfl) T.len vk (pa1\pv 4)) rfl))
  (af (mK (i:=2) (N:=[↑6,↑12]) (fr:=[gf,gm 4]) (te:=(tCB (λxs H Q=>∃p ys,xs=[.r p]/\((SqL [] H p ys/\∀l,H l=gf->Q (.r l)\upd H l (.u ys))\/(SqT [] H p ys/\Q (.r p) H)))\dU (ng (qS []\bC 0) (cE 0) (λ_ H Q=>Q gn H) (m_ (bC 1)\bC 0) [gf,gm 1]) fk)) cpK rfl (bU\pv 2)
    (λC s H fp Oo=>#[(gx 0 (⋯:([↑6,↑12]:-Str).Nodup)),dN,(cV km (by rfl) T.tuple kg\pa1 (dG (N:=[↑3,↑12]) (fr:=[gf,gm 1]) (te:=(m_ (bC 1)\bC 0)) cpK rfl (mX\pv 0)
    (λC s H fp Oo=>#[(gx 0 (⋯:([↑3,↑12]:-Str).Nodup)),dN,(f_ hu (pv 1) (pv 0) λ_ _=>rfl)])))]) lq.nd rfl (.l rfl))
  (af (sx 6 lq.nd\iO M GK d rfl c3 bK .nil pass0 (pa1\cV l_ (by rfl) T.list ke (pa1\pv 2)))
  (af (sx 7 lq.nd\iO M GK d rfl c3 bK .nil pass0 (pa1\ak fJ (pv 1) (pv 2)))
  (af (bO (PW.pt\gk (bH (h_ d.units) (uc GS an\pa1 (pv 7)) (cL (rN\rj (nU (⋯:2<=64) _) d.units) (by rfl) mS fT\pa1 (ak fJ (uc GS an\pa1 (pv 0))\uc GS an (pa1\pv 6)))\nomark _) (gH\bH (h_ d.units) (uc GP an\pa1 (pv 7)) (cL (rN\rj (nU (⋯:2<=64) _) d.units) (by rfl) mS fT\pa1 (ak fJ (uc GP an\pa1 (pv 0))\uc GP an (pa1\pv 6))) (nomark _))) (aj\aK d_) bN)
  (aj\aK (fg (kZ d.units) (uc GN bi\pa1 (pv 7)) (cV km (by rfl) T.tuple kg\pa1 (dG (N:=[↑45,↑2,↑38]) (fr:=[gf,gm 0,gm 6]) cpK rfl (ju rfl T.range\pa1 ag)
    (λC s H fp Oo=>#[(gx 0 (⋯:([↑45,↑2,↑38]:-Str).Nodup)),dN,(ak bo (ixx ur (uc GN bi\pa1 (pv 1))\pv 0)\ixx ur (uc GN bi\pa1 (pv 2)) (pv 0))])))\nomark _)))))))),?_]
 let eN:=line5000;show λm H1 c4 s1 y1=>?_;erw[2,S0,vu,us,1,s1>>hS,hs.same s1,(),λr cs H2 c5 s2 y2 bl ee=>?_];let c6:∀c,c∈cs↔Co us c:=λc=>(bl.2 c)<*xw;let ef:cs.Nodup:=bl.1.imp λh=>bz h;let eW:=fr.len;let bm:=s1<*s2;let eh:r≠m:=(ao y1 c5).symm;let ei:F≠m:=ao hF c4;let lcs:↑cs<=150:=();let bn:∀i,((cs.take i).zip fs).map (·.1)=cs.take i:=λi=>Ay (by rw[aZ];lia);erw[r,1,#[_,SqL.of y2],dM (K:=[]) (a:=r) (xs:=nV cs) (λi Z H'=>∃o5,Z=[gm\.r x,gm\.r T0,gm\.r S0,gm\.r F,gm\.r m,o5,gf,gf]/\But m H2 H'/\H' m*>.k\((cs.take i).zip fs).map nmV)
  #[gf,1,But.refl,s2>>y1] (by rintro i Z H' _ ⟨_,_,bt,_⟩;show SqL.of\bt _ _ eh y2) ?_ ?_]
 .rintro i v Z H3 hi ⟨o5,rfl,bt,al⟩;rw[nV,aU] at hi;let#[c,B,1]:=bQ.mp hi;let ej:=(aq.mp B).1;let#[z,hz]:∃z,fs[i]?*>z:=#[_,ay ()];let F3:=bt _ _ ei (bm>>hF);let lz:↑(((cs.take i).zip fs).map nmV)=i:=by rw[av,List.length_zip,aZ];lia
  let ek:c∉((cs.take i).zip fs).map (·.1):=by rw[bn];intro h;let nd:=ef;rw[<-di (i+1) cs,bq,B,aQ] at nd;show (aQ.mp nd.1).2.2 c h c ∅ rfl
  let ez:(cs.take (i+1)).zip fs=(cs.take i).zip fs++[(c,z)]:=wU B hz;erw[3,m,2,al,F,4,SqL.of F3,by rw[lz];show cF\fM hz,3,m,2,DPut.k (k:=Sum.inl (c:Int)) al (by rw[lz];lia),?_];rw[mU ek];walk_at"H3 m H4 k4 y4";erw[2,λb o n e=>(k4 b n).trans\bt b o n e,by rw[y4,ez]]
 rintro Z H3 ⟨o5,rfl,bt,al⟩;rw[a_,b_] at al;let kz:=bn ↑cs;rw[b_] at kz;let#[nm,bw]:∃nm,nm=cs.zip fs:=#[2];rw[<-bw] at al kz;let be:∀b o,H b*>o->H3 b*>o:=λb o e=>bt b o (ao e c4) (bm>>e);let bx:∀c,Co us c->c∈nm.map (·.1):=λc B=>by rw[kz];show (c6 c).mpr B
 let at_:∀c,Co us c->∃k:Nat,cs[k]?*>c/\fs[k]?*>nmF nm c:=λc B=>by
  let#[k,x',h1,_,h3]:=iU\bx c B;rw[bw,j7] at h1;erw[k,h1.1,by rw[h3];show h1.2]
 let inj:∀a b,Co us a->Co us b->nmF nm a=nmF nm b->a=b:=λa b ha hb e=>by
  let#[k,h1,h2]:=at_ a ha;let#[j,h3,h4]:=at_ b hb;rw[e] at h2;have:=eQ fr.nd h2 h4;subst this;rw[h1] at h3;show df h3
 let I:Skn (us.map\nam (nmF nm)):=#[pd SU.g inj,λc B=>by
  let#[a,ha,1]:=qB B;show tR SU.g inj ha\SU.o a ha]
 let dj:∀c,Co ts c->¬Co (us.map\nam (nmF nm)) c:=λc B el=>by
  let#[a,ha,1]:=qB el;let#[k,_,h2]:=at_ a ha;show fr.out _ (aJ h2) B
 let c8:=be>>hS;let bA:ax H3 vu us:=Paired.imp' (by rintro _ _ ⟨a,e,h⟩;erw[a,e,be>>h]) hs;erw[2,S0,1,#[_,SqL.of c8],λZ_ hZ=>eD (K:=[]) (a:=S0) (xs:=vu) (λi Z ys H'=>∃o,Z=[o,gm\V.ref m]/\ax H' ys ((us.take i).map\nam (nmF nm))/\Same H3 H'/\H' Z_*>.a ys) #[gf,1,.nil,bT hZ,aW] (by rintro i Z ys H' _ ⟨_,_,_,e,_⟩;show SqL.of (e>>c8)) ?_ ?_]
 .rintro i x Z ys H' hi ⟨o,rfl,ab,bS,em⟩;let#[#[#[a,b,c],b0,t,1,hb],hb,db,en,ej]:=#[cD bA hi,(hb:H3 t*>.u (nV [a,b,c])),bS>>hb,aJ b0,(aq.mp b0).1];let e3:↑ys<=200:=by rw[aD ab,av,aZ];lia
  let eo:∀z∈[a,b,c],Co us z:=λz hz=>c_.mpr #[_,en,‹hz›];erw[2,t,1,#[_,SqT.of db],λY hY=>ph (K:=[]) (a:=t) (xs:=nV [a,b,c]) (λk Z a3 ap=>∃o,Z=[o,gm\V.ref m]/\a3=nV (([a,b,c].take k).map\nmF nm)/\Same H' ap/\ap Y*>.a a3) #[gf,5,bT hY,aW] (by rintro k Z a3 ap _ ⟨_,_,_,e,_⟩;show SqT.of (e>>db)) ?_ ?_]
  .rintro k x Z a3 ap hk ⟨o,rfl,rfl,sY,b7⟩;rw[nV,aU] at hk;let#[z,hz,1]:=bQ.mp hk;let#[_,x',_,h2,h3]:=iU\bx z (eo z\aJ hz);subst h3;erw[3,m,V.int (nmF nm z:Int),1,h2 ▸ DGet.k (k:=Sum.inl (z:Int)) (sY>>bS>>al),b7,?_,λHn kn yn=>#[2,?_,λb' o e=>(kn b'\ao e hY)<*(sY>>e),yn]]
   .rw[a_,av,aZ];have:↑([a,b,c]:-Nat)=3:=rfl;lia
   rw[bq,hz,bc,<-eJ];rfl
  rintro Z a3 ap ⟨o,rfl,rfl,sY,b7⟩;erw[Y,2,.l #[SqL.of b7,λt' ep=>?_]];walk_at"ap t' ep H9 s9 y9";let dc:=s9>>sY>>em;erw[dc,(),λe4 dd eq=>#[2,?_,λb' o e=>(dd _\ao e hZ)<*(s9>>sY>>bS>>e),eq]];rw[bq,b0,bc];show g_ (u:=nam (nmF nm) (a,b,c)) dc dd (ab.same\sY.trans s9) y9
 rintro Z vw H4 ⟨o,rfl,ab,s4,b8⟩;rw[aD bA,b_] at ab;let lw:↑(us.map\nam (nmF nm))<=50:=by rw[av];show ec
 generalize us.map (nam\nmF nm)=ws at ab lw I dj;let dk:Same H H4:=λb o e=>s4>>(be b o e);clear at_ inj bx be bA al kz bw c6 bl ee bt bn y2 c5 bm s2 s1 y1;let aM:∀{H H':Hp}{vs:-V}{ls:List\-Nat},Sm H H'->dA H vs ls->dA H' vs ls:=λs h=>Paired.imp' (by rintro _ _ ⟨a,e,h⟩;erw[a,e,s.keep h λz=>z]) h;let dl:∀{H H':Hp}{vs:-V}{ts:-Tri},Sm H H'->ax H vs ts->ax H' vs ts:=λs h=>Paired.imp' (by rintro _ _ ⟨a,e,h⟩;erw[a,e,s.keep h λz=>z]) h;let a0:∀{H H':Hp}{T:gL}{vs:-V}{ls:List\-Nat},Paired (lJ H H' T) vs ls->dA H' vs ls:=λh=>Paired.imp' (by rintro _ _ ⟨a,e,_,_,h⟩;erw[a,e,h]) h;erw[2,Z_,vw,1,.l\SqL.of b8,λl1 H5 e5 s5 y5=>λx1 er b9 ca e6=>?_];let cb:=iF (Cs:=C) b9 ca;erw[x1,er,l1,vw,ws,1,aW,cb>>y5,(ab.same s5).same cb,(),I.g,I.o,λH6 am a4=>#[1,?_]];let#[cc,cd,dm,dn,e7,e9]:=#[((Sm.of\dk.trans s5).trans\gC b9 ca am:Sm H H6),((Sm.of s5).trans\gC b9 ca am:Sm H4 H6),cc.keep hT (λz=>z),cd.keep b8 (λz=>z),aD ht,aD ab];erw[3,T0,Z_,6,dm,dn,(),λl2 H7 fb s7 y7=>λx2 es dp dr fc=>?_];let ce:=iF (Cs:=C) dp dr;let S2:=xW S I dj;let fi:↑(ts++ws)<=100:=by rw[aE];lia
 let ds:ax H7 (vt++vw) (ts++ws):=cW (dl (cc.trans\Sm.of s7) ht)\dl (cd.trans\Sm.of s7) ab;erw[x2,es,l2,_,ts++ws,1,aW,ce>>y7,ds.same ce,(),S2.g,S2.o,λH8 ad cg=>#[1,?_]];let#[dx,dy,ch,a4]:=#[((Sm.of s7).trans\gC dp dr ad:Sm H6 H8),cc<*dx,sk.sm dy,a4.sm dx];clear ds ce cb ad am cd dn dm b8 y7 y5 dk;let#[B1,b1]:=cg.a;erw[2,x2,_,B1,1,b1,S2.g,S2.o,(),λRa va rB H9 ci am a5 a6 et fj _=>?_];let cj:=am.sm;let#[B2,b2]:=(ch.sm cj).a;erw[2,x,ts,B2,1,b2,S.g,S.o,(),λRb vb r1 Ha cl ad a7 L dF fn _=>?_];let ev:=cj<*ad.sm;let#[B3,b3]:=(a4.sm ev).a;erw[2,x1,ws,B3,1,b3,I.g,I.o,(),λRc vc r2 Hb cr a8 a9 O dL fo _=>?_];erw[Rb,Rc,6,a8.sm.keep a7 λz=>z,a9,by rw[aD L,aD O];lia,λRd Hc cv sd yd=>?_];let bb:=a8.sm.trans\Sm.of sd;show si yd (cW (aM bb\a0 L)\aM (Sm.of sd) (a0 O)) (by rw[aE,aD L,aD O];lia) λW ms vm Hd hW se ye bd pm pw=>?_;let dT:=DG S I dj dF dL pm pw;let e1:=Rims.uniq (rim_steps S2).1 (rim_steps S2).2 et dT;subst e1;let cw:=ad.sm.trans\bb.trans (Sm.of se);show qz (cw.keep a5 λz=>z) (aM cw\a0 a6) ye bd #[2,aP ?_];let bg:=cj<*cw;clear pw bd ye yd O L a6 a9 a7 a5 b1 b2 b3 hW cv cr cl ci;let#[B1,b1]:=(cg.sm bg).a;erw[2,x2,_,B1,1,b1,S2.g,(),λRa va pB H9 ci am a5 a6 ew ex _=>?_];let cx:=am.sm;let#[B2,b2]:=(ch.sm\bg.trans cx).a;erw[2,x,ts,B2,1,b2,S.g,(),λRb vb p1 Ha cl ad a7 L dV d0 fv=>?_];let ey:=cx<*ad.sm;let#[B3,b3]:=(a4.sm\bg.trans ey).a;erw[2,x1,ws,B3,1,b3,I.g,(),λRc vc p2 Hb cr a8 a9 O d5 d6 fw=>?_];erw[Rb,Rc,6,a8.sm.keep a7 λz=>z,a9,by rw[aD L,aD O];lia,λRd Hc cv sd yd=>?_];let bb:=a8.sm.trans\Sm.of sd;show si yd (cW (aM bb\a0 L)\aM (Sm.of sd) (a0 O)) (by rw[aE,aD L,aD O];lia) λW mp vm He hW se ye bd d7 pw=>?_;let cZ:=Fs S I dj dV d5 d0 d6 d7 pw;let e2:=Pcs.uniq ew cZ.1 ex cZ.2;subst e2;let c0:=ad.sm.trans\bb.trans (Sm.of se);show qz (c0.keep a5 λz=>z) (aM c0\a0 a6) ye bd #[2,aP ?_];let d8:=bg.trans\cx.trans c0;clear pw bd ye yd O L a6 a9 a7 a5 b1 b2 b3 hW cv cr cl ci;erw[2,x2,2,cg.sm d8,S2,(),λT1 v e t p h r Hf fx eA cn yf=>?_];let c1:=d8<*eA;erw[(6),1,⋯,⋯,λD hD=>wa (lo:=0) (n:=6) (λi Z ys H'=>∃o,Z=[o,gm\.r x,gm\.r x1]/\Sm Hf H'/\H' D*>.a ys/\ys=((cnI v e t p h r).take i).map V.int) #[gf,1,Sm.of\bT hD,aW,1] ?_ ?_]
 .rintro i Z ys H' hi ⟨o,rfl,sm,c2,rfl⟩;let e0:(0+(i:Int))=(i:Int):=();rw[e0];erw[2,x,ts,1,ch.sm\c1.trans sm,S,(),λT2 v1 e1 t1 q1 h1 n1 Hg fy smg eB yg=>?_];let#[a1,d9]:∃a,(cnI v1 e1 t1 q1 h1 n1)[i]?*>a:=#[_,ay hi];erw[2,T2,4,SqT.of yg,cF (by rw[aU,d9];rfl),?_];erw[2,x1,ws,1,a4.sm\(c1<*sm).trans smg,I,(),λT3 v2 e2 t2 q2 h2 n2 Hh fA eE eH yh=>?_];let#[a2,ea]:∃a,(cnI v2 e2 t2 q2 h2 n2)[i]?*>a:=#[_,ay hi];let eb:=smg<*eE;erw[2,T3,4,SqT.of yh,cF (by rw[aU,ea];rfl),6,eb.keep c2 λz=>z,by rw[av,aZ];lia,λHn kn yn=>#[2,λb o e=>?_,yn,?_]]
  .let n:=ao e hD;show ((sm<*eb) b o e).imp (λe=>(kn b n)<*e) λ⟨h1,ob,h2⟩=>#[h1,ob,(kn b n)<*h2]
  let#[b1,b2,b3,b4,b5,b6]:=cn.two S I dj eB eH dF dL dV d5 d0 d6 pm d7 dT cZ;let hs:(cnI v e t p h r)[i]?*>(a1+a2):=by
   subst b1 b2 b3 b4 b5 b6
   match i,hi,d9,ea with
   |0,_,x,y=>cases x;cases y;rfl
   |1,_,x,y=>cases x;cases y;rfl
   |2,_,x,y=>cases x;cases y;rfl
   |3,_,x,y=>cases x;cases y;rfl
   |4,_,x,y=>cases x;cases y;rfl
   |5,_,x,y=>cases x;cases y;rfl
  rw[bq,hs,bc];rfl
 rintro Z ys H' ⟨o,rfl,sm,c2,rfl⟩;erw[D,2,.l #[SqL.of c2,λR hR=>?_]];walk_at"H' R hR Hz sz yz";show jF (l:=cnI v e t p h r) (sz>>(sm.keep yf λz=>z)) yz\q Hz (dy.trans\c1.trans (sm.trans\Sm.of sz))
end
section
variable {p:gL}{H H1 H2 H':Hp}
def SmB.trans(a:SmB p H H1)(b:SmB p H1 H2):SmB p H H2:=λc o n e=>by
 rcases a c o n e with e|⟨h,ob,e⟩
 .exact b c o n e
 rcases b c _ n e with e|⟨h2,_⟩
 .exact .o #[h,ob,e]
 show h2.elim
def toB(a:Sm H H1):SmB p H H1:=λc o _ e=>a c o e
def SmB.keep(s:SmB p H H'){b:gL}{o:HO}(e:H b*>o)(n:b≠p)(h:¬dh o):H' b*>o:=(s b o n e).elim id λz=>(h z.1).elim
def SmB.trs(s:SmB p H H'){q:Int×Int}(c:H p*>.a\bE q){b:-V}{ts:-Tri}(h:ax H b ts):ax H' b ts:=Paired.imp' (by rintro _ _ ⟨a,e,h⟩;erw[a,e,s.keep h (bI h c ∅) λz=>z]) h
def SmB.sk{C x:gL}{ts:-Tri}(s:SmB p H H'){q:Int×Int}(f:H p*>.a\bE q)(g:Good ts)(h:cY C H x ts):cY C H' x ts:=by
 let#[dx,O,R,n,u,v,cs,L,k]:=h;let rd:∀{b:gL}{o:HO},dh o->Rd H b o->Rd H' b o:=λ{b o} hd r=>by
  rcases r with e|⟨ob,e⟩
  .rcases s b o (bI e f λz=>by rw[z] at hd;show hd) e with e|⟨_,ob,e⟩
   .exact .l e
   show .o #[ob,e]
  show .o #[ob,s.keep e (bI e f ∅) λz=>z]
 let w:O≠p:=λz=>by
  let e:=k.od;rw[z,f] at e;cases e;let#[a,ha]:=k.ol.2 (V.int q.1) (by simp[bE]);cases ha
 let A:R≠p:=λz=>by
  let e:=k.ri;rw[z,f] at e;let e:bE q=nV cs:=HO.lst.inj\df e;let l2:↑cs=2:=by rw[<-a_,<-e];rfl
  let#[c,i]:∃c,c∈cs:=#[cs[0]'(),je _];let#[a,b,h]:=(k.co c).mp i;let d:=g.sk;have:=g7 (l:=[c,a,b]) (m:=cs) (by simp[d.ne h,d.ne\d.rot h,aO\d.ne (d.rot\d.rot h)]) λy j=>by
   simp only[ah,cK,or_false] at j;rcases j with rfl|rfl|rfl
   .exact i
   .exact (k.co _).mpr #[0,d.rot h]
   show (k.co _).mpr #[0,d.rot\d.rot h]
  rw[l2] at this;simp at this
 erw[dx,O,R,n,u,v,cs,L,s.keep k.ob (bI k.ob f ∅) λz=>z,s.keep k.od w λz=>z,k.ol,s.keep k.ri A λz=>z,k.up,k.co,k.cl,rd True.intro k.th,rd True.intro k.st,k.nk,k.ky,λz B=>rd True.intro\k.ab z B]
end
def nr(t:Tri):PyData:=.tuple [.i (t.1:Int),.i (t.2.1:Int),.i (t.2.2:Int)]
def Ia{b:-V}{ts:-Tri}(h:ax H b ts):Dts [] H b (ts.map nr):=by
 induction h with
 |nil=>show .nil
 |cons q _ c=>
  let#[a,1,e]:=q;show .c (.u (SqT.of e)\.c (.i _) (.c (.i _)\.c (.i _) .nil)) c
def xM:∀ts:-Tri,PyData.depthAll (ts.map nr)<=1
 | []=>by simp[PyData.depthAll]
 |t::ts=>by
  have:=xM ts;simp only[bj,PyData.depthAll,nr,PyData.depth] at this |-;lia
def EW{ts:-Tri}{cs:-Nat}(b:∀c,Co ts c->c∈cs)(lc:↑cs<=100):Fre ts ((List.range 400).filter λd=>decide (d∉cs)):=by
 let h1:=mB (λd=>decide (d∉cs))\List.range 400;let h2:=g7 (l:=(List.range 400).filter λd=>!decide (d∉cs)) (m:=cs) (rh.filter _) λx e=>by
  have:=(bZ.mp e).2;simpa using this
 rw[iz] at h1;erw[rh.filter _,λd hd z=>by have:=(bZ.mp hd).2;show (On this)\b d z,(),()]
def IB(K:W.Frag)(vs:-V)(H:Hp)(Q:VK)(a:gL)(ns:-Int):Prop:=vs=[.r a]/\SqL [] H a (ns.map V.int)/\↑ns<=63/\∀H',Q (.bl gn) H'
def qD(K:W.Frag):Sp:=fm\IB K
section
def iZ:aR [↑7,↑1,↑0,↑22,↑16,↑2,↑28,↑76] [↑7] (aI i9):=.f
def Ji{f f1 f2 f3 f4 f5 f6 f7 f8 f9 g1 g2 g3 fa C:gL}{d d1 d2 d3 d4 d5 d6 d7 d8 d9 e1 e2 e3 da:i4}(U:Fun K "law" "law" i9 f d)(T:bW mg)(M:Mk K C fa)(cr:mg "Skin"*>.r C)
  (GP:!Use 2 ↑95 [↑7,↑45] (zT K) f1 d1) (GH:!Use 2 ↑46 [↑1,↑0] w8 f2 d2) (GN:!Use 2 ↑59 [↑1,↑0] xQ f3 d3)
  (GL:!Use 4 ↑75 [↑1,↑27] xS f4 d4) (GD:!Use 1 ↑13 [↑1,↑33] hJ f5 d5) (GC:!Use 1 ↑9 [↑0] iE f6 d6)
  (GE:!Use 7 ↑81 [↑2,↑0] (zb C) f7 d7) (GI:!Use 7 ↑32 [↑2,↑0] (zU C) f8 d8) (GM:!Use 7 ↑78 [↑2,↑0,↑52,↑28] (yY C) f9 d9)
  (GR:!Use 7 ↑14 [↑1,↑79] (zV C) g1 e1) (GS:!Use 7 ↑47 [↑2,↑0,↑16] (w9 C) g2 e2) (GT:!Use 7 ↑94 [↑2,↑0,↑76,↑16] (zQ C) g3 e3)
  (GK:!aA CX0 5 fa da [↑86,↑17] (jz C)) (bK:Binds K da [↑86,↑17] []):!aA CX0 8 f d [↑7] (qD K):=by
 show U.ok iZ (!2) λ_ A _ s H vs _ _ l h=>?_
 let#[a,ns,1,bA,dF,q]:=h;let am:=l.mono (⋯:1<=7);let an:=l.mono (⋯:2<=7);let bS:=l.mono (⋯:4<=7);let cv:=l.mono (⋯:6<=7);let dK:=line5000;erw[_,(af (sx 1 iZ.nd\uc GP an (ae (pv 0)\pa1 ag))
  (af (sx 2 iZ.nd\uc GH an (ae (pv 1)\pa1 (uc GN an\ae (pv 1) (pa1\uc GL bS (ae (pv 1)\pa1 ag)))))
  (af (sx 3 iZ.nd\uc GC am (pa1\pv 2))
  (af (mK (i:=4) (N:=[↑3,↑22]) (fr:=[gf,gm 3]) (tt:=(m9\tOp (rIn [] gn) (bC 0) (bC 1))) (te:=(bC 0)) cpK rfl (ju rfl T.range\pa1 ag)
    (λC s H fp Oo=>#[(gx 0 (⋯:([↑3,↑22]:-Str).Nodup)),(hU\bH ko (pv 0) (pv 1) rfl),(pv 0)]) iZ.nd rfl (.l rfl))
  (af (sx 5 iZ.nd\iO M GK cv rfl cr bK .nil pass0 (pa1\cV l_ (by rfl) T.list ke (pa1\pv 2)))
  (af (bO (PW.pt\gk (eG\ui (uc GE l\ae (pv 5) (pa1\pv 2))) (gH\eU (dO\uc GI l (ae (pv 5)\pa1 (pv 2))))) (aj\aK d_) bN)
  (af (sx 6 iZ.nd\ixx bB (pv 4) (uc GD am\ae (pv 1) (pa1 ag)))
  (af (bO (PW.pt\iS (bH (h_ l.units) (pv 2) (cz dP)\nomark _) (iN\eU (dO\uc GM l (ae (pv 5)\ae (pv 2) (ae (uc GD am\ae (pv 1) (pa1\pln T.len (pv 2)))\pa1 (pv 6)))))) (aj\aK d_) bN)
  (af (sx 7 iZ.nd\uc GL bS (ae (uc GP an\ae (pv 0) (pa1 ag))\pa1 ag))
  (af (bO (eU\dO (uc GR l\ae (pv 1) (pa1\ak bo ag (uc GD am\ae (pv 1) (pa1 ag))))) (aj\aK d_) bN)
  (aj\aK (hX (uc GS l\ae (pv 5) (ae (pv 2)\pa1 (pv 4)))\jJ (uc GT l\ae (pv 5) (ae (pv 2)\ae (pv 7) (pa1\pv 4))))))))))))))),?_]
 erw[2,a,ns,(0),1,bA,⋯,⋯,λp H1 hp s1 y1=>?_];erw[3,2,p,2,y1,xv ns ⋯ ⋯,λr vr cw q1 H2 a5 b0 B b1 L tr cx g one=>?_];erw[p,r,_,vr,cw,1,B,b1,L,a5,tr,(),g,λr2 cZ c0 q2 H3 a6 b2 a7 b3 b4 b5 c1 g3 c2 b6=>?_];let b7:r2≠p:=λz=>by rw[z,B] at a6;cases a6
 erw[p,r2,q2,cZ,c0,1,a7,b3,b4,b7,b5,(),λR u ts Y H4 a8 b8 a9 ap hT ht c3 aM=>?_];let a0:R≠p:=λz=>by rw[z,a7] at a8;cases a8
 let S:Skn ts:=#[wH g3 aM,λc hc=>(su (λ_ _ _=>aM.mem_iff) c).mpr\b6 one c ((HK aM c).mp hc)];let cx:↑ts<=20:=();let c4:Sm H H4:=λb o e=>by
  let n:=ao e hp;show .l\b8 _ _ n (b2 _ _ n\b0 _ _ n (s1>>e))
 clear b6 one c2 g3 aM c3 c1 b5 b4 b7 tr L a5 a8 b8 b2 b0 a7 b3 B b1 g a6;erw[2,R,u,ts,1,hT,ht,(),λrc cs H5 c5 s5 y5 b9 c6=>?_];let ca:∀c,Co ts c->c∈cs:=λc hc=>(b9.2 c).mpr\xw.mpr hc;let ab:=EW ca ();erw[(400),1,⋯,⋯,λZ_ hZ=>wa (lo:=0) (n:=400) (λi Z ys H'=>∃o,Z=[o,gm\.r rc]/\ys=nV ((List.range i).filter λd=>decide (d∉cs))/\Same H5 H'/\H' Z_*>.a ys) #[gf,5,bT hZ,aW] ?_ ?_]
 .rintro i Z ys H' hi ⟨o,rfl,rfl,sm,cb⟩;let e0:(0+(i:Int))=(i:Int):=();rw[e0];erw[3,rc,2,.l\SqL.of (sm>>y5),1,iP _,2,?_];change if (if gn=gn then !inV (V.int (i:Int)) (nV cs) else _)=gn then _ else _
  rw[Oj rfl,ia];by_cases hn:i∈cs
  .rw[Ol hn];show aP #[2,?_,sm,cb];rw[uW,fR,Au ‹hn›,jd,fQ]
  rw[Om hn];show bf #[2,cb,?_,λHn kn yn=>#[2,?_,λb o e=>(kn b\ao e hZ)<*(sm>>e),yn]]
  .rw[a_];have:=gU (λd=>decide (d∉cs))\List.range i;rw[iz] at this;lia
  rw[uW,fR,Av ‹hn›,jd,<-eJ];rfl
 rintro Z ys H6 ⟨o,rfl,rfl,s6,bb⟩;generalize (List.range 400).filter (λd=>decide (d∉cs))=fs at bb ab;let#[bd,cc,cd]:=#[s5<*s6,(s5.free hZ:H4 Z_=gf),bd>>hT];erw[2,R,u,1,.l\SqL.of cd,λl1 H7 c8 s7 y7=>λx dx hx a1 be=>?_];let bg:=iF (Cs:=C) hx a1;let bi:=bd<*s7;erw[x,dx,l1,u,ts,1,aW,bg>>y7,(ht.same bi).same bg,(),S.g,S.o,λD ad sk=>#[1,?_]];let#[al,ce,v,O,bl,bm,I,db]:=#[((Sm.of bi).trans\gC hx a1 ad:Sm H4 D),((Sm.of s7).trans\gC hx a1 ad:Sm H6 D),al.keep a9 (λz=>z),al.keep hT (λz=>z),ce.keep bb (λz=>z),((ao a9 cc).symm:Z_≠p),(Paired.imp' (by rintro _ _ ⟨a,e,h⟩;erw[a,e,al.keep h λz=>z]) ht:ax D u ts),c4<*al];clear bg ad bi bd s7 y7 s6 s5 y5 cd bb b9 c6 ca al ce ht hT a9 cc c8 hx a1 be hZ c5;let#[A,dc]:=sk.a;erw[3,x,R,u,ts,A,1,dc,S,(),O,I,λdE H9 a2=>#[2,aP ?_]];let bn:∀{H H':Hp}{vs:-V}{ts:-Tri},Sm H H'->ax H vs ts->ax H' vs ts:=λs h=>Paired.imp' (by rintro _ _ ⟨a,e,h⟩;erw[a,e,s.keep h λz=>z]) h;erw[3,x,R,u,ts,1,sk.sm a2,S,(),a2.keep O λz=>z,bn a2 I,λHa ad=>#[gn,1,ik ?_]];let cg:=a2<*ad;let#[d1,d2]:=dt (q:=Y) (b:=100) ⋯;let#[j,hj]:∃j:Nat,digO Y 100=(j:Int):=#[_,(eZ d1).symm];let#[z,hz]:∃z,fs[j]?*>z:=#[_,ay (by have:=ab.len;lia)];erw[3,p,Y,(100),1,cg.keep v λz=>z,ap,⋯,⋯,λHb kb yb=>?_];let a3:SmB p D Hb:=(toB cg).trans λb o n e=>.l\(kb b n).trans e;let dd:=a3.keep bl bm (λz=>z);erw[Z_,4,SqL.of dd,by rw[hj];show cF\fM hz,?_];dsimp only [nh,cE];show pA (λZ H'=>∃q',Z=[gm\.r a,gm\.r p,gm\.r R,gm\.r rc,gm\.r Z_,gm\.r x,gm\.i (z:Int),gf]/\SmB p D H'/\H' p*>.a (bE q')/\cC q') ?_ ?_
 .intro NX tl;let ch:=a3.keep O a0 (λz=>z);let dj:=a3.trs v I;erw[2,aV _,λE0 Hc hE sc yc=>?_];let ci:=a3.trans\toB (Sm.of sc);erw[0,.a (SqL.of (sc>>ch))\Ia (dj.same sc),.a (SqL.of yc) .nil,?_,?_]
  .have:=xM ts;change PyData.depthAll (ts.map nr)+1<=60;lia
  by_cases e0:ts=[]
  .subst e0;erw[gB,1,aP\tl _ _ #[2,ci,sc>>yb,cA ap]]
  let be:PyData.eqv (.list\ts.map nr) (.list [])=gB:=by
   cases ts with
   |nil=>show (e0 rfl).elim
   |cons t ts=>rfl
  erw[gn,by rw[Oj rfl,be];rfl,bf ?_];let#[dL,dT,dk,#[d1,d2]]:=#[aD I,(dI.mpr e0:0<↑ts),sc>>ch,dt (q:=nxt Y 100) (b:=(↑u:Int)) ()];let#[i,hi]:∃i:Nat,digO (nxt Y 100) (↑u:Int)=(i:Int):=#[_,(eZ d1).symm];erw[3,3,R,2,.l\SqL.of dk,p,9,sc>>yb,cA ap,(),g9 () (),λHd kd yd=>?_];let a4:SmB p D Hd:=ci.trans λb o n e=>.l\(kd b n).trans e;erw[2,x,R,u,ts,i,z,by rw[hi];rfl,a4.sk v S.g sk,S,(),a4.keep O a0 λz=>z,a4.trs v I,(),ab.out z\aJ hz,λHe cj=>#[gn,1,ik\tl _ _ #[2,a4.trans\toB cj,cj.keep yd λz=>z,cA\cA ap]]]
 rintro Z Hf ⟨q5,rfl,bt,cl,cn⟩;let dl:SqL [] Hf a (ns.map V.int):=by
  let dm:Sm H Hf:=λb o e=>by
   let n:=ao e hp;rcases db b o e with e|⟨h0,ob,e⟩
   .exact bt b o n e
   rcases bt b _ n e with e|⟨h,_⟩
   .exact .o #[h0,ob,e]
   show h.elim
  show bA.imp_left λh=>dm.rd h
 erw[2,a,ns,(1),1,dl,⋯,⋯,λp2 Hg B sg yg=>?_];erw[p2,2,yg,xv ns ⋯ ⋯,λr vr us q6 Hh a5 but dV d0 L tr lu gu dn=>?_];let dp:SmB p D Hh:=λb o n e=>by
  rcases bt b o n e with e|⟨h,ob,e⟩
  .exact .l\but _ _ (ao e B) (sg>>e)
  show .o #[h,ob,but _ _ (ao e B) (sg>>e)]
 let bw:Hh p*>.a (bE q5):=but _ _ (ao cl B) (sg>>cl);let dr:r≠p:=λz=>by
  rw[z,bw] at L;cases L;cases tr with
  |cons h _=>let#[_,e,_]:=h;cases e
 let#[d1,d2]:=dt (q:=q5) (b:=6) ⋯;let#[m,hm]:∃m:Nat,digO q5 6=(m:Int):=#[_,(eZ d1).symm];erw[3,p,q5,(6),1,bw,cn,⋯,⋯,λHi ki yi=>?_];let ds:SmB p Hh Hi:=λb o n e=>.l\(ki b n).trans e;erw[6,p,_,1+m,?_,yi,cA cn,(),(),λHj dy=>#[gn,1,ik ?_]]
 .change [V.ref p,V.int (1+digO q5 6)]=_;rw[hm,show (1+(m:Int))=((1+m:Nat):Int) by lia]
 let bx:=ds<*dy;let y:=dp<*bx;erw[3,2,x,R,Z_,u,ts,fs,1,y.sk v S.g sk,S,(),y.keep O a0 λz=>z,y.trs v I,y.keep bl bm λz=>z,ab,λHk X=>#[gn,1,bf ?_]];erw[3,3,x,R,r,Z_,u,vr,ts,us,fs,1,(y.sk v S.g sk).sm X,S,(),X.keep (y.keep O a0 λz=>z) λz=>z,bn X\y.trs v I,X.keep (bx.keep L dr λz=>z) λz=>z,bn X\bx.trs bw tr,#[gu,dn],(),X.keep (y.keep bl bm λz=>z) λz=>z,ab,λHl _=>q Hl]
end
def len1(h:↑us=1):∃a,us=[a]:=List.length_eq_one_iff.mp h
def len2(h:↑us=2):∃a b,us=[a,b]:=by let#[a,r,1]:=Ar h;let#[b,1]:=len1\AN h;erw[a,b,1]
def len3(h:↑us=3):∃a b c,us=[a,b,c]:=by let#[a,r,1]:=Ar h;let#[b,c,1]:=len2\AN h;erw[a,b,c,1]
def len4(h:↑us=4):∃a b c d,us=[a,b,c,d]:=by let#[a,r,1]:=Ar h;let#[b,c,d,1]:=len3\AN h;erw[a,b,c,d,1]
def bdA(x q:Str)(st:lj)(us:-gE)(kV doc pm:gE)(an:Option gL)(b ct:gE):=bindArgs (W.fnOf x q (eF st) (dZ st) (aI st) .none kV doc pm an b ct) #[us,[]]
section
variable {x q:Str}{st:lj}{f:gL}(F:Fun K x q st f fd)
include F
theorem bd1(a:Str)(h:(λu=>bdA x q st [u])=λu _ _ _ _ _ _=>pure [(a,u)]):Binds K fd [a] []:=F.binds λk d p n c t us b=>by
 let#[u,1]:=len1 b;show congrArg (· u k d p n c t) h
theorem bd2(a b:Str)(h:(λu v=>bdA x q st [u,v])=λu v _ _ _ _ _ _=>pure [(a,u),(b,v)]):Binds K fd [a,b] []:=F.binds λk d p n c t us e=>by
 let#[u,v,1]:=len2 e;show congrArg (· u v k d p n c t) h
theorem bd3(a b e:Str)(h:(λu v w=>bdA x q st [u,v,w])=λu v w _ _ _ _ _ _=>pure [(a,u),(b,v),(e,w)]):Binds K fd [a,b,e] []:=F.binds λk d p n c t us f=>by
 let#[u,v,w,1]:=len3 f;show congrArg (· u v w k d p n c t) h
theorem bd4(a b e g:Str)(h:(λu v w y=>bdA x q st [u,v,w,y])=λu v w y _ _ _ _ _ _=>pure [(a,u),(b,v),(e,w),(g,y)]):Binds K fd [a,b,e,g] []:=F.binds λk d p n c t us f=>by
 let#[u,v,w,y,1]:=len4 f;show congrArg (· u v w y k d p n c t) h
end
structure Top(K:W.Frag)(mg:Str->Option gE)(x:Str)(st:lj)(f:gL)(fd:i4):Prop where
 u:Fun K x x st f fd
 m:mg x*>.r f
structure InC(K:W.Frag)(C:gL)(x q:Str)(st:lj)(f:gL)(fd:i4):Prop where
 u:Fun K x q st f fd
 m:Meth K C x f
def yV{h:js}{x:Str}{st:lj}{f:gL}{d:gE}{od an:Option gL}{e:Array\Option gE}{kV doc pm b ct:gE}(X:K.In h)(G:h.Ns hK mg)
  (a:W.nsIn K hK x*>gm\.r f) (l:K.lookup f*>#[d,od,.func\W.fnOf x x (eF st) (dZ st) (aI st) .none kV doc pm an b ct,e]) (c:W.codeIn K b x=gn) (k:W.keepIn K (.r f)=gn) :
  Top K mg x st f (W.fnOf x x (eF st) (dZ st) (aI st) .none kV doc pm an b ct):=#[zw (st:=st) l c k,vh X G a]
def Jy{C:gL}{x q:Str}{st:lj}{f:gL}{d:gE}{od an:Option gL}{e:Array\Option gE}{kV doc pm b ct:gE}
  (a:W.findIn K (.r C) x*>gm\.r f) (i:W.isFn K (.r f)=gn) (l:K.lookup f*>#[d,od,.func\W.fnOf x q (eF st) (dZ st) (aI st) .none kV doc pm an b ct,e]) (c:W.codeIn K b q=gn) (k:W.keepIn K (.r f)=gn) :
  InC K C x q st f (W.fnOf x q (eF st) (dZ st) (aI st) .none kV doc pm an b ct):=#[zw (st:=st) l c k,#[a,i,k]]
def aY(K:W.Frag)(x:Str)(st:lj):Prop:=∃(f:gL)(b:gE)(od an:Option gL)(c:Array\Option gE)(kV d pm cd ct:gE),W.nsIn K hK x*>gm (.r f)/\K.lookup f*>#[b,od,.func\W.fnOf x x (eF st) (dZ st) (aI st) .none kV d pm an cd ct,c]/\W.codeIn K cd x=gn/\W.keepIn K (.r f)=gn
def top_in{x:Str}{st:lj}{f:gL}{b:gE}{od an:Option gL}{d:Array\Option gE}{kV e pm cd ct:gE}(a:W.nsIn K hK x*>gm\.r f)(l:K.lookup f*>#[b,od,.func\W.fnOf x x (eF st) (dZ st) (aI st) .none kV e pm an cd ct,d])(c:W.codeIn K cd x=gn)(k:W.keepIn K (.r f)=gn):aY K x st:=#[f,b,od,an,d,kV,e,pm,cd,ct,a,l,c,k]
def yU{h:js}{x:Str}{st:lj}(X:K.In h)(G:h.Ns hK mg)(t:aY K x st):∃f d,Top K mg x st f d:=by let#[f,b,od,an,e,kV,g,pm,cd,ct,a,l,c,k]:=t;erw[0,yV (st:=st) X G a l c k]
def InK(K:W.Frag)(C:gL)(x q:Str)(st:lj):Prop:=∃(f:gL)(b:gE)(od an:Option gL)(c:Array\Option gE)(kV d pm cd ct:gE),W.findIn K (.r C) x*>gm (.r f)/\W.isFn K (.r f)=gn/\K.lookup f*>#[b,od,.func\W.fnOf x q (eF st) (dZ st) (aI st) .none kV d pm an cd ct,c]/\W.codeIn K cd q=gn/\W.keepIn K (.r f)=gn
def in_in{C:gL}{x q:Str}{st:lj}{f:gL}{b:gE}{od an:Option gL}{d:Array\Option gE}{kV e pm cd ct:gE}(a:W.findIn K (.r C) x*>gm\.r f)(i:W.isFn K (.r f)=gn)(l:K.lookup f*>#[b,od,.func\W.fnOf x q (eF st) (dZ st) (aI st) .none kV e pm an cd ct,d])(c:W.codeIn K cd q=gn)(k:W.keepIn K (.r f)=gn):InK K C x q st:=#[f,b,od,an,d,kV,e,pm,cd,ct,a,i,l,c,k]
def qL{C:gL}{x q:Str}{st:lj}(t:InK K C x q st):∃f d,InC K C x q st f d:=by let#[f,b,od,an,e,kV,g,pm,cd,ct,a,i,l,c,k]:=t;erw[0,Jy (st:=st) a i l c k]
section
variable {h:js}{ps:-Str}{sp:Sp}{n:Nat}{x q:Str}{st:lj}{C f:gL}{d:i4}
def bdx(U:Fun K x q st f d){ps:-Str}(b:∀{f d},Fun K x q st f d->Binds K d ps []:=by first|exact λU=>bd1 U _ rfl|exact λU=>bd2 U _ _ rfl|exact λU=>bd3 U _ _ _ rfl|exact λU=>bd4 U _ _ _ _ rfl):Binds K d ps []:=b U
def bp(Y:K.In h)(G:h.Ns hK mg)(t:aY K x st)(ok:∀{f d},Fun K x x st f d->!aA CX0 n f d ps sp)(b:∀{f d},Fun K x x st f d->Binds K d ps []:=by first|exact λU=>bd1 U _ rfl|exact λU=>bd2 U _ _ rfl|exact λU=>bd3 U _ _ _ rfl|exact λU=>bd4 U _ _ _ _ rfl):∃f d,!Use n x ps sp f d:=
 (yU Y G t).imp λ_ t=>t.imp λ_ U=>#[ok U.u,b U.u,U.m,U.u.kp]
def fG{m:Nat}(u:!Use n x ps sp f d)(h:n<=m):!Use m x ps sp f d:=#[u.g.mono h,u.b,u.m,u.k]
end
def ckZ(K:W.Frag):Bool:=(["len","int","str","isinstance",↑89,↑15,↑23,"bool","all","ValueError",↑51,↑31,↑29,"min","max",↑93,"sum"]:-Str).all λx=>W.nsIn K hK x==gm gf
def all_mk{h:js}{fa Cs:gL}{tM:Tok}(Y:K.In h)(G:h.Ns hK mg)(am:mg "law"*>.r fa)
  (ap:W.nsIn K hK "Skin"*>gm\.r Cs)
  (aM:W.nsIn K hK "MOST_TRIPLES"*>gm\.i 200 tM)
  (h1:aY K ↑92 p9)
  (h2:aY K ↑43 oM)
  (h3:aY K ↑65 qk)
  (h4:aY K "walked" pF)
  (h5:aY K ↑72 oJ)
  (h6:aY K "rims" qE)
  (h7:aY K ↑90 oR)
  (h8:aY K "pieces" pH)
  (h9:aY K ↑55 oE)
  (a0:aY K ↑66 oU)
  (a1:aY K ↑25 oq)
  (a2:aY K "is_pair" pK)
  (a3:aY K ↑39 oy)
  (a4:aY K ↑37 oH)
  (a5:aY K ↑82 oQ)
  (a6:aY K ↑73 oK)
  (a7:aY K ↑20 oW)
  (a8:aY K ↑24 pM)
  (a9:aY K ↑19 qa)
  (bb:aY K ↑30 qG)
  (bd:aY K ↑11 qe)
  (be:aY K ↑44 qo)
  (bg:aY K ↑87 sAt)
  (bi:aY K ↑95 qR)
  (bl:aY K ↑13 qm)
  (bm:aY K ↑42 qc)
  (bn:aY K ↑21 pG)
  (bt:aY K ↑61 qH)
  (bw:aY K ↑9 oV)
  (bx:aY K ↑80 qI)
  (bA:aY K ↑57 qb)
  (bK:aY K ↑62 ql)
  (b0:aY K ↑26 oF)
  (b1:aY K ↑60 pJ)
  (b2:aY K ↑77 qg)
  (b3:aY K ↑48 oT)
  (b4:aY K ↑75 qf)
  (b5:aY K ↑59 qd)
  (b6:aY K ↑46 pL)
  (b7:aY K ↑18 ow)
  (b8:aY K ↑81 qi)
  (b9:aY K ↑63 qj)
  (ca:aY K ↑32 oG)
  (cb:aY K ↑78 qh)
  (cc:aY K ↑47 oS)
  (ce:aY K ↑94 qF)
  (cg:aY K ↑58 pI)
  (ch:aY K ↑14 oo)
  (ci:aY K "law" i9)
  (cj:InK K Cs ↑97 "Skin.__init__" lD)
  (cl:InK K Cs ↑71 ↑85 oB)
  (cn:InK K Cs ↑74 "Skin.corners" oC)
  (cr:InK K Cs "third" "Skin.third" p_)
  (pg:W.plainGet K Cs Str.empty=gn)
  (hd:W.hasDictIn K Cs=gn)
  (po:W.plainOver K Cs=gn)
  (sa:W.findIn K (.r Cs) "__setattr__"*>gm\.b ↑91)
  (mk:W.makesIn K Cs=gn)
  (kc:W.keepIn K (.r Cs)=gn)
  (cs:W.findIn K (.r Cs) "ordered"*>gf)
  (cv:W.findIn K (.r Cs) "rising"*>gf)
  (cw:W.findIn K (.r Cs) ↑88*>gf)
  (cx:W.findIn K (.r Cs) "steps"*>gf)
  (cZ:ckZ K=gn)
  : ∃fd:i4,(∀(s:hA)(v:gE),BindsTo s fd #[[v],[]] [(↑7,v)])/\∀base:js,K.In base->base.Ns hK mg->!aA CX0 8 fa fd [↑7] (qD K):=by
 let#[d8,oc,od,an,sl,kV,dc,pm,cd,ct,a,lk,c,k]:=ci;let e:=am.symm.trans\vh Y G a;cases e;let#[z,T,X,#[0,y],#[0,D],#[0,E],#[0,H],d,I,L,c0,c1,c2,O,j,mM,c3,l]:=#[(λx h=>W.mg_none_of Y G\beq_iff_eq.mp (iw.mp cZ x h):∀x∈(["len","int","str","isinstance",↑89,↑15,↑23,"bool","all","ValueError",↑51,↑31,↑29,"min","max",↑93,"sum"]:-Str),mg x=gf),(#[z _ ⋯,z _ ⋯,z _ ⋯,z _ ⋯,z _ ⋯,z _ ⋯,z _ ⋯,z _ ⋯,z _ ⋯,z _ ⋯,z _ ⋯,z _ ⋯]:bW mg),(#[#[pg,hd,po,sa],cs,cv,cw,cx]:SCls K Cs),qL cj,qL cl,qL cn,qL cr,z ↑29 ⋯,z "min" ⋯,z "max" ⋯,z ↑93 ⋯,z "sum" ⋯,z ↑51 ⋯,z ↑31 ⋯,vh Y G ap,vh Y G aM,yV (st:=i9) Y G a lk c k,(#[mk,y.m.1,y.m.2,kc]:Mk K Cs _)];erw[W.fnOf "law" "law" (eF i9) (dZ i9) (aI i9) .none kV dc pm an cd ct,λs v=>.of_eq rfl,λbase _ _=>?_];let#[kt,#[0,q1],#[0,M],#[0,p],#[0,Q],#[0,q5],#[0,q],#[0,c4],#[0,c5],#[0,c6],#[0,c8],da,#[0,db],#[0,dd],#[0,dj],n,o,MT,A,N,#[0,q7],#[0,R],#[0,q9],#[0,r],#[0,dk],#[0,S],#[0,dl],#[0,dm],#[0,Z],#[0,B],#[0,dn],#[0,f],#[0,ab],#[0,C],#[0,ad],#[0,i],#[0,dp],#[0,dr],#[0,ds],#[0,dx],#[0,dy],#[0,dF],#[0,dK],#[0,dL],#[0,dT],#[0,dV],#[0,d0],#[0,al],#[0,d1],#[0,d2],#[0,d3],#[0,d4],#[0,d5],#[0,d6],#[0,d7]]:=#[(#[5,1]:qU K),bp Y G h1 λU=>Es U T kt,bp Y G h2 λU=>BO U q1,bp Y G h3 λU=>C6 U T I,bp Y G h4 λU=>Ce U,bp Y G h5 λU=>BM U X,bp Y G h6 λU=>Gr U d q5 Q,bp Y G a6 λU=>BN U T kt M,bp Y G a7 λU=>Cp U T c4,bp Y G a8 λU=>C7 U T,bp Y G a9 λU=>Eu U,(#[Hv p.g,p.b,p.m,p.k]:!Use 1 ↑65 [↑69] tF _ _),bp Y G bb λU=>Gv U T c0 da,bp Y G bd λU=>C1 U d db,bp Y G be λU=>EG U I,(Ex y.u T d mM X c5 c6 c8 dd dj:!aA CX0 _ _ _ _ _),bdx y.u (ps:=[↑86,↑17]),(#[BD D.u X T,bdx D.u,D.m]:!gq Cs _ _ _ _ _ _),(#[BE E.u X T,bdx E.u,E.m]:!gq Cs _ _ _ _ _ _),(#[Et H.u X,bdx H.u,H.m]:!gq Cs _ _ _ _ _ _),bp Y G h7 λU=>Ci U d X,bp Y G h8 λU=>C0 U X A q7,bp Y G h9 λU=>Gu U T X,bp Y G a0 λU=>JX\Ck U T X A MT q9 R q,bp Y G a1 λU=>KS U T X M,bp Y G a5 λU=>EA U X dk p Q,bp Y G a2 λU=>C3 U T kt M,bp Y G a3 λU=>KR U T X dl N,bp Y G a4 λU=>Cf U X dm N,yU Y G bg,bp Y G bi λU=>Jg U B.u (bdx B.u) B.m B.u.kp T,bp Y G bl λU=>EF U,bp Y G bm λU=>Ey U,bp Y G bn λU=>CZ U,bp Y G bt λU=>Gw U T ab,bp Y G bw λU=>Cm U d,bp Y G bx λU=>Gx U d C,bp Y G bA λU=>Ew U T L (fG i ⋯) dp,bp Y G bK λU=>EE U T (fG f ⋯) (fG C ⋯) ad,bp Y G b0 λU=>Jf U d C,bp Y G b1 λU=>ED U T (fG f ⋯) (fG C ⋯) ad dx (fG i ⋯),bp Y G b2 λU=>Gq U T L (fG f ⋯) (fG i ⋯) (fG ab ⋯),bp Y G b3 λU=>C8 U T L (fG i ⋯),bp Y G b4 λU=>EC U (fG f ⋯) dF dr dK dy ds,bp Y G b5 λU=>EB U T f i,bp Y G b6 λU=>C5 U T f,bp Y G b7 λU=>KU U I,bp Y G b9 λU=>Gz U X N Z,bp Y G b8 λU=>Gy U T O X q Z A S al,bp Y G ca λU=>Jh U T d c2 X l j q r A S al d0 n o,bp Y G cb λU=>Gs U X l j r n o,bp Y G cc λU=>Cj U T O c1 X l j q r n o,bp Y G ce λU=>Je U T d X l j q r R i n o,bp Y G cg λU=>Ez U T,bp Y G ch λU=>Jj U T X l j d6 r f n o];show Ji c3.u T l j dn dV dT dL f (fG i ⋯) d1 d2 d3 d7 d4 d5 n o
def walk{l:W.OpenLaw}{q:jl}{loose:-Str}{XP:(Str->Option gE)->js->Prop}{YP:lp->js->Prop}{d:DefRec}{K:Params->W.Frag}(b:l.most*>63)(c:d.params.defaults=[])
  (e:∀(w:lp)(h:js),YP w h->(K w.params).In h) (g:∀(w:lp)(a:gL)(o:Obj),(K w.params).lookup a*>o->o.cls≠.t ↑15)
  (F:∀(w:lp)(mg:Str->Option gE)(fa:gL)(h:js),(K w.params).In h->h.Ns hK mg->mg d.name*>.r fa->
   ∃fd:i4,(∀(s:hA)(u:gE),BindsTo s fd #[[u],[]] [(↑7,u)])/\∀base:js,(K w.params).In base->base.Ns hK mg->aA l.prog w (K w.params) mg base CX0 8 fa fd [↑7]\qD (K w.params)) :
  W.WalkO q loose XP YP l.row.toRowW d [] (λf vs=>PySem.call f vs):=
 L2.walk_of (n:=63) (k:=8) (x:=↑7) (CX:=λ_=>CX0) (sp:=λw=>qD\K w.params) b ⋯ c #[1,⋯,⋯,1] e F g (λ_ _ a ns i _ j=>#[a,ns,1,j,i,λ_=>rfl]) λ_ _ _ _ _ z=>z
open PySem.W
def kf_nl(P:Params)(a:gL)(o:Obj)(h:(kf P).lookup a*>o):o.cls≠.t ↑15:=z8 (show _=gn by kernel_rfl) h
end K15
def PySem.W.Fast.tw13060881955729504475:PySem.Program:=PySem.Challenge.pw_shapestring_k24_whole_rims_rounds_counts
theorem PySem.W.Fast.te13060881955729504475:PySem.Challenge.pw_shapestring_k24_whole_rims_rounds_counts=PySem.W.Fast.tw13060881955729504475:=rfl
open PySem PySem.W PyProof.Rows
set_option maxRecDepth 100000 in
set_option maxHeartbeats 0 in
theorem PySem.Challenge.cw_shapestring_k24_whole_rims_rounds_counts_holds : PySem.Challenge.rw_shapestring_k24_whole_rims_rounds_counts.Holds := by
 w_on;o_law
 show W.holds_open (q:=K15.view) (loose:=[]) (Xt:=λs=>xlAt K15.view [] s&&recOk [] s) (XP:=XL K15.view []) (Yf:=Hook.obs\kHook K15.kf K15.ads (λ_=>by kernel_rfl)) (Ya:=Hook.val\kHook K15.kf K15.ads (λ_=>by kernel_rfl)) (YP:=Hook.says\kHook K15.kf K15.ads (λ_=>by kernel_rfl)) (N:=6028) K15.left (Hook.of _) (Hook.keeps _)
  (λs e=>xl_of s (Lm.mp e).1) XL.keeps (by rfl) (by rfl) (by rfl) (λs e=>recFacts_of (Lm.mp e).2) (by rfl) (by assumption) ⋯ #[5,5,1,⋯] ?hw ?hc
 case hw=>w_witness2
 k_fill
 show K15.walk (l:=PySem.Challenge.rw_shapestring_k24_whole_rims_rounds_counts) rfl rfl (λw h Y=>W.kIn_of Y) (λw=>K15.kf_nl w.params) ?F
 case F=>
  intro w mg fa h KX G hmg
  refine' K15.all_mk KX G hmg ?aCs ?aM ?_ ?_ ?_ ?_ ?_ ?_ ?_ ?_ ?_ ?_ ?_ ?_ ?_ ?_ ?_ ?_ ?_ ?_ ?_ ?_ ?_ ?_ ?_ ?_ ?_ ?_ ?_ ?_ ?_ ?_ ?_ ?_ ?_ ?_ ?_ ?_ ?_ ?_ ?_ ?_ ?_ ?_ ?_ ?_ ?_ ?_ ?_ ?_ ?_ ?_ ?_ ?_ ?_ ?_ ?_ ?_ ?_ ?_ ?_ ?_ ?_ ?_ ?_ ?_
  (case aCs=>k_is);(case aM=>k_is)
  all_goals first|k_is|(refine' K15.top_in ?a ?l ?c ?k;(case a=>k_is);(case l=>k_is);(case c=>k_is);(case k=>k_is))|(refine' K15.in_in ?a ?i ?l ?c ?k;(case a=>k_is);(case i=>k_is);(case l=>k_is);(case c=>k_is);(case k=>k_is))|kernel_rfl
#print axioms PySem.Challenge.cw_shapestring_k24_whole_rims_rounds_counts_holds

import PyProof.Rows.All
import Wide.All
import OpenK.AllK
import Wide.FinOn
import Lean
import PyProof.EqAt
import PyProof.EqKinds
import PyProof.TupleCall
import PyProof.NeData
import PyProof.P3In
import PyProof.DictItems
import KE.KPairComp
import KE.KRevIter
import KE.KRevSl
import PyProof.Draws
import PyProof.EnumMake
import KE.KItemsList
import PyProof.Rows.Chain
import PyProof.DictCompW
import PyProof.AttrMissHeap
import PyProof.MeetsSeq3
import KE.KEqDict
import PyProof.Rows.ZipGen
import Open.Pieces
import PyProof.ReprRoads
import KE.KTryMore
import PyProof.DictUpdate
import PySem.Challenge.RW_shapestring_k53_whole_signs_are_enough
set_option Elab.async false
set_option linter.all false
set_option maxRecDepth 100000
set_option maxHeartbeats 0
local macro_rules | `(()) => `(by lia)
local macro_rules | `(∅) => `(by simp)
local macro_rules | `(⋯) => `(by decide +kernel)
local macro_rules | `(tactic| show $e:term) => `(tactic| refine $e)
local macro_rules | `(↥$x) => `(($x).heap.objs.size)
local macro_rules | `(⇑$x) => `(PySem.model ($x).prog ($x).w)
local macro_rules | `(‹$e›) => `(by simpa using $e)
open Array renaming length_toList->gK,toList_push->gM,getElem?_toList->ip,toList_inj->nG,toList_extract->uq,toList_map->ur,all_toList->KA,getElem?_eq_getElem->KB,perm_iff_toList_perm->KC,size_setIfInBounds->KD,toList_append->KF,toList_reverse->KG
open Array.Perm renaming refl->Kz
open Bool renaming false_ne_true->bX,eq_iff_iff->cR,false_eq_true->iO,and_eq_true->uu,not_true->Ay,or_false->Az,and_eq_true_iff->KH,false_or->KI,or_eq_true->KJ
open Classical renaming byContradiction->pZ
open Int renaming toNat_natCast->js,zero_add->nK,emod_lt_of_pos->qb,emod_nonneg->qc,toNat_of_nonneg->qd,eq_ofNat_of_zero_le->AB,le_trans->AC,natCast_mul->KO
open List renaming mem_cons->ae,length_append->ao,mem_map->aq,mem_append->aw,map_cons->az,length_map->aE,getElem?_eq_some_iff->aI,mem_singleton->aL,getElem?_eq_getElem->aP,nodup_cons->aR,length_cons->aS,length_singleton->aV,map_append->aX,mem_cons_of_mem->aZ,mem_of_getElem?->a_,mem_append_right->bo,not_mem_nil->bq,length_take->bu,length_drop->bG,append_assoc->bI,size_toArray->bK,mem_append_left->bM,nodup_append->bS,getElem?_map->cB,perm_append_comm->cP,take_add_one->cS,map_map->cU,append_nil->dh,mem_iff_getElem?->dn,mem_cons_self->dX,getElem?_append_left->eF,drop_eq_getElem_cons->eS,mem_flatMap->eU,take_length->eV,cons_append->fc,getElem?_cons_succ->fe,pairwise_map->ff,sum_cons->fg,map_nil->fG,reverse_cons->fH,mem_range->fX,take_append_drop->fY,mem_reverse->gP,take_of_length_le->gQ,all_eq_true->iq,getElem_mem->ir,filter_cons->iP,length_nil->iQ,length_pos_iff->iR,length_range->iS,lookup_cons->iT,mem_filter->iU,sum_append->iV,any_cons->jt,eraseIdx_sublist->ju,mem_flatten->jv,mem_of_mem_drop->jw,nil_append->jx,drop_zero->kH,flatten_cons->kI,getElem?_append_right->kJ,length_filter_le->kK,mem_of_mem_take->kL,nodup_nil->kM,reverse_perm->kN,ext_getElem->nM,find?_cons->nP,getElem?_of_mem->nQ,any_eq_true->qg,any_map->qh,concat_eq_append->qi,drop_length->qj,eq_nil_or_concat->qk,flatMap_append->ql,flatMap_cons->qm,foldl_cons->qo,getLast?_eq_getElem?->qp,getLast?_eq_some_iff->qq,length_dropLast->qr,map_congr_left->qt,map_take->qu,pairwise_singleton->qv,reverse_reverse->qy,sum_nil->qz,take_zero->qA,append_of_mem->uz,dropLast_concat->uA,extract_eq_take_drop->uB,filter_append->uC,filter_nil->uD,getElem?_drop->uE,getElem?_eq_none->uF,length_eraseIdx_of_lt->uG,map_reverse->uH,mem_filterMap->uI,nodup_range->uJ,pairwise_append->uK,perm_middle->uL,all_cons->AE,drop_eq_nil_of_le->AF,drop_of_length_le->AG,eraseIdx_eq_take_drop_succ->AH,exists_cons_of_length_eq_add_one->AI,ext_getElem?->AJ,filterMap_cons->AK,flatten_append->AL,getElem?_take_of_lt->AM,head?_eq_getElem?->AN,length_reverse->AO,map_drop->AQ,mem_iff_getElem->AR,of_mem_zip->AS,pairwise_cons->AU,pairwise_iff_getElem->AV,range_succ->AW,all_map->KR,any_eq_false->KS,any_nil->KU,drop_drop->KY,eq_nil_of_length_eq_zero->KZ,eraseIdxIfInBounds_toArray->K0,exists_mem_of_ne_nil->K1,filter_congr->K2,foldl_append->K3,foldl_nil->K4,getElem?_append->K5,getElem?_eq_none_iff->K6,getElem?_set_ne->K7,getElem?_set_self->K8,length_eq_zero_iff->K9,length_erase_of_mem->K_,length_flatMap->La,length_pos_of_mem->Lb,map_eq_nil_iff->Lc,map_id->Ld,mem_erase_of_ne->Le,mem_of_mem_eraseIdx->Lg,perm_iff_count->Lh
open List.Pairwise renaming imp_of_mem->qe
open List.Perm renaming append_right->eR,append_left->gO,refl->qf,of_eq->AD
open List.Sublist renaming map->KP,refl->KQ,append->Ms
open List.cons renaming injEq->KW
open Nat renaming le_refl->ax,zero_le->aQ,ne_of_lt->b_,lt_of_lt_of_le->cp,le_trans->cC,lt_irrefl->fh,ne_of_gt->fZ,le_add_right->gR,mod_lt->iW,lt_succ_self->jz,mod_eq_of_lt->kO,le_of_lt->nR,mod_self->nU,sub_self->nX,zero_add->nY,le_succ->qB,min_eq_left->qC,add_le_add_left->uM,add_sub_cancel->uN,add_sub_cancel_left->uO,add_zero->uP,le_of_eq->uQ,lt_succ_of_lt->uR,max_eq_right->uS,sub_zero->uT,le_of_not_lt->AX,lt_of_le_of_lt->AY,lt_or_ge->AZ,not_lt_zero->A0,succ_ne_self->A2,add_assoc->Li,add_lt_add_left->Lj,le_of_lt_succ->Ll,log2_lt->Lm,lt_succ_iff->Ln,mul_le_mul->Lo,mul_pos->Lp,pow_le_pow_right->Lq
open Nat.succ renaming inj->A1
open Ne renaming symm->aG
open Option renaming map_eq_some_iff->eG,map_some->iu,bind_eq_some_iff->uV,isSome_iff_exists->uW,getD_some->A3,isSome_map->A4,bind_some->Lu,getD_none->Lv
open Option.some renaming inj->cy,injEq->Mt
open Prod renaming ext->n6
open Prod.mk renaming injEq->bz,inj->dz
open PyProof.Rows renaming wpS_bind->av,wpS_pure->aF,wpS_forRange->eI,wpS_mono->eW,wpS_get->iw,callWith_type1->iX,wpS_modify->i5,boot_list->n8,boot_max->uX,Subscript_->u_,reverseSlice'_eq->vd,boot_int->A5,boot_tuple->A6,boot_enumerate->A9,boot_any->Lx,args_list_sort->LZ,entry_list_sort->L5,slot_list_sort->L8,subscriptTail_builtinR->L9,boot_dict->Mu,boot_isinstance->Mv,boot_range->Mw,boot_str->Mx,callWith_builtin1->My,floordiv_int->Mz
open PySem renaming wpAny_bind->ag,wpAny_pure->aB,wpAny_holding->fj,wpAny_mono->fk,sizeLine_eq->f_,wpAny_truthy_bool->gW,wpAny_call_entry->iY,wpAny_field->iZ,wpAny_passesOwn->kP,mem_of_lookup->n_,codeAny_builtin->oe,plainId_quiet->og,wpAny_callSpecial?_slot->oh,wpAny_loadPart'->oi,wpAny_newObj_type->oj,call_meets->qG,tupleKind_room_in1->qH,wpAny_Call_Name_kw->qI,wpAny_attempt->qJ,wpAny_pyIter_enum->qK,wpAny_pyIter_list->qL,wpAny_pyIter_revIter->qM,call_meets->u9,wpAny_execs_nil->vg,wpAny_fieldsOf->vh,wpAny_of_eq->vi,wpAny_rule->vj,wpAny_specialOf->vn,wpAny_standAt->vp,wpAny_typeNameOfWhole_keyiter->vq,wpAny_typeNameOf_keyiter->vv,wpAny_typeOf->vy,wpAny_updateSeq->vz,call_meetsIn->A_,codeAny_mono->Ba,evalPart_none->Bb,seqIndex_neg->Bc,seqIndex_of->Bd,slot_list_getitem->Be,wpAny_Name->Bf,wpAny_dictEntries->Bg,wpAny_dictEpoch->Bh,wpAny_eqBool_int->Bi,wpAny_isOneOf_keyiter->Bj,wpAny_pyNext_list_end->Bk,wpAny_pyNext_list_item->Bl,wpAny_setField->Bm,wpAny_setField_rec->Bn,builtinLookup_eq_fast->L1,callType_codes->L3,call_reversed_list->L4,fitsIndex_both->L6,isSubtype_stop->L7,typeLookup_type->L_,wpAny_Call_method->Ma,wpAny_Call_method_late->Mb,wpAny_Compare1->Mc,wpAny_Dict_empty->Md,wpAny_assign_Name->Me,wpAny_comprehension_free->Mf,wpAny_execs_cons->Mg,wpAny_getItem_list_slice->Mh,wpAny_isInstance->Mi,wpAny_isTrue_Compare1->Mj,wpAny_letOwnedTupleGo_enum->Mk,wpAny_newTuple->Ml,wpAny_notOrdered_dict->Mm,wpAny_pyIter_zip->Mn,wpAny_pyNext_enum_itemD->Mo,wpAny_seqItems->Mp
open PySem.Around renaming under_plainId->nF
open PySem.AutoSeq1 renaming wpAny_loadPart'->e_,list_insert_list_int_val_1->MA,wpAny_loadPart'->MB
open PySem.Calls renaming spliced_cons->nH,callWith_builtin->pY,evalArgs_plain->uv,spliced_nil->uw,Name_function_global->KL
open PySem.EqMixed renaming eq_bool_str->MC,eq_int_str->MD,eq_str_bool->ME,eq_str_int->MF,ne_bool_str->MG,ne_int_str->MH,ne_str_bool->MJ,ne_str_int->MK
open PySem.EqNone renaming eq_bool_none->ML,eq_int_none->MM,eq_none_bool->MN,eq_none_int->MO,eq_none_none->MP,eq_none_str->MQ,eq_str_none->MR,ne_bool_none->MS,ne_int_none->MT,ne_none_bool->MU,ne_none_int->MV,ne_none_none->MW,ne_none_str->MX,ne_str_none->MY
open PySem.F renaming plainAttrs_list->bT,slot_list_append->cG,type_list_append->cH,slot_dict_keyiterator_next->qD,slot_list_pop->qE,type_list_pop->qF,plain_extend_loop->uY,slot_enumerate_next->uZ,slot_lri_next->u5,slot_dict_get->A7,slot_list_getattribute->A8,args_dict_get_2->Ly,args_dict_keyiterator_next_1->Lz,args_enumerate_next_1->LA,args_lri_next_1->LB,entry_dict_get->LC,entry_dict_keyiterator_next->LD,entry_enumerate_next->LF,entry_extend_loop->LG,entry_lri_next->LH,plainAttrs_dict->LI,plainAttrs_str->LJ,slot_dict_iter->LK,slot_dict_pop->LL,slot_list_insert->LM,slot_list_lt->LN,slot_str_join->LO,slot_tuple_index->LP,type_str_join->LQ
open PySem.Heap renaming lt_size->aN,get?_push_of_some->bg,get?_push_size->cw,get?_update_self->kG,get?_update_other->nJ,size_push->p_,size_update->qa,get?_none_of_le->uy,get?_update_ne->AA
open PySem.Heap.DictOf renaming new->Mq
open PySem.Heap.ExtBut renaming refl->Mr
open PySem.Heap.IsSliceOf renaming new->KM
open PySem.Heap.SameBut renaming update->ux,refl->KN
open PySem.MeetsSeq3 renaming plain_eq_loop->u6,entry_eq_loop->LR
open PySem.Obj renaming data_mapFields->uU,cls_mapFields->Lr,isFreed_of_fields->Ls
open PySem.Paired renaming length->nZ,snoc->Lw
open PySem.PassesOwn renaming never->cF
open PySem.SeqAt renaming compareEq_reads->M0,compareNe_reads->M3,eqAt_reads->M4,in_list_reads->M5,in_tuple_reads->M6
open PySem.SeqAt.EqAt renaming int_str->LW,str_int->LX,bool_bool->M7,bool_int->M8,bool_none->M9,bool_str->M_,int_bool->Na,int_int->Nb,int_none->Nc,none_bool->Nd,none_int->Nf,none_str->Ng,same->Nh,str_bool->Nj,str_none->Nk,str_str->Nl
open PySem.SeqAt.ReadsAll renaming length->MZ
open PySem.W renaming mg_none_of->dA,kia_one->gU,mg_of->u7,cellsFrom_some->LS,kitx_dict->LU,kitx_list->LV
open PySem.Walks renaming list->LY
open Std.Legacy.Range renaming forIn_eq_forIn_range'->Nn
open Sum.inl renaming inj->vb
theorem Np.{u}{c : Prop}[h : Decidable c](a : ¬c){α : Sort u}{t e : α} : (if c then t else e)=e := if_neg a
theorem Nq.{u}{c : Prop}[h : Decidable c](a : c){α : Sort u}{t e : α} : (if c then t else e)=t := if_pos a
theorem Nt{p : Prop}[h : Decidable p](a : p) : decide p=true := decide_eq_true a
theorem Nu{p : Prop}[h : Decidable p](a : ¬p) : decide p=false := decide_eq_false a
theorem Nv{p : Prop}[h : Decidable p](a : decide p=true) : p := of_decide_eq_true a
variable {Nw:List (PySem.Addr×PySem.Obj)}{s:PySem.Shared}{P:PySem.Program}{w:PySem.World}{A:PySem.Around}{mg:PySem.Str->Option PySem.Value}{base:PySem.Heap}{us:List PySem.Value}{E:PySem.Value->PySem.Shared->Prop}{fd:PySem.FuncData}{K:PySem.W.Frag}{scope:PySem.Scope}
section
namespace L2
open PySem
def gq(s:Stmt):Arguments:=match s with
 |.FunctionDef _ a _ _ _ _ _ _ _ _=>a
 |_=>{posonlyargs:=[],args:=[],vararg:=none,kwonlyargs:=[],kw_defaults:=[],kwarg:=none,defaults:=[]}
def fQ(s:Stmt):List Stmt:=match s with
 |.FunctionDef _ _ b _ _ _ _ _ _ _=>b
 |_=>[]
def a7(s:Stmt):Scope:=match s with
 |.FunctionDef _ _ _ _ _ _ sc _ _ _=>sc
 |_=>{kind:=.function,names:=[],isGenerator:=false,isCoroutine:=false}
end L2
namespace K51
open PySem L2
def Kb:Nat:=11
def bj(i:Nat):Stmt:=PySem.Challenge.pw_shapestring_k53_whole_signs_are_enough.main.body.getD i (.Pass ⟨0,0,0,0⟩)
def top(i:Nat):Stmt:=bj (Kb+i)
abbrev mz:Stmt:=bj 6
abbrev mw:Stmt:=bj 7
abbrev mH:Stmt:=bj 8
abbrev lC:Stmt:=bj 9
abbrev sAt:Stmt:=top 0
abbrev nj:Stmt:=top 1
abbrev mJ:Stmt:=top 2
abbrev my:Stmt:=top 3
abbrev lR:Stmt:=top 4
abbrev m6:Stmt:=top 5
abbrev lI:Stmt:=top 6
abbrev m7:Stmt:=top 7
abbrev mx:Stmt:=top 8
abbrev mI:Stmt:=top 9
abbrev kU:Stmt:=top 10
abbrev lY:Stmt:=top 11
abbrev mF:Stmt:=top 12
abbrev lH:Stmt:=top 13
abbrev mC:Stmt:=top 14
abbrev mG:Stmt:=top 15
abbrev lG:Stmt:=top 16
abbrev lD:Stmt:=top 17
abbrev mB:Stmt:=top 18
abbrev lE:Stmt:=top 19
abbrev lU:Stmt:=top 20
abbrev lV:Stmt:=top 21
abbrev m5:Stmt:=top 22
abbrev mY:Stmt:=top 23
abbrev kW:Stmt:=top 24
abbrev lh:Stmt:=top 25
abbrev lF:Stmt:=top 26
abbrev lq:Stmt:=top 27
abbrev lZ:Stmt:=top 28
abbrev lX:Stmt:=top 29
abbrev ig:Stmt:=top 30
end K51
end
section
namespace K15
open PySem L2 PySem.W K51
noncomputable def cO(x:Str)(t l n a b:Nat):Obj:=⟨.type "code",none,.fields #[.str x t,.str x (t+1),.str "/claim/cut.py" (t+2),.int l 0,.int n 0,.int 0 0,.int 0 0,.int 3 0,.ref a,.bool true,.int 181 0,.ref (a+1),.none,.ref (a+2),.ref (a+3),.ref (a+4),.int b 0,.int l 0,.str "/claim/cut.py" (b+1)],#[]⟩
noncomputable def fO(x:Str)(s:Stmt)(m:Str)(t c:Nat):Obj:=⟨.type "function",none,.func (fnOf x x (gq s) (fQ s) (a7 s) .none .none .none (.str m t) none (.ref c) .none),#[]⟩
noncomputable def dE(P:Params)(x:Str)(t:Nat)(v:Value):DictEntry:=PySem.DictEntry.mk (PySem.PyData.keyHash P x) (.str x t) v
noncomputable def fL(x:Str)(s:Stmt)(c:Nat):Obj:=fO x s "law_shapestring_k53_whole_signs_are_enough" 262 c
noncomputable def kf:Params->Frag:=λP=>
 (nat_lit 2,⟨.none,none,(.dict #[] 0),#[]⟩) ::
 (nat_lit 3,⟨(.type "dict"),none,(.dict #[(dE P "__name__" 165 (.str "law_shapestring_k53_whole_signs_are_enough" 262)),(dE P "__doc__" 166 .none),(dE P "__package__" 167 .none),(dE P "__loader__" 168 (.builtin "__main__.__loader__#opaque")),(dE P "__spec__" 169 .none),(dE P "__annotations__" 170 (.ref 6)),(dE P "__builtins__" 171 (.ref 4)),(dE P "__file__" 173 (.str "/claim/cut.py" 172)),(dE P "__cached__" 174 .none),(dE P "ShapeError" 206 (.ref 24)),(dE P "NoText" 222 (.ref 37)),(dE P "LEAST_LOOP" 226 (.int 3 225)),(dE P "FIRST_LOOP" 228 (.int 2 227)),(dE P "plain" 234 (.ref 44)),(dE P "taken_up" 241 (.ref 51)),(dE P "letter_found" 250 (.ref 58)),(dE P "placed" 261 (.ref 65)),(dE P "_law_at" 271 (.ref 72)),(dE P "_law_pot" 282 (.ref 79)),(dE P "_law_digit" 291 (.ref 86)),(dE P "_law_sides" 301 (.ref 93)),(dE P "_law_thirds" 312 (.ref 100)),(dE P "_law_free" 318 (.ref 105)),(dE P "_law_corners" 328 (.ref 112)),(dE P "_law_fans" 334 (.ref 117)),(dE P "_law_split" 340 (.ref 122)),(dE P "_law_drawn" 346 (.ref 127)),(dE P "_law_rim_sides" 352 (.ref 132)),(dE P "_law_grown" 358 (.ref 137)),(dE P "_law_ring" 364 (.ref 142)),(dE P "_law_beside" 370 (.ref 147)),(dE P "_law_skin" 379 (.ref 154)),(dE P "_law_rims" 390 (.ref 161)),(dE P "_law_capped" 402 (.ref 168)),(dE P "_law_wanted" 414 (.ref 175)),(dE P "_law_step" 428 (.ref 182)),(dE P "_law_letter" 444 (.ref 189)),(dE P "_law_wound" 450 (.ref 194)),(dE P "_law_third" 460 (.ref 201)),(dE P "_law_can" 466 (.ref 206)),(dE P "_law_put" 476 (.ref 213)),(dE P "_law_partings" 482 (.ref 218)),(dE P "_law_closing" 494 (.ref 225)),(dE P "_law_joined" 500 (.ref 230)),(dE P "_law_any_side" 509 (.ref 237)),(dE P "_law_apart" 515 (.ref 242)),(dE P "_law_right" 521 (.ref 247)),(dE P "law" 532 (.ref 254))] 48),#[]⟩) ::
 (nat_lit 43,⟨(.type "code"),none,(.fields #[(.str "plain" 229),(.str "plain" 230),(.str "/claim/cut.py" 231),(.int 9 0),(.int 1 0),(.int 0 0),(.int 0 0),(.int 3 0),(.ref 40),(.bool Bool.true),(.int 181 0),(.ref 41),.none,.none,.none,(.ref 42),(.int 232 0),(.int 9 0),(.str "/claim/cut.py" 233)]),#[]⟩) ::
 (nat_lit 44,fO "plain" mz "shapestring.plain" 223 43) ::
 (nat_lit 50,cO "taken_up" 235 11 1 45 239) ::
 (nat_lit 51,fO "taken_up" mw "shapestring.plain" 223 50) ::
 (nat_lit 57,cO "letter_found" 242 15 2 52 248) ::
 (nat_lit 58,fO "letter_found" mH "shapestring.plain" 223 57) ::
 (nat_lit 64,cO "placed" 251 29 1 59 259) ::
 (nat_lit 65,fO "placed" lC "shapestring.plain" 223 64) ::
 (nat_lit 71,cO "_law_at" 264 42 2 66 269) ::
 (nat_lit 72,fL "_law_at" sAt 71) ::
 (nat_lit 78,cO "_law_pot" 272 46 2 73 280) ::
 (nat_lit 79,fL "_law_pot" nj 78) ::
 (nat_lit 85,cO "_law_digit" 283 54 2 80 289) ::
 (nat_lit 86,fL "_law_digit" mJ 85) ::
 (nat_lit 92,cO "_law_sides" 292 61 1 87 299) ::
 (nat_lit 93,fL "_law_sides" my 92) ::
 (nat_lit 99,cO "_law_thirds" 302 64 1 94 310) ::
 (nat_lit 100,fL "_law_thirds" lR 99) ::
 (nat_lit 104,⟨(.type "code"),none,(.fields #[(.str "_law_free" 313),(.str "_law_free" 314),(.str "/claim/cut.py" 315),(.int 71 0),(.int 2 0),(.int 0 0),(.int 0 0),(.int 3 0),(.ref 101),(.bool Bool.true),(.int 181 0),(.ref 102),.none,.none,.none,(.ref 103),(.int 316 0),(.int 71 0),(.str "/claim/cut.py" 317)]),#[]⟩) ::
 (nat_lit 105,fL "_law_free" m6 104) ::
 (nat_lit 111,cO "_law_corners" 319 73 1 106 326) ::
 (nat_lit 112,fL "_law_corners" lI 111) ::
 (nat_lit 116,⟨(.type "code"),none,(.fields #[(.str "_law_fans" 329),(.str "_law_fans" 330),(.str "/claim/cut.py" 331),(.int 79 0),(.int 2 0),(.int 0 0),(.int 0 0),(.int 3 0),(.ref 113),(.bool Bool.true),(.int 181 0),(.ref 114),.none,.none,.none,(.ref 115),(.int 332 0),(.int 79 0),(.str "/claim/cut.py" 333)]),#[]⟩) ::
 (nat_lit 117,fL "_law_fans" m7 116) ::
 (nat_lit 121,⟨(.type "code"),none,(.fields #[(.str "_law_split" 335),(.str "_law_split" 336),(.str "/claim/cut.py" 337),(.int 92 0),(.int 1 0),(.int 0 0),(.int 0 0),(.int 3 0),(.ref 118),(.bool Bool.true),(.int 181 0),(.ref 119),.none,.none,.none,(.ref 120),(.int 338 0),(.int 92 0),(.str "/claim/cut.py" 339)]),#[]⟩) ::
 (nat_lit 122,fL "_law_split" mx 121) ::
 (nat_lit 126,⟨(.type "code"),none,(.fields #[(.str "_law_drawn" 341),(.str "_law_drawn" 342),(.str "/claim/cut.py" 343),(.int 106 0),(.int 2 0),(.int 0 0),(.int 0 0),(.int 3 0),(.ref 123),(.bool Bool.true),(.int 181 0),(.ref 124),.none,.none,.none,(.ref 125),(.int 344 0),(.int 106 0),(.str "/claim/cut.py" 345)]),#[]⟩) ::
 (nat_lit 127,fL "_law_drawn" mI 126) ::
 (nat_lit 131,⟨(.type "code"),none,(.fields #[(.str "_law_rim_sides" 347),(.str "_law_rim_sides" 348),(.str "/claim/cut.py" 349),(.int 116 0),(.int 1 0),(.int 0 0),(.int 0 0),(.int 3 0),(.ref 128),(.bool Bool.true),(.int 181 0),(.ref 129),.none,.none,.none,(.ref 130),(.int 350 0),(.int 116 0),(.str "/claim/cut.py" 351)]),#[]⟩) ::
 (nat_lit 132,fL "_law_rim_sides" kU 131) ::
 (nat_lit 136,⟨(.type "code"),none,(.fields #[(.str "_law_grown" 353),(.str "_law_grown" 354),(.str "/claim/cut.py" 355),(.int 119 0),(.int 2 0),(.int 0 0),(.int 0 0),(.int 3 0),(.ref 133),(.bool Bool.true),(.int 181 0),(.ref 134),.none,.none,.none,(.ref 135),(.int 356 0),(.int 119 0),(.str "/claim/cut.py" 357)]),#[]⟩) ::
 (nat_lit 137,fL "_law_grown" lY 136) ::
 (nat_lit 141,⟨(.type "code"),none,(.fields #[(.str "_law_ring" 359),(.str "_law_ring" 360),(.str "/claim/cut.py" 361),(.int 134 0),(.int 1 0),(.int 0 0),(.int 0 0),(.int 3 0),(.ref 138),(.bool Bool.true),(.int 181 0),(.ref 139),.none,.none,.none,(.ref 140),(.int 362 0),(.int 134 0),(.str "/claim/cut.py" 363)]),#[]⟩) ::
 (nat_lit 142,fL "_law_ring" mF 141) ::
 (nat_lit 146,⟨(.type "code"),none,(.fields #[(.str "_law_beside" 365),(.str "_law_beside" 366),(.str "/claim/cut.py" 367),(.int 146 0),(.int 2 0),(.int 0 0),(.int 0 0),(.int 3 0),(.ref 143),(.bool Bool.true),(.int 181 0),(.ref 144),.none,.none,.none,(.ref 145),(.int 368 0),(.int 146 0),(.str "/claim/cut.py" 369)]),#[]⟩) ::
 (nat_lit 147,fL "_law_beside" lH 146) ::
 (nat_lit 153,cO "_law_skin" 371 149 2 148 377) ::
 (nat_lit 154,fL "_law_skin" mC 153) ::
 (nat_lit 160,cO "_law_rims" 380 158 1 155 388) ::
 (nat_lit 161,fL "_law_rims" mG 160) ::
 (nat_lit 167,cO "_law_capped" 391 169 1 162 400) ::
 (nat_lit 168,fL "_law_capped" lG 167) ::
 (nat_lit 174,cO "_law_wanted" 403 175 1 169 412) ::
 (nat_lit 175,fL "_law_wanted" lD 174) ::
 (nat_lit 181,cO "_law_step" 415 181 3 176 426) ::
 (nat_lit 182,fL "_law_step" mB 181) ::
 (nat_lit 188,cO "_law_letter" 429 197 4 183 442) ::
 (nat_lit 189,fL "_law_letter" lE 188) ::
 (nat_lit 193,⟨(.type "code"),none,(.fields #[(.str "_law_wound" 445),(.str "_law_wound" 446),(.str "/claim/cut.py" 447),(.int 213 0),(.int 2 0),(.int 0 0),(.int 0 0),(.int 3 0),(.ref 190),(.bool Bool.true),(.int 181 0),(.ref 191),.none,.none,.none,(.ref 192),(.int 448 0),(.int 213 0),(.str "/claim/cut.py" 449)]),#[]⟩) ::
 (nat_lit 194,fL "_law_wound" lU 193) ::
 (nat_lit 200,cO "_law_third" 451 227 2 195 458) ::
 (nat_lit 201,fL "_law_third" lV 200) ::
 (nat_lit 205,⟨(.type "code"),none,(.fields #[(.str "_law_can" 461),(.str "_law_can" 462),(.str "/claim/cut.py" 463),(.int 240 0),(.int 2 0),(.int 0 0),(.int 0 0),(.int 3 0),(.ref 202),(.bool Bool.true),(.int 181 0),(.ref 203),.none,.none,.none,(.ref 204),(.int 464 0),(.int 240 0),(.str "/claim/cut.py" 465)]),#[]⟩) ::
 (nat_lit 206,fL "_law_can" m5 205) ::
 (nat_lit 212,cO "_law_put" 467 257 2 207 474) ::
 (nat_lit 213,fL "_law_put" mY 212) ::
 (nat_lit 217,⟨(.type "code"),none,(.fields #[(.str "_law_partings" 477),(.str "_law_partings" 478),(.str "/claim/cut.py" 479),(.int 266 0),(.int 1 0),(.int 0 0),(.int 0 0),(.int 3 0),(.ref 214),(.bool Bool.true),(.int 181 0),(.ref 215),.none,.none,.none,(.ref 216),(.int 480 0),(.int 266 0),(.str "/claim/cut.py" 481)]),#[]⟩) ::
 (nat_lit 218,fL "_law_partings" kW 217) ::
 (nat_lit 224,cO "_law_closing" 483 271 1 219 492) ::
 (nat_lit 225,fL "_law_closing" lh 224) ::
 (nat_lit 229,⟨(.type "code"),none,(.fields #[(.str "_law_joined" 495),(.str "_law_joined" 496),(.str "/claim/cut.py" 497),(.int 282 0),(.int 1 0),(.int 0 0),(.int 0 0),(.int 3 0),(.ref 226),(.bool Bool.true),(.int 181 0),(.ref 227),.none,.none,.none,(.ref 228),(.int 498 0),(.int 282 0),(.str "/claim/cut.py" 499)]),#[]⟩) ::
 (nat_lit 230,fL "_law_joined" lF 229) ::
 (nat_lit 236,cO "_law_any_side" 501 284 2 231 507) ::
 (nat_lit 237,fL "_law_any_side" lq 236) ::
 (nat_lit 241,⟨(.type "code"),none,(.fields #[(.str "_law_apart" 510),(.str "_law_apart" 511),(.str "/claim/cut.py" 512),(.int 287 0),(.int 2 0),(.int 0 0),(.int 0 0),(.int 3 0),(.ref 238),(.bool Bool.true),(.int 181 0),(.ref 239),.none,.none,.none,(.ref 240),(.int 513 0),(.int 287 0),(.str "/claim/cut.py" 514)]),#[]⟩) ::
 (nat_lit 242,fL "_law_apart" lZ 241) ::
 (nat_lit 246,⟨(.type "code"),none,(.fields #[(.str "_law_right" 516),(.str "_law_right" 517),(.str "/claim/cut.py" 518),(.int 304 0),(.int 1 0),(.int 0 0),(.int 0 0),(.int 3 0),(.ref 243),(.bool Bool.true),(.int 181 0),(.ref 244),.none,.none,.none,(.ref 245),(.int 519 0),(.int 304 0),(.str "/claim/cut.py" 520)]),#[]⟩) ::
 (nat_lit 247,fL "_law_right" lX 246) ::
 (nat_lit 253,cO "law" 522 314 1 248 530) ::
 (nat_lit 254,fL "law" ig 253)::[]
end K15
end
section
namespace L2
open PySem PySem.W PySem.Calls PyProof.Rows
def lO(tb:String->Option Builtin)(p:Program)(w:World)(n₀:Nat)(ann:Option Value):Nat->SharedT->Thread->Option SharedT
 |0,_,_=>none
 |n+1,s,t=>match through t with
  |true=>some s
  |false=>match stepOk n₀ ann t with
   |false=>none
   |true=>match stepT (denote tb) p w s t with
    |some (s',t')=>lO tb p w n₀ ann n s' t'
    |none=>none
theorem vI{tb:String->Option Builtin}{p:Program}{n₀:Nat}{ann:Option Value}:∀{n:Nat}{s s':SharedT}{t:Thread},lO tb p w n₀ ann n s t=some s'->topRun tb p w n₀ ann n s.abs t=some s'.abs
 |0,_,_,_,h=>by cases h
 |n+1,s,s',t,h=>by
  unfold lO at h;unfold topRun;cases b:through t with
  |true=>rw[b] at h;cases h;rfl
  |false=>
   rw[b] at h;cases c:stepOk n₀ ann t with
   |false=>rw[c] at h;cases h
   |true=>
    rw[c] at h;cases a:stepT (denote tb) p w s t with
    |none=>rw[a] at h;cases h
    |some r=>obtain⟨s₂,t₂⟩:=r;rw[a] at h;rw[stepT_spec a];show vI h
def zp:List Obj->Nat->BT->BT
 | [],_,t=>t
 |o::os,n,t=>zp os (n+1) (t.ins n o)
noncomputable def st0(w:World)(os:OsState):SharedT:=⟨zp (boot_heap w.params).objs.toList 0 .nil,(boot_heap w.params).objs.size,(boot_heap w.params).life,Array.mk [],boot_drawn,boot_toks,os⟩
theorem Fm(w:World)(os:OsState):(st0 w os).abs=⟨boot_heap w.params,Array.mk [],boot_drawn,boot_toks,os⟩:=by kernel_rfl
theorem GN(w:World):((boot_heap w.params).isNs mainGlobals&&(Array.mk []:Array GenState).size==0)=true:=by kernel_rfl
theorem Jj(w:World):(boot_heap w.params).objs.size=11:=by kernel_rfl
theorem E4(w:World):(boot_heap w.params).nsMap mainGlobals "__annotations__" = some (.ref 6):=by kernel_rfl
noncomputable def r9(p:Program)(w:World)(s:Shared):Bool:=staticsOk (importedModules p.main.body) (boot_heap w.params) s.heap&&namesBound p s.heap&&gensDone s&&laidKept (boot_heap w.params) s.heap
theorem F6{p q:Program}{loose:List Str}{Xt:Shared->Bool}{α:Type}{Yf:Shared->α}{Ya:World->α}{N:Nat}{g:Bool}{run:World->OsState->Option SharedT}(m:∀w os,run w os=lO treeTable p w 11 (some (.ref 6)) N (st0 w os) (topStub p))(n:Nat.ble 600 N=true)
  (e:opening p=plainProg p.main.scope.names) (f:∀s,fenceModules? p s=some s)
  (a:∀(w:World)(os:OsState),(run w os).map (λs=>(openSeen q loose (importedModules p.main.body) Xt g s.abs).1)=some (openGood q loose).1)
  (c:∀(w:World)(os:OsState),(run w os).map (λs=>((openSeen q loose (importedModules p.main.body) Xt g s.abs).2.1,(openSeen q loose (importedModules p.main.body) Xt g s.abs).2.2.1))=some ((openGood q loose).2.1,(openGood q loose).2.2.1))
  (i:∀(w:World)(os:OsState),(run w os).map (λs=>(openSeen q loose (importedModules p.main.body) Xt g s.abs).2.2.2)=some (openGood q loose).2.2.2)
  (b:∀(w:World)(os:OsState),(run w os).map (λs=>(r9 p w s.abs,Yf s.abs))=some (true,Ya w)):LeftO p q loose Xt Yf Ya N g:=λw=>by
 obtain⟨⟨h,o,d,k,os⟩,u,v⟩:=eG.mp (boot_open e n f w);obtain⟨rfl,rfl,rfl,rfl⟩:h=boot_heap w.params/\o=Array.mk []/\d=boot_drawn/\k=boot_toks:=‹v›
 obtain⟨s1,j,x⟩:=eG.mp (a w os);have c:=c w os;have i:=i w os;have b:=b w os;rw[j,iu] at c i b;have c:=dz (cy c);have i:=cy i;obtain⟨l,y⟩:=dz (cy b);have z:openSeen q loose (importedModules p.main.body) Xt g s1.abs=openGood q loose:=n6 x (n6 c.1 (n6 c.2 i));rw[m] at j;have r:=vI j;rw[Fm] at r;have t:topFrom treeTable p w N ⟨boot_heap w.params,Array.mk [],boot_drawn,boot_toks,os⟩=some s1.abs:=by unfold topFrom;dsimp only;rw[GN,Jj,E4,r];unfold r9 at l;change (match staticsOk (importedModules p.main.body) (boot_heap w.params) s1.abs.heap&&namesBound p s1.abs.heap&&gensDone s1.abs&&laidKept (boot_heap w.params) s1.abs.heap with|true=>_|false=>_)=_;rw[l]
 unfold openEnds;rw[u];change (topFrom treeTable p w N _).map _=_;rw[t];show congrArg some (n6 z y)
end L2
end
section
namespace K15
open PySem L2 PySem.W K51
def ads:List Addr:=[2,3,43,44,50,51,57,58,64,65,71,72,78,79,85,86,92,93,99,100,104,105,111,112,116,117,121,122,126,127,131,132,136,137,141,142,146,147,153,154,160,161,167,168,174,175,181,182,188,189,193,194,200,201,205,206,212,213,217,218,224,225,229,230,236,237,241,242,246,247,253,254]
noncomputable def view:Program:={PySem.Challenge.pw_shapestring_k53_whole_signs_are_enough with main:={(PySem.Challenge.pw_shapestring_k53_whole_signs_are_enough).main with body:=[bj 1,bj 2,bj 4,bj 5,bj 6,bj 7,bj 8,bj 9,bj 11,bj 12,bj 13,bj 14,bj 15,bj 16,bj 17,bj 18,bj 19,bj 20,bj 21,bj 22,bj 23,bj 24,bj 25,bj 26,bj 27,bj 28,bj 29,bj 30,bj 31,bj 32,bj 33,bj 34,bj 35,bj 36,bj 37,bj 38,bj 39,bj 40,bj 41]}}
noncomputable abbrev run(w:World)(os:OsState):Option SharedT:=lO treeTable PySem.Challenge.pw_shapestring_k53_whole_signs_are_enough w 11 (some (.ref 6)) 3098 (st0 w os) (topStub PySem.Challenge.pw_shapestring_k53_whole_signs_are_enough)
noncomputable abbrev seenAt(s:SharedT):=openSeen view [] (importedModules (PySem.Challenge.pw_shapestring_k53_whole_signs_are_enough).main.body) (λs=>xlAt view [] s&&recOk [] s) true s.abs
theorem leftA(w:World)(os:OsState):(run w os).map (λs=>(seenAt s).1)=some (openGood view []).1:=by kernel_rfl
theorem leftA2(w:World)(os:OsState):(run w os).map (λs=>((seenAt s).2.1,(seenAt s).2.2.1))=some ((openGood view []).2.1,(openGood view []).2.2.1):=by kernel_rfl
theorem leftA3(w:World)(os:OsState):(run w os).map (λs=>(seenAt s).2.2.2)=some (openGood view []).2.2.2:=by kernel_rfl
theorem leftB(w:World)(os:OsState):(run w os).map (λs=>(r9 PySem.Challenge.pw_shapestring_k53_whole_signs_are_enough w s.abs,Hook.obs (kHook K15.kf K15.ads (λ_=>by kernel_rfl)) s.abs))=some (true,Hook.val (kHook K15.kf K15.ads (λ_=>by kernel_rfl)) w):=by kernel_rfl
theorem left:LeftO PySem.Challenge.pw_shapestring_k53_whole_signs_are_enough view [] (λs=>xlAt view [] s&&recOk [] s) (Hook.obs (kHook K15.kf K15.ads (λ_=>by kernel_rfl))) (Hook.val (kHook K15.kf K15.ads (λ_=>by kernel_rfl))) 3098:=
 F6 (run:=run) (λ_ _=>rfl) ⋯ (by kernel_rfl) (λs=>by kernel_rfl) leftA leftA2 leftA3 leftB
end K15
end
section
namespace L2
open PySem PySem.Spec PyProof.Rows
abbrev Key:=Sum Int Str
def kC:Key->Value->Bool
 |.inl k,v=>Value.isInt k v
 |.inr x,v=>Value.isStrOf x v
def keyH(w:World):Key->Int
 |.inl k=>hashInt k
 |.inr x=>hashStr w x
theorem fI:∀{k:Key}{v:Value},kC k v=true->(∃i t,k=Sum.inl i/\v=Value.int i t)\/(∃x t,k=Sum.inr x/\v=Value.str x t)
 |.inl i,v,h=>by
  obtain⟨t,e⟩:=Value.isInt_shape (k:=i) (v:=v) h;show .inl ⟨i,t,rfl,e⟩
 |.inr x,v,h=>by
  obtain⟨t,e⟩:=Value.isStrOf_shape (x:=x) (v:=v) h;show .inr ⟨x,t,rfl,e⟩
theorem C2(i:Int)(t:Tok):kC (.inl i) (.int i t)=true:=by simp[kC,Value.isInt]
theorem C1(x:Str)(t:Tok):kC (.inr x) (.str x t)=true:=by simp[kC,Value.isStrOf]
theorem IG(a b:Int):decide ((Sum.inl a:Key)=Sum.inl b)=(a==b):=by
 by_cases e:a=b
 .subst e;simp
 have h:¬(Sum.inl a:Key)=Sum.inl b:=λq=>e (vb q);rw[Nu h];show (beq_eq_false_iff_ne.mpr e).symm
theorem ID(a b:Str):decide ((Sum.inr a:Key)=Sum.inr b)=decide (a=b):=by
 by_cases e:a=b
 .subst e;simp
 have h:¬(Sum.inr a:Key)=Sum.inr b:=λq=>e (Sum.inr.inj q);rw[Nu h,Nu e]
theorem IF(a:Int)(b:Str):decide ((Sum.inl a:Key)=Sum.inr b)=false:=Nu (λq=>nomatch q)
theorem IE(a:Str)(b:Int):decide ((Sum.inr a:Key)=Sum.inl b)=false:=Nu (λq=>nomatch q)
def di(prog:Program)(w:World):PySem.KeyKind prog w Key where
 is:=kC
 hash:=keyH w
 inj:=λv a b ha f=>by
  rcases fI ha with ⟨i,t,rfl,rfl⟩|⟨x,t,rfl,rfl⟩
  .rcases fI f with ⟨j,u,rfl,e⟩|⟨y,u,rfl,e⟩
   .injection e with c _;rw[c]
   show nomatch e
  rcases fI f with ⟨j,u,rfl,e⟩|⟨y,u,rfl,e⟩
  .exact nomatch e
  injection e with c _;rw[c]
 byValue:=λk v h=>by
  rcases fI h with ⟨i,t,rfl,rfl⟩|⟨x,t,rfl,rfl⟩<;>rfl
 pyHash:=λd h=>by
  rcases fI d with ⟨i,t,rfl,rfl⟩|⟨x,t,rfl,rfl⟩
  .exact wpAny_pyHash_int h
  show wpAny_pyHash_str h
 eqBool:=λg d h=>by
  rcases fI g with ⟨i,t,rfl,rfl⟩|⟨x,t,rfl,rfl⟩
  .rcases fI d with ⟨j,u,rfl,rfl⟩|⟨y,u,rfl,rfl⟩
   .rw[IG] at h;show Bi h
   rw[IF] at h;show LW i t y u _ _ _ _ h
  rcases fI d with ⟨j,u,rfl,rfl⟩|⟨y,u,rfl,rfl⟩
  .rw[IE] at h;show LX x t j u _ _ _ _ h
  rw[ID] at h;show wpAny_eqBool_str h
 «strs»:=λk x t v h=>by
  rcases fI h with ⟨i,u,rfl,e⟩|⟨y,u,rfl,e⟩
  .exact nomatch e
  injection e with c _;subst c;cases v<;>rfl
theorem BI(prog:Program)(w:World)(i:Int)(t:Tok):(di prog w).is (.inl i) (.int i t)=true:=C2 i t
theorem BH(prog:Program)(w:World)(x:Str)(t:Tok):(di prog w).is (.inr x) (.str x t)=true:=C1 x t
end L2
namespace L2
open PySem PySem.Spec PyProof.Rows
inductive V where
 |non|bl (b:Bool)|int (i:Int)|str (x:Str)|byt (b:Array UInt8)|flt (b:UInt64)|ref (a:Addr)|ty (n:String)
 deriving DecidableEq
def aD:V->Value->Prop
 |.non,u=>u=Value.none
 |.bl b,u=>u=Value.bool b
 |.int i,u=>∃t,u=Value.int i t
 |.str x,u=>∃t,u=Value.str x t
 |.byt b,u=>∃t,u=Value.bytes b t
 |.flt b,u=>∃t,u=Value.float b t
 |.ref a,u=>u=Value.ref a
 |.ty n,u=>u=Value.type n
abbrev Vals:List V->List Value->Prop:=Paired aD
theorem Vals.length{xs:List V}(r:Vals xs us):xs.length=us.length:=nZ r
theorem Vals.get:∀{xs:List V}{us:List Value}{i:Nat}{x:V},Vals xs us->xs[i]?=some x->∃u,us[i]?=some u/\aD x u
 |_,_,_,_,.nil,e=>by simp at e
 |_,_,0,_,.cons r _,e=>by simp at e;subst e;show⟨_,rfl,r⟩
 |_,_,i+1,x,.cons _ t,e=>by
  obtain⟨u,h1,h2⟩:=Vals.get (i:=i) (x:=x) t ‹e›;show⟨u,‹h1›,h2⟩
theorem Vals.set{x:V}{u:Value}(r:aD x u):∀{xs:List V}{us:List Value}(i:Nat),Vals xs us->Vals (xs.set i x) (us.set i u)
 |_,_,_,.nil=>.nil
 |_,_,0,.cons _ t=>.cons r t
 |_,_,i+1,.cons q t=>.cons q (Vals.set r i t)
theorem Vals.append{xs ys:List V}{us ws:List Value}(h:Vals xs us)(s:Vals ys ws):Vals (xs++ys) (us++ws):=by
 induction h with
 |nil=>show s
 |cons r t a=>show .cons r a
theorem Vals.take:∀{xs:List V}{us:List Value}(n:Nat),Vals xs us->Vals (xs.take n) (us.take n)
 |_,_,0,_=>.nil
 |_,_,_+1,.nil=>.nil
 |_,_,n+1,.cons r t=>.cons r (Vals.take n t)
theorem Vals.drop:∀{xs:List V}{us:List Value}(n:Nat),Vals xs us->Vals (xs.drop n) (us.drop n)
 |_,_,0,r=>r
 |_,_,_+1,.nil=>.nil
 |_,_,n+1,.cons _ t=>Vals.drop n t
def eQ:Option V->Option Value->Prop
 |some v,some u=>aD v u
 |none,none=>True
 |_,_=>False
def KV{κ:Type}:List (κ×V)->List (κ×Value)->Prop:=Paired λ(p:κ×V)(q:κ×Value)=>p.1=q.1/\aD p.2 q.2
def kV:Key->V
 |.inl i=>.int i
 |.inr x=>.str x
inductive HO where
 |lst (xs:List V)
 |tup (xs:List V)
 |dK (kvs:List (Key×V))|dT (kvs:List (List Key×V))
 |set (S:Int->Bool) (n:Nat)
 |ins (C dx:Addr) (fs:List (Str×V))
 |own (x:Addr)
 |xd (fs:List (Str×V))
 |met (f x:Addr)
 |rng (lo hi:Int)
 |frz (o:Obj) (u:HO)
 |tbl (ps:Array Value)
 |ext (φ:Heap->Prop)
abbrev Hp:=Addr->Option HO
def upd(H:Hp)(a:Addr)(o:HO):Hp:=λb=>if b=a then some o else H b
theorem bO{H:Hp}{a:Addr}{o:HO}:upd H a o a=some o:=by unfold upd;rw[Nq rfl]
theorem bh{H:Hp}{a b:Addr}{o:HO}(h:b≠a):upd H a o b=H b:=by unfold upd;rw[Np h]
theorem rV{H:Hp}{a:Addr}{o u:HO}:upd (upd H a o) a u=upd H a u:=by funext b;unfold upd;split<;>rfl
theorem bD{H:Hp}{a b:Addr}{o u:HO}(h:H a=some o)(h':H b=some u)(d:o≠u):a≠b:=by intro e;subst e;rw[h] at h';show d (cy h')
theorem ar{H:Hp}{a b:Addr}{o:HO}(h:H a=some o)(h':H b=none):a≠b:=by intro e;subst e;rw[h] at h';cases h'
section
variable (P:Program)(w:World)
def bR(H:Hp)(h:Heap)(a:Addr):HO->Prop
 |.lst xs=>xs.length<=sizeLine/\∃(b:List Value)(n:Nat),Vals xs b/\h.get? a=some {cls:=.type "list",data:=.seq b.toArray n}
 |.tup xs=>(xs.length<=sizeLine/\∃o,h.get? a=some o/\o.dict=none)/\∃b:List Value,Vals xs b/\IsTup h a b.toArray
 |.dK kvs=>kvs.length<=sizeLine/\(a==sysModules)=false/\∃vs,KV kvs vs/\h.DictOf (di P w) a vs
 |.dT kvs=>kvs.length<=sizeLine/\(a==sysModules)=false/\∃xs:List (List Key×Addr×Value),
   Paired (λ(p:List Key×V)(q:List Key×Addr×Value)=>p.1=q.1/\H q.2.1=some (.tup (p.1.map kV))/\aD p.2 q.2.2) kvs xs/\
   ∃o es ep,h.get? a=some o/\o.ExactDict/\o.data=.dict es ep/\es.toList=xs.map (entryOfKey (tupleKind (di P w)))/\(xs.map (·.1)).Nodup
 |.set S n=>h.SetOf (intKind P w) a S n
 |.ins C dx fs=>H dx=some (.own a)/\fs.length<=1000/\dx≠a/\h.get? a=some (W.instObj C dx)/\
   ∃mA,h.Ns1 dx mA/\(∀f,eQ (fs.lookup f) (mA f))/\PySem.Within mA (fs.map (·.1))
 |.own _=>∃o,h.get? a=some o
 |.xd fs=>∃mA,h.Ns1 a mA/\∀f,eQ (fs.lookup f) (mA f)
 |.rng lo hi=>∃t u v,h.get? a=some {cls:=.type "range",data:=.fields #[.int lo t,.int hi u,.int 1 v]}
 |.frz o u=>h.get? a=some o/\bR H h a u
 |.tbl ps=>h.get? a=some {cls:=.none,data:=.fields ps}
 |.met f x=>h.get? a=some (W.methodObj (.ref f) (.ref x))
 |.ext φ=>φ h/\(∃o,h.get? a=some o)/\∀h1 h2:Heap,φ h1->(∀o,h1.get? a=some o->h2.get? a=some o)->φ h2
def HOk(H:Hp)(h:Heap):Prop:=∀a o,H a=some o->bR P w H h a o
end
section
variable {H H':Hp}{h h':Heap}{a:Addr}{o:HO}
theorem bR.lt(x:bR P w H h a o):a<h.objs.size:=by
 cases o with
 |lst xs=>obtain⟨_,_,_,_,e⟩:=x;show aN e
 |tup xs=>obtain⟨_,_,_,p⟩:=x;show p.lt
 |dK kvs=>obtain⟨_,_,_,_,o,_,_,e,_⟩:=x;show aN e
 |dT kvs=>obtain⟨_,_,_,_,o,_,_,e,_⟩:=x;show aN e
 |set S n=>obtain⟨o,_,_,_,e,_⟩:=x;show aN e
 |ins C dx fs=>obtain⟨_,_,_,e,_⟩:=x;show aN e
 |own y=>obtain⟨_,e⟩:=x;show aN e
 |xd fs=>obtain⟨_,⟨_,_,_,e,_⟩,_⟩:=x;show aN e
 |rng lo hi=>obtain⟨_,_,_,e⟩:=x;show aN e
 |frz b u=>obtain⟨e,_⟩:=x;show aN e
 |tbl ps=>show aN (show h.get? a=some _ from x)
 |met f y=>show aN (show h.get? a=some _ from x)
 |ext φ=>obtain⟨_,⟨_,e⟩,_⟩:=x;show aN e
theorem Paired.mapP{α β:Type}{F G:α->β->Prop}:∀{l₁:List α}{l₂:List β},Paired F l₁ l₂->(∀a b,F a b->G a b)->Paired G l₁ l₂
 |_,_,.nil,_=>.nil
 |_,_,.cons r t,f=>.cons (f _ _ r) (Paired.mapP t f)
theorem Paired.imp'{α β:Type}{F G:α->β->Prop}(f:∀a b,F a b->G a b){l₁:List α}{l₂:List β}(r:Paired F l₁ l₂):Paired G l₁ l₂:=Paired.mapP r f
theorem bR.stay(x:bR P w H h a o)(k:∀b u,(b=a\/H b=some (.own a))->h.get? b=some u->h'.get? b=some u)
  (l:∀b,H b=some (.own a)->H' b=some (.own a)) (m:∀b xs,H b=some (.tup xs)->H' b=some (.tup xs)):bR P w H' h' a o:=by
 induction o with
 |lst xs=>obtain⟨z,i,n,r,e⟩:=x;show⟨z,i,n,r,k _ _ (.inl rfl) e⟩
 |tup xs=>obtain⟨⟨z,o',s,d'⟩,i,r,g,e,c⟩:=x;show⟨⟨z,o',k _ _ (.inl rfl) s,d'⟩,i,r,g,k _ _ (.inl rfl) e,c⟩
 |dK kvs=>obtain⟨z,y,vs,r,g,es,ep,e,c⟩:=x;show⟨z,y,vs,r,g,es,ep,k _ _ (.inl rfl) e,c⟩
 |dT kvs=>
  obtain⟨z,y,xs,r,g,es,ep,e,c⟩:=x;show⟨z,y,xs,Paired.mapP r λp q z=>⟨z.1,m _ _ z.2.1,z.2.2⟩,g,es,ep,k _ _ (.inl rfl) e,c⟩
 |set S n=>obtain⟨g,es,ep,t,e,c⟩:=x;show⟨g,es,ep,t,k _ _ (.inl rfl) e,c⟩
 |ins C dx fs=>
  obtain⟨d,z,ne,e,mA,⟨j,es,ep,A,c⟩,r⟩:=x;show⟨l _ d,z,ne,k _ _ (.inl rfl) e,mA,⟨j,es,ep,k _ _ (.inr d) A,c⟩,r⟩
 |own y=>obtain⟨g,e⟩:=x;show⟨g,k _ _ (.inl rfl) e⟩
 |xd fs=>obtain⟨mA,⟨j,es,ep,e,c⟩,r⟩:=x;show⟨mA,⟨j,es,ep,k _ _ (.inl rfl) e,c⟩,r⟩
 |rng lo hi=>obtain⟨t,u,v,e⟩:=x;show⟨t,u,v,k _ _ (.inl rfl) e⟩
 |frz g u B=>obtain⟨e,q⟩:=x;show⟨k _ _ (.inl rfl) e,B q⟩
 |tbl ps=>
  have e:h.get? a=some {cls:=.none,data:=.fields ps}:=x;change h'.get? a=some {cls:=.none,data:=.fields ps};show k a _ (.inl rfl) e
 |met f y=>
  have e:h.get? a=some (W.methodObj (.ref f) (.ref y)):=x;change h'.get? a=some (W.methodObj (.ref f) (.ref y));show k a _ (.inl rfl) e
 |ext φ=>obtain⟨p,⟨o,e⟩,st⟩:=x;show⟨st _ _ p λo q=>k _ _ (.inl rfl) q,⟨o,k _ _ (.inl rfl) e⟩,st⟩
theorem HOk.lt(x:HOk P w H h)(e:H a=some o):a<h.objs.size:=(x a o e).lt
theorem HOk.fresh(x:HOk P w H h)(e:h.objs.size<=a):H a=none:=by
 cases q:H a with
 |none=>rfl
 |some u=>show absurd (cp (x.lt q) e) (fh _)
theorem HOk.kept(x:HOk P w H h)(k:∀b u,h.get? b=some u->h'.get? b=some u):HOk P w H h':=λa o e=>
 (x a o e).stay (λb u _ q=>k b u q) (λ_ q=>q) λ_ _ q=>q
theorem HOk.laid(x:HOk P w H h)(k:∀b u,h.get? b=some u->h'.get? b=some u)(g:h.objs.size<=a)(new:bR P w (upd H a o) h' a o):HOk P w (upd H a o) h':=λb u e=>by
 have d:=x.fresh g;by_cases f:b=a
 .subst f;rw[bO] at e;cases e;show new
 rw[bh f] at e;show (x b u e).stay (λc v _ q=>k c v q) (λc q=>by rw[bh (ar q d)];show q) λc xs q=>by rw[bh (ar q d)];show q
end
def Rd(H:Hp)(a:Addr)(u:HO):Prop:=H a=some u\/∃o,H a=some (.frz o u)
theorem Rd.ok{H:Hp}{h:Heap}{a:Addr}{u:HO}(r:Rd H a u)(x:HOk P w H h):bR P w H h a u:=by
 rcases r with r|⟨o,r⟩
 .exact x a u r
 obtain⟨_,q⟩:=x a _ r;show q
def Mut:Option HO->Prop
 |some (.lst _)=>True
 |some (.dK _)=>True
 |some (.dT _)=>True
 |some (.set _ _)=>True
 |some (.ins _ _ _)=>True
 |some (.ext _)=>True
 |_=>False
section
variable {H:Hp}{h h':Heap}{x e:Addr}{o':HO}
theorem HOk.write(ok:HOk P w H h)(a:Mut (H x))(he:e=x\/H e=some (.own x))(k:∀b u,b≠e->h.get? b=some u->h'.get? b=some u)(l:∃u,h'.get? e=some u)
  (new:bR P w (upd H x o') h' x o'):HOk P w (upd H x o') h':=λb u q=>by
 have i:∀c y,H c=some (.own y)->c≠x:=λc y r z=>by subst z;rw[r] at a;show a
 have m:∀c xs,H c=some (.tup xs)->c≠x:=λc xs r z=>by subst z;rw[r] at a;show a
 by_cases d:b=x
 .subst d;rw[bO] at q;cases q;show new
 rw[bh d] at q;by_cases f:b=e
 .have j:H b=some (.own x):=by
   rcases he with z|z
   .exact absurd (f.trans z) d
   rw[f];show z
  rw[q] at j;cases j;obtain⟨v,n⟩:=l;show⟨v,by rw[f];show n⟩
 show (ok b u q).stay (λc v g r=>k c v ?_ r) (λc r=>by rw[bh (i c b r)];show r) λc xs r=>by rw[bh (m c xs r)];show r
 rcases g with rfl|g
 .exact f
 rintro rfl;rcases he with z|z
 .exact i c b g z
 rw[g] at z;cases z;show d rfl
end
structure Un(fs ex:List Addr)(H H':Hp)(h h':Heap):Prop where
 keep:∀b o,h.get? b=some o->H b=none->b∉fs->b∉ex->h'.get? b=some o
 slot:∀b o,h.get? b=some o->H b=none->b∈fs->b∉ex->∃sl,h'.get? b=some {o with slots:=sl}
 free:∀b o,h.get? b=some o->H b=none->b∉ex->H' b=none
 there:∀b o,h.get? b=some o->b∉ex->∃o',h'.get? b=some o'
 tups:∀b xs,H b=some (.tup xs)->H' b=some (.tup xs)
 frzs:∀b o u,H b=some (.frz o u)->H' b=some (.frz o u)
 tbls:∀b ps,H b=some (.tbl ps)->∃more,H' b=some (.tbl (ps++more))
section
variable {fs fs' ex ex':List Addr}{H H1 H2:Hp}{h h1 h2 h':Heap}{a x e:Addr}{o:HO}
theorem Un.any(u:Un fs ex H H1 h h1){b:Addr}{a:Obj}(q:h.get? b=some a)(n:H b=none)(c:b∉ex):∃e,h1.get? b=some {a with slots:=e}:=by
 by_cases d:b∈fs
 .exact u.slot b a q n d c
 show⟨a.slots,u.keep b a q n d c⟩
theorem Un.kept(k:∀b u,h.get? b=some u->h'.get? b=some u):Un fs ex H H h h':=
 ⟨λb a q _ _ _=>k b a q,λb a q _ _ _=>⟨a.slots,k b a q⟩,λ_ _ _ n _=>n,λb a q _=>⟨a,k b a q⟩,λ_ _ q=>q,λ_ _ _ q=>q,λ_ ps q=>⟨#[],by rw[q];simp⟩⟩
theorem Un.refl:Un fs ex H H h h:=Un.kept λ_ _ q=>q
theorem Un.laid(k:∀b u,h.get? b=some u->h'.get? b=some u)(d:h.objs.size<=a)(c:H a=none):Un fs ex H (upd H a o) h h' where
 keep:=λb u q _ _ _=>k b u q
 slot:=λb u q _ _ _=>⟨u.slots,k b u q⟩
 free:=λb u q n _=>by rw[bh (b_ (cp (aN q) d))];show n
 there:=λb u q _=>⟨u,k b u q⟩
 tups:=λb xs q=>by rw[bh (ar q c)];show q
 frzs:=λb u xs q=>by rw[bh (ar q c)];show q
 tbls:=λb ps q=>⟨#[],by rw[bh (ar q c),q];simp⟩
theorem Un.write(a:Mut (H x))(he:e=x\/H e=some (.own x))(k:∀b u,b≠e->h.get? b=some u->h'.get? b=some u)(g:∃u,h'.get? e=some u):Un fs ex H (upd H x o) h h':=by
 have c:∀b,H b=none->b≠x:=λb n z=>by subst z;rw[n] at a;show a
 have d:∀b,H b=none->b≠e:=λb n z=>by
  subst z;rcases he with r|r
  .exact c b n r
  rw[n] at r;cases r
 have hm:∀b u,H b=some u->¬Mut (some u)->b≠x:=λb u q nm z=>by subst z;rw[q] at a;show nm a
 show⟨λb u q n _ _=>k b u (d b n) q,λb u q n _ _=>⟨u.slots,k b u (d b n) q⟩,λb u q n _=>by rw[bh (c b n)];show n,λb u q _=>?_,
  λb xs q=>by rw[bh (hm b _ q λz=>z)];show q,λb u xs q=>by rw[bh (hm b _ q λz=>z)];show q,λb ps q=>⟨#[],by rw[bh (hm b _ q λz=>z),q];simp⟩⟩
 by_cases f:b=e
 .subst f;show g
 show⟨u,k b u f q⟩
end
def trk(h:Heap)(H:Hp):List Addr:=(List.range h.objs.size).filter λa=>(H a).isSome
def il(h:Heap)(H:Hp):Heap:=W.hideAll h (trk h H)
theorem C5(h:Heap)(H:Hp):(il h H).objs.size=h.objs.size:=W.hideAll_size _ _
theorem EG{h:Heap}{H:Hp}{b:Addr}{o:Obj}(e:h.get? b=some o)(n:H b=none):(il h H).get? b=some o:=
 W.hideAll_get _ e λhm=>by
  have q:(H b).isSome=true:=(iU.mp hm).2;rw[n] at q;simp at q
theorem FU{h:Heap}{H:Hp}{b:Addr}{o:Obj}(e:(il h H).get? b=some o):h.get? b=some o/\H b=none:=by
 have a:h.get? b=some o:=W.of_hideAll (trk h H) e;show⟨a,?_⟩;cases q:H b with
 |none=>rfl
 |some x=>
  have hm:b∈trk h H:=iU.mpr ⟨fX.mpr (aN a),by simp[q]⟩;have z:(il h H).get? b=none:=W.hideAll_none (trk h H) hm;rw[z] at e;cases e
def oZ(g h:Heap)(L:Addr):List (Addr×Obj):=(List.range h.objs.size).filterMap λa=>if a=L\/(g.get? a).isSome=true then none else (h.get? a).map λo=>(a,o)
theorem vG{g h:Heap}{L a:Addr}{o:Obj}(h1:a≠L)(h2:g.get? a=none)(b:h.get? a=some o):(a,o)∈oZ g h L:=
 uI.mpr ⟨a,fX.mpr (aN b),by simp[h1,h2,b]⟩
theorem Br{g h:Heap}{L:Addr}{p:Addr×Obj}(c:p∈oZ g h L):p.1≠L/\g.get? p.1=none/\h.get? p.1=some p.2:=by
 obtain⟨b,_,e⟩:=uI.mp c
 split at e
 .cases e
 rename_i a;cases q:h.get? b with
 |none=>rw[q] at e;simp at e
 |some u=>
  rw[q] at e;simp only[iu,Mt] at e;subst e;show⟨λz=>a (.inl z),?_,q⟩;change g.get? b=none;cases r:g.get? b with
  |none=>rfl
  |some v=>show (a (.inr (by simp[r]))).elim
theorem xq{g h:Heap}{L:Addr}:News g L h (oZ g h L):=λp d=>let ⟨a,b,c⟩:=Br d;⟨c,a,b⟩
end L2
namespace L2
open PySem PySem.Spec PyProof.Rows
structure Mod(K:W.Frag)(mg:Str->Option Value)(base:Heap):Prop where
 kin:K.In base
 glob:base.Ns mainGlobals mg
 blt:∃mb,base.Ns builtinsNs mb/\∀x:Str,x≠"__name__"->mb x=bootBuiltins x
 nolimit:base.NoLimit
structure Cx where
 prog:Program
 w:World
 K:W.Frag
 mg:Str->Option Value
 base:Heap
 A:Around
 N:List Str
 s₀:Shared
 H₀:Hp
 env:Env
 outer:List Env
 stack:List Env
 ex:List Addr
 fn:Str->Bool
 calm:Bool
 pn:List (Addr×Obj)
 xe:Value->Shared->Prop
def frs(l:List Env):List Addr:=l.filterMap (·.frame)
abbrev Cx.fs(X:Cx):List Addr:=frs X.outer
def Vis(sc:Scope)(x:Str):Prop:=sc.names.lookup x=some .local\/sc.names.lookup x=some .cell\/sc.names.lookup x=some .free
def Loc(sc:Scope)(x:Str):Prop:=sc.names.lookup x=some .local\/sc.names.lookup x=some .cell
def Look(env:Env)(h:Heap)(m:Str->Option Value)(x:Str)(u:Value):Prop:=
 (env.kindOf x=some .local/\m x=some u)\/((env.kindOf x=some .cell\/env.kindOf x=some .free)/\∃c,env.cells.lookup x=some c/\h.IsCell c (some u))
structure Cx.Ok(X:Cx):Prop where
 mod:Mod X.K X.mg X.base
 kind:X.env.scope.kind=.function
 glob:X.env.globals=mainGlobals
 blt:X.env.builtins=builtinsNs
 above:X.s₀.heap.objs.size<=X.env.locals
 inj:∀x y c,X.env.cells.lookup x=some c->X.env.cells.lookup y=some c->x=y
 has:∀x,(X.env.kindOf x=some .cell\/X.env.kindOf x=some .free)->∃c,X.env.cells.lookup x=some c
 cab:∀x c,X.fn x=true->X.env.cells.lookup x=some c->X.s₀.heap.objs.size<=c
 hd:X.calm=true->X.A.handled=none
 frames:X.A.frames=some X.stack
 stk:X.stack=X.outer\/(X.stack=X.env::X.outer/\X.env.frame=some X.env.locals)
 exf:∀b∈X.ex,b≠X.env.locals/\∀x c,X.env.cells.lookup x=some c->c≠b
 bs:∀b o,X.base.get? b=some o->X.s₀.heap.get? b=some o/\X.H₀ b=none
 bsz:X.base.objs.size<=X.s₀.heap.objs.size
 noex:∀b o,X.base.get? b=some o->b∉X.ex
 exfs:∀b∈X.ex,b∉X.fs
 funs:X.s₀.heap.FunFrames X.base X.outer
 frf:∀b∈X.fs,X.H₀ b=none
structure Inv(X:Cx)(Nw:List (Addr×Obj))(Z:List (Option V))(H:Hp)(s:Shared):Prop where
 ok:X.Ok
 os:s.os=X.s₀.os
 bare:AllBare s.gens
 base:Un X.fs X.ex X.H₀ H X.s₀.heap s.heap
 loc:∃m,s.heap.Ns X.env.locals m/\∀(i:Nat)(x:Str)(v:V),X.N[i]?=some x->Z[i]?=some (some v)->Vis X.env.scope x->∃u,aD v u/\Look X.env s.heap m x u
 cell:∀x c,X.env.cells.lookup x=some c->∃v,s.heap.IsCell c v
 free:H X.env.locals=none
 freeC:∀x c,X.env.cells.lookup x=some c->H c=none
 pin:∀p∈X.pn++Nw,s.heap.get? p.1=some p.2/\H p.1=none/\p.1≠X.env.locals/\p.1∉X.fs/\∀v,p.2.data≠.cell v
 hok:HOk X.prog X.w H s.heap
 len:Z.length=X.N.length
section
variable {X:Cx}{Z:List (Option V)}{H H':Hp}{h':Heap}
theorem Cx.Ok.nofr(ok:X.Ok){b:Addr}{o:Obj}(e:X.base.get? b=some o):b∉X.fs:=λa=>by
 have:=(ok.funs.mem a).1;rw[e] at this;cases this
theorem Inv.bs(I:Inv X Nw Z H s):∀b o,X.base.get? b=some o->s.heap.get? b=some o/\H b=none:=λb o e=>
 ⟨I.base.keep b o (I.ok.bs b o e).1 (I.ok.bs b o e).2 (I.ok.nofr e) (I.ok.noex b o e),I.base.free b o (I.ok.bs b o e).1 (I.ok.bs b o e).2 (I.ok.noex b o e)⟩
theorem Inv.bk(I:Inv X Nw Z H s):∀b o,X.base.get? b=some o->s.heap.get? b=some o:=λb o e=>(I.bs b o e).1
theorem Inv.mod(I:Inv X Nw Z H s):Mod X.K X.mg X.base:=I.ok.mod
theorem Inv.kIn(I:Inv X Nw Z H s):X.K.In s.heap:=I.ok.mod.kin.keeps I.bk
theorem Inv.fr(I:Inv X Nw Z H s):∃m,Fr X.base X.env.locals s.heap m:=
 let ⟨m,a,_⟩:=I.loc
 ⟨m,a,I.bk,cC I.ok.bsz I.ok.above⟩
theorem Inv.lt(I:Inv X Nw Z H s):X.env.locals<↥s:=let ⟨_,a,_⟩:=I.loc;a.lt
theorem Inv.sz(I:Inv X Nw Z H s):X.s₀.heap.objs.size<=↥s:=cC I.ok.above (nR I.lt)
theorem Inv.nofs(I:Inv X Nw Z H s){a:Addr}(h:↥s<=a):a∉X.fs:=λb=>by
 obtain⟨_,o,c,_⟩:=I.ok.funs.mem b;show absurd (cp (aN c) (cC I.sz h)) (fh _)
theorem Inv.cne(I:Inv X Nw Z H s):∀x c,X.env.cells.lookup x=some c->c≠X.env.locals:=λx c e z=>by
 obtain⟨v,o,a,hd⟩:=I.cell x c e;obtain⟨m,⟨o',es,ep,b,d,_⟩,_⟩:=I.loc;rw[z,b] at a;cases a;rw[d] at hd;cases hd
theorem Inv.funs(I:Inv X Nw Z H s):s.heap.FunFrames X.base X.outer:=by
 have all:∀(l:List Env),(∀b∈frs l,b∈X.fs)->X.s₀.heap.FunFrames X.base l->s.heap.FunFrames X.base l:=by
  intro l;induction l with
  |nil=>intro _ _;trivial
  |cons env r f=>
   intro d g;obtain⟨h,⟨L,o,hf,i,j,hd⟩,m⟩:=g;have a:L∈X.fs:=d L (by unfold frs;rw[AK,hf];show dX);obtain⟨n,e⟩:=I.base.slot L o j (I.ok.frf L a) a λz=>I.ok.exfs L z a;show⟨h,⟨L,_,hf,i,e,hd⟩,f (λb c=>d b (by unfold frs;rw[AK,hf];show aZ _ c)) m⟩
 show all X.outer (λ_ c=>c) I.ok.funs
theorem Inv.stack(I:Inv X Nw Z H s):s.heap.FunFrames X.base X.stack:=by
 rcases I.ok.stk with e|⟨e,hf⟩
 .rw[e];show I.funs
 rw[e];obtain⟨m,a,_⟩:=I.loc;show .cons (by rw[I.ok.kind];decide) hf a ?_ I.funs;show uy (cC I.ok.bsz I.ok.above)
theorem Inv.stkSub(I:Inv X Nw Z H s):∀b∈frs X.stack,b∈X.env.locals::X.fs:=λb a=>by
 rcases I.ok.stk with e|⟨e,hf⟩
 .rw[e] at a;show aZ _ a
 rw[e] at a;unfold frs at a;rw[AK,hf] at a;show a
theorem Inv.stkFree(I:Inv X Nw Z H s):∀b∈frs X.stack,H b=none:=λb a=>by
 rcases ae.mp (I.stkSub b a) with e|a
 .rw[e];show I.free
 obtain⟨_,o,c,_⟩:=I.ok.funs.mem a;show I.base.free b o c (I.ok.frf b a) λz=>I.ok.exfs b z a
theorem Inv.step{g':Array GenState}{t':Nat}{d':Drawn}{ch:List Addr}(I:Inv X Nw Z H s)
  (j:∀b∈ch,(b∈X.ex\/X.s₀.heap.objs.size<=b)/\b≠X.env.locals/\(∀x c,X.env.cells.lookup x=some c->c≠b)/\∀p∈X.pn++Nw,p.1≠b)
  (keep:∀b o,b≠X.env.locals->b∉X.fs->b∉ch->s.heap.get? b=some o->H b=none->h'.get? b=some o)
  (slot:∀b o,b≠X.env.locals->b∈X.fs->b∉ch->s.heap.get? b=some o->H b=none->∃C,h'.get? b=some {o with slots:=C}) (free:∀b o,b∉ch->s.heap.get? b=some o->H b=none->H' b=none)
  (there:∀b o,b∉ch->s.heap.get? b=some o->∃o',h'.get? b=some o')
  (tups:∀b xs,H b=some (.tup xs)->H' b=some (.tup xs)) (frzs:∀b o u,H b=some (.frz o u)->H' b=some (.frz o u)) (tbls:∀b ps,H b=some (.tbl ps)->∃more,H' b=some (.tbl (ps++more)))
  (ns:∀m,s.heap.Ns X.env.locals m->h'.Ns X.env.locals m) (hok:HOk X.prog X.w H' h') (M:AllBare g') :
  Inv X Nw Z H' {s with heap:=h',gens:=g',drawn:=d',toks:=t'}:=by
 have D:∀b o,X.s₀.heap.get? b=some o->b≠X.env.locals:=λb o e=>b_ (cp (aN e) I.ok.above);have B:∀b o,X.s₀.heap.get? b=some o->b∉X.ex->b∉ch:=λb o e a g=>by
  rcases (j b g).1 with z|z
  .exact a z
  show absurd (cp (aN e) z) (fh _)
 have cellK:∀x c,X.env.cells.lookup x=some c->∀v,s.heap.IsCell c v->h'.IsCell c v:=λx c e v ⟨o,h,hd⟩=>by
  have y:c∉ch:=λz=>(j c z).2.2.1 x c e rfl;by_cases E:c∈X.fs
  .obtain⟨C,q⟩:=slot c o (I.cne x c e) E y h (I.freeC x c e);show⟨_,q,hd⟩
  show⟨o,keep c o (I.cne x c e) E y h (I.freeC x c e),hd⟩
 show⟨I.ok,I.os,M,⟨λb o e n g a=>?_,λb o e n g a=>?_,λb o e n a=>?_,λb o e a=>?_,λb xs e=>tups b xs (I.base.tups b xs e),λb o xs e=>frzs b o xs (I.base.frzs b o xs e),λb ps e=>?_⟩,?_,λx c e=>?_,?_,λx c e=>?_,λp K=>?_,hok,I.len⟩
 .exact keep b o (D b o e) g (B b o e a) (I.base.keep b o e n g a) (I.base.free b o e n a)
 .obtain⟨C,f⟩:=I.base.slot b o e n g a;obtain⟨N,A⟩:=slot b _ (D b o e) g (B b o e a) f (I.base.free b o e n a);show⟨N,A⟩
 .obtain⟨o',f⟩:=I.base.there b o e a;show free b o' (B b o e a) f (I.base.free b o e n a)
 .obtain⟨o',f⟩:=I.base.there b o e a;show there b o' (B b o e a) f
 .obtain⟨O,f⟩:=I.base.tbls b ps e;obtain⟨P,A⟩:=tbls b _ f;show⟨O++P,by rw[A,Array.append_assoc]⟩
 .obtain⟨m,Q,R⟩:=I.loc;show⟨m,ns m Q,λi x v f A S=>?_⟩;obtain⟨u,r,l⟩:=R i x v f A S;show⟨u,r,?_⟩;rcases l with l|⟨k,c,e,z⟩
  .exact .inl l
  show .inr ⟨k,c,e,cellK x c e _ z⟩
 .obtain⟨v,z⟩:=I.cell x c e;show⟨v,cellK x c e v z⟩
 .obtain⟨m,⟨o,_,_,h,_⟩,_⟩:=I.loc;show free _ o (λz=>(j _ z).2.1 rfl) h I.free
 .obtain⟨v,o,h,hd⟩:=I.cell x c e;show free c o (λz=>(j c z).2.2.1 x c e rfl) h (I.freeC x c e)
 obtain⟨e,n,ne,L,d⟩:=I.pin p K;have y:p.1∉ch:=λz=>(j p.1 z).2.2.2 p K rfl;show⟨keep p.1 p.2 ne L y e n,free p.1 p.2 y e n,ne,L,d⟩
theorem Inv.un{t':Nat}(I:Inv X Nw Z H s)(u:Un X.fs [] H H' s.heap h')(hok:HOk X.prog X.w H' h'):Inv X Nw Z H' {s with heap:=h',toks:=t'}:=by
 obtain⟨m,⟨o,es,ep,c,r⟩,_⟩:=id I.loc;obtain⟨j,f⟩:=u.any c I.free ∅;show I.step (g':=s.gens) (d':=s.drawn) (ch:=[]) (λ_ z=>nomatch z) (λb o _ a _ e n=>u.keep b o e n a ∅) (λb o _ a _ e n=>u.slot b o e n a ∅) (λb o _ e n=>u.free b o e n ∅) (λb o _ e=>u.there b o e ∅) u.tups u.frzs u.tbls (λl hm=>by
  obtain⟨o',g,h,d,i⟩:=hm;rw[c] at d;cases d;show⟨_,g,h,f,i⟩) hok I.bare
theorem Inv.call{g':Array GenState}{t':Nat}{d':Drawn}{ch:List Addr}(I:Inv X Nw Z H s)(u:Un (frs X.stack) ch H H' s.heap h')(hok:HOk X.prog X.w H' h')(i:AllBare g')
  (f:∀b∈ch,(b∈X.ex\/X.s₀.heap.objs.size<=b)/\b≠X.env.locals/\(∀x c,X.env.cells.lookup x=some c->c≠b)/\∀p∈X.pn++Nw,p.1≠b) :
  Inv X Nw Z H' {s with heap:=h',gens:=g',drawn:=d',toks:=t'}:=by
 obtain⟨m,⟨o,es,ep,g,r⟩,_⟩:=id I.loc;obtain⟨y,d⟩:=u.any g I.free λz=>(f _ z).2.1 rfl;show I.step (ch:=ch) f (λb o d j a e n=>u.keep b o e n (λz=>(ae.mp (I.stkSub b z)).elim d j) a) (λb o _ _ a e n=>u.any e n a) (λb o a e n=>u.free b o e n a) (λb o a e=>u.there b o e a) u.tups u.frzs u.tbls (λA hm=>by
  obtain⟨o',l,q,h,v⟩:=hm;rw[g] at h;cases h;show⟨_,l,q,d,v⟩) hok i
theorem Inv.turned{t':Nat}{it:Addr}(I:Inv X Nw Z H s)(k:∀b o,b≠it->s.heap.get? b=some o->h'.get? b=some o)(g:H it=none)(d:it≠X.env.locals)
  (h1:it∈X.ex\/X.s₀.heap.objs.size<=it) (h2:∀x c,X.env.cells.lookup x=some c->c≠it) (h:∀p∈X.pn++Nw,p.1≠it):Inv X Nw Z H {s with heap:=h',toks:=t'}:=by
 have f:∀b u,H b=some u->b≠it:=λb u e z=>by rw[z,g] at e;cases e
 show I.step (g':=s.gens) (d':=s.drawn) (ch:=[it]) (λb i=>?_) (λb o _ _ a e _=>k b o (λz=>a (by simp[z])) e) (λb o _ _ a e _=>⟨o.slots,k b o (λz=>a (by simp[z])) e⟩) (λ_ _ _ _ n=>n)
  (λb o a e=>⟨o,k b o (λz=>a (by simp[z])) e⟩) (λ_ _ e=>e) (λ_ _ _ e=>e) (λb ps e=>⟨#[],by rw[e];simp⟩) (λm hm=>?_) (λb u e=>?_) I.bare
 .have e:b=it:=‹i›
  subst e;show⟨h1,d,h2,h⟩
 .obtain⟨o,es,ep,j,r⟩:=hm;show⟨o,es,ep,k _ o (aG d) j,r⟩
 show (I.hok b u e).stay (λc v a q=>k c v ?_ q) (λ_ q=>q) λ_ _ q=>q;rcases a with z|z
 .rw[z];show f b u e
 show f c _ z
theorem Inv.tok(I:Inv X Nw Z H s)(t:Nat):Inv X Nw Z H {s with toks:=t}:=I.un (h':=s.heap) (t':=t) Un.refl I.hok
theorem Inv.kept{t':Nat}(I:Inv X Nw Z H s)(k:∀b u,s.heap.get? b=some u->h'.get? b=some u):Inv X Nw Z H {s with heap:=h',toks:=t'}:=I.un (Un.kept k) (I.hok.kept k)
theorem Inv.laid{a:Addr}{o:HO}{t':Nat}(I:Inv X Nw Z H s)(k:∀b u,s.heap.get? b=some u->h'.get? b=some u)(c:↥s<=a)(new:bR X.prog X.w (upd H a o) h' a o) :
  Inv X Nw Z (upd H a o) {s with heap:=h',toks:=t'}:=I.un (Un.laid k c (I.hok.fresh c)) (I.hok.laid k c new)
theorem Inv.write{x e:Addr}{o:HO}{t':Nat}(I:Inv X Nw Z H s)(a:Mut (H x))(he:e=x\/H e=some (.own x))(k:∀b u,b≠e->s.heap.get? b=some u->h'.get? b=some u)(c:∃u,h'.get? e=some u)
  (new:bR X.prog X.w (upd H x o) h' x o):Inv X Nw Z (upd H x o) {s with heap:=h',toks:=t'}:=I.un (Un.write a he k c) (I.hok.write a he k c new)
theorem Inv.pins_of{pins':List (Addr×Obj)}(I:Inv X Nw Z H s)(h:∀p∈pins',s.heap.get? p.1=some p.2/\H p.1=none/\p.1≠X.env.locals/\p.1∉X.fs/\∀v,p.2.data≠.cell v):Inv X pins' Z H s:=
 ⟨I.ok,I.os,I.bare,I.base,I.loc,I.cell,I.free,I.freeC,λp a=>(aw.mp a).elim (λz=>I.pin p (bM _ z)) (h p),I.hok,I.len⟩
theorem xp{N:List Str}(c:N.Nodup){i j:Nat}{x:Str}(a:N[i]?=some x)(b:N[j]?=some x):i=j:=by obtain⟨h1,d⟩:=aI.mp a;obtain⟨h2,e⟩:=aI.mp b;show (List.getElem_inj c).mp (d.trans e.symm)
theorem vV{M:Model}{i:Nat}{x:Str}{v:V}{u:Value}{Q:Unit->Shared->Prop}(I:Inv X Nw Z H s)(hN:X.N.Nodup)(hi:X.N[i]?=some x)(B:Loc X.env.scope x)(r:aD v u)
  (h:∀s',Inv X Nw (Z.set i (some v)) H s'->(∃a,Heap.SameBut a s.heap s'.heap/\(a=X.env.locals\/X.env.cells.lookup x=some a))->Q .unit s') (hf:X.fn x=true\/X.env.scope.names.lookup x=some .local:=by first|exact .inl rfl|exact .inr rfl|assumption):wpAny M A (storeName X.env x u) Q E s:=by
 obtain⟨m,R,hl⟩:=id I.loc;have ap:(X.env.scope.kind==.class||(X.env.scope.kind==.module&&X.env.locals != X.env.globals))=false:=by rw[I.ok.kind];rfl
 have hiσ:i<Z.length:=by rw[I.len];show (aI.mp hi).1
 have cne:=I.cne;have tracked:∀{a:Addr}{h':Heap},(∃o,s.heap.get? a=some o/\H a=none)->Heap.SameBut a s.heap h'->HOk X.prog X.w H h':=λ{a h'} ha f b ob e=>by
  obtain⟨_,_,ah⟩:=ha;show (I.hok b ob e).stay (λc O l q=>(f.2 c ?_).trans q) (λ_ q=>q) λ_ _ q=>q;rintro rfl;rcases l with rfl|l
  .rw[ah] at e;cases e
  rw[ah] at l;cases l
 rcases B with D|D
 .refine wpAny_storeName_local D R (λh' a0 f=>?_) ap;obtain⟨oL,_,_,a1,_⟩:=id R;show h _ ⟨I.ok,I.os,I.bare,⟨λb o e n K B=>?_,λb o e n K B=>?_,I.base.free,λb o e B=>?_,I.base.tups,I.base.frzs,I.base.tbls⟩,⟨_,a0,λj y S g C T=>?_⟩,λy c e=>?_,I.free,I.freeC,λp U=>?_,tracked ⟨oL,a1,I.free⟩ f,‹I.len›⟩ ⟨_,f,.inl rfl⟩
  .exact (f.2 b (b_ (cp (aN e) I.ok.above))).trans (I.base.keep b o e n K B)
  .obtain⟨Y,g⟩:=I.base.slot b o e n K B;show⟨Y,(f.2 b (b_ (cp (aN e) I.ok.above))).trans g⟩
  .obtain⟨o',g⟩:=I.base.there b o e B;show⟨o',(f.2 b (b_ (cp (aN e) I.ok.above))).trans g⟩
  .by_cases L:j=i
   .subst L;rw[hi] at g;cases g;rw[K8 hiσ] at C;cases C;show⟨u,r,.inl ⟨D,∅⟩⟩
   rw[K7 (aG L)] at C;obtain⟨u',r',q⟩:=hl j y S g C T;show⟨u',r',?_⟩;rcases q with ⟨k,e⟩|⟨k,c,e,z⟩
   .refine .inl ⟨k,?_⟩;have:y≠x:=λe=>L (xp hN g (e ▸ hi));simp[this,e]
   show .inr ⟨k,c,e,z.sameBut f (cne y c e)⟩
  .obtain⟨O,z⟩:=I.cell y c e;show⟨O,z.sameBut f (cne y c e)⟩
  obtain⟨e,n,ne,nf,d⟩:=I.pin p U;show⟨(f.2 p.1 ne).trans e,n,ne,nf,d⟩
 have ad:X.fn x=true:=by
  rcases hf with z|z
  .exact z
  rw[z] at D;cases D
 obtain⟨c,l⟩:=I.ok.has x (.inl D);obtain⟨O,z⟩:=I.cell x c l;show wpAny_storeName_cell I.ok.kind D l z (λh' al f=>?_);obtain⟨oc,am,a2⟩:=id z;show h {s with heap:=h'} ⟨I.ok,I.os,I.bare,⟨λb o e n K B=>?_,λb o e n K B=>?_,I.base.free,λb o e B=>?_,I.base.tups,I.base.frzs,I.base.tbls⟩,⟨m,R.sameBut f (aG (cne x c l)),λj y S g C T=>?_⟩,λy P e=>?_,I.free,I.freeC,λp U=>?_,tracked ⟨oc,am,I.freeC x c l⟩ f,‹I.len›⟩ ⟨c,f,.inr l⟩
 .exact (f.2 b (b_ (cp (aN e) (I.ok.cab x c ad l)))).trans (I.base.keep b o e n K B)
 .obtain⟨Y,g⟩:=I.base.slot b o e n K B;show⟨Y,(f.2 b (b_ (cp (aN e) (I.ok.cab x c ad l)))).trans g⟩
 .obtain⟨o',g⟩:=I.base.there b o e B;show⟨o',(f.2 b (b_ (cp (aN e) (I.ok.cab x c ad l)))).trans g⟩
 .by_cases L:j=i
  .subst L;rw[hi] at g;cases g;rw[K8 hiσ] at C;cases C;show⟨u,r,.inr ⟨.inl D,c,l,al⟩⟩
  rw[K7 (aG L)] at C;obtain⟨u',r',q⟩:=hl j y S g C T;show⟨u',r',?_⟩;rcases q with q|⟨k,P,e,z'⟩
  .exact .inl q
  show .inr ⟨k,P,e,z'.sameBut f ?_⟩;rintro rfl;show L (xp hN g (I.ok.inj _ _ _ e l ▸ hi))
 .by_cases an:P=c
  .subst an;show⟨_,al⟩
  obtain⟨w2,z2⟩:=I.cell y P e;show⟨w2,z2.sameBut f an⟩
 obtain⟨e,n,ne,nf,d⟩:=I.pin p U;show⟨(f.2 p.1 ?_).trans e,n,ne,nf,d⟩;intro q;rw[q,am] at e;have q':oc=p.2:=cy e;show d O (by rw[<-q'];show a2)
theorem wY{M:Model}{i:Nat}{x:Str}{v:V}{u:Value}{Q:Unit->Shared->Prop}(I:Inv X Nw Z H s)(a:X.N.Nodup)(hi:X.N[i]?=some x)(b:Loc X.env.scope x)(r:aD v u)
  (h:∀s',Inv X Nw (Z.set i (some v)) H s'->Q .unit s') (hf:X.fn x=true\/X.env.scope.names.lookup x=some .local:=by first|exact .inl rfl|exact .inr rfl|assumption):wpAny M A (storeName X.env x u) Q E s:=
 vV I a hi b r (λs' c _=>h s' c) hf
theorem Inv.call'{s':Shared}{ch:List Addr}(I:Inv X Nw Z H s)(a:s'.os=s.os)(u:Un (frs X.stack) ch H H' s.heap s'.heap)(hok:HOk X.prog X.w H' s'.heap)(d:AllBare s'.gens)
  (f:∀b∈ch,(b∈X.ex\/X.s₀.heap.objs.size<=b)/\b≠X.env.locals/\(∀x c,X.env.cells.lookup x=some c->c≠b)/\∀p∈X.pn++Nw,p.1≠b):Inv X Nw Z H' s':=by
 obtain⟨h',g',d',t',o'⟩:=s';have e:o'=s.os:=a;subst e;show I.call (g':=g') (t':=t') (d':=d') u hok d f
end
abbrev XK:=Value->Option Addr->Hp->Prop
abbrev St:=List (Option V)
abbrev VK:=V->Hp->Prop
abbrev TE:=St->Hp->VK->Prop
abbrev TT:=St->Hp->(Bool->Hp->Prop)->Prop
abbrev TA:=St->Hp->(List V->Hp->Prop)->Prop
structure Ends where
 nx:St->Hp->Prop
 rt:VK
 bk:St->Hp->Prop:=λ_ _=>False
 ct:St->Hp->Prop:=λ_ _=>False
abbrev TS:=Ends->St->Hp->Prop
def EP(X:Cx)(Nw:List (Addr×Obj))(Z:St)(Q:VK)(u:Value)(s':Shared):Prop:=∃v H',Inv X Nw Z H' s'/\aD v u/\Q v H'
def TP(X:Cx)(Nw:List (Addr×Obj))(Z:St)(Q:Bool->Hp->Prop)(b:Bool)(s':Shared):Prop:=∃H',Inv X Nw Z H' s'/\Q b H'
def AP(X:Cx)(Nw:List (Addr×Obj))(Z:St)(Q:List V->Hp->Prop)(us:List Value)(s':Shared):Prop:=∃vs H',Inv X Nw Z H' s'/\Vals vs us/\Q vs H'
def SP(X:Cx)(Nw:List (Addr×Obj))(D:Ends)(f:Flow)(s':Shared):Prop:=
 match f with
 |.next=>∃Z' H',Inv X Nw Z' H' s'/\D.nx Z' H'
 |.brk=>∃Z' H',Inv X Nw Z' H' s'/\D.bk Z' H'
 |.cont=>∃Z' H',Inv X Nw Z' H' s'/\D.ct Z' H'
 |.ret u=>∃v Z' H',Inv X Nw Z' H' s'/\aD v u/\D.rt v H'
def PE(X:Cx)(e:Expr)(t:TE):Prop:=
 ∀(Nw:List (Addr×Obj))(s:Shared)(Z:St)(H:Hp)(Q:VK),Inv X Nw Z H s->t Z H Q->wpAny ⇑X X.A (eval e X.env) (EP X Nw Z Q) X.xe s
def PT(X:Cx)(e:Expr)(t:TT):Prop:=
 ∀(Nw:List (Addr×Obj))(s:Shared)(Z:St)(H:Hp)(Q:Bool->Hp->Prop),Inv X Nw Z H s->t Z H Q->wpAny ⇑X X.A (isTrue e X.env (eval e X.env)) (TP X Nw Z Q) X.xe s
def PW(X:Cx)(e:Expr)(t:TT):Prop:=
 ∀(whole:Sem Value)(Nw:List (Addr×Obj))(s:Shared)(Z:St)(H:Hp)(Q:Bool->Hp->Prop),Inv X Nw Z H s->t Z H Q->wpAny ⇑X X.A (isTrue e X.env whole) (TP X Nw Z Q) X.xe s
theorem PW.pt{X:Cx}{e:Expr}{t:TT}(h:PW X e t):PT X e t:=h _
def PA(X:Cx)(es:List Expr)(t:TA):Prop:=
 ∀(pos:Pos)(Nw:List (Addr×Obj))(s:Shared)(Z:St)(H:Hp)(Q:List V->Hp->Prop),Inv X Nw Z H s->t Z H Q->wpAny ⇑X X.A (spliced (backTo pos (starEach es X.env))) (AP X Nw Z Q) X.xe s
def PS(X:Cx)(st:Stmt)(t:TS):Prop:=
 ∀(Nw:List (Addr×Obj))(s:Shared)(Z:St)(H:Hp)(D:Ends),Inv X Nw Z H s->t D Z H->wpAny ⇑X X.A (exec st X.env) (SP X Nw D) X.xe s
def PSs(X:Cx)(st:List Stmt)(t:TS):Prop:=
 ∀(Nw:List (Addr×Obj))(s:Shared)(Z:St)(H:Hp)(D:Ends),Inv X Nw Z H s->t D Z H->wpAny ⇑X X.A (execs st X.env) (SP X Nw D) X.xe s
theorem thn{α:Type}{t:Sem α}{Q b:α->Shared->Prop}{M:Model}(h:wpAny M A t Q E s)(c:∀a s,Q a s->b a s):wpAny M A t b E s:=fk h c λ_ _ x=>x
end L2
variable {H:L2.Hp}{Z:L2.St}{X:L2.Cx}{xs:List L2.V}{vs:List L2.V}{H':L2.Hp}
namespace L2
open PySem PySem.Spec PyProof.Rows
section
def Ex2{α β:Type}(P:α->β->Prop)(a:α):Prop:=Exists (P a)
def Ex3{α β γ:Type}(P:α->β->γ->Prop)(a:α):Prop:=Exists (Ex2 (P a))
def Ex4{α β γ δ:Type}(P:α->β->γ->δ->Prop)(a:α):Prop:=Exists (Ex3 (P a))
def Ex5{α β γ δ ε:Type}(P:α->β->γ->δ->ε->Prop)(a:α):Prop:=Exists (Ex4 (P a))
def Ex6{α β γ δ ε ζ:Type}(P:α->β->γ->δ->ε->ζ->Prop)(a:α):Prop:=Exists (Ex5 (P a))
def Ex7{α β γ δ ε ζ η:Type}(P:α->β->γ->δ->ε->ζ->η->Prop)(a:α):Prop:=Exists (Ex6 (P a))
def Ex8{α β γ δ ε ζ η θ:Type}(P:α->β->γ->δ->ε->ζ->η->θ->Prop)(a:α):Prop:=Exists (Ex7 (P a))
def Ex9{α β γ δ ε ζ η θ ι:Type}(P:α->β->γ->δ->ε->ζ->η->θ->ι->Prop)(a:α):Prop:=Exists (Ex8 (P a))
def Ex10{α β γ δ ε ζ η θ ι κ:Type}(P:α->β->γ->δ->ε->ζ->η->θ->ι->κ->Prop)(a:α):Prop:=Exists (Ex9 (P a))
def Ex11{α β γ δ ε ζ η θ ι κ μ:Type}(P:α->β->γ->δ->ε->ζ->η->θ->ι->κ->μ->Prop)(a:α):Prop:=Exists (Ex10 (P a))
def Ex12{α β γ δ ε ζ η θ ι κ μ ν:Type}(P:α->β->γ->δ->ε->ζ->η->θ->ι->κ->μ->ν->Prop)(a:α):Prop:=Exists (Ex11 (P a))
def Ex13{α β γ δ ε ζ η θ ι κ μ ν ξ:Type}(P:α->β->γ->δ->ε->ζ->η->θ->ι->κ->μ->ν->ξ->Prop)(a:α):Prop:=Exists (Ex12 (P a))
def Same(H H':Hp):Prop:=∀b o,H b=some o->H' b=some o
def fE(H:Hp)(o:HO)(Q:VK):Prop:=∀p H',H p=none->Same H H'->H' p=some o->Q (.ref p) H'
theorem fE.at{o:HO}{Q:VK}{p:Addr}(q:fE H o Q)(h:H p=none):Q (.ref p) (upd H p o):=q p _ h (λb u e=>(bh (λz=>by rw[z,h] at e;cases e)).trans e) bO
def WrO(H:Hp)(l:Addr)(o:HO)(k:Hp->Prop):Prop:=∀H',(∀b,b≠l->H' b=H b)->H' l=some o->k H'
theorem WrO.at{l:Addr}{o:HO}{k:Hp->Prop}(q:WrO H l o k):k (upd H l o):=q _ (λ_ h=>bh h) bO
def Jm(i:Nat)(Z:St)(H:Hp)(Q:VK)(v:V):Prop:=Z[i]?=some (some v)/\Q v H
def cD(i:Nat):TE:=λZ H Q=>Exists (Jm i Z H Q)
def tC(v:V):TE:=λ_ H Q=>Q v H
theorem Im{i:Nat}{x:Str}{pos:Pos}(f:X.N[i]?=some x)(g:Vis X.env.scope x)(hd:(x==("__debug__" : Str))=false:=by decide)(j:(x==("__classdict__" : Str))=false:=by decide):PE X (.Name x pos) (cD i):=by
 intro Nw s Z H Q I h;obtain⟨v,e,h⟩:=h;obtain⟨m,n,o⟩:=I.loc;obtain⟨u,r,l⟩:=o i x v f e g;have fin:EP X Nw Z Q u s:=⟨v,H,I,r,h⟩;rcases l with ⟨a,hm⟩|⟨a,c,b,d⟩
 .exact Bf (wpAny_loadName_local I.ok.kind a n hm fin) hd
 rcases a with a|a
 .exact Bf (wpAny_loadName_cell I.ok.kind a b d fin) hd
 show Bf (wpAny_loadName_free I.ok.kind a b d fin j) hd
theorem aa{i j pos}:PE X (.Constant (.int i) j pos) (tC (.int i)):=λ_ _ _ H _ I h=>wpAny_Constant_int ⟨.int i,H,I.tok _,⟨_,rfl⟩,h⟩
theorem Am{b j pos}:PE X (.Constant (.bool b) j pos) (tC (.bl b)):=λ_ _ _ H _ I h=>Constant_bool ⟨.bl b,H,I,rfl,h⟩
theorem fS{j pos}:PE X (.Constant .none j pos) (tC .non):=λ_ _ _ H _ I h=>Constant_none ⟨.non,H,I,rfl,h⟩
theorem bB{x j pos}:PE X (.Constant (.str x) j pos) (tC (.str x)):=λ_ _ _ H _ I h=>Calls.Constant_str ⟨.str x,H,I.tok _,⟨_,rfl⟩,h⟩
def Gl(X:Cx)(x:Str):Prop:=X.env.kindOf x=some .globalImplicit
theorem yK{x:Str}{u:Value}{pos:Pos}{Q:Value->Shared->Prop}(I:Inv X Nw Z H s)(a:Gl X x)(hm:X.mg x=some u)(h:Q u s)
  (hd:(x==("__debug__" : Str))=false:=by decide):wpAny ⇑X X.A (eval (.Name x pos) X.env) Q E s:=
 KL I.ok.kind a (Calls.loadGlobal_global (by rw[I.ok.glob];show I.mod.glob.keeps I.bk) hm h) hd
theorem fV{x:Str}{u:Value}{pos:Pos}{Q:Value->Shared->Prop}(I:Inv X Nw Z H s)(a:Gl X x)(hm:X.mg x=none)(b:bootBuiltins x=some u)(h:Q u s)
  (c:x≠"__name__":=by decide) (hd:(x==("__debug__" : Str))=false:=by decide):wpAny ⇑X X.A (eval (.Name x pos) X.env) Q E s:=by
 obtain⟨mb,h1,h2⟩:=I.mod.blt;show KL I.ok.kind a (Calls.loadGlobal_builtin (by rw[I.ok.glob];show I.mod.glob.keeps I.bk) hm (by rw[I.ok.blt];show h1.keeps I.bk) ((h2 x c).trans b) h) hd
theorem sU{x:Str}{v:V}{u:Value}{pos:Pos}(a:Gl X x)(hm:X.mg x=some u)(r:aD v u)(hd:(x==("__debug__" : Str))=false:=by decide):PE X (.Name x pos) (tC v):=
 λ_ _ _ H _ I h=>yK I a hm ⟨v,H,I,r,h⟩ hd
theorem FO{x:Str}{v:V}{u:Value}{pos:Pos}(a:Gl X x)(hm:X.mg x=none)(b:bootBuiltins x=some u)(r:aD v u)(c:x≠"__name__":=by decide)(hd:(x==("__debug__" : Str))=false:=by decide):PE X (.Name x pos) (tC v):=
 λ_ _ _ H _ I h=>fV I a hm b ⟨v,H,I,r,h⟩ c hd
variable {a b:Expr}{ta tb:TE}{pos:Pos}
def PC(X:Cx)(op:CmpOp)(a b:Expr)(t:TE):Prop:=
 ∀(Nw:List (Addr×Obj))(s:Shared)(Z:St)(H:Hp)(Q:VK),Inv X Nw Z H s->t Z H Q->
  wpAny ⇑X X.A (eval a X.env) (λv s₁=>wpAny ⇑X X.A (eval b X.env) (λu s₂=>wpAny ⇑X X.A (compareOp op v u) (EP X Nw Z Q) X.xe s₂) X.xe s₁) X.xe s
def tBB(Q:Bool->Hp->Prop)(x:V)(H1:Hp)(c:Bool):Prop:=x=.bl c/\Q c H1
def tBK(Q:Bool->Hp->Prop):VK:=λx H1=>Exists (tBB Q x H1)
def tB(t:TE):TT:=λZ H Q=>t Z H (tBK Q)
theorem tO{op:CmpOp}{t:TE}(h:PC X op a b t)(h1:behindInMarks op b=false:=by first|exact nobehind _ ⋯ ⋯ | rfl):PE X (.Compare a [op] [b] pos) t:=λNw s Z H Q I hw=>Mc (h Nw s Z H Q I hw) h1
theorem mP{op:CmpOp}{t:TE}(h:PC X op a b t)(h1:behindInMarks op b=false:=by first|exact nobehind _ ⋯ ⋯ | rfl):PT X (.Compare a [op] [b] pos) (tB t):=by intro Nw s Z H Q I hw;refine Mj (thn (h Nw s Z H _ I hw) λv s1 h1=>thn h1 λu s2 h2=>thn h2 λc g ⟨x,H1,e,f,q1⟩=>?_) h1;obtain⟨d,rfl,q⟩:=q1;cases f;exact gW ⟨H1,e,q⟩
theorem jj{e:Expr}{t:TE}(h:PE X e t)(he:∀whole,isTrue e X.env whole=(do let v <-whole;standAt e.pos;holding [v] (truthy v)):=by intro _;rfl):PT X e (tB t):=by intro Nw s Z H Q I hw;show isTrue_plain (thn (h Nw s Z H _ I hw) λv s1 ⟨x,H1,I1,r1,q1⟩=>?_) (he _);obtain⟨d,rfl,q⟩:=q1;cases r1;show gW ⟨H1,I1,q⟩
variable {tA tB':TT}{rest:List Expr}
def JN(u:TT)(Z:St)(Q:Bool->Hp->Prop):Bool->Hp->Prop:=λc H1=>if c=true then u Z H1 Q else Q false H1
def uh(t u:TT):TT:=λZ H Q=>t Z H (JN u Z Q)
def tOrK(u:TT)(Z:St)(Q:Bool->Hp->Prop):Bool->Hp->Prop:=λc H1=>if c=true then Q true H1 else u Z H1 Q
def tOr(t u:TT):TT:=λZ H Q=>t Z H (tOrK u Z Q)
def pG(Q:Bool->Hp->Prop):Bool->Hp->Prop:=λc H1=>Q (!c) H1
def tNot(t:TT):TT:=λZ H Q=>t Z H (pG Q)
theorem eK(ha:PT X a tA):PW X (.BoolOp .And [a] pos) tA:=by
 intro b Nw s Z H Q I h;show isTrue_and (thn (ha Nw s Z H Q I h) λc s1 e=>?_);cases c with
 |true=>show isTrue_and_nil e
 |false=>show e
theorem j6(ha:PT X a tA):PW X (.BoolOp .Or [a] pos) tA:=by
 intro b Nw s Z H Q I h;show isTrue_or (thn (ha Nw s Z H Q I h) λc s1 e=>?_);cases c with
 |false=>show isTrue_or_nil e
 |true=>show e
theorem dR(ha:PT X a tA)(e:PW X (.BoolOp .And (b::rest) pos) tB'):PW X (.BoolOp .And (a::b::rest) pos) (uh tA tB'):=by
 intro f Nw s Z H Q I h;show isTrue_and (thn (ha Nw s Z H _ I h) λc s1 ⟨H1,d,q1⟩=>?_);cases c with
 |true=>show e f Nw s1 Z H1 Q d q1
 |false=>show⟨H1,d,q1⟩
theorem km(ha:PT X a tA)(e:PW X (.BoolOp .Or (b::rest) pos) tB'):PW X (.BoolOp .Or (a::b::rest) pos) (tOr tA tB'):=by
 intro f Nw s Z H Q I h;show isTrue_or (thn (ha Nw s Z H _ I h) λc s1 ⟨H1,d,q1⟩=>?_);cases c with
 |true=>show⟨H1,d,q1⟩
 |false=>show e f Nw s1 Z H1 Q d q1
theorem tI(ha:PT X a tA):PT X (.UnaryOp .Not a pos) (tNot tA):=by intro Nw s Z H Q I h;show isTrue_not (ha Nw s Z H (λc H1=>Q (!c) H1) I h)
def Af(ta tb:TE):TE:=λZ H Q=>ta Z H λx H1=>∃c,x=.bl c/\if c=true then tb Z H1 Q else Q (.bl false) H1
def Jr(tb:TE)(Z:St)(Q:VK)(x:V)(H1:Hp)(c:Bool):Prop:=x=.bl c/\if c=true then Q (.bl true) H1 else tb Z H1 Q
def Jq(tb:TE)(Z:St)(Q:VK):VK:=λx H1=>Exists (Jr tb Z Q x H1)
def tOrV(ta tb:TE):TE:=λZ H Q=>ta Z H (Jq tb Z Q)
theorem tN{op}{t:TE}(h:PE X a t):PE X (.BoolOp op [a] pos) t:=λNw s Z H Q I hw=>BoolOp_one (h Nw s Z H Q I hw)
theorem zK(ha:PE X a ta)(e:PE X (.BoolOp .And (b::rest) pos) tb):PE X (.BoolOp .And (a::b::rest) pos) (Af ta tb):=by
 intro Nw s Z H Q I h;show BoolOp_and (thn (ha Nw s Z H _ I h) λv s1 ⟨x,H1,d,f,q1⟩=>?_);obtain⟨c,rfl,q1⟩:=q1;cases f;show gW ?_;cases c with
 |true=>show e Nw s1 Z H1 Q d q1
 |false=>show⟨.bl false,H1,d,rfl,q1⟩
theorem J8(ha:PE X a ta)(e:PE X (.BoolOp .Or (b::rest) pos) tb):PE X (.BoolOp .Or (a::b::rest) pos) (tOrV ta tb):=by
 intro Nw s Z H Q I h;show BoolOp_or (thn (ha Nw s Z H _ I h) λv s1 ⟨x,H1,d,f,q1⟩=>?_);obtain⟨c,rfl,q1⟩:=q1;cases f;show gW ?_;cases c with
 |false=>show e Nw s1 Z H1 Q d q1
 |true=>show⟨.bl true,H1,d,rfl,q1⟩
end
end L2
namespace L2
open PySem PySem.Spec PyProof.Rows
def SqL(K:W.Frag)(H:Hp)(a:Addr)(xs:List V):Prop:=
 Rd H a (.lst xs) \/
  ∃(o:Obj)(b:Array Value)(n:Nat),K.lookup a=some o/\o.cls=.type "list"/\o.dict=none/\o.data=.seq b n/\b.size<=sizeLine/\Vals xs b.toList
def SqT(K:W.Frag)(H:Hp)(a:Addr)(xs:List V):Prop:=
 Rd H a (.tup xs) \/
  ∃(o:Obj)(b:Array Value)(n:Nat),K.lookup a=some o/\o.cls=.type "tuple"/\o.data=.seq b n/\b.size<=sizeLine/\Vals xs b.toList
def absV:Value->Option V
 |.none=>some .non
 |.bool b=>some (.bl b)
 |.int i _=>some (.int i)
 |.str x _=>some (.str x)
 |.bytes b _=>some (.byt b)
 |.float b _=>some (.flt b)
 |.ref a=>some (.ref a)
 |.type n=>some (.ty n)
 |_=>none
theorem aD.abs{x:V}{u:Value}(r:aD x u):absV u=some x:=by
 cases x with
 |non=>cases r;rfl
 |bl _=>cases r;rfl
 |int _=>obtain⟨t,rfl⟩:=r;rfl
 |str _=>obtain⟨t,rfl⟩:=r;rfl
 |byt _=>obtain⟨t,rfl⟩:=r;rfl
 |flt _=>obtain⟨t,rfl⟩:=r;rfl
 |ref _=>cases r;rfl
 |ty _=>cases r;rfl
theorem aD.inj{x y:V}{u:Value}(r:aD x u)(q:aD y u):x=y:=cy (r.abs.symm.trans q.abs)
theorem Vals.inj{xs ys:List V}(h:Vals xs us)(h':Vals ys us):xs=ys:=by
 induction h generalizing ys with
 |nil=>cases h';rfl
 |cons r t a=>cases h' with
  |cons b t'=>rw[r.inj b,a t']
section
variable {a:Addr}{xs ys:List V}
theorem SqL.of(h:H a=some (.lst xs)):SqL K H a xs:=.inl (.inl h)
theorem SqT.of(h:H a=some (.tup xs)):SqT K H a xs:=.inl (.inl h)
theorem Inv.list(I:Inv X Nw Z H s)(h:SqL [] H a xs):∃b:List Value,Vals xs b/\PlainL s.heap a b.toArray/\xs.length<=sizeLine:=by
 rcases h with h|⟨o,b,n,c,d,hd,f,hz,r⟩
 .obtain⟨z,b,n,r,e⟩:=h.ok I.hok;show⟨b,r,⟨_,n,e,rfl,rfl,rfl⟩,z⟩
 cases c
theorem Inv.tuple(I:Inv X Nw Z H s)(h:SqT [] H a xs):∃b:List Value,Vals xs b/\IsTup s.heap a b.toArray/\xs.length<=sizeLine:=by
 rcases h with h|⟨o,b,n,c,d,e,hz,r⟩
 .obtain⟨⟨z,_⟩,b,r,p⟩:=h.ok I.hok;show⟨b,r,p,z⟩
 cases c
theorem Inv.list_inj(I:Inv X Nw Z H s)(h:SqL [] H a xs)(h':SqL [] H a ys):xs=ys:=by
 obtain⟨c,r,⟨o,n,e,_,_,d⟩,_⟩:=I.list h;obtain⟨its',f,⟨o',n',b,_,_,d'⟩,_⟩:=I.list h';rw[e] at b;cases b;rw[d] at d';injection d' with g _;have:c=its':=‹congrArg Array.toList g›
 subst this;show r.inj f
theorem Inv.tuple_inj(I:Inv X Nw Z H s)(h:SqT [] H a xs)(h':SqT [] H a ys):xs=ys:=by
 obtain⟨c,r,⟨o,e,_,n,d⟩,_⟩:=I.tuple h;obtain⟨its',f,⟨o',b,_,n',d'⟩,_⟩:=I.tuple h';rw[e] at b;cases b;rw[d] at d';injection d' with g _;have:c=its':=‹congrArg Array.toList g›
 subst this;show r.inj f
end
abbrev Cx.wish(X:Cx)(E:Value->Shared->Prop):Cx:={X with xe:=E}
abbrev Cx.nox(X:Cx):Cx:=X.wish λ_ _=>False
theorem Cx.Ok.wish(ok:X.Ok)(E:Value->Shared->Prop):(X.wish E).Ok:=
 ⟨ok.mod,ok.kind,ok.glob,ok.blt,ok.above,ok.inj,ok.has,ok.cab,ok.hd,ok.frames,ok.stk,ok.exf,ok.bs,ok.bsz,ok.noex,ok.exfs,ok.funs,ok.frf⟩
theorem Cx.Ok.unwish(ok:(X.wish E).Ok):X.Ok:=
 ⟨ok.mod,ok.kind,ok.glob,ok.blt,ok.above,ok.inj,ok.has,ok.cab,ok.hd,ok.frames,ok.stk,ok.exf,ok.bs,ok.bsz,ok.noex,ok.exfs,ok.funs,ok.frf⟩
section
theorem Inv.wish(I:Inv X Nw Z H s)(E:Value->Shared->Prop):Inv (X.wish E) Nw Z H s:=⟨I.ok.wish E,I.os,I.bare,I.base,I.loc,I.cell,I.free,I.freeC,I.pin,I.hok,I.len⟩
theorem Inv.unwish(I:Inv (X.wish E) Nw Z H s):Inv X Nw Z H s:=⟨I.ok.unwish,I.os,I.bare,I.base,I.loc,I.cell,I.free,I.freeC,I.pin,I.hok,I.len⟩
theorem SP.unwish{D:Ends}{f:Flow}{s':Shared}(h:SP (X.wish E) Nw D f s'):SP X Nw D f s':=by
 cases f with
 |next=>obtain⟨Z',H',I,q⟩:=h;show⟨Z',H',I.unwish,q⟩
 |brk=>obtain⟨Z',H',I,q⟩:=h;show⟨Z',H',I.unwish,q⟩
 |cont=>obtain⟨Z',H',I,q⟩:=h;show⟨Z',H',I.unwish,q⟩
 |ret u=>obtain⟨v,Z',H',I,r,q⟩:=h;show⟨v,Z',H',I.unwish,r,q⟩
theorem PSs.nox{st:List Stmt}{t:TS}(h:PSs X.nox st t):PSs X st t:=λNw s Z H D I hw=>
 fk (h Nw s Z H D (I.wish _) hw) (λ_ _ q=>q.unwish) λ_ _ z=>False.elim z
end
section
variable {st:Stmt}{rest:List Stmt}{t u:TS}{e:Expr}{te:TE}{pos:Pos}
def Js:TS:=λD Z H=>D.nx Z H
def ub(t u:TS):TS:=λD Z H=>t {D with nx:=u D} Z H
theorem a8:PSs X [] Js:=λ_ _ Z H _ I h=>vg ⟨Z,H,I,h⟩
theorem af(h1:PS X st t)(h2:PSs X rest u):PSs X (st::rest) (ub t u):=by
 intro Nw s Z H D I h;show Mg (thn (h1 Nw s Z H {D with nx:=u D} I h) λf s1 q=>?_);cases f with
 |next=>
  obtain⟨Z',H',a,q⟩:=q;show h2 Nw s1 Z' H' D a q
 |ret v=>show q
 |brk=>show q
 |cont=>show q
theorem aj(h1:PS X st t):PSs X [st] t:=by
 intro Nw s Z H D I h;show Mg (thn (h1 Nw s Z H D I h) λf s1 q=>?_);cases f with
 |next=>show vg q
 |ret v=>show q
 |brk=>show q
 |cont=>show q
def HF:TS:=λD Z H=>D.bk Z H
def JL:TS:=λD Z H=>D.ct Z H
theorem D_:PS X (.Break pos) HF:=λ_ _ Z H _ I h=>wpAny_Break ⟨Z,H,I,h⟩
theorem BD:PS X (.Continue pos) JL:=λ_ _ Z H _ I h=>wpAny_Continue ⟨Z,H,I,h⟩
theorem Inv.quiet(I:Inv X Nw Z H s):interactive X.env=false:=by simp[interactive,I.ok.kind]
def Hm(D:Ends)(Z:St):VK:=λ_ H1=>D.nx Z H1
def Jx(te:TE):TS:=λD Z H=>te Z H (Hm D Z)
theorem bU(he:PE X e te)(a:swapsWith e none pos.line X.env=pure false:=by rfl):PS X (.Expr e pos) (Jx te):=by intro Nw s Z H D I h;show wpAny_Expr_any (thn (he Nw s Z H _ I h) λv s1 ⟨x,H1,b,c,q1⟩=>⟨Z,H1,b,q1⟩) I.quiet a
def tRet(te:TE):TS:=λD Z H=>te Z H D.rt
theorem aU(he:PE X e te):PS X (.Return (some e) pos) (tRet te):=by intro Nw s Z H D I h;show wpAny_Return_some (thn (he Nw s Z H _ I h) λv s1 ⟨x,H1,a,b,q1⟩=>⟨x,Z,H1,a,b,q1⟩)
def tIfK(t u:TS)(D:Ends)(Z:St):Bool->Hp->Prop:=λb H1=>if b=true then t D Z H1 else u D Z H1
def ng(c:TT)(t u:TS):TS:=λD Z H=>c Z H (tIfK t u D Z)
theorem aY{c:Expr}{a b:List Stmt}{tc:TT}(f:PT X c tc)(ha:PSs X a t)(g:PSs X b u):PS X (.If c a b pos) (ng tc t u):=by
 intro Nw s Z H D I h;show wpAny_If (thn (f Nw s Z H _ I h) λd s1 ⟨H1,e,q1⟩=>?_);cases d with
 |true=>show ha Nw s1 Z H1 D e q1
 |false=>show g Nw s1 Z H1 D e q1
def Hl:TS:=λ_ _ _=>False
theorem iy{a:List Stmt}:PSs X a Hl:=λ_ _ _ _ _ _ h=>h.elim
end
abbrev TG:=V->St->Hp->(St->Hp->Prop)->Prop
abbrev TGs:=List V->St->Hp->(St->Hp->Prop)->Prop
def PG(X:Cx)(target:Expr)(t:TG):Prop:=
 ∀(Nw:List (Addr×Obj))(s:Shared)(Z:St)(H:Hp)(v:V)(u:Value)(Q:St->Hp->Prop),Inv X Nw Z H s->aD v u->t v Z H Q->
  wpAny ⇑X X.A (assign target X.env u) (λ_ s'=>∃Z' H',Inv X Nw Z' H' s'/\Q Z' H') X.xe s
def PGs(X:Cx)(ts:List Expr)(t:TGs):Prop:=
 ∀(Nw:List (Addr×Obj))(s:Shared)(Z:St)(H:Hp)(vs:List V)(us:List Value)(Q:St->Hp->Prop),Inv X Nw Z H s->Vals vs us->t vs Z H Q->
  wpAny ⇑X X.A (assignInOrder ((assignEach ts X.env).map (·.2)) us) (λ_ s'=>∃Z' H',Inv X Nw Z' H' s'/\Q Z' H') X.xe s
abbrev TSet:=V->V->V->Hp->(Hp->Prop)->Prop
def PSet(X:Cx)(t:TSet):Prop:=
 ∀(Nw:List (Addr×Obj))(s:Shared)(Z:St)(H:Hp)(o i v:V)(a b u:Value)(Q:Hp->Prop),Inv X Nw Z H s->aD o a->aD i b->aD v u->t o i v H Q->
  wpAny ⇑X X.A (setItem a b u) (λ_ s'=>∃H',Inv X Nw Z H' s'/\Q H') X.xe s
section
variable {pos:Pos}
def c7(i:Nat):TG:=λv Z H Q=>Q (Z.set i (some v)) H
theorem FM{i:Nat}{x:Str}(a:X.N.Nodup)(hi:X.N[i]?=some x)(b:Loc X.env.scope x)(hf:X.fn x=true\/X.env.scope.names.lookup x=some .local:=by first|exact .inl rfl|exact .inr rfl|assumption):PG X (.Name x pos) (c7 i):=by intro Nw s Z H v u Q I r h;exact Me (wY I a hi b r (λs' c=>⟨_,H,c,h⟩) hf)
theorem gx(i:Nat){x:Str}(a:X.N.Nodup)(hi:X.N[i]?=some x:=by rfl)(b:Loc X.env.scope x:=by first|exact .inl rfl|exact .inr rfl)(hf:X.fn x=true\/X.env.scope.names.lookup x=some .local:=by first|exact .inl rfl|exact .inr rfl|assumption):PG X (.Name x pos) (c7 i):=FM a hi b hf
def nq:TGs:=λvs Z H Q=>vs=[]/\Q Z H
def IV(u:TGs)(r:List V)(Q:St->Hp->Prop):St->Hp->Prop:=λZ' H'=>u r Z' H' Q
def IW(t:TG)(u:TGs)(vs:List V)(Z:St)(H:Hp)(Q:St->Hp->Prop)(v:V)(r:List V):Prop:=vs=v::r/\t v Z H (IV u r Q)
def ib(t:TG)(u:TGs):TGs:=λvs Z H Q=>Exists (Ex2 (IW t u vs Z H Q))
theorem dD:PGs X [] nq:=by intro Nw s Z H vs us Q I r h;obtain⟨e,h⟩:=h;subst e;cases r;show assignInOrder_nil ⟨Z,H,I,h⟩
theorem bL{e:Expr}{es:List Expr}{t:TG}{u:TGs}(h1:PG X e t)(h2:PGs X es u)
  (a:(assignEach (e::es) X.env).map (·.2)=assign e X.env::(assignEach es X.env).map (·.2):=by rfl):PGs X (e::es) (ib t u):=by
 intro Nw s Z H vs us Q I r h;obtain⟨v,g,b,h⟩:=h;subst b;cases r with
 |cons r c=>
  rw[a];show assignInOrder_cons (thn (h1 Nw s Z H _ _ _ I r h) λ_ s1 ⟨d,H1,f,q1⟩=>?_);show h2 Nw s1 d H1 _ _ Q f c q1
def Kk(K:W.Frag)(n:Nat)(t:TGs)(v:V)(Z:St)(H:Hp)(Q:St->Hp->Prop)(a:Addr)(xs:List V):Prop:=v=.ref a/\SqT K H a xs/\xs.length=n/\t xs Z H Q
def nk(K:W.Frag)(n:Nat)(t:TGs):TG:=λv Z H Q=>Exists (Ex2 (Kk K n t v Z H Q))
theorem eN{es:List Expr}{k:Nat}{t:TGs}(d:X.calm=true)(h:PGs X es t)
  (f:(assignEach es X.env).length=es.length:=by rfl) (g:(assignEach es X.env).findIdx? (·.1)=none:=by rfl):PG X (.Tuple es k pos) (nk [] es.length t):=by
 intro Nw s Z H v u Q I r hw;obtain⟨a,xs,i,j,l,hw⟩:=hw;subst i;cases r;obtain⟨q,c,m,hz⟩:=I.tuple j;show assign_Tuple_tuple (I.ok.hd d) m (by simp[f,<-l,c.length]) g λh' n=>?_;have p:Inv X Nw Z H {s with heap:=h'}:=I.kept (t':=s.toks) λb o e=>n b o (b_ (aN e)) e;show h Nw _ Z H xs _ Q p ‹c› hw
def Kl(t:TSet)(o v:V)(Z:St)(Q:St->Hp->Prop):VK:=λi H2=>t o i v H2 (Q Z)
def Km(a:TE)(t:TSet)(v:V)(Z:St)(Q:St->Hp->Prop):VK:=λo H1=>a Z H1 (Kl t o v Z Q)
def gSub(to a:TE)(t:TSet):TG:=λv Z H Q=>to Z H (Km a t v Z Q)
theorem pf{o i:Expr}{to ti:TE}{t:TSet}(ho:PE X o to)(hi:PE X i ti)(hs:PSet X t)
  (ha:∀v,assign (.Subscript o i pos) X.env v=(do
   let ov <-holding [v] (eval o X.env)
   let iv <-holding [v,ov] (eval i X.env)
   standAt pos
   holding [v,ov,iv] (setItem ov iv v)
   release [v,ov,iv] []):=by intro _;rfl):PG X (.Subscript o i pos) (gSub to ti t):=by
 intro Nw s Z H v u Q I r h;rw[ha];show ag (fj (thn (ho Nw s Z H _ I h) λov s1 ⟨x,H1,I1,r1,q1⟩=>?_));show ag (fj (thn (hi Nw s1 Z H1 _ I1 q1) λiv s2 ⟨y,H2,I2,r2,q2⟩=>?_));show ag (vp (ag (fj (thn (hs Nw s2 Z H2 x y v ov iv u _ I2 r1 r2 r q2) λ_ s3 ⟨H3,I3,q3⟩=>?_))));show wpAny_release ⟨Z,H3,I3,q3⟩
def mW(g:TG)(D:Ends)(Z:St):VK:=λx H1=>g x Z H1 D.nx
def ni(te:TE)(g:TG):TS:=λD Z H=>te Z H (mW g D Z)
theorem gr{tg e:Expr}{te:TE}{g:TG}(he:PE X e te)(a:PG X tg g)(b:swapsWithSole [tg] e pos.line X.env=pure false:=by rfl)(hw:swappedStores [tg] e X.env=pure none:=by rfl)
  (h1:(assignEach [tg] X.env).map (·.2)=[assign tg X.env]:=by rfl):PS X (.Assign [tg] e pos) (ni te g):=by
 intro Nw s Z H D I h;show wpAny_Assign_stores (thn (he Nw s Z H _ I h) λv s1 ⟨x,H1,c,d,q1⟩=>?_) b hw;rw[h1];show thn (a Nw s1 Z H1 x v _ c d q1) λ_ s2 q=>q
theorem tJ{i:Nat}{x:Str}{e:Expr}{te:TE}{pos':Pos}(a:X.N.Nodup)(hi:X.N[i]?=some x)(b:Loc X.env.scope x)(he:PE X e te)(c:swapsWith e (some (.Name x pos')) pos.line X.env=pure false:=by rfl)(hf:X.fn x=true\/X.env.scope.names.lookup x=some .local:=by first|exact .inl rfl|exact .inr rfl|assumption) :
  PS X (.Assign [.Name x pos'] e pos) (ni te (c7 i)):=by
 intro Nw s Z H D I h;show wpAny_Assign_Name (thn (he Nw s Z H _ I h) λv s1 ⟨y,H1,d,f,q1⟩=>?_) c;show wY d a hi b f (λs2 g=>⟨_,H1,g,q1⟩) hf
theorem sx(i:Nat){x:Str}{e:Expr}{te:TE}{pos':Pos}(a:X.N.Nodup)(he:PE X e te)(hi:X.N[i]?=some x:=by rfl)(b:Loc X.env.scope x:=by first|exact .inl rfl|exact .inr rfl)(c:swapsWith e (some (.Name x pos')) pos.line X.env=pure false:=by rfl)(hf:X.fn x=true\/X.env.scope.names.lookup x=some .local:=by first|exact .inl rfl|exact .inr rfl|assumption):PS X (.Assign [.Name x pos'] e pos) (ni te (c7 i)):=tJ a hi b he c hf
end
section
variable {pos:Pos}
def tWhN(tb:TS)(D:Ends)(W:Nat->St->Hp->Prop)(m:Nat)(Z:St)(H1:Hp)(N:St->Hp->Prop):Prop:=(∀Z' H',N Z' H'->∃a,a<m/\W a Z' H')/\tb {D with nx:=N,ct:=N,bk:=D.nx} Z H1
def tWhK(tb:TS)(D:Ends)(W:Nat->St->Hp->Prop)(m:Nat)(Z:St):Bool->Hp->Prop:=λb H1=>if b=true then Exists (tWhN tb D W m Z H1) else D.nx Z H1
def tWhB(c:TT)(tb:TS)(D:Ends)(Z:St)(H:Hp)(W:Nat->St->Hp->Prop):Prop:=(∃m,W m Z H)/\∀m Z H,W m Z H->c Z H (tWhK tb D W m Z)
def tm(c:TT)(tb:TS):TS:=λD Z H=>Exists (tWhB c tb D Z H)
theorem i_{c:Expr}{body:List Stmt}{tc:TT}{tb:TS}(p:PassesOwn ⇑X X.A X.env X.xe)(u:PT X c tc)(x:PSs X body tb):PS X (.While c body [] pos) (tm tc tb):=by
 intro Nw s Z H D I h;obtain⟨W,⟨y,z⟩,turn⟩:=h;show wpAny_While (codeAny_whileLoop (λn s'=>∃Z' H',Inv X Nw Z' H' s'/\W n Z' H') ?_ y ⟨Z,H,I,z⟩);rintro n s1 ⟨e,H1,B,C⟩;show kP p (thn (u Nw s1 e H1 _ B (turn n e H1 C)) λb s2 ⟨H2,q,g⟩=>?_);cases b with
 |true=>
  obtain⟨N,r,g⟩:=g;rw[Nq rfl];show kP p (thn (x Nw s2 e H2 _ q g) λf E i=>?_);cases f with
  |next=>
   obtain⟨a,d,j,l⟩:=i;obtain⟨m,hm,o⟩:=r a d l;show⟨m,hm,a,d,j,o⟩
  |cont=>
   obtain⟨a,d,j,l⟩:=i;obtain⟨m,hm,o⟩:=r a d l;show⟨m,hm,a,d,j,o⟩
  |brk=>show i
  |ret v=>show i
 |false=>
  rw[Np bX];show vg ⟨e,H2,q,g⟩
end
structure It where
 go:Nat->Hp->Prop
 yld:Nat->Hp->V->Hp->Prop
 stop:Nat->Hp->Prop
def dM(X:Cx)(Nw:List (Addr×Obj))(H:Hp)(b:Addr):Prop:=
 H b=none/\b≠X.env.locals/\b∉X.fs/\(b∈X.ex\/X.s₀.heap.objs.size<=b)/\(∀x c,X.env.cells.lookup x=some c->c≠b)/\∀p∈X.pn++Nw,p.1≠b
theorem Inv.fpOk{b:Addr}(I:Inv X Nw Z H s)(a:↥s<=b)(d:H' b=none):dM X Nw H' b:=by
 show⟨d,fZ (cp I.lt a),I.nofs a,.inr (cC I.sz a),λx c e z=>?_,λp f z=>?_⟩
 .obtain⟨v,q⟩:=I.cell x c e;show absurd (cp q.lt (by rw[z];show a)) (fh _)
 show absurd (cp (aN (I.pin p f).1) (by rw[z];show a)) (fh _)
structure Turn(P:Program)(w:World)(K:W.Frag)(tg:Expr)(J:It)(fp:List Addr)(it:Addr)(tn:Nat->Heap->Prop):Prop where
 mem:it∈fp
 obj:∀i h,tn i h->∀b∈fp,∃o,h.get? b=some o/\∀v,o.data≠.cell v
 keep:∀i h h',tn i h->(∀b∈fp,∀o,h.get? b=some o->h'.get? b=some o)->tn i h'
 item:∀(X:Cx),X.prog=P->X.w=w->X.K=K->X.calm=true->∀(i:Nat)(Nw:List (Addr×Obj))(s:Shared)(Z:St)(H:Hp)(E:Value->Shared->Prop),Inv X Nw Z H s->(∀b∈fp,dM X Nw H b)->tn i s.heap->J.go i H->
  wpAny (model P w) X.A (pyNext (.ref it)) (λr s1=>∃u,r=some u/\
   wpAny (model P w) X.A (letOwnedTupleGo tg (.ref it) u) (λ_ s2=>∃x H',Inv X Nw Z H' s2/\aD x u/\J.yld i H x H'/\tn (i+1) s2.heap/\∀b∈fp,H' b=none) E s1) E s
 done:∀(X:Cx),X.prog=P->X.w=w->X.K=K->X.calm=true->∀(i:Nat)(Nw:List (Addr×Obj))(s:Shared)(Z:St)(H:Hp)(E:Value->Shared->Prop),Inv X Nw Z H s->(∀b∈fp,dM X Nw H b)->tn i s.heap->J.stop i H->
  wpAny (model P w) X.A (pyNext (.ref it)) (λr s1=>r=none/\Inv X Nw Z H s1) E s
 self:∀(A:Around)(i:Nat)(s:Shared)(Q:Value->Shared->Prop)(E:Value->Shared->Prop),tn i s.heap->Q (.ref it) s->wpAny (model P w) A (pyIter (.ref it)) Q E s
abbrev TI:=St->Hp->(It->Hp->Prop)->Prop
def PIE(X:Cx)(Nw:List (Addr×Obj))(Z:St)(tg:Expr)(R:It->Hp->Prop)(a:Value)(s2:Shared):Prop:=
 ∃(it:Addr)(fp:List Addr)(tn:Nat->Heap->Prop)(J:It)(H':Hp),a=.ref it/\Inv X Nw Z H' s2/\Turn X.prog X.w X.K tg J fp it tn/\tn 0 s2.heap/\(∀b∈fp,dM X Nw H' b)/\R J H'
def PI(X:Cx)(tg iter:Expr)(wi:TI):Prop:=
 ∀(Nw:List (Addr×Obj))(s:Shared)(Z:St)(H:Hp)(R:It->Hp->Prop),Inv X Nw Z H s->wi Z H R->
  wpAny ⇑X X.A (eval iter X.env) (λv s1=>wpAny ⇑X X.A (pyIter v) (PIE X Nw Z tg R) X.xe s1) X.xe s
theorem pM{M:Model}{tg:Expr}{it:Addr}{u:Value}{o:Obj}{n:String}{vs:Array Value}{Q:Unit->Shared->Prop}(b:s.heap.get? it=some o)(c:o.cls=.type n)(hd:o.data=.fields vs)
  (d:["enumerate","zip","dict_itemiterator","dict_reverseitemiterator","odict_iterator","itertools.zip_longest","itertools.pairwise"].contains n=false) (a:Q .unit s):wpAny M A (letOwnedTupleGo tg (.ref it) u) Q E s:=by
 unfold letOwnedTupleGo;cases tg<;>first
  |show aB a
  |(cases u<;>first
    |show aB a
    |(show ag (wpAny_load b ?_)
      rw[c,hd];change wpAny M A (if (["enumerate","zip","dict_itemiterator","dict_reverseitemiterator","odict_iterator","itertools.zip_longest","itertools.pairwise"].contains n&&vs[0]?==some (rawInt _))=true then _ else _) Q E s;rw[Np (by intro h;rw[d,Bool.false_and] at h;cases h)];show aB a))
def Itl(K:W.Frag)(a:Addr):It:=
 ⟨λi H=>∃xs x,SqL K H a xs/\xs[i]?=some x,λi H x H'=>H'=H/\∀xs,SqL K H a xs->xs[i]?=some x,λi H=>∃xs,SqL K H a xs/\xs.length<=i⟩
def Itt(K:W.Frag)(a:Addr):It:=
 ⟨λi H=>∃xs x,SqT K H a xs/\xs[i]?=some x,λi H x H'=>H'=H/\∀xs,SqT K H a xs->xs[i]?=some x,λi H=>∃xs,SqT K H a xs/\xs.length<=i⟩
def Itr(lo:Int)(n:Nat):It:=⟨λi _=>i<n,λi H x H'=>H'=H/\x=.int (lo+i),λi _=>n<=i⟩
theorem Cw{tg:Expr}(a it:Addr):Turn P w K tg (Itl [] a) [it] it (λi h=>h.IsListIter it a i) where
 mem:=∅
 obj:=λi h st b f=>by
  have e:b=it:=‹f›
  subst e;obtain⟨o,e,c,d⟩:=st;show⟨o,e,λv z=>by rw[d] at z;cases z⟩
 keep:=λi h h' st k=>st.at λo e=>k it ∅ o e
 item:=by intro X j hw l D i Nw s Z H E I hf st m;subst j hw l;obtain⟨xs,x,g,n⟩:=m;obtain⟨M,q,p,hz⟩:=I.list g;obtain⟨u,N,O⟩:=q.get n;obtain⟨r,y,Q,A,B,C⟩:=hf it ∅;show Bl st p.isList (x:=u) ‹N› λh' L sb=>?_;have R:Inv X Nw Z H {s with heap:=h'}:=I.turned (t':=s.toks) (λb o f e=>(sb.2 b f).trans e) r y A B C;obtain⟨o,e,c,d⟩:=id L;show⟨u,rfl,pM (s:={s with heap:=h'}) e c d ⋯ ⟨x,H,R,O,⟨rfl,λys S=>by rw[I.list_inj S g];show n⟩,L,λb f=>(hf b f).1⟩⟩
 done:=by intro X j hw l D i Nw s Z H E I hf st m;subst j hw l;obtain⟨xs,g,n⟩:=m;obtain⟨M,q,p,hz⟩:=I.list g;obtain⟨r,y,Q,A,B,C⟩:=hf it ∅;have T:=q.length;show Bk (I.ok.hd D) st p.isList (by simp;lia) λh' eb=>⟨rfl,I.turned (t':=s.toks) (λb o f e=>eb b o f e) r y A B C⟩
 self:=λ_ _ _ _ _ st h=>wpAny_pyIter_listiter st h
theorem BR{tg:Expr}(a it:Addr):Turn P w K tg (Itt [] a) [it] it (λi h=>h.IsTupleIter it a i) where
 mem:=∅
 obj:=λi h st b f=>by
  have e:b=it:=‹f›
  subst e;obtain⟨o,e,c,d⟩:=st;show⟨o,e,λv z=>by rw[d] at z;cases z⟩
 keep:=λi h h' st k=>st.at λo e=>k it ∅ o e
 item:=by intro X j hw l L i Nw s Z H E I hf st m;subst j hw l;obtain⟨xs,x,g,n⟩:=m;obtain⟨q,r,p,hz⟩:=I.tuple g;obtain⟨u,N,O⟩:=r.get n;obtain⟨y,A,Q,B,C,D⟩:=hf it ∅;show wpAny_pyNext_tuple_item st (show s.heap.IsTuple a q.toArray from p) (x:=u) ‹N› λh' M sb=>?_;have R:Inv X Nw Z H {s with heap:=h'}:=I.turned (t':=s.toks) (λb o f e=>(sb.2 b f).trans e) y A B C D;obtain⟨o,e,c,d⟩:=id M;show⟨u,rfl,pM (s:={s with heap:=h'}) e c d ⋯ ⟨x,H,R,O,⟨rfl,λys S=>by rw[I.tuple_inj S g];show n⟩,M,λb f=>(hf b f).1⟩⟩
 done:=by intro X j hw l L i Nw s Z H E I hf st m;subst j hw l;obtain⟨xs,g,n⟩:=m;obtain⟨q,r,p,hz⟩:=I.tuple g;obtain⟨y,A,Q,B,C,D⟩:=hf it ∅;have T:=r.length;show wpAny_pyNext_tuple_end (I.ok.hd L) st (show s.heap.IsTuple a q.toArray from p) (by simp;lia) λh' eb=>⟨rfl,I.turned (t':=s.toks) (λb o f e=>eb b o f e) y A B C D⟩
 self:=λ_ _ _ _ _ st h=>wpAny_pyIter_tupleiter st h
theorem BS{tg:Expr}(it:Addr)(lo:Int)(n:Nat):Turn P w K tg (Itr lo n) [it] it (λi h=>IsRangeIter h it (lo+(i:Nat)*1) ((n:Int)-(i:Nat)) 1) where
 mem:=∅
 obj:=λi h st b a=>by
  have e:b=it:=‹a›
  subst e;show⟨_,st,λv z=>by
   have u:Data.fields _=Data.cell v:=z;cases u⟩
 keep:=λi h h' st k=>k it ∅ _ st
 item:=by intro X c hw d f i Nw s Z H E I hf st g;subst c hw d;obtain⟨j,l,x,m,p,q⟩:=hf it ∅;have W:=Walks.range (prog:=X.prog) (w:=X.w) (I.ok.hd f) it lo 1 n;show W.item i s _ _ g st λv h' tk y r A=>?_;obtain⟨t,rfl⟩:=y;have B:Inv X Nw Z H {s with heap:=h',toks:=tk}:=I.turned (λb o a e=>A b o ‹a› e) j l m p q;show⟨_,rfl,pM (s:={s with heap:=h',toks:=tk}) (n:="range_iterator") r rfl rfl ⋯ ⟨.int (lo+i),H,B,⟨t,?_⟩,⟨rfl,rfl⟩,r,λb a=>(hf b a).1⟩⟩;rw[Int.mul_one]
 done:=by intro X c hw d f i Nw s Z H E I hf st g;subst c hw d;obtain⟨j,l,x,m,p,q⟩:=hf it ∅;show wpAny_pyNext_range_end (I.ok.hd f) st (by have:n<=i:=g;lia) λh' eb=>⟨rfl,I.turned (t':=s.toks) (λb o a e=>eb b o a e) j l m p q⟩
 self:=λ_ _ _ _ _ st h=>wpAny_pyIter_rangeiter st h
end L2
namespace L2
open PySem PySem.Spec PyProof.Rows
section
variable {tg:Expr}
def IQ(K:W.Frag)(R:It->Hp->Prop)(x:V)(H1:Hp)(a:Addr):Prop:=x=.ref a/\(∃xs,SqL K H1 a xs)/\R (Itl K a) H1
def IP(K:W.Frag)(R:It->Hp->Prop):VK:=λx H1=>Exists (IQ K R x H1)
def Kh(K:W.Frag)(tl:TE):TI:=λZ H R=>tl Z H (IP K R)
def Kf(K:W.Frag)(R:It->Hp->Prop)(x:V)(H1:Hp)(a:Addr):Prop:=x=.ref a/\(∃xs,SqT K H1 a xs)/\R (Itt K a) H1
def Ke(K:W.Frag)(R:It->Hp->Prop):VK:=λx H1=>Exists (Kf K R x H1)
def iTup(K:W.Frag)(tl:TE):TI:=λZ H R=>tl Z H (Ke K R)
theorem cL{l:Expr}{tl:TE}(d:PE X l tl):PI X tg l (Kh [] tl):=by
 intro Nw s Z H R I h;show thn (d Nw s Z H _ I h) λv s1 ⟨x,H1,c,f,q1⟩=>?_;obtain⟨a,e,⟨xs,g⟩,q⟩:=q1;subst e;cases f;obtain⟨j,m,p,hz⟩:=c.list g;show qL p.isList ?_;show⟨↥s1,[↥s1],_,_,H1,rfl,c.kept (t':=s1.toks) λb o e=>bg _ e,Cw a _,⟨_,cw _ rfl,rfl,rfl⟩,λb i=>?_,q⟩;have e:b=↥s1:=‹i›
 subst e;show c.fpOk (ax _) (c.hok.fresh (ax _))
theorem tL{l:Expr}{tl:TE}(d:PE X l tl):PI X tg l (iTup [] tl):=by
 intro Nw s Z H R I h;show thn (d Nw s Z H _ I h) λv s1 ⟨x,H1,c,f,q1⟩=>?_;obtain⟨a,e,⟨xs,g⟩,q⟩:=q1;subst e;cases f;obtain⟨i,m,p,hz⟩:=c.tuple g;show wpAny_pyIter_tuple (show s1.heap.IsTuple a i.toArray from p) ?_;show⟨↥s1,[↥s1],_,_,H1,rfl,c.kept (t':=s1.toks) λb o e=>bg _ e,BR a _,⟨_,cw _ rfl,rfl,rfl⟩,λb j=>?_,q⟩;have e:b=↥s1:=‹j›
 subst e;show c.fpOk (ax _) (c.hok.fresh (ax _))
theorem D2{R:It->Hp->Prop}{lo hi:Int}{t u v:Tok}{tk:Nat}(I:Inv X Nw Z H s)(h1:-(2 ^ 62)<=lo)(h2:lo<2 ^ 62)(c:-(2 ^ 62)<=hi)(d:hi<2 ^ 62)
  (q:R (Itr lo (hi-lo).toNat) H):wpAny ⇑X X.A (pyIter (.ref ↥s)) (PIE X Nw Z tg R) E {s with heap:=s.heap.push {cls:=.type "range",data:=.fields #[.int lo t,.int hi u,.int 1 v]},toks:=tk}:=by
 show wpAny_pyIter_range (IsRange.new ..) (small_one h1 h2 c d) ?_;have a:Inv X Nw Z H {s with heap:=s.heap.push {cls:=.type "range",data:=.fields #[.int lo t,.int hi u,.int 1 v]},toks:=tk}:=I.kept λb o e=>bg _ e;show⟨(s.heap.push {cls:=.type "range",data:=.fields #[.int lo t,.int hi u,.int 1 v]}).objs.size,[(s.heap.push {cls:=.type "range",data:=.fields #[.int lo t,.int hi u,.int 1 v]}).objs.size],_,_,H,rfl,
  a.kept (t':=tk) λb o e=>bg _ e,BS _ lo (hi-lo).toNat,?_,λb f=>?_,q⟩
 .have g:lo+((0:Nat):Int)*1=lo:=∅;have h:(((hi-lo).toNat:Nat):Int)-((0:Nat):Int)=Builtin.Range.rangeSize lo hi 1:=by rw[rangeSize_one];split<;>lia
  change IsRangeIter _ _ (lo+((0:Nat):Int)*1) ((((hi-lo).toNat:Nat):Int)-((0:Nat):Int)) 1;rw[g,h];show cw _ rfl
 have e:b=(s.heap.push {cls:=.type "range",data:=.fields #[.int lo t,.int hi u,.int 1 v]}).objs.size:=‹f›
 subst e;show a.fpOk (ax _) (a.hok.fresh (ax _))
def IM(R:It->Hp->Prop)(vs:List V)(H1:Hp)(j:Int):Prop:=vs=[.int j]/\-(2 ^ 62)<=j/\j<2 ^ 62/\R (Itr 0 j.toNat) H1
def IL(R:It->Hp->Prop):List V->Hp->Prop:=λvs H1=>Exists (IM R vs H1)
def Kg(ta:TA):TI:=λZ H R=>ta Z H (IL R)
theorem i8{a:Expr}{ta:TA}{p pos:Pos}(b:Gl X "range")(hm:X.mg "range" = none)(ha:PA X [a] ta)(c:starEach [a] X.env=[(false,eval a X.env)]:=by rfl):PI X tg (.Call (.Name "range" p) [a] [] pos) (Kg ta):=by
 intro Nw s Z H R I h;show Call_ (fV I b hm boot_range (iX (thn (ha pos Nw s Z H _ I h) λus s1 ⟨vs,H1,d,f,q1⟩=>?_) c rfl));obtain⟨j,e,q1,g,q⟩:=q1;subst e;cases f with
 |cons r i=>
  cases i;obtain⟨t,rfl⟩:=r;show call_range_1 (D2 d () () q1 g ‹q›)
def Ju(J:It)(g:TG)(tb:TS)(D:Ends)(W:Nat->Nat->St->Hp->Prop)(i m:Nat)(Z:St)(H:Hp)(N:St->Hp->Prop):Prop:=(∀Z' H',N Z' H'->∃a,a<m/\W (i+1) a Z' H')/\∀x H',J.yld i H x H'->g x Z H' (tb {D with nx:=N,ct:=N,bk:=D.nx})
def Jw(g:TG)(tb:TS)(D:Ends)(Z:St)(J:It)(H1:Hp)(W:Nat->Nat->St->Hp->Prop):Prop:=(∃m,W 0 m Z H1)/\∀i m Z H,W i m Z H->(J.stop i H/\D.nx Z H)\/(J.go i H/\Exists (Ju J g tb D W i m Z H))
def Jv(g:TG)(tb:TS)(D:Ends)(Z:St):It->Hp->Prop:=λJ H1=>Exists (Jw g tb D Z J H1)
def tFor(wi:TI)(g:TG)(tb:TS):TS:=λD Z H=>wi Z H (Jv g tb D Z)
def mR(fp:List Addr)(h:Heap):List (Addr×Obj):=fp.filterMap λb=>(h.get? b).map λo=>(b,o)
theorem kY{fp:List Addr}{h:Heap}{b:Addr}{o:Obj}(a:b∈fp)(e:h.get? b=some o):(b,o)∈mR fp h:=uI.mpr ⟨b,a,by rw[e];rfl⟩
theorem CU{fp:List Addr}{h:Heap}{p:Addr×Obj}(a:p∈mR fp h):p.1∈fp/\h.get? p.1=some p.2:=by
 obtain⟨b,c,e⟩:=uI.mp a;cases q:h.get? b with
 |none=>rw[q] at e;cases e
 |some o=>
  rw[q] at e;have d:(b,o)=p:=cy e;subst d;show⟨c,q⟩
theorem Inv.pinned{fp:List Addr}(I:Inv X Nw Z H s)(hf:∀b∈fp,dM X Nw H b)(f:∀b∈fp,∃o,s.heap.get? b=some o/\∀v,o.data≠.cell v):Inv X (Nw++mR fp s.heap) Z H s:=
 I.pins_of λp g=>(aw.mp g).elim (λz=>I.pin p (bo _ z)) λz=>by
  obtain⟨a,e⟩:=CU z;obtain⟨h,i,j,_⟩:=hf p.1 a;obtain⟨o,c,d⟩:=f p.1 a;rw[e] at c;cases c;show⟨e,h,i,j,d⟩
theorem Inv.unpinned{Nw a:List (Addr×Obj)}(I:Inv X (Nw++a) Z H s):Inv X Nw Z H s:=I.pins_of λp b=>I.pin p (bo _ (bM _ b))
theorem cY{iter:Expr}{body:List Stmt}{wi:TI}{g:TG}{tb:TS}{pos:Pos}(q:PassesOwn ⇑X X.A X.env X.xe)(M:X.calm=true)(hi:PI X tg iter wi)(hg:PG X tg g)(a:PSs X body tb)
  (hs:∀x,foldedSetIterable iter X.env x=pure x:=by intro _;rfl):PS X (.For tg iter body [] pos) (tFor wi g tb):=by
 intro Nw s Z H D I h;show wpAny_For (thn (hi Nw s Z H _ I h) λv s1 h1=>thn h1 λam s2 h2=>?_) hs;obtain⟨it,fp,tn,J,H2,e,I2,T,ad,O,W,⟨m0,w0⟩,turn⟩:=h2;subst e;have C:∀{H':Hp},(∀b∈fp,H' b=none)->∀b∈fp,dM X Nw H' b:=λhn b a=>⟨hn b a,(O b a).2⟩;show codeAny_forLoop_any (λn s'=>∃i Z' H',Inv X Nw Z' H' s'/\tn i s'.heap/\(∀b∈fp,H' b=none)/\W i n Z' H') ?_ m0 ⟨0,Z,H2,I2,ad,λb a=>(O b a).1,w0⟩;rintro n P ⟨i,y,B,Q,R,S,w3⟩;rcases turn i n y B w3 with ⟨stop,qn⟩|⟨go,N,hN,step⟩
 .refine kP q (thn (T.done X rfl rfl rfl M i Nw P y B X.xe Q (C S) R stop) λr s4 ⟨E,I4⟩=>?_);subst E;show vg ⟨y,B,I4,qn⟩
 show kP q (thn (T.item X rfl rfl rfl M i Nw P y B X.xe Q (C S) R go) λr s4 ⟨u,E,h4⟩=>?_);subst E;show kP q (thn h4 λ_ U ⟨x,Y,I5,r5,y5,K,ah⟩=>?_);have al:=I5.pinned (C ah) (T.obj _ _ K);show kP q (thn (hg _ U y Y x u _ al r5 (step x Y y5)) λ_ s6 ⟨Z6,H6,I6,q6⟩=>?_);show kP q (thn (a _ s6 Z6 H6 _ I6 q6) λf L p=>?_);have again:∀{c:St}{j:Hp},Inv X (Nw++mR fp U.heap) c j L->N c j->∃m,m<n/\∃i Z' H',Inv X Nw Z' H' L/\tn i L.heap/\(∀b∈fp,H' b=none)/\W i m Z' H':=λ{c j} l z=>by
  obtain⟨m',hm,w7⟩:=hN c j z;show⟨m',hm,i+1,c,j,l.unpinned,T.keep _ _ _ K λb a o e=>(l.pin (b,o) (bo _ (bo _ (kY a e)))).1,λb a=>?_,w7⟩;obtain⟨o,e,d⟩:=T.obj _ _ K b a;show (l.pin (b,o) (bo _ (bo _ (kY a e)))).2.1
 cases f with
 |next=>obtain⟨c,j,l,z⟩:=p;show again l z
 |cont=>obtain⟨c,j,l,z⟩:=p;show again l z
 |brk=>obtain⟨c,j,l,p⟩:=p;show⟨c,j,l.unpinned,p⟩
 |ret v=>obtain⟨x7,c,j,l,r7,p⟩:=p;show⟨x7,c,j,l.unpinned,r7,p⟩
end
theorem g_{a:Addr}{g:TG}{tb:TS}{D:Ends}(Pv:Nat->St->Hp->Prop)(d:Pv 0 Z H)(f:∀i Z H,i<=xs.length->Pv i Z H->SqL K H a xs)
  (h:∀i x Z H,xs[i]?=some x->Pv i Z H->g x Z H λσ2 H2=>tb {D with nx:=Pv (i+1),ct:=Pv (i+1),bk:=D.nx} σ2 H2) (hd:∀Z H,Pv xs.length Z H->D.nx Z H) :
  ∃W:Nat->Nat->St->Hp->Prop,(∃m,W 0 m Z H)/\∀i m Z H,W i m Z H->
   ((Itl K a).stop i H/\D.nx Z H)\/((Itl K a).go i H/\∃N:St->Hp->Prop,(∀Z' H',N Z' H'->∃b,b<m/\W (i+1) b Z' H')/\∀x H',(Itl K a).yld i H x H'->g x Z H' λσ2 H2=>tb {D with nx:=N,ct:=N,bk:=D.nx} σ2 H2):=by
 show⟨λi m Z H=>m=xs.length-i/\i<=xs.length/\Pv i Z H,⟨xs.length,∅,aQ _,d⟩,?_⟩;rintro i m Z H ⟨rfl,hi,p⟩;have q:=f i Z H hi p;by_cases c:i<xs.length
 .refine .inr ⟨⟨xs,xs[i],q,by simp[c]⟩,Pv (i+1),λZ' H' p'=>⟨xs.length-(i+1),(),rfl,c,p'⟩,λx H' y=>?_⟩;obtain⟨e,y⟩:=y;subst e;show h i x Z _ (y xs q) p
 have e:i=xs.length:=();subst e;show .inl ⟨⟨xs,q,ax _⟩,hd Z H p⟩
theorem Gg{a:Addr}{g:TG}{tb:TS}{D:Ends}(Pv:Nat->St->Hp->Prop)(d:Pv 0 Z H)(f:∀i Z H,i<=xs.length->Pv i Z H->SqT K H a xs)
  (h:∀i x Z H,xs[i]?=some x->Pv i Z H->g x Z H λσ2 H2=>tb {D with nx:=Pv (i+1),ct:=Pv (i+1),bk:=D.nx} σ2 H2) (hd:∀Z H,Pv xs.length Z H->D.nx Z H) :
  ∃W:Nat->Nat->St->Hp->Prop,(∃m,W 0 m Z H)/\∀i m Z H,W i m Z H->
   ((Itt K a).stop i H/\D.nx Z H)\/((Itt K a).go i H/\∃N:St->Hp->Prop,(∀Z' H',N Z' H'->∃b,b<m/\W (i+1) b Z' H')/\∀x H',(Itt K a).yld i H x H'->g x Z H' λσ2 H2=>tb {D with nx:=N,ct:=N,bk:=D.nx} σ2 H2):=by
 show⟨λi m Z H=>m=xs.length-i/\i<=xs.length/\Pv i Z H,⟨xs.length,∅,aQ _,d⟩,?_⟩;rintro i m Z H ⟨rfl,hi,p⟩;have q:=f i Z H hi p;by_cases c:i<xs.length
 .refine .inr ⟨⟨xs,xs[i],q,by simp[c]⟩,Pv (i+1),λZ' H' p'=>⟨xs.length-(i+1),(),rfl,c,p'⟩,λx H' y=>?_⟩;obtain⟨e,y⟩:=y;subst e;show h i x Z _ (y xs q) p
 have e:i=xs.length:=();subst e;show .inl ⟨⟨xs,q,ax _⟩,hd Z H p⟩
theorem jI{lo:Int}{n:Nat}{g:TG}{tb:TS}{D:Ends}(Pv:Nat->St->Hp->Prop)(c:Pv 0 Z H)
  (d:∀i Z H,i<n->Pv i Z H->g (.int (lo+i)) Z H λσ2 H2=>tb {D with nx:=Pv (i+1),ct:=Pv (i+1),bk:=D.nx} σ2 H2) (hd:∀Z H,Pv n Z H->D.nx Z H) :
  ∃W:Nat->Nat->St->Hp->Prop,(∃m,W 0 m Z H)/\∀i m Z H,W i m Z H->
   ((Itr lo n).stop i H/\D.nx Z H)\/((Itr lo n).go i H/\∃N:St->Hp->Prop,(∀Z' H',N Z' H'->∃b,b<m/\W (i+1) b Z' H')/\∀x H',(Itr lo n).yld i H x H'->g x Z H' λσ2 H2=>tb {D with nx:=N,ct:=N,bk:=D.nx} σ2 H2):=by
 show⟨λi m Z H=>m=n-i/\i<=n/\Pv i Z H,⟨n,∅,aQ _,c⟩,?_⟩;rintro i m Z H ⟨rfl,hi,p⟩;by_cases a:i<n
 .refine .inr ⟨a,Pv (i+1),λZ' H' p'=>⟨n-(i+1),(),rfl,a,p'⟩,λx H' y=>?_⟩;obtain⟨e,y⟩:=y;subst e y;show d i Z _ a p
 have e:i=n:=();subst e;show .inl ⟨ax _,hd Z H p⟩
end L2
namespace L2
open PySem PySem.Spec PyProof.Rows
abbrev R2:=V->V->Hp->VK->Prop
def OpR(X:Cx)(f:Value->Value->Sem Value)(r:R2):Prop:=
 ∀(Nw:List (Addr×Obj))(s:Shared)(Z:St)(H:Hp)(x y:V)(v u:Value)(Q:VK),Inv X Nw Z H s->aD x v->aD y u->r x y H Q->
  wpAny ⇑X X.A (f v u) (EP X Nw Z Q) X.xe s
def UnR(X:Cx)(f:Value->Sem Value)(r:V->Hp->VK->Prop):Prop:=
 ∀(Nw:List (Addr×Obj))(s:Shared)(Z:St)(H:Hp)(x:V)(v:Value)(Q:VK),Inv X Nw Z H s->aD x v->r x H Q->
  wpAny ⇑X X.A (f v) (EP X Nw Z Q) X.xe s
def dI(X:Cx)(f:Value)(r:List V->Hp->VK->Prop):Prop:=
 ∀(Nw:List (Addr×Obj))(s:Shared)(Z:St)(H:Hp)(xs:List V)(us:List Value)(Q:VK),Inv X Nw Z H s->Vals xs us->r xs H Q->
  wpAny ⇑X X.A (call f us) (EP X Nw Z Q) X.xe s
def TruR(X:Cx)(r:V->Hp->(Bool->Hp->Prop)->Prop):Prop:=
 ∀(Nw:List (Addr×Obj))(s:Shared)(Z:St)(H:Hp)(x:V)(v:Value)(Q:Bool->Hp->Prop),Inv X Nw Z H s->aD x v->r x H Q->
  wpAny ⇑X X.A (truthy v) (TP X Nw Z Q) X.xe s
def tOp2(r:R2)(x:V)(Q:VK):VK:=λy H2=>r x y H2 Q
def tOp1(r:R2)(tb:TE)(Z:St)(Q:VK):VK:=λx H1=>tb Z H1 (tOp2 r x Q)
def tOp(r:R2)(ta tb:TE):TE:=λZ H Q=>ta Z H (tOp1 r tb Z Q)
def tUnK(r:V->Hp->VK->Prop)(Q:VK):VK:=λx H1=>r x H1 Q
def tUn(r:V->Hp->VK->Prop)(ta:TE):TE:=λZ H Q=>ta Z H (tUnK r Q)
def rIB(C:Int->Int->Prop)(g:Int->Int->V)(x y:V)(H:Hp)(Q:VK)(i j:Int):Prop:=x=.int i/\y=.int j/\C i j/\Q (g i j) H
def rI(C:Int->Int->Prop)(g:Int->Int->V):R2:=λx y H Q=>Exists (Ex2 (rIB C g x y H Q))
def rI0B(g:Int->Int->V)(x y:V)(H:Hp)(Q:VK)(i j:Int):Prop:=x=.int i/\y=.int j/\Q (g i j) H
def rI0(g:Int->Int->V):R2:=λx y H Q=>Exists (Ex2 (rI0B g x y H Q))
def rUB(g:Int->V)(x:V)(H:Hp)(Q:VK)(i:Int):Prop:=x=.int i/\Q (g i) H
def rU(g:Int->V):V->Hp->VK->Prop:=λx H Q=>Exists (rUB g x H Q)
section
variable {a b c:Expr}{ta tb tc:TE}{pos:Pos}
theorem uk(ha:PE X a ta)(c:PE X b tb){R:V->V->Hp->Prop}(I:Inv X Nw Z H s)
  (h:ta Z H λx H1=>tb Z H1 λy H2=>R x y H2) {Q:Value->Shared->Prop} {f:Value->Value->Sem Value}
  (hf:∀v u s2 x y H2,Inv X Nw Z H2 s2->aD x v->aD y u->R x y H2->wpAny ⇑X X.A (f v u) Q X.xe s2) :
  wpAny ⇑X X.A (eval a X.env) (λv s₁=>wpAny ⇑X X.A (eval b X.env) (λu s₂=>wpAny ⇑X X.A (f v u) Q X.xe s₂) X.xe s₁) X.xe s:=by
 show thn (ha Nw s Z H _ I h) λv s1 ⟨x,H1,d,e,q1⟩=>?_;show thn (c Nw s1 Z H1 _ d q1) λu s2 ⟨y,H2,g,i,j⟩=>?_;show hf v u s2 x y H2 g e i j
theorem au{op:Operator}{r:R2}(c:OpR X (binaryOp op) r)(ha:PE X a ta)(d:PE X b tb):PE X (.BinOp a op b pos) (tOp r ta tb):=by intro Nw s Z H Q I h;show wpAny_BinOp (uk ha d I h λv u s2 x y H2 e f g q=>c Nw s2 Z H2 x y v u Q e f g q)
theorem dg{op:UnaryOp}{r:V->Hp->VK->Prop}(b:UnR X (unaryOp op) r)(ha:PE X a ta):PE X (.UnaryOp op a pos) (tUn r ta):=by intro Nw s Z H Q I h;show UnaryOp_ (thn (ha Nw s Z H _ I h) λv s1 ⟨x,H1,c,d,q1⟩=>b Nw s1 Z H1 x v Q c d q1)
theorem opI{f:Value->Value->Sem Value}{C:Int->Int->Prop}{g:Int->Int->Int}
  (rule:∀(i j:Int)(t u:Tok)(s:Shared)(Q:Value->Shared->Prop)(E:Value->Shared->Prop),C i j->Q (.int (g i j) s.toks) {s with toks:=s.toks+1}->wpAny ⇑X X.A (f (.int i t) (.int j u)) Q E s) :
  OpR X f (rI C λi j=>.int (g i j)):=by
 intro Nw s Z H x y v u Q I a b h;obtain⟨i,j,rfl,rfl,c,q⟩:=h;obtain⟨t,rfl⟩:=a;obtain⟨t',rfl⟩:=b;show rule i j t t' s _ _ c ⟨.int (g i j),H,I.tok _,⟨_,rfl⟩,q⟩
theorem opI0{f:Value->Value->Sem Value}{g:Int->Int->Int}
  (rule:∀(i j:Int)(t u:Tok)(s:Shared)(Q:Value->Shared->Prop)(E:Value->Shared->Prop),Q (.int (g i j) s.toks) {s with toks:=s.toks+1}->wpAny ⇑X X.A (f (.int i t) (.int j u)) Q E s) :
  OpR X f (rI0 λi j=>.int (g i j)):=by
 intro Nw s Z H x y v u Q I a b h;obtain⟨i,j,rfl,rfl,q⟩:=h;obtain⟨t,rfl⟩:=a;obtain⟨t',rfl⟩:=b;show rule i j t t' s _ _ ⟨.int (g i j),H,I.tok _,⟨_,rfl⟩,q⟩
theorem opB0{f:Value->Value->Sem Value}{g:Int->Int->Bool}
  (rule:∀(i j:Int)(t u:Tok)(s:Shared)(Q:Value->Shared->Prop)(E:Value->Shared->Prop),Q (.bool (g i j)) s->wpAny ⇑X X.A (f (.int i t) (.int j u)) Q E s) :
  OpR X f (rI0 λi j=>.bl (g i j)):=by
 intro Nw s Z H x y v u Q I a b h;obtain⟨i,j,rfl,rfl,q⟩:=h;obtain⟨t,rfl⟩:=a;obtain⟨t',rfl⟩:=b;show rule i j t t' s _ _ ⟨.bl (g i j),H,I,rfl,q⟩
def CPow(i j:Int):Prop:=0<=j/\j<=1000000/\i.natAbs<2 ^ 64
def CMul(i j:Int):Prop:=(-(2 ^ 64)<i/\i<2 ^ 64)\/(-(2 ^ 64)<j/\j<2 ^ 64)
theorem CMul.ok{i j:Int}(h:CMul i j):IntMulOk i j:=by
 rcases h with ⟨h1,h2⟩|⟨h1,h2⟩
 .exact .of_left (intBits_le_64 h1 h2)
 show .of_right (intBits_le_64 h1 h2)
theorem bN:OpR X (binaryOp .Add) (rI0 λi j=>.int (i+j)):=opI0 λ_ _ _ _ _ _ _ q=>add_int q
theorem gv:OpR X (binaryOp .Sub) (rI0 λi j=>.int (i-j)):=opI0 λ_ _ _ _ _ _ _ q=>sub_int q
theorem j7:OpR X (binaryOp .Mult) (rI CMul λi j=>.int (i*j)):=opI λ_ _ _ _ _ _ _ a q=>mul_int q a.ok
theorem dH:OpR X (binaryOp .Mod) (rI (λ_ j=>0<j) λi j=>.int (i%j)):=opI λi j _ _ _ _ _ a q=>by
 have h1:(0:Int)<j:=a;show mod_int' () (by rw[Int.fmod_eq_emod_of_nonneg i ()];show q)
theorem Io:OpR X (binaryOp .Pow) (rI CPow λi j=>.int (i ^ j.toNat)):=opI λ_ _ _ _ _ _ _ a q=>pow_int_small a.1 a.2.1 a.2.2 q
theorem unI{f:Value->Sem Value}{g:Int->Int}
  (rule:∀(i:Int)(t:Tok)(s:Shared)(Q:Value->Shared->Prop)(E:Value->Shared->Prop),Q (.int (g i) s.toks) {s with toks:=s.toks+1}->wpAny ⇑X X.A (f (.int i t)) Q E s) :
  UnR X f (rU λi=>.int (g i)):=by
 intro Nw s Z H x v Q I a h;obtain⟨i,rfl,q⟩:=h;obtain⟨t,rfl⟩:=a;show rule i t s _ _ ⟨.int (g i),H,I.tok _,⟨_,rfl⟩,q⟩
theorem da:UnR X (unaryOp .USub) (rU λi=>.int (-i)):=unI λ_ _ _ _ _ q=>neg_int q
end
def scal:V->V->Bool
 |.non,.non=>true | .non,.int _=>true | .int _,.non=>true | .non,.bl _=>true | .bl _,.non=>true | .non,.str _=>true | .str _,.non=>true
 |.int _,.int _=>true | .bl _,.bl _=>true | .str _,.str _=>true | .byt _,.byt _=>true
 |.int _,.str _=>true | .str _,.int _=>true | .bl _,.str _=>true | .str _,.bl _=>true
 |_,_=>false
def rEq:R2:=λx y H Q=>scal x y=true/\Q (.bl (decide (x=y))) H
def rNe:R2:=λx y H Q=>scal x y=true/\Q (.bl (!decide (x=y))) H
theorem y_{i j:Int}:decide (V.int i=V.int j)=(i==j):=by rw[cR];simp
theorem z6{i j:Bool}:decide (V.bl i=V.bl j)=(i==j):=by rw[cR];simp
theorem yY{i j:Str}:decide (V.str i=V.str j)=(i==j):=by rw[cR];simp
theorem za{i j:Array UInt8}:decide (V.byt i=V.byt j)=(i.toList==j.toList):=by rw[cR];cases i;cases j;simp
section
variable {a b c:Expr}{ta tb tc:TE}{pos:Pos}
theorem bW{Q:VK}{k a:Bool}(I:Inv X Nw Z H s)(q:Q (.bl k) H)(e:k=a):EP X Nw Z Q (.bool a) s:=by subst e;show⟨.bl k,H,I,rfl,q⟩
theorem bY:OpR X (compareOp .Eq) rEq:=by
 intro Nw s Z H x y v u Q I c a h;obtain⟨b,q⟩:=h;cases x with
 |non=>
  cases c;cases y with
  |non=>cases a;show MP (bW I q ∅)
  |bl j=>cases a;show MN (bW I q ∅)
  |int j=>obtain⟨t',rfl⟩:=a;show MO (bW I q ∅)
  |str j=>obtain⟨t',rfl⟩:=a;show MQ (bW I q ∅)
  |_=>show absurd (show false=true from b) bX
 |bl i=>
  cases c;cases y with
  |non=>cases a;show ML (bW I q ∅)
  |bl j=>cases a;show eq_bool (bW I q z6)
  |str j=>obtain⟨t',rfl⟩:=a;show MC (bW I q ∅)
  |_=>show absurd (show false=true from b) bX
 |int i=>
  obtain⟨t,rfl⟩:=c;cases y with
  |non=>cases a;show MM (bW I q ∅)
  |int j=>obtain⟨t',rfl⟩:=a;show eq_int (bW I q y_)
  |str j=>obtain⟨t',rfl⟩:=a;show MD (bW I q ∅)
  |_=>show absurd (show false=true from b) bX
 |str i=>
  obtain⟨t,rfl⟩:=c;cases y with
  |non=>cases a;show MR (bW I q ∅)
  |bl j=>cases a;show ME (bW I q ∅)
  |int j=>obtain⟨t',rfl⟩:=a;show MF (bW I q ∅)
  |str j=>obtain⟨t',rfl⟩:=a;show eq_str (bW I q yY)
  |_=>show absurd (show false=true from b) bX
 |byt i=>
  obtain⟨t,rfl⟩:=c;cases y with
  |byt j=>obtain⟨t',rfl⟩:=a;show W.eq_bytes (bW I q za)
  |_=>show absurd (show false=true from b) bX
 |_=>cases y<;>show absurd (show false=true from b) bX
theorem An:OpR X (compareOp .NotEq) rNe:=by
 intro Nw s Z H x y v u Q I c a h;obtain⟨b,q⟩:=h;cases x with
 |non=>
  cases c;cases y with
  |non=>cases a;show MW (bW I q ∅)
  |bl j=>cases a;show MU (bW I q ∅)
  |int j=>obtain⟨t',rfl⟩:=a;show MV (bW I q ∅)
  |str j=>obtain⟨t',rfl⟩:=a;show MX (bW I q ∅)
  |_=>show absurd (show false=true from b) bX
 |bl i=>
  cases c;cases y with
  |non=>cases a;show MS (bW I q ∅)
  |bl j=>cases a;show ne_bool (bW I q (congrArg not z6))
  |str j=>obtain⟨t',rfl⟩:=a;show MG (bW I q ∅)
  |_=>show absurd (show false=true from b) bX
 |int i=>
  obtain⟨t,rfl⟩:=c;cases y with
  |non=>cases a;show MT (bW I q ∅)
  |int j=>obtain⟨t',rfl⟩:=a;show ne_int (bW I q (congrArg not y_))
  |str j=>obtain⟨t',rfl⟩:=a;show MH (bW I q ∅)
  |_=>show absurd (show false=true from b) bX
 |str i=>
  obtain⟨t,rfl⟩:=c;cases y with
  |non=>cases a;show MY (bW I q ∅)
  |bl j=>cases a;show MJ (bW I q ∅)
  |int j=>obtain⟨t',rfl⟩:=a;show MK (bW I q ∅)
  |str j=>obtain⟨t',rfl⟩:=a;show ne_str (bW I q (congrArg not yY))
  |_=>show absurd (show false=true from b) bX
 |byt i=>
  obtain⟨t,rfl⟩:=c;cases y with
  |byt j=>obtain⟨t',rfl⟩:=a;show W.ne_bytes (bW I q (congrArg not za))
  |_=>show absurd (show false=true from b) bX
 |_=>cases y<;>show absurd (show false=true from b) bX
theorem fD:OpR X (compareOp .Lt) (rI0 λi j=>.bl (decide (i<j))):=opB0 λ_ _ _ _ _ _ _ q=>lt_int q
theorem ko:OpR X (compareOp .Gt) (rI0 λi j=>.bl (decide (j<i))):=opB0 λ_ _ _ _ _ _ _ q=>gt_int q
theorem tQ:OpR X (compareOp .Is) (λx y H Q=>y=.non/\Q (.bl (decide (x=.non))) H):=by
 intro Nw s Z H x y v u Q I a b h;obtain⟨rfl,q⟩:=h;cases b;show is_none_gen (bW I q ?_);cases x<;>first
  |(cases a;rfl)
  |(obtain⟨t,rfl⟩:=a;rfl)
theorem yF:OpR X (compareOp .IsNot) (λx y H Q=>y=.non/\Q (.bl (!decide (x=.non))) H):=by
 intro Nw s Z H x y v u Q I a b h;obtain⟨rfl,q⟩:=h;cases b;show isnot_none_gen (bW I q ?_);cases x<;>first
  |(cases a;rfl)
  |(obtain⟨t,rfl⟩:=a;rfl)
theorem nomark(b:Expr){op:CmpOp}(h:op≠.In:=by decide)(h2:op≠.NotIn:=by decide):behindInMarks op b=false:=by
 have a:(op==CmpOp.In)=false:=by cases op<;>first|rfl|show absurd rfl h
 have c:(op==CmpOp.NotIn)=false:=by cases op<;>first|rfl|show absurd rfl h2
 cases b<;>simp[behindInMarks,a,c]
theorem h_{op:CmpOp}{r:R2}(c:OpR X (compareOp op) r)(ha:PE X a ta)(d:PE X b tb)(hm:behindInMarks op b=false):PE X (.Compare a [op] [b] pos) (tOp r ta tb):=by intro Nw s Z H Q I h;show Mc (uk ha d I h λv u s2 x y H2 e f g q=>c Nw s2 Z H2 x y v u Q e f g q) hm
def ki(t:TE):TT:=λZ H Q=>t Z H (tBK Q)
theorem aH{op:CmpOp}{r:R2}(d:OpR X (compareOp op) r)(ha:PE X a ta)(f:PE X b tb)(hm:behindInMarks op b=false):PT X (.Compare a [op] [b] pos) (ki (tOp r ta tb)):=by
 intro Nw s Z H Q I h;show Mj (thn (ha Nw s Z H _ I h) λv s1 ⟨x,H1,g,i,q1⟩=>thn (f Nw s1 Z H1 _ g q1) λu s2 ⟨y,H2,j,l,m⟩=>
  thn (d Nw s2 Z H2 x y v u _ j i l m) λc w ⟨z,n,o,p,k,e,q⟩=>?_) hm
 subst e;cases p;show gW ⟨n,o,q⟩
def TruV(K:W.Frag)(x:V)(H:Hp)(k:Bool):Prop:=
 match x with
 |.non=>k=false
 |.bl b=>k=b
 |.int i=>k=(i != 0)
 |.str y=>y.length<=sizeLine/\k=((y.length:Int) != 0)
 |.byt y=>y.size<=sizeLine/\k=((y.size:Int) != 0)
 |.ref p=>(∃xs,SqL K H p xs/\k=!xs.isEmpty)\/(∃xs,SqT K H p xs/\k=!xs.isEmpty)\/∃kvs,H p=some (.dK kvs)/\k=!kvs.isEmpty
 |_=>False
theorem Cj{κ:Type}{kvs:List (κ×V)}{vs:List (κ×Value)}(r:KV kvs vs):(!vs.isEmpty)=!kvs.isEmpty:=by cases r<;>rfl
theorem vM{a:List Value}(r:Vals xs a):(!a.toArray.isEmpty)=!xs.isEmpty:=by cases r<;>simp
theorem line63:(sizeLine:Nat)<2 ^ 63:=by rw[f_];decide
theorem Hh:TruR X (λx H Q=>∃k,TruV [] x H k/\Q k H):=by
 intro Nw s Z H x v Q I c h;obtain⟨k,e,q⟩:=h;have n:=line63;have o:sizeLine=16777216:=f_;cases x with
 |non=>
  cases c;have a:k=false:=e;subst a;show truthy_none ⟨H,I,q⟩
 |bl b=>
  cases c;have a:k=b:=e;subst a;show gW ⟨H,I,q⟩
 |int i=>
  obtain⟨t,rfl⟩:=c;have a:k=(i != 0):=e;subst a;show PySem.P.truthy_int ⟨H,I,q⟩
 |str y=>
  obtain⟨t,rfl⟩:=c;obtain⟨g,a⟩:y.length<=sizeLine/\k=((y.length:Int) != 0):=e;subst a;show PySem.P.truthy_str () ⟨H,I.tok _,q⟩
 |byt y=>
  obtain⟨t,rfl⟩:=c;obtain⟨g,a⟩:y.size<=sizeLine/\k=((y.size:Int) != 0):=e;subst a;show W.truthy_bytes () ⟨H,I.tok _,q⟩
 |ref p=>
  cases c;have a:(∃xs,SqL [] H p xs/\k=!xs.isEmpty)\/(∃xs,SqT [] H p xs/\k=!xs.isEmpty)\/∃kvs,H p=some (.dK kvs)/\k=!kvs.isEmpty:=e;rcases a with ⟨xs,d,a⟩|⟨xs,d,a⟩|⟨kvs,d,a⟩
  .subst a;obtain⟨j,r,f,hz⟩:=I.list d;have hlen:=r.length;show wpAny_truthy_list f.isList (by simp only[bK];lia) ⟨H,I.tok _,by rw[vM r];show q⟩
  .subst a;obtain⟨j,r,f,hz⟩:=I.tuple d;have hlen:=r.length;show truthy_tuple f (by simp only[bK];lia) ⟨H,I.tok _,by rw[vM r];show q⟩
  subst a;obtain⟨hz,l,vs,r,m⟩:kvs.length<=sizeLine/\(p==sysModules)=false/\∃vs,KV kvs vs/\s.heap.DictOf (di X.prog X.w) p vs:=I.hok p _ d;have hlen:kvs.length=vs.length:=nZ r;show wpAny_truthy_dict l m () ⟨H,I.tok _,by rw[Cj r];show q⟩
 |_=>show (show False from e).elim
theorem D9(ha:PE X a ta)(he:∀whole,isTrue a X.env whole=(do let v <-whole;standAt a.pos;holding [v] (truthy v))) :
  PT X a (λZ H Q=>ta Z H λx H'=>∃k,TruV [] x H' k/\Q k H'):=by
 intro Nw s Z H Q I h;show isTrue_plain (thn (ha Nw s Z H _ I h) λv s1 ⟨x,H1,I1,r1,q1⟩=>Hh Nw s1 Z H1 x v Q I1 r1 q1) (he _)
theorem vals1{x:V}(r:Vals [x] us):∃u,us=[u]/\aD x u:=by
 cases r with
 |cons a b=>cases b;show⟨_,rfl,a⟩
theorem vals2{x y:V}(r:Vals [x,y] us):∃u a,us=[u,a]/\aD x u/\aD y a:=by
 cases r with
 |cons b c=>
  cases c with
  |cons d e=>cases e;show⟨_,_,rfl,b,d⟩
theorem Dk(b:X.calm=true):dI X (.builtin "max") (λxs H Q=>∃i j,xs=[.int i,.int j]/\Q (.int (if j>i then j else i)) H):=by
 intro Nw s Z H xs us Q I r h;obtain⟨i,j,rfl,q⟩:=h;obtain⟨u,c,rfl,⟨t,rfl⟩,⟨t',rfl⟩⟩:=vals2 r;show max_two_ints (I.ok.hd b) λh' tk k=>⟨_,H,I.kept k,?_,q⟩;by_cases a:j>i
 .rw[Nq a,Nq a];show⟨_,rfl⟩
 rw[Np a,Np a];show⟨_,rfl⟩
theorem rj:dI X (.type "int") (λxs H Q=>(∃i,xs=[.int i]/\Q (.int i) H)\/∃k,xs=[.bl k]/\Q (.int (if k then 1 else 0)) H):=by
 intro Nw s Z H xs us Q I r h;rcases h with ⟨i,rfl,q⟩|⟨k,rfl,q⟩
 .obtain⟨u,rfl,t,rfl⟩:=vals1 r;show call_int_int ⟨.int i,H,I,⟨_,rfl⟩,q⟩
 obtain⟨u,rfl,a⟩:=vals1 r;cases a;show call_int_bool ⟨.int (if k then 1 else 0),H,I.tok _,⟨_,rfl⟩,q⟩
end
end L2
namespace L2
open PySem PySem.Spec PyProof.Rows
structure uo(h:Heap)(x dx C:Addr)(mA:Str->Option Value):Prop where
 obj:h.get? x=some (W.instObj C dx)
 ns:h.Ns1 dx mA
 ne:dx≠x
theorem CZ{h:Heap}{dx:Addr}{mA:Str->Option Value}(n:h.Ns1 dx mA):∃b,h.get? dx=some b/\∀name,W.lookIn name b=some (mA name):=by
 obtain⟨o,es,ep,c,hd,d,_,hm⟩:=n;show⟨o,c,λname=>?_⟩;have e:=hm name;unfold nsFind findBy at e;rw[<-Array.find?_toList] at e;unfold W.lookIn;rw[hd];dsimp only
 split
 .rename_i y q;rw[q] at e;show congrArg some e
 rename_i q;rw[q] at e;have a:es.toList.any (·.refKey)=false:=by rw[KS];intro y f;obtain⟨z,t,g⟩:=d y (Array.mem_toList_iff.mp f);simp[DictEntry.refKey,g]
 have i:¬es.toList.any (·.refKey)=true:=by rw[a];show bX
 rw[Np i];show congrArg some e
theorem uo.look{h:Heap}{x dx C:Addr}{mA:Str->Option Value}(I:uo h x dx C mA):∃a,W.InstAt h x (W.instObj C dx) C (some a)/\∀name,W.lookIn name a=some (mA name):=
 let ⟨a,b,c⟩:=CZ I.ns
 ⟨a,⟨I.obj,rfl,rfl,b⟩,c⟩
section
variable {prog:Program}{x dx C f:Addr}{mA:Str->Option Value}{name:Str}{v:Value}
end
theorem eQ.some_of{v:V}{o:Option Value}(r:eQ (some v) o):∃u,o=some u/\aD v u:=by
 cases o with
 |none=>show (show False from r).elim
 |some u=>show⟨u,rfl,r⟩
section
variable {h h':Heap}{a C dx:Addr}{fs fs':List (Str×V)}
theorem F_(hok:HOk P w H h)(e:H a=some (.ins C dx fs)):∃mA,uo h a dx C mA/\(∀f,eQ (fs.lookup f) (mA f))/\PySem.Within mA (fs.map (·.1))/\fs.length<=1000/\H dx=some (.own a):=by obtain⟨d,z,ne,b,mA,n,r,q⟩:=(show bR P w H h a (.ins C dx fs) from hok a _ e);show⟨mA,⟨b,n,ne⟩,r,q,z,d⟩
end
structure Cls(K:W.Frag)(C:Addr):Prop where
 pg:W.plainGet K C Str.empty=true
 hd:W.hasDictIn K C=true
 po:W.plainOver K C=true
 sa:W.findIn K (.ref C) "__setattr__" = some (some (.builtin "object.__setattr__"))
theorem Cls.get{C:Addr}(c:Cls K C)(f:Str):W.plainGet K C f=true:=c.pg
section
variable {a C dx:Addr}{fs:List (Str×V)}{f:Str}{v:V}
end
section
variable {o e value:Expr}{f:Str}{pos pos' tpos:Pos}{ta tv:TE}
end
section
variable {Q:Value->Shared->Prop}{c:Value}{b:Bool}
inductive eY (K:W.Frag) (H:Hp):V->Value->Prop where
 |non:eY K H .non (.type "NoneType")
 |bl (x:Bool):eY K H (.bl x) (.type "bool")
 |int (i:Int):eY K H (.int i) (.type "int")
 |str (x:Str):eY K H (.str x) (.type "str")
 |flt (x:UInt64):eY K H (.flt x) (.type "float")
 |lst {a:Addr} {xs:List V} (e:H a=some (.lst xs)):eY K H (.ref a) (.type "list")
 |frz {a:Addr} {o:Obj} {xs:List V} (e:H a=some (.frz o (.lst xs))):eY K H (.ref a) (.type "list")
 |tup {a:Addr} {xs:List V} (e:H a=some (.tup xs)):eY K H (.ref a) (.type "tuple")
 |dK {a:Addr} {kvs:List (Key×V)} (e:H a=some (.dK kvs)):eY K H (.ref a) (.type "dict")
 |dT {a:Addr} {kvs:List (List Key×V)} (e:H a=some (.dT kvs)):eY K H (.ref a) (.type "dict")
 |ins {a C dx:Addr} {fs:List (Str×V)} (e:H a=some (.ins C dx fs)) (cl:Cls K C) (ha:W.findIn K (.ref C) "__class__" = some (some (.builtin "object.__class__")))
   (hn:W.specialIn K (.builtin "object.__class__") "__get__" = some (some (.builtin "getset_descriptor.__get__"))) (htk:W.takesIn K (.builtin "object.__class__")=some true)
   (hm:W.mroIn K C (.type "object")=some true):eY K H (.ref a) (.ref C)
theorem C3{x:V}{u t:Value}(I:Inv X Nw Z H s)(d:aD x u)(ty:eY X.K H x t)(e:W.kitOne X.K t c=some b)(h:∀tk,Q (.bool b) {s with toks:=tk}) :
  wpAny ⇑X A (call (.builtin "isinstance") [u,c]) Q E s:=by
 cases ty with
 |non=>cases (show u=Value.none from d);show gU W.kitx_none I.kIn True.intro e (λz=>nomatch z) h
 |bl y=>cases (show u=Value.bool y from d);show gU W.kitx_bool I.kIn True.intro e (λz=>nomatch z) h
 |int i=>obtain⟨t,q⟩:=(show ∃t,u=Value.int i t from d);cases q;show gU W.kitx_int I.kIn True.intro e (λz=>nomatch z) h
 |str y=>obtain⟨t,q⟩:=(show ∃t,u=Value.str y t from d);cases q;show gU W.kitx_str I.kIn True.intro e (λz=>nomatch z) h
 |flt y=>obtain⟨t,q⟩:=(show ∃t,u=Value.float y t from d);cases q;show gU W.kitx_float I.kIn True.intro e (λz=>nomatch z) h
 | @lst a xs ea=>
  cases (show u=Value.ref a from d);obtain⟨_,_,n,_,h1⟩:=(show bR X.prog X.w H s.heap a (.lst xs) from I.hok a _ ea);show gU LV I.kIn ⟨_,h1,rfl⟩ e (λz=>nomatch z) h
 | @frz a f xs ea=>
  cases (show u=Value.ref a from d);obtain⟨_,_,_,n,_,h1⟩:=(show bR X.prog X.w H s.heap a (.frz f (.lst xs)) from I.hok a _ ea);show gU LV I.kIn ⟨_,h1,rfl⟩ e (λz=>nomatch z) h
 | @tup a xs ea=>
  cases (show u=Value.ref a from d);obtain⟨_,_,_,p⟩:=(show bR X.prog X.w H s.heap a (.tup xs) from I.hok a _ ea);obtain⟨o,h1,h2,_⟩:=p;show gU W.kitx_tuple I.kIn ⟨o,h1,h2⟩ e (λz=>nomatch z) h
 | @dK a kvs ea=>
  cases (show u=Value.ref a from d);obtain⟨_,_,vs,_,p⟩:=(show bR X.prog X.w H s.heap a (.dK kvs) from I.hok a _ ea);obtain⟨o,es,ep,h1,h2,_⟩:=p;show gU LU I.kIn ⟨o,h1,h2.1⟩ e (λz=>nomatch z) h
 | @dT a kvs ea=>
  cases (show u=Value.ref a from d);obtain⟨_,_,xs,_,o,es,ep,h1,h2,_⟩:=(show bR X.prog X.w H s.heap a (.dT kvs) from I.hok a _ ea);show gU LU I.kIn ⟨o,h1,h2.1⟩ e (λz=>nomatch z) h
 | @ins a C dx fs ea cl ha g j hm=>
  cases (show u=Value.ref a from d);obtain⟨mA,O,_⟩:=F_ I.hok ea;obtain⟨l,J,_⟩:=O.look;show gU (W.kitx_own (cl.get _) cl.hd ha g j hm) I.kIn J e (λz=>nomatch z) h
end
end L2
namespace L2
open PySem PySem.Spec PyProof.Rows
structure Room(k:Nat)(A:Around):Prop where
 hd:A.handled=none
 dp:A.depth+3*k+5<recursionLimit
 un:A.units+16*k+200<cLine
 gu:A.guards=some []
theorem Room.mono{j k:Nat}(r:Room k A)(h:j<=k):Room j A:=⟨r.hd,by have:=r.dp;lia,by have:=r.un;lia,r.gu⟩
theorem Room.deeper{k:Nat}(r:Room (k+1) A)(env:Env):Room k (A.deeper env):=
 ⟨r.hd,by have:=r.dp;change A.depth+1+3*k+5<_;lia,by have:=r.un;change A.units+3+16*k+200<_;lia,r.gu⟩
theorem Room.depth{k:Nat}(r:Room k A):A.depth<recursionLimit:=by have:=r.dp;lia
theorem Room.units{k:Nat}(r:Room k A):A.units+64<cLine:=by have:=r.un;lia
theorem Room.units0{k:Nat}(r:Room k A):A.units<cLine:=by have:=r.un;lia
def gI:TA:=λ_ H Q=>Q [] H
def HC(x:V)(Q:List V->Hp->Prop):List V->Hp->Prop:=λxs H2=>Q (x::xs) H2
def HD(tr:TA)(Z:St)(Q:List V->Hp->Prop):VK:=λx H1=>tr Z H1 (HC x Q)
def eO(ta:TE)(tr:TA):TA:=λZ H Q=>ta Z H (HD tr Z Q)
section
variable {e:Expr}{es:List Expr}{te:TE}{t:TA}{pos:Pos}
theorem de:PA X [] gI:=λ_ _ _ _ H Q I h=>uw ⟨[],H,I,.nil,h⟩
theorem ai(ha:PE X e te)(a:PA X es t)(b:starEach (e::es) X.env=(false,eval e X.env)::starEach es X.env:=by rfl):PA X (e::es) (eO te t):=by intro pos Nw s Z H Q I h;rw[b];change wpAny _ _ (spliced ((false,eval e X.env)::backTo pos (starEach es X.env))) _ _ s;show nH (thn (ha Nw s Z H _ I h) λu s1 ⟨x,H1,c,d,q1⟩=>?_);show thn (a pos Nw s1 Z H1 _ c q1) λus s2 ⟨xs,H2,f,g,i⟩=>⟨x::xs,H2,f,.cons d g,i⟩
theorem pa1{e:Expr}{te:TE}(ha:PE X e te)(a:starEach [e] X.env=(false,eval e X.env)::starEach [] X.env:=by rfl):PA X [e] (eO te gI):=ai ha de a
def Jn(Q:VK):List V->Hp->Prop:=λxs H1=>xs.length<=sizeLine/\fE H1 (.tup xs) Q
def tTup(t:TA):TE:=λZ H Q=>t Z H (Jn Q)
def Jt(Q:VK):List V->Hp->Prop:=λxs H1=>xs.length<=sizeLine/\fE H1 (.lst xs) Q
def ue(t:TA):TE:=λZ H Q=>t Z H (Jt Q)
theorem aK{c}(h:PA X es t):PE X (.Tuple es c pos) (tTup t):=by intro Nw s Z H Q I d;show wpAny_Tuple_spliced (thn (h pos Nw s Z H _ I d) λus s1 ⟨xs,H1,a,r,z,q⟩=>⟨by rw[<-r.length];show z,?_⟩);have hf:H1 ↥s1=none:=a.hok.fresh (ax _);show⟨.ref ↥s1,upd H1 ↥s1 (.tup xs),a.laid (t':=s1.toks) (λb u e=>bg _ e) (ax _) ?_,rfl,q.at hf⟩;show⟨⟨z,_,cw _ rfl,rfl⟩,us,r,⟨_,cw _ rfl,rfl,_,rfl⟩⟩
theorem bf(h:PA X es t):PE X (.List es pos) (ue t):=by intro Nw s Z H Q I c;show wpAny_List_spliced (thn (h pos Nw s Z H _ I c) λus s1 ⟨xs,H1,a,r,z,q⟩=>⟨by rw[<-r.length];show z,?_⟩);have hf:H1 ↥s1=none:=a.hok.fresh (ax _);show⟨.ref ↥s1,upd H1 ↥s1 (.lst xs),a.laid (t':=s1.toks) (λb u e=>bg _ e) (ax _) ?_,rfl,q.at hf⟩;show⟨z,us,0,r,cw _ rfl⟩
end
abbrev Sp:=List V->Hp->VK->XK->Prop
abbrev CXT:=List Env->Hp->Shared->XK->Value->Shared->Prop
structure pX(P:Program)(w:World)(K:W.Frag)(mg:Str->Option Value)(base:Heap)(A:Around)(outer:List Env)(s:Shared)(H:Hp):Prop where
 frames:A.frames=some outer
 mod:Mod K mg base
 bs:∀b o,base.get? b=some o->s.heap.get? b=some o/\H b=none
 bsz:base.objs.size<=↥s
 funs:s.heap.FunFrames base outer
 frf:∀b∈frs outer,H b=none
 hok:HOk P w H s.heap
 bare:AllBare s.gens
def CE(outer:List Env)(P:Program)(w:World)(H:Hp)(s:Shared)(Q:VK)(u:Value)(s':Shared):Prop:=
 ∃v H',s'.os=s.os/\AllBare s'.gens/\Un (frs outer) [] H H' s.heap s'.heap/\HOk P w H' s'.heap/\aD v u/\Q v H'
def CR(CX:CXT)(outer:List Env)(P:Program)(w:World)(H:Hp)(s:Shared)(Q:VK)(E:XK)(r:Result)(s':Shared):Prop:=
 match r with
 |.ok (.ret u)=>CE outer P w H s Q u s'
 |.ok _=>False
 |.error e=>CX outer H s E e s'
structure FnOk(P:Program)(w:World)(K:W.Frag)(mg:Str->Option Value)(base:Heap)(CX:CXT)(k:Nat)(f:Addr)(fd:FuncData)(ps:List Str)(sp:Sp):Prop where
 len:∀vs H Q E,sp vs H Q E->vs.length=ps.length
 run:∀(A:Around)(outer:List Env)(s:Shared)(H:Hp)(args:Args)(us:List Value)(vs:List V)(Q:VK)(E:XK),Room k A->pX P w K mg base A outer s H->BindsTo s fd args (ps.zip us)->Vals vs us->sp vs H Q E->
  codeAny (model P w) A (.call (.ref f) args) (CR CX outer P w H s Q E) s
theorem FnOk.mono{CX:CXT}{j k:Nat}{f:Addr}{ps:List Str}{sp:Sp}(F:FnOk P w K mg base CX j f fd ps sp)(h:j<=k) :
  FnOk P w K mg base CX k f fd ps sp:=⟨F.len,λA outer s H args us vs Q E a=>F.run A outer s H args us vs Q E (a.mono h)⟩
theorem FnOk.imp{CX:CXT}{k:Nat}{f:Addr}{ps:List Str}{sp a:Sp}(F:FnOk P w K mg base CX k f fd ps sp)
  (h:∀vs H Q E,a vs H Q E->sp vs H Q E):FnOk P w K mg base CX k f fd ps a:=
 ⟨λvs H Q E q=>F.len vs H Q E (h _ _ _ _ q),λA outer s H args us vs Q E b he c d e=>F.run A outer s H args us vs Q E b he c d (h _ _ _ _ e)⟩
section
variable {s s':Shared}
theorem Inv.env0(I:Inv X Nw Z H s):pX X.prog X.w X.K X.mg X.base X.A X.stack s H:=
 ⟨I.ok.frames,I.ok.mod,I.bs,cC I.ok.bsz I.sz,I.stack,I.stkFree,I.hok,I.bare⟩
theorem Inv.after{Q:VK}{u:Value}(I:Inv X Nw Z H s)(h:CE X.stack X.prog X.w H s Q u s'):EP X Nw Z Q u s':=by obtain⟨v,H',os,bare,un,hok,r,q⟩:=h;obtain⟨a,g,d,t,c⟩:=s';obtain rfl:c=s.os:=os;show⟨v,H',I.call (h':=a) (g':=g) (d':=d) (t':=t) (ch:=[]) un hok bare (λb z=>absurd z ∅),r,q⟩
end
def HE(sp:Sp)(dvs:List V)(E:XK)(Q:VK):List V->Hp->Prop:=λvs H1=>sp (vs++dvs) H1 Q E
def Ae(sp:Sp)(dvs:List V)(E:XK)(t:TA):TE:=λZ H Q=>t Z H (HE sp dvs E Q)
def Binds(K:W.Frag)(fd:FuncData)(ps:List Str)(ds:List Value):Prop:=
 ∀(s:Shared)(us:List Value),K.In s.heap->(us++ds).length=ps.length->BindsTo s fd ⟨us,[]⟩ (ps.zip (us++ds))
theorem Binds.all{ps:List Str}(h:∀us:List Value,us.length=ps.length->bindArgs fd ⟨us,[]⟩=pure (ps.zip us)):Binds K fd ps []:=λs us _ a=>by
 rw[dh] at a |-;show .of_eq (h us a)
def Passes(CX:CXT)(X:Cx)(E:XK):Prop:=∀(Nw:List (Addr×Obj))(Z:St)(H:Hp)(s:Shared)(e:Value)(s':Shared),Inv X Nw Z H s->CX X.stack H s E e s'->X.xe e s'
section
variable {CX:CXT}{k:Nat}{f C:Addr}{ps:List Str}{sp:Sp}{dvs:List V}{ds:List Value}{E:XK}{x m:Str}{p pos apos:Pos}{e o:Expr}{es:List Expr}{ta:TE}{t:TA}
theorem HX{Q:VK}(F:FnOk X.prog X.w X.K X.mg X.base CX k f fd ps sp)(c:Room k X.A)(d:Binds X.K fd ps ds)(hd:Vals dvs ds)(g:Passes CX X E)
  (I:Inv X Nw Z H s) (r:Vals vs us) (h:sp (vs++dvs) H Q E):wpAny ⇑X X.A (call (.ref f) us) (EP X Nw Z Q) X.xe s:=by
 have b:Vals (vs++dvs) (us++ds):=r.append hd;have i:(us++ds).length=ps.length:=by rw[<-b.length];show F.len _ _ _ _ h
 show wpAny_call (Ba (F.run X.A X.stack s H ⟨us,[]⟩ (us++ds) (vs++dvs) Q E c I.env0 (d s us I.kIn i) b h) λr s' a=>?_);cases r with
 |error e=>show g Nw Z H s e s' I a
 |ok j=>
  cases j with
  |ret u=>show I.after a
  |next=>show False.elim a
  |brk=>show False.elim a
  |cont=>show False.elim a
theorem yz(F:FnOk X.prog X.w X.K X.mg X.base CX k f fd ps sp)(b:Room k X.A)(c:Gl X x)(hm:X.mg x=some (.ref f))(d:W.keepIn X.K (.ref f)=true)(g:Binds X.K fd ps ds)(hd:Vals dvs ds)(i:Passes CX X E)
  (ha:PA X (e::es) t) (j:(x==("__debug__" : Str))=false:=by decide) (he:starEach (e::es) X.env=(false,eval e X.env)::starEach es X.env:=by rfl) (l:(backTo pos (starEach es X.env)).any (·.1)=false:=by rfl) :
  PE X (.Call (.Name x p) (e::es) [] pos) (Ae sp dvs E t):=by
 intro Nw s Z H Q I h;show qI (yK I c hm ?_ j);show W.callWith_K (h₀:=X.base) I.ok.mod.kin d (thn (ha pos Nw s Z H _ I h) λus s1 ⟨vs,H1,a,r,q⟩=>⟨a.kIn,?_⟩) he l;show HX F b g hd i a r q
end
section
variable {CX:CXT}{k:Nat}{f C:Addr}{ps ks:List Str}{sp:Sp}{E:XK}{x m:Str}{p pos apos kpos:Pos}{e o:Expr}{es:List Expr}{kws:List Keyword}{te ta:TE}{t tk:TA}{nm:Option Str}
variable {g:List Value->List Value->List Value}{gV:List V->List V->List V}
end
structure bH(N P:List Str)(sc:Scope):Prop where
 kind:sc.kind=.function
 co:sc.isCoroutine=false
 gen:sc.isGenerator=false
 nd:N.Nodup
 pre:N.take P.length=P
 par:∀x∈P,sc.names.lookup x=some .local\/sc.names.lookup x=some .cell
 nofree:∀y∈sc.names,y.2≠.free
theorem wJ{kindOf:Str->Option NameKind}{x:Str}:∀{binds:List (Str×Value)}{m:Str->Option Value},(∀v,(x,v)∉binds)->bindL kindOf binds m x=m x
 | [],_,_=>rfl
 |(n,v)::r,m,h=>by
  unfold bindL;rw[wJ λw hw=>h w (aZ _ hw)]
  split
  .have:x≠n:=by rintro rfl;show h v dX
   simp[this]
  rfl
theorem wL{kindOf:Str->Option NameKind}{x:Str}:∀{binds:List (Str×Value)}{m:Str->Option Value},(∀v,(x,v)∉binds)->bindC kindOf binds m x=m x
 | [],_,_=>rfl
 |(n,v)::r,m,h=>by
  unfold bindC;rw[wL λw hw=>h w (aZ _ hw)]
  split
  .rfl
  have:x≠n:=by rintro rfl;show h v dX
  simp[this]
theorem wK{kindOf:Str->Option NameKind}{x:Str}{v:Value}:∀{P:List Str}{vs:List Value}{i:Nat}{m:Str->Option Value},P.Nodup->P[i]?=some x->vs[i]?=some v->kindOf x=some .local->
  bindL kindOf (P.zip vs) m x=some v
 | [],_,_,_,_,h,_,_=>by simp at h
 |_::_,[],_,_,_,_,h,_=>by simp at h
 |p::P,w::vs,0,m,nd,h1,h2,a=>by
  simp at h1 h2;subst h1;subst h2;change bindL kindOf ((p,w)::P.zip vs) m p=_;unfold bindL;rw[wJ λv b=>(aR.mp nd).1 (AS b).1,Nq a];simp
 |p::P,w::vs,i+1,m,nd,h1,h2,a=>by
  change bindL kindOf ((p,w)::P.zip vs) m x=_;unfold bindL;show wK (i:=i) (aR.mp nd).2 ‹h1› ‹h2› a
theorem wM{kindOf:Str->Option NameKind}{x:Str}{v:Value}:∀{P:List Str}{vs:List Value}{i:Nat}{m:Str->Option Value},P.Nodup->P[i]?=some x->vs[i]?=some v->kindOf x≠some .local->
  bindC kindOf (P.zip vs) m x=some v
 | [],_,_,_,_,h,_,_=>by simp at h
 |_::_,[],_,_,_,_,h,_=>by simp at h
 |p::P,w::vs,0,m,nd,h1,h2,a=>by
  simp at h1 h2;subst h1;subst h2;change bindC kindOf ((p,w)::P.zip vs) m p=_;unfold bindC;rw[wL λv b=>(aR.mp nd).1 (AS b).1,Np a];simp
 |p::P,w::vs,i+1,m,nd,h1,h2,a=>by
  change bindC kindOf ((p,w)::P.zip vs) m x=_;unfold bindC;show wM (i:=i) (aR.mp nd).2 ‹h1› ‹h2› a
def start(N:List Str)(vs:List V):St:=vs.map some++List.replicate (N.length-vs.length) none
def kE(CX:CXT)(P:Program)(w:World)(K:W.Frag)(mg:Str->Option Value)(base:Heap)(N:List Str)(qual:Str)(scope:Scope)(f:Addr)(cd:Value)(A:Around)(outer:List Env)(s:Shared)(H:Hp)(E:XK):Cx where
 prog:=P
 w:=w
 K:=K
 mg:=mg
 base:=base
 A:=A.deeper (envOfC qual scope ↥s f cd)
 N:=N
 s₀:=s
 H₀:=H
 env:=envOfC qual scope ↥s f cd
 outer:=outer
 stack:=envOfC qual scope ↥s f cd::outer
 ex:=[]
 calm:=true
 fn:=λ_=>true
 pn:=[]
 xe:=λe s'=>wpAny (model P w) (A.deeper (envOfC qual scope ↥s f cd)) (leaving (envOfC qual scope ↥s f cd) e) (λ_ a=>CX outer H s E e a) (λb a=>CX outer H s E b a) s'
theorem xJ{sc:Scope}{n:Nat}{x:Str}(h:sc.names.lookup x=some .cell):∃c,(cellsFrom n sc.names []).lookup x=some c:=by have q:=LS sc.names n [] (.inl h);show uW.mp q
theorem C4{CX:CXT}{N ps:List Str}{qual:Str}{f:Addr}{cd:Value}{outer:List Env}{s s1:Shared}{E:XK}
  (S:bH N ps scope) (hd:A.handled=none) (d:pX P w K mg base A outer s H) (D:vs.length=ps.length) (r:Vals vs us)
  (x:InCallC s ↥s (bindL (envOfC qual scope ↥s f cd).kindOf (ps.zip us) λ_=>none) (cellsFrom (↥s+1) scope.names []) (bindC (envOfC qual scope ↥s f cd).kindOf (ps.zip us) λ_=>none) s1) :
  Inv (kE CX P w K mg base N qual scope f cd A outer s H E) [] (start N vs) H s1:=by
 have I:ps.length<=N.length:=by have:=congrArg List.length S.pre;rw[bu] at this;lia
 obtain⟨h1,tk,rfl,m⟩:=x.done;have l:∀b:Addr,b∉(kE CX P w K mg base N qual scope f cd A outer s H E).ex:=λb z=>absurd (show b∈([]:List Addr) from z) ∅;show⟨⟨d.mod,S.kind,rfl,rfl,ax _,λy z c h1 h2=>?_,λy g=>?_,λy c _ h=>?_,λ_=>hd,Around.frames_deeper d.frames,.inr ⟨rfl,rfl⟩,λb z=>absurd z (l b),d.bs,d.bsz,λb _ _=>l b,λb z=>absurd z (l b),d.funs,d.frf⟩,
  rfl,d.bare,Un.kept m,⟨_,x.toInCall.ns,λi y v h1 h2 L=>?_⟩,λy c h=>⟨_,x.cell y c h⟩,d.hok.fresh (ax _),λy c h=>?_,λp j=>absurd (show p∈([]:List (Addr×Obj)) from j) ∅,d.hok.kept m,?_⟩
 .exact name_of_addr x.apart (n_ h1) (n_ h2)
 .have g:scope.names.lookup y=some .cell\/scope.names.lookup y=some .free:=g;rcases g with g|g
  .exact xJ g
  show absurd rfl (S.nofree _ (n_ g))
 .exact nR (x.above y c (n_ h))
 .have hi:i<vs.length:=by
   unfold start at h2;by_cases hi:i<vs.length
   .exact hi
   rw[kJ ‹hi›] at h2;rw[List.getElem?_replicate] at h2
   split at h2<;>cases h2
  have ha:vs[i]?=some v:=by
   unfold start at h2;rw[eF ‹hi›,cB] at h2;cases e:vs[i]? with
   |none=>rw[e] at h2;cases h2
   |some a=>rw[e] at h2;cases h2;rfl
  obtain⟨u,o,C⟩:=r.get ha;have j:ps[i]?=some y:=by rw[<-S.pre,AM ()];show h1
  have B:ps.Nodup:=by rw[<-S.pre];show S.nd.sublist (List.take_sublist _ _)
  show⟨u,C,?_⟩;rcases S.par y (a_ j) with k|k
  .exact .inl ⟨k,wK B j o k⟩
  obtain⟨c,e⟩:=xJ (n:=↥s+1) k;show .inr ⟨.inl k,c,e,?_⟩;have q:=x.cell y c e;rw[wM B j o (by change scope.names.lookup y≠_;rw[k];decide)] at q;show q
 .exact d.hok.fresh (nR (x.above y c (n_ h)))
 unfold start;change _=N.length;rw[ao,aE,List.length_replicate];lia
theorem Ko{CX:CXT}{k:Nat}{f:Addr}{name qual:Str}{params:Arguments}{body:List Stmt}{i kV doc pm a ct m:Value}{an p:Option Addr}
  {z:Array (Option Value)} {N ps:List Str} {sp:Sp} (lk:K.lookup f=some ⟨m,p,.func (W.fnOf name qual params body scope i kV doc pm an a ct),z⟩) (B:W.codeIn K a qual=true) (S:bH N ps scope)
  (len:∀vs H Q E,sp vs H Q E->vs.length=ps.length)
  (C:∀(A:Around)(outer:List Env)(s:Shared)(H:Hp)(vs:List V)(Q:VK)(E:XK),Room k (A.deeper (envOfC qual scope ↥s f a))->sp vs H Q E->
   ∃t,PSs (kE CX P w K mg base N qual scope f a A outer s H E) body t/\t {nx:=λ_ H'=>Q .non H',rt:=Q} (start N vs) H) :
  FnOk P w K mg base CX (k+1) f (W.fnOf name qual params body scope i kV doc pm an a ct) ps sp:=by
 show⟨len,λA outer s H args us vs Q E g d D r j=>?_⟩;have L:=len _ _ _ _ j;have l:K.In s.heap:=d.mod.kin.keeps λb o e=>(d.bs b o e).1;have lim:s.heap.NoLimit:=d.mod.nolimit.keeps λb o e=>(d.bs b o e).1;have M:∀y∈ps.zip us,scope.names.lookup y.1=some .local\/(scope.names.lookup y.1=some .cell/\((cellsFrom (↥s+1) scope.names []).lookup y.1).isSome=true):=λ⟨n,v⟩ O=>by
  rcases S.par n (AS O).1 with q|q
  .exact .inl q
  show .inr ⟨q,LS _ _ _ (.inl q)⟩
 show codeAny_call_function g.depth (l _ _ lk) rfl S.co S.gen rfl (W.codeRec_of l B) (D _ _ _ _ ?_);show wpAny_newFunctionEnv_cells S.kind M λenv he s1 x=>?_;subst he;show⟨lim.keeps x.toInCall.keep,codeAny_func ?_⟩;obtain⟨t,R,T⟩:=C A outer s H vs Q E (g.deeper _) j;have I:Inv (kE CX P w K mg base N qual scope f a A outer s H E) [] (start N vs) H s1:=C4 S g.hd d L r x;show fk (R [] s1 (start N vs) H _ I T) (λU s' c=>?_) λe s' c=>c;have fin:∀{Z':St}{H':Hp}{v:V}{u:Value},Inv (kE CX P w K mg base N qual scope f a A outer s H E) [] Z' H' s'->aD v u->Q v H'->CE outer P w H s Q u s':=
  λ{Z' H' v u} J h q=>⟨v,H',J.os,J.bare,J.base,J.hok,h,q⟩
 cases U with
 |ret u=>
  obtain⟨v,Z',H',J,h,q⟩:=c;show fin J h q
 |next=>
  obtain⟨Z',H',J,q⟩:=c;show fin (v:=V.non) (u:=Value.none) J rfl q
 |brk=>
  obtain⟨_,_,_,q⟩:=c;show False.elim q
 |cont=>
  obtain⟨_,_,_,q⟩:=c;show False.elim q
end L2
namespace L2
open PySem PySem.Spec PyProof.Rows
section
variable {x:Str}{p pos:Pos}{e:Expr}{es:List Expr}{t:TA}{id T:String}{r:List V->Hp->VK->Prop}
def tCBK(r:List V->Hp->VK->Prop)(Q:VK):List V->Hp->Prop:=λvs H1=>r vs H1 Q
def tCB(r:List V->Hp->VK->Prop)(t:TA):TE:=λZ H Q=>t Z H (tCBK r Q)
theorem dZ(a:dI X (.builtin id) r)(b:Gl X x)(hm:X.mg x=none)(c:bootBuiltins x=some (.builtin id))(ha:PA X (e::es) t)(d:x≠"__name__":=by decide)(f:(x==("__debug__" : Str))=false:=by decide)
  (he:starEach (e::es) X.env=(false,eval e X.env)::starEach es X.env:=by rfl) (g:(backTo pos (starEach es X.env)).any (·.1)=false:=by rfl):PE X (.Call (.Name x p) (e::es) [] pos) (tCB r t):=by
 intro Nw s Z H Q I h;show qI (fV I b hm c ?_ d f);show My (thn (ha pos Nw s Z H _ I h) λus s1 ⟨vs,H1,i,j,q1⟩=>a Nw s1 Z H1 vs us Q i j q1) he g
theorem eJ(a:dI X (.type T) r)(b:Gl X x)(hm:X.mg x=none)(c:bootBuiltins x=some (.type T))(ha:PA X (e::es) t)(d:x≠"__name__":=by decide)(f:(x==("__debug__" : Str))=false:=by decide)
  (he:starEach (e::es) X.env=(false,eval e X.env)::starEach es X.env:=by rfl) (g:(backTo pos (starEach es X.env)).any (·.1)=false:=by rfl):PE X (.Call (.Name x p) (e::es) [] pos) (tCB r t):=by
 intro Nw s Z H Q I h;show qI (fV I b hm c ?_ d f);show iX (thn (ha pos Nw s Z H _ I h) λus s1 ⟨vs,H1,i,j,q1⟩=>a Nw s1 Z H1 vs us Q i j q1) he g
end
end L2
namespace HT
open PySem PyProof.Rows
def lexLt:List Int->List Int->Bool
 | [],[]=>false
 | [],_::_=>true
 |_::_,[]=>false
 |x::xs,y::ys=>if x=y then lexLt xs ys else decide (x<y)
theorem lexLt_cons(x y:Int)(xs ys:List Int):lexLt (x::xs) (y::ys)=if x=y then lexLt xs ys else decide (x<y):=rfl
section
open PySem.SeqAt
open PySem.AutoSeq1 (wpAny_loadPart')
open PySem.MeetsSeq PySem.MeetsSeq2 PySem.MeetsSeq3
end
section
variable {prog:Program}
def sIx(n d:Nat):Option Int->Nat
 |none=>d
 |some v=>if v<0 then (v+(n:Int)).toNat else min v.toNat n
theorem sIx_none(n d:Nat):sIx n d none=d:=rfl
theorem sIx_nat(n d k:Nat):sIx n d (some (k:Int))=min k n:=by change (if (k:Int)<0 then ((k:Int)+(n:Int)).toNat else min (k:Int).toNat n)=min k n;rw[Np (),js]
end
end HT
namespace L2
open PySem PySem.Spec PyProof.Rows
abbrev TO:=St->Hp->(Option Int->Hp->Prop)->Prop
def PO(X:Cx)(e:Option Expr)(t:TO):Prop:=
 ∀(Nw:List (Addr×Obj))(s:Shared)(Z:St)(H:Hp)(Q:Option Int->Hp->Prop),Inv X Nw Z H s->t Z H Q->
  wpAny ⇑X X.A (evalPart e X.env) (λu s'=>∃o H',Inv X Nw Z H' s'/\IsPart u o/\Q o H') X.xe s
def Ff:TO:=λ_ H Q=>Q none H
def Hk(Q:Option Int->Hp->Prop)(x:V)(H1:Hp)(i:Int):Prop:=x=.int i/\Q (some i) H1
def Hj(Q:Option Int->Hp->Prop):VK:=λx H1=>Exists (Hk Q x H1)
def Jp(t:TE):TO:=λZ H Q=>t Z H (Hj Q)
theorem ou{ns:List Int}:∀{us:List Value},Vals (ns.map V.int) us->IntsAre us ns:=by
 induction ns with
 |nil=>intro us r;rw[fG] at r;cases r;show .nil
 |cons n ns a=>
  intro us r;rw[az] at r;cases r with
  |cons b c=>
   obtain⟨t,e⟩:=b;subst e;show .cons n t (a c)
section
variable {e:Expr}{te:TE}{lo hi:Option Expr}{tl th:TO}{pos p2:Pos}
theorem eL:PO X none Ff:=by intro Nw s Z H Q I h;rw[Bb];show aB ⟨none,H,I,.none,h⟩
theorem dr(h:PE X e te):PO X (some e) (Jp te):=by intro Nw s Z H Q I hw;rw[evalPart_some];show thn (h Nw s Z H _ I hw) λu s1 ⟨x,H1,a,b,q1⟩=>?_;obtain⟨i,rfl,q⟩:=q1;obtain⟨t,rfl⟩:=b;show⟨some i,H1,a,.int i t,q⟩
def SlR(X:Cx)(r:V->Option Int->Option Int->Hp->VK->Prop):Prop:=
 ∀(Nw:List (Addr×Obj))(s:Shared)(Z:St)(H:Hp)(x:V)(v a b:Value)(lo hi:Option Int)(c:Addr)(Q:VK),Inv X Nw Z H s->aD x v->s.heap.IsSliceOf c a b .none->IsPart a lo->IsPart b hi->r x lo hi H Q->
  ∃T id,typeLookup (.type T) "__getitem__" = pure (some (.builtin id))/\s.TypeIs v T/\wpAny ⇑X X.A (getItem v (.ref c)) (EP X Nw Z Q) X.xe s
def tSl3(r:V->Option Int->Option Int->Hp->VK->Prop)(x:V)(l:Option Int)(Q:VK):Option Int->Hp->Prop:=λu a=>r x l u a Q
def tSl2(r:V->Option Int->Option Int->Hp->VK->Prop)(th:TO)(Z:St)(x:V)(Q:VK):Option Int->Hp->Prop:=λl H2=>th Z H2 (tSl3 r x l Q)
def tSl1(r:V->Option Int->Option Int->Hp->VK->Prop)(tl th:TO)(Z:St)(Q:VK):VK:=λx H1=>tl Z H1 (tSl2 r th Z x Q)
def tSl(r:V->Option Int->Option Int->Hp->VK->Prop)(te:TE)(tl th:TO):TE:=λZ H Q=>te Z H (tSl1 r tl th Z Q)
theorem dN{r:V->Option Int->Option Int->Hp->VK->Prop}(g:SlR X r)(he:PE X e te)(i:PO X lo tl)(j:PO X hi th):PE X (.Subscript e (.Slice lo hi none p2) pos) (tSl r te tl th):=by intro Nw s Z H Q I h;show u_ (thn (he Nw s Z H _ I h) λv s1 ⟨x,H1,m,n,q1⟩=>?_);show wpAny_Slice (thn (i Nw s1 Z H1 _ m q1) λc s2 ⟨l,H2,o,p,y⟩=>thn (j Nw s2 Z H2 _ o y) λd a ⟨u,f,z,pu,B⟩=>?_);rw[Bb];show aB ?_;have C:Inv X Nw Z f {a with heap:=a.heap.push {cls:=.type "slice",data:=.fields #[c,d,.none]}}:=z.kept (t':=a.toks) λb L q=>bg _ q;obtain⟨T,id,D,E,K⟩:=g Nw {a with heap:=a.heap.push {cls:=.type "slice",data:=.fields #[c,d,.none]}} Z f x v c d l u ↥a Q C n (KM ..) p pu B;change wpAny ⇑X X.A (subscriptTail e (.Slice lo hi none p2) v (.ref ↥a)) (EP X Nw Z Q) X.xe {a with heap:=a.heap.push {cls:=.type "slice",data:=.fields #[c,d,.none]}};show tail_any (ops:=[.ref ↥a,v]) E D K (by with_unfolding_all rfl)
def eP(xs:List V)(lo hi:Option Int):List V:=(xs.drop (HT.sIx xs.length 0 lo)).take (HT.sIx xs.length xs.length hi-HT.sIx xs.length 0 lo)
theorem BN(xs:List V)(lo hi:Option Int):(eP xs lo hi).length<=xs.length:=by unfold eP;rw[bu,bG];lia
end
end L2
namespace L2
open PySem PySem.Spec PyProof.Rows
def ixN(n:Nat)(i:Int):Option Nat:=if 0<=i then (if i<n then some i.toNat else none) else if -(n:Int)<=i then some (i+n).toNat else none
def atI{α:Type}(xs:List α)(i:Int):Option α:=(ixN xs.length i).bind λj=>xs[j]?
theorem oW{n:Nat}{i:Int}{j:Nat}(h:ixN n i=some j):seqIndex? i n=some j/\j<n/\-(n:Int)<=i/\i<n:=by
 unfold ixN at h;by_cases a:0<=i
 .rw[Nq a] at h;by_cases h1:i<n
  .rw[Nq h1] at h;have e:i.toNat=j:=cy h;show⟨by rw[Bd a h1,e],(),(),h1⟩
  rw[Np h1] at h;cases h
 rw[Np a] at h;by_cases h1:-(n:Int)<=i
 .rw[Nq h1] at h;have e:(i+n).toNat=j:=cy h;show⟨by rw[Bc () h1,e],(),h1,()⟩
 rw[Np h1] at h;cases h
theorem zk{α:Type}{xs:List α}{i:Int}{v:α}(h:atI xs i=some v):∃j,seqIndex? i xs.length=some j/\xs[j]?=some v/\j<xs.length/\-(xs.length:Int)<=i/\i<xs.length:=by
 unfold atI at h;cases e:ixN xs.length i with
 |none=>rw[e] at h;cases h
 |some j=>
  rw[e] at h;obtain⟨h1,h2,a,b⟩:=oW e;show⟨j,h1,h,h2,a,b⟩
theorem cM{α:Type}{xs:List α}{j:Nat}{v:α}(h:xs[j]?=some v):atI xs (j:Int)=some v:=by
 have a:j<xs.length:=(aI.mp h).1;have e:ixN xs.length (j:Int)=some j:=by unfold ixN;rw[Nq (),Nq ()];simp
 unfold atI;rw[e];show h
def zl(b:Expr):Prop:=∀o i,subscripted b false o i=operate [o,i] (getItem o i)
def IxR(X:Cx)(r:R2):Prop:=
 ∀(value slice:Expr)(Nw:List (Addr×Obj))(s:Shared)(Z:St)(H:Hp)(x y:V)(v u:Value)(Q:VK),Inv X Nw Z H s->aD x v->aD y u->r x y H Q->
  subscripted slice false v u=operate [v,u] (getItem v u)->wpAny ⇑X X.A (subscriptTail value slice v u) (EP X Nw Z Q) X.xe s
def MtR(X:Cx)(id:String)(r:V->List V->Hp->VK->Prop):Prop:=
 ∀(Nw:List (Addr×Obj))(s:Shared)(Z:St)(H:Hp)(x:V)(xs:List V)(v:Value)(us:List Value)(Q:VK),Inv X Nw Z H s->aD x v->Vals xs us->r x xs H Q->
  wpAny ⇑X X.A (call (.builtin id) (v::us)) (EP X Nw Z Q) X.xe s
section
variable {a b:Expr}{ta tb:TE}{pos:Pos}
theorem m9{r:R2}(c:IxR X r)(ha:PE X a ta)(d:PE X b tb)(e:zl b):PE X (.Subscript a b pos) (tOp r ta tb):=by intro Nw s Z H Q I h;show u_ (uk ha d I h λv u s2 x y H2 f g i q=>c a b Nw s2 Z H2 x y v u Q f g i q (e _ _))
theorem ixx{r:R2}(c:IxR X r)(ha:PE X a ta)(d:PE X b tb)(e:zl b:=by (intro _ _;rfl)):PE X (.Subscript a b pos) (tOp r ta tb):=m9 c ha d e
def JZ(K:W.Frag)(x y:V)(H:Hp)(Q:VK)(p:Addr)(xs:List V)(i:Int)(v:V):Prop:=x=.ref p/\y=.int i/\SqL K H p xs/\atI xs i=some v/\Q v H
def ui(K:W.Frag):R2:=λx y H Q=>Exists (Ex4 (JZ K x y H Q))
def JY(K:W.Frag)(x y:V)(H:Hp)(Q:VK)(p:Addr)(xs:List V)(i:Int)(v:V):Prop:=x=.ref p/\y=.int i/\SqT K H p xs/\atI xs i=some v/\Q v H
def iN(K:W.Frag):R2:=λx y H Q=>Exists (Ex4 (JY K x y H Q))
theorem aJ:IxR X (ui []):=by
 intro value slice Nw s Z H x y v u Q I f g h c;obtain⟨p,xs,i,z,rfl,rfl,l,he,q⟩:=h;cases f;obtain⟨t,rfl⟩:=g;obtain⟨m,r,a,hz⟩:=I.list l;obtain⟨j,h1,h2,C,n,o⟩:=zk he;obtain⟨w,d,A⟩:=r.get h2;have B:=r.length;have D:=line63;have fin:EP X Nw Z Q w s:=⟨z,H,I,A,q⟩;by_cases e:0<=i
 .have b:i.toNat=j:=by
   rw[Bd e o] at h1;show cy h1
  show item_listR a.isList e () (by rw[b];simpa using d) fin c
 have b:(i+(m.toArray.size:Int)).toNat=j:=by rw[Bc () n] at h1;rw[bK,<-B];show cy h1
 show L9 (x:=w) a.isList.typeIs Be.lookup
  (wpAny_getItem_list_neg (Q:=λr s'=>r=w/\EP X Nw Z Q r s') a.isList () (by rw[bK]<;>lia) () (by rw[b];simpa using d) ⟨rfl,fin⟩) c
theorem bV:IxR X (iN []):=by
 intro value slice Nw s Z H x y v u Q I b c h d;obtain⟨p,xs,i,z,rfl,rfl,e,he,q⟩:=h;cases b;obtain⟨t,rfl⟩:=c;obtain⟨m,r,a,hz⟩:=I.tuple e;obtain⟨j,h1,h2,n,o,A⟩:=zk he;obtain⟨w,f,g⟩:=r.get h2;have l:=r.length;have B:=line63;have fin:EP X Nw Z Q w s:=⟨z,H,I,g,q⟩;show L9 (x:=w) a.typeIs slot_tuple_getitem.lookup
  (getItem_tuple (j:=j) (Q:=λr s'=>r=w/\EP X Nw Z Q r s') a () () (by rw[bK,<-l];show h1) ‹f› ⟨rfl,fin⟩) d
theorem Cf(a:List Value)(n j:Nat)(u:Value):Obj.mapSeq (·.setIfInBounds j u) {cls:=.type "list",data:=.seq a.toArray n}={cls:=.type "list",data:=.seq (a.set j u).toArray n}:=by simp[Obj.mapSeq]
theorem Inv.lst{p:Addr}(I:Inv X Nw Z H s)(h:H p=some (.lst xs)) :
  ∃(a:List Value)(n:Nat),Vals xs a/\s.heap.get? p=some {cls:=.type "list",data:=.seq a.toArray n}/\xs.length<=sizeLine:=by
 obtain⟨z,a,n,r,e⟩:=I.hok p _ h;show⟨a,n,r,e,z⟩
theorem Inv.lstUpd{p:Addr}{xs ys:List V}{a its':List Value}{n n':Nat}{f:Obj->Obj}(I:Inv X Nw Z H s)(h:H p=some (.lst xs))
  (c:s.heap.get? p=some {cls:=.type "list",data:=.seq a.toArray n}) (hf:f {cls:=.type "list",data:=.seq a.toArray n}={cls:=.type "list",data:=.seq its'.toArray n'}) (r:Vals ys its') (hz:ys.length<=sizeLine) (t:Nat) :
  Inv X Nw Z (upd H p (.lst ys)) {s with heap:=s.heap.update p f,toks:=t}:=by
 have e:(s.heap.update p f).get? p=some {cls:=.type "list",data:=.seq its'.toArray n'}:=by rw[kG f c (by rw[hf]<;>rfl),hf]
 show I.write (x:=p) (e:=p) (by rw[h];trivial) (.inl rfl) (λb u d q=>(nJ _ _ (aG d)).trans q) ⟨_,e⟩ ?_;show⟨hz,its',n',r,e⟩
def Ib(o i v:V)(H:Hp)(Q:Hp->Prop)(p:Addr)(xs:List V)(k:Int)(j:Nat):Prop:=o=.ref p/\i=.int k/\H p=some (.lst xs)/\ixN xs.length k=some j/\WrO H p (.lst (xs.set j v)) Q
def JU:V->V->V->Hp->(Hp->Prop)->Prop:=λo i v H Q=>Exists (Ex4 (Ib o i v H Q))
theorem oE:PSet X JU:=by
 intro Nw s Z H o i v A B u Q I w x y h;obtain⟨p,xs,k,j,rfl,rfl,d,z,q⟩:=h;replace q:=q.at;cases w;obtain⟨t,rfl⟩:=x;obtain⟨e,n,r,a,hz⟩:=I.lst d;obtain⟨h1,h2,f,g⟩:=oW z;have b:=r.length;have C:=line63;have l:Inv X Nw Z (upd H p (.lst (xs.set j v))) {s with heap:=s.heap.update p (Obj.mapSeq (·.setIfInBounds j u))}:=
  I.lstUpd d a (Cf e n j u) (r.set y j) (by rw[List.length_set];show hz) s.toks
 by_cases m:0<=k
 .have c:k.toNat=j:=by
   rw[Bd m g] at h1;show cy h1
  show W.ki_setAt a m () (by rw[bK,<-b];show g) (by rw[c];show⟨_,l,q⟩)
 have c:(k+(e.toArray.size:Int)).toNat=j:=by rw[Bc () f] at h1;rw[bK,<-b];show cy h1
 show W.ki_setBack a () (by rw[bK,<-b];show f) () (by rw[c];show⟨_,l,q⟩)
theorem Bz(lo hi:Option Int)(n:Nat):(sliceBounds lo hi none n).1=((HT.sIx n 0 lo:Nat):Int)/\(sliceBounds lo hi none n).2.1=((HT.sIx n n hi:Nat):Int)/\(sliceBounds lo hi none n).2.2=1:=by
 show⟨?_,?_,rfl⟩
 .cases lo with
  |none=>simp[sliceBounds,HT.sIx]
  |some i=>
   simp only[sliceBounds,HT.sIx,Lv,show (1:Int)>0 by decide,if_true];by_cases h:i<0
   .simp only[h,if_true]<;>lia
   simp only[h,if_false]<;>lia
 cases hi with
 |none=>simp[sliceBounds,HT.sIx]
 |some i=>
  simp only[sliceBounds,HT.sIx,Lv,show (1:Int)>0 by decide,if_true];by_cases h:i<0
  .simp only[h,if_true]<;>lia
  simp only[h,if_false]<;>lia
theorem Bt(a:List Value)(lo hi:Option Int):slicePick a.toArray lo hi none=((a.drop (HT.sIx a.length 0 lo)).take (HT.sIx a.length a.length hi-HT.sIx a.length 0 lo)).toArray:=by obtain⟨h1,h2,b⟩:=Bz lo hi a.toArray.size;unfold slicePick;rw[h1,h2,b];simp only[sliceRange_one,pick_run,bK]<;>rfl
def JT(K:W.Frag)(x:V)(lo hi:Option Int)(H:Hp)(Q:VK)(a:Addr)(xs:List V):Prop:=x=.ref a/\SqL K H a xs/\fE H (.lst (eP xs lo hi)) Q
def rSlL(K:W.Frag):V->Option Int->Option Int->Hp->VK->Prop:=λx lo hi H Q=>Exists (Ex2 (JT K x lo hi H Q))
theorem dO:SlR X (rSlL []):=by intro Nw s Z H x v i j lo hi l Q I d e f pu h;obtain⟨a,xs,rfl,g,q⟩:=h;cases d;obtain⟨m,r,c,hz⟩:=I.list g;have hlen:=r.length;show⟨"list",_,Be.lookup,c.isList.typeIs,?_⟩;show Mh c.isList e f pu .none ∅ ?_ (by rw[bK]<;>lia);rw[Bt,<-hlen];show⟨.ref ↥s,_,I.laid (t':=s.toks) (o:=.lst (eP xs lo hi)) (λb n q=>bg _ q) (ax _) ?_,rfl,q.at (I.hok.fresh (ax _))⟩;show⟨cC (BN xs lo hi) hz,_,0,(r.drop (HT.sIx xs.length 0 lo)).take (HT.sIx xs.length xs.length hi-HT.sIx xs.length 0 lo),cw _ rfl⟩
def gF:V->Bool
 |.non=>true
 |.bl _=>true
 |.int _=>true
 |.str _=>true
 |_=>false
def eqV:V->V->Bool
 |.non,.non=>true
 |.bl a,.bl b=>a==b
 |.bl a,.int b=>(if a then 1 else 0)==b
 |.int a,.bl b=>a==(if b then 1 else 0)
 |.int a,.int b=>a==b
 |.str a,.str b=>a==b
 |_,_=>false
theorem IZ{y x:V}{u v:Value}(d:aD y u)(c:aD x v)(f:gF y=true)(e:gF x=true):SeqAt.EqAt A s u v (eqV y x):=by
 cases y with
 |non=>
  cases d;cases x with
  |non=>cases c;show Nh _
  |bl b=>cases c;show Nd b
  |int b=>obtain⟨t,rfl⟩:=c;show Nf b t
  |str b=>obtain⟨t,rfl⟩:=c;show Ng b t
  |_=>show absurd (show false=true from e) bX
 |bl a=>
  cases d;cases x with
  |non=>cases c;show M9 a
  |bl b=>cases c;show M7 a b
  |int b=>obtain⟨t,rfl⟩:=c;show M8 a b t
  |str b=>obtain⟨t,rfl⟩:=c;show M_ a b t
  |_=>show absurd (show false=true from e) bX
 |int a=>
  obtain⟨t',rfl⟩:=d;cases x with
  |non=>cases c;show Nc a t'
  |bl b=>cases c;show Na a t' b
  |int b=>obtain⟨t,rfl⟩:=c;show Nb a t' b t
  |str b=>obtain⟨t,rfl⟩:=c;show LW a t' b t
  |_=>show absurd (show false=true from e) bX
 |str a=>
  obtain⟨t',rfl⟩:=d;cases x with
  |non=>cases c;show Nk a t'
  |bl b=>cases c;show Nj a t' b
  |int b=>obtain⟨t,rfl⟩:=c;show LX a t' b t
  |str b=>obtain⟨t,rfl⟩:=c;show Nl a t' b t
  |_=>show absurd (show false=true from e) bX
 |_=>show absurd (show false=true from f) bX
def eqU(x:V)(u:Value):Bool:=match u with
 |.none=>eqV .non x
 |.bool b=>eqV (.bl b) x
 |.int i _=>eqV (.int i) x
 |.str z _=>eqV (.str z) x
 |_=>false
theorem zW{x y:V}{u:Value}(r:aD y u)(f:gF y=true):eqU x u=eqV y x:=by
 cases y with
 |non=>cases r;rfl
 |bl b=>cases r;rfl
 |int i=>obtain⟨t,rfl⟩:=r;rfl
 |str z=>obtain⟨t,rfl⟩:=r;rfl
 |_=>show absurd (show false=true from f) bX
theorem mq{x:V}:∀{xs:List V}{us:List Value},Vals xs us->xs.all gF=true->us.any (eqU x)=xs.any λy=>eqV y x
 |_,_,.nil,_=>rfl
 |y::xs,u::us,.cons r t,f=>by
  rw[AE,uu] at f;rw[jt,jt,zW r f.1,mq t f.2]
theorem lJ{x:V}{v:Value}(b:aD x v)(c:gF x=true):∀{xs:List V}{us:List Value},Vals xs us->xs.all gF=true->∀u∈us,SeqAt.EqAt A s u v (eqU x u)
 |_,_,.nil,_=>λu a=>by cases a
 |y::xs,u::us,.cons r t,f=>λd a=>by
  rw[AE,uu] at f;rcases ae.mp a with rfl|a
  .rw[zW r f.1];show IZ r b f.1 c
  show lJ b c t f.2 d a
def inV(x:V)(xs:List V):Bool:=xs.any λy=>eqV y x
def rInB(K:W.Frag)(neg:Bool)(x y:V)(H:Hp)(Q:VK)(p:Addr)(xs:List V):Prop:=y=.ref p/\(SqL K H p xs\/SqT K H p xs)/\gF x=true/\xs.all gF=true/\Q (.bl (if neg then !inV x xs else inV x xs)) H
def rIn(K:W.Frag)(neg:Bool):R2:=λx y H Q=>Exists (Ex2 (rInB K neg x y H Q))
theorem lr:OpR X (compareOp .In) (rIn [] false):=by
 intro Nw s Z H x y v u Q I d f h;obtain⟨p,xs,rfl,a,e,fs,q⟩:=h;cases f;rcases a with a|a
 .obtain⟨b,r,c,hz⟩:=I.list a;show SeqAt.in_listAt (eqU x) c.isList (λw hw=>lJ d e r fs w ‹hw›) ⟨.bl _,H,I,rfl,?_⟩;rw[show b.toArray.any (eqU x)=b.any (eqU x) by simp,mq r fs];show q
 obtain⟨b,r,c,hz⟩:=I.tuple a;show SeqAt.in_tupleAt (eqU x) c (λw hw=>lJ d e r fs w ‹hw›) ⟨.bl _,H,I,rfl,?_⟩;rw[show b.toArray.any (eqU x)=b.any (eqU x) by simp,mq r fs];show q
theorem i6:OpR X (compareOp .NotIn) (rIn [] true):=by
 intro Nw s Z H x y v u Q I d f h;obtain⟨p,xs,rfl,a,e,fs,q⟩:=h;cases f;rcases a with a|a
 .obtain⟨b,r,c,hz⟩:=I.list a;show SeqAt.notIn_listAt (eqU x) c.isList (λw hw=>lJ d e r fs w ‹hw›) ⟨.bl _,H,I,rfl,?_⟩;rw[show b.toArray.any (eqU x)=b.any (eqU x) by simp,mq r fs];show q
 obtain⟨b,r,c,hz⟩:=I.tuple a;show SeqAt.notIn_tupleAt (eqU x) c (λw hw=>lJ d e r fs w ‹hw›) ⟨.bl _,H,I,rfl,?_⟩;rw[show b.toArray.any (eqU x)=b.any (eqU x) by simp,mq r fs];show q
def Ie(K:W.Frag)(xs:List V)(H:Hp)(Q:VK)(p:Addr)(ys:List V):Prop:=xs=[.ref p]/\(SqL K H p ys\/SqT K H p ys)/\Q (.int ys.length) H
def Ak(K:W.Frag):List V->Hp->VK->Prop:=λxs H Q=>Exists (Ex2 (Ie K xs H Q))
theorem BA:dI X (.builtin "len") (Ak []):=by
 intro Nw s Z H xs us Q I r h;obtain⟨p,ys,rfl,a,q⟩:=h;obtain⟨u,rfl,d⟩:=vals1 r;cases d;have f:=line63;rcases a with a|a
 .obtain⟨e,b,c,hz⟩:=I.list a;have hlen:=b.length;show Calls.call_len_list c.isList (by simp only[bK]<;>lia) ⟨.int ys.length,H,I.tok _,⟨s.toks+1,by rw[bK,hlen]⟩,q⟩
 obtain⟨e,b,c,hz⟩:=I.tuple a;have hlen:=b.length;show len_tuple c (by simp only[bK]<;>lia) ⟨.int ys.length,H,I.tok _,⟨s.toks+1,by rw[bK,hlen]⟩,q⟩
theorem pln{e:Expr}{te:TE}{p pos:Pos}(hm:X.mg "len" = none)(he:PE X e te)(b:Gl X "len":=by rfl)(a:starEach [e] X.env=(false,eval e X.env)::starEach [] X.env:=by rfl)(c:(backTo pos (starEach ([]:List Expr) X.env)).any (·.1)=false:=by rfl):PE X (.Call (.Name "len" p) [e] [] pos) (tCB (Ak []) (eO te gI)):=dZ BA b hm PySem.boot_len (ai he de a) ⋯ ⋯ a c
def FF(K:W.Frag)(xs:List V)(H:Hp)(Q:VK)(p:Addr)(ys:List V):Prop:=xs=[.ref p]/\(SqL K H p ys\/SqT K H p ys)/\fE H (.lst ys) Q
def Ic(K:W.Frag):List V->Hp->VK->Prop:=λxs H Q=>Exists (Ex2 (FF K xs H Q))
theorem kQ:dI X (.type "list") (Ic []):=by
 intro Nw s Z H xs us Q I r h;obtain⟨p,ys,rfl,f,q⟩:=h;obtain⟨u,rfl,l⟩:=vals1 r;cases l;have fin:∀(a:List Value),Vals ys a->ys.length<=sizeLine->∀(h':Heap)(c:Nat),(∀b o',s.heap.get? b=some o'->h'.get? b=some o')->
   h'.get? ↥s=some {cls:=.type "list",dict:=none,data:=.seq a.toArray c,slots:=#[]}->EP X Nw Z Q (.ref ↥s) {s with heap:=h'}:=λa d hz h' c kp e=>
  ⟨.ref ↥s,_,I.laid (t':=s.toks) kp (ax _) (show bR X.prog X.w _ h' _ (.lst ys) from ⟨hz,a,c,d,e⟩),rfl,q.at (I.hok.fresh (ax _))⟩
 rcases f with f|f
 .obtain⟨a,d,g,hz⟩:=I.list f;have hlen:=d.length;obtain⟨o,i,j,n,hd⟩:=g.isList;show call_list_seq p (.inl rfl) i j hd (λh' c kp e=>fin a d hz h' c kp e) (by simp only[bK]<;>lia)
 obtain⟨a,d,g,hz⟩:=I.tuple f;have hlen:=d.length;obtain⟨o,i,j,n,hd⟩:=g;show call_list_seq p (.inr rfl) i j hd (λh' c kp e=>fin a d hz h' c kp e) (by simp only[bK]<;>lia)
theorem qN:dI X (.type "tuple") (λxs H Q=>∃p ys,xs=[.ref p]/\((SqL [] H p ys/\∀l,H l=none->Q (.ref l) (upd H l (.tup ys)))\/(SqT [] H p ys/\Q (.ref p) H))):=by
 intro Nw s Z H xs us Q I r h;obtain⟨p,ys,rfl,h⟩:=h;obtain⟨u,rfl,i⟩:=vals1 r;cases i;rcases h with ⟨a,q⟩|⟨a,q⟩
 .obtain⟨c,d,f,hz⟩:=I.list a;have hlen:=d.length;show call_tuple_list f.isList (λh' kp=>?_) (by simp only[bK]<;>lia);have g:Inv X Nw Z H {s with heap:=h'}:=I.kept (t':=s.toks) kp;have j:Inv X Nw Z (upd H h'.objs.size (.tup ys)) {s with heap:=h'.push {cls:=.type "tuple",data:=.seq c.toArray}}:=
   g.laid (t':=s.toks) (λb o e=>bg _ e) (ax _) (show bR X.prog X.w _ _ _ (.tup ys) from ⟨⟨hz,_,cw _ rfl,rfl⟩,c,d,IsTup.new _ _⟩)
  show⟨.ref h'.objs.size,_,j,rfl,q _ (g.hok.fresh (ax _))⟩
 obtain⟨c,d,f,hz⟩:=I.tuple a;show call_tuple_same f ⟨.ref p,H,I,rfl,q⟩
def tyV(K:W.Frag)(T:String)(x:V)(H:Hp):Prop:=match x with
 |.str _=>T = "str"
 |.int _=>T = "int"
 |.ref p=>(T = "list"/\∃xs,SqL K H p xs)\/(T = "tuple"/\∃o,K.lookup p=some o/\o.cls=.type "tuple"/\o.dict=none) \/
   (T = "dict"/\((∃kvs,H p=some (.dK kvs))\/∃kvs,H p=some (.dT kvs)))\/(T = "set"/\∃S n,H p=some (.set S n))
 |_=>False
theorem zo{T:String}{x:V}{v:Value}(I:Inv X Nw Z H s)(r:aD x v)(ty:tyV [] T x H) :
  s.TypeIs v T/\∀a,v=.ref a->∃f,s.heap.get? a=some f/\f.dict=none:=by
 cases x with
 |str z=>
  obtain⟨t,rfl⟩:=r;cases (show T = "str" from ty);show⟨typeIs_str s z t,λ_ e=>nomatch e⟩
 |int i=>
  obtain⟨t,rfl⟩:=r;cases (show T = "int" from ty);show⟨typeIs_int s i t,λ_ e=>nomatch e⟩
 |ref p=>
  cases r;rcases ty with ⟨rfl,xs,h⟩|⟨rfl,o,b,j,hd⟩|⟨rfl,b⟩|⟨rfl,S,n,b⟩
  .obtain⟨l,_,g,_⟩:=I.list h;show⟨g.isList.typeIs,λa e=>?_⟩;cases e;obtain⟨o,n,e,c,hd,_⟩:=g;show⟨o,e,hd⟩
  .cases b
  .have z:∃o,s.heap.get? p=some o/\o.ExactDict:=by
    rcases b with ⟨kvs,b⟩|⟨kvs,b⟩
    .obtain⟨_,_,_,_,o,_,_,e,ex,_⟩:=I.hok p _ b;show⟨o,e,ex⟩
    obtain⟨_,_,_,_,o,_,_,e,ex,_⟩:=I.hok p _ b;show⟨o,e,ex⟩
   obtain⟨o,e,ex⟩:=z;show⟨⟨o,e,ex.1⟩,λa d=>?_⟩;cases d;show⟨o,e,ex.2.1⟩
  obtain⟨o,_,_,_,e,ex,_⟩:=I.hok p _ b;show⟨⟨o,e,ex.1⟩,λa d=>?_⟩;cases d;show⟨o,e,ex.2.1⟩
 |_=>show False.elim ty
def JM(K:W.Frag)(T:String)(r:V->List V->Hp->VK->Prop)(Q:VK):VK:=λx H1=>tyV K T x H1/\r x [] H1 Q
def tBM0(K:W.Frag)(T:String)(r:V->List V->Hp->VK->Prop)(to:TE):TE:=λZ H Q=>to Z H (JM K T r Q)
def tBM2(r:V->List V->Hp->VK->Prop)(x:V)(Q:VK):List V->Hp->Prop:=λxs H2=>r x xs H2 Q
def tBM1(K:W.Frag)(T:String)(r:V->List V->Hp->VK->Prop)(t:TA)(Z:St)(Q:VK):VK:=λx H1=>tyV K T x H1/\t Z H1 (tBM2 r x Q)
def tBM(K:W.Frag)(T:String)(r:V->List V->Hp->VK->Prop)(to:TE)(t:TA):TE:=λZ H Q=>to Z H (tBM1 K T r t Z Q)
variable {o e:Expr}{es:List Expr}{to:TE}{t:TA}{name:Str}{apos cpos:Pos}{T id:String}{r:V->List V->Hp->VK->Prop}
theorem tP(c:PlainAttrs T)(slot:Slot T name id)(d:typeOf (.builtin id)=pure (.type "method_descriptor"))(hm:MtR X id r)(e:PE X o to)
  (f:attributeBase o name X.env (eval o X.env)=eval o X.env:=by rfl) (g:(apos.endLine==cpos.line)=true:=by rfl):PE X (.Call (.Attribute o name apos) [] [] cpos) (tBM0 [] T r to):=by
 intro Nw s Z H Q I h;show wpAny_Call_method0_late f g (thn (e Nw s Z H _ I h) λv s1 ⟨x,H1,a,b,ty,q1⟩=>?_);obtain⟨h1,h2⟩:=zo a b ty;show⟨T,id,c,slot,d,h1,h2,pY rfl (PySem.evalArgs_none (hm Nw s1 Z H1 x [] v [] Q a b .nil q1))⟩
theorem bQ(d:PlainAttrs T)(slot:Slot T name id)(f:typeOf (.builtin id)=pure (.type "method_descriptor"))(hm:MtR X id r)(g:PE X o to)(ha:PA X (e::es) t)
  (i:attributeBase o name X.env (eval o X.env)=eval o X.env:=by rfl)
  (j:((backTo cpos (starEach (e::es) X.env)).all (λx=>!x.1)&&(backToKw cpos (keywordEach [] X.env)).all (λx=>x.1.isSome)
   && decide ((e::es).length+([]:List Keyword).length+(if ([]:List Keyword).isEmpty then 0 else 1)<30))=true:=by rfl)
  (l:(apos.endLine==cpos.line)=true:=by rfl) (m:starEach (e::es) X.env=(false,eval e X.env)::starEach es X.env:=by rfl) (n:(backTo cpos (starEach es X.env)).any (·.1)=false:=by rfl) :
  PE X (.Call (.Attribute o name apos) (e::es) [] cpos) (tBM [] T r to t):=by
 intro Nw s Z H Q I h;show Mb i j l rfl (thn (g Nw s Z H _ I h) λv s1 ⟨x,H1,a,b,ty,q1⟩=>?_);obtain⟨h1,h2⟩:=zo a b ty;show⟨T,id,d,slot,f,h1,h2,?_⟩;have c:=ha cpos Nw s1 Z H1 _ a q1;rw[m] at c |-;show pY (by change (false||(backTo cpos (starEach es X.env)).any (·.1))=false;rw[n]<;>rfl) (uv ?_);show thn c λus s2 ⟨vs,H2,p,q,u⟩=>hm Nw s2 Z H2 x vs v us Q p b q u
end
end L2
namespace L2
open PySem PySem.Spec PyProof.Rows
def MtM(X:Cx)(id:String)(r:V->List V->Hp->VK->Prop):Prop:=
 ∀(Nw:List (Addr×Obj))(s:Shared)(Z:St)(H:Hp)(x:V)(xs:List V)(v:Value)(us:List Value)(Q:VK),Inv X Nw Z H s->aD x v->Vals xs us->r x xs H Q->
  wpAny ⇑X X.A (call (.builtin id) (v::us)) (EP X Nw Z Q) X.xe s
theorem Vals.one{x:V}(h:Vals [x] us):∃u,us=[u]/\aD x u:=by
 cases h with
 |cons r t=>cases t;show⟨_,rfl,r⟩
theorem Vals.two{x y:V}(h:Vals [x,y] us):∃u v,us=[u,v]/\aD x u/\aD y v:=by
 cases h with
 |cons r t=>
  obtain⟨v,rfl,q⟩:=Vals.one t;show⟨_,v,rfl,r,q⟩
theorem Vals.zero:∀{us:List Value},Vals [] us->us=[]
 |_,.nil=>rfl
theorem Vals.dropLast(h:Vals xs us):Vals xs.dropLast us.dropLast:=by
 induction h with
 |nil=>show .nil
 |cons r t a=>
  cases t with
  |nil=>show .nil
  |cons q t'=>show .cons r a
theorem Vals.eraseIdx:∀{xs:List V}{us:List Value}(i:Nat),Vals xs us->Vals (xs.eraseIdx i) (us.eraseIdx i)
 |_,_,_,.nil=>.nil
 |_,_,0,.cons _ t=>t
 |_,_,i+1,.cons r t=>.cons r (Vals.eraseIdx i t)
theorem Vals.reverse(h:Vals xs us):Vals xs.reverse us.reverse:=by
 induction h with
 |nil=>show .nil
 |cons r t a=>rw[fH,fH];show Vals.append a (.cons r .nil)
theorem Cm{α:Type}(l:List α):l.eraseIdx (l.length-1)=l.dropLast:=by
 induction l with
 |nil=>rfl
 |cons a r c=>
  cases r with
  |nil=>rfl
  |cons b r=>
   have e:(a::b::r).length-1=((b::r).length-1)+1:=by have h1:(a::b::r).length=r.length+2:=rfl;have h2:(b::r).length=r.length+1:=rfl;lia
   rw[e,List.eraseIdx_cons_succ,c]
   all_goals rfl
theorem wm{α:Type}:∀(l:List α)(i:Nat),(l.eraseIdx i).length<=l.length
 | [],_=>ax _
 |_::_,0=>qB _
 |_::r,i+1=>Nat.succ_le_succ (wm r i)
section
variable {l b:Addr}{xs ys zs:List V}
theorem Inv.lset{a its':List Value}{n:Nat}{f:Array Value->Array Value}{t':Nat}(I:Inv X Nw Z H s)(b:H l=some (.lst xs))
  (e:s.heap.get? l=some {cls:=.type "list",data:=.seq a.toArray n}) (hf:f a.toArray=its'.toArray) (c:Vals ys its') (hz:ys.length<=sizeLine) :
  Inv X Nw Z (upd H l (.lst ys)) {s with heap:=s.heap.update l (Obj.mapSeq f),toks:=t'}:=by
 have q:=PySem.IsL.update e f;rw[hf] at q;show I.write (x:=l) (e:=l) (by rw[b];show trivial) (.inl rfl) (λh u d g=>(nJ s.heap (Obj.mapSeq f) (aG d)).trans g) ⟨_,q⟩ ?_;show⟨hz,its',_,c,q⟩
theorem Inv.lnew{a:List Value}{t':Nat}(I:Inv X Nw Z H s)(b:Vals ys a)(hz:ys.length<=sizeLine) :
  Inv X Nw Z (upd H ↥s (.lst ys)) {s with heap:=s.heap.push {cls:=.type "list",data:=.seq a.toArray},toks:=t'}:=
 I.laid (λ_ _ q=>bg _ q) (ax _) ⟨hz,a,0,b,cw _ rfl⟩
theorem Inv.fresh(I:Inv X Nw Z H s):H ↥s=none:=I.hok.fresh (ax _)
theorem Inv.lstM(I:Inv X Nw Z H s)(b:H l=some (.lst xs)):xs.length<=sizeLine/\∃(a:List Value)(n:Nat),Vals xs a/\xs.length=a.length/\s.heap.get? l=some {cls:=.type "list",data:=.seq a.toArray n}:=by obtain⟨z,a,n,r,e⟩:=I.hok l _ b;show⟨z,a,n,r,r.length,e⟩
end
section
def D7(x:V)(vs:List V)(H:Hp)(Q:VK)(l:Addr)(xs:List V)(y:V):Prop:=x=.ref l/\vs=[y]/\H l=some (.lst xs)/\xs.length<sizeLine/\WrO H l (.lst (xs++[y])) (Q .non)
def FJ:V->List V->Hp->VK->Prop:=λx vs H Q=>Exists (Ex3 (D7 x vs H Q))
theorem cq:MtM X "list.append" FJ:=by intro Nw s Z H x vs v us Q I c d h;obtain⟨l,xs,y,rfl,rfl,a,hz,q⟩:=h;cases c;obtain⟨u,rfl,f⟩:=d.one;obtain⟨z,b,n,r,g,e⟩:=I.lstM a;show qG F.slot_list_append ⟨_,e,rfl⟩ F.entry_list_append (F.args_list_append_2 _ _) (PySem.list_append l b.toArray n u (by rw[bK];lia)) ⟨e,?_⟩;show⟨.non,_,I.lset (its':=b++[u]) a e ∅ (r.append (.cons f .nil)) ?_,rfl,q.at⟩;rw[ao,aV];lia
def JV(x:V)(vs:List V)(H:Hp)(Q:VK)(l:Addr)(xs:List V)(y:V):Prop:=x=.ref l/\vs=[]/\H l=some (.lst xs)/\xs[xs.length-1]?=some y/\WrO H l (.lst xs.dropLast) (Q y)
def rPop:V->List V->Hp->VK->Prop:=λx vs H Q=>Exists (Ex3 (JV x vs H Q))
theorem zO:MtM X "list.pop" rPop:=by
 intro Nw s Z H x vs v us Q I c d h;obtain⟨l,xs,y,rfl,rfl,b,f,q⟩:=h;cases c;have g:=d.zero;subst g;obtain⟨z,a,n,r,i,e⟩:=I.lstM b;obtain⟨u,j,m⟩:=r.get f;have o:a.toArray[a.toArray.size-1]?=some u:=by change a.toArray[a.length-1]?=some u;rw[<-ip,<-i];show j
 show qG F.slot_list_pop ⟨_,e,rfl⟩ F.entry_list_pop (F.args_list_pop_1 _) (MeetsSeq.list_pop_last l a.toArray n u o (by rw[bK];lia)) ⟨e,?_⟩;show⟨y,_,I.lset (its':=a.dropLast) b e ?_ r.dropLast ?_,m,q.at⟩
 .change a.toArray.eraseIdxIfInBounds (a.toArray.size-1)=a.dropLast.toArray;rw[bK,K0,Cm]
 rw[qr];lia
def FE(x:V)(vs:List V)(H:Hp)(Q:VK)(l:Addr)(xs:List V)(i:Int)(k:Nat)(y:V):Prop:=x=.ref l/\vs=[.int i]/\H l=some (.lst xs)/\-(2 ^ 63)<=i/\i<2 ^ 63/\seqIndex? i xs.length=some k/\xs[k]?=some y/\WrO H l (.lst (xs.eraseIdx k)) (Q y)
def zF:V->List V->Hp->VK->Prop:=λx vs H Q=>Exists (Ex5 (FE x vs H Q))
theorem rJ:MtM X "list.pop" zF:=by
 intro Nw s Z H x vs v us Q I c d h;obtain⟨l,xs,i,k,y,rfl,rfl,b,h1,h2,f,g,q⟩:=h;cases c;obtain⟨u,rfl,j⟩:=d.one;obtain⟨t,rfl⟩:=j;obtain⟨z,a,n,r,m,e⟩:=I.lstM b;obtain⟨w,hw,o⟩:=r.get g;show qG F.slot_list_pop ⟨_,e,rfl⟩ F.entry_list_pop (F.args_list_pop_2 _ _)
  (MeetsSeq.list_pop_at l a.toArray n i t k w (L6 h1 h2) (by rw[bK,<-m];show f) (by rw[<-ip];show hw) (by rw[bK];lia)) ⟨e,?_⟩
 show⟨y,_,I.lset (its':=a.eraseIdx k) b e ?_ (r.eraseIdx k) ?_,o,q.at⟩
 .change a.toArray.eraseIdxIfInBounds k=(a.eraseIdx k).toArray;rw[K0]
 have:=wm xs k;lia
def D3:V->List V->Hp->VK->Prop:=λx vs H Q=>∃l xs,x=.ref l/\vs=[]/\H l=some (.lst xs)/\Q .non (upd H l (.lst xs.reverse))
theorem Ce:MtM X "list.reverse" D3:=by intro Nw s Z H x vs v us Q I c d h;obtain⟨l,xs,rfl,rfl,a,q⟩:=h;cases c;have f:=d.zero;subst f;obtain⟨z,b,n,r,g,e⟩:=I.lstM a;show qG F.slot_list_reverse ⟨_,e,rfl⟩ F.entry_list_reverse (F.args_list_reverse_1 _) (AutoSeq1.list_reverse_list_0 l b.toArray n (by rw[bK];lia)) ⟨e,?_⟩;show⟨.non,_,I.lset (its':=b.reverse) a e ∅ r.reverse ?_,rfl,q⟩;rw[AO];lia
def J4(x y:V)(H:Hp)(Q:VK)(l b:Addr)(xs zs:List V):Prop:=x=.ref l/\y=.ref b/\H l=some (.lst xs)/\H b=some (.lst zs)/\xs.length+zs.length<=sizeLine/\fE H (.lst (xs++zs)) Q
def rCat:R2:=λx y H Q=>Exists (Ex4 (J4 x y H Q))
theorem du:OpR X (binaryOp .Add) rCat:=by intro Nw s Z H x y v u Q I d f h;obtain⟨l,b,xs,zs,rfl,rfl,g,i,hz,q⟩:=h;cases d;cases f;obtain⟨z,a,n,r,o,e⟩:=I.lstM g;obtain⟨p,c,w,j,A,m⟩:=I.lstM i;show PySem.P.add_list e m ?_ (by rw[bK,bK];lia);have ea:a.toArray++c.toArray=(a++c).toArray:=∅;rw[ea];show⟨.ref _,_,I.lnew (t':=s.toks) (r.append j) (by rw[ao];lia),rfl,q.at I.fresh⟩
end
section
variable {prog:Program}
set_option maxRecDepth 100000 in
end
section
end
end L2
namespace L2
open PySem PySem.Spec PyProof.Rows
section
variable {κ:Type}[DecidableEq κ]
def valV(kvs:List (κ×V))(k:κ):Option V:=(kvs.find? λa=>decide (a.1=k)).map (·.2)
def cN(kvs:List (κ×V))(k:κ)(v:V):List (κ×V):=
 if (kvs.any λa=>decide (a.1=k))=true then kvs.map (λa=>if a.1=k then (a.1,v) else a) else kvs++[(k,v)]
def jm(kvs:List (κ×V))(k:κ):List (κ×V):=kvs.filter λa=>decide (a.1≠k)
theorem dC{p:κ×V}{r:List (κ×V)}{k:κ}(e:p.1=k):valV (p::r) k=some p.2:=by simp[valV,nP,e]
theorem dq{p:κ×V}{r:List (κ×V)}{k:κ}(e:¬p.1=k):valV (p::r) k=valV r k:=by simp[valV,nP,e]
theorem jL(k:κ):∀kvs:List (κ×V),(kvs.any λa=>decide (a.1=k))=(valV kvs k).isSome
 | []=>rfl
 |p::r=>by
  rw[jt];by_cases e:p.1=k
  .simp only[dC e,Nt e,Bool.true_or,Option.isSome_some]
  rw[dq e,Nu e,KI];show jL k r
theorem wU(k j:κ)(y:V):∀kvs:List (κ×V),valV (kvs.map λa=>if a.1=k then (a.1,y) else a) j=(valV kvs j).map λx=>if j=k then y else x
 | []=>rfl
 |p::r=>by
  have b:=wU k j y r;rw[az];by_cases h:p.1=k
  .rw[Nq h];by_cases e:p.1=j
   .rw[dC (p:=(p.1,y)) e,dC e,iu,Nq (e.symm.trans h)]
   rw[dq (p:=(p.1,y)) e,dq e,b]
  rw[Np h];by_cases e:p.1=j
  .rw[dC (p:=p) e,dC e,iu,Np (λz=>h (e.trans z))]
  rw[dq (p:=p) e,dq e,b]
theorem vS(k j:κ)(y:V):∀kvs:List (κ×V),valV kvs k=none->valV (kvs++[(k,y)]) j=if j=k then some y else valV kvs j
 | [],_=>by
  by_cases e:k=j
  .rw[Nq e.symm];show dC (p:=(k,y)) e
  rw[Np (λz=>e z.symm)];show dq (p:=(k,y)) e
 |p::r,a=>by
  rw[fc];have b:¬p.1=k:=λz=>by rw[dC z] at a;cases a
  rw[dq b] at a;have c:=vS k j y r a;by_cases e:p.1=j
  .rw[dC e,dC e,Np (λz=>b (e.trans z))]
  rw[dq e,dq e,c]
theorem wR(kvs:List (κ×V))(k j:κ)(y:V):valV (cN kvs k y) j=if j=k then some y else valV kvs j:=by
 unfold cN;by_cases a:(kvs.any λb=>decide (b.1=k))=true
 .rw[Nq a,wU];rw[jL] at a;by_cases e:j=k
  .obtain⟨x,c⟩:=uW.mp a;rw[Nq e,e,c,iu,Nq rfl]
  rw[Np e];cases valV kvs j with
  |none=>rfl
  |some x=>rw[iu,Np e]
 rw[Np a];show vS k j y kvs ?_;rw[jL] at a;cases q:valV kvs k with
 |none=>rfl
 |some x=>rw[q] at a;show (a rfl).elim
theorem kS(kvs:List (κ×V))(k:κ)(v:V):(cN kvs k v).length<=kvs.length+1:=by
 unfold cN
 split
 .rw[aE];lia
 rw[ao,aS,iQ];lia
theorem rD{kvs:List (κ×V)}{k:κ}(v:V)(h:valV kvs k=none):cN kvs k v=kvs++[(k,v)]:=by unfold cN;rw[jL,h];show Np ⋯
theorem eQ.isSome_eq{o:Option V}{u:Option Value}(r:eQ o u):o.isSome=u.isSome:=by
 cases o with
 |none=>cases u with
  |none=>rfl
  |some _=>show (show False from r).elim
 |some _=>cases u with
  |none=>show (show False from r).elim
  |some _=>rfl
theorem eQ.getD{o:Option V}{u:Option Value}{d:V}{d':Value}(r:eQ o u)(rd:aD d d'):aD (o.getD d) (u.getD d'):=by
 cases o with
 |none=>cases u with
  |none=>show rd
  |some _=>show (show False from r).elim
 |some _=>cases u with
  |none=>show (show False from r).elim
  |some _=>show r
theorem KV.val{kvs:List (κ×V)}{vs:List (κ×Value)}(r:KV kvs vs)(k:κ):eQ (valV kvs k) (valueAt vs k):=by
 unfold KV at r;induction r with
 |nil=>show True.intro
 | @cons p q ps a h t d=>
  obtain⟨h1,h2⟩:=h;by_cases e:p.1=k
  .have c:q.1=k:=h1.symm.trans e;have b:valueAt (q::a) k=some q.2:=by simp[valueAt,nP,c]
   rw[dC e,b];show h2
  have c:¬q.1=k:=λz=>e (h1.trans z);have b:valueAt (q::a) k=valueAt a k:=by simp[valueAt,nP,c]
  rw[dq e,b];show d
theorem KV.any{kvs:List (κ×V)}{vs:List (κ×Value)}(r:KV kvs vs)(k:κ):(kvs.any λa=>decide (a.1=k))=vs.any λa=>decide (a.1=k):=by
 unfold KV at r;induction r with
 |nil=>rfl
 |cons h t b=>rw[jt,jt,b,h.1]
theorem KV.repl{kvs:List (κ×V)}{vs:List (κ×Value)}(r:KV kvs vs)(k:κ){y:V}{u:Value}(b:aD y u) :
  KV (kvs.map λa=>if a.1=k then (a.1,y) else a) (vs.map λa=>if a.1=k then (a.1,u) else a):=by
 unfold KV at r |-;induction r with
 |nil=>show .nil
 | @cons p q ps d h t c=>
  rw[az,az];show .cons ?_ c;obtain⟨h1,h2⟩:=h;by_cases e:p.1=k
  .rw[Nq e,Nq (h1.symm.trans e)];show⟨h1,b⟩
  rw[Np e,Np (λz=>e (h1.trans z))];show⟨h1,h2⟩
theorem KV.put{kvs:List (κ×V)}{vs:List (κ×Value)}(r:KV kvs vs)(k:κ){y:V}{u:Value}(a:aD y u):KV (cN kvs k y) (stored vs k u):=by
 unfold cN stored;rw[r.any k];by_cases e:(vs.any λb=>decide (b.1=k))=true
 .rw[Nq e,Nq e];show r.repl k a
 rw[Np e,Np e];show Lw r ⟨rfl,a⟩
theorem KV.drop{kvs:List (κ×V)}{vs:List (κ×Value)}(r:KV kvs vs)(k:κ):KV (jm kvs k) (without vs k):=by
 unfold KV at r |-;unfold jm without;induction r with
 |nil=>show .nil
 | @cons p q ps f h t c=>
  obtain⟨h1,h2⟩:=h;rw[iP,iP];by_cases e:p.1=k
  .have a:¬decide (p.1≠k)=true:=by simp[e]
   have b:¬decide (q.1≠k)=true:=by simp[h1.symm.trans e]
   rw[Np a,Np b];show c
  have d:¬q.1=k:=λz=>e (h1.trans z);have a:decide (p.1≠k)=true:=by simp[e]
  have b:decide (q.1≠k)=true:=by simp[d]
  rw[Nq a,Nq b];show .cons ⟨h1,h2⟩ c
theorem KV.length{kvs:List (κ×V)}{vs:List (κ×Value)}(r:KV kvs vs):kvs.length=vs.length:=nZ r
theorem EU(kvs:List (κ×V))(k:κ):(jm kvs k).length<=kvs.length:=kK _ _
end
theorem iK{k:Key}{u:Value}(r:aD (kV k) u):(di P w).is k u=true:=by
 cases k with
 |inl i=>obtain⟨t,e⟩:=(show ∃t,u=Value.int i t from r);subst e;show BI P w i t
 |inr x=>obtain⟨t,e⟩:=(show ∃t,u=Value.str x t from r);subst e;show BH P w x t
theorem wq:∀{ks:List Key}{us:List Value},Vals (ks.map kV) us->ItemsAre (di P w) ks us
 | [],_,r=>by rw[fG] at r;cases r;show .nil
 |k::ks,_,r=>by
  rw[az] at r;cases r with
  |cons h t=>show .cons (iK h) (wq t)
abbrev KT(H:Hp):List (List Key×V)->List (List Key×Addr×Value)->Prop:=Paired λp q=>p.1=q.1/\H q.2.1=some (.tup (p.1.map kV))/\aD p.2 q.2.2
theorem KT.val{kvs:List (List Key×V)}{xs:List (List Key×Addr×Value)}(r:KT H kvs xs)(k:List Key):eQ (valV kvs k) ((atKey xs k).map (·.2)):=by
 induction r with
 |nil=>show True.intro
 | @cons p q ps a h t d=>
  obtain⟨h1,_,h2⟩:=h;by_cases e:p.1=k
  .have c:q.1=k:=h1.symm.trans e;have b:atKey (q::a) k=some q.2:=by simp[atKey,nP,c]
   rw[dC e,b];show h2
  have c:¬q.1=k:=λz=>e (h1.trans z);have b:atKey (q::a) k=atKey a k:=by simp[atKey,nP,c]
  rw[dq e,b];show d
theorem KT.repl{kvs:List (List Key×V)}{xs:List (List Key×Addr×Value)}(r:KT H kvs xs)(k:List Key){y:V}{u:Value}(b:aD y u) :
  KT H (kvs.map λa=>if a.1=k then (a.1,y) else a) (xs.map (putAt k u)):=by
 induction r with
 |nil=>show .nil
 | @cons p q ps f h t c=>
  rw[az,az];show .cons ?_ c;obtain⟨h1,h2,d⟩:=h;unfold putAt;by_cases e:p.1=k
  .rw[Nq e,Nq (h1.symm.trans e)];show⟨h1,h2,b⟩
  rw[Np e,Np (λz=>e (h1.trans z))];show⟨h1,h2,d⟩
theorem KT.put{kvs:List (List Key×V)}{xs:List (List Key×Addr×Value)}(r:KT H kvs xs)(k:List Key){b:Addr}{y:V}{u:Value}(c:H b=some (.tup (k.map kV)))(a:aD y u) :
  KT H (cN kvs k y) (storedH xs k b u):=by
 have e:(kvs.any λd=>decide (d.1=k))=(atKey xs k).isSome:=by rw[jL,(r.val k).isSome_eq,A4]
 unfold cN storedH;rw[e];by_cases q:(atKey xs k).isSome=true
 .rw[Nq q,Nq q];show r.repl k a
 rw[Np q,Np q];show Lw r ⟨rfl,c,a⟩
theorem KT.keeps{kvs:List (List Key×V)}{xs:List (List Key×Addr×Value)}(r:KT H kvs xs)(a:∀b ys,H b=some (.tup ys)->H' b=some (.tup ys)):KT H' kvs xs:=
 Paired.mapP r λ_ _ z=>⟨z.1,a _ _ z.2.1,z.2.2⟩
section
variable {h:Heap}{a:Addr}
theorem Aj{u:HO}(ok:HOk P w H h)(e:Rd H a u):bR P w H h a u:=e.ok ok
theorem gG{kvs:List (Key×V)}(ok:HOk P w H h)(e:Rd H a (.dK kvs)):kvs.length<=sizeLine/\(a==sysModules)=false/\∃vs,KV kvs vs/\h.DictOf (di P w) a vs:=
 show bR P w H h a (.dK kvs) from Aj ok e
theorem pP{kvs:List (Key×V)}(ok:HOk P w H h)(e:H a=some (.dK kvs)):kvs.length<=sizeLine/\(a==sysModules)=false/\∃vs,KV kvs vs/\h.DictOf (di P w) a vs:=gG ok (.inl e)
theorem j9{ks:List Key}(ok:HOk P w H h)(e:H a=some (.tup (ks.map kV))):(tupleKind (di P w)).is h ks a:=by obtain⟨_,b,r,o,h1,h2,n,c⟩:=(show bR P w H h a (.tup (ks.map kV)) from ok a _ e);show⟨o,b.toArray,n,h1,h2,c,‹wq r›⟩
theorem iM{kvs:List (List Key×V)}(ok:HOk P w H h)(e:Rd H a (.dT kvs)):kvs.length<=sizeLine/\(a==sysModules)=false/\
  ∃xs,KT H kvs xs/\h.DictOfH (tupleKind (di P w)) a xs:=by
 obtain⟨z,y,xs,r,o,es,ep,h1,h2,d,f,g⟩:=(show bR P w H h a (.dT kvs) from Aj ok e);show⟨z,y,xs,r,o,es,ep,h1,h2,d,f,λx b=>?_,g⟩;have all:∀{l:List (List Key×V)}{m:List (List Key×Addr×Value)},KT H l m->∀x∈m,(tupleKind (di P w)).is h x.1 x.2.1:=by
  intro l m q;induction q with
  |nil=>intro x b;show nomatch b
  | @cons p q ps j c t i=>
   intro x b;rcases ae.mp b with e|b
   .subst e;show j9 ok (by rw[<-c.1];show c.2.1)
   show i x b
 show all r x b
theorem As{kvs:List (List Key×V)}(ok:HOk P w H h)(e:H a=some (.dT kvs)):kvs.length<=sizeLine/\(a==sysModules)=false/\
  ∃xs,KT H kvs xs/\h.DictOfH (tupleKind (di P w)) a xs:=iM ok (.inl e)
end
def DGet(H:Hp)(a:Addr)(y:V)(r:Option V):Prop:=
 (∃kvs k,Rd H a (.dK kvs)/\y=kV k/\r=valV kvs k)\/∃kvs k b,Rd H a (.dT kvs)/\y=.ref b/\H b=some (.tup (k.map kV))/\r=valV kvs k
def DPut(H:Hp)(a:Addr)(y v:V)(H':Hp):Prop:=
 (∃kvs k,H a=some (.dK kvs)/\y=kV k/\kvs.length<sizeLine/\H'=upd H a (.dK (cN kvs k v))) \/
 ∃kvs k b,H a=some (.dT kvs)/\y=.ref b/\H b=some (.tup (k.map kV))/\kvs.length<sizeLine/\H'=upd H a (.dT (cN kvs k v))
theorem DGet.t{a b:Addr}{kvs:List (List Key×V)}{k:List Key}(e:H a=some (.dT kvs))(eb:H b=some (.tup (k.map kV))):DGet H a (.ref b) (valV kvs k):=.inr ⟨kvs,k,b,.inl e,rfl,eb,rfl⟩
theorem DPut.k{a:Addr}{kvs:List (Key×V)}{k:Key}{v:V}(e:H a=some (.dK kvs))(b:kvs.length<sizeLine):DPut H a (kV k) v (upd H a (.dK (cN kvs k v))):=.inl ⟨kvs,k,e,rfl,b,rfl⟩
theorem DPut.t{a b:Addr}{kvs:List (List Key×V)}{k:List Key}{v:V}(e:H a=some (.dT kvs))(eb:H b=some (.tup (k.map kV)))(c:kvs.length<sizeLine) :
  DPut H a (.ref b) v (upd H a (.dT (cN kvs k v))):=.inr ⟨kvs,k,b,e,rfl,eb,c,rfl⟩
section
variable {a:Addr}{y v:V}{u r:Value}{o:Option V}
theorem Inv.big(I:Inv X Nw Z H s):sysModules<↥s:=by have h:mainGlobals<↥s:=(I.mod.glob.keeps I.bk).lt;show Nat.lt_trans ⋯ h
theorem De{Q:Value->Shared->Prop}(m:A.units+1<cLine)(I:Inv X Nw Z H s)(g:DGet H a y (some v))(j:aD y u)(h:∀c s',Inv X Nw Z H s'->aD v c->Q c s') :
  wpAny ⇑X A (getItem (.ref a) u) Q E s:=by
 rcases g with ⟨kvs,k,e,d,l⟩|⟨kvs,k,b,e,d,eb,l⟩
 .subst d;obtain⟨z,hd,vs,rel,f⟩:=gG I.hok e;obtain⟨c,hw,i⟩:=eQ.some_of (v:=v) (o:=valueAt vs k) (by rw[l];show rel.val k);show wpAny_getItem_of (iK j) f.mapOf hw (h c _ (I.tok _) i)
 subst d;cases (show u=Value.ref b from j);obtain⟨z,hd,xs,rel,f⟩:=iM I.hok e;obtain⟨c,hw,i⟩:=eQ.some_of (v:=v) (o:=(atKey xs k).map (·.2)) (by rw[l];show rel.val k);obtain⟨p,n,q⟩:=eG.mp hw;show wpAny_getItem_heap (qH m) (j9 I.hok eb) f n ?_;rw[q];show h c _ (I.tok _) i
theorem d_in{Q:Value->Shared->Prop}(i:A.units+1<cLine)(I:Inv X Nw Z H s)(g:DGet H a y o)(f:aD y u)(h:∀s',Inv X Nw Z H s'->Q (.bool o.isSome) s') :
  wpAny ⇑X A (compareOp .In u (.ref a)) Q E s:=by
 rcases g with ⟨kvs,k,e,c,l⟩|⟨kvs,k,b,e,c,eb,l⟩
 .subst c;obtain⟨z,hd,vs,rel,d⟩:=gG I.hok e;show wpAny_in_of (iK f) hd d.mapOf ?_;rw[<-(rel.val k).isSome_eq,<-l];show h _ (I.tok _)
 subst c;cases (show u=Value.ref b from f);obtain⟨z,hd,xs,rel,d⟩:=iM I.hok e;show wpAny_in_heap (qH i) (j9 I.hok eb) hd d ?_;have q:=(rel.val k).isSome_eq;rw[A4] at q;rw[<-q,<-l];show h _ (I.tok _)
theorem Gy{Q:Value->Shared->Prop}(i:A.units+1<cLine)(I:Inv X Nw Z H s)(g:DGet H a y o)(f:aD y u)(h:∀s',Inv X Nw Z H s'->Q (.bool (!o.isSome)) s') :
  wpAny ⇑X A (compareOp .NotIn u (.ref a)) Q E s:=by
 rcases g with ⟨kvs,k,e,c,l⟩|⟨kvs,k,b,e,c,eb,l⟩
 .subst c;obtain⟨z,hd,vs,rel,d⟩:=gG I.hok e;show wpAny_notIn_of (iK f) hd d.mapOf ?_;rw[<-(rel.val k).isSome_eq,<-l];show h _ (I.tok _)
 subst c;cases (show u=Value.ref b from f);obtain⟨z,hd,xs,rel,d⟩:=iM I.hok e;show wpAny_notIn_heap (qH i) (j9 I.hok eb) hd d ?_;have q:=(rel.val k).isSome_eq;rw[A4] at q;rw[<-q,<-l];show h _ (I.tok _)
theorem oY{h':Heap}{t':Nat}{c:HO}(I:Inv X Nw Z H s)(d:Mut (H a))(f:Heap.SameBut a s.heap h')(he:∃q,h'.get? a=some q)(new:bR X.prog X.w (upd H a c) h' a c) :
  Inv X Nw Z (upd H a c) {s with heap:=h',toks:=t'}:=
 I.write (x:=a) (e:=a) d (.inl rfl) (λb q g z=>(f.2 b g).trans z) he new
theorem tS{H':Hp}{h':Heap}{kvs:List (Key×V)}{vs:List (Key×Value)}(z:kvs.length<=sizeLine)(hd:(a==sysModules)=false)(rel:KV kvs vs)(b:h'.DictOf (di P w) a vs) :
  bR P w H' h' a (.dK kvs):=⟨z,hd,vs,rel,b⟩
theorem Dd{H':Hp}{Q:Unit->Shared->Prop}(C:A.units+1<cLine)(I:Inv X Nw Z H s)(g:DPut H a y v H')(p:aD y u)(x:aD v r)(h:∀s',Inv X Nw Z H' s'->Q .unit s') :
  wpAny ⇑X A (setItem (.ref a) u r) Q E s:=by
 rcases g with ⟨kvs,k,e,i,l,j⟩|⟨kvs,k,b,e,i,eb,l,j⟩
 .subst i j;obtain⟨z,hd,vs,rel,m⟩:=pP I.hok e;have hz:vs.length<=sizeLine:=by rw[<-rel.length];show z
  have n:(cN kvs k v).length<=sizeLine:=by have:=kS kvs k v;lia
  show wpAny_setItem_pairs (hsz:=hz) (iK p) m λh' d o=>h _ ?_;have he:∃q,h'.get? a=some q:=let ⟨q,_,_,f,_⟩:=d;⟨q,f⟩;show oY I (by rw[e];show True.intro) o he (tS n hd (rel.put k x) d)
 subst i j;cases (show u=Value.ref b from p);obtain⟨z,hd,xs,rel,m⟩:=As I.hok e;have hz:xs.length<=sizeLine:=by rw[<-nZ rel];show z
 have n:(cN kvs k v).length<=sizeLine:=by have:=kS kvs k v;lia
 show wpAny_setItem_heap (hsz:=hz) (qH C) (j9 I.hok eb) m λh' d o=>h _ ?_;obtain⟨q,es,ep,f,h2,D,K,_,L⟩:=d;show oY I (by rw[e];show True.intro) o ⟨q,f⟩ ⟨n,hd,_,(rel.put k eb x).keeps λc ys B=>?_,q,es,ep,f,h2,D,K,L⟩;rw[bh (bD B e (λz=>nomatch z))];show B
end
section
variable {a:Addr}{kvs:List (Key×V)}{k:Key}{u:Value}
theorem Kt{v:V}{more:List Value}{Q:Value->Shared->Prop}(I:Inv X Nw Z H s)(e:H a=some (.dK kvs))(c:aD (kV k) u)(l:valV kvs k=some v)(hm:more=[]\/∃x,more=[x])
  (h:∀b s',Inv X Nw Z (upd H a (.dK (jm kvs k))) s'->aD v b->Q b s'):wpAny ⇑X A (call (.builtin "dict.pop") (.ref a::u::more)) Q E s:=by
 obtain⟨z,hd,vs,rel,d⟩:=pP I.hok e;obtain⟨b,hw,g⟩:=eQ.some_of (v:=v) (o:=valueAt vs k) (by rw[<-l];show rel.val k);have j:(keyPart u).isSome=true:=by
  cases k with
  |inl i=>obtain⟨t,q⟩:=(show ∃t,u=Value.int i t from c);subst q;rfl
  |inr x=>obtain⟨t,q⟩:=(show ∃t,u=Value.str x t from c);subst q;rfl
 have ha:argsOk "dict.pop" ⟨.ref a::u::more,[]⟩:=by
  rcases hm with q|⟨x,q⟩
  .subst q;show PySem.F.args_dict_pop_2 _ _
  subst q;show PySem.F.args_dict_pop_3 _ _ _
 show A_ LL d.typeIs PySem.F.entry_dict_pop ha (meets_dict_pop_there (di X.prog X.w) a (iK c) more hm j)
  ⟨vs,b,d,by rw[<-rel.length];show z,hw,λh' f m=>h b _ ?_ g⟩
 have he:∃q,h'.get? a=some q:=let ⟨q,_,_,n,_⟩:=f;⟨q,n⟩;show oY I (by rw[e];show True.intro) m he (tS (cC (EU kvs k) z) hd (rel.drop k) f)
end
def NoSl(i:Expr):Prop:=∀a b,subscripted i false a b=operate [a,b] (getItem a b)
theorem Fj{prog:Program}{env:Env}{value slice:Expr}{pos:Pos}{T id:String}{Q:Value->Shared->Prop}
  (b:typeLookup (.type T) "__getitem__" = pure (some (.builtin id))) (c:NoSl slice)
  (h:wpAny (model prog w) A (eval value env) (λo s₁=>wpAny (model prog w) A (eval slice env) (λi s₂=>s₂.TypeIs o T/\wpAny (model prog w) A (getItem o i) Q E s₂) E s₁) E s) :
  wpAny (model prog w) A (eval (.Subscript value slice pos) env) Q E s:=by
 show u_ (fk h (λo s₁ h₁=>fk h₁ (λi s₂ h₂=>?_) λ_ _ x=>x) λ_ _ x=>x);obtain⟨a,h₂⟩:=h₂;unfold subscriptTail;show ag ?_;rw[getitemInPython_of_ne a.not_modules];show ag (vn a b ?_);have fin:wpAny (model prog w) A (subscripted slice false o i) (λr s₃=>wpAny (model prog w) A (letTemporaryGo value o r >>= λ_=>pure r) Q E s₃) E s₂:=by rw[c o i];show wpAny_operating (fk h₂ (λr s₃ h₃=>ag (wpAny_letTemporaryGo (aB h₃))) λ_ _ x=>x)
 first
  |show aB (ag fin)
  |show ag (aB (ag fin))
  |show ag fin
theorem BM{a:Addr}{y:V}{o:Option V}(I:Inv X Nw Z H s)(g:DGet H a y o):s.TypeIs (.ref a) "dict":=by
 rcases g with ⟨kvs,k,e,_,_⟩|⟨kvs,k,b,e,_,_,_⟩
 .obtain⟨_,_,vs,_,c⟩:=gG I.hok e;show c.typeIs
 obtain⟨_,_,xs,_,c⟩:=iM I.hok e;show c.typeIs
def HA(x y:V)(H2:Hp)(Q:VK)(a:Addr)(v:V):Prop:=x=.ref a/\DGet H2 a y (some v)/\Q v H2
def Fh(x:V)(Q:VK):VK:=λy H2=>Exists (Ex2 (HA x y H2 Q))
def Hz(ty:TE)(Z:St)(Q:VK):VK:=λx H1=>ty Z H1 (Fh x Q)
def JF(td ty:TE):TE:=λZ H Q=>td Z H (Hz ty Z Q)
def JC(x y:V)(H2:Hp)(Q:VK)(a:Addr)(o:Option V):Prop:=x=.ref a/\DGet H2 a y o/\Q (.bl o.isSome) H2
def JD(y:V)(Q:VK):VK:=λx H2=>Exists (Ex2 (JC x y H2 Q))
def JE(td:TE)(Z:St)(Q:VK):VK:=λy H1=>td Z H1 (JD y Q)
def tDIn(ty td:TE):TE:=λZ H Q=>ty Z H (JE td Z Q)
def Dz(x y:V)(H2:Hp)(Q:VK)(a:Addr)(o:Option V):Prop:=x=.ref a/\DGet H2 a y o/\Q (.bl (!o.isSome)) H2
def DA(y:V)(Q:VK):VK:=λx H2=>Exists (Ex2 (Dz x y H2 Q))
def DB(td:TE)(Z:St)(Q:VK):VK:=λy H1=>td Z H1 (DA y Q)
def Fg(ty td:TE):TE:=λZ H Q=>ty Z H (DB td Z Q)
def HS(D:Ends)(Z:St)(v x y:V)(c:Hp)(a:Addr)(b:Hp):Prop:=x=.ref a/\DPut c a y v b/\D.nx Z b
def HU(D:Ends)(Z:St)(v x:V):VK:=λy a=>Exists (Ex2 (HS D Z v x y a))
def HV(ty:TE)(D:Ends)(Z:St)(v:V):VK:=λx H2=>ty Z H2 (HU D Z v x)
def HW(td ty:TE)(D:Ends)(Z:St):VK:=λv H1=>td Z H1 (HV ty D Z v)
def JP(td ty tv:TE):TS:=λD Z H=>tv Z H (HW td ty D Z)
section
variable {o i e value:Expr}{pos pos' tpos:Pos}{td ty tv:TE}
theorem hU(c:X.A.units+1<cLine)(d:PE X o td)(hi:PE X i ty)(e:NoSl i):PE X (.Subscript o i pos) (JF td ty):=by intro Nw s Z H Q I h;show Fj PySem.F.slot_dict_getitem.lookup e (thn (d Nw s Z H _ I h) λu s1 ⟨x,H1,f,j,q1⟩=>thn (hi Nw s1 Z H1 _ f q1) λq s2 ⟨y,H2,b,l,a,v,ex,g,m⟩=>?_);subst ex;obtain rfl:u=Value.ref a:=j;show⟨BM b g,De c b g l λr w n p=>⟨v,H2,n,p,m⟩⟩
theorem mT(b:X.A.units+1<cLine)(hi:PE X i ty)(c:PE X o td):PC X .In i o (tDIn ty td):=by intro Nw s Z H Q I h;show thn (hi Nw s Z H _ I h) λp s1 ⟨y,H1,d,e,q1⟩=>thn (c Nw s1 Z H1 _ d q1) λu s2 ⟨x,H2,f,j,a,l,ex,g,m⟩=>?_;subst ex;obtain rfl:u=Value.ref a:=j;show d_in b f g e λq n=>⟨.bl l.isSome,H2,n,rfl,m⟩
theorem qY(b:X.A.units+1<cLine)(hi:PE X i ty)(c:PE X o td):PC X .NotIn i o (Fg ty td):=by intro Nw s Z H Q I h;show thn (hi Nw s Z H _ I h) λp s1 ⟨y,H1,d,e,q1⟩=>thn (c Nw s1 Z H1 _ d q1) λu s2 ⟨x,H2,f,j,a,l,ex,g,m⟩=>?_;subst ex;obtain rfl:u=Value.ref a:=j;show Gy b f g e λq n=>⟨.bl (!l.isSome),H2,n,rfl,m⟩
theorem l9(b:X.A.units+1<cLine)(c:PE X o td)(hi:PE X i ty)(d:PE X value tv)(e:swapsWith value (some (.Subscript o i pos')) pos.line X.env=pure false) :
  PS X (.Assign [.Subscript o i pos'] value pos) (JP td ty tv):=by
 intro Nw s Z H D I h;show wpAny_Assign_Subscript (thn (d Nw s Z H _ I h) λr s1 ⟨v,H1,f,j,q1⟩=>thn (c Nw s1 Z H1 _ f q1) λu s2 ⟨x,H2,l,m,n⟩=>thn (hi Nw s2 Z H2 _ l n) λC E ⟨y,K,p,q,a,w,ex,g,z⟩=>?_) e;subst ex;obtain rfl:u=Value.ref a:=m;show Dd b p g q j λL B=>⟨Z,w,B,z⟩
end
theorem xG(h:Heap)(a:sysModules<h.objs.size):bR P w H (h.push {cls:=.type "dict",data:=.dict #[]}) h.objs.size (.dK []):=
 ⟨aQ _,beq_eq_false_iff_ne.mpr (aG (b_ a)),[],.nil,Mq h⟩
theorem ES(h:Heap)(a:sysModules<h.objs.size):bR P w H (h.push {cls:=.type "dict",data:=.dict #[]}) h.objs.size (.dT []):=
 ⟨aQ _,beq_eq_false_iff_ne.mpr (aG (b_ a)),[],.nil,_,#[],0,cw _ rfl,⟨rfl,rfl,rfl⟩,rfl,rfl,kM⟩
def Hy:TE:=λ_ H Q=>fE H (.dK []) Q
def Hu:TE:=λ_ H Q=>fE H (.dT []) Q
section
variable {pos:Pos}
theorem xk:PE X (.Dict [] [] pos) Hy:=λNw s Z H Q I h=>
 Md ⟨.ref ↥s,_,I.laid (a:=↥s) (o:=.dK []) (t':=s.toks) (λ_ _ q=>bg _ q) (ax _) (xG s.heap I.big),rfl,fE.at h (I.hok.fresh (ax _))⟩
theorem xj:PE X (.Dict [] [] pos) Hu:=λNw s Z H Q I h=>
 Md ⟨.ref ↥s,_,I.laid (a:=↥s) (o:=.dT []) (t':=s.toks) (λ_ _ q=>bg _ q) (ax _) (ES s.heap I.big),rfl,fE.at h (I.hok.fresh (ax _))⟩
end
structure M1(X:Cx)(o:Expr)(m:Str)(apos:Pos)(e:Expr)(cpos:Pos):Prop where
 base:attributeBase o m X.env (eval o X.env)=eval o X.env
 few:((backTo cpos (starEach [e] X.env)).all (λx=>!x.1)&&(backToKw cpos (keywordEach [] X.env)).all (λx=>x.1.isSome)
  && decide (([e]:List Expr).length+([]:List Keyword).length+(if ([]:List Keyword).isEmpty then 0 else 1)<30))=true
 line:(apos.endLine==cpos.line)=true
 trees:backTo cpos (starEach [e] X.env)=[(false,eval e X.env)]
def IsD(H:Hp)(a:Addr):Prop:=(∃kvs,Rd H a (.dK kvs))\/∃kvs,Rd H a (.dT kvs)
theorem zS{a:Addr}(I:Inv X Nw Z H s)(d:IsD H a) :
  s.TypeIs (.ref a) "dict"/\(∀b,Value.ref a=.ref b->∃c,s.heap.get? b=some c/\c.dict=none)/\(a==sysModules)=false:=by
 rcases d with ⟨kvs,e⟩|⟨kvs,e⟩
 .obtain⟨_,hd,vs,_,f⟩:=gG I.hok e;show⟨f.typeIs,λb q=>?_,hd⟩;cases q;obtain⟨c,_,_,h1,h2,_⟩:=f;show⟨c,h1,h2.2.1⟩
 obtain⟨_,hd,xs,_,f⟩:=iM I.hok e;show⟨f.typeIs,λb q=>?_,hd⟩;cases q;obtain⟨c,_,_,h1,h2,_⟩:=f;show⟨c,h1,h2.2.1⟩
section
variable {a:Addr}{y d:V}{u r:Value}{o:Option V}
theorem Je{Q:Value->Shared->Prop}(j:A.units+1<cLine)(I:Inv X Nw Z H s)(g:DGet H a y o)(f:aD y u)(h:∀i s',Inv X Nw Z H s'->aD (o.getD .non) i->Q i s') :
  wpAny ⇑X A (call (.builtin "dict.get") [.ref a,u]) Q E s:=by
 rcases g with ⟨kvs,k,e,d,l⟩|⟨kvs,k,b,e,d,eb,l⟩
 .subst d;obtain⟨z,hd,vs,rel,c⟩:=gG I.hok e;show A_ A7 c.typeIs LC (Ly _ _) (meets_dict_get (di X.prog X.w) a (iK f) hd) ⟨_,c.mapOf,h _ _ (I.tok _) ?_⟩;rw[l];show (rel.val k).getD rfl
 subst d;cases (show u=Value.ref b from f);obtain⟨z,hd,xs,rel,c⟩:=iM I.hok e;show A_ A7 c.typeIs LC (Ly _ _) (meetsH_dict_get (tupleKind (di X.prog X.w)) a b hd) ⟨qH j,k,xs,j9 I.hok eb,c,h _ _ (I.tok _) ?_⟩;rw[l];show (rel.val k).getD rfl
end
def JJ(a:Addr)(Q:VK)(y:V)(H2:Hp)(o:Option V):Prop:=DGet H2 a y o/\Q (o.getD .non) H2
def JG(a:Addr)(Q:VK):VK:=λy H2=>Exists (JJ a Q y H2)
def JK(ty:TE)(Z:St)(Q:VK)(x:V)(H1:Hp)(a:Addr):Prop:=x=.ref a/\IsD H1 a/\ty Z H1 (JG a Q)
def JI(ty:TE)(Z:St)(Q:VK):VK:=λx H1=>Exists (JK ty Z Q x H1)
def HB(td ty:TE):TE:=λZ H Q=>td Z H (JI ty Z Q)
def JA(a:Addr)(Q:VK)(y:V)(H2:Hp)(kvs:List (Key×V))(k:Key)(v:V):Prop:=H2 a=some (.dK kvs)/\y=kV k/\valV kvs k=some v/\WrO H2 a (.dK (jm kvs k)) (Q v)
def Jy(a:Addr)(Q:VK):VK:=λy H2=>Exists (Ex3 (JA a Q y H2))
def JB(ty:TE)(Z:St)(Q:VK)(x:V)(H1:Hp)(a:Addr):Prop:=x=.ref a/\IsD H1 a/\ty Z H1 (Jy a Q)
def Jz(ty:TE)(Z:St)(Q:VK):VK:=λx H1=>Exists (JB ty Z Q x H1)
def Ho(td ty:TE):TE:=λZ H Q=>td Z H (Jz ty Z Q)
section
variable {o e f:Expr}{apos cpos:Pos}{td ty tx:TE}
theorem Eb(c:X.A.units+1<cLine)(f:PE X o td)(he:PE X e ty)(m:M1 X o "get" apos e cpos):PE X (.Call (.Attribute o "get" apos) [e] [] cpos) (HB td ty):=by intro Nw s Z H Q I h;show Ma m.base m.few m.line LI A7 PySem.F.type_dict_get (thn (f Nw s Z H _ I h) λu s1 ⟨x,H1,b,i,a,ex,d,q1⟩=>?_);subst ex;obtain rfl:u=Value.ref a:=i;obtain⟨j,l,_⟩:=zS b d;show⟨j,l,?_⟩;rw[m.trees];show pY rfl (uv (nH (thn (he Nw s1 Z H1 _ b q1) λw s2 ⟨y,H2,n,p,z,g,q⟩=>uw ?_)));show Je c n g p λB C r v=>⟨_,H2,r,v,q⟩
theorem Ea(c:PE X o td)(he:PE X e ty)(m:M1 X o "pop" apos e cpos):PE X (.Call (.Attribute o "pop" apos) [e] [] cpos) (Ho td ty):=by intro Nw s Z H Q I h;show Ma m.base m.few m.line LI LL PySem.F.type_dict_pop (thn (c Nw s Z H _ I h) λu s1 ⟨x,H1,b,f,a,ex,d,q1⟩=>?_);subst ex;obtain rfl:u=Value.ref a:=f;obtain⟨g,i,_⟩:=zS b d;show⟨g,i,?_⟩;rw[m.trees];show pY rfl (uv (nH (thn (he Nw s1 Z H1 _ b q1) λz s2 ⟨y,H2,j,n,kvs,k,v,ea,p,l,q⟩=>uw ?_)));subst p;show Kt j ea n l (.inl rfl) λA B r w=>⟨v,_,r,w,WrO.at q⟩
end
section
variable {a:Addr}{kvs:List (Key×V)}
end
section
variable {a:Addr}{y:V}{u:Value}
end
end L2
namespace Att
open PySem PySem.W PySem.Calls PyProof.Rows
theorem Bp{P:Params}{h:Heap}:∀(ns:List Int)(vs:List Value),WellAll P h vs (ns.map WData.int)->IntsAre vs ns:=by
 intro ns;induction ns with
 |nil=>
  intro vs w;rw[fG] at w;cases w;show .nil
 |cons n ns c=>
  intro vs w;rw[az] at w;cases w with
  |cons a b=>
   cases a;show .cons _ _ (c _ b)
theorem CI{l:OpenLaw}{n:Nat}(g:l.most=some n){P:Params}{h:Heap}{args:List WData}{vals:List Value}
  (e:l.row.toRowW.claim.pre args=true) (i:WellAll P h vals args) :
  ∃a vs ns,vals=[Value.ref a]/\args=[WData.list (ns.map WData.int)]/\h.get? a=some {cls:=.type "list",data:=.seq vs.toArray}/\IntsAre vs ns/\ns.length<=n:=by
 have j:WShape.hasAll [] args [.list .int]=true:=(pre_splitW e).1;have f:l.pre.holds [] {args:=args}=true:=(pre_splitW e).2;obtain⟨d,r,rfl,h1,h2⟩:=hasAllW_cons j;obtain rfl:=hasAllW_nil h2;obtain⟨xs,rfl,m⟩:=hasW_list h1;obtain⟨ns,rfl⟩:=items_int m;have hlen:ns.length<=n:=by
  unfold OpenLaw.pre at f;have b:(WTm.not (.lt (.lit (.int (n:Int))) (.len (.arg 0)))).holds [] {args:=[.list (ns.map .int)]}=true:=by have b:=(holds_andW f).1;rw[g] at b;show b
  have c:=condW_of b (w_not (w_lt w_lit (w_len_list (w_arg rfl))));rw[aE] at c;show AX λq=>?_;have o:(n:Int)<((ns.length:Nat):Int):=()
  first
   |(rw[Nt o] at c;show absurd c ⋯)
   |(simp at c;lia)
 cases i with
 |cons p s=>
  cases s;cases p with
  |list u v=>show⟨_,_,ns,rfl,rfl,u,Bp ns _ v,hlen⟩
theorem CL(l:OpenLaw)(args:List WData):l.row.toRowW.claim.post args (.bool true) args=true:=
 postW_of (r:=l.row.toRowW) (X:=(true==true))
  (show WShape.has [] (.bool true) .bool=true by first|rfl|decide|simp[WShape.has,WShape.arms,WShape.armsAll])
  (show (WTm.eq .res (.lit (.bool true))).value [] {args:=args,res:=some (.bool true),after:=args}=some (.bool (true==true)) from w_eq_bool (w_res rfl) w_lit) rfl
theorem attach_call{l:OpenLaw}{n:Nat}{q:Program}{loose:List Str}{XP:(Str->Option Value)->Heap->Prop}{YP:World->Heap->Prop}{d:DefRec}
  (c:l.most=some n) (e:d.params.defaults=[])
  (call:∀(w:World)(s₀ s₁:Shared)(mg mb:Str->Option Value)(fa:Addr)(o:Obj)(pm cd doc:Value)(a:Addr)(vs:List Value)(ns:List Int),
   Ground q loose [] XP w s₀ mg mb s₁.heap->YP w s₁.heap->
   s₁.heap.get? fa=some o->o.data=.func (docDef d.name d.params d.body d.scope pm cd doc)->s₁.heap.CodeRec cd d.name->mg d.name=some (.ref fa)->
   s₁.heap.get? a=some {cls:=.type "list",data:=.seq vs.toArray}->IntsAre vs ns->ns.length<=n->s₁.gens=#[]->
   codeAny (model l.prog w) callerA (.call (.ref fa) ⟨[.ref a],[]⟩) (λr s'=>r=.ok (.ret (.bool true))/\OldK s₁.heap s'.heap/\s'.os=s₁.os/\AllBare s'.gens) s₁) :
  WalkO q loose XP YP l.row.toRowW d [] (λf vs=>PySem.call f vs):=by
 intro w s₀ s₁ mg mb G Y fa o pm cd doc g kV h hd i b j m args vals as p A B u C;obtain rfl:g=.none:=Dflts.none b e;obtain rfl:kV=.none:=Dflts.noKw b;obtain⟨a,vs,ns,rfl,rfl,v,hints,hlen⟩:=CI c p u;show enter_call (Ba (call w s₀ s₁ mg mb fa o pm cd doc a vs ns G Y h (fd_plain hd) i j v hints hlen m) λr s' x=>?_);obtain⟨rfl,h2,y,z⟩:=x;show⟨.inl ⟨.bool true,.bool true,[],rfl,λ_=>rfl,.bool true,CL l _,λ_=>⟨List.Pairwise.nil,λ_ hm=>(nomatch hm)⟩⟩,h2,y,z⟩
section
variable {prog:Program}{K:Frag}
end
end Att
namespace L2
open PySem PySem.Spec PyProof.Rows
theorem vR:∀{vs:List Value}{ns:List Int},IntsAre vs ns->Vals (ns.map V.int) vs
 |_,_,.nil=>.nil
 |_,_,.cons n t h=>.cons ⟨t,rfl⟩ (vR h)
def Only(H:Hp):Prop:=∀b,H b=none\/∃o xs,H b=some (.frz o (.lst xs))
theorem ED{P:Program}{w:World}{mg mb:Str->Option Value}{CX:CXT}{k:Nat}{fa a:Addr}{fd:FuncData}{x:Str}{sp:Sp}{s₁:Shared}{vs:List Value}{ns:List Int}
  (l:K.In s₁.heap) (p:s₁.heap.Ns mainGlobals mg) (c:s₁.heap.Ns builtinsNs mb) (E:∀x:Str,x≠"__name__"->mb x=bootBuiltins x) (I:s₁.heap.NoLimit) (L:s₁.gens=#[])
  (ha:s₁.heap.get? a=some {cls:=.type "list",data:=.seq vs.toArray}) (hi:IntsAre vs ns) (M:ns.length<=sizeLine) (N:Room k callerA)
  (F:∀base:Heap,K.In base->base.Ns mainGlobals mg->FnOk P w K mg base CX k fa fd [x] sp) (O:∀(s:Shared)(u:Value),BindsTo s fd ⟨[u],[]⟩ [(x,u)])
  (Q:∀o,K.lookup a=some o->o.cls≠.type "list") (R:∀H:Hp,Only H->SqL [] H a (ns.map V.int)->sp [.ref a] H (λv _=>v=.bl true) λ_ _ _=>False)
  (S:∀H e s',CX [] H s₁ (λ_ _ _=>False) e s'->False) :
  codeAny (model P w) callerA (.call (.ref fa) ⟨[.ref a],[]⟩) (λr s'=>r=.ok (.ret (.bool true))/\OldK s₁.heap s'.heap/\s'.os=s₁.os/\AllBare s'.gens) s₁:=by
 have T:=vR hi;have ah:=hi.length;have core:∀H:Hp,Only H->SqL [] H a (ns.map V.int)->HOk P w H s₁.heap->(∀b,H b≠none->b=a)->(H a≠none->K.lookup a=none)->
   codeAny (model P w) callerA (.call (.ref fa) ⟨[.ref a],[]⟩) (λr s'=>r=.ok (.ret (.bool true))/\OldK s₁.heap s'.heap/\s'.os=s₁.os/\AllBare s'.gens) s₁:=by
  intro H y U hok A X;have B:∀{b:Addr}{o:Obj},s₁.heap.get? b=some o->H b=none->(il s₁.heap H).get? b=some o:=λe n=>EG e n;have Y:∀{b:Addr}{o:Obj}{es:Array DictEntry}{ep:Nat},s₁.heap.get? b=some o->o.data=.dict es ep->H b=none:=λ{b o es ep} e d=>by
   cases q:H b with
   |none=>rfl
   |some u=>
    have g:b=a:=A b (by rw[q];simp);subst g;rw[ha] at e;cases e;have d':Data.seq vs.toArray _=Data.dict es ep:=d;cases d'
  have f:∀{b:Addr}{m:Str->Option Value},s₁.heap.Ns b m->(il s₁.heap H).Ns b m:=λ{b m} ⟨o,es,ep,e,d,r⟩=>⟨o,es,ep,B e (Y e d),d,r⟩;have C:K.In (il s₁.heap H):=λb o e=>B (l b o e) (by
   cases q:H b with
   |none=>rfl
   |some u=>
    have g:b=a:=A b (by rw[q];simp);subst g;rw[X (by rw[q];simp)] at e;cases e)
  have Z:Mod K mg (il s₁.heap H):=⟨C,f p,⟨mb,f c,E⟩,let ⟨mc,h1,h2⟩:=I;⟨mc,f h1,h2⟩⟩;have e0:pX P w K mg (il s₁.heap H) callerA [] s₁ H:=⟨rfl,Z,λb o e=>FU e,uQ (C5 _ _),trivial,λb c=>absurd (show b∈([]:List Addr) from c) ∅,hok,.of_eq L⟩;show Ba ((F _ C (f p)).run callerA [] s₁ H ⟨[.ref a],[]⟩ [.ref a] [.ref a] _ _ N e0 (O s₁ (.ref a)) (.cons rfl .nil) (R H y U)) λr s' h=>?_;cases r with
  |error e=>show (S H e s' h).elim
  |ok fl=>
   cases fl with
   |next=>show False.elim h
   |brk=>show False.elim h
   |cont=>show False.elim h
   |ret u=>
    obtain⟨v,H',os,bare,un,ad,r',q⟩:=h;have q':v=.bl true:=q;subst q';obtain rfl:u=Value.bool true:=r';show⟨rfl,OldK.of_keep λb o e=>?_,os,bare⟩;cases q:H b with
    |none=>show un.keep b o e q (by intro z;show absurd (show b∈([]:List Addr) from z) ∅) ∅
    |some u=>
     rcases y b with z|⟨ob,xs,z⟩
     .rw[q] at z;cases z
     have z2:=un.frzs b ob _ z;obtain⟨D,_⟩:=hok b _ z;obtain⟨e2,_⟩:=ad b _ z2;rw[e] at D;cases D;show e2
 cases i:K.lookup a with
 |some o=>
  have e:=l a o i;rw[ha] at e;cases e;show absurd rfl (Q _ i)
 |none=>
  show core (λb=>if b=a then some (.frz {cls:=.type "list",data:=.seq vs.toArray} (.lst (ns.map V.int))) else none) (λb=>?_) (.inl (.inr ⟨{cls:=.type "list",data:=.seq vs.toArray},Nq rfl⟩)) (λb u z=>?_) (λb z=>?_) λ_=>i
  .by_cases c:b=a
   .exact .inr ⟨_,_,Nq c⟩
   show .inl (Np c)
  .by_cases c:b=a
   .have j:=(Nq c).symm.trans z;cases j;subst c;show⟨ha,by rw[aE];show M,vs,_,T,ha⟩
   have j:=(Np c).symm.trans z;cases j
  by_cases c:b=a
  .exact c
  show absurd (Np c) z
end L2
namespace L2
open PySem PySem.Spec PyProof.Rows
theorem walk_of{l:W.OpenLaw}{n k:Nat}{q:Program}{loose:List Str}{XP:(Str->Option Value)->Heap->Prop}{YP:World->Heap->Prop}{d:DefRec}{K:Params->W.Frag}{CX:World->CXT}{sp:World->Sp}{x:Str}
  (i:l.most=some n) (j:n<=sizeLine) (m:d.params.defaults=[]) (p:Room k callerA)
  (r:∀(w:World)(h:Heap),YP w h->(K w.params).In h)
  (F:∀(w:World)(mg:Str->Option Value)(fa:Addr)(h:Heap),(K w.params).In h->h.Ns mainGlobals mg->mg d.name=some (.ref fa)->
   ∃fd:FuncData,(∀(s:Shared)(u:Value),BindsTo s fd ⟨[u],[]⟩ [(x,u)])/\
    ∀base:Heap,(K w.params).In base->base.Ns mainGlobals mg->FnOk l.prog w (K w.params) mg base (CX w) k fa fd [x] (sp w))
  (y:∀(w:World)(a:Addr)(o:Obj),(K w.params).lookup a=some o->o.cls≠.type "list") (z:∀(w:World)(H:Hp)(a:Addr)(ns:List Int),ns.length<=n->Only H->SqL [] H a (ns.map V.int)->sp w [.ref a] H (λv _=>v=.bl true) λ_ _ _=>False)
  (A:∀(w:World)(H:Hp)(s:Shared)(e:Value)(s':Shared),CX w [] H s (λ_ _ _=>False) e s'->False) :
  W.WalkO q loose XP YP l.row.toRowW d [] (λf vs=>PySem.call f vs):=by
 show Att.attach_call i m λw s₀ s₁ mg mb fa o pm cd doc a vs ns G Y M hd N B C hints hlen D=>?_;have c:=r w _ Y;obtain⟨fd,E,hF⟩:=F w mg fa _ c G.T.g B;show ED c G.T.g G.T.b G.T.builtins G.T.nolimit D C hints (cC hlen j) p hF E (y w a) (λH I L=>z w H a ns hlen I L) λH e s'=>A w H s₁ e s'
def nlV:Value->Bool
 |.type s=>!(s=="list")
 |_=>true
theorem Ao{a:Addr}{o:Obj}:∀{K:W.Frag},K.all (λx=>nlV x.2.cls)=true->K.lookup a=some o->o.cls≠.type "list"
 | [],_,h=>nomatch h
 |(b,u)::K,e,h=>by
  rw[AE,uu] at e;rw[iT] at h
  split at h
  .cases h;intro z;have:=e.1;rw[z] at this;show absurd this ⋯
  show Ao e.2 h
end L2
namespace L2
open PySem PySem.Spec PyProof.Rows
abbrev CX0:CXT:=λ_ _ _ _ _ _=>False
abbrev E0:XK:=λ_ _ _=>False
theorem pass0:Passes CX0 X E0:=λ_ _ _ _ _ _ _ h=>h.elim
structure Use(P:Program)(w:World)(K:W.Frag)(mg:Str->Option Value)(base:Heap)(n:Nat)(x:Str)(ps:List Str)(sp:Sp)(f:Addr)(fd:FuncData):Prop where
 g:FnOk P w K mg base CX0 n f fd ps sp
 b:Binds K fd ps []
 m:mg x=some (.ref f)
 k:W.keepIn K (.ref f)=true
theorem uc{k:Nat}{x:Str}{ps:List Str}{sp:Sp}{f:Addr}{e:Expr}{es:List Expr}{t:TA}{p pos:Pos}(G:Use X.prog X.w X.K X.mg X.base k x ps sp f fd)(a:Room k X.A)(ha:PA X (e::es) t)(c:Gl X x:=by rfl)(d:(x==("__debug__" : Str))=false:=by decide)(he:starEach (e::es) X.env=(false,eval e X.env)::starEach es X.env:=by rfl)(h:(backTo pos (starEach es X.env)).any (·.1)=false:=by rfl):PE X (.Call (.Name x p) (e::es) [] pos) (Ae sp [] E0 t):=yz G.g a c G.m G.k G.b .nil pass0 ha d he h
structure Fun(K:W.Frag)(x qual:Str)(st:Stmt)(f:Addr)(fd:FuncData):Prop where
 ex:∃(oc:Value)(od:Option Addr)(kV doc pm:Value)(an:Option Addr)(Nz ct:Value)(osl:Array (Option Value)),
  fd=W.fnOf x qual (gq st) (fQ st) (a7 st) .none kV doc pm an Nz ct/\K.lookup f=some ⟨oc,od,.func fd,osl⟩/\W.codeIn K Nz qual=true
 kp:W.keepIn K (.ref f)=true
section
theorem Fun.ok{x qual:Str}{st:Stmt}{f:Addr}{N ps:List Str}{k:Nat}{sp:Sp}(F:Fun K x qual st f fd)(S:bH N ps (a7 st))(len:∀vs H Q E,sp vs H Q E->vs.length=ps.length)
  (b:∀(a:Value)(A:Around)(outer:List Env)(s:Shared)(H:Hp)(vs:List V)(Q:VK)(E:XK),Room k (A.deeper (envOfC qual (a7 st) ↥s f a))->sp vs H Q E->
   ∃t,PSs (kE CX0 P w K mg base N qual (a7 st) f a A outer s H E).nox (fQ st) t/\t {nx:=λ_ H'=>Q .non H',rt:=Q} (start N vs) H):FnOk P w K mg base CX0 (k+1) f fd ps sp:=by
 obtain⟨g,i,kV,doc,pm,an,a,ct,j,rfl,lk,c⟩:=F.ex;show Ko lk c S len λA outer s H vs Q E d e=>?_;obtain⟨t,h,q⟩:=b a A outer s H vs Q E d e;show⟨t,h.nox,q⟩
theorem Fun.binds{x qual:Str}{st:Stmt}{f:Addr}{ps:List Str}(F:Fun K x qual st f fd)
  (h:∀(kV doc pm:Value)(an:Option Addr)(a ct:Value)(us:List Value),us.length=ps.length->bindArgs (W.fnOf x qual (gq st) (fQ st) (a7 st) .none kV doc pm an a ct) ⟨us,[]⟩=pure (ps.zip us)):Binds K fd ps []:=by
 obtain⟨b,c,kV,doc,pm,an,a,ct,d,rfl,lk,e⟩:=F.ex;show .all (h kV doc pm an a ct)
theorem IX{x qual:Str}{st:Stmt}{f:Addr}{b:Value}{d an:Option Addr}{e:Array (Option Value)}{kV doc pm a ct:Value}(l:K.lookup f=some ⟨b,d,.func (W.fnOf x qual (gq st) (fQ st) (a7 st) .none kV doc pm an a ct),e⟩)
  (c:W.codeIn K a qual=true) (k:W.keepIn K (.ref f)=true):Fun K x qual st f (W.fnOf x qual (gq st) (fQ st) (a7 st) .none kV doc pm an a ct):=⟨⟨b,d,kV,doc,pm,an,a,ct,e,rfl,l,c⟩,k⟩
end
theorem eu{k:Nat}(a:Room k A):A.units+1<cLine:=AY (uM (by decide:1<=64) _) a.units
section
theorem pv(i:Nat){x:Str}{pos:Pos}(a:X.N[i]?=some x:=by rfl)(b:Vis X.env.scope x:=by first|exact Or.inl rfl|exact Or.inr (.inl rfl)|exact Or.inr (.inr rfl))(hd:(x==("__debug__" : Str))=false:=by decide)
  (c:(x==("__classdict__" : Str))=false:=by decide):PE X (.Name x pos) (cD i):=Im a b hd c
end
theorem ak{A B:Prop}(h:B):if false=true then A else B:=by rw[Np bX];show h
theorem aA{A B:Prop}(h:A):if true=true then A else B:=by rw[Nq rfl];show h
theorem ite2{c A B:Prop}[Decidable c](h1:c->A)(h2:¬c->B):if c then A else B:=by
 by_cases h:c
 .rw[Nq h];show h1 h
 rw[Np h];show h2 h
theorem Same.refl(H:Hp):Same H H:=λ_ _ h=>h
theorem Same.trans{H H1 H2:Hp}(a:Same H H1)(b:Same H1 H2):Same H H2:=λc o h=>b c o (a c o h)
theorem Same.free(e:Same H H'){l:Addr}(h:H' l=Option.none):H l=Option.none:=by
 cases q:H l with
 |none=>rfl
 |some o=>
  rw[e l o q] at h;cases h
theorem Same.seq{a:Addr}(e:Same H H')(h:SqL K H a xs):SqL K H' a xs:=by
 rcases h with (h|⟨o,h⟩)|h
 .exact .inl (.inl (e _ _ h))
 .exact .inl (.inr ⟨o,e _ _ h⟩)
 show .inr h
section
variable {κ:Type}[DecidableEq κ]
theorem Fb{kvs:List (κ×V)}{k:κ}{v:V}(h:valV kvs k=some v):k∈kvs.map (·.1):=by
 have q:(kvs.any λa=>decide (a.1=k))=true:=by
  rw[jL,h]
  all_goals rfl
 obtain⟨p,b,e⟩:=qg.mp q;show aq.mpr ⟨p,b,Nv e⟩
end
end L2
end
variable {H:L2.Hp}{Z:L2.St}{X:L2.Cx}{xs:List L2.V}{vs:List L2.V}{H':L2.Hp}
section
namespace L2
open PySem PySem.Spec PyProof.Rows
def dJ(env:Env):List (Str×NameKind)->List (Str×Addr)->List (Str×Addr)
 | [],cs=>cs
 |(n,k)::r,cs=>dJ env r (if k==.free then (n,(env.cells.lookup n).getD 0)::cs else cs)
theorem vP(env:Env):∀(names:List (Str×NameKind))(cs:List (Str×Addr)),(∀x∈names,x.2=.free->∃c,env.cells.lookup x.1=some c)->
  (forIn names cs (λ(x:Str×NameKind)(r:List (Str×Addr))=>(do
   if x.2==NameKind.free then
    let a <-cellOf env x.1
    pure (ForInStep.yield ((x.1,a)::r))
   else pure (ForInStep.yield r):Sem (ForInStep (List (Str×Addr))))))=pure (dJ env names cs)
 | [],cs,_=>rfl
 |(n,k)::r,cs,h=>by
  have ih:=λcs=>vP env r cs λx hx=>h x (aZ _ hx);rw[List.forIn_cons];by_cases hk:k=.free
  .subst hk;obtain⟨c,hc⟩:=h (n,.free) dX rfl;have e:cellOf env n=pure c:=by
    have hc':env.cells.lookup n=some c:=hc;unfold cellOf;rw[hc']
    try rfl
   rw[Nq (show (((n,NameKind.free).2==NameKind.free)=true) from rfl),e];show Eq.trans ?_ ((ih ((n,c)::cs)).trans ?_)
   .rfl
   have hc':env.cells.lookup n=some c:=hc;change pure (dJ env r ((n,c)::cs))=pure (dJ env r ((n,(env.cells.lookup n).getD 0)::cs));rw[hc'];rfl
  have hb:(k==NameKind.free)=false:=‹hk›
  rw[Np (show ¬(((n,k).2==NameKind.free)=true) by rw[show ((n,k).2==NameKind.free)=false from hb];simp)];show Eq.trans ?_ ((ih cs).trans ?_)
  .rfl
  change pure (dJ env r cs)=pure (dJ env r (if (k==NameKind.free)=true then _ else cs));rw[hb];rfl
theorem vO{env:Env}(h:∀x∈scope.names,x.2=.free->∃c,env.cells.lookup x.1=some c):closureFor scope env=pure (dJ env scope.names []):=by
 have e:=vP env scope.names [] h;unfold closureFor;simp only[bind_pure_comp,map_pure] at e |-
 first
  |(rw[e];rfl)
  |show e
theorem zf{env:Env}:∀{names:List (Str×NameKind)}{cs:List (Str×Addr)}{x:Str}{c:Addr},(∀y∈names,y.2=.free->∃c,env.cells.lookup y.1=some c)->
  (dJ env names cs).lookup x=some c->env.cells.lookup x=some c\/cs.lookup x=some c
 | [],cs,x,c,_,h=>.inr h
 |(n,k)::r,cs,x,c,hf,h=>by
  have f:∀y∈r,y.2=.free->∃c,env.cells.lookup y.1=some c:=λy g=>hf y (aZ _ g);rcases zf (names:=r) f h with q|q
  .exact .inl q
  by_cases a:(k==NameKind.free)=true
  .rw[Nq a] at q;have i:k=.free:=‹a›
   obtain⟨d,e⟩:=hf (n,k) dX i;have e:env.cells.lookup n=some d:=e;rw[iT] at q;cases b:x==n with
   |true=>
    rw[b] at q;have j:x=n:=‹b›
    subst j;rw[e] at q;have l:d=c:=‹q›
    show .inl (l ▸ e)
   |false=>
    rw[b] at q;show .inr q
  rw[Np a] at q;show .inr q
theorem rR{env:Env}:∀{names:List (Str×NameKind)}{cs:List (Str×Addr)}{x:Str},((x,NameKind.free)∈names\/(cs.lookup x).isSome=true)->((dJ env names cs).lookup x).isSome=true
 | [],cs,x,h=>by
  rcases h with h|h
  .simp at h
  show h
 |(n,k)::r,cs,x,h=>by
  show rR (names:=r) ?_;rcases h with h|h
  .rcases ae.mp h with e|e
   .cases e;show .inr ?_;rw[Nq (by rfl),iT,beq_self_eq_true];rfl
   show .inl e
  show .inr ?_;by_cases a:(k==NameKind.free)=true
  .rw[Nq a,iT];cases b:x==n with
   |true=>rfl
   |false=>show h
  rw[Np a];show h
theorem vA(env:Env):∀(names:List (Str×NameKind))(x:Str),
  (names.map λ(n,k)=>if (k==NameKind.free&&env.scope.kind==.function&&env.kindOf n==some .cell) then (n,NameKind.cell) else (n,k)).lookup x=(names.lookup x).map λk=>if (k==NameKind.free&&env.scope.kind==.function&&env.kindOf x==some .cell) then NameKind.cell else k
 | [],_=>rfl
 |(n,k)::r,x=>by
  have b:=vA env r x;rw[az];dsimp only at b |-;by_cases a:(k==NameKind.free&&env.scope.kind==.function&&env.kindOf n==some .cell)=true
  .rw[Nq a,iT,iT];cases c:x==n with
   |true=>
    have d:x=n:=‹c›
    subst d;simp only[iu,a,if_true]
   |false=>show b
  rw[Np a,iT,iT];cases c:x==n with
  |true=>
   have d:x=n:=‹c›
   subst d;simp only[iu];rw[Np a]
  |false=>show b
def iI(X:Cx)(N:List Str)(scope:Scope)(C:Addr)(s:Shared)(H:Hp)(fp:List Addr)(Nw:List (Addr×Obj)):Cx:=
 {X with N:=N,s₀:=s,H₀:=H,env:=compEnvC scope (dJ X.env scope.names []) C X.env,outer:=X.stack,ex:=fp,fn:=λ_=>false,pn:=X.pn++Nw,xe:=λ_ _=>False}
def jl(fr:List (Option Nat))(Z:St):St:=fr.map λo=>o.bind λi=>(Z[i]?).join
structure gh(X:Cx)(N:List Str)(fr:List (Option Nat))(scope:Scope):Prop where
 nd:N.Nodup
 len:fr.length=N.length
 kind:scope.kind=.function
 nocell:∀y∈scope.names,y.2≠.cell
 names:∀y∈scope.names,y.2=.local->scope.names.lookup y.1=some .local
 frees:∀y∈scope.names,y.2=.free->X.env.kindOf y.1=some .cell\/X.env.kindOf y.1=some .free
 fr:∀(j i:Nat)(x:Str),fr[j]?=some (some i)->N[j]?=some x->X.N[i]?=some x/\scope.names.lookup x=some .free
section
variable {N:List Str}{fr:List (Option Nat)}{fp:List Addr}
theorem gh.cells(S:gh X N fr scope)(ok:X.Ok):∀y∈scope.names,y.2=.free->∃c,X.env.cells.lookup y.1=some c:=λy a hf=>ok.has y.1 (S.frees y a hf)
theorem oo{names:List (Str×NameKind)}{x:Str}{k:NameKind}(h:names.lookup x=some k):(x,k)∈names:=n_ h
theorem wD{C:Addr}{x:Str}:(compEnvC scope (dJ X.env scope.names []) C X.env).kindOf x=(scope.names.lookup x).map λk=>if (k==NameKind.free&&X.env.scope.kind==.function&&X.env.kindOf x==some .cell) then NameKind.cell else k:=vA X.env scope.names x
theorem gh.free_of(S:gh X N fr scope){C:Addr}{x:Str}(h:(compEnvC scope (dJ X.env scope.names []) C X.env).kindOf x=some .cell\/(compEnvC scope (dJ X.env scope.names []) C X.env).kindOf x=some .free):scope.names.lookup x=some .free:=by
 rw[wD] at h;cases e:scope.names.lookup x with
 |none=>rw[e] at h;simp at h
 |some k=>
  rw[e] at h;have a:=S.nocell _ (oo e);cases k with
  |free=>rfl
  |cell=>show absurd rfl a
  |_=>
   exfalso;rcases h with h|h<;>simp at h
theorem Dg{C:Addr}{x:Str}(h:scope.names.lookup x=some .free):(compEnvC scope (dJ X.env scope.names []) C X.env).kindOf x=some .cell\/(compEnvC scope (dJ X.env scope.names []) C X.env).kindOf x=some .free:=by
 rw[wD,h,iu];by_cases c:(NameKind.free==NameKind.free&&X.env.scope.kind==.function&&X.env.kindOf x==some .cell)=true
 .rw[Nq c];show .inl rfl
 rw[Np c];show .inr rfl
end
end L2
end
section
namespace L2
open PySem PySem.Spec PyProof.Rows
section
variable {N:List Str}{fr:List (Option Nat)}{fp:List Addr}
theorem Cq{C:Addr}{h1:Heap}{m:Str->Option Value}{t:Nat}(S:gh X N fr scope)(I:Inv X Nw Z H s)(hf:∀b∈fp,dM X Nw H b)(w:↥s<=C)(K:∀b∈fp,b≠C)
  (L:h1.Ns C m) (g:∀b o,s.heap.get? b=some o->h1.get? b=some o):Inv (iI X N scope C s H fp Nw) [] (jl fr Z) H {s with heap:=h1,toks:=t}:=by
 have M:=S.cells I.ok;have sub:∀x c,(dJ X.env scope.names []).lookup x=some c->X.env.cells.lookup x=some c:=λx c e=>by
  rcases zf M e with q|q
  .exact q
  simp at q
 have ok:(iI X N scope C s H fp Nw).Ok:=by
  show⟨I.ok.mod,S.kind,I.ok.glob,I.ok.blt,w,λx y c h1 h2=>I.ok.inj x y c (sub x c h1) (sub y c h2),λx O=>?_,λx c e=>absurd e (by change ¬(false=true);decide),I.ok.hd,I.ok.frames,.inl rfl,λb f=>?_,λb o e=>I.bs b o e,cC I.ok.bsz I.sz,λb o e f=>?_,λb f=>?_,I.stack,I.stkFree⟩
  .have e:=S.free_of O;show uW.mp (rR (.inl (oo e)))
  .exact⟨K b f,λx c e=>(hf b f).2.2.2.2.1 x c (sub x c e)⟩
  .rcases (hf b f).2.2.2.1 with z|z
   .exact I.ok.noex b o e z
   show absurd (cp (aN e) (cC I.ok.bsz z)) (fh _)
  intro z;rcases ae.mp (I.stkSub b z) with q|q
  .exact (hf b f).2.1 q
  show (hf b f).2.2.1 q
 have P:H C=none:=I.hok.fresh w;show⟨ok,rfl,I.bare,Un.kept g,⟨m,L,λj x v Q a e3=>?_⟩,λx c e=>?_,P,λx c e=>I.freeC x c (sub x c e),λp l=>?_,I.hok.kept g,?_⟩
 .have a:(jl fr Z)[j]?=some (some v):=a;unfold jl at a;rw[cB] at a;cases q:fr[j]? with
  |none=>rw[q] at a;cases a
  |some o=>
   rw[q] at a;cases o with
   |none=>cases a
   |some i=>
    have a:(Z[i]?).join=some v:=cy a;obtain⟨hi,A⟩:=S.fr j i x q Q;have hσ:Z[i]?=some (some v):=by
     cases z:Z[i]? with
     |none=>rw[z] at a;cases a
     |some y=>rw[z] at a;cases y with
      |none=>cases a
      |some R=>have a:some R=some v:=a;rw[a]
    obtain⟨m0,_,T⟩:=I.loc;have D:X.env.kindOf x=some .cell\/X.env.kindOf x=some .free:=S.frees (x,.free) (oo A) rfl;have U:Vis X.env.scope x:=D.elim (λz=>.inr (.inl z)) λz=>.inr (.inr z);obtain⟨u,r,lk⟩:=T i x v hi hσ U;rcases lk with ⟨z,_⟩|⟨_,c,Y,ad⟩
    .rcases D with y|y<;>(rw[y] at z;cases z)
    show⟨u,r,.inr ⟨Dg A,?_⟩⟩;obtain⟨c',E⟩:=uW.mp (rR (env:=X.env) (names:=scope.names) (cs:=[]) (.inl (oo A)));have:=sub x c' E;rw[Y] at this;cases this;obtain⟨o,B,hd⟩:=ad;show⟨c,E,o,g c o B,hd⟩
 .obtain⟨v,o,B,hd⟩:=I.cell x c (sub x c e);show⟨v,o,g c o B,hd⟩
 .have l:p∈(X.pn++Nw)++[]:=l;rw[dh] at l;obtain⟨e,n,ne,nf,d⟩:=I.pin p l;show⟨g _ _ e,n,λz=>?_,λz=>?_,d⟩
  .have z:p.1=C:=z;show absurd (cp (aN e) w) (by rw[z];show fh _)
  rcases ae.mp (I.stkSub p.1 z) with q|q
  .exact ne q
  show nf q
 change (jl fr Z).length=N.length;unfold jl;rw[aE];show S.len
theorem EZ{C:Addr}{H2:Hp}{s':Shared}{Z':St}{p':List (Addr×Obj)}(I:Inv X Nw Z H s)(hf:∀b∈fp,dM X Nw H b)(c:↥s<=C)(J:Inv (iI X N scope C s H fp Nw) p' Z' H2 s') :
  Inv X Nw Z H2 s'/\dM X Nw H2 C:=by
 have d:Inv X Nw Z H2 s':=I.call' J.os J.base J.hok J.bare λb a=>⟨(hf b a).2.2.2.1,(hf b a).2.1,(hf b a).2.2.2.2.1,(hf b a).2.2.2.2.2⟩;show⟨d,I.fpOk c J.free⟩
end
end L2
end
section
namespace L2
open PySem PySem.Spec PyProof.Rows
def PIf(X:Cx)(ifs:List Expr)(t:TT):Prop:=
 ∀(Nw:List (Addr×Obj))(s:Shared)(Z:St)(H:Hp)(Q:Bool->Hp->Prop),Inv X Nw Z H s->t Z H Q->
  wpAny ⇑X X.A (forIn ifs true λc r=>if r=true then do let ok <-isTrue c X.env (eval c X.env);pure (ForInStep.yield ok) else pure (ForInStep.yield r)) (TP X Nw Z Q) X.xe s
theorem ft:PIf X [] (λ_ H Q=>Q true H):=λ_ _ _ H _ I h=>wpAny_tests_nil ⟨H,I,h⟩
theorem hJ{c:Expr}{t:TT}(h:PT X c t):PIf X [c] t:=λNw s Z H Q I q=>wpAny_tests_one (h Nw s Z H Q I q)
def tBlE(D:Addr)(ys:List V)(N:St->List V->Hp->Prop)(σ2:St):VK:=λy a=>a D=some (.lst ys)/\ys.length<sizeLine/\WrO a D (.lst (ys++[y])) (N σ2 (ys++[y]))
def ug(te:TE)(D:Addr)(ys:List V)(N:St->List V->Hp->Prop)(σ2:St):Bool->Hp->Prop:=λb a=>if b=true then te σ2 a (tBlE D ys N σ2) else N σ2 ys a
def nh(tt:TT)(te:TE)(D:Addr)(ys:List V)(N:St->List V->Hp->Prop):St->Hp->Prop:=λσ2 H2=>tt σ2 H2 (ug te D ys N σ2)
def tBlN(J:It)(g:TG)(tt:TT)(te:TE)(D:Addr)(W:Nat->Nat->St->List V->Hp->Prop)(i m:Nat)(Z:St)(ys:List V)(H:Hp)(N:St->List V->Hp->Prop):Prop:=(∀Z' a H',N Z' a H'->∃b,b<m/\W (i+1) b Z' a H')/\∀x H',J.yld i H x H'->g x Z H' (nh tt te D ys N)
def tBlB(J:It)(g:TG)(tt:TT)(te:TE)(D:Addr)(Z':St)(H1:Hp)(Q:Hp->Prop)(W:Nat->Nat->St->List V->Hp->Prop):Prop:=(∃m,W 0 m Z' [] (upd H1 D (.lst [])))/\∀i m Z ys H,W i m Z ys H->(J.stop i H/\Q H)\/(J.go i H/\Exists (tBlN J g tt te D W i m Z ys H))
def ji(J:It)(g:TG)(tt:TT)(te:TE)(D:Addr)(Z':St)(H1:Hp)(Q:Hp->Prop):Prop:=Exists (tBlB J g tt te D Z' H1 Q)
theorem Df{elt target iter:Expr}{ifs:List Expr}{scope:Scope}{pos:Pos}{it acc:Value}{env:Env}{R:Result->Shared->Prop}(I:Nat->Shared->Prop)
  (turn:∀n s,I n s->wpAny (model P w) A (pyNext it) (λr s1=>match r with
   |none=>R (.ok .next) s1
   |some v=>wpAny (model P w) A (letOwnedTupleGo target it v) (λ_ s1'=>wpAny (model P w) A (assign target env v) (λ_ s2=>
     wpAny (model P w) A (forIn ifs true λc r=>if r=true then do let ok <-isTrue c env (eval c env);pure (ForInStep.yield ok) else pure (ForInStep.yield r)) (λok s3=>
      if ok=true then wpAny (model P w) A (eval elt env) (λx s4=>
       wpAny (model P w) A (call (.builtin "list.append") [acc,x]) (λ_ s5=>∃m,m<n/\I m s5) (λ_ _=>False) s4) (λ_ _=>False) s3
      else ∃m,m<n/\I m s3) (λ_ _=>False) s2) (λ_ _=>False) s1') (λ_ _=>False) s1) (λ_ _=>False) s)
  (n:Nat) (h:I n s) :
  codeAny (model P w) A (.compLoop (.ListComp elt [⟨target,iter,ifs,0⟩] scope pos) 0 it acc env) R s:=by
 have no:∀(e:Value)(t:Shared),False->notedBy (model P w) A env (λe s'=>R (.error e) s') e t:=λ_ _ z=>z.elim;show codeAny_loop rfl I (λn s hI=>?_) n h;show wpAny_noted ?_;rw[compTurn_list];show ag (vp (ag (fk (turn n s hI) (λr s1 h1=>?_) no)));cases r with
 |none=>show aB h1
 |some v=>
  show ag (fk h1 (λ_ s1' h1'=>?_) no);show ag (fk h1' (λ_ s2 h2=>ag (fk h2 (λok s3 h3=>?_) no)) no);cases ok with
  |false=>show aB ⟨rfl,h3⟩
  |true=>
   show ag (ag (fk h3 (λx s4 h4=>ag (fk h4 (λ_ s5 h5=>aB (aB ⟨rfl,h5⟩)) no)) no))
section
variable {N:List Str}{fr:List (Option Nat)}{fp:List Addr}
theorem EY{elt target iter:Expr}{ifs:List Expr}{pos:Pos}{it D:Addr}{tn:Nat->Heap->Prop}{J:It}{g:TG}{tt:TT}{te:TE}{R:Result->Shared->Prop}{s1:Shared}{H:St}{H1:Hp}{Q:Hp->Prop}
  {Y:Cx} (hY:Y.xe=λ_ _=>False) (P:Y.calm=true) (I:Inv Y [] H (upd H1 D (.lst [])) s1) (T:Turn Y.prog Y.w Y.K target J fp it tn) (ht:tn 0 s1.heap) (hf:∀b∈fp,dM Y [] (upd H1 D (.lst [])) b)
  (hg:PG Y target g) (hi:PIf Y ifs tt) (he:PE Y elt te) (h:ji J g tt te D H H1 Q) (hR:∀s' Z' H',Inv Y [] Z' H' s'->Q H'->R (.ok .next) s') :
  codeAny (model Y.prog Y.w) Y.A (.compLoop (.ListComp elt [⟨target,iter,ifs,0⟩] scope pos) 0 (.ref it) (.ref D) Y.env) R s1:=by
 obtain⟨W,⟨m0,w0⟩,turn⟩:=h;have L:∀{H':Hp},(∀b∈fp,H' b=none)->∀b∈fp,dM Y [] H' b:=λhn b a=>⟨hn b a,(hf b a).2⟩;show Df (λn s'=>∃i Z' ys H',Inv Y [] Z' H' s'/\tn i s'.heap/\(∀b∈fp,H' b=none)/\W i n Z' ys H') ?_ m0 ⟨0,H,[],_,I,ht,λb a=>(hf b a).1,w0⟩;rintro n S ⟨i,l,ys,q,U,X,Z,w3⟩;have back:∀{α:Type}{t:Sem α}{Q:α->Shared->Prop}{s:Shared},wpAny (model Y.prog Y.w) Y.A t Q Y.xe s->wpAny (model Y.prog Y.w) Y.A t Q (λ_ _=>False) s:=λh=>by rw[hY] at h;show h
 rcases turn i n l ys q w3 with ⟨stop,qn⟩|⟨go,N',ad,step⟩
 .refine thn (T.done Y rfl rfl rfl P i [] S l q _ U (L Z) X stop) λr s4 ⟨M,I4⟩=>?_;subst M;show hR s4 l q I4 qn
 show thn (T.item Y rfl rfl rfl P i [] S l q _ U (L Z) X go) λr s4 ⟨u,M,h4⟩=>?_;subst M;show thn h4 λ_ s5 ⟨x,H5,I5,r5,y5,N,al⟩=>?_;have ah:=I5.pinned (L al) (T.obj _ _ N);rw[jx] at ah;show thn (back (hg _ s5 l H5 x u _ ah r5 (step x H5 y5))) λ_ s6 ⟨z,H6,I6,q6⟩=>?_;show thn (back (hi _ s6 z H6 _ I6 q6)) λb c ⟨f,j,B⟩=>?_;have again:∀{C:St}{f:Hp}{c:Shared}{O:List V},Inv Y (mR fp s5.heap) C f c->(∃E,E<n/\W (i+1) E C O f)->∃m,m<n/\∃i Z' ys H',Inv Y [] Z' H' c/\tn i c.heap/\(∀b∈fp,H' b=none)/\W i m Z' ys H':=λ{C f c O} j ⟨E,hm,w7⟩=>by
  show⟨E,hm,i+1,C,O,f,j.pins_of (λp hp=>by simp at hp),T.keep _ _ _ N λb a o e=>(j.pin (b,o) (bo _ (kY a e))).1,λb a=>?_,w7⟩;obtain⟨o,e,d⟩:=T.obj _ _ N b a;show (j.pin (b,o) (bo _ (kY a e))).2.1
 cases b with
 |false=>
  rw[ug,Np bX] at B;rw[Np bX];show again j (ad _ _ _ B)
 |true=>
  rw[ug,Nq rfl] at B;rw[Nq rfl];show thn (back (he _ c z f _ j B)) λv s8 ⟨y,H8,I8,r8,hD,hl,q8⟩=>?_;show thn (back (cq _ s8 z H8 (.ref D) [y] (.ref D) [v] (λ_ H'=>N' z (ys++[y]) H') I8 rfl (.cons r8 .nil) ⟨D,ys,y,rfl,rfl,hD,hl,q8⟩)) λ_ s9 ⟨_,H9,I9,_,q9⟩=>?_;show again I9 (ad _ _ _ q9)
end
end L2
end
section
namespace L2
open PySem PySem.Spec PyProof.Rows
def uf(Q:VK)(D:Addr):Hp->Prop:=λH2=>Q (.ref D) H2
def tCoA(g:TG)(tt:TT)(te:TE)(fr:List (Option Nat))(Z:St)(Q:VK)(J:It)(H1:Hp):Prop:=∀D,H1 D=none->ji J g tt te D (jl fr Z) H1 (uf Q D)
def tCoK(g:TG)(tt:TT)(te:TE)(fr:List (Option Nat))(Z:St)(Q:VK):It->Hp->Prop:=λJ H1=>tCoA g tt te fr Z Q J H1
def tW(wi:TI)(g:TG)(tt:TT)(te:TE)(fr:List (Option Nat)):TE:=λZ H Q=>wi Z H (tCoK g tt te fr Z Q)
section
variable {N:List Str}{fr:List (Option Nat)}{elt tg iter:Expr}{ifs:List Expr}{pos:Pos}{wi:TI}{g:TG}{tt:TT}{te:TE}
def PComp(X:Cx)(N:List Str)(scope:Scope)(tg:Expr)(ifs:List Expr)(elt:Expr)(g:TG)(tt:TT)(te:TE):Prop:=
 ∀(C:Addr)(s:Shared)(H:Hp)(fp:List Addr)(Nw:List (Addr×Obj)),PG (iI X N scope C s H fp Nw) tg g/\PIf (iI X N scope C s H fp Nw) ifs tt/\PE (iI X N scope C s H fp Nw) elt te
theorem vN{i:Value}{Z_:Value->Addr->Result->Shared->Prop}{QQ:Addr->Hp->Prop}(S:gh X N fr scope)(I:X.calm=true)
  (a:PComp X N scope tg ifs elt g tt te) (h2:PIE X Nw Z tg (λJ H1=>∀D,H1 D=none->ji J g tt te D (jl fr Z) H1 (QQ D)) i s)
  (K:∀D C s' H',Inv X Nw Z H' s'->dM X Nw H' C->(∃m,s'.heap.Ns C m)->QQ D H'->Z_ (.ref D) C (.ok .next) s') :
  wpAny ⇑X X.A (newList []) (λacc L=>wpAny ⇑X X.A (newFunctionEnv scope X.env.globals (dJ X.env scope.names []) [] X.env.qual none .none (some X.env)) (λj M=>
   codeAny ⇑X X.A (.compStart (.ListComp elt [⟨tg,iter,ifs,0⟩] scope pos) 0 i acc {j with scope:=relabel scope X.env}) (Z_ acc j.locals) M) E L) E s:=by
 obtain⟨it,fp,tn,J,H1,e,l,T,n,r,q⟩:=h2;subst e;have O:H1 ↥s=none:=l.hok.fresh (ax _);have old:∀b∈fp,b<↥s:=λb a=>by
  obtain⟨o,e,_⟩:=T.obj _ _ n b a;show aN e
 show oj (wpAny_newFunctionEnv S.nocell (by intro y P;simp at P) (λh1 v h=>?_) S.kind);dsimp only at v h |-;have x:Inv X Nw Z (upd H1 ↥s (.lst [])) {s with heap:=s.heap.push {cls:=.type "list",dict:=none,data:=.seq ([]:List Value).toArray}}:=by show l.laid (t':=s.toks) (λb u e=>bg _ e) (ax _) ?_;show⟨aQ _,[],_,.nil,cw _ rfl⟩
 have c:∀b∈fp,dM X Nw (upd H1 ↥s (.lst [])) b:=λb a=>⟨by rw[bh (b_ (old b a))];show (r b a).1,(r b a).2⟩;have hsz:(s.heap.push {cls:=.type "list",dict:=none,data:=.seq ([]:List Value).toArray}).objs.size=↥s+1:=p_ ..;have d:=Cq (C:=(s.heap.push {cls:=.type "list",dict:=none,data:=.seq ([]:List Value).toArray}).objs.size) (h1:=h1) (t:=s.toks+([]:List (Str×Value)).length) (fp:=fp) S x c (ax _)
  (λb a=>by rw[hsz];show b_ (uR (old b a))) v λb o e=>h.extBut b o (b_ (aN e)) (bg _ e)
 have z:tn 0 h1:=T.keep _ _ _ n λb a o e=>by
  have B:=bg {cls:=.type "list",dict:=none,data:=.seq ([]:List Value).toArray} e;show h.extBut b o (b_ (aN B)) (bg _ B)
 have Q:∀b∈fp,dM (iI X N scope (s.heap.push {cls:=.type "list",dict:=none,data:=.seq ([]:List Value).toArray}).objs.size {s with heap:=s.heap.push {cls:=.type "list",dict:=none,data:=.seq ([]:List Value).toArray}} (upd H1 ↥s (.lst [])) fp Nw) [] (upd H1 ↥s (.lst [])) b:=λb a=>by
  show⟨(c b a).1,(d.ok.exf b a).1,d.ok.exfs b a,.inl a,(d.ok.exf b a).2,λp f=>?_⟩;have f:p∈(X.pn++Nw)++[]:=f;rw[dh] at f;show (c b a).2.2.2.2.2 p f
 obtain⟨U,b2,b3⟩:=a (s.heap.push {cls:=.type "list",dict:=none,data:=.seq ([]:List Value).toArray}).objs.size {s with heap:=s.heap.push {cls:=.type "list",dict:=none,data:=.seq ([]:List Value).toArray}} (upd H1 ↥s (.lst [])) fp Nw;have run:=EY (Y:=iI X N scope (s.heap.push {cls:=.type "list",dict:=none,data:=.seq ([]:List Value).toArray}).objs.size {s with heap:=s.heap.push {cls:=.type "list",dict:=none,data:=.seq ([]:List Value).toArray}} (upd H1 ↥s (.lst [])) fp Nw) (elt:=elt) (iter:=iter) (pos:=pos) (scope:=scope) (R:=Z_ (.ref ↥s) (s.heap.push {cls:=.type "list",dict:=none,data:=.seq ([]:List Value).toArray}).objs.size) rfl I d T z Q U b2 b3 (q _ O) λs' Z' H' H q'=>by
  obtain⟨J1,F1⟩:=EZ x c (ax _) H;obtain⟨m,hm,_⟩:=H.loc;show K _ _ s' H' J1 F1 ⟨m,hm⟩ q'
 show codeAny_compStart_list run (T.self _ 0 _ _ _ z run)
theorem dP(S:gh X N fr scope)(c:X.calm=true)(hi:PI X tg iter wi)(a:PComp X N scope tg ifs elt g tt te)
  (d:∀x,foldedSetIterable iter X.env x=pure x:=by intro _;rfl):PE X (.ListComp elt [⟨tg,iter,ifs,0⟩] scope pos) (tW wi g tt te fr):=by
 intro Nw s Z H Q I h;rw[eval_ListComp];show Mf (use:=none) rfl d (vO (S.cells I.ok)) S.kind S.names (thn (hi Nw s Z H _ I h) λv s1 h1=>thn h1 λi s2 h2=>?_);show vN (QQ:=λD H2=>Q (.ref D) H2) (Z_:=λacc C=>compPost ⇑X X.A X.xe none (EP X Nw Z Q) acc C) S c a h2 λD C s' H' J F hm q=>?_;obtain⟨m,hm⟩:=hm;show⟨m,hm,λh' f=>⟨.ref D,H',?_,rfl,q⟩⟩;show J.turned (t':=s'.toks) (λb o a e=>f.extBut b o a e) F.1 F.2.1 F.2.2.2.1 F.2.2.2.2.1 F.2.2.2.2.2
theorem l_{i:Nat}{x:Str}{pos' spos:Pos}(S:gh X N fr scope)(hc:X.calm=true)(hi:PI X tg iter wi)(hb:PComp X N scope tg ifs elt g tt te)(hN:X.N.Nodup)(hx:X.N[i]?=some x)(hl:Loc X.env.scope x)
  (hsw:swapsWith (.ListComp elt [⟨tg,iter,ifs,0⟩] scope pos) (some (.Name x pos')) spos.line X.env=pure true:=by rfl)
  (hf:X.fn x=true\/X.env.scope.names.lookup x=some .local:=by first|exact .inl rfl|exact .inr rfl|assumption)
  (hs:∀x,foldedSetIterable iter X.env x=pure x:=by intro _;rfl):PS X (.Assign [.Name x pos'] (.ListComp elt [⟨tg,iter,ifs,0⟩] scope pos) spos) (ni (tW wi g tt te fr) (c7 i)):=by
 intro Nw s Z H D I h;rw[exec_Assign_Name_used _ _ _ _ hsw];show ag (vp (ag ?_));change wpAny _ _ (do let _ <-comprehension (.ListComp elt [⟨tg,iter,ifs,0⟩] scope pos) scope X.env _ (newList []) false (eval iter X.env) (some (assign (.Name x pos') X.env))) _ _ s;show ag (thn (Mf (use:=some (assign (.Name x pos') X.env)) (Q:=λ_ s'=>SP X Nw D .next s') rfl hs (vO (S.cells I.ok)) S.kind S.names (thn (hi Nw s Z H _ I h) λv s1 h1=>thn h1 λitv s2 h2=>?_)) λ_ s' hq=>aB (aB hq));show vN (QQ:=λd H2=>D.nx (Z.set i (some (.ref d))) H2) (Z_:=λacc C=>compPost ⇑X X.A X.xe (some (assign (.Name x pos') X.env)) (λ_ s'=>SP X Nw D .next s') acc C) S hc hb h2 λd C s' H' J F hm q=>?_;obtain⟨m,hm⟩:=hm;change wpAny _ _ (assign (.Name x pos') X.env (.ref d)) _ _ s';show Me (vV J hN hx hl (v:=.ref d) rfl (λs2 I2 ⟨a,sb,ha⟩=>?_) hf);have hCa:C≠a:=by
  rcases ha with e|e
  .rw[e];show F.2.1
  show λz=>F.2.2.2.2.1 x a e z.symm
 show⟨m,hm.sameBut sb hCa,λh' hs'=>⟨_,H',?_,q⟩⟩;show I2.turned (t':=s2.toks) (λb o hb e=>hs'.extBut b o hb e) F.1 F.2.1 F.2.2.2.1 F.2.2.2.2.1 F.2.2.2.2.2
end
section
variable {a D:Addr}{g:TG}{tt:TT}{te:TE}{Z':St}{H1:Hp}{Q:Hp->Prop}
theorem dB(Pv:Nat->St->List V->Hp->Prop)(c:Pv 0 Z' [] (upd H1 D (.lst [])))(d:∀i Z ys H,i<=xs.length->Pv i Z ys H->SqL K H a xs)
  (f:∀i x Z ys H,xs[i]?=some x->Pv i Z ys H->g x Z H (nh tt te D ys (Pv (i+1))))
  (hd:∀Z ys H,Pv xs.length Z ys H->Q H):ji (Itl K a) g tt te D Z' H1 Q:=by
 show⟨λi m Z ys H=>m=xs.length-i/\i<=xs.length/\Pv i Z ys H,⟨xs.length,∅,aQ _,c⟩,?_⟩;rintro i m Z ys H ⟨rfl,hi,p⟩;have q:=d i Z ys H hi p;by_cases b:i<xs.length
 .refine .inr ⟨⟨xs,xs[i],q,by simp[b]⟩,Pv (i+1),λZ' h H' p'=>⟨xs.length-(i+1),(),rfl,b,p'⟩,λx H' y=>?_⟩;obtain⟨e,y⟩:=y;subst e;show f i x Z ys _ (y xs q) p
 have e:i=xs.length:=();subst e;show .inl ⟨⟨xs,q,ax _⟩,hd Z ys H p⟩
theorem xH(Pv:Nat->St->List V->Hp->Prop)(c:Pv 0 Z' [] (upd H1 D (.lst [])))(d:∀i Z ys H,i<=xs.length->Pv i Z ys H->SqT K H a xs)
  (f:∀i x Z ys H,xs[i]?=some x->Pv i Z ys H->g x Z H (nh tt te D ys (Pv (i+1))))
  (hd:∀Z ys H,Pv xs.length Z ys H->Q H):ji (Itt K a) g tt te D Z' H1 Q:=by
 show⟨λi m Z ys H=>m=xs.length-i/\i<=xs.length/\Pv i Z ys H,⟨xs.length,∅,aQ _,c⟩,?_⟩;rintro i m Z ys H ⟨rfl,hi,p⟩;have q:=d i Z ys H hi p;by_cases b:i<xs.length
 .refine .inr ⟨⟨xs,xs[i],q,by simp[b]⟩,Pv (i+1),λZ' h H' p'=>⟨xs.length-(i+1),(),rfl,b,p'⟩,λx H' y=>?_⟩;obtain⟨e,y⟩:=y;subst e;show f i x Z ys _ (y xs q) p
 have e:i=xs.length:=();subst e;show .inl ⟨⟨xs,q,ax _⟩,hd Z ys H p⟩
theorem Cr{lo:Int}{n:Nat}(Pv:Nat->St->List V->Hp->Prop)(b:Pv 0 Z' [] (upd H1 D (.lst [])))
  (c:∀i Z ys H,i<n->Pv i Z ys H->g (.int (lo+i)) Z H (nh tt te D ys (Pv (i+1))))
  (hd:∀Z ys H,Pv n Z ys H->Q H):ji (Itr lo n) g tt te D Z' H1 Q:=by
 show⟨λi m Z ys H=>m=n-i/\i<=n/\Pv i Z ys H,⟨n,∅,aQ _,b⟩,?_⟩;rintro i m Z ys H ⟨rfl,hi,p⟩;by_cases a:i<n
 .refine .inr ⟨a,Pv (i+1),λZ' d H' p'=>⟨n-(i+1),(),rfl,a,p'⟩,λx H' y=>?_⟩;obtain⟨e,y⟩:=y;subst e y;show c i Z ys _ a p
 have e:i=n:=();subst e;show .inl ⟨ax _,hd Z ys H p⟩
end
end L2
end
section
namespace TimS
open PySem PySem.W PyProof.Rows
theorem half{u w:Nat}(h:¬u ≥ w):u<=(u+w)/2/\(u+w)/2<w:=()
theorem half'{u w:Nat}(h:¬u ≥ w):u<=u+(w-u)/2/\u+(w-u)/2<w:=()
theorem fewer{u w k t m:Nat}(h:w-u<=k-t)(h1:m<w)(h2:u<=m):m-u<=k-(t+1):=()
theorem fewer'{u w k t m:Nat}(h:w-u<=k-t)(h1:m<w)(h2:u<=m):w-(m+1)<=k-(t+1):=()
abbrev SM:=StateT SortSt Sem
def gal:Bool->Keyed->Array Keyed->Nat->Nat->Nat->SM (Option Nat):=sortPriv% PySem.Builtin.gallop
def mlo:Array Keyed->Array Keyed->SM (Array Keyed):=sortPriv% PySem.Builtin.mergeLo
def mhi:Array Keyed->Array Keyed->SM (Array Keyed):=sortPriv% PySem.Builtin.mergeHi
def smg:Nat->SM Unit:=sortPriv% PySem.Builtin.setMinGallop
def bey(l:Bool)(q:Keyed)(v:Array Keyed)(o i:Nat):SM (Option Bool):=do
 let x <-elem' v (o+i)
 if l then lt' x q else return (<-lt' q x).map (!·)
theorem IU(l:Bool)(q:Keyed)(v:Array Keyed)(o n h:Nat):gal l q v o n h=(do
 let mut z:=0
 let mut c:=1
 let mut u:=0
 let mut w:=0
 let some r <-bey l q v o h|return none
 if r then
  let m:=n-h
  for _ in [0:n] do
   if c ≥ m then break
   let some g <-bey l q v o (h+c)|return none
   if !g then break
   z:=c
   c:=2*c+1
  u:=h+z+1
  w:=h+min c m
 else
  let m:=h+1
  for _ in [0:n] do
   if c ≥ m then break
   let some g <-bey l q v o (h-c)|return none
   if g then break
   z:=c
   c:=2*c+1
  u:=h+1-min c m
  w:=h-z
 for _ in [0:n] do
  if u ≥ w then break
  let m:=u+(w-u)/2
  let some g <-bey l q v o m|return none
  if g then u:=m+1 else w:=m
 return some w):=rfl
theorem Iy(x y:Array Keyed):mlo x y=(do
 rule "list.sort.merge-lo"
 let T:=x.size+y.size
 let fa (v:Array Keyed) (i j:Nat):=v++x.extract i x.size++y.extract j y.size
 let fb (v:Array Keyed) (i j:Nat):=v++y.extract j y.size++x.extract i x.size
 let mut v:Array Keyed:=#[<-elem' y 0]
 let mut i:=0
 let mut j:=1
 if j==y.size then return fa v i j
 if i+1==x.size then return fb v i j
 let mut g:=gallopOf (<-get)
 for _ in [0:T] do
  let mut c:=0
  let mut d:=0
  for _ in [0:T] do
   let some b <-lt' (<-elem' y j) (<-elem' x i)|return fa v i j
   if b then
    v:=v.push (<-elem' y j);j:=j+1;d:=d+1;c:=0
    if j==y.size then return fa v i j
    if d ≥ g then break
   else
    v:=v.push (<-elem' x i);i:=i+1;c:=c+1;d:=0
    if i+1==x.size then return fb v i j
    if c ≥ g then break
  rule "list.sort.gallop"
  g:=g+1
  for _ in [0:T] do
   if g>1 then g:=g-1
   smg g
   let some k <-gal false (<-elem' y j) x i (x.size-i) 0|return fa v i j
   c:=k
   if k>0 then
    v:=v++x.extract i (i+k);i:=i+k
    if i+1==x.size then return fb v i j
    if i==x.size then return fa v i j
   v:=v.push (<-elem' y j);j:=j+1
   if j==y.size then return fa v i j
   let some k <-gal true (<-elem' x i) y j (y.size-j) 0|return fa v i j
   d:=k
   if k>0 then
    v:=v++y.extract j (j+k);j:=j+k
    if j==y.size then return fa v i j
   v:=v.push (<-elem' x i);i:=i+1
   if i+1==x.size then return fb v i j
   if c<7&&d<7 then break
  g:=g+1
  smg g
 unsupported "internal:list.sort.merge-bound"):=rfl
def G(a:Array Keyed)(i:Nat):Keyed:=a.getD i (Value.none,Value.none)
structure Cmp(M:Model)(A:Around)(E:Value->Shared->Prop)(s:Shared)(κ:SortKind)(N:Keyed->Prop)(lt:Keyed->Keyed->Bool):Prop where
 asym:∀x y,lt x y=true->lt y x=false
 tr:∀x y z,lt y x=false->lt z y=false->lt z x=false
 ask:∀{x y:Keyed}{st:SortSt}{Q:Option Bool->SortSt->Prop},N x->N y->kindOf st=κ->Q (some (lt x y)) st->wpS M A E s (lt' x y) Q st
section
variable {M:Model}{κ:SortKind}{N:Keyed->Prop}{lt:Keyed->Keyed->Bool}
theorem pR{a:Array Keyed}{i:Nat}(h:i<a.size):a[i]?=some (G a i):=by simp[G,Array.getD,h]
theorem br{α:Type}{c:Prop}[Decidable c]{t e:StateT SortSt Sem α}{Q:α->SortSt->Prop}{st:SortSt}(h:c)(q:wpS M A E s t Q st):wpS M A E s (if c then t else e) Q st:=by rw[Nq h];show q
theorem a9{α:Type}{c:Prop}[Decidable c]{t e:StateT SortSt Sem α}{Q:α->SortSt->Prop}{st:SortSt}(h:¬c)(q:wpS M A E s e Q st):wpS M A E s (if c then t else e) Q st:=by rw[Np h];show q
theorem cT{a:Array Keyed}{i:Nat}{Q:Keyed->SortSt->Prop}{st:SortSt}(h:i<a.size)(q:Q (G a i) st):wpS M A E s (elem' a i) Q st:=by rw[elem'_eq,pR h];show aF q
theorem Cmp.refl(C:Cmp M A E s κ N lt)(x:Keyed):lt x x=false:=by
 cases h:lt x x with
 |false=>rfl
 |true=>have z:=C.asym x x h;rw[h] at z;cases z
theorem Cmp.ltle(C:Cmp M A E s κ N lt){x y z:Keyed}(h:lt x y=true)(h2:lt z y=false):lt x z=true:=by
 cases q:lt x z with
 |true=>rfl
 |false=>have:=C.tr _ _ _ h2 q;rw[h] at this;cases this
theorem Cmp.lelt(C:Cmp M A E s κ N lt){x y z:Keyed}(h:lt y x=false)(h2:lt y z=true):lt x z=true:=by
 cases q:lt x z with
 |true=>rfl
 |false=>have:=C.tr _ _ _ q h;rw[h2] at this;cases this
theorem jR{x:String}{Q:Unit->SortSt->Prop}{st:SortSt}(h:Q .unit st):wpS M A E s (liftM (rule x):SM Unit) Q st:=wpS_lift (vj ⟨rfl,h⟩)
def bv(lt:Keyed->Keyed->Bool)(l:Bool)(q:Keyed)(v:Array Keyed)(o i:Nat):Bool:=if l then lt (G v (o+i)) q else !lt q (G v (o+i))
theorem jY(C:Cmp M A E s κ N lt){l:Bool}{q:Keyed}{v:Array Keyed}{o i:Nat}{st:SortSt}{Q:Option Bool->SortSt->Prop}(a:∀i,i<v.size->N (G v i))(b:N q)(hi:o+i<v.size)(c:kindOf st=κ)(h:Q (some (bv lt l q v o i)) st):wpS M A E s (bey l q v o i) Q st:=by
 unfold bey;show av (cT hi ?_);cases l with
 |true=>show C.ask (a _ hi) b c h
 |false=>show av (C.ask b (a _ hi) c (aF h))
theorem jX{l:Bool}{q:Keyed}{v:Array Keyed}{o n h:Nat}{st:SortSt}{Q:Option Nat->SortSt->Prop}(b:Nat->Bool)(hb:∀i,i<n->∀Q:Option Bool->SortSt->Prop,Q (some (b i)) st->wpS M A E s (bey l q v o i) Q st)
  (mo:∀i j,i<=j->j<n->b j=true->b i=true) (hh:h<n) (hQ:∀k,k<=n->(∀i,i<k->b i=true)->(∀i,k<=i->i<n->b i=false)->Q (some k) st):wpS M A E s (gal l q v o n h) Q st:=by
 have mf:∀i j,i<=j->j<n->b i=false->b j=false:=λi j a c d=>by
  cases e:b j with
  |false=>rfl
  |true=>rw[mo i j a c e] at d;cases d
 have tail:∀(u w:Nat),u<=w->w<=n->(∀i,i<u->b i=true)->(∀i,w<=i->i<n->b i=false)->wpS M A E s (do
   let mut u:=u
   let mut w:=w
   for _ in [0:n] do
    if u ≥ w then break
    let m:=u+(w-u)/2
    let some g <-bey l q v o m|return none
    if g then u:=m+1 else w:=m
   return some w) Q st:=by
  intro u w h1 h2 h3 h4;dsimp only;show av (eW (eI (I:=λi x st'=>st'=st/\x.1=none/\x.2.1<=x.2.2/\x.2.2<=n/\x.2.2-x.2.1<=n-i/\(∀i,i<x.2.1->b i=true)/\(∀i,x.2.2<=i->i<n->b i=false)) (Q:=λx st'=>st'=st/\x.1=none/\x.2.1=x.2.2/\x.2.2<=n/\(∀i,i<x.2.1->b i=true)/\(∀i,x.2.2<=i->i<n->b i=false)) ?step ?fin ⟨rfl,rfl,h1,h2,by change w-u<=n-0;lia,h3,h4⟩) ?post)
  case fin=>
   rintro⟨r,u,w⟩ st' ⟨rfl,e,a1,a2,a3,a4,a5⟩;have a1:u<=w:=a1;have a3:w-u<=n-max 0 n:=a3;show⟨rfl,e,by change u=w;lia,a2,a4,a5⟩
  case step=>
   rintro i ⟨r,u,w⟩ st' _ hi ⟨rfl,e,a1,a2,a3,a4,a5⟩;have a1:u<=w:=a1;have a2:w<=n:=a2;have a3:w-u<=n-i:=a3;have a4:∀i,i<u->b i=true:=a4;have a5:∀i,w<=i->i<n->b i=false:=a5;dsimp only;by_cases c:u ≥ w
   .refine br c ?_;show aF ⟨rfl,rfl,by change u=w;lia,a2,a4,a5⟩
   show a9 c ?_;obtain⟨m1,m2⟩:=half' c;generalize u+(w-u)/2=m at m1 m2 |-;show av (hb _ (cp m2 a2) _ ?_);dsimp only;cases hm:b m with
   |true=>
    show br rfl ?_;show aF ⟨rfl,rfl,m2,a2,fewer' a3 m2 m1,λk hk=>mo k m (Ll hk) (cp m2 a2) hm,a5⟩
   |false=>
    show a9 ⋯ ?_;show aF ⟨rfl,rfl,m1,nR (cp m2 a2),fewer a3 m2 m1,a4,λk hk h'=>mf _ k hk h' hm⟩
  case post=>
   rintro⟨r,u,w⟩ st' ⟨rfl,e,a1,a2,a3,a4⟩;have e:r=none:=e;cases e;cases (show u=w from a1);show aF (hQ u a2 a3 a4)
 rw[IU];dsimp only;show av (hb h hh _ ?_);dsimp only;cases b0:b h with
 |true=>
  show br rfl ?_;show av (eW (eI (β:=Option (Option Nat)×Nat×Nat) (I:=λi x st'=>st'=st/\x.1=none/\b (h+x.2.1)=true/\h+x.2.1<n/\x.2.1<x.2.2/\i<x.2.2) (Q:=λx st'=>st'=st/\x.1=none/\b (h+x.2.1)=true/\h+x.2.1<n/\x.2.1<x.2.2/\(x.2.2 ≥ n-h\/b (h+x.2.2)=false)) ?s1 ?f1 ⟨rfl,rfl,b0,hh,jz 0,jz 0⟩) ?p1)
  case f1=>
   rintro⟨r,z,c⟩ st' ⟨rfl,e,a1,a2,a3,a4⟩;have a4:max 0 n<c:=a4;show⟨rfl,e,a1,a2,a3,.inl (by change c ≥ n-h;lia)⟩
  case s1=>
   rintro i ⟨r,z,c⟩ st' _ hi ⟨rfl,e,a1,a2,a3,a4⟩;have a1:b (h+z)=true:=a1;have a2:h+z<n:=a2;have a3:z<c:=a3;have a4:i<c:=a4;dsimp only;by_cases c1:c ≥ n-h
   .exact br c1 (aF ⟨rfl,rfl,a1,a2,a3,.inl c1⟩)
   show a9 c1 ?_;show av (hb _ () _ ?_);dsimp only;cases hm:b (h+c) with
   |true=>
    show a9 ⋯ ?_;show aF ⟨rfl,rfl,hm,by change h+c<n;lia,by change c<2*c+1;lia,by change i+1<2*c+1;lia⟩
   |false=>
    show br ⋯ ?_;show aF ⟨rfl,rfl,a1,a2,a3,.inr hm⟩
  case p1=>
   rintro⟨r,z,c⟩ st' ⟨rfl,e,a1,a2,a3,a4⟩;have e:r=none:=e;subst e;have a1:b (h+z)=true:=a1;have a2:h+z<n:=a2;have a3:z<c:=a3;have a4:c ≥ n-h\/b (h+c)=false:=a4;dsimp only;show tail (h+z+1) (h+min c (n-h)) () () (λi hi=>mo i (h+z) () a2 a1) (λi hi hn=>?_);rcases a4 with a4|a4
   .lia
   by_cases c1:c ≥ n-h
   .lia
   show mf (h+c) i () hn a4
 |false=>
  show a9 ⋯ ?_;show av (eW (eI (β:=Option (Option Nat)×Nat×Nat) (I:=λi x st'=>st'=st/\x.1=none/\b (h-x.2.1)=false/\x.2.1<=h/\x.2.1<x.2.2/\i<x.2.2) (Q:=λx st'=>st'=st/\x.1=none/\b (h-x.2.1)=false/\x.2.1<=h/\x.2.1<x.2.2/\(x.2.2 ≥ h+1\/b (h-x.2.2)=true)) ?s2 ?f2 ⟨rfl,rfl,b0,aQ _,jz 0,jz 0⟩) ?p2)
  case f2=>
   rintro⟨r,z,c⟩ st' ⟨rfl,e,a1,a2,a3,a4⟩;have a4:max 0 n<c:=a4;show⟨rfl,e,a1,a2,a3,.inl (by change c ≥ h+1;lia)⟩
  case s2=>
   rintro i ⟨r,z,c⟩ st' _ hi ⟨rfl,e,a1,a2,a3,a4⟩;have a1:b (h-z)=false:=a1;have a2:z<=h:=a2;have a3:z<c:=a3;have a4:i<c:=a4;dsimp only;by_cases c1:c ≥ h+1
   .exact br c1 (aF ⟨rfl,rfl,a1,a2,a3,.inl c1⟩)
   show a9 c1 ?_;show av (hb _ () _ ?_);dsimp only;cases hm:b (h-c) with
   |true=>
    show br rfl ?_;show aF ⟨rfl,rfl,a1,a2,a3,.inr hm⟩
   |false=>
    show a9 ⋯ ?_;show aF ⟨rfl,rfl,hm,by change c<=h;lia,by change c<2*c+1;lia,by change i+1<2*c+1;lia⟩
  case p2=>
   rintro⟨r,z,c⟩ st' ⟨rfl,e,a1,a2,a3,a4⟩;have e:r=none:=e;subst e;have a1:b (h-z)=false:=a1;have a2:z<=h:=a2;have a3:z<c:=a3;have a4:c ≥ h+1\/b (h-c)=true:=a4;dsimp only;show tail (h+1-min c (h+1)) (h-z) () () (λi hi=>?_) (λi hi hn=>mf (h-z) i () hn a1);rcases a4 with a4|a4
   .lia
   by_cases c1:c ≥ h+1
   .lia
   show mo i (h-c) () () a4
end
theorem Iz(x y:Array Keyed):mhi x y=(do
 rule "list.sort.merge-hi"
 let T:=x.size+y.size
 let fa (v:Array Keyed) (i j:Nat):=x.extract 0 i++y.extract 0 j++v.reverse
 let fb (v:Array Keyed) (i j:Nat):=y.extract 0 j++x.extract 0 i++v.reverse
 let mut i:=x.size-1
 let mut j:=y.size
 let mut v:Array Keyed:=#[<-elem' x i]
 if i==0 then return fa v i j
 if j==1 then return fb v i j
 let mut g:=gallopOf (<-get)
 for _ in [0:T] do
  let mut c:=0
  let mut d:=0
  for _ in [0:T] do
   let some b <-lt' (<-elem' y (j-1)) (<-elem' x (i-1))|return fa v i j
   if b then
    i:=i-1;v:=v.push (<-elem' x i);c:=c+1;d:=0
    if i==0 then return fa v i j
    if c ≥ g then break
   else
    j:=j-1;v:=v.push (<-elem' y j);d:=d+1;c:=0
    if j==1 then return fb v i j
    if d ≥ g then break
  rule "list.sort.gallop"
  g:=g+1
  for _ in [0:T] do
   if g>1 then g:=g-1
   smg g
   let some p <-gal false (<-elem' y (j-1)) x 0 i (i-1)|return fa v i j
   let k:=i-p
   c:=k
   if k>0 then
    v:=v++(x.extract p i).reverse;i:=p
    if i==0 then return fa v i j
   j:=j-1;v:=v.push (<-elem' y j)
   if j==1 then return fb v i j
   let some p <-gal true (<-elem' x (i-1)) y 0 j (j-1)|return fa v i j
   let k:=j-p
   d:=k
   if k>0 then
    v:=v++(y.extract p j).reverse;j:=p
    if j==1 then return fb v i j
    if j==0 then return fa v i j
   i:=i-1;v:=v.push (<-elem' x i)
   if i==0 then return fa v i j
   if c<7&&d<7 then break
  g:=g+1
  smg g
 unsupported "internal:list.sort.merge-bound"):=rfl
theorem HP(g:Nat):smg g=modify λs=>SortSt.mk' (kindOf s) (arrOf s) (pendingOf s) g (failedOf s):=rfl
theorem IA(i:Nat):mergeAt' i=(do
 let s <-get
 let (some (p,m,e),some (q,n,_)):=((pendingOf s)[i]?,(pendingOf s)[i+1]?)|unsupported "internal:list.sort.pending"
 set (setPending s (((pendingOf s).setIfInBounds i (p,m+n,e)).eraseIdxIfInBounds (i+1)))
 let some k <-gal false (<-elem' (arrOf s) q) (arrOf s) p m 0|return false
 let (p,m):=(p+k,m-k)
 if m==0 then return true
 let some n <-gal true (<-elem' (arrOf s) (p+m-1)) (arrOf s) q n (n-1)|return false
 if n==0 then return true
 let x:=(arrOf s).extract p q
 let y:=(arrOf s).extract q (q+n)
 let r <-if m<=n then mlo x y else mhi x y
 modify λs=>setArr s (r.toList.zipIdx.foldl (λa (z,j)=>a.setIfInBounds (p+j) z) (arrOf s))
 return (failedOf (<-get)).isNone):=rfl
section
variable {M:Model}{κ:SortKind}{N:Keyed->Prop}{lt:Keyed->Keyed->Bool}
def Asc(lt:Keyed->Keyed->Bool)(x:Array Keyed):Prop:=∀i j,i<=j->j<x.size->lt (G x j) (G x i)=false
def Srt(lt:Keyed->Keyed->Bool)(l:List Keyed):Prop:=l.Pairwise λa b=>lt b a=false
structure MI(lt:Keyed->Keyed->Bool)(x y v:Array Keyed)(i j:Nat):Prop where
 ix:i<=x.size
 jy:j<=y.size
 pm:v.toList.Perm (x.toList.take i++y.toList.take j)
 so:Srt lt v.toList
 bx:∀a∈v.toList,∀k,i<=k->k<x.size->lt (G x k) a=false
 by_:∀a∈v.toList,∀k,j<=k->k<y.size->lt (G y k) a=false
def Good(lt:Keyed->Keyed->Bool)(x y v:Array Keyed):Prop:=v.toList.Perm (x.toList++y.toList)/\Srt lt v.toList
theorem MI.sw{x y v:Array Keyed}{i j:Nat}(h:MI lt x y v i j):MI lt y x v j i:=⟨h.jy,h.ix,h.pm.trans cP,h.so,h.by_,h.bx⟩
theorem Hi{x:Array Keyed}{i:Nat}(h:i<x.size):x.toList.take (i+1)=x.toList.take i++[G x i]:=by rw[cS,ip,pR h];rfl
theorem MI.push{x y v:Array Keyed}{i j:Nat}(c:Asc lt x)(h:MI lt x y v i j)(hi:i<x.size)(d:∀k,j<=k->k<y.size->lt (G y k) (G x i)=false):MI lt x y (v.push (G x i)) (i+1) j:=by
 show⟨hi,h.jy,?_,?_,λa ha k h1 h2=>?_,λa ha k h1 h2=>?_⟩
 .rw[gM,Hi hi,bI];show (h.pm.append_right _).trans ?_;rw[bI];show gO _ cP
 .unfold Srt;rw[gM,uK];show⟨h.so,qv _ _,λa ha b e=>?_⟩;rw[aL.mp e];show h.bx a ha i (ax _) hi
 .rw[gM] at ha;rcases aw.mp ha with ha|ha
  .exact h.bx a ha k () h2
  rw[aL.mp ha];show c i k () h2
 rw[gM] at ha;rcases aw.mp ha with ha|ha
 .exact h.by_ a ha k h1 h2
 rw[aL.mp ha];show d k h1 h2
theorem Ar{x v:Array Keyed}{i k:Nat}(h:i+k<x.size):v++x.extract i (i+(k+1))=(v++x.extract i (i+k)).push (G x (i+k)):=by
 apply nG.mp;rw[gM,KF,KF,uq,uq,uB,uB,bI]
 congr 1
 rw[show i+(k+1)-i=k+1 by lia,show i+k-i=k by lia,cS,uE,ip,pR h];rfl
theorem MI.chunk{x y v:Array Keyed}{i j:Nat}(b:Asc lt x)(h:MI lt x y v i j):∀(k:Nat),i+k<=x.size->(∀m,m<k->∀a,j<=a->a<y.size->lt (G y a) (G x (i+m))=false)->MI lt x y (v++x.extract i (i+k)) (i+k) j
 |0,_,_=>by
  have e:v++x.extract i (i+0)=v:=by apply nG.mp;simp
  rw[e];show h
 |k+1,c,hm=>by
  rw[Ar ()];show (MI.chunk b h k () λm d=>hm m ()).push b () (hm k (jz _))
theorem MI.fin{x y v:Array Keyed}(h:MI lt x y v x.size y.size):Good lt x y v:=by
 show⟨?_,h.so⟩;have:=h.pm
 rwa [gQ ∅,gQ ∅] at this
theorem MI.fa{x y v:Array Keyed}{i j:Nat}(c:Asc lt x)(d:Asc lt y)(h:MI lt x y v i j)(e:∀m,i<=m->m<x.size->∀k,j<=k->k<y.size->lt (G y k) (G x m)=false):Good lt x y (v++x.extract i x.size++y.extract j y.size):=by have hi:=h.ix;have f:=h.jy;have a:=MI.chunk c h (x.size-i) () λm hm k h1 h2=>e _ () () k h1 h2;rw[show i+(x.size-i)=x.size by lia] at a;have b:=MI.chunk d a.sw (y.size-j) () λm hm k h1 h2=>absurd h1 ();rw[show j+(y.size-j)=y.size by lia] at b;show b.sw.fin
theorem Good.sw{x y v:Array Keyed}(h:Good lt y x v):Good lt x y v:=⟨h.1.trans cP,h.2⟩
def Fr(st a:SortSt):Prop:=kindOf a=kindOf st/\arrOf a=arrOf st/\pendingOf a=pendingOf st/\failedOf a=failedOf st
theorem o_{g:Nat}{st a:SortSt}{Q:Unit->SortSt->Prop}(f:Fr st a)(h:∀b,Fr st b->Q .unit b):wpS M A E s (smg g) Q a:=by rw[HP];show i5 (h _ f)
structure J(lt:Keyed->Keyed->Bool)(x y:Array Keyed)(st:SortSt)(lo:Nat)(r:Option (Array Keyed))(v:Array Keyed)(i j:Nat)(st':SortSt):Prop where
 f:Fr st st'
 yes:∀a,r=some a->Good lt x y a
 no:r=none->MI lt x y v i j/\i+1<x.size/\j<y.size/\lo<=i+j
theorem J.on{x y:Array Keyed}{st a:SortSt}{lo i j:Nat}{v:Array Keyed}(f:Fr st a)(h:MI lt x y v i j)(hi:i+1<x.size)(b:j<y.size)(c:lo<=i+j):J lt x y st lo none v i j a:=⟨f,λ_ z=>(nomatch z),λ_=>⟨h,hi,b,c⟩⟩
theorem J.end_{x y:Array Keyed}{st b:SortSt}{lo i j:Nat}{v a:Array Keyed}(f:Fr st b)(h:Good lt x y a):J lt x y st lo (some a) v i j b:=⟨f,λ_ z=>cy z ▸ h,λz=>(nomatch z)⟩
theorem G4(C:Cmp M A E s κ N lt){x y:Array Keyed}{st:SortSt}{Q:Array Keyed->SortSt->Prop}(hk:kindOf st=κ)(Nx:∀i,i<x.size->N (G x i))(Ny:∀i,i<y.size->N (G y i))(H:Asc lt x)(K:Asc lt y)(h0:0<x.size)(h1:0<y.size)
  (hb:lt (G y 0) (G x 0)=true) (hl:∀j,j<y.size->lt (G y j) (G x (x.size-1))=true) (q:∀r l,Fr st l->Good lt x y r->Q r l):wpS M A E s (mlo x y) Q st:=by
 have m0:MI lt x y #[G y 0] 0 1:=by have z:MI lt y x #[] 0 0:=⟨aQ _,aQ _,∅,List.Pairwise.nil,∅,∅⟩;show (z.push K h1 λk _ ad=>C.tr _ _ _ (C.asym _ _ hb) (H 0 k (aQ _) ad)).sw
 have fa:∀{v:Array Keyed}{i j:Nat},MI lt x y v i j->j=y.size\/i=x.size->Good lt x y (v++x.extract i x.size++y.extract j y.size):=λ{v i j} m e=>m.fa H K λa h2 u b h4 h5=>absurd e ();have fb:∀{v:Array Keyed}{i j:Nat},MI lt x y v i j->i+1=x.size->Good lt x y (v++y.extract j y.size++x.extract i x.size):=λ{v i j} m e=>(m.sw.fa K H λa h2 u b h4 h5=>by
  rw[show b=x.size-1 by lia];show C.asym _ _ (hl a u)).sw
 have L:∀{a b:Nat},(a==b)=true->a=b:=λh=>‹h›
 have O:∀{a b:Nat},¬(a==b)=true->a≠b:=λh=>‹h›
 rw[Iy];dsimp only;show av (jR (av (cT h1 ?_)));by_cases e1:(1==y.size)=true
 .exact br e1 (aF (q _ _ ⟨rfl,rfl,rfl,rfl⟩ (fa m0 (.inl (L e1)))))
 show a9 e1 ?_;by_cases e2:(0+1==x.size)=true
 .exact br e2 (aF (q _ _ ⟨rfl,rfl,rfl,rfl⟩ (fb m0 (L e2))))
 show a9 e2 ?_;have e1:=O e1;have e2:=O e2;have j0:=J.on (lo:=0) (show Fr st st from ⟨rfl,rfl,rfl,rfl⟩) m0 () () (aQ _);show av (iw (av (eW (eI (β:=Option (Array Keyed)×Array Keyed×Nat×Nat×Nat) (I:=λt z l=>z.1=none/\J lt x y st t none z.2.1 z.2.2.1 z.2.2.2.1 l) (Q:=λz l=>J lt x y st (x.size+y.size) z.1 z.2.1 z.2.2.1 z.2.2.2.1 l) ?step ?fin ⟨rfl,j0⟩) ?post)))
 case fin=>
  rintro⟨r,v,i,j,g⟩ l ⟨e,h⟩;have e:r=none:=e;subst e;show⟨h.f,h.yes,λz=>by
   obtain⟨a1,w,n,B⟩:=h.no z;show⟨a1,w,n,by rw[uS (aQ _)] at B;show B⟩⟩
 case post=>
  rintro⟨r,v,i,j,g⟩ l h;cases r with
  |some r=>show aF (q _ _ h.f (h.yes _ rfl))
  |none=>
   obtain⟨_,w,n,B⟩:=h.no rfl;have w:i+1<x.size:=w;have n:j<y.size:=n;have B:x.size+y.size<=i+j:=B;lia
 case step=>
  rintro t ⟨r,v,i,j,g⟩ bd _ ht ⟨e,h⟩;have e:r=none:=e;subst e;dsimp only at h |-;show av (eW (eI (β:=Option (Array Keyed)×Array Keyed×Nat×Nat×Nat×Nat) (I:=λk z l=>z.1=none/\J lt x y st (t+k) none z.2.1 z.2.2.1 z.2.2.2.1 l) (Q:=λz l=>J lt x y st (t+1) z.1 z.2.1 z.2.2.1 z.2.2.2.1 l) ?s1 ?f1 ⟨rfl,h⟩) ?p1)
  case f1=>
   rintro⟨r,v,i,j,c,d⟩ l ⟨e,h⟩;have e:r=none:=e;subst e;show⟨h.f,h.yes,λz=>by
    obtain⟨a1,w,n,B⟩:=h.no z;show⟨a1,w,n,by rw[uS (aQ _)] at B;lia⟩⟩
  case s1=>
   rintro k ⟨r,v,i,j,c,d⟩ l _ ad ⟨e,h⟩;obtain⟨m,w,n,B⟩:=h.no rfl;have f:=h.f;clear h e;dsimp only at m w n B |-;show av (cT n (av (cT () (av (C.ask (Ny _ n) (Nx _ ()) (f.1.trans hk) ?_)))));dsimp only;cases hc:lt (G y j) (G x i) with
   |true=>
    show br rfl ?_;have S:=(m.sw.push K n λk h2 u=>C.tr _ _ _ (C.asym _ _ hc) (H i k h2 u)).sw;show av (cT n ?_)
    split
    .rename_i e;show aF (J.end_ f (fa S (.inl (L e))))
    rename_i e;have e:=O e;have T:=J.on (lo:=t+1) f S w () ();have Z:=J.on (lo:=t+(k+1)) f S w () ()
    split
    .exact aF T
    show aF ⟨rfl,Z⟩
   |false=>
    show a9 ⋯ ?_;have S:=m.push H () λk h2 u=>C.tr _ _ _ hc (K j k h2 u);show av (cT () ?_)
    split
    .rename_i e;show aF (J.end_ f (fb S (L e)))
    rename_i e;have e:=O e;have T:=J.on (lo:=t+1) f S () n ();have Z:=J.on (lo:=t+(k+1)) f S () n ()
    split
    .exact aF T
    show aF ⟨rfl,Z⟩
  case p1=>
   rintro⟨r,v,i,j,c,d⟩ l h;cases r with
   |some r=>show aF ⟨h.f,h.yes,λz=>nomatch z⟩
   |none=>
   dsimp only at h |-;show av (jR (av (eW (eI (β:=Option (Array Keyed)×Array Keyed×Nat×Nat×Nat×Nat×Nat) (I:=λk z l=>z.1=none/\J lt x y st (t+1) none z.2.1 z.2.2.1 z.2.2.2.1 l) (Q:=λz l=>J lt x y st (t+1) z.1 z.2.1 z.2.2.1 z.2.2.2.1 l) ?s2 ?f2 ⟨rfl,h⟩) ?p2)))
   case f2=>
    rintro⟨r,v,i,j,g,c,d⟩ l ⟨e,h⟩;have e:r=none:=e;subst e;show h
   case p2=>
    rintro⟨r,v,i,j,g,c,d⟩ l h;cases r with
    |some r=>show aF ⟨h.f,h.yes,λz=>nomatch z⟩
    |none=>show av (o_ h.f λbe f'=>aF ⟨rfl,f',λ_ z=>(nomatch z),h.no⟩)
   case s2=>
    rintro k ⟨r,v,i,j,g,c,d⟩ bi _ ad ⟨e,h⟩;obtain⟨m,w,n,B⟩:=h.no rfl;have f:=h.f;clear h e;dsimp only at m w n B |-;have tl:∀{o:Nat},bv lt false (G y j) x i o=true->lt (G y j) (G x (i+o))=false:=λh=>by simpa [bv] using h
    have fl:∀{o:Nat},bv lt false (G y j) x i o=false->lt (G y j) (G x (i+o))=true:=λh=>by simpa [bv] using h
    by_cases hg:g>1;show br hg ?_
    rotate_left
    show a9 hg ?_
    all_goals
     show av (o_ f λbl P=>av (cT n (av (jX (bv lt false (G y j) x i) (λo U Q' q'=>jY C Nx (Ny _ n) () (P.1.trans hk) q') (λo p U hp ah=>?_) () λk bm a6 ba=>?_))))
     .cases hc:lt (G y j) (G x (i+o)) with
      |false=>change (!lt _ _)=true;rw[hc];rfl
      |true=>have:=C.ltle hc (H (i+o) (i+p) () ());rw[tl ah] at this;cases this
     dsimp only;have R:=m.chunk H k () λo U D h2 u=>C.tr _ _ _ (tl (a6 o U)) (K j D h2 u);have al:i+k<x.size->lt (G y j) (G x (i+k))=true:=λz=>fl (ba k (ax _) ());have i0:t+1<=i+k+j:=();by_cases an:k>0;show br an ?_;by_cases c1:(i+k+1==x.size)=true
     .exact br c1 (aF (J.end_ P (fb R (L c1))))
     show a9 c1 ?_;by_cases c2:(i+k==x.size)=true
     .exact br c2 (aF (J.end_ P (fa R (.inr (L c2)))))
     show a9 c2 ?_;have c1:=O c1;have c2:=O c2;have b2:i+k+1<x.size:=();have n1:=al ();generalize i+k=X at R b2 n1 i0 |-;generalize v++x.extract i X=v1 at R |-
     rotate_left
     show a9 an ?_;have b2:=w;have n1:=al ();have R:=m;have i0:=B;rw[show i+k=i by lia] at n1;clear al;generalize i=X at R b2 n1 i0 |-;generalize v=v1 at R |-
     all_goals
      have m2:=(R.sw.push K n λk h2 u=>C.tr _ _ _ (C.asym _ _ n1) (H X k h2 u)).sw;show av (cT n ?_);by_cases c3:(j+1==y.size)=true
      .exact br c3 (aF (J.end_ P (fa m2 (.inl (L c3)))))
      show a9 c3 ?_;have c3:=O c3;show av (cT () (av (jX (bv lt true (G x X) y (j+1)) (λo U Q' q'=>jY C Ny (Nx _ ()) () (P.1.trans hk) q') (λo p U hp ah=>C.lelt (K _ _ () ()) ah) () λD bb ap a0=>?_)));dsimp only;have Y:=(m2.sw.chunk K D () λo U bc h2 u=>C.tr _ _ _ (C.asym _ _ (ap o U)) (H X bc h2 u)).sw;have am:j+1+D<y.size->lt (G y (j+1+D)) (G x X)=false:=λz=>a0 D (ax _) ();have j0:j<=j+1+D:=();by_cases a5:D>0;show br a5 ?_;by_cases c4:(j+1+D==y.size)=true
      .exact br c4 (aF (J.end_ P (fa Y (.inl (L c4)))))
      show a9 c4 ?_;have c4:=O c4;have b3:j+1+D<y.size:=();have n2:=am b3;generalize j+1+D=T at Y b3 n2 j0 |-;generalize v1.push (G y j)++y.extract (j+1) T=v3 at Y |-
      rotate_left
      show a9 a5 ?_;have b3:j+1<y.size:=();have n2:=am ();have Y:=m2;have j0:j<=j+1:=qB _;rw[show j+1+D=j+1 by lia] at n2;clear am bb ap a0 c3;generalize j+1=T at Y b3 n2 j0 |-;generalize v1.push (G y j)=v3 at Y |-
      all_goals
       have m4:=Y.push H () λk h2 u=>C.tr _ _ _ n2 (K T k h2 u);show av (cT () ?_);by_cases c5:(X+1+1==x.size)=true
       .exact br c5 (aF (J.end_ P (fb m4 (L c5))))
       show a9 c5 ?_;have c5:=O c5;have Z:=J.on (lo:=t+1) P m4 () b3 ()
       split
       .exact aF Z
       show aF ⟨rfl,Z⟩
end
section
variable {M:Model}{κ:SortKind}{N:Keyed->Prop}{lt:Keyed->Keyed->Bool}
structure HI(lt:Keyed->Keyed->Bool)(x y v:Array Keyed)(i j:Nat):Prop where
 ix:i<=x.size
 jy:j<=y.size
 pm:v.toList.Perm (x.toList.drop i++y.toList.drop j)
 so:v.toList.Pairwise λa b=>lt a b=false
 bx:∀a∈v.toList,∀k,k<i->lt a (G x k)=false
 by_:∀a∈v.toList,∀k,k<j->lt a (G y k)=false
theorem HI.sw{x y v:Array Keyed}{i j:Nat}(h:HI lt x y v i j):HI lt y x v j i:=⟨h.jy,h.ix,h.pm.trans cP,h.so,h.by_,h.bx⟩
theorem Jc{x:Array Keyed}{i:Nat}(h:i<x.size):x.toList.drop i=G x i::x.toList.drop (i+1):=by rw[eS ‹h›];simp[G,h]
theorem HI.push{x y v:Array Keyed}{i j:Nat}(c:Asc lt x)(h:HI lt x y v (i+1) j)(d:∀k,k<j->lt (G x i) (G y k)=false):HI lt x y (v.push (G x i)) i j:=by
 have hi:=h.ix;show⟨(),h.jy,?_,?_,λa ha k h1=>?_,λa ha k h1=>?_⟩
 .rw[gM,Jc (show i<x.size by lia)];show (cP.trans (List.Perm.cons _ h.pm))
 .rw[gM,uK];show⟨h.so,qv _ _,λa ha b e=>?_⟩;rw[aL.mp e];show h.bx a ha i (jz _)
 .rw[gM] at ha;rcases aw.mp ha with ha|ha
  .exact h.bx a ha k ()
  rw[aL.mp ha];show c k i () ()
 rw[gM] at ha;rcases aw.mp ha with ha|ha
 .exact h.by_ a ha k h1
 rw[aL.mp ha];show d k h1
theorem JS{x v:Array Keyed}{p k:Nat}(h:p+k<x.size):v++(x.extract p (p+(k+1))).reverse=v.push (G x (p+k))++(x.extract p (p+k)).reverse:=by have e:=Ar (v:=#[]) h;simp only[Array.empty_append] at e;rw[e];apply nG.mp;simp
theorem HI.chunk{x y:Array Keyed}{p j:Nat}(a:Asc lt x):∀(k:Nat){v:Array Keyed},HI lt x y v (p+k) j->(∀m,m<k->∀b,b<j->lt (G x (p+m)) (G y b)=false)->HI lt x y (v++(x.extract p (p+k)).reverse) p j
 |0,v,h,_=>by
  have e:v++(x.extract p (p+0)).reverse=v:=by apply nG.mp;simp
  rw[e];show h
 |k+1,v,h,hm=>by
  have hi:=h.ix;rw[JS ()];show HI.chunk a k (h.push a (hm k (jz _))) λm c=>hm m ()
theorem HI.fa{x y v:Array Keyed}{i j:Nat}(c:Asc lt x)(d:Asc lt y)(h:HI lt x y v i j)(f:∀m,m<j->∀k,k<i->lt (G y m) (G x k)=false):Good lt x y (x.extract 0 i++y.extract 0 j++v.reverse):=by
 have g:=HI.chunk (p:=0) d j (by rw[nY];show h.sw) λm hm k a=>by rw[nY];show f m hm k a
 have b:=HI.chunk (p:=0) c i (by rw[nY];show g.sw) λm hm k a=>absurd a (A0 _);rw[nY,nY] at b;have e:(x.extract 0 i++y.extract 0 j++v.reverse)=(v++(y.extract 0 j).reverse++(x.extract 0 i).reverse).reverse:=by apply nG.mp;simp
 rw[e];show⟨?_,?_⟩
 .rw[KG];have:=b.pm;simp only[kH] at this;show (kN _).trans this
 unfold Srt;rw[KG,List.pairwise_reverse];show b.so
structure JH(lt:Keyed->Keyed->Bool)(x y:Array Keyed)(st:SortSt)(lo:Nat)(r:Option (Array Keyed))(v:Array Keyed)(i j:Nat)(st':SortSt):Prop where
 f:Fr st st'
 yes:∀a,r=some a->Good lt x y a
 no:r=none->HI lt x y v i j/\0<i/\1<j/\lo+(i+j)<=x.size+y.size
theorem JH.on{x y:Array Keyed}{st a:SortSt}{lo i j:Nat}{v:Array Keyed}(f:Fr st a)(h:HI lt x y v i j)(hi:0<i)(b:1<j)(c:lo+(i+j)<=x.size+y.size):JH lt x y st lo none v i j a:=⟨f,λ_ z=>(nomatch z),λ_=>⟨h,hi,b,c⟩⟩
theorem JH.end_{x y:Array Keyed}{st b:SortSt}{lo i j:Nat}{v a:Array Keyed}(f:Fr st b)(h:Good lt x y a):JH lt x y st lo (some a) v i j b:=⟨f,λ_ z=>cy z ▸ h,λz=>(nomatch z)⟩
theorem G5(C:Cmp M A E s κ N lt){x y:Array Keyed}{st:SortSt}{Q:Array Keyed->SortSt->Prop}(hk:kindOf st=κ)(Nx:∀i,i<x.size->N (G x i))(Ny:∀i,i<y.size->N (G y i))(w:Asc lt x)(L:Asc lt y)(h0:0<x.size)(h1:0<y.size)
  (hb:lt (G y 0) (G x 0)=true) (hl:∀j,j<y.size->lt (G y j) (G x (x.size-1))=true) (q:∀r l,Fr st l->Good lt x y r->Q r l):wpS M A E s (mhi x y) Q st:=by
 have m0:HI lt x y #[G x (x.size-1)] (x.size-1) y.size:=by have z:HI lt x y #[] (x.size-1+1) y.size:=⟨(),ax _,by rw[show x.size-1+1=x.size by lia];simp,List.Pairwise.nil,∅,∅⟩;show z.push w λk ah=>C.asym _ _ (hl k ah)
 have fa:∀{v:Array Keyed}{i j:Nat},HI lt x y v i j->i=0\/j=0->Good lt x y (x.extract 0 i++y.extract 0 j++v.reverse):=λ{v i j} m e=>m.fa w L λa h2 b h4=>absurd e ();have fb:∀{v:Array Keyed}{i j:Nat},HI lt x y v i j->j=1->Good lt x y (y.extract 0 j++x.extract 0 i++v.reverse):=λ{v i j} m e=>(m.sw.fa L w λa h2 b h4=>by
  have:=m.ix;rw[show b=0 by lia];show C.asym _ _ (C.ltle hb (w 0 a (aQ _) ()))).sw
 have D:∀{a b:Nat},(a==b)=true->a=b:=λh=>‹h›
 have H:∀{a b:Nat},¬(a==b)=true->a≠b:=λh=>‹h›
 rw[Iz];dsimp only;show av (jR (av (cT () ?_)));by_cases X:(x.size-1==0)=true
 .exact br X (aF (q _ _ ⟨rfl,rfl,rfl,rfl⟩ (fa m0 (.inl (D X)))))
 show a9 X ?_;by_cases Y:(y.size==1)=true
 .exact br Y (aF (q _ _ ⟨rfl,rfl,rfl,rfl⟩ (fb m0 (D Y))))
 show a9 Y ?_;have X:=H X;have Y:=H Y;have j0:=JH.on (lo:=0) (show Fr st st from ⟨rfl,rfl,rfl,rfl⟩) m0 () () ();show av (iw (av (eW (eI (β:=Option (Array Keyed)×Nat×Nat×Array Keyed×Nat) (I:=λt z l=>z.1=none/\JH lt x y st t none z.2.2.2.1 z.2.1 z.2.2.1 l) (Q:=λz l=>JH lt x y st (x.size+y.size) z.1 z.2.2.2.1 z.2.1 z.2.2.1 l) ?step ?fin ⟨rfl,j0⟩) ?post)))
 case fin=>
  rintro⟨r,i,j,v,g⟩ l ⟨e,h⟩;have e:r=none:=e;subst e;show⟨h.f,h.yes,λz=>by
   obtain⟨a1,B,O,u⟩:=h.no z;show⟨a1,B,O,by rw[uS (aQ _)] at u;show u⟩⟩
 case post=>
  rintro⟨r,i,j,v,g⟩ l h;cases r with
  |some r=>show aF (q _ _ h.f (h.yes _ rfl))
  |none=>
   obtain⟨_,B,O,u⟩:=h.no rfl;have B:0<i:=B;have u:x.size+y.size+(i+j)<=x.size+y.size:=u;lia
 case step=>
  rintro t ⟨r,i,j,v,g⟩ bi _ ht ⟨e,h⟩;have e:r=none:=e;subst e;dsimp only at h |-;show av (eW (eI (β:=Option (Array Keyed)×Nat×Nat×Array Keyed×Nat×Nat) (I:=λk z l=>z.1=none/\JH lt x y st (t+k) none z.2.2.2.1 z.2.1 z.2.2.1 l) (Q:=λz l=>JH lt x y st (t+1) z.1 z.2.2.2.1 z.2.1 z.2.2.1 l) ?s1 ?f1 ⟨rfl,h⟩) ?p1)
  case f1=>
   rintro⟨r,i,j,v,c,d⟩ l ⟨e,h⟩;have e:r=none:=e;subst e;show⟨h.f,h.yes,λz=>by
    obtain⟨a1,B,O,u⟩:=h.no z;show⟨a1,B,O,by rw[uS (aQ _)] at u;lia⟩⟩
  case s1=>
   rintro k ⟨r,i,j,v,c,d⟩ l _ ah ⟨e,h⟩;obtain⟨m,B,O,u⟩:=h.no rfl;have f:=h.f;clear h e;dsimp only at m B O u |-;have mi:=m.ix;have mj:=m.jy;obtain⟨i,rfl⟩:∃i',i=i' + 1:=⟨i-1,()⟩;obtain⟨j,rfl⟩:∃j',j=j' + 1:=⟨j-1,()⟩;simp only[uN];show av (cT () (av (cT () (av (C.ask (Ny _ ()) (Nx _ ()) (f.1.trans hk) ?_)))));dsimp only;cases Z:lt (G y j) (G x i) with
   |true=>
    show br rfl ?_;have S:=m.push w λk h2=>C.tr _ _ _ (L k j () ()) (C.asym _ _ Z);show av (cT () ?_);by_cases n:(i==0)=true
    .exact br n (aF (JH.end_ f (fa S (.inl (D n)))))
    show a9 n ?_;have n:=H n;have j1:=JH.on (lo:=t+1) f S () () ();have U:=JH.on (lo:=t+(k+1)) f S () () ()
    split
    .exact aF j1
    show aF ⟨rfl,U⟩
   |false=>
    show a9 ⋯ ?_;have S:=(m.sw.push L λk h2=>C.tr _ _ _ (w k i () ()) Z).sw;show av (cT () ?_);by_cases n:(j==1)=true
    .exact br n (aF (JH.end_ f (fb S (D n))))
    show a9 n ?_;have n:=H n;have j1:=JH.on (lo:=t+1) f S () () ();have U:=JH.on (lo:=t+(k+1)) f S () () ()
    split
    .exact aF j1
    show aF ⟨rfl,U⟩
  case p1=>
   rintro⟨r,i,j,v,c,d⟩ l h;cases r with
   |some r=>show aF ⟨h.f,h.yes,λz=>nomatch z⟩
   |none=>
   dsimp only at h |-;show av (jR (av (eW (eI (β:=Option (Array Keyed)×Nat×Nat×Array Keyed×Nat×Nat×Nat) (I:=λk z l=>z.1=none/\JH lt x y st (t+1) none z.2.2.2.1 z.2.1 z.2.2.1 l) (Q:=λz l=>JH lt x y st (t+1) z.1 z.2.2.2.1 z.2.1 z.2.2.1 l) ?s2 ?f2 ⟨rfl,h⟩) ?p2)))
   case f2=>
    rintro⟨r,i,j,v,g,c,d⟩ l ⟨e,h⟩;have e:r=none:=e;subst e;show h
   case p2=>
    rintro⟨r,i,j,v,g,c,d⟩ l h;cases r with
    |some r=>show aF ⟨h.f,h.yes,λz=>nomatch z⟩
    |none=>show av (o_ h.f λbl f'=>aF ⟨rfl,f',λ_ z=>(nomatch z),h.no⟩)
   case s2=>
    rintro k ⟨r,i,j,v,g,c,d⟩ bm _ ah ⟨e,h⟩;obtain⟨m,B,O,u⟩:=h.no rfl;have f:=h.f;clear h e;dsimp only at m B O u |-;have mi:=m.ix;have mj:=m.jy;obtain⟨j,rfl⟩:∃j',j=j' + 1:=⟨j-1,()⟩;simp only[uN];have tl:∀{o:Nat},bv lt false (G y j) x 0 o=true->lt (G y j) (G x o)=false:=λh=>by simpa [bv] using h
    have fl:∀{o:Nat},bv lt false (G y j) x 0 o=false->lt (G y j) (G x o)=true:=λh=>by simpa [bv] using h
    by_cases hg:g>1;show br hg ?_
    rotate_left
    show a9 hg ?_
    all_goals
     show av (o_ f λbn P=>av (cT () (av (jX (bv lt false (G y j) x 0) (λo K Q' q'=>jY C Nx (Ny _ ()) () (P.1.trans hk) q') (λo p K hp al=>?_) () λp a5 am an=>?_))))
     .cases Z:lt (G y j) (G x o) with
      |false=>change (!lt _ (G x (0+o)))=true;rw[nY,Z];rfl
      |true=>have:=C.ltle Z (w o p () ());rw[tl al] at this;cases this
     dsimp only;have T:=HI.chunk (p:=p) (v:=v) (j:=j+1) w (i-p) (by rw[show p+(i-p)=i by lia];show m) λo K k' h2=>C.tr _ _ _ (L k' j () ()) (C.asym _ _ (fl (an (p+o) () ())));rw[show p+(i-p)=i by lia] at T;have n1:∀o,o<p->lt (G y j) (G x o)=false:=λo K=>tl (am o K);have i0:t+1+(p+(j+1))<=x.size+y.size:=();have bt:p<=x.size:=();by_cases ad:i-p>0;show br ad ?_;by_cases n:(p==0)=true
     .exact br n (aF (JH.end_ P (fa T (.inl (D n)))))
     show a9 n ?_;have b2:0<p:=by have:=H n;lia
     generalize v++(x.extract p i).reverse=v1 at T |-;generalize ap:i-p=kk;clear a5 am an ad ap
     rotate_left
     show a9 ad ?_;have a6:i=p:=();have b2:0<p:=();have T:=m;rw[a6] at T |-;generalize v=v1 at T |-;generalize ap:p-p=kk;clear a5 am an ad ap a6
     all_goals
      obtain⟨p,rfl⟩:∃p',p=p' + 1:=⟨p-1,()⟩;have m2:=(T.sw.push L n1).sw;show av (cT () ?_);by_cases c3:(j==1)=true
      .exact br c3 (aF (JH.end_ P (fb m2 (D c3))))
      show a9 c3 ?_;have c3:=H c3;simp only[uN];show av (cT () (av (jX (bv lt true (G x p) y 0) (λo K Q' q'=>jY C Ny (Nx _ ()) () (P.1.trans hk) q') (λo p K hp al=>C.lelt (L _ _ () ()) al) () λp' bw bb bc=>?_)));have ba:∀{o:Nat},bv lt true (G x p) y 0 o=lt (G y o) (G x p):=λ{o}=>by simp[bv]
      dsimp only;have R:=(HI.chunk (p:=p') (v:=v1.push (G y j)) L (j-p') (by rw[show p' + (j-p')=j by lia];show m2.sw) λo K k' h2=>C.tr _ _ _ (w k' p () ()) (ba ▸ bc (p' + o) () ())).sw;rw[show p' + (j-p')=j by lia] at R;have n2:∀o,o<p'->lt (G x p) (G y o)=false:=λo K=>C.asym _ _ (ba ▸ bb o K);have j0:t+1+(p+1+p')<=x.size+y.size:=();by_cases a0:j-p'>0;show br a0 ?_;by_cases c4:(p'==1)=true
      .exact br c4 (aF (JH.end_ P (fb R (D c4))))
      show a9 c4 ?_;by_cases c5:(p'==0)=true
      .exact br c5 (aF (JH.end_ P (fa R (.inr (D c5)))))
      show a9 c5 ?_;have b3:1<p':=by have:=H c4;have:=H c5;lia
      generalize v1.push (G y j)++(y.extract p' j).reverse=v3 at R |-;generalize bd:j-p'=be;clear bd a0
      rotate_left
      show a9 a0 ?_;have b3:1<p':=();have R:=m2;rw[show j=p' by lia] at R |-;generalize v1.push (G y p')=v3 at R |-;generalize p'-p'=be
      all_goals
       have m4:=R.push w n2;show av (cT () ?_);by_cases c6:(p==0)=true
       .exact br c6 (aF (JH.end_ P (fa m4 (.inl (D c6)))))
       show a9 c6 ?_;have c6:=H c6;have U:=JH.on (lo:=t+1) P m4 () b3 ()
       split
       .exact aF U
       show aF ⟨rfl,U⟩
end
def Seg(lt:Keyed->Keyed->Bool)(a:Array Keyed)(lo hi:Nat):Prop:=∀i j,lo<=i->i<=j->j<hi->lt (G a j) (G a i)=false
def Dn(lt:Keyed->Keyed->Bool)(a:Array Keyed)(lo hi:Nat):Prop:=∀i j,lo<=i->i<=j->j<hi->lt (G a i) (G a j)=false
def Tl(lt:Keyed->Keyed->Bool)(a:Array Keyed)(hi q:Nat):Prop:=∀i j,hi<=i+(q+1)->i<hi->hi<=j+(q+1)->j<hi->lt (G a i) (G a j)=false
structure Cg(lo hi:Nat)(a a':Array Keyed):Prop where
 pm:a'.Perm a
 at_:∀k,k<lo\/hi<=k->G a' k=G a k
theorem Cg.size{lo hi:Nat}{a b:Array Keyed}(h:Cg lo hi a b):b.size=a.size:=h.pm.size_eq
theorem Cg.refl(lo hi:Nat)(a:Array Keyed):Cg lo hi a a:=⟨Kz _,λ_ _=>rfl⟩
theorem Cg.trans{lo hi:Nat}{a b c:Array Keyed}(h:Cg lo hi a b)(h2:Cg lo hi b c):Cg lo hi a c:=⟨h2.pm.trans h.pm,λk d=>(h2.at_ k d).trans (h.at_ k d)⟩
theorem Cg.mono{lo hi c d:Nat}{a b:Array Keyed}(h:Cg lo hi a b)(h1:c<=lo)(h2:hi<=d):Cg c d a b:=⟨h.pm,λk e=>h.at_ k ()⟩
theorem jr{p q:Array Keyed}{i j:Nat}(h:p[i]?=q[j]?):G p i=G q j:=by
 have e:∀(a:Array Keyed)(k:Nat),G a k=(a[k]?).getD (Value.none,Value.none):=λa k=>by simp[G]
 rw[e,e,h]
theorem fU{p:Array Keyed}{i j:Nat}(a:j<=p.size)(k:Nat):G (mirror p i j ((j-i)/2)) k=if i<=k/\k<j then G p (i+j-1-k) else G p k:=by
 have h:=getElem?_mirror_all (xs:=p) (i:=i) a k
 split
 .rename_i c;rw[Nq c] at h;show jr h
 rename_i c;rw[Np c] at h;show jr h
theorem px{p:Array Keyed}{i j:Nat}(a:j<=p.size):Cg i j p (mirror p i j ((j-i)/2)):=⟨mirror_perm _ _ _ _,λk b=>by rw[fU a,Np ()]⟩
abbrev sa(st:SortSt)(a:Array Keyed):SortSt:=setArr st a
section
variable {M:Model}{κ:SortKind}{N:Keyed->Prop}{lt:Keyed->Keyed->Bool}
def Nm(N:Keyed->Prop)(a:Array Keyed):Prop:=∀x,x∈a->N x
theorem Nm.at{a:Array Keyed}(h:Nm N a){i:Nat}(hi:i<a.size):N (G a i):=h _ (Array.mem_of_getElem? (pR hi))
theorem Nm.perm{a b:Array Keyed}(h:Nm N a)(e:b.Perm a):Nm N b:=λx c=>h x (e.mem_iff.mp c)
theorem lM(C:Cmp M A E s κ N lt){st:SortSt}{a:Array Keyed}{i j:Nat}{Q:Option Bool->SortSt->Prop}(hk:kindOf st=κ)(hN:Nm N a)(hi:i<a.size)(hj:j<a.size)(h:Q (some (lt (G a i) (G a j))) (sa st a)):wpS M A E s (ltAt' i j) Q (sa st a):=by rw[ltAt'_eq];show av (iw ?_);change wpS _ _ _ _ (do let x <-elem' a i;let y <-elem' a j;lt' x y) Q _;show av (cT hi (av (cT hj (C.ask (hN.at hi) (hN.at hj) hk h))))
theorem Fs(C:Cmp M A E s κ N lt){a:Array Keyed}{l:Nat}:Seg lt a l (l+1):=λi j h1 h2 b=>by
 have:i=j:=();subst this;show C.refl _
theorem DX(C:Cmp M A E s κ N lt){a:Array Keyed}{l n:Nat}(h:Seg lt a l (l+n))(h1:1<=n)(b:lt (G a (l+n)) (G a (l+n-1))=false):Seg lt a l (l+(n+1)):=λi j hi c f=>by
 by_cases e:j=l+n
 .subst e;by_cases d:i=l+n
  .subst d;show C.refl _
  show C.tr _ (G a (l+n-1)) _ (h i (l+n-1) hi () ()) b
 show h i j hi c ()
theorem mm(C:Cmp M A E s κ N lt){a:Array Keyed}{l n:Nat}(h:Dn lt a l (l+n))(h1:1<=n)(b:lt (G a (l+n-1)) (G a (l+n))=false):Dn lt a l (l+(n+1)):=λi j hi c f=>by
 by_cases e:j=l+n
 .subst e;by_cases d:i=l+n
  .subst d;show C.refl _
  show C.tr _ (G a (l+n-1)) _ b (h i (l+n-1) hi () ())
 show h i j hi c ()
theorem Do(C:Cmp M A E s κ N lt){st:SortSt}{a:Array Keyed}{l m:Nat}{Q:Option Nat->SortSt->Prop}(hk:kindOf st=κ)(hN:Nm N a)(h1:1<=m)(hs:l+m<=a.size)
  (q:∀n a',Cg l (l+m) a a'->1<=n->n<=m->Seg lt a' l (l+n)->Q (some n) (sa st a')):wpS M A E s (countRun' l m) Q (sa st a):=by
 have asc:∀(n:Nat)(a':Array Keyed)(Q':Option (Option Nat)×Nat->SortSt->Prop),Cg l (l+m) a a'->1<=n->n<=m->Seg lt a' l (l+n)->(∀n',n<=n'->n'<=m->Seg lt a' l (l+n')->(n'<m->lt (G a' (l+n')) (G a' (l+n'-1))=true)->Q' (none,n') (sa st a'))->
   wpS M A E s (forIn [n:m] ((none,n):Option (Option Nat)×Nat) λ_ x=>do
    let z <-ltAt' (l+x.2) (l+x.2-1)
    match z with
    |some z=>if z=true then pure (ForInStep.done (none,x.2)) else pure (ForInStep.yield (none,x.2+1))
    |_=>pure (ForInStep.done (some none,x.2))) Q' (sa st a'):=by
  intro n a' Q' cg n1 nm sg q';show eI (β:=Option (Option Nat)×Nat) (I:=λt x st'=>st'=sa st a'/\x.1=none/\x.2=t/\n<=t/\t<=m/\Seg lt a' l (l+t)) (Q:=Q') ?_ ?_ ⟨rfl,rfl,rfl,ax _,nm,sg⟩
  .rintro t ⟨r,n'⟩ st' _ ht ⟨rfl,e1,e2,e3,e4,e5⟩;have e2:n'=t:=e2;subst e2;have hz:=cg.size;show av (lM C hk (hN.perm cg.pm) () () ?_);cases hc:lt (G a' (l+n')) (G a' (l+n'-1)) with
   |true=>show aF (q' n' e3 () e5 λ_=>hc)
   |false=>show aF ⟨rfl,rfl,rfl,(),(),DX C e5 () hc⟩
  rintro⟨r,n'⟩ st' ⟨rfl,e1,e2,e3,e4,e5⟩;have e1:r=none:=e1;have e2:n'=max n m:=e2;subst e1;have:n'=m:=();subst this;rw[show max n n'=n' by lia] at e5;show q' n' nm (ax _) e5 λz=>absurd z ()
 have rv:∀{a':Array Keyed}{n:Nat},Cg l (l+m) a a'->n<=m->Dn lt a' l (l+n)->Seg lt (mirror a' l (l+n) ((l+n-l)/2)) l (l+n):=λ{a' n} cg nm d i j hi hij hj=>by
  have hz:=cg.size;rw[fU (),fU (),Nq (),Nq ()];show d _ _ () () ()
 have rt:∀{a':Array Keyed}{n q:Nat},Cg l (l+m) a a'->n<=m->q<n->Dn lt a' l (l+n)->Tl lt a' (l+n) q->Dn lt (mirror a' (l+n-(q+1)) (l+n) ((l+n-(l+n-(q+1)))/2)) l (l+n):=λ{a' n q} cg nm hq d tl i j hi hij hj=>by
  have hz:=cg.size;rw[fU (),fU ()]
  split
  .split
   .exact tl _ _ () () () ()
   lia
  split
  .exact d _ _ hi () ()
  show d _ _ hi hij hj
 have t0:∀{a':Array Keyed}{h:Nat},Tl lt a' h 0:=λ{a' h} i j h1 h2 h3 h4=>by
  have:i=j:=();subst this;show C.refl _
 have dl:∀(n:Nat)(a':Array Keyed),Cg l (l+m) a a'->1<=n->n<=m->Dn lt a' l (l+n)->wpS M A E s (do
   rule "list.sort.descending-run"
   let mut n:=n
   let mut q:=0
   for _ in [n:m] do
    let some z <-ltAt' (l+n) (l+n-1)|return none
    if z then
     if q>0 then reverseSlice' (l+n-(q+1)) (l+n)
     q:=0
    else
     let some z <-ltAt' (l+n-1) (l+n)|return none
     if z then break
     q:=q+1
    n:=n+1
   if q>0 then reverseSlice' (l+n-(q+1)) (l+n)
   reverseSlice' l (l+n)
   for _ in [n:m] do
    let some z <-ltAt' (l+n) (l+n-1)|return none
    if z then break
    n:=n+1
   return some n) Q (sa st a'):=by
  intro n a1 cg n1 nm d;dsimp only;show av (jR (av (eW (eI (β:=Option (Option Nat)×Nat×Nat) (I:=λt x st'=>x.1=none/\x.2.1=t/\n<=t/\t<=m/\x.2.2<t/\∃a',st'=sa st a'/\Cg l (l+m) a a'/\Dn lt a' l (l+t)/\Tl lt a' (l+t) x.2.2)
   (Q:=λx st'=>x.1=none/\n<=x.2.1/\x.2.1<=m/\x.2.2<x.2.1/\∃a',st'=sa st a'/\Cg l (l+m) a a'/\Dn lt a' l (l+x.2.1)/\Tl lt a' (l+x.2.1) x.2.2) ?_ ?_ ⟨rfl,rfl,ax _,nm,n1,a1,rfl,cg,d,t0⟩) ?_)))
  .rintro t ⟨r,n',q'⟩ st' _ ht ⟨e1,e2,e3,e4,e5,a',rfl,cg',d',tl⟩;have e2:n'=t:=e2;subst e2;have e5:q'<n':=e5;have hz:=cg'.size;dsimp only at tl |-;show av (lM C hk (hN.perm cg'.pm) () () ?_);dsimp only;cases hc:lt (G a' (l+n')) (G a' (l+n'-1)) with
   |true=>
    show br rfl ?_;by_cases hq:q'>0
    .rw[Nq hq,vd];show av (i5 (aF ⟨rfl,rfl,(),(),by change 0<n' + 1;lia,_,rfl,cg'.trans ((px ()).mono () ()),?_,t0⟩));show mm C (rt cg' () e5 d' tl) () ?_;rw[fU (by change l+n'<=a'.size;lia),fU (by change l+n'<=a'.size;lia),Nq (),Np ()];show C.tr _ (G a' (l+n'-1)) _ (C.asym _ _ hc) (d' _ _ () () ())
    show a9 hq ?_;show aF ⟨rfl,rfl,(),(),by change 0<n' + 1;lia,a',rfl,cg',mm C d' () (C.asym _ _ hc),t0⟩
   |false=>
    show a9 ⋯ ?_;show av (lM C hk (hN.perm cg'.pm) () () ?_);dsimp only;cases hc2:lt (G a' (l+n'-1)) (G a' (l+n')) with
    |true=>
     show br rfl ?_;show aF ⟨rfl,e3,e4,e5,a',rfl,cg',d',tl⟩
    |false=>
     show a9 ⋯ ?_;show aF ⟨rfl,rfl,(),(),by change q' + 1<n' + 1;lia,a',rfl,cg',mm C d' () hc2,λi j b1 b2 b3 b4=>?_⟩;have b1:l+(n' + 1)<=i+(q' + 1+1):=b1;have b3:l+(n' + 1)<=j+(q' + 1+1):=b3;by_cases ei:i=l+n'
     .by_cases ej:j=l+n'
      .subst ei;subst ej;show C.refl _
      subst ei;show C.tr _ (G a' (l+n'-1)) _ (tl _ _ () () () ()) hc
     by_cases ej:j=l+n'
     .subst ej;show C.tr _ (G a' (l+n'-1)) _ hc2 (tl _ _ () () () ())
     show tl _ _ () () () ()
  .rintro⟨r,n',q'⟩ st' ⟨e1,e2,e3,e4,e5,a',rfl,cg',d',tl⟩;have e2:n'=max n m:=e2;have:n'=m:=();subst this;rw[show max n n'=n' by lia] at d' tl e5 e3;show⟨e1,e3,ax _,e5,a',rfl,cg',d',tl⟩
  rintro⟨r,n',q'⟩ st' ⟨e1,e3,e4,e5,a',rfl,cg',d',tl⟩;cases e1;dsimp only at e3 e4 e5 d' tl |-;have hz:=cg'.size;by_cases hq:q'>0;rw[Nq hq,vd];show av (i5 ?_);have cg2:=cg'.trans ((px (i:=l+n'-(q' + 1)) (j:=l+n') (p:=a') ()).mono (show l<=_ by lia) (show _<=l+m by lia));have d2:=rt cg' e4 e5 d' tl;change wpS _ _ _ _ _ _ (sa st (mirror a' (l+n'-(q' + 1)) (l+n') ((l+n'-(l+n'-(q' + 1)))/2)));generalize mirror a' (l+n'-(q' + 1)) (l+n') ((l+n'-(l+n'-(q' + 1)))/2)=a2 at cg2 d2 |-
  rotate_left
  show a9 hq ?_;have cg2:=cg';have d2:=d';generalize a'=a2 at cg2 d2 |-
  all_goals
   have hz2:=cg2.size;rw[vd];show av (i5 ?_);have cg3:=cg2.trans ((px (i:=l) (j:=l+n') (p:=a2) ()).mono (ax _) (show _<=l+m by lia));show av (asc n' _ _ cg3 () e4 (rv cg2 e4 d2) λn'' b1 b2 b3 b4=>?_);show aF (q n'' _ cg3 () b2 b3)
 rw[countRun'_eq];dsimp only;show av (asc 1 a _ (Cg.refl _ _ _) (ax _) h1 (Fs C) λn b1 b2 b3 b4=>?_);dsimp only;by_cases c1:(n==m)=true
 .exact br c1 (aF (q n a (Cg.refl _ _ _) b1 b2 b3))
 show a9 c1 ?_;have c1:n≠m:=‹c1›
 have hl:=b4 ();by_cases c2:n>1
 .refine br c2 ?_;show av (lM C hk hN () () ?_);dsimp only;cases hc:lt (G a l) (G a (l+n-1)) with
  |true=>rw[Nq rfl];show aF (q n a (Cg.refl _ _ _) b1 b2 b3)
  |false=>
   rw[Np ⋯,vd];show av (i5 ?_);have cg:=(px (i:=l) (j:=l+n) (p:=a) ()).mono (ax _) (show l+n<=l+m by lia);change wpS _ _ _ _ _ _ (sa st (mirror a l (l+n) ((l+n-l)/2)));show dl (n+1) _ cg () () (mm C (λi j hi hij hj=>?_) () ?_)
   .rw[fU (),fU (),Nq (),Nq ()];show b3 _ _ () () ()
   rw[fU (),fU (),Nq (),Np (),show l+(l+n)-1-(l+n-1)=l by lia];show C.tr _ (G a (l+n-1)) _ (C.asym _ _ hl) hc
 show a9 c2 ?_;have:n=1:=();subst this;show dl 2 a (Cg.refl _ _ _) () () (mm C (λi j hi hij hj=>?_) (ax _) (C.asym _ _ hl));have:i=j:=();subst this;show C.refl _
end
section
variable {M:Model}{κ:SortKind}{N:Keyed->Prop}{lt:Keyed->Keyed->Bool}
theorem tV{p:Array Keyed}{k z:Nat}(b:k<p.size)(d:z<=k)(i:Nat):G (bubble p k (k-z)) i=if i=z then G p k else if z<i/\i<=k then G p (i-1) else G p i:=by
 have h:=getElem?_bubble (xs:=p) (src:=k) b (k-z) () i;have e:k-(k-z)=z:=();rw[e] at h
 repeat' split at h
 .rename_i c;rw[Nq c];show jr h
 .rename_i c a;rw[Np c,Nq a];show jr h
 rename_i c a;rw[Np c,Np a];show jr h
theorem G7(C:Cmp M A E s κ N lt){st:SortSt}{a:Array Keyed}{l n o:Nat}{Q:Bool->SortSt->Prop}(O:kindOf st=κ)(P:Nm N a)(h1:1<=o)(h2:o<=n)(X:l+n<=a.size)(sg:Seg lt a l (l+o))
  (q:∀b,Cg l (l+n) a b->Seg lt b l (l+n)->Q true (sa st b)):wpS M A E s (binarySort' l n o) Q (sa st a):=by
 rw[binarySort'_eq];dsimp only;show av (eW (eI (I:=λk x c=>x.1=none/\1<=k/\k<=n/\∃b,c=sa st b/\Cg l (l+n) a b/\Seg lt b l (l+k)) (Q:=λx c=>x.1=none/\∃b,c=sa st b/\Cg l (l+n) a b/\Seg lt b l (l+n)) ?step ?fin ⟨rfl,(),(),a,rfl,Cg.refl _ _ _,by rw[show max o 1=o by lia];show sg⟩) ?post)
 case fin=>
  rintro⟨r,u⟩ c ⟨e,R,S,b,rfl,p,f⟩;rw[show max (max o 1) n=n by lia] at f;show⟨e,b,rfl,p,f⟩
 case post=>
  rintro⟨r,u⟩ c ⟨e,b,rfl,p,f⟩;cases e;show aF (q b p f)
 case step=>
  rintro k ⟨r,u⟩ c _ Y ⟨e,R,S,b,rfl,p,f⟩;have hz:=p.size;show av (eW (eI (β:=Option Bool×Nat×Nat) (I:=λt x c=>c=sa st b/\x.1=none/\x.2.1<=x.2.2/\x.2.2<=k/\x.2.2-x.2.1<=k-t/\(∀i,i<x.2.1->lt (G b (l+k)) (G b (l+i))=false)/\(∀i,x.2.2<=i->i<k->lt (G b (l+i)) (G b (l+k))=false))
   (Q:=λx c=>c=sa st b/\x.1=none/\x.2.1<=k/\(∀i,i<x.2.1->lt (G b (l+k)) (G b (l+i))=false)/\(∀i,x.2.1<=i->i<k->lt (G b (l+i)) (G b (l+k))=false)) ?s8 ?f8 ⟨rfl,rfl,aQ _,ax _,ax _,λi hi=>absurd hi (A0 _),λi hi K=>absurd hi (Nat.not_le_of_lt K)⟩) ?p8)
  case f8=>
   rintro⟨r,u,w⟩ c ⟨rfl,e,B,d,v,g,h⟩;have B:u<=w:=B;have v:w-u<=k-max 0 k:=v;have:u=w:=();subst this;show⟨rfl,e,d,g,h⟩
  case s8=>
   rintro t ⟨r,u,w⟩ c _ Z ⟨rfl,e,B,d,v,g,h⟩;have B:u<=w:=B;have d:w<=k:=d;have v:w-u<=k-t:=v;dsimp only at g h |-;by_cases H:u ≥ w
   .refine br H ?_;have:u=w:=();subst this;show aF ⟨rfl,rfl,d,g,h⟩
   show a9 H ?_;obtain⟨D,y⟩:=half H;generalize (u+w)/2=m at D y |-;show av (lM C O (P.perm p.pm) () () ?_);dsimp only;cases L:lt (G b (l+k)) (G b (l+m)) with
   |true=>
    show br rfl ?_;show aF ⟨rfl,rfl,D,nR (cp y d),fewer v y D,g,λi hi T=>?_⟩;show C.asym _ _ (C.ltle L (f _ _ (gR _ _) (uM hi l) (Lj T l)))
   |false=>
    show a9 ⋯ ?_;show aF ⟨rfl,rfl,y,d,fewer' v y D,λi hi=>?_,h⟩;show C.tr _ _ _ (f _ _ (gR _ _) (uM (Ll hi) l) (Lj (cp y d) l)) L
  case p8=>
   rintro⟨r,u,w⟩ c ⟨rfl,e,d,g,h⟩;cases e;have d:u<=k:=d;dsimp only at g h |-;rw[moveDown'_eq];show av (i5 (aF ⟨rfl,(),(),bubble b (l+k) (l+k-(l+u)),rfl,p.trans ⟨bubble_perm _ _ _,λi hi=>?_⟩,λi j hi ad K=>?_⟩))
   .rw[tV () (),Np (),Np ()]
   rw[tV () (),tV () ()]
   repeat' split
   .exact C.refl _
   all_goals first
    |lia
    |show f _ _ () () ()
    |(have z:=h (j-1-l) () ();rw[show l+(j-1-l)=j-1 by lia] at z;show (by
      rename_i h1 h2 h3;cases U:lt (G b (j-1)) (G b (l+k)) with
      |false=>rfl
      |true=>rw[U] at z;cases z))
    |(have z:=g (i-l) ();rw[show l+(i-l)=i by lia] at z;show z)
end
theorem Ad(p:Nat):∀(l:List Keyed)(n:Nat)(a:Array Keyed),p+n+l.length<=a.size->
  ((l.zipIdx n).foldl (λa (z:Keyed×Nat)=>a.setIfInBounds (p+z.2) z.1) a).size=a.size/\∀m:Nat,((l.zipIdx n).foldl (λa (z:Keyed×Nat)=>a.setIfInBounds (p+z.2) z.1) a)[m]?=if p+n<=m/\m<p+n+l.length then l[m-(p+n)]? else a[m]?
 | [],n,a,h=>⟨rfl,λm=>by rw[Np (by simp only[iQ];lia)];rfl⟩
 |x::l,n,a,h=>by
  rw[aS] at h;obtain⟨h1,h2⟩:=Ad p l (n+1) (a.setIfInBounds (p+n) x) (by rw[KD];lia);rw[List.zipIdx_cons,qo];show⟨h1.trans KD,λm=>?_⟩;rw[h2 m,aS,Array.getElem?_setIfInBounds];by_cases c:m=p+n
  .subst c;rw[Np (),Nq rfl,Nq (),Nq (),nX];rfl
  by_cases b:p+(n+1)<=m/\m<p+(n+1)+l.length
  .rw[Nq b,Nq (),show m-(p+n)=m-(p+(n+1))+1 by lia];rfl
  rw[Np b,Np (λz=>c z.symm),Np ()]
theorem pV{a:Array Keyed}{k:Nat}{x:Keyed}(h:a[k]?=some x):G a k=x:=by
 have e:G a k=(a[k]?).getD (Value.none,Value.none):=by simp[G]
 rw[e,h];rfl
theorem pD{a:Array Keyed}{p q k:Nat}(h:p+k<q)(b:q<=a.size):G (a.extract p q) k=G a (p+k):=by apply jr;rw[Array.getElem?_extract,Nq ()]
theorem EA{a:Array Keyed}{p q r:Nat}(h1:p<=q)(h2:q<=r)(d:r<=a.size):a.toList=a.toList.take p++((a.extract p q).toList++(a.extract q r).toList)++a.toList.drop r:=by
 rw[uq,uq,uB,uB];have b:(a.toList.drop p).take (q-p)++(a.toList.drop q).take (r-q)=(a.toList.drop p).take (r-p):=by rw[show r-p=(q-p)+(r-q) by lia,List.take_add,KY,show p+(q-p)=q by lia]
 rw[b,bI];have c:(a.toList.drop p).take (r-p)++a.toList.drop r=a.toList.drop p:=by
  conv=>rhs;rw[<-fY (r-p) (a.toList.drop p)]
  rw[KY,show p+(r-p)=r by lia]
 rw[c,fY]
section
variable {M:Model}{κ:SortKind}{N:Keyed->Prop}{lt:Keyed->Keyed->Bool}
theorem v9{α:Type}(u v w:α)(b:List α):∀a:List α,((a++u::w::b).set a.length v).eraseIdx (a.length+1)=a++v::b
 | []=>rfl
 |x::a=>by
  change x::((a++u::w::b).set a.length v).eraseIdx (a.length+1)=_;rw[v9 u v w b a];rfl
theorem jQ{a:Array Keyed}{i j:Nat}(h:j<=a.size):(a.extract i j).size=j-i:=by rw[Array.size_extract,qC h]
theorem Aq{a:Array Keyed}{x:Keyed}(h:x∈a.toList):∃k,k<a.size/\G a k=x:=by obtain⟨k,b⟩:=dn.mp h;rw[ip] at b;show⟨k,(Array.getElem?_eq_some_iff.mp b).1,pV b⟩
theorem D8(C:Cmp M A E s κ N lt){a r:Array Keyed}{p p1 q b z:Nat}(h1:p<=p1)(h2:p1<=q)(P:q+b<=z)(Q:z<=a.size)(g:Good lt (a.extract p1 q) (a.extract q (q+b)) r)
  (s1:Seg lt a p q) (s2:Seg lt a q z) (lo:∀k,p<=k->k<p1->∀j,q<=j->j<z->lt (G a j) (G a k)=false) (hi:∀j,q+b<=j->j<z->∀k,p<=k->k<q->lt (G a j) (G a k)=false) :
  Cg p z a (r.toList.zipIdx.foldl (λa (z:Keyed×Nat)=>a.setIfInBounds (p1+z.2) z.1) a)/\Seg lt (r.toList.zipIdx.foldl (λa (z:Keyed×Nat)=>a.setIfInBounds (p1+z.2) z.1) a) p z:=by
 have w:q+b<=a.size:=cC P Q;have x:q<=a.size:=cC (gR q b) w;have n:(a.toList.take p1).length=p1:=by rw[bu,gK,qC (cC h2 x)]
 have len:r.toList.length=q-p1+b:=by rw[g.1.length_eq,ao,gK,gK,jQ x,jQ w,uO]
 obtain⟨R,l⟩:=Ad p1 r.toList 0 a ();generalize (r.toList.zipIdx.foldl (λa (z:Keyed×Nat)=>a.setIfInBounds (p1+z.2) z.1) a)=o at R l |-;rw[len] at l;simp only[uP] at l;have out:∀k,k<p1\/q+b<=k->G o k=G a k:=λk S=>jr (by rw[l k,Np ()]);have K:∀k,p1<=k->k<q+b->∃c,p1<=c/\c<q+b/\G o k=G a c:=λk Z ad=>by
  have e:=l k;rw[Nq ()] at e;have T:k-p1<r.toList.length:=();rw[aP T] at e;have e:=pV e;have mem:r.toList[k-p1]∈r.toList:=ir _;rcases aw.mp (g.1.mem_iff.mp mem) with h|h
  .obtain⟨c,d,f⟩:=Aq h;rw[jQ x] at d;show⟨p1+c,(),(),by rw[e,<-f,pD () ()]⟩
  obtain⟨c,d,f⟩:=Aq h;rw[jQ w,uO] at d;show⟨q+c,(),(),by rw[e,<-f,pD () ()]⟩
 have U:∀i j,p1<=i->i<=j->j<q+b->lt (G o j) (G o i)=false:=λi j i1 ij j1=>by
  have y:=l i;have B:=l j;rw[Nq ()] at y B;have li:i-p1<r.toList.length:=();have L:j-p1<r.toList.length:=();rw[aP li] at y;rw[aP L] at B;rw[pV y,pV B];by_cases e:i=j
  .subst e;show C.refl _
  show AV.mp g.2 (i-p1) (j-p1) li L ()
 show⟨⟨?_,λk S=>out k ()⟩,λi j v O D=>?_⟩
 .rw[KC];have e:o.toList=a.toList.take p1++r.toList++a.toList.drop (q+b):=by
   apply AJ;intro m;rw[ip,l m];by_cases d:m<p1
   .rw[Np (),bI,eF (by rw[n];show d),AM d,ip]
   by_cases f:m<q+b
   .rw[Nq (),bI,kJ (by rw[n];lia),eF (by rw[n];lia),n]
   rw[Np (),kJ (by rw[ao,n];lia),uE,ip,ao,n]
   congr 1
   lia
  rw[e];show ((g.1.append_left _).append_right _).trans (AD (EA (a:=a) h2 (gR q b) ()).symm)
 by_cases ci:i<p1
 .rw[out i (.inl ci)];by_cases H:j<p1
  .rw[out j (.inl H)];show s1 i j v O ()
  have u:∀c,p1<=c->c<z->lt (G a c) (G a i)=false:=λc d f=>by
   by_cases I:c<q
   .exact s1 i c v () I
   show lo i v ci c () f
  by_cases X:j<q+b
  .obtain⟨c,d,f,e⟩:=K j () X;rw[e];show u c d ()
  rw[out j (.inr ())];show u j () D
 by_cases H:j<q+b
 .exact U i j () O H
 rw[out j (.inr ())];have u:∀c,p<=c->c<j->lt (G a j) (G a c)=false:=λc d f=>by
  by_cases I:c<q
  .exact hi j () D c d I
  show s2 c j () () D
 by_cases Y:i<q+b
 .obtain⟨c,d,f,e⟩:=K i () Y;rw[e];show u c () ()
 rw[out i (.inr ())];by_cases e:i=j
 .subst e;show C.refl _
 show u i v ()
theorem G0{st a:SortSt}{Q:PUnit->SortSt->Prop}(h:Q ⟨⟩ a):wpS M A E s (set a:SM PUnit) Q st:=by unfold wpS;rw[StateT.run_set];show aB ⟨rfl,h⟩
theorem G6(C:Cmp M A E s κ N lt){st:SortSt}{a:Array Keyed}{i p m e q n e':Nat}{l1 l2:List (Nat×Nat×Nat)}{Q:Bool->SortSt->Prop}(hk:kindOf st=κ)(hf:failedOf st=none)(hN:Nm N a)(hp:(pendingOf st).toList=l1++(p,m,e)::(q,n,e')::l2)(hi:l1.length=i)
  (hq:q=p+m) (hm:1<=m) (hn:1<=n) (hs:q+n<=a.size) (s1:Seg lt a p q) (s2:Seg lt a q (q+n))
  (h:∀(a':Array Keyed)(st':SortSt),PyProof.Rows.kindOf st'=κ->failedOf st'=none->arrOf st'=a'->(pendingOf st').toList=l1++(p,m+n,e)::l2->Cg p (q+n) a a'->Seg lt a' p (q+n)->Q true st'):wpS M A E s (mergeAt' i) Q (sa st a):=by
 have e1:(pendingOf st)[i]?=some (p,m,e):=by rw[<-ip,hp,<-hi];simp
 have e2:(pendingOf st)[i+1]?=some (q,n,e'):=by rw[<-ip,hp,<-hi];simp
 have e3:(((pendingOf st).setIfInBounds i (p,m+n,e)).eraseIdxIfInBounds (i+1)).toList=l1++(p,m+n,e)::l2:=by rw[Array.toList_eraseIdxIfInBounds,Array.toList_setIfInBounds,hp,<-hi];show v9 _ _ _ _ _
 have eqt:∀{a b:Nat},(a==b)=true->a=b:=λh=>‹h›
 have eqf:∀{a b:Nat},¬(a==b)=true->a≠b:=λh=>‹h›
 rw[IA];show av (iw ?_);change wpS _ _ _ _ (match ((pendingOf st)[i]?,(pendingOf st)[i+1]?) with|(some (p,m,e),some (q,n,_))=>_|_=>_) _ _;rw[e1,e2];dsimp only;show av (G0 ?_);have tl:∀{o:Nat},bv lt false (G a q) a p o=true->lt (G a q) (G a (p+o))=false:=λh=>by simpa [bv] using h
 have fl:∀{o:Nat},bv lt false (G a q) a p o=false->lt (G a q) (G a (p+o))=true:=λh=>by simpa [bv] using h
 show av (cT (show q<a.size by lia) (av (jX (bv lt false (G a q) a p) (λo ho Q' q'=>jY C (λ_ z=>hN.at z) (hN.at ()) (show p+o<a.size by lia) hk q') (λo o' ho hp' hb'=>?_) () λk hk1 hk2 hk3=>?_)))
 .cases hc:lt (G a q) (G a (p+o)) with
  |false=>change (!lt _ _)=true;rw[hc];rfl
  |true=>have:=C.ltle hc (s1 (p+o) (p+o') () () ());rw[tl hb'] at this;cases this
 dsimp only;have seg:(∀i,p<=i->i<q->∀j,q<=j->j<q+n->lt (G a j) (G a i)=false)->Seg lt a p (q+n):=λhh i j h1 h2 h3=>by
  by_cases c:j<q
  .exact s1 i j h1 h2 c
  by_cases c2:i<q
  .exact hh i h1 c2 j () h3
  show s2 i j () h2 h3
 have low:∀i,p<=i->i<p+k->∀j,q<=j->j<q+n->lt (G a j) (G a i)=false:=λi h1 h2 j h3 h4=>by
  have z:=tl (hk2 (i-p) ());rw[show p+(i-p)=i by lia] at z;show C.tr _ _ _ z (s2 q j (ax _) h3 h4)
 by_cases c1:(m-k==0)=true
 .refine br c1 ?_;have c1:=eqt c1;show aF (h a _ hk hf rfl e3 (Cg.refl _ _ _) (seg λi h1 h2=>low i h1 ()))
 show a9 c1 ?_;have c1:=eqf c1;rw[show p+k+(m-k)-1=q-1 by lia];show av (cT (show q-1<a.size by lia) (av (jX (bv lt true (G a (q-1)) a q) (λo ho Q' q'=>jY C (λ_ z=>hN.at z) (hN.at ()) (show q+o<a.size by lia) hk q') (λo o' ho hp' hb'=>C.lelt (s2 _ _ () () ()) hb') () λn1 hn1 hn2 hn3=>?_)));dsimp only;have hig:∀j,q+n1<=j->j<q+n->∀i,p<=i->i<q->lt (G a j) (G a i)=false:=λj h1 h2 i h3 h4=>by
  have z:=hn3 (j-q) () ();have z:lt (G a (q+(j-q))) (G a (q-1))=false:=z;rw[show q+(j-q)=j by lia] at z;show C.tr _ _ _ (s1 i (q-1) h3 () ()) z
 by_cases c2:(n1==0)=true
 .refine br c2 ?_;have c2:=eqt c2;show aF (h a _ hk hf rfl e3 (Cg.refl _ _ _) (seg λi h1 h2 j h3 h4=>hig j () h4 i h1 h2))
 show a9 c2 ?_;have c2:=eqf c2;have zx:(a.extract (p+k) q).size=q-(p+k):=jQ ();have zy:(a.extract q (q+n1)).size=n1:=by rw[jQ (),uO]
 have gx:∀i,i<(a.extract (p+k) q).size->G (a.extract (p+k) q) i=G a (p+k+i):=λi hi=>pD () ();have gy:∀i,i<(a.extract q (q+n1)).size->G (a.extract q (q+n1)) i=G a (q+i):=λi hi=>pD () ();have hx:Asc lt (a.extract (p+k) q):=λi j hij hj=>by rw[gx i (),gx j hj];show s1 _ _ () () ()
 have hy:Asc lt (a.extract q (q+n1)):=λi j hij hj=>by rw[gy i (),gy j hj];show s2 _ _ () () ()
 have Nx:∀i,i<(a.extract (p+k) q).size->N (G (a.extract (p+k) q) i):=λi hi=>by rw[gx i hi];show hN.at ()
 have Ny:∀i,i<(a.extract q (q+n1)).size->N (G (a.extract q (q+n1)) i):=λi hi=>by rw[gy i hi];show hN.at ()
 have hb:lt (G (a.extract q (q+n1)) 0) (G (a.extract (p+k) q) 0)=true:=by rw[gx 0 (),gy 0 ()];show fl (hk3 k (ax _) ())
 have hl:∀j,j<(a.extract q (q+n1)).size->lt (G (a.extract q (q+n1)) j) (G (a.extract (p+k) q) ((a.extract (p+k) q).size-1))=true:=λj hj=>by
  rw[gx _ (),gy j hj,zx,show p+k+(q-(p+k)-1)=q-1 by lia];show hn2 j ()
 have fin:∀(r:Array Keyed)(st2:SortSt),Fr (SortSt.mk' (kindOf st) a (((pendingOf st).setIfInBounds i (p,m+n,e)).eraseIdxIfInBounds (i+1)) (gallopOf st) (failedOf st)) st2->Good lt (a.extract (p+k) q) (a.extract q (q+n1)) r->
   wpS M A E s (do
    modify λs=>setArr s (r.toList.zipIdx.foldl (λa (z,j)=>a.setIfInBounds (p+k+j) z) (arrOf s))
    return (failedOf (<-get)).isNone) Q st2:=λr st2 f g=>by
  obtain⟨f1,f2,f3,f4⟩:=f;have f2:arrOf st2=a:=f2;show av (i5 (av (iw ?_)));obtain⟨b1,b2⟩:=D8 C (p:=p) (z:=q+n) () () () hs g s1 s2 low hig;have fn:failedOf st2=none:=f4.trans hf;have e9:(failedOf (setArr st2 (r.toList.zipIdx.foldl (λa (z:Keyed×Nat)=>a.setIfInBounds (p+k+z.2) z.1) (arrOf st2)))).isNone=true:=by change (failedOf st2).isNone=true;rw[fn];rfl
  change wpS _ _ _ _ (pure (failedOf (setArr st2 (r.toList.zipIdx.foldl (λa (z:Keyed×Nat)=>a.setIfInBounds (p+k+z.2) z.1) (arrOf st2)))).isNone) _ (setArr st2 (r.toList.zipIdx.foldl (λa (z:Keyed×Nat)=>a.setIfInBounds (p+k+z.2) z.1) (arrOf st2)));rw[e9];show aF (h _ _ (f1.trans hk) fn rfl ?_ ?_ ?_)
  .exact (congrArg Array.toList f3).trans e3
  .rw[f2];show b1
  rw[f2];show b2
 by_cases c3:m-k<=n1
 .refine br c3 ?_;show av (G4 C hk Nx Ny hx hy (show 0<(a.extract (p+k) q).size by lia) (show 0<(a.extract q (q+n1)).size by lia) hb hl λr st2 f g=>fin r st2 f g)
 show a9 c3 ?_;show av (G5 C hk Nx Ny hx hy (show 0<(a.extract (p+k) q).size by lia) (show 0<(a.extract q (q+n1)).size by lia) hb hl λr st2 f g=>fin r st2 f g)
end
def Runs(lt:Keyed->Keyed->Bool)(a:Array Keyed):List (Nat×Nat×Nat)->Nat->Nat->Prop
 | [],b,e=>b=e
 |x::l,b,e=>x.1=b/\1<=x.2.1/\Seg lt a b (b+x.2.1)/\Runs lt a l (b+x.2.1) e
section
variable {M:Model}{κ:SortKind}{N:Keyed->Prop}{lt:Keyed->Keyed->Bool}
theorem Runs.len{a:Array Keyed}:∀{l:List (Nat×Nat×Nat)}{b e:Nat},Runs lt a l b e->b+l.length<=e
 | [],_,_,h=>uQ h
 |x::l,b,e,h=>by
  have:=Runs.len h.2.2.2;have:=h.2.1;rw[aS];lia
theorem Seg.congr{a c:Array Keyed}{b e:Nat}(h:∀k,b<=k->k<e->G c k=G a k)(r:Seg lt a b e):Seg lt c b e:=λi j h1 h2 d=>by
 rw[h i h1 (),h j () d];show r i j h1 h2 d
theorem Runs.congr{a c:Array Keyed}:∀{l:List (Nat×Nat×Nat)}{b e:Nat},(∀k,b<=k->k<e->G c k=G a k)->Runs lt a l b e->Runs lt c l b e
 | [],_,_,_,r=>r
 |x::l,b,e,h,r=>by
  have:=Runs.len r.2.2.2;show⟨r.1,r.2.1,r.2.2.1.congr λk h1 h2=>h k h1 (),Runs.congr (λk h1 h2=>h k () h2) r.2.2.2⟩
theorem Runs.app{a:Array Keyed}{i:List (Nat×Nat×Nat)}:∀{c:List (Nat×Nat×Nat)}{b e:Nat},Runs lt a (c++i) b e↔∃m,Runs lt a c b m/\Runs lt a i m e
 | [],b,e=>⟨λh=>⟨b,rfl,h⟩,λ⟨m,h1,h2⟩=>by cases h1;show h2⟩
 |x::c,b,e=>by
  constructor
  .rintro⟨h1,h2,d,f⟩;obtain⟨m,g,j⟩:=Runs.app.mp f;show⟨m,⟨h1,h2,d,g⟩,j⟩
  rintro⟨m,⟨h1,h2,d,f⟩,g⟩;show⟨h1,h2,d,Runs.app.mpr ⟨m,f,g⟩⟩
structure RS(κ:SortKind)(N:Keyed->Prop)(lt:Keyed->Keyed->Bool)(a0:Array Keyed)(lo:Nat)(st:SortSt):Prop where
 k:PyProof.Rows.kindOf st=κ
 f:failedOf st=none
 pm:(arrOf st).Perm a0
 r:Runs lt (arrOf st) (pendingOf st).toList 0 lo
theorem zm(C:Cmp M A E s κ N lt){a0:Array Keyed}{lo i:Nat}{st:SortSt}{Q:Bool->SortSt->Prop}(K:Nm N a0)(R:RS κ N lt a0 lo st)(Y:lo<=a0.size)(hi:i+1<(pendingOf st).size)
  (q:∀a,RS κ N lt a0 lo a->(pendingOf a).size+1=(pendingOf st).size->(∀k,lo<=k->G (arrOf a) k=G (arrOf st) k)->Q true a):wpS M A E s (mergeAt' i) Q st:=by
 have hz:=R.pm.size_eq;have L:Nm N (arrOf st):=K.perm R.pm;obtain⟨g,x,y,h,e,O⟩:∃g x y h,(pendingOf st).toList=g++x::y::h/\g.length=i:=by
  have h1:i<(pendingOf st).toList.length:=by rw[gK];lia
  have h2:i+1<(pendingOf st).toList.length:=by rw[gK];lia
  show⟨(pendingOf st).toList.take i,(pendingOf st).toList[i],(pendingOf st).toList[i+1],(pendingOf st).toList.drop (i+1+1),?_,by rw[bu];lia⟩;rw[<-eS h2,<-eS h1,fY]
 obtain⟨p,m,w⟩:=x;obtain⟨P,n,Z⟩:=y;have r:=R.r;rw[e] at r;obtain⟨b,o,h1,h2,u,c,v,z,j⟩:=Runs.app.mp r;have h1:p=b:=h1;subst h1;have c:P=p+m:=c;dsimp only at h2 u v z j;have le:=j.len;change wpS M A E s (mergeAt' i) Q (sa st (arrOf st));show G6 C R.k R.f L e O c h2 v () (by rw[c];show u) (by rw[c];show z) λB a S T l D d H=>q a ⟨S,T,by rw[l];show d.pm.trans R.pm,?_⟩ ?_ λk I=>by rw[l];show d.at_ k ()
 .rw[l,D];have ad:=o.len;show Runs.app.mpr ⟨p,o.congr λk _ I=>d.at_ k (),rfl,by change 1<=m+n;lia,?_,?_⟩
  .change Seg lt B p (p+(m+n));rw[c,Li] at H;show H
  change Runs lt B h (p+(m+n)) lo;rw[<-Li];show j.congr λk I _=>d.at_ k ()
 have U:=congrArg List.length e;have X:=congrArg List.length D;simp only[gK,ao,aS] at U X;lia
theorem xt{a:Array Keyed}{w:Nat}:∀{l:List (Nat×Nat×Nat)}{i b e:Nat},Runs lt a l b e->Runs lt a (l.modify i λx=>(x.1,x.2.1,w)) b e
 | [],i,_,_,h=>by
  simpa using h
 |x::l,0,_,_,h=>h
 |x::l,i+1,_,_,h=>⟨h.1,h.2.1,h.2.2.1,xt h.2.2.2⟩
theorem wp_runs(C:Cmp M A E s κ N lt){a0:Array Keyed}{st:SortSt}{Q:Unit->SortSt->Prop}(hN:Nm N a0)(hk:PyProof.Rows.kindOf st=κ)(hf:failedOf st=none)(ha:arrOf st=a0)(hp:pendingOf st=#[])(h2:2<=a0.size)
  (q:∀st',failedOf st'=none->(arrOf st').Perm a0->Seg lt (arrOf st') 0 a0.size->Q .unit st'):wpS M A E s sortRuns' Q st:=by
 rw[sortRuns'_eq];show av (iw ?_);dsimp only;rw[ha];generalize minRun' a0.size a0.size 0=mr;have R0:RS κ N lt a0 0 st:=⟨hk,hf,ha ▸ Kz _,by rw[hp];show rfl⟩;show av (eW (eI (I:=λt x st'=>x.1=none/\t<=x.2/\x.2<=a0.size/\RS κ N lt a0 x.2 st') (Q:=λx st'=>x.1=none/\x.2=a0.size/\RS κ N lt a0 x.2 st') ?step ?fin ⟨rfl,ax _,aQ _,R0⟩) ?post)
 case fin=>
  rintro⟨r,lo⟩ st' ⟨e1,e2,e3,e4⟩;have e2:max 0 a0.size<=lo:=e2;have e3:lo<=a0.size:=e3;show⟨e1,by change lo=_;lia,e4⟩
 case post=>
  rintro⟨r,lo⟩ st' ⟨e1,e2,R⟩;cases e1;have e2:lo=a0.size:=e2;subst e2;dsimp only at R |-;have l0:=R.r.len;rw[gK] at l0;show av (eW (eI (I:=λt x st'=>x.1=none/\RS κ N lt a0 a0.size st'/\((pendingOf st').size+t<=a0.size\/(pendingOf st').size<=1)) (Q:=λx st'=>x.1=none/\RS κ N lt a0 a0.size st'/\(pendingOf st').size<=1) ?s2 ?f2 ⟨rfl,R,.inl ()⟩) ?p2)
  case f2=>
   rintro⟨r,u⟩ st' ⟨e1,R,e2⟩;show⟨e1,R,()⟩
  case p2=>
   rintro⟨r,u⟩ st' ⟨e1,R,e2⟩;cases e1;show aF (q st' R.f R.pm ?_);have r:=R.r;have z:(pendingOf st').toList.length<=1:=by rw[gK];show e2
   match hh:(pendingOf st').toList,r,z with
   | [],r,_=>have:0=a0.size:=r;lia
   | [x],r,_=>
    have r3:=r.2.2.1;have e:0+x.2.1=a0.size:=r.2.2.2;rw[e] at r3;show r3
   |x::y::l,r,z=>simp only[aS] at z;lia
  case s2=>
   rintro t ⟨r,u⟩ st' _ ht ⟨e1,R,e2⟩;show av (iw ?_);by_cases c:(pendingOf st').size<=1
   .exact br c (aF ⟨rfl,R,c⟩)
   show a9 c ?_;show av (zm C hN R (ax _) ?_ λst'' R' hz _=>aF ⟨rfl,R',()⟩)
   repeat' split
   all_goals lia
 case step=>
  rintro t ⟨r,lo⟩ st' _ ht ⟨e1,e2,e3,R⟩;cases e1;dsimp only at e2 e3 R |-;by_cases c:lo ≥ a0.size
  .exact br c (aF ⟨rfl,by change lo=_;lia,R⟩)
  show a9 c ?_;have hz:=R.pm.size_eq;change wpS M A E s _ _ (sa st' (arrOf st'));show av (Do C R.k (hN.perm R.pm) () () λn a1 cg n1 n2 sg=>?_);dsimp only;have R1:RS κ N lt a0 lo (sa st' a1):=⟨R.k,R.f,cg.pm.trans R.pm,R.r.congr λk _ hk'=>cg.at_ k (.inl hk')⟩;have z1:=cg.size;by_cases c2:n<mr;show br c2 ?_;show av (jR (av (G7 C R.k (hN.perm R1.pm) (o:=n) n1 () () sg λa2 cg2 sg2=>?_)));show a9 ⋯ ?_;have R2:RS κ N lt a0 lo (sa st' a2):=⟨R.k,R.f,cg2.pm.trans R1.pm,R1.r.congr λk _ hk'=>cg2.at_ k (.inl hk')⟩;have n3:1<=min (a0.size-lo) mr:=();have n4:lo+min (a0.size-lo) mr<=a0.size:=();generalize min (a0.size-lo) mr=nn at sg2 n3 n4 |-
  rotate_left
  show a9 c2 ?_;have sg2:=sg;have R2:=R1;have n3:=n1;have n4:lo+n<=a0.size:=();clear n1 n2 sg c2;generalize n=nn at sg2 n3 n4 |-;generalize a1=a2 at sg2 R2 |-
  all_goals
   show av (iw ?_);have last:∀st3,RS κ N lt a0 lo st3->Seg lt (arrOf st3) lo (lo+nn)->wpS M A E s (do
     modify λs=>setPending s ((pendingOf s).push (lo,nn,0))
     pure (ForInStep.yield ((none:Option Unit),lo+nn))) (λ(r:ForInStep (Option Unit×Nat)) st'=>match r with | .done x=>x.1=none/\x.2=a0.size/\RS κ N lt a0 x.2 st' | .yield x=>x.1=none/\t+1<=x.2/\x.2<=a0.size/\RS κ N lt a0 x.2 st') st3:=λst3 R3 sg3=>by
    show av (i5 (aF ⟨rfl,by change t+1<=lo+nn;lia,n4,R3.k,R3.f,R3.pm,?_⟩));change Runs lt (arrOf st3) ((pendingOf st3).push (lo,nn,0)).toList 0 (lo+nn);rw[gM];show Runs.app.mpr ⟨lo,R3.r,rfl,n3,sg3,rfl⟩
   cases hb:(pendingOf (sa st' a2)).back? with
   |none=>show last _ R2 sg2
   |some y=>
    obtain⟨s1,n5,w⟩:=y;dsimp only;generalize power' _ _ _ _=pw;show av (eW (eI (I:=λ_ x st3=>x.1=none/\RS κ N lt a0 lo st3/\Seg lt (arrOf st3) lo (lo+nn)) (Q:=λx st3=>x.1=none/\RS κ N lt a0 lo st3/\Seg lt (arrOf st3) lo (lo+nn)) ?_ (λ_ _ z=>z) ⟨rfl,R2,sg2⟩) ?_)
    .rintro t3 ⟨r,u⟩ st3 _ ht3 ⟨e1,R3,sg3⟩;show av (iw ?_);by_cases c3:(pendingOf st3).size>1
     .rw[Nq c3,KB (show (pendingOf st3).size-2<(pendingOf st3).size by lia)];dsimp only
      split
      .exact aF ⟨rfl,R3,sg3⟩
      show av (zm C hN R3 e3 () λst4 R4 _ k4=>aF ⟨rfl,R4,sg3.congr λk hk1 _=>k4 k hk1⟩)
     rw[Np c3];show aF ⟨rfl,R3,sg3⟩
    rintro⟨r,u⟩ st3 ⟨e1,R3,sg3⟩;cases e1;show av (i5 (last _ ⟨R3.k,R3.f,R3.pm,?_⟩ sg3));change Runs lt (arrOf st3) ((pendingOf st3).modify _ _).toList 0 lo;rw[Array.toList_modify];show xt R3.r
end
end TimS
end
section
namespace L2
open PySem PySem.Spec PyProof.Rows PySem.W
open HT (lexLt)
theorem xx:∀a b:List Int,lexLt a b=true->lexLt b a=false
 | [],[],h=>rfl
 | [],_::_,_=>rfl
 |_::_,[],h=>by cases h
 |x::xs,y::ys,h=>by
  rw[HT.lexLt_cons] at h |-;by_cases e:x=y
  .rw[Nq e] at h;rw[Nq e.symm];show xx xs ys h
  rw[Np e] at h;rw[Np λz=>e z.symm];have:x<y:=Nv h;show Nu ()
theorem zP:∀a b c:List Int,lexLt b a=false->lexLt c b=false->lexLt c a=false
 | [],b,[],_,_=>rfl
 | [],[],_::_,_,h=>rfl
 | [],_::_,_::_,_,_=>rfl
 |_::_,[],_,h,_=>by cases h
 |_::_,_::_,[],_,h=>by cases h
 |x::xs,y::ys,z::zs,h1,h2=>by
  rw[HT.lexLt_cons] at h1 h2 |-;by_cases e:y=x
  .subst e;rw[Nq rfl] at h1;by_cases d:z=y
   .rw[Nq d] at h2 |-;show zP xs ys zs h1 h2
   rw[Np d] at h2 |-;show h2
  rw[Np e] at h1;have f:¬y<x:=of_decide_eq_false h1;by_cases d:z=y
  .subst d;rw[Np e];show h1
  rw[Np d] at h2;have g:¬z<y:=of_decide_eq_false h2;rw[Np ()];show Nu ()
def Tups(K:Frag)(H:Hp)(ys:List V)(ks:List (List Int)):Prop:=Paired (λy k=>∃b,y=V.ref b/\SqT K H b (k.map V.int)/\k≠[]) ys ks
theorem Iw{h h':Heap}{a:Addr}{m b:Str->Option Value}(h1:h.Ns a m)(h2:h.Ns a b):m=b:=by obtain⟨o,es,ep,e,f,_,g⟩:=h1;obtain⟨o',j,l,c,d,_,i⟩:=h2;rw[e] at c;cases c;rw[f] at d;cases d;funext x;rw[<-g,<-i]
section
theorem Inv.newsKept{h':Heap}{m:Str->Option Value}{t':Nat}{more:List (Addr×Obj)}(I:Inv X Nw Z H s)(F:Fr X.base X.env.locals s.heap m)(a:Fr X.base X.env.locals h' m)(N:News X.base X.env.locals h' (more++oZ X.base s.heap X.env.locals)) :
  (∀b o,b≠X.env.locals->s.heap.get? b=some o->h'.get? b=some o)/\(∀m,s.heap.Ns X.env.locals m->h'.Ns X.env.locals m):=by
 show⟨λb o d e=>?_,λf hm=>by rw[<-Iw (h':=h') F.ns hm];show a.ns⟩;cases q:X.base.get? b with
 |some u=>
  have c:=I.bk b u q;rw[e] at c;cases c;show a.keep b _ q
 |none=>show (N (b,o) (bo _ (vG d q e))).1
theorem bR.there{h:Heap}{a:Addr}{o:HO}(x:bR P w H h a o):∃b,h.get? a=some b:=by
 cases o with
 |lst xs=>obtain⟨_,_,_,_,e⟩:=x;show⟨_,e⟩
 |tup xs=>obtain⟨_,_,_,b,e,_⟩:=x;show⟨_,e⟩
 |dK kvs=>obtain⟨_,_,_,_,o,_,_,e,_⟩:=x;show⟨_,e⟩
 |dT kvs=>obtain⟨_,_,_,_,o,_,_,e,_⟩:=x;show⟨_,e⟩
 |set S n=>obtain⟨o,_,_,_,e,_⟩:=x;show⟨_,e⟩
 |ins C dx fs=>obtain⟨_,_,_,e,_⟩:=x;show⟨_,e⟩
 |own y=>show x
 |xd fs=>obtain⟨_,⟨_,_,_,e,_⟩,_⟩:=x;show⟨_,e⟩
 |rng lo hi=>obtain⟨_,_,_,e⟩:=x;show⟨_,e⟩
 |frz b u=>obtain⟨e,_⟩:=x;show⟨_,e⟩
 |tbl ps=>show⟨_,(show h.get? a=some _ from x)⟩
 |met f y=>show⟨_,(show h.get? a=some _ from x)⟩
 |ext φ=>obtain⟨_,e,_⟩:=x;show e
theorem HOk.none_of{h:Heap}{a:Addr}(x:HOk P w H h)(e:h.get? a=none):H a=none:=by
 cases q:H a with
 |none=>rfl
 |some u=>
  obtain⟨o,z⟩:=(x a u q).there;rw[e] at z;cases z
theorem Inv.laidN{h':Heap}{t':Nat}{a:Addr}{o:HO}(I:Inv X Nw Z H s)(k:∀b o,b≠X.env.locals->s.heap.get? b=some o->h'.get? b=some o)(kn:∀m,s.heap.Ns X.env.locals m->h'.Ns X.env.locals m)
  (ha:s.heap.get? a=none) (new:∀H',bR X.prog X.w H' h' a o) (j:∀y fs,o≠.ins y fs []):Inv X Nw Z (upd H a o) {s with heap:=h',toks:=t'}:=by
 have f:H a=none:=I.hok.none_of ha;have g:∀b u,H b=some u->b≠X.env.locals:=λb u e z=>by rw[z,I.free] at e;cases e
 show I.step (g':=s.gens) (d':=s.drawn) (ch:=[]) (λ_ z=>nomatch z) (λb o d _ _ e _=>k b o d e) (λb o d _ _ e _=>⟨o.slots,k b o d e⟩) (λb o _ e n=>?_) (λb o _ e=>?_) (λb xs e=>?_) (λb o u e=>?_) (λb ps e=>⟨#[],?_⟩) kn (λb u e=>?_) I.bare
 .rw[bh (λz=>by rw[z,ha] at e;cases e)];show n
 .by_cases d:b=X.env.locals
  .subst d;obtain⟨m,hm,_⟩:=I.loc;obtain⟨o',_,_,h,_⟩:=kn m hm;show⟨o',h⟩
  show⟨o,k b o d e⟩
 .rw[bh (ar e f)];show e
 .rw[bh (ar e f)];show e
 .rw[bh (ar e f),e];simp
 by_cases d:b=a
 .subst d;rw[bO] at e;cases e;show new _
 rw[bh d] at e;show (I.hok b u e).stay (λc v i q=>k c v ?_ q) (λc q=>by rw[bh (ar q f)];show q) λc xs q=>by rw[bh (ar q f)];show q
 rcases i with z|z
 .rw[z];show g b u e
 show g c _ z
theorem Inv.keptN{h':Heap}{t':Nat}(I:Inv X Nw Z H s)(k:∀b o,b≠X.env.locals->s.heap.get? b=some o->h'.get? b=some o)(kn:∀m,s.heap.Ns X.env.locals m->h'.Ns X.env.locals m):Inv X Nw Z H {s with heap:=h',toks:=t'}:=by
 have d:∀b u,H b=some u->b≠X.env.locals:=λb u e z=>by rw[z,I.free] at e;cases e
 show I.step (g':=s.gens) (d':=s.drawn) (ch:=[]) (λ_ z=>nomatch z) (λb o a _ _ e _=>k b o a e) (λb o a _ _ e _=>⟨o.slots,k b o a e⟩) (λb o _ e n=>n) (λb o _ e=>?_) (λb xs e=>e) (λb o u e=>e) (λb ps e=>⟨#[],by rw[e];simp⟩) kn (λb u e=>?_) I.bare
 .by_cases a:b=X.env.locals
  .subst a;obtain⟨m,hm,_⟩:=I.loc;obtain⟨o',_,_,f,_⟩:=kn m hm;show⟨o',f⟩
  show⟨o,k b o a e⟩
 show (I.hok b u e).stay (λc v g q=>k c v ?_ q) (λc q=>q) λc xs q=>q;rcases g with z|z
 .rw[z];show d b u e
 show d c _ z
end
def fR(h:Heap)(a:Addr)(vs:List Value):Heap:=((h.update a (Obj.mapSeq λ_=>#[])).push (seqObj "tuple" vs.toArray 0)).push (seqObj "list" #[] 0)
section
variable {prog:Program}{κ:SortKind}{rk:Value->List Int}
theorem wk{a:Addr}{vs:List Value}{n:Nat}{P:PySem.Fin->Shared->Prop}(ho:s.heap.get? a=some (seqObj "list" vs.toArray n))(hz:vs.length<=sizeLine)
  (hk:2<=vs.length->∀Q:SortKind->Shared->Prop,Q κ {s with heap:=fR s.heap a vs}->wpAny (model prog w) A (keyKind' vs.toArray) Q E {s with heap:=fR s.heap a vs})
  (hc:2<=vs.length->∀x∈vs,∀y∈vs,∀C:Bool->Shared->Prop,C (HT.lexLt (rk x) (rk y)) {s with heap:=fR s.heap a vs}->wpAny (model prog w) A (keyLt' κ x y) C (λ_ _=>False) {s with heap:=fR s.heap a vs})
  (h:∀out:List Value,out.Perm vs->out.Pairwise (λu v=>HT.lexLt (rk v) (rk u)=false)->P (.done (.ret .none)) {s with heap:=sortedHeap s.heap a vs out.toArray}):wpAny (model prog w) A (Builtin.«list.sort» ⟨[.ref a],[]⟩) P E s:=by
 have lt:a<↥s:=aN ho;obtain⟨e1,h1⟩:∃e1,(s.heap.update a (Obj.mapSeq λ_=>(#[]:Array Value))).get? a=some (seqObj "list" #[] e1):=⟨_,get?_update_seq ho λ_=>#[]⟩;have h3:(fR s.heap a vs).get? a=some (seqObj "list" #[] e1):=bg _ (bg _ h1);have zs:(vs.toArray.zip vs.toArray).map (·.2)=vs.toArray:=by apply nG.mp;simp only[ur,List.zip_toArray];show List.map_snd_zip (ax _)
 rw[list_sort_plain];show ag (listItems_at ho rfl (ag (listUpdate_at ho rfl (ag (seqEpoch_at h1 rfl (ag (Ml (ag (wpAny_newList (fj ?_) (aQ _))) hz)))) (by rw[bK];lia) (aQ _))));change wpAny _ _ _ _ _ {s with heap:=fR s.heap a vs};have fin:∀st:SortSt,failedOf st=none->((arrOf st).map (·.2)).toList.Perm vs->((arrOf st).map (·.2)).toList.Pairwise (λu v=>HT.lexLt (rk v) (rk u)=false)->∀s':Shared,s'={s with heap:=fR s.heap a vs}->wpAny (model prog w) A (do
   let touched:=(<-seqEpoch a) != e1
   Builtin.List.listUpdate (.ref a) λ_=>(arrOf st).map (·.2)
   if let some e:=failedOf st then rule "list.sort.comparison-raised";throw e
   if touched then rule "list.sort.modified";raiseError "ValueError" "list modified during sort"
   ret .none) P E s':=by
  rintro st hf hp hs _ rfl;show ag (seqEpoch_at h3 rfl (ag (listUpdate_at h3 rfl ?_ (aQ _) (by have:=hp.length_eq;rw[gK] at this;lia))));rw[hf];simp only[bne_self_eq_false,iO,if_false];show aB (by
   have z:=h _ hp hs
   rwa [Array.toArray_toList] at z)
 dsimp only;by_cases h2:vs.length<2
 .have hs2:vs.toArray.size<2:=by rw[bK];show h2
  rw[Nq hs2,Nq hs2];show ag (aB ?_);rw[StateT.run_pure];show ag (aB ?_);show fin (SortSt.mk' general' (vs.toArray.zip vs.toArray) #[] 7 none) rfl ?_ ?_ _ rfl
  .change (((vs.toArray.zip vs.toArray).map (·.2)).toList).Perm vs;rw[zs]
  change (((vs.toArray.zip vs.toArray).map (·.2)).toList).Pairwise _;rw[zs];cases vs with
  |nil=>show .nil
  |cons x l=>rw[KZ (show l.length=0 by rw[aS] at h2;lia)];show qv _ _
 have nt:¬vs.toArray.size<2:=by rw[bK];lia
 rw[Np nt,Np nt];show ag (hk () _ ?_);have mem:∀x∈(vs.toArray.zip vs.toArray),x.1∈vs/\x.1=x.2:=λx hx=>by
  have hx:x∈vs.zip vs:=‹hx›
  obtain⟨i,hi⟩:=dn.mp hx;rw[List.getElem?_zip_eq_some] at hi;show⟨a_ hi.1,cy (hi.1.symm.trans hi.2)⟩
 have C:TimS.Cmp (model prog w) A E {s with heap:=fR s.heap a vs} κ (λx=>x∈(vs.toArray.zip vs.toArray)) (λx y=>HT.lexLt (rk x.1) (rk y.1)):=by show⟨λ_ _=>xx _ _,λ_ _ _=>zP _ _ _,λ{x y st Q} hx hy hk' q=>?_⟩;rw[lt'_eq];show av (iw ?_);rw[hk'];show av (wpS_lift (qJ (fk (hc () _ (mem x hx).1 _ (mem y hy).1 (λb s'=>b=HT.lexLt (rk x.1) (rk y.1)/\s'={s with heap:=fR s.heap a vs}) ⟨rfl,rfl⟩) (λb s' ⟨e,e'⟩=>?_) λ_ _ z=>z.elim)));subst e e';show⟨rfl,aF q⟩
 have hzz:(vs.toArray.zip vs.toArray).size=vs.length:=∅;show ag (fk (TimS.wp_runs C (st:=SortSt.mk' κ (vs.toArray.zip vs.toArray) #[] 7 none) (λx hx=>hx) rfl rfl rfl rfl (by rw[hzz];lia) (Q:=λ_ st=>failedOf st=none/\(arrOf st).Perm (vs.toArray.zip vs.toArray)/\TimS.Seg (λx y=>HT.lexLt (rk x.1) (rk y.1)) (arrOf st) 0 vs.length) λst' f p g=>⟨f,p,by rw[hzz] at g;show g⟩) ?_ λ_ _ e=>e);rintro⟨⟨⟩,st'⟩ s' ⟨e,hf,hp,hg⟩;show fin st' hf ?_ ?_ s' e
 .have:=(KC.mp hp).map (·.2);rw[<-ur,<-ur,zs] at this;show this
 rw[ur,ff];show AV.mpr λi j hi hj hij=>?_;have hz2:(arrOf st').size=vs.length:=hp.size_eq.trans hzz;have hi':i<(arrOf st').size:=‹hi›
 have hj':j<(arrOf st').size:=‹hj›
 have g:=hg i j (aQ _) () ();have e2:∀k (hk:k<(arrOf st').size),TimS.G (arrOf st') k=(arrOf st')[k]:=λk hk=>by simp[TimS.G,hk]
 have e3:∀k (hk:k<(arrOf st').size),((arrOf st')[k]).1=((arrOf st')[k]).2:=λk hk=>(mem _ (hp.mem_iff.mp (Array.getElem_mem hk))).2;have g:HT.lexLt (rk (TimS.G (arrOf st') j).1) (rk (TimS.G (arrOf st') i).1)=false:=g;rw[e2 i hi',e2 j hj',e3 i hi',e3 j hj'] at g;simpa using g
theorem B3{l:Addr}{vs:List Value}{Q:Value->Shared->Prop}(e:s.heap.IsList l vs.toArray)(hz:vs.length+1<=sizeLine)
  (f:∀h':Heap,(∀b o,s.heap.get? b=some o->h'.get? b=some o)->2<=vs.length->∀Q:SortKind->Shared->Prop,Q κ {s with heap:=h'}->wpAny (model prog w) A.in1.in1 (keyKind' vs.toArray) Q E {s with heap:=h'})
  (i:∀h':Heap,(∀b o,s.heap.get? b=some o->h'.get? b=some o)->2<=vs.length->∀x∈vs,∀y∈vs,∀C:Bool->Shared->Prop,C (HT.lexLt (rk x) (rk y)) {s with heap:=h'}->wpAny (model prog w) A.in1.in1 (keyLt' κ x y) C (λ_ _=>False) {s with heap:=h'})
  (h:∀out:List Value,out.Perm vs->out.Pairwise (λu v=>HT.lexLt (rk v) (rk u)=false)->Q (.ref (↥s+1)) {s with heap:=sortedAll s.heap vs out.toArray}):wpAny (model prog w) A (call (.builtin "sorted") [.ref l]) Q E s:=by
 show Calls.call_function_entry kind_sorted plain_sorted entry_sorted (args_sorted1 _) ?_;unfold Builtin.«sorted»;show ag (m:=checkCount "sorted" 1 1 _) (aB (ag (collect_list e (ag (wpAny_newList ?_ ())) ())));generalize a:(s.heap.push (seqObj "list" #[] 0)).update ↥s (Obj.mapSeq (·++vs.toArray))=G;have c:G.objs.size=↥s+1:=by rw[<-a,qa,size_push']
 have d:(G.push (seqObj "list" vs.toArray 0)).get? (↥s+1)=some (seqObj "list" vs.toArray 0):=by rw[<-c];show cw _ rfl
 have j:∀out:List Value,sortedAll s.heap vs out.toArray=sortedHeap (G.push (seqObj "list" vs.toArray 0)) (↥s+1) vs out.toArray:=λout=>by rw[<-a];rfl
 have old:∀b o,s.heap.get? b=some o->(fR (G.push (seqObj "list" vs.toArray 0)) (↥s+1) vs).get? b=some o:=λb o q=>by
  have lt:=aN q;have g:G.get? b=some o:=by rw[<-a,AA _ _ _ _ (b_ lt)];show bg _ q
  show bg _ (bg _ ?_);rw[AA _ _ _ _ (b_ (uR lt))];show bg _ g
 change wpAny _ _ _ _ _ {s with heap:=G.push (seqObj "list" vs.toArray 0)};rw[c];show ag (fj (iY L8 ⟨_,d,rfl⟩ L5 ?body (LZ _)))
 case body=>
  show wk (rk:=rk) (κ:=κ) (s:={s with heap:=G.push (seqObj "list" vs.toArray 0)}) d () (f _ old) (i _ old) λout p1 p2=>?_;show⟨_,rfl,aB ⟨_,rfl,(j out) ▸ h out p1 p2⟩⟩
end
section
theorem B5(ys:List V):((List.range ys.length).map λi=>ys.getD i V.non)=ys:=by show nM ∅ λi h1 h2=>?_;simp[h2]
theorem Paired.getE{α β:Type}{F:α->β->Prop}:∀{a:List α}{b:List β}{i:Nat}{x:α},Paired F a b->a[i]?=some x->∃y,b[i]?=some y/\F x y
 |_,_,_,_,.nil,e=>by simp at e
 |_,_,0,_,.cons r _,e=>by simp at e;subst e;show⟨_,rfl,r⟩
 |_,_,i+1,x,.cons _ t,e=>by
  obtain⟨u,h1,h2⟩:=Paired.getE (i:=i) (x:=x) t ‹e›;show⟨u,‹h1›,h2⟩
theorem vQ{ys:List V}{a:List Value}(r:Vals ys a):∀(ix:List Nat),(∀i∈ix,i<ys.length)->Vals (ix.map λi=>ys.getD i .non) (ix.map λi=>a.getD i Value.none)
 | [],_=>.nil
 |i::ix,h=>by
  show .cons ?_ (vQ r ix λj b=>h j (aZ _ b));have hi:=h i dX;obtain⟨u,c,d⟩:=r.get (i:=i) (x:=ys[i]) (by simp[hi]);have e:ys.getD i .non=ys[i]:=by simp[List.getD,hi]
  have f:a.getD i Value.none=u:=by rw[List.getD,c];rfl
  change aD (ys.getD i .non) (a.getD i Value.none);rw[e,f];show d
theorem GZ{prog:Program}(us ws:List Value)(ns ms:List Int)(i:Nat)(s:Shared){fin:Bool}{Q:Bool->Shared->Prop}(h1:IntsAre us ns)(h2:IntsAre ws ms)(e:fin=decide (ns.length<ms.length))(q:Q (HT.lexLt ns ms) s):KatLex prog w A true fin Q (us.zip ws) i s:=by
 induction h1 generalizing ws ms i with
 |nil=>
  subst e;cases h2 with
  |nil=>show q
  |cons _ _ _=>show kat_nil (by simpa [HT.lexLt] using q)
 |cons a t f c=>cases h2 with
  |nil=>subst e;show kat_nil (by simpa [HT.lexLt] using q)
  |cons b u d=>
  rw[HT.lexLt_cons] at q;show kat_cons (Bi ?_);by_cases h:a=b
  .rw[Nq h] at q;rw[show (a==b)=true by simpa using h];show kat_yes (c _ _ (i+1) d ?_ q);rw[e];simp
  rw[Np h] at q;rw[show (a==b)=false by simpa using h];show kat_no ?_;cases g:(true&&i==0) with
  |true=>show oneLt_int q
  |false=>show kat_one _ _ (lt_int q)
theorem CM{α β:Type}{f:α->β}:∀{l b:List β},b.Perm l->∀ix:List α,l=ix.map f->∃a:List α,a.Perm ix/\b=a.map f:=by
 intro l b h;induction h with
 |nil=>show λix e=>⟨ix,.refl _,e⟩
 |cons x _ c=>
  intro ix e;cases ix with
  |nil=>cases e
  |cons i ix=>
   rw[az] at e;injection e with d g;obtain⟨a,p,q⟩:=c ix g;show⟨i::a,p.cons i,by rw[az,d,q]⟩
 |swap x y l=>
  intro ix e
  match ix,e with
  |i::j::ix,e=>
   simp only[az,KW] at e;show⟨j::i::ix,.swap _ _ _,by rw[az,az,e.1,e.2.1,e.2.2]⟩
 |trans _ _ m n=>
  intro ix e;obtain⟨o,p2,r⟩:=n ix e;obtain⟨s,p1,q1⟩:=m o r;show⟨s,p1.trans p2,q1⟩
def Ky(K:Frag)(H:Hp)(ys:List V)(ks:List (List Int)):Prop:=Paired (λy k=>∃n,y=V.int n/\k=[n]) ys ks\/Tups K H ys ks
def rkV(h:Heap):Value->List Int
 |.int n _=>[n]
 |.ref b=>match h.get? b with
  |some o=>match o.data with
   |.seq xs _=>xs.toList.map λv=>match v with | .int n _=>n|_=>0
   |_=>[]
  |none=>[]
 |_=>[]
theorem sM:∀{us:List Value}{ns:List Int},IntsAre us ns->(us.map λv=>match v with | .int n _=>n|_=>0)=ns
 |_,_,.nil=>rfl
 |_,_,.cons n t r=>by rw[az,sM r]
theorem IC(I:Inv X Nw Z H s){ys:List V}{ks:List (List Int)}{c:List Value}(h:Ky [] H ys ks)(p:Vals ys c):∃κ:SortKind,(∀i,i<c.length->rkV s.heap (c.getD i Value.none)=ks.getD i [])/\
  ∀{A:Around}{E:Value->Shared->Prop}(h':Heap),(∀b o,s.heap.get? b=some o->o.cls=.type "tuple"->h'.get? b=some o)->2<=c.length->
   (∀Q:SortKind->Shared->Prop,Q κ {s with heap:=h'}->wpAny ⇑X A (keyKind' c.toArray) Q E {s with heap:=h'})/\
   ∀x∈c,∀y∈c,∀C:Bool->Shared->Prop,C (HT.lexLt (rkV s.heap x) (rkV s.heap y)) {s with heap:=h'}->wpAny ⇑X A (keyLt' κ x y) C (λ_ _=>False) {s with heap:=h'}:=by
 rcases h with h|h
 .obtain⟨ns,rfl,rfl⟩:∃ns:List Int,ys=ns.map V.int/\ks=ns.map λn=>[n]:=by
   clear p;induction h with
   |nil=>show⟨[],rfl,rfl⟩
   |cons r _ B=>
    obtain⟨n,rfl,rfl⟩:=r;obtain⟨ns,rfl,rfl⟩:=B;show⟨n::ns,rfl,rfl⟩
  have D:=ou p;have g:∀{c:List Value}{ns:List Int},IntsAre c ns->∀x∈c,∃n t,x=Value.int n t:=λ{c ns} D x l=>by
   induction D with
   |nil=>cases l
   |cons n t _ B=>
    rcases ae.mp l with rfl|l
    .exact⟨n,t,rfl⟩
    show B l
  show⟨oneType',λi hi=>?_,λ{A E} h' _ h2=>⟨λQ q=>?_,λx l y M C q=>?_⟩⟩
  .obtain⟨u,N,L⟩:=p.get (i:=i) (x:=(ns.map V.int)[i]'(by rw[p.length];show hi)) ∅;have ad:i<ns.length:=by have:=p.length;rw[aE] at this;lia
   rw[List.getElem_map] at L;obtain⟨t,rfl⟩:=L;rw[List.getD,N,List.getD,cB,aP ad];rfl
  .match c,h2,D with
   |v1::v2::rest,_,D=>rw[keyKind_ints D];show aB q
  obtain⟨n,t,rfl⟩:=g D x l;obtain⟨m,u,rfl⟩:=g D y M;show kat_lt_int ?_;have e:HT.lexLt (rkV s.heap (Value.int n t)) (rkV s.heap (Value.int m u))=decide (n<m):=by
   change HT.lexLt [n] [m]=_;rw[HT.lexLt_cons];by_cases z:n=m
   .rw[Nq z,Nu ()];rfl
   rw[Np z]
  rw[<-e];show q
 have at_:∀(ks:List (List Int))(ys:List V)(c:List Value),Tups [] H ys ks->Vals ys c->Paired (λv k=>k≠[]/\∃b us o n,v=Value.ref b/\IntsAre us k/\s.heap.get? b=some o/\o.cls=.type "tuple"/\o.data=.seq us.toArray n) c ks:=by
  intro ks;induction ks with
  |nil=>intro ys c a b;cases a;cases b;show .nil
  |cons k ks B=>
   intro ys c a b;cases a with
   |cons hh tt=>
    obtain⟨bb,e0,hq,O⟩:=hh;subst e0;cases b with
    |cons r rr=>
     cases r;obtain⟨us,r5,⟨o,p1,p2,n,p3⟩,_⟩:=I.tuple hq;show .cons ⟨O,bb,us,o,n,rfl,ou r5,p1,p2,p3⟩ (B _ _ tt rr)
 have P:=at_ ks ys c h p;have R:∀{b:Addr}{us:List Value}{o:Obj}{n:Nat}{k:List Int},IntsAre us k->s.heap.get? b=some o->o.data=.seq us.toArray n->rkV s.heap (Value.ref b)=k:=λ{b us o n k} d f K=>by
  change (match s.heap.get? b with|some o=>_|none=>_)=_;rw[f];change (match o.data with | .seq xs _=>_|_=>_)=_;rw[K];show sM d
 show⟨tuples' (Value.type "int" != Value.type "tuple"),λi hi=>?_,λ{A E} h' old h2=>⟨λQ q=>?_,λx l y M C q=>?_⟩⟩
 .obtain⟨k,N,_,b,us,o,n,L,d,f,_,K⟩:=Paired.getE (i:=i) (x:=c[i]) P (by simp[hi]);rw[show c.getD i Value.none=c[i] by simp[List.getD,hi],L,R d f K,List.getD,N];rfl
 .obtain⟨fs,hk,an,ah⟩:∃fs,KatTups h' c fs/\fs.length=c.length/\∀v∈fs,∃n t,v=Value.int n t:=by
   clear p h2 h at_;induction P with
   |nil=>show⟨[],.nil,rfl,λ_ h=>nomatch h⟩
   |cons r _ B=>
    obtain⟨O,b,us,o,n,rfl,d,f,S,K⟩:=r;obtain⟨fs,U,al,am⟩:=B;cases d with
    |nil=>show absurd rfl O
    |cons z tk r2=>
     show⟨Value.int z tk::fs,.cons (old _ _ f S) S K ∅ U,by simp[al],λv g=>?_⟩;rcases ae.mp g with rfl|g
     .exact⟨_,_,rfl⟩
     show am v g
  show kat_kind (T:=.type "int") hk () (λv g=>?_) ⋯ q;obtain⟨n,t,rfl⟩:=ah v g;show Looks.of_pure rfl
 obtain⟨i,hi⟩:=dn.mp l;obtain⟨j,hj⟩:=dn.mp M;obtain⟨U,_,_,b1,u1,o1,n1,rfl,d,Y,c1,z1⟩:=Paired.getE P hi;obtain⟨k2,_,_,b2,u2,o2,n2,rfl,f,x2,c2,z2⟩:=Paired.getE P hj;rw[R d Y z1,R f x2 z2] at q;rw[show (Value.type "int" != Value.type "tuple")=true by decide];show kat_lt (old _ _ Y c1) z1 (old _ _ x2 c2) z2 (GZ u1 u2 _ _ 0 _ d f ?_ q);rw[<-d.length,<-f.length];simp
theorem zQ{ys:List V}{ks:List (List Int)}{c out:List Value}(d:Vals ys c)(g:∀i,i<c.length->rkV s.heap (c.getD i Value.none)=ks.getD i [])(p:out.Perm c)(j:out.Pairwise (λu v=>HT.lexLt (rkV s.heap v) (rkV s.heap u)=false)) :
  ∃ix:List Nat,ix.Perm (List.range ys.length)/\(ix.map λi=>ks.getD i []).Pairwise (λa b=>HT.lexLt b a=false)/\Vals (ix.map λi=>ys.getD i .non) out:=by
 have e:c=(List.range c.length).map λi=>c.getD i Value.none:=by show nM ∅ λi h1 h2=>?_;simp[h1]
 obtain⟨ix,p2,rfl⟩:=CM p _ e;have f:∀i∈ix,i<c.length:=λi hi=>fX.mp (p2.mem_iff.mp hi);show⟨ix,by rw[d.length];show p2,?_,vQ d ix λi hi=>by rw[d.length];show f i hi⟩;rw[ff] at j |-;show qe (λ{a b} ha l h=>?_) j;rw[g _ (f a ha),g _ (f b l)] at h;show h
theorem IB{K:Frag}(ns:List Int):Ky K H (ns.map V.int) (ns.map λn=>[n]):=.inl (by
 induction ns with
 |nil=>show .nil
 |cons n ns a=>show .cons ⟨n,rfl,rfl⟩ a)
theorem IJ{ns:List Int}{ix:List Nat}(p:ix.Perm (List.range (ns.map V.int).length))(w:(ix.map λi=>(ns.map λn=>[n]).getD i []).Pairwise (λa b=>HT.lexLt b a=false)) :
  ∃ms:List Int,ms.Perm ns/\ms.Pairwise (·<=·)/\(ix.map λi=>(ns.map V.int).getD i .non)=ms.map V.int:=by
 rw[aE] at p;have c:∀i∈ix,i<ns.length:=λi hi=>fX.mp (p.mem_iff.mp hi);show⟨ix.map λi=>ns.getD i 0,?_,?_,?_⟩
 .have:=p.map λi=>ns.getD i 0;show this.trans (AD (nM ∅ λi h1 h2=>?_));simp[h2]
 .rw[ff] at w |-;show qe (λ{a b} ha d h=>?_) w;have h1:=c a ha;have h2:=c b d;simp only[List.getD,cB,aP h1,aP h2,iu,A3] at h |-;rw[HT.lexLt_cons] at h;by_cases z:ns[b]=ns[a]
  .lia
  rw[Np z] at h;have:=of_decide_eq_false h;lia
 rw[cU];show qt λi hi=>?_;have:=c i hi;simp[List.getD,this]
end
def DAt(h:Heap)(d:Addr)(es:Array DictEntry)(ep:Nat):Prop:=∃o,h.get? d=some o/\o.ExactDict/\o.data=.dict es ep
theorem DAt.lt{h:Heap}{d:Addr}{es:Array DictEntry}{ep:Nat}(x:DAt h d es ep):d<h.objs.size:=let ⟨_,e,_⟩:=x;aN e
theorem DAt.at{h h':Heap}{d:Addr}{es:Array DictEntry}{ep:Nat}(x:DAt h d es ep)(k:∀o,h.get? d=some o->h'.get? d=some o):DAt h' d es ep:=let ⟨o,e,r⟩:=x;⟨o,k o e,r⟩
theorem DAt.ty{d:Addr}{es:Array DictEntry}{ep:Nat}(x:DAt s.heap d es ep):s.TypeIs (.ref d) "dict":=let ⟨o,e,c,_⟩:=x;⟨o,e,c.1⟩
section
variable {prog:Program}{d it:Addr}{es:Array DictEntry}{ep i:Nat}
theorem Au{Q:Value->Shared->Prop}(lo:(d==sysModules)=false)(m:DAt s.heap d es ep)
  (q:Q (.ref ↥s) {s with heap:=s.heap.push {cls:=.type "dict_keyiterator",data:=.fields #[.ref d,.int 0 0,.int es.size 0,.int ep 0]}}):wpAny (model prog w) A (pyIter (.ref d)) Q E s:=by
 obtain⟨o,a,_,ed⟩:=id m;show wpAny_pyIter_slot m.ty LK (iY LK m.ty PySem.F.entry_dict_iter ?tree (PySem.F.args_dict_iter_1 _));unfold Builtin.«dict.__iter__» Builtin.Dict.dictSlotNone;show ag (ag (Mm m.ty ?_));show aB (show wpAny _ _ (Builtin.Dict.showsAll d >>= _) _ _ s from ?_);unfold Builtin.Dict.showsAll;rw[Np (show ¬(d==sysModules)=true by rw[lo];simp)];show ag (aB (ag (Bg a ed (ag (Bh a ed ?_)))));show ag (oj (aB ⟨_,rfl,"dict_keyiterator",_,⟨_,cw _ rfl,rfl⟩,qD.lookup,?_⟩));simpa [rawInt] using q
theorem Ku{Q:Option Value->Shared->Prop}(hit:s.heap.IsKeyIter it d i es.size ep)(m:DAt s.heap d es ep)(hi:i<es.size)
  (q:∀h',h'.IsKeyIter it d (i+1) es.size ep->Heap.SameBut it s.heap h'->Q (some es[i].key) {s with heap:=h'}):wpAny (model prog w) A (pyNext (.ref it)) Q E s:=by
 obtain⟨o,a,c,hd⟩:=id hit;obtain⟨e,b,_,ed⟩:=id m;unfold pyNext;show ag (qJ (oh (name:=Str.ofString "__next__") hit.typeIs qD (iY qD hit.typeIs LD ?tree (Lz _))));show ag (aB (ag (ag ?_)))
 first|show ag (vq hit.typeIs (aB (ag (vh a hd ?_))))|show ag (vv hit.typeIs (aB (ag (vh a hd ?_))))
 simp only[show Builtin.Dict_items.ownsTuple "dict_keyiterator" = false by decide,iO,if_false];show (show wpAny _ _ (if (Value.ref d==Value.none)=true then _ else _) _ _ s from ?_);rw[Np (show ¬(Value.ref d==Value.none)=true from bX)];show ag (aB (ag (Bg b ed ?_)));rw[Np ∅];show ag (aB (ag (Bh b ed ?_)));rw[Np ∅];show aB ?_;simp only[show ¬((i:Int)<0) by lia,if_false,js,KB hi];show ag ?_
 first|show ag (vq hit.typeIs (aB (ag (Bj hit.typeIs ?_))))|show ag (vv hit.typeIs (aB (ag (Bj hit.typeIs ?_))))
 change wpAny _ _ (setField (.ref it) 1 (rawInt ((i:Int)+1)) >>= _) _ _ s;show ag (Bm a hd ∅ ?_);have t':(s.heap.update it (Obj.mapFields (·.setIfInBounds 1 (rawInt ((i:Int)+1))))).IsKeyIter it d (i+1) es.size ep:=
  ⟨_,kG _ a (Ls (uU hd _)),(Lr ..).trans c,by rw[uU hd];simp[rawInt]⟩
 show ag (fj (ag (Bj (s:={s with heap:=s.heap.update it (Obj.mapFields (·.setIfInBounds 1 (rawInt ((i:Int)+1))))}) t'.typeIs ?_)));change wpAny _ _ (pure es[i].key) _ _ _;show aB (aB ⟨_,rfl,aB (q _ t' (ux ..))⟩)
theorem dEnd{Q:Option Value->Shared->Prop}(f:A.handled=none)(hit:s.heap.IsKeyIter it d i es.size ep)(m:DAt s.heap d es ep)(hi:es.size<=i)
  (q:∀h',Heap.ExtBut it s.heap h'->Q none {s with heap:=h'}):wpAny (model prog w) A (pyNext (.ref it)) Q E s:=by
 obtain⟨o,c,g,hd⟩:=id hit;obtain⟨h,e,_,ed⟩:=id m;unfold pyNext;show ag (qJ (oh (name:=Str.ofString "__next__") hit.typeIs qD (iY qD hit.typeIs LD ?tree (Lz _))));show ag (aB (ag (ag ?_)))
 first|show ag (vq hit.typeIs (aB (ag (vh c hd ?_))))|show ag (vv hit.typeIs (aB (ag (vh c hd ?_))))
 simp only[show Builtin.Dict_items.ownsTuple "dict_keyiterator" = false by decide,iO,if_false];show (show wpAny _ _ (if (Value.ref d==Value.none)=true then _ else _) _ _ s from ?_);rw[Np (show ¬(Value.ref d==Value.none)=true from bX)];show ag (aB (ag (Bg e ed ?_)));rw[Np ∅];show ag (aB (ag (Bh e ed ?_)));rw[Np ∅];show aB ?_;simp only[show ¬((i:Int)<0) by lia,if_false,js,Array.getElem?_eq_none hi];show ag ?_
 first|show ag (vq hit.typeIs (aB ?_))|show ag (vv hit.typeIs (aB ?_))
 show (show wpAny _ _ (setField (.ref it) 0 .none >>= _) _ _ s from ag (Bm c hd ∅ ?_));change wpAny _ _ (newExc (.type "StopIteration") [] >>= _) _ _ _;show ag ?_;simp only[newExc,newTuple];show ag (oj (ag (m:=firstArgMember _ _) (vi (a:=Value.none) (by first|rfl|(simp only[firstArgMember];rfl)) (oj ?_ (by size_fits)))) (by size_fits));simp only[raiseNew];show ag (wpAny_handled ?_);rw[show A.in1.handled=none from f];show ag (aB (wpAny_throw ?_));show ag (Mi (b:=true) (T:="StopIteration") ⟨_,cw _ rfl,rfl⟩ L7 ?_);show aB (q _ (((ux ..).extBut.push _).push _))
theorem z8(g:A.handled=none)(I:Addr)(j:d≠I):Walks prog w A I [I,d] [I] es.size (λi v=>∃(h:i<es.size),v=es[i].key) (λi h=>h.IsKeyIter I d i es.size ep/\DAt h d es ep) where
 sub:=λb a=>by simp at a;simp[a]
 frame:=λ_ _ _ st f=>⟨st.1.at λo e=>f I ∅ o e,st.2.at λo e=>f d ∅ o e⟩
 item:=λi s Q E hi st c=>Ku st.1 st.2 hi λh' t' sb=>c _ h' s.toks ⟨hi,rfl⟩ ⟨t',st.2.at λo e=>(sb.2 d j).trans e⟩ λb o a e=>sb.extBut b o (λh=>a (by simp[h])) e
 done:=λs Q E st c=>dEnd g st.1 st.2 (ax _) λh' x=>c h' s.toks λb o a e=>x b o (λh=>a (by simp[h])) e
 self:=λ_ _ _ _ st c=>wpAny_pyIter_keyiter st.1 c
theorem dSrc(lo:(d==sysModules)=false):KdlSrc prog w "dict" d d es.size (λi v=>∃(h:i<es.size),v=es[i].key) (λh=>DAt h d es ep) where
 type:=λ_ m=>m.ty
 there:=λ_ m=>⟨m.lt,m.lt⟩
 keep:=λ_ _ m b=>m.at λo e=>b d (.inl rfl) o e
 notList:=⋯
 notTuple:=⋯
 hint:=λ_ _ _ _ m a=>kdl_hint_dict m.ty a
 iter:=λ_ _ c m=>⟨_,_,(λ_ _ a=>Au lo m a),z8 c _ (b_ m.lt),⟨⟨_,cw _ rfl,rfl,rfl⟩,m.at λo e=>bg _ e⟩⟩
end
end L2
end
section
namespace L2
open PySem PySem.Spec PyProof.Rows PySem.W
def DKeys(H:Hp)(d:Addr)(ks vs:List V):Prop:=
 (∃kvs,H d=some (.dK kvs)/\ks=kvs.map (λp=>kV p.1)/\vs=kvs.map (·.2)) \/
 ∃kvs as,H d=some (.dT kvs)/\Paired (λ(p:List Key×V) a=>H a=some (.tup (p.1.map kV))) kvs as/\ks=as.map V.ref/\vs=kvs.map (·.2)
def DIs(H:Hp)(d:Addr):Prop:=(∃kvs,H d=some (.dK kvs))\/∃kvs,H d=some (.dT kvs)
theorem dview{d:Addr}(I:Inv X Nw Z H s)(hd:DIs H d) :
  (d==sysModules)=false/\∃ks vs es ep,DKeys H d ks vs/\ks.length<=sizeLine/\DAt s.heap d es ep/\Vals ks (es.toList.map (·.key))/\Vals vs (es.toList.map (·.val)):=by
 rcases hd with ⟨kvs,e⟩|⟨kvs,e⟩
 .obtain⟨z,lo,us,rel,o,es,ep,h1,h2,f,_,m,_⟩:=pP I.hok e;show⟨lo,_,_,es,ep,.inl ⟨kvs,e,rfl,rfl⟩,by rw[aE];show z,⟨o,h1,h2,f⟩,?_⟩;generalize es.toList=l at m;have go:∀{kvs:List (Key×V)}{us:List (Key×Value)}{l:List DictEntry},KV kvs us->Pairs (di X.prog X.w) l us->Vals (kvs.map λp=>kV p.1) (l.map (·.key))/\Vals (kvs.map (·.2)) (l.map (·.val)):=by
   intro kvs us l r;induction r generalizing l with
   |nil=>intro p;cases p;show⟨.nil,.nil⟩
   | @cons a b y A h1 h2 c=>
    intro p;cases p with
    |cons p1 p2 q=>
     obtain⟨u,v⟩:=c q;show⟨.cons ?_ u,.cons ?_ v⟩
     .dsimp only;rw[h1.1];rcases fI p1 with ⟨i,t,g,h⟩|⟨x,t,g,h⟩
      .rw[g,h];show⟨t,rfl⟩
      rw[g,h];show⟨t,rfl⟩
     dsimp only;rw[p2];show h1.2
  show go rel m
 obtain⟨z,lo,xs,rel,o,es,ep,h1,h2,f,j,hz⟩:=As I.hok e;clear hz;have go:∀{kvs:List (List Key×V)}{xs:List (List Key×Addr×Value)},KT H kvs xs->Paired (λ(p:List Key×V) a=>H a=some (.tup (p.1.map kV))) kvs (xs.map (·.2.1))/\Vals (kvs.map (·.2)) (xs.map (·.2.2)):=by
  intro kvs xs r;induction r with
  |nil=>show⟨.nil,.nil⟩
  |cons h1 h2 c=>show⟨.cons h1.2.1 c.1,.cons h1.2.2 c.2⟩
 obtain⟨g1,g2⟩:=go rel;have n:=nZ g1;show⟨lo,_,_,es,ep,.inr ⟨kvs,_,e,g1,rfl,rfl⟩,by rw[aE,<-n];show z,⟨o,h1,h2,f⟩,?_,?_⟩
 .rw[j,cU,cU];clear j rel g1 g2 n;induction xs with
  |nil=>show .nil
  |cons x r c=>show .cons rfl c
 rw[j,cU];show g2
abbrev t8(X:Cx):Cx:={X with A:=X.A.in1}
section
theorem Inv.toIn1(I:Inv X Nw Z H s):Inv (t8 X) Nw Z H s:=
 ⟨⟨I.ok.mod,I.ok.kind,I.ok.glob,I.ok.blt,I.ok.above,I.ok.inj,I.ok.has,I.ok.cab,I.ok.hd,I.ok.frames,I.ok.stk,I.ok.exf,I.ok.bs,I.ok.bsz,I.ok.noex,I.ok.exfs,I.ok.funs,I.ok.frf⟩,I.os,I.bare,I.base,I.loc,I.cell,I.free,I.freeC,I.pin,I.hok,I.len⟩
theorem Inv.ofIn1(I:Inv (t8 X) Nw Z H s):Inv X Nw Z H s:=
 ⟨⟨I.ok.mod,I.ok.kind,I.ok.glob,I.ok.blt,I.ok.above,I.ok.inj,I.ok.has,I.ok.cab,I.ok.hd,I.ok.frames,I.ok.stk,I.ok.exf,I.ok.bs,I.ok.bsz,I.ok.noex,I.ok.exfs,I.ok.funs,I.ok.frf⟩,I.os,I.bare,I.base,I.loc,I.cell,I.free,I.freeC,I.pin,I.hok,I.len⟩
end
section
def yo(K:Frag):V->List V->Hp->VK->Prop:=λx vs H Q=>∃(l:Addr)(ys:List V)(ks:List (List Int)),x=.ref l/\vs=[]/\H l=some (.lst ys)/\Ky K H ys ks/\ys.length<5000/\
 ∀(ix:List Nat),ix.Perm (List.range ys.length)->(ix.map λi=>ks.getD i []).Pairwise (λa b=>HT.lexLt b a=false)->Q .non (upd H l (.lst (ix.map λi=>ys.getD i .non)))
theorem BG:MtM X "list.sort" (yo []):=by
 intro Nw s Z H x vs v us Q I f g h;obtain⟨l,ys,ks,rfl,rfl,c,j,hz,q⟩:=h;cases f;cases g;obtain⟨z,m,n,r,hlen,e⟩:=I.lstM c;have D:=r.length;obtain⟨κ,p,ask⟩:=IC I j r;have old:∀b o,s.heap.get? b=some o->o.cls=.type "tuple"->(fR s.heap l m).get? b=some o:=λb o a w=>by
  show bg _ (bg _ ?_);rw[AA _ _ _ _ (λy=>by rw[y,e] at a;cases a;show absurd (show Value.type "list" = Value.type "tuple" from w) ⋯)];show a
 show iY L8 ⟨_,e,rfl⟩ L5 (wk (κ:=κ) (rk:=rkV s.heap) e (by rw[f_];lia) (λh2=>(ask _ old h2).1) (λh2=>(ask (E:=λ_ _=>False) _ old h2).2) λout p1 p2=>⟨_,rfl,?_⟩) (LZ _);obtain⟨ix,d,A,B⟩:=zQ r p p1 p2;obtain⟨C,he⟩:=sortedHeap_at (out:=out.toArray) e;show⟨.non,_,I.write (x:=l) (e:=l) (o:=.lst (ix.map λi=>ys.getD i .non)) (t':=s.toks) (by rw[c];show True.intro) (.inl rfl) (λb u a q=>(sortedHeap_old a (aN q)).trans q) ⟨_,he⟩ ⟨by rw[aE,d.length_eq,iS,f_];lia,out,C,B,by rw[he]⟩,rfl,q ix d A⟩
end
theorem Tups.mono{K:Frag}{ys:List V}{ks:List (List Int)}(h:Tups K H ys ks)(k:∀a xs,H a=some (.tup xs)->H' a=some (.tup xs))(kf:∀a o xs,H a=some (.frz o (.tup xs))->H' a=some (.frz o (.tup xs))):Tups K H' ys ks:=by
 show Paired.mapP h λy z ⟨b,e,q,n⟩=>⟨b,e,?_,n⟩;rcases q with (q|⟨o,q⟩)|q
 .exact .inl (.inl (k _ _ q))
 .exact .inl (.inr ⟨o,kf _ _ _ q⟩)
 show .inr q
theorem DV{K:Frag}{D:Addr}{ks:List V}{Q:V->Hp->Prop}(c:H D=none)
  (k:(∃ns:List Int,ks=ns.map V.int/\ns.length<5000/\∀(p:Addr)(ms:List Int),H p=none->ms.Perm ns->ms.Pairwise (·<=·)->Q (.ref p) (upd H p (.lst (ms.map V.int)))) \/
   ∃d:List (List Int),Tups K H ks d/\ks.length<5000/\∀(p:Addr)(ix:List Nat),H p=none->ix.Perm (List.range ks.length)->(ix.map λi=>d.getD i []).Pairwise (λa b=>HT.lexLt b a=false)->Q (.ref p) (upd H p (.lst (ix.map λi=>ks.getD i .non)))) :
  yo K (.ref D) [] (upd H D (.lst ks)) λ_ H'=>Q (.ref D) H':=by
 rcases k with ⟨ns,g,f,q⟩|⟨d,h,f,q⟩
 .subst g;show⟨D,_,_,rfl,rfl,bO,IB ns,by rw[aE];show f,λix h1 h2=>?_⟩;obtain⟨ms,j,l,m⟩:=IJ h1 h2;rw[rV,m];show q D ms c j l
 show⟨D,ks,d,rfl,rfl,bO,.inr (h.mono (λb xs e=>by rw[bh (ar e c)];show e) λb o xs e=>by rw[bh (ar e c)];show e),f,λix h1 h2=>?_⟩;rw[rV];show q D ix c h1 h2
section
def Ia(K:Frag):List V->Hp->VK->Prop:=λxs H Q=>∃a:Addr,xs=[.ref a]/\DIs H a/\∀ks vs,DKeys H a ks vs->
 (∃ns:List Int,ks=ns.map V.int/\ns.length<5000/\∀(p:Addr)(ms:List Int),H p=none->ms.Perm ns->ms.Pairwise (·<=·)->Q (.ref p) (upd H p (.lst (ms.map V.int)))) \/
 ∃c:List (List Int),Tups K H ks c/\ks.length<5000/\∀(p:Addr)(ix:List Nat),H p=none->ix.Perm (List.range ks.length)->(ix.map λi=>c.getD i []).Pairwise (λa b=>HT.lexLt b a=false)->Q (.ref p) (upd H p (.lst (ix.map λi=>ks.getD i .non)))
theorem Ci{α:Type}{l m:List α}(a:l.length=m.length)(h:∀(j:Nat)(v:α),l[j]?=some v->m[j]?=some v):l=m:=by
 show AJ λi=>?_;cases e:l[i]? with
 |some v=>rw[h i v e]
 |none=>
  have:l.length<=i:=K6.mp e;show (K6.mpr ()).symm
theorem om(l:X.calm=true):dI X (.builtin "sorted") (Ia []):=by
 intro Nw s Z H xs us Q I r h;obtain⟨a,rfl,hd,k⟩:=h;obtain⟨u,rfl,n⟩:=Vals.one r;cases n;obtain⟨lo,ks,vs,es,ep,p,hz,q,d,O⟩:=dview I hd;obtain⟨m,F⟩:=I.fr;have w:ks.length=es.size:=by have:=d.length;simpa using this
 show kdu_sorted (dSrc (es:=es) (ep:=ep) lo) (I.ok.hd l) F (xq (g:=X.base) (L:=X.env.locals)) q (by rw[<-w];show hz) λD h' tk b x f y A B=>?_;obtain⟨C,E⟩:=I.newsKept (t':=s.toks) (more:=[(D,listOf b.toArray 0)]) F x f;have c:=f (D,listOf b.toArray 0) (.head _);have i:s.heap.get? D=none:=by
  cases e:s.heap.get? D with
  |none=>rfl
  |some o=>show absurd (y (D,o) (vG c.2.1 c.2.2 e)) (fh _)
 have ev:b=es.toList.map (·.key):=by show Ci (by rw[A];simp) λj v e=>?_;obtain⟨K,rfl⟩:=B j v e;rw[cB];simp[K]
 have M:Inv X Nw Z (upd H D (.lst ks)) {s with heap:=h',toks:=tk}:=I.laidN (t':=tk) C E i (λH'=>⟨hz,b,0,by rw[ev];show d,c.1⟩) (λ_ _ z=>by cases z);have z:=BG (X:=t8 X) Nw _ Z _ (.ref D) [] (.ref D) [] (λ_ H'=>Q (.ref D) H') M.toIn1 rfl .nil (DV (I.hok.none_of i) (k ks vs p));show thn z λ_ s' ⟨_,H',J,_,N⟩=>⟨.ref D,H',J.ofIn1,rfl,N⟩
end
section
def D5(x:V)(vs:List V)(H:Hp)(Q:VK)(l:Addr)(xs:List V)(i:Nat)(y:V):Prop:=x=.ref l/\vs=[.int i,y]/\H l=some (.lst xs)/\i<=xs.length/\xs.length<sizeLine/\WrO H l (.lst (xs.take i++y::xs.drop i)) (Q .non)
def FG:V->List V->Hp->VK->Prop:=λx vs H Q=>Exists (Ex4 (D5 x vs H Q))
theorem Gk{i n:Nat}(hi:i<=n)(hz:n<sizeLine):¬(!Builtin.List.listFitsIndex (i:Int))=true:=by rw[f_] at hz;have f:=L6 (k:=(i:Int)) () ();intro y;rw[f] at y;cases y
theorem EE{prog:Program}{w:World}{A:Around}{E:Value->Shared->Prop}{Q:Value->Shared->Prop}{l:Addr}{a:Array Value}{n:Nat}{i:Int}{t:Tok}{b:Value}(c:s.TypeIs (Value.ref l) "list")(d:¬(!Builtin.List.listFitsIndex i)=true)(hsz:a.size<=sizeLine)
  (e:s.heap.get? l=some {cls:=.type "list",data:=.seq a n})
  (h:Q .none {s with heap:=s.heap.update l (Obj.mapSeq λxs=>(xs.extract 0 (if i<0 then (i+(xs.size:Int)).toNat else min i.toNat xs.size)).push b++xs.extract (if i<0 then (i+(xs.size:Int)).toNat else min i.toNat xs.size))}) :
  wpAny (model prog w) A (call (Value.builtin "list.insert") [Value.ref l,Value.int i t,b]) Q E s:=
 u9 LM c PySem.F.entry_list_insert (PySem.F.args_list_insert_3 _ _ _) (MA l a n i t b d hsz) ⟨e,h⟩
theorem CV:MtM X "list.insert" FG:=by
 intro Nw s Z H x vs v us Q I d f h;obtain⟨l,xs,i,y,rfl,rfl,b,hi,hz,q⟩:=h;cases d;obtain⟨u,c,rfl,g,j⟩:=f.two;obtain⟨t,rfl⟩:=g;obtain⟨z,a,n,r,m,e⟩:=I.lstM b;have o:=Gk hi hz;have hsz:a.toArray.size<=sizeLine:=by rw[bK,<-m];show z
 show EE (s:=s) ⟨_,e,rfl⟩ o hsz e ?_;show⟨.non,_,I.lset (its':=a.take i++c::a.drop i) b e ?_ (Vals.append (r.take i) (.cons j (r.drop i))) ?_,rfl,q.at⟩
 .have p:(if (i:Int)<0 then ((i:Int)+(a.toArray.size:Int)).toNat else min (i:Int).toNat a.toArray.size)=i:=by
   rw[Np (),js,bK];lia
  change ((a.toArray.extract 0 _).push c++a.toArray.extract _)=_;rw[p];have hd:(a.drop i).take (a.length-i)=a.drop i:=gQ (by rw[bG];show ax _);simp[List.extract_eq_drop_take,hd]
 rw[ao,aS,bu,bG];lia
def JX(K:Frag):List V->Hp->VK->Prop:=λxs H Q=>∃(a:Addr)(ns:List Int),xs=[.ref a]/\SqL K H a (ns.map V.int)/\ns≠[]/\∀m,m∈ns->(∀n∈ns,n<=m)->Q (.int m) H
theorem rT(r:Vals xs us){i:Nat}{v:Value}(e:us[i]?=some v):∃x,xs[i]?=some x/\aD x v:=by
 have c:=r.length;have hi:i<xs.length:=by have:=(aI.mp e).1;lia
 obtain⟨u,a,b⟩:=r.get (i:=i) (x:=xs[i]) (by simp[hi]);rw[e] at a;cases a;show⟨_,by simp[hi],b⟩
theorem zT{ns:List Int}(r:Vals (ns.map V.int) us)(i:Nat)(v:Value)(e:us.toArray[i]?=some v):∃t,v=.int (ns.getD i 0) t:=by obtain⟨x,a,b⟩:=rT r (i:=i) (v:=v) ‹e›;rw[cB] at a;obtain⟨n,c,rfl⟩:=eG.mp a;obtain⟨t,rfl⟩:=b;show⟨t,by rw[List.getD,c];rfl⟩
theorem qO(b:X.calm=true):dI X (.builtin "max") (JX []):=by intro Nw s Z H xs us Q I r h;obtain⟨a,ns,rfl,c,d,q⟩:=h;obtain⟨u,rfl,e⟩:=Vals.one r;cases e;obtain⟨o,f,p,hz⟩:=I.list c;obtain⟨m,F⟩:=I.fr;show max_list_N (I.ok.hd b) F (xq (g:=X.base) (L:=X.env.locals)) p.isList (ou f) (iR.mpr d) λh' M t tk i j h1 h2=>?_;obtain⟨l,n⟩:=I.newsKept (t':=tk) (more:=[]) F i j;show⟨.int M,H,I.keptN (t':=tk) l n,⟨t,rfl⟩,q M h1 h2⟩
theorem E6(ns:List Int)(b:ns≠[]):(ns.getD (argBest (λi j=>decide (ns.getD i 0<ns.getD j 0)) (ns.length-1)) 0)∈ns/\∀n∈ns,ns.getD (argBest (λi j=>decide (ns.getD i 0<ns.getD j 0)) (ns.length-1)) 0<=n:=by
 obtain⟨h1,h2⟩:=argBest_lt (λi=>ns.getD i 0) (ns.length-1);have f:=iR.mpr b;show⟨?_,λn c=>?_⟩
 .have a:argBest (λi j=>decide (ns.getD i 0<ns.getD j 0)) (ns.length-1)<ns.length:=();rw[List.getD,aP a];show ir a
 obtain⟨j,d,rfl⟩:=List.getElem_of_mem c;have:=h2 j ();have e:ns.getD j 0=ns[j]:=by simp[List.getD,d]
 rw[e] at this;show this
end
end L2
end
section
namespace L2
open PySem PySem.Spec PyProof.Rows
section
def FD:List V->Hp->VK->Prop:=λxs H Q=>∃j:Int,xs=[.int j]/\∀r,H r=none->Q (.ref r) (upd H r (.rng 0 j))
theorem Bs:dI X (.type "range") FD:=by intro Nw s Z H xs us Q I r h;obtain⟨j,rfl,q⟩:=h;obtain⟨u,rfl,t,rfl⟩:=Vals.one r;show call_range_1 ⟨.ref ↥s,upd H ↥s (.rng 0 j),I.laid (t':=s.toks+1+1) (λb o e=>bg _ e) (ax _) ⟨_,_,_,cw _ rfl⟩,rfl,q _ (I.hok.fresh (ax _))⟩
def D4:List V->Hp->VK->Prop:=λxs H Q=>∃(a:Addr)(n:Nat),xs=[.ref a]/\H a=some (.rng 0 (n:Int))/\n<=1000/\∀l,H l=none->Q (.ref l) (upd H l (.lst ((List.range n).map λ(i:Nat)=>V.int (i:Int))))
theorem vH(a:us.length=xs.length)(h:∀(j:Nat)(v:Value),us[j]?=some v->∃x,xs[j]?=some x/\aD x v):Vals xs us:=by
 induction xs generalizing us with
 |nil=>cases us with
  |nil=>show .nil
  |cons _ _=>simp at a
 |cons x xs b=>cases us with
  |nil=>simp at a
  |cons u us=>
   obtain⟨y,e,r⟩:=h 0 u rfl;cases e;show .cons r (b ‹a› λj v e=>‹h (j+1) v ‹e››)
theorem Bv(f:X.calm=true):dI X (.type "list") D4:=by
 intro Nw s Z H xs us Q I r h;obtain⟨a,n,rfl,ha,A,q⟩:=h;obtain⟨u,rfl,g⟩:=Vals.one r;cases g;obtain⟨l,m,o,e⟩:=(show bR X.prog X.w H s.heap a (.rng 0 (n:Int)) from I.hok a _ ha);have p:IsRange s.heap a 0 (n:Int) 1 l m o:=e;have hsz:Builtin.Range.rangeSize 0 (n:Int) 1=(n:Nat):=by rw[rangeSize_one];split<;>lia
 show call_list_range (I.ok.hd f) p (small_one () () () ()) hsz () λh' tk acc c kp x it=>?_;have b:↥s<=↥s:=ax _;show⟨.ref ↥s,upd H ↥s (.lst ((List.range n).map λ(i:Nat)=>V.int (i:Int))),I.laid (t':=tk) kp b ⟨by simp;rw[f_];lia,acc.toList,c,vH (by simp[it.1]) λj v d=>?_,by rw[x]⟩,rfl,q _ (I.hok.fresh b)⟩;obtain⟨tv,y⟩:=it.2 j v ‹d›;have z:j<n:=by have:=(aI.mp d).1;rw[gK,it.1] at this;show this
 show⟨.int (j:Int),by simp[z],tv,?_⟩;rw[y];simp
def rAll(K:W.Frag):List V->Hp->VK->Prop:=λxs H Q=>∃(a:Addr)(bs:List Bool),xs=[.ref a]/\SqL K H a (bs.map V.bl)/\Q (.bl (bs.all id)) H
theorem Bx(n:X.calm=true):dI X (.builtin "all") (rAll []):=by
 intro Nw s Z H xs us Q I r h;obtain⟨a,bs,rfl,w,q⟩:=h;obtain⟨u,rfl,y⟩:=Vals.one r;cases y;obtain⟨g,j,p,hz⟩:=I.list w;have l:=j.length;rw[aE] at l;have c:=p.isList;have B:a<↥s:=by obtain⟨_,e,_⟩:=c;show aN e
 show call_all_walk (qL c ?_);show⟨↥s,_,_,_,_,_,(λi=>bs.getD i false),rfl,LY (A:=X.A.in1) (I.ok.hd n) _ a (b_ B) g.toArray,⟨⟨_,cw _ rfl,rfl,rfl⟩,c.push _⟩,λi v s' K L C d=>?_,λh' tk D=>?_⟩
 .obtain⟨x,m,f⟩:=rT j (i:=i) (v:=v) ‹C›;rw[cB] at m;obtain⟨b,E,rfl⟩:=eG.mp m;cases f;have:bs.getD i false=b:=by rw[List.getD,E];rfl
  dsimp only at d;rw[this] at d;show gW d
 have e:(List.range g.toArray.size).all (λi=>bs.getD i false)=bs.all id:=by
  rw[bK,<-l];have f:bs=(List.range bs.length).map λi=>bs.getD i false:=by show nM ∅ λi h1 h2=>?_;simp[h1]
  conv=>rhs;rw[f,KR]
  rfl
 rw[e];show⟨.bl _,H,I.kept (t':=tk) λb o e=>D b o (λz=>by rw[aL.mp z] at e;show absurd (aN e) (fh _)) (bg _ e),rfl,q⟩
end
mutual
inductive Dt (K:W.Frag) (H:Hp):V->PyData->Prop
 |non:Dt K H .non .none
 |bl (b:Bool):Dt K H (.bl b) (.bool b)
 |int (i:Int):Dt K H (.int i) (.int i)
 |str (x:Str) (h:(PyData.str x).canLay0=true):Dt K H (.str x) (.str x)
 |lst {a:Addr} {xs:List V} {ds:List PyData} (h:SqL K H a xs) (r:Dts K H xs ds):Dt K H (.ref a) (.list ds)
 |tup {a:Addr} {xs:List V} {ds:List PyData} (h:SqT K H a xs) (r:Dts K H xs ds):Dt K H (.ref a) (.tuple ds)
inductive Dts (K:W.Frag) (H:Hp):List V->List PyData->Prop
 |nil:Dts K H [] []
 |cons {x:V} {d:PyData} {xs:List V} {ds:List PyData} (h:Dt K H x d) (r:Dts K H xs ds):Dts K H (x::xs) (d::ds)
end
section
theorem Dts.reads(I:Inv X Nw Z H s)(ds:List PyData)(xs:List V)(us:List Value)(h:Dts [] H xs ds)(r:Vals xs us):∃as,ReadsAll s.heap us ds as:=
 Dts.rec (motive_1:=λv d _=>∀u,aD v u->∃as,Reads s.heap u d as) (motive_2:=λxs ds _=>∀us,Vals xs us->∃as,ReadsAll s.heap us ds as)
  (λu r=>by cases r;show⟨_,.none⟩) (λb u r=>by cases r;show⟨_,.bool b⟩) (λi u r=>by obtain⟨t,rfl⟩:=r;show⟨_,.int i t⟩) (λx _ u r=>by obtain⟨t,rfl⟩:=r;show⟨_,.str x t⟩)
  (λh _ a u r=>by
   cases r;obtain⟨j,f,⟨o,n,e,c,_,g⟩,_⟩:=I.list h;obtain⟨as,q⟩:=a _ f;show⟨_,.list e c g ‹q›⟩)
  (λh _ a u r=>by
   cases r;obtain⟨j,f,⟨o,e,c,n,g⟩,_⟩:=I.tuple h;obtain⟨as,q⟩:=a _ f;show⟨_,.tuple e c g ‹q›⟩)
  (λu r=>by cases r;show⟨_,.nil⟩)
  (λ_ _ a l us r=>by
   cases r with
   |cons r rs=>
    obtain⟨as,q⟩:=a _ r;obtain⟨bs,p⟩:=l _ rs;show⟨_,.cons q p⟩) h us r
theorem Dt.reads(I:Inv X Nw Z H s)(d:PyData)(v:V)(u:Value)(h:Dt [] H v d)(r:aD v u):∃as,Reads s.heap u d as:=by
 obtain⟨as,q⟩:=Dts.reads I _ _ _ (.cons h .nil) (.cons r .nil);cases q with
 |cons q _=>show⟨_,q⟩
theorem Dts.can(ds:List PyData)(xs:List V)(h:Dts K H xs ds):PyData.canLayAll0 ds=true:=
 Dts.rec (motive_1:=λv d _=>d.canLay0=true) (motive_2:=λxs ds _=>PyData.canLayAll0 ds=true) rfl (λ_=>rfl) (λ_=>rfl) (λ_ h=>h) (λ_ _ a=>a) (λ_ _ a=>a) rfl
  (λ_ _ a b=>by rw[PyData.canLayAll0,a,b];rfl) h
theorem Dt.can(d:PyData)(v:V)(h:Dt K H v d):d.canLay0=true:=by
 have:=Dts.can _ _ (.cons h .nil)
 rwa [PyData.canLayAll0,PyData.canLayAll0,Bool.and_true] at this
mutual
def jo:PyData->Bool
 |.bool _=>false
 |.list ds=>fP ds
 |.tuple ds=>fP ds
 |.dict _=>false
 |_=>true
def fP:List PyData->Bool
 | []=>true
 |d::ds=>jo d&&fP ds
end
mutual
theorem sX:∀(d e:PyData),jo d=true->jo e=true->(PyData.eqv d e=true↔d=e)
 |.none,e,_,h=>by cases e<;>simp[PyData.eqv]
 |.bool b,_,h,_=>nomatch h
 |.int i,e,_,h=>by
  cases e with
  |bool _=>show nomatch h
  |_=>simp[PyData.eqv]
 |.str i,e,_,h=>by
  cases e with
  |bool _=>show nomatch h
  |_=>simp[PyData.eqv]
 |.list xs,e,h1,h=>by
  cases e with
  |list ys=>rw[PyData.eqv,qS xs ys h1 h];simp
  |_=>simp[PyData.eqv]
 |.tuple xs,e,h1,h=>by
  cases e with
  |tuple ys=>rw[PyData.eqv,qS xs ys h1 h];simp
  |_=>simp[PyData.eqv]
 |.dict _,_,h,_=>nomatch h
theorem qS:∀(ds es:List PyData),fP ds=true->fP es=true->(PyData.eqvAll ds es=true↔ds=es)
 | [],[],_,_=>by simp[PyData.eqvAll]
 | [],_::_,_,_=>by simp[PyData.eqvAll]
 |_::_,[],_,_=>by simp[PyData.eqvAll]
 |d::ds,e::es,h1,h2=>by
  have a:jo d=true/\fP ds=true:=by simpa [fP] using h1
  have b:jo e=true/\fP es=true:=by simpa [fP] using h2
  rw[PyData.eqvAll,uu,sX d e a.1 b.1,qS ds es a.2 b.2];simp
end
def J3(K:W.Frag)(neg:Bool)(x y:V)(H:Hp)(Q:VK)(d e:PyData):Prop:=Dt K H x d/\Dt K H y e/\d.depth<=60/\Q (.bl (if neg then !PyData.eqv d e else PyData.eqv d e)) H
def rEqD(K:W.Frag)(neg:Bool):R2:=λx y H Q=>Exists (Ex2 (J3 K neg x y H Q))
theorem min60{u a b:Nat}(h:u+64<cLine)(h':a<=60):u+min a b<cLine:=by have:min a b<=a:=Nat.min_le_left _ _;lia
theorem j8(a:X.A.units+64<cLine):OpR X (compareOp .Eq) (rEqD [] false):=by intro Nw s Z H x y v u Q I b c h;obtain⟨d,e,hd,he,hz,q⟩:=h;obtain⟨as,f⟩:=Dt.reads I d x v hd b;obtain⟨bs,g⟩:=Dt.reads I e y u he c;show M0 f g (Dt.can d x hd) (Dt.can e y he) (min60 a hz) ⟨.bl _,H,I,rfl,q⟩
theorem iG(a:X.A.units+64<cLine):OpR X (compareOp .NotEq) (rEqD [] true):=by intro Nw s Z H x y v u Q I b c h;obtain⟨d,e,hd,he,hz,q⟩:=h;obtain⟨as,f⟩:=Dt.reads I d x v hd b;obtain⟨bs,g⟩:=Dt.reads I e y u he c;show M3 f g (Dt.can d x hd) (Dt.can e y he) (min60 a hz) ⟨.bl _,H,I,rfl,q⟩
def J2(K:W.Frag)(neg:Bool)(x y:V)(H:Hp)(Q:VK)(d:PyData)(a:Addr)(xs:List V)(ds:List PyData):Prop:=Dt K H x d/\y=.ref a/\(SqL K H a xs\/SqT K H a xs)/\Dts K H xs ds/\d.depth<=60/\
 Q (.bl (if neg then !(ds.any λz=>PyData.eqv z d) else ds.any λz=>PyData.eqv z d)) H
def uj(K:W.Frag)(neg:Bool):R2:=λx y H Q=>Exists (Ex4 (J2 K neg x y H Q))
theorem min61{u a b:Nat}(h:u+64<cLine)(h':b<=60):u+1+min a b<cLine:=by have:min a b<=b:=Nat.min_le_right _ _;lia
theorem zL(f:X.A.units+64<cLine):OpR X (compareOp .In) (uj [] false):=by
 intro Nw s Z H x y v u Q I i j h;obtain⟨d,a,xs,ds,hd,rfl,b,c,hz,q⟩:=h;cases j;obtain⟨as,g⟩:=Dt.reads I d x v hd i;rcases b with b|b
 .obtain⟨bs,e⟩:=Dt.reads I (.list ds) (.ref a) _ (.lst b c) rfl;show M5 e g (Dts.can ds _ c) (Dt.can d x hd) (min61 f hz) ⟨.bl _,H,I,rfl,q⟩
 obtain⟨bs,e⟩:=Dt.reads I (.tuple ds) (.ref a) _ (.tup b c) rfl;show M6 e g (Dts.can ds _ c) (Dt.can d x hd) (min61 f hz) ⟨.bl _,H,I,rfl,q⟩
end
end L2
end
section
namespace L2
open PySem PySem.Spec PyProof.Rows
section
theorem Inv.turnLaid{h':Heap}{t':Nat}{a:Addr}{o:HO}{ch:List Addr}(I:Inv X Nw Z H s)(h:∀b∈ch,dM X Nw H b)(k:∀b o,b∉ch->s.heap.get? b=some o->h'.get? b=some o)
  (ha:s.heap.get? a=none) (new:∀H',bR X.prog X.w H' h' a o):Inv X Nw Z (upd H a o) {s with heap:=h',toks:=t'}:=by
 have f:H a=none:=I.hok.none_of ha;have i:∀b u,H b=some u->b∉ch:=λb u e z=>by
  have:=(h b z).1;rw[this] at e;cases e
 show I.step (g':=s.gens) (d':=s.drawn) (ch:=ch) (λb g=>?_) (λb o _ _ d e _=>k b o d e) (λb o _ _ d e _=>⟨o.slots,k b o d e⟩) (λb o _ e n=>?_) (λb o d e=>⟨o,k b o d e⟩) (λb xs e=>?_) (λb o u e=>?_) (λb ps e=>⟨#[],?_⟩) (λm hm=>?_) (λb u e=>?_) I.bare
 .obtain⟨_,j,_,l,p,x⟩:=h b g;show⟨l,j,p,x⟩
 .rw[bh (λz=>by rw[z,ha] at e;cases e)];show n
 .rw[bh (ar e f)];show e
 .rw[bh (ar e f)];show e
 .rw[bh (ar e f),e];simp
 .obtain⟨o,es,ep,y,r⟩:=hm;show⟨o,es,ep,k _ o (λz=>(h _ z).2.1 rfl) y,r⟩
 by_cases g:b=a
 .subst g;rw[bO] at e;cases e;show new _
 rw[bh g] at e;show (I.hok b u e).stay (λc v d q=>k c v ?_ q) (λc q=>by rw[bh (ar q f)];show q) λc xs q=>by rw[bh (ar q f)];show q
 rcases d with z|z
 .rw[z];show i b u e
 show i c _ z
end
def Ite(K:W.Frag)(a:Addr):It:=
 ⟨λi H=>∃xs x,SqL K H a xs/\xs[i]?=some x,
  λi H v H'=>∃p x,H p=none/\v=.ref p/\H'=upd H p (.tup [.int (i:Int),x])/\∀xs,SqL K H a xs->xs[i]?=some x,
  λi H=>∃xs,SqL K H a xs/\xs.length<=i⟩
theorem Cy{elts:List Expr}{O}{pos:Pos}(a it e:Addr)(C:e≠it) :
  Turn P w K (.Tuple elts O pos) (Ite [] a) [e,it] e (λi h=>(∃old,IsEnum h e it (i:Int) old)/\h.IsListIter it a i) where
 mem:=∅
 obj:=λi h st b g=>by
  obtain⟨⟨old,f⟩,o,Q,c,d⟩:=st;rcases ae.mp g with z|z
  .subst z;show⟨_,f,λv z=>by
    have R:Data.fields _=Data.cell v:=z;cases R⟩
  have z:b=it:=‹z›
  subst z;show⟨o,Q,λv z=>by rw[d] at z;cases z⟩
 keep:=λi h h' st k=>by
  obtain⟨⟨old,f⟩,j⟩:=st;show⟨⟨old,k e ∅ _ f⟩,j.at λo q=>k it ∅ o q⟩
 item:=by
  intro X n hw r D i Nw s Z H E I hf st y;subst n hw r;obtain⟨xs,x,m,A⟩:=y;obtain⟨⟨old,f⟩,j⟩:=st;obtain⟨S,B,p,hz⟩:=I.list m;obtain⟨u,T,U⟩:=B.get A;show wpAny_pyNext_enum_item f j p.isList (x:=u) ‹T› C λh1 Y ad ah a1 al=>?_;show⟨_,rfl,?_⟩;show Mk Y λh2 am l=>?_;replace l:Heap.SameBut e h1 h2:=l;have an:s.heap.get? ↥s=none:=uy (ax _);have L:e<↥s:=aN f;have ap:it<↥s:=by obtain⟨_,q,_⟩:=j;show aN q
  have hn:H ↥s=none:=I.hok.fresh (ax _);have M:h2.get? ↥s=some {cls:=.type "tuple",data:=.seq #[.int i s.toks,u]}:=(l.2 _ (fZ L)).trans ah;have I2:Inv X Nw Z (upd H ↥s (.tup [.int (i:Int),x])) {s with heap:=h2,toks:=s.toks+1}:=by
   show I.turnLaid (ch:=[e,it]) hf (λb o g q=>?_) an λH'=>?_
   .have N:b≠e:=λz=>g (by simp[z]);have a0:b≠it:=λz=>g (by simp[z]);show (l.2 b N).trans (al b o N a0 q)
   show⟨⟨by simp;rw[f_];lia,_,M,rfl⟩,[.int i s.toks,u],.cons ⟨_,rfl⟩ (.cons U .nil),⟨_,M,rfl,_,rfl⟩⟩
  show⟨.ref ↥s,_,I2,rfl,⟨↥s,x,hn,rfl,rfl,λys hy=>by rw[I.list_inj hy m];show A⟩,⟨⟨_,am⟩,?_⟩,λb g=>?_⟩
  .obtain⟨o,q1,q2⟩:=ad;show⟨o,(l.2 it (aG C)).trans q1,q2⟩
  have:b≠↥s:=by
   rcases ae.mp g with z|z
   .rw[z];show b_ L
   rw[(by simpa using z:b=it)];show b_ ap
  rw[bh this];show (hf b g).1
 done:=by intro X n hw r D i Nw s Z H E I hf st y;subst n hw r;obtain⟨xs,m,A⟩:=y;obtain⟨⟨old,f⟩,j⟩:=st;obtain⟨S,B,p,hz⟩:=I.list m;obtain⟨f0,f1,f2,f3,f4,f5⟩:=hf it ∅;have hl:=B.length;show wpAny_pyNext_enum_end (I.ok.hd D) f j p.isList (by simp;lia) λh' eb=>⟨rfl,I.turned (t':=s.toks) (λb o g q=>eb b o g q) f0 f1 f3 f4 f5⟩
 self:=λ_ _ _ _ _ st h=>by
  obtain⟨⟨old,f⟩,_⟩:=st;show qK f h
section
def IT(K:W.Frag)(R:It->Hp->Prop)(vs:List V)(H1:Hp)(a:Addr)(xs:List V):Prop:=vs=[.ref a]/\SqL K H1 a xs/\R (Ite K a) H1
def IS(K:W.Frag)(R:It->Hp->Prop):List V->Hp->Prop:=λvs H1=>Exists (Ex2 (IT K R vs H1))
def Ki(K:W.Frag)(ta:TA):TI:=λZ H R=>ta Z H (IS K R)
theorem sT{elts:List Expr}{f}{tpos:Pos}{a:Expr}{ta:TA}{p pos:Pos}(g:Gl X "enumerate")(hm:X.mg "enumerate" = none)(ha:PA X [a] ta)(i:starEach [a] X.env=[(false,eval a X.env)]:=by rfl) :
  PI X (.Tuple elts f tpos) (.Call (.Name "enumerate" p) [a] [] pos) (Ki [] ta):=by
 intro Nw s Z H R I h;show Call_ (fV I g hm A9 (iX (thn (ha pos Nw s Z H _ I h) λus s1 ⟨vs,H1,c,j,q1⟩=>?_) i rfl));obtain⟨a,xs,e,l,q⟩:=q1;subst e;obtain⟨u,rfl,m⟩:=Vals.one j;cases m;obtain⟨w,x,n,hz⟩:=c.list l;show call_enumerate_list n.isList λh' he hi hsz o=>?_;show qK he ?_;have r:Inv X Nw Z H1 {s1 with heap:=h'}:=c.kept (t':=s1.toks) o;show⟨_,[↥s1+1,↥s1],_,_,H1,rfl,r,Cy a _ _ (A2 _),⟨⟨.none,he⟩,hi⟩,λb v=>?_,q⟩;have d:↥s1<=b:=by
  rcases ae.mp v with z|z
  .rw[z];show qB _
  have:b=↥s1:=‹z›
  show uQ this.symm
 show c.fpOk d (c.hok.fresh d)
end
end L2
end
section
namespace L2
open PySem PySem.Spec PyProof.Rows PySem.W
section
variable {prog:Program}{d it v:Addr}{es:Array DictEntry}{ep i:Nat}
end
section
variable {d:Addr}{u:HO}
def IsDO:HO->Prop
 |.dK _=>True
 |.dT _=>True
 |_=>False
def DKV(H:Hp)(u:HO)(ks vs:List V):Prop:=
 (∃kvs,u=.dK kvs/\ks=kvs.map (λp=>kV p.1)/\vs=kvs.map (·.2)) \/
 ∃kvs as,u=.dT kvs/\Paired (λ(p:List Key×V) a=>H a=some (.tup (p.1.map kV))) kvs as/\ks=as.map V.ref/\vs=kvs.map (·.2)
theorem Jb(I:Inv X Nw Z H s)(hd:Rd H d u)(n:IsDO u) :
  (d==sysModules)=false/\∃ks vs es ep,DKV H u ks vs/\ks.length<=sizeLine/\DAt s.heap d es ep/\Vals ks (es.toList.map (·.key))/\Vals vs (es.toList.map (·.val)):=by
 cases u<;>first|show False.elim n|skip
 case dK kvs=>
  obtain⟨z,lo,us,rel,o,es,ep,h1,h2,e,_,j,_⟩:=gG I.hok hd;show⟨lo,_,_,es,ep,.inl ⟨kvs,rfl,rfl,rfl⟩,by rw[aE];show z,⟨o,h1,h2,e⟩,?_⟩;generalize es.toList=l at j;have go:∀{kvs:List (Key×V)}{us:List (Key×Value)}{l:List DictEntry},KV kvs us->Pairs (di X.prog X.w) l us->Vals (kvs.map λp=>kV p.1) (l.map (·.key))/\Vals (kvs.map (·.2)) (l.map (·.val)):=by
   intro kvs us l r;induction r generalizing l with
   |nil=>intro p;cases p;show⟨.nil,.nil⟩
   | @cons a b A B h1 h2 c=>
    intro p;cases p with
    |cons p1 p2 q=>
     obtain⟨v,y⟩:=c q;show⟨.cons ?_ v,.cons ?_ y⟩
     .dsimp only;rw[h1.1];rcases fI p1 with ⟨i,t,f,g⟩|⟨x,t,f,g⟩
      .rw[f,g];show⟨t,rfl⟩
      rw[f,g];show⟨t,rfl⟩
     dsimp only;rw[p2];show h1.2
  show go rel j
 case dT kvs=>
  obtain⟨z,lo,xs,rel,o,es,ep,h1,h2,e,h,hz⟩:=iM I.hok hd;clear hz;have go:∀{kvs:List (List Key×V)}{xs:List (List Key×Addr×Value)},KT H kvs xs->Paired (λ(p:List Key×V) a=>H a=some (.tup (p.1.map kV))) kvs (xs.map (·.2.1))/\Vals (kvs.map (·.2)) (xs.map (·.2.2)):=by
   intro kvs xs r;induction r with
   |nil=>show⟨.nil,.nil⟩
   |cons h1 h2 c=>show⟨.cons h1.2.1 c.1,.cons h1.2.2 c.2⟩
  obtain⟨g1,g2⟩:=go rel;have m:=nZ g1;show⟨lo,_,_,es,ep,.inr ⟨kvs,_,rfl,g1,rfl,rfl⟩,by rw[aE,<-m];show z,⟨o,h1,h2,e⟩,?_,?_⟩
  .rw[h,cU,cU];clear h rel g1 g2 m;induction xs with
   |nil=>show .nil
   |cons x r c=>show .cons rfl c
  rw[h,cU];show g2
end
end L2
end
section
namespace L2
open PySem PySem.Spec PyProof.Rows PySem.W
section
def JW:List V->Hp->VK->Prop:=λxs H Q=>∃(d:Addr)(kvs:List (Key×V))(ns:List Int),xs=[.ref d]/\Rd H d (.dK kvs)/\kvs.map (λp=>kV p.1)=ns.map V.int/\ns≠[]/\∀m,m∈ns->(∀n∈ns,m<=n)->Q (.int m) H
theorem IH(es:Array DictEntry){i:Nat}(hi:i<es.size):(es.toList.map (·.key)).toArray[i]?=some es[i].key:=by simp[hi]
theorem Bu(j:X.calm=true):dI X (.builtin "min") JW:=by
 intro Nw s Z H xs us Q I r h;obtain⟨d,kvs,ns,rfl,hd,l,f,q⟩:=h;obtain⟨u,rfl,m⟩:=Vals.one r;cases m;obtain⟨lo,ks,vs,es,ep,n,hz,a,rk,E⟩:=Jb I hd (u:=.dK kvs) trivial;have p:ks=ns.map V.int:=by
  rcases n with ⟨K,e,w,_⟩|⟨_,_,e,_⟩
  .cases e;rw[w,l]
  cases e
 subst p;have g:ns.length=es.size:=by have:=rk.length;simpa using this
 show call_min_walk (Au lo a ?_);show⟨↥s,_,_,_,_,_,_,rfl,z8 (A:=X.A.in1) (es:=es) (ep:=ep) (d:=d) (I.ok.hd j) _ (b_ a.lt),⟨⟨_,cw _ rfl,rfl,rfl⟩,a.at λo e=>bg _ e⟩,λb c=>?_,?_,CmpOf.ints_lt (λi=>ns.getD i 0) (λi v e=>?_),λv h' tk x y=>?_⟩
 .change b<(s.heap.push _).objs.size;rw[p_];rcases ae.mp c with rfl|c
  .exact jz _
  rw[aL.mp c];show uR a.lt
 .rw[<-g];show iR.mpr f
 .obtain⟨hi,rfl⟩:=e;show zT rk i _ (by simp[hi])
 obtain⟨hi,rfl⟩:=x;obtain⟨t,B⟩:=zT rk _ _ (IH es hi);obtain⟨C,D⟩:=E6 ns f;have e:es.size-1=ns.length-1:=by rw[g]
 show⟨.int _,H,I.kept (t':=tk) λb o e=>y b o (λz=>by rw[aL.mp z] at e;show absurd (aN e) (fh _)) (bg _ e),⟨t,B⟩,?_⟩;rw[e];show q _ C D
end
open PySem.SeqAt in
theorem Bq(l:Addr)(items:Array Value)(n:Nat)(f:Option Addr)(o:Array (Option Value))(x:Value)(e:Nat->Bool)(j:Nat)(C:j<items.size)(hit:e j=true)(p:∀m,m<j->e m=false) :
  Meets (Builtin.«tuple.index» ⟨[.ref l,x],[]⟩)
   (λA R s=>s.heap.get? l=some {cls:=.type "tuple",dict:=f,data:=.seq items n,slots:=o}/\(∀m (h:m<items.size),EqAt A.in1 s items[m] x (e m))/\R (.ok (.ret (.int j s.toks))) {s with toks:=s.toks+1}):=
 .of_wp λprog w A R s h=>by
  obtain⟨q,g,d,tk,os⟩:=s;obtain⟨r,he,h⟩:=h;unfold Builtin.«tuple.index»;simp only[Nn]
  wp_walk using MB r,wpAny_forIn_list _ (λrest b s'=>b.1=none/\s'=⟨q,g,d,tk,os⟩/\∃i,i<=j/\rest=List.range' i (items.size-i)) _
  case turn=>
   rintro y rest b s' ⟨D,rfl,i,u,a⟩;have v:items.size-i=(items.size-(i+1))+1:=();rw[v,List.range'_succ] at a;injection a with h1 h2;subst h1;have c:y<items.size:=();have B:items[y]?=some items[y]:=by simp[c]
   rw[B];show ag (he y c prog w _ _ ?_);by_cases z:y=j
   .subst z;rw[hit]
    wp_walk
    show⟨_,rfl,h⟩
   rw[p y ()]
   wp_walk
   show⟨rfl,rfl,y+1,(),h2⟩
  case fin=>
   rintro b s' ⟨_,_,i,u,a⟩;have:=congrArg List.length a;simp at this;lia
  case h=>
   show⟨rfl,rfl,0,aQ _,by simp[Std.Legacy.Range.size]⟩
section
def FH(K:Frag):V->List V->Hp->VK->Prop:=λx vs H Q=>∃(a:Addr)(xs:List V)(ds:List PyData)(y:V)(d:PyData)(j:Nat),x=.ref a/\vs=[y]/\SqT K H a xs/\Dts K H xs ds/\Dt K H y d/\d.depth<=60/\
 j<ds.length/\PyData.eqv (ds.getD j .none) d=true/\(∀m,m<j->PyData.eqv (ds.getD m .none) d=false)/\Q (.int (j:Int)) H
theorem CW(z:X.A.units+64<cLine):MtM X "tuple.index" (FH []):=by
 intro Nw s Z H x vs v us Q I B C h;obtain⟨a,xs,ds,y,d,j,rfl,rfl,D,f,hd,hz,Y,E,K,q⟩:=h;cases B;obtain⟨u,rfl,L⟩:=C.one;obtain⟨b,rs,p,hsz⟩:=I.tuple D;obtain⟨as,g⟩:=Dts.reads I ds xs b f rs;obtain⟨bs,M⟩:=Dt.reads I d y u hd L;have hl:b.length=ds.length:=MZ _ _ _ g;obtain⟨⟨cls,N,data,O⟩,i,l,n,o⟩:=id p;simp only at l o;subst l o;show u9 LP ⟨_,i,rfl⟩ PySem.F.entry_tuple_index (PySem.F.args_tuple_index_2 _ _) (Bq a b.toArray n N O u (λm=>PyData.eqv (ds.getD m .none) d) j (by simp;lia) E K) ⟨i,λm hm=>?_,?_⟩
 .have ad:m<ds.length:=by rw[bK] at hm;lia
  obtain⟨e,cs,P,R,hle⟩:∃e cs,PySem.Reads s.heap b.toArray[m] e cs/\e.canLay0=true/\e=ds.getD m .none:=by
   have go:∀(ds:List PyData)(b:List Value)(as:List Addr)(m:Nat)(h:m<b.length),ReadsAll s.heap b ds as->PyData.canLayAll0 ds=true->∃cs,PySem.Reads s.heap b[m] (ds.getD m .none) cs/\(ds.getD m .none).canLay0=true:=by
    intro ds;induction ds with
    |nil=>intro b as m h r _;cases r;simp at h
    |cons d ds S=>
     intro b as m h r c;have w:d.canLay0=true/\PyData.canLayAll0 ds=true:=by simpa [PyData.canLayAll0] using c
     cases r with
     |cons T U=>
      cases m with
      |zero=>show⟨_,T,w.1⟩
      |succ m=>show S _ _ m ‹h› U w.2
   obtain⟨cs,h1,h2⟩:=go ds b as m ‹hm› g (Dts.can ds _ f);show⟨_,cs,‹h1›,h2,rfl⟩
  rw[<-hle];show M4 e d X.A.in1 s _ _ _ _ P M R (Dt.can d y hd) ?_;change X.A.units+1+min _ _<cLine;show min61 z hz
 show⟨.int (j:Int),H,I.tok _,⟨_,rfl⟩,q⟩
end
end L2
end
section
namespace L2
open PySem PySem.Spec PyProof.Rows
section
def txt(l:List Nat):Str:=⟨l.toArray⟩
theorem rY(l:List Nat):(txt l).cps.toList=l:=by simp[txt]
theorem rW(l:List Nat):(txt l).length=l.length:=by simp[txt,Str.length]
theorem rX{a b:List Nat}(h:txt a=txt b):a=b:=by have:=congrArg (λz:Str=>z.cps.toList) h;simpa [txt] using this
def fW{α:Type}(xs:List α)(lo hi:Option Int):List α:=(xs.drop (HT.sIx xs.length 0 lo)).take (HT.sIx xs.length xs.length hi-HT.sIx xs.length 0 lo)
end
section
def Ig(K:W.Frag):V->List V->Hp->VK->Prop:=λx vs H Q=>∃(a:Addr)(ls:List (List Nat)),x=.str (txt [])/\vs=[.ref a]/\SqL K H a (ls.map λl=>V.str (txt l))/\ls.flatten.length<=sizeLine/\Q (.str (txt ls.flatten)) H
theorem wQ:∀{ls:List (List Nat)}{us:List Value},Vals (ls.map λl=>V.str (txt l)) us->∃l:List (Str×Tok),us=strValues l/\l.map (·.1)=ls.map txt
 | [],_,r=>by cases r;show⟨[],rfl,rfl⟩
 |l::ls,_,r=>by
  cases r with
  |cons a b=>
   obtain⟨t,rfl⟩:=a;obtain⟨p,rfl,e⟩:=wQ b;show⟨(txt l,t)::p,rfl,by simp[e]⟩
theorem yN:∀(ls:List (List Nat))(acc:List Nat),(ls.map txt).foldl (λ(acc:Array Nat) p=>acc++(txt []).cps++p.cps) acc.toArray=(acc++ls.flatten).toArray
 | [],acc=>∅
 |l::ls,acc=>by
  rw[az,qo];have e:acc.toArray++(txt []).cps++(txt l).cps=(acc++l).toArray:=by simp[txt]
  rw[e,yN ls (acc++l),kI,bI]
theorem Ge(ls:List (List Nat)):Builtin.Str.glued (txt []) (ls.map txt)=txt ls.flatten:=by
 unfold Builtin.Str.glued;cases ls with
 |nil=>rfl
 |cons l ls=>
  have:=yN ls l;rw[az,List.drop_one,List.tail_cons];change (⟨List.foldl _ (txt l).cps (ls.map txt)⟩:Str)=_;rw[show (txt l).cps=l.toArray from rfl,this];rfl
theorem HH(ls:List (List Nat))(n:Nat):(ls.map txt).toArray.foldl (λ(a:Nat)(z:Str)=>a+z.length+(txt []).length) n=n+ls.flatten.length:=by
 rw[<-Array.foldl_toList];change (ls.map txt).foldl _ n=_;induction ls generalizing n with
 |nil=>simp
 |cons l ls b=>
  rw[az,qo,b,rW,rW,kI,ao,iQ];lia
theorem xr:MtR X "str.join" (Ig []):=by
 intro Nw s Z H x vs v us Q I g i h;obtain⟨a,ls,rfl,rfl,j,hz,q⟩:=h;obtain⟨t,rfl⟩:=g;obtain⟨u,rfl,m⟩:=i.one;cases m;obtain⟨w,r,n,y⟩:=I.list j;obtain⟨l,rfl,c⟩:=wQ r;have d:=HH ls 0;rw[<-c] at d;show qG F.slot_str_join (typeIs_str s _ t) F.entry_str_join (F.args_str_join_2 _ _) (meets_str_join_list (txt []) t a l (by
  rw[d];unfold Builtin.Str.tooLong;show Nu ())) ⟨n.isList,?_⟩
 have b:=Ge ls;rw[<-c] at b;have key:∀tk k,EP X Nw Z Q (.str (txt ls.flatten) tk) {s with toks:=k}:=λtk k=>⟨.str _,H,I.tok _,⟨_,rfl⟩,q⟩;have f:(txt ls.flatten).length<=sizeLine:=by rw[rW];show hz
 match l,b with
 | [],b=>
  change _/\_;rw[b];show⟨f,key _ _⟩
 | [(p,o)],b=>
  have e:p=txt ls.flatten:=by rw[<-b];change p=(⟨p.cps⟩:Str);rfl
  rw[e];show key _ _
 |(p,o)::p'::z,b=>
  change _/\_;rw[b];show⟨f,key _ _⟩
end
end L2
end
section
namespace K51
open PySem L2
inductive Lt where
 |sg (c:Nat)|sp (j k:Nat)
 deriving DecidableEq
def pd(c:Nat):Bool:=c==67||c==82||c==76||c==69
def sign(c:Nat):Bool:=pd c||c==83
def Lt.ok:Lt->Prop
 |.sg c=>pd c=true
 |.sp _ _=>True
theorem B7{c:Nat}(h:pd c=true):sign c=true:=by unfold sign;rw[h];rfl
def asc(l:List Nat):Prop:=∀c∈l,c<128
theorem DW{c:Nat}(h:sign c=true):c<128:=by unfold sign pd at h;simp only[KJ,beq_iff_eq] at h;lia
end K51
end
section
namespace L2
open PySem PySem.Spec PyProof.Rows
def Itv(K:W.Frag)(a:Addr)(n:Nat):It:=
 ⟨λi H=>∃xs x,SqL K H a xs/\i<n/\xs[n-1-i]?=some x,λi H x H'=>H'=H/\∀xs,SqL K H a xs->xs[n-1-i]?=some x,λi _=>i=n⟩
theorem Du{tg:Expr}(a it:Addr)(n:Nat):Turn P w K tg (Itv [] a n) [it] it (λi h=>h.IsRevIter it a ((n:Int)-1-(i:Int))) where
 mem:=∅
 obj:=λi h st b e=>by
  have z:b=it:=‹e›
  subst z;obtain⟨o,q,c,d⟩:=st;show⟨o,q,λv y=>by rw[d] at y;cases y⟩
 keep:=λi h h' st k=>st.at λo q=>k it ∅ o q
 item:=by intro X g hw j L i Nw s Z H E I hf st l;subst g hw j;obtain⟨xs,x,M,hi,N⟩:=l;obtain⟨ad,O,p,hz⟩:=I.list M;obtain⟨u,Q,R⟩:=O.get N;obtain⟨m,r,S,A,B,C⟩:=hf it ∅;have T:(n:Int)-1-(i:Int)=((n-1-i:Nat):Int):=();have f:=st;rw[T] at f;show wpAny_pyNext_rev_item f p.isList (x:=u) ‹Q› λh' D sb=>?_;have U:Inv X Nw Z H {s with heap:=h'}:=I.turned (t':=s.toks) (λb o e q=>(sb.2 b e).trans q) m r A B C;have Y:((n-1-i:Nat):Int)-1=(n:Int)-1-((i+1:Nat):Int):=();rw[Y] at D;obtain⟨o,q,c,d⟩:=id D;show⟨u,rfl,pM (s:={s with heap:=h'}) q c d ⋯ ⟨x,H,U,R,⟨rfl,λys hy=>by rw[I.list_inj hy M];show N⟩,D,λb e=>(hf b e).1⟩⟩
 done:=by intro X g hw j L i Nw s Z H E I hf st l;subst g hw j;have hi:i=n:=l;obtain⟨m,r,S,A,B,C⟩:=hf it ∅;have f:=st;rw[show (n:Int)-1-(i:Int)=-1 by lia] at f;show wpAny_pyNext_rev_end (I.ok.hd L) f λh' eb=>⟨rfl,I.turned (t':=s.toks) (λb o e q=>eb b o e q) m r A B C⟩
 self:=λ_ _ _ _ _ st h=>qM st h
section
variable {tg:Expr}
theorem vE:bootBuiltins "reversed" = some (.type "reversed"):=⋯
def iRev(K:W.Frag)(ta:TA):TI:=λZ H R=>ta Z H λvs H1=>∃a xs,vs=[.ref a]/\SqL K H1 a xs/\R (Itv K a xs.length) H1
theorem Il{a:Expr}{ta:TA}{p pos:Pos}(f:Gl X "reversed")(hm:X.mg "reversed" = none)(ha:PA X [a] ta)(g:starEach [a] X.env=[(false,eval a X.env)]:=by rfl) :
  PI X tg (.Call (.Name "reversed" p) [a] [] pos) (iRev [] ta):=by
 intro Nw s Z H R I h;show Call_ (fV I f hm vE (iX (thn (ha pos Nw s Z H _ I h) λus s1 ⟨vs,H1,c,i,q1⟩=>?_) g rfl));obtain⟨a,xs,e,j,q⟩:=q1;subst e;obtain⟨u,rfl,l⟩:=Vals.one i;cases l;obtain⟨d,m,n,hz⟩:=c.list j;have v:=m.length;show L4 n.isList ?_;have new:(s1.heap.push (revObj a ((d.toArray.size:Int)-1))).IsRevIter ↥s1 a ((xs.length:Int)-1-((0:Nat):Int)):=by
  have e:(xs.length:Int)-1-((0:Nat):Int)=(d.toArray.size:Int)-1:=by rw[bK];lia
  rw[e];show⟨_,cw _ rfl,rfl,rfl⟩
 show qM (s:={s1 with heap:=s1.heap.push (revObj a ((d.toArray.size:Int)-1))}) new ?_;show⟨↥s1,[↥s1],_,_,H1,rfl,c.kept (t':=s1.toks) λb o e=>bg _ e,Du a _ xs.length,new,λb r=>?_,q⟩;have e:b=↥s1:=‹r›
 subst e;show c.fpOk (ax _) (c.hok.fresh (ax _))
end
theorem Gh{a:Addr}{g:TG}{tb:TS}{D:Ends}(Pv:Nat->St->Hp->Prop)(d:Pv 0 Z H)(f:∀i Z H,i<=xs.length->Pv i Z H->SqL K H a xs)
  (h:∀i x Z H,i<xs.length->xs[xs.length-1-i]?=some x->Pv i Z H->g x Z H λσ2 H2=>tb {D with nx:=Pv (i+1),ct:=Pv (i+1),bk:=D.nx} σ2 H2) (hd:∀Z H,Pv xs.length Z H->D.nx Z H) :
  ∃W:Nat->Nat->St->Hp->Prop,(∃m,W 0 m Z H)/\∀i m Z H,W i m Z H->
   ((Itv K a xs.length).stop i H/\D.nx Z H)\/((Itv K a xs.length).go i H/\∃N:St->Hp->Prop,(∀Z' H',N Z' H'->∃c,c<m/\W (i+1) c Z' H')/\∀x H',(Itv K a xs.length).yld i H x H'->g x Z H' λσ2 H2=>tb {D with nx:=N,ct:=N,bk:=D.nx} σ2 H2):=by
 show⟨λi m Z H=>m=xs.length-i/\i<=xs.length/\Pv i Z H,⟨xs.length,∅,aQ _,d⟩,?_⟩;rintro i m Z H ⟨rfl,hi,p⟩;have q:=f i Z H hi p;by_cases b:i<xs.length
 .refine .inr ⟨⟨xs,xs[xs.length-1-i]'(),q,b,aP ()⟩,Pv (i+1),λZ' H' p'=>⟨xs.length-(i+1),(),rfl,b,p'⟩,λx H' y=>?_⟩;obtain⟨e,y⟩:=y;subst e;show h i x Z H' b (y xs q) p
 have e:i=xs.length:=();subst e;show .inl ⟨rfl,hd Z H p⟩
end L2
end
section
namespace L2
open PySem PySem.Spec PyProof.Rows PySem.W
section
variable {prog:Program}{x D:Addr}{ox:Obj}
end
section
theorem Dl{c:String}:dI X (.builtin "isinstance") (λxs H Q=>∃(x:V)(ty:Value)(b:Bool),xs=[x,.ty c]/\eY X.K H x ty/\W.kitOne X.K ty (.type c)=some b/\Q (.bl b) H):=by intro Nw s Z H xs us Q I r h;obtain⟨x,ty,b,rfl,a,e,q⟩:=h;obtain⟨u,d,rfl,f,g⟩:=vals2 r;cases (show d=Value.type c from g);show C3 I f a e λtk=>⟨.bl b,H,I.tok _,rfl,q⟩
end
end L2
end
section
namespace L2
open PySem PySem.Spec PyProof.Rows
section
variable {e st:Expr}{te ts:TE}{pos p2:Pos}
def Jo(K:W.Frag)(te ts:TE):TE:=λZ H Q=>te Z H λx H1=>ts Z H1 λz H2=>z=.int (-1)/\∃(a:Addr)(xs:List V),x=.ref a/\SqL K H2 a xs/\∀p,H2 p=none->Q (.ref p) (upd H2 p (.lst xs.reverse))
theorem Dq(r:Vals xs us):Vals xs.reverse us.reverse:=by
 induction r with
 |nil=>show .nil
 |cons h t a=>
  rw[fH,fH];show a.append (.cons h .nil)
theorem FN(he:PE X e te)(f:PE X st ts):PE X (.Subscript e (.Slice none none (some st) p2) pos) (Jo [] te ts):=by intro Nw s Z H Q I h;show u_ (thn (he Nw s Z H _ I h) λv s1 ⟨x,H1,g,i,q1⟩=>?_);show wpAny_Slice ?_;rw[Bb];show aB (aB ?_);rw[evalPart_some];show thn (f Nw s1 Z H1 _ g q1) λu s2 ⟨z,H2,j,l,m⟩=>?_;obtain⟨rfl,a,xs,rfl,n,q⟩:=m;cases i;obtain⟨t,rfl⟩:=l;have c:Inv X Nw Z H2 {s2 with heap:=s2.heap.push {cls:=.type "slice",data:=.fields #[.none,.none,.int (-1) t]}}:=j.kept (t':=s2.toks) λb p q=>bg _ q;obtain⟨y,r,d,hz⟩:=c.list n;have hlen:=r.length;change wpAny ⇑X X.A (subscriptTail e (.Slice none none (some st) p2) (.ref a) (.ref ↥s2)) (EP X Nw Z Q) X.xe {s2 with heap:=s2.heap.push {cls:=.type "slice",data:=.fields #[.none,.none,.int (-1) t]}};show tail_any (ops:=[.ref a,.ref ↥s2]) d.isList.typeIs Be.lookup ?_ (by with_unfolding_all rfl);show Mh d.isList (KM ..) .none .none (.int (-1) t) ⋯ ?_ (by rw[bK]<;>lia);rw[W.krv_pick];show⟨.ref _,_,c.laid (t':=s2.toks) (o:=.lst xs.reverse) (λb p q=>bg _ q) (ax _) ?_,rfl,q _ (c.hok.fresh (ax _))⟩;show⟨by rw[AO];show hz,_,0,Dq r,cw _ rfl⟩
end
end L2
end
section
namespace L2
open PySem PySem.Spec PyProof.Rows
abbrev EnO(h:Heap)(e it:Addr)(i:Int)(a b c:Value):Prop:=
 h.get? e=some {cls:=.type "enumerate",dict:=none,data:=.fields #[a,b,.ref it,rawInt i,.none,c],slots:=#[]}
section
variable {prog:Program}{e it a:Addr}{fp:List Addr}{n i:Nat}{Pv:Nat->Value->Prop}{St:Nat->Heap->Prop}
theorem I_{f:Bool}{p:Value}{C:Obj}{Q:Option Value->Shared->Prop}(D:Draws prog w A.in1 it fp n Pv St)(he:EnO s.heap e it i (rawInt a) (.bool f) p)(ha:s.heap.get? a=some C)(Y:a≠e)(Z:a≠it)
  (ad:St i s.heap) (ah:i<n) (al:e≠it) (R:e∉fp)
  (hQ:∀(x:Value)(h':Heap)(tk:Nat),Pv i x->EnO h' e it ((i:Int)+1) (rawInt a) (.bool true) p->St (i+1) h'->h'.get? ↥s=some {cls:=.type "tuple",data:=.seq #[.int i tk,x]}->
   h'.objs.size=↥s+1->(∀b o,b≠e->b≠it->s.heap.get? b=some o->h'.get? b=some o)->Q (some (.ref ↥s)) {s with heap:=h',toks:=tk+1}) :
  wpAny (model prog w) A (pyNext (.ref e)) Q E s:=by
 obtain⟨h,g,d,am,os⟩:=s;have S:Shared.TypeIs ⟨h,g,d,am,os⟩ (.ref e) "enumerate":=⟨_,he,rfl⟩;unfold pyNext;show ag (qJ (oh (name:=Str.ofString "__next__") S uZ (iY uZ S LF ?_ (LA _))));change wpAny _ _ (field (.ref e) 2 >>= _) _ _ _;show ag (iZ he rfl (x:=.ref it) rfl (ag (D.item i _ _ _ ah ad λx h1 tk an ap r=>?_)));replace r:Heap.SameBut it h h1:=r;have H:EnO h1 e it i (rawInt a) (.bool f) p:=(r.2 e al).trans he;change wpAny _ _ (field (.ref e) 3 >>= _) _ _ ⟨h1,g,d,tk,os⟩;show ag (iZ H rfl (x:=rawInt i) rfl ?_);change wpAny _ _ (field (.ref e) 4 >>= _) _ _ ⟨h1,g,d,tk,os⟩;show ag (iZ H rfl (x:=.none) rfl ?_);change wpAny _ _ (mkInt i >>= _) _ _ ⟨h1,g,d,tk,os⟩;show ag (wpAny_mkInt ?_);change wpAny _ _ (setField (.ref e) 3 (rawInt ((i:Int)+1)) >>= _) _ _ ⟨h1,g,d,tk+1,os⟩;show ag (Bn H ∅ λh2 I u=>?_);replace u:Heap.SameBut e h1 h2:=u;replace I:EnO h2 e it ((i:Int)+1) (rawInt a) (.bool f) p:=I;change wpAny _ _ (setField (.ref e) 4 .none >>= _) _ _ ⟨h2,g,d,tk+1,os⟩;show ag (Bn I ∅ λc K v=>?_);replace v:Heap.SameBut e h2 c:=v;replace K:EnO c e it ((i:Int)+1) (rawInt a) (.bool f) p:=K;change wpAny _ _ (newTuple [.int i tk,x] >>= _) _ _ ⟨c,g,d,tk+1,os⟩;show ag (Ml ?_);have L:c.objs.size=h.objs.size:=by rw[v.1,u.1,r.1]
 have y:EnO (c.push {cls:=.type "tuple",data:=.seq #[.int i tk,x]}) e it ((i:Int)+1) (rawInt a) (.bool f) p:=bg _ K;have M:∀b o,b≠e->b≠it->h.get? b=some o->(c.push {cls:=.type "tuple",data:=.seq #[.int i tk,x]}).get? b=some o:=λb o l N q=>bg _ (v.extBut b o l (u.extBut b o l (r.extBut b o N q)));have T:(c.push {cls:=.type "tuple",data:=.seq #[.int i tk,x]}).get? h.objs.size=some {cls:=.type "tuple",data:=.seq #[.int i tk,x]}:=by rw[<-L];show cw _ rfl
 have U:(c.push {cls:=.type "tuple",data:=.seq #[.int i tk,x]}).objs.size=h.objs.size+1:=by rw[p_,L]
 have X:St (i+1) (c.push {cls:=.type "tuple",data:=.seq #[.int i tk,x]}):=D.frame _ _ _ ap λb O o q=>by
  have l:b≠e:=λz=>R (z ▸ O);show bg _ (v.extBut b o l (u.extBut b o l q))
 change wpAny _ _ (Builtin.SmallTypes.ownedTupleIsFree (.ref e) >>= _) _ _ ⟨_,g,d,tk+1,os⟩;rw[L];generalize c.push {cls:=.type "tuple",data:=.seq #[.int i tk,x]}=B at y M T U X;have a0:B.get? a=some C:=M a C Y Z ha;have a1:e<h.objs.size:=aN he;have fin:∀j:Heap,EnO j e it ((i:Int)+1) (rawInt a) (.bool true) p->Heap.SameBut e B j->Q (some (.ref h.objs.size)) ⟨j,g,d,tk+1,os⟩:=λj P m=>
  hQ x j tk an P (D.frame _ _ _ X λb O o q=>m.extBut b o (λz=>R (z ▸ O)) q) (m.extBut _ _ (fZ a1) T) (by change j.objs.size=h.objs.size+1;rw[m.1,U]) λb o l N q=>m.extBut b o l (M b o l N q)
 show ag ?_;unfold Builtin.SmallTypes.ownedTupleIsFree;show ag (iZ y rfl (x:=rawInt a) rfl ?_);change wpAny _ _ (loadIfAlive ((a:Int).toNat) >>= _) _ _ _;rw[js];show ag (W.kdx_alive a0 ?_);simp only[Option.isNone_some,iO,if_false];show ag (iZ y rfl (x:=.bool f) rfl ?_);cases f with
 |true=>
  rw[Np (show ¬((Value.bool true != Value.bool true)=true) from bX)];show aB ?_;simp only[iO,if_false];show aB ⟨_,rfl,aB (fin B y (KN _ _))⟩
 |false=>
  rw[Nq (show (Value.bool false != Value.bool true)=true from rfl)];show ag (Bn y ∅ λj P m=>aB ?_);replace m:Heap.SameBut e B j:=m;simp only[iO,if_false];show aB ⟨_,rfl,aB (fin j P m)⟩
theorem zX{c d f:Value}{j:Int}{Q:Option Value->Shared->Prop}(D:Draws prog w A.in1 it fp n Pv St)(he:EnO s.heap e it j c d f)(g:St n s.heap)
  (h:∀h',Heap.ExtBut it s.heap h'->Q none {s with heap:=h'}):wpAny (model prog w) A (pyNext (.ref e)) Q E s:=by
 have a:s.TypeIs (.ref e) "enumerate":=⟨_,he,rfl⟩;unfold pyNext;show ag (qJ (oh (name:=Str.ofString "__next__") a uZ (iY uZ a LF ?_ (LA _))));change wpAny _ _ (field (.ref e) 2 >>= _) _ _ _;show ag (iZ he rfl (x:=.ref it) rfl (ag (D.done _ _ _ g λh' x i ⟨o,l,m⟩=>?_)));show ag (Mi (T:="StopIteration") (b:=true) ⟨o,l,m⟩ L7 (aB (h _ i)))
end
theorem C_:typeLookup (.type "enumerate") "__len__" = pure none:=by rw[L_,L1];kernel_rfl
theorem Cp:typeLookup (.type "enumerate") "__length_hint__" = pure none:=by rw[L_,L1];kernel_rfl
def gJ(h:Heap)(e it S:Addr)(i:Nat):Prop:=∃b,EnO h e it i .none (.bool false) b\/∃(a:Addr)(f:Bool)(c:Obj),EnO h e it i (rawInt a) (.bool f) b/\h.get? a=some c/\a≠e/\a≠it/\a≠S
theorem gJ.keep{h h':Heap}{e it S:Addr}{i:Nat}(x:gJ h e it S i)(c:∀b o,b≠S->h.get? b=some o->h'.get? b=some o)(d:S≠e):gJ h' e it S i:=by
 obtain⟨g,x|⟨a,f,l,x,ha,h1,h2,j⟩⟩:=x
 .exact⟨g,.inl (c e _ (aG d) x)⟩
 show⟨g,.inr ⟨a,f,l,c e _ (aG d) x,c a _ j ha,h1,h2,j⟩⟩
theorem gJ.type{e it S:Addr}{i:Nat}(x:gJ s.heap e it S i):s.TypeIs (.ref e) "enumerate":=by
 obtain⟨b,x|⟨a,f,c,x,_⟩⟩:=x
 .exact⟨_,x,rfl⟩
 show⟨_,x,rfl⟩
section
variable {prog:Program}{R:Result->Shared->Prop}{e it S base:Addr}{n:Nat}{Pv:Nat->Value->Prop}{St:Nat->Heap->Prop}
theorem Gp{E:Value->Shared->Prop}{i:Nat}{Q:Option Value->Shared->Prop}(D:Draws prog w A.in1 it [it] n Pv St)(u:gJ s.heap e it S i)(st:St i s.heap)(m:i<n)(g:e≠it)(B:S<↥s)
  (p:∀(x:Value)(h':Heap)(tk:Nat),Pv i x->gJ h' e it S (i+1)->St (i+1) h'->h'.get? ↥s=some {cls:=.type "tuple",data:=.seq #[.int i tk,x]}->
   h'.objs.size=↥s+1->(∀b o,b≠e->b≠it->s.heap.get? b=some o->h'.get? b=some o)->Q (some (.ref ↥s)) {s with heap:=h',toks:=tk+1}) :
  wpAny (model prog w) A (pyNext (.ref e)) Q E s:=by
 have q:e∉[it]:=λz=>g (aL.mp z);obtain⟨C,x|⟨a,f,r,x,ha,h1,h2,H⟩⟩:=u
 .have I:e<↥s:=aN x;have K:it<↥s:=by obtain⟨_,y⟩:=D.live _ _ st;show aN y
  show Mo D x st m g q λv h' tk h j l c hz d=>p v h' tk h ⟨v,.inr ⟨_,false,_,j,c,fZ I,fZ K,fZ B⟩⟩ l c hz d
 show I_ D x ha h1 h2 st m g q λv h' tk h j l c hz d=>p v h' tk h ⟨C,.inr ⟨a,true,r,j,d a r h1 h2 ha,h1,h2,H⟩⟩ l c hz d
theorem Gq{i:Nat}{Q:Option Value->Shared->Prop}(D:Draws prog w A.in1 it [it] n Pv St)(c:gJ s.heap e it S i)(st:St n s.heap)
  (b:∀h',Heap.ExtBut it s.heap h'->Q none {s with heap:=h'}):wpAny (model prog w) A (pyNext (.ref e)) Q E s:=by
 obtain⟨d,x|⟨a,f,g,x,ha,h1,h2,h⟩⟩:=c
 .exact zX D x st b
 show zX D x st b
def m_(Pv:Nat->Value->Prop)(h:Heap)(base j:Nat):Prop:=∃(t:Nat)(v:Value),Pv j v/\h.get? (base+j)=some {cls:=.type "tuple",data:=.seq #[.int j t,v]}
theorem Gr(D:Draws prog w A.in1.in1 it [it] n Pv St)(P:e≠it)(H:S≠e)(r:S≠it)(Q:S<base)(T:e<base)(U:it<base)(hn:n<=sizeLine)(res:Value){h1:Heap}
  (X:∀h' tk acc c,(∀b o,b≠S->b≠e->b≠it->h1.get? b=some o->h'.get? b=some o)->h'.get? S=some {cls:=.type "list",dict:=none,data:=.seq acc c,slots:=#[]}->
   acc.toList=(List.range n).map (λj=>Value.ref (base+j))->(∀j,j<n->m_ Pv h' base j)->R (.ok (.ret res)) {s with heap:=h',toks:=tk}) :
  ∀(k i:Nat)(h:Heap)(tk c:Nat)(acc:Array Value),n-i=k->i<=n->gJ h e it S i->St i h->(∀b o,b≠S->b≠e->b≠it->h1.get? b=some o->h.get? b=some o)->
   h.get? S=some {cls:=.type "list",dict:=none,data:=.seq acc c,slots:=#[]}->acc.toList=(List.range i).map (λj=>Value.ref (base+j))->(∀j,j<i->m_ Pv h base j)->h.objs.size=base+i->
   codeAny (model prog w) A (.builtin "list.extend.loop" ⟨[.ref S,.ref e,res],[]⟩) R {s with heap:=h,toks:=tk}:=by
 have I:∀j:Nat,base+j≠S:=λj=>fZ (cp Q (gR _ _));have Y:∀j:Nat,base+j≠e:=λj=>fZ (cp T (gR _ _));have K:∀j:Nat,base+j≠it:=λj=>fZ (cp U (gR _ _));intro k;induction k with
 |zero=>
  intro i h tk c acc Z hi u st y d f B hsz;have ad:i=n:=();subst ad;show oe LG ?_;rw[nF uY _];change wpAny _ A.in1 (pyNext (.ref e) >>= _) _ _ _;show ag (Gq (s:={s with heap:=h,toks:=tk}) (A:=A.in1) D u st λh' he=>aB (X h' tk acc c (λb o g l a q=>he b o a (y b o g l a q)) (he S _ r d) f λj L=>?_));obtain⟨t,v,C,m⟩:=B j L;show⟨t,v,C,he _ _ (K j) m⟩
 |succ k ih=>
  intro i h tk c acc Z hi u st y d f B hsz;have M:i<n:=();have hlen:acc.size=i:=by rw[<-gK,f,aE,iS]
  show oe LG ?_;rw[nF uY _];change wpAny _ A.in1 (pyNext (.ref e) >>= _) _ _ _;show ag (Gp (s:={s with heap:=h,toks:=tk}) (A:=A.in1) D u st M P (aN d) λx h' N C ah al m hz p=>?_);dsimp only at m hz p |-;have O:=p S _ H r d;have up:∀b o,b≠S->h'.get? b=some o->(h'.update S (Obj.mapSeq (·.push (Value.ref h.objs.size)))).get? b=some o:=λb o E q=>(nJ _ _ (aG E)).trans q;change wpAny _ A.in1 (updateSeq S (·.push (Value.ref h.objs.size)) >>= _) _ _ _;show ag ?_;show vz O rfl (aB ⟨og uY _,ih (i+1) _ (N + 1) _ (acc.push (Value.ref h.objs.size)) () M (ah.keep up H) (D.frame _ _ _ al λb E o q=>up b o (λz=>r (z ▸ aL.mp E)) q)
   (λb o g l a q=>up b o g (p b o l a (y b o g l a q))) (kG _ O rfl) ?_ ?_ ?_⟩) (by rw[hlen];lia) (by change (acc.push (Value.ref h.objs.size)).size<=sizeLine+1;rw[Array.size_push,hlen];lia)
  .rw[gM,f,AW,aX,hsz];rfl
  .intro j L;by_cases am:j<i
   .obtain⟨t,v,an,ap⟩:=B j am;show⟨t,v,an,up _ _ (I j) (p _ _ (Y j) (K j) ap)⟩
   have ej:j=i:=();subst ej;show⟨N,x,C,up _ _ (I j) (by rw[<-hsz];show m)⟩
  change (h'.update S _).objs.size=base+(i+1);rw[qa,hz,hsz];lia
end
end L2
end
section
namespace L2
open PySem PySem.Spec PyProof.Rows
section
variable {prog:Program}{R:Result->Shared->Prop}{e it S:Addr}{n:Nat}{Pv:Nat->Value->Prop}{St:Nat->Heap->Prop}
theorem Da(D:Draws prog w A.in1.in1 it [it] n Pv St)(p:e≠it)(g:S≠e)(i:S≠it)(r:n<=sizeLine)(res:Value)(u:Nat)(he:EnO s.heap e it ((0:Nat):Int) .none (.bool false) .none)(st:St 0 s.heap)
  (h:s.heap.get? S=some {cls:=.type "list",data:=.seq #[] u})
  (v:∀h' tk acc c,(∀b o,b≠S->b≠e->b≠it->s.heap.get? b=some o->h'.get? b=some o)->h'.get? S=some {cls:=.type "list",dict:=none,data:=.seq acc c,slots:=#[]}->
   acc.toList=(List.range n).map (λj=>Value.ref (↥s+j))->(∀j,j<n->m_ Pv h' ↥s j)->R (.ok (.ret res)) {s with heap:=h',toks:=tk}) :
  wpAny (model prog w) A.in1 (Builtin.List.listExtendWith (.ref S) (.ref e) res)
   (λfin s'=>match fin with | .done f=>R (.ok f) s' | .again l=>l.quiet=true/\codeAny (model prog w) A l R s') (λe s'=>R (.error e) s') s:=by
 have x:S<↥s:=aN h;have a:gJ s.heap e it S 0:=⟨.none,.inl he⟩;have B:e<↥s:=aN he;have C:it<↥s:=by obtain⟨_,y⟩:=D.live _ _ st;show aN y
 unfold Builtin.List.listExtendWith;show ag (vy a.type ?_);have h1:Builtin.List.listSameRef (.ref S) (.ref e)=false:=by simp[Builtin.List.listSameRef,g]
 have h2:(Value.type "enumerate"==Value.type "list")=false:=⋯;have E:(Value.type "enumerate"==Value.type "tuple")=false:=⋯;simp only[h1,h2,E,Az,iO,if_false];show ag (qK he ?_);show ag (fj ?_);unfold Builtin.List.listLengthHint;show ag (vn a.type C_ ?_);change wpAny _ A.in1 (specialOf (Value.ref e) (Str.ofString "__length_hint__") >>= _) _ _ _;show ag (vn a.type Cp (aB ?_));change wpAny _ A.in1 (rule "list.extend.makes-room" >>= λ_=>Builtin.List.listTouch (.ref S) >>= λ_=>again (.builtin "list.extend.loop" ⟨[.ref S,.ref e,res],[]⟩)) _ _ _;show ag (vj (ag ?_));change wpAny _ A.in1 (updateSeq S (·.push .none) >>= λ_=>updateSeq S (·.pop)) _ _ _;show ag (vz h rfl ?_);have m:=kG (Obj.mapSeq (·.push Value.none)) h rfl;show vz (hz:=by seq_fits) m rfl ?_;have H:=kG (Obj.mapSeq (·.pop)) m rfl;have oth:∀b o,b≠S->s.heap.get? b=some o->((s.heap.update S (Obj.mapSeq (·.push Value.none))).update S (Obj.mapSeq (·.pop))).get? b=some o:=
  λb o d q=>(nJ _ _ (aG d)).trans ((nJ _ _ (aG d)).trans q)
 show aB ⟨og uY _,Gr (s:=s) (h1:=s.heap) D p g i x B C r res v n 0 _ s.toks _ _ rfl (aQ _) (a.keep oth g) (D.frame _ _ _ st λb d o q=>oth b o (λz=>i (z ▸ aL.mp d)) q)
  (λb o I _ _ q=>oth b o I q) H rfl (λj K=>absurd K (A0 j)) ?_⟩
 rw[qa,qa];rfl
theorem Gu(D:Draws prog w A.in1.in1 it [it] n Pv St)(hei:e≠it)(hSe:S≠e)(hSi:S≠it)(hn:n<=sizeLine)(he:EnO s.heap e it ((0:Nat):Int) .none (.bool false) .none)(st:St 0 s.heap)
  (hS:s.heap.get? S=some {cls:=.type "list",data:=.seq #[]})
  (hR:∀h' tk acc c,(∀b o,b≠S->b≠e->b≠it->s.heap.get? b=some o->h'.get? b=some o)->h'.get? S=some {cls:=.type "list",dict:=none,data:=.seq acc c,slots:=#[]}->
   acc.toList=(List.range n).map (λj=>Value.ref (↥s+j))->(∀j,j<n->m_ Pv h' ↥s j)->R (.ok (.ret .none)) {s with heap:=h',toks:=tk}) :
  wpAny (model prog w) A.in1 (Builtin.«list.__init__» ⟨[.ref S,.ref e],[]⟩)
   (λfin s'=>match fin with | .done f=>R (.ok f) s' | .again c'=>c'.quiet=true/\codeAny (model prog w) A c' R s') (λe s'=>R (.error e) s') s:=by
 change wpAny _ A.in1 (do let old <-Builtin.List.listItems (.ref S);Builtin.List.listUpdate (.ref S) (λ_=>#[]);letGo old.toList.reverse;Builtin.List.listExtendWith (.ref S) (.ref e) .none) _ _ s;show ag ?_;unfold Builtin.List.listItems;show ag (Mp hS rfl (aB ?_));change wpAny _ A.in1 (updateSeq S (λ_=>#[]) >>= λ_=>letGo (#[]:Array Value).toList.reverse >>= λ_=>Builtin.List.listExtendWith (.ref S) (.ref e) .none) _ _ s;show ag (vz hS rfl ?_);have hS2:=kG (Obj.mapSeq (λ_=>(#[]:Array Value))) hS rfl;have oth:∀b o,b≠S->s.heap.get? b=some o->(s.heap.update S (Obj.mapSeq (λ_=>(#[]:Array Value)))).get? b=some o:=λb o hb q=>(nJ _ _ (aG hb)).trans q;have hz:(s.heap.update S (Obj.mapSeq (λ_=>(#[]:Array Value)))).objs.size=↥s:=qa ..;show ag (wpAny_letGo ?_);show Da (s:={s with heap:=s.heap.update S (Obj.mapSeq (λ_=>(#[]:Array Value)))}) D hei hSe hSi hn .none _ (oth e _ (aG hSe) he) (D.frame _ _ _ st λb hb o q=>oth b o (λz=>hSi (z ▸ aL.mp hb)) q) hS2 λh' tk acc c hk hS' hacc ht=>?_;dsimp only at hk hacc ht;rw[hz] at hacc;rw[hz] at ht;show hR h' tk acc c (λb o n1 n2 n3 q=>hk b o n1 n2 n3 (oth b o n1 q)) hS' hacc ht
theorem Gs{E:Value->Shared->Prop}{Q:Value->Shared->Prop}(D:Draws prog w A.in1.in1.in1 it [it] n Pv St)(h:e≠it)(i:n<=sizeLine)(he:EnO s.heap e it ((0:Nat):Int) .none (.bool false) .none)(st:St 0 s.heap)
  (l:∀h' tk acc c,(∀b o,b≠e->b≠it->s.heap.get? b=some o->h'.get? b=some o)->h'.get? ↥s=some {cls:=.type "list",dict:=none,data:=.seq acc c,slots:=#[]}->
   acc.toList=(List.range n).map (λj=>Value.ref (↥s+1+j))->(∀j,j<n->m_ Pv h' (↥s+1) j)->Q (.ref ↥s) {s with heap:=h',toks:=tk}) :
  wpAny (model prog w) A (call (.type "list") [.ref e]) Q E s:=by
 show L3 (Q₁:=λobj s1=>obj=.ref ↥s/\s1={s with heap:=s.heap.push {cls:=.type "list",data:=.seq #[]}}) PySem.F.called_list (PySem.F.typeCall_list_1 _) PySem.F.entry_list_init (code_list_new _ ⟨rfl,rfl⟩) λobj s1 m=>?_;obtain⟨rfl,rfl⟩:=m;have f:(s.heap.push {cls:=.type "list",data:=.seq #[]}).get? ↥s=some {cls:=.type "list",data:=.seq #[]}:=cw _ rfl;have hz:(s.heap.push {cls:=.type "list",data:=.seq #[]}).objs.size=↥s+1:=p_ ..;have p:e<↥s:=aN he;have r:it<↥s:=by obtain⟨_,y⟩:=D.live _ _ st;show aN y
 show⟨⟨_,f,rfl⟩,PySem.F.args_list_init_2 _ _,Gu (s:={s with heap:=s.heap.push {cls:=.type "list",data:=.seq #[]}}) (A:=A.in1) D h (fZ p) (fZ r) i (bg _ he) (D.frame _ _ _ st λb _ o q=>bg _ q) f λh' tk acc c g u a d=>?_⟩;dsimp only at g a d;rw[hz] at a;rw[hz] at d;show⟨rfl,l h' tk acc c (λb o v x q=>g b o (b_ (aN q)) v x (bg _ q)) u a d⟩
end
end L2
end
section
namespace L2
open PySem PySem.Spec PyProof.Rows
section
variable {h':Heap}
theorem Inv.laidMany{t':Nat}(I:Inv X Nw Z H s)(k:∀b u,s.heap.get? b=some u->h'.get? b=some u)(old:∀b,b<↥s->H' b=H b)
  (new:∀b o,↥s<=b->H' b=some o->bR X.prog X.w H' h' b o):Inv X Nw Z H' {s with heap:=h',toks:=t'}:=by
 have sm:∀b o,H b=some o->H' b=some o:=λb o e=>by
  rcases AZ b ↥s with z|z
  .rw[old b z];show e
  rw[I.hok.fresh z] at e;cases e
 show I.un ⟨λb u q _ _ _=>k b u q,λb u q _ _ _=>⟨u.slots,k b u q⟩,λb u q n _=>by rw[old b (aN q)];show n,λb u q _=>⟨u,k b u q⟩,λb xs q=>sm b _ q,λb u xs q=>sm b _ q,λb ps q=>⟨#[],by rw[sm b _ q];simp⟩⟩ λb o e=>?_;rcases AZ b ↥s with z|z
 .rw[old b z] at e;show (I.hok b o e).stay (λc v _ q=>k c v q) (λc q=>sm c _ q) λc xs q=>sm c _ q
 show new b o z e
end
section
variable {x:Expr}{tx:TE}{p1 p2 pos1 pos2:Pos}
def CA(tx:TE):TE:=λZ H Q=>tx Z H λv H1=>∃l:List Nat,v=.str (txt l)/\(∀c∈l,c<128)/\l.length<=sizeLine/\
 ∀(p:Addr)(ps:List Addr)(H':Hp),H1 p=none->Same H1 H'->H' p=some (.lst (ps.map V.ref))->ps.length=l.length->(∀(j c:Nat),l[j]?=some c->∃t,ps[j]?=some t/\H' t=some (.tup [.int (j:Int),.str (txt [c])]))->Q (.ref p) H'
def enH(H:Hp)(n:Nat)(l:List Nat):Hp:=λ(b:Nat)=>
 if b<n then H b else if b=n then some (.lst ((List.range l.length).map λj=>V.ref (n+1+j))) else match l[b-(n+1)]? with
  |some c=>some (.tup [.int ((b-(n+1):Nat):Int),.str (txt [c])])
  |none=>none
theorem xE{n:Nat}{l:List Nat}:enH H n l n=some (.lst ((List.range l.length).map λj=>V.ref (n+1+j))):=by unfold enH;rw[Np (fh _),Nq rfl]
theorem Gv{n j c:Nat}{l:List Nat}(h:l[j]?=some c):enH H n l (n+1+j)=some (.tup [.int (j:Int),.str (txt [c])]):=by unfold enH;have h1:¬(n+1+j<n):=();have h2:¬(n+1+j=n):=();have a:n+1+j-(n+1)=j:=();rw[Np h1,Np h2,a,h]
theorem E9{l:List Nat}(h:∀c∈l,c<128):strIterType (txt l) = "str_ascii_iterator":=by unfold strIterType;rw[Nq];rw[<-KA,rY,iq];show λc a=>Nt (h c a)
theorem BE(L:X.calm=true)(M:Gl X "list")(N:X.mg "list" = none)(O:Gl X "enumerate")(P:X.mg "enumerate" = none)(R:PE X x tx)
  (y:starEach [.Call (.Name "enumerate" p2) [x] [] pos2] X.env=[(false,eval (.Call (.Name "enumerate" p2) [x] [] pos2) X.env)]:=by rfl) (B:starEach [x] X.env=[(false,eval x X.env)]:=by rfl) :
  PE X (.Call (.Name "list" p1) [.Call (.Name "enumerate" p2) [x] [] pos2] [] pos1) (CA tx):=by
 intro Nw s Z H Q I h;show qI (fV I M N boot_list ?_);show iX ?_ y rfl;rw[y];show nH ?_;show qI (fV I O P A9 ?_);show iX ?_ B rfl;rw[B];show nH (thn (R Nw s Z H _ I h) λu s1 ⟨v,H1,g,S,q1⟩=>?_);obtain⟨l,rfl,ha,hz,q⟩:=q1;obtain⟨t,rfl⟩:=S;show aB ?_;show call_enumerate_str λh1 he hit hsz C=>?_;show aB ?_;rw[E9 ha] at hit;have hlen:(txt l).cps.size=l.length:=by simp[txt]
 have I2:Inv X Nw Z H1 {s1 with heap:=h1}:=g.kept (t':=s1.toks) C;show Gs (s:={s1 with heap:=h1}) (Draws.strAscii (A:=X.A.in1.in1.in1) (g.ok.hd L) ↥s1 (txt l) t) (A2 _) (by rw[hlen];show hz) he hit λh2 tk acc c kp r i m=>?_;dsimp only at kp r i m;rw[hlen] at i m;rw[hsz] at r i m;have T:∀b u,s1.heap.get? b=some u->h2.get? b=some u:=λb u e=>kp b u (b_ (uR (aN e))) (b_ (aN e)) (C b u e);change EP X Nw Z Q (.ref h1.objs.size) {s1 with heap:=h2,toks:=tk};rw[hsz];have fr:∀b,↥s1<=b->H1 b=none:=λb a=>g.hok.fresh a;show⟨.ref (↥s1+2),enH H1 (↥s1+2) l,g.laidMany T (λb a=>?_) (λb o a e=>?_),rfl,q _ ((List.range l.length).map λj=>↥s1+2+1+j) _ (fr _ (gR _ _)) ?_ ?_ ∅ λj c' n=>?_⟩
 .obtain⟨d,rfl⟩:∃d:Nat,d=b:=⟨b,rfl⟩;have f:d<↥s1+2:=cp a (gR _ _);unfold enH;rw[Nq f]
 .obtain⟨d,rfl⟩:∃d:Nat,d=b:=⟨b,rfl⟩;revert a e;generalize d=b;intro a e;by_cases f:b<↥s1+2
  .unfold enH at e;rw[Nq f,fr b a] at e;cases e
  by_cases D:b=↥s1+2
  .subst D;rw[xE] at e;cases e;show⟨by simp;show hz,acc.toList,c,?_,by rw[r]⟩;rw[i];show vH ∅ λj v E=>?_;rw[cB] at E;obtain⟨k,U,rfl⟩:=eG.mp E;show⟨.ref (↥s1+2+1+k),by rw[cB,U];rfl,rfl⟩
  unfold enH at e;rw[Np f,Np D] at e;cases p:l[b-(↥s1+2+1)]? with
  |none=>rw[p] at e;cases e
  |some Y=>
   rw[p] at e;cases e;have n:b-(↥s1+2+1)<l.length:=(aI.mp p).1;obtain⟨t2,v2,⟨K,u3,e3,rfl⟩,w⟩:=m _ n;have eb:↥s1+2+1+(b-(↥s1+2+1))=b:=();rw[eb] at w;have ec:K=Y:=by
    have:(txt l).cps.toList[b-(↥s1+2+1)]?=some K:=‹e3›
    rw[rY,p] at this;show (cy this).symm
   subst ec;show⟨⟨by change 2<=sizeLine;decide,_,w,rfl⟩,_,.cons ⟨_,rfl⟩ (.cons ⟨_,rfl⟩ .nil),⟨_,w,rfl,_,rfl⟩⟩
 .intro b o e;rcases AZ b ↥s1 with z|z
  .have f:(show Nat from b)<↥s1+2:=cp z (gR _ _);unfold enH;rw[Nq f];show e
  rw[fr b z] at e;cases e
 .rw[xE,cU];rfl
 have ad:j<l.length:=(aI.mp n).1;show⟨↥s1+2+1+j,by simp[ad],Gv n⟩
end
end L2
end
section
namespace K51
open PySem L2
theorem yX(a b:List Nat):decide (V.str (txt a)=V.str (txt b))=(a==b):=by
 rw[cR,decide_eq_true_eq,beq_iff_eq];constructor
 .intro h;injection h with h;show rX h
 rintro rfl;rfl
structure cW(mg:Str->Option Value):Prop where
 len:mg "len" = none
 int:mg "int" = none
 str:mg "str" = none
 isi:mg "isinstance" = none
 range:mg "range" = none
 list:mg "list" = none
 tuple:mg "tuple" = none
 bool:mg "bool" = none
 all:mg "all" = none
 ve:mg "ValueError" = none
 rev:mg "reversed" = none
 enum:mg "enumerate" = none
theorem s_{α:Type}(l:List α)(a b:Nat):fW l (some (a:Int)) (some (b:Int))=(l.drop a).take (b-a):=by
 unfold fW;rw[HT.sIx_nat,HT.sIx_nat];by_cases h:a<=l.length
 .rw[qC h];by_cases c:b<=l.length
  .rw[qC c]
  rw[Nat.min_eq_right (),gQ (by rw[bG];lia),gQ (by rw[bG];lia)]
 rw[AG (show l.length<=a by lia),AG (show l.length<=min a l.length by lia)];simp
theorem z_{α:Type}(l:List α)(b:Nat):fW l none (some (b:Int))=l.take b:=by have h:=s_ l 0 b;unfold fW at h |-;rw[HT.sIx_none];simpa [HT.sIx] using h
theorem rP{α:Type}(l:List α)(a:Nat):fW l (some (a:Int)) none=l.drop a:=by have h:=s_ l a l.length;rw[gQ (by rw[bG];lia)] at h;rw[<-h];unfold fW;rw[HT.sIx_none,HT.sIx_nat,HT.sIx_nat,Nat.min_self]
theorem line5000:5010<=sizeLine:=by rw[f_];decide
def ltV:Lt->List V
 |.sg c=>[.str (txt [c])]
 |.sp j k=>[.str (txt [83]),.int (j:Nat),.int (k:Nat)]
def gH(H:Hp)(v:V)(a:Lt):Prop:=∃t,v=.ref t/\H t=some (.tup (ltV a))
abbrev bE(H:Hp):List V->List Lt->Prop:=Paired (gH H)
theorem gH.same{v:V}{a:Lt}(e:Same H H')(h:gH H v a):gH H' v a:=by obtain⟨t,rfl,h⟩:=h;show⟨t,rfl,e t _ h⟩
theorem bE.same(e:Same H H'):∀{xs:List V}{ls:List Lt},bE H xs ls->bE H' xs ls
 |_,_,.nil=>.nil
 |_,_,.cons h t=>.cons (h.same e) (bE.same e t)
theorem bE.snoc{v:V}{a:Lt}:∀{xs:List V}{ls:List Lt},bE H xs ls->gH H v a->bE H (xs++[v]) (ls++[a])
 |_,_,.nil,h=>.cons h .nil
 |_,_,.cons h t,h'=>.cons h (bE.snoc t h')
theorem s83:("S" : Str)=txt [83]:=⋯
theorem cK{t:Addr}{o:HO}(h:H t=none):Same H (upd H t o):=λb u e=>by rw[bh (ar e h)];show e
theorem kX:∀{xs:List V}{ls:List Lt}{i:Nat}{x:V},bE H xs ls->xs[i]?=some x->∃a,ls[i]?=some a/\gH H x a
 |_,_,_,_,.nil,e=>by simp at e
 |_,_,0,_,.cons h _,e=>by simp at e;subst e;show⟨_,rfl,h⟩
 |_,_,i+1,_,.cons _ t,e=>by
  obtain⟨a,h1,h2⟩:=kX (i:=i) t ‹e›;show⟨a,‹h1›,h2⟩
theorem zC:("" : Str)=txt []:=⋯
theorem jq(x:V)(xs:List V):atI (x::xs) 0=some x:=cM (j:=0) rfl
theorem jA{N:List Str}(nd:N.Nodup)(kind:scope.kind=.function)(b:scope.names.all (λy=>y.2 != .cell&&y.2 != .free)=true)
  (nm:scope.names.all (λy=>y.2 != .local||scope.names.lookup y.1==some .local)=true):gh X N (N.map λ_=>none) scope:=by
 have h1:∀y∈scope.names,y.2≠.cell/\y.2≠.free:=λy a=>by
  have:=iq.mp b y a;simpa using this
 show⟨nd,∅,kind,λy a=>(h1 y a).1,λy a e=>?_,λy a e=>absurd e (h1 y a).2,λj i x e _=>?_⟩
 .have:=iq.mp nm y a;rw[e] at this;simpa using this
 rw[cB] at e;cases q:N[j]? with
 |none=>rw[q] at e;cases e
 |some z=>rw[q] at e;cases e
theorem sC:("C" : Str)=txt [67]:=⋯
theorem sR:("R" : Str)=txt [82]:=⋯
theorem sL:("L" : Str)=txt [76]:=⋯
theorem sE:("E" : Str)=txt [69]:=⋯
theorem ltC:some (HO.tup [V.str (Str.ofString "C")])=some (HO.tup (ltV (.sg 67))):=by rw[show (Str.ofString "C")=txt [67] from sC];rfl
theorem ltR:some (HO.tup [V.str (Str.ofString "R")])=some (HO.tup (ltV (.sg 82))):=by rw[show (Str.ofString "R")=txt [82] from sR];rfl
theorem ltL:some (HO.tup [V.str (Str.ofString "L")])=some (HO.tup (ltV (.sg 76))):=by rw[show (Str.ofString "L")=txt [76] from sL];rfl
theorem ltE:some (HO.tup [V.str (Str.ofString "E")])=some (HO.tup (ltV (.sg 69))):=by rw[show (Str.ofString "E")=txt [69] from sE];rfl
theorem gH.move{v:V}{a:Lt}(h:gH H v a)(e:∀t xs,H t=some (.tup xs)->H' t=some (.tup xs)):gH H' v a:=by obtain⟨t,rfl,h⟩:=h;show⟨t,rfl,e _ _ h⟩
theorem bE.move(e:∀t xs,H t=some (.tup xs)->H' t=some (.tup xs)):∀{xs:List V}{ls:List Lt},bE H xs ls->bE H' xs ls
 |_,_,.nil=>.nil
 |_,_,.cons h t=>.cons (h.move e) (bE.move e t)
theorem kD(a b:Int):decide (V.int a=V.int b)=decide (a=b):=by rw[cR];simp
theorem Aw{p:List Nat}(h:asc p):(PyData.str (txt p)).canLay0=true:=by change (txt p).cps.all (· < 0x110000)=true;rw[<-KA,rY,iq];show λc a=>Nt (by have:=h c a;lia)
def ltD:Lt->PyData
 |.sg c=>.tuple [.str (txt [c])]
 |.sp j k=>.tuple [.str (txt [83]),.int (j:Nat),.int (k:Nat)]
theorem asc1{c:Nat}(h:c<128):asc [c]:=λd hd=>by rw[aL.mp hd];show h
theorem iH{v:V}{a:Lt}(b:a.ok)(h:gH H v a):Dt K H v (ltD a):=by
 obtain⟨t,rfl,h⟩:=h;cases a with
 |sg c=>show .tup (.inl (.inl h)) (.cons (.str _ (Aw (asc1 (DW (B7 b))))) .nil)
 |sp j k=>show .tup (.inl (.inl h)) (.cons (.str _ (Aw (asc1 ⋯))) (.cons (.int _) (.cons (.int _) .nil)))
theorem rO:∀{xs:List V}{ls:List Lt},(∀a∈ls,a.ok)->bE H xs ls->Dts K H xs (ls.map ltD)
 |_,_,_,.nil=>.nil
 |_,_,b,.cons h t=>.cons (iH (b _ ∅) h) (rO (λa ha=>b a (aZ _ ha)) t)
theorem jJ(a:Lt):PyData.depth (ltD a)<=2:=by cases a<;>simp[ltD,PyData.depth,PyData.depthAll]
theorem qT:∀(ls:List Lt),PyData.depthAll (ls.map ltD)<=2
 | []=>by simp[PyData.depthAll]
 |a::ls=>by
  have h1:=qT ls;have h2:=jJ a;simp only[az,PyData.depthAll];lia
theorem rH(a:Lt):jo (ltD a)=true:=by cases a<;>rfl
theorem q_:∀(ls:List Lt),fP (ls.map ltD)=true
 | []=>rfl
 |a::ls=>by
  rw[az];change (jo (ltD a)&&fP (ls.map ltD))=true;rw[rH,q_ ls];rfl
theorem yJ{a b:Lt}(h:ltD a=ltD b):a=b:=by
 cases a<;>cases b<;>simp[ltD] at h
 .rw[List.singleton_inj.mp (rX h)]
 obtain⟨h1,h2⟩:=h
 congr 1<;>lia
theorem xy:∀{ls ms:List Lt},ls.map ltD=ms.map ltD->ls=ms
 | [],[],_=>rfl
 | [],_::_,h=>by simp at h
 |_::_,[],h=>by simp at h
 |a::ls,b::ms,h=>by
  simp only[az,KW] at h;rw[yJ h.1,xy h.2]
theorem oI(ls ms:List Lt):PyData.eqv (.list (ls.map ltD)) (.list (ms.map ltD))=decide (ls=ms):=by
 have:=sX (.list (ls.map ltD)) (.list (ms.map ltD)) (q_ ls) (q_ ms);rw[cR,this,decide_eq_true_eq];constructor
 .intro h;injection h with h;show xy h
 rintro rfl;rfl
end K51
end
section
namespace K31
open K51
abbrev Side:=Nat×Nat
abbrev Lps:=List (List Nat)
def path:Nat->List Nat->Nat->List Side
 |a,[],z=>[(a,z)]
 |a,b::l,z=>(a,b)::path b l z
def sides:List Nat->List Side
 | []=>[]
 |a::l=>path a l a
def wl(ls:Lps):List Side:=ls.flatMap sides
theorem eX:∀(a:Nat)(l:List Nat)(b:Nat)(r:List Nat)(z:Nat),path a (l++b::r) z=path a l b++path b r z
 |_,[],_,_,_=>rfl
 |a,c::l,b,r,z=>by
  change (a,c)::path c (l++b::r) z=(a,c)::(path c l b++path b r z);rw[eX c l b r z]
theorem qQ(l r:List Nat):(sides (l++r)).Perm (sides (r++l)):=by
 cases l with
 |nil=>rw[jx,dh]
 |cons a l=>
  cases r with
  |nil=>rw[jx,dh]
  |cons b r=>
   change (path a (l++b::r) a).Perm (path b (r++a::l) b);rw[eX,eX];show cP
theorem dG(xs ys:Lps):wl (xs++ys)=wl xs++wl ys:=by simp[wl,ql]
theorem eh(l:List Nat):wl [l]=sides l:=by simp[wl]
theorem ja(l:List Nat)(ls:Lps):wl (l::ls)=sides l++wl ls:=by simp[wl]
theorem xl:∀(a:Nat)(l:List Nat)(z:Nat),(path a l z).length=l.length+1
 |_,[],_=>rfl
 |a,b::l,z=>by simp[path,xl b l z]
theorem xm:∀(a:Nat)(l:List Nat)(z k:Nat),k<=l.length->(path a l z)[k]?=some ((a::l).getD k 0,(l++[z]).getD k 0)
 |a,[],z,k,h=>by
  have:k=0:=‹h›
  subst this;rfl
 |a,b::l,z,0,h=>by simp[path]
 |a,b::l,z,k+1,h=>by
  have:=xm b l z k ‹h›;simp only[path,fe,this];simp
theorem jD(l:List Nat)(k:Nat)(h:k<l.length):(sides l)[k]?=some (l.getD k 0,l.getD ((k+1)%l.length) 0):=by
 cases l with
 |nil=>simp at h
 |cons a l=>
  have b:k<=l.length:=by simpa [Ln] using h
  change (path a l a)[k]?=_;rw[xm a l a k b]
  congr 2
  rw[aS];by_cases e:k=l.length
  .subst e;rw[nU];simp[List.getD]
  rw[kO ()];simp only[List.getD,fe];rw[eF ()]
theorem jC(l:List Nat):(sides l).length=l.length:=by
 cases l with
 |nil=>rfl
 |cons a l=>show xl a l a
theorem iA:∀(a:Nat)(l:List Nat)(z:Nat)(s:Side),s∈path a l z->(s.1=a\/s.1∈l)/\(s.2=z\/s.2∈l)
 |a,[],z,s,h=>by
  simp only[path,aL] at h;subst h;simp
 |a,b::l,z,s,h=>by
  simp only[path,ae] at h;rcases h with rfl|h
  .simp
  obtain⟨h1,h2⟩:=iA b l z s h;simp only[ae];show⟨.inr h1,h2.elim .inl λz=>.inr (.inr z)⟩
theorem jB{l:List Nat}{s:Side}(h:s∈sides l):s.1∈l/\s.2∈l:=by
 cases l with
 |nil=>simp[sides] at h
 |cons a l=>
  obtain⟨h1,h2⟩:=iA a l a s h;simp only[ae];show⟨h1,h2⟩
theorem ia{ls:Lps}{s:Side}:s∈wl ls↔∃l∈ls,s∈sides l:=by simp[wl,eU]
structure Fr where
 ls:Lps
 ts:List (Nat×Nat×Nat)
 n:Nat
def tl(ts:List (Nat×Nat×Nat)):List Side:=ts.flatMap λt=>[(t.1,t.2.1),(t.2.1,t.2.2),(t.2.2,t.1)]
def sgn:Lt->Nat
 |.sg c=>c
 |.sp _ _=>83
def aM(ah:Lps)(loop:List Nat)(a:Lt)(x:Nat):Lps:=match a with
 |.sg c=>if c=67 then ah++[loop.take 1++x::loop.drop 1] else if c=82 then ah++[loop.take 1++loop.drop 2] else if c=76 then ah++[x::(loop.drop 1).dropLast] else ah
 |.sp j k=>if j=0 then ah++[loop.take 1++loop.drop k,x::(loop.take k).drop 1]
  else ah.eraseIdx (ah.length-j)++[loop.take 1++(ah.getD (ah.length-j) []).drop k++(ah.getD (ah.length-j) []).take k++x::loop.drop 1]
def ay(ah:Lps)(loop:List Nat)(a:Lt)(n:Nat):Option Nat:=match a with
 |.sg c=>if c=67 then some n else if (c=82\/c=76)/\3<loop.length\/c=69/\loop.length=3 then (if c=82 then loop[2]? else loop[loop.length-1]?) else none
 |.sp j k=>if j=0 then (if 2<k/\k+1<loop.length then loop[k]? else none) else if j<=ah.length then (ah.getD (ah.length-j) [])[k]? else none
def asked(c a b x:Nat):List Side:=(if c=82\/c=69 then [] else [(b,x),(x,b)])++if c=76\/c=69 then [] else [(x,a),(a,x)]
def g1(l:List Nat):Nat:=l.getD 0 0
def g2(l:List Nat):Nat:=l.getD 1 0
def ic(ah:Lps)(loop:List Nat)(ts:List (Nat×Nat×Nat))(n:Nat)(a:Lt):Option Nat:=
 (ay ah loop a n).bind λx=>if x=g1 loop\/x=g2 loop then none
  else if (asked (sgn a) (g1 loop) (g2 loop) x).any (λs=>decide (s∈wl (ah++[loop]))||decide (s∈tl ts)) then none else some x
def Fr.can(f:Fr)(a:Lt):Option Nat:=match f.ls.getLast? with
 |none=>none
 |some loop=>ic f.ls.dropLast loop f.ts f.n a
def Fr.put(f:Fr)(a:Lt)(x:Nat):Fr:=match f.ls.getLast? with
 |none=>f
 |some loop=>⟨aM f.ls.dropLast loop a x,f.ts++[(g1 loop,g2 loop,x)],max f.n (x+1)⟩
def Fr.at0:Fr:=⟨[[0,1]],[],2⟩
theorem ke{ah:Lps}{loop:List Nat}{ts:List (Nat×Nat×Nat)}{n:Nat}{a:Lt}:Fr.can ⟨ah++[loop],ts,n⟩ a=ic ah loop ts n a:=by unfold Fr.can;simp
theorem mK{ah:Lps}{loop:List Nat}{ts:List (Nat×Nat×Nat)}{n:Nat}{a:Lt}{x:Nat}:Fr.put ⟨ah++[loop],ts,n⟩ a x=⟨aM ah loop a x,ts++[(g1 loop,g2 loop,x)],max n (x+1)⟩:=by unfold Fr.put;simp
def gone(c a b x:Nat):List Side:=(a,b)::((if c=82\/c=69 then [(b,x)] else [])++if c=76\/c=69 then [(x,a)] else [])
def come(c a b x:Nat):List Side:=(if c=82\/c=69 then [] else [(x,b)])++if c=76\/c=69 then [] else [(a,x)]
def Lets(a:Lt):Prop:=match a with
 |.sg c=>c=67\/c=82\/c=76\/c=69
 |.sp _ _=>True
theorem two{loop:List Nat}(h:2<=loop.length):∃t,loop=g1 loop::g2 loop::t:=by
 match loop,h with
 |a::b::t,_=>show⟨t,rfl⟩
theorem oX{l:List Nat}{k x:Nat}(h:l[k]?=some x):l=l.take k++x::l.drop (k+1)/\l.drop k=x::l.drop (k+1):=by
 obtain⟨b,e⟩:=aI.mp h;have a:l.drop k=x::l.drop (k+1):=by rw[eS b,e]
 show⟨by rw[<-a,fY],a⟩
theorem pE{ah:Lps}{i:Nat}(h:i<ah.length):∃u v,ah=u++ah.getD i []::v/\ah.eraseIdx i=u++v:=by
 show⟨ah.take i,ah.drop (i+1),?_,?_⟩
 .have e:ah.getD i []=ah[i]:=by simp[List.getD,h]
  rw[e,<-eS h,fY]
 rw[AH]
theorem qV{ah:Lps}{loop:List Nat}{a:Lt}{n x:Nat}(w:2<=loop.length)(ha:Lets a)(h:ay ah loop a n=some x) :
  ∃rest,(wl (ah++[loop])).Perm (gone (sgn a) (g1 loop) (g2 loop) x++rest)/\(wl (aM ah loop a x)).Perm (come (sgn a) (g1 loop) (g2 loop) x++rest):=by
 obtain⟨t,z⟩:=two w;generalize g1 loop=p at *;generalize g2 loop=q at *;subst z;have base:∀(l:List Nat),(wl (ah++[l])).Perm (sides l++wl ah):=λl=>by
  rw[dG,eh];show cP
 cases a with
 |sg c=>
  simp only[Lets] at ha;simp only[ay] at h;rcases ha with rfl|rfl|rfl|rfl
  .refine⟨path q t p++wl ah,base _,?_⟩;show (base _).trans ?_;change ((p,x)::(x,q)::(path q t p++wl ah)).Perm ((x,q)::(p,x)::(path q t p++wl ah));show List.Perm.swap ..
  .simp at h
   match t,h with
   | [],h=>simp at h
   |y::t',h=>
    simp at h;obtain⟨_,rfl⟩:=h;show⟨path y t' p++wl ah,base _,base _⟩
  .simp at h;have A:t≠[]:=by rintro rfl;simp at h
   have B:t.getLast?=some x:=by
    rw[qp];have:=h.2
    match t,A with
    |y::t',_=>simpa using this
   obtain⟨t',e⟩:=qq.mp B;subst e;show⟨path q t' x++wl ah,(base _).trans ?_,(base _).trans ?_⟩
   .change ((p,q)::path q (t'++[x]) p++wl ah).Perm ((p,q)::(x,p)::(path q t' x++wl ah));rw[eX];show List.Perm.cons _ ?_;change ((path q t' x++[(x,p)])++wl ah).Perm ([(x,p)]++(path q t' x++wl ah));rw[<-bI];show eR _ cP
   have e:(List.drop 1 (p::q::(t'++[x]))).dropLast=q::t':=by change (q::(t'++[x])).dropLast=_;rw[<-fc,uA]
   rw[e];show qf _
  simp at h;obtain⟨C,h⟩:=h
  match t,C,h with
  | [y],_,h=>
   simp at h;subst h;show⟨wl ah,base _,qf _⟩
 |sp j k=>
  simp only[ay] at h;by_cases d:j=0
  .subst d;rw[Nq rfl] at h;by_cases b:2<k/\k+1<(p::q::t).length
   .rw[Nq b] at h;obtain⟨f,g⟩:=oX h;obtain⟨m,rfl⟩:∃m,k=m+2:=⟨k-2,()⟩;have i:t=t.take m++x::t.drop (m+1):=‹f›
    have r:t.drop m=x::t.drop (m+1):=‹g›
    show⟨path q (t.take m) x++path x (t.drop (m+1)) p++wl ah,(base _).trans ?_,?_⟩
    .change ((p,q)::path q t p++wl ah).Perm ((p,q)::(path q (t.take m) x++path x (t.drop (m+1)) p++wl ah));have s:path q t p=path q (t.take m) x++path x (t.drop (m+1)) p:=by
      conv=>lhs;rw[i]
      show eX ..
     rw[s];show qf _
    change (wl (ah++[p::List.drop m t,x::q::t.take m])).Perm ((x,q)::(p,x)::(path q (t.take m) x++path x (t.drop (m+1)) p++wl ah));rw[r,dG,ja,eh];show cP.trans ?_;change ((p,x)::path x (t.drop (m+1)) p++(x,q)::path q (t.take m) x++wl ah).Perm _;show (eR _ cP).trans ?_;change ((x,q)::(path q (t.take m) x++(p,x)::path x (t.drop (m+1)) p++wl ah)).Perm _;show List.Perm.cons _ ?_;rw[bI,bI];show uL
   rw[Np b] at h;cases h
  rw[Np d] at h;by_cases b:j<=ah.length
  .rw[Nq b] at h;obtain⟨u,v,f,g⟩:=pE (show ah.length-j<ah.length by lia);have es:aM ah (p::q::t) (.sp j k) x=ah.eraseIdx (ah.length-j)++[[p]++(ah.getD (ah.length-j) []).drop k++(ah.getD (ah.length-j) []).take k++x::q::t]:=by
    unfold aM;dsimp only;rw[Np d];rfl
   rw[es,g];obtain⟨i,r⟩:=oX h;generalize ah.getD (ah.length-j) []=o at *;show⟨sides (x::(o.drop (k+1)++o.take k))++path q t p++(wl u++wl v),?_,?_⟩
   .refine (base _).trans ?_;change ((p,q)::path q t p++wl ah).Perm ((p,q)::(sides (x::(o.drop (k+1)++o.take k))++path q t p++(wl u++wl v)));show List.Perm.cons _ ?_;rw[f,dG,ja];have s:(sides o).Perm (sides (x::(o.drop (k+1)++o.take k))):=by
     conv=>lhs;rw[i]
     show qQ (o.take k) (x::o.drop (k+1))
    have D:(wl u++(sides o++wl v)).Perm (sides o++(wl u++wl v)):=by rw[<-bI,<-bI];show eR _ cP
    show ((gO _ D).trans ?_);rw[<-bI];show eR _ (cP.trans ?_);show eR _ s
   rw[dG,dG,eh];show cP.trans ?_;have E:sides ([p]++o.drop k++o.take k++x::q::t)=(p,x)::(path x (o.drop (k+1)++o.take k) x++(x,q)::path q t p):=by rw[r];change path p (x::o.drop (k+1)++o.take k++x::q::t) p=_;rw[fc,fc];change (p,x)::path x (o.drop (k+1)++o.take k++x::q::t) p=_;rw[eX];rfl
   rw[E];change ((p,x)::(path x (o.drop (k+1)++o.take k) x++(x,q)::path q t p)++(wl u++wl v)).Perm ((x,q)::(p,x)::(path x (o.drop (k+1)++o.take k) x++path q t p++(wl u++wl v)));show List.Perm.trans ?_ (List.Perm.swap ..);show List.Perm.cons _ ?_;change ((path x (o.drop (k+1)++o.take k) x++(x,q)::path q t p)++(wl u++wl v)).Perm ((x,q)::(path x (o.drop (k+1)++o.take k) x++path q t p++(wl u++wl v)));rw[bI,bI];show uL
  rw[Np b] at h;cases h
structure Ok(f:Fr):Prop where
 two:∀l∈f.ls,2<=l.length
 tot:(f.ls.map List.length).sum<=2+f.ts.length
 num:f.n<=2+f.ts.length
 big:∀l∈f.ls,∀c∈l,c<f.n
 bigT:∀s∈tl f.ts,s.1<f.n/\s.2<f.n
 nd:(wl f.ls).Nodup
 ne:∀s∈wl f.ls,s.1≠s.2
theorem ok0:Ok Fr.at0:=by show⟨?_,?_,?_,?_,?_,?_,?_⟩<;>decide
theorem r_(ts:List (Nat×Nat×Nat))(p q x:Nat):tl (ts++[(p,q,x)])=tl ts++[(p,q),(q,x),(x,p)]:=by simp[tl]
theorem jK{ah:Lps}{loop:List Nat}{ts:List (Nat×Nat×Nat)}{n x:Nat}{a:Lt}(h:ic ah loop ts n a=some x) :
  ay ah loop a n=some x/\x≠g1 loop/\x≠g2 loop/\∀s∈asked (sgn a) (g1 loop) (g2 loop) x,s∉wl (ah++[loop])/\s∉tl ts:=by
 unfold ic at h;cases e:ay ah loop a n with
 |none=>rw[e] at h;cases h
 |some y=>
  rw[e] at h;simp only[Lu] at h;by_cases h1:y=g1 loop\/y=g2 loop
  .rw[Nq h1] at h;cases h
  rw[Np h1] at h;by_cases h2:((asked (sgn a) (g1 loop) (g2 loop) y).any λs=>decide (s∈wl (ah++[loop]))||decide (s∈tl ts))=true
  .rw[Nq h2] at h;cases h
  rw[Np h2] at h;cases h;show⟨rfl,λz=>h1 (.inl z),λz=>h1 (.inr z),λs d=>?_⟩;have b:=h2;rw[qg] at b;have c:¬((decide (s∈wl (ah++[loop]))||decide (s∈tl ts))=true):=λz=>b ⟨s,d,z⟩;simp at c;show c
theorem qU{ah:Lps}{loop:List Nat}{a:Lt}{n x:Nat}(h:ay ah loop a n=some x):(a=.sg 67/\x=n)\/∃l∈ah++[loop],x∈l:=by
 cases a with
 |sg c=>
  simp only[ay] at h;by_cases b:c=67
  .rw[Nq b] at h;subst b;cases h;show .inl ⟨rfl,rfl⟩
  rw[Np b] at h;show .inr ⟨loop,∅,?_⟩
  split at h
  .split at h
   .exact a_ h
   show a_ h
  cases h
 |sp j k=>
  simp only[ay] at h;by_cases d:j=0
  .rw[Nq d] at h
   split at h
   .exact .inr ⟨loop,∅,a_ h⟩
   cases h
  rw[Np d] at h
  split at h
  .have f:=a_ h;show .inr ⟨ah.getD (ah.length-j) [],?_,f⟩;show bM _ ?_;have hi:ah.length-j<ah.length:=();have e:ah.getD (ah.length-j) []=ah[ah.length-j]:=by simp[List.getD,hi]
   rw[e];show ir hi
  cases h
theorem vJ{ah:Lps}{loop:List Nat}{a:Lt}{n x:Nat}(d:2<=loop.length)(ha:Lets a)(h:ay ah loop a n=some x)(h2:∀l∈ah,2<=l.length) :
  (∀l∈aM ah loop a x,2<=l.length)/\((aM ah loop a x).map List.length).sum<=((ah++[loop]).map List.length).sum+1/\(∀l∈aM ah loop a x,∀c∈l,c=x\/∃f∈ah++[loop],c∈f):=by
 have g:∀c,c∈loop->(c=x\/∃f∈ah++[loop],c∈f):=λc b=>.inr ⟨loop,∅,b⟩;have i:∀l∈ah,∀c∈l,(c=x\/∃f∈ah++[loop],c∈f):=λl d c b=>.inr ⟨l,bM _ d,b⟩;have one:∀(l:List Nat),2<=l.length->l.length<=loop.length+1->(∀c∈l,c=x\/c∈loop)->(∀f∈ah++[l],2<=f.length)/\((ah++[l]).map List.length).sum<=((ah++[loop]).map List.length).sum+1/\(∀f∈ah++[l],∀c∈f,c=x\/∃w∈ah++[loop],c∈w):=λl h1 B y=>by
  show⟨λf p=>?_,?_,λf p c b=>?_⟩
  .rcases aw.mp p with z|z
   .exact h2 f z
   rw[aL.mp z];show h1
  .simp only[aX,iV,az,fG,fg,qz];lia
  rcases aw.mp p with z|z
  .exact i f z c b
  rw[aL.mp z] at b;show (y c b).elim .inl (g c)
 cases a with
 |sg c=>
  simp only[Lets] at ha;simp only[ay] at h;rcases ha with rfl|rfl|rfl|rfl
  .refine one (loop.take 1++x::loop.drop 1) ?_ ?_ λc b=>?_
   .simp only[ao,bu,aS,bG];lia
   .simp only[ao,bu,aS,bG];lia
   rcases aw.mp b with z|z
   .exact .inr (kL z)
   rcases ae.mp z with z|z
   .exact .inl z
   show .inr (jw z)
  .simp at h;show one (loop.take 1++loop.drop 2) ?_ ?_ λc b=>?_
   .simp only[ao,bu,bG];lia
   .simp only[ao,bu,bG];lia
   rcases aw.mp b with z|z
   .exact .inr (kL z)
   show .inr (jw z)
  .simp at h;show one (x::(loop.drop 1).dropLast) ?_ ?_ λc b=>?_
   .simp only[aS,qr,bG];lia
   .simp only[aS,qr,bG];lia
   rcases ae.mp b with z|z
   .exact .inl z
   show .inr (jw ((List.dropLast_sublist _).subset z))
  show⟨h2,?_,i⟩;change (ah.map List.length).sum<=_;simp only[aX,iV];lia
 |sp j k=>
  simp only[ay] at h;by_cases q:j=0
  .subst q;rw[Nq rfl] at h;by_cases m:2<k/\k+1<loop.length
   .change (∀l∈ah++[loop.take 1++loop.drop k,x::(loop.take k).drop 1],_)/\(((ah++[loop.take 1++loop.drop k,x::(loop.take k).drop 1]).map List.length).sum<=_)/\(∀l∈ah++[loop.take 1++loop.drop k,x::(loop.take k).drop 1],_);show⟨λl d=>?_,?_,λl d c b=>?_⟩
    .simp only[aw,ae,bq,or_false] at d;rcases d with z|rfl|rfl
     .exact h2 l z
     .simp only[ao,bu,bG];lia
     simp only[aS,bG,bu];lia
    .simp only[aX,iV,az,fG,fg,qz,ao,bu,bG,aS];lia
    simp only[aw,ae,bq,or_false] at d;rcases d with z|rfl|rfl
    .exact i l z c b
    .rcases aw.mp b with z|z
     .exact g c (kL z)
     show g c (jw z)
    rcases ae.mp b with z|z
    .exact .inl z
    show g c (kL (jw z))
   rw[Np m] at h;cases h
  rw[Np q] at h;by_cases m:j<=ah.length
  .rw[Nq m] at h;obtain⟨u,v,r,A⟩:=pE (show ah.length-j<ah.length by lia);have es:aM ah loop (.sp j k) x=ah.eraseIdx (ah.length-j)++[loop.take 1++(ah.getD (ah.length-j) []).drop k++(ah.getD (ah.length-j) []).take k++x::loop.drop 1]:=by
    unfold aM;dsimp only;rw[Np q]
   rw[es,A];have kx:=(aI.mp h).1;have s:ah.getD (ah.length-j) []∈ah:=by
    have hi:ah.length-j<ah.length:=();have e:ah.getD (ah.length-j) []=ah[ah.length-j]:=by simp[List.getD,hi]
    rw[e];show ir hi
   generalize ah.getD (ah.length-j) []=o at *;have sum:(ah.map List.length).sum=(u.map List.length).sum+o.length+(v.map List.length).sum:=by rw[r];simp only[aX,iV,az,fg];lia
   have sub:∀l,l∈u++v->l∈ah:=λl d=>by
    rw[r];rcases aw.mp d with z|z
    .exact bM _ z
    show bo _ (aZ _ z)
   show⟨λl d=>?_,?_,λl d c b=>?_⟩
   .rcases aw.mp d with z|z
    .exact h2 l (sub l z)
    rw[aL.mp z];simp only[ao,bu,bG,aS];lia
   .simp only[aX,iV,az,fG,fg,qz,ao,bu,bG,aS];rw[sum];lia
   rcases aw.mp d with z|z
   .exact i l (sub l z) c b
   rw[aL.mp z] at b;simp only[aw,ae] at b;rcases b with ((z|z)|z)|z|z
   .exact g c (kL z)
   .exact i o s c (jw z)
   .exact i o s c (kL z)
   .exact .inl z
   show g c (jw z)
  rw[Np m] at h;cases h
def tk(W:Side->Bool)(p q:Nat):Side->Bool:=λs=>if W (p,q) then W s&&decide (s≠(p,q)) else W s||decide (s=(q,p))
theorem wN{c a b x:Nat}:((b,x)∈asked c a b x/\(x,b)∈asked c a b x\/(c=82\/c=69))/\((x,a)∈asked c a b x/\(a,x)∈asked c a b x\/(c=76\/c=69)):=by unfold asked;by_cases h1:c=82\/c=69<;>by_cases h2:c=76\/c=69<;>simp[h1,h2]
theorem BO{f:Fr}{ah:Lps}{loop:List Nat}{a:Lt}{x:Nat}(h:Ok f)(e:f.ls=ah++[loop])(ha:Lets a)(O:ic ah loop f.ts f.n a=some x) :
  (∀s,tk (tk (tk (λs=>decide (s∈wl f.ls)) (g1 loop) (g2 loop)) (g2 loop) x) x (g1 loop) s=decide (s∈wl (aM ah loop a x)))/\(wl (aM ah loop a x)).Nodup/\∀s∈wl (aM ah loop a x),s.1≠s.2:=by
 have P:2<=loop.length:=h.two loop (by rw[e];simp);obtain⟨o,u,w,D⟩:=jK O;obtain⟨rest,p1,p2⟩:=qV P ha o;rw[<-e] at p1 D;have nd:=h.nd;have ne:=h.ne;have y:∀s,s∈wl f.ls↔s∈gone (sgn a) (g1 loop) (g2 loop) x++rest:=λs=>p1.mem_iff;have E:∀s,s∈wl (aM ah loop a x)↔s∈come (sgn a) (g1 loop) (g2 loop) x++rest:=λs=>p2.mem_iff;have H:=p1.nodup_iff.mp nd;have I:g1 loop≠g2 loop:=ne (g1 loop,g2 loop) ((y _).mpr (by simp[gone]));obtain⟨A,r⟩:=wN (c:=sgn a) (a:=g1 loop) (b:=g2 loop) (x:=x);generalize g1 loop=p at *;generalize g2 loop=q at *;generalize sgn a=c at *;have g:∀s,s∈asked c p q x->s∉rest/\s∉gone c p q x:=λs d=>by
  have:=(D s d).1;rw[y] at this;show⟨λz=>this (bo _ z),λz=>this (bM _ z)⟩
 have B:∀s∈gone c p q x,s∉rest:=λs d Q=>(bS.mp H).2.2 s d s Q rfl;have R:=(bS.mp H).2.1;have hw:∀s,(s∈wl f.ls)=(s∈gone c p q x\/s∈rest):=λs=>by rw[propext (y s),aw]
 show⟨λs=>?_,p2.nodup_iff.mpr ?_,λs d=>?_⟩
 .have S:(s∈wl (aM ah loop a x))=(s∈come c p q x\/s∈rest):=by rw[propext (E s),aw]
  simp only[tk,hw,S];have i:(p,q)≠(q,x):=λz=>I (congrArg Prod.fst z);have j:(p,q)≠(x,p):=λz=>u (congrArg Prod.fst z).symm;have l:(q,x)≠(x,p):=λz=>w (congrArg Prod.fst z).symm;have K:(x,q)≠(x,p):=λz=>I (congrArg Prod.snd z).symm;have U:(x,q)≠(q,x):=λz=>w (congrArg Prod.fst z);have X:(p,x)≠(x,p):=λz=>u (congrArg Prod.fst z).symm;have Y:(p,q)∉rest:=B _ (by simp[gone]);by_cases h1:c=82\/c=69
  .have v:(q,x)∉rest:=B _ (by simp[gone,h1]);by_cases h2:c=76\/c=69
   .have m:(x,p)∉rest:=B _ (by simp[gone,h2]);simp only[gone,come,h1,h2,if_true,ae,aw,bq,or_false,false_or];rw[cR];simp[i,j,l,i.symm,j.symm,l.symm];constructor
    .rintro⟨⟨⟨z,n0⟩,L⟩,M⟩;simpa [n0,L,M] using z
    intro z;show⟨⟨⟨.inr z,?_⟩,?_⟩,?_⟩<;>(rintro rfl;simp_all)
   have m:=g (x,p) ((r.resolve_right h2).1);have C:=g (p,x) ((r.resolve_right h2).2);simp only[gone,come,h1,h2,if_true,if_false,ae,aw,bq,or_false,false_or] at m C |-;rw[cR];simp[i,j,l,i.symm,j.symm,l.symm,m.1];constructor
   .rintro (⟨⟨z|z,n0⟩,L⟩|z)<;>simp_all
   rintro (z|z)
   .exact .inr z
   show .inl ⟨⟨.inr z,?_⟩,?_⟩<;>(rintro rfl;simp_all)
  have v:=g (q,x) ((A.resolve_right h1).1);have N:=g (x,q) ((A.resolve_right h1).2);by_cases h2:c=76\/c=69
  .have m:(x,p)∉rest:=B _ (by simp[gone,h2]);simp only[gone,come,h1,h2,if_true,if_false,ae,aw,bq,or_false,false_or] at v N |-;rw[cR];simp[i,j,l,i.symm,j.symm,l.symm,v.1];constructor
   .rintro⟨⟨z|z,n0⟩|z,M⟩<;>simp_all
   rintro (z|z)
   .exact⟨.inr z,by rw[z];show K⟩
   show⟨.inl ⟨.inr z,?_⟩,?_⟩<;>(rintro rfl;simp_all)
  have m:=g (x,p) ((r.resolve_right h2).1);have C:=g (p,x) ((r.resolve_right h2).2);simp only[gone,come,h1,h2,if_true,if_false,ae,aw,bq,or_false,false_or] at v m C N |-;rw[cR];simp[i,j,l,i.symm,j.symm,l.symm,K.symm,v.1,m.1];constructor
  .rintro ((⟨z|z,n0⟩|z)|z)<;>simp_all
  rintro ((z|z)|z)
  .exact .inl (.inr z)
  .exact .inr z
  show .inl (.inl ⟨.inr z,?_⟩);rintro rfl;simp_all
 .refine bS.mpr ⟨?_,R,?_⟩
  .unfold come;by_cases h1:c=82\/c=69<;>by_cases h2:c=76\/c=69<;>simp[h1,h2]
   intro z;show λ_=>u z
  intro s d t o T;subst T;unfold come at d;by_cases h1:c=82\/c=69<;>by_cases h2:c=76\/c=69<;>simp[h1,h2] at d
  .subst d;show (g _ ((r.resolve_right h2).2)).1 o
  .subst d;show (g _ ((A.resolve_right h1).2)).1 o
  rcases d with rfl|rfl
  .exact (g _ ((A.resolve_right h1).2)).1 o
  show (g _ ((r.resolve_right h2).2)).1 o
 rw[E,aw] at d;rcases d with d|d
 .unfold come at d;by_cases h1:c=82\/c=69<;>by_cases h2:c=76\/c=69<;>simp[h1,h2] at d
  .subst d;show aG u
  .subst d;show w
  rcases d with rfl|rfl
  .exact w
  show aG u
 show ne s ((y s).mpr (bo _ d))
theorem zM{f:Fr}{a:Lt}{x:Nat}(h:Ok f)(ha:Lets a)(b:f.can a=some x):Ok (f.put a x):=by
 obtain⟨ls,ts,n⟩:=f;rcases qk ls with rfl|⟨ah,loop,e⟩
 .cases b
 rw[qi] at e;subst e;rw[ke] at b;rw[mK];obtain⟨j,u,v,y⟩:=jK b;have w:=BO h rfl ha b;have d:2<=loop.length:=h.two loop ∅;have g:=vJ d ha j λl d=>h.two l (bM _ d);have o:=h.tot;have p:=h.num;dsimp only at o p;have A:x<max n (x+1):=();have old:∀c,(∃l∈ah++[loop],c∈l)->c<n:=λc ⟨l,h1,h2⟩=>h.big l h1 c h2;have B:x<=n:=by
  rcases qU j with ⟨_,z⟩|z
  .lia
  show nR (old x z)
 obtain⟨t,m⟩:=two d;have C:g1 loop<n:=old _ ⟨loop,∅,by rw[m];simp[g1]⟩;have D:g2 loop<n:=old _ ⟨loop,∅,by rw[m];simp[g2]⟩;show⟨g.1,?_,?_,?_,?_,w.2.1,w.2.2⟩
 .dsimp only;rw[ao];have:=g.2.1;simp only[aS,iQ];lia
 .dsimp only;rw[ao];simp only[aS,iQ];lia
 .intro l q c r;dsimp only;rcases g.2.2 l q c r with z|z
  .lia
  have:=old c z;lia
 intro s i;dsimp only at i |-;rw[r_,aw] at i;rcases i with z|z
 .have:=h.bigT s z;dsimp only at this;lia
 simp only[ae,bq,or_false] at z;rcases z with rfl|rfl|rfl<;>(dsimp only;lia)
end K31
end
section
namespace L2
open PySem PySem.Spec PyProof.Rows
open AutoSeq1 (wpAny_loadPart')
section
variable {prog:Program}{it l:Addr}
theorem D1{i:Nat}{items:Array Value}{x:Value}{Q:Value->Shared->Prop}(hit:s.heap.IsRevIter it l (i:Int))(d:s.heap.IsList l items)(e:items[i]?=some x)
  (c:∀h',h'.IsRevIter it l ((i:Int)-1)->Heap.SameBut it s.heap h'->Q x {s with heap:=h'}):wpAny (model prog w) A (Builtin.SmallTypes.nextOf (.ref it)) Q E s:=by
 obtain⟨o,b,f,hd⟩:=id hit;obtain⟨ol,g,_,nl,h⟩:=d;unfold Builtin.SmallTypes.nextOf;show ag (oh (name:=Str.ofString "__next__") hit.typeIs u5 (iY u5 hit.typeIs LH ?_ (LB _)));unfold Builtin.«list_reverseiterator.__next__»;show ag (vi (a:=(Value.ref it,[])) rfl ?_)
 try dsimp only
 show ag (iZ b hd (x:=rawInt (i:Int)) rfl ?_);change wpAny _ _ (if (i:Int)<0 then _ else _) _ _ s;rw[Np ()];change wpAny _ _ (field (.ref it) 0 >>= _) _ _ s;show ag (iZ b hd (x:=.ref l) rfl ?_);change wpAny _ _ (seqItems? (.ref l) >>= _) _ _ s;show ag (Mp g h ?_);simp only[js,e];show ag (Bm b hd ∅ ?_)
 first
 |show aB ⟨x,rfl,aB (c _ ?_ (ux ..))⟩
 |show ag (aB (aB ⟨x,rfl,aB (c _ ?_ (ux ..))⟩))
 show⟨_,kG _ b (Ls (uU hd _)),(Lr ..).trans f,by rw[uU hd];simp⟩
theorem D0{Q:Value->Shared->Prop}(b:A.handled=none)(hit:s.heap.IsRevIter it l (-1))
  (c:∀h' e,Heap.ExtBut it s.heap h'->(∃o,h'.get? e=some o/\o.cls=.type "StopIteration")->E (.ref e) {s with heap:=h'}):wpAny (model prog w) A (Builtin.SmallTypes.nextOf (.ref it)) Q E s:=by
 obtain⟨o,d,f,hd⟩:=id hit;unfold Builtin.SmallTypes.nextOf;show ag (oh (name:=Str.ofString "__next__") hit.typeIs u5 (iY u5 hit.typeIs LH ?_ (LB _)));unfold Builtin.«list_reverseiterator.__next__»;show ag (vi (a:=(Value.ref it,[])) rfl ?_)
 try dsimp only
 show ag (iZ d hd (x:=rawInt (-1)) rfl ?_);change wpAny _ _ (if (-1:Int)<0 then _ else _) _ _ s;rw[Nq ⋯];show ag (vj ?_)
 first
 |change wpAny _ _ (newExc (.type "StopIteration") [] >>= _) _ _ _
 |(show ag ?_;change wpAny _ _ (newExc (.type "StopIteration") [] >>= _) _ _ _)
 show ag ?_;simp only[newExc,newTuple];show ag (oj ?_ (by size_fits));show ag (m:=firstArgMember _ _) (vi (a:=Value.none) (by first|rfl|(simp only[firstArgMember];rfl)) ?_);show oj ?_ (by size_fits);simp only[raiseNew];show ag (wpAny_handled ?_)
 first|rw[show A.in1.handled=none from b] | rw[b]
 show ag (aB (wpAny_throw ?_));show c _ _ (((Mr _ _).push _).push _) ⟨_,cw _ rfl,rfl⟩
end
theorem wu{prog:Program}(c:A.handled=none)(it l:Addr)(d:l≠it)(items:Array Value) :
  Draws prog w A it [it,l] items.size (λi v=>items[items.size-1-i]?=some v) (λi h=>i<=items.size/\h.IsRevIter it l ((items.size:Int)-1-(i:Int))/\h.IsList l items) where
 live:=λ_ _ st=>let ⟨o,f,_⟩:=st.2.1;⟨o,f⟩
 frame:=λ_ _ _ st a=>⟨st.1,st.2.1.at λo e=>a it ∅ o e,st.2.2.at λo e=>a l ∅ o e⟩
 item:=λi s Q E hi st g=>by
  have j:(items.size:Int)-1-(i:Int)=((items.size-1-i:Nat):Int):=();have h1:=st.2.1;rw[j] at h1;show D1 h1 st.2.2 (x:=items[items.size-1-i]'()) ∅ λh' m b=>?_;show g _ h' s.toks ∅ ⟨(),?_,st.2.2.extBut b.extBut d⟩ b;rw[show (items.size:Int)-1-((i+1:Nat):Int)=((items.size-1-i:Nat):Int)-1 by lia];show m
 done:=λs Q E st n=>by
  have h1:=st.2.1;rw[show (items.size:Int)-1-(items.size:Int)=-1 by lia] at h1;show D0 c h1 n
theorem BJ(r l:Addr)(i:Int)(o:Obj) :
  Meets (Builtin.«enumerate.__new__» ⟨[.type "enumerate",.ref r],[]⟩) (λ_ R s=>s.heap.get? r=some o/\s.heap.IsRevIter r l i/\
   R (.ok (.ret (.ref ↥s))) {s with heap:=s.heap.push {cls:=.type "enumerate",data:=.fields #[.none,.bool false,.ref r,rawInt 0,.none,.none]}}):=
 .of_wp λprog w A R s h=>by
  obtain⟨e,g,d,tk,os⟩:=s;obtain⟨a,b,h⟩:=h;have f:=sub_enumerate
  wp_walk using oi a
  show wpAny_stack_any λst=>aB ?_
  split
  .rename_i c _ _ _ _ _;cases (c==Value.type "enumerate")
   .wp_walk using oi a,qM b
    show⟨_,rfl,h⟩
   wp_walk using oi a,qM b
   show⟨_,rfl,h⟩
  wp_walk using oi a,qM b
  show⟨_,rfl,h⟩
theorem Ct{prog:Program}{w:World}{A:Around}{E:Value->Shared->Prop}{r l:Addr}{i:Int}{Q:Value->Shared->Prop}(a:s.heap.IsRevIter r l i)
  (h:Q (.ref ↥s) {s with heap:=s.heap.push {cls:=.type "enumerate",data:=.fields #[.none,.bool false,.ref r,rawInt 0,.none,.none]}}) :
  wpAny (model prog w) A (call (.type "enumerate") [.ref r]) Q E s:=by
 obtain⟨o,b,_⟩:=id a;show callType_new PySem.F.called_enumerate ⋯ (PySem.F.typeCall_enumerate_1 _) (PySem.F.newCall_enumerate_1 _) (λobj=>PySem.F.args_object_init_2 obj _) PySem.F.entry_enumerate_new (BJ r l i o) ⟨b,a,?_⟩;show⟨⟨_,cw _ rfl,rfl⟩,h⟩
def ny(K:W.Frag)(a:Addr)(n:Nat):It:=
 ⟨λi H=>∃xs x,SqL K H a xs/\xs.length=n/\i<n/\xs[n-1-i]?=some x,
  λi H v H'=>∃p x,H p=none/\v=.ref p/\H'=upd H p (.tup [.int (i:Int),x])/\∀xs,SqL K H a xs->xs[n-1-i]?=some x,
  λi H=>i=n/\∃xs,SqL K H a xs/\xs.length=n⟩
theorem BU{elts:List Expr}{x1}{pos:Pos}(a it e:Addr)(n:Nat)(C:e≠it) :
  Turn P w K (.Tuple elts x1 pos) (ny [] a n) [e,it] e (λi h=>(∃old,IsEnum h e it (i:Int) old)/\h.IsRevIter it a ((n:Int)-1-(i:Int))) where
 mem:=∅
 obj:=λi h st b g=>by
  obtain⟨⟨old,f⟩,o,e2,c,d⟩:=st;rcases ae.mp g with z|z
  .subst z;show⟨_,f,λv z=>by
    have z':Data.fields _=Data.cell v:=z;cases z'⟩
  have z:b=it:=‹z›
  subst z;show⟨o,e2,λv z=>by rw[d] at z;cases z⟩
 keep:=λi h h' st k=>by
  obtain⟨⟨old,f⟩,j⟩:=st;show⟨⟨old,k e ∅ _ f⟩,j.at λo q=>k it ∅ o q⟩
 item:=by
  intro X L hw M N i Nw s Z H E I hf st O;subst L hw M;obtain⟨xs,x,y,hn,hi,T⟩:=O;obtain⟨⟨old,f⟩,j⟩:=st;obtain⟨m,B,p,hz⟩:=I.list y;have hl:=B.length;obtain⟨u,hu,ru⟩:=B.get T;have Q:a≠it:=λz=>by
   obtain⟨o1,g1,_,R⟩:=j;obtain⟨U,g2,_,_,l⟩:=p.isList;rw[z,g1] at g2;cases g2;rw[R] at l;cases l
  have am:e≠a:=λz=>by
   obtain⟨U,g2,_,_,l⟩:=p.isList;rw[<-z] at g2;have S:=f;unfold IsEnum at S;rw[g2] at S;cases S;cases l
  have hsz:m.toArray.size=n:=by rw[bK];lia
  have D:=wu (prog:=X.prog) (w:=X.w) (A:=X.A.in1) (I.ok.hd N) it a Q m.toArray;rw[hsz] at D;show Mo D f (i:=i) ⟨(),j,p.isList⟩ hi C (λz=>by
   simp only[ae,bq,or_false] at z;show z.elim C am) λv h1 tk Y an ap a0 bb a1=>?_
  have a2:v=u:=by
   have h2:m.toArray[n-1-i]?=some u:=‹hu›
   rw[h2] at Y;show (cy Y).symm
  subst a2;show⟨_,rfl,?_⟩;show Mk an λh2 a3 r=>?_;replace r:Heap.SameBut e h1 h2:=r;have a4:s.heap.get? ↥s=none:=uy (ax _);have ad:e<↥s:=aN f;have a5:it<↥s:=by obtain⟨_,q,_⟩:=j;show aN q
  have a6:H ↥s=none:=I.hok.fresh (ax _);have ah:h2.get? ↥s=some {cls:=.type "tuple",data:=.seq #[.int i tk,v]}:=(r.2 _ (fZ ad)).trans a0;have I2:Inv X Nw Z (upd H ↥s (.tup [.int (i:Int),x])) {s with heap:=h2,toks:=tk+1}:=by
   show I.turnLaid (ch:=[e,it]) hf (λb o g q=>?_) a4 λH'=>?_
   .have al:b≠e:=λz=>g (by simp[z]);have ba:b≠it:=λz=>g (by simp[z]);show (r.2 b al).trans (a1 b o al ba q)
   show⟨⟨by simp;rw[f_];lia,_,ah,rfl⟩,[.int i tk,v],.cons ⟨_,rfl⟩ (.cons ru .nil),⟨_,ah,rfl,_,rfl⟩⟩
  show⟨.ref ↥s,_,I2,rfl,⟨↥s,x,a6,rfl,rfl,λys hy=>by rw[I.list_inj hy y];show T⟩,⟨⟨_,a3⟩,?_⟩,λb g=>?_⟩
  .obtain⟨_,⟨o,q1,q2⟩,_⟩:=ap;show⟨o,(r.2 it (aG C)).trans q1,q2⟩
  have:b≠↥s:=by
   rcases ae.mp g with z|z
   .rw[z];show b_ ad
   rw[(by simpa using z:b=it)];show b_ a5
  rw[bh this];show (hf b g).1
 done:=by
  intro X L hw M N i Nw s Z H E I hf st O;subst L hw M;obtain⟨hi,xs,y,hn⟩:=O;obtain⟨⟨old,f⟩,j⟩:=st;obtain⟨m,B,p,hz⟩:=I.list y;obtain⟨f0,f1,f2,f3,f4,f5⟩:=hf it ∅;have hl:=B.length;have Q:a≠it:=λz=>by
   obtain⟨o1,g1,_,R⟩:=j;obtain⟨U,g2,_,_,l⟩:=p.isList;rw[z,g1] at g2;cases g2;rw[R] at l;cases l
  have hsz:m.toArray.size=n:=by rw[bK];lia
  have D:=wu (prog:=X.prog) (w:=X.w) (A:=X.A.in1) (I.ok.hd N) it a Q m.toArray;rw[hsz] at D;rw[hi] at j;show wpAny_pyNext_enum_endD D f ⟨ax _,j,p.isList⟩ λh' eb=>⟨rfl,I.turned (t':=s.toks) (λb o g q=>eb b o g q) f0 f1 f3 f4 f5⟩
 self:=λ_ _ _ _ _ st h=>by
  obtain⟨⟨old,f⟩,_⟩:=st;show qK f h
section
def Gc(K:W.Frag)(R:It->Hp->Prop)(vs:List V)(H1:Hp)(a:Addr)(xs:List V):Prop:=vs=[.ref a]/\SqL K H1 a xs/\R (ny K a xs.length) H1
def Gb(K:W.Frag)(R:It->Hp->Prop):List V->Hp->Prop:=λvs H1=>Exists (Ex2 (Gc K R vs H1))
def IR(K:W.Frag)(ta:TA):TI:=λZ H R=>ta Z H (Gb K R)
theorem xi{elts:List Expr}{j}{tpos:Pos}{a:Expr}{ta:TA}{p pos p2 pos2:Pos}(l:Gl X "enumerate")(hm:X.mg "enumerate" = none)(m:Gl X "reversed")(n:X.mg "reversed" = none)(ha:PA X [a] ta)(r:starEach [a] X.env=[(false,eval a X.env)]:=by rfl)
  (f:starEach [.Call (.Name "reversed" p2) [a] [] pos2] X.env=[(false,eval (.Call (.Name "reversed" p2) [a] [] pos2) X.env)]:=by rfl) :
  PI X (.Tuple elts j tpos) (.Call (.Name "enumerate" p) [.Call (.Name "reversed" p2) [a] [] pos2] [] pos) (IR [] ta):=by
 intro Nw s Z H R I h;have x:∀(s:Shared)(Q:List Value->Shared->Prop),wpAny ⇑X X.A (eval (.Call (.Name "reversed" p2) [a] [] pos2) X.env) (λv s'=>Q [v] s') X.xe s->wpAny ⇑X X.A (spliced (backTo pos (starEach [.Call (.Name "reversed" p2) [a] [] pos2] X.env))) Q X.xe s:=λs Q y=>by
  rw[f];change wpAny _ _ (spliced ((false,_)::backTo pos [])) _ _ s;show nH (thn y λu s1 q=>uw q)
 show Call_ (fV I l hm A9 (iX (x _ _ ?_) f rfl));show Call_ (fV I m n vE (iX (thn (ha pos2 Nw s Z H _ I h) λus s1 ⟨vs,H1,d,B,q1⟩=>?_) r rfl));obtain⟨a,xs,e,C,q⟩:=q1;subst e;obtain⟨u,rfl,D⟩:=Vals.one B;cases D;obtain⟨c,E,K,hz⟩:=d.list C;have O:=E.length;show L4 K.isList ?_;have new:(s1.heap.push (revObj a ((c.toArray.size:Int)-1))).IsRevIter ↥s1 a ((xs.length:Int)-1-((0:Nat):Int)):=by
  have e:(xs.length:Int)-1-((0:Nat):Int)=(c.toArray.size:Int)-1:=by rw[bK];lia
  rw[e];show⟨_,cw _ rfl,rfl,rfl⟩
 show Ct (s:={s1 with heap:=s1.heap.push (revObj a ((c.toArray.size:Int)-1))}) new ?_;have L:Inv X Nw Z H1 {s1 with heap:=s1.heap.push (revObj a ((c.toArray.size:Int)-1))}:=d.kept (t':=s1.toks) λb o e=>bg _ e;have M:=L.kept (h':=(s1.heap.push (revObj a ((c.toArray.size:Int)-1))).push {cls:=.type "enumerate",data:=.fields #[.none,.bool false,.ref ↥s1,rawInt 0,.none,.none]}) (t':=s1.toks) λb o e=>bg _ e;have g:(s1.heap.push (revObj a ((c.toArray.size:Int)-1))).objs.size=↥s1+1:=p_ ..;have he:IsEnum ((s1.heap.push (revObj a ((c.toArray.size:Int)-1))).push {cls:=.type "enumerate",data:=.fields #[.none,.bool false,.ref ↥s1,rawInt 0,.none,.none]}) (↥s1+1) ↥s1 0 .none:=by have:=cw (s1.heap.push (revObj a ((c.toArray.size:Int)-1))) (o:={cls:=.type "enumerate",data:=.fields #[.none,.bool false,.ref ↥s1,rawInt 0,.none,.none]}) rfl;rw[g] at this;show this
 change wpAny _ _ (pyIter (.ref (s1.heap.push (revObj a ((c.toArray.size:Int)-1))).objs.size)) _ _ _;rw[g];show qK he ?_;show⟨_,[↥s1+1,↥s1],_,_,H1,rfl,M,BU a _ _ xs.length (A2 _),⟨⟨.none,he⟩,new.at λo q=>bg _ q⟩,λb N=>?_,q⟩;have i:↥s1<=b:=by
  rcases ae.mp N with z|z
  .rw[z];show qB _
  have:b=↥s1:=‹z›
  show uQ this.symm
 show d.fpOk i (d.hok.fresh i)
end
theorem wt{a:Addr}{g:TG}{tb:TS}{D:Ends}(Pv:Nat->St->Hp->Prop)(f:Pv 0 Z H)(h:∀i Z H,i<=xs.length->Pv i Z H->SqL K H a xs)
  (j:∀i x p Z H,i<xs.length->xs[xs.length-1-i]?=some x->Pv i Z H->H p=none->g (.ref p) Z (upd H p (.tup [.int (i:Int),x])) λσ2 H2=>tb {D with nx:=Pv (i+1),ct:=Pv (i+1),bk:=D.nx} σ2 H2) (hd:∀Z H,Pv xs.length Z H->D.nx Z H) :
  ∃W:Nat->Nat->St->Hp->Prop,(∃m,W 0 m Z H)/\∀i m Z H,W i m Z H->
   ((ny K a xs.length).stop i H/\D.nx Z H)\/((ny K a xs.length).go i H/\∃N:St->Hp->Prop,(∀Z' H',N Z' H'->∃d,d<m/\W (i+1) d Z' H')/\∀x H',(ny K a xs.length).yld i H x H'->g x Z H' λσ2 H2=>tb {D with nx:=N,ct:=N,bk:=D.nx} σ2 H2):=by
 show⟨λi m Z H=>m=xs.length-i/\i<=xs.length/\Pv i Z H,⟨xs.length,∅,aQ _,f⟩,?_⟩;rintro i m Z H ⟨rfl,hi,p⟩;have q:=h i Z H hi p;by_cases c:i<xs.length
 .refine .inr ⟨⟨xs,xs[xs.length-1-i]'(),q,rfl,c,aP ()⟩,Pv (i+1),λZ' H' p'=>⟨xs.length-(i+1),(),rfl,c,p'⟩,λx H' y=>?_⟩;obtain⟨b,v,l,rfl,rfl,y⟩:=y;show j i v b Z H c (y xs q) p l
 have e:i=xs.length:=();subst e;show .inl ⟨⟨rfl,xs,q,rfl⟩,hd Z H p⟩
theorem xC{a:Addr}{g:TG}{tb:TS}{D:Ends}(Pv:Nat->St->Hp->Prop)(f:Pv 0 Z H)(h:∀i Z H,i<=xs.length->Pv i Z H->SqL K H a xs)
  (j:∀i x p Z H,xs[i]?=some x->Pv i Z H->H p=none->g (.ref p) Z (upd H p (.tup [.int (i:Int),x])) λσ2 H2=>tb {D with nx:=Pv (i+1),ct:=Pv (i+1),bk:=D.nx} σ2 H2) (hd:∀Z H,Pv xs.length Z H->D.nx Z H) :
  ∃W:Nat->Nat->St->Hp->Prop,(∃m,W 0 m Z H)/\∀i m Z H,W i m Z H->
   ((Ite K a).stop i H/\D.nx Z H)\/((Ite K a).go i H/\∃N:St->Hp->Prop,(∀Z' H',N Z' H'->∃c,c<m/\W (i+1) c Z' H')/\∀x H',(Ite K a).yld i H x H'->g x Z H' λσ2 H2=>tb {D with nx:=N,ct:=N,bk:=D.nx} σ2 H2):=by
 show⟨λi m Z H=>m=xs.length-i/\i<=xs.length/\Pv i Z H,⟨xs.length,∅,aQ _,f⟩,?_⟩;rintro i m Z H ⟨rfl,hi,p⟩;have q:=h i Z H hi p;by_cases d:i<xs.length
 .refine .inr ⟨⟨xs,xs[i],q,aP d⟩,Pv (i+1),λZ' H' p'=>⟨xs.length-(i+1),(),rfl,d,p'⟩,λx H' y=>?_⟩;obtain⟨b,v,l,rfl,rfl,y⟩:=y;show j i v b Z H (y xs q) p l
 have e:i=xs.length:=();subst e;show .inl ⟨⟨xs,q,ax _⟩,hd Z H p⟩
section
variable {prog:Program}
theorem wA{it t:Addr}{items:Array Value}(b:t≠it):∀(n i:Nat)(s:Shared)(Q:List Value->Shared->Prop),s.heap.IsListIter it t i->s.heap.IsList t items->i+n<=items.size->
  (∀h',h'.IsListIter it t (i+n)->Heap.SameBut it s.heap h'->Q ((items.toList.drop i).take n) {s with heap:=h'})->wpAny (model prog w) A (draw (.ref it) n) Q E s
 |0,i,s,Q,hit,_,_,a=>by
  change wpAny _ _ (pure []) Q E s;show aB ‹a s.heap hit (KN ..)›
 |n+1,i,s,Q,hit,c,hle,a=>by
  have d:i<items.size:=();change wpAny _ _ (pyNext (.ref it) >>= _) Q E s;show ag (Bl hit c (x:=items[i]) (by simp[d]) λh1 f e=>?_);show ag (fj (wA b n (i+1) _ _ f (c.extBut e.extBut b) () λh2 g h=>aB ?_));have hd:items.toList.drop i=items[i]::items.toList.drop (i+1):=by simp[eS,d]
  have z:=a h2 (by rw[show i+(n+1)=i+1+n by lia];show g) (e.trans h);rw[hd,List.take_succ_cons] at z;show z
theorem By{t:Addr}{items:Array Value}{Q:List Value->Shared->Prop}(g:A.handled=none)(a:s.heap.IsList t items)
  (h:∀h',Heap.ExtBut ↥s s.heap h'->Q items.toList {s with heap:=h'}):wpAny (model prog w) A (unpackItems (.ref t) items.size none) Q E s:=by
 have c:t≠↥s:=by obtain⟨o,i,_⟩:=a;show b_ (aN i)
 unfold unpackItems;show ag ?_;unfold notIterableAtAll;show ag (vn a.typeIs slot_list_iter.lookup (aB ?_));simp only[iO,if_false];show ag (fj (qL a ?_));show ag (fj (wA c items.size 0 _ _ ⟨_,cw _ rfl,rfl,rfl⟩ (a.push _) () λh1 j d=>?_));have l:List.take items.size (List.drop 0 items.toList)=items.toList:=by rw[kH];show gQ ∅
 rw[l,Np ∅];have m:h1.IsList t items:=(a.push _).extBut d.extBut c;show ag (fj (Bk g ‹j› m ∅ λh2 n=>?_));simp only[Option.isSome_none,iO,if_false];show aB (h h2 λb o f e=>n b o f (d.extBut b o f (bg _ e)))
end
section
variable {pos:Pos}
def Kn(K:W.Frag)(n:Nat)(t:TGs)(v:V)(Z:St)(H:Hp)(Q:St->Hp->Prop)(a:Addr)(xs:List V):Prop:=v=.ref a/\SqL K H a xs/\xs.length=n/\t xs Z H Q
def gLst(K:W.Frag)(n:Nat)(t:TGs):TG:=λv Z H Q=>Exists (Ex2 (Kn K n t v Z H Q))
theorem tM{es:List Expr}{k:Nat}{t:TGs}(d:X.calm=true)(h:PGs X es t)
  (f:(assignEach es X.env).length=es.length:=by rfl) (g:(assignEach es X.env).findIdx? (·.1)=none:=by rfl):PG X (.Tuple es k pos) (gLst [] es.length t):=by
 intro Nw s Z H v u Q I r hw;obtain⟨a,xs,rfl,i,j,hw⟩:=hw;cases r;obtain⟨l,c,p,hz⟩:=I.list i;rw[assign_Tuple];show ag (vp ?_);unfold unpack;have hsz:(assignEach es X.env).length=l.toArray.size:=by simp[f,<-j,c.length]
 rw[hsz,g];show ag (fj (By (I.ok.hd d) p.isList λh' m=>?_));have n:Inv X Nw Z H {s with heap:=h'}:=I.kept (t':=s.toks) λb o e=>m b o (b_ (aN e)) e;show h Nw _ Z H xs _ Q n ‹c› hw
def rAny(K:W.Frag):List V->Hp->VK->Prop:=λxs H Q=>∃(a:Addr)(bs:List Bool),xs=[.ref a]/\SqL K H a (bs.map V.bl)/\Q (.bl (bs.any id)) H
theorem vD(n:X.calm=true):dI X (.builtin "any") (rAny []):=by
 intro Nw s Z H xs us Q I r h;obtain⟨a,bs,rfl,w,q⟩:=h;obtain⟨u,rfl,y⟩:=Vals.one r;cases y;obtain⟨g,j,p,hz⟩:=I.list w;have l:=j.length;rw[aE] at l;have c:=p.isList;have B:a<↥s:=by obtain⟨_,e,_⟩:=c;show aN e
 show call_any_walk (qL c ?_);show⟨↥s,_,_,_,_,_,(λi=>bs.getD i false),rfl,LY (A:=X.A.in1) (I.ok.hd n) _ a (b_ B) g.toArray,⟨⟨_,cw _ rfl,rfl,rfl⟩,c.push _⟩,λi v s' K L C d=>?_,λh' tk D=>?_⟩
 .obtain⟨x,m,f⟩:=rT j (i:=i) (v:=v) ‹C›;rw[cB] at m;obtain⟨b,E,rfl⟩:=eG.mp m;cases f;have:bs.getD i false=b:=by rw[List.getD,E];rfl
  dsimp only at d;rw[this] at d;show gW d
 have e:(List.range g.toArray.size).any (λi=>bs.getD i false)=bs.any id:=by
  rw[bK,<-l];have f:bs=(List.range bs.length).map λi=>bs.getD i false:=by show nM ∅ λi h1 h2=>?_;simp[h1]
  conv=>rhs;rw[f,qh]
  rfl
 rw[e];show⟨.bl _,H,I.kept (t':=tk) λb o e=>D b o (λz=>by rw[aL.mp z] at e;show absurd (aN e) (fh _)) (bg _ e),rfl,q⟩
def tCh4(Q:Bool->Hp->Prop):VK:=λa b=>Exists (tBB Q a b)
def tCh5(a:R2)(y:V)(Q:Bool->Hp->Prop):VK:=λz b=>a y z b (tCh4 Q)
def tChB(b:R2)(tc:TE)(Z:St)(y:V)(Q:Bool->Hp->Prop)(c:V)(a:Hp)(k:Bool):Prop:=c=.bl k/\(if k=true then tc Z a (tCh5 b y Q) else Q false a)
def tCh3(a:R2)(tc:TE)(Z:St)(y:V)(Q:Bool->Hp->Prop):VK:=λc b=>Exists (tChB a tc Z y Q c b)
def tCh2(r a:R2)(tc:TE)(Z:St)(x:V)(Q:Bool->Hp->Prop):VK:=λy H2=>r x y H2 (tCh3 a tc Z y Q)
def tCh1(r a:R2)(tb tc:TE)(Z:St)(Q:Bool->Hp->Prop):VK:=λx H1=>tb Z H1 (tCh2 r a tc Z x Q)
def Fi(r a:R2)(ta tb tc:TE):TT:=λZ H Q=>ta Z H (tCh1 r a tb tc Z Q)
theorem we{a b c:Expr}{op e:CmpOp}{r g:R2}{ta tb tc:TE}(m:OpR X (compareOp op) r)(n:OpR X (compareOp e) g)(ha:PE X a ta)(o:PE X b tb)(p:PE X c tc)
  (hm:lastMarks [op,e] [b,c]=false):PT X (.Compare a [op,e] [b,c] pos) (Fi r g ta tb tc):=by
 intro Nw s Z H Q I h;show isTrue_chain (thn (ha Nw s Z H _ I h) λu s1 ⟨x,H1,q,w,q1⟩=>?_) hm;show test_link (thn (o Nw s1 Z H1 _ q q1) λv s2 ⟨y,H2,A,i,B⟩=>thn (m Nw s2 Z H2 x y u v _ A w i B) λU C ⟨z,j,l,D,d⟩=>?_);obtain⟨k,rfl,d⟩:=d;cases D;show gW ?_;cases k with
 |false=>show⟨j,l,d⟩
 |true=>
  show test_last (thn (p Nw C Z j _ l d) λE K ⟨L,M,N,O,P⟩=>thn (n Nw K Z M y L v E _ N i O P) λY s5 ⟨z',R,S,T,f⟩=>?_);obtain⟨k',rfl,f⟩:=f;cases T;show gW ⟨R,S,f⟩
end
end L2
end
section
namespace K15
abbrev Tri:=Nat×Nat×Nat
abbrev Ent:=(Nat×Nat)×Nat
def ents(ts:List Tri):List Ent:=ts.flatMap λt=>[((t.1,t.2.1),t.2.2),((t.2.1,t.2.2),t.1),((t.2.2,t.1),t.2.1)]
theorem c9{ts:List Tri}{a b c:Nat}:((a,b),c)∈ents ts↔(a,b,c)∈ts\/(c,a,b)∈ts\/(b,c,a)∈ts:=by
 unfold ents;rw[eU];constructor
 .rintro⟨⟨x,y,z⟩,d,h⟩;simp only[ae,bq,or_false,bz] at h;rcases h with ⟨⟨rfl,rfl⟩,rfl⟩|⟨⟨rfl,rfl⟩,rfl⟩|⟨⟨rfl,rfl⟩,rfl⟩
  .exact .inl d
  .exact .inr (.inl d)
  show .inr (.inr d)
 rintro (h|h|h)
 .exact⟨_,h,∅⟩
 .exact⟨_,h,∅⟩
 show⟨_,h,∅⟩
structure Sk(E:Nat->Nat->Nat->Prop):Prop where
 rot:∀{a b c},E a b c->E b c a
 one:∀{a b c d},E a b c->E a b d->c=d
 ne:∀{a b c},E a b c->a≠b
def En(ts:List Tri)(a b c:Nat):Prop:=((a,b),c)∈ents ts
structure Good(ts:List Tri):Prop where
 ne:∀t∈ts,t.1≠t.2.1/\t.2.1≠t.2.2/\t.2.2≠t.1
 nd:((ents ts).map (·.1)).Nodup
theorem wj{α β:Type}{l:List (α×β)}(h:(l.map (·.1)).Nodup){a:α}{b c:β}(g:(a,b)∈l)(i:(a,c)∈l):b=c:=by
 induction l with
 |nil=>cases g
 |cons x l m=>
  rw[az,aR] at h;rcases ae.mp g with e|j
  .rcases ae.mp i with d | f
   .rw[<-e] at d;show (dz d).2.symm
   show (h.1 (aq.mpr ⟨_,f,by rw[<-e]⟩)).elim
  rcases ae.mp i with d | f
  .exact (h.1 (aq.mpr ⟨_,j,by rw[<-d]⟩)).elim
  show m h.2 j f
theorem jF{l:List Nat}(h:l.Nodup):∀{i j x:Nat},l[i]?=some x->l[j]?=some x->i=j:=by
 induction l with
 |nil=>intro i j x h1;simp at h1
 |cons a l b=>
  intro i j x h1 h2;rw[aR] at h;cases i with
  |zero=>
   cases j with
   |zero=>rfl
   |succ j=>
    simp at h1 h2;subst h1;show (h.1 (a_ h2)).elim
  |succ i=>
   cases j with
   |zero=>
    simp at h1 h2;subst h2;show (h.1 (a_ h1)).elim
   |succ j=>
    simp at h1 h2;rw[b h.2 h1 h2]
theorem Good.sk{ts:List Tri}(g:Good ts):Sk (En ts):=by
 show⟨λ{a b c} h=>?_,λ{a b c d} h1 h2=>wj g.nd h1 h2,λ{a b c} h=>?_⟩
 .unfold En at *;rw[c9] at *;rcases h with h|h|h
  .exact .inr (.inl h)
  .exact .inr (.inr h)
  show .inl h
 unfold En at h;rw[c9] at h;rcases h with h|h|h
 .exact (g.ne _ h).1
 .exact (g.ne _ h).2.1
 show (g.ne _ h).2.2
section
variable {E:Nat->Nat->Nat->Prop}
theorem Sk.inj(k:Sk E){v p p' q:Nat}(h:E v p q)(h':E v p' q):p=p':=k.one (k.rot (k.rot h)) (k.rot (k.rot h'))
structure Fan(E:Nat->Nat->Nat->Prop)(v:Nat)(F:List Nat):Prop where
 ne:F≠[]
 nd:F.Nodup
 ch:∀i p q,F[i]?=some p->F[i+1]?=some q->E v p q
 key:∀p∈F,∃q,E v p q
 clF:∀p∈F,∀q,E v p q->(∃r,E v q r)->q∈F
 clB:∀p∈F,∀o,E v o p->o∈F
def One(E:Nat->Nat->Nat->Prop)(v:Nat):Prop:=∃F,Fan E v F/\∀p,(∃q,E v p q)->p∈F
theorem E3{v:Nat}{F G:List Nat}(ch:∀i p q,F[i]?=some p->F[i+1]?=some q->E v p q)(key:∀p∈F,∃q,E v p q)(f:Fan E v G){x:Nat}(l:x∈F)(g:x∈G):∀y∈F,y∈G:=by
 obtain⟨j,b⟩:=nQ l;have n:∀(m:Nat)(y:Nat),F[j+m]?=some y->y∈G:=by
  intro m;induction m with
  |zero=>intro y a;rw[uP,b] at a;cases a;show g
  |succ m c=>
   intro y a;have d:j+m<F.length:=by have:=(aI.mp a).1;lia
   have h1:F[j+m]?=some F[j+m]:=aP d;show f.clF _ (c _ h1) y (ch (j+m) _ _ h1 a) (key y (a_ a))
 have o:∀m:Nat,m<=j->∀y:Nat,F[j-m]?=some y->y∈G:=by
  intro m;induction m with
  |zero=>intro _ y a;rw[uT,b] at a;cases a;show g
  |succ m c=>
   intro hm y a;have d:j-m<F.length:=by have:=(aI.mp b).1;lia
   have h1:F[j-m]?=some F[j-m]:=aP d;have e:j-(m+1)+1=j-m:=();show f.clB _ (c () _ h1) y (ch (j-(m+1)) _ _ a (by rw[e];show h1))
 intro y a;obtain⟨i,hi⟩:=nQ a;by_cases h:j<=i
 .exact n (i-j) y (by rw[show j+(i-j)=i by lia];show hi)
 show o (j-i) () y (by rw[show j-(j-i)=i by lia];show hi)
theorem EL(k:Sk E){v:Nat}{fs:List (List Nat)}{left F:List Nat}{x0:Nat}(f:∀G∈fs,Fan E v G)(j:∀p,(∃q,E v p q)->p∈left\/∃G∈fs,p∈G)(l:∀p∈left,∀G∈fs,p∉G)
  (nd:F.Nodup) (key:∀p∈F,∃q,E v p q) (ch:∀i p q,F[i]?=some p->F[i+1]?=some q->E v p q) (c:x0∈F) (m:x0∈left)
  (n:∀p,F.getLast?=some p->∀q,E v p q->q∈left->q∈F) (r:∀p,F.head?=some p->∀o,E v o p->o∈F):Fan E v F/\∀p∈F,∀G∈fs,p∉G:=by
 have dis:∀p∈F,∀G∈fs,p∉G:=λp a G b s=>l x0 m G b (E3 ch key (f G b) a s x0 c);show⟨⟨λz=>(by rw[z] at c;cases c),nd,ch,key,λp a q d u=>?_,λp a o g=>?_⟩,dis⟩
 .obtain⟨i,hi⟩:=nQ a;have w:=(aI.mp hi).1;by_cases h:i+1<F.length
  .have h1:F[i+1]?=some F[i+1]:=aP h;rw[k.one d (ch i _ _ hi h1)];show a_ h1
  have e:F.getLast?=some p:=by rw[qp,show F.length-1=i by lia];show hi
  rcases j q u with z|⟨G,b,x⟩
  .exact n p e q d z
  show (dis p a G b ((f G b).clB q x p d)).elim
 obtain⟨i,hi⟩:=nQ a;cases i with
 |zero=>show r p (by rw[AN];show hi) o g
 |succ i=>
  have w:=(aI.mp hi).1;have h1:F[i]?=some F[i]:=aP ();rw[k.inj g (ch i _ _ h1 hi)];show a_ h1
structure Fans(E:Nat->Nat->Nat->Prop)(v:Nat)(fs:List (List Nat)):Prop where
 fan:∀F∈fs,Fan E v F
 all:∀p,(∃q,E v p q)->∃F∈fs,p∈F
 dis:fs.Pairwise λF G=>∀p∈F,p∉G
def rn(v n:Nat)(F:List Nat)(a b:Nat):Nat:=if a=v/\b∈F then n else a
def ren(v n:Nat)(F:List Nat)(t:Tri):Tri:=(rn v n F t.1 t.2.1,rn v n F t.2.1 t.2.2,rn v n F t.2.2 t.1)
def Rn(E:Nat->Nat->Nat->Prop)(v n:Nat)(F:List Nat)(x y z:Nat):Prop:=∃a b c,E a b c/\x=rn v n F a b/\y=rn v n F b c/\z=rn v n F c a
theorem I0{ts:List Tri}{v n:Nat}{F:List Nat}{x y z:Nat}:En (ts.map (ren v n F)) x y z↔Rn (En ts) v n F x y z:=by
 unfold En Rn;rw[c9];constructor
 .intro h;have key:∀p q r,(p,q,r)∈ts.map (ren v n F)->∃a b c,(a,b,c)∈ts/\p=rn v n F a b/\q=rn v n F b c/\r=rn v n F c a:=by
   intro p q r j;obtain⟨⟨a,b,c⟩,d,e⟩:=aq.mp j;unfold ren at e;simp only[bz] at e;show⟨a,b,c,d,e.1.symm,e.2.1.symm,e.2.2.symm⟩
  rcases h with h|h|h
  .obtain⟨a,b,c,d,f,g,i⟩:=key _ _ _ h;show⟨a,b,c,c9.mpr (.inl d),f,g,i⟩
  .obtain⟨a,b,c,d,f,g,i⟩:=key _ _ _ h;show⟨b,c,a,c9.mpr (.inr (.inl d)),g,i,f⟩
  obtain⟨a,b,c,d,f,g,i⟩:=key _ _ _ h;show⟨c,a,b,c9.mpr (.inr (.inr d)),i,f,g⟩
 rintro⟨a,b,c,h,rfl,rfl,rfl⟩;rcases c9.mp h with h|h|h
 .exact .inl (aq.mpr ⟨_,h,rfl⟩)
 .exact .inr (.inl (aq.mpr ⟨_,h,rfl⟩))
 show .inr (.inr (aq.mpr ⟨_,h,rfl⟩))
theorem fJ{v n:Nat}{F:List Nat}{a b:Nat}(h:a≠v):rn v n F a b=a:=by unfold rn;rw[Np λz=>h z.1]
theorem pI{v n:Nat}{F:List Nat}{b:Nat}(h:b∈F):rn v n F v b=n:=by unfold rn;rw[Nq ⟨rfl,h⟩]
theorem tH{v n:Nat}{F:List Nat}{b:Nat}(h:b∉F):rn v n F v b=v:=by unfold rn;rw[Np λz=>h z.2]
section
variable {v n:Nat}{F:List Nat}
theorem ik{a b:Nat}(ha:a≠n)(h:rn v n F a b=n):a=v/\b∈F:=by
 unfold rn at h
 split at h
 .assumption
 show (ha h).elim
theorem fN{a b:Nat}(h:rn v n F a b≠n):rn v n F a b=a:=by
 unfold rn at h |-
 split
 .rename_i z;rw[Nq z] at h;show (h rfl).elim
 rfl
variable (k:Sk E)(fr:∀a b c,E a b c->a≠n)(hF:Fan E v F)
include k fr
theorem l8{p q:Nat}:Rn E v n F n p q↔E v p q/\p∈F:=by
 constructor
 .rintro⟨a,b,c,h,d,rfl,rfl⟩;obtain⟨rfl,e⟩:=ik (fr _ _ _ h) d.symm;rw[fJ (aG (k.ne h)),fJ (k.ne (k.rot (k.rot h)))];show⟨h,e⟩
 rintro⟨h,f⟩;show⟨v,p,q,h,(pI f).symm,(fJ (aG (k.ne h))).symm,(fJ (k.ne (k.rot (k.rot h)))).symm⟩
theorem jS(e:v≠n){p q:Nat}:Rn E v n F v p q↔E v p q/\p∉F:=by
 constructor
 .rintro⟨a,b,c,h,d,rfl,rfl⟩;have:a=v:=by
   have f:=fN (v:=v) (n:=n) (F:=F) (a:=a) (b:=b) (by rw[<-d];show e);rw[d,f]
  subst this;have g:b∉F:=λz=>by rw[pI z] at d;show e d
  rw[fJ (aG (k.ne h)),fJ (k.ne (k.rot (k.rot h)))];show⟨h,g⟩
 rintro⟨h,i⟩;show⟨v,p,q,h,(tH i).symm,(fJ (aG (k.ne h))).symm,(fJ (k.ne (k.rot (k.rot h)))).symm⟩
theorem JQ:Sk (Rn E v n F):=by
 show⟨?_,?_,?_⟩
 .rintro x y z ⟨a,b,c,h,f,g,l⟩;show⟨b,c,a,k.rot h,g,l,f⟩
 .rintro x y z A ⟨a,b,c,h,f,g,l⟩ ⟨m,i,r,h',o,p,s⟩;have fa:a≠n:=fr _ _ _ h;have u:m≠n:=fr _ _ _ h';have q:b≠n:=fr _ _ _ (k.rot h);have w:i≠n:=fr _ _ _ (k.rot h');have ea:a=m:=by
   by_cases d:x=n
   .rw[(ik fa (f.symm.trans d)).1,(ik u (o.symm.trans d)).1]
   rw[<-fN (v:=v) (n:=n) (F:=F) (a:=a) (b:=b) (by rw[<-f];show d),<-fN (v:=v) (n:=n) (F:=F) (a:=m) (b:=i) (by rw[<-o];show d),<-f,<-o]
  have eb:b=i:=by
   by_cases j:y=n
   .rw[(ik q (g.symm.trans j)).1,(ik w (p.symm.trans j)).1]
   rw[<-fN (v:=v) (n:=n) (F:=F) (a:=b) (b:=c) (by rw[<-g];show j),<-fN (v:=v) (n:=n) (F:=F) (a:=i) (b:=r) (by rw[<-p];show j),<-g,<-p]
  subst ea eb;rw[l,s,k.one h h']
 rintro x y z ⟨a,b,c,h,rfl,rfl,_⟩;have fa:a≠n:=fr _ _ _ h;have q:b≠n:=fr _ _ _ (k.rot h);have nab:=k.ne h;intro e;by_cases d:rn v n F a b=n
 .have h1:=(ik fa d).1;have h2:=(ik q (e.symm.trans d)).1;show nab (h1.trans h2.symm)
 have h1:=fN d;have h2:=fN (v:=v) (n:=n) (F:=F) (a:=b) (b:=c) (by rw[<-e];show d);show nab (by rw[<-h1,e,h2])
include hF
theorem Ed:One (Rn E v n F) n:=by
 show⟨F,⟨hF.ne,hF.nd,λi p q a b=>(l8 k fr).mpr ⟨hF.ch i p q a b,a_ a⟩,λp a=>?_,λp a q b c=>?_,λp a o d=>((l8 k fr).mp d).2⟩,λp ⟨q,b⟩=>((l8 k fr).mp b).2⟩
 .obtain⟨q,b⟩:=hF.key p a;show⟨q,(l8 k fr).mpr ⟨b,a⟩⟩
 obtain⟨r,c⟩:=c;show ((l8 k fr).mp c).2
omit hF in
theorem EK(c:v≠n){G:List Nat}(b:Fan E v G)(hd:∀p∈F,p∉G):Fan (Rn E v n F) v G:=by
 have out:∀p∈G,p∉F:=λp a z=>hd p z a;show⟨b.ne,b.nd,λi p q a d=>(jS k fr c).mpr ⟨b.ch i p q a d,out p (a_ a)⟩,λp a=>?_,λp a q d e=>?_,λp a o f=>b.clB p a o ((jS k fr c).mp f).1⟩
 .obtain⟨q,d⟩:=b.key p a;show⟨q,(jS k fr c).mpr ⟨d,out p a⟩⟩
 obtain⟨r,e⟩:=e;show b.clF p a q ((jS k fr c).mp d).1 ⟨r,((jS k fr c).mp e).1⟩
theorem CN(U:v≠n){u:Nat}(O:u≠v)(P:u≠n)(h:One E u):One (Rn E v n F) u:=by
 obtain⟨G,m,Q⟩:=h
 let cond:Prop:=(∃q∈F,E u v q)\/((∃p,E u p v)/\u∈F)
 have dec:=Classical.propDecidable cond
 let ρ:Nat->Nat:=λx=>if x=v then (if cond then n else v) else x
 have ρo:∀x,x≠v->ρ x=x:=λx d=>Np d;have ρv:ρ v=if cond then n else v:=Nq rfl
 have L:∀p q,E u p q->rn v n F p q=ρ p:=by
  intro p q h;by_cases s:p=v
  .subst s;by_cases f:q∈F
   .rw[pI f,ρv,Nq (.inl ⟨q,f,h⟩)]
   rw[tH f,ρv,Np];rintro (⟨A,B,h'⟩|⟨⟨p',j⟩,H⟩)
   .exact f (by rw[k.one h h'];show B)
   show f (hF.clB u H q (k.rot h))
  rw[fJ s,ρo p s]
 have M:∀p q,E u p q->rn v n F q u=ρ q:=by
  intro p q h;by_cases f:q=v
  .subst f;by_cases C:u∈F
   .rw[pI C,ρv,Nq (.inr ⟨⟨p,h⟩,C⟩)]
   rw[tH C,ρv,Np];rintro (⟨A,B,h'⟩|⟨_,H⟩)
   .exact C (hF.clF A B u (k.rot h') ⟨p,k.rot (k.rot h)⟩)
   show C H
  rw[fJ f,ρo q f]
 have R:∀b,rn v n F u b=u:=λb=>fJ O;have to:∀p q,E u p q->Rn E v n F u (ρ p) (ρ q):=λp q h=>⟨u,p,q,h,(R p).symm,(L p q h).symm,(M p q h).symm⟩;have back:∀x y,Rn E v n F u x y->∃p q,E u p q/\x=ρ p/\y=ρ q:=by
  rintro x y ⟨a,b,c,h,w,I,S⟩;have ha:a=u:=by
   by_cases d:rn v n F a b=n
   .exact (P (w.trans d)).elim
   rw[w,fN d]
  subst ha;show⟨b,c,h,I.trans (L b c h),S.trans (M b c h)⟩
 have fresh:∀p q,E u p q->p≠n/\q≠n:=λp q h=>⟨fr _ _ _ (k.rot h),fr _ _ _ (k.rot (k.rot h))⟩;have inj:∀x y,x≠n->y≠n->ρ x=ρ y->x=y:=by
  intro x y d g e;by_cases h1:x=v
  .by_cases h2:y=v
   .rw[h1,h2]
   rw[h1,ρo y h2,ρv] at e
   split at e
   .exact (g e.symm).elim
   show (h2 e.symm).elim
  by_cases h2:y=v
  .rw[h2,ρo x h1,ρv] at e
   split at e
   .exact (d e).elim
   show (h1 e).elim
  rw[ρo x h1,ρo y h2] at e;show e
 have D:∀x∈G,x≠n:=λx d=>by
  obtain⟨q,f⟩:=m.key x d;show (fresh x q f).1
 have X:∀x,x≠n->ρ x∈G.map ρ->x∈G:=λx d h=>by
  obtain⟨y,g,e⟩:=aq.mp h;rw[<-inj y x (D y g) d e];show g
 have get:∀(i:Nat)(x:Nat),(G.map ρ)[i]?=some x->∃p,G[i]?=some p/\x=ρ p:=λi x h=>by
  rw[cB] at h;cases e:G[i]? with
  |none=>rw[e] at h;cases h
  |some p=>rw[e] at h;cases h;show⟨p,rfl,rfl⟩
 show⟨G.map ρ,⟨‹m.ne›,?_,λi p q s f=>?_,λp s=>?_,λx d y g K=>?_,λx d y g=>?_⟩,?_⟩
 .have:∀l:List Nat,(∀x∈l,x≠n)->l.Nodup->(l.map ρ).Nodup:=by
   intro l;induction l with
   |nil=>intro _ _;show kM
   |cons a l T=>
    intro h1 h2;rw[aR] at h2;rw[az,aR];show⟨λz=>?_,T (λx d=>h1 x (aZ _ d)) h2.2⟩;obtain⟨y,g,e⟩:=aq.mp z;have:=inj y a (h1 y (aZ _ g)) (h1 a ∅) e;show h2.1 (this ▸ g)
  show this G D m.nd
 .obtain⟨p',j,rfl⟩:=get i p s;obtain⟨A,B,rfl⟩:=get (i+1) q f;show to p' A (m.ch i p' A j B)
 .obtain⟨p',j,rfl⟩:=aq.mp s;obtain⟨q,f⟩:=m.key p' j;show⟨_,to p' q f⟩
 .obtain⟨p',j,rfl⟩:=aq.mp d;obtain⟨p,q,h1,w,rfl⟩:=back _ _ g;have ep:=inj p' p (D p' j) (fresh p q h1).1 w;subst ep;obtain⟨r,K⟩:=K;obtain⟨p2,N,h2,I,_⟩:=back _ _ K;have eq:=inj q p2 (fresh p' q h1).2 (fresh p2 N h2).1 I;subst eq;show aq.mpr ⟨q,m.clF p' j q h1 ⟨N,h2⟩,rfl⟩
 .obtain⟨p',j,rfl⟩:=aq.mp d;obtain⟨p,q,h1,rfl,w⟩:=back _ _ g;have eq:=inj p' q (D p' j) (fresh p q h1).2 w;subst eq;show aq.mpr ⟨p,m.clB p' j p h1,rfl⟩
 rintro x ⟨y,g⟩;obtain⟨p,q,h1,rfl,_⟩:=back _ _ g;show aq.mpr ⟨p,Q p ⟨q,h1⟩,rfl⟩
end
end
end K15
end
section
namespace K31
open PySem L2 K51
theorem same_of{H H1:Hp}{p:Addr}{o:HO}(g:H p=none)(e:upd H p o=H1):Same H H1:=by rw[<-e];show cK g
theorem at_of{H H1:Hp}{p:Addr}{o:HO}(e:upd H p o=H1):H1 p=some o:=by rw[<-e];show bO
def nV(l:List Nat):List V:=l.map λn:Nat=>V.int (n:Int)
def kF(H:Hp)(v:V)(l:List Nat):Prop:=∃a,v=.ref a/\H a=some (.lst (nV l))
abbrev eD(H:Hp):List V->Lps->Prop:=Paired (kF H)
def nu(H:Hp)(v:V)(t:Nat×Nat×Nat):Prop:=∃a,v=.ref a/\H a=some (.tup [.int (t.1:Int),.int (t.2.1:Int),.int (t.2.2:Int)])
abbrev aO(H:Hp):List V->List (Nat×Nat×Nat)->Prop:=Paired (nu H)
theorem kF.same{v:V}{l:List Nat}(s:Same H H')(h:kF H v l):kF H' v l:=by obtain⟨a,e,h⟩:=h;show⟨a,e,s a _ h⟩
theorem eD.same{ls:Lps}(s:Same H H')(h:eD H vs ls):eD H' vs ls:=Paired.imp' (λ_ _ q=>q.same s) h
theorem nu.same{v:V}{t:Nat×Nat×Nat}(s:Same H H')(h:nu H v t):nu H' v t:=by obtain⟨a,e,h⟩:=h;show⟨a,e,s a _ h⟩
theorem aO.same{ls:List (Nat×Nat×Nat)}(s:Same H H')(h:aO H vs ls):aO H' vs ls:=Paired.imp' (λ_ _ q=>q.same s) h
section
variable {α β:Type}{F:α->β->Prop}
theorem aT:∀{xs:List α}{ys:List β},Paired F xs ys->xs.length=ys.length
 |_,_,.nil=>rfl
 |_,_,.cons _ t=>by rw[aS,aS,aT t]
theorem cZ:∀{xs:List α}{ys:List β}{b:List α}{c:List β},Paired F xs ys->Paired F b c->Paired F (xs++b) (ys++c)
 |_,_,_,_,.nil,h=>h
 |_,_,_,_,.cons a t,h=>.cons a (cZ t h)
theorem sP:∀{xs:List α}{ys:List β}(k:Nat),Paired F xs ys->Paired F (xs.take k) (ys.take k)
 |_,_,0,_=>by simp only[qA];show .nil
 |_,_,_+1,.nil=>by simp only[List.take_nil];show .nil
 |_,_,k+1,.cons a t=>.cons a (sP k t)
theorem sS:∀{xs:List α}{ys:List β}(k:Nat),Paired F xs ys->Paired F (xs.drop k) (ys.drop k)
 |_,_,0,h=>h
 |_,_,_+1,.nil=>by simp only[List.drop_nil];show .nil
 |_,_,k+1,.cons a t=>sS k t
theorem mQ:∀{xs:List α}{ys:List β}{i:Nat}{y:β},Paired F xs ys->ys[i]?=some y->∃x,xs[i]?=some x/\F x y
 |_,_,_,_,.nil,h=>by simp at h
 |_,_,0,_,.cons a t,h=>by
  simp at h;subst h;show⟨_,rfl,a⟩
 |_,_,i+1,_,.cons a t,h=>‹mQ (i:=i) t ‹h››
theorem c_:∀{xs:List α}{ys:List β}{i:Nat}{x:α},Paired F xs ys->xs[i]?=some x->∃y,ys[i]?=some y/\F x y
 |_,_,_,_,.nil,h=>by simp at h
 |_,_,0,_,.cons a t,h=>by
  simp at h;subst h;show⟨_,rfl,a⟩
 |_,_,i+1,_,.cons a t,h=>‹c_ (i:=i) t ‹h››
theorem jT{xs:List α}{ys:List β}{y:β}(h:Paired F xs (ys++[y])):∃b x,xs=b++[x]/\Paired F b ys/\F x y:=by
 have c:=aT h;rw[ao] at c;have h1:=sP ys.length h;have h2:=sS ys.length h;rw[List.take_left] at h1;rw[List.drop_left] at h2;cases e:xs.drop ys.length with
 |nil=>rw[e] at h2;cases h2
 |cons x r=>
  rw[e] at h2;cases h2 with
  |cons a t=>
   cases t;show⟨xs.take ys.length,x,by rw[<-e,fY],h1,a⟩
end
theorem bC(l:List Nat):(nV l).length=l.length:=aE ..
theorem gz(l r:List Nat):nV l++nV r=nV (l++r):=(aX ..).symm
theorem pj(n:Nat):[V.int (n:Int)]=nV [n]:=rfl
theorem dS{l:List Nat}{i n:Nat}(h:l[i]?=some n):(nV l)[i]?=some (.int (n:Int)):=by unfold nV;rw[cB,h];rfl
theorem t_(l:List Nat)(i:Int)(k:Nat)(h:i=(k:Int)):eP (nV l) none (some i)=nV (l.take k):=by change fW (nV l) none (some i)=_;rw[h,z_];show (qu ..).symm
theorem GM(l:List Nat)(i:Int)(k:Nat)(h:i=(k:Int)):eP (nV l) (some i) none=nV (l.drop k):=by change fW (nV l) (some i) none=_;rw[h,rP];show (AQ ..).symm
theorem HR(n d:Nat):HT.sIx n d (some (-1))=n-1:=by unfold HT.sIx;dsimp only;rw[Nq ⋯];lia
theorem wr_of{H H1:Hp}{p:Addr}{o:HO}(e:upd H p o=H1):∀b,b≠p->H1 b=H b:=λb a=>by rw[<-e,bh a]
def ky(p q:Nat):List Key:=[Sum.inl (p:Int),Sum.inl (q:Int)]
theorem pz{p q p' a:Nat}:ky p q=ky p' a↔(p,q)=(p',a):=by
 unfold ky;constructor
 .intro h;injection h with h1 h2;injection h2 with h2 _;injection h1 with h1;injection h2 with h2;have:p=p':=();have:q=a:=();simp[*]
 intro h;injection h with h1 h2;rw[h1,h2]
def Keys(kvs:List (List Key×V))(W:Side->Bool):Prop:=∀p q:Nat,(valV kvs (ky p q)).isSome=W (p,q)
def SdAt(H:Hp)(v:V)(s:Side):Prop:=∃a,v=.ref a/\H a=some (.tup ((ky s.1 s.2).map kV))
abbrev SdsAt(H:Hp):List V->List Side->Prop:=Paired (SdAt H)
theorem aO.move{ys:List V}{ls:List (Nat×Nat×Nat)}(h:aO H ys ls)(e:∀b o,V.ref b∈ys->H b=some o->H' b=some o):aO H' ys ls:=by
 induction h with
 |nil=>show .nil
 | @cons g i j l h t c=>
  obtain⟨b,a,d⟩:=h;show .cons ⟨b,a,e b _ (by rw[a];simp) d⟩ (c λb o f=>e b o (aZ _ f))
theorem Fv:Same H H:=λ_ _ z=>z
theorem lit1:1<=sizeLine:=by change 1<=sizeLine;decide
theorem lit2:2<=sizeLine:=by change 2<=sizeLine;decide
theorem lit3:3<=sizeLine:=by change 3<=sizeLine;decide
theorem dY{N:List Str}{fr:List (Option Nat)}(nd:N.Nodup)(len:fr.length=N.length)(kind:scope.kind=.function)(b:scope.names.all (λy=>y.2 != .cell)=true)
  (nm:scope.names.all (λy=>y.2 != .local||scope.names.lookup y.1==some .local)=true)
  (c:∀y∈scope.names,y.2=.free->X.env.kindOf y.1=some .cell\/X.env.kindOf y.1=some .free)
  (d:∀(j i:Nat)(x:Str),fr[j]?=some (some i)->N[j]?=some x->X.N[i]?=some x/\scope.names.lookup x=some .free):gh X N fr scope:=by
 show⟨nd,len,kind,λy a=>?_,λy a e=>?_,c,d⟩
 .have:=iq.mp b y a;simpa using this
 have:=iq.mp nm y a;rw[e] at this;simpa using this
end K31
end
local macro_rules | `(tactic| walk_at $s:str) => let i := fun (x : String) => Lean.mkIdent (Lean.Name.mkSimple x); match s.getString.splitOn " " with | [h, p, g, h1, t, y] => `(tactic| (generalize hq : L2.upd $(i h) $(i p) _ = $(i h1); have $(i t) := K31.same_of $(i g) hq; have $(i y) := K31.at_of hq; clear hq)) | [h, p, h1, k, y] => `(tactic| (generalize hq : L2.upd $(i h) $(i p) _ = $(i h1); have $(i k) := K31.wr_of hq; have $(i y) := K31.at_of hq; clear hq)) | ["cs"] => `(tactic| ((intro y hy e; simp only [List.mem_cons, List.not_mem_nil, or_false] at hy; repeat' first | subst hy | rcases hy with hy | hy) <;> first | (cases e; done) | exact .inl rfl | exact .inr rfl)) | ["ct"] => `(tactic| (intro j i y e1 e2; rcases j with _ | _ | _ | _ | _ | _ | j <;> first | (simp at e1; done) | (simp at e1 e2; subst e1 e2; exact ⟨rfl, rfl⟩))) | ["sc"] => `(tactic| exact ⟨rfl, rfl, rfl, by decide +kernel, rfl, by decide +kernel, by decide +kernel⟩) | _ => Lean.Macro.throwUnsupported
section
namespace K51
open PySem L2
def mixed(ns:List Int)(k:Int):Int:=(ns.take 40).foldl (λs c=>(s*48271+c)%2147483647) (7+1009*k)
def j_(ns:List Int)(k:Int):Int:=if k<(ns.length:Int) then ns.getD k.toNat 0 else 0
def tY(ns:List Int)(k:Int):Int×Int:=(if j_ ns k<1000000000000000000 then 0 else j_ ns k,mixed ns k)
def refill(p:Int×Int):Int×Int:=if p.1=0 then (((p.2*16807+11)%2147483647)*((p.2*16807+11)%2147483647)%2147483629,(p.2*16807+11)%2147483647) else p
def digO(p:Int×Int)(b:Int):Int:=(refill p).1%b
def nxt(p:Int×Int)(b:Int):Int×Int:=((refill p).1/b,(refill p).2)
def bZ(p:Int×Int):List V:=[.int p.1,.int p.2]
def cA(p:Int×Int):Prop:=-(2 ^ 60)<p.2/\p.2<2 ^ 60
theorem CK{p:Int×Int}(h:cA p):cA (refill p):=by
 unfold refill
 split
 .have:=qb (p.2*16807+11) (show (0:Int)<2147483647 by decide);have:=qc (p.2*16807+11) (show (2147483647:Int)≠0 by decide);unfold cA;constructor<;>(change _<_;lia)
 show h
theorem df{p:Int×Int}{b:Int}(h:cA p):cA (nxt p b):=CK h
theorem xu(ns:List Int){k:Int}(b:0<=k)(h1:k<1000):-(2 ^ 60)<mixed ns k/\mixed ns k<2 ^ 60:=by
 unfold mixed;have:∀(l:List Int)(s:Int),(-(2 ^ 60)<s/\s<2 ^ 60)->(-(2 ^ 60)<l.foldl (λs c=>(s*48271+c)%2147483647) s/\l.foldl (λs c=>(s*48271+c)%2147483647) s<2 ^ 60):=by
  intro l;induction l with
  |nil=>intro s h;show h
  |cons c r a=>
   intro s h;rw[qo];show a _ ?_;have:=qb (s*48271+c) (show (0:Int)<2147483647 by decide);have:=qc (s*48271+c) (show (2147483647:Int)≠0 by decide);constructor<;>lia
 show this _ _ (by constructor<;>lia)
theorem jP:OpR X (binaryOp .FloorDiv) (rI (λ_ j=>0<j/\j.natAbs.log2<9000) λi j=>.int (i/j)):=opI λi j _ _ _ _ _ a q=>by
 have e:i.fdiv j=i/j:=by rw[Int.fdiv_eq_ediv_of_nonneg _ (Int.le_of_lt a.1)]
 rw[<-e] at q;show Mz () q (.inl (PyProof.noPylong_of_log2 a.2))
def JO(K:W.Frag)(vs:List V)(H:Hp)(Q:VK)(a:Addr)(ns:List Int)(k:Int):Prop:=vs=[.ref a,.int k]/\SqL [] H a (ns.map V.int)/\0<=k/\Q (.int (j_ ns k)) H
def spAt(K:W.Frag):Sp:=λvs H Q _=>Exists (Ex3 (JO K vs H Q))
def HL(K:W.Frag)(vs:List V)(H:Hp)(Q:VK)(a:Addr)(ns:List Int)(k:Int):Prop:=vs=[.ref a,.int k]/\SqL [] H a (ns.map V.int)/\0<=k/\k<1000/\
 ∀(p:Addr)(H':Hp),H p=none->Same H H'->H' p=some (.lst (bZ (tY ns k)))->Q (.ref p) H'
def Ag(K:W.Frag):Sp:=λvs H Q _=>Exists (Ex3 (HL K vs H Q))
def DT(vs:List V)(H:Hp)(Q:VK)(p:Addr)(q:Int×Int)(b:Int):Prop:=vs=[.ref p,.int b]/\H p=some (.lst (bZ q))/\cA q/\0<b/\b.natAbs.log2<9000/\WrO H p (.lst (bZ (nxt q b))) (Q (.int (digO q b)))
def jb:Sp:=λvs H Q _=>Exists (Ex3 (DT vs H Q))
section
theorem scAt:bH ["_law_script","_law_k"] ["_law_script","_law_k"] (a7 sAt):=⟨rfl,rfl,rfl,⋯,rfl,⋯,⋯⟩
theorem J9{f:Addr}(U:Fun K "_law_at" "_law_at" sAt f fd)(T:cW mg):FnOk P w K mg base CX0 1 f fd ["_law_script","_law_k"] (spAt K):=by
 show U.ok scAt (by rintro _ _ _ _ ⟨_,_,_,rfl,_⟩;rfl) λi A outer s H vs Q E j h=>?_
 obtain⟨a,ns,k,rfl,b,l,q⟩:=h;show⟨_,af (aY (aH fD (pv 1) (pln T.len (pv 0)) (nomark _)) (aj (aU (ixx aJ (pv 0) (pv 1)))) a8) (aj (aU aa)),?_⟩;show⟨_,rfl,_,rfl,a,_,rfl,.inl b,_,_,rfl,rfl,_,rfl,?_⟩;unfold j_ at q;rw[aE];show ite2 (λc=>?_) (λc=>?_)
 .have c:k<(ns.length:Int):=Nv c;rw[Nq c] at q;have d:k.toNat<ns.length:=();show⟨_,rfl,_,rfl,a,_,k,.int (ns.getD k.toNat 0),rfl,rfl,b,?_,q⟩;have e:((k.toNat:Nat):Int)=k:=();rw[<-e];show cM ?_;have g:ns[k.toNat]?=some (ns.getD k.toNat 0):=by simp[List.getD,d]
  rw[cB,g];rfl
 have c:¬k<(ns.length:Int):=λz=>c (Nt z);rw[Np c] at q;show q
theorem ym:bH ["_law_pot_here","_law_base","_law_digit_here"] ["_law_pot_here","_law_base"] (a7 mJ):=⟨rfl,rfl,rfl,⋯,rfl,⋯,⋯⟩
theorem Et{f:Addr}(U:Fun K "_law_digit" "_law_digit" mJ f fd):FnOk P w K mg base CX0 1 f fd ["_law_pot_here","_law_base"] jb:=by
 show U.ok ym (by rintro _ _ _ _ ⟨_,_,_,rfl,_⟩;rfl) λI A outer s H vs Q E L h=>?_
 obtain⟨p,⟨n,z⟩,b,rfl,a,hok,d,r,q⟩:=h;show⟨_,af (aY (aH bY (ixx aJ (pv 0) aa) aa (nomark _))
   (af (gr (au dH (au bN (au j7 (ixx aJ (pv 0) aa) aa) aa) aa) (pf (pv 0) aa oE))
    (aj (gr (au dH (au j7 (ixx aJ (pv 0) aa) (ixx aJ (pv 0) aa)) aa) (pf (pv 0) aa oE)))) a8)
  (af (sx 2 ym.nd (au dH (ixx aJ (pv 0) aa) (pv 1)))
  (af (gr (au jP (ixx aJ (pv 0) aa) (pv 1)) (pf (pv 0) aa oE))
  (aj (aU (pv 2))))),?_⟩
 have a0:∀(x y:Int),atI [V.int x,V.int y] 0=some (V.int x):=λ_ _=>rfl;have g:∀(x y:Int),atI [V.int x,V.int y] 1=some (V.int y):=λ_ _=>rfl;have b0:∀(x y:V),ixN [x,y].length 0=some 0:=λ_ _=>rfl;have B:∀(x y:V),ixN [x,y].length 1=some 1:=λ_ _=>rfl;have u:=hok.1;have v:=hok.2;show⟨_,rfl,p,_,0,_,rfl,rfl,SqL.of a,a0 _ _,rfl,_,rfl,?_⟩;have u:-(2 ^ 60)<z:=u;have v:z<2 ^ 60:=v;show ite2 (λc=>?_) (λc=>?_)
 .have c:n=0:=by
   have:=Nv c;injection this
  have M:=qb (z*16807+11) (show (0:Int)<2147483647 by decide);have N:=qc (z*16807+11) (show (2147483647:Int)≠0 by decide);show⟨_,rfl,p,_,1,_,rfl,rfl,SqL.of a,g _ _,_,_,rfl,rfl,.inl ⟨(),()⟩,_,_,rfl,rfl,_,_,rfl,rfl,(show (0:Int)<2147483647 by decide),_,rfl,p,_,_,_,rfl,rfl,a,B _ _,λH1 C i=>?_⟩;show⟨_,rfl,p,_,1,_,rfl,rfl,SqL.of i,g _ _,_,rfl,p,_,1,_,rfl,rfl,SqL.of i,g _ _,_,_,rfl,rfl,.inl ⟨(),()⟩,_,_,rfl,rfl,(show (0:Int)<2147483629 by decide),_,rfl,p,_,_,_,rfl,rfl,i,b0 _ _,λH2 D j=>?_⟩;show⟨_,rfl,p,_,0,_,rfl,rfl,SqL.of j,a0 _ _,_,rfl,_,_,rfl,rfl,d,?_⟩;show⟨_,rfl,p,_,0,_,rfl,rfl,SqL.of j,a0 _ _,_,rfl,_,_,rfl,rfl,⟨d,r⟩,_,rfl,p,_,_,_,rfl,rfl,j,b0 _ _,λl m o=>?_⟩;show⟨_,rfl,?_⟩;have e:refill (n,z)=((z*16807+11)%2147483647*((z*16807+11)%2147483647)%2147483629,(z*16807+11)%2147483647):=by unfold refill;rw[Nq c]
  unfold digO nxt bZ at q;rw[e] at q;show q l (λb h=>(m b h).trans ((D b h).trans (C b h))) o
 have c:¬n=0:=λy=>c (by rw[y];show Nt rfl);show⟨_,rfl,p,_,0,_,rfl,rfl,SqL.of a,a0 _ _,_,rfl,_,_,rfl,rfl,d,?_⟩;show⟨_,rfl,p,_,0,_,rfl,rfl,SqL.of a,a0 _ _,_,rfl,_,_,rfl,rfl,⟨d,r⟩,_,rfl,p,_,_,_,rfl,rfl,a,b0 _ _,λl m o=>?_⟩;show⟨_,rfl,?_⟩;have e:refill (n,z)=(n,z):=by unfold refill;rw[Np c]
 unfold digO nxt bZ at q;rw[e] at q;show q l m o
theorem kj:bH ["_law_script","_law_k","_law_seed","_law_cell","_law_number"] ["_law_script","_law_k"] (a7 nj):=⟨rfl,rfl,rfl,⋯,rfl,⋯,⋯⟩
theorem Dy(ns:List Int):eP (ns.map V.int) none (some 40)=(ns.take 40).map V.int:=by
 unfold eP;have a:HT.sIx (ns.map V.int).length 0 none=0:=rfl;have b:HT.sIx (ns.map V.int).length (ns.map V.int).length (some 40)=min 40 ns.length:=by rw[aE];have:=HT.sIx_nat ns.length ns.length 40;simpa using this
 rw[a,b,kH,<-qu,uT]
 congr 1
 rw[List.take_eq_take_iff];lia
theorem Ir{f d:Addr}{fd g:FuncData}(U:Fun K "_law_pot" "_law_pot" nj f fd)(n:Fun K "_law_at" "_law_at" sAt d g)(o:Binds K g ["_law_script","_law_k"] [])(mA:mg "_law_at" = some (.ref d))(p:W.keepIn K (.ref d)=true)(T:cW mg) :
  FnOk P w K mg base CX0 2 f fd ["_law_script","_law_k"] (Ag K):=by
 have u:FnOk P w K mg base CX0 1 d g ["_law_script","_law_k"] (spAt K):=J9 n T;show U.ok kj (by rintro _ _ _ _ ⟨_,_,_,rfl,_⟩;rfl) λI A outer s H vs Q E x h=>?_
 obtain⟨a,ns,k,rfl,m,z,h1,q⟩:=h;show⟨_,af (sx 2 kj.nd (au bN aa (au j7 aa (pv 1))))
  (af (cY cF rfl (cL (dN dO (pv 0) eL (dr aa))) (gx 3 kj.nd)
   (aj (sx 2 kj.nd (au dH (au bN (au j7 (pv 2) aa) (pv 3)) aa))))
  (af (sx 4 kj.nd (yz u x rfl mA p o .nil pass0 (ai (pv 0) (pa1 (pv 1)))))
  (af (aY (aH fD (pv 4) (au Io aa aa) (nomark _)) (aj (sx 4 kj.nd aa)) a8)
  (aj (aU (bf (ai (pv 4) (pa1 (pv 2))))))))),?_⟩
 show⟨_,rfl,_,_,rfl,rfl,.inl ⟨(),()⟩,_,_,rfl,rfl,?_⟩;show⟨_,rfl,40,rfl,a,_,rfl,m,λl H1 L sm j=>?_⟩;rw[Dy] at j;show⟨l,rfl,⟨_,SqL.of j⟩,g_ (K:=[]) (a:=l) (xs:=(ns.take 40).map V.int) (λi Z H2=>∃v,Z=[some (.ref a),some (.int k),some (.int (((ns.take 40).take i).foldl (λs c=>(s*48271+c)%2147483647) (7+1009*k))),v,none]/\H2=H1/\
  (-(2 ^ 60)<(((ns.take 40).take i).foldl (λs c=>(s*48271+c)%2147483647) (7+1009*k))/\(((ns.take 40).take i).foldl (λs c=>(s*48271+c)%2147483647) (7+1009*k))<2 ^ 60))
  ⟨none,rfl,rfl,by simp only[qA,K4];constructor<;>lia⟩ (λi Z H2 _ ⟨_,_,e,_⟩=>by rw[e];show SqL.of j) ?_ ?_⟩
 .rintro i y Z H2 hi ⟨v,rfl,rfl,M,N⟩;obtain⟨c,B,rfl⟩:∃c,(ns.take 40)[i]?=some c/\V.int c=y:=by
   rw[cB] at hi;show eG.mp hi
  have e:(ns.take 40).take (i+1)=(ns.take 40).take i++[c]:=by rw[cS,B];rfl
  show⟨_,rfl,_,_,rfl,rfl,.inl ⟨(),()⟩,_,rfl,_,_,rfl,rfl,_,_,rfl,rfl,(show (0:Int)<2147483647 by decide),?_⟩;show⟨some (.int c),?_,rfl,?_⟩
  .rw[e,K3];rfl
  rw[e,K3];have O:=qb ((((ns.take 40).take i).foldl (λs c=>(s*48271+c)%2147483647) (7+1009*k))*48271+c) (show (0:Int)<2147483647 by decide);have R:=qc ((((ns.take 40).take i).foldl (λs c=>(s*48271+c)%2147483647) (7+1009*k))*48271+c) (show (2147483647:Int)≠0 by decide);simp only[qo,K4];constructor<;>lia
 rintro Z H2 ⟨v,rfl,rfl,_,_⟩;rw[aE,eV];show⟨_,rfl,_,rfl,a,ns,k,rfl,sm.seq m,z,?_⟩;show⟨_,rfl,_,_,rfl,rfl,⟨⋯,⋯,⋯⟩,_,_,rfl,rfl,_,rfl,?_⟩;have fin:∀(r:Addr)(b:Hp),H2 r=none->Same H2 b->b r=some (.lst (bZ (tY ns k)))->Q (.ref r) b:=λr b C s2 D=>q r b (sm.free C) (sm.trans s2) D;unfold tY at fin;show ite2 (λc=>?_) (λc=>?_)
 .have c:j_ ns k<1000000000000000000:=Nv c;rw[Nq c] at fin;show⟨_,rfl,_,rfl,(show 2<=sizeLine by decide),fin⟩
 have c:¬j_ ns k<1000000000000000000:=λy=>c (Nt y);rw[Np c] at fin;show⟨_,rfl,_,rfl,(show 2<=sizeLine by decide),fin⟩
end
theorem fm{q:Int×Int}{b:Int}(a:0<b):0<=digO q b/\digO q b<b:=⟨qc _ (),qb _ a⟩
theorem gg{b:Int}(a:0<b)(h:b<=10 ^ 60):b.natAbs.log2<9000:=by have h1:b.natAbs≠0:=();show (Lm h1).mpr ?_;have h2:b.natAbs<=10 ^ 60:=();show AY h2 (cp (show 10 ^ 60<2 ^ 200 by decide) (Lq ⋯ ⋯))
end K51
end
section
namespace K15
open PySem L2 K51 K31
def dU(e:Ent):List Key×V:=(ky e.1.1 e.1.2,V.int (e.2:Int))
theorem ly{l:List Ent}{p q:Nat}:valV (l.map dU) (ky p q)=none↔(p,q)∉l.map (·.1):=by
 induction l with
 |nil=>simp[valV]
 |cons e l a=>
  rw[az,az,ae];by_cases h:(dU e).1=ky p q
  .rw[dC h];have:e.1=(p,q):=pz.mp h;simp[this]
  rw[dq h,a];have:(p,q)≠e.1:=λz=>h (pz.mpr (by rw[z]));simp[this]
theorem Dr{l:List Ent}(nd:(l.map (·.1)).Nodup){p q c:Nat}:valV (l.map dU) (ky p q)=some (V.int (c:Int))↔((p,q),c)∈l:=by
 induction l with
 |nil=>simp[valV]
 |cons e l b=>
  rw[az,aR] at nd;rw[az,ae];by_cases h:(dU e).1=ky p q
  .rw[dC h];have a:e.1=(p,q):=pz.mp h;constructor
   .intro z;injection z with z;injection z with z;left;have:e.2=c:=();rw[<-a,<-this]
   rintro (z|z)
   .rw[<-z];rfl
   show (nd.1 (aq.mpr ⟨_,z,a.symm⟩)).elim
  rw[dq h,b nd.2];constructor
  .exact .inr
  rintro (z|z)
  .exact (h (pz.mpr (by rw[<-z]))).elim
  show z
theorem E_{l:List Ent}{p q:Nat}{v:V}(h:valV (l.map dU) (ky p q)=some v):∃c:Nat,v=V.int (c:Int):=by
 induction l with
 |nil=>cases h
 |cons e l a=>
  rw[az] at h;by_cases h1:(dU e).1=ky p q
  .rw[dC h1] at h;injection h with h;show⟨e.2,h.symm⟩
  rw[dq h1] at h;show a h
theorem xM{ts:List Tri}(g:Good ts)(p q:Nat):(∃c,En ts p q c/\valV ((ents ts).map dU) (ky p q)=some (V.int (c:Int)))\/((∀c,¬En ts p q c)/\valV ((ents ts).map dU) (ky p q)=none):=by
 cases h:valV ((ents ts).map dU) (ky p q) with
 |none=>
  show .inr ⟨λc a=>?_,rfl⟩;show ly.mp h (aq.mpr ⟨_,a,rfl⟩)
 |some v=>
  obtain⟨c,rfl⟩:=E_ h;show .inl ⟨c,(Dr g.nd).mp h,rfl⟩
theorem ents_app(a b:List Tri):ents (a++b)=ents a++ents b:=by simp[ents]
theorem ents_len(ts:List Tri):(ents ts).length=3*ts.length:=by
 induction ts with
 |nil=>rfl
 |cons t ts a=>
  rw[show t::ts=[t]++ts from rfl,ents_app,ao,a,ao];change 3+_=3*(1+_);lia
theorem su{l:List Ent}{a b c:Nat}(h:((l++[((a,b),c)]).map (·.1)).Nodup):(l.map (·.1)).Nodup/\(a,b)∉l.map (·.1):=by rw[aX,bS] at h;show⟨h.1,λz=>?_⟩;show h.2.2 _ z (a,b) ∅ rfl
def fq(t:Tri):List (Nat×Nat):=[(t.1,t.2.1),(t.2.1,t.2.2),(t.2.2,t.1)]
def DL(vs:List V)(H:Hp)(Q:VK)(t:Addr)(x:Tri):Prop:=vs=[.ref t]/\H t=some (.tup [.int (x.1:Int),.int (x.2.1:Int),.int (x.2.2:Int)])/\
 ∀r zs H',H r=none->Same H H'->H' r=some (.lst zs)->SdsAt H' zs (fq x)->Q (.ref r) H'
def si:Sp:=λvs H Q _=>Exists (Ex2 (DL vs H Q))
def CB(vs:List V)(H:Hp)(Q:VK)(T:Addr)(a:List V)(ts:List Tri):Prop:=vs=[.ref T]/\H T=some (.lst a)/\aO H a ts/\ts.length<=400/\((ents ts).map (·.1)).Nodup/\
 ∀D H',H D=none->Same H H'->H' D=some (.dT ((ents ts).map dU))->Q (.ref D) H'
def spThirds:Sp:=λvs H Q _=>Exists (Ex3 (CB vs H Q))
def iL(ts:List Tri)(x:Tri):Bool:=(fq x).all λs=>decide (s∉(ents ts).map (·.1))
def Fp(vs:List V)(H:Hp)(Q:VK)(D t:Addr)(ts:List Tri)(x:Tri):Prop:=vs=[.ref D,.ref t]/\H D=some (.dT ((ents ts).map dU))/\H t=some (.tup [.int (x.1:Int),.int (x.2.1:Int),.int (x.2.2:Int)])/\
 ∀H',Same H H'->Q (.bl (iL ts x)) H'
def tq:Sp:=λvs H Q _=>Exists (Ex4 (Fp vs H Q))
section
theorem oQ:bH ["_law_triple","_law_a","_law_b","_law_c"] ["_law_triple"] (a7 my):=⟨rfl,rfl,rfl,⋯,rfl,⋯,⋯⟩
theorem Ej{f:Addr}(U:Fun K "_law_sides" "_law_sides" my f fd):FnOk P w K mg base CX0 1 f fd ["_law_triple"] si:=by
 show U.ok oQ (by rintro _ _ _ _ ⟨_,_,rfl,_⟩;rfl) λp A outer s H vs Q E u h=>?_
 obtain⟨t,x,rfl,c,q⟩:=h;show⟨_,af (gr (pv 0) (eN rfl (bL (gx 1 oQ.nd) (bL (gx 2 oQ.nd) (bL (gx 3 oQ.nd) dD)))))
  (aj (aU (bf (ai (aK (ai (pv 1) (pa1 (pv 2)))) (ai (aK (ai (pv 2) (pa1 (pv 3)))) (pa1 (aK (ai (pv 3) (pa1 (pv 1)))))))))),?_⟩
 show⟨_,rfl,t,_,rfl,SqT.of c,rfl,_,_,rfl,_,_,rfl,_,_,rfl,rfl,?_⟩;show⟨_,rfl,_,rfl,lit2,λd H1 h1 s1 e=>?_⟩;show⟨_,rfl,_,rfl,lit2,λg H2 h2 s2 i=>?_⟩;show⟨_,rfl,_,rfl,lit2,λj v y a l=>?_⟩;show⟨lit3,λr m n b o=>?_⟩;show q r _ m (((s1.trans s2).trans a).free n) (((s1.trans s2).trans a).trans b) o (.cons ⟨d,rfl,((s2.trans a).trans b) _ _ e⟩ (.cons ⟨g,rfl,(a.trans b) _ _ i⟩ (.cons ⟨j,rfl,b _ _ l⟩ .nil)))
theorem lB:bH ["_law_triples","_law_thirds_here","_law_a","_law_b","_law_c"] ["_law_triples"] (a7 lR):=⟨rfl,rfl,rfl,⋯,rfl,⋯,⋯⟩
end
theorem E5:bootBuiltins "all" = some (.builtin "all"):=⋯
theorem kR:bootBuiltins "sorted" = some (.builtin "sorted"):=⋯
def flat(ts:List Tri):List Nat:=ts.flatMap λt=>[t.1,t.2.1,t.2.2]
def kb(c:Nat):Key×V:=(Sum.inl (c:Int),V.bl true)
theorem II{c d:Nat}:(kb c).1=(Sum.inl (d:Int):Key)↔c=d:=by
 unfold kb;constructor
 .intro h;injection h with h;lia
 rintro rfl;rfl
theorem Ii(a:List Nat)(c:Nat):cN (a.map kb) (Sum.inl (c:Int)) (V.bl true)=(if c∈a then a else a++[c]).map kb:=by
 by_cases h:c∈a
 .rw[Nq h];have ha:((a.map kb).any λb=>decide (b.1=(Sum.inl (c:Int):Key)))=true:=qg.mpr ⟨kb c,aq.mpr ⟨c,h,rfl⟩,Nt rfl⟩;unfold cN;rw[Nq ha,cU];show qt λx _=>?_;change (if (kb x).1=(Sum.inl (c:Int):Key) then ((kb x).1,V.bl true) else kb x)=kb x
  split<;>rfl
 rw[Np h,rD,aX]
 .rfl
 cases e:valV (a.map kb) (Sum.inl (c:Int)) with
 |none=>rfl
 |some v=>
  have:=Fb e;rw[cU] at this;obtain⟨x,d,ex⟩:=aq.mp this;show (h (II.mp ex ▸ d)).elim
def Cs(ts:List Tri)(cs:List Nat):Prop:=cs.Pairwise (· < ·)/\∀c,c∈cs↔c∈flat ts
theorem B2{d:List Nat}{ms:List Int}(nd:d.Nodup)(g:ms.Perm (d.map λc:Nat=>(c:Int)))(f:ms.Pairwise (·<=·)):∃cs:List Nat,ms=cs.map (λc:Nat=>(c:Int))/\cs.Pairwise (· < ·)/\cs.Perm d:=by
 have e:ms=(ms.map Int.toNat).map (λc:Nat=>(c:Int)):=by
  rw[cU];have:∀x∈ms,((λc:Nat=>(c:Int)) ∘ Int.toNat) x=id x:=by intro x i;obtain⟨c,_,rfl⟩:=aq.mp (g.mem_iff.mp i);simp
  rw[qt this,Ld]
 have pm:(ms.map Int.toNat).Perm d:=by
  have:=g.map Int.toNat;rw[cU] at this;have j:d.map (Int.toNat ∘ λc:Nat=>(c:Int))=d:=by have:∀x∈d,(Int.toNat ∘ λc:Nat=>(c:Int)) x=id x:=λx _=>∅;rw[qt this,Ld]
  rw[j] at this;show this
 show⟨ms.map Int.toNat,e,?_,pm⟩;have l:(ms.map Int.toNat).Nodup:=pm.nodup_iff.mpr nd;rw[e] at f;rw[ff] at f;have:=f.and l;show this.imp λ{a b} h=>?_;have h1:=h.1;have h2:=h.2;lia
def BZ(vs:List V)(H:Hp)(Q:VK)(T:Addr)(a:List V)(ts:List Tri):Prop:=vs=[.ref T]/\H T=some (.lst a)/\aO H a ts/\ts.length<=20/\
 ∀r cs H',H r=none->Same H H'->H' r=some (.lst (nV cs))->Cs ts cs->cs.length<=60->Q (.ref r) H'
def k_:Sp:=λvs H Q _=>Exists (Ex3 (BZ vs H Q))
section
theorem HQ:bH ["_law_thirds_here","_law_triple"] ["_law_thirds_here","_law_triple"] (a7 m6):=⟨rfl,rfl,rfl,⋯,rfl,⋯,⋯⟩
theorem FS{f B:Addr}{fd C:FuncData}(U:Fun K "_law_free" "_law_free" m6 f fd)(T:cW mg)(G:Use P w K mg base 1 "_law_sides" ["_law_triple"] si B C) :
  FnOk P w K mg base CX0 2 f fd ["_law_thirds_here","_law_triple"] tq:=by
 show U.ok HQ (by rintro _ _ _ _ ⟨_,_,_,_,rfl,_⟩;rfl) λY A outer s H vs Q E l h=>?_
 obtain⟨D,t,ts,x,rfl,I,L,q⟩:=h;have M:=eu l;show⟨_,aj (aU (dZ (Bx rfl) (by rfl) T.all E5 (pa1 (dP (N:=["_law_side","_law_thirds_here"]) (fr:=[none,some 0]) (dY ⋯ rfl rfl ⋯ ⋯ (by walk_at"cs") (by walk_at"ct")) rfl (cL (uc G l (pa1 (pv 1))))
    (λC' s' H' fp Nw=>⟨gx 0 (⋯:(["_law_side","_law_thirds_here"]:List Str).Nodup),ft,tO (qY M (pv 0) (pv 1))⟩))))),?_⟩
 have ad:=line5000;show⟨_,rfl,t,x,rfl,L,λr zs H1 ah s1 m n=>?_⟩;have O:=aT n;show⟨r,rfl,⟨_,SqL.of m⟩,λZ_ p=>dB (K:=[]) (a:=r) (xs:=zs) (λi Z ys H'=>∃o,Z=[o,some (.ref D)]/\ys=(((fq x).take i).map λs=>decide (s∉(ents ts).map (·.1))).map V.bl/\Same H1 H'/\H' Z_=some (.lst ys)) ⟨none,rfl,rfl,cK p,bO⟩ (by rintro i Z ys H' _ ⟨_,_,_,e,_⟩;show SqL.of (e _ _ m)) ?_ ?_⟩
 .rintro i y Z ys H' hi ⟨o,rfl,rfl,d,g⟩;obtain⟨⟨a,b⟩,u,c,rfl,R⟩:=c_ n hi;have al:=(aI.mp u).1;show⟨_,rfl,_,rfl,D,_,rfl,DGet.t (k:=ky a b) (d _ _ (s1 _ _ I)) (d _ _ R),g,?_,λH3 S X=>⟨_,rfl,?_,λb o e=>(S b (ar e p)).trans (d _ _ e),X⟩⟩
  .rw[aE,aE,bu];have:(fq x).length=3:=rfl;lia
  rw[cS,u];change _=((((fq x).take i)++[(a,b)]).map _).map _;rw[aX,aX]
  congr 1
  change [V.bl _]=[V.bl _]
  congr 2
  cases j:valV ((ents ts).map dU) (ky a b) with
  |none=>show (Nt (ly.mp j)).symm
  |some v=>show (Nu λz=>by rw[ly.mpr z] at j;cases j).symm
 rintro Z ys H' ⟨o,rfl,rfl,d,g⟩;show⟨Z_,(fq x).map λs=>decide (s∉(ents ts).map (·.1)),rfl,SqL.of ?_,?_⟩
 .rw[g,O,eV]
 rw[KR];show q _ (s1.trans d)
theorem oz:bH ["_law_triples","_law_found","_law_triple","_law_corner"] ["_law_triples"] (a7 lI):=⟨rfl,rfl,rfl,⋯,rfl,⋯,⋯⟩
theorem Cb{f:Addr}(U:Fun K "_law_corners" "_law_corners" lI f fd)(X:mg "sorted" = none):FnOk P w K mg base CX0 1 f fd ["_law_triples"] k_:=by
 show U.ok oz (by rintro _ _ _ _ ⟨_,_,_,rfl,_⟩;rfl) λNz A outer s H vs Q E Y h=>?_
 obtain⟨T,vt,ts,rfl,M,N,hl,q⟩:=h;have hu:=eu Y;show⟨_,af (sx 1 oz.nd xk)
  (af (cY cF rfl (cL (pv 0)) (gx 2 oz.nd)
   (aj (cY cF rfl (tL (pv 2)) (gx 3 oz.nd) (aj (l9 hu (pv 1) (pv 3) Am rfl)))))
  (aj (aU (dZ (om rfl) (by rfl) X kR (pa1 (pv 1)))))),?_⟩
 have ah:=line5000;have hlen:=aT N;show λD H1 h1 s1 y1=>?_;show⟨_,rfl,T,rfl,⟨_,SqL.of (s1 _ _ M)⟩,g_ (K:=[]) (a:=T) (xs:=vt) (λi Z H2=>∃B l d,Z=[some (.ref T),some (.ref D),B,l]/\Same H H2/\H2 D=some (.dK (d.map kb))/\d.Nodup/\(∀c,c∈d↔c∈flat (ts.take i))/\d.length<=3*i)
  ⟨none,none,[],rfl,s1,y1,kM,by simp[flat],aQ _⟩ (by rintro i Z H2 _ ⟨_,_,_,_,e,_⟩;show SqL.of (e _ _ M)) ?_ ?_⟩
 .rintro i x Z H2 hi ⟨B,l,d,rfl,sm,r,nd,hm,hz⟩;obtain⟨⟨a,b,c⟩,O,t,rfl,u⟩:=c_ N hi;have u:H t=some (.tup [.int (a:Int),.int (b:Int),.int (c:Int)]):=u;have al:i<ts.length:=(aI.mp O).1;have et:flat (ts.take (i+1))=flat (ts.take i)++[a,b,c]:=by rw[cS,O];simp[flat]
  show⟨_,rfl,t,rfl,⟨_,SqT.of (sm _ _ u)⟩,Gg (K:=[]) (a:=t) (xs:=[.int (a:Int),.int (b:Int),.int (c:Int)]) (λj Z m=>∃l d,Z=[some (.ref T),some (.ref D),some (.ref t),l]/\Same H m/\m D=some (.dK (d.map kb))/\d.Nodup/\(∀z,z∈d↔z∈flat (ts.take i)++[a,b,c].take j)/\d.length<=3*i+j)
   ⟨_,d,rfl,sm,r,nd,‹hm›,hz⟩ (by rintro j Z m _ ⟨_,_,_,e,_⟩;show SqT.of (e _ _ u)) ?_ ?_⟩
  .rintro j y Z m g ⟨l,d,rfl,C,I,v,L,ad⟩;obtain⟨n,R,rfl⟩:∃n:Nat,[a,b,c][j]?=some n/\y=.int (n:Int):=by
    match j,g with
    |0,g=>simp at g;show⟨a,rfl,g.symm⟩
    |1,g=>simp at g;show⟨b,rfl,g.symm⟩
    |2,g=>simp at g;show⟨c,rfl,g.symm⟩
    |j+3,g=>simp at g
   have am:j<3:=(aI.mp R).1;show⟨_,rfl,_,rfl,D,_,rfl,DPut.k (k:=Sum.inl (n:Int)) I (by rw[aE];lia),?_⟩;rw[Ii];walk_at"m D H4 k4 y4";show⟨_,_,rfl,λb' o e=>(k4 b' (ar e h1)).trans (C _ _ e),y4,?_,λz=>?_,?_⟩
   .split
    .exact v
    rename_i h;show bS.mpr ⟨v,∅,λx hx y hy=>by rw[aL.mp hy];rintro rfl;show h hx⟩
   .rw[cS,R,<-bI];change _↔z∈(flat (ts.take i)++[a,b,c].take j)++[n];rw[aw,<-L z]
    split
    .rename_i h;constructor
     .exact .inl
     rintro (h' | h')
     .exact h'
     rw[aL.mp h'];show h
    rw[aw]
   split
   .lia
   rw[ao,aV];lia
  rintro Z m ⟨l,d,rfl,C,I,v,L,ad⟩;show⟨_,_,d,rfl,C,I,v,λz=>?_,?_⟩
  .rw[et];show L z
  have:([V.int (a:Int),.int (b:Int),.int (c:Int)]:List V).length=3:=rfl;lia
 rintro Z H2 ⟨B,l,d,rfl,sm,r,nd,hm,hz⟩;rw[hlen,eV] at hm;show⟨_,rfl,D,rfl,.inl ⟨_,r⟩,λks vs hk=>.inl ⟨d.map (λc:Nat=>(c:Int)),?_,by rw[aE];lia,λp ms S pm ps=>?_⟩⟩
 .rcases hk with ⟨kvs,e,rfl,_⟩|⟨kvs,as,e,_⟩
  .rw[r] at e;cases e;rw[cU,cU];rfl
  rw[r] at e;cases e
 obtain⟨cs,rfl,pl,pc⟩:=B2 nd pm ps;have an:=pc.length_eq;have e:(cs.map (λc:Nat=>(c:Int))).map V.int=nV cs:=by rw[cU];rfl
 rw[e];show q p cs _ (sm.free S) (sm.trans (cK S)) bO ⟨pl,λc=>by rw[pc.mem_iff];show hm c⟩ ()
end
theorem jU(l:List Nat):(nV l).all gF=true:=by rw[iq];intro v a;obtain⟨n,_,rfl⟩:=aq.mp a;rfl
theorem jk(c:Nat)(l:List Nat):inV (V.int (c:Int)) (nV l)=decide (c∈l):=by
 unfold inV nV;rw[qh,cR,decide_eq_true_eq,qg];constructor
 .rintro⟨x,a,e⟩;have:(x:Int)=(c:Int):=by simpa [eqV] using e
  have:x=c:=();rw[<-this];show a
 intro h;show⟨c,h,by simp[eqV]⟩
theorem Ga(l:List Nat):inV V.non (nV l)=false:=by unfold inV nV;rw[qh,KS];intro x _;simp[eqV]
theorem oA{l m:List Nat}(h:l.Nodup)(b:∀x∈l,x∈m):l.length<=m.length:=by
 induction l generalizing m with
 |nil=>show aQ _
 |cons a l d=>
  rw[aR] at h;have ha:=b a ∅;have:=d (m:=m.erase a) h.2 λx c=>by
   have e:x≠a:=λz=>h.1 (z ▸ c);show (Le e).mpr (b x (aZ _ c))
  rw[K_ ha] at this;have f:0<m.length:=Lb ha;rw[aS];lia
theorem gX{K:W.Frag}{D:Addr}{l:List Ent}{ks vs:List V}(a:H D=some (.dT (l.map dU)))(c:DKeys H D ks vs):SdsAt H ks (l.map (·.1)):=by
 rcases c with ⟨kvs,e,_⟩|⟨kvs,as,e,b,rfl,_⟩
 .rw[a] at e;cases e
 rw[a] at e;cases e;rename_i d;clear a d;induction l generalizing as with
 |nil=>cases b;show .nil
 |cons x l f=>
  cases b with
  |cons h t=>show .cons ⟨_,rfl,h⟩ (f _ t)
theorem rC{ks:List V}{ss:List (Nat×Nat)}(h:SdsAt H ks ss):Tups K H ks (ss.map λs=>[(s.1:Int),(s.2:Int)]):=by
 induction h with
 |nil=>show .nil
 |cons q _ b=>
  obtain⟨a,rfl,ha⟩:=q;show .cons ⟨a,rfl,SqT.of ha,∅⟩ b
theorem oF{ks:List V}{ss:List (Nat×Nat)}(h:SdsAt H ks ss):∀ix:List Nat,(∀i∈ix,i<ks.length)->SdsAt H (ix.map λi=>ks.getD i .non) (ix.map λi=>ss.getD i (0,0))
 | [],_=>.nil
 |i::ix,hi=>by
  have a:=hi i ∅;have h1:ks[i]?=some ks[i]:=aP a;obtain⟨y,b,hf⟩:=c_ h h1;show .cons ?_ (oF h ix λj c=>hi j (aZ _ c));simp only[List.getD,h1,b,A3];show hf
theorem qX{ss:List (Nat×Nat)}{ix:List Nat}(h:ix.Perm (List.range ss.length)):(ix.map λi=>ss.getD i (0,0)).Perm ss:=by
 have:=h.map λi=>ss.getD i (0,0);show this.trans (AD ?_);show AJ λi=>?_;rw[cB];by_cases hi:i<ss.length
 .rw[List.getElem?_range hi];simp[List.getD,aP hi]
 rw[uF ‹hi›,uF ()];rfl
theorem zY(l:List Nat):Dts K H (nV l) (l.map λn:Nat=>PyData.int (n:Int)):=by
 induction l with
 |nil=>show .nil
 |cons a l b=>show .cons (.int _) b
theorem Jd(l:List Nat):(PyData.list (l.map λn:Nat=>PyData.int (n:Int))).depth<=3:=by
 have:PyData.depthAll (l.map λn:Nat=>PyData.int (n:Int))<=1:=by
  induction l with
  |nil=>simp[PyData.depthAll]
  |cons a l b=>simp only[az,PyData.depthAll,PyData.depth];lia
 simp only[PyData.depth];lia
theorem lK(ds:List PyData):PyData.eqv (.list ds) (.list [])=ds.isEmpty:=by cases ds<;>simp[PyData.eqv,PyData.eqvAll]
structure Run(ts:List Tri)(v x0:Nat)(F:List Nat):Prop where
 nd:F.Nodup
 key:∀p∈F,∃q,En ts v p q
 ch:∀i p q,F[i]?=some p->F[i+1]?=some q->En ts v p q
 x1:x0∈F
section
variable {ts:List Tri}{v x0 p c o:Nat}{F:List Nat}
theorem Fw(h:∃q,En ts v x0 q):Run ts v x0 [x0]:=⟨∅,λp a=>by rw[aL.mp a];show h,λi p q _ h2=>by simp at h2,∅⟩
theorem Fy(r:Run ts v x0 F)(d:F.getLast?=some p)(e:En ts v p c)(g:∃q,En ts v c q)(j:c∉F):Run ts v x0 (F++[c]):=by
 show⟨bS.mpr ⟨r.nd,∅,λx l y m=>by rw[aL.mp m];rintro rfl;show j l⟩,λq n=>?_,λi a b h1 h2=>?_,bM _ r.x1⟩
 .rcases aw.mp n with h|h
  .exact r.key q h
  rw[aL.mp h];show g
 by_cases hi:i+1<F.length
 .rw[eF hi] at h2;rw[eF ()] at h1;show r.ch i a b h1 h2
 have o:=(aI.mp h2).1;rw[ao,aV] at o;have f:i+1=F.length:=();rw[qp,<-f,uN] at d;rw[eF (),d] at h1;rw[f,kJ (ax _),nX] at h2;cases h1;cases h2;show e
theorem Fx(r:Run ts v x0 F)(c:F.head?=some p)(e:En ts v o p)(d:o∉F):Run ts v x0 (o::F):=by
 show⟨aR.mpr ⟨d,r.nd⟩,λq f=>?_,λi a b h1 h2=>?_,aZ _ r.x1⟩
 .rcases ae.mp f with rfl|h
  .exact⟨p,e⟩
  show r.key q h
 cases i with
 |zero=>
  rw[fe,<-AN,c] at h2;cases h1;cases h2;show e
 |succ i=>
  rw[fe] at h1 h2;show r.ch i a b h1 h2
theorem sI(r:Run ts v x0 F)(c:ts.length<=20):F.length<=60:=by
 have:=oA (m:=(ents ts).map (·.1.2)) r.nd λx a=>by
  obtain⟨q,b⟩:=r.key x a;show aq.mpr ⟨_,b,rfl⟩
 rw[aE,ents_len] at this;lia
theorem tG(r:Run ts v x0 F):F≠[]:=λz=>by have:=r.x1;rw[z] at this;cases this
theorem yM(h:F≠[]):∃p,F.getLast?=some p:=⟨_,List.getLast?_eq_some_getLast h⟩
theorem Gd(h:F≠[]):∃p,F.head?=some p:=by
 cases F with
 |nil=>show (h rfl).elim
 |cons a l=>show⟨a,rfl⟩
theorem gB{α:Type}{l:List α}{x:α}(h:l[l.length-1]?=some x):atI l (-1)=some x:=by have a:=(aI.mp h).1;unfold atI ixN;rw[Np ⋯,Nq ()];rw[show ((-1:Int)+(l.length:Int)).toNat=l.length-1 by lia];show h
theorem GX(h:F.getLast?=some p):atI (nV F) (-1)=some (V.int (p:Int)):=by show gB ?_;rw[bC,nV,cB,<-qp,h];rfl
theorem zj(h:F.head?=some p):atI (nV F) 0=some (V.int (p:Int)):=by
 have:(nV F)[0]?=some (V.int (p:Int)):=by rw[nV,cB,<-AN,h];rfl
 show cM this
end
theorem ow{c:TT}{tb:TS}{D:Ends}(R:St->Hp->Prop)(h:∀a:St->Hp->Prop,(∀Z H,R Z H->a Z H)->tm c tb {D with nx:=a} Z H)(out:∀Z H,R Z H->D.nx Z H):tm c tb D Z H:=h D.nx out
theorem B6{α β:Type}{F G:α->β->Prop}{xs:List α}{ys:List β}(h:∀x y,x∈xs->F x y->G x y)(p:Paired F xs ys):Paired G xs ys:=by
 induction p with
 |nil=>show .nil
 |cons a _ b=>show .cons (h _ _ ∅ a) (b λx y c=>h x y (aZ _ c))
def Fq(vs:List V)(H:Hp)(Q:VK)(T:Addr)(a:List V)(ts:List Tri)(v:Nat):Prop:=vs=[.ref T,.int (v:Int)]/\H T=some (.lst a)/\aO H a ts/\ts.length<=20/\Good ts/\
 ∀r b fs H',H r=none->Same H H'->H' r=some (.lst b)->eD H' b fs->Fans (En ts) v fs->fs.length<=60->Q (.ref r) H'
def zu:Sp:=λvs H Q _=>Exists (Ex4 (Fq vs H Q))
section
theorem j5:bH ["_law_triples","_law_corner","_law_thirds_here","_law_left","_law_found","_law_fan"] ["_law_triples","_law_corner"] (a7 m7):=⟨rfl,rfl,rfl,⋯,rfl,⋯,⋯⟩
theorem FT{f f1:Addr}{fd d1:FuncData}(U:Fun K "_law_fans" "_law_fans" m7 f fd)(mS:mg "sorted" = none)(G:Use P w K mg base 1 "_law_thirds" ["_law_triples"] spThirds f1 d1) :
  FnOk P w K mg base CX0 2 f fd ["_law_triples","_law_corner"] zu:=by
 show U.ok j5 (by rintro _ _ _ _ ⟨_,_,_,_,rfl,_⟩;rfl) λNz A outer s H vs Q E hr h=>?_
 obtain⟨T,vt,ts,v,rfl,hT,ht,hl,g,q⟩:=h;have hu:=eu hr;show⟨_,af (sx 2 j5.nd (uc G hr (pa1 (pv 0))))
  (af (l_ (i:=3) (N:=["_law_a","_law_p","_law_corner"]) (fr:=[none,none,some 1]) (g:=nk [] 2 (ib (c7 0) (ib (c7 1) nq))) (dY ⋯ rfl rfl ⋯ ⋯ (by walk_at"cs") (by walk_at"ct")) rfl (cL (dZ (om rfl) (by rfl) mS kR (pa1 (pv 2))))
    (λC' s' H' fp Nw=>⟨eN rfl (bL (gx 0 (⋯:(["_law_a","_law_p","_law_corner"]:List Str).Nodup)) (bL (gx 1 (⋯:(["_law_a","_law_p","_law_corner"]:List Str).Nodup)) dD)),hJ (aH bY (pv 0) (pv 2) (nomark _)),pv 1⟩) j5.nd rfl (.inl rfl))
  (af (sx 4 j5.nd (bf de))
  (af (i_ cF (aH (iG hr.units) (pv 3) (bf de) (nomark _)) (af (sx 5 j5.nd (bf (pa1 (ixx aJ (pv 3) aa))))
   (af (i_ cF (PW.pt (dR (aH lr (Eb hu (pv 2) (aK (ai (pv 1) (pa1 (ixx aJ (pv 5) (dg da aa))))) ⟨rfl,rfl,rfl,rfl⟩) (pv 3) rfl) (eK (aH i6 (hU hu (pv 2) (aK (ai (pv 1) (pa1 (ixx aJ (pv 5) (dg da aa))))) (λ_ _=>rfl)) (pv 5) rfl)))) (aj (bU (bQ bT cG cH cq (pv 5) (pa1 (hU hu (pv 2) (aK (ai (pv 1) (pa1 (ixx aJ (pv 5) (dg da aa))))) (λ_ _=>rfl)))))))
   (af (i_ cF (PW.pt (dR (mP (mT hu (aK (ai (ixx aJ (pv 5) aa) (pa1 (pv 1)))) (pv 2))) (eK (aH i6 (hU hu (pv 2) (aK (ai (ixx aJ (pv 5) aa) (pa1 (pv 1)))) (λ_ _=>rfl)) (pv 5) rfl)))) (aj (bU (bQ bT LM PySem.F.type_list_insert CV (pv 5) (ai aa (pa1 (hU hu (pv 2) (aK (ai (ixx aJ (pv 5) aa) (pa1 (pv 1)))) (λ_ _=>rfl))))))))
   (af (l_ (i:=3) (N:=["_law_p","_law_fan"]) (fr:=[none,some 5]) (tt:=ki (tOp (rIn [] true) (cD 0) (cD 1))) (dY ⋯ rfl rfl ⋯ ⋯ (by walk_at"cs") (by walk_at"ct")) rfl (cL (pv 3))
    (λC' s' H' fp Nw=>⟨gx 0 (⋯:(["_law_p","_law_fan"]:List Str).Nodup),hJ (aH i6 (pv 0) (pv 1) rfl),pv 0⟩) j5.nd rfl (.inl rfl))
   (aj (bU (bQ bT cG cH cq (pv 4) (pa1 (pv 5))))))))))
  (aj (aU (pv 4)))))),?_⟩
 have c8:=line5000;have k:=g.sk;show⟨_,rfl,T,vt,ts,rfl,hT,ht,(),g.nd,λD H1 db s1 hD=>?_⟩;show⟨_,rfl,D,rfl,.inr ⟨_,hD⟩,λks vs hk=>.inr ⟨_,rC (gX (K:=[]) hD hk),?_,λp ix R pm _=>?_⟩⟩
 .rw[aT (gX (K:=[]) hD hk),aE,ents_len];lia
 have b2:=gX (K:=[]) hD hk;have lk:=aT b2;walk_at"H1 p R H2 s2 y2";have cg:∀i∈ix,i<ks.length:=λi hi=>fX.mp (pm.mem_iff.mp hi);have a5:=oF (Paired.imp' (λ_ _ ⟨a,e,h⟩=>⟨a,e,s2 _ _ h⟩) b2:SdsAt H2 ks ((ents ts).map (·.1))) ix cg;have an:(ix.map λi=>((ents ts).map (·.1)).getD i (0,0)).Perm ((ents ts).map (·.1)):=qX (by rw[<-lk];show pm);generalize (ix.map λi=>((ents ts).map (·.1)).getD i (0,0))=ss at a5 an;generalize (ix.map λi=>ks.getD i .non)=zs at a5 y2;have lz:=aT a5;have ci:ss.length<=60:=by rw[an.length_eq,aE,ents_len];lia
 show⟨p,rfl,⟨_,SqL.of y2⟩,λZ_ hZ=>dB (K:=[]) (a:=p) (xs:=zs) (λi Z ys H'=>∃o1 o2,Z=[o1,o2,some (.int (v:Int))]/\ys=nV (((ss.take i).filter λs=>decide (s.1=v)).map (·.2))/\Same H2 H'/\H' Z_=some (.lst ys)) ⟨none,none,rfl,rfl,cK hZ,bO⟩ (by rintro i Z ys H' _ ⟨_,_,_,_,e,_⟩;show SqL.of (e _ _ y2)) ?_ ?_⟩
 .rintro i y Z ys H' hi ⟨o1,o2,rfl,rfl,M,S⟩;obtain⟨⟨a,b⟩,hs,c,rfl,L⟩:=c_ a5 hi;have et:ss.take (i+1)=ss.take i++[(a,b)]:=by rw[cS,hs];rfl
  show⟨c,_,rfl,SqT.of (M _ _ L),rfl,_,_,rfl,_,_,rfl,rfl,?_⟩;show⟨_,rfl,_,rfl,rfl,_,rfl,?_⟩;change if decide (V.int (a:Int)=V.int (v:Int))=true then _ else _
  rw[kD];by_cases bd:a=v
  .rw[Nt (by rw[bd])];show aA ⟨_,rfl,S,?_,λH3 k3 y3=>⟨_,_,rfl,?_,λb o e=>(k3 b (ar e hZ)).trans (M _ _ e),y3⟩⟩
   .rw[bC,aE];have h1:=kK (λs:Nat×Nat=>decide (s.1=v)) (ss.take i);rw[bu] at h1;lia
   rw[et,uC,iP,Nq (Nt bd),uD,aX,<-gz];rfl
  rw[Nu ()];show ak ⟨_,_,rfl,?_,M,S⟩;rw[et,uC,iP,Np (by simp[bd]),uD,dh]
 rintro Z ys H3 ⟨o1,o2,rfl,rfl,M,S⟩;rw[lz,eV] at S;have be:∀x,x∈((ss.filter λs=>decide (s.1=v)).map (·.2))↔∃q,En ts v x q:=by
  intro x;rw[aq];constructor
  .rintro⟨⟨a,b⟩,hm,rfl⟩;rw[iU,an.mem_iff] at hm;obtain⟨hm,ha⟩:=hm;have ha:a=v:=Nv ha;obtain⟨⟨e1,c⟩,he,e2⟩:=aq.mp hm;have e2:e1=(a,b):=e2;subst e2 ha;show⟨c,he⟩
  rintro⟨c,L⟩;show⟨(v,x),iU.mpr ⟨an.mem_iff.mpr (aq.mpr ⟨_,L,rfl⟩),Nt rfl⟩,rfl⟩
 have b3:((ss.filter λs=>decide (s.1=v)).map (·.2)).Nodup:=by
  have cj:ss.Nodup:=an.nodup_iff.mpr g.nd;have:∀l:List (Nat×Nat),l.Nodup->((l.filter λs=>decide (s.1=v)).map (·.2)).Nodup:=by
   intro l;induction l with
   |nil=>intro _;show kM
   |cons x l ih=>
    intro h;rw[aR] at h;rw[iP]
    split
    .rename_i C;rw[az,aR];show⟨λz=>?_,ih h.2⟩;obtain⟨y,hy,e⟩:=aq.mp z;rw[iU] at hy;have h1:y.1=v:=Nv hy.2;have h2:x.1=v:=Nv C;have:y=x:=n6 (h1.trans h2.symm) e;show h.1 (this ▸ hy.1)
    show ih h.2
  show this ss cj
 have b4:((ss.filter λs=>decide (s.1=v)).map (·.2)).length<=60:=by rw[aE];show cC (kK _ _) ci
 generalize ((ss.filter λs=>decide (s.1=v)).map (·.2))=cl at be b3 b4 S;have q3:=(s1.trans s2).trans M;show⟨aQ _,λr H4 cm s4 y4=>?_⟩;have q4:=q3.trans s4;have cn:=((s2.trans M).trans s4) _ _ hD;show⟨λm Z H'=>∃v5 X lf r gs fs,Z=[some (V.ref T),some (.int (v:Int)),some (.ref D),some (.ref X),some (.ref r),v5]/\m=lf.length/\H r=none/\Same H H'/\H' D=some (.dT ((ents ts).map dU))/\H' X=some (.lst (nV lf))/\H' r=some (.lst gs)/\eD H' gs fs/\lf.Nodup/\
   (∀x∈lf,∃q,En ts v x q)/\(∀F∈fs,Fan (En ts) v F)/\(∀x,(∃q,En ts v x q)->x∈lf\/∃F∈fs,x∈F)/\(∀x∈lf,∀F∈fs,x∉F)/\(fs.Pairwise λF G=>∀x∈F,x∉G)/\fs.length+lf.length<=60/\V.ref r∉gs,
  ⟨_,none,Z_,cl,r,[],[],rfl,rfl,q3.free cm,q4,cn,s4 _ _ S,y4,.nil,b3,λx C=>(be x).mp C,∅,λx C=>.inl ((be x).mpr C),∅,List.Pairwise.nil,‹b4›,∅⟩,?_⟩
 rintro m Z H5 ⟨v5,X,lf,r,gs,fs,rfl,rfl,bi,sm,co,bl,b5,bm,cr,bn,bt,bw,b6,b7,hsz,b8⟩;show⟨_,rfl,aQ _,λpe H6 dc s6 y6=>?_⟩;show⟨_,_,.lst (SqL.of (s6 _ _ bl)) (zY lf),.lst (SqL.of y6) .nil,cC (Jd lf) ⋯,_,rfl,?_⟩;rw[Nq rfl,lK];cases lf with
 |nil=>
  show ak ?_;show⟨_,rfl,q r gs fs H6 bi (sm.trans s6) (s6 _ _ b5) (bm.same s6) ⟨bt,λx C=>?_,b7⟩ (by simp at hsz;lia)⟩;show (bw x C).resolve_left ∅
 |cons x0 lf=>
  show aA ?_;have cv:=bn x0 ∅;show⟨_,λZ' H' h=>h,?_⟩;show⟨_,rfl,X,_,0,V.int (x0:Int),rfl,rfl,SqL.of (s6 _ _ bl),zj rfl,lit1,λfa H7 cx s7 y7=>?_⟩;have nD:∀{b:Addr}{ob:HO},H6 b=some ob->b≠fa:=λe=>ar e cx;have Y:=s6 _ _ co;have bA:=s6 _ _ bl;show ow (λZ H'=>∃F,Z=[some (V.ref T),some (.int (v:Int)),some (.ref D),some (.ref X),some (.ref r),some (.ref fa)]/\Same H6 H'/\H' fa=some (.lst (nV F))/\Run ts v x0 F/\∀p,F.getLast?=some p->∀q,En ts v p q->q∈x0::lf->q∈F) (λNX z=>?_) ?_
  .refine⟨λm Z H'=>∃F,Z=[some (V.ref T),some (.int (v:Int)),some (.ref D),some (.ref X),some (.ref r),some (.ref fa)]/\m=100-F.length/\Same H6 H'/\H' fa=some (.lst (nV F))/\Run ts v x0 F,⟨_,[x0],rfl,rfl,s7,y7,Fw cv⟩,?_⟩;rintro m Z H8 ⟨F,rfl,rfl,ad,d,rn⟩;have b9:=sI rn hl;obtain⟨p,R⟩:=yM (tG rn);have ap:=GX R;show⟨_,rfl,D,rfl,.inr ⟨_,.inl (ad _ _ Y)⟩,_,rfl,_,rfl,_,rfl,fa,_,_,_,rfl,rfl,SqL.of d,ap,lit2,λk1 H9 g1 j y9=>?_⟩;have B:=ad.trans j;rcases xM g v p with ⟨c,L,e⟩|⟨L,e⟩
   .refine⟨_,e ▸ DGet.t (k:=ky v p) (B _ _ Y) y9,_,rfl,X,_,rfl,.inl (SqL.of (B _ _ bA)),rfl,jU _,_,rfl,?_⟩;change if (if false=true then _ else inV (V.int (c:Int)) (nV (x0::lf)))=true then _ else _
    rw[Np bX,jk];by_cases a6:c∈x0::lf
    .rw[Nt a6];show aA ?_;show⟨_,rfl,_,rfl,_,rfl,_,rfl,fa,_,_,_,rfl,rfl,SqL.of (j _ _ d),ap,lit2,λk2 ca g2 O a0=>?_⟩;have am:=B.trans O;show⟨D,V.int (c:Int),rfl,e ▸ DGet.t (k:=ky v p) (am _ _ Y) a0,_,rfl,fa,_,rfl,.inl (SqL.of (O _ _ (j _ _ d))),rfl,jU _,_,rfl,?_⟩;change if (if true=true then !inV (V.int (c:Int)) (nV F) else _)=true then _ else _
     rw[Nq rfl,jk];by_cases ah:c∈F
     .rw[Nt ah];show ak (z _ _ ⟨F,rfl,am,O _ _ (j _ _ d),rn,λp' I q hq _=>?_⟩);rw[R] at I;cases I;rw[k.one hq L];show ah
     rw[Nu ah];show aA ⟨_,λZ' H' h=>h,?_⟩;show⟨_,rfl,.inl ⟨rfl,_,SqL.of (O _ _ (j _ _ d))⟩,_,rfl,_,rfl,_,rfl,_,rfl,fa,_,_,_,rfl,rfl,SqL.of (O _ _ (j _ _ d)),ap,lit2,λk3 cz g3 a1 bF=>?_⟩;have a2:=am.trans a1;show⟨D,V.int (c:Int),rfl,e ▸ DGet.t (k:=ky v p) (a2 _ _ Y) bF,fa,_,_,rfl,rfl,a1 _ _ (O _ _ (j _ _ d)),by rw[bC];lia,λc0 b0 b1=>?_⟩;show⟨_,?_,F++[c],rfl,rfl,λb' o e=>(b0 b' (nD e)).trans (a2 _ _ e),?_,Fy rn R L (bn c a6) ah⟩
     .rw[ao,aV];lia
     rw[b1];simp[nV]
    rw[Nu a6];show ak (ak (z _ _ ⟨F,rfl,B,j _ _ d,rn,λp' I q hq cb=>?_⟩));rw[R] at I;cases I;rw[k.one hq L] at cb;show (a6 cb).elim
   show⟨_,e ▸ DGet.t (k:=ky v p) (B _ _ Y) y9,_,rfl,X,_,rfl,.inl (SqL.of (B _ _ bA)),rfl,jU _,_,rfl,?_⟩;change if (if false=true then _ else inV V.non (nV (x0::lf)))=true then _ else _
   rw[Np bX,Ga];show ak (ak (z _ _ ⟨F,rfl,B,j _ _ d,rn,λp' I q hq _=>?_⟩));rw[R] at I;cases I;show (L q hq).elim
  rintro Z H8 ⟨F,rfl,ad,d,rn,al⟩;clear y7 s7 H7;show ow (λZ H'=>∃F,Z=[some (V.ref T),some (.int (v:Int)),some (.ref D),some (.ref X),some (.ref r),some (.ref fa)]/\Same H6 H'/\H' fa=some (.lst (nV F))/\Run ts v x0 F/\(∀p,F.getLast?=some p->∀q,En ts v p q->q∈x0::lf->q∈F)/\∀p,F.head?=some p->∀o,En ts v o p->o∈F) (λNX z=>?_) ?_
  .refine⟨λm Z H'=>∃F,Z=[some (V.ref T),some (.int (v:Int)),some (.ref D),some (.ref X),some (.ref r),some (.ref fa)]/\m=100-F.length/\Same H6 H'/\H' fa=some (.lst (nV F))/\Run ts v x0 F/\∀p,F.getLast?=some p->∀q,En ts v p q->q∈x0::lf->q∈F,⟨_,F,rfl,rfl,ad,d,rn,al⟩,?_⟩;clear al rn d ad;clear F H8;rintro m Z H8 ⟨F,rfl,rfl,ad,d,rn,al⟩;have b9:=sI rn hl;obtain⟨p,R⟩:=Gd (tG rn);have ap:=zj R;show⟨_,rfl,fa,_,_,_,rfl,rfl,SqL.of d,ap,_,rfl,lit2,λk1 H9 g1 j y9=>?_⟩;have B:=ad.trans j;rcases xM g p v with ⟨c,L,e⟩|⟨L,e⟩
   .refine⟨_,rfl,D,_,rfl,e ▸ DGet.t (k:=ky p v) (B _ _ Y) y9,_,rfl,?_⟩;show aA ?_;show⟨_,rfl,_,rfl,fa,_,_,_,rfl,rfl,SqL.of (j _ _ d),ap,_,rfl,lit2,λk2 ca g2 O a0=>?_⟩;have am:=B.trans O;show⟨D,V.int (c:Int),rfl,e ▸ DGet.t (k:=ky p v) (am _ _ Y) a0,_,rfl,fa,_,rfl,.inl (SqL.of (O _ _ (j _ _ d))),rfl,jU _,_,rfl,?_⟩;change if (if true=true then !inV (V.int (c:Int)) (nV F) else _)=true then _ else _
    rw[Nq rfl,jk];by_cases ah:c∈F
    .rw[Nt ah];show ak (z _ _ ⟨F,rfl,am,O _ _ (j _ _ d),rn,al,λp' I o ho=>?_⟩);rw[R] at I;cases I;rw[k.one (k.rot (k.rot ho)) L];show ah
    rw[Nu ah];show aA ⟨_,λZ' H' h=>h,?_⟩;show⟨_,rfl,.inl ⟨rfl,_,SqL.of (O _ _ (j _ _ d))⟩,_,rfl,_,rfl,fa,_,_,_,rfl,rfl,SqL.of (O _ _ (j _ _ d)),ap,_,rfl,lit2,λk3 cz g3 a1 bF=>?_⟩;have a2:=am.trans a1;show⟨D,V.int (c:Int),rfl,e ▸ DGet.t (k:=ky p v) (a2 _ _ Y) bF,fa,_,0,_,rfl,rfl,a1 _ _ (O _ _ (j _ _ d)),aQ _,by rw[bC];lia,λc0 b0 b1=>?_⟩;show⟨_,?_,c::F,rfl,rfl,λb' o e=>(b0 b' (nD e)).trans (a2 _ _ e),?_,Fx rn R (k.rot L) ah,λp' I q hq c1=>?_⟩
    .rw[aS];lia
    .rw[b1];simp[nV]
    show aZ _ (al p' ?_ q hq c1);rw[<-I];obtain⟨z,hz⟩:=yM (tG rn);rw[List.getLast?_cons,hz];rfl
   show⟨_,rfl,D,_,rfl,e ▸ DGet.t (k:=ky p v) (B _ _ Y) y9,_,rfl,?_⟩;show ak (ak (z _ _ ⟨F,rfl,B,j _ _ d,rn,al,λp' I o ho=>?_⟩));rw[R] at I;cases I;show (L _ (k.rot (k.rot ho))).elim
  clear al rn d ad;clear F H8;rintro Z H8 ⟨F,rfl,ad,d,rn,al,c2⟩;have b9:=sI rn hl;obtain⟨fF,dF⟩:=EL k bt bw b6 rn.nd rn.key rn.ch rn.x1 ∅ al c2;have cc:=ad _ _ bA;show⟨_,rfl,X,rfl,⟨_,SqL.of cc⟩,λZ_ hZ=>dB (K:=[]) (a:=X) (xs:=nV (x0::lf)) (λi Z ys H'=>∃o,Z=[o,some (.ref fa)]/\ys=nV (((x0::lf).take i).filter λp=>decide (p∉F))/\Same H8 H'/\H' Z_=some (.lst ys)) ⟨none,rfl,rfl,cK hZ,bO⟩ (by rintro i Z ys H' _ ⟨_,_,_,e,_⟩;show SqL.of (e _ _ cc)) ?_ ?_⟩
  .rintro i y Z ys H' hi ⟨o,rfl,rfl,M,S⟩;rw[nV,cB] at hi;obtain⟨n,hn,rfl⟩:=eG.mp hi;have et:(x0::lf).take (i+1)=(x0::lf).take i++[n]:=by rw[cS,hn];rfl
   show⟨_,rfl,_,rfl,fa,_,rfl,.inl (SqL.of (M _ _ d)),rfl,jU _,_,rfl,?_⟩;change if (if true=true then !inV (V.int (n:Int)) (nV F) else _)=true then _ else _
   rw[Nq rfl,jk];by_cases ba:n∈F
   .rw[Nt ba];show ak ⟨_,rfl,?_,M,S⟩;rw[et,uC,iP,Np (by simp[ba]),uD,dh]
   rw[Nu ba];show aA ⟨_,rfl,S,?_,λH3 k3 y3=>⟨_,rfl,?_,λb o e=>(k3 b (ar e hZ)).trans (M _ _ e),y3⟩⟩
   .rw[bC];have h1:=kK (λp=>decide (p∉F)) ((x0::lf).take i);rw[bu] at h1;rw[aS] at hsz h1;lia
   rw[et,uC,iP,Nq (by simp[ba]),uD,<-gz];rfl
  rintro Z ys H9 ⟨o,rfl,rfl,M,S⟩;rw[bC,eV] at S;have e0:((x0::lf).filter λp=>decide (p∉F))=lf.filter λp=>decide (p∉F):=by rw[iP,Np (by simp[rn.x1])]
  have l0:=kK (λp=>decide (p∉F)) lf;rw[<-e0] at l0;have bb:∀x,x∈((x0::lf).filter λp=>decide (p∉F))↔x∈x0::lf/\x∉F:=λx=>by rw[iU,decide_eq_true_eq]
  have c3:((x0::lf).filter λp=>decide (p∉F)).Nodup:=cr.filter _;generalize ((x0::lf).filter λp=>decide (p∉F))=cd at *;have B:=ad.trans M;have bc:=s6 _ _ b5;have ce:=B _ _ bc;have hg:=aT bm;rw[aS] at hsz;show⟨_,rfl,.inl ⟨rfl,_,SqL.of ce⟩,_,rfl,r,gs,_,rfl,rfl,ce,by rw[hg];lia,λca a3 a0=>?_⟩;have cf:r≠fa:=nD bc;have c4:D≠r:=λz=>by rw[z,bc] at Y;cases Y
  have c5:Z_≠r:=λz=>by rw[z,ad _ _ bc] at hZ;cases hZ
  have sH:Same H H9:=(sm.trans s6).trans B;show⟨cd.length,by rw[aS];lia,_,Z_,cd,r,gs++[V.ref fa],fs++[F],rfl,rfl,bi,λb' o e=>(a3 b' (ar e bi)).trans (sH _ _ e),(a3 D c4).trans (B _ _ Y),(a3 Z_ c5).trans S,a0,?_,c3,λx C=>bn x ((bb x).mp C).1,?_,?_,?_,?_,?_,?_⟩
  .refine cZ ?_ (.cons ⟨fa,rfl,(a3 fa (aG cf)).trans (M _ _ d)⟩ .nil);show B6 (λu l hu ⟨a,e1,e2⟩=>⟨a,e1,(a3 a λz=>b8 (by rw[<-z,<-e1];show hu)).trans (B _ _ (s6 _ _ e2))⟩) bm
  .intro G hG;rcases aw.mp hG with h|h
   .exact bt G h
   rw[aL.mp h];show fF
  .intro x C;rcases bw x C with h|⟨G,hG,h⟩
   .by_cases a4:x∈F
    .exact .inr ⟨F,∅,a4⟩
    show .inl ((bb x).mpr ⟨h,a4⟩)
   show .inr ⟨G,bM _ hG,h⟩
  .intro x C G hG;rcases aw.mp hG with h|h
   .exact b6 x ((bb x).mp C).1 G h
   rw[aL.mp h];show ((bb x).mp C).2
  .refine uK.mpr ⟨b7,qv _ _,λG hG F' c6 x C a4=>?_⟩;rw[aL.mp c6] at a4;show dF x a4 G hG C
  .rw[ao,aV];lia
  intro z;rcases aw.mp z with h|h
  .exact b8 h
  have:=aL.mp h;cases this;show cf rfl
end
end K15
end
section
namespace K15
def reE(v n:Nat)(F:List Nat)(e:Ent):Ent:=((rn v n F e.1.1 e.1.2,rn v n F e.1.2 e.2),rn v n F e.2 e.1.1)
theorem ER{ts:List Tri}{v n:Nat}{F:List Nat}:ents (ts.map (ren v n F))=(ents ts).map (reE v n F):=by
 induction ts with
 |nil=>rfl
 |cons t ts a=>
  have h1:ents ((t::ts).map (ren v n F))=ents [ren v n F t]++ents (ts.map (ren v n F)):=by simp[ents]
  have h2:ents (t::ts)=ents [t]++ents ts:=by simp[ents]
  rw[h1,h2,aX,a];rfl
def Co(ts:List Tri)(u:Nat):Prop:=∃p q,En ts u p q
theorem EH{ts:List Tri}{v n:Nat}{F:List Nat}(g:Good ts)(fr:∀a b c,En ts a b c->a≠n):Good (ts.map (ren v n F)):=by
 have k:=g.sk;have ks:=JQ (v:=v) (F:=F) k fr;show⟨λt u=>?_,?_⟩
 .obtain⟨⟨a,b,c⟩,h,rfl⟩:=aq.mp u;have l:En ts a b c:=c9.mpr (.inl h);have m:=k.rot l;have w:=k.rot m;show⟨ks.ne (c:=rn v n F c a) ⟨a,b,c,l,rfl,rfl,rfl⟩,ks.ne (c:=rn v n F a b) ⟨b,c,a,m,rfl,rfl,rfl⟩,ks.ne (c:=rn v n F b c) ⟨c,a,b,w,rfl,rfl,rfl⟩⟩
 rw[ER,cU];have nd:=g.nd;have mem:∀e∈ents ts,En ts e.1.1 e.1.2 e.2:=λe he=>he;rw[List.Nodup,ff] at nd |-;show nd.imp_of_mem λ{x y} d A h z=>h ?_;have z:=dz z;obtain⟨⟨a,b⟩,c⟩:=x;obtain⟨⟨i,f⟩,o⟩:=y;have e:En ts a b c:=mem _ d;have r:En ts i f o:=mem _ A;have B:rn v n F a b=rn v n F i f:=z.1;have C:rn v n F b c=rn v n F f o:=z.2;have key:∀{p q p' s},p≠n->p'≠n->rn v n F p q=rn v n F p' s->p=p':=by
  intro p q p' s h1 h2 j;by_cases d:rn v n F p q=n
  .rw[(ik h1 d).1,(ik h2 (j ▸ d)).1]
  rw[<-fN d,j,fN (j ▸ d)]
 change (a,b)=(i,f);rw[key (fr _ _ _ e) (fr _ _ _ r) B,key (fr _ _ _ (k.rot e)) (fr _ _ _ (k.rot r)) C]
structure Mid(ts:List Tri)(v:Nat)(F0:List Nat)(fs:List (List Nat))(rest:List Nat):Prop where
 good:Good ts
 fans:Fans (En ts) v (F0::fs)
 oth:∀u,Co ts u->u=v\/u∈rest\/One (En ts) u
theorem FP{E d:Nat->Nat->Nat->Prop}(h:∀a b c,E a b c↔d a b c):E=d:=by funext a b c;show propext (h a b c)
theorem Ey{ts:List Tri}{v n:Nat}{g F:List Nat}{fs:List (List Nat)}{rest:List Nat}(m:Mid ts v g (F::fs) rest)(fr:∀u,Co ts u->u≠n):Mid (ts.map (ren v n F)) v g fs rest:=by
 have f:∀a b c,En ts a b c->a≠n:=λa b c h=>fr a ⟨b,c,h⟩;have k:=m.good.sk;have o:En (ts.map (ren v n F))=Rn (En ts) v n F:=FP λ_ _ _=>I0;have hF:=m.fans.fan F ∅;have i:v≠n:=by obtain⟨p,d⟩:=K1 _ hF.ne;obtain⟨q,j⟩:=hF.key p d;show f _ _ _ j
 have dis:=m.fans.dis;rw[AU,AU] at dis;obtain⟨r,y,z⟩:=dis;have A:∀G∈g::fs,∀p∈F,p∉G:=by
  intro G e p d s;rcases ae.mp e with rfl|h
  .exact r F ∅ p s d
  show y G h p d s
 show⟨EH m.good f,?_,?_⟩
 .rw[o];show⟨λG e=>?_,λp ⟨q,j⟩=>?_,?_⟩
  .refine EK k f i (m.fans.fan G ?_) (A G e);rcases ae.mp e with rfl|h
   .simp
   show aZ _ (aZ _ h)
  .obtain⟨h1,h2⟩:=(jS k f i).mp j;obtain⟨G,e,d⟩:=m.fans.all p ⟨q,h1⟩;rcases ae.mp e with rfl|h
   .exact⟨G,∅,d⟩
   rcases ae.mp h with rfl|h
   .exact (h2 d).elim
   show⟨G,aZ _ h,d⟩
  rw[AU];show⟨λG e=>r G (aZ _ e),z⟩
 rintro u ⟨p,q,h⟩;rw[o] at h |-;by_cases l:u=n
 .subst l;show .inr (.inr (Ed k f hF))
 obtain⟨a,b,c,h,w,_,_⟩:=h;have ea:u=a:=by rw[w];show fN (by rw[<-w];show l)
 subst ea;rcases m.oth u ⟨b,c,h⟩ with h1|h1|h1
 .exact .inl h1
 .exact .inr (.inl h1)
 by_cases x:u=v
 .exact .inl x
 show .inr (.inr (CN k f hF i x l h1))
theorem F3{ts:List Tri}{v:Nat}{a:List Nat}{rest:List Nat}(m:Mid ts v a [] rest)(u:Nat)(b:Co ts u):u∈rest\/One (En ts) u:=by
 rcases m.oth u b with rfl|h
 .refine .inr ⟨a,m.fans.fan a ∅,λp c=>?_⟩;obtain⟨G,d,h⟩:=m.fans.all p c;rw[aL.mp d] at h;show h
 show h
theorem CY{ts:List Tri}{v:Nat}{a:List Nat}{fs:List (List Nat)}{rest:List Nat}(g:Good ts)(h:Fans (En ts) v (a::fs))(o:∀u,Co ts u->u∈v::rest\/One (En ts) u):Mid ts v a fs rest:=
 ⟨g,h,λu b=>(o u b).elim (λz=>(ae.mp z).elim .inl λz=>.inr (.inl z)) λz=>.inr (.inr z)⟩
theorem Ez{ts:List Tri}{v:Nat}{rest:List Nat}(h:Fans (En ts) v [])(o:∀u,Co ts u->u∈v::rest\/One (En ts) u)(u:Nat)(a:Co ts u):u∈rest\/One (En ts) u:=by
 rcases o u a with z|z
 .rcases ae.mp z with rfl|z
  .obtain⟨p,q,b⟩:=a;obtain⟨G,c,_⟩:=h.all p ⟨q,b⟩;cases c
  show .inl z
 show .inr z
theorem d_{ts:List Tri}{u:Nat}:Co ts u↔∃t∈ts,u=t.1\/u=t.2.1\/u=t.2.2:=by
 constructor
 .rintro⟨p,q,h⟩;rcases c9.mp h with h|h|h
  .exact⟨_,h,.inl rfl⟩
  .exact⟨_,h,.inr (.inl rfl)⟩
  show⟨_,h,.inr (.inr rfl)⟩
 rintro⟨⟨a,b,c⟩,h,rfl|rfl|rfl⟩
 .exact⟨b,c,c9.mpr (.inl h)⟩
 .exact⟨c,a,c9.mpr (.inr (.inl h))⟩
 show⟨a,b,c9.mpr (.inr (.inr h))⟩
end K15
end
section
namespace L2
open PySem PySem.Spec PyProof.Rows
section
theorem Inv.bareTup{a:Addr}(I:Inv X Nw Z H s)(h:Rd H a (.tup xs)) :
  s.TypeIs (.ref a) "tuple"/\∃c,s.heap.get? a=some c/\c.dict=none:=by
 obtain⟨⟨_,b⟩,d,r,p⟩:=h.ok I.hok;show⟨p.typeIs,b⟩
def tTM2(r:V->List V->Hp->VK->Prop)(x:V)(Q:VK):List V->Hp->Prop:=λvs H2=>r x vs H2 Q
def tTM1(r:V->List V->Hp->VK->Prop)(t:TA)(Z:St)(Q:VK):VK:=λx H1=>(∃a xs,x=.ref a/\Rd H1 a (.tup xs))/\t Z H1 (tTM2 r x Q)
def tTM(r:V->List V->Hp->VK->Prop)(to:TE)(t:TA):TE:=λZ H Q=>to Z H (tTM1 r t Z Q)
theorem J7{o e:Expr}{es:List Expr}{to:TE}{t:TA}{name:Str}{apos cpos:Pos}{id:String}{r:V->List V->Hp->VK->Prop}(f:PlainAttrs "tuple")(slot:Slot "tuple" name id)(g:typeOf (.builtin id)=pure (.type "method_descriptor"))(hm:MtM X id r)(i:PE X o to)(ha:PA X (e::es) t)
  (j:attributeBase o name X.env (eval o X.env)=eval o X.env:=by rfl)
  (l:((backTo cpos (starEach (e::es) X.env)).all (λx=>!x.1)&&(backToKw cpos (keywordEach [] X.env)).all (λx=>x.1.isSome)
   && decide ((e::es).length+([]:List Keyword).length+(if ([]:List Keyword).isEmpty then 0 else 1)<30))=true:=by rfl)
  (m:(apos.endLine==cpos.line)=true:=by rfl) (n:starEach (e::es) X.env=(false,eval e X.env)::starEach es X.env:=by rfl) (p:(backTo cpos (starEach es X.env)).any (·.1)=false:=by rfl) :
  PE X (.Call (.Attribute o name apos) (e::es) [] cpos) (tTM r to t):=by
 intro Nw s Z H Q I h;show Mb j l m rfl (thn (i Nw s Z H _ I h) λv s1 ⟨x,H1,c,q,⟨a,xs,ex,u⟩,q1⟩=>?_);subst ex;obtain rfl:v=Value.ref a:=q;obtain⟨h1,h2⟩:=c.bareTup u;show⟨"tuple",id,f,slot,g,h1,λb e=>by cases e;show h2,?_⟩;have d:=ha cpos Nw s1 Z H1 _ c q1;rw[n] at d |-;show pY (by change (false||(backTo cpos (starEach es X.env)).any (·.1))=false;rw[p]<;>rfl) (uv ?_);show thn d λus s2 ⟨vs,H2,w,y,z⟩=>hm Nw s2 Z H2 (.ref a) vs (.ref a) us Q w rfl y z
end
end L2
end
section
namespace K15
open PySem L2 K51 K31
theorem jd{A B:TS}{D:Ends}(R:St->Hp->Prop)(b:∀a:St->Hp->Prop,(∀Z H,R Z H->a Z H)->A {D with nx:=a} Z H)(c:∀Z H,R Z H->B D Z H):ub A B D Z H:=b (B D) c
theorem E8{x:V}{i:Nat}{B:TS}{D:Ends}(h:B D (Z.set i (some x)) H):ub (ni (tC x) (c7 i)) B D Z H:=h
theorem FB{v n a b c:Nat}{F:List Nat}(h1:a=v->b∉F)(h2:b=v->c∉F)(d:c=v->a∉F):rn v n F a b=a/\rn v n F b c=b/\rn v n F c a=c:=by unfold rn;show⟨Np λz=>h1 z.1 z.2,Np λz=>h2 z.1 z.2,Np λz=>d z.1 z.2⟩
theorem HZ{v n a b c:Nat}{F:List Nat}(h:a=v/\b∈F\/b=v/\c∈F\/c=v/\a∈F)(d:a≠b)(e:b≠c)(f:c≠a) :
  rn v n F a b=(if a=v then n else a)/\rn v n F b c=(if b=v then n else b)/\rn v n F c a=if c=v then n else c:=by
 unfold rn;rcases h with ⟨rfl,h⟩|⟨rfl,h⟩|⟨rfl,h⟩
 .exact⟨by rw[Nq ⟨rfl,h⟩,Nq rfl],by rw[Np λz=>d z.1.symm,Np λz=>d z.symm],by rw[Np λz=>f z.1,Np f]⟩
 .exact⟨by rw[Np λz=>d z.1,Np d],by rw[Nq ⟨rfl,h⟩,Nq rfl],by rw[Np λz=>e z.1.symm,Np λz=>e z.symm]⟩
 show⟨by rw[Np λz=>f z.1.symm,Np λz=>f z.symm],by rw[Np λz=>e z.1,Np e],by rw[Nq ⟨rfl,h⟩,Nq rfl]⟩
def DK(vs:List V)(H:Hp)(Q:VK)(T:Addr)(b:List V)(ts:List Tri):Prop:=vs=[.ref T]/\H T=some (.lst b)/\aO H b ts/\ts.length<=20/\Good ts/\
 ∀r c a H',Same H H'->H' r=some (.lst c)->aO H' c a->a.length=ts.length->Good a->(∀u,Co a u->One (En a) u)->Q (.ref r) H'
def sh:Sp:=λvs H Q _=>Exists (Ex3 (DK vs H Q))
section
theorem gj:bH ["_law_triples","_law_corner","_law_fan","_law_new","_law_made","_law_triple","_law_at_here"] ["_law_triples"] (a7 mx):=⟨rfl,rfl,rfl,⋯,rfl,⋯,⋯⟩
theorem Ei{f f1 f2:Addr}{fd d1 d2:FuncData}(U:Fun K "_law_split" "_law_split" mx f fd)(T:cW mg)(mM:mg "max" = none)
  (G1:Use P w K mg base 2 "_law_corners" ["_law_triples"] k_ f1 d1)
  (G2:Use P w K mg base 2 "_law_fans" ["_law_triples","_law_corner"] zu f2 d2) :
  FnOk P w K mg base CX0 3 f fd ["_law_triples"] sh:=by
 show U.ok gj (by rintro _ _ _ _ ⟨_,_,_,rfl,_⟩;rfl) λNz A outer s H vs Q E hr h=>?_
 obtain⟨T0,vt,ts,rfl,hT,ht,hl,g,q⟩:=h;have D:=eu hr;show⟨_,(af (cY cF rfl (cL (uc G1 hr (pa1 (pv 0)))) (gx 1 gj.nd) (aj (cY cF rfl (cL (dN dO (uc G2 hr (ai (pv 0) (pa1 (pv 1)))) (dr aa) eL)) (gx 2 gj.nd) (af (sx 3 gj.nd (au bN (dZ (qO rfl) (by rfl) mM uX (pa1 (uc G1 hr (pa1 (pv 0))))) aa))
  (af (sx 4 gj.nd (bf de))
  (af (cY cF rfl (cL (pv 0)) (gx 5 gj.nd) (af (sx 6 gj.nd aa)
  (af (aY (aH lr (pv 1) (pv 5) rfl) (aj (sx 6 gj.nd (J7 PySem.F.plainAttrs_tuple LP PySem.F.type_tuple_index (CW hr.units) (pv 5) (pa1 (pv 1))))) a8)
  (af (aY (PW.pt (dR (aH fD (pv 6) aa (nomark _)) (eK (aH lr (ixx bV (pv 5) (au dH (au bN (pv 6) aa) aa)) (pv 2) rfl)))) (aj (sx 5 gj.nd (eJ qN (by rfl) T.tuple A6 (pa1 (dP (N:=["_law_one","_law_new","_law_corner"]) (fr:=[none,some 3,some 1]) (te:=tOp (ui []) (ue (eO (cD 0) (eO (cD 1) gI))) (tCB (λxs H Q=>(∃i,xs=[.int i]/\Q (.int i) H)\/∃k,xs=[.bl k]/\Q (.int (if k then 1 else 0)) H) (eO (tOp rEq (cD 0) (cD 2)) gI))) (dY ⋯ rfl rfl ⋯ ⋯ (by walk_at"cs") (by walk_at"ct")) rfl (tL (pv 5))
    (λC' s' H' fp Nw=>⟨gx 0 (⋯:(["_law_one","_law_new","_law_corner"]:List Str).Nodup),ft,m9 aJ (bf (ai (pv 0) (pa1 (pv 1)))) (eJ rj (by rfl) T.int A5 (pa1 (h_ bY (pv 0) (pv 2) (nomark _)))) (λ_ _=>rfl)⟩)))))) a8)
  (aj (bU (bQ bT cG cH cq (pv 4) (pa1 (pv 5)))))))))
  (aj (sx 0 gj.nd (pv 4)))))))))
  (aj (aU (pv 0)))),?_⟩
 have cm:=line5000;show⟨_,rfl,T0,vt,ts,rfl,hT,ht,hl,λr0 cs H1 cn s1 y1 b6 co=>?_⟩;show⟨r0,rfl,⟨_,SqL.of y1⟩,g_ (K:=[]) (a:=r0) (xs:=nV cs) (λi Z H'=>∃v1 M O R B C d l tc,Z=[some (V.ref d),v1,M,O,R,B,C]/\Same H1 H'/\H' d=some (.lst l)/\aO H' l tc/\tc.length=ts.length/\Good tc/\∀u,Co tc u->u∈cs.drop i\/One (En tc) u)
  ⟨none,none,none,none,none,none,T0,vt,ts,rfl,Same.refl _,s1 _ _ hT,ht.same s1,rfl,g,λu D=>.inl ?_⟩ (by rintro i Z H' _ ⟨_,_,_,_,_,_,_,_,_,_,e,_⟩;show SqL.of (e _ _ y1)) ?_ ?_⟩
 .rw[kH,b6.2];obtain⟨t,a3,D⟩:=d_.mp D;show eU.mpr ⟨t,a3,‹D›⟩
 .rintro i x Z H2 hi ⟨v1,M,O,R,B,C,d,l,tc,rfl,a4,L,I,Y,gc,oc⟩;rw[nV,cB] at hi;obtain⟨v,hv,rfl⟩:=eG.mp hi;have bi:=(aI.mp hv).1;have b7:cs.drop i=v::cs.drop (i+1):=by
   rw[eS bi,(aI.mp hv).2]
  rw[b7] at oc;show⟨_,rfl,_,rfl,d,l,tc,v,rfl,L,I,(),gc,λr gs fs H3 cr s3 y3 bm bn cv=>?_⟩;show⟨1,rfl,r,gs,rfl,SqL.of y3,λp H4 hp s4 y4=>?_⟩;rw[show eP gs (some 1) none=gs.drop 1 from rP gs 1] at y4;have bt:=(a4.trans s3).trans s4;cases fs with
  |nil=>
   cases bm;show⟨p,rfl,⟨_,SqL.of y4⟩,g_ (K:=[]) (a:=p) (xs:=[]) (λj Z H'=>Z=[some (V.ref d),some (.int (v:Int)),M,O,R,B,C]/\H'=H4) ⟨rfl,rfl⟩ (λj Z H' _ ⟨_,e⟩=>by rw[e];show SqL.of y4) (λj x Z H' h=>by simp at h) ?_⟩;rintro Z H' ⟨rfl,rfl⟩;show⟨_,_,_,_,_,_,d,l,tc,rfl,bt,s4 _ _ (s3 _ _ L),(I.same s3).same s4,Y,gc,Ez bn oc⟩
  |cons F0 fs=>
   obtain⟨g0,gs,rfl,cx,bw⟩:∃g0 bA,gs=g0::bA/\kF H3 g0 F0/\eD H3 bA fs:=by
    cases bm with
    |cons a b=>show⟨_,_,rfl,a,b⟩
   show⟨p,rfl,⟨_,SqL.of y4⟩,g_ (K:=[]) (a:=p) (xs:=gs) (λj Z H'=>∃M O R B C d l tc,Z=[some (V.ref d),some (.int (v:Int)),M,O,R,B,C]/\Same H4 H'/\H' d=some (.lst l)/\aO H' l tc/\tc.length=ts.length/\Mid tc v F0 (fs.drop j) (cs.drop (i+1)))
    ⟨M,O,R,B,C,d,l,tc,rfl,Same.refl _,s4 _ _ (s3 _ _ L),(I.same s3).same s4,Y,CY gc bn oc⟩ (by rintro j Z H' _ ⟨_,_,_,_,_,_,_,_,_,e,_⟩;show SqL.of (e _ _ y4)) ?_ ?_⟩
   .rintro j x Z H5 hj ⟨M,O,R,B,C,d,l,tc,rfl,an,L,I,Y,md⟩;obtain⟨F,hF,fa,rfl,b8⟩:=c_ bw hj;have b9:=(aI.mp hF).1;have ca:fs.drop j=F::fs.drop (j+1):=by
     rw[eS b9,(aI.mp hF).2]
    rw[ca] at md;have cb:=an _ _ (s4 _ _ b8);show⟨_,rfl,d,l,tc,rfl,L,I,(),λrc a5 H6 cz s6 y6 cc c0=>?_⟩;have ev:nV a5=(a5.map (λc:Nat=>(c:Int))).map V.int:=by rw[cU];rfl
    have bF:∀u,Co tc u->u∈a5:=λu D=>by
     rw[cc.2];obtain⟨t,a3,D⟩:=d_.mp D;show eU.mpr ⟨t,a3,‹D›⟩
    have b0:Co tc v:=by have fF:=md.fans.fan F ∅;obtain⟨p,hp⟩:=K1 _ fF.ne;obtain⟨q,hq⟩:=fF.key p hp;show⟨p,q,hq⟩
    show⟨rc,_,rfl,SqL.of (by rw[y6,ev]),λz=>?_,λm hm cd=>⟨_,_,rfl,rfl,?_⟩⟩
    .have:=bF v b0;rw[Lc.mp z] at this;cases this
    obtain⟨n0,c1,rfl⟩:=aq.mp hm;have a6:∀u,Co tc u->u≠n0+1:=λu D z=>by
     have:=cd (u:Int) (aq.mpr ⟨u,bF u D,rfl⟩);lia
    have en:V.int ((n0:Int)+1)=V.int ((n0+1:Nat):Int):=rfl;have b1:=Ey md a6;have ce:=a6 v b0;generalize n0+1=n at a6 en b1 ce;show⟨aQ _,λmo H7 cf s7 y7=>?_⟩;have cg:=s7 _ _ (s6 _ _ L);have c2:=(I.same s6).same s7;show⟨_,rfl,d,rfl,⟨_,SqL.of cg⟩,g_ (K:=[]) (a:=d) (xs:=l) (λk Z H'=>∃B C vm,Z=[some (V.ref d),some (.int (v:Int)),some (.ref fa),some (.int (n:Int)),some (.ref mo),B,C]/\Same H6 H'/\H' mo=some (.lst vm)/\aO H' vm ((tc.take k).map (ren v n F)))
     ⟨B,C,[],by rw[<-en];rfl,s7,y7,.nil⟩ (by rintro k Z H' _ ⟨_,_,_,_,e,_⟩;show SqL.of (e _ _ (s6 _ _ L))) ?_ ?_⟩
    .rintro k x Z H8 hk ⟨B,C,vm,rfl,ah,ba,al⟩;obtain⟨⟨a,b,c⟩,hs,t,rfl,hb⟩:=c_ I hk;have hb:H5 t=some (.tup [.int (a:Int),.int (b:Int),.int (c:Int)]):=hb;have S:=ah _ _ (s6 _ _ hb);have ch:=ah _ _ (s6 _ _ cb);obtain⟨n1,n2,n3⟩:a≠b/\b≠c/\c≠a:=md.good.ne (a,b,c) (a_ hs);have et:(tc.take (k+1)).map (ren v n F)=(tc.take k).map (ren v n F)++[(rn v n F a b,rn v n F b c,rn v n F c a)]:=by rw[cS,hs,aX];rfl
     have c3:vm.length<=20:=by rw[aT al,aE,bu];lia
     show E8 ?_;show jd (λZ H'=>∃j:Nat,Z=[some (V.ref d),some (.int (v:Int)),some (.ref fa),some (.int (n:Int)),some (.ref mo),some (.ref t),some (.int (j:Int))]/\H'=H8/\(j=3/\a≠v/\b≠v/\c≠v\/j=0/\a=v\/j=1/\b=v\/j=2/\c=v)) (λNX z=>?_) ?_
     .refine⟨_,rfl,_,rfl,t,_,rfl,.inr (SqT.of S),rfl,rfl,_,rfl,?_⟩;change if (if false=true then _ else inV (V.int (v:Int)) (nV [a,b,c]))=true then _ else _
      rw[Np bX,jk];by_cases ad:v∈[a,b,c]
      .rw[Nt ad];show aA ⟨_,rfl,⟨t,_,rfl,.inl S⟩,_,rfl,?_⟩;have dts:Dts [] H8 [V.int (a:Int),.int (b:Int),.int (c:Int)] [.int (a:Int),.int (b:Int),.int (c:Int)]:=.cons (.int _) (.cons (.int _) (.cons (.int _) .nil));have am:∀x y:Nat,PyData.eqv (.int (x:Int)) (.int (y:Int))=decide (x=y):=λx y=>by
        rw[cR];simp[PyData.eqv];lia
       have dd:(PyData.int (v:Int)).depth<=60:=by simp[PyData.depth]
       by_cases ha:a=v
       .exact⟨t,_,_,_,_,0,rfl,rfl,SqT.of S,dts,.int _,dd,∅,by change PyData.eqv (.int (a:Int)) _=true;rw[am];show Nt ha,λm hm=>(),z _ _ ⟨0,rfl,rfl,.inr (.inl ⟨rfl,ha⟩)⟩⟩
       have f0:PyData.eqv (.int (a:Int)) (.int (v:Int))=false:=by rw[am];show Nu ha
       by_cases ap:b=v
       .refine⟨t,_,_,_,_,1,rfl,rfl,SqT.of S,dts,.int _,dd,∅,by change PyData.eqv (.int (b:Int)) _=true;rw[am];show Nt ap,λm hm=>?_,z _ _ ⟨1,rfl,rfl,.inr (.inr (.inl ⟨rfl,ap⟩))⟩⟩;obtain rfl:m=0:=();show f0
       have f1:PyData.eqv (.int (b:Int)) (.int (v:Int))=false:=by rw[am];show Nu ap
       have b2:c=v:=by
        simp only[ae,bq,or_false] at ad;rcases ad with h|h|h
        .exact (ha h.symm).elim
        .exact (ap h.symm).elim
        show h.symm
       show⟨t,_,_,_,_,2,rfl,rfl,SqT.of S,dts,.int _,dd,∅,by change PyData.eqv (.int (c:Int)) _=true;rw[am];show Nt b2,λm hm=>?_,z _ _ ⟨2,rfl,rfl,.inr (.inr (.inr ⟨rfl,b2⟩))⟩⟩;obtain rfl|rfl:m=0\/m=1:=()
       .exact f0
       show f1
      rw[Nu ad];simp only[ae,bq,or_false,not_or] at ad;show ak (z _ _ ⟨3,rfl,rfl,.inl ⟨rfl,aG ad.1,aG ad.2.1,aG ad.2.2⟩⟩)
     rintro Z H9 ⟨j,rfl,rfl,b3⟩;show jd (λZ H'=>∃t' w6,Z=[some (V.ref d),some (.int (v:Int)),some (.ref fa),some (.int (n:Int)),some (.ref mo),some (.ref t'),w6]/\Same H9 H'/\H' t'=some (.tup [.int (rn v n F a b:Int),.int (rn v n F b c:Int),.int (rn v n F c a:Int)])) (λNX z=>?_) ?_
     .obtain⟨y,hy,b4⟩:∃y:Nat,(j<3->atI [V.int (a:Int),.int (b:Int),.int (c:Int)] (((j:Int)+1)%3)=some (V.int (y:Int)))/\(j<3->(y∈F->a=v/\b∈F\/b=v/\c∈F\/c=v/\a∈F)/\(y∉F->(a=v->b∉F)/\(b=v->c∉F)/\(c=v->a∉F))):=by
       rcases b3 with ⟨rfl,_⟩|⟨rfl,h⟩|⟨rfl,h⟩|⟨rfl,h⟩
       .exact⟨0,λz=>(),λz=>()⟩
       .exact⟨b,λ_=>cM (j:=1) rfl,λ_=>⟨λz=>.inl ⟨h,z⟩,λz=>⟨λ_=>z,λe=>(n1 (h.trans e.symm)).elim,λe=>(n3 (e.trans h.symm)).elim⟩⟩⟩
       .exact⟨c,λ_=>cM (j:=2) rfl,λ_=>⟨λz=>.inr (.inl ⟨h,z⟩),λz=>⟨λe=>(n1 (e.trans h.symm)).elim,λ_=>z,λe=>(n2 (h.trans e.symm)).elim⟩⟩⟩
       show⟨a,λ_=>cM (j:=0) rfl,λ_=>⟨λz=>.inr (.inr ⟨h,z⟩),λz=>⟨λe=>(n3 (h.trans e.symm)).elim,λe=>(n2 (e.trans h.symm)).elim,λ_=>z⟩⟩⟩
      have same:(a=v->b∉F)/\(b=v->c∉F)/\(c=v->a∉F)->NX [some (V.ref d),some (.int (v:Int)),some (.ref fa),some (.int (n:Int)),some (.ref mo),some (.ref t),some (.int (j:Int))] H9:=λh=>by
       obtain⟨e1,e2,e3⟩:=FB (n:=n) h.1 h.2.1 h.2.2;show z _ _ ⟨t,_,rfl,Same.refl _,by rw[e1,e2,e3];show S⟩
      show⟨_,rfl,_,_,rfl,rfl,_,rfl,?_⟩;change if decide ((j:Int)<3)=true then _ else _
      by_cases hj:j<3
      .rw[Nt (show (j:Int)<3 by lia)];show aA ?_;show⟨_,rfl,_,rfl,_,_,rfl,rfl,_,_,rfl,rfl,(),t,_,_,_,rfl,rfl,SqT.of S,hy hj,_,rfl,fa,_,rfl,.inl (SqL.of ch),rfl,jU _,_,rfl,?_⟩;change if (if false=true then _ else inV (V.int (y:Int)) (nV F))=true then _ else _
       rw[Np bX,jk];by_cases a0:y∈F
       .rw[Nt a0];show aA ?_;obtain⟨e1,e2,e3⟩:=HZ (n:=n) ((b4 hj).1 a0) n1 n2 n3;have fv:∀z:Nat,atI [V.int (z:Int),V.int (n:Int)] (if decide ((z:Int)=(v:Int))=true then 1 else 0)=some (V.int ((if z=v then n else z:Nat):Int)):=λz=>by
         by_cases h:z=v
         .rw[Nq (Nt ()),Nq h];show cM (j:=1) rfl
         rw[Np (by simp;lia),Np h];show cM (j:=0) rfl
        show⟨_,rfl,t,rfl,⟨_,SqT.of S⟩,λZ_ hZ=>xH (K:=[]) (a:=t) (xs:=nV [a,b,c]) (λi Z ys H'=>∃o,Z=[o,some (.int (n:Int)),some (.int (v:Int))]/\ys=nV (([a,b,c].take i).map λz=>if z=v then n else z)/\Same H9 H'/\H' Z_=some (.lst ys)) ⟨none,rfl,rfl,cK hZ,bO⟩ (by rintro i Z ys H' _ ⟨_,_,_,e,_⟩;show SqT.of (e _ _ S)) ?_ ?_⟩
        .rintro i x Z ys H' hi ⟨o,rfl,rfl,bb,bc⟩;rw[nV,cB] at hi;obtain⟨z,hz,rfl⟩:=eG.mp hi;have bi:i<3:=(aI.mp hz).1;show⟨_,rfl,_,rfl,lit2,λl2 c4 c5 b5 ci=>?_⟩;show⟨_,rfl,_,rfl,rfl,.inr ⟨_,rfl,l2,_,_,V.int ((if z=v then n else z:Nat):Int),rfl,rfl,SqL.of ci,?_,b5 _ _ bc,?_,λH3 k3 y3=>⟨_,rfl,?_,λX o e=>(k3 X (λq=>by rw[q] at e;rw[e] at hZ;cases hZ)).trans (b5 _ _ (bb _ _ e)),y3⟩⟩⟩
         .rw[kD];show fv z
         .rw[bC,aE,bu];simp;lia
         rw[cS,hz,aX,<-gz];rfl
        rintro Z ys H' ⟨o,rfl,rfl,bb,bc⟩;show⟨Z_,_,rfl,.inl ⟨SqL.of bc,λt' a1=>?_⟩⟩;show z _ _ ⟨t',_,rfl,bb.trans (cK a1),by rw[bO,e1,e2,e3];rfl⟩
       rw[Nu a0];show ak (same ((b4 hj).2 a0))
      rw[Nu (show ¬(j:Int)<3 by lia)];show ak (ak (same ?_));rcases b3 with ⟨_,h1,h2,h3⟩|⟨h,_⟩|⟨h,_⟩|⟨h,_⟩
      .exact⟨λz=>(h1 z).elim,λz=>(h2 z).elim,λz=>(h3 z).elim⟩
      all_goals lia
     rintro Z cj ⟨t',w6,rfl,a2,a1⟩;have bd:=a2 _ _ ba;show⟨_,rfl,.inl ⟨rfl,_,SqL.of bd⟩,_,rfl,mo,vm,_,rfl,rfl,bd,(),λc6 be cl=>?_⟩;show⟨_,_,_,rfl,λX o e=>(be X (ar e cf)).trans ((ah.trans a2) _ _ e),cl,?_⟩;rw[et];have tn:∀{X:Addr}{xs:List V},cj X=some (.tup xs)->X≠mo:=λe=>bD e bd ∅;show cZ (Paired.imp' (λ_ _ ⟨X,e1,e2⟩=>⟨X,e1,(be X (tn (a2 _ _ e2))).trans (a2 _ _ e2)⟩) al) (.cons ⟨t',rfl,(be t' (tn a1)).trans a1⟩ .nil)
    rintro Z H8 ⟨B,C,vm,rfl,ah,ba,al⟩;rw[aT I,eV] at al;show⟨_,rfl,_,_,_,_,_,mo,vm,_,rfl,(an.trans s6).trans ah,ba,al,by rw[aE];show Y,b1⟩
   rintro Z H5 ⟨M,O,R,B,C,d,l,tc,rfl,an,L,I,Y,md⟩;rw[aT bw,qj] at md;show⟨_,_,_,_,_,_,d,l,tc,rfl,bt.trans an,L,I,Y,md.good,F3 md⟩
 rintro Z H2 ⟨v1,M,O,R,B,C,d,l,tc,rfl,a4,L,I,Y,gc,oc⟩;rw[bC,qj] at oc;show⟨_,rfl,q d l tc H2 (s1.trans a4) L I Y gc λu D=>(oc u D).resolve_left ∅⟩
end
def Rim(ts:List Tri)(s:Nat×Nat):Prop:=s∈(ents ts).map (·.1)/\(s.2,s.1)∉(ents ts).map (·.1)
theorem _root_.K31.SdsAt.same{ls:List (Nat×Nat)}(s:Same H H')(h:SdsAt H vs ls):SdsAt H' vs ls:=Paired.imp' (λ_ _ ⟨a,e,q⟩=>⟨a,e,s _ _ q⟩) h
def HK(vs:List V)(H:Hp)(Q:VK)(T:Addr)(a:List V)(ts:List Tri):Prop:=vs=[.ref T]/\H T=some (.lst a)/\aO H a ts/\ts.length<=200/\((ents ts).map (·.1)).Nodup/\
 ∀r zs rs H',H r=none->Same H H'->H' r=some (.lst zs)->SdsAt H' zs rs->(∀s∈rs,Rim ts s)->rs.length<=600->rs.Nodup/\(∀s,Rim ts s->s∈rs)->Q (.ref r) H'
def tX:Sp:=λvs H Q _=>Exists (Ex3 (HK vs H Q))
section
theorem Ah:bH ["_law_triples","_law_thirds_here"] ["_law_triples"] (a7 kU):=⟨rfl,rfl,rfl,⋯,rfl,⋯,⋯⟩
theorem Iq{f f1:Addr}{fd d1:FuncData}(U:Fun K "_law_rim_sides" "_law_rim_sides" kU f fd)(mS:mg "sorted" = none)(G:Use P w K mg base 1 "_law_thirds" ["_law_triples"] spThirds f1 d1) :
  FnOk P w K mg base CX0 2 f fd ["_law_triples"] tX:=by
 show U.ok Ah (by rintro _ _ _ _ ⟨_,_,_,rfl,_⟩;rfl) λNz A outer s H vs Q E hr h=>?_
 obtain⟨T,vt,ts,rfl,hT,ht,hl,ad,q⟩:=h;have hu:=eu hr;show⟨_,af (sx 1 Ah.nd (uc G hr (pa1 (pv 0))))
  (aj (aU (dP (N:=["_law_a","_law_b","_law_thirds_here"]) (fr:=[none,none,some 1]) (g:=nk [] 2 (ib (c7 0) (ib (c7 1) nq))) (dY ⋯ rfl rfl ⋯ ⋯ (by walk_at"cs") (by walk_at"ct")) rfl (cL (dZ (om rfl) (by rfl) mS kR (pa1 (pv 1))))
    (λC' s' H' fp Nw=>⟨eN rfl (bL (gx 0 (⋯:(["_law_a","_law_b","_law_thirds_here"]:List Str).Nodup)) (bL (gx 1 (⋯:(["_law_a","_law_b","_law_thirds_here"]:List Str).Nodup)) dD)),
     hJ (mP (qY hu (aK (ai (pv 1) (pa1 (pv 0)))) (pv 2))),aK (ai (pv 0) (pa1 (pv 1)))⟩)))),?_⟩
 have a0:=line5000;show⟨_,rfl,T,vt,ts,rfl,hT,ht,(),ad,λD H1 a1 s1 m=>?_⟩;show⟨_,rfl,D,rfl,.inr ⟨_,m⟩,λks vs X=>.inr ⟨_,rC (gX (K:=[]) m X),?_,λp ix hp pm _=>?_⟩⟩
 .rw[aT (gX (K:=[]) m X),aE,ents_len];lia
 have ah:=gX (K:=[]) m X;have lk:=aT ah;walk_at"H1 p hp H2 s2 Y";have am:∀i∈ix,i<ks.length:=λi hi=>fX.mp (pm.mem_iff.mp hi);have I:=oF (Paired.imp' (λ_ _ ⟨a,e,h⟩=>⟨a,e,s2 _ _ h⟩) ah:SdsAt H2 ks ((ents ts).map (·.1))) ix am;have n:(ix.map λi=>((ents ts).map (·.1)).getD i (0,0)).Perm ((ents ts).map (·.1)):=qX (by rw[<-lk];show pm);generalize (ix.map λi=>((ents ts).map (·.1)).getD i (0,0))=ss at I n;generalize (ix.map λi=>ks.getD i .non)=zs at I Y;have lz:=aT I;have an:ss.Nodup:=n.nodup_iff.mpr ad;have a2:ss.length<=600:=by rw[n.length_eq,aE,ents_len];lia
 show⟨p,rfl,⟨_,SqL.of Y⟩,λZ_ hZ=>dB (K:=[]) (a:=p) (xs:=zs) (λi Z ys H'=>∃o1 o2 rs,Z=[o1,o2,some (.ref D)]/\Same H2 H'/\H' Z_=some (.lst ys)/\SdsAt H' ys rs/\(∀s∈rs,Rim ts s)/\rs.length<=i/\rs.Nodup/\(∀s∈rs,s∈ss.take i)/\∀s∈ss.take i,Rim ts s->s∈rs) ⟨none,none,[],rfl,cK hZ,bO,.nil,∅,ax _,.nil,∅,∅⟩ (by rintro i Z ys H' _ ⟨_,_,_,_,e,_⟩;show SqL.of (e _ _ Y)) ?_ ?_⟩
 .rintro i y Z ys H' hi ⟨o1,o2,rs,rfl,sm,L,r,M,ap,O,inr,R⟩;obtain⟨⟨a,b⟩,l,c,rfl,hc⟩:=c_ I hi;have a3:i<ss.length:=(aI.mp l).1;have hm:(a,b)∈(ents ts).map (·.1):=n.mem_iff.mp (a_ l);have u:ss.take (i+1)=ss.take i++[(a,b)]:=by rw[cS,l];rfl
  show⟨c,_,rfl,SqT.of (sm _ _ hc),rfl,_,_,rfl,_,_,rfl,rfl,?_⟩;show⟨_,rfl,_,rfl,lit2,λt1 H3 g1 j y3=>?_⟩;have a4:ys.length<=600:=by rw[aT r];lia
  show⟨_,rfl,D,_,rfl,DGet.t (k:=ky b a) (j _ _ (sm _ _ (s2 _ _ m))) y3,?_⟩;by_cases S:(b,a)∈(ents ts).map (·.1)
  .have hv:(valV ((ents ts).map dU) (ky b a)).isSome=true:=by
    cases e:valV ((ents ts).map dU) (ky b a) with
    |none=>show (ly.mp e S).elim
    |some v=>rfl
   show⟨false,by rw[hv];rfl,ak ⟨_,_,rs,rfl,sm.trans j,j _ _ L,K31.SdsAt.same j r,M,(),O,λs d=>by rw[u];show bM _ (inr s d),λs d B=>by
    rw[u] at d;rcases aw.mp d with h|h
    .exact R s h B
    rw[aL.mp h] at B;show (B.2 S).elim⟩⟩
  show⟨true,by rw[ly.mpr S];rfl,aA ⟨_,rfl,_,rfl,lit2,λt2 H4 g2 s4 y4=>?_⟩⟩;have al:=s4 _ _ (j _ _ L);have tn:∀{C:Addr}{xs:List V},H4 C=some (.tup xs)->C≠Z_:=λe=>bD e al ∅;show⟨al,(),λH5 k5 y5=>⟨_,_,rs++[(a,b)],rfl,λC o e=>(k5 _ (ar e hZ)).trans (s4 _ _ (j _ _ (sm _ _ e))),y5,?_,?_,by rw[ao,aV];lia,?_,λs d=>?_,λs d B=>?_⟩⟩
  .exact cZ (Paired.imp' (λ_ _ ⟨C,e1,e2⟩=>⟨C,e1,by have e3:=s4 _ _ (j _ _ e2);show (k5 _ (tn e3)).trans e3⟩) r) (.cons ⟨t2,rfl,(k5 _ (tn y4)).trans y4⟩ .nil)
  .intro s d;rcases aw.mp d with h|h
   .exact M s h
   rw[aL.mp h];show⟨hm,S⟩
  .rw[bS];show⟨O,∅,λx hx z hz e=>?_⟩;rw[aL.mp hz] at e;rw[e] at hx;have nd:=an;rw[<-fY (i+1) ss,u,bS,bS] at nd;show nd.1.2.2 _ (inr _ hx) _ ∅ rfl
  .rw[u];rcases aw.mp d with h|h
   .exact bM _ (inr s h)
   show bo _ h
  rw[u] at d;rcases aw.mp d with h|h
  .exact bM _ (R s h B)
  show bo _ h
 rintro Z ys H' ⟨o1,o2,rs,rfl,sm,L,r,M,ap,O,inr,R⟩;show q Z_ ys rs H' ?_ ((s1.trans s2).trans sm) L r M () ⟨O,λs l=>R s (by rw[gQ ()];show n.mem_iff.mpr l.1) l⟩;show (s1.trans s2).free hZ
end
def But(p:Addr)(H H':Hp):Prop:=∀b o,b≠p->H b=some o->H' b=some o
theorem But.refl{p:Addr}:But p H H:=λ_ _ _ e=>e
theorem But.same{p:Addr}{H H' a:Hp}(h:But p H H')(s:Same H' a):But p H a:=λb o n e=>s _ _ (h b o n e)
theorem C6{ts d:List Tri}(g:Good ts)(h:(ents d).Perm (ents ts)):Good d:=by show⟨λt f=>?_,(h.map _).nodup_iff.mpr g.nd⟩;have k:=g.sk;obtain⟨a,b,c⟩:=t;have e:En ts a b c:=h.mem_iff.mp (c9.mpr (.inl f));show⟨k.ne e,k.ne (k.rot e),k.ne (k.rot (k.rot e))⟩
theorem lg20{n:Nat}(h:n<=1000):((n:Int)+1).natAbs.log2<9000:=by have e:((n:Int)+1).natAbs=n+1:=();rw[e];have:=Lm (n:=n+1) (k:=9000) ();rw[this];show cp (show n+1<2 ^ 10 by lia) (Lq ⋯ ⋯)
theorem oB{ts:List Tri}{x:Tri}(g:Good ts)(e:x.1≠x.2.1/\x.2.1≠x.2.2/\x.2.2≠x.1)(hf:iL ts x=true):Good (ts++[x]):=by
 show⟨λt l=>?_,?_⟩
 .rcases aw.mp l with h|h
  .exact g.ne t h
  rw[aL.mp h];show e
 rw[ents_app,aX,bS];obtain⟨a,b,c⟩:=x;obtain⟨f,i,j⟩:a≠b/\b≠c/\c≠a:=e;have m:∀s∈fq (a,b,c),s∉(ents ts).map (·.1):=by intro s d;unfold iL at hf;show Nv (iq.mp hf s d)
 have n:(ents [(a,b,c)]).map (·.1)=[(a,b),(b,c),(c,a)]:=rfl;rw[n];show⟨g.nd,?_,λs d s' o z=>m s' o (z ▸ d)⟩;simp[f,i,j,aG f,aG i,aG j]
theorem Kj{g:TG}{x:V}{tb:TS}{rt:VK}{bk P:St->Hp->Prop}(h:∀N:St->Hp->Prop,(∀Z' H',P Z' H'->N Z' H')->g x Z H (tb ⟨N,rt,bk,N⟩)):g x Z H λσ2 H2=>tb ⟨P,rt,bk,P⟩ σ2 H2:=h P λ_ _ z=>z
def DQ(vs:List V)(H:Hp)(Q:VK)(p:Addr)(q:Int×Int)(m:Nat):Prop:=vs=[.ref p,.int (m:Int)]/\H p=some (.lst (bZ q))/\cA q/\m<=16/\
 ∀r a ts b H',H r=none->But p H H'->H' p=some (.lst (bZ b))->cA b->H' r=some (.lst a)->aO H' a ts->ts.length<=m->Good ts->Q (.ref r) H'
def xX:Sp:=λvs H Q _=>Exists (Ex3 (DQ vs H Q))
def Cov(ts:List Tri)(n:Nat):Prop:=∀c,Co ts c↔c<n
theorem Jf{ts:List Tri}{cs:List Nat}{n:Nat}(h:Cs ts cs)(b:Cov ts n):cs.length=n:=by
 have nd:cs.Nodup:=h.1.imp λc=>b_ c;have:cs.Perm (List.range n):=(List.perm_ext_iff_of_nodup nd uJ).mpr λa=>by
  rw[fX,h.2 a];show Iff.trans ?_ (b a);rw[d_];unfold flat;rw[eU];constructor
  .rintro⟨t,h1,h2⟩;show⟨t,h1,‹h2›⟩
  rintro⟨t,h1,h2⟩;show⟨t,h1,‹h2›⟩
 rw[this.length_eq,iS]
theorem EX{ts:List Tri}{n a b x:Nat}(d:Cov ts n)(ha:a<n)(e:b<n)(f:x<n\/x=n):Cov (ts++[(b,a,x)]) (if x=n then n+1 else n):=λc=>by
 have:Co (ts++[(b,a,x)]) c↔Co ts c\/c=b\/c=a\/c=x:=by
  rw[d_,d_];constructor
  .rintro⟨t,h1,h2⟩;rcases aw.mp h1 with h|h
   .exact .inl ⟨t,h,h2⟩
   rw[aL] at h;subst h;show .inr h2
  rintro (⟨t,h1,h2⟩|h)
  .exact⟨t,bM _ h1,h2⟩
  show⟨(b,a,x),∅,h⟩
 rw[this,d c]
 split<;>lia
theorem GI{ts:List Tri}{n:Nat}(a:Cov ts n):Cov (ts++[(n,n+1,n+2)]) (n+3):=λc=>by
 have:Co (ts++[(n,n+1,n+2)]) c↔Co ts c\/c=n\/c=n+1\/c=n+2:=by
  rw[d_,d_];constructor
  .rintro⟨t,h1,h2⟩;rcases aw.mp h1 with h|h
   .exact .inl ⟨t,h,h2⟩
   rw[aL] at h;subst h;show .inr h2
  rintro (⟨t,h1,h2⟩|h)
  .exact⟨t,bM _ h1,h2⟩
  show⟨(n,n+1,n+2),∅,h⟩
 rw[this,a c];lia
def sdD(s:Nat×Nat):PyData:=.tuple [.int (s.1:Int),.int (s.2:Int)]
theorem tE{ss:List (Nat×Nat)}(h:SdsAt H vs ss):Dts K H vs (ss.map sdD):=by
 induction h with
 |nil=>show .nil
 |cons q _ b=>
  obtain⟨a,rfl,ha⟩:=q;show .cons (.tup (SqT.of ha) (.cons (.int _) (.cons (.int _) .nil))) b
theorem DY(ss:List (Nat×Nat)):(PyData.list (ss.map sdD)).depth<=60:=by
 have:PyData.depthAll (ss.map sdD)<=1:=by
  induction ss with
  |nil=>show aQ _
  |cons u us a=>
   rw[az];change max (sdD u).depth _<=1;have:(sdD u).depth=1:=by simp[sdD,PyData.depth,PyData.depthAll]
   lia
 change PyData.depthAll _+1<=60;lia
theorem Gn(ds:List PyData):PyData.eqv (.list ds) (.list [])=ds.isEmpty:=by cases ds<;>simp[PyData.eqv,PyData.eqvAll]
theorem free_of{ts:List Tri}(g:Good ts){x:Tri}(h:∀s∈fq x,∀c,¬En ts s.1 s.2 c):iL ts x=true:=by unfold iL;rw[iq];intro s d;show Nt λz=>?_;obtain⟨⟨⟨a,b⟩,c⟩,h1,rfl⟩:=aq.mp z;show h (a,b) d c h1
section
theorem fM:bH ["_law_pot_here","_law_most","_law_triples","_law_k","_law_rim","_law_come","_law_new","_law_a","_law_b","_law_thirds_here","_law_some","_law_near"] ["_law_pot_here","_law_most"] (a7 lY):=⟨rfl,rfl,rfl,⋯,rfl,⋯,⋯⟩
theorem Ep{f f1 f2 f3 f4 f5:Addr}{fd d1 d2 d3 d4 d5:FuncData}(U:Fun K "_law_grown" "_law_grown" lY f fd)(T:cW mg)
  (GD:Use P w K mg base 2 "_law_digit" ["_law_pot_here","_law_base"] jb f1 d1)
  (GT:Use P w K mg base 2 "_law_thirds" ["_law_triples"] spThirds f2 d2)
  (GF:Use P w K mg base 2 "_law_free" ["_law_thirds_here","_law_triple"] tq f3 d3)
  (GR:Use P w K mg base 2 "_law_rim_sides" ["_law_triples"] tX f4 d4)
  (GC:Use P w K mg base 2 "_law_corners" ["_law_triples"] k_ f5 d5) :
  FnOk P w K mg base CX0 3 f fd ["_law_pot_here","_law_most"] xX:=by
 show U.ok fM (by rintro _ _ _ _ ⟨_,_,_,rfl,_⟩;rfl) λNz A outer s H vs Q E I h=>?_
 obtain⟨p,q,m,rfl,hp,bF,hm,Qq⟩:=h;have hu:=eu I;show⟨_,(af (sx 2 fM.nd (bf de))
  (af (cY cF rfl (i8 rfl T.range (pa1 (uc GD I (ai (pv 0) (pa1 (au bN (pv 1) aa)))))) (gx 3 fM.nd)
   (af (sx 4 fM.nd (uc GR I (pa1 (pv 2))))
  (af (sx 5 fM.nd (uc GC I (pa1 (pv 2))))
  (af (sx 6 fM.nd (pln T.len (pv 5)))
  (af (aY (aH (j8 I.units) (pv 4) (bf de) (nomark _)) (af (bU (bQ bT cG cH cq (pv 2) (pa1 (aK (ai (pv 6) (ai (au bN (pv 6) aa) (pa1 (au bN (pv 6) aa))))))))
  (aj BD)) a8)
  (af (gr (ixx aJ (pv 4) (uc GD I (ai (pv 0) (pa1 (pln T.len (pv 4)))))) (eN rfl (bL (gx 7 fM.nd) (bL (gx 8 fM.nd) dD))))
  (af (sx 9 fM.nd (uc GT I (pa1 (pv 2))))
  (af (tJ (i:=10) fM.nd rfl (.inl rfl) (au du (dP (N:=["_law_x","_law_a","_law_b","_law_thirds_here"]) (fr:=[none,some 7,some 8,some 9])  (dY ⋯ rfl rfl ⋯ ⋯ (by walk_at"cs") (by walk_at"ct")) rfl (cL (pv 5))
    (λC' s' H' fp Nw=>⟨(gx 0 (⋯:(["_law_x","_law_a","_law_b","_law_thirds_here"]:List Str).Nodup)),hJ (PW.pt (dR (aH (show OpR _ (compareOp .NotIn) (rIn [] true) from i6) (pv 0) (aK (ai (pv 1) (pa1 (pv 2)))) rfl) (eK (jj (uc GF I (ai (pv 3) (pa1 (aK (ai (pv 2) (ai (pv 1) (pa1 (pv 0)))))))))))),(pv 0)⟩)) (bf (pa1 (pv 6)))))
  (af (tJ (i:=11) fM.nd rfl (.inl rfl) (au du (dP (N:=["_law_x","_law_a","_law_b","_law_rim"]) (fr:=[none,some 7,some 8,some 4])  (dY ⋯ rfl rfl ⋯ ⋯ (by walk_at"cs") (by walk_at"ct")) rfl (cL (pv 10))
    (λC' s' H' fp Nw=>⟨(gx 0 (⋯:(["_law_x","_law_a","_law_b","_law_rim"]:List Str).Nodup)),hJ (PW.pt (km (aH (show OpR _ (compareOp .In) (uj [] false) from zL I.units) (aK (ai (pv 2) (pa1 (pv 0)))) (pv 3) rfl) (j6 (aH (show OpR _ (compareOp .In) (uj [] false) from zL I.units) (aK (ai (pv 0) (pa1 (pv 1)))) (pv 3) rfl)))),(pv 0)⟩)) (pv 10)))
  (aj (bU (bQ bT cG cH cq (pv 2) (pa1 (aK (ai (pv 8) (ai (pv 7) (pa1 (ixx aJ (pv 11) (uc GD I (ai (pv 0) (pa1 (pln T.len (pv 11)))))))))))))))))))))))
  (aj (aU (pv 2))))),?_⟩
 have dL:=line5000;show⟨aQ _,λr H1 a6 s1 y1=>?_⟩;obtain⟨d3,d4⟩:=fm (q:=q) (b:=(m:Int)+1) ();show⟨_,rfl,_,rfl,_,_,rfl,rfl,p,q,_,rfl,s1 _ _ hp,bF,(),lg20 (),λH2 k2 y2=>⟨_,rfl,(),(),?_⟩⟩;have ba:r≠p:=λz=>by rw[z,hp] at a6;cases a6
 have hN:(digO q ((m:Int)+1)).toNat<=m:=();generalize (digO q ((m:Int)+1)).toNat=N at hN;show jI (lo:=0) (n:=N) (λi Z H'=>∃o3 o4 o5 o6 o7 o8 o9 oa ob B g q' n,Z=[some (V.ref p),some (.int (m:Int)),some (.ref r),o3,o4,o5,o6,o7,o8,o9,oa,ob]/\But p H H'/\H' p=some (.lst (bZ q'))/\cA q'/\H' r=some (.lst B)/\aO H' B g/\g.length<=i/\Good g/\Cov g n)
  ⟨none,none,none,none,none,none,none,none,none,[],[],_,0,rfl,λd o nb e=>(k2 d nb).trans (s1 _ _ e),y2,df bF,(k2 r ba).trans y1,.nil,ax _,⟨∅,by simp[ents]⟩,λc=>by simp[d_]⟩ ?_ ?_
 .rintro i Z H4 hi ⟨o3,o4,o5,o6,o7,o8,o9,oa,ob,B,g,S,n,rfl,sm,ah,a0,ad,al,cr,M,am⟩;show Kj λNX hN=>?_;have dT:g.length<=16:=();have dV:=aT al;have fin:∀(t:Addr)(u:Tri)(v:Hp)(q8:Int×Int)(n':Nat)(x3 x4 x5 x6 x7 x8 x9 xa xb:Option V),But p H v->v p=some (.lst (bZ q8))->cA q8->v r=some (.lst B)->aO v B g->v t=some (.tup [.int (u.1:Int),.int (u.2.1:Int),.int (u.2.2:Int)])->Good (g++[u])->Cov (g++[u]) n'->∀C:Hp,(∀d,d≠r->C d=v d)->C r=some (.lst (B++[V.ref t]))->
    ∃o3 o4 o5 o6 o7 o8 o9 oa ob b0 bb q' n',[some (V.ref p),some (.int (m:Int)),some (.ref r),x3,x4,x5,x6,x7,x8,x9,xa,xb]=[some (V.ref p),some (.int (m:Int)),some (.ref r),o3,o4,o5,o6,o7,o8,o9,oa,ob]/\But p H C/\C p=some (.lst (bZ q'))/\cA q'/\C r=some (.lst b0)/\aO C b0 bb/\bb.length<=i+1/\Good bb/\Cov bb n':=by
   intro t u v q8 n' x3 x4 x5 x6 x7 x8 x9 xa xb b8 p8 k8 f8 bc ht g8 c8 C k9 y9;have tn:∀{d:Addr}{xs:List V},v d=some (.tup xs)->d≠r:=λe=>bD e f8 ∅;show⟨_,_,_,_,_,_,_,_,_,_,g++[u],q8,n',rfl,λd o nb e=>(k9 d (ar e a6)).trans (b8 d o nb e),(k9 p (aG ba)).trans p8,k8,y9,?_,by rw[ao,aV];lia,g8,c8⟩;show cZ (Paired.imp' (λ_ _ ⟨d,X,e2⟩=>⟨d,X,(k9 _ (tn e2)).trans e2⟩) bc) (.cons ⟨t,rfl,(k9 _ (tn ht)).trans ht⟩ .nil)
  have bl:∀{a b c:Nat},En g a b c->a<n/\b<n:=λ{a b c} e=>⟨(am a).mp ⟨b,c,e⟩,(am b).mp ⟨c,a,M.sk.rot e⟩⟩;show⟨_,rfl,r,B,g,rfl,ad,al,(),M.nd,λRm zs rs H5 cv s5 y5 sd cx d0 _=>?_⟩;show⟨_,rfl,r,B,g,rfl,s5 _ _ ad,al.same s5,(),λL cs H6 b3 s6 y6 b4 lcs=>?_⟩;have b5:=Jf b4 am;show⟨_,rfl,L,_,rfl,.inl (SqL.of y6),?_⟩;rw[bC,b5];have cz:=s5.trans s6;show⟨_,rfl,aQ _,λz H7 hz s7 y7=>?_⟩;have an:=cz.trans s7;show⟨.list (rs.map sdD),.list [],.lst (SqL.of (s7 _ _ (s6 _ _ y5))) (tE (K31.SdsAt.same s7 (K31.SdsAt.same s6 sd))),.lst (SqL.of y7) .nil,DY rs,_,rfl,?_⟩;rw[Np bX,Gn];cases rs with
  |nil=>
   show aA ⟨_,rfl,.inl ⟨rfl,_,SqL.of (an _ _ ad)⟩,_,rfl,_,rfl,_,_,rfl,rfl,_,rfl,_,_,rfl,rfl,lit3,λt v ht s8 y8=>?_⟩;have a1:=an.trans s8;show⟨r,B,_,rfl,rfl,a1 _ _ ad,(),λC k9 y9=>hN _ _ ?_⟩;show fin t (n,n+1,n+2) v S (n+3) _ _ _ _ _ _ _ _ _ (sm.same a1) (a1 _ _ ah) a0 (a1 _ _ ad) (al.same a1) y8 (oB M ⟨by change n≠n+1;lia,by change n+1≠n+2;lia,by change n+2≠n;lia⟩ (free_of M λs hs c e=>?_)) (GI am) C k9 y9;have:=bl e;simp only[fq,ae,bq,or_false] at hs;rcases hs with rfl|rfl|rfl<;>simp only at this<;>lia
  |cons r0 rs=>
   show ak ?_;generalize c0:r0::rs=rl at *;have d6:0<rl.length:=by rw[<-c0];simp
   have d7:=aT sd;obtain⟨X,e2⟩:=fm (q:=S) (b:=(zs.length:Int)) ();obtain⟨k,hk⟩:∃k:Nat,digO S (zs.length:Int)=(k:Int):=⟨_,(qd X).symm⟩;have c1:k<rl.length:=();obtain⟨⟨a,b⟩,b6⟩:∃s,rl[k]?=some s:=⟨_,aP c1⟩;obtain⟨zv,c2,tt,rfl,c3⟩:=mQ sd b6;obtain⟨b7,c4⟩:=cx (a,b) (a_ b6);show⟨_,rfl,_,rfl,_,rfl,Rm,_,rfl,.inl (SqL.of (s7 _ _ (s6 _ _ y5))),p,S,_,rfl,an _ _ ah,a0,(),gg () (),λv k8 y8=>?_⟩;rw[hk];have c5:∀{d:Addr}{o:HO},H4 d=none->H7 d=some o->d≠p:=λh0 h1 z=>by rw[z,ah] at h0;cases h0
   have ap:∀d o,d≠p->H7 d=some o->v d=some o:=λd o nb e=>(k8 d nb).trans e;have b9:H7 Rm=some (.lst zs):=s7 _ _ (s6 _ _ y5);have ca:=ap _ _ (c5 cv b9) b9;have cb:H7 tt=some (.tup [.int (a:Int),.int (b:Int)]):=s7 _ _ (s6 _ _ c3);have bm:=an _ _ ah;have c6:=ap _ _ (bD cb bm ∅) cb;have db:SdsAt v zs rl:=Paired.imp' (λ_ _ ⟨d,X,e2⟩=>⟨d,X,by have O:=s7 _ _ (s6 _ _ e2);show ap _ _ (bD O bm ∅) O⟩) sd;have bn:=ap _ _ ba (an _ _ ad);have bc:aO v B g:=Paired.imp' (λ_ _ ⟨d,X,e2⟩=>⟨d,X,by have O:=an _ _ e2;show ap _ _ (bD O bm ∅) O⟩) al;have dc:H7 L=some (.lst (nV cs)):=s7 _ _ y6;have dd:L≠p:=λzz=>by rw[zz,s5 _ _ ah] at b3;cases b3
   have cc:=ap _ _ dd dc;have dj:But p H v:=λd o nb e=>ap _ _ nb (an _ _ (sm d o nb e));obtain⟨dk,dl⟩:a<n/\b<n:=by obtain⟨⟨⟨x,y⟩,c⟩,h1,h2⟩:=aq.mp b7;cases h2;show bl h1
   have cd:a≠b:=by obtain⟨⟨⟨x,y⟩,c⟩,h1,h2⟩:=aq.mp b7;cases h2;show M.sk.ne h1
   show⟨Rm,zs,(k:Int),_,rfl,rfl,SqL.of ca,cM c2,tt,_,rfl,SqT.of c6,rfl,_,_,rfl,_,_,rfl,rfl,?_⟩;show⟨_,rfl,r,B,g,rfl,bn,bc,(),M.nd,λD C d8 s9 y9=>?_⟩;show⟨_,rfl,L,rfl,⟨_,SqL.of (s9 _ _ cc)⟩,λZ_ hZ=>dB (K:=[]) (a:=L) (xs:=nV cs) (λi Z ys H'=>∃o l,Z=[o,some (.int (a:Int)),some (.int (b:Int)),some (.ref D)]/\Same C H'/\H' Z_=some (.lst ys)/\ys=nV l/\(∀x∈l,x<n/\x≠a/\x≠b/\iL g (b,a,x)=true)/\l.length<=i)
    ⟨none,[],rfl,cK hZ,bO,rfl,∅,ax _⟩ (by rintro i Z ys H' _ ⟨_,_,_,e,_⟩;show SqL.of (e _ _ (s9 _ _ cc))) ?_ ?_⟩
   .rintro j y Z ys H' hj ⟨o,l,rfl,sj,ce,rfl,a2,cf⟩;rw[nV,cB] at hj;obtain⟨x,hx,rfl⟩:=eG.mp hj;have cg:=(aI.mp hx).1;have dm:x<n:=by
     show (am x).mp ?_;have:=(b4.2 x).mp (a_ hx);rw[d_];unfold flat at this;rw[eU] at this;obtain⟨t,h1,h2⟩:=this;show⟨t,h1,‹h2›⟩
    show⟨_,rfl,_,rfl,_,rfl,lit2,λt1 Ha g1 sA yA=>?_⟩;show⟨t1,_,rfl,.inr (SqT.of yA),rfl,rfl,_,rfl,?_⟩;change if (if true=true then !inV (V.int (x:Int)) (nV [a,b]) else _)=true then _ else _
    rw[Nq rfl,jk];by_cases a3:x∈[a,b]
    .rw[Nt a3];show ak (ak ⟨_,l,rfl,sj.trans sA,sA _ _ ce,rfl,a2,()⟩)
    rw[Nu a3];show aA ⟨_,rfl,_,rfl,_,rfl,_,rfl,lit3,λt2 Hb g2 sB yB=>?_⟩;show⟨D,t2,g,(b,a,x),rfl,sB _ _ (sA _ _ (sj _ _ y9)),yB,λHc sC=>?_⟩;have ch:=((sj.trans sA).trans sB).trans sC;have ci:=sC _ _ (sB _ _ (sA _ _ ce));show⟨_,rfl,?_⟩;by_cases bt:iL g (b,a,x)=true
    .rw[bt];show aA ⟨_,rfl,ci,by rw[bC];lia,λH3 k3 y3=>⟨_,l++[x],rfl,λd o e=>(k3 d (ar e hZ)).trans (ch _ _ e),y3,by rw[pj,gz],λy hy=>?_,by rw[ao,aV];lia⟩⟩
     .rcases aw.mp hy with h|h
      .exact a2 y h
      rw[aL.mp h];simp at a3;show⟨dm,a3.1,a3.2,bt⟩
    rw[Bool.eq_false_iff.mpr bt];show ak ⟨_,l,rfl,ch,ci,rfl,a2,()⟩
   rintro Z ys Ha ⟨o,l,rfl,sA,dp,rfl,a2,cf⟩;rw[bC,b5] at cf;show⟨_,rfl,lit1,λl1 Hb g1 sB yB=>?_⟩;show⟨Z_,l1,_,_,rfl,rfl,sB _ _ dp,yB,by rw[bC];simp only[aV];lia,λSo Hc g2 sC yC=>?_⟩;rw[pj,gz] at yC;have bd:=(sA.trans sB).trans sC;show⟨_,rfl,So,rfl,⟨_,SqL.of yC⟩,λY hY=>dB (K:=[]) (a:=So) (xs:=nV (l++[n])) (λi Z ys H'=>∃o nl,Z=[o,some (.int (a:Int)),some (.int (b:Int)),some (.ref Rm)]/\Same Hc H'/\H' Y=some (.lst ys)/\ys=nV nl/\(∀x∈nl,x∈l++[n])/\nl.length<=i)
    ⟨none,[],rfl,cK hY,bO,rfl,∅,ax _⟩ (by rintro i Z ys H' _ ⟨_,_,_,e,_⟩;show SqL.of (e _ _ yC)) ?_ ?_⟩
   .rintro j y Z ys H' hj ⟨o,nl,rfl,sj,cj,rfl,be,cl⟩;rw[nV,cB] at hj;obtain⟨x,hx,rfl⟩:=eG.mp hj;have cg:=(aI.mp hx).1;rw[ao,aV] at cg;have ds:=a_ hx;have cm:∀{Hx:Hp},Same H' Hx->Hx Rm=some (.lst zs)/\SdsAt Hx zs rl:=λsx=>⟨sx _ _ (sj _ _ (bd _ _ (s9 _ _ ca))),K31.SdsAt.same (((s9.trans bd).trans sj).trans sx) db⟩;have take:∀Hx:Hp,Same H' Hx->Hx Y=some (.lst (nV nl))/\(nV nl).length<sizeLine/\∀H3:Hp,(∀d,d≠Y->H3 d=Hx d)->H3 Y=some (.lst (nV nl++[V.int (x:Int)]))->∃o bw,[some (V.int (x:Int)),some (.int (a:Int)),some (.int (b:Int)),some (.ref Rm)]=[o,some (.int (a:Int)),some (.int (b:Int)),some (.ref Rm)]/\Same Hc H3/\H3 Y=some (.lst (nV nl++[V.int (x:Int)]))/\nV nl++[V.int (x:Int)]=nV bw/\(∀y∈bw,y∈l++[n])/\bw.length<=j+1:=λHx sx=>by
     show⟨sx _ _ cj,by rw[bC];lia,λH3 k3 y3=>⟨_,nl++[x],rfl,λd o e=>(k3 d (ar e hY)).trans (sx _ _ (sj _ _ e)),y3,by rw[pj,gz],λy hy=>?_,by rw[ao,aV];lia⟩⟩
     rcases aw.mp hy with h|h
     .exact be y h
     rw[aL.mp h];show ds
    show⟨_,rfl,_,rfl,lit2,λt1 Hd g1 R yD=>?_⟩;obtain⟨r1,r2⟩:=cm R;show⟨_,rfl,sdD (b,x),Rm,zs,_,.tup (SqT.of yD) (.cons (.int _) (.cons (.int _) .nil)),rfl,.inl (SqL.of r1),tE r2,by change max 0 (max 0 0)+1<=60;decide,_,rfl,?_⟩;rw[Np bX];generalize (rl.map sdD).any _=b1;cases b1 with
    |true=>show aA (aA ⟨_,rfl,take Hd R⟩)
    |false=>
     show ak ⟨_,rfl,_,rfl,lit2,λt2 He g2 sE yE=>?_⟩;obtain⟨r1,r2⟩:=cm (R.trans sE);show⟨_,rfl,sdD (x,a),Rm,zs,_,.tup (SqT.of yE) (.cons (.int _) (.cons (.int _) .nil)),rfl,.inl (SqL.of r1),tE r2,by change max 0 (max 0 0)+1<=60;decide,_,rfl,?_⟩;rw[Np bX];generalize (rl.map sdD).any _=b2;cases b2 with
     |true=>show aA ⟨_,rfl,take He (R.trans sE)⟩
     |false=>show ak ⟨_,nl,rfl,sj.trans (R.trans sE),sE _ _ (R _ _ cj),rfl,be,()⟩
   rintro Z ys Hd ⟨o,nl,rfl,R,dw,rfl,be,cl⟩;rw[bC,ao,aV] at cl;show⟨_,rfl,Y,So,_,_,rfl,rfl,dw,R _ _ yC,by rw[bC,bC,ao,aV];lia,λNr He g3 sE yE=>?_⟩;rw[gz] at yE;have a4:Same v He:=((s9.trans bd).trans R).trans sE;have cn:He p=some (.lst (bZ (nxt S (zs.length:Int)))):=a4 _ _ y8;obtain⟨O,e4⟩:=fm (q:=nxt S (zs.length:Int)) (b:=((nV (nl++(l++[n]))).length:Int)) (by rw[bC];simp only[ao,aV];lia);obtain⟨a5,dx⟩:∃k:Nat,digO (nxt S (zs.length:Int)) ((nV (nl++(l++[n]))).length:Int)=(k:Int):=⟨_,(qd O).symm⟩;have d9:(nV (nl++(l++[n]))).length=nl.length+(l.length+1):=by rw[bC];simp
   have dy:a5<(nl++(l++[n])).length:=by have l2:=bC (nl++(l++[n]));lia
   have bA:(nl++(l++[n]))[a5]?=some (nl++(l++[n]))[a5]:=aP dy;generalize (nl++(l++[n]))[a5]=x at bA;have dF:x∈l++[n]:=by
    rcases aw.mp (a_ bA) with h|h
    .exact be x h
    show h
   show⟨_,rfl,.inl ⟨rfl,_,SqL.of (a4 _ _ bn)⟩,_,rfl,_,rfl,_,rfl,_,rfl,_,rfl,Nr,_,rfl,.inl (SqL.of yE),p,_,_,rfl,cn,df a0,(),gg () (),λHf kf yf=>?_⟩;rw[dx];have bi:∀d o,d≠p->He d=some o->Hf d=some o:=λd o nb e=>(kf d nb).trans e;have dK:Nr≠p:=λzz=>by rw[zz,R _ _ (bd _ _ (s9 _ _ y8))] at g3;cases g3
   show⟨Nr,_,(a5:Int),_,rfl,rfl,SqL.of (bi _ _ dK yE),cM (dS bA),lit3,λt Hg ht sG yG=>?_⟩;have co:=sG _ _ (bi _ _ ba (a4 _ _ bn));show⟨r,B,_,rfl,rfl,co,(),λC k9 y9=>hN _ _ ?_⟩;have good:Good (g++[(b,a,x)])/\(x<n\/x=n):=by
    rcases aw.mp dF with h|h
    .obtain⟨h1,h2,h3,h4⟩:=a2 x h;show⟨oB M ⟨aG cd,aG h2,h3⟩ h4,.inl h1⟩
    rw[aL.mp h];show⟨oB M ⟨aG cd,by change a≠n;lia,by change n≠b;lia⟩ (free_of M λs hs c e=>?_),.inr rfl⟩;have hn:=bl e;simp only[fq,ae,bq,or_false] at hs;rcases hs with rfl|rfl|rfl
    .exact c4 (aq.mpr ⟨_,e,rfl⟩)
    .simp only at hn;lia
    simp only at hn;lia
   show fin t (b,a,x) Hg _ _ _ _ _ _ _ _ _ _ _ (λd o nb e=>sG _ _ (bi _ _ nb (a4 _ _ (dj d o nb e)))) (sG _ _ yf) (df (df a0)) co (Paired.imp' (λ_ _ ⟨d,X,e2⟩=>⟨d,X,by have O:=a4 _ _ e2;show sG _ _ (bi _ _ (bD O cn ∅) O)⟩) bc) yG good.1 (EX am dk dl good.2) C k9 y9
 rintro Z H4 ⟨o3,o4,o5,o6,o7,o8,o9,oa,ob,B,g,S,n,rfl,sm,ah,a0,ad,al,cr,M,am⟩;show⟨_,rfl,Qq r B g S H4 a6 sm ah a0 ad al () M⟩
end
end K15
end
section
namespace K15
variable {E:Nat->Nat->Nat->Prop}
def aW(E:Nat->Nat->Nat->Prop)(a b:Nat):Prop:=(∃q,E a b q)/\¬∃r,E b a r
theorem oS(k:Sk E){a b:Nat}{F:List Nat}(hF:Fan E a F)(all:∀p,(∃q,E a p q)->p∈F)(h:aW E a b):F[0]?=some b:=by
 obtain⟨i,hi⟩:=dn.mp (all b h.1);cases i with
 |zero=>show hi
 |succ i=>
  obtain⟨d,_⟩:=aI.mp hi;have c:F[i]?=some (F[i]'()):=aP _;show (h.2 ⟨_,k.rot (k.rot (hF.ch i _ _ c hi))⟩).elim
theorem sN(k:Sk E){a b c:Nat}(o:One E a)(h:aW E a b)(h':aW E a c):b=c:=by obtain⟨F,hF,all⟩:=o;show cy ((oS k hF all h).symm.trans (oS k hF all h'))
theorem oG(k:Sk E){a z:Nat}{F:List Nat}(hF:Fan E a F)(all:∀p,(∃q,E a p q)->p∈F)(h:aW E z a):∃l,F[F.length-1]?=some l/\E a l z:=by
 obtain⟨⟨q,b⟩,no⟩:=h;have b:=k.rot b;obtain⟨i,hi⟩:=dn.mp (all q ⟨z,b⟩);obtain⟨f,_⟩:=aI.mp hi;by_cases c:i+1<F.length
 .have d:F[i+1]?=some (F[i+1]):=aP c;have e:z=F[i+1]:=k.one b (hF.ch i _ _ hi d);show (no (by rw[e];show hF.key _ (ir c))).elim
 show⟨q,by rw[show F.length-1=i by lia];show hi,b⟩
theorem oT(k:Sk E){a z b:Nat}(o:One E a)(h:aW E z a)(h':aW E b a):z=b:=by obtain⟨F,hF,all⟩:=o;obtain⟨l,h1,h2⟩:=oG k hF all h;obtain⟨e,c,d⟩:=oG k hF all h';cases h1.symm.trans c;show k.one h2 d
theorem CJ(k:Sk E){a b:Nat}(o:One E a)(h:aW E a b):∃z,aW E z a:=by
 obtain⟨F,hF,all⟩:=o;have f:=oS k hF all h;have m:0<F.length:=(aI.mp f).1;have c:F[F.length-1]?=some (F[F.length-1]'()):=aP _;generalize F[F.length-1]'()=l at c;obtain⟨z,hz⟩:=hF.key l (a_ c);show⟨z,⟨l,k.rot (k.rot hz)⟩,λ⟨r,i⟩=>?_⟩;obtain⟨j,d⟩:=dn.mp (all z ⟨r,i⟩);cases j with
 |zero=>
  cases f.symm.trans d;show h.2 ⟨l,k.rot (k.rot hz)⟩
 |succ j=>
  obtain⟨n,_⟩:=aI.mp d;have g:F[j]?=some (F[j]'()):=aP _;have e:=k.inj hz (hF.ch j _ _ g d);rw[e] at c;have:=jF hF.nd c g;lia
theorem xg(k:Sk E){a z:Nat}(o:One E a)(h:aW E z a):∃b,aW E a b:=by
 obtain⟨F,hF,all⟩:=o;obtain⟨l,h1,h2⟩:=oG k hF all h;have j:0<F.length:=by
  cases m:F with
  |nil=>show absurd m hF.ne
  |cons x xs=>simp
 have f:F[0]?=some (F[0]'j):=aP _;generalize F[0]'j=b at f;show⟨b,hF.key b (a_ f),λ⟨r,d⟩=>?_⟩;have d:=k.rot d;obtain⟨i,hi⟩:=dn.mp (all r ⟨b,d⟩);obtain⟨n,_⟩:=aI.mp hi;by_cases c:i+1<F.length
 .have g:F[i+1]?=some (F[i+1]):=aP c;have e:=k.one d (hF.ch i _ _ hi g);rw[<-e] at g;have:=jF hF.nd g f;lia
 rw[show F.length-1=i by lia] at h1;cases hi.symm.trans h1;have e:=k.one d h2;show h.2 (by rw[<-e];show hF.key b (a_ f))
section
variable {R:Nat->Nat->Prop}
structure Path(R:Nat->Nat->Prop)(l:List Nat):Prop where
 ne:l≠[]
 nd:l.Nodup
 ch:∀i p q,l[i]?=some p->l[i+1]?=some q->R p q
structure Cyc(R:Nat->Nat->Prop)(l:List Nat):Prop extends Path R l where
 back:∀p q,l[l.length-1]?=some p->l[0]?=some q->R p q
theorem Path.one(R:Nat->Nat->Prop)(a:Nat):Path R [a]:=⟨∅,∅,λi p q h1 h2=>by simp at h2⟩
theorem Path.home(inj:∀a b c,R a c->R b c->a=b){l:List Nat}(h:Path R l){p z:Nat}(g:l[l.length-1]?=some p)(hz:R p z)(hm:z∈l):l[0]?=some z:=by
 obtain⟨j,d⟩:=dn.mp hm;cases j with
 |zero=>show d
 |succ j=>
  obtain⟨i,_⟩:=aI.mp d;have f:l[j]?=some (l[j]'()):=aP _;have e:=inj _ _ _ hz (h.ch j _ _ f d);rw[<-e] at f;have:=jF h.nd g f;lia
theorem Path.snoc{l:List Nat}(h:Path R l){p z:Nat}(f:l[l.length-1]?=some p)(hz:R p z)(hm:z∉l):Path R (l++[z]):=by
 have j:0<l.length:=iR.mpr h.ne;show⟨∅,bS.mpr ⟨h.nd,∅,λa ha b g e=>hm (by rw[<-aL.mp g,<-e];show ha)⟩,λi x y h1 h2=>?_⟩;by_cases c:i+1<l.length
 .rw[eF c] at h2;rw[eF ()] at h1;show h.ch i x y h1 h2
 by_cases d:i+1=l.length
 .rw[kJ (),show i+1-l.length=0 by lia] at h2;rw[eF (),show i=l.length-1 by lia] at h1;cases f.symm.trans h1;cases (show some z=some y from h2);show hz
 rw[kJ ()] at h2;have:[z][i+1-l.length]?=none:=uF (by simp;lia);rw[this] at h2;cases h2
theorem Cyc.step{l:List Nat}(h:Cyc R l){p:Nat}(b:p∈l):∃q∈l,R p q:=by
 obtain⟨i,hi⟩:=dn.mp b;obtain⟨d,_⟩:=aI.mp hi;by_cases c:i+1<l.length
 .exact⟨l[i+1],ir c,h.ch i _ _ hi (aP c)⟩
 rw[show i=l.length-1 by lia] at hi;have a:l[0]?=some (l[0]'()):=aP _;show⟨_,a_ a,h.back _ _ hi a⟩
theorem Cyc.before(inj:∀a b c,R a c->R b c->a=b){l:List Nat}(h:Cyc R l){p q:Nat}(f:q∈l)(e:R p q):p∈l:=by
 obtain⟨i,hi⟩:=dn.mp f;obtain⟨g,_⟩:=aI.mp hi;cases i with
 |zero=>
  have d:l[l.length-1]?=some (l[l.length-1]'()):=aP _;rw[inj _ _ _ e (h.back _ _ d hi)];show a_ d
 |succ i=>
  have d:l[i]?=some (l[i]'()):=aP _;rw[inj _ _ _ e (h.ch i _ _ d hi)];show a_ d
theorem Path.from(inj:∀a b c,R a c->R b c->a=b){l m:List Nat}(h:Path R m)(g:Cyc R l){x:Nat}(j:x∈m)(n:x∈l){y:Nat}(o:m[0]?=some y):y∈l:=by
 have key:∀(i p:Nat),m[i]?=some p->p∈l->y∈l:=by
  intro i;induction i with
  |zero=>intro p d e;cases o.symm.trans d;show e
  |succ i q=>
   intro p d e;obtain⟨hm,_⟩:=aI.mp d;have f:m[i]?=some (m[i]'()):=aP _;show q _ f (g.before inj e (h.ch i _ _ f d))
 obtain⟨i,hi⟩:=dn.mp j;show key i x hi n
structure Rims(R:Nat->Nat->Prop)(ls:List (List Nat)):Prop where
 cyc:∀l∈ls,Cyc R l
 least:∀l∈ls,∀x,l[0]?=some x->∀p∈l,x<=p
 all:∀p,(∃q,R p q)->∃l∈ls,p∈l
 rise:ls.Pairwise λl m=>∀x y,l[0]?=some x->m[0]?=some y->x<y
theorem Path.begin{l:List Nat}(h:Path R l):∃x,l[0]?=some x/\x∈l:=by have a:0<l.length:=iR.mpr h.ne;show⟨l[0],aP _,ir _⟩
end
end K15
end
section
namespace K15
section
variable {R:Nat->Nat->Prop}
structure fB(R:Nat->Nat->Prop)(ls:List (List Nat)):Prop where
 cyc:∀l∈ls,Cyc R l
 least:∀l∈ls,∀x,l[0]?=some x->∀p∈l,x<=p
 rise:ls.Pairwise λl m=>∀x y,l[0]?=some x->m[0]?=some y->x<y
 nd:ls.flatten.Nodup
theorem fB.nil:fB R []:=⟨∅,∅,.nil,∅⟩
theorem fB.step(inj:∀a b c,R a c->R b c->a=b){ls:List (List Nat)}{l:List Nat}{c:Nat}(h:fB R ls)(f:Cyc R l)(i:l[0]?=some c)(v:∀m∈ls,c∉m)
  (low:∀p,(∃q,R p q)->p<c->∃m∈ls,p∈m) (up:∀m∈ls,∀x,m[0]?=some x->x<c):fB R (ls++[l])/\∀x∈l,x∉ls.flatten:=by
 have o:∀x∈l,∀m∈ls,x∉m:=λx d m hm j=>v m hm (f.toPath.from inj (h.cyc m hm) d j i);have r:∀x∈l,x∉ls.flatten:=λx d z=>by
  obtain⟨m,hm,j⟩:=jv.mp z;show o x d m hm j
 show⟨⟨λm hm=>?_,λm hm x d p g=>?_,?_,?_⟩,r⟩
 .rcases aw.mp hm with z|z
  .exact h.cyc m z
  rw[aL.mp z];show f
 .rcases aw.mp hm with z|z
  .exact h.least m z x d p g
  rw[aL.mp z] at d g;cases i.symm.trans d;show AX λlt=>?_;obtain⟨q,_,w⟩:=f.step g;obtain⟨s,n,A⟩:=low p ⟨q,w⟩ lt;show o p g s n A
 .rw[uK];show⟨h.rise,qv _ _,λm hm s n x y d u=>?_⟩;rw[aL.mp n] at u;cases i.symm.trans u;show up m hm x d
 rw[AL,bS];show⟨h.nd,‹f.nd›,λa ha b B e=>?_⟩;subst e;show r a ‹B› ha
theorem fB.done{ls:List (List Nat)}(h:fB R ls)(all:∀p,(∃q,R p q)->∃l∈ls,p∈l):Rims R ls:=⟨h.cyc,h.least,all,h.rise⟩
theorem fB.in{ls:List (List Nat)}(h:fB R ls){p:Nat}(a:p∈ls.flatten):∃q,R p q:=by obtain⟨m,hm,b⟩:=jv.mp a;obtain⟨q,_,c⟩:=(h.cyc m hm).step b;show⟨q,c⟩
end
end K15
end
section
namespace L2
open PySem PySem.Spec PyProof.Rows
theorem Dc{d:Addr}{kvs:List (Key×V)}{k:Key}{v:V}{u r:Value}{Q:Unit->Shared->Prop}(I:Inv X Nw Z H s)(e:H d=some (.dK kvs))(b:aD (kV k) u)(l:kvs.length<sizeLine)(c:aD v r)
  (h:∀s',Inv X Nw Z (upd H d (.dK (cN kvs k v))) s'->Q .unit s'):wpAny ⇑X A (dictSet d u r) Q E s:=by
 obtain⟨z,hd,vs,rel,f⟩:=pP I.hok e;have hz:vs.length<=sizeLine:=by rw[<-rel.length];show z
 have g:(cN kvs k v).length<=sizeLine:=by have:=kS kvs k v;lia
 show wpAny_dictSet_pairs (hsz:=hz) (iK b) f λh' a i=>h _ ?_;have he:∃q,h'.get? d=some q:=let ⟨q,_,_,j,_⟩:=a;⟨q,j⟩;show oY I (by rw[e];show True.intro) i he (tS g hd (rel.put k c) a)
section
variable {N:List Str}{fr:List (Option Nat)}{fp:List Addr}
end
section
variable {N:List Str}{fr:List (Option Nat)}{kx vx tg iter:Expr}{ifs:List Expr}{pos:Pos}{wi:TI}{g:TG}{tt:TT}{tk tv:TE}
end
section
variable {a D:Addr}{g:TG}{tt:TT}{tk tv:TE}{Z':St}{H1:Hp}{Q:Hp->Prop}
end
section
variable {d D:Addr}{o:Obj}{u:HO}{ks vs:List V}{g:TG}{tt:TT}{tk tv:TE}{Z':St}{H1:Hp}{Q:Hp->Prop}
end
end L2
end
section
namespace L2
open PySem PySem.Spec PyProof.Rows
theorem BK:typeLookup (.type "list") "keys" = pure none:=am_miss_of_fast (by kernel_rfl)
theorem FV{prog:Program}{w:World}{E:Value->Shared->Prop}{a:Addr}{xs:Array Value}{k:Nat}{c:Array (Option Value)}{Q:Option Value->Shared->Prop}
  (f:s.heap.get? a=some {cls:=.type "list",dict:=none,data:=.seq xs k,slots:=c}) (j:A.handled=none)
  (q:∀h' tk,(∀b h,s.heap.get? b=some h->h'.get? b=some h)->Q none {s with heap:=h',toks:=tk}):wpAny (model prog w) A (getAttr? (.ref a) "keys") Q E s:=by
 obtain⟨l,g,d,tk,os⟩:=s;have ty:∀i,(⟨l,g,d,i,os⟩:Shared).TypeIs (.ref a) "list":=λ_=>⟨_,f,rfl⟩;have g1:=sub_AttributeError;have g2:=A8.lookup;have m:=A8.bind (.ref a);have n:=am_list_getattr_none;unfold getAttr? getAttrBy? getAttrBy
 repeat (any_goals (first|assumption|show ty _|((with_reducible show wpAny _ _ (call (Value.builtin "list.__getattribute__") _ _) _ _ _);show u9 A8 (ty _) am_entry_list_getattribute (PySem.F.args_list_getattribute_2 _ _) (meets_getattribute_miss_list a xs k c "keys" _ BK ⋯) ⟨f,j,λh' i e ne=>?_⟩)|wp_step))
 obtain⟨t',o,p⟩:=ne.there;change wpAny _ _ (getattributeRaised _ _ _ _ _ _ _) _ _ _;unfold getattributeRaised
 repeat (any_goals (first|assumption|wp_step))
 show q _ _ ne.keeps
theorem vB:entryFor table "dict.update.loop" = some Builtin.«dict.update.loop»:=entryFor_of_tree (by kernel_rfl)
theorem oq:plainId "dict.update.loop" = true:=⋯
section
def ie(H:Hp)(ys:List V)(ps:List (Key×V)):Prop:=Paired (λy p=>∃b,y=V.ref b/\H b=some (.tup [kV p.1,p.2])) ys ps
theorem ie.get:∀{ys:List V}{ps:List (Key×V)}{i:Nat}{p:Key×V},ie H ys ps->ps[i]?=some p->∃b,ys[i]?=some (.ref b)/\H b=some (.tup [kV p.1,p.2])
 |_,_,_,_,.nil,e=>by simp at e
 |_,_,0,_,.cons ⟨b,a,c⟩ _,e=>by simp at e;subst e a;show⟨b,rfl,c⟩
 |_,_,i+1,p,.cons _ t,e=>by
  obtain⟨b,h1,h2⟩:=ie.get (i:=i) (p:=p) t ‹e›;show⟨b,‹h1›,h2⟩
theorem ie.len:∀{ys:List V}{ps:List (Key×V)},ie H ys ps->ys.length=ps.length
 |_,_,.nil=>rfl
 |_,_,.cons _ t=>by simp[ie.len t]
def iF(kvs:List (Key×V))(ps:List (Key×V)):List (Key×V):=ps.foldl (λd p=>cN d p.1 p.2) kvs
theorem B8{a D it:Addr}{ys:List V}{ps:List (Key×V)}(hc:A.handled=none)(E:H D=none)(K:SqL [] H a ys)(S:ie H ys ps)(hz:ps.length<sizeLine)
  {R:Result->Shared->Prop} (hR:∀s',Inv X Nw Z (upd H D (.dK (iF [] ps))) s'->R (.ok (.ret .none)) s') :
  ∀(k i:Nat)(kvs:List (Key×V))(s:Shared),ps.length-i=k->i<=ps.length->kvs.length<=i->iF kvs (ps.drop i)=iF [] ps->Inv X Nw Z (upd H D (.dK kvs)) s->s.heap.IsListIter it a i->dM X Nw (upd H D (.dK kvs)) it->
   codeAny ⇑X A (.builtin "dict.update.loop" ⟨[.ref D,.ref it,rawInt i,.none],[]⟩) R s:=by
 have T:∀kvs,SqL [] (upd H D (.dK kvs)) a ys:=λkvs=>by
  rcases K with (e|⟨o,e⟩)|h
  .exact .inl (.inl (by rw[bh (ar e E)];show e))
  .exact .inl (.inr ⟨o,by rw[bh (ar e E)];show e⟩)
  show .inr h
 intro k;induction k with
 |zero=>
  intro i kvs s hk hi _ g I st hf;have al:i=ps.length:=();subst al;show oe vB ?_;rw[nF oq _];obtain⟨am,L,p,an⟩:=I.list (T kvs);obtain⟨f,m,U,r,y,B⟩:=hf;have hl:=L.length;have a5:=S.len;change wpAny _ A.in1 (pyNext (.ref it) >>= _) _ _ s;show ag (Bk hc st p.isList (by simp;lia) λh' eb=>?_);rw[qj] at g;have g:kvs=iF [] ps:=g;subst g;change wpAny _ A.in1 (Builtin.Dict.addKeywords D [] >>= _) _ _ _;show ag (aB (aB (hR _ (I.turned (t':=s.toks) (λb o M e=>eb b o M e) f m r y B))))
 |succ k ih=>
  intro i kvs s hk hi a6 g I st hf;have Y:i<ps.length:=();show oe vB ?_;rw[nF oq _];obtain⟨am,L,p,an⟩:=I.list (T kvs);obtain⟨b,ap,ad⟩:=S.get (i:=i) (p:=ps[i]) (by simp[Y]);obtain⟨u,hu,ru⟩:=L.get ap;cases ru;obtain⟨f,m,U,r,y,B⟩:=id hf;change wpAny _ A.in1 (pyNext (.ref it) >>= _) _ _ s;show ag (Bl st p.isList (x:=.ref b) ‹hu› λh' ah sb=>?_);have I1:Inv X Nw Z (upd H D (.dK kvs)) {s with heap:=h'}:=I.turned (t':=s.toks) (λb o M e=>(sb.2 b M).trans e) f m r y B;have a0:upd H D (.dK kvs) b=some (.tup [kV (ps[i]).1,(ps[i]).2]):=by rw[bh (ar ad E)];show ad
  obtain⟨vs,a1,⟨ot,p1,p2,n,p3⟩,_⟩:=I1.tuple (SqT.of a0);have a2:∃j l,vs=[j,l]/\aD (kV (ps[i]).1) j/\aD (ps[i]).2 l:=by
   cases a1 with
   |cons N O=>cases O with
    |cons P O=>cases O;show⟨_,_,rfl,N,P⟩
  obtain⟨j,l,rfl,N,P⟩:=a2;show ag (fj (ag ?_));show wpAny_tryCatch ?_;unfold Builtin.Dict.pairItems;show ag (vy ⟨_,p1,p2⟩ ?_);rw[Nq ⋯];unfold seqItems?;show ag (ag (wpAny_load p1 ?_));rw[p3];show aB (aB ?_);change wpAny _ _ (holding [j,l] (dictSet D j l)) _ _ _;have ob:∀c∈[it],∃o,h'.get? c=some o/\∀v,o.data≠.cell v:=λc Q=>by
   have e:c=it:=‹Q›
   subst e;obtain⟨o,e,c1,d⟩:=ah;show⟨o,e,λv z=>by rw[d] at z;cases z⟩
  have I2:=I1.pinned (fp:=[it]) (λc Q=>by rw[aL.mp Q];show hf) ob;show fj (Dc I2 bO N () P λs' C=>?_);rw[rV] at C;have J:=C.pins_of (pins':=Nw) λq K=>C.pin q (bo _ (bM _ K));have a3:s'.heap.IsListIter it a (i+1):=ah.at λo e=>(C.pin (it,o) (bo _ (bo _ (kY ∅ e)))).1;have hl:=kS kvs (ps[i]).1 (ps[i]).2;have a4:((i:Int)+1)=((i+1:Nat):Int):=by push_cast;rfl
  show aB ⟨og oq _,?_⟩;rw[a4];show ih (i+1) _ s' () () () ?_ J a3 ⟨?_,m,U,r,y,B⟩
  .rw[<-g,eS Y];rfl
  have:it≠D:=λz=>by rw[z,bO] at f;cases f
  rw[bh this] at f |-;show f
def D6(K:W.Frag):List V->Hp->VK->Prop:=λxs H Q=>∃(a:Addr)(ys:List V)(ps:List (Key×V)),xs=[.ref a]/\H a=some (.lst ys)/\ie H ys ps/\ps.length<sizeLine/\∀p,H p=none->Q (.ref p) (upd H p (.dK (iF [] ps)))
theorem Bw(g:X.A.handled=none):dI X (.type "dict") (D6 []):=by
 intro Nw s Z H xs us Q I r h;obtain⟨a,ys,ps,rfl,ha,m,hz,q⟩:=h;obtain⟨u,rfl,p⟩:=Vals.one r;cases p;obtain⟨z,D,n,E,ea⟩:=I.hok _ _ ha;have d:H ↥s=none:=I.hok.fresh (ax _);show L3 (Q₁:=λobj s₁=>obj=.ref ↥s/\s₁={s with heap:=s.heap.push {cls:=.type "dict",data:=.dict #[]}}) PySem.F.kt_called_dict (PySem.F.kt_typeCall_dict_1 _) PySem.F.entry_dict_init (kt_code_dict_new _ ⟨rfl,rfl⟩) ?_;rintro obj s₁ ⟨rfl,rfl⟩;have v:Inv X Nw Z (upd H ↥s (.dK [])) {s with heap:=s.heap.push {cls:=.type "dict",data:=.dict #[]}}:=by show I.laid (t':=s.toks) (λb u e=>bg _ e) (ax _) ?_;show xG s.heap I.big
 have i:({s with heap:=s.heap.push {cls:=.type "dict",data:=.dict #[]}}:Shared).TypeIs (.ref ↥s) "dict":=⟨_,cw _ rfl,rfl⟩;have j:=bg ({cls:=.type "dict",data:=.dict #[]}:Obj) ea;show⟨i,PySem.F.args_dict_init_2 _ _,?_⟩;unfold Builtin.«dict.__init__» Builtin.Dict.selfAndRest;show ag (ag (Mm i ?_));change wpAny _ _ (pure (↥s,[Value.ref a])) _ _ _;show aB ?_;change wpAny _ _ (Builtin.Dict.updateFrom "dict.__init__" ↥s (.ref a) [] .none) _ _ _;unfold Builtin.Dict.updateFrom;show ag (vy ⟨_,j,rfl⟩ ?_);rw[Nq ⋯];show ag (FV j g λh2 f w=>?_);have c:Inv X Nw Z (upd H ↥s (.dK [])) {s with heap:=h2,toks:=f}:=v.kept w;obtain⟨K,L,x,M,y⟩:=c.hok _ _ (show upd H ↥s (.dK []) a=some (.lst ys) by rw[bh (ar ha d)];show ha);simp only[Option.isNone_none,if_true];show ag (vj ?_);show ag (qL (l:=a) ⟨_,y,rfl,x,rfl⟩ ?_);have B:Inv X Nw Z (upd H ↥s (.dK [])) {s with heap:=h2.push {cls:=.type "list_iterator",data:=.fields #[.ref a,rawInt 0]},toks:=f}:=c.kept (t':=f) λb o e=>bg _ e;show aB ⟨og oq _,?_⟩;show B8 (X:=X) (A:=X.A.in1) (R:=wants (λr s₂=>r=.none/\EP X Nw Z Q (.ref ↥s) s₂) X.xe) g d (.inl (.inl ha)) m hz (λs' C=>⟨rfl,.ref ↥s,_,C,rfl,q _ d⟩) _ 0 [] _ rfl (aQ _) (ax _) rfl B ⟨_,cw _ rfl,rfl,rfl⟩ ?_;show c.fpOk (ax _) (c.hok.fresh (ax _))
end
end L2
end
section
namespace L2
open PySem PySem.Spec PyProof.Rows PySem.W
theorem rM:∀{us:List Value}{ns:List Int}{i:Nat},IntsAre us ns->i<us.length->∃t,us[i]?=some (Value.int (ns.getD i 0) t)
 |_,_,_,.nil,h=>by simp at h
 |_,_,0,.cons n t _,_=>⟨t,rfl⟩
 |_,_,i+1,.cons n t r,h=>by
  obtain⟨t',e⟩:=rM (i:=i) r ‹h›;show⟨t',‹e›⟩
theorem ET{ns ms:List Int}{i:Nat}(h1:i<ns.length)(h2:i<ms.length):HT.lexLt (ns.drop i) (ms.drop i)=if ns.getD i 0=ms.getD i 0 then HT.lexLt (ns.drop (i+1)) (ms.drop (i+1)) else decide (ns.getD i 0<ms.getD i 0):=by rw[eS h1,eS h2,HT.lexLt_cons];simp[List.getD,h1,h2]
theorem F4(l b:Addr)(us ws:List Value)(ns ms:List Int)(n m:Nat)(o:IntsAre us ns)(hw:IntsAre ws ms)(k:Nat) :
  ∀i:Nat,us.length-i=k->i<=us.length->i<=ws.length->Meets (Builtin.«list.__eq__.loop» ⟨[.ref l,.ref b,rawInt i,rawInt 0],[]⟩)
   (λ_ R s=>s.heap.get? l=some (seqObj "list" us.toArray n)/\s.heap.get? b=some (seqObj "list" ws.toArray m)/\R (.ok (.ret (.bool (HT.lexLt (ns.drop i) (ms.drop i))))) s):=by
 have D:=o.length;have lw:=hw.length;have stop:∀i:Nat,i<=us.length->i<=ws.length->(us.length<=i\/ws.length<=i)->Meets (Builtin.«list.__eq__.loop» ⟨[.ref l,.ref b,rawInt i,rawInt 0],[]⟩)
   (λ_ R s=>s.heap.get? l=some (seqObj "list" us.toArray n)/\s.heap.get? b=some (seqObj "list" ws.toArray m)/\R (.ok (.ret (.bool (HT.lexLt (ns.drop i) (ms.drop i))))) s):=by
  intro i h1 h2 j prog w A R s h;obtain⟨v,g,d,tk,os⟩:=s;obtain⟨a,f,h⟩:=h
  wp_walk using e_ a,e_ f
  have e:HT.lexLt (ns.drop i) (ms.drop i)=decide (us.length<ws.length):=by
   by_cases c:us.length<=i
   .rw[AF ()];by_cases E:ws.length<=i
    .rw[AF (),Nu ()];rfl
    rw[eS (),Nt ()];rfl
   have:ws.length<=i:=();rw[AF (as:=ms) (),eS (),Nu ()];rfl
  rw[e] at h;rcases j with j|j
  .rw[show us.toArray[((i:Nat):Int).toNat]?=none by simp;lia]
   wp_walk using e_ a,e_ f
   change R (.ok (.ret (.bool (decide (us.toArray.size<ws.toArray.size))))) _;simpa using h
  by_cases c:us.length<=i
  .rw[show us.toArray[((i:Nat):Int).toNat]?=none by simp;lia]
   wp_walk using e_ a,e_ f
   change R (.ok (.ret (.bool (decide (us.toArray.size<ws.toArray.size))))) _;simpa using h
  rw[show us.toArray[((i:Nat):Int).toNat]?=some (us[i]'()) by simp,show ws.toArray[((i:Nat):Int).toNat]?=none by simp;lia]
  wp_walk using e_ a,e_ f
  change R (.ok (.ret (.bool (decide (us.toArray.size<ws.toArray.size))))) _;simpa using h
 induction k with
 |zero=>
  intro i x h1 h2;show stop i h1 h2 (.inl ())
 |succ k y=>
  intro i x h1 h2;by_cases c:ws.length<=i
  .exact stop i h1 h2 (.inr c)
  intro prog w A R s h;obtain⟨v,g,d,tk,os⟩:=s;obtain⟨a,f,h⟩:=h
  wp_walk using e_ a,e_ f
  obtain⟨p,z⟩:=rM (i:=i) o ();obtain⟨q,B⟩:=rM (i:=i) hw ();have r:us.toArray[((i:Nat):Int).toNat]?=some (Value.int (ns.getD i 0) p):=‹z›
  have u:ws.toArray[((i:Nat):Int).toNat]?=some (Value.int (ms.getD i 0) q):=‹B›
  have C:((i:Int)+1)=((i+1:Nat):Int):=by push_cast;rfl
  rw[ET () ()] at h;rw[r,u];show ag (Bi ?_);by_cases e:ns.getD i 0=ms.getD i 0
  .rw[Nq e] at h;rw[show (ns.getD i 0==ms.getD i 0)=true by simpa using e]
   wp_walk
   rw[C];show⟨og u6 _,oe LR (by
    rw[nF u6 _];show y (i+1) () () () prog w A R _ ⟨a,f,h⟩)⟩
  rw[Np e] at h;rw[show (ns.getD i 0==ms.getD i 0)=false by simpa using e]
  wp_walk using e_ a,e_ f
  rw[r,u];show ag ?_;show (show wpAny (model prog w) _ (compareOp .Lt (.int (ns.getD i 0) p) (.int (ms.getD i 0) q)) _ _ _ from lt_int ?_)
  wp_walk
  show h
theorem F5(l b:Addr)(us ws:List Value)(ns ms:List Int)(n a:Nat)(f:IntsAre us ns)(hw:IntsAre ws ms) :
  Meets (Builtin.«list.__lt__» ⟨[.ref l,.ref b],[]⟩)
   (λ_ R s=>s.heap.get? l=some (seqObj "list" us.toArray n)/\s.heap.get? b=some (seqObj "list" ws.toArray a)/\R (.ok (.ret (.bool (HT.lexLt ns ms)))) s):=by
 intro prog w A R s h;obtain⟨i,g,d,tk,os⟩:=s;obtain⟨c,e,h⟩:=h;have j:=AutoSeq1.sub_list_list
 wp_walk using e_ c,e_ e
 show⟨og u6 _,oe LR (by
  rw[nF u6 _];show F4 l b us ws ns ms n a f hw _ 0 rfl (aQ _) (aQ _) prog w A R _ ⟨c,e,h⟩)⟩
section
variable {prog:Program}
theorem Ec{a b:Addr}{us ws:List Value}{ns ms:List Int}{n c:Nat}{C:Bool->Shared->Prop}(d:A.units<cLine)(h1:s.heap.get? a=some (seqObj "list" us.toArray n))(h2:s.heap.get? b=some (seqObj "list" ws.toArray c))(e:IntsAre us ns)(hw:IntsAre ws ms)(q:C (HT.lexLt ns ms) s) :
  wpAny (model prog w) A (keyLt' oneType' (.ref a) (.ref b)) C E s:=by
 rw[keyLt'_oneType,oneLt'_eq];simp only[if_true];show ag (wpAny_cRoomFor d ?_);show ag (wpAny_callSpecialIfBound?_slot ⟨_,h1,rfl⟩ LN ?_);show u9 LN ⟨_,h1,rfl⟩ PySem.F.entry_list_lt (PySem.F.args_list_lt_2 _ _) (F5 a b us ws ns ms n c e hw) ⟨h1,h2,?_⟩;show gW q
end
def Lsts(K:Frag)(H:Hp)(ys:List V)(ks:List (List Int)):Prop:=Paired (λy k=>∃b,y=V.ref b/\H b=some (.lst (k.map V.int))) ys ks
section
def H_(K:Frag):List V->Hp->VK->Prop:=λxs H Q=>∃(a:Addr)(ys:List V)(ks:List (List Int)),xs=[.ref a]/\SqL K H a ys/\Lsts K H ys ks/\ys.length<5000/\
 ∀p (ix:List Nat),H p=none->ix.Perm (List.range ys.length)->(ix.map λi=>ks.getD i []).Pairwise (λa b=>HT.lexLt b a=false)->Q (.ref p) (upd H p (.lst (ix.map λi=>ys.getD i .non)))
theorem Bo(hr:X.A.units+2<cLine):dI X (.builtin "sorted") (H_ []):=by
 intro Nw s Z H xs us Q I r h;obtain⟨a,ys,ks,rfl,m,w,hz,q⟩:=h;obtain⟨u,rfl,M⟩:=Vals.one r;cases M;obtain⟨c,B,p,_⟩:=I.list m;have hl:=B.length;have at_:∀(ks:List (List Int))(ys:List V)(c:List Value),Lsts [] H ys ks->Vals ys c->Paired (λv k=>∃b us n,v=Value.ref b/\IntsAre us k/\s.heap.get? b=some (seqObj "list" us.toArray n)) c ks:=by
  intro ks;induction ks with
  |nil=>intro ys c a b;cases a;cases b;show .nil
  |cons k ks N=>
   intro ys c a b;cases a with
   |cons O tt=>
    obtain⟨R,S,m⟩:=O;subst S;cases b with
    |cons r U=>
     cases r;obtain⟨z,us,n,Y,p6⟩:=I.hok _ _ m;show .cons ⟨R,us,n,rfl,ou Y,p6⟩ (N _ _ tt U)
 have P:=at_ ks ys c w B;have D:∀{b:Addr}{us:List Value}{n:Nat}{k:List Int},IntsAre us k->s.heap.get? b=some (seqObj "list" us.toArray n)->rkV s.heap (Value.ref b)=k:=λ{b us n k} f d=>by
  change (match s.heap.get? b with|some o=>_|none=>_)=_;rw[d];show sM f
 have hk:∀i,i<c.length->rkV s.heap (c.getD i Value.none)=ks.getD i []:=λi hi=>by
  obtain⟨k,K,b,us,n,e2,f,d⟩:=Paired.getE (i:=i) (x:=c[i]) P (by simp[hi]);rw[show c.getD i Value.none=c[i] by simp[List.getD,hi],e2,D f d,List.getD,K];rfl
 show B3 (κ:=oneType') (rk:=rkV s.heap) p.isList (by rw[f_];lia) (λh' old h2 Q q=>?_) (λh' old h2 x hx y w C q=>?_) λout p1 p2=>?_
 .refine kas_kind (T:=.type "list") h2 (λv hv=>?_) ⋯ ⋯ q;obtain⟨i,hi⟩:=dn.mp hv;obtain⟨k,K,b,us,n,rfl,f,d⟩:=Paired.getE P hi;intro A Q E s' k' q';have:=k' _ _ (old _ _ d);show vy ⟨_,this,rfl⟩ q'
 .obtain⟨i,hi⟩:=dn.mp hx;obtain⟨j,hj⟩:=dn.mp w;obtain⟨k1,_,b1,u1,n1,rfl,f,g⟩:=Paired.getE P hi;obtain⟨k2,_,b2,u2,n2,rfl,d,l⟩:=Paired.getE P hj;rw[D f g,D d l] at q;show Ec (by change X.A.units+1+1<_;lia) (old _ _ g) (old _ _ l) f d q
 obtain⟨ix,g,l,x3⟩:=zQ B hk p1 p2;obtain⟨e,he⟩:=sortedAll_at s.heap c out.toArray;have L:↥s<=↥s+1:=qB _;show⟨.ref (↥s+1),upd H (↥s+1) (.lst (ix.map λi=>ys.getD i .non)),I.laid (t':=s.toks) (λb o e=>sortedAll_old e) L ⟨by rw[aE,g.length_eq,iS,f_];lia,out,e,x3,by rw[he]⟩,rfl,q _ ix (I.hok.fresh L) g l⟩
end
end L2
end
section
namespace L2
open PySem PySem.Spec PyProof.Rows
def rNeE:R2:=λx y H Q=>∃(a b:Addr)(kvs:List (Key×V)),x=.ref a/\y=.ref b/\Rd H a (.dK kvs)/\Rd H b (.dK [])/\Q (.bl (!kvs.isEmpty)) H
theorem Ip(c:X.A.units<cLine):OpR X (compareOp .NotEq) rNeE:=by
 intro Nw s Z H x y v u Q I d f h;obtain⟨a,b,kvs,rfl,rfl,ha,g,q⟩:=h;cases d;cases f;obtain⟨o,lo,vs,rel,i⟩:=gG I.hok ha;obtain⟨w,j,ms,l,m⟩:=gG I.hok g;have n:ms=[]:=by have:=l.length;show K9.mp this.symm
 subst n;show W.keq_ne (r:=true) lo j i m c (λe=>?_) ⟨.bl _,H,I,?_,q⟩
 .have e:vs=[]:=K9.mp e;subst e;show .nil
 change Value.bool _=Value.bool _;have:=rel.length;cases kvs with
 |nil=>cases vs with
  |nil=>rfl
  |cons p r=>simp at this
 |cons p r=>cases vs with
  |nil=>simp at this
  |cons p' z=>rfl
end L2
end
section
namespace K71
open K31 K51
abbrev Tn:=Nat×Nat×Nat
def aC(a:Nat):List Nat->Nat
 | []=>a
 |b::l=>aC b l
def tw:Nat->Nat->List Nat->Nat->List Tn
 |p,v,[],z=>[(p,v,z)]
 |p,v,n::l,z=>(p,v,n)::tw v n l z
def turns:List Nat->List Tn
 | []=>[]
 |a::l=>tw (aC a l) a l a
def tn(ls:Lps):List Tn:=ls.flatMap turns
theorem i9:∀(a:Nat)(l:List Nat)(b:Nat)(r:List Nat),aC a (l++b::r)=aC b r
 |_,[],_,_=>rfl
 |_,c::l,b,r=>i9 c l b r
theorem jZ:∀(p v:Nat)(l:List Nat)(n:Nat)(r:List Nat)(z:Nat),tw p v (l++n::r) z=tw p v l n++tw (aC v l) n r z
 |_,_,[],_,_,_=>rfl
 |p,v,c::l,n,r,z=>by
  change (p,v,c)::tw v c (l++n::r) z=(p,v,c)::(tw v c l n++tw (aC c l) n r z);rw[jZ v c l n r z]
def hd(l:List Nat)(z:Nat):Nat:=match l with
 | []=>z
 |n::_=>n
theorem mV(v:Nat)(l:List Nat)(z:Nat):∃r,∀p,tw p v l z=(p,v,hd l z)::r:=by
 cases l with
 |nil=>show⟨[],λ_=>rfl⟩
 |cons n l=>show⟨tw v n l z,λ_=>rfl⟩
theorem oK(v:Nat)(l:List Nat)(z:Nat):∃n r,∀p,tw p v l z=(p,v,n)::r:=⟨_,mV v l z⟩
theorem BP(l r:List Nat):(turns (l++r)).Perm (turns (r++l)):=by
 cases l with
 |nil=>rw[jx,dh]
 |cons a l=>
  cases r with
  |nil=>rw[jx,dh]
  |cons b r=>
   change (tw (aC a (l++b::r)) a (l++b::r) a).Perm (tw (aC b (r++a::l)) b (r++a::l) b);rw[jZ,jZ,i9,i9];show cP
theorem wV:∀(p v:Nat)(l:List Nat)(z:Nat),(tw p v l z).map (·.2)=path v l z
 |_,_,[],_=>rfl
 |p,v,n::l,z=>by
  change (v,n)::(tw v n l z).map (·.2)=(v,n)::path n l z;rw[wV v n l z]
theorem BB(l:List Nat):(turns l).map (·.2)=sides l:=by
 cases l with
 |nil=>rfl
 |cons a l=>show wV _ a l a
theorem lA(ls:Lps):(tn ls).map (·.2)=wl ls:=by
 induction ls with
 |nil=>rfl
 |cons l ls a=>
  change (turns l++tn ls).map (·.2)=sides l++wl ls;rw[aX,a,BB]
theorem xN:∀(p v:Nat)(l:List Nat)(z:Nat),(tw p v l z).map (λt=>(t.1,t.2.1))++[(aC v l,z)]=(p,v)::path v l z
 |_,_,[],_=>rfl
 |p,v,n::l,z=>by
  change (p,v)::((tw v n l z).map (λt=>(t.1,t.2.1))++[(aC n l,z)])=_;rw[xN v n l z];rfl
theorem BQ(l:List Nat):((turns l).map λt=>(t.1,t.2.1)).Perm (sides l):=by
 cases l with
 |nil=>show .nil
 |cons a l=>
  have h:=xN (aC a l) a l a;have h2:((tw (aC a l) a l a).map (λt=>(t.1,t.2.1))++[(aC a l,a)]).Perm (path a l a++[(aC a l,a)]):=by rw[h];show (cP (l₁:=[(aC a l,a)]))
  show (List.perm_append_right_iff _).mp h2
theorem xP(ls:Lps):((tn ls).map λt=>(t.1,t.2.1)).Perm (wl ls):=by
 induction ls with
 |nil=>show .nil
 |cons l ls a=>
  change ((turns l++tn ls).map λt=>(t.1,t.2.1)).Perm (sides l++wl ls);rw[aX];show (BQ l).append a
theorem iD(xs ys:Lps):tn (xs++ys)=tn xs++tn ys:=by simp[tn,ql]
theorem j3(l:List Nat):tn [l]=turns l:=by simp[tn]
theorem xQ(l:List Nat)(ls:Lps):tn (l::ls)=turns l++tn ls:=by simp[tn]
theorem pm3{α:Type}(a w b q:List α):(a++(w++b)++q).Perm (w++(b++a++q)):=by rw[show w++(b++a++q)=(w++b)++a++q by simp];show eR _ cP
inductive TS (a b x:Nat):Nat->Nat->List Tn->List Tn->Prop
 |c (w p n:Nat) (r:List Tn):TS a b x 67 w ((p,a,b)::(a,b,n)::r) ((p,a,x)::(a,x,b)::(x,b,n)::r)
 |r (w p z:Nat) (r:List Tn):TS a b x 82 w ((p,a,b)::(a,b,x)::(b,x,z)::r) ((p,a,x)::(a,x,z)::r)
 |l (w n y:Nat) (r:List Tn):TS a b x 76 w ((x,a,b)::(a,b,n)::(y,x,a)::r) ((y,x,b)::(x,b,n)::r)
 |e (w:Nat) (r:List Tn):TS a b x 69 w ((x,a,b)::(a,b,x)::(b,x,a)::r) r
 |s (p n y z:Nat) (r:List Tn):TS a b x 83 z ((p,a,b)::(a,b,n)::(y,x,z)::r) ((p,a,x)::(a,x,z)::(y,x,b)::(x,b,n)::r)
def ku(ah:Lps)(loop:List Nat)(x:Nat):Lt->Nat
 |.sg _=>0
 |.sp j k=>if j=0 then hd (loop.drop (k+1)) (g1 loop) else hd ((ah.getD (ah.length-j) []).drop (k+1)++(ah.getD (ah.length-j) []).take k) x
theorem qP{ah:Lps}{a b:Nat}{t:List Nat}{lt:Lt}{n x:Nat}(ha:Lets lt)(h:ay ah (a::b::t) lt n=some x) :
  ∃T I,(tn (ah++[a::b::t])).Perm T/\(tn (aM ah (a::b::t) lt x)).Perm I/\TS a b x (sgn lt) (ku ah (a::b::t) x lt) T I:=by
 have base:∀(l:List Nat),(tn (ah++[l])).Perm (turns l++tn ah):=λl=>by
  rw[iD,j3];show cP
 obtain⟨n0,i,A⟩:=oK b t a;have K:(tn (ah++[a::b::t])).Perm ((aC b t,a,b)::(a,b,n0)::(i++tn ah)):=by show (base _).trans ?_;change ((aC b t,a,b)::tw a b t a++tn ah).Perm _;rw[A a];show .refl _
 cases lt with
 |sg c=>
  simp only[Lets] at ha;simp only[ay] at h;rcases ha with rfl|rfl|rfl|rfl
  .refine⟨_,_,K,(base _).trans ?_,TS.c _ _ _ _⟩;change ((aC b t,a,x)::(a,x,b)::tw x b t a++tn ah).Perm _;rw[A x];show .refl _
  .simp at h
   match t,h with
   | [],h=>simp at h
   |y::t',h=>
    simp at h;obtain⟨_,rfl⟩:=h;obtain⟨z,f,h1⟩:=oK y t' a;show⟨(aC y t',a,b)::(a,b,y)::(b,y,z)::(f++tn ah),(aC y t',a,y)::(a,y,z)::(f++tn ah),(base _).trans ?_,(base _).trans ?_,TS.r _ _ _ _⟩
    .change ((aC y t',a,b)::(a,b,y)::tw b y t' a++tn ah).Perm _;rw[h1 b];show .refl _
    change ((aC y t',a,y)::tw a y t' a++tn ah).Perm _;rw[h1 a];show .refl _
  .simp at h;have L:t≠[]:=by rintro rfl;simp at h
   have M:t.getLast?=some x:=by
    rw[qp];have:=h.2
    match t,L with
    |y::t',_=>simpa using this
   obtain⟨m,e⟩:=qq.mp M;subst e;obtain⟨g,f,h1⟩:=oK b m x;show⟨(x,a,b)::(a,b,g)::(aC b m,x,a)::(f++tn ah),(aC b m,x,b)::(x,b,g)::(f++tn ah),(base _).trans ?_,(base _).trans ?_,TS.l _ _ _ _⟩
   .change ((aC b (m++[x]),a,b)::tw a b (m++[x]) a++tn ah).Perm _;rw[i9,jZ,h1 a];change ((x,a,b)::((a,b,g)::f++[(aC b m,x,a)])++tn ah).Perm _;show List.Perm.cons _ (List.Perm.cons _ ?_);change (f++[(aC b m,x,a)]++tn ah).Perm ([(aC b m,x,a)]++(f++tn ah));rw[<-bI];show eR _ cP
   have e:(List.drop 1 (a::b::(m++[x]))).dropLast=b::m:=by change (b::(m++[x])).dropLast=_;rw[<-fc,uA]
   rw[e];change ((aC b m,x,b)::tw x b m x++tn ah).Perm _;rw[h1 x];show .refl _
  simp at h;obtain⟨N,h⟩:=h
  match t,N,h with
  | [y],_,h=>
   simp at h;subst h;show⟨_,_,base _,.refl _,TS.e _ _⟩
 |sp j k=>
  simp only[ay] at h;by_cases q:j=0
  .subst q;rw[Nq rfl] at h;by_cases p:2<k/\k+1<(a::b::t).length
   .rw[Nq p] at h;obtain⟨B,C⟩:=oX h;obtain⟨m,rfl⟩:∃m,k=m+2:=⟨k-2,()⟩;have w:t=t.take m++x::t.drop (m+1):=‹B›
    have D:t.drop m=x::t.drop (m+1):=‹C›
    obtain⟨g,f,h1⟩:=oK b (t.take m) x;obtain⟨d,h2⟩:=mV x (t.drop (m+1)) a;have E:ku ah (a::b::t) x (.sp 0 (m+2))=hd (t.drop (m+1)) a:=rfl;rw[E];generalize hd (t.drop (m+1)) a=z at *;have O:aC b t=aC x (t.drop (m+1)):=by conv=>lhs;rw[w,i9]
    show⟨(aC b t,a,b)::(a,b,g)::(aC b (t.take m),x,z)::(f++d++tn ah),(aC b t,a,x)::(a,x,z)::(aC b (t.take m),x,b)::(x,b,g)::(f++d++tn ah),(base _).trans ?_,?_,TS.s _ _ _ _ _⟩
    .change ((aC b t,a,b)::tw a b t a++tn ah).Perm _;have H:tw a b t a=(a,b,g)::f++(aC b (t.take m),x,z)::d:=by
      conv=>lhs;rw[w]
      rw[jZ,h1 a,h2]
     rw[H];show List.Perm.cons _ ?_;change ((a,b,g)::(f++(aC b (t.take m),x,z)::d++tn ah)).Perm _;show List.Perm.cons _ ?_;rw[bI,bI];show uL
    change (tn (ah++[a::List.drop m t,x::b::t.take m])).Perm _;rw[D,iD,xQ,j3];show cP.trans ?_;change ((aC x (t.drop (m+1)),a,x)::tw a x (t.drop (m+1)) a++(aC b (t.take m),x,b)::tw x b (t.take m) x++tn ah).Perm _;rw[h2 a,h1 x,O];show List.Perm.cons _ ?_;change ((a,x,z)::(d++(aC b (t.take m),x,b)::(x,b,g)::f++tn ah)).Perm _;show List.Perm.cons _ ?_;change (d++([(aC b (t.take m),x,b),(x,b,g)]++f)++tn ah).Perm ([(aC b (t.take m),x,b),(x,b,g)]++(f++d++tn ah));show pm3 _ _ _ _
   rw[Np p] at h;cases h
  rw[Np q] at h;by_cases p:j<=ah.length
  .rw[Nq p] at h;obtain⟨u,v,B,C⟩:=pE (show ah.length-j<ah.length by lia);have es:aM ah (a::b::t) (.sp j k) x=ah.eraseIdx (ah.length-j)++[[a]++(ah.getD (ah.length-j) []).drop k++(ah.getD (ah.length-j) []).take k++x::b::t]:=by
    unfold aM;dsimp only;rw[Np q];rfl
   have E:ku ah (a::b::t) x (.sp j k)=hd ((ah.getD (ah.length-j) []).drop (k+1)++(ah.getD (ah.length-j) []).take k) x:=by unfold ku;dsimp only;rw[Np q]
   rw[es,C,E];obtain⟨w,D⟩:=oX h;generalize ah.getD (ah.length-j) []=o at *;obtain⟨d,h2⟩:=mV x (o.drop (k+1)++o.take k) x;generalize hd (o.drop (k+1)++o.take k) x=z at *;show⟨(aC b t,a,b)::(a,b,n0)::(aC x (o.drop (k+1)++o.take k),x,z)::(i++d++(tn u++tn v)),(aC b t,a,x)::(a,x,z)::(aC x (o.drop (k+1)++o.take k),x,b)::(x,b,n0)::(i++d++(tn u++tn v)),K.trans ?_,?_,TS.s _ _ _ _ _⟩
   .refine List.Perm.cons _ (List.Perm.cons _ ?_);have H:(turns o).Perm ((aC x (o.drop (k+1)++o.take k),x,z)::d):=by
     rw[<-h2]
     conv=>lhs;rw[w]
     show BP (o.take k) (x::o.drop (k+1))
    have P:(tn ah).Perm ((aC x (o.drop (k+1)++o.take k),x,z)::d++(tn u++tn v)):=by
     rw[B,iD,xQ];have:(tn u++(turns o++tn v)).Perm (turns o++(tn u++tn v)):=by rw[<-bI,<-bI];show eR _ cP
     show this.trans (eR _ H)
    show (gO i P).trans ?_;change (i++((aC x (o.drop (k+1)++o.take k),x,z)::(d++(tn u++tn v)))).Perm _;show uL.trans (List.Perm.cons _ ?_);rw[<-bI]
   rw[iD,iD,j3];show cP.trans ?_;have Q:turns ([a]++o.drop k++o.take k++x::b::t)=(aC b t,a,x)::((a,x,z)::d++(aC x (o.drop (k+1)++o.take k),x,b)::(x,b,n0)::i):=by rw[D];have:[a]++x::o.drop (k+1)++o.take k++x::b::t=a::x::(o.drop (k+1)++o.take k++x::b::t):=∅;rw[this];change (aC x (o.drop (k+1)++o.take k++x::b::t),a,x)::tw a x (o.drop (k+1)++o.take k++x::b::t) a=_;rw[i9,jZ,h2 a];change (aC b t,a,x)::((a,x,z)::d++(aC x (o.drop (k+1)++o.take k),x,b)::tw x b t a)=_;rw[A x]
   rw[Q];show List.Perm.cons _ (List.Perm.cons _ ?_);change (d++([(aC x (o.drop (k+1)++o.take k),x,b),(x,b,n0)]++i)++(tn u++tn v)).Perm ([(aC x (o.drop (k+1)++o.take k),x,b),(x,b,n0)]++(i++d++(tn u++tn v)));show pm3 _ _ _ _
  rw[Np p] at h;cases h
end K71
end
section
namespace K71
open K31 K51 K15
section
variable {U:Nat->Nat->Prop}
structure cX(U:Nat->Nat->Prop)(n p:Nat)(l:List Nat):Prop where
 nd:(n::l).Nodup
 st:∀s∈path n l p,U s.1 s.2
def Gap(U:Nat->Nat->Prop)(n p:Nat):Prop:=∃l,cX U n p l
theorem cX.imp{a:Nat->Nat->Prop}{n p:Nat}{l:List Nat}(h:cX U n p l)(c:∀s t,s∈n::l->U s t->a s t):cX a n p l:=by show⟨h.nd,λs b=>c _ _ ?_ (h.st s b)⟩;show ae.mpr (iA n l p s b).1
theorem cX.cut{n p:Nat}{b c:List Nat}{m:Nat}(h:cX U n p (b++m::c)):cX U n m b/\cX U m p c:=by
 have nd:=h.nd;rw[<-fc,bS] at nd;show⟨⟨nd.1,λs a=>h.st s ?_⟩,⟨nd.2.1,λs a=>h.st s ?_⟩⟩
 .rw[eX];show bM _ a
 rw[eX];show bo _ a
theorem cX.next{n p:Nat}{l:List Nat}(h:cX U n p l){s:Nat}(a:s∈n::l):∃t,U s t/\(t=p\/t∈n::l):=by
 rcases ae.mp a with rfl|a
 .cases l with
  |nil=>show⟨p,h.st (s,p) (by simp[path]),.inl rfl⟩
  |cons m l=>show⟨m,h.st (s,m) (by simp[path]),.inr ∅⟩
 obtain⟨c,b,rfl⟩:=uz a;have h2:=h.cut.2;cases b with
 |nil=>show⟨p,h2.st (s,p) (by simp[path]),.inl rfl⟩
 |cons m b=>show⟨m,h2.st (s,m) (by simp[path]),.inr ∅⟩
theorem qZ:∀(n:Nat)(l:List Nat)(p:Nat),(aC n l,p)∈path n l p
 |_,[],_=>by simp[path,aC]
 |n,m::l,p=>by
  change (aC m l,p)∈(n,m)::path m l p;show aZ _ (qZ m l p)
theorem wo:∀(n:Nat)(l:List Nat),aC n l∈n::l
 |_,[]=>by simp[aC]
 |n,m::l=>aZ _ (wo m l)
theorem jE:∀(n:Nat)(l:List Nat)(p s:Nat),s∈l->∃o,(o,s)∈path n l p/\o∈n::l
 |_,[],_,_,h=>by cases h
 |n,m::l,p,s,h=>by
  rcases ae.mp h with rfl|h
  .exact⟨n,by simp[path],∅⟩
  obtain⟨o,h1,h2⟩:=jE m l p s h;show⟨o,aZ _ h1,aZ _ h2⟩
theorem sV:∀(n:Nat)(l:List Nat)(p i r s:Nat),(n::l)[i]?=some r->(n::l)[i+1]?=some s->(r,s)∈path n l p
 |_,[],_,_,_,_,_,h=>by simp at h
 |n,m::l,p,0,r,s,h1,h2=>by
  simp at h1 h2;subst h1 h2;simp[path]
 |n,m::l,p,i+1,r,s,h1,h2=>aZ _ (sV m l p i r s ‹h1› ‹h2›)
theorem oC(inj:∀a b c,U a c->U b c->a=b){n p n' p':Nat}{l f:List Nat}(h:cX U n p l)(h':cX U n' p' f)(s0:∀o,¬U o n)(m:∀o,¬U o n'){s:Nat}(q:s∈n::l)(d:s∈n'::f):n=n':=by
 have key:∀(i s:Nat),(n::l)[i]?=some s->s∈n'::f->n=n':=by
  intro i;induction i with
  |zero=>
   intro s e d;have e:n=s:=‹e›
   subst e;rcases ae.mp d with e|d
   .exact e
   obtain⟨o,h1,_⟩:=jE n' f p' n d;show (s0 o (h'.st _ h1)).elim
  |succ i r=>
   intro s e d;have hi:=(aI.mp e).1;have g:(n::l)[i]?=some ((n::l)[i]'()):=aP _;have u:=h.st _ (sV n l p i _ s g e);rcases ae.mp d with v|d
   .rw[v] at u;show (m _ u).elim
   obtain⟨o,h1,j⟩:=jE n' f p' s d;have w:o=(n::l)[i]'():=inj _ _ _ (h'.st _ h1) u;rw[w] at j;show r _ g j
 obtain⟨i,hi⟩:=dn.mp q;show key i s hi d
end
def Ring(S:Nat->Nat->Prop)(l:List Nat):Prop:=l.Nodup/\∀p q,S p q↔(p,q)∈sides l
structure Clo(E:Nat->Nat->Nat->Prop):Prop where
 sk:Sk E
 cl:∀{a b c},E a b c->∃d,E b a d
 rg:∀{v p q},E v p q->∃l,Ring (E v) l
theorem Ring.turn{S:Nat->Nat->Prop}{l r:List Nat}(h:Ring S (l++r)):Ring S (r++l):=by
 show⟨?_,λp q=>?_⟩
 .exact (cP.nodup_iff).mp h.1
 rw[h.2,(qQ l r).mem_iff]
theorem Ring.at{S:Nat->Nat->Prop}{l:List Nat}(h:Ring S l){v:Nat}(a:v∈l):∃r,Ring S (v::r):=by obtain⟨b,c,rfl⟩:=uz a;show⟨c++b,h.turn⟩
theorem Ring.mem{S:Nat->Nat->Prop}{l:List Nat}(h:Ring S l){p q:Nat}(a:S p q):p∈l/\q∈l:=jB ((h.2 p q).mp a)
def Dn(ds:List Tri)(a b:Nat):Prop:=∃c,En ds a b c
def Ud(E:Nat->Nat->Nat->Prop)(ds:List Tri)(v p q:Nat):Prop:=E v p q/\¬Dn ds v p
structure WI(E:Nat->Nat->Nat->Prop)(a0 b0:Nat)(ds:List Tri)(T:List Tn):Prop where
 sub:∀{a b c},En ds a b c->E a b c
 gd:((ents ds).map (·.1)).Nodup
 nd:(T.map (·.2)).Nodup
 pe:(T.map λt=>(t.1,t.2.1)).Perm (T.map (·.2))
 ed:∀{p v n},(p,v,n)∈T->(∃c,E v n c)/\¬Dn ds v n/\(ds=[]\/Dn ds n v)
 al:∀{v n c},E v n c->¬Dn ds v n->Dn ds n v->∃p,(p,v,n)∈T
 gp:∀{p v n},(p,v,n)∈T->Gap (Ud E ds v) n p
 st:ds=[]->T.Perm [(b0,a0,b0),(a0,b0,a0)]
section
variable {E:Nat->Nat->Nat->Prop}{a0 b0:Nat}{ds:List Tri}{T:List Tn}
theorem WI.perm{a:List Tn}(h:WI E a0 b0 ds T)(p:T.Perm a):WI E a0 b0 ds a:=
 ⟨h.sub,h.gd,(p.map _).nodup_iff.mp h.nd,((p.map _).symm.trans h.pe).trans (p.map _),λz=>h.ed (p.mem_iff.mpr z),λe n d=>let ⟨q,b⟩:=h.al e n d;⟨q,p.mem_iff.mp b⟩,λz=>h.gp (p.mem_iff.mpr z),λe=>p.symm.trans (h.st e)⟩
theorem WI.same{p p' v n:Nat}(h:WI E a0 b0 ds T)(h1:(p,v,n)∈T)(h2:(p',v,n)∈T):p=p':=by
 have key:∀{T:List Tn},(T.map (·.2)).Nodup->(p,v,n)∈T->(p',v,n)∈T->p=p':=by
  intro T;induction T with
  |nil=>intro _ h;cases h
  |cons t T c=>
   intro nd h1 h2;rw[az,aR] at nd;rcases ae.mp h1 with b|h1
   .rcases ae.mp h2 with a|h2
    .rw[<-b] at a;cases a;rfl
    show (nd.1 (aq.mpr ⟨_,h2,by rw[<-b]⟩)).elim
   rcases ae.mp h2 with a|h2
   .exact (nd.1 (aq.mpr ⟨_,h1,by rw[<-a]⟩)).elim
   show c nd.2 h1 h2
 show key h.nd h1 h2
theorem WI.prev{p v n:Nat}(h:WI E a0 b0 ds T)(h1:(p,v,n)∈T):∃o,(o,p,v)∈T:=by have:(p,v)∈T.map (·.2):=h.pe.mem_iff.mp (aq.mpr ⟨_,h1,rfl⟩);obtain⟨⟨o,x,y⟩,h2,e⟩:=aq.mp this;cases e;show⟨o,h2⟩
theorem G_(k:Sk E){v p p' q:Nat}(h:Ud E ds v p q)(h':Ud E ds v p' q):p=p':=k.inj h.1 h'.1
theorem cQ{a b c:Nat}(h:En ds a b c):En ds b c a:=by
 unfold En at *;rw[c9] at *;rcases h with h|h|h
 .exact .inr (.inl h)
 .exact .inr (.inr h)
 show .inl h
theorem kq(k:Sk E)(sub:∀{a b c},En ds a b c->E a b c){v n:Nat}(h:Dn ds n v)(o:Nat):¬Ud E ds v o n:=by rintro⟨h1,h2⟩;obtain⟨c,d⟩:=h;have e:o=c:=k.one (k.rot (k.rot h1)) (sub d);subst e;show h2 ⟨n,cQ d⟩
end
end K71
end
section
namespace K71
open K31 K51 K15
theorem xo:∀(n:Nat)(l:List Nat)(z a:Nat),∃r,path n l z=r++[(aC n l,z)]/\path n l a=r++[(aC n l,a)]/\∀s∈r,s.2∈l
 |n,[],z,a=>⟨[],rfl,rfl,λs h=>nomatch h⟩
 |n,m::l,z,a=>by
  obtain⟨r,h1,h2,c⟩:=xo m l z a;show⟨(n,m)::r,by change (n,m)::path m l z=_;rw[h1];rfl,by change (n,m)::path m l a=_;rw[h2];rfl,λs b=>?_⟩;rcases ae.mp b with rfl|b
  .simp
  show aZ _ (c s b)
theorem Ring.grow{S S':Nat->Nat->Prop}{l:List Nat}{u w x:Nat}(h:Ring S l)(d:S u w)(i:x∉l)(j:∀p q,S' p q↔(S p q/\¬(p=u/\q=w))\/(p=u/\q=x)\/(p=x/\q=w)):∃f,Ring S' f/\∀v,v∈f↔v∈l\/v=x:=by
 obtain⟨b,c,e⟩:=uz (h.mem d).2;subst e;have a:Ring S (w::(c++b)):=h.turn;have hm:∀v,v∈w::(c++b)↔v∈b++w::c:=λv=>by simp only[ae,aw];constructor<;>(rintro (h|h|h)<;>simp[h])
 generalize c++b=r at a hm;obtain⟨q,h1,h2,g⟩:=xo w r w x;have nd:=a.1;rw[aR] at nd;have m:aC w r=u:=by
  have:=(a.2 u w).mp d;rw[show sides (w::r)=path w r w from rfl,h1] at this;rcases aw.mp this with z|z
  .exact (nd.1 (g _ z)).elim
  simp at z;show z.symm
 have n:x∉w::r:=λz=>i ((hm x).mp z);show⟨x::w::r,⟨aR.mpr ⟨n,a.1⟩,λp o=>?_⟩,λv=>?_⟩
 .change _↔(p,o)∈(x,w)::path w r x;rw[j,a.2,show sides (w::r)=path w r w from rfl,h1,h2,m];simp only[ae,aw,bq,or_false,bz];constructor
  .rintro (⟨h|h,h'⟩|h|h)
   .exact .inr (.inl h)
   .exact (h' h).elim
   .exact .inr (.inr h)
   show .inl h
  rintro (h|h|h)
  .exact .inr (.inr h)
  .refine .inl ⟨.inl h,λz=>?_⟩;have:=g _ h;rw[z.2] at this;show nd.1 this
  show .inr (.inl h)
 rw[ae,hm,or_comm]
theorem Ring.congr{S S':Nat->Nat->Prop}{l:List Nat}(h:Ring S l)(e:∀p q,S' p q↔S p q):Ring S' l:=⟨h.1,λp q=>(e p q).trans (h.2 p q)⟩
def Lk(ts:List Tri)(T:List Tn)(v p q:Nat):Prop:=En ts v p q\/(q,v,p)∈T
def kn(ts:List Tri)(ls:Lps):List Side:=tl ts++wl ls
structure FI(ts:List Tri)(ls:Lps):Prop where
 nd:(kn ts ls).Nodup
 sy:∀{p q},(p,q)∈kn ts ls->(q,p)∈kn ts ls
 ne:∀{p q},(p,q)∈kn ts ls->p≠q
 rg:∀v p q,Lk ts (tn ls) v p q->∃l,Ring (Lk ts (tn ls) v) l
theorem gC{ts:List Tri}{a b:Nat}:(a,b)∈tl ts↔∃c,En ts a b c:=by
 unfold tl En ents;simp only[eU,ae,bq,or_false,bz];constructor
 .rintro⟨t,d,h|h|h⟩
  .exact⟨_,t,d,.inl ⟨h,rfl⟩⟩
  .exact⟨_,t,d,.inr (.inl ⟨h,rfl⟩)⟩
  show⟨_,t,d,.inr (.inr ⟨h,rfl⟩)⟩
 rintro⟨c,t,d,h|h|h⟩
 .exact⟨t,d,.inl h.1⟩
 .exact⟨t,d,.inr (.inl h.1)⟩
 show⟨t,d,.inr (.inr h.1)⟩
theorem fK(ts:List Tri):tl ts=(ents ts).map (·.1):=by
 induction ts with
 |nil=>rfl
 |cons t ts a=>
  change [(t.1,t.2.1),(t.2.1,t.2.2),(t.2.2,t.1)]++tl ts=_;rw[a];simp[ents]
theorem iJ{ls:Lps}{v n:Nat}:(v,n)∈wl ls↔∃p,(p,v,n)∈tn ls:=by
 rw[<-lA];constructor
 .intro h;obtain⟨⟨p,x,y⟩,h1,h2⟩:=aq.mp h;cases h2;show⟨p,h1⟩
 rintro⟨p,h⟩;show aq.mpr ⟨_,h,rfl⟩
theorem pF{ls:Lps}{p v:Nat}:(p,v)∈wl ls↔∃n,(p,v,n)∈tn ls:=by
 rw[<-(xP ls).mem_iff];constructor
 .intro h;obtain⟨⟨x,y,n⟩,h1,h2⟩:=aq.mp h;cases h2;show⟨n,h1⟩
 rintro⟨n,h⟩;show aq.mpr ⟨_,h,rfl⟩
theorem xw{ts:List Tri}{ls:Lps}{v p q:Nat}(h:Lk ts (tn ls) v p q):(v,p)∈kn ts ls/\(q,v)∈kn ts ls:=by
 rcases h with h|h
 .exact⟨bM _ (gC.mpr ⟨q,h⟩),bM _ (gC.mpr ⟨p,cQ (cQ h)⟩)⟩
 show⟨bo _ (iJ.mpr ⟨q,h⟩),bo _ (pF.mpr ⟨p,h⟩)⟩
theorem B4{ts:List Tri}{ls:Lps}(f:FI ts ls){v c:Nat}{l:List Nat}(h:Ring (Lk ts (tn ls) v) l)(a:c∈l):(v,c)∈kn ts ls:=by
 obtain⟨r,b⟩:=h.at a;have:∃q,(c,q)∈sides (c::r):=by
  cases r with
  |nil=>show⟨c,by simp[sides,path]⟩
  |cons m r=>show⟨m,by simp[sides,path]⟩
 obtain⟨q,d⟩:=this;show (xw ((b.2 c q).mpr d)).1
theorem iC{ts:List Tri}{T a:List Tn}(h:T.Perm a)(v p q:Nat):Lk ts T v p q↔Lk ts a v p q:=by unfold Lk;rw[h.mem_iff]
theorem fi0:FI [] [[0,1]]:=by
 show⟨⋯,λ{p q} h=>?_,λ{p q} h=>?_,λv p q h=>?_⟩
 .simp[kn,tl,wl,sides,path] at h |-;lia
 .simp[kn,tl,wl,sides,path] at h;lia
 have e:∀v p q,Lk [] (tn [[0,1]]) v p q↔(q=1/\v=0/\p=1)\/(q=0/\v=1/\p=0):=λv p q=>by simp[Lk,En,ents,tn,turns,tw,aC]
 rcases (e v p q).mp h with ⟨rfl,rfl,rfl⟩|⟨rfl,rfl,rfl⟩
 .exact⟨[1],∅,λp q=>by rw[e];simp[sides,path];lia⟩
 show⟨[0],∅,λp q=>by rw[e];simp[sides,path];lia⟩
theorem jg{ds:List Tri}{a b x u v w:Nat}:En (ds++[(a,b,x)]) u v w↔En ds u v w\/(u=a/\v=b/\w=x)\/(u=b/\v=x/\w=a)\/(u=x/\v=a/\w=b):=by unfold En ents;rw[ql,aw];simp only[qm,List.flatMap_nil,dh,ae,bq,or_false,bz,and_assoc]
theorem ck{ds:List Tri}{a b x u v:Nat}:Dn (ds++[(a,b,x)]) u v↔Dn ds u v\/(u=a/\v=b)\/(u=b/\v=x)\/(u=x/\v=a):=by
 unfold Dn;constructor
 .rintro⟨c,h⟩;rcases jg.mp h with h|⟨h1,h2,_⟩|⟨h1,h2,_⟩|⟨h1,h2,_⟩
  .exact .inl ⟨c,h⟩
  .exact .inr (.inl ⟨h1,h2⟩)
  .exact .inr (.inr (.inl ⟨h1,h2⟩))
  show .inr (.inr (.inr ⟨h1,h2⟩))
 rintro (⟨c,h⟩|⟨h1,h2⟩|⟨h1,h2⟩|⟨h1,h2⟩)
 .exact⟨c,jg.mpr (.inl h)⟩
 .exact⟨x,jg.mpr (.inr (.inl ⟨h1,h2,rfl⟩))⟩
 .exact⟨a,jg.mpr (.inr (.inr (.inl ⟨h1,h2,rfl⟩)))⟩
 show⟨b,jg.mpr (.inr (.inr (.inr ⟨h1,h2,rfl⟩)))⟩
section
variable {E:Nat->Nat->Nat->Prop}{a0 b0:Nat}{ds:List Tri}{T:List Tn}{a b x p0 n0:Nat}
structure Gate(E:Nat->Nat->Nat->Prop)(a0 b0:Nat)(ds:List Tri)(T:List Tn)(a b x p0 n0:Nat):Prop where
 k:Clo E
 w:WI E a0 b0 ds T
 ga:(p0,a,b)∈T
 gb:(a,b,n0)∈T
 ex:E a b x
namespace Gate
variable (g:Gate E a0 b0 ds T a b x p0 n0)
include g
theorem inj(v:Nat):∀a b c,Ud E ds v a c->Ud E ds v b c->a=b:=λ_ _ _ h h'=>G_ g.k.sk h h'
theorem ab:a≠b:=g.k.sk.ne g.ex
theorem bx:b≠x:=g.k.sk.ne (g.k.sk.rot g.ex)
theorem xa:x≠a:=g.k.sk.ne (g.k.sk.rot (g.k.sk.rot g.ex))
theorem eb:E b x a:=g.k.sk.rot g.ex
theorem ea:E x a b:=g.k.sk.rot g.eb
theorem nab:¬Dn ds a b:=(g.w.ed g.ga).2.1
theorem nbx:¬Dn ds b x:=λ⟨c,h⟩=>by
 have e:c=a:=g.k.sk.one (g.w.sub h) g.eb;subst e;show g.nab ⟨x,cQ (cQ h)⟩
theorem nxa:¬Dn ds x a:=λ⟨c,h⟩=>by
 have e:c=b:=g.k.sk.one (g.w.sub h) g.ea;subst e;show g.nab ⟨x,cQ h⟩
theorem ud{v s t:Nat}(h:Ud E ds v s t)(h1:¬(v=a/\s=b))(h2:¬(v=b/\s=x))(c:¬(v=x/\s=a)):Ud E (ds++[(a,b,x)]) v s t:=by
 show⟨h.1,λz=>?_⟩;rcases ck.mp z with z|z|z|z
 .exact h.2 z
 .exact h1 z
 .exact h2 z
 show c z
theorem gapA:x=p0\/Gap (Ud E (ds++[(a,b,x)]) a) x p0:=by
 obtain⟨l,h⟩:=g.w.gp g.ga;cases l with
 |nil=>
  have u:=h.st (b,p0) (by simp[path]);show .inl (g.k.sk.one g.ex u.1)
 |cons m l=>
  have u:=h.st (b,m) (by simp[path]);have e:x=m:=g.k.sk.one g.ex u.1;subst e;have nd:=h.nd;rw[aR] at nd;show .inr ⟨l,nd.2,λs c=>g.ud (h.st s (aZ _ c)) (λz=>?_) (λz=>g.ab z.1) λz=>g.xa z.1.symm⟩;have:=ae.mpr (iA x l p0 s c).1;rw[z.2] at this;show nd.1 this
theorem gapB:∃l,cX (Ud E ds b) n0 a l/\x∈n0::l/\(n0=x\/Gap (Ud E (ds++[(a,b,x)]) b) n0 x):=by
 obtain⟨l,h⟩:=g.w.gp g.gb;have u:=h.st _ (qZ n0 l a);have e:aC n0 l=x:=g.k.sk.inj u.1 g.eb;show⟨l,h,by rw[<-e];show wo n0 l,?_⟩;rcases qk l with rfl|⟨c,m,d⟩
 .exact .inl e
 rw[qi] at d;subst d;rw[i9] at e;have e:m=x:=e;subst e;have h1:=h.cut.1;show .inr ⟨c,h1.nd,λs f=>g.ud (h1.st s f) (λz=>g.ab z.1.symm) (λz=>?_) λz=>g.bx z.1⟩;have:=ae.mpr (iA n0 c m s f).1;rw[z.2] at this;have nd:=h.nd;rw[<-fc,bS] at nd;show nd.2.2 m this m ∅ rfl
theorem other(f:(∀p n,(p,x,n)∉T)\/∃y z l,(y,x,z)∈T/\cX (Ud E ds x) z y l/\a∈z::l)(hd:ds≠[]){p v n:Nat}(h:(p,v,n)∈T)(h1:(v,n)≠(a,b))(h2:(v,n)≠(b,n0))(m:∀y z,(y,x,z)∈T->(∃l,cX (Ud E ds x) z y l/\a∈z::l)->(v,n)≠(x,z)) :
  Gap (Ud E (ds++[(a,b,x)]) v) n p:=by
 obtain⟨l,d⟩:=g.w.gp h;have s0:∀{p v n:Nat},(p,v,n)∈T->∀o,¬Ud E ds v o n:=λq=>kq g.k.sk g.w.sub ((g.w.ed q).2.2.resolve_left hd);show⟨l,d.imp λs t i u=>g.ud u (λz=>?_) (λz=>?_) λz=>?_⟩
 .obtain⟨rfl,rfl⟩:=z;obtain⟨j,c⟩:=g.w.gp g.ga;have e:=oC (g.inj _) d c (s0 h) (s0 g.ga) i ∅;subst e;show h1 rfl
 .obtain⟨rfl,rfl⟩:=z;obtain⟨j,c,r,_⟩:=g.gapB;have e:=oC (g.inj _) d c (s0 h) (s0 g.gb) i r;subst e;show h2 rfl
 obtain⟨rfl,rfl⟩:=z;rcases f with f|⟨y,z,j,hz,c,ha⟩
 .exact f _ _ h
 have e:=oC (g.inj _) d c (s0 h) (s0 hz) i ha;subst e;show m y n hz ⟨j,c,ha⟩ rfl
theorem gd':((ents (ds++[(a,b,x)])).map (·.1)).Nodup:=by
 have e:(ents (ds++[(a,b,x)])).map (·.1)=(ents ds).map (·.1)++[(a,b),(b,x),(x,a)]:=by simp[ents]
 rw[e,bS];show⟨g.w.gd,?_,λs f t d e=>?_⟩
 .have h1:=g.ab;have h2:=g.bx;have h:=g.xa;simp only[aR,ae,bq,or_false,bz,not_or,not_false_eq_true,kM,and_true];show⟨⟨λz=>h1 z.1,λz=>h z.1.symm⟩,λz=>h2 z.1⟩
 subst e;obtain⟨⟨q,c⟩,h1,rfl⟩:=aq.mp f;simp only[ae,bq,or_false] at d;rcases d with rfl|rfl|rfl
 .exact g.nab ⟨c,h1⟩
 .exact g.nbx ⟨c,h1⟩
 show g.nxa ⟨c,h1⟩
theorem sub':∀{u v w},En (ds++[(a,b,x)]) u v w->E u v w:=λh=>by
 rcases jg.mp h with h|⟨rfl,rfl,rfl⟩|⟨rfl,rfl,rfl⟩|⟨rfl,rfl,rfl⟩
 .exact g.w.sub h
 .exact g.ex
 .exact g.eb
 show g.ea
theorem wantA(hd:ds≠[]){o:Nat}(h:(o,x,a)∈T):p0=x:=by
 rcases g.gapA with e|⟨l,b⟩
 .exact e.symm
 -- nothing d f on from x about a
 have c:=(g.w.ed h).2.2.resolve_left hd;obtain⟨t,u,_⟩:=b.next (s:=x) ∅;show (u.2 (ck.mpr (.inl c))).elim
theorem wantB(hd:ds≠[]){o:Nat}(h:(o,b,x)∈T):n0=x:=by
 obtain⟨l,d,c,e|_⟩:=g.gapB
 .exact e
 rcases ae.mp c with e|c
 .exact e.symm
 obtain⟨o',h1,_⟩:=jE n0 l a x c;show (kq g.k.sk g.w.sub ((g.w.ed h).2.2.resolve_left hd) o' (d.st _ h1)).elim
theorem old(hd:ds≠[]){y z:Nat}{l:List Nat}(hz:(y,x,z)∈T)(r:cX (Ud E ds x) z y l)(ha:a∈z::l){B:List Tn}(nd:(B.map (·.2)).Nodup)(pe:(B.map λt=>(t.1,t.2.1)).Perm (B.map (·.2)))
  (mem:∀t,t∈B↔(t∈T/\t≠(p0,a,b)/\t≠(a,b,n0)/\t≠(y,x,z))\/(p0≠x/\t=(p0,a,x))\/(n0≠x/\t=(x,b,n0))\/(p0≠x/\t=(a,x,z))\/(n0≠x/\t=(y,x,b))):WI E a0 b0 (ds++[(a,b,x)]) B:=by
 have M:=(g.w.ed hz).2.2.resolve_left hd;have N:z=a->p0=x:=λe=>by subst e;show g.wantA hd hz
 have O:p0=x->z=a:=λe=>by
  obtain⟨o,j⟩:=g.w.prev g.ga;rw[e] at j;have s0:=kq g.k.sk g.w.sub ((g.w.ed j).2.2.resolve_left hd);rcases ae.mp ha with e|ha
  .exact e.symm
  obtain⟨o',h1,_⟩:=jE z l y a ha;show (s0 _ (r.st _ h1)).elim
 have an:n0=x->y=b:=λe=>by
  have C:=g.gb;rw[e] at C;have U:=(g.w.ed C).2.2.resolve_left hd;obtain⟨t,u,f⟩:=r.next ha;have X:t=b:=g.k.sk.one u.1 g.ea;subst X;rcases f with e|f
  .exact e.symm
  obtain⟨t',Y,_⟩:=r.next f;show (Y.2 U).elim
 have Z:y=b->n0=x:=λe=>by
  obtain⟨o,j⟩:=g.w.prev hz;rw[e] at j;show g.wantB hd j
 have part:(z=a\/Gap (Ud E (ds++[(a,b,x)]) x) z a)/\(y=b\/Gap (Ud E (ds++[(a,b,x)]) x) b y):=by
  have tail:∀{m:Nat}{A:List Nat},cX (Ud E ds x) a y A->m=a->y=b\/Gap (Ud E (ds++[(a,b,x)]) x) b y:=λ{m A} h _=>by
   cases A with
   |nil=>show .inl (g.k.sk.one (h.st (a,y) (by simp[path])).1 g.ea)
   |cons c A=>
    have e:c=b:=g.k.sk.one (h.st (a,c) (by simp[path])).1 g.ea;subst e;have nd:=h.nd;rw[aR] at nd;show .inr ⟨A,nd.2,λs D=>g.ud (h.st s (aZ _ D)) (λz=>g.xa z.1) (λz=>g.bx z.1.symm) λz=>?_⟩;have:=ae.mpr (iA c A y s D).1;rw[z.2] at this;show nd.1 this
  rcases ae.mp ha with e|ha
  .exact⟨.inl e.symm,tail (m:=a) (by rw[e];show r) rfl⟩
  obtain⟨P,A,rfl⟩:=uz ha;obtain⟨h1,h2⟩:=r.cut;show⟨.inr ⟨P,h1.nd,λs D=>g.ud (h1.st s D) (λz=>g.xa z.1) (λz=>g.bx z.1.symm) λzz=>?_⟩,tail (m:=a) h2 rfl⟩;have:=ae.mpr (iA z P a s D).1;rw[zz.2] at this;have nd:=r.nd;rw[<-fc,bS] at nd;show nd.2.2 a this a ∅ rfl
 show⟨g.sub',g.gd',nd,pe,?_,?_,?_,λe=>by simp at e⟩
 .intro p v n f;rcases (mem _).mp f with ⟨f,h1,h2,K⟩|⟨q,e⟩|⟨i,e⟩|⟨q,e⟩|⟨i,e⟩
  .obtain⟨c,d,e⟩:=g.w.ed f;show⟨c,λz=>?_,.inr (ck.mpr (.inl (e.resolve_left hd)))⟩;rcases ck.mp z with z|⟨rfl,rfl⟩|⟨rfl,rfl⟩|⟨rfl,rfl⟩
   .exact d z
   .exact h1 (by rw[g.w.same f g.ga])
   .have H:=g.wantB hd f;subst H;show h2 (by rw[g.w.same f g.gb])
   have H:=O (g.wantA hd f);subst H;show K (by rw[g.w.same f hz])
  .cases e;obtain⟨d,L⟩:=g.k.cl g.ea;show⟨⟨d,L⟩,λz=>?_,.inr (ck.mpr (.inr (.inr (.inr ⟨rfl,rfl⟩))))⟩;rcases ck.mp z with z|z|z|z
   .obtain⟨o,j⟩:=g.w.al g.ea g.nxa z;show q (g.wantA hd j)
   .exact g.bx z.2.symm
   .exact g.ab z.1
   show g.xa z.1.symm
  .cases e;obtain⟨c,d,e⟩:=g.w.ed g.gb;show⟨c,λz=>?_,.inr (ck.mpr (.inl (e.resolve_left hd)))⟩;rcases ck.mp z with z|z|z|z
   .exact d z
   .exact g.ab z.1.symm
   .exact i z.2
   show g.bx z.1
  .cases e;obtain⟨c,d,e⟩:=g.w.ed hz;show⟨c,λz=>?_,.inr (ck.mpr (.inl M))⟩;rcases ck.mp z with z|z|z|z
   .exact d z
   .exact g.xa z.1
   .exact g.bx z.1.symm
   show q (N z.2)
  cases e;obtain⟨d,L⟩:=g.k.cl g.eb;show⟨⟨d,L⟩,λz=>?_,.inr (ck.mpr (.inr (.inr (.inl ⟨rfl,rfl⟩))))⟩;rcases ck.mp z with z|z|z|z
  .obtain⟨o,j⟩:=g.w.al g.eb g.nbx z;show i (g.wantB hd j)
  .exact g.xa z.1
  .exact g.bx z.1.symm
  show g.ab z.2.symm
 .intro v n c he h1 h2;have I:¬Dn ds v n:=λz=>h1 (ck.mpr (.inl z));rcases ck.mp h2 with h2|⟨rfl,rfl⟩|⟨rfl,rfl⟩|⟨rfl,rfl⟩
  .obtain⟨p,q⟩:=g.w.al he I h2;by_cases Q:(p,v,n)=(p0,a,b)
   .cases Q;show (h1 (ck.mpr (.inr (.inl ⟨rfl,rfl⟩)))).elim
   by_cases R:(p,v,n)=(a,b,n0)
   .cases R;have i:n0≠x:=λe=>h1 (ck.mpr (.inr (.inr (.inl ⟨rfl,e⟩))));show⟨x,(mem _).mpr (.inr (.inr (.inl ⟨i,rfl⟩)))⟩
   by_cases S:(p,v,n)=(y,x,z)
   .cases S;have i:p0≠x:=λe=>h1 (ck.mpr (.inr (.inr (.inr ⟨rfl,O e⟩))));show⟨a,(mem _).mpr (.inr (.inr (.inr (.inl ⟨i,rfl⟩))))⟩
   show⟨p,(mem _).mpr (.inl ⟨q,Q,R,S⟩)⟩
  .exact (I ((g.w.ed g.ga).2.2.resolve_left hd)).elim
  .have i:n0≠v:=λe=>by
    have C:=g.gb;rw[e] at C;show I ((g.w.ed C).2.2.resolve_left hd)
   show⟨y,(mem _).mpr (.inr (.inr (.inr (.inr ⟨i,rfl⟩))))⟩
  have i:p0≠n:=λe=>by
   obtain⟨o,j⟩:=g.w.prev g.ga;rw[e] at j;show I ((g.w.ed j).2.2.resolve_left hd)
  show⟨p0,(mem _).mpr (.inr (.inl ⟨i,rfl⟩))⟩
 intro p v n f;rcases (mem _).mp f with ⟨f,h1,h2,K⟩|⟨q,e⟩|⟨i,e⟩|⟨q,e⟩|⟨i,e⟩
 .refine g.other (.inr ⟨y,z,l,hz,r,ha⟩) hd f (λe=>?_) (λe=>?_) λy' z' ad ⟨l',ah,am⟩ e=>?_
  .cases e;show h1 (by rw[g.w.same f g.ga])
  .cases e;show h2 (by rw[g.w.same f g.gb])
  cases e;have H:n=z:=oC (g.inj _) ah r (kq g.k.sk g.w.sub ((g.w.ed ad).2.2.resolve_left hd)) (kq g.k.sk g.w.sub M) am ha;subst H;show K (by rw[g.w.same f hz])
 .cases e;show g.gapA.resolve_left λe=>q e.symm
 .cases e;obtain⟨_,_,_,h⟩:=g.gapB;show h.resolve_left i
 .cases e;show part.1.resolve_left λe=>q (N e)
 cases e;show part.2.resolve_left λe=>i (Z e)
end Gate
end
end K71
end
section
namespace K71
open K31 K51 K15
theorem Ring.grow'{S S' B:Nat->Nat->Prop}{l:List Nat}{u w x:Nat}(h:Ring S l)(c:x∉l)(a:∀p q,S p q↔B p q\/(p=u/\q=w))(d:¬B u w)(e:∀p q,S' p q↔B p q\/(p=u/\q=x)\/(p=x/\q=w)):∃b,Ring S' b/\∀v,v∈b↔v∈l\/v=x:=by
 show h.grow ((a u w).mpr (.inr ⟨rfl,rfl⟩)) c λp q=>?_;rw[e,a];constructor
 .rintro (h|h)
  .exact .inl ⟨.inl h,λz=>d (by rw[<-z.1,<-z.2];show h)⟩
  show .inr h
 rintro (⟨h|h,h'⟩|h)
 .exact .inl h
 .exact (h' h).elim
 show .inr h
theorem Kp{A B:Prop}{v a b p q w y n P:Nat}(h1:v≠a)(h2:v≠b):(A\/(v=a/\p=b/\q=v\/v=b/\p=v/\q=a\/True/\p=a/\q=b)\/q=P/\v=a/\p=v\/q=a/\True/\p=w\/q=y/\True/\p=b\/q=v/\v=b/\p=n\/B)↔((A\/B)\/p=w/\q=a)\/p=a/\q=b\/p=b/\q=y:=by grind
section
variable {ts:List Tri}{ls:Lps}{a b x:Nat}
theorem Ka{s w:Nat}{T j:List Tn}(f:FI ts ls)(D:(tn ls).Perm T)(ab:a≠b)(bx:b≠x)(xa:x≠a)(h:TS a b x s w T j)(am:(a,b)∈wl ls)
  (U:s=67->∀c,(x,c)∉kn ts ls) (Q:s=67\/s=82\/s=83->(x,a)∉kn ts ls/\(a,x)∉kn ts ls) (C:s=67\/s=76\/s=83->(b,x)∉kn ts ls/\(x,b)∉kn ts ls) :
  ∀v p q,Lk (ts++[(a,b,x)]) j v p q->∃l,Ring (Lk (ts++[(a,b,x)]) j v) l:=by
 have X:(T.map (·.2)).Nodup:=by have:=(bS.mp f.nd).2.1;rw[<-lA] at this;show (D.map _).nodup_iff.mp this
 have g:=(ff.mp X).imp (S:=λa b=>a≠b) λh e=>h (by rw[e]);have g:T.Nodup:=g;have dis:∀{p v n c},(p,v,n)∈T->¬En ts v n c:=λ{p v n c} h1 h2=>(bS.mp f.nd).2.2 (v,n) (gC.mpr ⟨c,h2⟩) (v,n) (iJ.mpr ⟨p,D.mem_iff.mpr h1⟩) rfl;have an:∀{p v n c},(p,v,n)∈T->¬En ts p v c:=λ{p v n c} h1 h2=>(bS.mp f.nd).2.2 (p,v) (gC.mpr ⟨c,h2⟩) (p,v) (pF.mpr ⟨n,D.mem_iff.mpr h1⟩) rfl;have rg:∀v p q,Lk ts T v p q->∃l,Ring (Lk ts T v) l:=λv p q h=>by
  obtain⟨l,d⟩:=f.rg v p q ((iC D v p q).mpr h);show⟨l,d.congr λp q=>(iC D v p q).symm⟩
 have known:∀{v c l},Ring (Lk ts T v) l->c∈l->(v,c)∈kn ts ls:=λ{v c l} h Y=>B4 f (h.congr λp q=>iC D v p q) Y;have i:∀v p q,Lk (ts++[(a,b,x)]) j v p q↔En ts v p q\/((v=a/\p=b/\q=x)\/(v=b/\p=x/\q=a)\/(v=x/\p=a/\q=b))\/(q,v,p)∈j:=λv p q=>by
  unfold Lk;rw[jg,or_assoc]
 have oth:∀v,v≠a->v≠b->v≠x->(∀p q,(q,v,p)∈j↔(q,v,p)∈T)->∀p q,Lk (ts++[(a,b,x)]) j v p q->∃l,Ring (Lk (ts++[(a,b,x)]) j v) l:=λv h1 h2 R h p q Z=>by
  have e:∀p q,Lk (ts++[(a,b,x)]) j v p q↔Lk ts T v p q:=λp q=>by
   rw[i];unfold Lk;rw[h];simp[h1,h2,R]
  obtain⟨l,d⟩:=rg v p q ((e p q).mp Z);show⟨l,d.congr e⟩
 have one:∀(r:List Tn)(v u w c:Nat),(∀p q,Lk ts T v p q↔(En ts v p q\/(q,v,p)∈r)\/(p=u/\q=w))->¬(En ts v u w\/(w,v,u)∈r)->(v,c)∉kn ts ls->(∀p q,Lk (ts++[(a,b,x)]) j v p q↔(En ts v p q\/(q,v,p)∈r)\/(p=u/\q=c)\/(p=c/\q=w))->∃l,Ring (Lk (ts++[(a,b,x)]) j v) l:=λr v u w c h1 h2 R h4=>by
  obtain⟨l,d⟩:=rg v u w ((h1 u w).mpr (.inr ⟨rfl,rfl⟩));obtain⟨l',ad,_⟩:=d.grow' (λz=>R (known d z)) h1 h2 h4;show⟨l',ad⟩
 intro v p q E;cases h with
 |c _ P n r=>
  have H:=λc=>dis (p:=P) (v:=a) (n:=b) (c:=c) ∅;have I:=λc=>dis (p:=a) (v:=b) (n:=n) (c:=c) ∅;simp only[aR,ae,not_or] at g;obtain⟨N,K⟩:=Q (.inl rfl);obtain⟨L,O⟩:=C (.inl rfl);have fx:=U rfl;by_cases m:v=a
  .subst m;show one r v b P x (λp q=>?_) (λz=>z.elim (H P) g.1.2) K λp q=>?_
   .unfold Lk;simp only[ae,bz]
    grind
   rw[i];simp only[ae,bz];grind
  by_cases o:v=b
  .subst o;show one r v n a x (λp q=>?_) (λz=>z.elim (I a) g.2.1) L λp q=>?_
   .unfold Lk;simp only[ae,bz];grind
   rw[i];simp only[ae,bz];grind
  by_cases A:v=x
  .subst A;have none:∀p q,¬Lk ts ((P,a,b)::(a,b,n)::r) v p q:=λp q z=>fx p (xw ((iC D v p q).mpr z)).1;show⟨[a,b],by simp[ab],λp q=>?_⟩;have z:=none p q;unfold Lk at z;rw[i];simp only[ae,bz,sides,path,bq,or_false] at z |-
   grind
  show oth v m o A (λp q=>?_) p q E;simp only[ae,bz];grind
 |r _ P z r=>
  have H:=λc=>dis (p:=P) (v:=a) (n:=b) (c:=c) ∅;have M:=λc=>dis (p:=b) (v:=x) (n:=z) (c:=c) ∅;simp only[aR,ae,not_or] at g;obtain⟨N,K⟩:=Q (.inr (.inl rfl));by_cases m:v=a
  .subst m;show one r v b P x (λp q=>?_) (λz=>z.elim (H P) g.1.2.2) K λp q=>?_
   .unfold Lk;simp only[ae,bz];grind
   rw[i];simp only[ae,bz];grind
  by_cases o:v=b
  .subst o;have e:∀p q,Lk (ts++[(a,v,x)]) ((P,a,x)::(a,x,z)::r) v p q↔Lk ts ((P,a,v)::(a,v,x)::(v,x,z)::r) v p q:=λp q=>by
    rw[i];unfold Lk;simp only[ae,bz];grind
   obtain⟨l,d⟩:=rg v p q ((e p q).mp E);show⟨l,d.congr e⟩
  by_cases A:v=x
  .subst A;show one r v z b a (λp q=>?_) (λy=>y.elim (M b) g.2.2.1) N λp q=>?_
   .unfold Lk;simp only[ae,bz];grind
   rw[i];simp only[ae,bz];grind
  show oth v m o A (λp q=>?_) p q E;simp only[ae,bz];grind
 |l _ n y r=>
  have I:=λc=>dis (p:=a) (v:=b) (n:=n) (c:=c) ∅;have M:=λc=>dis (p:=y) (v:=x) (n:=a) (c:=c) ∅;simp only[aR,ae,not_or] at g;obtain⟨L,O⟩:=C (.inr (.inl rfl));by_cases m:v=a
  .subst m;have e:∀p q,Lk (ts++[(v,b,x)]) ((y,x,b)::(x,b,n)::r) v p q↔Lk ts ((x,v,b)::(v,b,n)::(y,x,v)::r) v p q:=λp q=>by
    rw[i];unfold Lk;simp only[ae,bz];grind
   obtain⟨l,d⟩:=rg v p q ((e p q).mp E);show⟨l,d.congr e⟩
  by_cases o:v=b
  .subst o;show one r v n a x (λp q=>?_) (λz=>z.elim (I a) g.2.1.2) L λp q=>?_
   .unfold Lk;simp only[ae,bz];grind
   rw[i];simp only[ae,bz];grind
  by_cases A:v=x
  .subst A;show one r v a y b (λp q=>?_) (λz=>z.elim (M y) g.2.2.1) O λp q=>?_
   .unfold Lk;simp only[ae,bz];grind
   rw[i];simp only[ae,bz];grind
  show oth v m o A (λp q=>?_) p q E;simp only[ae,bz];grind
 |e _ r=>
  have e:∀p q,Lk (ts++[(a,b,x)]) j v p q↔Lk ts ((x,a,b)::(a,b,x)::(b,x,a)::j) v p q:=λp q=>by
   rw[i];unfold Lk;simp only[ae,bz];grind
  obtain⟨l,d⟩:=rg v p q ((e p q).mp E);show⟨l,d.congr e⟩
 |s P n y z r=>
  have H:=λc=>dis (p:=P) (v:=a) (n:=b) (c:=c) ∅;have I:=λc=>dis (p:=a) (v:=b) (n:=n) (c:=c) ∅;have M:=λc=>dis (p:=y) (v:=x) (n:=w) (c:=c) ∅;simp only[aR,ae,not_or] at g;obtain⟨N,K⟩:=Q (.inr (.inr rfl));obtain⟨L,O⟩:=C (.inr (.inr rfl));by_cases m:v=a
  .subst m;show one r v b P x (λp q=>?_) (λz=>z.elim (H P) g.1.2.2) K λp q=>?_
   .unfold Lk;simp only[ae,bz];grind
   rw[i];simp only[ae,bz];grind
  by_cases o:v=b
  .subst o;show one r v n a x (λp q=>?_) (λz=>z.elim (I a) g.2.1.2) L λp q=>?_
   .unfold Lk;simp only[ae,bz];grind
   rw[i];simp only[ae,bz];grind
  by_cases A:v=x
  .subst A;have C:∀p q,Lk ts ((P,a,b)::(a,b,n)::(y,v,w)::r) v p q↔(En ts v p q\/(q,v,p)∈r)\/(p=w/\q=y):=λp q=>by
    unfold Lk;simp only[ae,bz];grind
   obtain⟨l,d⟩:=rg v w y ((C w y).mpr (.inr ⟨rfl,rfl⟩));have na:a∉l:=λz=>N (known d z);have nb:b∉l:=λz=>O (known d z);obtain⟨l1,h1,m1⟩:=d.grow' (S':=λp q=>(En ts v p q\/(q,v,p)∈r)\/(p=w/\q=a)\/(p=a/\q=y)) na C (λz=>z.elim (M y) g.2.2.1) λp q=>Iff.rfl;have ah:∀q,¬(En ts v a q\/(q,v,a)∈r):=λq z=>na ((d.mem ((C a q).mpr (.inl z))).1);have al:w≠a:=λe=>na (e ▸ (d.mem ((C w y).mpr (.inr ⟨rfl,rfl⟩))).1);obtain⟨l2,h2,_⟩:=h1.grow' (u:=a) (w:=y) (x:=b) (B:=λp q=>(En ts v p q\/(q,v,p)∈r)\/(p=w/\q=a)) (S':=Lk (ts++[(a,b,v)]) ((P,a,v)::(a,v,w)::(y,v,b)::(v,b,n)::r) v)
    (λz=>(m1 b).mp z |>.elim nb λe=>ab e.symm) (λp q=>by simp only[or_assoc]) (λz=>z.elim (ah y) λz=>al z.1.symm) λp q=>by
     rw[i];simp only[ae,bz];show Kp (show v≠a from m) (show v≠b from o)
   show⟨l2,h2⟩
  show oth v m o A (λp q=>?_) p q E;simp only[ae,bz];grind
end
end K71
end
section
namespace K71
open K31 K51 K15
theorem oV{ts:List Tri}{ah:Lps}{a b:Nat}{t:List Nat}{lt:Lt}{n x:Nat}(ha:Lets lt)(h:ay ah (a::b::t) lt n=some x) :
  (kn (ts++[(a,b,x)]) (aM ah (a::b::t) lt x)).Perm (kn ts (ah++[a::b::t])++asked (sgn lt) a b x):=by
 obtain⟨rest,h1,h2⟩:=qV (loop:=a::b::t) ∅ ha h;unfold kn;rw[r_];have h1:(wl (ah++[a::b::t])).Perm (gone (sgn lt) a b x++rest):=h1;have h2:(wl (aM ah (a::b::t) lt x)).Perm (come (sgn lt) a b x++rest):=h2;have e:([(a,b),(b,x),(x,a)]++come (sgn lt) a b x).Perm (gone (sgn lt) a b x++asked (sgn lt) a b x):=by
  unfold gone come asked;by_cases d:sgn lt=82\/sgn lt=69
  .by_cases c:sgn lt=76\/sgn lt=69
   .simp only[Nq d,Nq c];show .refl _
   simp only[Nq d,Np c];show .refl _
  by_cases c:sgn lt=76\/sgn lt=69
  .simp only[Np d,Nq c];show List.Perm.cons _ (List.Perm.swap ..)
  simp only[Np d,Np c];show List.Perm.cons _ (List.Perm.cons _ (List.Perm.swap ..))
 show (gO _ h2).trans ?_;show List.Perm.trans ?_ (eR _ (gO _ h1.symm));rw[bI,bI,bI];show gO _ ?_;rw[<-bI];show (eR _ e).trans ?_;rw[bI];show gO _ cP
theorem pC{ts:List Tri}{ah:Lps}{a b:Nat}{t:List Nat}{lt:Lt}{n x:Nat}(f:FI ts (ah++[a::b::t]))(ha:Lets lt)(h:ay ah (a::b::t) lt n=some x)(xa:x≠a)(g:x≠b)
  (ask:∀s∈asked (sgn lt) a b x,s∉kn ts (ah++[a::b::t])) (fr:sgn lt=67->∀c,(x,c)∉kn ts (ah++[a::b::t])):FI (ts++[(a,b,x)]) (aM ah (a::b::t) lt x):=by
 have i:=oV (ts:=ts) ha h;have r:(a,b)∈wl (ah++[a::b::t]):=by rw[dG,eh];show bo _ (by simp[sides,path])
 have ab:a≠b:=f.ne (bo _ r);have w:∀{p q},(p,q)∈asked (sgn lt) a b x->(q,p)∈asked (sgn lt) a b x/\p≠q:=λ{p q} d=>by
  unfold asked at d |-;rcases aw.mp d with d|d
  .split at d
   .cases d
   rename_i c;rw[Np c];simp only[ae,bq,or_false,bz] at d;rcases d with ⟨rfl,rfl⟩|⟨rfl,rfl⟩
   .exact⟨∅,λe=>g e.symm⟩
   show⟨∅,g⟩
  split at d
  .cases d
  rename_i c;rw[Np c];simp only[ae,bq,or_false,bz] at d;rcases d with ⟨rfl,rfl⟩|⟨rfl,rfl⟩
  .exact⟨∅,xa⟩
  show⟨∅,λe=>xa e.symm⟩
 show⟨i.nodup_iff.mpr (bS.mpr ⟨f.nd,?_,λs j s' y e=>ask s' y (by rw[<-e];show j)⟩),λ{p q} d=>?_,λ{p q} d=>?_,?_⟩
 .unfold asked
  split<;>split
  .simp
  .simp[xa,aG xa]
  .simp[g,aG g]
  simp only[fc,jx,aR,ae,bq,or_false,bz,not_or,not_false_eq_true,kM,and_true];lia
 .rcases aw.mp (i.mem_iff.mp d) with h|h
  .exact i.mem_iff.mpr (bM _ (f.sy h))
  show i.mem_iff.mpr (bo _ (w h).1)
 .rcases aw.mp (i.mem_iff.mp d) with h|h
  .exact f.ne h
  show (w h).2
 obtain⟨T,C,h1,h2,j⟩:=qP ha h;have am:=λ(c:Nat)=>wN (c:=c) (a:=a) (b:=b) (x:=x);intro v p q A;obtain⟨l,B⟩:=Ka f h1 ab (aG g) xa j r fr (λz=>by
  obtain⟨_,⟨m,o⟩|u⟩:=am (sgn lt)
  .exact⟨ask _ m,ask _ o⟩
  .lia) (λz=>by
  obtain⟨⟨m,o⟩|u,_⟩:=am (sgn lt)
  .exact⟨ask _ m,ask _ o⟩
  lia) v p q ((iC h2 v p q).mp A)
 show⟨l,B.congr λp q=>iC h2 v p q⟩
theorem Kq{f:Fr}{lt:Lt}{x:Nat}(ok:Ok f)(h:FI f.ts f.ls)(ha:Lets lt)(d:f.can lt=some x):FI (f.put lt x).ts (f.put lt x).ls:=by
 obtain⟨ls,ts,n⟩:=f;have i:ls≠[]:=λe=>by subst e;simp[Fr.can] at d
 obtain⟨ah,loop,rfl⟩:∃ah loop,ls=ah++[loop]:=by
  rcases qk ls with e|⟨ah,loop,e⟩
  .exact (i e).elim
  show⟨ah,loop,by rw[e,qi]⟩
 rw[ke] at d;rw[mK];have m:=ok.two loop ∅;obtain⟨t,o⟩:=two m;obtain⟨h1,h2,p,q⟩:=jK d;generalize g1 loop=a at *;generalize g2 loop=b at *;subst o;show pC h ha h1 h2 p (λs r z=>?_) λe c z=>?_
 .obtain⟨u,v⟩:=q s r;rcases aw.mp z with z|z
  .exact v z
  show u z
 have ex:x=n:=by
  rcases qU h1 with ⟨_,e⟩|⟨l,g,w⟩
  .exact e
  cases lt with
  |sg c=>
   have:c=67:=e;subst this;simp[ay] at h1;show h1.symm
  |sp j k=>cases e
 subst ex;rcases aw.mp z with z|z
 .exact fh _ (ok.bigT _ z).1
 obtain⟨l,g,hz⟩:=ia.mp z;show fh _ (ok.big l g _ (jB hz).1)
section
variable {ts:List Tri}{ah:Lps}{a b x:Nat}{t:List Nat}
theorem FI.perm{ls a:Lps}(f:FI ts ls)(h:ls.Perm a):FI ts a:=by have h1:(wl ls).Perm (wl a):=h.flatMap_right _;have h2:(tn ls).Perm (tn a):=h.flatMap_right _;have b:(kn ts ls).Perm (kn ts a):=gO _ h1;show⟨b.nodup_iff.mp f.nd,λz=>b.mem_iff.mp (f.sy (b.mem_iff.mpr z)),λz=>f.ne (b.mem_iff.mpr z),λv p q z=>?_⟩;obtain⟨l,c⟩:=f.rg v p q ((iC h2 v p q).mpr z);show⟨l,c.congr λp q=>(iC h2 v p q).symm⟩
theorem m8(f:FI ts (ah++[a::b::t]))(fr:∀c,(x,c)∉kn ts (ah++[a::b::t]))(xa:x≠a)(j:x≠b) :
  FI (ts++[(a,b,x)]) (ah++[a::x::b::t])/\∀p q,(p,q)∈kn (ts++[(a,b,x)]) (ah++[a::x::b::t])↔(p,q)∈kn ts (ah++[a::b::t])\/(p=x/\(q=a\/q=b))\/(q=x/\(p=a\/p=b)):=by
 have h:ay ah (a::b::t) (.sg 67) x=some x:=rfl;have e:aM ah (a::b::t) (.sg 67) x=ah++[a::x::b::t]:=rfl;have g:∀c,(c,x)∉kn ts (ah++[a::b::t]):=λc z=>fr c (f.sy z);have ea:asked (sgn (.sg 67)) a b x=[(b,x),(x,b),(x,a),(a,x)]:=rfl;constructor
 .have:=pC f (lt:=.sg 67) (by simp[Lets]) h xa j (λs d=>?_) λ_=>fr
  .rw[e] at this;show this
  rw[ea] at d;simp only[ae,bq,or_false] at d;rcases d with rfl|rfl|rfl|rfl
  .exact g _
  .exact fr _
  .exact fr _
  show g _
 intro p q;have i:=oV (ts:=ts) (lt:=.sg 67) (by simp[Lets]) h;rw[e,ea] at i;rw[i.mem_iff,aw];simp only[ae,bq,or_false,bz];constructor
 .rintro (z|⟨h1,h2⟩|⟨h1,h2⟩|⟨h1,h2⟩|⟨h1,h2⟩)
  .exact .inl z
  .exact .inr (.inr ⟨h2,.inr h1⟩)
  .exact .inr (.inl ⟨h1,.inr h2⟩)
  .exact .inr (.inl ⟨h1,.inl h2⟩)
  show .inr (.inr ⟨h2,.inl h1⟩)
 rintro (z|⟨h1,h2|h2⟩|⟨h1,h2|h2⟩)
 .exact .inl z
 .exact .inr (.inr (.inr (.inl ⟨h1,h2⟩)))
 .exact .inr (.inr (.inl ⟨h1,h2⟩))
 .exact .inr (.inr (.inr (.inr ⟨h2,h1⟩)))
 show .inr (.inl ⟨h2,h1⟩)
theorem pJ(f:FI ts (ah++[a::b::(t++[x])]))(g:t≠[])(xa:x≠a)(i:x≠b)(u:(b,x)∉kn ts (ah++[a::b::(t++[x])])) :
  FI (ts++[(a,b,x)]) (ah++[x::b::t])/\∀p q,(p,q)∈kn (ts++[(a,b,x)]) (ah++[x::b::t])↔(p,q)∈kn ts (ah++[a::b::(t++[x])])\/(p=x/\q=b)\/(p=b/\q=x):=by
 have j:0<t.length:=iR.mpr g;have h:ay ah (a::b::(t++[x])) (.sg 76) x=some x:=by unfold ay;dsimp only;rw[Np ⋯,Nq (.inl ⟨.inr rfl,by simp;lia⟩),Np ⋯];simp
 have e:aM ah (a::b::(t++[x])) (.sg 76) x=ah++[x::b::t]:=by change ah++[x::(b::(t++[x])).dropLast]=_;rw[<-fc,uA]
 have ea:asked (sgn (.sg 76)) a b x=[(b,x),(x,b)]:=rfl;constructor
 .have:=pC f (lt:=.sg 76) (by simp[Lets]) h xa i (λs c=>?_) λz=>by cases z
  .rw[e] at this;show this
  rw[ea] at c;simp only[ae,bq,or_false] at c;rcases c with rfl|rfl
  .exact u
  show λz=>u (f.sy z)
 intro p q;have d:=oV (ts:=ts) (lt:=.sg 76) (by simp[Lets]) h;rw[e,ea] at d;rw[d.mem_iff,aw];simp only[ae,bq,or_false,bz];constructor
 .rintro (z|z|z)
  .exact .inl z
  .exact .inr (.inr z)
  show .inr (.inl z)
 rintro (z|z|z)
 .exact .inl z
 .exact .inr (.inr z)
 show .inr (.inl z)
theorem J5(f:FI ts (ah++[[a,b,x]]))(xa:x≠a)(g:x≠b) :
  FI (ts++[(a,b,x)]) ah/\∀p q,(p,q)∈kn (ts++[(a,b,x)]) ah↔(p,q)∈kn ts (ah++[[a,b,x]]):=by
 have h:ay ah [a,b,x] (.sg 69) x=some x:=rfl;have e:aM ah [a,b,x] (.sg 69) x=ah:=rfl;have ea:asked (sgn (.sg 69)) a b x=[]:=rfl;constructor
 .have:=pC f (lt:=.sg 69) (by simp[Lets]) h xa g (λs c=>by rw[ea] at c;cases c) λz=>by cases z
  rw[e] at this;show this
 intro p q;have d:=oV (ts:=ts) (lt:=.sg 69) (by simp[Lets]) h;rw[e,ea,dh] at d;show d.mem_iff
end
abbrev Pr:=Nat×Nat
theorem EO(a b c:Nat):(ents [(a,b,c)]).Perm (ents [(c,a,b)]):=by
 simp[ents];show (List.Perm.swap _ _ _).trans (List.Perm.cons _ (List.Perm.swap _ _ _)) |>.symm.trans (by
  show (qf _)) |>.symm |>.trans (by
  show qf _) |>.symm
theorem FI.of_ents{ts a:List Tri}{ls:Lps}(f:FI ts ls)(h:(ents ts).Perm (ents a)):FI a ls:=by
 have b:(kn ts ls).Perm (kn a ls):=by unfold kn;rw[fK,fK];show eR _ (h.map _)
 have e:∀v p q,Lk a (tn ls) v p q↔Lk ts (tn ls) v p q:=λv p q=>by
  unfold Lk En;rw[h.mem_iff]
 show⟨b.nodup_iff.mp f.nd,λz=>b.mem_iff.mp (f.sy (b.mem_iff.mpr z)),λz=>f.ne (b.mem_iff.mpr z),λv p q z=>?_⟩;obtain⟨l,c⟩:=f.rg v p q ((e v p q).mp z);show⟨l,c.congr (e v)⟩
def ann:Pr->List Pr->List Tri
 |_,[]=>[]
 |y,z::s=>[(y.1,y.2,z.2),(y.1,z.2,z.1)]++ann z s
def kB:Pr->List Pr->Pr
 |y,[]=>y
 |_,z::s=>kB z s
def XF:Pr->List Nat->List Pr->List Nat
 |_,X,[]=>X
 |y,X,z::s=>XF z (y.2::X) s
def cor(y:Pr)(s:List Pr):List Nat:=(y::s).flatMap λp=>[p.1,p.2]
theorem jf{y:Pr}{s:List Pr}{c:Nat}:c∈cor y s↔∃p∈y::s,c=p.1\/c=p.2:=by unfold cor;simp only[eU,ae,bq,or_false]
theorem Ac{ah:Lps}{N:Nat}:∀(s:List Pr)(ts:List Tri)(y:Pr)(X:List Nat),X≠[]->FI ts (ah++[y.1::y.2::(X++(s.map (·.1)).reverse)])->((y::s).map (·.2)).Nodup->(∀p∈y::s,p.1<N/\N<=p.2)->
  (∀p∈s,∀c,(p.2,c)∉kn ts (ah++[y.1::y.2::(X++(s.map (·.1)).reverse)]))->
  FI (ts++ann y s) (ah++[(kB y s).1::(kB y s).2::XF y X s])/\∀p q,(p,q)∈kn (ts++ann y s) (ah++[(kB y s).1::(kB y s).2::XF y X s])->(p,q)∈kn ts (ah++[y.1::y.2::(X++(s.map (·.1)).reverse)])\/(p∈cor y s/\q∈cor y s)
 | [],ts,y,X,_,f,_,_,_=>by
  simp only[fG,List.reverse_nil,dh] at f |-;have e:ts++ann y []=ts:=by simp[ann]
  rw[e];show⟨f,λp q h=>.inl h⟩
 |z::s,ts,y,X,L,f,nd,big,fr=>by
  have hz:=big z ∅;have M:=big y ∅;simp only[az,aR,ae,not_or] at nd;have v:X++((z::s).map (·.1)).reverse=(X++(s.map (·.1)).reverse)++[z.1]:=∅;rw[v] at f fr |-;have w:(z.1,y.1)∈kn ts (ah++[y.1::y.2::((X++(s.map (·.1)).reverse)++[z.1])]):=by show bo _ ?_;rw[dG,eh];show bo _ ?_;change (z.1,y.1)∈path y.1 (y.2::((X++(s.map (·.1)).reverse)++[z.1])) y.1;rw[<-fc,eX];show bo _ (by simp[path])
  have g:z.1≠y.1:=f.ne w;obtain⟨A,d⟩:=m8 f (x:=z.2) (fr z ∅) () (λe=>nd.1.1 e.symm);have B:FI (ts++[(y.1,y.2,z.2)]) (ah++[y.1::z.2::((y.2::(X++(s.map (·.1)).reverse))++[z.1])]):=A;obtain⟨C,i⟩:=pJ B ∅ g () (λh=>by
   rcases (d _ _).mp h with h|⟨_,h|h⟩|⟨h,_⟩
   .exact fr z ∅ _ h
   .exact g h
   .lia
   lia)
  have D:∀p∈s,∀c,(p.2,c)∉kn (ts++[(y.1,y.2,z.2)]++[(y.1,z.2,z.1)]) (ah++[z.1::z.2::((y.2::X)++(s.map (·.1)).reverse)]):=λp a c h=>by
   have O:=big p (by simp[a]);have j:p.2≠z.2:=λe=>nd.2.1 (aq.mpr ⟨p,a,e⟩);have E:p.2≠y.2:=λe=>nd.1.2 (aq.mpr ⟨p,a,e⟩);rcases (i _ _).mp h with h|⟨h,_⟩|⟨h,_⟩
   .rcases (d _ _).mp h with h|⟨h,_⟩|⟨_,h|h⟩
    .exact fr p (by simp[a]) _ h
    .exact j h
    .lia
    show E h
   .lia
   show j h
  have H:FI (ts++[(y.1,y.2,z.2)]++[(y.1,z.2,z.1)]) (ah++[z.1::z.2::((y.2::X)++(s.map (·.1)).reverse)]):=C;obtain⟨l,m⟩:=Ac s _ z (y.2::X) ∅ H (by rw[az,aR];show nd.2) (λp a=>big p (aZ _ a)) D;have I:ts++[(y.1,y.2,z.2)]++[(y.1,z.2,z.1)]++ann z s=ts++ann y (z::s):=by simp[ann]
  rw[I] at l m;show⟨l,λp q h=>?_⟩;have n:∀{c},c∈cor z s->c∈cor y (z::s):=λ{c} K=>by
   obtain⟨p,a,h⟩:=jf.mp K;show jf.mpr ⟨p,aZ _ a,h⟩
  have o:y.1∈cor y (z::s):=jf.mpr ⟨y,∅,.inl rfl⟩;have r:y.2∈cor y (z::s):=jf.mpr ⟨y,∅,.inr rfl⟩;have u:z.1∈cor y (z::s):=jf.mpr ⟨z,∅,.inl rfl⟩;have b:z.2∈cor y (z::s):=jf.mpr ⟨z,∅,.inr rfl⟩;rcases m p q h with h|⟨h1,h2⟩
  .rcases (i _ _).mp h with h|⟨rfl,rfl⟩|⟨rfl,rfl⟩
   .rcases (d _ _).mp h with h|⟨rfl,rfl|rfl⟩|⟨rfl,rfl|rfl⟩
    .exact .inl h
    .exact .inr ⟨b,o⟩
    .exact .inr ⟨b,r⟩
    .exact .inr ⟨o,b⟩
    show .inr ⟨r,b⟩
   .exact .inr ⟨u,b⟩
   show .inr ⟨b,u⟩
  show .inr ⟨n h1,n h2⟩
def con(c q1:Nat):Nat->List Nat->List Tri
 |y,[]=>[(y,c,q1)]
 |y,z::s=>(y,c,z)::con c q1 z s
theorem tU{ah:Lps}{c q1:Nat}:∀(s:List Nat)(ts:List Tri)(y:Nat),FI ts (ah++[y::c::q1::s.reverse])->(y::q1::s).Nodup->c∉y::q1::s->(∀q∈s,(c,q)∉kn ts (ah++[y::c::q1::s.reverse]))->
  FI (ts++con c q1 y s) ah/\∀p q,(p,q)∈kn (ts++con c q1 y s) ah->(p,q)∈kn ts (ah++[y::c::q1::s.reverse])\/(p=c\/p∈s)/\(q=c\/q∈s)
 | [],ts,y,f,nd,a,_=>by
  simp only[aR,ae,bq,or_false,not_or] at nd a;obtain⟨d,b⟩:=J5 f (λe=>nd.1 e.symm) (λe=>a.2 e.symm);show⟨d,λp q h=>.inl ((b p q).mp h)⟩
 |z::s,ts,y,f,nd,a,un=>by
  simp only[aR,ae,not_or] at nd a;have l:(y::c::q1::(z::s).reverse)=y::c::((q1::s.reverse)++[z]):=∅;rw[l] at f un |-;obtain⟨d,b⟩:=pJ f ∅ (λe=>nd.1.2.1 e.symm) (λe=>a.2.2.1 e.symm) (un z ∅);obtain⟨g,i⟩:=tU s _ z d (by simp only[aR,ae,not_or];show⟨⟨λe=>nd.2.1.1 e.symm,nd.2.2.1⟩,nd.2.1.2,nd.2.2.2⟩) (by simp only[ae,not_or];show⟨a.2.2.1,a.2.1,a.2.2.2⟩) (λq j h=>by
   rcases (b _ _).mp h with h|⟨h,_⟩|⟨_,h⟩
   .exact un q (by simp[j]) h
   .exact a.2.2.1 h
   subst h;show nd.2.2.1 j)
  have m:ts++[(y,c,z)]++con c q1 z s=ts++con c q1 y (z::s):=by simp[con]
  rw[m] at g i;show⟨g,λp q h=>?_⟩;rcases i p q h with h|⟨h1,h2⟩
  .rcases (b _ _).mp h with h|⟨h1,h2⟩|⟨h1,h2⟩
   .exact .inl h
   .exact .inr ⟨.inr (by rw[h1];simp),.inl h2⟩
   show .inr ⟨.inl h1,.inr (by rw[h2];simp)⟩
  show .inr ⟨h1.imp_right λh=>aZ _ h,h2.imp_right λh=>aZ _ h⟩
def pp:Pr->List Pr->Pr->List (Pr×Pr)
 |u,[],w=>[(u,w)]
 |u,v::r,w=>(u,v)::pp v r w
def bp:Pr->List Pr->List (Pr×Pr)
 |_,[]=>[]
 |y,z::s=>(z,y)::bp z s
def cyc(P:List Pr):List (Pr×Pr):=match P with
 | []=>[]
 |u::r=>pp u r u
def tA(e:Pr×Pr):Tri:=(e.1.1,e.2.1,e.1.2)
def tB(e:Pr×Pr):Tri:=(e.2.1,e.2.2,e.1.2)
def tC(c:Nat)(e:Pr×Pr):Tri:=(e.1.2,e.2.2,c)
def clo(c:Nat)(P:List Pr):List Tri:=(cyc P).flatMap λe=>[tA e,tB e,tC c e]
theorem tK:∀(u:Pr)(r:List Pr)(v:Pr)(s:List Pr)(w:Pr),pp u (r++v::s) w=pp u r v++pp v s w
 |_,[],_,_,_=>rfl
 |u,x::r,v,s,w=>by
  change (u,x)::pp x (r++v::s) w=(u,x)::(pp x r v++pp v s w);rw[tK x r v s w]
theorem Av:∀(s:List Pr)(y w:Pr),(bp y (s++[w])).reverse=pp w s.reverse y
 | [],_,_=>rfl
 |z::s,y,w=>by
  change ((z,y)::bp z (s++[w])).reverse=_;rw[fH,Av s z w,fH,tK];rfl
theorem Ax:∀(s:List Pr)(y:Pr)(X:List Nat)(w:Pr),XF y X (s++[w])=((y::s).map (·.2)).reverse++X
 | [],y,X,w=>rfl
 |z::s,y,X,w=>by
  change XF z (y.2::X) (s++[w])=_;rw[Ax s z];simp
theorem xB:∀(s:List Pr)(y w:Pr),kB y (s++[w])=w
 | [],_,_=>rfl
 |z::s,_,w=>xB s z w
theorem ents_app(a b:List Tri):ents (a++b)=ents a++ents b:=by simp[ents]
def cE(e:Ent)(ts:List Tri):Nat:=(ents ts).count e
theorem dv(e:Ent)(a b:List Tri):cE e (a++b)=cE e a+cE e b:=by unfold cE;rw[ents_app,List.count_append]
theorem dQ(e:Ent)(t:Tri)(b:List Tri):cE e (t::b)=cE e [t]+cE e b:=dv e [t] b
theorem kh(e:Ent)(a b c:Nat):cE e [(a,b,c)]=cE e [(c,a,b)]:=(EO a b c).count_eq e
theorem zh(e:Ent)(c:Nat):∀Q:List (Pr×Pr),cE e (Q.flatMap λe=>[tA e,tB e,tC c e])=cE e (Q.map tA)+cE e (Q.map tB)+cE e (Q.map (tC c))
 | []=>rfl
 |q::Q=>by
  rw[qm,az,az,az,dv,zh e c Q,dQ e (tA q) (Q.map tA),dQ e (tB q) (Q.map tB),dQ e (tC c q) (Q.map _),dQ e (tA q),dQ e (tB q)];lia
theorem tj{e:Ent}{a b:List Tri}(h:a.Perm b):cE e a=cE e b:=(h.flatMap_right _).count_eq e
theorem Ab(e:Ent):∀(s:List Pr)(y:Pr),cE e (ann y s)=cE e ((bp y s).map tA)+cE e ((bp y s).map tB)
 | [],_=>rfl
 |z::s,y=>by
  change cE e ([(y.1,y.2,z.2),(y.1,z.2,z.1)]++ann z s)=cE e (tA (z,y)::(bp z s).map tA)+cE e (tB (z,y)::(bp z s).map tB);rw[dv,Ab e s z,dQ e (tA _),dQ e (tB _),dQ e (y.1,y.2,z.2),kh e y.1 z.2 z.1];change _+cE e [tA (z,y)]+_=_+_+(cE e [tB (z,y)]+_);have:cE e [(y.1,y.2,z.2)]=cE e [tB (z,y)]:=rfl;lia
theorem Aa(e:Ent)(c:Nat)(w:Pr):∀(s:List Pr)(y:Pr),cE e (con c w.2 y.2 (s.map (·.2)))=cE e ((bp y (s++[w])).map (tC c))
 | [],y=>by
  change cE e [(y.2,c,w.2)]=cE e [tC c (w,y)];rw[kh];rfl
 |z::s,y=>by
  change cE e ((y.2,c,z.2)::con c w.2 z.2 (s.map (·.2)))=cE e (tC c (z,y)::(bp z (s++[w])).map (tC c));rw[dQ,Aa e c w s z,dQ e (tC c _),kh];rfl
theorem close1{ts:List Tri}{ah:Lps}{b d y:Pr}{R:List Pr}{c N:Nat}(f:FI ts (ah++[(b::d::(R++[y])).map (·.1)]))(nd:((b::d::(R++[y])).map (·.2)).Nodup)(big:∀p∈b::d::(R++[y]),p.1<N/\N<=p.2)(Z:∀p∈b::d::(R++[y]),p.2≠c)(an:N<=c)
  (old:∀p q,(p,q)∈kn ts (ah++[(b::d::(R++[y])).map (·.1)])->p<N) :
  FI (ts++clo c (b::d::(R++[y]))) ah/\∀p q,(p,q)∈kn (ts++clo c (b::d::(R++[y]))) ah->(p<N\/p=c\/∃r∈b::d::(R++[y]),p=r.2):=by
 have b0:=big b ∅;have A:=big d ∅;have B:=big y ∅
 have ad:=nd;simp only[az,aX,fG,aR,bS,ae,aw,bq,or_false,not_or] at nd;obtain⟨⟨s,C,n⟩,⟨O,u⟩,al,_,P⟩:=nd;have wy:(y.1,b.1)∈kn ts (ah++[(b::d::(R++[y])).map (·.1)]):=by show bo _ ?_;rw[dG,eh];show bo _ ?_;change (y.1,b.1)∈path b.1 ((d::(R++[y])).map (·.1)) b.1;rw[show (d::(R++[y])).map (·.1)=(d::R).map (·.1)++y.1::[] by simp,eX];show bo _ (by simp[path])
 have Q:y.1≠b.1:=f.ne wy;have f0:FI ts (ah++[b.1::d.1::(R++[y]).map (·.1)]):=f;obtain⟨f1,D⟩:=m8 f0 (x:=b.2) (λq h=>by have:=old _ _ h;lia) () ();obtain⟨S,E⟩:=m8 f1 (x:=y.2) (λq h=>by
  rcases (D _ _).mp h with h|⟨h,_⟩|⟨_,h|h⟩
  .have:=old _ _ h;lia
  .exact n h.symm
  .lia
  lia) () (λe=>n e.symm)
 have e2:b.1::y.2::b.2::d.1::(R++[y]).map (·.1)=b.1::y.2::((b.2::d.1::R.map (·.1))++[y.1]):=∅;rw[e2] at S E;obtain⟨T,U⟩:=pJ S ∅ Q () (λh=>by
  rcases (E _ _).mp h with h|⟨_,h|h⟩|⟨h,_⟩
  .rcases (D _ _).mp h with h|⟨h,_⟩|⟨_,h|h⟩
   .have:=old _ _ h;lia
   .exact n h.symm
   .lia
   lia
  .exact Q h
  .lia
  lia)
 have e3:y.1::y.2::b.2::d.1::R.map (·.1)=y.1::y.2::([b.2]++((R.reverse++[d]).map (·.1)).reverse):=∅;rw[e3] at T U;have v:∀{p q},(p,q)∈kn (ts++[(b.1,d.1,b.2)]++[(b.1,b.2,y.2)]++[(b.1,y.2,y.1)]) (ah++[y.1::y.2::([b.2]++((R.reverse++[d]).map (·.1)).reverse)])->p<N\/p=b.2\/p=y.2:=λ{p q} h=>by
  rcases (U _ _).mp h with h|⟨rfl,_⟩|⟨rfl,_⟩
  .rcases (E _ _).mp h with h|⟨rfl,_⟩|⟨_,rfl|rfl⟩
   .rcases (D _ _).mp h with h|⟨rfl,_⟩|⟨_,rfl|rfl⟩
    .exact .inl (old _ _ h)
    .exact .inr (.inl rfl)
    .exact .inl b0.1
    show .inl A.1
   .exact .inr (.inr rfl)
   .exact .inl b0.1
   show .inr (.inl rfl)
  .exact .inl B.1
  show .inr (.inr rfl)
 have ms:∀p,p∈R.reverse++[d]↔p∈R\/p=d:=λp=>∅;obtain⟨H,w⟩:=Ac (N:=N) (R.reverse++[d]) _ y [b.2] ∅ T (by
   rw[az,aR,aX,bS,uH];show⟨λh=>?_,(kN _).nodup_iff.mpr al,∅,λp i q j e=>?_⟩
   .rcases aw.mp h with h|h
    .exact P _ (gP.mp h) _ rfl rfl
    show u (aL.mp h).symm
   .rw[aL.mp j] at e;rw[e] at i;show O (gP.mp i)) (λp i=>by
   rcases ae.mp i with rfl|i
   .exact B
   .rcases (ms p).mp i with h|rfl
    .exact big p (by simp[h])
    show A) (λp i q h=>by
   rcases (ms p).mp i with m|rfl
   .have bp:=big p (by simp[m]);rcases v h with h|h|h
    .lia
    .exact C (aq.mpr ⟨p,m,h⟩)
    show P _ (aq.mpr ⟨p,m,h⟩) _ rfl rfl
   rcases v h with h|h|h
   .lia
   .exact s h.symm
   show u h)
 rw[xB,Ax] at H w;have e4:((y::R.reverse).map (·.2)).reverse++[b.2]=(R++[y]).map (·.2)++[b.2]:=∅;rw[e4] at H w;have X:∀{q},q∈cor y (R.reverse++[d])->q<N\/q=y.2\/q=d.2\/∃r∈R,q=r.2:=λ{q} h=>by
  obtain⟨p,i,o⟩:=jf.mp h;rcases ae.mp i with e|i
  .rw[e] at o;show o.elim (λz=>.inl (by rw[z];show B.1)) λz=>.inr (.inl z)
  rcases (ms p).mp i with m|e
  .exact o.elim (λz=>.inl (by rw[z];show (big p (by simp[m])).1)) λz=>.inr (.inr (.inr ⟨p,m,z⟩))
  rw[e] at o;show o.elim (λz=>.inl (by rw[z];show A.1)) λz=>.inr (.inr (.inl z))
 obtain⟨f5,k5⟩:=pJ H ∅ () s (λh=>by
  rcases w _ _ h with h|⟨_,h⟩
  .rcases v h with h|h|h
   .lia
   .exact s h.symm
   show u h
  rcases X h with h|h|h|⟨r,g,h⟩
  .lia
  .exact n h
  .exact s h
  show C (aq.mpr ⟨r,g,h.symm⟩))
 have I:∀{p q},(p,q)∈kn _ (ah++[b.2::d.2::(R++[y]).map (·.2)])->p<N\/∃r∈b::d::(R++[y]),p=r.2:=λ{p q} h=>by
  rcases (k5 p q).mp h with h|⟨rfl,_⟩|⟨rfl,_⟩
  .rcases w _ _ h with h|⟨h,_⟩
   .rcases v h with h|h|h
    .exact .inl h
    .exact .inr ⟨b,∅,h⟩
    show .inr ⟨y,∅,h⟩
   rcases X h with h|h|h|⟨r,g,h⟩
   .exact .inl h
   .exact .inr ⟨y,∅,h⟩
   .exact .inr ⟨d,∅,h⟩
   show .inr ⟨r,by simp[g],h⟩
  .exact .inr ⟨b,∅,rfl⟩
  show .inr ⟨d,∅,rfl⟩
 have l:∀r∈b::d::(R++[y]),c≠r.2:=λr g e=>Z r g e.symm;obtain⟨Y,K⟩:=m8 f5 (x:=c) (λq h=>by
  rcases I h with h|⟨r,g,h⟩
  .lia
  show l r g h) (l b ∅) (l d ∅)
 have L:(R++[y]).map (·.2)=(((R++[y]).reverse).map (·.2)).reverse:=by rw[uH,qy]
 rw[L] at Y K;obtain⟨f7,k7⟩:=tU (c:=c) (q1:=d.2) (((R++[y]).reverse).map (·.2)) _ b.2 Y (by
   show (List.Perm.cons _ (List.Perm.cons _ ((kN _).map _))).nodup_iff.mpr ad) (by
   simp only[ae,not_or,uH,gP];show⟨l b ∅,l d ∅,λh=>?_⟩;obtain⟨r,g,h⟩:=aq.mp h;show l r (aZ _ (aZ _ g)) h.symm) (λq j h=>by
   simp only[uH,gP] at j;obtain⟨r,g,rfl⟩:=aq.mp j;rcases (K _ _).mp h with h|⟨_,h⟩|⟨h,_⟩
   .rw[<-L] at h;rcases I h with h|⟨r,g,h⟩
    .lia
    show l r g h
   .simp only[aX,aw,az,fG,ae,bq,or_false] at j;rcases h with h|h
    .rw[h] at j;show j.elim C n
    rw[h] at j;show j.elim O u
   show l r (aZ _ (aZ _ g)) h.symm)
 have pe:(ents (ts++[(b.1,d.1,b.2)]++[(b.1,b.2,y.2)]++[(b.1,y.2,y.1)]++ann y (R.reverse++[d])++[(d.1,d.2,b.2)]++[(b.2,d.2,c)]++con c d.2 b.2 (((R++[y]).reverse).map (·.2)))).Perm (ents (ts++clo c (b::d::(R++[y])))):=by
  rw[Lh];intro e;change cE e _=cE e _;have ec:cyc (b::d::(R++[y]))=(b,d)::(pp d R y++[(y,b)]):=by change (b,d)::pp d (R++y::[]) b=_;rw[tK];rfl
  have M:(pp d R y).Perm (bp y (R.reverse++[d])):=by have:=Av R.reverse y d;rw[qy] at this;rw[<-this];show kN _
  have hA:=tj (e:=e) (M.map tA);have hB:=tj (e:=e) (M.map tB);have hC:=tj (e:=e) (M.map (tC c));have am:cE e (con c d.2 b.2 (((R++[y]).reverse).map (·.2)))=cE e [tC c (y,b)]+cE e ((bp y (R.reverse++[d])).map (tC c)):=by rw[show (R++[y]).reverse=y::R.reverse by simp,Aa e c d (y::R.reverse) b,<-dQ];rfl
  rw[clo,dv e ts,zh,ec];simp only[az,aX,fG];rw[dQ e (tA _),dQ e (tB _),dQ e (tC c _),dv e ((pp d R y).map tA),dv e ((pp d R y).map tB),dv e ((pp d R y).map (tC c)),hA,hB,hC];rw[dv,dv,dv,dv,dv,dv,dv,am,Ab,kh e b.1 y.2 y.1];have r1:cE e [(b.1,d.1,b.2)]=cE e [tA (b,d)]:=rfl;have r2:cE e [(b.1,b.2,y.2)]=cE e [tB (y,b)]:=rfl;have r3:cE e [(y.1,b.1,y.2)]=cE e [tA (y,b)]:=rfl;have r4:cE e [(d.1,d.2,b.2)]=cE e [tB (b,d)]:=rfl;have r5:cE e [(b.2,d.2,c)]=cE e [tC c (b,d)]:=rfl;lia
 show⟨f7.of_ents pe,λp q h=>?_⟩;have kp:=(eR (wl ah) (pe.map (·.1)));unfold kn at h;rw[fK] at h;have h':=(kp.mem_iff (a:=(p,q))).mpr h;rcases k7 p q (by unfold kn;rw[fK];show h') with h|⟨h,_⟩
 .rcases (K _ _).mp h with h|⟨h,_⟩|⟨_,h|h⟩
  .rw[<-L] at h;rcases I h with h|h
   .exact .inl h
   show .inr (.inr h)
  .exact .inr (.inl h)
  .exact .inr (.inr ⟨b,∅,h⟩)
  show .inr (.inr ⟨d,∅,h⟩)
 rcases h with h|h
 .exact .inr (.inl h)
 obtain⟨r,g,h⟩:=aq.mp h;show .inr (.inr ⟨r,aZ _ (aZ _ (gP.mp g)),h.symm⟩)
section
variable {E:Nat->Nat->Nat->Prop}{a0 b0:Nat}{ds:List Tri}{T:List Tn}{a b x p0 n0:Nat}
theorem WI.same'{p v n n':Nat}(h:WI E a0 b0 ds T)(h1:(p,v,n)∈T)(h2:(p,v,n')∈T):n=n':=by
 have key:∀{T:List Tn},(T.map λt=>(t.1,t.2.1)).Nodup->(p,v,n)∈T->(p,v,n')∈T->n=n':=by
  intro T;induction T with
  |nil=>intro _ h;cases h
  |cons t T c=>
   intro nd h1 h2;rw[az,aR] at nd;rcases ae.mp h1 with b|h1
   .rcases ae.mp h2 with a|h2
    .rw[<-b] at a;cases a;rfl
    show (nd.1 (aq.mpr ⟨_,h2,by rw[<-b]⟩)).elim
   rcases ae.mp h2 with a|h2
   .exact (nd.1 (aq.mpr ⟨_,h1,by rw[<-a]⟩)).elim
   show c nd.2 h1 h2
 show key (h.pe.nodup_iff.mpr h.nd) h1 h2
namespace Gate
variable (g:Gate E a0 b0 ds T a b x p0 n0)
include g
theorem first(hd:ds=[]):p0=b/\n0=a/\∀t∈T,t=(p0,a,b)\/t=(a,b,n0):=by
 have c:=g.w.st hd;have h1:=c.mem_iff.mp g.ga;have h2:=c.mem_iff.mp g.gb;have ab:=g.ab;have key:∀t∈T,t=(b0,a0,b0)\/t=(a0,b0,a0):=λt d=>‹c.mem_iff.mp d›
 simp only[ae,bq,or_false] at h1 h2;rcases h1 with h1|h1
 .cases h1;rcases h2 with h2|h2
  .cases h2;show (ab rfl).elim
  cases h2;show⟨rfl,rfl,key⟩
 cases h1;rcases h2 with h2|h2
 .cases h2;show⟨rfl,rfl,λt d=>(key t d).symm⟩
 cases h2;show (ab rfl).elim
theorem new(C:∀p q,¬En ds x p q){j:List Tn}(nd:(j.map (·.2)).Nodup)(pe:(j.map λt=>(t.1,t.2.1)).Perm (j.map (·.2)))
  (mem:∀t,t∈j↔(t∈T/\t≠(p0,a,b)/\t≠(a,b,n0))\/t=(p0,a,x)\/t=(a,x,b)\/t=(x,b,n0)):WI E a0 b0 (ds++[(a,b,x)]) j:=by
 have u:∀q,¬Dn ds x q:=λq ⟨c,h⟩=>C q c h;have D:∀q,¬Dn ds q x:=λq ⟨c,h⟩=>C c q (cQ h);have y:∀p n,(p,x,n)∉T:=λp n h=>by
  by_cases hd:ds=[]
  .rcases (g.first hd).2.2 _ h with e|e
   .cases e;show g.xa rfl
   cases e;show g.bx rfl
  show D _ ((g.w.ed h).2.2.resolve_left hd)
 have H:n0≠x:=λe=>by
  by_cases hd:ds=[]
  .rw[(g.first hd).2.1] at e;show g.xa e.symm
  have I:=g.gb;rw[e] at I;show u _ ((g.w.ed I).2.2.resolve_left hd)
 have P:p0≠x:=λe=>by
  obtain⟨o,K⟩:=g.w.prev g.ga;rw[e] at K;show y _ _ K
 have ne:ds=[]->∀t,t∈T->¬(t≠(p0,a,b)/\t≠(a,b,n0)):=λhd t f z=>((g.first hd).2.2 t f).elim z.1 z.2;show⟨g.sub',g.gd',nd,pe,?_,?_,?_,λe=>by simp at e⟩
 .intro p v n f;rcases (mem _).mp f with ⟨f,h1,h2⟩|e|e|e
  .have hd:ds≠[]:=λhd=>ne hd _ f ⟨h1,h2⟩;obtain⟨c,d,e⟩:=g.w.ed f;show⟨c,λz=>?_,.inr (ck.mpr (.inl (e.resolve_left hd)))⟩;rcases ck.mp z with z|⟨rfl,rfl⟩|⟨rfl,rfl⟩|⟨rfl,rfl⟩
   .exact d z
   .exact h1 (by rw[g.w.same f g.ga])
   .exact u _ (e.resolve_left hd)
   show y _ _ f
  .cases e;obtain⟨d,B⟩:=g.k.cl g.ea;show⟨⟨d,B⟩,λz=>?_,.inr (ck.mpr (.inr (.inr (.inr ⟨rfl,rfl⟩))))⟩;rcases ck.mp z with z|z|z|z
   .exact D _ z
   .exact g.bx z.2.symm
   .exact g.ab z.1
   show g.xa z.1.symm
  .cases e;obtain⟨d,B⟩:=g.k.cl g.eb;show⟨⟨d,B⟩,λz=>?_,.inr (ck.mpr (.inr (.inr (.inl ⟨rfl,rfl⟩))))⟩;rcases ck.mp z with z|z|z|z
   .exact u _ z
   .exact g.xa z.1
   .exact g.bx z.1.symm
   show g.ab z.2.symm
  cases e;obtain⟨c,d,e⟩:=g.w.ed g.gb;show⟨c,λz=>?_,.inr ?_⟩
  .rcases ck.mp z with z|z|z|z
   .exact d z
   .exact g.ab z.1.symm
   .exact H z.2
   show g.bx z.1
  rcases e with e|e
  .rw[(g.first e).2.1];show ck.mpr (.inr (.inl ⟨rfl,rfl⟩))
  show ck.mpr (.inl e)
 .intro v n c he h1 h2;have L:¬Dn ds v n:=λz=>h1 (ck.mpr (.inl z));rcases ck.mp h2 with h2|⟨rfl,rfl⟩|⟨rfl,rfl⟩|⟨rfl,rfl⟩
  .obtain⟨p,Q⟩:=g.w.al he L h2;by_cases M:(p,v,n)=(p0,a,b)
   .cases M;show (h1 (ck.mpr (.inr (.inl ⟨rfl,rfl⟩)))).elim
   by_cases N:(p,v,n)=(a,b,n0)
   .cases N;show⟨x,(mem _).mpr (.inr (.inr (.inr rfl)))⟩
   show⟨p,(mem _).mpr (.inl ⟨Q,M,N⟩)⟩
  .by_cases hd:ds=[]
   .have:=(g.first hd).2.1;subst this;show⟨x,(mem _).mpr (.inr (.inr (.inr rfl)))⟩
   show (L ((g.w.ed g.ga).2.2.resolve_left hd)).elim
  .exact⟨a,(mem _).mpr (.inr (.inr (.inl rfl)))⟩
  show⟨p0,(mem _).mpr (.inr (.inl rfl))⟩
 intro p v n f;rcases (mem _).mp f with ⟨f,h1,h2⟩|e|e|e
 .have hd:ds≠[]:=λhd=>ne hd _ f ⟨h1,h2⟩;show g.other (.inl y) hd f (λe=>?_) (λe=>?_) λS U R _ _=>y _ _ R
  .cases e;show h1 (by rw[g.w.same f g.ga])
  cases e;show h2 (by rw[g.w.same f g.gb])
 .cases e;show g.gapA.resolve_left λe=>P e.symm
 .cases e;obtain⟨l,O⟩:=g.k.rg g.ea;obtain⟨r,A⟩:=O.at (O.mem g.ea).1;have m:=(A.2 a b).mp g.ea;have h2:∃i,r=b::i:=by
   cases r with
   |nil=>
    simp[sides,path] at m;show (g.ab m.symm).elim
   |cons c i=>
    have:E x a c:=(A.2 a c).mpr (by simp[sides,path]);have e:=g.k.sk.one this g.ea;subst e;show⟨i,rfl⟩
  obtain⟨i,rfl⟩:=h2;have nd:=A.1;rw[aR] at nd;show⟨i,nd.2,λs m=>⟨(A.2 s.1 s.2).mpr (aZ _ m),λz=>?_⟩⟩;rcases ck.mp z with z|z|z|z
  .exact u _ z
  .exact g.xa z.1
  .exact g.bx z.1.symm
  have:=ae.mpr (iA b i a s m).1;rw[z.2] at this;show nd.1 this
 cases e;obtain⟨_,_,_,h⟩:=g.gapB;show h.resolve_left H
theorem back(Y:∃p q,En ds x p q):ds≠[]/\∃(rs:List Nat)(y z:Nat)(l:List Nat),rs[0]?=some a/\rs[rs.length-1]?=some z/\(∀i p q,rs[i]?=some p->rs[i+1]?=some q->E p x q)/\(∀i p,i+1<rs.length->rs[i]?=some p->∀o,(o,x,p)∉T)/\(y,x,z)∈T/\cX (Ud E ds x) z y l/\a∈z::l:=by
 obtain⟨u,w,n⟩:=Y;have hd:ds≠[]:=λe=>by rw[e] at n;cases n
 show⟨hd,?_⟩;obtain⟨l0,S⟩:=g.k.rg g.ea;obtain⟨r,U⟩:=S.at (S.mem (g.w.sub n)).2;have ha:a∈w::r:=(U.mem g.ea).1;have Z:Dn ds w x:=⟨u,cQ (cQ n)⟩;have key:∀(i c:Nat),(w::r)[i]?=some c->¬Dn ds x c->∃(rs:List Nat)(z:Nat),rs[0]?=some c/\rs[rs.length-1]?=some z/\(∀i p q,rs[i]?=some p->rs[i+1]?=some q->E p x q)/\(∀i p,i+1<rs.length->rs[i]?=some p->¬Dn ds p x)/\Dn ds z x/\¬Dn ds x z/\(∃f,E x z f)/\
   ∀l y,cX (Ud E ds x) z y l->Dn ds x y->c∈z::l:=by
  intro i;induction i with
  |zero=>
   intro c e v;have e:w=c:=‹e›
   subst e;obtain⟨f,C⟩:∃f,E x w f:=by obtain⟨d,hd⟩:=g.k.cl (g.k.sk.rot (g.k.sk.rot (g.w.sub n)));show⟨d,hd⟩
   show⟨[w],w,rfl,rfl,λi p q _ h=>by simp at h,λi p h=>by simp at h,Z,v,⟨f,C⟩,λl y _ _=>∅⟩
  |succ i ih=>
   intro c e v;have hi:=(aI.mp e).1;have D:(w::r)[i]?=some ((w::r)[i]'()):=aP _;generalize (w::r)[i]'()=o at D;have A:E x o c:=(U.2 o c).mpr (sV w r w i o c D e);by_cases H:Dn ds c x
   .obtain⟨f,C⟩:∃f,E x c f:=g.k.cl (g.k.sk.rot (g.k.sk.rot A));show⟨[c],c,rfl,rfl,λi p q _ h=>by simp at h,λi p h=>by simp at h,H,v,⟨f,C⟩,λl y _ _=>∅⟩
   have s:¬Dn ds x o:=λ⟨d,h⟩=>by
    have e:=g.k.sk.one (g.w.sub h) A;subst e;show H ⟨o,cQ (cQ h)⟩
   obtain⟨rs,z,h1,h2,I,K,L,M,N,O⟩:=ih o D s;have P:=(aI.mp h1).1;show⟨c::rs,z,rfl,?_,?_,?_,L,M,N,λl y X m=>?_⟩
   .rw[aS,show rs.length+1-1=(rs.length-1)+1 by lia,fe];show h2
   .intro j p q b B;cases j with
    |zero=>
     have b:c=p:=‹b›
     subst b;rw[fe,h1] at B;cases B;show g.k.sk.rot (g.k.sk.rot A)
    |succ j=>
     rw[fe] at b B;show I j p q b B
   .intro j p Q b;cases j with
    |zero=>
     have b:c=p:=‹b›
     subst b;show H
    |succ j=>
     rw[fe] at b;show K j p (by simp at Q;lia) b
   obtain⟨t,ut,R⟩:=X.next (O l y X m);have et:t=c:=g.k.sk.one ut.1 A;subst et;rcases R with e|R
   .subst e;show (v m).elim
   show R
 obtain⟨i,hi⟩:=dn.mp ha;obtain⟨rs,z,h1,h2,I,K,L,M,⟨f,N⟩,O⟩:=key i a hi g.nxa;obtain⟨y,m⟩:=g.w.al N M L;obtain⟨l,P⟩:=g.w.gp m;show⟨rs,y,z,l,h1,h2,I,λj p Q b o s=>K j p Q b ((g.w.ed s).2.2.resolve_left hd),m,P,O l y P ?_⟩;obtain⟨o,s⟩:=g.w.prev m;show (g.w.ed s).2.2.resolve_left hd
end Gate
end
end K71
end
section
namespace K71
open K31 K51 K15
section
variable {E:Nat->Nat->Nat->Prop}{a0 b0:Nat}{ds:List Tri}{T:List Tn}{a b x p0 n0:Nat}
theorem Ap{T:List Tn}(h:(T.map (·.2)).Nodup):T.Nodup:=(ff.mp h).imp λh e=>h (by rw[e])
namespace Gate
variable (g:Gate E a0 b0 ds T a b x p0 n0)
include g
theorem zA(hd:ds≠[]){y z:Nat}{l:List Nat}(hz:(y,x,z)∈T)(c:cX (Ud E ds x) z y l)(ha:a∈z::l):z=a↔p0=x:=by
 show⟨λe=>by subst e;show g.wantA hd hz,λe=>?_⟩;obtain⟨o,b⟩:=g.w.prev g.ga;rw[e] at b;rcases ae.mp ha with e|ha
 .exact e.symm
 obtain⟨o',h1,_⟩:=jE z l y a ha;show (kq g.k.sk g.w.sub ((g.w.ed b).2.2.resolve_left hd) _ (c.st _ h1)).elim
theorem yB(hd:ds≠[]){y z:Nat}{l:List Nat}(hz:(y,x,z)∈T)(d:cX (Ud E ds x) z y l)(ha:a∈z::l):y=b↔n0=x:=by
 show⟨λe=>?_,λe=>?_⟩
 .obtain⟨o,f⟩:=g.w.prev hz;rw[e] at f;show g.wantB hd f
 have h:=g.gb;rw[e] at h;obtain⟨t,u,c⟩:=d.next ha;have i:t=b:=g.k.sk.one u.1 g.ea;subst i;rcases c with e|c
 .exact e.symm
 obtain⟨t',j,_⟩:=d.next c;show (j.2 ((g.w.ed h).2.2.resolve_left hd)).elim
theorem newA(hd:ds≠[])(o:Nat):(o,a,x)∉T:=λh=>g.nxa ((g.w.ed h).2.2.resolve_left hd)
theorem newB(hd:ds≠[])(o:Nat):(o,x,b)∉T:=λh=>g.nbx ((g.w.ed h).2.2.resolve_left hd)
theorem ts_old(hd:ds≠[]){y z:Nat}{l:List Nat}(hz:(y,x,z)∈T)(B:cX (Ud E ds x) z y l)(ha:a∈z::l){s w:Nat}{I:List Tn}(ts:TS a b x s w T I)(pe:(I.map λt=>(t.1,t.2.1)).Perm (I.map (·.2)))
  (O:s≠67) (P:s=82->z≠a) (Q:s=76->n0≠x) (R:s=83->w=z/\z≠a/\n0≠x):WI E a0 b0 (ds++[(a,b,x)]) I:=by
 have zA:=g.zA hd hz B ha;have yB:=g.yB hd hz B ha;have M:=g.newA hd;have L:=g.newB hd;have ab:=g.ab;have bx:=g.bx;have xa:=g.xa;have nd:=g.w.nd;have d:=Ap nd;have ga:=g.ga;have gb:=g.gb;have sm:=λ{p p' v n:Nat}=>g.w.same (p:=p) (p':=p') (v:=v) (n:=n);have C:=λ{p v n n':Nat}=>g.w.same' (p:=p) (v:=v) (n:=n) (n':=n');cases ts with
 |c=>show (O rfl).elim
 |r _ p N r=>
  have f:p=p0:=sm ∅ ga;have i:x=n0:=C (p:=a) (v:=b) ∅ gb;have j:y=b:=yB.mpr i.symm;have m:=hz;rw[j] at m;have q:N=z:=C (p:=b) (v:=x) ∅ m;clear m;subst f q j;have D:p≠x:=λe=>P rfl (zA.mpr e);simp only[az,aR,ae,not_or] at nd;simp only[aR,ae,not_or] at d;show g.old hd hz B ha ?_ pe λt=>?_
  .simp only[az,aR,ae,not_or];show⟨⟨λe=>xa (dz e).1.symm,λe=>?_⟩,nd.2.2.1,nd.2.2.2⟩;obtain⟨⟨o,u,v⟩,h1,h2⟩:=aq.mp e;cases h2;show M o (by simp[h1])
  simp only[ae];constructor
  .rintro (h|h|h)
   .exact .inr (.inl ⟨D,h⟩)
   .exact .inr (.inr (.inr (.inl ⟨D,h⟩)))
   show .inl ⟨.inr (.inr (.inr h)),λe=>?_,λe=>?_,λe=>?_⟩
   .rw[e] at h;show d.1.2.2 h
   .rw[<-i] at e;rw[e] at h;show d.2.1.2 h
   rw[e] at h;show d.2.2.1 h
  rintro (⟨h|h|h|h,h1,h2,A⟩|⟨_,h⟩|⟨h,_⟩|⟨_,h⟩|⟨h,_⟩)
  .exact (h1 h).elim
  .rw[i] at h;show (h2 h).elim
  .exact (A h).elim
  .exact .inr (.inr h)
  .exact .inl h
  .exact (h i.symm).elim
  .exact .inr (.inl h)
  show (h i.symm).elim
 |l _ n K r=>
  have f:x=p0:=sm ∅ ga;have i:n=n0:=C (p:=a) (v:=b) ∅ gb;have j:z=a:=zA.mpr f.symm;have m:=hz;rw[j] at m;have q:K=y:=sm (v:=x) (n:=a) ∅ m;clear m;subst i q j;have H:=Q rfl;simp only[az,aR,ae,not_or] at nd;simp only[aR,ae,not_or] at d;show g.old hd hz B ha ?_ pe λt=>?_
  .simp only[az,aR,ae,not_or];show⟨⟨λe=>bx (dz e).1.symm,λe=>?_⟩,nd.2.1.2,nd.2.2.2⟩;obtain⟨⟨o,u,v⟩,h1,h2⟩:=aq.mp e;cases h2;show L o (by simp[h1])
  simp only[ae];constructor
  .rintro (h|h|h)
   .exact .inr (.inr (.inr (.inr ⟨H,h⟩)))
   .exact .inr (.inr (.inl ⟨H,h⟩))
   show .inl ⟨.inr (.inr (.inr h)),λe=>?_,λe=>?_,λe=>?_⟩
   .rw[<-f] at e;rw[e] at h;show d.1.2.2 h
   .rw[e] at h;show d.2.1.2 h
   rw[e] at h;show d.2.2.1 h
  rintro (⟨h|h|h|h,h1,h2,A⟩|⟨h,_⟩|⟨_,h⟩|⟨h,_⟩|⟨_,h⟩)
  .rw[f] at h;show (h1 h).elim
  .exact (h2 h).elim
  .exact (A h).elim
  .exact .inr (.inr h)
  .exact (h f.symm).elim
  .exact .inr (.inl h)
  .exact (h f.symm).elim
  show .inl h
 |e _ r=>
  have f:x=p0:=sm ∅ ga;have i:x=n0:=C (p:=a) (v:=b) ∅ gb;have j:z=a:=zA.mpr f.symm;have q:y=b:=yB.mpr i.symm;subst j q;simp only[az,aR,ae,not_or] at nd;simp only[aR,ae,not_or] at d;show g.old hd hz B ha nd.2.2.2 pe λt=>?_;simp only[ae];constructor
  .intro h;show .inl ⟨.inr (.inr (.inr h)),λe=>?_,λe=>?_,λe=>?_⟩
   .rw[<-f] at e;rw[e] at h;show d.1.2.2 h
   .rw[<-i] at e;rw[e] at h;show d.2.1.2 h
   rw[e] at h;show d.2.2.1 h
  rintro (⟨h|h|h|h,h1,h2,A⟩|⟨h,_⟩|⟨h,_⟩|⟨h,_⟩|⟨h,_⟩)
  .rw[f] at h;show (h1 h).elim
  .rw[i] at h;show (h2 h).elim
  .exact (A h).elim
  .exact h
  .exact (h f.symm).elim
  .exact (h i.symm).elim
  .exact (h f.symm).elim
  show (h i.symm).elim
 |s p n K N r=>
  obtain⟨S,U,H⟩:=R rfl;have f:p=p0:=sm ∅ ga;have i:n=n0:=C (p:=a) (v:=b) ∅ gb;subst S;have q:K=y:=sm (v:=x) (n:=w) ∅ hz;subst f i q;have D:p≠x:=λe=>U (zA.mpr e);simp only[az,aR,ae,not_or] at nd;simp only[aR,ae,not_or] at d;show g.old hd hz B ha ?_ pe λt=>?_
  .simp only[az,aR,ae,not_or];show⟨⟨λe=>xa (dz e).1.symm,λe=>xa (dz e).1.symm,λe=>ab (dz e).1,λe=>?_⟩,⟨λe=>?_,λe=>bx (dz e).1.symm,nd.2.2.1⟩,⟨λe=>bx (dz e).1.symm,λe=>?_⟩,nd.2.1.2,nd.2.2.2⟩
   .obtain⟨⟨o,u,v⟩,h1,h2⟩:=aq.mp e;cases h2;show M o (by simp[h1])
   .have X:w=b:=(dz e).2;subst X;show L K hz
   obtain⟨⟨o,u,v⟩,h1,h2⟩:=aq.mp e;cases h2;show L o (by simp[h1])
  simp only[ae];constructor
  .rintro (h|h|h|h|h)
   .exact .inr (.inl ⟨D,h⟩)
   .exact .inr (.inr (.inr (.inl ⟨D,h⟩)))
   .exact .inr (.inr (.inr (.inr ⟨H,h⟩)))
   .exact .inr (.inr (.inl ⟨H,h⟩))
   show .inl ⟨.inr (.inr (.inr h)),λe=>?_,λe=>?_,λe=>?_⟩
   .rw[e] at h;show d.1.2.2 h
   .rw[e] at h;show d.2.1.2 h
   rw[e] at h;show d.2.2.1 h
  rintro (⟨h|h|h|h,h1,h2,A⟩|⟨_,h⟩|⟨_,h⟩|⟨_,h⟩|⟨_,h⟩)
  .exact (h1 h).elim
  .exact (h2 h).elim
  .exact (A h).elim
  .exact .inr (.inr (.inr (.inr h)))
  .exact .inl h
  .exact .inr (.inr (.inr (.inl h)))
  .exact .inr (.inl h)
  show .inr (.inr (.inl h))
theorem ts_new(i:∀p q,¬En ds x p q){w:Nat}{f:List Tn}(ts:TS a b x 67 w T f)(pe:(f.map λt=>(t.1,t.2.1)).Perm (f.map (·.2))):WI E a0 b0 (ds++[(a,b,x)]) f:=by
 have nd:=g.w.nd;have d:=Ap nd;have ga:=g.ga;have gb:=g.gb;have ab:=g.ab;have bx:=g.bx;have xa:=g.xa;have j:∀q,¬Dn ds q x:=λq ⟨c,h⟩=>i c q (cQ h);have l:∀q,¬Dn ds x q:=λq ⟨c,h⟩=>i q c h;have sm:=λ{p p' v n:Nat}=>g.w.same (p:=p) (p':=p') (v:=v) (n:=n);have m:=λ{p v n n':Nat}=>g.w.same' (p:=p) (v:=v) (n:=n) (n':=n');cases ts with
 |c _ p n r=>
  have s:p=p0:=sm ∅ ga;have y:n=n0:=m (p:=a) (v:=b) ∅ gb;subst s y;simp only[az,aR,ae,not_or] at nd;simp only[aR,ae,not_or] at d;have no:∀{o u v:Nat},(o,u,v)∈r->u≠x/\v≠x:=λ{o u v} h=>by
   by_cases hd:ds=[]
   .rcases (g.first hd).2.2 (o,u,v) (by simp[h]) with e|e
    .rw[e] at h;show (d.1.2 h).elim
    rw[e] at h;show (d.2.1 h).elim
   have z:(o,u,v)∈(p,a,b)::(a,b,n)::r:=by simp[h]
   have:=(g.w.ed z).2.2.resolve_left hd;show⟨λe=>j v (by rw[<-e];show this),λe=>l u (by rw[<-e];show this)⟩
  show g.new i ?_ pe λt=>?_
  .simp only[az,aR,ae,not_or];show⟨⟨λe=>xa (dz e).1.symm,λe=>ab (dz e).1,λe=>?_⟩,⟨λe=>bx (dz e).1.symm,λe=>?_⟩,nd.2.1,nd.2.2⟩
   .obtain⟨⟨o,u,v⟩,h1,h2⟩:=aq.mp e;cases h2;show (no h1).2 rfl
   obtain⟨⟨o,u,v⟩,h1,h2⟩:=aq.mp e;cases h2;show (no h1).1 rfl
  simp only[ae];constructor
  .rintro (h|h|h|h)
   .exact .inr (.inl h)
   .exact .inr (.inr (.inl h))
   .exact .inr (.inr (.inr h))
   show .inl ⟨.inr (.inr h),λe=>?_,λe=>?_⟩
   .rw[e] at h;show d.1.2 h
   rw[e] at h;show d.2.1 h
  rintro (⟨h|h|h,h1,h2⟩|h|h|h)
  .exact (h1 h).elim
  .exact (h2 h).elim
  .exact .inr (.inr (.inr h))
  .exact .inl h
  .exact .inr (.inl h)
  show .inr (.inr (.inl h))
end Gate
end
end K71
end
section
namespace K71
open K31 K51 K15
def prs(N:Nat)(l:List Nat):List Pr:=(List.range l.length).map λi=>(l.getD i 0,N+i)
theorem yy(N:Nat)(l:List Nat):(prs N l).map (·.1)=l:=by unfold prs;rw[cU];show nM ∅ λi h1 h2=>?_;simp[h2]
theorem FK(N:Nat)(l:List Nat):(prs N l).map (·.2)=(List.range l.length).map λi=>N+i:=by unfold prs;rw[cU];rfl
def clos:Nat->Lps->List Tri
 |_,[]=>[]
 |N,l::ls=>clo (N+l.length) (prs N l)++clos (N+l.length+1) ls
theorem Cz{P:List Pr}(h:3<=P.length):∃c d R y,P=c::d::(R++[y]):=by
 match P,h with
 |a::b::r,h=>
  rcases qk r with e|⟨R,y,e⟩
  .subst e;simp at h
  rw[qi] at e;show⟨a,b,R,y,by rw[e]⟩
theorem rh:∀(ls:Lps)(ts:List Tri)(N:Nat),FI ts ls->(∀l∈ls,3<=l.length)->(∀p q,(p,q)∈kn ts ls->p<N)->FI (ts++clos N ls) []
 | [],ts,N,f,_,_=>by
  have e:ts++clos N []=ts:=by simp[clos]
  rw[e];show f
 |l::ls,ts,N,f,d,old=>by
  have a:(l::ls).Perm (ls++[l]):=(cP (l₁:=[l]));have s:=f.perm a;have g:∀p q,(p,q)∈kn ts (ls++[l])->p<N:=λp q h=>old p q ((gO _ (a.flatMap_right _)).mem_iff.mpr h);have C:=d l ∅;have D:(prs N l).length=l.length:=by simp[prs]
  obtain⟨E,H,R,y,e⟩:=Cz (P:=prs N l) ();have j:=yy N l;have es:=FK N l;have mem:∀p∈prs N l,p.1∈l/\N<=p.2/\p.2<N+l.length:=λp a=>by
   obtain⟨i,hi,rfl⟩:=aq.mp a;rw[fX] at hi;show⟨?_,∅,by simp;show hi⟩;simp[List.getD,hi]
  have u:∀c∈l,c<N:=λc b=>by
   obtain⟨q,v⟩:∃q,(c,q)∈sides l:=by
    obtain⟨i,hi,e⟩:=AR.mp b;have:=jD l i hi;have w:l.getD i 0=c:=by simp[List.getD,hi,e]
    rw[w] at this;show⟨_,a_ this⟩
   show g c q (bo _ ?_);rw[dG,eh];show bo _ v
  have nd:((prs N l).map (·.2)).Nodup:=by rw[es,List.Nodup,ff];show uJ.imp λh e=>h ()
  have n:FI ts (ls++[(prs N l).map (·.1)]):=by rw[j];show s
  have o:∀p q,(p,q)∈kn ts (ls++[(prs N l).map (·.1)])->p<N:=by rw[j];show g
  have big:∀p∈prs N l,p.1<N/\N<=p.2:=λp a=>⟨u _ (mem p a).1,(mem p a).2.1⟩;have b:∀p∈prs N l,p.2≠N+l.length:=λp a e=>by have:=(mem p a).2.2;lia
  have snd:∀p∈prs N l,p.2<N+l.length:=λp a=>(mem p a).2.2;have x:clos N (l::ls)=clo (N+l.length) (prs N l)++clos (N+l.length+1) ls:=rfl;rw[x];rw[e] at n o nd big b snd |-;obtain⟨z,A⟩:=close1 n nd big b () o;rw[<-bI];show rh ls _ _ z (λm hm=>d m (aZ _ hm)) λp q h=>?_;rcases A p q h with h|h|⟨r,B,h⟩
  .lia
  .lia
  have:=snd r B;lia
theorem FI.good{ts:List Tri}(f:FI ts []):((ents ts).map (·.1)).Nodup:=by have:=f.nd;unfold kn at this;rw[fK] at this;show (bS.mp this).1
theorem FI.clo{ts:List Tri}(f:FI ts []):Clo (En ts):=by
 have nd:=f.good;have mem:∀{a b c},En ts a b c->(a,b)∈kn ts []:=λh=>bM _ (gC.mpr ⟨_,h⟩);have back:∀{a b},(a,b)∈kn ts []->∃c,En ts a b c:=λh=>by
  rcases aw.mp h with h|h
  .exact gC.mp h
  simp[wl] at h
 show⟨⟨λh=>cQ h,λh h'=>wj nd h h',λh=>f.ne (mem h)⟩,λh=>back (f.sy (mem h)),λ{v p q} h=>?_⟩;have e:∀v p q,Lk ts (tn []) v p q↔En ts v p q:=λv p q=>by simp[Lk,tn]
 obtain⟨l,d⟩:=f.rg v p q ((e v p q).mpr h);show⟨l,d.congr λp q=>(e v p q).symm⟩
theorem wi0{E:Nat->Nat->Nat->Prop}(k:Clo E){a b c:Nat}(h:E a b c):WI E a b [] (tn [[a,b]]):=by
 have ab:=k.sk.ne h;obtain⟨d,hd⟩:=k.cl h;have j:tn [[a,b]]=[(b,a,b),(a,b,a)]:=by simp[tn,turns,tw,aC]
 have full:∀{v p q},E v p q->Gap (Ud E [] v) p p:=λ{v p q} h=>by
  obtain⟨l,g⟩:=k.rg h;obtain⟨r,i⟩:=g.at (g.mem h).1;show⟨r,i.1,λs m=>⟨(i.2 _ _).mpr m,λ⟨c,f⟩=>by simp[En,ents] at f⟩⟩
 rw[j];show⟨λh=>by simp[En,ents] at h,by simp[ents],by simp[ab,aG ab],?_,?_,λ_ _ ⟨c,f⟩=>by simp[En,ents] at f,?_,λ_=>.refl _⟩
 .exact List.Perm.swap _ _ _
 .intro p v n hm;simp only[ae,bq,or_false] at hm;rcases hm with e|e
  .cases e;show⟨⟨c,h⟩,λ⟨c,f⟩=>by simp[En,ents] at f,.inl rfl⟩
  cases e;show⟨⟨d,hd⟩,λ⟨c,f⟩=>by simp[En,ents] at f,.inl rfl⟩
 intro p v n hm;simp only[ae,bq,or_false] at hm;rcases hm with e|e
 .cases e;show full h
 cases e;show full hd
theorem ph{l m:List (Nat×Nat)}(h:l.Nodup)(a:∀x∈l,x∈m):l.length<=m.length:=by
 induction l generalizing m with
 |nil=>simp
 |cons x l d=>
  rw[aR] at h;have b:=a x dX;have h1:=d (m:=m.erase x) h.2 λy c=>(Le (λe=>h.1 (by rw[<-e];show c))).mpr (a y (aZ _ c));have h2:=K_ b;have f:=Lb b;rw[aS];lia
theorem WI.less{ts ds:List Tri}{a0 b0:Nat}{T:List Tn}(h:WI (En ts) a0 b0 ds T){t:Tn}(d:t∈T):ds.length<ts.length:=by
 obtain⟨p,v,n⟩:=t;obtain⟨⟨c,e⟩,nd,_⟩:=h.ed d;have f:(v,n)∉(ents ds).map (·.1):=λz=>by
  obtain⟨⟨⟨x,y⟩,c⟩,h1,h2⟩:=aq.mp z;cases h2;show nd ⟨c,h1⟩
 have h1:=ph (l:=(v,n)::(ents ds).map (·.1)) (m:=(ents ts).map (·.1)) (aR.mpr ⟨f,h.gd⟩) λx a=>by
  rcases ae.mp a with rfl|a
  .exact aq.mpr ⟨_,e,rfl⟩
  obtain⟨⟨⟨i,j⟩,c⟩,h1,rfl⟩:=aq.mp a;show aq.mpr ⟨_,h.sub h1,rfl⟩
 have b:∀ts:List Tri,(ents ts).length=3*ts.length:=λts=>by
  induction ts with
  |nil=>rfl
  |cons t ts g=>
   change (_::_::_::ents ts).length=_;simp only[aS,g];lia
 rw[aS,aE,aE,b,b] at h1;lia
theorem xA:∀(b:Nat)(t:List Nat),(b::t)[t.length]?=some (aC b t)
 |_,[]=>rfl
 |b,c::t=>by
  change (b::c::t)[t.length+1]?=_;rw[fe];show xA c t
theorem pA{l:List Nat}{z:Nat}(h:0<l.length):l[0]?=some (hd l z):=by
 cases l with
 |nil=>simp at h
 |cons a l=>rfl
def At(ls:Lps)(j k x z:Nat):Prop:=∃o,j<ls.length/\ls[ls.length-1-j]?=some o/\k<o.length/\o.getD k 0=x/\o.getD ((k+1)%o.length) 0=z
section
variable {E:Nat->Nat->Nat->Prop}{a0 b0:Nat}{ds:List Tri}{ah:Lps}{a b x:Nat}{t:List Nat}
theorem yO(k:Clo E)(w:WI E a0 b0 ds (tn (ah++[a::b::t])))(ex:E a b x):Gate E a0 b0 ds (tn (ah++[a::b::t])) a b x (aC b t) (hd t a):=by
 obtain⟨r,c⟩:=mV b t a;have e:turns (a::b::t)=(aC b t,a,b)::(a,b,hd t a)::r:=by change (aC b t,a,b)::tw a b t a=_;rw[c]
 show⟨k,w,?_,?_,ex⟩<;>rw[iD,j3,e]<;>show bo _ ∅
theorem Al{ls:Lps}{T:List Tn}(h:(tn ls).Perm T):(T.map λt=>(t.1,t.2.1)).Perm (T.map (·.2)):=by show ((h.map _).symm.trans (xP ls)).trans ?_;rw[<-lA];show h.map _
theorem Cv(k:Clo E)(w:WI E a0 b0 ds (tn (ah++[a::b::t])))(ex:E a b x)(c:∀p q,¬En ds x p q):WI E a0 b0 (ds++[(a,b,x)]) (tn (aM ah (a::b::t) (.sg 67) x)):=by have g:=yO k w ex;obtain⟨T,e,h1,h2,d⟩:=qP (ah:=ah) (a:=a) (b:=b) (t:=t) (lt:=.sg 67) (n:=x) (x:=x) (by simp[Lets]) rfl;have g':Gate E a0 b0 ds T a b x (aC b t) (hd t a):=⟨k,w.perm h1,h1.mem_iff.mp g.ga,h1.mem_iff.mp g.gb,ex⟩;show (g'.ts_new c d (Al h2)).perm h2.symm
theorem Cu(k:Clo E)(w:WI E a0 b0 ds (tn (ah++[a::b::t])))(ex:E a b x)(Z:∃p q,En ds x p q)(two:∀l∈ah,2<=l.length) :
  ∃(rs:List Nat)(z:Nat),rs[0]?=some a/\rs[rs.length-1]?=some z/\(∀i p q,rs[i]?=some p->rs[i+1]?=some q->E p x q)/\(∀i p,i+1<rs.length->rs[i]?=some p->(x,p)∉wl (ah++[a::b::t]))/\(x,z)∈wl (ah++[a::b::t])/\
   ∀lt,(lt=.sg 69/\(b,x)∈wl (ah++[a::b::t])/\z=a\/lt=.sg 82/\(b,x)∈wl (ah++[a::b::t])/\z≠a\/lt=.sg 76/\(b,x)∉wl (ah++[a::b::t])/\z=a\/∃j k,lt=.sp j k/\(b,x)∉wl (ah++[a::b::t])/\z≠a/\At (ah++[a::b::t]) j k x z)->
    ∀n,ay ah (a::b::t) lt n=some x/\Lets lt/\WI E a0 b0 (ds++[(a,b,x)]) (tn (aM ah (a::b::t) lt x)):=by
 have g:=yO k w ex;obtain⟨I,rs,y,z,l,r1,r2,r3,P,hz,K,ha⟩:=g.back Z;have xz:(x,z)∈wl (ah++[a::b::t]):=iJ.mpr ⟨y,hz⟩;have zA:=g.zA I hz K ha;have yB:=g.yB I hz K ha;have D:(b,x)∈wl (ah++[a::b::t])↔hd t a=x:=by
  constructor
  .intro h;obtain⟨o,m⟩:=iJ.mp h;show g.wantB I m
  intro e;have:=g.gb;rw[e] at this;show iJ.mpr ⟨_,this⟩
 have ab:=g.ab;have bx:=g.bx;have xa:=g.xa;show⟨rs,z,r1,r2,r3,λi p hi L h=>?_,xz,λlt M n=>?_⟩
 .obtain⟨o,m⟩:=iJ.mp h;show P i p hi L o m
 have fin:∀{lt:Lt},ay ah (a::b::t) lt n=some x->Lets lt->sgn lt≠67->(sgn lt=82->z≠a)->(sgn lt=76->hd t a≠x)->(sgn lt=83->ku ah (a::b::t) x lt=z/\z≠a/\hd t a≠x)->ay ah (a::b::t) lt n=some x/\Lets lt/\WI E a0 b0 (ds++[(a,b,x)]) (tn (aM ah (a::b::t) lt x)):=λ{lt} h Q c1 c2 c3 c4=>by
  obtain⟨T,T',h1,h2,hs⟩:=qP Q h;have g':Gate E a0 b0 ds T a b x (aC b t) (hd t a):=⟨k,w.perm h1,h1.mem_iff.mp g.ga,h1.mem_iff.mp g.gb,ex⟩;show⟨h,Q,(g'.ts_old I (h1.mem_iff.mp hz) K ha hs (Al h2) c1 c2 c3 c4).perm h2.symm⟩
 have N:(sides (a::b::t)).Nodup:=by have:=w.nd;rw[lA,dG,eh] at this;show (bS.mp this).2.1
 rcases M with ⟨rfl,h1,h2⟩|⟨rfl,h1,h2⟩|⟨rfl,h1,h2⟩|⟨j,f,rfl,h1,h2,o,hj,m,hk,ad,al⟩
 .-- an end
  have v:=D.mp h1;have B:=zA.mp h2;have O:t=[x]:=by
   cases t with
   |nil=>show (xa v.symm).elim
   |cons c t'=>
    have v:c=x:=v;subst v;cases t' with
    |nil=>rfl
    |cons d s=>
     exfalso;obtain⟨r,hr⟩:=mV c (d::s) a;have u:(b,c,d)∈tn (ah++[a::b::c::d::s]):=by rw[iD,j3];show bo _ (by simp[turns,tw])
     have R:=hz;rw[yB.mpr (show hd (c::d::s) a=c from rfl)] at R;have S:d=z:=w.same' u R;have B:aC d s=c:=B;have U:((c,d)::path d s a).Nodup:=by have:sides (a::b::c::d::s)=(a,b)::(b,c)::(c,d)::path d s a:=rfl;rw[this] at N;show (aR.mp (aR.mp N).2).2
     have H:=qZ d s a;rw[B] at H;rw[S,h2] at U;have H:(c,a)∈path a s a:=by rw[S,h2] at H;show H
     show (aR.mp U).1 H
  subst O;show fin rfl (by simp[Lets]) ⋯ (λz=>by cases z) (λz=>by cases z) λz=>by cases z
 .have v:=D.mp h1;have L:aC b t≠x:=λe=>h2 (zA.mpr e);cases t with
  |nil=>show (xa v.symm).elim
  |cons c t'=>
   have v:c=x:=v;subst v;cases t' with
   |nil=>show (L rfl).elim
   |cons d s=>show fin (by simp[ay]) (by simp[Lets]) ⋯ (λ_=>h2) (λz=>by cases z) λz=>by cases z
 .have C:hd t a≠x:=λe=>h1 (D.mpr e);have B:=zA.mp h2;have ap:2<=t.length:=by
   clear fin w g P hz xz zA yB D N h1;rcases t with _|⟨c,_|⟨d,r⟩⟩
   .exact (bx B).elim
   .exact (C B).elim
   simp
  have hg:(a::b::t)[(a::b::t).length-1]?=some x:=by rw[show (a::b::t).length-1=t.length+1 by simp,fe,xA,B]
  show fin ?_ (by simp[Lets]) ⋯ (λz=>by cases z) (λ_=>C) λz=>by cases z
  unfold ay;dsimp only;rw[Np ⋯,Nq (.inl ⟨.inr rfl,by simp;lia⟩),Np ⋯];show hg
 have C:hd t a≠x:=λe=>h1 (D.mpr e);have hok:o[f]?=some x:=by rw[<-ad];simp[List.getD,hk]
 have A:o[(f+1)%o.length]?=some z:=by rw[<-al];have:(f+1)%o.length<o.length:=iW _ ();simp[List.getD,this]
 rw[ao,aV] at hj m;by_cases c:j=0
 .subst c;have m:o=a::b::t:=by
   rw[show ah.length+1-1-0=ah.length by lia,kJ (),nX] at m;show (cy m).symm
  subst m;have k0:f≠0:=λe=>by subst e;simp at hok;show xa hok.symm
  have k1:f≠1:=λe=>by subst e;simp at hok;show bx hok
  have k2:f≠2:=λe=>by
   subst e;rw[fe,fe] at hok;have O:=(aI.mp hok).1;rw[pA (z:=a) O] at hok;show C (cy hok)
  have X:f+1≠(a::b::t).length:=λe=>by
   rw[e,nU] at A;simp at A;show h2 A.symm
  have klt:f+1<(a::b::t).length:=();rw[kO klt] at A;show fin ?_ (by simp[Lets]) (by simp[sgn]) (λz=>by cases z) (λz=>by cases z) λ_=>⟨?_,h2,C⟩
  .unfold ay;dsimp only;rw[Nq rfl,Nq ⟨(),klt⟩];show hok
  change hd ((a::b::t).drop (f+1)) a=z;have:0<((a::b::t).drop (f+1)).length:=by rw[bG];lia
  have u:=pA (z:=a) this;rw[uE,uP,A] at u;show (cy u).symm
 have am:j<=ah.length:=();have M:ah.length-j<ah.length:=();have m:ah[ah.length-j]?=some o:=by rw[show ah.length+1-1-j=ah.length-j by lia,eF M] at m;show m
 have Y:ah.getD (ah.length-j) []=o:=by rw[List.getD,m];rfl
 have o2:=two o (a_ m);show fin ?_ (by simp[Lets]) (by simp[sgn]) (λz=>by cases z) (λz=>by cases z) λ_=>⟨?_,h2,C⟩
 .unfold ay;dsimp only;rw[Np c,Nq am,Y];show hok
 unfold ku;dsimp only;rw[Np c,Y];by_cases X:f+1<o.length
 .rw[kO X] at A;have:0<(o.drop (f+1)++o.take f).length:=by rw[ao,bG];lia
  have u:=pA (z:=x) this;rw[eF (by rw[bG];lia),uE,uP,A] at u;show (cy u).symm
 have e:f+1=o.length:=();rw[e,nU] at A;rw[AG (),jx];have:0<(o.take f).length:=by rw[bu];lia
 have u:=pA (z:=x) this;rw[AM (),A] at u;show (cy u).symm
end
end K71
end
section
namespace K71
open PySem L2 K51 K31 K15
def cV(φ:Nat->Int)(l:List Nat):List V:=l.map λn:Nat=>V.int (φ n)
def LpC(φ:Nat->Int)(H:Hp)(v:V)(l:List Nat):Prop:=∃a,v=.ref a/\H a=some (.lst (cV φ l))
abbrev cu(φ:Nat->Int)(H:Hp):List V->Lps->Prop:=Paired (LpC φ H)
def TrC(φ:Nat->Int)(H:Hp)(v:V)(t:Tri):Prop:=∃a,v=.ref a/\H a=some (.tup [.int (φ t.1),.int (φ t.2.1),.int (φ t.2.2)])
abbrev eZ(φ:Nat->Int)(H:Hp):List V->List Tri->Prop:=Paired (TrC φ H)
def kc(φ:Nat->Int)(p q:Nat):List Key:=[Sum.inl (φ p),Sum.inl (φ q)]
def enC(φ:Nat->Int)(e:Ent):List Key×V:=(kc φ e.1.1 e.1.2,V.int (φ e.2))
abbrev Inj(φ:Nat->Int):Prop:=∀{a b:Nat},φ a=φ b->a=b
section
variable {φ:Nat->Int}
theorem cu.same{ls:Lps}(s:Same H H')(h:cu φ H vs ls):cu φ H' vs ls:=Paired.imp' (λ_ _ ⟨a,e,q⟩=>⟨a,e,s _ _ q⟩) h
theorem cu.move{ys:List V}{ls:Lps}(h:cu φ H ys ls)(e:∀b o,V.ref b∈ys->H b=some o->H' b=some o):cu φ H' ys ls:=by
 induction h with
 |nil=>show .nil
 | @cons g i j l h t c=>
  obtain⟨b,a,d⟩:=h;show .cons ⟨b,a,e b _ (by rw[a];simp) d⟩ (c λb o f=>e b o (aZ _ f))
theorem FL{ls:Lps}{b:Addr}(h:cu φ H vs ls)(a:V.ref b∈vs):∃l∈ls,H b=some (.lst (cV φ l)):=by
 induction h with
 |nil=>cases a
 | @cons f g i j q t c=>
  rcases ae.mp a with z|z
  .obtain⟨m,d,e⟩:=q;rw[d] at z;cases z;show⟨_,∅,e⟩
  obtain⟨l,h1,h2⟩:=c z;show⟨l,by simp[h1],h2⟩
theorem cJ(l:List Nat):(cV φ l).length=l.length:=aE ..
theorem gA(l r:List Nat):cV φ l++cV φ r=cV φ (l++r):=(aX ..).symm
theorem kg{l:List Nat}{i n:Nat}(h:l[i]?=some n):(cV φ l)[i]?=some (.int (φ n)):=by unfold cV;rw[cB,h];rfl
theorem ua(l:List Nat)(i:Int)(k:Nat)(h:i=(k:Int)):eP (cV φ l) none (some i)=cV φ (l.take k):=by change fW (cV φ l) none (some i)=_;rw[h,z_];show (qu ..).symm
theorem mn(l:List Nat)(i:Int)(k:Nat)(h:i=(k:Int)):eP (cV φ l) (some i) none=cV φ (l.drop k):=by change fW (cV φ l) (some i) none=_;rw[h,rP];show (AQ ..).symm
theorem Ji(l:List Nat)(i j:Int)(a b:Nat)(h:i=(a:Int))(h':j=(b:Int)):eP (cV φ l) (some i) (some j)=cV φ ((l.take b).drop a):=by change fW (cV φ l) (some i) (some j)=_;rw[h,h',s_];unfold cV;rw[<-AQ,<-qu,List.drop_take]
theorem Kv(l:List Nat):eP (cV φ l) (some 1) (some (-1))=cV φ ((l.drop 1).dropLast):=by
 unfold eP;rw[HR,cJ,show HT.sIx l.length 0 (some 1)=min 1 l.length from HT.sIx_nat l.length 0 1];cases l with
 |nil=>rfl
 |cons a l=>
  simp only[aS];rw[show min 1 (l.length+1)=1 by lia];change (cV φ l).take (l.length+1-1-1)=cV φ l.dropLast;rw[List.dropLast_eq_take];show (qu ..).symm
theorem mU(i:Inj φ){p q p' a:Nat}:kc φ p q=kc φ p' a↔(p,q)=(p',a):=by
 unfold kc;constructor
 .intro h;injection h with h1 h2;injection h2 with h2 _;injection h1 with h1;injection h2 with h2;rw[i h1,i h2]
 intro h;injection h with h1 h2;rw[h1,h2]
theorem vU(i:Inj φ){l:List Ent}{p q:Nat}:valV (l.map (enC φ)) (kc φ p q)=none↔(p,q)∉l.map (·.1):=by
 induction l with
 |nil=>simp[valV]
 |cons e l a=>
  rw[az,az,ae];by_cases h:(enC φ e).1=kc φ p q
  .rw[dC h];have:e.1=(p,q):=(mU i).mp h;simp[this]
  rw[dq h,a];have:(p,q)≠e.1:=λz=>h ((mU i).mpr (by rw[z]));simp[this]
theorem vT(i:Inj φ){l:List Ent}(nd:(l.map (·.1)).Nodup){p q c:Nat}(h:((p,q),c)∈l):valV (l.map (enC φ)) (kc φ p q)=some (V.int (φ c)):=by
 induction l with
 |nil=>cases h
 |cons e l a=>
  rw[az,aR] at nd;rcases ae.mp h with z|z
  .rw[az,<-z];show dC rfl
  rw[az,dq,a nd.2 z];intro b;have d:e.1=(p,q):=(mU i).mp b;show nd.1 (aq.mpr ⟨_,z,d.symm⟩)
theorem rE(i:Inj φ){l:List Ent}{a b c:Nat}(h:(a,b)∉l.map (·.1)):cN (l.map (enC φ)) (kc φ a b) (V.int (φ c))=(l++[((a,b),c)]).map (enC φ):=by rw[rD _ ((vU i).mpr h),aX];rfl
end
structure WdC(φ:Nat->Int)(H:Hp)(kw:List (List Key×V))(W:Side->Prop)(A:Nat->Nat->Nat->Nat->Prop):Prop where
 no:∀p q,valV kw (kc φ p q)=none->¬W (p,q)
 yes:∀p q v,valV kw (kc φ p q)=some v->W (p,q)/\∃t j k,v=.ref t/\H t=some (.tup [.int ((j:Nat):Int),.int ((k:Nat):Int)])/\A j k p q
theorem WdC.put{φ:Nat->Int}{kw:List (List Key×V)}{W l:Side->Prop}{A f:Nat->Nat->Nat->Nat->Prop}(i:Inj φ)(h:WdC φ H kw W A)(s:∀t o,H t=some (.tup o)->H' t=some (.tup o)){a b j k:Nat}{t:Addr}
  (m:H' t=some (.tup [.int ((j:Nat):Int),.int ((k:Nat):Int)])) (g:∀z,l z↔W z\/z=(a,b)) (n:f j k a b) (r:∀j k p q,A j k p q->f j k p q):WdC φ H' (cN kw (kc φ a b) (.ref t)) l f:=by
 constructor
 .intro p q c hw;rw[wR] at c;by_cases e:kc φ p q=kc φ a b
  .rw[Nq e] at c;cases c
  rw[Np e] at c;rcases (g _).mp hw with z|z
  .exact h.no p q c z
  show e ((mU i).mpr z)
 intro p q v d;rw[wR] at d;by_cases e:kc φ p q=kc φ a b
 .rw[Nq e] at d;cases d;have z:=(mU i).mp e;cases z;show⟨(g _).mpr (.inr rfl),t,j,k,rfl,m,n⟩
 rw[Np e] at d;obtain⟨h1,t',u,w,rfl,h2,x⟩:=h.yes p q v d;show⟨(g _).mpr (.inl h1),t',u,w,rfl,s _ _ h2,r _ _ _ _ x⟩
def BY(φ:Nat->Int)(vs:List V)(H:Hp)(Q:VK)(T:Addr)(a:List V)(ts:List Tri):Prop:=vs=[.ref T]/\H T=some (.lst a)/\eZ φ H a ts/\ts.length<=400/\((ents ts).map (·.1)).Nodup/\
 ∀D H',H D=none->Same H H'->H' D=some (.dT ((ents ts).map (enC φ)))->Q (.ref D) H'
def kZ(φ:Nat->Int):Sp:=λvs H Q _=>Exists (Ex3 (BY φ vs H Q))
def BW(φ:Nat->Int)(vs:List V)(H:Hp)(Q:VK)(L:Addr)(a:List V)(ls:Lps):Prop:=vs=[.ref L]/\H L=some (.lst a)/\cu φ H a ls/\(ls.map List.length).sum<=1000/\
 ∀D kw H',H D=none->Same H H'->H' D=some (.dT kw)->WdC φ H' kw (λs=>s∈wl ls) (At ls)->Q (.ref D) H'
def oy(φ:Nat->Int):Sp:=λvs H Q _=>Exists (Ex3 (BW φ vs H Q))
section
variable {φ:Nat->Int}
theorem Ca(g:Inj φ){f:Addr}(U:Fun K "_law_thirds" "_law_thirds" lR f fd):FnOk P w K mg base CX0 1 f fd ["_law_triples"] (kZ φ):=by
 show U.ok lB (by rintro _ _ _ _ ⟨_,_,_,rfl,_⟩;rfl) λNz A outer s H vs Q E N h=>?_
 obtain⟨T,O,ts,rfl,u,v,hl,y,q⟩:=h;have j:=eu N;show⟨_,af (sx 1 lB.nd xj)
  (af (cY cF rfl (cL (pv 0)) (eN rfl (bL (gx 2 lB.nd) (bL (gx 3 lB.nd) (bL (gx 4 lB.nd) dD))))
   (af (l9 j (pv 1) (aK (ai (pv 2) (pa1 (pv 3)))) (pv 4) rfl)
   (af (l9 j (pv 1) (aK (ai (pv 3) (pa1 (pv 4)))) (pv 2) rfl)
   (aj (l9 j (pv 1) (aK (ai (pv 4) (pa1 (pv 2)))) (pv 3) rfl)))))
  (aj (aU (pv 1)))),?_⟩
 have ah:=line5000;have hlen:=aT v;show λD H1 h1 s1 R=>?_;show⟨_,rfl,T,rfl,⟨_,SqL.of (s1 _ _ u)⟩,g_ (K:=[]) (a:=T) (xs:=O) (λi Z H2=>∃l m n,Z=[some (.ref T),some (.ref D),l,m,n]/\Same H H2/\H2 D=some (.dT ((ents (ts.take i)).map (enC φ))))
  ⟨none,none,none,rfl,s1,R⟩ (by rintro i Z H2 _ ⟨_,_,_,_,e,_⟩;show SqL.of (e _ _ u)) ?_ ?_⟩
 .rintro i x Z H2 hi ⟨l,m,n,rfl,sm,d⟩;obtain⟨⟨a,b,c⟩,z,t,rfl,p⟩:=c_ v hi;have p:H t=some (.tup [.int (φ a),.int (φ b),.int (φ c)]):=p;have al:i<ts.length:=(aI.mp z).1;have S:ts.take (i+1)=ts.take i++[(a,b,c)]:=by rw[cS,z];rfl
  have B:((ents (ts.take (i+1))).map (·.1)).Nodup:=by rw[<-fY (i+1) ts,ents_app,aX,bS] at y;show y.1
  have C:ents (ts.take (i+1))=((ents (ts.take i)++[((a,b),c)])++[((b,c),a)])++[((c,a),b)]:=by rw[S,ents_app];simp[ents]
  rw[C] at B;obtain⟨X,Y⟩:=su B;obtain⟨ad,n2⟩:=su X;obtain⟨_,n1⟩:=su ad;have l0:=ents_len (ts.take i);rw[bu] at l0;show⟨t,_,rfl,SqT.of (sm _ _ p),rfl,_,_,rfl,_,_,rfl,_,_,rfl,rfl,?_⟩;show⟨_,rfl,_,rfl,_,rfl,_,rfl,lit2,λt1 H3 g1 I y3=>?_⟩;show⟨D,_,rfl,DPut.t (k:=kc φ a b) (I _ _ d) y3 (by rw[aE];lia),?_⟩;rw[rE g n1];walk_at"H3 D H4 k4 y4";show⟨_,rfl,_,rfl,_,rfl,_,rfl,lit2,λt2 H5 g2 L y5=>?_⟩;show⟨D,_,rfl,DPut.t (k:=kc φ b c) (L _ _ y4) y5 (by rw[aE,ao,aV];lia),?_⟩;rw[rE g n2];walk_at"H5 D H6 k6 y6";show⟨_,rfl,_,rfl,_,rfl,_,rfl,lit2,λt3 H7 g3 M y7=>?_⟩;show⟨D,_,rfl,DPut.t (k:=kc φ c a) (M _ _ y6) y7 (by rw[aE,ao,ao,aV,aV];lia),?_⟩;rw[rE g Y];walk_at"H7 D H8 k8 y8";show⟨_,_,_,rfl,λr o e=>?_,by rw[y8,C]⟩;have nb:=ar e h1;show (k8 r nb).trans (M _ _ ((k6 r nb).trans (L _ _ ((k4 r nb).trans (I _ _ (sm _ _ e))))))
 rintro Z H2 ⟨l,m,n,rfl,sm,d⟩;rw[hlen,eV] at d;show⟨_,rfl,q D H2 h1 sm d⟩
theorem vC{ls:Lps}{i:Nat}{l:List Nat}(h:ls[ls.length-1-i]?=some l)(hi:i<ls.length):ls.drop (ls.length-(i+1))=l::ls.drop (ls.length-i):=by obtain⟨a,e⟩:=aI.mp h;rw[show ls.length-(i+1)=ls.length-1-i by lia,eS a,e,show ls.length-1-i+1=ls.length-i by lia]
theorem rm(ls:Lps)(k:Nat):((ls.drop k).map List.length).sum<=(ls.map List.length).sum:=by
 conv=>rhs;rw[<-fY k ls,aX,iV]
 lia
theorem jM:bH ["_law_loops","_law_found","_law_j","_law_loop","_law_k","_law_corner"] ["_law_loops"] (a7 lD):=⟨rfl,rfl,rfl,⋯,rfl,⋯,⋯⟩
theorem B_(ij:Inj φ){f:Addr}(U:Fun K "_law_wanted" "_law_wanted" lD f fd)(T:cW mg):FnOk P w K mg base CX0 1 f fd ["_law_loops"] (oy φ):=by
 show U.ok jM (by rintro _ _ _ _ ⟨_,_,_,rfl,_⟩;rfl) λNz A outer s H vs Q E hr h=>?_
 obtain⟨L,vl,ls,rfl,hL,hp,bb,q⟩:=h;have hu:=eu hr;show⟨_,af (sx 1 jM.nd xj)
  (af (cY cF rfl (xi rfl T.enum rfl T.rev (pa1 (pv 0))) (eN rfl (bL (gx 2 jM.nd) (bL (gx 3 jM.nd) dD)))
   (aj (cY cF rfl (sT rfl T.enum (pa1 (pv 3))) (eN rfl (bL (gx 4 jM.nd) (bL (gx 5 jM.nd) dD)))
    (aj (l9 hu (pv 1) (aK (ai (pv 5) (pa1 (ixx aJ (pv 3) (au dH (au bN (pv 4) aa) (pln T.len (pv 3)))))))
     (aK (ai (pv 2) (pa1 (pv 4)))) rfl)))))
  (aj (aU (pv 1)))),?_⟩
 have bc:=line5000;have hlen:=aT hp;show λD H1 h1 s1 y1=>?_;show⟨_,rfl,L,vl,rfl,SqL.of (s1 _ _ hL),wt (K:=[]) (a:=L) (xs:=vl) (λi Z H2=>∃S X g m kw,Z=[some (.ref L),some (.ref D),S,X,g,m]/\Same H H2/\H2 D=some (.dT kw)/\WdC φ H2 kw (λs=>s∈wl (ls.drop (ls.length-i))) (At ls)/\kw.length<=((ls.drop (ls.length-i)).map List.length).sum)
  ⟨none,none,none,none,[],rfl,s1,y1,by rw[uT,qj];show⟨λ_ _ _ z=>by simp[wl] at z,λ_ _ _ z=>nomatch z⟩,∅⟩ (by rintro i Z H2 _ ⟨_,_,_,_,_,_,e,_⟩;show SqL.of (e _ _ hL)) ?_ ?_⟩
 .rintro i x pt Z H2 hi hx ⟨S,X,g,m,kw,rfl,sm,Y,B,hz⟩ a2;rw[hlen] at hi hx;obtain⟨l,hs,b,rfl,hb⟩:=c_ hp hx;have ed:=vC hs hi;walk_at"H2 pt a2 H3 I y3";show⟨pt,_,rfl,SqT.of y3,rfl,_,_,rfl,_,_,rfl,rfl,?_⟩;have M:∀H',Same H H'->SqL [] H' b (cV φ l):=λH' s'=>SqL.of (s' _ _ hb);have sd:=rm ls (ls.length-i);have se:=rm ls (ls.length-(i+1));rw[ed,az,fg] at se;show⟨_,rfl,b,cV φ l,rfl,M _ (sm.trans I),xC (K:=[]) (a:=b) (xs:=cV φ l) (λk Z n=>∃g m r,Z=[some (.ref L),some (.ref D),some (.int (i:Int)),some (.ref b),g,m]/\Same H n/\n D=some (.dT r)/\WdC φ n r (λs=>s∈wl (ls.drop (ls.length-i))\/s∈(sides l).take k) (At ls)/\r.length<=((ls.drop (ls.length-i)).map List.length).sum+k)
   ⟨g,m,kw,rfl,sm.trans I,I _ _ Y,⟨λp q hn z=>B.no p q hn (z.elim id ∅),λp q v hv=>let ⟨h1,t,j,k,e,h2,h3⟩:=B.yes p q v hv;⟨.inl h1,t,j,k,e,I _ _ h2,h3⟩⟩,()⟩ (λk Z n _ ⟨_,_,_,_,e,_⟩=>M _ e) ?_ ?_⟩
  .rintro k y pk Z n hy ⟨g,m,r,rfl,ad,N,u,ap⟩ a3;have ah:k<l.length:=by
    have:=(aI.mp hy).1;rw[cJ] at this;show this
   have hg:l[k]?=some (l.getD k 0):=by simp[List.getD,ah]
   have a4:y=.int (φ (l.getD k 0)):=by rw[kg hg] at hy;show (cy hy).symm
   subst a4;have a5:(k+1)%l.length<l.length:=iW _ ();have a0:l[(k+1)%l.length]?=some (l.getD ((k+1)%l.length) 0):=by simp[List.getD,a5]
   have al:=jD l k ah;have am:At ls i k (l.getD k 0) (l.getD ((k+1)%l.length) 0):=⟨l,hi,hs,ah,rfl,rfl⟩;generalize l.getD k 0=c at hg al am;generalize l.getD ((k+1)%l.length) 0=d at a0 al am;walk_at"n pk a3 H5 O y5";have a6:=ad.trans O;show⟨pk,_,rfl,SqT.of y5,rfl,_,_,rfl,_,_,rfl,rfl,?_⟩;show⟨_,rfl,_,rfl,lit2,λt6 H6 g6 R y6=>?_⟩;have an:=a6.trans R;show⟨_,rfl,_,rfl,_,rfl,_,rfl,_,_,rfl,rfl,_,rfl,b,_,rfl,.inl (M _ an),_,_,rfl,rfl,(by rw[cJ];change (0:Int)<_;lia),b,_,((((k+1)%l.length:Nat)):Int),.int (φ d),rfl,?_,M _ an,cM (kg a0),lit2,λt7 H7 g7 C y7=>?_⟩
   .rw[cJ];change V.int (((k:Int)+1)%(l.length:Int))=_
    congr 1
   have bd:=kS r (kc φ c d) (V.ref t6);show⟨D,_,rfl,DPut.t (k:=kc φ c d) (C _ _ (R _ _ (O _ _ N))) y7 (),?_⟩;walk_at"H7 D H8 k8 y8";have ba:=C _ _ (R _ _ (O _ _ N));have a1:∀t o,H7 t=some (.tup o)->H8 t=some (.tup o):=λt o e=>(k8 t (bD e ba (by intro z;cases z))).trans e;show⟨_,_,_,rfl,λb' o e=>(k8 b' (ar e h1)).trans (C _ _ (an _ _ e)),y8,?_,()⟩;show u.put ij (λt o e=>a1 _ _ (C _ _ (R _ _ (O _ _ e)))) (a1 _ _ (C _ _ y6)) (λs=>?_) am λ_ _ _ _ h=>h;rw[cS,al,aw,Option.toList_some,aL,or_assoc]
  rintro Z n ⟨g,m,r,rfl,ad,N,u,ap⟩;rw[cJ] at u ap;rw[gQ (by rw[jC];lia)] at u;show⟨_,_,_,_,r,rfl,ad,N,?_,?_⟩
  .rw[ed];have hw:∀s,s∈wl (l::ls.drop (ls.length-i))↔(s∈wl (ls.drop (ls.length-i))\/s∈sides l):=λs=>by
    rw[ja,aw];show or_comm
   show⟨λp q hn z=>u.no p q hn ((hw _).mp z),λp q v hv=>let ⟨h1,h2⟩:=u.yes p q v hv;⟨(hw _).mpr h1,h2⟩⟩
  rw[ed,az,fg];lia
 rintro Z H2 ⟨S,X,g,m,kw,rfl,sm,Y,B,hz⟩;rw[hlen,nX,kH] at B;show⟨_,rfl,q D kw H2 h1 sm Y B⟩
end
end K71
end
section
namespace K71
open PySem L2 K51 K31 K15
theorem sW{a:List V}{p:Addr}(h:H p=none):∀b,V.ref b∈a++[V.ref p]->V.ref b∈a\/H b=none:=λb c=>by
 rcases aw.mp c with z|z
 .exact .inl z
 have:b=p:=‹z›
 rw[this];show .inr h
theorem dW(c d:Nat):decide (V.str (txt [c])=V.str (txt [d]))=decide (c=d):=by rw[yX,cR];simp
def ltR:Lt->List V
 |.sg _=>[]
 |.sp j k=>[.int (j:Nat),.int (k:Nat)]
theorem tR(a:Lt):ltV a=.str (txt [sgn a])::ltR a:=by cases a<;>rfl
theorem zU{l:List Nat}(h:2<=l.length):l[0]?=some (g1 l)/\l[1]?=some (g2 l):=by obtain⟨t,e⟩:=two h;rw[e];show⟨rfl,rfl⟩
def But(L:Addr)(H H':Hp):Prop:=∀b o,b≠L->H b=some o->H' b=some o
theorem But.same{L:Addr}{H H1 H2:Hp}(h:But L H H1)(s:Same H1 H2):But L H H2:=λb o n e=>s _ _ (h b o n e)
theorem But.wr{L:Addr}{H H1 H2:Hp}(h:But L H H1)(k:∀b,b≠L->H2 b=H1 b):But L H H2:=λb o n e=>(k b n).trans (h b o n e)
theorem But.free{L:Addr}{H H1:Hp}{p:Addr}{o:HO}(h:But L H H1)(a:H1 L=some o)(g:H1 p=none):H p=none:=by
 cases e:H p with
 |none=>rfl
 |some u=>
  exfalso;by_cases z:p=L
  .rw[z,a] at g;cases g
  rw[h p u z e] at g;cases g
theorem fC{i:Nat}{D:Ends}{t u:L2.TS}{a:Addr}{c d:Nat}{s:Str}(b:Z[i]?=some (some (.ref a)))(h:H a=some (.tup (V.str (txt [c])::xs)))(e:s=txt [d])(n:¬c=d)(q:u D Z H):ng (ki (tOp rEq (tOp (iN []) (cD i) (L2.tC (.int 0))) (L2.tC (.str s)))) t u D Z H:=by subst e;show⟨_,b,a,_,_,_,rfl,rfl,SqT.of h,jq _ _,rfl,_,rfl,by rw[dW,Nu n];show ak q⟩
theorem tu{i:Nat}{D:Ends}{t u:L2.TS}{a:Addr}{c d:Nat}{s:Str}(b:Z[i]?=some (some (.ref a)))(h:H a=some (.tup (V.str (txt [c])::xs)))(e:s=txt [d])(n:c=d)(q:t D Z H):ng (ki (tOp rEq (tOp (iN []) (cD i) (L2.tC (.int 0))) (L2.tC (.str s)))) t u D Z H:=by subst e;show⟨_,b,a,_,_,_,rfl,rfl,SqT.of h,jq _ _,rfl,_,rfl,by rw[dW,Nt n];show aA q⟩
theorem fu{i:Nat}{D:Ends}{B:TT}{t u:L2.TS}{a:Addr}{c d:Nat}{s:Str}(b:Z[i]?=some (some (.ref a)))(h:H a=some (.tup (V.str (txt [c])::xs)))(e:s=txt [d])(n:¬c=d)(q:u D Z H):ng (uh (ki (tOp rEq (tOp (iN []) (cD i) (L2.tC (.int 0))) (L2.tC (.str s)))) B) t u D Z H:=by subst e;show⟨_,b,a,_,_,_,rfl,rfl,SqT.of h,jq _ _,rfl,_,rfl,by rw[dW,Nu n];show ak (ak q)⟩
theorem jc{i:Nat}{D:Ends}{B:TT}{t u:L2.TS}{a:Addr}{c d:Nat}{s:Str}(b:Z[i]?=some (some (.ref a)))(h:H a=some (.tup (V.str (txt [c])::xs)))(e:s=txt [d])(n:c=d)(q:B Z H (tIfK t u D Z)):ng (uh (ki (tOp rEq (tOp (iN []) (cD i) (L2.tC (.int 0))) (L2.tC (.str s)))) B) t u D Z H:=by subst e;show⟨_,b,a,_,_,_,rfl,rfl,SqT.of h,jq _ _,rfl,_,rfl,by rw[dW,Nt n];show aA q⟩
def DJ(φ:Nat->Int)(vs:List V)(H:Hp)(Q:VK)(L t:Addr)(c:List V)(ah:Lps)(loop:List Nat)(a:Lt)(n x:Nat):Prop:=vs=[.ref L,.ref t,.int (φ x)]/\H L=some (.lst c)/\cu φ H c (ah++[loop])/\H t=some (.tup (ltV a))/\Lets a/\ay ah loop a n=some x/\(∀l∈ah++[loop],2<=l.length/\l.length<=1000)/\ah.length<=900/\
 ∀H' d,But L H H'->H' L=some (.lst d)->cu φ H' d (aM ah loop a x)->(∀b,V.ref b∈d->V.ref b∈c\/H b=none)->Q .non H'
def oP(φ:Nat->Int):Sp:=λvs H Q _=>Exists (Ex8 (DJ φ vs H Q))
section
variable {φ:Nat->Int}
theorem j4:bH ["_law_loops","_law_letter_here","_law_x","_law_loop","_law_a","_law_b","_law_k","_law_other"] ["_law_loops","_law_letter_here","_law_x"] (a7 mB):=⟨rfl,rfl,rfl,⋯,rfl,⋯,⋯⟩
theorem Eh{f:Addr}(U:Fun K "_law_step" "_law_step" mB f fd)(T:cW mg):FnOk P w K mg base CX0 1 f fd ["_law_loops","_law_letter_here","_law_x"] (oP φ):=by
 show U.ok j4 (by rintro _ _ _ _ ⟨_,_,_,_,_,_,_,_,rfl,_⟩;rfl) λNz A outer s H vs Q E hr h=>?_
 obtain⟨L,t,vl,ah,loop,a,n,x,rfl,S,hp,ht,ha,X,u,hn,q⟩:=h;show⟨_,af (sx 3 j4.nd (tP bT qE qF zO (pv 0)))
  (af (gr (dN dO (pv 3) eL (dr aa)) (tM rfl (bL (gx 4 j4.nd) (bL (gx 5 j4.nd) dD))))
  (af (aY (aH bY (ixx bV (pv 1) aa) bB (nomark _)) (aj (bU (bQ bT cG cH cq (pv 0) (pa1 ((au du (bf (ai (pv 4) (pa1 (pv 2)))) (dN dO (pv 3) (dr aa) eL))))))) a8)
  (af (aY (aH bY (ixx bV (pv 1) aa) bB (nomark _)) (aj (bU (bQ bT cG cH cq (pv 0) (pa1 ((au du (bf (pa1 (pv 4))) (dN dO (pv 3) (dr aa) eL))))))) a8)
  (af (aY (aH bY (ixx bV (pv 1) aa) bB (nomark _)) (aj (bU (bQ bT cG cH cq (pv 0) (pa1 ((au du (bf (pa1 (pv 2))) (dN dO (pv 3) (dr aa) (dr (dg da aa))))))))) a8)
  (af (aY (PW.pt (dR (aH bY (ixx bV (pv 1) aa) bB (nomark _)) (eK (aH bY (ixx bV (pv 1) aa) aa (nomark _))))) (af (bU (bQ bT cG cH cq (pv 0) (pa1 ((au du (bf (pa1 (pv 4))) (dN dO (pv 3) (dr (ixx bV (pv 1) aa)) eL)))))) (aj (bU (bQ bT cG cH cq (pv 0) (pa1 ((au du (bf (pa1 (pv 2))) (dN dO (pv 3) (dr aa) (dr (ixx bV (pv 1) aa)))))))))) a8)
  (aj (aY (PW.pt (dR (aH bY (ixx bV (pv 1) aa) bB (nomark _)) (eK (aH ko (ixx bV (pv 1) aa) aa (nomark _)))))
   (af (sx 6 j4.nd (ixx bV (pv 1) aa))
   (af (sx 7 j4.nd (bQ bT qE qF rJ (pv 0) (pa1 (au gv (pln T.len (pv 0)) (ixx bV (pv 1) aa)))))
   (aj (bU (bQ bT cG cH cq (pv 0) (pa1 ((au du (au du (au du (au du (bf (pa1 (pv 4))) (dN dO (pv 7) (dr (pv 6)) eL)) (dN dO (pv 7) eL (dr (pv 6)))) (bf (pa1 (pv 2)))) (dN dO (pv 3) (dr aa) eL))))))))) a8))))))),?_⟩
 have cd:=line5000;obtain⟨va,v,rfl,ad,B,rfl,hB⟩:=jT hp;have ce:=aT ad;have am:=u loop ∅;have hg:=zU am.1;rw[tR] at ht;have a0:atI (V.str (txt [sgn a])::ltR a) 0=some (V.str (txt [sgn a])):=jq _ _;have a3:∀b,V.ref b∈va->b≠L:=λb bi z=>by
  obtain⟨l,hl,e⟩:=FL ad bi;rw[z,S] at e;injection e with e;injection e with e;have h2:=(u l (bM _ hl)).1;cases l with
  |nil=>simp at h2
  |cons c l=>
   cases ad with
   |nil=>cases bi
   |cons be _=>
    obtain⟨b',e1,_⟩:=be;rw[e1] at e;simp[cV] at e
 have a4:B≠L:=λz=>by
  rw[z,S] at hB;injection hB with e;injection e with e;have h2:=am.1;cases loop with
  |nil=>simp at h2
  |cons c l=>
   cases ad with
   |nil=>simp[cV] at e
   |cons be _=>
    obtain⟨b',e1,_⟩:=be;rw[e1] at e;simp[cV] at e
 have an:t≠L:=bD ht S (by intro z;cases z);show⟨_,rfl,.inl ⟨rfl,_,SqL.of S⟩,L,_,_,rfl,rfl,S,(by simp:(va++[V.ref B])[(va++[V.ref B]).length-1]?=some (V.ref B)),λH1 k1 y1=>?_⟩;rw[uA] at y1;have b1:But L H H1:=λb o n e=>(k1 b n).trans e;show⟨_,rfl,2,rfl,B,_,rfl,SqL.of (b1 _ _ a4 hB),λp2 H2 h2 s2 y2=>?_⟩;rw[ua loop 2 2 rfl] at y2;have b2:=b1.same s2;have eT:loop.take 2=[g1 loop,g2 loop]:=by obtain⟨r,e⟩:=two am.1;rw[e];rfl
 rw[eT] at y2;show⟨p2,_,rfl,SqL.of y2,rfl,_,_,rfl,_,_,rfl,rfl,?_⟩;have D:=s2 _ _ y1;have g:=b2 _ _ an ht;have a5:=b2 _ _ a4 hB;clear y2;have fin:∀(H':Hp)(p:Addr)(l:List Nat),But L H H'->H' p=some (.lst (cV φ l))->H p=none->H' L=some (.lst (va++[.ref p]))->aM ah loop a x=ah++[l]->Q .non H':=λH' p l bb bw bA bF e=>by
  show q H' _ bb bF ?_ ?_
  .rw[e];show cZ (cu.move ad λb o u e=>bb b o (a3 b u) e) (.cons ⟨p,rfl,bw⟩ .nil)
  intro b u;rcases aw.mp u with z|z
  .exact .inl (bM _ z)
  have:b=p:=‹z›
  rw[this];show .inr bA
 cases a with
 |sg c=>
  simp only[K31.Lets] at ha;simp only[ay] at X;rcases ha with rfl|rfl|rfl|rfl
  .refine tu rfl g sC rfl ?_;show⟨_,rfl,.inl ⟨rfl,_,SqL.of D⟩,_,rfl,_,rfl,lit2,λY H3 h3 m Z=>?_⟩;have C:=b2.same m;show⟨_,rfl,1,rfl,B,_,rfl,SqL.of (m _ _ a5),λp4 H4 h4 d N=>?_⟩;rw[mn loop 1 1 rfl] at N;have z3:H4 Y=some (.lst (cV φ [g1 loop,x])):=d _ _ Z;show⟨Y,p4,_,_,rfl,rfl,z3,N,(by rw[cJ,cJ,bG];change 2+_<=_;lia),λy H5 h5 I M=>?_⟩;rw[gA] at M;have n5:=(C.same d).free (d _ _ (m _ _ D)) h5;have b5:=(C.same d).same I;have ap:=I _ _ (d _ _ (m _ _ D));show⟨L,_,_,rfl,rfl,ap,(),λH6 k6 y6=>?_⟩;have R:=b5.wr k6;have al:y≠L:=aG (ar S n5);have O:H6 t=some (.tup (V.str (txt [sgn (.sg 67)])::ltR (.sg 67))):=R _ _ an ht;show fC rfl O sR ⋯ ?_;show fC rfl O sL ⋯ ?_;show fu rfl O s83 ⋯ ?_;show fu rfl O s83 ⋯ ?_;show fin H6 y _ R ((k6 y al).trans M) n5 y6 ?_;obtain⟨r,e⟩:=two am.1;change ah++[loop.take 1++x::loop.drop 1]=_;rw[e];rfl
  .refine fC rfl g sC ⋯ ?_;show tu rfl g sR rfl ?_;simp at X;show⟨_,rfl,.inl ⟨rfl,_,SqL.of D⟩,_,rfl,lit1,λY H3 h3 m Z=>?_⟩;have C:=b2.same m;show⟨_,rfl,2,rfl,B,_,rfl,SqL.of (m _ _ a5),λp4 H4 h4 d N=>?_⟩;rw[mn loop 2 2 rfl] at N;have z3:H4 Y=some (.lst (cV φ [g1 loop])):=d _ _ Z;show⟨Y,p4,_,_,rfl,rfl,z3,N,(by rw[cJ,cJ,bG];change 1+_<=_;lia),λy H5 h5 I M=>?_⟩;rw[gA] at M;have n5:=(C.same d).free (d _ _ (m _ _ D)) h5;have b5:=(C.same d).same I;have ap:=I _ _ (d _ _ (m _ _ D));show⟨L,_,_,rfl,rfl,ap,(),λH6 k6 y6=>?_⟩;have R:=b5.wr k6;have al:y≠L:=aG (ar S n5);have O:H6 t=some (.tup (V.str (txt [sgn (.sg 82)])::ltR (.sg 82))):=R _ _ an ht;show fC rfl O sL ⋯ ?_;show fu rfl O s83 ⋯ ?_;show fu rfl O s83 ⋯ ?_;show fin H6 y _ R ((k6 y al).trans M) n5 y6 ?_;obtain⟨r,e⟩:=two am.1;change ah++[loop.take 1++loop.drop 2]=_;rw[e];rfl
  .refine fC rfl g sC ⋯ ?_;show fC rfl g sR ⋯ ?_;show tu rfl g sL rfl ?_;show⟨_,rfl,.inl ⟨rfl,_,SqL.of D⟩,_,rfl,lit1,λY H3 h3 m Z=>?_⟩;have C:=b2.same m;show⟨_,rfl,1,rfl,_,rfl,_,rfl,B,_,rfl,SqL.of (m _ _ a5),λp4 H4 h4 d N=>?_⟩;rw[Kv] at N;have z3:H4 Y=some (.lst (cV φ [x])):=d _ _ Z;show⟨Y,p4,_,_,rfl,rfl,z3,N,(by rw[cJ,cJ,qr,bG];change 1+_<=_;lia),λy H5 h5 I M=>?_⟩;rw[gA] at M;have n5:=(C.same d).free (d _ _ (m _ _ D)) h5;have b5:=(C.same d).same I;have ap:=I _ _ (d _ _ (m _ _ D));show⟨L,_,_,rfl,rfl,ap,(),λH6 k6 y6=>?_⟩;have R:=b5.wr k6;have al:y≠L:=aG (ar S n5);have O:H6 t=some (.tup (V.str (txt [sgn (.sg 76)])::ltR (.sg 76))):=R _ _ an ht;show fu rfl O s83 ⋯ ?_;show fu rfl O s83 ⋯ ?_;show fin H6 y _ R ((k6 y al).trans M) n5 y6 rfl
  show fC rfl g sC ⋯ ?_;show fC rfl g sR ⋯ ?_;show fC rfl g sL ⋯ ?_;show fu rfl g s83 ⋯ ?_;show fu rfl g s83 ⋯ ?_;show q H2 va b2 D (cu.move ad λb o u e=>b2 b o (a3 b u) e) λb u=>.inl (bM _ u)
 |sp j k=>
  have a1:atI (V.str (txt [sgn (.sp j k)])::ltR (.sp j k)) 1=some (V.int (j:Nat)):=rfl;have a2:atI (V.str (txt [sgn (.sp j k)])::ltR (.sp j k)) 2=some (V.int (k:Nat)):=rfl;show fC rfl g sC (by simp[sgn]) ?_;show fC rfl g sR (by simp[sgn]) ?_;show fC rfl g sL (by simp[sgn]) ?_;show jc rfl g s83 rfl ?_;show⟨_,rfl,t,_,_,_,rfl,rfl,SqT.of g,a1,rfl,_,rfl,?_⟩;rw[kD];simp only[ay] at X;by_cases hj:j=0
  .subst hj;rw[Nt (show ((0:Nat):Int)=0 from rfl)];show aA ?_;rw[Nq rfl] at X;by_cases hk:2<k/\k+1<loop.length
   .rw[Nq hk] at X;show⟨_,rfl,.inl ⟨rfl,_,SqL.of D⟩,_,rfl,lit1,λY H3 h3 m Z=>?_⟩;have C:=b2.same m;show⟨_,rfl,_,rfl,t,_,_,_,rfl,rfl,SqT.of (m _ _ g),a2,_,rfl,B,_,rfl,SqL.of (m _ _ a5),λp4 H4 h4 d N=>?_⟩;rw[mn loop (k:Int) k rfl] at N;have z3:H4 Y=some (.lst (cV φ [g1 loop])):=d _ _ Z;show⟨Y,p4,_,_,rfl,rfl,z3,N,(by rw[cJ,cJ,bG];change 1+_<=_;lia),λy H5 h5 I M=>?_⟩;rw[gA] at M;have n5:=(C.same d).free (d _ _ (m _ _ D)) h5;have b5:=(C.same d).same I;have ap:=I _ _ (d _ _ (m _ _ D));show⟨L,_,_,rfl,rfl,ap,(),λH6 k6 y6=>?_⟩;have R:=b5.wr k6;have al:y≠L:=aG (ar S n5);have O:=R _ _ an ht;have b0:=R _ _ a4 hB;show⟨_,rfl,.inl ⟨rfl,_,SqL.of y6⟩,_,rfl,lit1,λp7 H7 h7 s7 y7=>?_⟩;have b7:=R.same s7;show⟨_,rfl,1,rfl,_,rfl,t,_,_,_,rfl,rfl,SqT.of (s7 _ _ O),a2,_,rfl,B,_,rfl,SqL.of (s7 _ _ b0),λp8 H8 h8 s8 y8=>?_⟩;rw[Ji loop 1 (k:Int) 1 k rfl rfl] at y8;have z7:H8 p7=some (.lst (cV φ [x])):=s8 _ _ y7;show⟨p7,p8,_,_,rfl,rfl,z7,y8,(by rw[cJ,cJ,bG,bu];change 1+_<=_;lia),λp9 H9 h9 s9 y9=>?_⟩;rw[gA] at y9;have bl:=s8 _ _ (s7 _ _ y6);have n9:=(b7.same s8).free bl h9;have b9:=(b7.same s8).same s9;show⟨L,_,_,rfl,rfl,s9 _ _ bl,(by rw[ao,aV];lia),λHa ka ya=>?_⟩;have ba:=b9.wr ka;have b4:p9≠L:=aG (ar S n9);have ta:=ba _ _ an ht;show jc rfl ta s83 rfl ?_;show⟨_,rfl,t,_,_,_,rfl,rfl,SqT.of ta,a1,_,_,rfl,rfl,_,rfl,?_⟩;rw[Nu ()];show ak ?_;have z5:Ha y=some (.lst (cV φ ([g1 loop]++loop.drop k))):=(ka y al).trans (s9 _ _ (s8 _ _ (s7 _ _ ((k6 y al).trans M))));have z9:Ha p9=some (.lst (cV φ ([x]++(loop.take k).drop 1))):=(ka p9 b4).trans y9;show q Ha _ ba ya ?_ ?_
    .have e:aM ah loop (.sp 0 k) x=ah++[loop.take 1++loop.drop k]++[x::(loop.take k).drop 1]:=by
      change ah++[loop.take 1++loop.drop k,x::(loop.take k).drop 1]=_;simp
     rw[e];have e1:loop.take 1=[g1 loop]:=by obtain⟨r,e⟩:=two am.1;rw[e];rfl
     rw[e1];show cZ (cZ (cu.move ad λb o u e=>ba b o (a3 b u) e) (.cons ⟨y,rfl,z5⟩ .nil)) (.cons ⟨p9,rfl,z9⟩ .nil)
    intro b u;rcases aw.mp u with z|z
    .rcases sW n5 b z with z|z
     .exact .inl (bM _ z)
     show .inr z
    have:b=p9:=‹z›
    rw[this];show .inr n9
   rw[Np hk] at X;cases X
  rw[Nu ()];show ak ?_;rw[Np hj] at X;by_cases hk:j<=ah.length
  .rw[Nq hk] at X;show jc rfl g s83 rfl ?_;show⟨_,rfl,t,_,_,_,rfl,rfl,SqT.of g,a1,_,_,rfl,rfl,_,rfl,?_⟩;rw[Nt ()];show aA ?_;have hi:ah.length-j<ah.length:=();have ho:ah[ah.length-j]?=some (ah.getD (ah.length-j) []):=by simp[List.getD,hi]
   have cf:=u _ (bM _ (a_ ho));obtain⟨v,hv,G,rfl,hG⟩:=mQ ad ho;have b8:=a3 G (a_ hv);have es:aM ah loop (.sp j k) x=ah.eraseIdx (ah.length-j)++[loop.take 1++(ah.getD (ah.length-j) []).drop k++(ah.getD (ah.length-j) []).take k++x::loop.drop 1]:=by unfold aM;dsimp only;rw[Np hj]
   generalize ah.getD (ah.length-j) []=o at *;show⟨_,rfl,t,_,_,_,rfl,rfl,SqT.of g,a2,?_⟩;have ca:seqIndex? ((va.length:Int)-(j:Int)) va.length=some (ah.length-j):=by
    show (oW (n:=va.length) (i:=(va.length:Int)-(j:Int)) (j:=ah.length-j) ?_).1;unfold ixN;rw[Nq (),Nq ()]
    congr 1
    lia
   show⟨_,rfl,.inl ⟨rfl,_,SqL.of D⟩,_,rfl,L,_,rfl,.inl (SqL.of D),_,rfl,t,_,_,_,rfl,rfl,SqT.of g,a1,_,_,rfl,rfl,L,_,_,ah.length-j,V.ref G,rfl,rfl,D,(),(),ca,hv,λH3 k3 Z=>?_⟩;have C:=b2.wr k3;have t3:=C _ _ an ht;have cb:=C _ _ a4 hB;have bm:=C _ _ b8 hG;show⟨_,rfl,.inl ⟨rfl,_,SqL.of Z⟩,_,rfl,lit1,λp4 H4 h4 d N=>?_⟩;show⟨_,rfl,_,rfl,_,rfl,G,_,rfl,SqL.of (d _ _ bm),λy H5 h5 I M=>?_⟩;rw[mn o (k:Int) k rfl] at M;have z4:H5 p4=some (.lst (cV φ [g1 loop])):=I _ _ N;show⟨p4,y,_,_,rfl,rfl,z4,M,(by rw[cJ,cJ,bG];change 1+_<=_;lia),λp6 H6 h6 s6 y6=>?_⟩;rw[gA] at y6;have bn:=(d.trans I).trans s6;show⟨_,rfl,_,rfl,_,rfl,G,_,rfl,SqL.of (bn _ _ bm),λp7 H7 h7 s7 y7=>?_⟩;rw[ua o (k:Int) k rfl] at y7;show⟨p6,p7,_,_,rfl,rfl,s7 _ _ y6,y7,(by rw[cJ,cJ,ao,bG,bu];change 1+_+_<=_;lia),λp8 H8 h8 s8 y8=>?_⟩;rw[gA] at y8;show⟨_,rfl,lit1,λp9 H9 h9 s9 y9=>?_⟩;have z9:H9 p9=some (.lst (cV φ [x])):=y9;show⟨p8,p9,_,_,rfl,rfl,s9 _ _ y8,z9,(by rw[cJ,cJ,ao,ao,bG,bu];change 1+_+_+1<=_;lia),λpa Ha ga sa ya=>?_⟩;rw[gA] at ya;have bt:=(((bn.trans s7).trans s8).trans s9).trans sa;show⟨_,rfl,1,rfl,B,_,rfl,SqL.of (bt _ _ cb),λpb Hb gb sb yb=>?_⟩;rw[mn loop 1 1 rfl] at yb;show⟨pa,pb,_,_,rfl,rfl,sb _ _ ya,yb,(by rw[cJ,cJ,ao,ao,ao,bG,bu,bG];change 1+_+_+1+_<=_;lia),λpc Hc gc sc yc=>?_⟩;rw[gA] at yc;have a6:=bt.trans sb;have nc:=(C.same a6).free (a6 _ _ Z) gc;have bc:=(C.same a6).same sc;show⟨L,_,_,rfl,rfl,(a6.trans sc) _ _ Z,(by have:=List.length_eraseIdx_le va (ah.length-j);lia),λHd kd yd=>?_⟩;have bd:=bc.wr kd;have cc:pc≠L:=aG (ar S nc);show q Hd _ bd yd ?_ ?_
   .rw[es];show cZ ?_ (.cons ⟨pc,rfl,?_⟩ .nil)
    .have h:=cu.move ad λb o u e=>bd b o (a3 b u) e;rw[AH,AH];show cZ (sP _ h) (sS _ h)
    have e:=(kd pc cc).trans yc;have e1:loop.take 1=[g1 loop]:=by obtain⟨r,e⟩:=two am.1;rw[e];rfl
    have e2:[g1 loop]++o.drop k++o.take k++[x]++loop.drop 1=loop.take 1++o.drop k++o.take k++x::loop.drop 1:=by rw[e1];simp
    rw[e2] at e;show e
   intro b u;rcases sW nc b u with z|z
   .exact .inl (bM _ (Lg z))
   show .inr z
  rw[Np hk] at X;cases X
end
end K71
end
section
namespace K71
open PySem L2 K51 K31 K15
theorem Gj(φ:Nat->Int)(l:List Nat):(cV φ l).all gF=true:=by rw[iq];intro v a;obtain⟨n,_,rfl⟩:=aq.mp a;rfl
theorem IK{φ:Nat->Int}(a:Inj φ)(c:Nat)(l:List Nat):inV (V.int (φ c)) (cV φ l)=decide (c∈l):=by
 unfold inV cV;rw[qh,cR,decide_eq_true_eq,qg];constructor
 .rintro⟨x,b,e⟩;have:φ x=φ c:=by simpa [eqV] using e
  rw[<-a this];show b
 intro h;show⟨c,h,by simp[eqV]⟩
theorem decC{φ:Nat->Int}(c:Inj φ)(a b:Nat):decide (V.int (φ a)=V.int (φ b))=decide (a=b):=by rw[cR,decide_eq_true_eq,decide_eq_true_eq];show⟨λz=>by injection z with z;show c z,λz=>by rw[z]⟩
structure Rot(E:Nat->Nat->Nat->Prop)(W:Side->Prop)(a x z:Nat)(rs:List Nat):Prop where
 b:rs[0]?=some a
 e:rs[rs.length-1]?=some z
 st:∀i p q,rs[i]?=some p->rs[i+1]?=some q->E p x q
 no:∀i p,i+1<rs.length->rs[i]?=some p->¬W (x,p)
 ye:W (x,z)
def Which(W:Side->Prop)(A:Nat->Nat->Nat->Nat->Prop)(a b x z:Nat)(lt:Lt):Prop:=
 lt=.sg 69/\W (b,x)/\z=a\/lt=.sg 82/\W (b,x)/\z≠a\/lt=.sg 76/\¬W (b,x)/\z=a\/∃j k,lt=.sp j k/\¬W (b,x)/\z≠a/\A j k x z
def CD(φ:Nat->Int)(vs:List V)(H:Hp)(Q:VK)(L D C:Addr)(c:List V)(ah:Lps)(a b:Nat)(t:List Nat)(ts:List Tri)(cs:List Nat)(x z:Nat)(rs:List Nat):Prop:=
 vs=[.ref L,.ref D,.ref C,.int (φ x)]/\H L=some (.lst c)/\cu φ H c (ah++[a::b::t])/\((ah++[a::b::t]).map List.length).sum<=1000/\H D=some (.dT ((ents ts).map (enC φ)))/\((ents ts).map (·.1)).Nodup/\H C=some (.lst (cV φ cs))/\
 (x∈cs->Rot (En ts) (λs=>s∈wl (ah++[a::b::t])) a x z rs)/\
 ∀t' lt H',H t'=none->Same H H'->H' t'=some (.tup (ltV lt))->(x∉cs/\lt=.sg 67\/x∈cs/\Which (λs=>s∈wl (ah++[a::b::t])) (At (ah++[a::b::t])) a b x z lt)->Q (.ref t') H'
def rz(φ:Nat->Int):Sp:=λvs H Q _=>Exists (Ex13 (CD φ vs H Q))
section
variable {φ:Nat->Int}
theorem iz:bH ["_law_loops","_law_thirds_here","_law_come","_law_x","_law_a","_law_b","_law_wanted_here","_law_q","_law_j","_law_k"] ["_law_loops","_law_thirds_here","_law_come","_law_x"] (a7 lE):=⟨rfl,rfl,rfl,⋯,rfl,⋯,⋯⟩
theorem CP(N:Inj φ){f f1:Addr}{fd d1:FuncData}(U:Fun K "_law_letter" "_law_letter" lE f fd)
  (GW:Use P w K mg base 1 "_law_wanted" ["_law_loops"] (oy φ) f1 d1) :
  FnOk P w K mg base CX0 2 f fd ["_law_loops","_law_thirds_here","_law_come","_law_x"] (rz φ):=by
 show U.ok iz (by rintro _ _ _ _ ⟨_,_,_,_,_,_,_,_,_,_,_,_,_,rfl,_⟩;rfl) λNz A outer s H vs Q E hr h=>?_
 obtain⟨L,D,C,vl,ah,a,b,t,ts,cs,x,z,rs,rfl,hL,hp,am,hD,an,hC,ap,q⟩:=h;have n:=eu hr;show⟨_,af (gr (dN dO (ixx aJ (pv 0) (dg da aa)) eL (dr aa)) (tM rfl (bL (gx 4 iz.nd) (bL (gx 5 iz.nd) dD))))
  (af (aY (aH i6 (pv 3) (pv 2) rfl) (aj (aU (aK (pa1 bB)))) a8)
  (af (sx 6 iz.nd (uc GW hr (pa1 (pv 0))))
  (af (sx 7 iz.nd (pv 4))
  (af (i_ cF (mP (qY n (aK (ai (pv 3) (pa1 (pv 7)))) (pv 6))) (aj (sx 7 iz.nd (hU n (pv 1) (aK (ai (pv 7) (pa1 (pv 3)))) (λ_ _=>rfl)))))
  (af (aY (PW.pt (dR (mP (mT n (aK (ai (pv 5) (pa1 (pv 3)))) (pv 6))) (eK (aH bY (pv 7) (pv 4) (nomark _))))) (aj (aU (aK (pa1 bB)))) a8)
  (af (aY (mP (mT n (aK (ai (pv 5) (pa1 (pv 3)))) (pv 6))) (aj (aU (aK (pa1 bB)))) a8)
  (af (aY (aH bY (pv 7) (pv 4) (nomark _)) (aj (aU (aK (pa1 bB)))) a8)
  (af (gr (hU n (pv 6) (aK (ai (pv 3) (pa1 (pv 7)))) (λ_ _=>rfl)) (eN rfl (bL (gx 8 iz.nd) (bL (gx 9 iz.nd) dD))))
  (aj (aU (aK (ai bB (ai (pv 8) (pa1 (pv 9))))))))))))))),?_⟩
 have a3:=line5000;obtain⟨va,v,rfl,a4,B,rfl,hB⟩:=jT hp;show⟨_,rfl,_,rfl,L,_,_,_,rfl,rfl,SqL.of hL,gB (x:=V.ref B) ∅,2,rfl,B,_,rfl,SqL.of hB,λp1 H1 h1 s1 O=>?_⟩;rw[ua _ 2 2 rfl] at O;have O:H1 p1=some (.lst (cV φ [a,b])):=O;show⟨p1,_,rfl,SqL.of O,rfl,_,_,rfl,_,_,rfl,rfl,?_⟩;show⟨_,rfl,_,rfl,C,_,rfl,.inl (SqL.of (s1 _ _ hC)),rfl,Gj _ _,_,rfl,?_⟩;change if (if true=true then !inV (V.int (φ x)) (cV φ cs) else _)=true then _ else _
 rw[Nq rfl,IK N];by_cases c:x∈cs
 .rw[Nt c];show ak ?_;show⟨_,rfl,L,_,_,rfl,s1 _ _ hL,cu.same s1 hp,am,λW kw H2 a5 s2 o l=>?_⟩;have R:=ap c;have a0:0<rs.length:=(aI.mp R.b).1;have a1:=s2 _ _ (s1 _ _ hD);show⟨_,rfl,?_⟩;show ow (λZ H'=>Z=[some (V.ref L),some (.ref D),some (.ref C),some (.int (φ x)),some (.int (φ a)),some (.int (φ b)),some (.ref W),some (.int (φ z)),none,none]/\Same H2 H') (λNX hOut=>?_) ?_
  .refine⟨λm Z H'=>∃i p,Z=[some (V.ref L),some (.ref D),some (.ref C),some (.int (φ x)),some (.int (φ a)),some (.int (φ b)),some (.ref W),some (.int (φ p)),none,none]/\m=rs.length-i/\i<rs.length/\rs[i]?=some p/\Same H2 H',⟨_,0,a,rfl,rfl,a0,R.b,.refl _⟩,?_⟩;rintro m Z H' ⟨i,p,rfl,rfl,hi,Y,sm⟩;show⟨_,rfl,_,rfl,lit2,λk1 H3 g1 s3 y3=>?_⟩;have ad:=sm.trans s3;show⟨_,rfl,W,_,rfl,DGet.t (k:=kc φ x p) (ad _ _ o) y3,_,rfl,?_⟩;by_cases hl:i+1<rs.length
   .have a2:valV kw (kc φ x p)=none:=by
     cases e:valV kw (kc φ x p) with
     |none=>rfl
     |some v=>show (R.no i p hl Y (l.yes x p v e).1).elim
    rw[a2];have hq:rs[i+1]?=some (rs.getD (i+1) 0):=by simp[List.getD,hl]
    generalize rs.getD (i+1) 0=p' at hq;have en:=R.st i p p' Y hq;show aA ⟨_,λZ' H' h=>h,?_⟩;show⟨_,rfl,_,rfl,_,rfl,lit2,λk2 H4 g2 s4 y4=>?_⟩;have al:=ad.trans s4;show⟨D,V.int (φ p'),rfl,vT N an en ▸ DGet.t (k:=kc φ p x) (al _ _ a1) y4,?_⟩;show⟨_,(),i+1,p',rfl,rfl,hl,hq,al⟩
   have ei:i=rs.length-1:=();have ez:p=z:=by have:=R.e;rw[<-ei,Y] at this;show cy this
   subst ez;cases e:valV kw (kc φ x p) with
   |none=>show (l.no x p e R.ye).elim
   |some v=>show ak (hOut _ _ ⟨rfl,ad⟩)
  rintro Z H' ⟨rfl,sm⟩;have d:=s1.trans s2;show⟨_,rfl,_,rfl,lit2,λk5 H5 g5 s5 y5=>?_⟩;have r:=sm.trans s5;show⟨_,rfl,W,_,rfl,DGet.t (k:=kc φ b x) (r _ _ o) y5,_,rfl,?_⟩;cases e:valV kw (kc φ b x) with
  |some v=>
   have hw:=(l.yes b x v e).1;show aA ⟨_,rfl,_,rfl,rfl,_,rfl,?_⟩;change if decide (V.int (φ z)=V.int (φ a))=true then _ else _
   rw[decC N];by_cases hz:z=a
   .rw[Nt hz];show aA ⟨lit1,λp6 H6 h6 u y=>?_⟩;show q p6 (.sg 69) H6 ((d.trans r).free h6) ((d.trans r).trans u) (y.trans ltE) (.inr ⟨c,.inl ⟨rfl,hw,hz⟩⟩)
   rw[Nu hz];show ak ?_;show⟨_,rfl,_,rfl,lit2,λk6 H6 g6 u y=>?_⟩;have g:=r.trans u;show⟨_,rfl,W,_,rfl,DGet.t (k:=kc φ b x) (g _ _ o) y,_,rfl,?_⟩;rw[e];show aA ⟨lit1,λp7 T h7 I M=>?_⟩;show q p7 (.sg 82) T ((d.trans g).free h7) ((d.trans g).trans I) (M.trans K51.ltR) (.inr ⟨c,.inr (.inl ⟨rfl,hw,hz⟩)⟩)
  |none=>
   have hw:=l.no b x e;show ak (ak ?_);show⟨_,rfl,_,rfl,lit2,λk6 H6 g6 u y=>?_⟩;have g:=r.trans u;show⟨_,rfl,W,_,rfl,DGet.t (k:=kc φ b x) (g _ _ o) y,_,rfl,?_⟩;rw[e];show ak ⟨_,rfl,_,rfl,rfl,_,rfl,?_⟩;change if decide (V.int (φ z)=V.int (φ a))=true then _ else _
   rw[decC N];by_cases hz:z=a
   .rw[Nt hz];show aA ⟨lit1,λp7 T h7 I M=>?_⟩;show q p7 (.sg 76) T ((d.trans g).free h7) ((d.trans g).trans I) (M.trans ltL) (.inr ⟨c,.inr (.inr (.inl ⟨rfl,hw,hz⟩))⟩)
   rw[Nu hz];show ak ?_;show⟨_,rfl,_,rfl,_,rfl,lit2,λk7 T g7 I M=>?_⟩;have X:=g.trans I;cases e':valV kw (kc φ x z) with
   |none=>show (l.no x z e' R.ye).elim
   |some v=>
    obtain⟨_,tt,j,k,rfl,ht,hA⟩:=l.yes x z v e';show⟨W,V.ref tt,rfl,e' ▸ DGet.t (k:=kc φ x z) (X _ _ o) M,tt,_,rfl,SqT.of (X _ _ ht),rfl,_,_,rfl,_,_,rfl,rfl,?_⟩;show⟨_,rfl,_,rfl,lit3,λp8 H8 h8 s8 y8=>?_⟩;show q p8 (.sp j k) H8 ((d.trans X).free h8) ((d.trans X).trans s8) (y8.trans (by rw[show (Str.ofString "S")=txt [83] from s83];rfl)) (.inr ⟨c,.inr (.inr (.inr ⟨j,k,rfl,hw,hz,hA⟩))⟩)
 rw[Nu c];show aA ?_;show⟨lit1,λp2 H2 h2 s2 y2=>?_⟩;show q p2 (.sg 67) H2 (s1.free h2) (s1.trans s2) (y2.trans ltC) (.inl ⟨c,rfl⟩)
end
end K71
end
section
namespace K71
open PySem L2 K51 K31 K15
theorem F7{ps:List Nat}{p:Nat}(h:ps[ps.length-1]?=some p):atI (nV ps) (-1)=some (V.int (p:Int)):=by have a:=(aI.mp h).1;unfold atI ixN;rw[bC,Np ⋯,Nq ()];change (nV ps)[_]?=_;rw[show (-1+(ps.length:Int)).toNat=ps.length-1 by lia];show dS h
theorem zR{ts:List Tri}{a b:Nat}:(a,b)∈(ents ts).map (·.1)↔∃c,En ts a b c:=by
 constructor
 .intro h;obtain⟨⟨⟨x,y⟩,c⟩,h1,h2⟩:=aq.mp h;cases h2;show⟨c,h1⟩
 rintro⟨c,h⟩;show aq.mpr ⟨_,h,rfl⟩
theorem sO{ts:List Tri}{a b:Nat}:aW (En ts) a b↔Rim ts (a,b):=by unfold aW Rim;rw[zR,zR]
theorem FZ{R:Nat->Nat->Prop}(one:∀a b c,R a b->R a c->b=c){l:List (Nat×Nat)}(nd:l.Nodup)(h:∀p∈l,R p.1 p.2):(l.map (·.1)).Nodup:=by
 induction l with
 |nil=>show kM
 |cons x l f=>
  rw[aR] at nd;rw[az,aR];show⟨λz=>?_,f nd.2 λp g=>h p (aZ _ g)⟩;obtain⟨y,d,e⟩:=aq.mp z;have h1:=h x dX;have h2:=h y (aZ _ d);rw[e] at h2;have:y=x:=n6 e (one _ _ _ h2 h1);rw[this] at d;show nd.1 d
theorem vW{ts:List Tri}(g:Good ts)(o:∀c,Co ts c->One (En ts) c):(∀a b c,aW (En ts) a b->aW (En ts) a c->b=c)/\(∀a b c,aW (En ts) a c->aW (En ts) b c->a=b)/\(∀a b,aW (En ts) a b->∃c,aW (En ts) b c):=by have f:∀{a b},aW (En ts) a b->Co ts a:=λ⟨⟨q,d⟩,_⟩=>⟨_,q,d⟩;have e:∀{a b},aW (En ts) a b->Co ts b:=λ⟨⟨q,d⟩,_⟩=>⟨q,_,g.sk.rot d⟩;show⟨λa b c h1 h2=>sN g.sk (o a (f h1)) h1 h2,λa b c h1 h2=>oT g.sk (o c (e h1)) h1 h2,λa b h=>xg g.sk (o b (e h)) h⟩
def NewL(H H':Hp)(T:Addr)(v:V)(l:List Nat):Prop:=∃a,v=.ref a/\H a=none/\a≠T/\H' a=some (.lst (nV l))
theorem zb{ls:List (List Nat)}(h:∀l∈ls,l≠[]):ls.length<=ls.flatten.length:=by
 induction ls with
 |nil=>simp
 |cons l ls a=>
  have h1:=a λm hm=>h m (aZ _ hm);have h2:0<l.length:=iR.mpr (h l dX);rw[kI,ao,aS];lia
theorem Gi{ls:List (List Nat)}{l:List Nat}(h:l∈ls):l.length<=ls.flatten.length:=by
 induction ls with
 |nil=>cases h
 |cons m ls a=>
  rw[kI,ao];rcases ae.mp h with rfl|h
  .lia
  have:=a h;lia
def nmV(x:Nat×Nat):Key×V:=(Sum.inl (x.1:Int),V.int (x.2:Int))
theorem G9{nm:List (Nat×Nat)}{c:Nat}(h:c∉nm.map (·.1)):valV (nm.map nmV) (Sum.inl (c:Int):Key)=none:=by
 induction nm with
 |nil=>simp[valV]
 |cons x nm a=>
  rw[az,ae,not_or] at h;rw[az,dq (λz=>h.1 ?_)]
  .exact a h.2
  have:(x.1:Int)=(c:Int):=vb z;lia
theorem Ih{nm:List (Nat×Nat)}{c x:Nat}(h:c∉nm.map (·.1)):cN (nm.map nmV) (Sum.inl (c:Int):Key) (V.int (x:Int))=(nm++[(c,x)]).map nmV:=by rw[rD _ (G9 h),aX];rfl
def nmF(nm:List (Nat×Nat))(c:Nat):Nat:=(nm.lookup c).getD 0
theorem zN{nm:List (Nat×Nat)}{c:Nat}(h:c∈nm.map (·.1)):∃k x:Nat,nm[k]?=some (c,x)/\valV (nm.map nmV) (Sum.inl (c:Int):Key)=some (V.int (x:Int))/\nmF nm c=x:=by
 induction nm with
 |nil=>cases h
 |cons y nm d=>
  obtain⟨a,x⟩:=y;by_cases e:a=c
  .subst e;show⟨0,x,rfl,dC (p:=nmV (a,x)) (r:=nm.map nmV) rfl,by simp[nmF]⟩
  rw[az] at h;obtain⟨k,f,h1,h2,b⟩:=d ((ae.mp h).resolve_left λz=>e z.symm);show⟨k+1,f,h1,?_,?_⟩
  .rw[az,dq (λz=>e ?_)]
   .exact h2
   have:(a:Int)=(c:Int):=vb z;lia
  have:(c==a)=false:=‹λz:c=a=>e z.symm›
  unfold nmF at b |-;rw[iT,this];show b
theorem C8{α:Type}(l:List α)(f:α->Bool){x:α}(b:x∈l)(hf:f x=false):(l.filter f).length<l.length:=by
 induction l with
 |nil=>cases b
 |cons a l c=>
  rw[iP];have:=kK f l;rcases ae.mp b with e|h
  .subst e;rw[Np (by rw[hf];decide),aS];lia
  have:=c h
  split<;>simp only[aS]<;>lia
theorem FY(l:List (Nat×Nat)):(l.map nmV).map (λp=>kV p.1)=nV (l.map (·.1)):=by rw[cU];unfold nV;rw[cU];rfl
theorem Gw(l:List (Nat×Nat))(c:Nat):jm (l.map nmV) (Sum.inl (c:Int):Key)=(l.filter λx=>decide (x.1≠c)).map nmV:=by
 unfold jm;rw[List.filter_map]
 congr 1
 apply K2;intro x _;change decide ((Sum.inl (x.1:Int):Key)≠Sum.inl (c:Int))=decide (x.1≠c);by_cases h:x.1=c
 .simp[h]
 have z:¬(Sum.inl (x.1:Int):Key)=Sum.inl (c:Int):=λz=>h (by have:(x.1:Int)=(c:Int):=vb z;lia);simp only[ne_eq,h,z,not_false_eq_true]
theorem yp:∀(rs l:List (Nat×Nat)),((l++rs).map (·.1)).Nodup->iF (l.map nmV) (rs.map nmV)=(l++rs).map nmV
 | [],l,_=>by rw[dh];rfl
 |x::rs,l,nd=>by
  have a:x.1∉l.map (·.1):=λz=>by
   rw[aX,bS] at nd;show nd.2.2 _ z _ ∅ rfl
  change iF (cN (l.map nmV) (Sum.inl (x.1:Int)) (V.int (x.2:Int))) (rs.map nmV)=_;rw[Ih a,yp rs (l++[(x.1,x.2)]) (by rw[bI];show nd),bI];rfl
theorem yh:∀{vs:List V}{rs:List (Nat×Nat)},SdsAt H vs rs->ie H vs (rs.map nmV)
 |_,_,.nil=>.nil
 |_,_,.cons ⟨a,b,c⟩ t=>.cons ⟨a,b,c⟩ (yh t)
def cI(l:List Nat):List Int:=l.map λn:Nat=>(n:Int)
theorem cI_V(l:List Nat):(cI l).map V.int=nV l:=by unfold cI nV;rw[cU];rfl
theorem xv{K:W.Frag}:∀{vs:List V}{ls:List (List Nat)},eD H vs ls->Lsts K H vs (ls.map cI)
 |_,_,.nil=>.nil
 |_,_,.cons ⟨a,b,c⟩ t=>.cons ⟨a,b,by rw[cI_V];show c⟩ (xv (K:=K) t)
theorem C0{l m:List Nat}{x y:Nat}(h1:l[0]?=some x)(h2:m[0]?=some y)(h:x<y):HT.lexLt (cI l) (cI m)=true:=by
 cases l with
 |nil=>cases h1
 |cons a l=>cases m with
  |nil=>cases h2
  |cons b m=>
   cases h1;cases h2;change HT.lexLt ((x:Int)::cI l) ((y:Int)::cI m)=true;rw[HT.lexLt_cons,Np (),Nt ()]
theorem F9{ks:List (List Int)}{ix:List Nat}(pm:ix.Perm (List.range ks.length))(f:ks.Pairwise λa b=>HT.lexLt a b=true)(d:(ix.map λi=>ks.getD i []).Pairwise (λa b=>HT.lexLt b a=false)):ix=List.range ks.length:=by
 rw[ff] at d;have c:∀i∈ix,i<ks.length:=λi hi=>fX.mp (pm.mem_iff.mp hi);have h1:ix.Pairwise (·<=·):=qe (λ{i j} hi e h=>by
  show AX λlt=>?_;have:=AV.mp f j i (c j e) (c i hi) lt;simp only[List.getD,aP (c i hi),aP (c j e),A3] at h;rw[this] at h;cases h) d
 show List.Perm.eq_of_pairwise (λa b _ _ h1 h2=>Nat.le_antisymm h1 h2) h1 (List.pairwise_le_range) pm
def DP(vs:List V)(H:Hp)(Q:VK)(T:Addr)(a:List V)(ts:List Tri):Prop:=vs=[.ref T]/\H T=some (.lst a)/\aO H a ts/\ts.length<=200/\Good ts/\(∀c,Co ts c->One (En ts) c)/\
 ∀p vs ls H',H p=none->Same H H'->H' p=some (.lst vs)->eD H' vs ls->Rims (aW (En ts)) ls->Q (.ref p) H'
def xW:Sp:=λvs H Q _=>Exists (Ex3 (DP vs H Q))
theorem Dm:bootBuiltins "min" = some (.builtin "min"):=⋯
section
theorem lQ:bH ["_law_triples","_law_ahead","_law_found","_law_rim","_law_corner"] ["_law_triples"] (a7 mG):=⟨rfl,rfl,rfl,⋯,rfl,⋯,⋯⟩
theorem Eo{f f1:Addr}{fd d1:FuncData}(U:Fun K "_law_rims" "_law_rims" mG f fd)(mS:mg "sorted" = none)(mD:mg "dict" = none)(mN:mg "min" = none)
  (GR:Use P w K mg base 2 "_law_rim_sides" ["_law_triples"] tX f1 d1) :
  FnOk P w K mg base CX0 3 f fd ["_law_triples"] xW:=by
 show U.ok lQ (by rintro _ _ _ _ ⟨_,_,_,rfl,_⟩;rfl) λNz A outer s H vs Q E S h=>?_
 obtain⟨T,vt,ts,rfl,hT,tr,hl,g,b1,q⟩:=h;have hu:=eu S;have ct:=line5000;show⟨_,af (sx 1 lQ.nd (eJ (Bw S.hd) (by rfl) mD Mu (pa1 (uc GR S (pa1 (pv 0))))))
  (af (sx 2 lQ.nd (bf de))
  (af (i_ cF (aH (Ip S.units0) (pv 1) xk (nomark _))
   (af (sx 3 lQ.nd (bf (pa1 (dZ (Bu rfl) (by rfl) mN Dm (pa1 (pv 1))))))
   (af (i_ cF (aH An (hU hu (pv 1) (ixx aJ (pv 3) (dg da aa)) (λ_ _=>rfl)) (ixx aJ (pv 3) aa) (nomark _))
    (aj (bU (bQ bT cG cH cq (pv 3) (pa1 (hU hu (pv 1) (ixx aJ (pv 3) (dg da aa)) (λ_ _=>rfl)))))))
   (af (cY cF rfl (cL (pv 3)) (gx 4 lQ.nd) (aj (bU (Ea (pv 1) (pv 4) ⟨rfl,rfl,rfl,rfl⟩))))
   (aj (bU (bQ bT cG cH cq (pv 2) (pa1 (pv 3)))))))))
  (aj (aU (dZ (Bo (AY (uM (show 2<=64 by decide) _) S.units)) (by rfl) mS kR (pa1 (pv 2))))))),?_⟩
 obtain⟨b2,a1,b3⟩:=vW g b1;show⟨_,rfl,T,vt,ts,rfl,hT,tr,hl,g.nd,λr zs rs H1 cv s1 y1 sd a5 b4 ⟨b5,b6⟩=>?_⟩;have a6:(rs.map (·.1)).Nodup:=FZ b2 b5 λp d=>sO.mpr (a5 p d);have ba:∀x:Nat×Nat,x∈rs↔aW (En ts) x.1 x.2:=λx=>⟨λh=>sO.mpr (a5 x h),λh=>b6 x (sO.mp h)⟩;show⟨r,zs,_,rfl,y1,yh sd,by rw[aE];lia,λu hA=>?_⟩;have b7:iF [] (rs.map nmV)=rs.map nmV:=yp rs [] a6;rw[b7];walk_at"H1 u hA H2 s2 y2";show⟨⋯,λF H3 hF s3 y3=>?_⟩;have b8:=s3 _ _ y2;have bb:u≠F:=ar y2 hF;have b9:=(s1.trans s2).trans s3;have ca:H F=none:=(s1.trans s2).free hF;have cb:H u=none:=s1.free hA;show⟨λm Z H'=>∃o3 M vs ls lf,Z=[some (.ref T),some (.ref u),some (.ref F),o3,M]/\m=lf.length/\Same H H'/\H' u=some (.dK (lf.map nmV))/\H' F=some (.lst vs)/\Paired (NewL H H' F) vs ls/\fB (aW (En ts)) ls/\
   (∀x:Nat×Nat,x∈lf↔aW (En ts) x.1 x.2/\x.1∉ls.flatten)/\(lf.map (·.1)).Nodup/\lf.length<=600/\(∀m∈ls,∀c,m[0]?=some c->∀p∈lf.map (·.1),c<p),
  ⟨_,none,none,[],[],rs,rfl,rfl,b9,b8,y3,.nil,fB.nil,λx=>by rw[ba x];simp,a6,b4,∅⟩,?_⟩
 rintro m Z H' ⟨o3,M,ah,ls,lf,rfl,rfl,sm,bc,bd,pr,N,mem,nd,cc,low⟩;show⟨_,rfl,λe H4 he I y4=>?_⟩;show⟨u,e,_,rfl,rfl,.inl (I _ _ bc),.inl y4,_,rfl,?_⟩;have cx:ls.length<=600:=by
  have h1:=zb λm hm=>(N.cyc m hm).ne;have h2:=oA N.nd (m:=rs.map (·.1)) λz hz=>by
   obtain⟨O,cd⟩:=N.in hz;show aq.mpr ⟨(z,O),(ba _).mpr cd,rfl⟩
  rw[aE] at h2;lia
 cases an:lf with
 |nil=>
  show ak ⟨_,rfl,F,ah,ls.map cI,rfl,SqL.of (I _ _ bd),xv (Paired.imp' (λ_ _ ⟨a,e1,_,_,e4⟩=>⟨a,e1,I _ _ e4⟩) pr),by rw[aT pr];lia,λp ix d pm pw=>?_⟩;have ce:Rims (aW (En ts)) ls:=N.done λp ⟨O,d⟩=>pZ λz=>by
   have:(p,O)∈lf:=(mem (p,O)).mpr ⟨d,λh=>z (jv.mp h)⟩;rw[an] at this;cases this
  have er:ix=List.range (ls.map cI).length:=F9 (by rw[aE,<-aT pr];show pm) (by
   rw[ff];show qe (λ{l m} hl hm h=>?_) N.rise;obtain⟨x,hx,_⟩:=(N.cyc l hl).toPath.begin;obtain⟨y,L,_⟩:=(N.cyc m hm).toPath.begin;show C0 hx L (h x y hx L)) pw
  have ev:(ix.map λi=>ah.getD i .non)=ah:=by rw[er,aE,<-aT pr];show B5 ah
  rw[ev];walk_at"H4 p d H5 s5 y5";have be:=I.trans s5;show q p ah ls H5 ((sm.trans I).free d) (sm.trans be) y5 (Paired.imp' (λ_ _ ⟨a,e1,_,_,e4⟩=>⟨a,e1,be _ _ e4⟩) pr) ce
 |cons x0 cz=>
  have bi:lf≠[]:=by rw[an];simp
  rw[<-an];clear an;rw[show (!(lf.map nmV).isEmpty)=true by cases lf with
   |nil=>show absurd rfl bi
   |cons a b=>rfl]
  have ap:=I _ _ bc;have bl:=I _ _ bd;show aA ⟨λZ' B=>∃o3 M vs ls X,Z'=[some (.ref T),some (.ref u),some (.ref F),o3,M]/\X.length<lf.length/\Same H B/\B u=some (.dK (X.map nmV))/\B F=some (.lst vs)/\Paired (NewL H B F) vs ls/\fB (aW (En ts)) ls/\
    (∀x:Nat×Nat,x∈X↔aW (En ts) x.1 x.2/\x.1∉ls.flatten)/\(X.map (·.1)).Nodup/\X.length<=600/\(∀m∈ls,∀c,m[0]?=some c->∀p∈X.map (·.1),c<p),
   λZ' B ⟨o3,M,vs,ls,X,e,bm,r⟩=>⟨_,bm,o3,M,vs,ls,X,e,rfl,r⟩,?_⟩
  show⟨_,rfl,u,_,cI (lf.map (·.1)),rfl,.inl ap,by rw[FY,cI_V],by simpa [cI] using bi,λmi cf cg=>⟨lit1,λC H5 al s5 y5=>?_⟩⟩;obtain⟨c,hc,rfl⟩:=aq.mp cf;have bn:∀p∈lf.map (·.1),c<=p:=λp d=>by
   have:=cg (p:Int) (aq.mpr ⟨p,d,rfl⟩);lia
  have key:∀p,p∈lf.map (·.1)↔(∃q,aW (En ts) p q)/\p∉ls.flatten:=λp=>by
   constructor
   .intro h;obtain⟨⟨a,b⟩,h1,rfl⟩:=aq.mp h;show⟨⟨b,((mem _).mp h1).1⟩,((mem _).mp h1).2⟩
   rintro⟨⟨O,h⟩,n⟩;show aq.mpr ⟨(p,O),(mem _).mpr ⟨h,n⟩,rfl⟩
  have ch:∀p q,p∈lf.map (·.1)->aW (En ts) p q->q∈lf.map (·.1):=λp O d S=>(key O).mpr ⟨b3 _ _ S,λz=>by
   obtain⟨m,hm,hz⟩:=jv.mp z;show ((key p).mp d).2 (jv.mpr ⟨m,hm,(N.cyc m hm).before a1 hz S⟩)⟩
  have rF:C≠F:=λz=>by rw[z,bl] at al;cases al
  have rA:C≠u:=λz=>by rw[z,ap] at al;cases al
  have ci:H C=none:=(sm.trans I).free al;show⟨λm Z B=>∃ps:List Nat,Z=[some (.ref T),some (.ref u),some (.ref F),some (.ref C),M]/\m=lf.length+1-ps.length/\Same H4 B/\B C=some (.lst (nV ps))/\Path (aW (En ts)) ps/\ps[0]?=some c/\(∀p∈ps,p∈lf.map (·.1)),
   ⟨_,[c],rfl,rfl,s5,y5,Path.one _ c,rfl,λp d=>by rw[aL.mp d];show hc⟩,?_⟩
  rintro m Z H6 ⟨ps,rfl,rfl,s6,Y,path,R,pin⟩;have cj:=(aI.mp R).1;have c0:ps.length<=lf.length:=by have:=oA path.nd pin;rw[aE] at this;show this
  obtain⟨z,hz⟩:∃z,ps[ps.length-1]?=some z:=⟨_,aP ()⟩;obtain⟨i,x,h1,h2,_⟩:=zN (pin z (a_ hz));have a0:aW (En ts) z x:=((mem (z,x)).mp (a_ h1)).1;have a2:=s6 _ _ ap;have bt:=F7 hz;have cl:atI (nV ps) 0=some (V.int (c:Int)):=cM (j:=0) (dS R);show⟨_,rfl,_,rfl,_,rfl,C,_,_,_,rfl,rfl,SqL.of Y,bt,u,V.int (x:Int),rfl,.inl ⟨_,Sum.inl (z:Int),.inl a2,rfl,h2.symm⟩,_,rfl,C,_,_,_,rfl,rfl,SqL.of Y,cl,rfl,_,rfl,?_⟩;change if (!decide (V.int (x:Int)=V.int (c:Int)))=true then _ else _
  rw[kD];by_cases bw:x=c
  .subst bw;rw[Nt rfl];have cyc:Cyc (aW (En ts)) ps:=⟨path,λp O d hq=>by rw[hz] at d;rw[R] at hq;cases d;cases hq;show a0⟩;obtain⟨cm,dj⟩:=N.step a1 cyc R (λm hm D=>((key x).mp hc).2 (jv.mpr ⟨m,hm,D⟩)) (λp d bm=>pZ λD=>by
    have:=bn p ((key p).mpr ⟨d,λh=>D (jv.mp h)⟩);lia) (λm hm y L=>low m hm y L x hc)
   show ak ⟨_,rfl,C,rfl,⟨_,SqL.of Y⟩,g_ (K:=[]) (a:=C) (xs:=nV ps) (λi Z B=>∃a3,Z=[some (.ref T),some (.ref u),some (.ref F),some (.ref C),a3]/\(∀b o,b≠u->H6 b=some o->B b=some o)/\B u=some (.dK ((lf.filter λy=>decide (y.1∉ps.take i)).map nmV)))
    ⟨M,rfl,λb o _ e=>e,by rw[a2,List.filter_eq_self.mpr ∅]⟩ (by rintro i Z B _ ⟨_,_,e,_⟩;show SqL.of (e _ _ rA Y)) ?_ ?_⟩
   .rintro j y Z H7 hj ⟨a3,rfl,k7,am⟩;rw[nV,cB] at hj;obtain⟨w',hw,rfl⟩:=eG.mp hj;have bA:ps.take (j+1)=ps.take j++[w']:=by rw[cS,hw];rfl
    have nz:w'∉ps.take j:=λh=>by
     have nd:=path.nd;rw[<-fY (j+1) ps,bA,bS,bS] at nd;show nd.1.2.2 w' h w' ∅ rfl
    have cn:w'∈(lf.filter λy=>decide (y.1∉ps.take j)).map (·.1):=by obtain⟨y,L,rfl⟩:=aq.mp (pin w' (a_ hw));show aq.mpr ⟨y,iU.mpr ⟨L,Nt nz⟩,rfl⟩
    obtain⟨_,v,_,hv,_⟩:=zN cn;show⟨_,rfl,u,rfl,.inl ⟨_,.inl am⟩,_,rfl,_,Sum.inl (w':Int),_,am,rfl,hv,λH8 k8 y8=>?_⟩;rw[Gw] at y8;show⟨_,rfl,λb o n e=>(k8 b n).trans (k7 b o n e),?_⟩;rw[y8,List.filter_filter,bA]
    congr 3
    show K2 λy _=>?_;rw[cR];simp;show And.comm
   rintro Z H7 ⟨a3,rfl,k7,am⟩;rw[bC,eV] at am;have bF:H7 F=some (.lst ah):=k7 _ _ bb.symm (s6 _ _ bl);show⟨_,rfl,.inl ⟨rfl,_,SqL.of bF⟩,_,rfl,F,_,_,rfl,rfl,bF,by rw[aT pr];lia,λH8 k8 y8=>?_⟩;have up:∀b o,b≠u->b≠F->H4 b=some o->H8 b=some o:=λb o n n' e=>by rw[k8 b n'];show k7 _ _ n (s6 _ _ e)
   show⟨_,_,_,ls++[ps],lf.filter λy=>decide (y.1∉ps),rfl,?_,λb o e=>up b o (ar e cb) (ar e ca) (I _ _ (sm _ _ e)),(k8 _ bb).trans am,y8,?_,cm,λy=>?_,nd.sublist (KP _ List.filter_sublist),?_,λm hm c' a4 p d=>?_⟩
   .obtain⟨y,L,co⟩:=aq.mp hc;show C8 lf _ L ?_;rw[co];show Nu λD=>D (a_ R)
   .refine cZ (Paired.imp' (λ_ _ ⟨a,e1,e2,e3,e4⟩=>⟨a,e1,e2,e3,up a _ (bD (I _ _ e4) ap (by intro D;cases D)) e3 (I _ _ e4)⟩) pr) (.cons ⟨C,rfl,ci,rF,?_⟩ .nil);rw[k8 C rF];show k7 _ _ rA Y
   .rw[iU,mem y,decide_eq_true_eq,AL,aw];constructor
    .rintro⟨⟨a,b⟩,c'⟩;show⟨a,λD=>D.elim b λz2=>c' ‹z2›⟩
    rintro⟨a,b⟩;show⟨⟨a,λD=>b (.inl D)⟩,λD=>b (.inr ‹D›)⟩
   .exact cC (kK _ _) cc
   obtain⟨y,L,rfl⟩:=aq.mp d;obtain⟨cr,cs⟩:=iU.mp L;have b0:y.1∈lf.map (·.1):=aq.mpr ⟨y,cr,rfl⟩;rcases aw.mp hm with hm|hm
   .exact low m hm c' a4 _ b0
   rw[aL.mp hm,R] at a4;cases a4;have h3:=bn _ b0;have h4:y.1≠x:=λD=>Nv cs (by rw[D];show a_ R);lia
  rw[Nu ()];show aA ⟨λZ' B=>∃ad:List Nat,Z'=[some (.ref T),some (.ref u),some (.ref F),some (.ref C),M]/\ad.length=ps.length+1/\Same H4 B/\B C=some (.lst (nV ad))/\Path (aW (En ts)) ad/\ad[0]?=some c/\(∀p∈ad,p∈lf.map (·.1)),
   λZ' B ⟨ad,e,h1,h2,h3,h4,h5,h6⟩=>⟨lf.length+1-ad.length,(),ad,e,rfl,h2,h3,h4,h5,h6⟩,?_⟩
  have hx:x∉ps:=λh=>by
   have:=path.home a1 hz a0 h;rw[R] at this;cases this;show bw rfl
  show⟨_,rfl,.inl ⟨rfl,_,SqL.of Y⟩,_,rfl,_,rfl,_,rfl,C,_,_,_,rfl,rfl,SqL.of Y,bt,u,V.int (x:Int),rfl,.inl ⟨_,Sum.inl (z:Int),.inl a2,rfl,h2.symm⟩,C,_,_,rfl,rfl,Y,by rw[bC];lia,λH7 k7 y7=>?_⟩;show⟨ps++[x],rfl,∅,λb' o e=>(k7 b' (ar e al)).trans (s6 _ _ e),by rw[y7,pj,gz],path.snoc hz a0 hx,by rw[eF cj];show R,λp d=>?_⟩
  rcases aw.mp d with h|h
  .exact pin p h
  rw[aL.mp h];show ch z x (pin z (a_ hz)) a0
end
end K71
end
section
namespace K71
open K31 K51 K15
theorem zi(e:Ent)(c w:Nat):∀(s:List Nat)(y:Nat),cE e (con c w y s)=cE e ((path w s.reverse y).map λp=>((p.1,p.2,c):Tri))
 | [],y=>by
  change cE e [(y,c,w)]=cE e [(w,y,c)];rw[kh]
 |z::s,y=>by
  change cE e ((y,c,z)::con c w z s)=_;rw[dQ,zi e c w s z,fH,eX,aX,dv,kh e y c z];change cE e [(z,y,c)]+_=_+cE e [(z,y,c)];lia
theorem cone1{ts:List Tri}{ah:Lps}{b q1 c:Nat}{r:List Nat}(f:FI ts (ah++[b::q1::r]))(nd:(b::q1::r).Nodup)(m:∀p q,(p,q)∈kn ts (ah++[b::q1::r])->p≠c)(g:c∉b::q1::r) :
  FI (ts++(sides (b::q1::r)).map λp=>((p.1,p.2,c):Tri)) ah/\∀p q,(p,q)∈kn (ts++(sides (b::q1::r)).map λp=>((p.1,p.2,c):Tri)) ah->(∃j,(p,j)∈kn ts (ah++[b::q1::r]))\/p=c:=by
 simp only[ae,not_or] at g;obtain⟨o,s⟩:=m8 f (x:=c) (λq h=>m _ _ h rfl) g.1 g.2.1;have e:r=r.reverse.reverse:=qy r |>.symm
 have u:FI (ts++[(b,q1,c)]) (ah++[b::c::q1::r.reverse.reverse]):=by rw[<-e];show o
 have n:∀p q,(p,q)∈kn (ts++[(b,q1,c)]) (ah++[b::c::q1::r.reverse.reverse])↔(p,q)∈kn ts (ah++[b::q1::r])\/p=c/\(q=b\/q=q1)\/q=c/\(p=b\/p=q1):=by rw[<-e];show s
 obtain⟨v,w⟩:=tU (c:=c) (q1:=q1) r.reverse _ b u ((List.Perm.cons _ (List.Perm.cons _ (kN r))).nodup_iff.mpr nd) (by simp only[ae,gP,not_or];show g) (λq d h=>by
  rcases (n _ _).mp h with h|⟨_,h|h⟩|⟨h,_⟩
  .exact m _ _ h rfl
  .simp only[aR,ae,not_or] at nd;rw[h] at d;show nd.1.2 (gP.mp d)
  .simp only[aR,ae,not_or] at nd;rw[h] at d;show nd.2.1 (gP.mp d)
  rw[h] at d;show g.2.2 (gP.mp d))
 have pe:(ents (ts++[(b,q1,c)]++con c q1 b r.reverse)).Perm (ents (ts++(sides (b::q1::r)).map λp=>((p.1,p.2,c):Tri))):=by rw[Lh];intro x;change cE x _=cE x _;rw[dv,dv,dv,zi,qy];change _=_+cE x ((b,q1,c)::(path q1 r b).map λp=>((p.1,p.2,c):Tri));rw[dQ x (b,q1,c) (List.map _ _)];lia
 have l:∀q∈b::q1::r,∃j,(q,j)∈kn ts (ah++[b::q1::r]):=λq d=>by
  obtain⟨i,hi,e⟩:=AR.mp d;have:=jD (b::q1::r) i hi;have y:(b::q1::r).getD i 0=q:=by rw[List.getD,aP hi,e];rfl
  rw[y] at this;show⟨(b::q1::r).getD ((i+1)%(b::q1::r).length) 0,bo _ ?_⟩;rw[dG,eh];show bo _ (a_ this)
 show⟨v.of_ents pe,λp q h=>?_⟩;have kp:=(eR (wl ah) (pe.map (·.1)));unfold kn at h;rw[fK] at h;have h':=(kp.mem_iff (a:=(p,q))).mpr h;rcases w p q (by unfold kn;rw[fK];show h') with h|⟨h|h,_⟩
 .rcases (n _ _).mp h with h|⟨h,_⟩|⟨_,h|h⟩
  .exact .inl ⟨q,h⟩
  .exact .inr h
  .rw[h];show .inl (l b ∅)
  rw[h];show .inl (l q1 ∅)
 .exact .inr h
 show .inl (l p (by simp[gP.mp h]))
theorem wg:∀(a:Nat)(l:List Nat)(z:Nat),((path a l z).map λs=>(s.2,s.1)).reverse=path z l.reverse a
 |_,[],_=>rfl
 |a,b::l,z=>by
  change (((b,a):Side)::(path b l z).map λs=>(s.2,s.1)).reverse=_;rw[fH,wg b l z,fH,eX];rfl
theorem vL(l:List Nat):((sides l).map λs=>((s.2,s.1):Side)).Perm (sides l.reverse):=by
 cases l with
 |nil=>show .nil
 |cons a l=>
  rw[fH];show List.Perm.trans ?_ (qQ [a] l.reverse);change ((path a l a).map λs=>((s.2,s.1):Side)).Perm (path a l.reverse a);rw[<-wg];show (kN _).symm
theorem wC{R:Nat->Nat->Prop}{l:List Nat}(h:Cyc R l):∀s∈sides l,R s.1 s.2:=by
 intro s d;obtain⟨i,hi,e⟩:=AR.mp d;rw[jC] at hi;have a:=jD l i hi;have:(sides l)[i]?=some s:=by rw[<-e];show aP _
 rw[this] at a;have es:=cy a;have b:l[i]?=some (l.getD i 0):=by simp[List.getD,hi]
 have hm:(i+1)%l.length<l.length:=iW _ ();have h1:l[(i+1)%l.length]?=some (l.getD ((i+1)%l.length) 0):=by simp[List.getD,hm]
 rw[es];by_cases c:i+1<l.length
 .rw[kO c] at h1 |-;show h.ch i _ _ b h1
 have e:i+1=l.length:=();rw[e,nU] at h1 |-;show h.back _ _ (by rw[show l.length-1=i by lia];show b) h1
theorem wc{R:Nat->Nat->Prop}(inj:∀a b c,R a c->R b c->a=b){ls:List (List Nat)}(h:Rims R ls):ls.flatten.Nodup:=by rw[List.Nodup,List.pairwise_flatten];show⟨λl d=>(h.cyc l d).nd,?_⟩;show qe (λ{l m} d hm n=>?_) h.rise;intro c i o j e;subst e;obtain⟨x,f,p⟩:=(h.cyc l d).toPath.begin;obtain⟨y,g,q⟩:=(h.cyc m hm).toPath.begin;have h1:=h.least l d x f y ((h.cyc m hm).toPath.from inj (h.cyc l d) j i g);have h2:=h.least m hm y g x ((h.cyc l d).toPath.from inj (h.cyc m hm) i j f);have:=n x y f g;lia
theorem rG:∀(a:Nat)(l:List Nat)(z p q:Nat),(p,q)∈path a l z↔∃i,(a::(l++[z]))[i]?=some p/\(a::(l++[z]))[i+1]?=some q
 |a,[],z,p,q=>by
  simp only[path,aL,bz,jx];constructor
  .rintro⟨rfl,rfl⟩;show⟨0,rfl,rfl⟩
  rintro⟨i,h1,h2⟩
  match i,h1,h2 with
  |0,h1,h2=>simp at h1 h2;show⟨h1.symm,h2.symm⟩
  |i+1,_,h2=>simp at h2
 |a,b::l,z,p,q=>by
  change (p,q)∈(a,b)::path b l z↔_;rw[ae,rG b l z,bz];constructor
  .rintro (⟨rfl,rfl⟩|⟨i,h1,h2⟩)
   .exact⟨0,rfl,rfl⟩
   show⟨i+1,h1,h2⟩
  rintro⟨i,h1,h2⟩
  match i,h1,h2 with
  |0,h1,h2=>simp at h1 h2;show .inl ⟨h1.symm,h2.symm⟩
  |i+1,h1,h2=>show .inr ⟨i,h1,h2⟩
theorem xn:∀(a:Nat)(l:List Nat)(z:Nat),(path a l z).map (·.1)=a::l
 |_,[],_=>rfl
 |a,b::l,z=>by change a::(path b l z).map (·.1)=_;rw[xn]
theorem qW(l:List Nat):(sides l).map (·.1)=l:=by
 cases l with
 |nil=>rfl
 |cons a l=>show xn a l a
theorem G8(ls:Lps):(wl ls).map (·.1)=ls.flatten:=by
 induction ls with
 |nil=>rfl
 |cons l ls a=>rw[ja,aX,qW,a];rfl
theorem xK(ls:Lps):((wl ls).map λs=>((s.2,s.1):Side)).Perm (wl (ls.map List.reverse)):=by
 induction ls with
 |nil=>show .nil
 |cons l ls a=>
  rw[ja,aX,az,ja];show (vL l).append a
section
variable {ts:List Tri}{ls:Lps}
theorem H0(g:Good ts)(o:∀c,Co ts c->One (En ts) c)(h:Rims (aW (En ts)) ls){p q:Nat}:(p,q)∈wl ls↔aW (En ts) p q:=by
 constructor
 .intro hm;obtain⟨l,a,f⟩:=ia.mp hm;show wC (h.cyc l a) _ f
 intro b;obtain⟨l,a,d⟩:=h.all p ⟨q,b⟩;rw[<-qW l] at d;obtain⟨⟨p',i⟩,h1,rfl⟩:=aq.mp d;have h2:=wC (h.cyc l a) _ h1;have e:q=i:=sN g.sk (o _ ⟨_,_,b.1.choose_spec⟩) b h2;rw[e];show ia.mpr ⟨l,a,h1⟩
theorem Gm(g:Good ts)(o:∀c,Co ts c->One (En ts) c)(h:Rims (aW (En ts)) ls):FI ts (ls.map List.reverse):=by
 have R:∀{a b},aW (En ts) a b->Co ts a:=λ⟨⟨q,K⟩,_⟩=>⟨_,q,K⟩;have S:∀{a b},aW (En ts) a b->Co ts b:=λ⟨⟨q,K⟩,_⟩=>⟨q,_,g.sk.rot K⟩;have T:∀a b c,aW (En ts) a c->aW (En ts) b c->a=b:=λa b c h1 h2=>oT g.sk (o c (S h1)) h1 h2;have C:∀{p q},(p,q)∈wl (ls.map List.reverse)↔aW (En ts) q p:=λ{p q}=>by
  rw[<-(xK ls).mem_iff,<-H0 g o h];constructor
  .intro hm;obtain⟨⟨x,y⟩,h1,h2⟩:=aq.mp hm;cases h2;show h1
  intro hm;show aq.mpr ⟨(q,p),hm,rfl⟩
 have U:(wl ls).Nodup:=by have:=wc T h;rw[<-G8] at this;show (ff.mp this).imp λh e=>h (by rw[e])
 have X:(wl (ls.map List.reverse)).Nodup:=by
  show (xK ls).nodup_iff.mp ?_;rw[List.Nodup,ff];show U.imp λ{s s'} h e=>h (by
   obtain⟨a,b⟩:=s;obtain⟨c,d⟩:=s';simp only[bz] at e |-;show⟨e.2,e.1⟩)
 have tk:∀{a b},(a,b)∈tl ts↔∃c,En ts a b c:=gC;have H:∀{p v n},(p,v,n)∈tn (ls.map List.reverse)->aW (En ts) v p/\aW (En ts) n v:=λ{p v n} B=>⟨C.mp (pF.mpr ⟨n,B⟩),C.mp (iJ.mpr ⟨p,B⟩)⟩;show⟨?_,λ{p q} hm=>?_,λ{p q} hm=>?_,λv p q E=>?_⟩
 .unfold kn;rw[bS];show⟨by rw[fK];show g.nd,X,λs Y s' Z e=>?_⟩;subst e;obtain⟨a,b⟩:=s;show (C.mp Z).2 (tk.mp Y)
 .rcases aw.mp hm with hm|hm
  .by_cases c:∃r,En ts q p r
   .exact bM _ (tk.mpr c)
   show bo _ (C.mpr ⟨tk.mp hm,c⟩)
  show bM _ (tk.mpr (C.mp hm).1)
 .rcases aw.mp hm with hm|hm
  .obtain⟨c,L⟩:=tk.mp hm;show g.sk.ne L
  obtain⟨c,L⟩:=(C.mp hm).1;show (g.sk.ne L).symm
 have D:Co ts v:=by
  rcases E with E|E
  .exact⟨p,q,E⟩
  show R (H E).1
 obtain⟨F,hF,all⟩:=o v D;obtain⟨f,m,rfl⟩:∃f m,F=f::m:=by
  cases F with
  |nil=>show (hF.ne rfl).elim
  |cons f m=>show⟨f,m,rfl⟩
 by_cases c:∃b,aW (En ts) v b
 .obtain⟨b,I⟩:=c;have hf:b=f:=by
   have:=oS g.sk hF all I;show (cy this).symm
  subst hf;obtain⟨w,hw⟩:=CJ g.sk (o v D) I;obtain⟨l,A,O⟩:=oG g.sk hF all hw;have wF:w∉b::m:=λz=>hw.2 (hF.key w z);have hlen:∀i,(b::(m++[w]))[i]?=if i<(b::m).length then (b::m)[i]? else [w][i-(b::m).length]?:=λi=>by
   rw[<-fc,K5]
  show⟨b::(m++[w]),?_,λp q=>?_⟩
  .rw[<-fc,bS];show⟨hF.nd,∅,λx hx y hy e=>wF (by rw[<-aL.mp hy,<-e];show hx)⟩
  have turn:(q,v,p)∈tn (ls.map List.reverse)↔q=b/\p=w:=by
   constructor
   .intro B;obtain⟨h1,h2⟩:=H B;show⟨sN g.sk (o v D) h1 I,oT g.sk (o v D) h2 hw⟩
   rintro⟨rfl,rfl⟩;obtain⟨n,P⟩:=pF.mp (C.mpr I);have:=oT g.sk (o v D) (H P).2 hw;rw[<-this];show P
  have en:En ts v p q↔(p,q)∈path b m w:=by
   rw[rG];constructor
   .intro he;obtain⟨i,hi⟩:=dn.mp (all p ⟨q,he⟩);have M:=(aI.mp hi).1;show⟨i,by rw[hlen,Nq M];show hi,?_⟩;rw[hlen];by_cases u:i+1<(b::m).length
    .rw[Nq u];have e:=aP u;rw[e,g.sk.one (hF.ch i p _ hi e) he]
    rw[Np u,show i+1-(b::m).length=0 by lia];rw[show (b::m).length-1=i by lia,hi] at A;cases A;rw[g.sk.one O he];rfl
   rintro⟨i,h1,h2⟩;rw[hlen] at h1 h2;by_cases u:i+1<(b::m).length
   .rw[Nq u] at h2;rw[Nq ()] at h1;show hF.ch i p q h1 h2
   rw[Np u] at h2;have:=(aI.mp h2).1;rw[aV] at this;rw[show i+1-(b::m).length=0 by lia] at h2;rw[Nq (),show i=(b::m).length-1 by lia,A] at h1;cases h1;cases h2;show O
  change Lk ts _ v p q↔(p,q)∈path b (m++w::[]) b;rw[eX,aw];unfold Lk;rw[turn,en];simp only[path,aL,bz,and_comm]
 have ad:∀p q,(q,v,p)∉tn (ls.map List.reverse):=λp q B=>c ⟨q,(H B).1⟩;have ah:∀z,¬aW (En ts) z v:=λz hz=>c (xg g.sk (o v D) hz);have A:(f::m)[(f::m).length-1]?=some ((f::m)[(f::m).length-1]'∅):=aP _;generalize (f::m)[(f::m).length-1]'∅ = l at A;have Q:En ts v l f:=by
  obtain⟨z,hz⟩:=hF.key l (a_ A);have hk:∃r,En ts v z r:=pZ λn=>ah z ⟨⟨l,g.sk.rot (g.sk.rot hz)⟩,n⟩;obtain⟨j,N⟩:=dn.mp (all z hk);cases j with
  |zero=>cases N;show hz
  |succ j=>
   have al:=(aI.mp N).1;have e:=aP (show j<(f::m).length by lia);have:=g.sk.inj (hF.ch j _ _ e N) hz;rw[this] at e;have:=jF hF.nd e A;lia
 have hlen:∀i,(f::(m++[f]))[i]?=if i<(f::m).length then (f::m)[i]? else [f][i-(f::m).length]?:=λi=>by
  rw[<-fc,K5]
 show⟨f::m,hF.nd,λp q=>?_⟩;change Lk ts _ v p q↔(p,q)∈path f m f;unfold Lk;rw[rG];constructor
 .rintro (he|B)
  .obtain⟨i,hi⟩:=dn.mp (all p ⟨q,he⟩);have M:=(aI.mp hi).1;show⟨i,by rw[hlen,Nq M];show hi,?_⟩;rw[hlen];by_cases u:i+1<(f::m).length
   .rw[Nq u];have e:=aP u;rw[e,g.sk.one (hF.ch i p _ hi e) he]
   rw[Np u,show i+1-(f::m).length=0 by lia];rw[show (f::m).length-1=i by lia,hi] at A;cases A;rw[g.sk.one Q he];rfl
  show (ad p q B).elim
 rintro⟨i,h1,h2⟩;rw[hlen] at h1 h2;by_cases u:i+1<(f::m).length
 .rw[Nq u] at h2;rw[Nq ()] at h1;show .inl (hF.ch i p q h1 h2)
 rw[Np u] at h2;have:=(aI.mp h2).1;rw[aV] at this;rw[show i+1-(f::m).length=0 by lia] at h2;rw[Nq (),show i=(f::m).length-1 by lia,A] at h1;cases h1;cases h2;show .inl Q
def caps:Nat->Lps->List Tri
 |_,[]=>[]
 |N,l::ls=>((sides l).map λs=>((s.2,s.1,N):Tri))++caps (N+1) ls
theorem zg:∀(ls:Lps)(ts:List Tri)(N:Nat),FI ts (ls.map List.reverse)->(∀l∈ls,l.Nodup)->(∀p q,(p,q)∈kn ts (ls.map List.reverse)->p<N)->FI (ts++caps N ls) []
 | [],ts,N,f,_,_=>by
  have e:ts++caps N []=ts:=by simp[caps]
  rw[e];show f
 |l::ls,ts,N,f,nd,old=>by
  have i:((l::ls).map List.reverse).Perm (ls.map List.reverse++[l.reverse]):=(cP (l₁:=[l.reverse]));have a:=f.perm i;have d:∀p q,(p,q)∈kn ts (ls.map List.reverse++[l.reverse])->p<N:=λp q h=>old p q ((gO _ (i.flatMap_right _)).mem_iff.mpr h);have u:l.reverse.Nodup:=(kN l).nodup_iff.mpr (nd l ∅);have sw:=vL l;have w:caps N (l::ls)=((sides l).map λs=>((s.2,s.1,N):Tri))++caps (N+1) ls:=rfl;rw[w,<-bI];have lift:∀{D:List Tri},FI (ts++D) (ls.map List.reverse)->(∀p q,(p,q)∈kn (ts++D) (ls.map List.reverse)->p<N+1)->(ents D).Perm (ents ((sides l).map λs=>((s.2,s.1,N):Tri)))->FI (ts++((sides l).map λs=>((s.2,s.1,N):Tri))++caps (N+1) ls) []:=λ{D} g A pe=>by
   have j:(ents (ts++D)).Perm (ents (ts++(sides l).map λs=>((s.2,s.1,N):Tri))):=by rw[K71.ents_app,K71.ents_app];show gO _ pe
   show zg ls _ (N+1) (g.of_ents j) (λm hm=>nd m (aZ _ hm)) λp q h=>A p q ?_;unfold kn at h |-;rw[fK] at h |-;show (eR _ (j.map _)).mem_iff.mpr h
  generalize b:l.reverse=r at *
  match r,b with
  | [],b=>
   have:l=[]:=‹b›
   subst this;show lift (D:=[]) ?_ (λp q h=>?_) (.refl _)
   .rw[dh];show⟨?_,?_,?_,?_⟩
    .have:=a.nd;simpa [kn,dG,eh,sides] using this
    .intro p q h;have:=a.sy (p:=p) (q:=q);simp[kn,dG,eh,sides] at this h |-;show this h
    .intro p q h;have:=a.ne (p:=p) (q:=q);simp[kn,dG,eh,sides] at this h;show this h
    intro v p q h;have e:∀v p q,Lk ts (tn (ls.map List.reverse++[[]])) v p q↔Lk ts (tn (ls.map List.reverse)) v p q:=λv p q=>by simp[Lk,iD,j3,turns]
    obtain⟨l,B⟩:=a.rg v p q ((e v p q).mpr h);show⟨l,B.congr λp q=>(e v p q).symm⟩
   rw[dh] at h;have:=d p q (by simp[kn,dG,eh,sides] at h |-;show h);lia
  | [q],b=>
   have:(q,q)∈kn ts (ls.map List.reverse++[[q]]):=bo _ (by rw[dG,eh];show bo _ (by simp[sides,path]));show (a.ne this rfl).elim
  |n::q1::o,b=>
   have C:N∉n::q1::o:=λz=>by
    rw[<-qW (n::q1::o)] at z;obtain⟨⟨x,y⟩,h1,h2⟩:=aq.mp z;have:=d x y (bo _ (by rw[dG,eh];show bo _ h1));have h2:x=N:=h2;lia
   obtain⟨g,E⟩:=cone1 (c:=N) a u (λp q h e=>by have:=d p q h;lia) C;show lift g (λp q h=>?_) ?_
   .rcases E p q h with ⟨H,h⟩|h
    .have:=d p H h;lia
    lia
   have:=(sw.symm.map λp=>((p.1,p.2,N):Tri)).flatMap_right λt=>[((t.1,t.2.1),t.2.2),((t.2.1,t.2.2),t.1),((t.2.2,t.1),t.2.1)];rw[cU] at this;show this
end
end K71
end
section
namespace L2
open PySem PySem.Spec PyProof.Rows
theorem Inv.turnedL{h':Heap}{t':Nat}{ch:List Addr}(I:Inv X Nw Z H s)(d:∀b∈ch,dM X Nw H b)(k:∀b o,b∉ch->s.heap.get? b=some o->h'.get? b=some o) :
  Inv X Nw Z H {s with heap:=h',toks:=t'}:=by
 have f:∀b u,H b=some u->b∉ch:=λb u e z=>by
  have:=(d b z).1;rw[this] at e;cases e
 show I.step (g':=s.gens) (d':=s.drawn) (ch:=ch) (λb g=>?_) (λb o _ _ a e _=>k b o a e) (λb o _ _ a e _=>⟨o.slots,k b o a e⟩) (λ_ _ _ _ n=>n) (λb o a e=>⟨o,k b o a e⟩) (λ_ _ e=>e) (λ_ _ _ e=>e) (λb ps e=>⟨#[],by rw[e];simp⟩) (λm hm=>?_) (λb u e=>?_) I.bare
 .obtain⟨_,h,_,i,j,l⟩:=d b g;show⟨i,h,j,l⟩
 .obtain⟨o,es,ep,p,r⟩:=hm;show⟨o,es,ep,k _ o (λz=>(d _ z).2.1 rfl) p,r⟩
 show (I.hok b u e).stay (λc v a q=>k c v ?_ q) (λ_ q=>q) λ_ _ q=>q;rcases a with z|z
 .rw[z];show f b u e
 show f c _ z
def Itz(K:W.Frag)(a b:Addr):It:=
 ⟨λi H=>∃xs ys x y,SqL K H a xs/\SqL K H b ys/\xs[i]?=some x/\ys[i]?=some y,
  λi H v H'=>∃p x y,H p=none/\v=.ref p/\H'=upd H p (.tup [x,y])/\(∀xs,SqL K H a xs->xs[i]?=some x)/\∀ys,SqL K H b ys->ys[i]?=some y,
  λi H=>∃xs ys,SqL K H a xs/\SqL K H b ys/\(xs.length<=i\/ys.length<=i)⟩
abbrev Kx(z TI TO c d a b:Addr)(i:Nat)(h:Heap):Prop:=IsZip h z TI TO .none/\IsPair h TI (.ref c) (.ref d)/\(∃u v,IsPair h TO u v)/\h.IsListIter c a i/\h.IsListIter d b i
theorem Ds{elts:List Expr}{x1}{pos:Pos}{a b z TI TO g j:Addr}(D:ZipApart z TI TO g j a b) :
  Turn P w K (.Tuple elts x1 pos) (Itz [] a b) [z,TI,TO,g,j] z (Kx z TI TO g j a b) where
 mem:=∅
 obj:=λi h st c d=>by
  obtain⟨s1,s2,⟨u,v,l⟩,⟨o4,e4,_,d4⟩,o5,e5,_,d5⟩:=st;simp only[ae,bq,or_false] at d;rcases d with rfl|rfl|rfl|rfl|rfl
  .exact⟨_,s1,λv z=>by have A:Data.fields _=Data.cell v:=z;cases A⟩
  .exact⟨_,s2,λv z=>by have A:Data.seq _ _=Data.cell v:=z;cases A⟩
  .exact⟨_,l,λv z=>by have A:Data.seq _ _=Data.cell v:=z;cases A⟩
  .exact⟨o4,e4,λv z=>by rw[d4] at z;cases z⟩
  show⟨o5,e5,λv z=>by rw[d5] at z;cases z⟩
 keep:=λi h h' st k=>by
  obtain⟨s1,s2,⟨u,v,l⟩,n,r⟩:=st;show⟨k z ∅ _ s1,k TI ∅ _ s2,⟨u,v,k TO ∅ _ l⟩,n.at λo q=>k g ∅ o q,r.at λo q=>k j ∅ o q⟩
 item:=by
  intro X M hw N d i Nw s Z H E I hf st O;subst M hw N;obtain⟨xs,ys,x,y,B,C,Q,U⟩:=O;obtain⟨s1,s2,⟨u0,v0,l⟩,n,r⟩:=st;obtain⟨al,R,p,hz⟩:=I.list B;obtain⟨its',S,p',am⟩:=I.list C;obtain⟨u,hu,ru⟩:=R.get Q;obtain⟨L,an,ap⟩:=S.get U;have lt:∀c o,s.heap.get? c=some o->c≠↥s:=λc o e=>b_ (aN e);have l4:g≠↥s:=by obtain⟨o,q,_⟩:=n;show lt _ _ q
  have l5:j≠↥s:=by obtain⟨o,q,_⟩:=r;show lt _ _ q
  have l1:=lt _ _ s1;have l2:=lt _ _ s2;have l3:=lt _ _ l;show wpAny_pyNext_zip_item D s1 s2 l n r p.isList p'.isList (x:=u) (y:=L) ‹hu› ‹an› λh1 a1 a2 a3 a4 a5 a6 Y=>?_;show⟨_,rfl,?_⟩;show wpAny_letOwnedTupleGo_zip a1 λh2 a0 m=>?_;replace m:Heap.SameBut z h1 h2:=m;have ba:s.heap.get? ↥s=none:=uy (ax _);have hn:H ↥s=none:=I.hok.fresh (ax _);have ad:h2.get? ↥s=some {cls:=.type "tuple",data:=.seq #[u,L]}:=(m.2 _ (aG l1)).trans a5;have I2:Inv X Nw Z (upd H ↥s (.tup [x,y])) {s with heap:=h2,toks:=s.toks}:=by
   show I.turnLaid (ch:=[z,TI,TO,g,j]) hf (λb o f q=>?_) ba λH'=>?_
   .have ah:b≠z:=λe=>f (by simp[e]);have bb:b≠TO:=λe=>f (by simp[e]);have bc:b≠g:=λe=>f (by simp[e]);have bd:b≠j:=λe=>f (by simp[e]);show (m.2 b ah).trans (Y b o ah bb bc bd q)
   show⟨⟨by simp;rw[f_];lia,_,ad,rfl⟩,[u,L],.cons ru (.cons ap .nil),⟨_,ad,rfl,_,rfl⟩⟩
  show⟨.ref ↥s,_,I2,rfl,⟨↥s,x,y,hn,rfl,rfl,λys T=>by rw[I.list_inj T B];show Q,λys T=>by rw[I.list_inj T C];show U⟩,⟨a0,?_,⟨u,L,?_⟩,?_,?_⟩,λc d=>?_⟩
  .exact (m.2 TI D.TIz).trans (Y TI _ D.TIz D.TITO D.TIi1 D.TIi2 s2)
  .exact (m.2 TO D.TOz).trans a2
  .exact a3.at λo q=>(m.2 g D.i1z).trans q
  .exact a4.at λo q=>(m.2 j D.i2z).trans q
  have:c≠↥s:=by simp only[ae,bq,or_false] at d;rcases d with rfl|rfl|rfl|rfl|rfl<;>assumption
  rw[bh this];show (hf c d).1
 done:=by intro X M hw N d i Nw s Z H E I hf st O;subst M hw N;obtain⟨xs,ys,B,C,Q⟩:=O;obtain⟨s1,s2,⟨u0,v0,l⟩,n,r⟩:=st;obtain⟨al,R,p,hz⟩:=I.list B;obtain⟨its',S,p',am⟩:=I.list C;have hl:=R.length;have be:=S.length;show wpAny_pyNext_zip_end (I.ok.hd d) D s1 s2 l n r p.isList p'.isList (by simp;lia) λh' eb=>⟨rfl,?_⟩;show I.turnedL (t':=s.toks) hf λb o f q=>?_;show eb b o (λe=>f (by simp[e])) (λe=>f (by simp[e])) (λe=>f (by simp[e])) (λe=>f (by simp[e])) q
 self:=λ_ _ _ _ _ st h=>Mn st.1 h
section
def Kd(K:W.Frag)(R:It->Hp->Prop)(vs:List V)(H1:Hp)(a b:Addr)(xs ys:List V):Prop:=vs=[.ref a,.ref b]/\SqL K H1 a xs/\SqL K H1 b ys/\R (Itz K a b) H1
def Kc(K:W.Frag)(R:It->Hp->Prop):List V->Hp->Prop:=λvs H1=>Exists (Ex4 (Kd K R vs H1))
def iZip(K:W.Frag)(ta:TA):TI:=λZ H R=>ta Z H (Kc K R)
theorem Ik{elts:List Expr}{n}{tpos:Pos}{a b:Expr}{ta:TA}{p pos:Pos}(u:Gl X "zip")(hm:X.mg "zip" = none)(ha:PA X [a,b] ta)(v:starEach [a,b] X.env=[(false,eval a X.env),(false,eval b X.env)]:=by rfl)(g:starEach [b] X.env=[(false,eval b X.env)]:=by rfl) :
  PI X (.Tuple elts n tpos) (.Call (.Name "zip" p) [a,b] [] pos) (iZip [] ta):=by
 intro Nw s Z H R I h;show Call_ (fV I u hm boot_zip (iX (thn (ha pos Nw s Z H _ I h) λus s1 ⟨vs,H1,d,w,q1⟩=>?_) (by rw[v,g]) (by rw[g];rfl)));obtain⟨a,b,xs,ys,e,x,y,q⟩:=q1;subst e;cases w with
 |cons r f=>
  cases f with
  |cons z f=>
   cases f;cases r;cases z;obtain⟨M,N,i,hz⟩:=d.list x;obtain⟨its',O,j,P⟩:=d.list y;have A:a<↥s1:=by obtain⟨o,e,_⟩:=i.isList;show aN e
   have B:b<↥s1:=by obtain⟨o,e,_⟩:=j.isList;show aN e
   show call_zip_2 i.isList j.isList λh' h1 h2 C D E hsz K=>?_;show Mn h1 ?_;have L:Inv X Nw Z H1 {s1 with heap:=h'}:=d.kept (t':=s1.toks) K;show⟨_,_,_,_,H1,rfl,L,Ds (zipApart_new A B),⟨h1,h2,⟨_,_,C⟩,D,E⟩,λc l=>?_,q⟩;have m:↥s1<=c:=by
    simp only[ae,bq,or_false] at l;rcases l with rfl|rfl|rfl|rfl|rfl
    all_goals first|show ax _|show gR _ _
   show d.fpOk m (d.hok.fresh m)
end
theorem Gf{a b:Addr}{xs ys:List V}{g:TG}{tb:TS}{D:Ends}(Pv:Nat->St->Hp->Prop)(f:Pv 0 Z H)(h:∀i Z H,i<=xs.length->i<=ys.length->Pv i Z H->SqL K H a xs/\SqL K H b ys)
  (j:∀i x y p Z H,xs[i]?=some x->ys[i]?=some y->Pv i Z H->H p=none->g (.ref p) Z (upd H p (.tup [x,y])) λσ2 H2=>tb {D with nx:=Pv (i+1),ct:=Pv (i+1),bk:=D.nx} σ2 H2) (hd:∀i Z H,i=min xs.length ys.length->Pv i Z H->D.nx Z H) :
  ∃W:Nat->Nat->St->Hp->Prop,(∃m,W 0 m Z H)/\∀i m Z H,W i m Z H->
   ((Itz K a b).stop i H/\D.nx Z H)\/((Itz K a b).go i H/\∃N:St->Hp->Prop,(∀Z' H',N Z' H'->∃e,e<m/\W (i+1) e Z' H')/\∀x H',(Itz K a b).yld i H x H'->g x Z H' λσ2 H2=>tb {D with nx:=N,ct:=N,bk:=D.nx} σ2 H2):=by
 show⟨λi m Z H=>m=xs.length-i/\i<=xs.length/\i<=ys.length/\Pv i Z H,⟨xs.length,∅,aQ _,aQ _,f⟩,?_⟩;rintro i m Z H ⟨rfl,hi,l,p⟩;obtain⟨q,d⟩:=h i Z H hi l p;by_cases c:i<xs.length/\i<ys.length
 .refine .inr ⟨⟨xs,ys,xs[i]'c.1,ys[i]'c.2,q,d,aP c.1,aP c.2⟩,Pv (i+1),λZ' H' p'=>⟨xs.length-(i+1),(),rfl,c.1,c.2,p'⟩,λx H' y=>?_⟩;obtain⟨n,v,o,r,rfl,rfl,s,u⟩:=y;show j i v o n Z H (s xs q) (u ys d) p r
 show .inl ⟨⟨xs,ys,q,d,()⟩,hd i Z H () p⟩
end L2
end
section
namespace K71
open PySem L2 K51 K31 K15
def code(N:Nat)(n:Nat):Int:=if n<N then (n:Int) else -1-((n-N:Nat):Int)
theorem jh{N n:Nat}(h:n<N):code N n=(n:Int):=Nq h
theorem E1(N i:Nat):code N (N+i)=-1-(i:Int):=by unfold code;rw[Np (),uO]
theorem lL(N:Nat):Inj (code N):=by
 intro a b h;unfold code at h
 split at h<;>split at h<;>lia
theorem wI:∀(N:Nat)(ls:Lps)(l:List Nat),caps N (ls++[l])=caps N ls++(sides l).map λs=>((s.2,s.1,N+ls.length):Tri)
 |N,[],l=>by simp[caps]
 |N,m::ls,l=>by
  change ((sides m).map λs=>((s.2,s.1,N):Tri))++caps (N+1) (ls++[l])=_;rw[wI (N+1) ls l,<-bI,aS,show N+1+ls.length=N+(ls.length+1) by lia];rfl
theorem rS:∀(N:Nat)(ls:Lps),(caps N ls).length=ls.flatten.length
 |_,[]=>rfl
 |N,l::ls=>by
  change (((sides l).map λs=>((s.2,s.1,N):Tri))++caps (N+1) ls).length=_;rw[ao,aE,jC,rS,kI,ao]
theorem FA{l:List Nat}{k:Nat}(h:k<l.length):(l.drop 1++l.take 1)[k]?=some (l.getD ((k+1)%l.length) 0):=by
 cases l with
 |nil=>simp at h
 |cons a l=>
  have b:k<l.length+1:=‹h›
  change (l++[a])[k]?=_;by_cases e:k=l.length
  .subst e;rw[aS,nU];simp
  rw[eF (),aS,kO ()];simp[List.getD,show k<l.length by lia]
theorem rZ{N:Nat}:∀{vs:List V}{ts:List Tri},aO H vs ts->(∀t∈ts,t.1<N/\t.2.1<N/\t.2.2<N)->eZ (code N) H vs ts
 |_,_,.nil,_=>.nil
 |_,_,.cons ⟨a,e,h⟩ t,b=>.cons (let ⟨h1,h2,c⟩:=b _ dX;⟨a,e,by rw[jh h1,jh h2,jh c];show h⟩) (rZ t λx d=>b x (aZ _ d))
theorem eZ.same{φ:Nat->Int}{ts:List Tri}(s:Same H H')(h:eZ φ H vs ts):eZ φ H' vs ts:=Paired.imp' (λ_ _ ⟨a,e,q⟩=>⟨a,e,s _ _ q⟩) h
theorem eZ.move{φ:Nat->Int}{ts:List Tri}(s:∀t o,H t=some (.tup o)->H' t=some (.tup o))(h:eZ φ H vs ts):eZ φ H' vs ts:=Paired.imp' (λ_ _ ⟨a,e,q⟩=>⟨a,e,s _ _ q⟩) h
def CG(N:Nat)(vs:List V)(H:Hp)(Q:VK)(T:Addr)(a:List V)(ts:List Tri):Prop:=vs=[.ref T]/\H T=some (.lst a)/\aO H a ts/\ts.length<=110/\Good ts/\(∀c,Co ts c->One (En ts) c)/\(∀t∈ts,t.1<N/\t.2.1<N/\t.2.2<N)/\
 ∀r b ls H',H r=none->Same H H'->H' r=some (.lst b)->eZ (code N) H' b (ts++caps N ls)->Rims (aW (En ts)) ls->(∀l∈ls,∀c∈l,c<N)->ls.flatten.length<=330->Q (.ref r) H'
def rB(N:Nat):Sp:=λvs H Q _=>Exists (Ex3 (CG N vs H Q))
theorem pN{ts:List Tri}{N:Nat}(d:∀t∈ts,t.1<N/\t.2.1<N/\t.2.2<N){a b c:Nat}(h:En ts a b c):a<N:=by
 rcases c9.mp h with z|z|z
 .exact (d _ z).1
 .exact (d _ z).2.1
 show (d _ z).2.2
theorem xf{ts:List Tri}{ls:Lps}(g:Good ts)(o:∀c,Co ts c->One (En ts) c)(h:Rims (aW (En ts)) ls):ls.flatten.length<=3*ts.length/\ls.length<=ls.flatten.length:=by
 show⟨?_,zb λl a=>(h.cyc l a).ne⟩;have:=oA (wc (vW g o).2.1 h) (m:=(ents ts).map (·.1.1)) λp b=>by
  obtain⟨m,hm,d⟩:=jv.mp b;obtain⟨q,_,⟨c,e⟩,_⟩:=(h.cyc m hm).step d;show aq.mpr ⟨_,e,rfl⟩
 rw[aE,ents_len] at this;show this
theorem FC{ts:List Tri}{ls:Lps}{N:Nat}(h:Rims (aW (En ts)) ls)(a:∀t∈ts,t.1<N/\t.2.1<N/\t.2.2<N):∀l∈ls,∀c∈l,c<N:=by intro l b c d;obtain⟨q,_,⟨x,e⟩,_⟩:=(h.cyc l b).step d;show pN a e
theorem Fe{φ:Nat->Int}{ts:List Tri}{l:List Nat}(h:eZ φ H vs ts)(e:vs=nV l)(a:l≠[]):False:=by
 cases l with
 |nil=>show a rfl
 |cons c l=>
  cases h with
  |nil=>cases e
  |cons d _=>
   obtain⟨b,f,_⟩:=d;rw[f] at e;cases e
section
theorem jN:bH ["_law_triples","_law_found","_law_i","_law_rim","_law_p","_law_q"] ["_law_triples"] (a7 lG):=⟨rfl,rfl,rfl,⋯,rfl,⋯,⋯⟩
theorem CS{N:Nat}{f f1:Addr}{fd d1:FuncData}(U:Fun K "_law_capped" "_law_capped" lG f fd)(T:cW mg)(mZ:mg "zip" = none)
  (GR:Use P w K mg base 3 "_law_rims" ["_law_triples"] xW f1 d1) :
  FnOk P w K mg base CX0 4 f fd ["_law_triples"] (rB N):=by
 show U.ok jN (by rintro _ _ _ _ ⟨_,_,_,rfl,_⟩;rfl) λNz A outer s H vs Q E hr h=>?_
 obtain⟨TT,vt,ts,rfl,hT,tr,hl,g,an,hN,q⟩:=h;show⟨_,af (sx 1 jN.nd (eJ kQ (by rfl) T.list n8 (pa1 (pv 0))))
  (af (cY cF rfl (sT rfl T.enum (pa1 (uc GR hr (pa1 (pv 0))))) (eN rfl (bL (gx 2 jN.nd) (bL (gx 3 jN.nd) dD)))
   (aj (cY cF rfl (Ik rfl mZ (ai (pv 3) (pa1 (au du (dN dO (pv 3) (dr aa) eL) (dN dO (pv 3) eL (dr aa)))))) (eN rfl (bL (gx 4 jN.nd) (bL (gx 5 jN.nd) dD)))
    (aj (bU (bQ bT cG cH cq (pv 1) (pa1 (aK (ai (pv 5) (ai (pv 4) (pa1 (au gv (dg da aa) (pv 2)))))))))))))
  (aj (aU (pv 1)))),?_⟩
 have bm:=line5000;have bn:=aT tr;show⟨_,rfl,TT,_,rfl,.inl (SqL.of hT),λF H1 hF s1 y1=>?_⟩;show⟨_,rfl,TT,vt,ts,rfl,s1 _ _ hT,tr.same s1,(),g,an,λR vr ls H2 hR s2 y2 lp M=>?_⟩;obtain⟨lf,ll⟩:=xf g an M;have bl:=FC M hN;have a5:=aT lp;have ap:=s1.trans s2;have a0:=s2 _ _ y1;have bF:∀{b:Addr}{l:List Nat},H2 b=some (.lst (nV l))->l≠[]->b≠F:=λ{b l} m hl z=>by
  rw[z,a0] at m;injection m with m;injection m with m;show Fe (rZ tr hN) m hl
 have RF:R≠F:=λz=>by rw[z,y1] at hR;cases hR
 have F0:H F=none:=hF;show⟨R,_,rfl,SqL.of y2,xC (K:=[]) (a:=R) (xs:=vr) (λi Z p=>∃o2 o3 r u j,Z=[some (.ref TT),some (.ref F),o2,o3,r,u]/\But F H2 p/\p F=some (.lst j)/\eZ (code N) p j (ts++caps N (ls.take i)))
  ⟨none,none,none,none,vt,rfl,λ_ _ _ e=>e,a0,by simp only[qA,caps,dh];show (rZ tr hN).same ap⟩ (by rintro i Z p _ ⟨_,_,_,_,_,_,D,_⟩;show SqL.of (D _ _ RF y2)) ?_ ?_⟩
 .rintro i v pt Z p hi ⟨o2,o3,r,u,j,rfl,D,O,S⟩ a6;obtain⟨l,hs,b,rfl,m⟩:=c_ lp hi;have bw:i<ls.length:=(aI.mp hs).1;have X:l∈ls:=a_ hs;have a1:l≠[]:=(M.cyc l X).ne;have Y:=bF m a1;have fl:=Gi X;walk_at"p pt a6 H4 s4 y4";have b4:=D.same s4;show⟨pt,_,rfl,SqT.of y4,rfl,_,_,rfl,_,_,rfl,rfl,?_⟩;have a2:=b4 _ _ Y m;show⟨_,rfl,_,rfl,1,rfl,b,_,rfl,SqL.of a2,λp5 H5 h5 s5 y5=>?_⟩;rw[GM l 1 1 rfl] at y5;show⟨_,rfl,1,rfl,b,_,rfl,SqL.of (s5 _ _ a2),λp6 H6 h6 s6 y6=>?_⟩;rw[t_ l 1 1 rfl] at y6;show⟨p5,p6,_,_,rfl,rfl,s6 _ _ y5,y6,by rw[bC,bC,bG,bu];lia,λp7 H7 h7 s7 y7=>?_⟩;rw[gz] at y7;have ad:=(s5.trans s6).trans s7;have b7:=b4.same ad;have ba:=ad _ _ (s4 _ _ O);have be:p7≠F:=λz=>by
   rw[z] at h7;have:=s6 _ _ (s5 _ _ (s4 _ _ O));rw[this] at h7;cases h7
  show⟨b,p7,_,_,rfl,SqL.of (b7 _ _ Y m),SqL.of y7,Gf (K:=[]) (a:=b) (b:=p7) (xs:=nV l) (ys:=nV (l.drop 1++l.take 1)) (λk Z B=>∃r u j,Z=[some (.ref TT),some (.ref F),some (.int (i:Int)),some (.ref b),r,u]/\But F H7 B/\B F=some (.lst j)/\eZ (code N) B j (ts++caps N (ls.take i)++((sides l).take k).map λs=>((s.2,s.1,N+i):Tri)))
   ⟨r,u,j,rfl,λ_ _ _ e=>e,ba,by simp only[qA,fG,dh];show (S.same s4).same ad⟩ (λk Z B _ _ ⟨_,_,_,_,C,_⟩=>⟨SqL.of (C _ _ Y (b7 _ _ Y m)),SqL.of (C _ _ be y7)⟩) ?_ ?_⟩
  .rintro k x y pk Z B hx hy ⟨r,u,j,rfl,C,ah,I⟩ bi;have L:k<l.length:=by
    have:=(aI.mp hx).1;rw[bC] at this;show this
   have hg:l[k]?=some (l.getD k 0):=by simp[List.getD,L]
   have al:=jD l k L;have am:=FA L;have bc:=bl l X _ (a_ hg);have bd:l.getD ((k+1)%l.length) 0<N:=bl l X _ (by
    have:=a_ am;rcases aw.mp this with z|z
    .exact jw z
    show kL z)
   generalize l.getD k 0=c at hg al bc;generalize l.getD ((k+1)%l.length) 0=d at am al bd;rw[dS hg] at hx;rw[dS am] at hy;cases hx;cases hy;walk_at"B pk bi H9 s9 y9";show⟨pk,_,rfl,SqT.of y9,rfl,_,_,rfl,_,_,rfl,rfl,?_⟩;have a3:=s9 _ _ ah;show⟨_,rfl,.inl ⟨rfl,_,SqL.of a3⟩,_,rfl,_,rfl,_,rfl,_,rfl,_,_,rfl,rfl,lit3,λpa Ha ga sa ya=>?_⟩;have a4:=sa _ _ a3;have lv:=aT I;rw[ao,ao,rS,aE,bu,jC] at lv;have bA:(ls.take i).flatten.length<=ls.flatten.length:=by
    conv=>rhs;rw[<-fY i ls,AL,ao]
    lia
   show⟨F,_,_,rfl,rfl,a4,(),λHb kb yb=>?_⟩;have bb:But F H7 Hb:=λc o n e=>(kb c n).trans (sa _ _ (s9 _ _ (C c o n e)));have tp:∀t o,Ha t=some (.tup o)->Hb t=some (.tup o):=λt o e=>(kb t (bD e a4 (by intro z;cases z))).trans e;show⟨_,_,_,rfl,bb,yb,?_⟩;rw[cS,al,aX,<-bI];show cZ (((I.same s9).same sa).move tp) (.cons ⟨pa,rfl,?_⟩ .nil);show (tp _ _ ya).trans ?_;rw[jh bd,jh bc,E1]
  rintro k Z B L ⟨r,u,j,rfl,C,ah,I⟩;have ek:k=l.length:=by rw[L,bC,bC,ao,bG,bu];have:=iR.mpr a1;lia
  rw[show (sides l).take k=sides l from gQ (by rw[jC];lia)] at I;show⟨_,_,_,_,j,rfl,λc o n e=>C c o n (b7 c o n e),ah,?_⟩;have et:ls.take (i+1)=ls.take i++[l]:=by rw[cS,hs];rfl
  rw[et,wI,<-bI,bu,qC ()];show I
 rintro Z p ⟨o2,o3,r,u,j,rfl,D,O,S⟩;rw[a5,eV] at S;show⟨_,rfl,q F j ls p hF (λc o e=>D c o (ar e hF) (ap _ _ e)) O S M bl ()⟩
end
end K71
end
section
namespace K71
open K31 K51 K15
structure WS(cs:List Tri)(a0 b0:Nat)(ds:List Tri)(ls:Lps)(come:List Nat):Prop where
 wi:WI (En cs) a0 b0 ds (tn ls)
 two:∀l∈ls,2<=l.length
 st:ds=[]->ls=[[a0,b0]]/\come=[a0,b0]
 cm:ds≠[]->∀x,x∈come↔∃p q,En ds x p q
 lc:come.length<=ds.length+2
theorem eM{ds:List Tri}{a b x y p q:Nat}:En (ds++[(a,b,x)]) y p q↔En ds y p q\/(y,p,q)=(a,b,x)\/(y,p,q)=(b,x,a)\/(y,p,q)=(x,a,b):=by
 unfold En;rw[c9,c9];simp only[aw,aL,bz];constructor
 .rintro ((h|h)|(h|h)|(h|h))
  .exact .inl (.inl h)
  .exact .inr (.inl h)
  .exact .inl (.inr (.inl h))
  .exact .inr (.inr (.inl ⟨h.2.1,h.2.2,h.1⟩))
  .exact .inl (.inr (.inr h))
  show .inr (.inr (.inr ⟨h.2.2,h.1,h.2.1⟩))
 rintro ((h|h|h)|h|h|h)
 .exact .inl (.inl h)
 .exact .inr (.inl (.inl h))
 .exact .inr (.inr (.inl h))
 .exact .inl (.inr h)
 .exact .inr (.inl (.inr ⟨h.2.2,h.1,h.2.1⟩))
 show .inr (.inr (.inr ⟨h.2.1,h.2.2,h.1⟩))
section
variable {cs:List Tri}{a0 b0:Nat}{ds:List Tri}{ls:Lps}{come:List Nat}
theorem WS.start(k:Clo (En cs)){c:Nat}(h:En cs a0 b0 c):WS cs a0 b0 [] [[a0,b0]] [a0,b0]:=
 ⟨wi0 k h,∅,λ_=>⟨rfl,rfl⟩,λh=>(h rfl).elim,∅⟩
theorem HG(ls:Lps):(ls.map List.length).sum=(tn ls).length:=by
 have:(tn ls).length=(wl ls).length:=by rw[<-lA,aE]
 rw[this];unfold wl;rw[La]
 congr 1
 show qt λl _=>(jC l).symm
theorem WS.size(h:WS cs a0 b0 ds ls come):(ls.map List.length).sum<=3*cs.length:=by
 rw[HG];have h1:=ph (l:=(tn ls).map (·.2)) (m:=(ents cs).map (·.1)) h.wi.nd λx a=>by
  obtain⟨⟨p,v,n⟩,b,rfl⟩:=aq.mp a;obtain⟨⟨c,d⟩,_⟩:=h.wi.ed b;show aq.mpr ⟨_,d,rfl⟩
 rw[aE,aE,K15.ents_len] at h1;show h1
theorem WS.look{ah:Lps}{a b:Nat}{t:List Nat}(k:Clo (En cs))(h:WS cs a0 b0 ds (ah++[a::b::t]) come) :
  ds.length<cs.length/\∃x,En cs a b x/\∃z rs,(x∈come->Rot (En cs) (λs=>s∈wl (ah++[a::b::t])) a x z rs)/\
   ∀lt n,(x∉come/\lt=.sg 67/\n=x\/x∈come/\Which (λs=>s∈wl (ah++[a::b::t])) (At (ah++[a::b::t])) a b x z lt)->
    ay ah (a::b::t) lt n=some x/\Lets lt/\WS cs a0 b0 (ds++[(a,b,x)]) (aM ah (a::b::t) lt x) (if lt=.sg 67 then come++[x] else come):=by
 have D:(a,b)∈wl (ah++[a::b::t]):=ia.mpr ⟨a::b::t,∅,by simp[sides,path]⟩;obtain⟨p,A⟩:=iJ.mp D;obtain⟨⟨x,i⟩,R,hd⟩:=h.wi.ed A;have ab:=k.sk.ne i;have bx:=k.sk.ne (k.sk.rot i);have xa:=k.sk.ne (k.sk.rot (k.sk.rot i));have B:∀l∈ah,2<=l.length:=λl j=>h.two l (bM _ j);show⟨h.wi.less A,x,i,?_⟩;have cab:a∈come/\b∈come:=by
  by_cases e:ds=[]
  .obtain⟨m,o⟩:=h.st e;have r:a::b::t=[a0,b0]:=by
    have:=congrArg List.getLast? m;simpa using this
   injection r with u f;injection f with f C;rw[o,u,f];simp
  obtain⟨c,d⟩:=hd.resolve_left e;show⟨(h.cm e a).mpr ⟨_,_,cQ d⟩,(h.cm e b).mpr ⟨_,_,d⟩⟩
 have old:x∈come->∃p q,En ds x p q:=λd=>by
  by_cases e:ds=[]
  .obtain⟨m,o⟩:=h.st e;have r:a::b::t=[a0,b0]:=by
    have:=congrArg List.getLast? m;simpa using this
   injection r with u f;injection f with f C;rw[o,<-u,<-f] at d;simp only[ae,bq,or_false] at d;rcases d with z|z
   .exact (xa z).elim
   show (bx z.symm).elim
  show (h.cm e x).mp d
 have new:x∉come->∀p q,¬En ds x p q:=λd p q g=>by
  by_cases e:ds=[]
  .rw[e] at g;cases g
  show d ((h.cm e x).mpr ⟨p,q,g⟩)
 have E:∀cm:List Nat,(∀y,y∈cm↔y∈come\/y=x)->∀y,y∈cm↔∃p q,En (ds++[(a,b,x)]) y p q:=λcm H y=>by
  rw[H];constructor
  .rintro (v|rfl)
   .by_cases e:ds=[]
    .obtain⟨m,o⟩:=h.st e;have r:a::b::t=[a0,b0]:=by
      have:=congrArg List.getLast? m;simpa using this
     injection r with u f;injection f with f C;rw[o,<-u,<-f] at v;simp only[ae,bq,or_false] at v;rcases v with rfl|rfl
     .exact⟨_,_,eM.mpr (.inr (.inl rfl))⟩
     show⟨_,_,eM.mpr (.inr (.inr (.inl rfl)))⟩
    obtain⟨p,q,g⟩:=(h.cm e y).mp v;show⟨p,q,eM.mpr (.inl g)⟩
   show⟨_,_,eM.mpr (.inr (.inr (.inr rfl)))⟩
  rintro⟨p,q,g⟩;rcases eM.mp g with z|z|z|z
  .by_cases e:ds=[]
   .rw[e] at z;cases z
   show .inl ((h.cm e y).mpr ⟨p,q,z⟩)
  .injection z with z _;rw[z];show .inl cab.1
  .injection z with z _;rw[z];show .inl cab.2
  injection z with z _;show .inr z
 have fin:∀lt n,ay ah (a::b::t) lt n=some x->Lets lt->WI (En cs) a0 b0 (ds++[(a,b,x)]) (tn (aM ah (a::b::t) lt x))->(x∈come\/lt=.sg 67)->WS cs a0 b0 (ds++[(a,b,x)]) (aM ah (a::b::t) lt x) (if lt=.sg 67 then come++[x] else come):=λlt n h1 h2 w I=>by
  show⟨w,(vJ (h.two _ ∅) h2 h1 B).1,λe=>by simp at e,λ_=>E _ λy=>?_,?_⟩
  .split
   .simp
   rename_i K;show⟨.inl,λz=>z.elim id λe=>e ▸ I.resolve_right K⟩
  have:=h.lc
  split
  .rw[ao,ao,aV,aV];lia
  rw[ao,aV];lia
 by_cases d:x∈come
 .obtain⟨rs,z,L,M,N,O,P,Q⟩:=Cu k h.wi i (old d) B;show⟨z,rs,λ_=>⟨L,M,N,O,P⟩,λlt n j=>?_⟩;have hw:=(j.resolve_left λz=>z.1 d).2;obtain⟨h1,h2,w⟩:=Q lt hw n;show⟨h1,h2,fin lt n h1 h2 w (.inl d)⟩
 show⟨0,[],λz=>(d z).elim,λlt n j=>?_⟩;obtain⟨_,rfl,rfl⟩:=j.resolve_right λz=>d z.1;have h1:ay ah (a::b::t) (.sg 67) n=some n:=rfl;have h2:Lets (.sg 67):=by simp[Lets]
 show⟨h1,h2,fin _ n h1 h2 (Cv k h.wi i (new d)) (.inr rfl)⟩
end
end K71
end
section
namespace K71
open K31 K51 K15
theorem step3{ah:Lps}{loop:List Nat}{a:Lt}{n x:Nat}(g:3<=loop.length)(ha:Lets a)(h:ay ah loop a n=some x)(d:∀l∈ah,3<=l.length):∀l∈aM ah loop a x,3<=l.length:=by
 cases a with
 |sg c=>
  simp only[Lets] at ha;simp only[ay] at h;rcases ha with rfl|rfl|rfl|rfl
  .intro l b;rcases aw.mp (show l∈ah++[loop.take 1++x::loop.drop 1] from b) with z|z
   .exact d l z
   rw[aL.mp z,ao,aS,bu,bG];lia
  .simp at h;intro l b;rcases aw.mp (show l∈ah++[loop.take 1++loop.drop 2] from b) with z|z
   .exact d l z
   rw[aL.mp z,ao,bu,bG];lia
  .simp at h;intro l b;rcases aw.mp (show l∈ah++[x::(loop.drop 1).dropLast] from b) with z|z
   .exact d l z
   rw[aL.mp z,aS,qr,bG];lia
  show λl b=>d l b
 |sp j k=>
  simp only[ay] at h;by_cases e:j=0
  .subst e;rw[Nq rfl] at h;by_cases f:2<k/\k+1<loop.length
   .intro l b;rcases aw.mp (show l∈ah++[loop.take 1++loop.drop k,x::(loop.take k).drop 1] from b) with z|z
    .exact d l z
    simp only[ae,bq,or_false] at z;rcases z with rfl|rfl
    .rw[ao,bu,bG];lia
    rw[aS,bG,bu];lia
   rw[Np f] at h;cases h
  intro l b;unfold aM at b;dsimp only at b;rw[Np e] at b;rcases aw.mp b with z|z
  .exact d l (Lg z)
  rw[aL.mp z];simp only[ao,aS,bu,bG];lia
structure Fz(f:Fr):Prop where
 ok:Ok f
 fi:FI f.ts f.ls
 st:f.ts=[]->f=Fr.at0
 go:f.ts≠[]->(∀l∈f.ls,3<=l.length)/\∃c,En f.ts 0 1 c
theorem fz0:Fz Fr.at0:=⟨ok0,fi0,λ_=>rfl,λh=>(h rfl).elim⟩
theorem Fz.put{f:Fr}{a:Lt}{x:Nat}(h:Fz f)(ha:Lets a)(i:f.can a=some x):Fz (f.put a x)/\(f.put a x).ts.length=f.ts.length+1:=by
 have hok:=zM h.ok ha i;have r:=Kq h.ok h.fi ha i;obtain⟨ah,loop,g⟩:∃ah loop,f.ls=ah++[loop]:=by
  unfold Fr.can at i;cases e:f.ls.getLast? with
  |none=>rw[e] at i;cases i
  |some l=>show⟨f.ls.dropLast,l,by rw[qq] at e;obtain⟨ys,e⟩:=e;rw[e];simp⟩
 have ep:f.put a x=⟨aM ah loop a x,f.ts++[(g1 loop,g2 loop,x)],max f.n (x+1)⟩:=by obtain⟨ls,ts,n⟩:=f;dsimp only at g;rw[g,mK]
 have s:ic ah loop f.ts f.n a=some x:=by have:=i;obtain⟨ls,ts,n⟩:=f;dsimp only at g;rw[g,ke] at this;show this
 have d:=(jK s).1;have o:(f.put a x).ts.length=f.ts.length+1:=by rw[ep];simp
 show⟨⟨hok,r,λe=>by rw[e] at o;simp at o,λ_=>?_⟩,o⟩;rw[ep];by_cases e:f.ts=[]
 .have u:=h.st e;rw[u] at g;have v:ah=[]/\loop=[0,1]:=by
   have:([[0,1]]:Lps)=ah++[loop]:=g;cases ah with
   |nil=>simp at this;show⟨rfl,this.symm⟩
   |cons b ah=>simp at this
  obtain⟨rfl,rfl⟩:=v;have ea:a=.sg 67:=by
   cases a with
   |sg c=>
    simp only[Lets] at ha;rcases ha with rfl|rfl|rfl|rfl
    .rfl
    .simp[ay] at d
    .simp[ay] at d
    simp[ay] at d
   |sp j k=>
    simp only[ay] at d;by_cases p:j=0
    .rw[Nq p] at d;simp at d;lia
    rw[Np p,Np (by simp;lia)] at d;cases d
  subst ea;constructor
  .intro l m;have m:l∈([[0,x,1]]:Lps):=m;rw[aL.mp m];simp
  show⟨x,?_⟩;rw[e];change ((0,1),x)∈ents [(0,1,x)];simp[ents]
 obtain⟨q,c,w⟩:=h.go e;show⟨step3 (q loop (by rw[g];simp)) ha d λl m=>q l (by rw[g];simp[m]),c,?_⟩;change ((0,1),c)∈ents _;rw[K15.ents_app];show bM _ w
theorem GK{E:Nat->Nat->Nat->Prop}(k:Clo E){v p q:Nat}(h:E v p q):One E v:=by
 obtain⟨l,nd,b⟩:=k.rg h;have nx:∀i p,l[i]?=some p->(p,l.getD ((i+1)%l.length) 0)∈sides l:=λi p a=>by
  have hi:=(aI.mp a).1;have:=jD l i hi;rw[show l.getD i 0=p by simp[List.getD,a]] at this;show a_ this
 have key:∀p∈l,∃q,E v p q:=λp a=>by
  obtain⟨i,hi⟩:=nQ a;show⟨_,(b _ _).mpr (nx i p hi)⟩
 have mem:∀{p q},E v p q->p∈l/\q∈l:=λh=>jB ((b _ _).mp h);show⟨l,⟨λe=>?_,nd,λi p q h1 h2=>?_,key,λp _ q h _=>(mem h).2,λp _ o h=>(mem h).1⟩,λp ⟨q,d⟩=>(mem d).1⟩
 .have:=(mem h).1;rw[e] at this;cases this
 have c:=nx i p h1;have hi:=(aI.mp h2).1;rw[kO hi,show l.getD (i+1) 0=q by simp[List.getD,h2]] at c;show (b _ _).mpr c
theorem E2{ts:List Tri}(f:FI ts []):Good ts/\∀c,Co ts c->One (En ts) c:=by have k:=f.clo;show⟨⟨λt d=>?_,f.good⟩,λc ⟨p,q,h⟩=>GK k h⟩;obtain⟨a,b,c⟩:=t;have e:En ts a b c:=c9.mpr (.inl d);show⟨k.sk.ne e,k.sk.ne (k.sk.rot e),k.sk.ne (k.sk.rot (k.sk.rot e))⟩
theorem bounded(ts:List Tri):∃N,∀t∈ts,t.1<N/\t.2.1<N/\t.2.2<N:=by
 induction ts with
 |nil=>show⟨0,∅⟩
 |cons t ts b=>
  obtain⟨N,h⟩:=b;show⟨N+t.1+t.2.1+t.2.2+1,λu a=>?_⟩;rcases ae.mp a with rfl|a
  .lia
  have:=h u a;lia
theorem wG{f:Fr}(h:Fz f)(a:f.ts≠[]):(Good (f.ts++clos f.n f.ls)/\∀c,Co (f.ts++clos f.n f.ls) c->One (En (f.ts++clos f.n f.ls)) c)/\∃c,En (f.ts++clos f.n f.ls) 0 1 c:=by
 obtain⟨b,c,d⟩:=h.go a;show⟨E2 (rh f.ls f.ts f.n h.fi b λp q e=>?_),c,?_⟩
 .rcases aw.mp e with z|z
  .exact (h.ok.bigT _ z).1
  obtain⟨l,g,i⟩:=ia.mp z;show h.ok.big l g p (jB i).1
 change ((0,1),c)∈ents _;rw[K15.ents_app];show bM _ d
end K71
end
section
namespace K52
open K51
def stp(f:Bool)(c:Nat)(st:List Nat)(ls:List Lt):Option (List Nat×List Lt):=
 if c=69 then some (3::st,.sg 69::ls)
 else match st with
  | []=>none
  |k::r=>
   if c=83 then (match r with
    | []=>none
    |m::a=>some ((k+m-1)::a,.sp 0 k::ls))
   else if c=67 then (if k<4/\f=false then none else some ((k-1)::r,.sg 67::ls))
   else if c=82\/c=76 then some ((k+1)::r,.sg c::ls) else none
def sc:List Nat->Option (List Nat×List Lt)
 | []=>some ([],[])
 |c::r=>(sc r).bind λx=>stp false c x.1 x.2
def pK(x:List Nat×List Lt):Option (List Lt):=if x.1=[2] then some x.2 else none
def plc:List Nat->Option (List Lt)
 | []=>none
 |c::r=>((sc r).bind λx=>stp true c x.1 x.2).bind pK
theorem Fl{f:Bool}{c:Nat}{st:List Nat}{ls:List Lt}{x:List Nat×List Lt}(h:stp f c st ls=some x)(b:∀k∈st,3<=k)(hf:f=false):∀k∈x.1,3<=k:=by
 subst hf;unfold stp at h
 split at h
 .cases h;intro k d;rcases ae.mp d with rfl|d
  .lia
  show b k d
 cases st with
 |nil=>cases h
 |cons k r=>
  have i:=b k ∅;have a:∀m∈r,3<=m:=λm hm=>b m (by simp[hm]);dsimp only at h
  split at h
  .cases r with
   |nil=>cases h
   |cons m j=>
    cases h;have:=a m ∅;intro z hz;rcases ae.mp hz with rfl|hz
    .lia
    show a z (by simp[hz])
  split at h
  .split at h
   .cases h
   rename_i g;have l:¬k<4:=λz=>g ⟨z,rfl⟩;cases h;intro z hz;rcases ae.mp hz with e|hz
   .rw[e];lia
   show a z hz
  split at h
  .cases h;intro z hz;rcases ae.mp hz with rfl|hz
   .lia
   show a z hz
  cases h
theorem zB:∀{l:List Nat}{x:List Nat×List Lt},sc l=some x->∀k∈x.1,3<=k
 | [],x,h=>by cases h;simp
 |c::r,x,h=>by
  obtain⟨y,h1,h2⟩:=uV.mp h;show Fl h2 (zB h1) rfl
theorem Fk{f:Bool}{c:Nat}{st:List Nat}{ls:List Lt}{x:List Nat×List Lt}(h:stp f c st ls=some x):x.1.length<=st.length+1/\x.2.length=ls.length+1:=by
 unfold stp at h
 split at h
 .cases h;simp
 cases st with
 |nil=>cases h
 |cons k r=>
  dsimp only at h
  split at h
  .cases r with
   |nil=>cases h
   |cons m a=>cases h;simp
  split at h
  .split at h
   .cases h
   cases h;simp
  split at h
  .cases h;simp
  cases h
theorem zw:∀{l:List Nat}{x:List Nat×List Lt},sc l=some x->x.1.length<=l.length/\x.2.length=l.length
 | [],x,h=>by cases h;simp
 |c::r,x,h=>by
  obtain⟨y,h1,h2⟩:=uV.mp h;have a:=zw h1;have b:=Fk h2;simp only[aS];lia
end K52
end
section
namespace K71
open K31 K51 K15 K52
def jn:Lt->Nat
 |.sg _=>0
 |.sp j _=>if j=0 then 0 else 1
def jns(w:List Lt):Nat:=(w.map jn).sum
def lsum(ls:Lps):Nat:=(ls.map List.length).sum
theorem gi(xs ys:Lps):lsum (xs++ys)=lsum xs+lsum ys:=by simp[lsum]
theorem gZ(l:List Nat):lsum [l]=l.length:=by simp[lsum]
theorem EB(l m:List Nat):lsum [l,m]=l.length+m.length:=by simp[lsum]
theorem wZ{ah:Lps}{loop:List Nat}{lt:Lt}{n x:Nat}(i:2<=loop.length)(ha:Lets lt)(h:ay ah loop lt n=some x) :
  1+lsum (aM ah loop lt x)+2*(ah++[loop]).length=lsum (ah++[loop])+2*(aM ah loop lt x).length+(if lt=.sg 67 then 2 else 0)+4*jn lt:=by
 cases lt with
 |sg c=>
  simp only[Lets] at ha;rcases ha with rfl|rfl|rfl|rfl
  .simp[aM,gi,gZ,jn];lia
  .simp only[ay] at h;by_cases a:3<loop.length
   .simp[aM,gi,gZ,jn];lia
   simp[a] at h
  .simp only[ay] at h;by_cases a:3<loop.length
   .simp[aM,gi,gZ,jn];lia
   simp[a] at h
  simp only[ay] at h;by_cases a:loop.length=3
  .simp[aM,gi,gZ,jn];lia
  simp[a] at h
 |sp j k=>
  simp only[ay] at h;by_cases b:j=0
  .subst b;by_cases d:2<k/\k+1<loop.length
   .simp[aM,gi,EB,gZ,jn];lia
   simp[d] at h
  rw[Np b] at h;by_cases h2:j<=ah.length
  .rw[Nq h2] at h;have hi:ah.length-j<ah.length:=();obtain⟨u,v,e,f⟩:=pE hi;simp only[aM,Np b,jn];rw[f,Np (by intro z;cases z)];generalize ah.getD (ah.length-j) []=o at *;have d:k<o.length:=(aI.mp h).1;have hz:lsum ah=lsum u+o.length+lsum v:=by rw[e,show u++o::v=u++[o]++v by simp,gi,gi,gZ]
   have g:ah.length=u.length+1+v.length:=by rw[e];simp;lia
   simp only[gi,gZ,ao,aS,iQ,bu,bG,hz,g];lia
  rw[Np h2] at h;cases h
inductive Rn:Lps->List Lt->Prop
 |nil:Rn [] []
 |cons {ah:Lps} {loop:List Nat} {lt:Lt} {n x:Nat} {w:List Lt} (hl:2<=loop.length) (ha:Lets lt) (h:ay ah loop lt n=some x) (r:Rn (aM ah loop lt x) w):Rn (ah++[loop]) (lt::w)
def lens(ls:Lps):List Nat:=(ls.map List.length).reverse
theorem jH(ah:Lps)(l:List Nat):lens (ah++[l])=l.length::lens ah:=by simp[lens]
theorem rL(a:Lt)(w:List Lt):jns (a::w)=jn a+jns w:=by simp[jns]
theorem DC{ah:Lps}{loop:List Nat}{lt:Lt}{n x:Nat}{w:List Lt}(f:Bool)(m:2<=loop.length)(hf:f=false->3<=loop.length)(ha:Lets lt)(h:ay ah loop lt n=some x)(b:jn lt=0) :
  stp f (sgn lt) (lens (aM ah loop lt x)) w=some (lens (ah++[loop]),lt::w):=by
 rw[jH];cases lt with
 |sg c=>
  simp only[Lets] at ha;rcases ha with rfl|rfl|rfl|rfl
  .have e:(loop.take 1++x::loop.drop 1).length=loop.length+1:=by simp;lia
   have:aM ah loop (.sg 67) x=ah++[loop.take 1++x::loop.drop 1]:=by simp[aM]
   rw[this,jH,e];change stp f 67 _ _=_;unfold stp;rw[Np ⋯];dsimp only;rw[Np ⋯,Nq rfl,Np (by rintro⟨h1,h2⟩;have:=hf h2;lia)];rfl
  .simp only[ay] at h;by_cases a:3<loop.length
   .have e:(loop.take 1++loop.drop 2).length+1=loop.length:=by simp;lia
    have:aM ah loop (.sg 82) x=ah++[loop.take 1++loop.drop 2]:=by simp[aM]
    rw[this,jH];change stp f 82 _ _=_;unfold stp;rw[Np ⋯];dsimp only;rw[Np ⋯,Np ⋯,Nq (.inl rfl),e]
   simp[a] at h
  .simp only[ay] at h;by_cases a:3<loop.length
   .have e:(x::(loop.drop 1).dropLast).length+1=loop.length:=by simp;lia
    have:aM ah loop (.sg 76) x=ah++[x::(loop.drop 1).dropLast]:=by simp[aM]
    rw[this,jH];change stp f 76 _ _=_;unfold stp;rw[Np ⋯];dsimp only;rw[Np ⋯,Np ⋯,Nq (.inr rfl),e]
   simp[a] at h
  simp only[ay] at h;by_cases a:loop.length=3
  .have:aM ah loop (.sg 69) x=ah:=by simp[aM]
   rw[this,a];rfl
  simp[a] at h
 |sp j k=>
  have d:j=0:=by
   simp only[jn] at b;by_cases z:j=0
   .exact z
   rw[Np z] at b;cases b
  subst d;simp only[ay] at h;by_cases g:2<k/\k+1<loop.length
  .have:aM ah loop (.sp 0 k) x=ah++[loop.take 1++loop.drop k]++[x::(loop.take k).drop 1]:=by simp[aM]
   have i:(loop.take 1++loop.drop k).length=loop.length-k+1:=by simp;lia
   have l:(x::(loop.take k).drop 1).length=k:=by simp;lia
   rw[this,jH,jH,i,l];change stp f 83 _ _=_;unfold stp;rw[Np ⋯];dsimp only;rw[Nq rfl,show k+(loop.length-k+1)-1=loop.length by lia]
  simp[g] at h
theorem JR{ls:Lps}{w:List Lt}(h:Rn ls w)(d:jns w=0)(b:∀l∈ls,3<=l.length):sc (w.map sgn)=some (lens ls,w):=by
 induction h with
 |nil=>rfl
 |cons a ha h r e=>
  rw[rL] at d;have c:=b _ (bo _ dX);have:=e () (step3 c ha h λl a=>b l (bM _ a));change (sc _).bind _=_;rw[this];show DC false a (λ_=>c) ha h ()
theorem yP{p q:Nat}{ah:Lps}{loop:List Nat}{lt:Lt}{n x:Nat}(e:ah++[loop]=[[p,q]])(ha:Lets lt)(h:ay ah loop lt n=some x):ah=[]/\loop=[p,q]/\lt=.sg 67:=by
 have d:ah=[]/\loop=[p,q]:=by
  cases ah with
  |nil=>simpa using e
  |cons b ah=>simp at e
 obtain⟨rfl,rfl⟩:=d;show⟨rfl,rfl,?_⟩;cases lt with
 |sg c=>
  simp only[Lets] at ha;rcases ha with rfl|rfl|rfl|rfl
  .rfl
  .simp[ay] at h
  .simp[ay] at h
  simp[ay] at h
 |sp j k=>
  simp only[ay] at h;by_cases a:j=0
  .rw[Nq a] at h;simp at h;lia
  rw[Np a,Np (by simp;lia)] at h;cases h
theorem zE{p q:Nat}{w:List Lt}(h:Rn [[p,q]] w)(b:jns w=0):plc (w.map sgn)=some w:=by
 generalize e:([[p,q]]:Lps)=ls at h;cases h with
 |nil=>cases e
 | @cons ah loop lt n x w a ha c r=>
  obtain⟨rfl,rfl,rfl⟩:=yP e.symm ha c;rw[rL] at b;have d:=JR r () (by intro l a;have a:l∈([[p,x,q]]:Lps):=a;rw[aL.mp a];simp);change ((sc (w.map sgn)).bind λy=>stp true 67 y.1 y.2).bind pK=_;rw[d];rfl
structure WX(cs:List Tri)(a0 b0:Nat)(ds:List Tri)(ls:Lps)(come:List Nat)(w:List Lt):Prop where
 ws:WS cs a0 b0 ds ls come
 ini:ds≠[]->Dn ds a0 b0
 cnt:ds.length+lsum ls+4=2*come.length+2*ls.length+4*jns w
 run:∀w',Rn ls w'->Rn [[a0,b0]] (w++w')
theorem WX.start{cs:List Tri}{a0 b0:Nat}(h:WS cs a0 b0 [] [[a0,b0]] [a0,b0]):WX cs a0 b0 [] [[a0,b0]] [a0,b0] []:=
 ⟨h,λz=>(z rfl).elim,by simp[lsum,jns],λ_ h=>h⟩
theorem WX.next{cs:List Tri}{a0 b0:Nat}{ds:List Tri}{ah:Lps}{a b:Nat}{t:List Nat}{come:List Nat}{w:List Lt}{lt:Lt}{n x:Nat}(h:WX cs a0 b0 ds (ah++[a::b::t]) come w)(ha:Lets lt)(g:ay ah (a::b::t) lt n=some x)
  (ws:WS cs a0 b0 (ds++[(a,b,x)]) (aM ah (a::b::t) lt x) (if lt=.sg 67 then come++[x] else come)):WX cs a0 b0 (ds++[(a,b,x)]) (aM ah (a::b::t) lt x) (if lt=.sg 67 then come++[x] else come) (w++[lt]):=by
 have i:2<=(a::b::t).length:=∅;show⟨ws,λ_=>?_,?_,λj r=>?_⟩
 .by_cases e:ds=[]
  .obtain⟨l,_⟩:=h.ws.st e;have m:a::b::t=[a0,b0]:=by
    have:=congrArg List.getLast? l;simpa using this
   injection m with o d;injection d with d s;show⟨x,eM.mpr (.inr (.inl (by rw[<-o,<-d])))⟩
  obtain⟨c,p⟩:=h.ini e;show⟨c,eM.mpr (.inl p)⟩
 .have h1:=wZ i ha g;have h2:=h.cnt;have q:jns (w++[lt])=jns w+jn lt:=by simp[jns]
  rw[q,ao,aV]
  split
  .rename_i f;rw[Nq f] at h1;rw[ao,aV];lia
  rename_i f;rw[Np f] at h1;lia
 have:=h.run (lt::j) (.cons i ha g r);simpa using this
theorem J_{l m:List Nat}(h:l.Nodup)(a:∀x∈l,x∈m):l.length<=m.length:=by
 have:=ph (l:=l.map λx=>(x,0)) (m:=m.map λx=>(x,0)) (ff.mpr (h.imp λh e=>h (dz e).1)) λx b=>by
  obtain⟨y,c,rfl⟩:=aq.mp b;show aq.mpr ⟨y,a y c,rfl⟩
 simpa using this
def Cn(cs ts:List Tri):Prop:=∀D:Nat->Nat->Prop,(∀a b c,En cs a b c->D a b->D b c)->(∀a b c,En cs a b c->D b a->D a b)->D 0 1->∀a b c,En ts a b c->D a b
theorem FW{cs ds:List Tri}{come:List Nat}{w:List Lt}{V:Nat}(k:Sk (En cs))(h:WX cs 0 1 ds [] come w)(i:∀v,v<V->∃p q,En cs v p q)(j:Cn cs cs)(hlen:cs.length+4=2*V):jns w=0:=by
 have hd:ds≠[]:=λe=>by
  have:=(h.ws.st e).1;cases this
 have all:=j (Dn ds) (λa b c f ⟨d,hd⟩=>⟨a,by rw[k.one f (h.ws.wi.sub hd)];show cQ hd⟩) (λa b c f hd=>pZ λz=>by
  obtain⟨p,n⟩:=h.ws.wi.al f z hd;cases n) (h.ini hd)
 have s:V<=come.length:=by
  have:=J_ (l:=List.range V) (m:=come) uJ λv o=>by
   obtain⟨p,q,f⟩:=i v (fX.mp o);obtain⟨c,g⟩:=all _ _ _ f;show (h.ws.cm hd v).mpr ⟨_,_,g⟩
  rwa [iS] at this
 have u:ds.length<=cs.length:=by
  have:=ph (l:=(ents ds).map (·.1)) (m:=(ents cs).map (·.1)) h.ws.wi.gd λx r=>by
   obtain⟨⟨y,c⟩,h1,rfl⟩:=aq.mp r;show aq.mpr ⟨(y,c),h.ws.wi.sub h1,rfl⟩
  rw[aE,aE,K15.ents_len,K15.ents_len] at this;lia
 have g:=h.cnt;simp only[lsum,fG,qz,iQ] at g;lia
structure FX(f:Fr):Prop where
 fz:Fz f
 cnt:f.ts.length+lsum f.ls+4=2*f.n+2*f.ls.length
 wn:f.ts≠[]->∀p q,(p,q)∈wl f.ls->(q,p)∈tl f.ts
 co:f.ts≠[]->∀v,v<f.n->∃p q,En f.ts v p q
 cn:Cn f.ts f.ts
theorem fx0:FX Fr.at0:=⟨fz0,by simp[Fr.at0,lsum],λh=>(h rfl).elim,λh=>(h rfl).elim,λD _ _ _ a b c h=>by cases h⟩
theorem FX.put{f:Fr}{a:Lt}{x:Nat}(h:FX f)(ha:Lets a)(N:jn a=0)(m:f.can a=some x):FX (f.put a x):=by
 obtain⟨hz,_⟩:=h.fz.put ha m;obtain⟨ah,loop,w⟩:∃ah loop,f.ls=ah++[loop]:=by
  unfold Fr.can at m;cases e:f.ls.getLast? with
  |none=>rw[e] at m;cases m
  |some l=>show⟨f.ls.dropLast,l,by rw[qq] at e;obtain⟨ys,e⟩:=e;rw[e];simp⟩
 have r:2<=loop.length:=h.fz.ok.two loop (by rw[w];simp);have O:∀l∈ah++[loop],∀c∈l,c<f.n:=by rw[<-w];show h.fz.ok.big
 have A:=h.fz.st;obtain⟨_,h2,E,P,Q⟩:=h;obtain⟨ls,ts,n⟩:=f;dsimp only at w;subst w;rw[ke] at m;obtain⟨d,xa,Y,_⟩:=jK m;rw[mK] at hz |-;obtain⟨t,R⟩:=two r;have S:(g1 loop,g2 loop)∈wl (ah++[loop]):=ia.mpr ⟨loop,∅,by
  have:(g1 loop,g2 loop)∈sides (g1 loop::g2 loop::t):=by simp[sides,path]
  rwa [<-R] at this⟩
 have H:max n (x+1)=n+(if a=.sg 67 then 1 else 0):=by
  split
  .rename_i e;subst e;simp[ay] at d;lia
  rename_i e;rcases qU d with ⟨z,_⟩|⟨l,r,d⟩
  .exact (e z).elim
  have:x<n:=O l r x d;lia
 have T:ts=[]/\g1 loop=0/\g2 loop=1\/ts≠[]/\(g2 loop,g1 loop)∈tl ts:=by
  by_cases e:ts=[]
  .have:=A e;injection this with g _ _;show .inl ⟨e,?_⟩;have j:loop=[0,1]:=by
    have:=congrArg List.getLast? g;simpa using this
   rw[j];show⟨rfl,rfl⟩
  show .inr ⟨e,E e _ _ S⟩
 have sub:∀{u v c},En ts u v c->En (ts++[(g1 loop,g2 loop,x)]) u v c:=λh=>eM.mpr (.inl h);show⟨hz,?_,λ_ p q B=>?_,λ_ v s=>?_,λD y I K=>?_⟩
 .have h1:=wZ r ha d;dsimp only at h2 |-;rw[H,ao,aV];rw[N] at h1
  split
  .rename_i o;rw[Nq o] at h1;lia
  rename_i o;rw[Np o] at h1;lia
 .obtain⟨rest,p1,p2⟩:=qV r ha d;have B:=p2.mem_iff.mp B;change (q,p)∈tl (ts++[(g1 loop,g2 loop,x)]);rw[r_];rcases aw.mp B with z|z
  .refine bo _ ?_;unfold come at z;rcases aw.mp z with z|z
   .split at z
    .cases z
    rw[aL] at z;cases z;simp
   split at z
   .cases z
   rw[aL] at z;cases z;simp
  have L:(p,q)∈wl (ah++[loop]):=p1.mem_iff.mpr (bo _ z);by_cases e:ts=[]
  .have:=A e;injection this with g _ _;have j:ah=[]/\loop=[0,1]:=by
    cases ah with
    |nil=>simpa using g
    |cons b ah=>simp at g
   obtain⟨rfl,rfl⟩:=j;have nd:(gone (sgn a) 0 1 x++rest).Nodup:=p1.nodup_iff.mp ⋯;have M:(p,q)∈([(0,1),(1,0)]:List Side):=L;simp only[ae,bq,or_false,bz] at M;rcases M with ⟨rfl,rfl⟩|⟨rfl,rfl⟩
   .exact ((bS.mp nd).2.2 (0,1) (by simp[gone]) (0,1) z rfl).elim
   rw[e];show dX
  show bM _ (E e _ _ L)
 .change ∃p q,En (ts++[(g1 loop,g2 loop,x)]) v p q;have s:v<max n (x+1):=s;by_cases e:ts=[]
  .have:=A e;injection this with g _ U;have j:ah=[]/\loop=[0,1]:=by
    cases ah with
    |nil=>simpa using g
    |cons b ah=>simp at g
   obtain⟨rfl,rfl⟩:=j;have ea:=(yP rfl ha d).2.2;subst ea;simp[ay] at d;subst d U;have:v=0\/v=1\/v=2:=();rcases this with rfl|rfl|rfl
   .exact⟨_,_,eM.mpr (.inr (.inl rfl))⟩
   .exact⟨_,_,eM.mpr (.inr (.inr (.inl rfl)))⟩
   show⟨_,_,eM.mpr (.inr (.inr (.inr rfl)))⟩
  by_cases X:v<n
  .obtain⟨p,q,i⟩:=P e v X;show⟨p,q,sub i⟩
  have:v=x:=by
   rw[H] at s;by_cases o:a=.sg 67
   .subst o;simp[ay] at d;rw[Nq rfl] at s;lia
   rw[Np o] at s;lia
  subst this;show⟨_,_,eM.mpr (.inr (.inr (.inr rfl)))⟩
 have old:=Q D (λa b c i=>y a b c (sub i)) (λa b c i=>I a b c (sub i)) K;have new:En (ts++[(g1 loop,g2 loop,x)]) (g1 loop) (g2 loop) x:=eM.mpr (.inr (.inl rfl));have C:D (g1 loop) (g2 loop):=by
  rcases T with ⟨_,g,j⟩|⟨_,hm⟩
  .rw[g,j];show K
  obtain⟨c,i⟩:=gC.mp hm;show I _ _ _ new (old _ _ _ i)
 intro u v c i;rcases eM.mp i with z|z|z|z
 .exact old _ _ _ z
 .cases z;show C
 .cases z;show y _ _ _ new C
 cases z;show y _ _ _ (cQ new) (y _ _ _ new C)
theorem zJ:∀(u:Pr)(r:List Pr)(w:Pr),(pp u r w).map (λe=>(e.1.1,e.2.1))=path u.1 (r.map (·.1)) w.1
 |_,[],_=>rfl
 |u,v::r,w=>by
  change (u.1,v.1)::(pp v r w).map (λe=>(e.1.1,e.2.1))=(u.1,v.1)::path v.1 (r.map (·.1)) w.1;rw[zJ v r w]
theorem GH(P:List Pr):(cyc P).map (λe=>(e.1.1,e.2.1))=sides (P.map (·.1)):=by
 cases P with
 |nil=>rfl
 |cons u r=>show zJ u r u
theorem zG:∀(u:Pr)(r:List Pr)(w:Pr),(pp u r w).map (·.1)=u::r
 |_,[],_=>rfl
 |u,v::r,w=>by
  change u::(pp v r w).map (·.1)=u::v::r;rw[zG v r w]
theorem zc(P:List Pr):(cyc P).map (·.1)=P:=by
 cases P with
 |nil=>rfl
 |cons u r=>show zG u r u
theorem flat3{α:Type}(f:α->List Tri)(hf:∀a,(f a).length=3):∀l:List α,(l.flatMap f).length=3*l.length
 | []=>rfl
 |a::l=>by rw[qm,ao,hf,flat3 f hf l,aS];lia
theorem xI:∀(N:Nat)(ls:Lps),(clos N ls).length=3*lsum ls
 |_,[]=>rfl
 |N,l::ls=>by
  have e:(cyc (prs N l)).length=l.length:=by rw[<-aE (f:=(·.1)),zc];simp[prs]
  rw[clos,ao,xI,clo,flat3 _ (λ_=>rfl),e,show l::ls=[l]++ls from rfl,gi,gZ];lia
theorem jV{a b:List Tri}{u v c:Nat}(h:En a u v c):En (a++b) u v c:=by unfold En at h |-;rw[K15.ents_app];show bM _ h
theorem oJ{a b:List Tri}{u v c:Nat}(h:En b u v c):En (a++b) u v c:=by unfold En at h |-;rw[K15.ents_app];show bo _ h
theorem t5{ts:List Tri}{a b c:Nat}(h:(a,b,c)∈ts):En ts a b c:=c9.mpr (.inl h)
theorem zd:∀(N:Nat)(ls:Lps),(∀l∈ls,3<=l.length)->∀v,N<=v->v<N+lsum ls+ls.length->∃p q,En (clos N ls) v p q
 |N,[],_,v,h1,h2=>by simp[lsum] at h2;lia
 |N,l::ls,a,v,h1,h2=>by
  rw[clos];have g:=a l dX;by_cases h:v<=N+l.length
  .-- in j first one
   have hi:∀i,i<l.length->∃e∈cyc (prs N l),e.1.2=N+i:=λi hi=>by
    have hm:(l.getD i 0,N+i)∈(cyc (prs N l)).map (·.1):=by rw[zc];show aq.mpr ⟨i,fX.mpr hi,rfl⟩
    obtain⟨e,he,b⟩:=aq.mp hm;show⟨e,he,by rw[b]⟩
   by_cases c:v=N+l.length
   .obtain⟨e,he,_⟩:=hi 0 ();have hm:(e.1.2,e.2.2,v)∈clo (N+l.length) (prs N l):=eU.mpr ⟨e,he,by rw[c];simp[tC]⟩;show⟨_,_,jV (cQ (cQ (t5 hm)))⟩
   obtain⟨e,he,b⟩:=hi (v-N) ();have d:e.1.2=v:=();have hm:(e.1.1,e.2.1,v)∈clo (N+l.length) (prs N l):=eU.mpr ⟨e,he,by rw[<-d];simp[tA]⟩;show⟨_,_,jV (cQ (cQ (t5 hm)))⟩
  have n:v<N+(l.length+lsum ls)+(ls.length+1):=by rw[show l::ls=[l]++ls from rfl,gi,gZ,ao,aV] at h2;lia
  obtain⟨p,q,f⟩:=zd (N+l.length+1) ls (λm hm=>a m (aZ _ hm)) v () ();show⟨p,q,oJ f⟩
theorem ze{cs:List Tri}{D:Nat->Nat->Prop}(d:∀a b c,En cs a b c->D a b->D b c)(f:∀a b c,En cs a b c->D b a->D a b):∀(N:Nat)(ls:Lps),(∀a b c,En (clos N ls) a b c->En cs a b c)->(∀p q,(p,q)∈wl ls->D q p)->∀a b c,En (clos N ls) a b c->D a b
 |_,[],_,_,_,_,_,h=>by cases h
 |N,l::ls,sub,hw,a,b,c,h=>by
  rw[clos] at sub h;have key:∀t∈clo (N+l.length) (prs N l),D t.1 t.2.1/\D t.2.1 t.2.2/\D t.2.2 t.1:=λt g=>by
   obtain⟨e,he,g⟩:=eU.mp g;have mem:∀x y z,(x,y,z)∈[tA e,tB e,tC (N+l.length) e]->En cs x y z:=λx y z hm=>sub _ _ _ (jV (t5 (eU.mpr ⟨e,he,hm⟩)));have three:∀{x y z:Nat},En cs x y z->En cs y z x->D x y->D y z/\D z x:=λh1 h2 h=>⟨d _ _ _ h1 h,d _ _ _ h2 (d _ _ _ h1 h)⟩;have i:=mem e.1.1 e.2.1 e.1.2 (by simp[tA]);have n:=mem e.2.1 e.2.2 e.1.2 (by simp[tB]);have j:=mem e.1.2 e.2.2 (N+l.length) (by simp[tC]);have w:(e.1.1,e.2.1)∈wl (l::ls):=ia.mpr ⟨l,dX,by
    have:(e.1.1,e.2.1)∈(cyc (prs N l)).map (λe=>(e.1.1,e.2.1)):=aq.mpr ⟨e,he,rfl⟩
    rwa [GH,yy] at this⟩
   have o:=f _ _ _ i (hw _ _ w);have r:=three i (cQ i) o;have s:=cQ (cQ n);have u:=f _ _ _ s r.1;have m:=three s n u;have v:=f _ _ _ j m.2;have A:=three j (cQ j) v;simp only[ae,bq,or_false] at g;rcases g with rfl|rfl|rfl
   .exact⟨o,r⟩
   .exact⟨m.1,m.2,u⟩
   show⟨v,A⟩
  unfold En at h;rw[K15.ents_app] at h;rcases aw.mp h with h|h
  .rcases c9.mp h with z|z|z
   .exact (key _ z).1
   .exact (key _ z).2.1
   show (key _ z).2.2
  show ze d f (N+l.length+1) ls (λa b c h=>sub a b c (oJ h)) (λp q hm=>hw p q (by rw[ja];show bo _ hm)) a b c h
theorem Di{f:Fr}(h:FX f)(e:f.ts≠[]){ds:List Tri}{come:List Nat}{w:List Lt}(hw:WX (f.ts++clos f.n f.ls) 0 1 ds [] come w):jns w=0:=by
 obtain⟨⟨g,_⟩,_⟩:=wG h.fz e;have m:=(h.fz.go e).1;show FW g.sk hw (V:=f.n+lsum f.ls+f.ls.length) (λv o=>?_) (λD j l r a b c d=>?_) ?_
 .by_cases s:v<f.n
  .obtain⟨p,q,d⟩:=h.co e v s;show⟨p,q,jV d⟩
  obtain⟨p,q,d⟩:=zd f.n f.ls m v () o;show⟨p,q,oJ d⟩
 .have old:=h.cn D (λa b c d=>j a b c (jV d)) (λa b c d=>l a b c (jV d)) r;have i:=d;unfold En at i;rw[K15.ents_app] at i;rcases aw.mp i with z|z
  .exact old _ _ _ z
  show ze j l f.n f.ls (λa b c h=>oJ h) (λp q hm=>?_) a b c z;obtain⟨c,u⟩:=gC.mp (h.wn e p q hm);show old _ _ _ u
 have:=h.cnt;rw[ao,xI];lia
end K71
end
section
namespace K71
open PySem L2 K51 K31 K15
theorem _root_.L2.FnOk.ex{CX:CXT}{k:Nat}{f:Addr}{ps:List Str}{α:Sort _}{p:α->Prop}{sp:α->Sp}(h:∀a,p a->FnOk P w K mg base CX k f fd ps (sp a)) :
  FnOk P w K mg base CX k f fd ps (λvs H Q E=>∃a,p a/\sp a vs H Q E):=
 ⟨λvs H Q E ⟨a,ha,q⟩=>(h a ha).len vs H Q E q,λA outer s H args us vs Q E b he c d ⟨a,ha,q⟩=>(h a ha).run A outer s H args us vs Q E b he c d q⟩
def spXB(sp:(Nat->Int)->Sp)(vs:List V)(H:Hp)(Q:VK)(E:XK)(φ:Nat->Int):Prop:=(∀a b:Nat,φ a=φ b->a=b)/\sp φ vs H Q E
def spX(sp:(Nat->Int)->Sp):Sp:=λvs H Q E=>Exists (spXB sp vs H Q E)
def spNB(sp:Nat->Sp)(vs:List V)(H:Hp)(Q:VK)(E:XK)(N:Nat):Prop:=True/\sp N vs H Q E
def spN(sp:Nat->Sp):Sp:=λvs H Q E=>Exists (spNB sp vs H Q E)
theorem Dh{a D:Addr}{g:TG}{tt:TT}{te:TE}{Z':St}{H1:Hp}{Q:Hp->Prop}(Pv:Nat->St->List V->Hp->Prop)(d:Pv 0 Z' [] (upd H1 D (.lst [])))(f:∀i Z ys H,i<=xs.length->Pv i Z ys H->SqL K H a xs)
  (h:∀i x p Z ys H,xs[i]?=some x->Pv i Z ys H->H p=none->g (.ref p) Z (upd H p (.tup [.int (i:Int),x])) (nh tt te D ys (Pv (i+1))))
  (hd:∀Z ys H,Pv xs.length Z ys H->Q H):ji (Ite K a) g tt te D Z' H1 Q:=by
 show⟨λi m Z ys H=>m=xs.length-i/\i<=xs.length/\Pv i Z ys H,⟨xs.length,∅,aQ _,d⟩,?_⟩;rintro i m Z ys H ⟨rfl,hi,p⟩;have q:=f i Z ys H hi p;by_cases c:i<xs.length
 .refine .inr ⟨⟨xs,xs[i],q,by simp[c]⟩,Pv (i+1),λZ' l H' p'=>⟨xs.length-(i+1),(),rfl,c,p'⟩,λx H' y=>?_⟩;obtain⟨b,v,j,rfl,rfl,y⟩:=y;show h i v b Z ys H (y xs q) p j
 have e:i=xs.length:=();subst e;show .inl ⟨⟨xs,q,ax _⟩,hd Z ys H p⟩
theorem zZ{φ:Nat->Int}:∀l:List Nat,Dts K H (cV φ l) (l.map λn:Nat=>PyData.int (φ n))
 | []=>.nil
 |_::l=>.cons (.int _) (zZ l)
theorem xF{φ:Nat->Int}:∀{vs:List V}{ls:Lps},cu φ H vs ls->Dts K H vs (ls.map λl=>PyData.list (l.map λn:Nat=>PyData.int (φ n)))
 |_,_,.nil=>.nil
 |_,_,.cons ⟨_,e,h⟩ t=>e ▸ .cons (.lst (SqL.of h) (zZ _)) (xF t)
theorem EW{φ:Nat->Int}(ls:Lps):(PyData.list (ls.map λl=>PyData.list (l.map λn:Nat=>PyData.int (φ n)))).depth<=4:=by
 have h1:∀l:List Nat,PyData.depthAll (l.map λn:Nat=>PyData.int (φ n))<=1:=λl=>by
  induction l with
  |nil=>simp[PyData.depthAll]
  |cons a l b=>simp only[az,PyData.depthAll,PyData.depth];lia
 have h2:PyData.depthAll (ls.map λl=>PyData.list (l.map λn:Nat=>PyData.int (φ n)))<=2:=by
  induction ls with
  |nil=>simp[PyData.depthAll]
  |cons a ls b=>
   simp only[az,PyData.depthAll,PyData.depth];have:=h1 a;lia
 simp only[PyData.depth];lia
theorem ml(a b:Lt):PyData.eqv (ltD a) (ltD b)=decide (a=b):=by rw[cR,sX _ _ (rH a) (rH b),decide_eq_true_eq];show⟨yJ,λe=>by rw[e]⟩
theorem oU{a:Lt}(h:Lets a):a.ok:=by
 cases a with
 |sg c=>
  simp only[K31.Lets] at h;rcases h with rfl|rfl|rfl|rfl<;>rfl
 |sp j k=>trivial
theorem oM:∀{ls:Lps}{l:List Nat},l∈ls->l.length<=(ls.map List.length).sum
 | [],_,h=>by cases h
 |m::ls,l,h=>by
  rw[az,fg];rcases ae.mp h with rfl|h
  .lia
  have:=oM h;lia
theorem oN:∀{ls:Lps},(∀l∈ls,2<=l.length)->ls.length<=(ls.map List.length).sum
 | [],_=>∅
 |l::ls,h=>by
  rw[az,fg,aS];have:=h l dX;have:=oN λm hm=>h m (aZ _ hm);lia
theorem jG{ls:List Lt}(e:∀t xs,H t=some (.tup xs)->H' t=some (.tup xs))(h:bE H vs ls):bE H' vs ls:=Paired.imp' (λ_ _ q=>q.move e) h
def teN(K:W.Frag):TE:=tOp (ui []) (ue (eO (cD 0) (eO (L2.tC .non) gI))) (tCB (λxs H Q=>(∃i,xs=[.int i]/\Q (.int i) H)\/∃k,xs=[.bl k]/\Q (.int (if k then 1 else 0)) H) (eO (tOp (rI0 λi j=>.bl (decide (i<j))) (cD 0) (L2.tC (.int 0))) gI))
def DF(vs:List V)(H:Hp)(Q:VK)(T S:Addr)(f:List V)(ts:List Tri)(p q c N:Nat):Prop:=vs=[.ref T,.ref S]/\H T=some (.lst f)/\aO H f ts/\ts.length<=110/\(ts.length<=60\/∀a b c,En ts a b c->∃d,En ts b a d)/\Good ts/\(∀c,Co ts c->One (En ts) c)/\(∀t∈ts,t.1<N/\t.2.1<N/\t.2.2<N)/\
 H S=some (.tup [.int (p:Int),.int (q:Int)])/\En ts p q c/\
 ∀r W g e i j H',H r=none->H W=none->Same H H'->H' r=some (.tup [.ref W,i,j])->H' W=some (.lst g)->bE H' g e->(∀a∈e,Lets a)->e.length<=240->(∃h ds come,Rims (aW (En ts)) h/\WX (ts++caps N h) p q ds [] come e)->Q (.ref r) H'
def sf:Sp:=λvs H Q _=>Exists (Ex8 (DF vs H Q))
theorem wb{ts:List Tri}{ls:Lps}(h:Rims (aW (En ts)) ls)(e:∀a b c,En ts a b c->∃d,En ts b a d):ls=[]:=by
 cases ls with
 |nil=>rfl
 |cons l ls=>
  obtain⟨x,_,f⟩:=(h.cyc l dX).begin;obtain⟨q,_,⟨c,h1⟩,h2⟩:=(h.cyc l dX).step f;show (h2 (e _ _ _ h1)).elim
theorem Jg{ts:List Tri}{ls:Lps}{N:Nat}(g:Good ts)(o:∀c,Co ts c->One (En ts) c)(d:∀t∈ts,t.1<N/\t.2.1<N/\t.2.2<N)(b:Rims (aW (En ts)) ls)(bl:∀l∈ls,∀c∈l,c<N) :
  FI (ts++caps N ls) []:=by
 show zg ls ts N (Gm g o b) (λl a=>(b.cyc l a).nd) λp q h=>?_;rcases aw.mp h with h|h
 .obtain⟨c,e⟩:=gC.mp h;show pN d e
 obtain⟨l,a,f⟩:=ia.mp h;obtain⟨m,hm,rfl⟩:=aq.mp a;show bl m hm p (gP.mp (jB f).1)
section
theorem iB:bH ["_law_triples","_law_side","_law_thirds_here","_law_loops","_law_come","_law_word","_law_x","_law_letter_here","_law_caps"] ["_law_triples","_law_side"] (a7 lU):=⟨rfl,rfl,rfl,⋯,rfl,⋯,⋯⟩
theorem Ee{f f1 f2 f3 f4:Addr}{fd d1 d2 d3 d4:FuncData}(U:Fun K "_law_wound" "_law_wound" lU f fd)(T:cW mg)
  (GT:Use P w K mg base 1 "_law_thirds" ["_law_triples"] (spX kZ) f1 d1) (GC:Use P w K mg base 4 "_law_capped" ["_law_triples"] (spN rB) f2 d2)
  (GL:Use P w K mg base 2 "_law_letter" ["_law_loops","_law_thirds_here","_law_come","_law_x"] (spX rz) f3 d3) (GS:Use P w K mg base 1 "_law_step" ["_law_loops","_law_letter_here","_law_x"] (spX oP) f4 d4) :
  FnOk P w K mg base CX0 5 f fd ["_law_triples","_law_side"] sf:=by
 show U.ok iB (by rintro _ _ _ _ ⟨_,_,_,_,_,_,_,_,rfl,_⟩;rfl) λNz A outer s H vs Q E hr h=>?_
 obtain⟨TT,S,vt,ts,p0,M,c0,N,rfl,hT,tr,hl,c6,g,bA,hN,hS,a4,q⟩:=h;have hu:=eu hr;have cb:=hr.mono (show 1<=4 by decide);have c8:=hr.mono (show 2<=4 by decide);show⟨_,af (sx 2 iB.nd (uc GT cb (pa1 (uc GC hr (pa1 (pv 0))))))
  (af (sx 3 iB.nd (bf (pa1 (eJ kQ (by rfl) T.list n8 (pa1 (pv 1))))))
  (af (sx 4 iB.nd (eJ kQ (by rfl) T.list n8 (pa1 (pv 1))))
  (af (sx 5 iB.nd (bf de))
  (af (i_ cF (aH (iG hr.units) (pv 3) (bf de) (nomark _))
   (af (sx 6 iB.nd (hU hu (pv 2) (aK (ai (ixx aJ (ixx aJ (pv 3) (dg da aa)) aa) (pa1 (ixx aJ (ixx aJ (pv 3) (dg da aa)) aa)))) (λ_ _=>rfl)))
   (af (sx 7 iB.nd (uc GL c8 (ai (pv 3) (ai (pv 2) (ai (pv 4) (pa1 (pv 6)))))))
   (af (bU (bQ bT cG cH cq (pv 5) (pa1 (pv 7))))
   (af (aY (aH (j8 hr.units) (pv 7) (aK (pa1 bB)) (nomark _)) (aj (bU (bQ bT cG cH cq (pv 4) (pa1 (pv 6))))) a8)
   (aj (bU (uc GS cb (ai (pv 3) (ai (pv 7) (pa1 (pv 6))))))))))))
  (af (l_ (i:=8) (N:=["_law_k","_law_corner"]) (fr:=[none,none]) (g:=nk [] 2 (ib (c7 0) (ib (c7 1) nq))) (jA ⋯ rfl ⋯ ⋯) rfl (sT rfl T.enum (pa1 (pv 4)))
    (λC' s' H' fp Nw=>⟨eN rfl (bL (gx 0 (⋯:(["_law_k","_law_corner"]:List Str).Nodup)) (bL (gx 1 (⋯:(["_law_k","_law_corner"]:List Str).Nodup)) dD)),hJ (aH fD (pv 1) aa (nomark _)),pv 0⟩) iB.nd rfl (.inl rfl))
  (aj (aU (aK (ai (pv 5) (ai (pv 8) (pa1 (dP (N:=["_law_corner"]) (fr:=[none]) (te:=teN K) (jA ⋯ rfl ⋯ ⋯) rfl (cL (pv 4))
    (λC' s' H' fp Nw=>⟨gx 0 (⋯:(["_law_corner"]:List Str).Nodup),ft,m9 aJ (bf (ai (pv 0) (pa1 fS))) (eJ rj (by rfl) T.int A5 (pa1 (h_ fD (pv 0) aa (nomark _)))) (λ_ _=>rfl)⟩))))))))))))),?_⟩
 have em:=line5000;show⟨_,rfl,N,trivial,TT,vt,ts,rfl,hT,tr,(),g,bA,hN,λR vr rl H1 hR s1 y1 tc a5 bl lf=>?_⟩;have fi:=Jg g bA hN a5 bl;have k:=fi.clo;have lcs:(ts++caps N rl).length<=240:=by
  rw[ao,rS];rcases c6 with z|z
  .have:=(xf g bA a5).1;lia
  rw[wb a5 z];change ts.length+0<=240;lia
 have cc:En (ts++caps N rl) p0 M c0:=by unfold En at a4 |-;rw[K15.ents_app];show bM _ a4
 have cd:=pN hN a4;have ce:=pN hN (g.sk.rot a4);have a6:=fi.good;generalize db:ts++caps N rl=cs at tc k lcs cc a6;show⟨code N,λa b h=>lL N h,R,vr,cs,rfl,y1,tc,(),a6,λD H2 hD s2 y2=>?_⟩;have bF:=s1.trans s2;show⟨_,rfl,S,_,rfl,.inr (SqT.of (bF _ _ hS)),λB H3 hB s3 y3=>?_⟩;show⟨lit1,λL H4 hL s4 y4=>?_⟩;have ba:=(bF.trans s3).trans s4;show⟨_,rfl,S,_,rfl,.inr (SqT.of (ba _ _ hS)),λC H5 hC X y5=>?_⟩;show⟨aQ _,λW H6 hW s6 y6=>?_⟩;have dc:=(ba.trans X).trans s6;have n1:H L=none:=(bF.trans s3).free hL;have n2:H C=none:=ba.free hC;have n3:H W=none:=(ba.trans X).free hW;have n4:H D=none:=s1.free hD;have e0:∀x y:Nat,x<N->y<N->[V.int (x:Int),V.int (y:Int)]=cV (code N) [x,y]:=λx y hx hy=>by
  change _=[V.int (code N x),V.int (code N y)];rw[jh hx,jh hy]
 have dd:H6 B=some (.lst (cV (code N) [p0,M])):=((s4.trans X).trans s6) _ _ (y3.trans (by rw[e0 p0 M cd ce]));have dj:=(X.trans s6) _ _ y4;have dk:H6 C=some (.lst (cV (code N) [p0,M])):=s6 _ _ (y5.trans (by rw[e0 p0 M cd ce]));have yD:=(((s3.trans s4).trans X).trans s6) _ _ y2;have b0:L≠C:=ar y4 hC;have b1:L≠W:=ar (X _ _ y4) hW;have cf:C≠W:=ar y5 hW;have cg:D≠L:=ar (s3 _ _ y2) hL;have dl:D≠C:=ar (s4 _ _ (s3 _ _ y2)) hC;have dm:D≠W:=ar (X _ _ (s4 _ _ (s3 _ _ y2))) hW;show ow (λZ H'=>∃o6 o7 come I d,Z=[some (.ref TT),some (.ref S),some (.ref D),some (.ref L),some (.ref C),some (.ref W),o6,o7,none]/\Same H H'/\H' C=some (.lst (cV (code N) come))/\H' W=some (.lst I)/\bE H' I d/\(∀a∈d,Lets a)/\d.length<=240/\come.length<=242/\∃ds,WX cs p0 M ds [] come d) (λNX hOut=>?_) ?_
 .refine⟨λm Z H'=>∃o6 o7 vl ls come I d ds,Z=[some (.ref TT),some (.ref S),some (.ref D),some (.ref L),some (.ref C),some (.ref W),o6,o7,none]/\m=240-ds.length/\Same H H'/\H' D=some (.dT ((ents cs).map (enC (code N))))/\H' L=some (.lst vl)/\cu (code N) H' vl ls/\H' C=some (.lst (cV (code N) come))/\H' W=some (.lst I)/\bE H' I d/\(∀a∈d,Lets a)/\d.length=ds.length/\ds.length<=240/\WX cs p0 M ds ls come d/\(∀b,V.ref b∈vl->b≠C/\b≠W),
   ⟨_,none,none,_,[[p0,M]],[p0,M],[],[],[],rfl,rfl,dc,yD,dj,.cons ⟨B,rfl,dd⟩ .nil,dk,y6,.nil,∅,rfl,∅,WX.start (WS.start k cc),λb hb=>?_⟩,?_⟩
  .have:b=B:=‹hb›
   rw[this];show⟨ar (s4 _ _ y3) hC,ar (X _ _ (s4 _ _ y3)) hW⟩
  rintro m Z H7 ⟨o6,o7,vl,ls,come,I,d,ds,rfl,rfl,sm,b2,bb,lp,ad,bc,a0,bd,ch,en,ws,be⟩;show⟨_,rfl,aQ _,λpe H8 eo p y8=>?_⟩;have dp:=cu.same p lp;show⟨_,_,.lst (SqL.of (p _ _ bb)) (xF dp),.lst (SqL.of y8) .nil,cC (EW ls) ⋯,_,rfl,?_⟩;rw[Nq rfl,lK];by_cases bi:ls=[]
  .subst bi;show ak (hOut _ _ ⟨o6,o7,come,I,d,rfl,sm.trans p,p _ _ ad,p _ _ bc,a0.same p,bd,(),?_,ds,ws⟩);have:=ws.ws.lc;lia
  rw[show (ls.map λl=>PyData.list (l.map λn:Nat=>PyData.int (code N n))).isEmpty=false by simp[bi]];obtain⟨ah,loop,rfl⟩:∃ah loop,ls=ah++[loop]:=⟨ls.dropLast,ls.getLast bi,(List.dropLast_concat_getLast bi).symm⟩;obtain⟨t,el⟩:=K31.two (ws.ws.two loop ∅);generalize g1 loop=a at el;generalize g2 loop=b at el;subst el;have size:=ws.ws.size;obtain⟨less,x,hx,z,rs,dw,dx⟩:=ws.ws.look k;obtain⟨va,v,rfl,ep,B',rfl,dy⟩:=jT lp;have ci:=p _ _ dy;have cj:=p _ _ bb;have sz:((ah++[a::b::t]).map List.length).sum<=720:=();show aA ⟨_,λZ' H' h=>h,?_⟩;show⟨_,rfl,_,rfl,_,rfl,L,_,_,_,rfl,rfl,SqL.of cj,gB (x:=V.ref B') ∅,B',_,_,_,rfl,rfl,SqL.of ci,cM (j:=0) (kg (n:=a) rfl),_,rfl,_,rfl,L,_,_,_,rfl,rfl,SqL.of cj,gB (x:=V.ref B') ∅,B',_,_,_,rfl,rfl,SqL.of ci,cM (j:=1) (kg (n:=b) rfl),lit2,λk9 H9 g9 s9 y9=>?_⟩;have am:=p.trans s9;show⟨D,V.int (code N x),rfl,vT (lL N) a6 hx ▸ DGet.t (k:=kc (code N) a b) (am _ _ b2) y9,?_⟩;show⟨_,rfl,_,rfl,_,rfl,_,rfl,code N,λa b h=>lL N h,L,D,C,_,ah,a,b,t,cs,come,x,z,rs,rfl,am _ _ bb,cu.same am lp,(),am _ _ b2,a6,am _ _ ad,dw,λt' lt Hq eq sq yq hw=>?_⟩;have al:=am.trans sq;have dF:=sm.trans al;obtain⟨b3,a1,dK⟩:=dx lt x (hw.elim (λz=>.inl ⟨z.1,z.2,rfl⟩) .inr);have bm:=ws.next a1 b3 dK;have cl:∀a∈d++[lt],Lets a:=λa ha=>by
   rcases aw.mp ha with z|z
   .exact bd a z
   rw[aL.mp z];show a1
  have er:=aT a0;have b4:=al _ _ bc;show⟨_,rfl,.inl ⟨rfl,_,SqL.of b4⟩,_,rfl,W,_,_,rfl,rfl,b4,(),λHr kr yr=>?_⟩;have cm:∀t xs,Hq t=some (.tup xs)->Hr t=some (.tup xs):=λt xs e=>(kr t (bD e b4 (by intro z;cases z))).trans e;have cn:Same H Hr:=λc o e=>(kr c (ar e n3)).trans (dF _ _ e);have bn:=cm _ _ yq;have co:bE Hr (I++[.ref t']) (d++[lt]):=(jG cm (a0.same al)).snoc ⟨t',rfl,bn⟩;have cr:=(kr D dm).trans (al _ _ b2);have ct:=(kr L b1).trans (al _ _ bb);have cv:=(kr C cf).trans (al _ _ ad);have cx:cu (code N) Hr (va++[V.ref B']) (ah++[a::b::t]):=cu.move (cu.same al lp) λc o hc e=>(kr c (be c hc).2).trans e;show⟨_,rfl,lit1,λps Ht es st yt=>?_⟩;show⟨_,_,iH (oU a1) ⟨t',rfl,st _ _ bn⟩,iH (a:=.sg 67) (by rfl) ⟨ps,rfl,yt.trans ltC⟩,cC (jJ _) ⋯,_,rfl,?_⟩;rw[Np ⋯,ml];generalize et:va++[V.ref B']=vl at *;by_cases bw:lt=.sg 67
  .rw[Nt bw];rw[Nq bw] at bm;have an:=st _ _ cv;have lcm:=ws.ws.lc;show aA ⟨_,rfl,.inl ⟨rfl,_,SqL.of an⟩,_,rfl,C,_,_,rfl,rfl,an,by rw[cJ];lia,λHv kv yv=>?_⟩;have yv:Hv C=some (.lst (cV (code N) (come++[x]))):=by rw[yv,<-gA];rfl
   have dL:Same H Hv:=λc o e=>(kv c (ar e n2)).trans (st _ _ (cn _ _ e));have cz:∀t xs,Ht t=some (.tup xs)->Hv t=some (.tup xs):=λt xs e=>(kv t (bD e an (by intro z;cases z))).trans e;have dV:=(kv D dl).trans (st _ _ cr);have c1:=(kv L b0).trans (st _ _ ct);have c2:=(kv W (aG cf)).trans (st _ _ yr);have d0:cu (code N) Hv vl (ah++[a::b::t]):=cu.move (cu.same st cx) λc o hc e=>(kv c (be c hc).1).trans e;have d5:=jG cz (co.same st);have d6:=cz _ _ (st _ _ bn);show⟨_,rfl,_,rfl,_,rfl,code N,λa b h=>lL N h,L,t',vl,ah,a::b::t,lt,x,x,rfl,c1,d0,d6,a1,b3,λl hl=>⟨ws.ws.two l hl,?_⟩,?_,λHs b5 u b6 b7 b8=>?_⟩
   .have:=oM hl;lia
   .have:=oN ws.ws.two;rw[ao,aV] at this;lia
   have b9:∀t xs,Hv t=some (.tup xs)->Hs t=some (.tup xs):=λt xs e=>u t _ (bD e c1 (by intro z;cases z)) e;show⟨_,?_,some (.int (code N x)),some (.ref t'),b5,_,come++[x],_,d++[lt],ds++[(a,b,x)],rfl,rfl,λc o e=>u c o (ar e n1) (dL _ _ e),u _ _ cg dV,b6,b7,u _ _ (aG b0) yv,u _ _ (aG b1) c2,jG b9 d5,cl,by rw[ao,ao,aV,aV,ch],by rw[ao,aV];lia,bm,λc hc=>?_⟩
   .rw[ao,aV];lia
   rcases b8 c hc with z|z
   .exact be c z
   show⟨λe=>by (rw[e,yv] at z;cases z),λe=>by (rw[e,c2] at z;cases z)⟩
  rw[Nu bw];rw[Np bw] at bm;show ak ?_;have d7:=cn.trans st;have d8:=st _ _ cr;have c3:=st _ _ ct;have an:=st _ _ cv;have c4:=st _ _ yr;have d9:=cu.same st cx;have ed:=co.same st;have ee:=st _ _ bn;show⟨_,rfl,_,rfl,_,rfl,code N,λa b h=>lL N h,L,t',vl,ah,a::b::t,lt,x,x,rfl,c3,d9,ee,a1,b3,λl hl=>⟨ws.ws.two l hl,?_⟩,?_,λHs b5 u b6 b7 b8=>?_⟩
  .have:=oM hl;lia
  .have:=oN ws.ws.two;rw[ao,aV] at this;lia
  have b9:∀t xs,Ht t=some (.tup xs)->Hs t=some (.tup xs):=λt xs e=>u t _ (bD e c3 (by intro z;cases z)) e;show⟨_,?_,some (.int (code N x)),some (.ref t'),b5,_,come,_,d++[lt],ds++[(a,b,x)],rfl,rfl,λc o e=>u c o (ar e n1) (d7 _ _ e),u _ _ cg d8,b6,b7,u _ _ (aG b0) an,u _ _ (aG b1) c4,jG b9 ed,cl,by rw[ao,ao,aV,aV,ch],by rw[ao,aV];lia,bm,λc hc=>?_⟩
  .rw[ao,aV];lia
  rcases b8 c hc with z|z
  .exact be c z
  show⟨λe=>by (rw[e,an] at z;cases z),λe=>by (rw[e,c4] at z;cases z)⟩
 rintro Z H7 ⟨o6,o7,come,I,d,rfl,sm,ad,bc,a0,bd,ll,lc,ef⟩;show⟨_,rfl,C,_,rfl,SqL.of ad,λZ_ hZ=>Dh (K:=[]) (a:=C) (xs:=cV (code N) come) (λi Z ys H'=>∃O o2,Z=[O,o2]/\Same H7 H'/\H' Z_=some (.lst ys)/\ys.length<=i) ⟨none,none,rfl,cK hZ,bO,∅⟩ (by rintro i Z ys H' _ ⟨_,_,_,e,_⟩;show SqL.of (e _ _ ad)) ?_ ?_⟩
 .rintro i y pk Z ys H' hi ⟨O,o2,rfl,e,hz,eg⟩ ei;have a2:=(aI.mp hi).1;rw[cJ] at a2;have hg:come[i]?=some (come.getD i 0):=by simp[List.getD,a2]
  rw[kg hg] at hi;cases hi;walk_at"H' pk ei H8 p y8";show⟨pk,_,rfl,SqT.of y8,rfl,_,_,rfl,_,_,rfl,rfl,?_⟩;show⟨_,rfl,_,_,rfl,rfl,_,rfl,?_⟩;have e8:=e.trans p;cases decide (code N (come.getD i 0)<0) with
  |true=>
   show aA ⟨_,rfl,p _ _ hz,(),λH9 k9 y9=>⟨_,_,rfl,λc o ec=>(k9 c (ar ec hZ)).trans (e8 _ _ ec),y9,by rw[ao,aV];lia⟩⟩
  |false=>show ak ⟨_,_,rfl,e8,p _ _ hz,()⟩
 rintro Z ys H' ⟨O,o2,rfl,e,hz,eg⟩;show⟨_,rfl,_,rfl,_,rfl,C,rfl,⟨_,SqL.of (e _ _ ad)⟩,λY hY=>dB (K:=[]) (a:=C) (xs:=cV (code N) come) (λi Z ys a3=>∃O,Z=[O]/\Same H' a3/\a3 Y=some (.lst ys)/\ys.length<=i) ⟨none,rfl,cK hY,bO,∅⟩ (by rintro i Z ys a3 _ ⟨_,_,e',_⟩;show SqL.of (e' _ _ (e _ _ ad))) ?_ ?_⟩
 .rintro i y Z ap a3 hi ⟨O,rfl,e',c5,ej⟩;have a2:=(aI.mp hi).1;rw[cJ] at a2;have hg:come[i]?=some (come.getD i 0):=by simp[List.getD,a2]
  rw[kg hg] at hi;cases hi;show⟨_,rfl,lit2,λp9 H9 h9 s9 y9=>?_⟩;have e9:=e'.trans s9;have out:∀v:V,H9 Y=some (.lst ap)/\ap.length<sizeLine/\∀Hn:Hp,(∀b,b≠Y->Hn b=H9 b)->Hn Y=some (.lst (ap++[v]))->∃O:Option V,([some (V.int (code N (come.getD i 0)))]:St)=[O]/\Same H' Hn/\Hn Y=some (.lst (ap++[v]))/\(ap++[v]).length<=i+1:=λv=>by
   show⟨s9 _ _ c5,(),λHn kn yn=>⟨_,rfl,λc o ec=>(kn c (ar ec hY)).trans (e9 _ _ ec),yn,by rw[ao,aV];lia⟩⟩
  show⟨_,rfl,_,_,rfl,rfl,.inr ⟨_,rfl,?_⟩⟩;cases decide (code N (come.getD i 0)<0) with
  |true=>show⟨p9,_,1,V.non,rfl,rfl,SqL.of y9,rfl,out _⟩
  |false=>show⟨p9,_,0,V.int (code N (come.getD i 0)),rfl,rfl,SqL.of y9,rfl,out _⟩
 rintro Z ap a3 ⟨O,rfl,e',c5,ej⟩;show⟨lit3,λr H9 ek s9 y9=>?_⟩;have ca:=(e.trans e').trans s9;show q r W I d _ _ H9 ((sm.trans (e.trans e')).free ek) n3 (sm.trans ca) y9 (ca _ _ bc) (a0.same ca) bd ll ⟨rl,ef.imp λds h=>⟨come,a5,db ▸ h⟩⟩
end
theorem yI{f:Fr}(h:Ok f):∀l∈f.ls,l.length<=2+f.ts.length:=λl a=>cC (oM a) h.tot
theorem yH{f:Fr}(h:Ok f):f.ls.length<=2+f.ts.length:=cC (oN h.two) h.tot
theorem mh(c d e:Nat):inV (.str (txt [c])) [.str (txt [d]),.str (txt [e])]=(decide (c=d\/c=e)):=by
 have e:∀d:Nat,(txt [d]==txt [c])=decide (c=d):=λd=>by
  rw[cR,beq_iff_eq,decide_eq_true_eq];constructor
  .intro h;have:=rX h;simpa using this.symm
  rintro rfl;rfl
 unfold inV;simp only[jt,KU,eqV,e,Az];rw[cR];simp
structure OAt(H:Hp)(O L T:Addr)(vl vt:List V)(f:Fr):Prop where
 o:H O=some (.lst [.ref L,.ref T,.int (f.n:Int)])
 l:H L=some (.lst vl)
 p:eD H vl f.ls
 t:H T=some (.lst vt)
 q:aO H vt f.ts
theorem OAt.same{O L T:Addr}{a b:List V}{f:Fr}(h:OAt H O L T a b f)(s:Same H H'):OAt H' O L T a b f:=⟨s _ _ h.o,s _ _ h.l,h.p.same s,s _ _ h.t,h.q.same s⟩
def pU:Option Nat->V
 |none=>.non
 |some x=>.int (x:Int)
def DG(vs:List V)(H:Hp)(Q:VK)(O t L T:Addr)(b c:List V)(f:Fr)(ah:Lps)(loop:List Nat)(a:Lt):Prop:=vs=[.ref O,.ref t]/\OAt H O L T b c f/\Ok f/\f.ts.length<=300/\f.ls=ah++[loop]/\H t=some (.tup (ltV a))/\Lets a/\
 ∀H',Same H H'->Q (pU (ay ah loop a f.n)) H'
def xR:Sp:=λvs H Q _=>Exists (Ex10 (DG vs H Q))
section
theorem sv:bH ["_law_front","_law_letter_here","_law_loop","_law_other"] ["_law_front","_law_letter_here"] (a7 lV):=⟨rfl,rfl,rfl,⋯,rfl,⋯,⋯⟩
theorem Ef{f:Addr}(U:Fun K "_law_third" "_law_third" lV f fd)(T:cW mg):FnOk P w K mg base CX0 1 f fd ["_law_front","_law_letter_here"] xR:=by
 show U.ok sv (by rintro _ _ _ _ ⟨_,_,_,_,_,_,_,_,_,_,rfl,_⟩;rfl) λNz A outer s H vs Q E hr h=>?_
 obtain⟨O,t,L,TT,vl,vt,g,ah,loop,a,rfl,Y,ok,a6,el,i,ha,q⟩:=h;show⟨_,af (sx 2 sv.nd (ixx aJ (ixx aJ (pv 0) aa) (dg da aa)))
  (af (aY (aH (j8 hr.units) (pv 1) (aK (pa1 bB)) (nomark _)) (aj (aU (ixx aJ (pv 0) aa))) a8)
  (af (aY (PW.pt (km (PW.pt (dR (aH lr (ixx bV (pv 1) aa) (aK (ai bB (pa1 bB))) rfl) (eK (aH ko (pln T.len (pv 2)) aa (nomark _)))))
    (j6 (PW.pt (dR (aH (j8 hr.units) (pv 1) (aK (pa1 bB)) (nomark _)) (eK (aH bY (pln T.len (pv 2)) aa (nomark _))))))))
   (aj (aU (ixx aJ (bf (ai (ixx aJ (pv 2) (dg da aa)) (pa1 (ixx aJ (pv 2) aa)))) (eJ rj (by rfl) T.int A5 (pa1 (h_ bY (ixx bV (pv 1) aa) bB (nomark _))))))) a8)
  (af (aY (PW.pt (dR (aH bY (ixx bV (pv 1) aa) bB (nomark _)) (dR (aH bY (ixx bV (pv 1) aa) aa (nomark _)) (eK (we fD fD aa (ixx bV (pv 1) aa) (au gv (pln T.len (pv 2)) aa) rfl)))))
   (aj (aU (ixx aJ (pv 2) (ixx bV (pv 1) aa)))) a8)
  (af (aY (PW.pt (dR (aH bY (ixx bV (pv 1) aa) bB (nomark _)) (eK (we fD fD aa (ixx bV (pv 1) aa) (pln T.len (ixx aJ (pv 0) aa)) rfl))))
   (af (sx 3 sv.nd (ixx aJ (ixx aJ (pv 0) aa) (au gv (dg da aa) (ixx bV (pv 1) aa))))
   (aj (aY (aH fD (ixx bV (pv 1) aa) (pln T.len (pv 3)) (nomark _)) (aj (aU (ixx aJ (pv 3) (ixx bV (pv 1) aa)))) a8))) a8)
  (aj (aU fS)))))),?_⟩
 have ba:=line5000;have hp:=Y.p;rw[el] at hp;obtain⟨va,v,rfl,am,B,rfl,C⟩:=jT hp;have bb:=aT am;have hm:=yH ok;have he:=yI ok;rw[el] at hm he;rw[ao,aV] at hm;have bc:2<=loop.length:=ok.two loop (by rw[el];simp);have bd:=he loop ∅;have hok:=oU ha;have ad:∀H',Same H H'->Dt [] H' (.ref t) (ltD a):=λH' s'=>iH hok ⟨t,rfl,s' _ _ i⟩;have be:=i;rw[tR] at i;have a0:atI (V.str (txt [sgn a])::ltR a) 0=some (V.str (txt [sgn a])):=jq _ _;have o0:∀x y z:V,atI [x,y,z] 0=some x:=λ_ _ _=>rfl;have o2:∀x y z:V,atI [x,y,z] 2=some z:=λ_ _ _=>rfl;show⟨_,rfl,O,_,_,_,rfl,rfl,SqL.of Y.o,o0 _ _ _,_,rfl,L,_,_,_,rfl,rfl,SqL.of Y.l,gB (x:=V.ref B) ∅,?_⟩;show⟨_,rfl,lit1,λp1 H1 h1 s1 y1=>?_⟩;have a3:=y1.trans ltC;show⟨_,_,ad H1 s1,iH (a:=.sg 67) (by rfl) ⟨p1,rfl,a3⟩,cC (jJ a) ⋯,_,rfl,?_⟩;rw[Np ⋯,ml];have an:∀x y:V,atI [x,y] 0=some x:=λ_ _=>rfl;have a4:∀x y:V,atI [x,y] 1=some y:=λ_ _=>rfl;cases a with
 |sg c=>
  simp only[K31.Lets] at ha;have I:=s1;rw[<-or_assoc (b:=c=76)] at ha;rcases ha with rfl|M|rfl
  .rw[Nt rfl];show aA ?_;show⟨_,rfl,O,_,_,_,rfl,rfl,SqL.of (s1 _ _ Y.o),o2 _ _ _,q H1 s1⟩
  .rw[Nu (show ¬Lt.sg c=Lt.sg 67 by rcases M with rfl|rfl<;>(intro z;cases z))];show ak ?_;show⟨_,rfl,t,_,_,_,rfl,rfl,SqT.of (I _ _ i),a0,lit2,λp2 H2 h2 s2 S=>?_⟩;have u:=I.trans s2;show⟨p2,_,rfl,.inr (SqT.of S),rfl,rfl,_,rfl,?_⟩;rw[show (Str.ofString "R")=txt [82] from sR,show (Str.ofString "L")=txt [76] from sL,Np ⋯,mh];rw[Nt (show sgn (.sg c)=82\/sgn (.sg c)=76 from M)];show aA ?_;show⟨_,rfl,B,_,rfl,.inl (SqL.of (u _ _ C)),_,_,rfl,rfl,_,rfl,?_⟩;rw[bC];by_cases al:3<loop.length
   .rw[Nt ()];show aA (aA ?_);have X:loop[loop.length-1]?=some loop[loop.length-1]:=aP ();have h2:loop[2]?=some loop[2]:=aP ();show⟨_,rfl,_,rfl,B,_,_,_,rfl,rfl,SqL.of (u _ _ C),gB (by rw[bC];show dS X),_,rfl,B,_,_,_,rfl,rfl,SqL.of (u _ _ C),cM (j:=2) (dS h2),lit2,λp9 H9 h9 s9 y9=>?_⟩;have N:=u.trans s9;show⟨_,rfl,t,_,_,_,rfl,rfl,SqT.of (N _ _ i),a0,rfl,.inr ⟨_,rfl,?_⟩⟩;rw[dW];rcases M with rfl|rfl
    .rw[show ay ah loop (.sg 82) g.n=some loop[2] by simp[ay,al,h2]] at q;show⟨p9,_,1,_,rfl,rfl,SqL.of y9,a4 _ _,q H9 N⟩
    rw[show ay ah loop (.sg 76) g.n=some loop[loop.length-1] by simp[ay,al,X]] at q;show⟨p9,_,0,_,rfl,rfl,SqL.of y9,an _ _,q H9 N⟩
   rw[Nu ()];show ak ?_;show⟨_,rfl,lit1,λZ m D s3 y3=>?_⟩;have d:=u.trans s3;show⟨_,_,ad m d,iH (a:=.sg 69) (by rfl) ⟨Z,rfl,y3.trans ltE⟩,cC (jJ _) ⋯,_,rfl,?_⟩;rw[Np ⋯,ml,Nu (show ¬Lt.sg c=Lt.sg 69 by rcases M with rfl|rfl<;>(intro z;cases z))];show ak (ak ?_);show fu rfl (d _ _ i) s83 (by rcases M with rfl|rfl<;>decide) ?_;show fu rfl (d _ _ i) s83 (by rcases M with rfl|rfl<;>decide) ?_;have e:ay ah loop (.sg c) g.n=none:=by rcases M with rfl|rfl<;>(unfold ay;dsimp only;rw[Np ⋯,Np (λz=>z.elim (λy=>al y.2) (λy=>absurd y.1 ⋯))])
   rw[e] at q;show q m d
  rw[Nu (show ¬Lt.sg 69=Lt.sg 67 by intro z;cases z)];show ak ?_;show⟨_,rfl,t,_,_,_,rfl,rfl,SqT.of (I _ _ i),a0,lit2,λp2 H2 h2 s2 S=>?_⟩;have u:=I.trans s2;show⟨p2,_,rfl,.inr (SqT.of S),rfl,rfl,_,rfl,?_⟩;rw[show (Str.ofString "R")=txt [82] from sR,show (Str.ofString "L")=txt [76] from sL,Np ⋯,mh];rw[Nu (by decide:¬(sgn (.sg 69)=82\/sgn (.sg 69)=76))];show ak (ak ?_);show⟨_,rfl,lit1,λZ m D s3 y3=>?_⟩;have d:=u.trans s3;show⟨_,_,ad m d,iH (a:=.sg 69) (by rfl) ⟨Z,rfl,y3.trans ltE⟩,cC (jJ _) ⋯,_,rfl,?_⟩;rw[Np ⋯,ml,Nt (rfl:Lt.sg 69=Lt.sg 69)];show aA ?_;show⟨_,rfl,B,_,rfl,.inl (SqL.of (d _ _ C)),rfl,_,rfl,?_⟩;rw[bC,kD];by_cases D:loop.length=3
  .rw[Nt ()];show aA ?_;have X:loop[loop.length-1]?=some loop[loop.length-1]:=aP ();have h2:loop[2]?=some loop[2]:=aP ();show⟨_,rfl,_,rfl,B,_,_,_,rfl,rfl,SqL.of (d _ _ C),gB (by rw[bC];show dS X),_,rfl,B,_,_,_,rfl,rfl,SqL.of (d _ _ C),cM (j:=2) (dS h2),lit2,λp9 H9 h9 s9 y9=>?_⟩;have N:=d.trans s9;show⟨_,rfl,t,_,_,_,rfl,rfl,SqT.of (N _ _ i),a0,rfl,.inr ⟨_,rfl,?_⟩⟩;rw[dW];have e:ay ah loop (.sg 69) g.n=some loop[loop.length-1]:=by
    unfold ay;dsimp only;rw[Np ⋯,Nq (.inr ⟨rfl,D⟩),Np ⋯,X]
   rw[e] at q;show⟨p9,_,0,_,rfl,rfl,SqL.of y9,an _ _,q H9 N⟩
  rw[Nu ()];show ak ?_;show fu rfl (d _ _ i) s83 ⋯ ?_;show fu rfl (d _ _ i) s83 ⋯ ?_;have e:ay ah loop (.sg 69) g.n=none:=by simp[ay,D]
  rw[e] at q;show q m d
 |sp j k=>
  have I:=s1;have a1:atI (V.str (txt [sgn (.sp j k)])::ltR (.sp j k)) 1=some (V.int (j:Nat)):=rfl;have a2:atI (V.str (txt [sgn (.sp j k)])::ltR (.sp j k)) 2=some (V.int (k:Nat)):=rfl;rw[Nu (show ¬Lt.sp j k=Lt.sg 67 by intro z;cases z)];show ak ?_;show⟨_,rfl,t,_,_,_,rfl,rfl,SqT.of (I _ _ i),a0,lit2,λp2 H2 h2 s2 S=>?_⟩;have u:=I.trans s2;show⟨p2,_,rfl,.inr (SqT.of S),rfl,rfl,_,rfl,?_⟩;rw[show (Str.ofString "R")=txt [82] from sR,show (Str.ofString "L")=txt [76] from sL,Np ⋯,mh];rw[Nu (by simp[sgn]:¬(sgn (.sp j k)=82\/sgn (.sp j k)=76))];show ak (ak ?_);show⟨_,rfl,lit1,λZ m D s3 y3=>?_⟩;have d:=u.trans s3;show⟨_,_,ad m d,iH (a:=.sg 69) (by rfl) ⟨Z,rfl,y3.trans ltE⟩,cC (jJ _) ⋯,_,rfl,?_⟩;rw[Np ⋯,ml,Nu (show ¬Lt.sp j k=Lt.sg 69 by intro z;cases z)];show ak (ak ?_);show jc rfl (d _ _ i) s83 rfl ?_;show⟨_,rfl,t,_,_,_,rfl,rfl,SqT.of (d _ _ i),a1,rfl,_,rfl,?_⟩;rw[kD];have r:=d _ _ i;by_cases hj:j=0
  .subst hj;rw[Nt (show ((0:Nat):Int)=0 from rfl)];show aA ?_;show⟨_,rfl,t,_,_,_,rfl,rfl,SqT.of r,a2,_,_,rfl,rfl,_,rfl,?_⟩;by_cases h2:2<k
   .rw[Nt ()];show aA ?_;show⟨_,rfl,B,_,rfl,.inl (SqL.of (d _ _ C)),_,_,rfl,rfl,_,_,rfl,rfl,_,rfl,?_⟩;rw[bC];by_cases D:k+1<loop.length
    .rw[Nt ()];show aA ?_;have hk:loop[k]?=some loop[k]:=aP ();have e:ay ah loop (.sp 0 k) g.n=some loop[k]:=by
      unfold ay;dsimp only;rw[Nq rfl,Nq ⟨h2,D⟩,hk]
     rw[e] at q;show⟨_,rfl,_,rfl,t,_,_,_,rfl,rfl,SqT.of r,a2,B,_,_,_,rfl,rfl,SqL.of (d _ _ C),cM (dS hk),q m d⟩
    rw[Nu ()];show ak ?_;have e:ay ah loop (.sp 0 k) g.n=none:=by unfold ay;dsimp only;rw[Nq rfl,Np λz=>D z.2]
    rw[e] at q;show jc rfl r s83 rfl ?_;show⟨_,rfl,t,_,_,_,rfl,rfl,SqT.of r,a1,_,_,rfl,rfl,_,rfl,?_⟩;rw[Nu ()];show ak (ak ?_);show q m d
   rw[Nu ()];show ak (ak ?_);have e:ay ah loop (.sp 0 k) g.n=none:=by unfold ay;dsimp only;rw[Nq rfl,Np λz=>h2 z.1]
   rw[e] at q;show jc rfl r s83 rfl ?_;show⟨_,rfl,t,_,_,_,rfl,rfl,SqT.of r,a1,_,_,rfl,rfl,_,rfl,?_⟩;rw[Nu ()];show ak (ak ?_);show q m d
  rw[Nu ()];show ak (ak ?_);show jc rfl r s83 rfl ?_;show⟨_,rfl,t,_,_,_,rfl,rfl,SqT.of r,a1,_,_,rfl,rfl,_,rfl,?_⟩;rw[Nt ()];show aA ?_;show⟨_,rfl,O,_,_,_,rfl,rfl,SqL.of (d _ _ Y.o),o0 _ _ _,L,_,rfl,.inl (SqL.of (d _ _ Y.l)),_,_,rfl,rfl,_,rfl,?_⟩;rw[ao,aV];by_cases hk:j<=ah.length
  .rw[Nt ()];show aA ?_;have hi:ah.length-j<ah.length:=();have ho:ah[ah.length-j]?=some (ah.getD (ah.length-j) []):=by simp[List.getD,hi]
   obtain⟨v,hv,G,rfl,hG⟩:=mQ am ho;have e:ay ah loop (.sp j k) g.n=(ah.getD (ah.length-j) [])[k]?:=by unfold ay;dsimp only;rw[Np hj,Nq hk]
   rw[e] at q;generalize ah.getD (ah.length-j) []=o at *;have a5:atI (va++[V.ref B]) (-1-(j:Int))=some (V.ref G):=by unfold atI ixN;rw[Np (),Nq (by rw[ao,aV];lia)];change (va++[V.ref B])[_]?=_;rw[ao,aV,show ((-1-(j:Int))+((va.length+1:Nat):Int)).toNat=ah.length-j by lia,eF ()];show hv
   show⟨_,rfl,O,_,_,_,rfl,rfl,SqL.of (d _ _ Y.o),o0 _ _ _,_,rfl,_,rfl,t,_,_,_,rfl,rfl,SqT.of r,a1,_,_,rfl,rfl,L,_,_,_,rfl,rfl,SqL.of (d _ _ Y.l),a5,?_⟩;show⟨_,rfl,t,_,_,_,rfl,rfl,SqT.of r,a2,_,rfl,G,_,rfl,.inl (SqL.of (d _ _ hG)),_,_,rfl,rfl,_,rfl,?_⟩;rw[bC];by_cases h4:k<o.length
   .rw[Nt ()];show aA ?_;have ap:o[k]?=some o[k]:=aP h4;rw[ap] at q;show⟨_,rfl,_,rfl,t,_,_,_,rfl,rfl,SqT.of r,a2,G,_,_,_,rfl,rfl,SqL.of (d _ _ hG),cM (dS ap),q m d⟩
   rw[Nu ()];show ak ?_;rw[uF ()] at q;show q m d
  rw[Nu ()];show ak ?_;have e:ay ah loop (.sp j k) g.n=none:=by unfold ay;dsimp only;rw[Np hj,Np hk]
  rw[e] at q;show q m d
end
structure um(mg:Str->Option Value):Prop where
 any:mg "any" = none
 max:mg "max" = none
 min:mg "min" = none
 repr:mg "repr" = none
abbrev nat:Nat->Int:=λn:Nat=>(n:Int)
theorem me(a b:Nat)(h:nat a=nat b):a=b:=Int.ofNat.inj h
def BX(vs:List V)(H:Hp)(Q:VK)(T:Addr)(a:List V)(ts:List Tri):Prop:=vs=[.ref T]/\H T=some (.lst a)/\aO H a ts/\ts.length<=400/\(tl ts).Nodup/\
 ∀D b H',H D=none->Same H H'->H' D=some (.dT b)->Keys b (λs=>decide (s∈tl ts))->Q (.ref D) H'
def vY:Sp:=λvs H Q _=>Exists (Ex3 (BX vs H Q))
def BV(vs:List V)(H:Hp)(Q:VK)(L:Addr)(a:List V)(ls:Lps):Prop:=vs=[.ref L]/\H L=some (.lst a)/\eD H a ls/\(ls.map List.length).sum<=1000/\
 ∀D kw H',H D=none->Same H H'->H' D=some (.dT kw)->Keys kw (λs=>decide (s∈wl ls))->Q (.ref D) H'
def vX:Sp:=λvs H Q _=>Exists (Ex3 (BV vs H Q))
theorem Dx{Q:VK}{E:XK}(h:K15.spThirds vs H Q E):spX kZ vs H Q E:=by obtain⟨T,a,ts,rfl,b,tr,c,nd,q⟩:=h;show⟨nat,me,T,a,ts,rfl,b,tr,c,nd,q⟩
theorem Dw{Q:VK}{E:XK}(h:vY vs H Q E):spX kZ vs H Q E:=by
 obtain⟨T,d,ts,rfl,f,tr,g,nd,q⟩:=h;rw[fK] at nd;show⟨nat,me,T,d,ts,rfl,f,tr,g,nd,λD H' h1 h2 i=>q D _ H' h1 h2 i λa b=>?_⟩;rw[fK];have c:=vU (φ:=nat) (λ{a b} h=>me a b h) (l:=ents ts) (p:=a) (q:=b);cases e:valV ((ents ts).map (enC nat)) (ky a b) with
 |none=>show (Nu (c.mp e)).symm
 |some v=>
  show (Nt ?_).symm;show pZ λz=>by rw[show ky a b=kc nat a b from rfl,c.mpr z] at e;cases e
theorem Dp{Q:VK}{E:XK}(h:vX vs H Q E):spX oy vs H Q E:=by
 obtain⟨L,d,ls,rfl,f,g,i,q⟩:=h;show⟨nat,me,L,d,ls,rfl,f,g,i,λD kw H' h1 h2 j c=>q D kw H' h1 h2 j λa b=>?_⟩;cases e:valV kw (ky a b) with
 |none=>show (Nu (c.no a b e)).symm
 |some v=>show (Nt (c.yes a b v e).1).symm
def lpD(l:List Nat):PyData:=.list (l.map λn:Nat=>.int (n:Int))
def lpsD(ls:Lps):PyData:=.list (ls.map lpD)
def trD(t:Nat×Nat×Nat):PyData:=.tuple [.int (t.1:Int),.int (t.2.1:Int),.int (t.2.2:Int)]
theorem Ks{v:V}{l:List Nat}(h:kF H v l):Dt K H v (lpD l):=by obtain⟨a,rfl,h⟩:=h;show .lst (SqL.of h) (zY l)
theorem yR:∀{vs:List V}{ls:Lps},eD H vs ls->Dts K H vs (ls.map lpD)
 |_,_,.nil=>.nil
 |_,_,.cons h t=>.cons (Ks h) (yR t)
theorem Kr{v:V}{t:Nat×Nat×Nat}(h:nu H v t):Dt K H v (trD t):=by obtain⟨a,rfl,h⟩:=h;show .tup (SqT.of h) (.cons (.int _) (.cons (.int _) (.cons (.int _) .nil)))
theorem yQ:∀{vs:List V}{ts:List (Nat×Nat×Nat)},aO H vs ts->Dts K H vs (ts.map trD)
 |_,_,.nil=>.nil
 |_,_,.cons h t=>.cons (Kr h) (yQ t)
theorem yV:∀l:List Nat,PyData.depthAll (l.map λn:Nat=>PyData.int (n:Int))<=1
 | []=>by simp[PyData.depthAll]
 |a::l=>by
  have:=yV l;simp only[az,PyData.depthAll,PyData.depth];lia
theorem yU:∀ls:Lps,PyData.depthAll (ls.map lpD)<=3
 | []=>by simp[PyData.depthAll]
 |l::ls=>by
  have h1:=yU ls;have h2:=yV l;simp only[az,PyData.depthAll,lpD,PyData.depth];lia
theorem EV(ls:Lps):(lpsD ls).depth<=4:=by have:=yU ls;simp only[lpsD,PyData.depth];lia
def HN(vs:List V)(H:Hp)(Q:VK)(O t L T:Addr)(b c:List V)(f:Fr)(a:Lt):Prop:=vs=[.ref O,.ref t]/\OAt H O L T b c f/\Ok f/\(tl f.ts).Nodup/\f.ts.length<=300/\H t=some (.tup (ltV a))/\Lets a/\∀H',Same H H'->Q (pU (f.can a)) H'
def pH:Sp:=λvs H Q _=>Exists (Ex8 (HN vs H Q))
theorem EF(x p q:Nat):inV (.int (x:Int)) [.int (p:Int),.int (q:Int)]=decide (x=p\/x=q):=by unfold inV;simp only[jt,KU,eqV,Az];rw[cR];simp only[KJ,beq_iff_eq,decide_eq_true_eq];lia
section
theorem gD:bH ["_law_front","_law_letter_here","_law_x","_law_a","_law_b","_law_asked","_law_wanted_here","_law_thirds_here"] ["_law_front","_law_letter_here"] (a7 m5):=⟨rfl,rfl,rfl,⋯,rfl,⋯,⋯⟩
theorem Iv{f f1 f2 f3:Addr}{fd d1 d2 d3:FuncData}(U:Fun K "_law_can" "_law_can" m5 f fd)(T:cW mg)(TM:um mg)(G1:Use P w K mg base 1 "_law_third" ["_law_front","_law_letter_here"] xR f1 d1)
  (G2:Use P w K mg base 1 "_law_wanted" ["_law_loops"] vX f2 d2) (G3:Use P w K mg base 1 "_law_thirds" ["_law_triples"] vY f3 d3):FnOk P w K mg base CX0 2 f fd ["_law_front","_law_letter_here"] pH:=by
 show U.ok gD (by rintro _ _ _ _ ⟨_,_,_,_,_,_,_,_,rfl,_⟩;rfl) λNz A outer s H vs Q E C h=>?_
 obtain⟨O,t,L,TT,vl,vt,g,a,rfl,Y,ok,ndt,a1,ht,ha,q⟩:=h;have hu:=eu C;show⟨_,af (sx 2 gD.nd fS)
  (af (aY (aH (iG C.units) (ixx aJ (pv 0) aa) (bf de) (nomark _)) (aj (sx 2 gD.nd (uc G1 C (ai (pv 0) (pa1 (pv 1)))))) a8)
  (af (aY (PW.pt (km (aH tQ (pv 2) fS (nomark _)) (j6 (aH lr (pv 2) (dN dO (ixx aJ (ixx aJ (pv 0) aa) (dg da aa)) eL (dr aa)) rfl)))) (aj (aU fS)) a8)
  (af (gr (dN dO (ixx aJ (ixx aJ (pv 0) aa) (dg da aa)) eL (dr aa)) (tM rfl (bL (gx 3 gD.nd) (bL (gx 4 gD.nd) dD))))
  (af (sx 5 gD.nd (bf de))
  (af (aY (aH i6 (ixx bV (pv 1) aa) (aK (ai bB (pa1 bB))) rfl) (aj (sx 5 gD.nd (au du (pv 5) (bf (ai (aK (ai (pv 4) (pa1 (pv 2)))) (pa1 (aK (ai (pv 2) (pa1 (pv 4)))))))))) a8)
  (af (aY (aH i6 (ixx bV (pv 1) aa) (aK (ai bB (pa1 bB))) rfl) (aj (sx 5 gD.nd (au du (pv 5) (bf (ai (aK (ai (pv 2) (pa1 (pv 3)))) (pa1 (aK (ai (pv 3) (pa1 (pv 2)))))))))) a8)
  (af (sx 6 gD.nd (uc G2 C (pa1 (ixx aJ (pv 0) aa))))
  (af (sx 7 gD.nd (uc G3 C (pa1 (ixx aJ (pv 0) aa))))
  (af (aY (jj (dZ (vD rfl) (by rfl) TM.any Lx (pa1 (dP (N:=["_law_side","_law_wanted_here","_law_thirds_here"]) (fr:=[none,some 6,some 7]) (dY ⋯ rfl rfl ⋯ ⋯ (by walk_at"cs") (by walk_at"ct")) rfl (cL (pv 5))
    (λC' s' H' fp Nw=>⟨gx 0 (⋯:(["_law_side","_law_wanted_here","_law_thirds_here"]:List Str).Nodup),ft,
     J8 (tO (mT hu (pv 0) (pv 1))) (tN (tO (mT hu (pv 0) (pv 2))))⟩))))) (aj (aU fS)) a8)
  (aj (aU (pv 2)))))))))))),?_⟩
 have bc:=line5000;have X:∀x y z:V,atI [x,y,z] 0=some x:=λ_ _ _=>rfl;have o1:∀x y z:V,atI [x,y,z] 1=some y:=λ_ _ _=>rfl;show⟨_,rfl,O,_,_,_,rfl,rfl,SqL.of Y.o,X _ _ _,aQ _,λp1 H1 h1 s1 y1=>?_⟩;have Y1:=Y.same s1;show⟨_,_,.lst (SqL.of Y1.l) (yR Y1.p),.lst (SqL.of y1) .nil,cC (EV g.ls) ⋯,_,rfl,?_⟩;rw[Nq rfl,lK];rcases qk g.ls with e|⟨ah,loop,e⟩
 .have ec:g.can a=none:=by unfold Fr.can;rw[e];rfl
  rw[ec] at q;rw[e];show ak ?_;show⟨_,rfl,rfl,_,rfl,?_⟩;rw[Nt rfl];show aA (aA (q H1 s1))
 rw[qi] at e;have ec:g.can a=ic ah loop g.ts g.n a:=by obtain⟨ls,ts,n⟩:=g;dsimp only at e;rw[e,ke]
 rw[ec] at q;have e0:(!(g.ls.map lpD).isEmpty)=true:=by rw[e];simp
 rw[e0];show aA ?_;have a2:=s1 _ _ ht;show⟨_,rfl,_,rfl,O,t,L,TT,vl,vt,g,ah,loop,a,rfl,Y1,ok,a1,e,a2,ha,λH2 s2=>?_⟩;have q2:=s1.trans s2;have Y2:=Y1.same s2;unfold ic at q;cases ex:ay ah loop a g.n with
 |none=>
  rw[ex] at q;show⟨_,rfl,rfl,_,rfl,?_⟩;rw[show decide (pU none=V.non)=true from Nt rfl];show aA (aA (q H2 q2))
 |some x=>
  rw[ex] at q;simp only[Lu] at q;show⟨_,rfl,rfl,_,rfl,?_⟩;rw[Nu (by intro z;cases z)];show ak ?_;have hp:=Y2.p;rw[e] at hp;obtain⟨va,v,ev,bd,B,rfl,hB⟩:=jT hp;have a3:2<=loop.length:=ok.two loop (by rw[e];simp);have eT:loop.take 2=[g1 loop,g2 loop]:=by obtain⟨r,e⟩:=two a3;rw[e];rfl
  have al:atI vl (-1)=some (V.ref B):=gB (by rw[ev];simp);show⟨_,rfl,_,rfl,O,_,_,_,rfl,rfl,SqL.of Y2.o,X _ _ _,_,rfl,L,_,_,_,rfl,rfl,SqL.of Y2.l,al,2,rfl,B,_,rfl,SqL.of hB,λp3 m h3 s3 u=>?_⟩;rw[t_ loop 2 2 rfl,eT] at u;show⟨p3,_,rfl,.inl (SqL.of u),rfl,rfl,_,rfl,?_⟩;rw[Np ⋯];change (if inV (V.int (x:Int)) [V.int (g1 loop:Int),V.int (g2 loop:Int)]=true then _ else _);rw[EF];by_cases hx:x=g1 loop\/x=g2 loop
  .rw[Nq hx] at q;rw[Nt hx];show aA (q m (q2.trans s3))
  rw[Np hx,<-e] at q;rw[Nu hx];show ak ?_;have Y3:=Y2.same s3;have a4:=s3 _ _ hB;show⟨_,rfl,O,_,_,_,rfl,rfl,SqL.of Y3.o,X _ _ _,_,rfl,L,_,_,_,rfl,rfl,SqL.of Y3.l,al,2,rfl,B,_,rfl,SqL.of a4,λp4 H4 h4 s4 y4=>?_⟩;rw[t_ loop 2 2 rfl,eT] at y4;show⟨p4,_,rfl,SqL.of y4,rfl,_,_,rfl,_,_,rfl,rfl,?_⟩;show⟨aQ _,λp5 H5 h5 s5 y5=>?_⟩;have q5:=((q2.trans s3).trans s4).trans s5;have a0:atI (ltV a) 0=some (V.str (txt [sgn a])):=by rw[tR];show jq _ _
  have a5:(g.ls.map List.length).sum<=1000:=cC ok.tot ();have hS:∀{H1 H2:Hp}{vs:List V}{ss:List Side},Same H1 H2->SdsAt H1 vs ss->SdsAt H2 vs ss:=λs h=>Paired.imp' (λ_ _ ⟨b,e1,e2⟩=>⟨b,e1,s _ _ e2⟩) h;dsimp only [mW,c7];show jd (λZ H'=>∃td vs,Z=[some (.ref O),some (.ref t),some (.int (x:Int)),some (.int (g1 loop:Int)),some (.int (g2 loop:Int)),some (.ref td),none,none]/\Same H H'/\H' td=some (.lst vs)/\SdsAt H' vs (if sgn a=82\/sgn a=69 then [] else [(g2 loop,x),(x,g2 loop)])) (λN I=>?_) ?_
  .refine⟨_,rfl,t,_,_,_,rfl,rfl,SqT.of (q5 _ _ ht),a0,lit2,λp6 H6 h6 s6 y6=>?_⟩;have q6:=q5.trans s6;show⟨p6,_,rfl,.inr (SqT.of y6),rfl,rfl,_,rfl,?_⟩;rw[show (Str.ofString "R")=txt [82] from sR,show (Str.ofString "E")=txt [69] from sE,Nq rfl,mh];by_cases k1:sgn a=82\/sgn a=69
   .rw[Nt k1];show ak (I _ _ ⟨p5,[],rfl,q6,s6 _ _ y5,by rw[Nq k1];show .nil⟩)
   rw[Nu k1];show aA ⟨_,rfl,_,rfl,_,rfl,lit2,λta Ha ga sa ya=>⟨_,rfl,_,rfl,lit2,λtb Hb gb sb yb=>⟨lit2,λtc Hc gc sc yc=>⟨p5,tc,_,_,rfl,rfl,((s6.trans sa).trans (sb.trans sc)) _ _ y5,yc,(by change 0+2<=_;lia),λtd Hd gd d yd=>I _ _ ⟨td,_,rfl,(q6.trans sa).trans ((sb.trans sc).trans d),yd,?_⟩⟩⟩⟩⟩;rw[Np k1];show .cons ⟨ta,rfl,((sb.trans sc).trans d) _ _ ya⟩ (.cons ⟨tb,rfl,(sc.trans d) _ _ yb⟩ .nil)
  rintro Z H7 ⟨t7,v7,rfl,q7,y7,d7⟩;have l7:v7.length<=2:=by rw[aT d7];split<;>simp
  show jd (λZ H'=>∃td vs,Z=[some (.ref O),some (.ref t),some (.int (x:Int)),some (.int (g1 loop:Int)),some (.int (g2 loop:Int)),some (.ref td),none,none]/\Same H H'/\H' td=some (.lst vs)/\vs.length<=4/\SdsAt H' vs (asked (sgn a) (g1 loop) (g2 loop) x)) (λN I=>?_) ?_
  .refine⟨_,rfl,t,_,_,_,rfl,rfl,SqT.of (q7 _ _ ht),a0,lit2,λp8 H8 h8 M y8=>?_⟩;have q8:=q7.trans M;show⟨p8,_,rfl,.inr (SqT.of y8),rfl,rfl,_,rfl,?_⟩;rw[show (Str.ofString "L")=txt [76] from sL,show (Str.ofString "E")=txt [69] from sE,Nq rfl,mh];by_cases k2:sgn a=76\/sgn a=69
   .rw[Nt k2];show ak (I _ _ ⟨t7,v7,rfl,q8,M _ _ y7,(),by unfold asked;rw[Nq k2,dh];show hS M d7⟩)
   rw[Nu k2];show aA ⟨_,rfl,_,rfl,_,rfl,lit2,λta Ha ga sa ya=>⟨_,rfl,_,rfl,lit2,λtb Hb gb sb yb=>⟨lit2,λtc Hc gc sc yc=>⟨t7,tc,_,_,rfl,rfl,((M.trans sa).trans (sb.trans sc)) _ _ y7,yc,(by change v7.length+2<=_;lia),λtd Hd gd d yd=>I _ _ ⟨td,_,rfl,(q8.trans sa).trans ((sb.trans sc).trans d),yd,by rw[ao];change v7.length+2<=4;lia,?_⟩⟩⟩⟩⟩;unfold asked;rw[Np k2];show cZ (hS ((M.trans sa).trans ((sb.trans sc).trans d)) d7) (.cons ⟨ta,rfl,((sb.trans sc).trans d) _ _ ya⟩ (.cons ⟨tb,rfl,(sc.trans d) _ _ yb⟩ .nil))
  rintro Z H9 ⟨t9,zz,rfl,q9,y9,be,d9⟩;have Yn:=Y.same q9;show⟨_,rfl,O,_,_,_,rfl,rfl,SqL.of Yn.o,X _ _ _,L,vl,g.ls,rfl,Yn.l,Yn.p,a5,λW kw Hw hW sw yw a6=>?_⟩;have qw:=q9.trans sw;have Yw:=Y.same qw;show⟨_,rfl,O,_,_,_,rfl,rfl,SqL.of Yw.o,o1 _ _ _,TT,vt,g.ts,rfl,Yw.t,Yw.q,(),ndt,λD kd Hx hD sx yx ba=>?_⟩;have qx:=qw.trans sx;have bb:=sx _ _ yw;have ad:=hS (sw.trans sx) d9;have am:=sx _ _ (sw _ _ y9);have an:=aT ad;generalize asked (sgn a) (g1 loop) (g2 loop) x=ss at ad an q;show⟨_,rfl,t9,rfl,⟨_,SqL.of am⟩,λZ_ hZ=>dB (K:=[]) (a:=t9) (xs:=zz) (λi Z ys H'=>∃o,Z=[o,some (.ref W),some (.ref D)]/\ys=((ss.take i).map λs=>decide (s∈wl g.ls)||decide (s∈tl g.ts)).map V.bl/\Same Hx H'/\H' Z_=some (.lst ys)) ⟨none,rfl,rfl,cK hZ,bO⟩ (by rintro i Z ys H' _ ⟨_,_,_,e,_⟩;show SqL.of (e _ _ am)) ?_ ?_⟩
  .rintro i y Z ys H' hi ⟨o,rfl,rfl,j,S⟩;have bi:=(aI.mp hi).1;obtain⟨⟨p,r⟩,hs,b,rfl,hb⟩:=c_ ad hi;have et:ss.take (i+1)=ss.take i++[(p,r)]:=by rw[cS,hs];rfl
   show⟨_,rfl,_,rfl,W,_,rfl,DGet.t (k:=ky p r) (j _ _ bb) (j _ _ hb),_,rfl,?_⟩;rw[a6 p r];have le:(((ss.take i).map λs=>decide (s∈wl g.ls)||decide (s∈tl g.ts)).map V.bl).length<sizeLine:=by rw[aE,aE,bu];lia
   have fin:∀c:Bool,c=(decide ((p,r)∈wl g.ls)||decide ((p,r)∈tl g.ts))->((ss.take i).map λs=>decide (s∈wl g.ls)||decide (s∈tl g.ts)).map V.bl++[V.bl c]=((ss.take (i+1)).map λs=>decide (s∈wl g.ls)||decide (s∈tl g.ts)).map V.bl:=λc hc=>by
    rw[et,hc,aX,aX];rfl
   have ap:∀{m:Hp},(∀b,b≠Z_->m b=H' b)->Same Hx m:=λk b o e=>(k b (ar e hZ)).trans (j _ _ e);show ite2 (λc=>?_) (λc=>?_)
   .exact⟨S,le,λm k3 u=>⟨_,rfl,fin true (by rw[show decide ((p,r)∈wl g.ls)=true from c];rfl),ap k3,u⟩⟩
   have c':decide ((p,r)∈wl g.ls)=false:=‹c›
   show⟨_,rfl,_,rfl,D,_,rfl,DGet.t (k:=ky p r) (j _ _ yx) (j _ _ hb),?_⟩;rw[ba p r];show⟨S,le,λm k3 u=>⟨_,rfl,fin _ (by rw[c',KI]),ap k3,u⟩⟩
  rintro Z ys H' ⟨o,rfl,rfl,j,S⟩;rw[an,eV] at S;show⟨Z_,ss.map λs=>decide (s∈wl g.ls)||decide (s∈tl g.ts),rfl,SqL.of S,_,rfl,?_⟩;rw[show (ss.map λs=>decide (s∈wl g.ls)||decide (s∈tl g.ts)).any id=ss.any λs=>decide (s∈wl g.ls)||decide (s∈tl g.ts) by rw[qh];rfl];have q':=q _ (qx.trans j);show ite2 (λc=>?_) (λc=>?_)
  .rw[Nq c] at q';show q'
  rw[Np c] at q';show⟨_,rfl,q'⟩
end
theorem Ij{ls:Lps}{b:Addr}(h:eD H vs ls)(a:V.ref b∈vs):∃l∈ls,H b=some (.lst (nV l)):=by
 induction h with
 |nil=>cases a
 | @cons f g i j q t c=>
  rcases ae.mp a with z|z
  .obtain⟨m,d,e⟩:=q;rw[d] at z;cases z;show⟨_,∅,e⟩
  obtain⟨l,h1,h2⟩:=c z;show⟨l,by simp[h1],h2⟩
theorem Jl{c:List V}{ts:List (Nat×Nat×Nat)}{l:List Nat}(h:aO H c ts)(e:c=nV l)(d:l≠[]):False:=by
 cases l with
 |nil=>show d rfl
 |cons a l=>
  rw[e] at h;cases h with
  |cons q _=>
   obtain⟨b,e,_⟩:=q;cases e
theorem sQ{ts:List (Nat×Nat×Nat)}{b:Addr}(h:aO H vs ts)(a:V.ref b∈vs):∃xs,H b=some (.tup xs):=by
 induction h with
 |nil=>cases a
 | @cons f g i j q t c=>
  rcases ae.mp a with z|z
  .obtain⟨l,d,e⟩:=q;rw[d] at z;cases z;show⟨_,e⟩
  show c z
def But3(O L T:Addr)(H H':Hp):Prop:=∀b o,b≠O->b≠L->b≠T->H b=some o->H' b=some o
def DI(vs:List V)(H:Hp)(Q:VK)(L t:Addr)(c:List V)(ah:Lps)(loop:List Nat)(a:Lt)(n x:Nat):Prop:=vs=[.ref L,.ref t,.int (x:Int)]/\H L=some (.lst c)/\eD H c (ah++[loop])/\H t=some (.tup (ltV a))/\Lets a/\ay ah loop a n=some x/\(∀l∈ah++[loop],2<=l.length/\l.length<=1000)/\ah.length<=900/\
 ∀H' d,But L H H'->H' L=some (.lst d)->eD H' d (aM ah loop a x)->(∀b,V.ref b∈d->V.ref b∈c\/H b=none)->Q .non H'
def xT:Sp:=λvs H Q _=>Exists (Ex8 (DI vs H Q))
theorem HJ{Q:VK}{E:XK}(h:xT vs H Q E):spX oP vs H Q E:=⟨nat,me,h⟩
theorem Jh{f:Fr}{a:Lt}{x:Nat}(h:f.can a=some x):∃ah loop,f.ls=ah++[loop]:=by
 unfold Fr.can at h;cases e:f.ls.getLast? with
 |none=>rw[e] at h;cases h
 |some l=>show⟨f.ls.dropLast,l,by rw[qq] at e;obtain⟨ys,e⟩:=e;rw[e];simp⟩
def Fo(vs:List V)(H:Hp)(Q:VK)(O t L T:Addr)(c d:List V)(f:Fr)(a:Lt):Prop:=vs=[.ref O,.ref t]/\OAt H O L T c d f/\Ok f/\(tl f.ts).Nodup/\f.ts.length<=300/\H t=some (.tup (ltV a))/\Lets a/\
 (f.can a=none->∀H',Same H H'->Q .non H')/\∀x,f.can a=some x->
 ∀t' H' e g,But3 O L T H H'->OAt H' O L T e g (f.put a x)->(∀b,V.ref b∈e->V.ref b∈c\/H b=none)->(∀b,V.ref b∈g->V.ref b∈d\/H b=none)->Q (.ref t') H'
def zt:Sp:=λvs H Q _=>Exists (Ex8 (Fo vs H Q))
theorem EC{ls:Lps}{v:V}(h:eD H vs ls)(a:v∈vs):∃b,v=.ref b:=by
 induction h with
 |nil=>cases a
 | @cons f g i j q t c=>
  rcases ae.mp a with z|z
  .obtain⟨d,e,_⟩:=q;show⟨d,z.trans e⟩
  show c z
theorem Dv{ts:List (Nat×Nat×Nat)}{v:V}(h:aO H vs ts)(a:v∈vs):∃b,v=.ref b:=by
 induction h with
 |nil=>cases a
 | @cons f g i j q t c=>
  rcases ae.mp a with z|z
  .obtain⟨d,e,_⟩:=q;show⟨d,z.trans e⟩
  show c z
theorem OAt.apart{O L T:Addr}{c d:List V}{f:Fr}(h:OAt H O L T c d f):O≠L/\O≠T:=by
 constructor
 .intro z;have e:=h.o;rw[z,h.l] at e;injection e with e;injection e with e;obtain⟨b,a⟩:=EC (v:=.int (f.n:Int)) h.p (by rw[e];simp);cases a
 intro z;have e:=h.o;rw[z,h.t] at e;injection e with e;injection e with e;obtain⟨b,a⟩:=Dv (v:=.int (f.n:Int)) h.q (by rw[e];simp);cases a
theorem OAt.apart2{O L T:Addr}{g i:List V}{f:Fr}(h:OAt H O L T g i f)(j:f.ls≠[]):L≠T:=by
 intro z;have e:=h.l;rw[z,h.t] at e;injection e with e;injection e with e;have a:=h.p;cases c:f.ls with
 |nil=>show j c
 |cons l ls=>
  rw[c] at a;cases a with
  | @cons v _ o _ q t=>
   obtain⟨b,m,n⟩:=q;obtain⟨xs,d⟩:=sQ h.q (b:=b) (by rw[e,m];simp);rw[n] at d;cases d
section
theorem tF:bH ["_law_front","_law_letter_here","_law_x","_law_triple"] ["_law_front","_law_letter_here"] (a7 mY):=⟨rfl,rfl,rfl,⋯,rfl,⋯,⋯⟩
theorem FR{f f1 f2:Addr}{fd d1 d2:FuncData}(U:Fun K "_law_put" "_law_put" mY f fd)(TM:um mg)(G1:Use P w K mg base 2 "_law_can" ["_law_front","_law_letter_here"] pH f1 d1)(G2:Use P w K mg base 1 "_law_step" ["_law_loops","_law_letter_here","_law_x"] xT f2 d2) :
  FnOk P w K mg base CX0 3 f fd ["_law_front","_law_letter_here"] zt:=by
 show U.ok tF (by rintro _ _ _ _ ⟨_,_,_,_,_,_,_,_,rfl,_⟩;rfl) λNz A outer s H vs Q E hr h=>?_
 obtain⟨O,t,L,T,S,vt,g,a,rfl,Y,ok,ndt,a4,ht,ha,qn,q⟩:=h;have a5:=hr.mono (show 1<=2 by decide);show⟨_,af (sx 2 tF.nd (uc G1 hr (ai (pv 0) (pa1 (pv 1)))))
  (af (aY (aH tQ (pv 2) fS (nomark _)) (aj (aU fS)) a8)
  (af (sx 3 tF.nd (aK (ai (ixx aJ (ixx aJ (ixx aJ (pv 0) aa) (dg da aa)) aa) (ai (ixx aJ (ixx aJ (ixx aJ (pv 0) aa) (dg da aa)) aa) (pa1 (pv 2))))))
  (af (bU (uc G2 a5 (ai (ixx aJ (pv 0) aa) (ai (pv 1) (pa1 (pv 2))))))
  (af (bU (bQ bT cG cH cq (ixx aJ (pv 0) aa) (pa1 (pv 3))))
  (af (gr (dZ (Dk rfl) (by rfl) TM.max uX (ai (ixx aJ (pv 0) aa) (pa1 (au bN (pv 2) aa)))) (pf (pv 0) aa oE))
  (aj (aU (pv 3)))))))),?_⟩
 have bc:=line5000;have X:∀x y z:V,atI [x,y,z] 0=some x:=λ_ _ _=>rfl;have o1:∀x y z:V,atI [x,y,z] 1=some y:=λ_ _ _=>rfl;have o2:∀x y z:V,atI [x,y,z] 2=some z:=λ_ _ _=>rfl;show⟨_,rfl,_,rfl,O,t,L,T,S,vt,g,a,rfl,Y,ok,ndt,a4,ht,ha,λH1 s1=>?_⟩;show⟨_,rfl,rfl,_,rfl,?_⟩;cases D:g.can a with
 |none=>
  rw[Nt (show pU none=V.non from rfl)];show aA (qn D H1 s1)
 |some x=>
 rw[Nu (by intro z;cases z)];show ak ?_;obtain⟨ah,loop,i⟩:=Jh D;replace q:=q x D;have a6:ic ah loop g.ts g.n a=some x:=by have:=D;obtain⟨ls,ts,n⟩:=g;dsimp only at i;rw[i,ke] at this;show this
 have hx:=(jK a6).1;have ba:=zM ok ha D;have ep:g.put a x=⟨aM ah loop a x,g.ts++[(g1 loop,g2 loop,x)],max g.n (x+1)⟩:=by obtain⟨ls,ts,n⟩:=g;dsimp only at i;rw[i,mK]
 have hm:=yH ok;have he:=yI ok;rw[i] at hm he;rw[ao,aV] at hm;obtain⟨am,an⟩:=Y.apart;have ap:=Y.apart2 (by rw[i];simp);have r:=Y.same s1;have hp:=r.p;rw[i] at hp;obtain⟨va,v,ev,bd,B,rfl,hB⟩:=jT hp;have a0:atI S (-1)=some (V.ref B):=gB (by rw[ev];simp);have hg:=zU (ok.two loop (by rw[i];simp));show⟨_,rfl,O,_,_,_,rfl,rfl,SqL.of r.o,X _ _ _,_,rfl,L,_,_,_,rfl,rfl,SqL.of r.l,a0,B,_,_,_,rfl,rfl,SqL.of hB,cM (j:=0) (dS hg.1),
  _,rfl,O,_,_,_,rfl,rfl,SqL.of r.o,X _ _ _,_,rfl,L,_,_,_,rfl,rfl,SqL.of r.l,a0,B,_,_,_,rfl,rfl,SqL.of hB,cM (j:=1) (dS hg.2),_,rfl,lit3,λtt H2 h2 s2 y2=>?_⟩
 have Z:=s1.trans s2;have d:=r.same s2;have N:H tt=none:=s1.free h2;show⟨_,rfl,O,_,_,_,rfl,rfl,SqL.of d.o,X _ _ _,_,rfl,_,rfl,L,t,S,ah,loop,a,g.n,x,rfl,d.l,by rw[<-i];show d.p,Z _ _ ht,ha,hx,λl R=>⟨ok.two l (by rw[i];show R),cC (he l R) ()⟩,(),λH3 a1 I y3 p3 M=>?_⟩;have ad:=I _ _ am d.o;have al:=I _ _ (aG ap) d.t;have be:=aT Y.q;show⟨_,rfl,O,_,_,_,rfl,rfl,SqL.of ad,o1 _ _ _,.inl ⟨rfl,_,SqL.of al⟩,_,rfl,T,_,_,rfl,rfl,al,(),λH4 u y4=>?_⟩;have a2:H4 O=_:=(u O an).trans ad;show⟨_,rfl,O,_,_,_,rfl,rfl,SqL.of a2,o2 _ _ _,_,rfl,_,_,rfl,rfl,_,_,rfl,_,rfl,O,_,_,_,rfl,rfl,a2,(rfl:ixN 3 2=some 2),λH5 C y5=>?_⟩;have bb:H5 tt=some (.tup [.int (g1 loop:Int),.int (g2 loop:Int),.int (x:Int)]):=by have n1:tt≠L:=aG (ar Y.l N);have n2:tt≠O:=aG (ar Y.o N);have M:tt≠T:=aG (ar Y.t N);show (C tt n2).trans ((u tt M).trans (I _ _ n1 y2))
 have a3:∀b,V.ref b∈a1->b≠T/\b≠O:=λb m=>by
  obtain⟨l,R,e⟩:=Ij p3 m;have h2:2<=l.length:=ba.two l (by rw[ep];show R);show⟨λz=>?_,λz=>?_⟩
  .rw[z,al] at e;injection e with e;injection e with e;show Jl d.q e (by rintro rfl;simp at h2)
  rw[z,ad] at e;injection e with e;injection e with e;cases l with
  |nil=>simp at h2
  |cons c l=>simp[nV] at e
 show⟨_,rfl,q tt H5 a1 (vt++[.ref tt]) (λb o n1 n2 M e=>(C b n1).trans ((u b M).trans (I _ _ n2 (Z _ _ e)))) ?_ (λb m=>(M b m).imp id Z.free) (sW N)⟩;rw[ep];show⟨?_,(C L (aG am)).trans ((u L ap).trans y3),cu.move (φ:=nat) p3 λb o m e=>(C b (a3 b m).2).trans ((u b (a3 b m).1).trans e),(C T (aG an)).trans y4,cZ (aO.move d.q λb o m e=>?_) (.cons ⟨tt,rfl,bb⟩ .nil)⟩
 .rw[y5];have e6:(if (x:Int)+1>(g.n:Int) then (x:Int)+1 else (g.n:Int))=((max g.n (x+1):Nat):Int):=by split<;>lia
  change some (HO.lst [V.ref L,V.ref T,V.int (if (x:Int)+1>(g.n:Int) then (x:Int)+1 else (g.n:Int))])=_;rw[e6]
 obtain⟨xs,e'⟩:=sQ d.q m;show (C b (bD e' d.o (by intro z;cases z))).trans ((u b (bD e' d.t (by intro z;cases z))).trans (I _ _ (bD e' d.l (by intro z;cases z)) e))
end
def nC:Lt->Prop
 |.sp _ _=>True
 |.sg _=>False
theorem nC.lets{a:Lt}(h:nC a):Lets a:=by
 cases a with
 |sg c=>show h.elim
 |sp j k=>trivial
def BC(vs:List V)(H:Hp)(Q:VK)(O L T:Addr)(c d:List V)(f:Fr):Prop:=vs=[.ref O]/\OAt H O L T c d f/\Ok f/\(tl f.ts).Nodup/\f.ts.length<=300/\
 ∀r xs b H',Same H H'->H' r=some (.lst xs)->bE H' xs b->(∀a∈b,nC a)->xs.length<=400->Q (.ref r) H'
def vK:Sp:=λvs H Q _=>Exists (Ex6 (BC vs H Q))
theorem rK:∀{xs:List V}{ls:List Lt},bE H xs ls->xs.length=ls.length
 |_,_,.nil=>rfl
 |_,_,.cons _ t=>by rw[aS,aS,rK t]
theorem oH{xs ys:List V}{ls ms:List Lt}(h:bE H xs ls)(g:bE H ys ms):bE H (xs++ys) (ls++ms):=cZ h g
section
theorem kT:bH ["_law_front","_law_found","_law_j","_law_loop"] ["_law_front"] (a7 kW):=⟨rfl,rfl,rfl,⋯,rfl,⋯,⋯⟩
theorem BF{f f1:Addr}{fd d1:FuncData}(U:Fun K "_law_partings" "_law_partings" kW f fd)(T:cW mg)(G:Use P w K mg base 2 "_law_can" ["_law_front","_law_letter_here"] pH f1 d1) :
  FnOk P w K mg base CX0 3 f fd ["_law_front"] vK:=by
 show U.ok kT (by rintro _ _ _ _ ⟨_,_,_,_,_,_,rfl,_⟩;rfl) λNz A outer s H vs Q E hr h=>?_
 obtain⟨O,L,TT,I,vt,g,rfl,Y,ok,ndt,a4,q⟩:=h;show⟨_,af (sx 1 kT.nd (bf de))
  (af (cY cF rfl (xi rfl T.enum rfl T.rev (pa1 (ixx aJ (pv 0) aa))) (eN rfl (bL (gx 2 kT.nd) (bL (gx 3 kT.nd) dD)))
   (aj (sx 1 kT.nd (au du (pv 1) (dP (N:=["_law_k","_law_j"]) (fr:=[none,some 2]) (dY ⋯ rfl rfl ⋯ ⋯ (by walk_at"cs") (by walk_at"ct")) rfl (i8 rfl T.range (pa1 (pln T.len (pv 3))))
    (λC' s' H' fp Nw=>⟨gx 0 (⋯:(["_law_k","_law_j"]:List Str).Nodup),ft,aK (ai bB (ai (pv 1) (pa1 (pv 0))))⟩))))))
  (aj (aU (dP (N:=["_law_letter_here","_law_front"]) (fr:=[none,some 0]) (dY ⋯ rfl rfl ⋯ ⋯ (by walk_at"cs") (by walk_at"ct")) rfl (cL (pv 1))
    (λC' s' H' fp Nw=>⟨gx 0 (⋯:(["_law_letter_here","_law_front"]:List Str).Nodup),hJ (aH yF (uc G hr (ai (pv 1) (pa1 (pv 0)))) fS (nomark _)),pv 0⟩))))),?_⟩
 have bd:=line5000;have o0:∀x y z:V,atI [x,y,z] 0=some x:=λ_ _ _=>rfl;have hlen:=aT Y.p;have be:=ok.tot;show⟨aQ _,λp1 H1 h1 s1 y1=>?_⟩;have Y1:=Y.same s1;show⟨_,rfl,O,_,_,_,rfl,rfl,SqL.of Y1.o,o0 _ _ _,L,I,rfl,SqL.of Y1.l,wt (K:=[]) (a:=L) (xs:=I) (λi Z H2=>∃M R d zs v,Z=[some (.ref O),some (.ref d),M,R]/\Same H H2/\H2 d=some (.lst zs)/\bE H2 zs v/\(∀a∈v,nC a)/\zs.length<=((g.ls.drop (g.ls.length-i)).map List.length).sum)
  ⟨none,none,p1,[],[],rfl,s1,y1,.nil,∅,aQ _⟩ (by rintro i Z H2 _ ⟨_,_,_,_,_,_,e,_⟩;show SqL.of (e _ _ Y.l)) ?_ ?_⟩
 .rintro i x pt Z H2 hi hx ⟨M,R,d,zs,v,rfl,sm,C,m,r,hz⟩ a5;rw[hlen] at hi hx;obtain⟨l,hs,b,rfl,hb⟩:=c_ Y.p hx;have ed:=vC hs hi;have sd:=rm g.ls (g.ls.length-(i+1));rw[ed,az,fg] at sd;walk_at"H2 pt a5 X s3 y3";have ap:=sm.trans s3;show⟨pt,_,rfl,SqT.of y3,rfl,_,_,rfl,_,_,rfl,rfl,?_⟩;show⟨_,rfl,_,rfl,b,_,rfl,.inl (SqL.of (ap _ _ hb)),_,rfl,by rw[bC];lia,by rw[bC];lia,λD hD=>Cr (lo:=0) (n:=(((nV l).length:Nat):Int).toNat) (λk Z ys H'=>∃o,Z=[o,some (.int (i:Int))]/\Same X H'/\H' D=some (.lst ys)/\bE H' ys ((List.range k).map λk=>Lt.sp i k))
   ⟨none,rfl,cK hD,bO,.nil⟩ ?_ ?_⟩
  .rintro k Z ys H' hk ⟨o,rfl,sk,ad,u⟩;rw[js,bC] at hk;have ah:=rK u;rw[aE,iS] at ah;show⟨_,rfl,_,rfl,lit3,λtt H4 gt s4 y4=>?_⟩;have a0:=s4 _ _ ad;show⟨a0,(),λH5 k5 y5=>?_⟩;have B:∀t xs,H4 t=some (.tup xs)->H5 t=some (.tup xs):=λt xs e=>(k5 t (bD e a0 (by intro z;cases z))).trans e;show⟨_,rfl,λb' o' e=>(k5 b' (ar e hD)).trans (s4 _ _ (sk _ _ e)),y5,?_⟩;rw[AW,aX];show oH ((u.same s4).move B) (.cons ⟨tt,rfl,B _ _ ?_⟩ .nil);rw[y4,show (Str.ofString "S")=txt [83] from s83,nK];rfl
  rintro Z ys H' ⟨o,rfl,sk,ad,u⟩;rw[js,bC] at u;have ah:=rK u;rw[aE,iS] at ah;show⟨d,D,_,_,rfl,rfl,sk _ _ (s3 _ _ C),ad,(),λPn H6 hn s6 y6=>?_⟩;show⟨_,_,Pn,_,v++(List.range l.length).map (λk=>Lt.sp i k),rfl,(ap.trans sk).trans s6,y6,oH (m.same ((s3.trans sk).trans s6)) (u.same s6),?_,?_⟩
  .intro a ha;rcases aw.mp ha with z|z
   .exact r a z
   obtain⟨k,_,rfl⟩:=aq.mp z;trivial
  rw[ed,az,fg,ao];lia
 rintro Z H2 ⟨M,R,d,zs,v,rfl,sm,C,a6,ba,hz⟩;rw[hlen,nX,kH] at hz;have a1:=sm;show⟨_,rfl,d,rfl,⟨_,SqL.of C⟩,λZ_ hZ=>dB (K:=[]) (a:=d) (xs:=zs) (λi Z ys H'=>∃o j,Z=[o,some (.ref O)]/\Same H2 H'/\H' Z_=some (.lst ys)/\bE H' ys j/\(∀a∈j,nC a)/\ys.length<=i) ⟨none,[],rfl,cK hZ,bO,.nil,∅,ax _⟩ (by rintro i Z ys H' _ ⟨_,_,_,e,_⟩;show SqL.of (e _ _ C)) ?_ ?_⟩
 .rintro i y Z ys H' hi ⟨o,j,rfl,sm,al,m,r,bb⟩;obtain⟨b,bc,tb,rfl,a2⟩:=kX a6 hi;have bi:=(aI.mp hi).1;have a3:=ba b (a_ bc);have Y':=(Y.same a1).same sm;show⟨_,rfl,_,rfl,O,tb,L,TT,I,vt,g,b,rfl,Y',ok,ndt,a4,sm _ _ a2,a3.lets,λH2 s2=>⟨rfl,_,rfl,?_⟩⟩;have am:=sm.trans s2;have an:=s2 _ _ al;cases ec:g.can b with
  |none=>
   show ak ?_;show⟨_,j,rfl,am,an,m.same s2,r,()⟩
  |some x=>
   show aA ?_;show⟨_,rfl,an,(),λX k3 y3=>?_⟩;have B:∀t xs,H2 t=some (.tup xs)->X t=some (.tup xs):=λt xs e=>(k3 t (bD e an (by intro z;cases z))).trans e;show⟨_,j++[b],rfl,λb' o' e=>(k3 b' (ar e hZ)).trans (am _ _ e),y3,oH ((m.same s2).move B) (.cons ⟨tb,rfl,B _ _ (am _ _ a2)⟩ .nil),?_,?_⟩
   .intro c hc;rcases aw.mp hc with z|z
    .exact r c z
    rw[aL.mp z];show a3
   rw[ao,aV];lia
 rintro Z ys H' ⟨o,j,rfl,sm,al,m,r,bb⟩;show q Z_ ys j H' (a1.trans sm) al m r ()
end
theorem zI:∀(u:Pr)(r:List Pr)(w:Pr)(k:Nat),k<=r.length->(pp u r w)[k]?=some ((u::r).getD k (0,0),(r++[w]).getD k (0,0))
 |u,[],w,k,h=>by
  have:k=0:=‹h›
  subst this;rfl
 |u,v::r,w,0,h=>by simp[pp]
 |u,v::r,w,k+1,h=>by
  have:=zI v r w k ‹h›;simp only[pp,fe,this];simp
theorem zH:∀(u:Pr)(r:List Pr)(w:Pr),(pp u r w).length=r.length+1
 |_,[],_=>rfl
 |_,v::r,w=>by change (pp v r w).length+1=_;rw[zH];rfl
theorem sY(Q:List Pr):(cyc Q).length=Q.length:=by
 cases Q with
 |nil=>rfl
 |cons u r=>show zH u r u
theorem GE(Q:List Pr)(k:Nat)(h:k<Q.length):(cyc Q)[k]?=some (Q.getD k (0,0),Q.getD ((k+1)%Q.length) (0,0)):=by
 cases Q with
 |nil=>simp at h
 |cons u r=>
  have a:k<=r.length:=by simpa [Ln] using h
  change (pp u r u)[k]?=_;rw[zI u r u k a]
  congr 2
  rw[aS];by_cases e:k=r.length
  .subst e;rw[nU];simp[List.getD]
  rw[kO ()];simp only[List.getD,fe];rw[eF ()]
theorem ma(N:Nat)(l:List Nat):(prs N l).length=l.length:=by simp[prs]
theorem yu{N:Nat}{l:List Nat}{k:Nat}(h:k<l.length):(prs N l).getD k (0,0)=(l.getD k 0,N+k):=by simp[prs,List.getD,h]
theorem Gz{N:Nat}{l:List Nat}{k:Nat}(h:k<l.length):(cyc (prs N l))[k]?=some ((l.getD k 0,N+k),(l.getD ((k+1)%l.length) 0,N+(k+1)%l.length)):=by rw[GE _ _ (by rw[ma];show h),ma,yu h,yu (iW _ ())]
def off(N:Nat)(ls:Lps):Nat:=N+(ls.map λl=>l.length+1).sum
theorem Ex(N:Nat)(l:List Nat)(ls:Lps):off N (l::ls)=off (N+l.length+1) ls:=by simp only[off,az,fg];lia
theorem Ew(N:Nat)(ls:Lps)(l:List Nat):off N (ls++[l])=off N ls+l.length+1:=by simp only[off,aX,iV,az,fG,fg,qz];lia
theorem wH:∀(N:Nat)(ls:Lps)(l:List Nat),clos N (ls++[l])=clos N ls++clo (off N ls+l.length) (prs (off N ls) l)
 |N,[],l=>by simp[clos,off]
 |N,m::ls,l=>by
  change clo (N+m.length) (prs N m)++clos (N+m.length+1) (ls++[l])=_;rw[wH _ ls l,<-bI,Ex];rfl
theorem rQ:∀(N:Nat)(ls:Lps),(clos N ls).length=3*(ls.map List.length).sum
 |_,[]=>rfl
 |N,l::ls=>by
  change (clo (N+l.length) (prs N l)++clos (N+l.length+1) ls).length=_;have h:∀(c:Nat)(Q:List (Pr×Pr)),(Q.flatMap λe=>[tA e,tB e,tC c e]).length=3*Q.length:=λc Q=>by
   induction Q with
   |nil=>rfl
   |cons e Q a=>rw[qm,ao,a,aS];simp only[aS,iQ];lia
  rw[ao,rQ,az,fg];unfold clo;rw[h,sY,ma];lia
def B0(vs:List V)(H:Hp)(Q:VK)(O L T:Addr)(b c:List V)(f:Fr):Prop:=vs=[.ref O]/\OAt H O L T b c f/\Ok f/\f.ts.length<=40/\
 ∀r a H',H r=none->Same H H'->H' r=some (.lst a)->aO H' a (f.ts++clos f.n f.ls)->Q (.ref r) H'
def vZ:Sp:=λvs H Q _=>Exists (Ex6 (B0 vs H Q))
section
theorem i7:bH ["_law_front","_law_found","_law_new","_law_loop","_law_m","_law_i"] ["_law_front"] (a7 lh):=⟨rfl,rfl,rfl,⋯,rfl,⋯,⋯⟩
theorem Cc{f:Addr}(U:Fun K "_law_closing" "_law_closing" lh f fd)(T:cW mg):FnOk P w K mg base CX0 1 f fd ["_law_front"] vZ:=by
 show U.ok i7 (by rintro _ _ _ _ ⟨_,_,_,_,_,_,rfl,_⟩;rfl) λNz A outer s H vs Q E hr h=>?_
 obtain⟨O,L,TT,vl,vt,g,rfl,Y,ok,bb,q⟩:=h;show⟨_,af (sx 1 i7.nd (eJ kQ (by rfl) T.list n8 (pa1 (ixx aJ (pv 0) aa))))
  (af (sx 2 i7.nd (ixx aJ (pv 0) aa))
  (af (cY cF rfl (cL (ixx aJ (pv 0) aa)) (gx 3 i7.nd)
   (af (sx 4 i7.nd (pln T.len (pv 3)))
   (af (cY cF rfl (i8 rfl T.range (pa1 (pv 4))) (gx 5 i7.nd)
    (af (bU (bQ bT cG cH cq (pv 1) (pa1 (aK (ai (ixx aJ (pv 3) (pv 5)) (ai (ixx aJ (pv 3) (au dH (au bN (pv 5) aa) (pv 4))) (pa1 (au bN (pv 2) (pv 5)))))))))
    (af (bU (bQ bT cG cH cq (pv 1) (pa1 (aK (ai (ixx aJ (pv 3) (au dH (au bN (pv 5) aa) (pv 4))) (ai (au bN (pv 2) (au dH (au bN (pv 5) aa) (pv 4))) (pa1 (au bN (pv 2) (pv 5)))))))))
    (aj (bU (bQ bT cG cH cq (pv 1) (pa1 (aK (ai (au bN (pv 2) (pv 5)) (ai (au bN (pv 2) (au dH (au bN (pv 5) aa) (pv 4))) (pa1 (au bN (pv 2) (pv 4)))))))))))))
   (aj (sx 2 i7.nd (au bN (au bN (pv 2) (pv 4)) aa))))))
  (aj (aU (pv 1))))),?_⟩
 have bc:=line5000;have o0:∀x y z:V,atI [x,y,z] 0=some x:=λ_ _ _=>rfl;have o1:∀x y z:V,atI [x,y,z] 1=some y:=λ_ _ _=>rfl;have o2:∀x y z:V,atI [x,y,z] 2=some z:=λ_ _ _=>rfl;have hlen:=aT Y.p;have bd:=ok.tot;show⟨_,rfl,O,_,_,_,rfl,rfl,SqL.of Y.o,o1 _ _ _,TT,_,rfl,.inl (SqL.of Y.t),λF H1 hF s1 y1=>?_⟩;show⟨_,rfl,O,_,_,_,rfl,rfl,SqL.of (s1 _ _ Y.o),o2 _ _ _,?_⟩;show⟨_,rfl,O,_,_,_,rfl,rfl,SqL.of (s1 _ _ Y.o),o0 _ _ _,L,rfl,⟨_,SqL.of (s1 _ _ Y.l)⟩,g_ (K:=[]) (a:=L) (xs:=vl) (λi Z H2=>∃o3 o4 m j,Z=[some (.ref O),some (.ref F),some (.int ((off g.n (g.ls.take i):Nat):Int)),o3,o4,m]/\Same H H2/\H2 F=some (.lst j)/\aO H2 j (g.ts++clos g.n (g.ls.take i)))
  ⟨none,none,none,vt,rfl,s1,y1,by simp only[qA,clos,dh];show Y.q.same s1⟩ (by rintro i Z H2 _ ⟨_,_,_,_,_,e,_⟩;show SqL.of (e _ _ Y.l)) ?_ ?_⟩
 .rintro i v Z H2 hi ⟨o3,o4,m,j,rfl,sm,am,M⟩;obtain⟨l,hs,b,rfl,hb⟩:=c_ Y.p hi;have be:i<g.ls.length:=(aI.mp hs).1;have et:g.ls.take (i+1)=g.ls.take i++[l]:=by rw[cS,hs];rfl
  have bi:((g.ls.take i).map List.length).sum+l.length<=(g.ls.map List.length).sum:=by
   have:((g.ls.take (i+1)).map List.length).sum<=(g.ls.map List.length).sum:=by
    conv=>rhs;rw[<-fY (i+1) g.ls,aX,iV]
    lia
   rw[et,aX,iV] at this;simpa using this
  generalize ap:off g.n (g.ls.take i)=r at *;have R:∀H',Same H H'->SqL [] H' b (nV l):=λH' s'=>SqL.of (s' _ _ hb);show⟨_,rfl,b,_,rfl,.inl (R _ sm),?_⟩;rw[bC];show⟨_,rfl,(l.length:Int),rfl,(),(),jI (lo:=0) (n:=((l.length:Nat):Int).toNat) (λk Z B=>∃m j,Z=[some (.ref O),some (.ref F),some (.int (r:Int)),some (.ref b),some (.int (l.length:Int)),m]/\Same H B/\B F=some (.lst j)/\aO B j (g.ts++clos g.n (g.ls.take i)++((cyc (prs r l)).take k).flatMap λe=>[tA e,tB e,tC (r+l.length) e]))
   ⟨m,j,rfl,sm,am,‹M›⟩ ?_ ?_⟩
  .rintro k Z B hk ⟨m,j,rfl,C,S,D⟩;have a0:k<l.length:=();have hg:l[k]?=some (l.getD k 0):=by simp[List.getD,a0]
   have a6:(k+1)%l.length<l.length:=iW _ ();have X:l[(k+1)%l.length]?=some (l.getD ((k+1)%l.length) 0):=by simp[List.getD,a6]
   have ad:=Gz (N:=r) a0;have emod:((0+(k:Int))+1)%(l.length:Int)=(((k+1)%l.length:Nat):Int):=by rw[nK];rfl
   have ah:(0:Int)<(l.length:Int):=();generalize l.getD k 0=c at hg ad;generalize l.getD ((k+1)%l.length) 0=d at X ad;generalize (k+1)%l.length=e at X ad emod;have lv:=aT D;rw[ao,ao,rQ] at lv;have bl:((cyc (prs r l)).take k |>.flatMap λe=>[tA e,tB e,tC (r+l.length) e]).length<=3*l.length:=by
    have h:∀(c:Nat)(Q:List (Pr×Pr)),(Q.flatMap λe=>[tA e,tB e,tC c e]).length=3*Q.length:=λc Q=>by
     induction Q with
     |nil=>rfl
     |cons e Q ih=>rw[qm,ao,ih,aS];simp only[aS,iQ];lia
    rw[h,bu,sY,ma];lia
   show⟨_,rfl,.inl ⟨rfl,_,SqL.of S⟩,_,rfl,_,rfl,b,_,0+(k:Int),.int (c:Int),rfl,rfl,R _ C,by rw[nK];show cM (dS hg),_,rfl,_,rfl,_,_,rfl,rfl,_,rfl,_,_,rfl,rfl,ah,b,_,_,.int (d:Int),rfl,rfl,R _ C,by rw[emod];show cM (dS X),_,rfl,_,rfl,_,_,rfl,rfl,lit3,λta H4 ga s4 y4=>?_⟩;have a1:=s4 _ _ S;show⟨F,_,_,rfl,rfl,a1,(),λH5 k5 y5=>?_⟩;have a2:Same H H5:=λc o u=>(k5 c (ar u hF)).trans (s4 _ _ (C _ _ u));show⟨_,rfl,.inl ⟨rfl,_,SqL.of y5⟩,_,rfl,_,rfl,_,_,rfl,rfl,_,rfl,_,_,rfl,rfl,ah,b,_,_,.int (d:Int),rfl,rfl,R _ a2,by rw[emod];show cM (dS X),_,rfl,_,rfl,_,_,rfl,rfl,_,rfl,_,_,rfl,rfl,ah,_,_,rfl,rfl,_,rfl,_,rfl,_,_,rfl,rfl,lit3,λtb H6 gb s6 y6=>?_⟩;have a3:=s6 _ _ y5;show⟨F,_,_,rfl,rfl,a3,by rw[ao,aV];lia,λH7 k7 y7=>?_⟩;have ba:Same H H7:=λc o u=>(k7 c (ar u hF)).trans (s6 _ _ (a2 _ _ u));show⟨_,rfl,.inl ⟨rfl,_,SqL.of y7⟩,_,rfl,_,rfl,_,_,rfl,rfl,_,rfl,_,rfl,_,_,rfl,rfl,_,rfl,_,_,rfl,rfl,ah,_,_,rfl,rfl,_,rfl,_,rfl,_,_,rfl,rfl,lit3,λtc H8 gc I y8=>?_⟩;have a4:=I _ _ y7;show⟨F,_,_,rfl,rfl,a4,by rw[ao,ao,aV,aV];lia,λH9 k9 y9=>?_⟩;have a5:∀t xs,H4 t=some (.tup xs)->H5 t=some (.tup xs):=λt xs e=>(k5 t (bD e a1 (by intro z;cases z))).trans e;have an:∀t xs,H6 t=some (.tup xs)->H7 t=some (.tup xs):=λt xs e=>(k7 t (bD e a3 (by intro z;cases z))).trans e;have al:∀t xs,H8 t=some (.tup xs)->H9 t=some (.tup xs):=λt xs e=>(k9 t (bD e a4 (by intro z;cases z))).trans e;show⟨_,_,rfl,λc o u=>(k9 c (ar u hF)).trans (I _ _ (ba _ _ u)),y9,?_⟩;rw[cS,ad,ql,<-bI,bI (as:=_++_) (bs:=[V.ref tb])];rw[bI (bs:=[V.ref ta])];show cZ (eZ.move (φ:=nat) (λt xs e=>al _ _ (I _ _ (an _ _ (s6 _ _ (a5 _ _ (s4 _ _ e)))))) D) (.cons ⟨ta,rfl,?_⟩ (.cons ⟨tb,rfl,?_⟩ (.cons ⟨tc,rfl,?_⟩ .nil)))
   .refine (al _ _ (I _ _ (an _ _ (s6 _ _ (a5 _ _ y4))))).trans ?_;rw[nK];rfl
   .refine (al _ _ (I _ _ (an _ _ y6))).trans ?_;rw[emod,nK];rfl
   show (al _ _ y8).trans ?_;rw[emod,nK];rfl
  rintro Z B ⟨m,j,rfl,C,S,D⟩;show⟨_,rfl,_,rfl,_,_,rfl,rfl,_,_,rfl,rfl,some (.ref b),some (.int (l.length:Int)),m,j,?_,C,S,?_⟩
  .rw[et,Ew,ap];rfl
  rw[et,wH,ap,<-bI];rw[show (cyc (prs r l)).take ((l.length:Nat):Int).toNat=cyc (prs r l) from gQ (by rw[sY,ma];lia)] at D;show D
 rintro Z H2 ⟨o3,o4,m,j,rfl,sm,am,M⟩;rw[hlen,eV] at M;show⟨_,rfl,q F j H2 hF sm am M⟩
end
end K71
end
section
namespace K71
open PySem L2 K51 K31 K15 K52
def stV(st:List Nat):List V:=st.reverse.map λk:Nat=>V.int (k:Int)
theorem gY(k:Nat)(r:List Nat):stV (k::r)=stV r++[.int (k:Int)]:=by simp[stV]
theorem oO(st:List Nat):(stV st).length=st.length:=by simp[stV]
theorem DD(k:Nat)(r:List Nat):(stV (k::r))[(stV (k::r)).length-1]?=some (.int (k:Int)):=by rw[gY];simp
theorem DE(k:Nat)(r:List Nat):(stV (k::r)).dropLast=stV r:=by rw[gY];simp
inductive Fnd:Nat->List Nat->List Nat->Lt->Prop
 |e (st:List Nat):Fnd 69 st (3::st) (.sg 69)
 |s (k m:Nat) (r:List Nat) (h:1<=k):Fnd 83 (k::m::r) ((k+m-1)::r) (.sp 0 k)
 |c (k:Nat) (r:List Nat) (h:1<=k):Fnd 67 (k::r) ((k-1)::r) (.sg 67)
 |g (c k:Nat) (r:List Nat) (h:c=82\/c=76):Fnd c (k::r) ((k+1)::r) (.sg c)
theorem IY{f:Bool}{c:Nat}{st b:List Nat}{ls d:List Lt}(h:stp f c st ls=some (b,d))(j:∀k∈st,3<=k):∃a,d=a::ls/\Fnd c st b a/\(c=67->f=false->∀k r,b=k::r->3<=k):=by
 unfold stp at h
 split at h
 .rename_i e;subst e;cases h;show⟨_,rfl,.e st,λz=>by cases z⟩
 split at h
 .cases h
 rename_i k r;have p:=j k ∅
 split at h
 .rename_i e;subst e
  split at h
  .cases h
  rename_i m i;cases h;show⟨_,rfl,.s k m i (),λz=>by cases z⟩
 split at h
 .rename_i e;subst e
  split at h
  .cases h
  rename_i l;cases h;show⟨_,rfl,.c k r (),λ_ hf q i e=>?_⟩;cases e;have:¬k<4:=λz=>l ⟨z,hf⟩;lia
 split at h
 .rename_i n o;cases h;show⟨_,rfl,.g c k r o,λz=>(n z).elim⟩
 cases h
theorem yi:∀{l:List Nat}{x:List Nat×List Lt}(j:Nat),sc l=some x->∃y,sc (l.drop j)=some y
 |l,x,0,h=>⟨x,h⟩
 | [],x,j+1,h=>⟨x,h⟩
 |c::r,x,j+1,h=>by
  cases e:sc r with
  |none=>
   have:((sc r).bind λx=>stp false c x.1 x.2)=some x:=h;rw[e] at this;cases this
  |some y=>show yi j e
def scF(f:Bool):List Nat->Option (List Nat×List Lt)
 | []=>some ([],[])
 |c::r=>(sc r).bind λx=>stp f c x.1 x.2
theorem v_(l:List Nat):scF false l=sc l:=by cases l<;>rfl
theorem J6{l:List Nat}{w:List Lt}(h:plc l=some w):scF true l=some ([2],w)/\∀j,1<=j->∃y,sc (l.drop j)=some y:=by
 cases l with
 |nil=>cases h
 |cons c r=>
  have h:((sc r).bind λx=>stp true c x.1 x.2).bind pK=some w:=h;obtain⟨⟨st,ls⟩,h1,h2⟩:=uV.mp h;obtain⟨y,a,_⟩:=uV.mp h1;show⟨?_,λj b=>?_⟩
  .change (sc r).bind _=_;rw[h1];unfold pK at h2
   split at h2
   .rename_i e;cases h2;rw[<-show st=[2] from e]
   cases h2
  obtain⟨j,rfl⟩:∃i,j=i+1:=⟨j-1,()⟩;show yi j a
def DH(vs:List V)(H:Hp)(Q:VK)(p:Addr)(k:Nat)(r:List Nat):Prop:=vs=[.ref p]/\H p=some (.lst (stV (k::r)))/\WrO H p (.lst (stV r)) (Q (.int (k:Int)))
def xS:Sp:=λvs H Q _=>Exists (Ex3 (DH vs H Q))
def DR(vs:List V)(H:Hp)(Q:VK)(c:Nat)(p:Addr)(st b:List Nat)(a:Lt):Prop:=vs=[.str (txt [c]),.ref p]/\H p=some (.lst (stV st))/\st.length<=4000/\Fnd c st b a/\
 ∀t H',H t=none->But p H H'->H' p=some (.lst (stV b))->H' t=some (.tup (ltV a))->Q (.ref t) H'
def xY:Sp:=λvs H Q _=>Exists (Ex5 (DR vs H Q))
section
theorem Ft:bH ["lengths"] ["lengths"] (a7 mw):=⟨rfl,rfl,rfl,⋯,rfl,⋯,⋯⟩
theorem Eg{f:Addr}(U:Fun K "taken_up" "taken_up" mw f fd):FnOk P w K mg base CX0 1 f fd ["lengths"] xS:=by
 show U.ok Ft (by rintro _ _ _ _ ⟨_,_,_,rfl,_⟩;rfl) λb A outer s H vs Q E c h=>?_
 obtain⟨p,k,r,rfl,a,q⟩:=h;show⟨_,af (aY (tI (D9 (pv 0) (λ_=>rfl))) iy a8)
  (aj (aU (tP bT qE qF zO (pv 0)))),?_⟩
 show⟨_,rfl,_,.inl ⟨_,SqL.of a,rfl⟩,?_⟩;have e:(!(stV (k::r)).isEmpty)=true:=by rw[gY];simp
 rw[e];dsimp only [pG,Ay];show ak ⟨_,rfl,.inl ⟨rfl,_,SqL.of a⟩,p,_,_,rfl,rfl,a,DD k r,?_⟩;rw[DE];show q
theorem yk:bH ["sign","lengths","k"] ["sign","lengths"] (a7 mH):=⟨rfl,rfl,rfl,⋯,rfl,⋯,⋯⟩
theorem Er{f N:Addr}{fd O:FuncData}(U:Fun K "letter_found" "letter_found" mH f fd)(GT:Use P w K mg base 1 "taken_up" ["lengths"] xS N O){tl:Tok}(T:mg "LEAST_LOOP" = some (.int 3 tl)) :
  FnOk P w K mg base CX0 2 f fd ["sign","lengths"] xY:=by
 show U.ok yk (by rintro _ _ _ _ ⟨_,_,_,_,_,rfl,_⟩;rfl) λNz A outer s H vs Q E x h=>?_
 obtain⟨c,p,st,B,a,rfl,i,D,hf,q⟩:=h;show⟨_,af (aY (aH bY (pv 0) bB (nomark _))
   (af (sx 2 yk.nd (uc GT x (pa1 (pv 1))))
   (af (bU (bQ bT cG cH cq (pv 1) (pa1 (au gv (au bN (pv 2) (uc GT x (pa1 (pv 1)))) aa))))
   (aj (aU (aK (ai bB (ai aa (pa1 (pv 2))))))))) a8)
  (af (aY (aH bY (pv 0) bB (nomark _))
   (aj (bU (bQ bT cG cH cq (pv 1) (pa1 (sU (v:=.int 3) rfl T ⟨tl,rfl⟩)))))
   (aj (aY (aH bY (pv 0) bB (nomark _))
    (aj (bU (bQ bT cG cH cq (pv 1) (pa1 (au gv (uc GT x (pa1 (pv 1))) aa)))))
    (aj (aY (PW.pt (km (aH bY (pv 0) bB (nomark _)) (j6 (aH bY (pv 0) bB (nomark _)))))
     (aj (bU (bQ bT cG cH cq (pv 1) (pa1 (au bN (uc GT x (pa1 (pv 1))) aa)))))
     iy)))))
  (aj (aU (aK (pa1 (pv 0)))))),?_⟩
 have ad:=line5000;have hlen:=oO st;have fin:∀{B:List Nat}{a:Lt}{H1:Hp},(∀t H',H t=none->But p H H'->H' p=some (.lst (stV B))->H' t=some (.tup (ltV a))->Q (.ref t) H')->(∀b,b≠p->H1 b=H b)->H1 p=some (.lst (stV B))->fE H1 (.tup (ltV a)) Q:=λ{B a H1} q k y t H2 I s2 j=>by
  have X:t≠p:=λz=>by rw[z,y] at I;cases I
  show q t H2 ((k t X).symm.trans I) (λb o n e=>s2 _ _ ((k b n).trans e)) (s2 _ _ y) j
 show⟨_,rfl,rfl,_,rfl,?_⟩;rw[show (Str.ofString "S")=txt [83] from s83,dW];have es:(Str.ofString "E")=txt [69]:=sE;have cs:(Str.ofString "C")=txt [67]:=sC;have ls:(Str.ofString "L")=txt [76]:=sL;have rs:(Str.ofString "R")=txt [82]:=sR;cases hf with
 |s k m r Y=>
  show aA ⟨_,rfl,p,k,m::r,rfl,i,λH1 l d=>?_⟩;have M:=oO r;show⟨_,rfl,.inl ⟨rfl,_,SqL.of d⟩,_,rfl,_,rfl,p,m,r,rfl,d,λH2 u j=>⟨_,_,rfl,rfl,_,_,rfl,rfl,p,_,_,rfl,rfl,j,by simp only[aS] at D;lia,λH3 Z y3=>?_⟩⟩;show⟨_,rfl,lit3,fin q (λb n=>(Z b n).trans ((u b n).trans (l b n))) (y3.trans ?_)⟩;rw[gY,show ((k+m-1:Nat):Int)=(k:Int)+(m:Int)-1 by lia]
 |e=>
  show ak ⟨_,rfl,rfl,_,rfl,?_⟩;rw[es,dW];show aA ⟨_,rfl,.inl ⟨rfl,_,SqL.of i⟩,p,_,_,rfl,rfl,i,(),λH1 l d=>?_⟩;show⟨_,rfl,lit1,fin q l (d.trans (by rw[gY];rfl))⟩
 |c k r Y=>
  show ak ⟨_,rfl,rfl,_,rfl,?_⟩;rw[es,dW];show ak ⟨_,rfl,rfl,_,rfl,?_⟩;rw[cs,dW];have M:=oO r;show aA ⟨_,rfl,.inl ⟨rfl,_,SqL.of i⟩,_,rfl,p,k,r,rfl,i,λH1 l d=>⟨_,_,rfl,rfl,p,_,_,rfl,rfl,d,by simp only[aS] at D;lia,λH2 u j=>?_⟩⟩;show⟨_,rfl,lit1,fin q (λb n=>(u b n).trans (l b n)) (j.trans ?_)⟩;rw[gY,show ((k-1:Nat):Int)=(k:Int)-1 by lia]
 |g _ k r hc=>
  have M:=oO r;have n1:¬c=83:=();have n2:¬c=69:=();have n3:¬c=67:=();rw[Nu n1];show ak ⟨_,rfl,rfl,_,rfl,?_⟩;rw[es,dW,Nu n2];show ak ⟨_,rfl,rfl,_,rfl,?_⟩;rw[cs,dW,Nu n3];show ak ⟨_,rfl,rfl,_,rfl,?_⟩;rw[ls,rs,dW];rcases hc with rfl|rfl
  .refine ak ⟨_,rfl,rfl,_,rfl,?_⟩;rw[dW];show aA ⟨_,rfl,.inl ⟨rfl,_,SqL.of i⟩,_,rfl,p,k,r,rfl,i,λH1 l d=>⟨_,_,rfl,rfl,p,_,_,rfl,rfl,d,by simp only[aS] at D;lia,λH2 u j=>?_⟩⟩;show⟨_,rfl,lit1,fin q (λb n=>(u b n).trans (l b n)) (j.trans (by rw[gY];rfl))⟩
  show aA (aA ⟨_,rfl,.inl ⟨rfl,_,SqL.of i⟩,_,rfl,p,k,r,rfl,i,λH1 l d=>⟨_,_,rfl,rfl,p,_,_,rfl,rfl,d,by simp only[aS] at D;lia,λH2 u j=>?_⟩⟩);show⟨_,rfl,lit1,fin q (λb n=>(u b n).trans (l b n)) (j.trans (by rw[gY];rfl))⟩
end
theorem B9{α β:Type}{F:α->β->Prop}{a:List α}{b:List β}(h:Paired F a b):Paired F a.reverse b.reverse:=by
 induction h with
 |nil=>show .nil
 |cons h _ c=>
  rw[fH,fH];show cZ c (.cons h .nil)
theorem Jk(k:Nat)(r:List Nat):atI (stV (k::r)) (-1)=some (V.int (k:Int)):=gB (by rw[gY];simp)
def CC(vs:List V)(H:Hp)(Q:VK)(l:List Nat)(w:List Lt):Prop:=vs=[.str (txt l)]/\asc l/\l.length<=4000/\plc l=some w/\∀p xs H',H p=none->Same H H'->H' p=some (.lst xs)->bE H' xs w->Q (.ref p) H'
def w8:Sp:=λvs H Q _=>Exists (Ex2 (CC vs H Q))
structure IPl(l:List Nat)(p1 p2:Addr)(H:Hp)(i:Nat)(v3 v4:Option V)(Z:St)(H':Hp)(st:List Nat)(ls:List Lt)(xs:List V):Prop where
 e:Z=[some (.str (txt l)),some (.ref p1),some (.ref p2),v3,v4]
 s:scF (decide (i=l.length)) (l.drop (l.length-i))=some (st,ls)
 h1:H' p1=some (.lst (stV st))
 h2:H' p2=some (.lst xs)
 x:bE H' xs ls.reverse
 k:∀b o,b≠p1->b≠p2->H b=some o->H' b=some o
section
theorem BL:W.kitOne K (.type "str") (.type "str")=some true:=by unfold W.kitOne;rw[Nq ⋯]
theorem lg:bH ["text","lengths","letters","ahead","sign"] ["text"] (a7 lC):=⟨rfl,rfl,rfl,⋯,rfl,⋯,⋯⟩
theorem CO{f fF:Addr}{fd a4:FuncData}(U:Fun K "placed" "placed" lC f fd)(T:cW mg)(GF:Use P w K mg base 2 "letter_found" ["sign","lengths"] xY fF a4)
  {tl tf:Tok} (mL:mg "LEAST_LOOP" = some (.int 3 tl)) (mO:mg "FIRST_LOOP" = some (.int 2 tf)) :
  FnOk P w K mg base CX0 3 f fd ["text"] w8:=by
 show U.ok lg (by rintro _ _ _ _ ⟨_,_,rfl,_⟩;rfl) λNz A outer s H vs Q E hr h=>?_
 obtain⟨l,w,rfl,ha,hl,a5,q⟩:=h;show⟨_,af (aY (tI (jj (dZ (Dl (c:="str")) (by rfl) T.isi Mv (ai (pv 0) (pa1 (FO (v:=.ty "str") rfl T.str Mx rfl))))))
   iy a8)
  (af (sx 1 lg.nd (bf de))
  (af (sx 2 lg.nd (bf de))
  (af (cY cF rfl (Il rfl T.rev (pa1 (BE rfl rfl T.list rfl T.enum (pv 0)))) (eN rfl (bL (gx 3 lg.nd) (bL (gx 4 lg.nd) dD)))
   (af (bU (bQ bT cG cH cq (pv 2) (pa1 (uc GF hr (ai (pv 4) (pa1 (pv 1)))))))
   (aj (aY (PW.pt (dR (aH bY (pv 4) bB (nomark _)) (dR (aH ko (pv 3) aa (nomark _)) (eK (aH fD (ixx aJ (pv 1) (dg da aa)) (sU (v:=.int 3) rfl mL ⟨tl,rfl⟩) (nomark _))))))
    iy a8))))
  (af (aY (aH (iG hr.units) (pv 1) (bf (pa1 (sU (v:=.int 2) rfl mO ⟨tf,rfl⟩))) (nomark _)) iy a8)
  (aj (aU (FN (pv 2) (dg da aa)))))))),?_⟩
 have bt:=line5000;obtain⟨hF,hj⟩:=J6 a5;show⟨_,rfl,_,_,true,rfl,.str _,BL,_,rfl,?_⟩;dsimp only [pG,Ay];show ak ⟨aQ _,λp1 H1 g1 s1 y1=>⟨aQ _,λp2 H2 g2 s2 S=>?_⟩⟩;have am:p1≠p2:=ar y1 g2;have X:=s2 _ _ y1;have sA:=s1.trans s2;have n2:H p2=none:=s1.free g2;show⟨_,rfl,l,rfl,ha,(),λp ps Hb D sB an hlen a6=>?_⟩;have ba:p≠p1:=λz=>by rw[z,X] at D;cases D
 have bb:p≠p2:=λz=>by rw[z,S] at D;cases D
 have ap:(ps.map V.ref).length=l.length:=by rw[aE,hlen]
 show⟨p,_,rfl,SqL.of an,Gh (K:=[]) (a:=p) (xs:=ps.map V.ref) (λi Z H'=>∃u B st ls xs,IPl l p1 p2 Hb i u B Z H' st ls xs) ⟨none,none,[],[],[],rfl,?_,sB _ _ X,sB _ _ S,.nil,λ_ _ _ _ z=>z⟩ (by rintro i Z H' _ ⟨_,_,_,_,_,I⟩;show SqL.of (I.k p _ ba bb an)) ?_ ?_⟩
 .rw[uT,qj];rfl
 .rintro i x Z H' hi Y ⟨u,B,st,ls,xs,⟨rfl,d,h1,h2,L,M⟩⟩;rw[ap] at hi Y;have ad:l.length-1-i<l.length:=();obtain⟨t,ht,m⟩:=a6 _ _ (aP ad);rw[cB,ht] at Y;cases Y;have bc:t≠p1:=λz=>by rw[z,sB _ _ X] at m;cases m
  have bd:t≠p2:=λz=>by rw[z,sB _ _ S] at m;cases m
  have ah:=M t _ bc bd m;generalize ej:l.length-1-i=j at ad ht m ah;have ed:l.drop j=l[j]::l.drop (j+1):=eS ad;generalize ec:l[j]=c at ed m ah;rw[Nu (by lia:¬i=l.length),v_,show l.length-i=j+1 by lia] at d;obtain⟨⟨N,be⟩,n⟩:∃y,scF (decide (j=0)) (l.drop j)=some y:=by
   by_cases z:j=0
   .subst z;show⟨_,hF⟩
   rw[Nu z,v_];show hj j ()
  have bi:stp (decide (j=0)) c st ls=some (N,be):=by rw[ed] at n;have n:(sc (l.drop (j+1))).bind _=_:=n;rw[d] at n;show n
  obtain⟨a,rfl,hf,bl⟩:=IY bi (zB d);have a0:=zw d;rw[bG] at a0;dsimp only at a0;have lx:=aT L;rw[AO] at lx;show⟨t,_,rfl,.inl (.inl ah),rfl,_,_,rfl,_,_,rfl,rfl,?_⟩;show⟨_,rfl,.inl ⟨rfl,_,SqL.of h2⟩,_,rfl,_,rfl,c,p1,st,N,a,rfl,h1,(),hf,λt2 H2 bw sb bm a1=>?_⟩;have al:=sb p2 _ (aG am) h2;show⟨p2,_,_,rfl,rfl,al,(),λH3 O y3=>?_⟩;have u1:=(O p1 am).trans bm;have nx:∃u B st ls xs,IPl l p1 p2 Hb (i+1) u B [some (.str (txt l)),some (.ref p1),some (.ref p2),some (.int (j:Int)),some (.str (txt [c]))] H3 st ls xs:=by
   show⟨_,_,N,a::ls,_,rfl,?_,u1,y3,?_,λb o a2 a3 e=>(O b a3).trans (sb b o a2 (M b o a2 a3 e))⟩
   .rw[show l.length-(i+1)=j by lia,show decide (i+1=l.length)=decide (j=0) by rw[cR,decide_eq_true_eq,decide_eq_true_eq];lia];show n
   rw[fH];show bE.snoc (bE.move (λt' ys e=>?_) L) ⟨t2,rfl,(O _ (bD a1 al (by intro z;cases z))).trans a1⟩;have e3:=sb t' _ (bD e h1 (by intro z;cases z)) e;show (O _ (bD e3 al (by intro z;cases z))).trans e3
  show⟨_,rfl,rfl,_,rfl,?_⟩;rw[show (Str.ofString "C")=txt [67] from sC,dW];by_cases hc:c=67
  .rw[Nt hc];show aA ⟨_,rfl,_,_,rfl,rfl,_,rfl,?_⟩;by_cases bn:j=0
   .rw[Nu (by lia:¬((j:Int)>0))];show ak (ak nx)
   rw[Nt (by lia:((j:Int)>0))];subst hc;obtain⟨k,r,rfl⟩:∃k r,N=k::r:=by cases hf with
    |c k r _=>show⟨_,_,rfl⟩
    |g _ _ _ h=>lia
   have bA:=bl rfl (Nu bn) k r rfl;show aA ⟨_,rfl,_,rfl,p1,_,_,_,rfl,rfl,SqL.of u1,Jk k r,_,_,rfl,rfl,_,rfl,?_⟩;rw[Nu (by lia:¬(k:Int)<3)];show ak nx
  rw[Nu hc];show ak (ak nx)
 rintro Z H' ⟨u,B,st,ls,xs,⟨rfl,d,h1,h2,L,M⟩⟩;rw[ap,Nt rfl,nX,kH,hF] at d;cases d;show⟨_,rfl,lit1,λp6 H6 g6 R y6=>?_⟩;show⟨.list [.int 2],.list [.int 2],.lst (SqL.of (R p1 _ h1)) (.cons (.int 2) .nil),.lst (SqL.of y6) (.cons (.int 2) .nil),⋯,_,rfl,?_⟩;show ak ⟨_,rfl,_,rfl,rfl,p2,xs,rfl,SqL.of (R p2 _ h2),λp7 g7=>?_⟩;walk_at"H6 p7 g7 H7 s7 y7";have sF:Same H H6:=λb o eb=>R _ _ (M b o (ar eb g1) (ar eb n2) (sB _ _ (sA _ _ eb)));show q p7 _ H7 (sF.free g7) (sF.trans s7) y7 ?_;have:=B9 ((L.same R).same s7)
 rwa [qy] at this
def DN(vs:List V)(H:Hp)(Q:VK)(W:Addr)(a:List V)(w:List Lt):Prop:=vs=[.ref W]/\H W=some (.lst a)/\bE H a w/\w.length<=4000/\∀H',Same H H'->Q (.str (txt (w.map sgn))) H'
def sr:Sp:=λvs H Q _=>Exists (Ex3 (DN vs H Q))
theorem tZ(a:Lt):atI (ltV a) 0=some (.str (txt [sgn a])):=by cases a<;>rfl
theorem Fu:bH ["word"] ["word"] (a7 mz):=⟨rfl,rfl,rfl,⋯,rfl,⋯,⋯⟩
theorem El{f:Addr}(U:Fun K "plain" "plain" mz f fd):FnOk P w K mg base CX0 1 f fd ["word"] sr:=by
 show U.ok Fu (by rintro _ _ _ _ ⟨_,_,_,rfl,_⟩;rfl) λz A outer s H vs Q E B h=>?_
 obtain⟨W,n,w,rfl,g,hw,p,q⟩:=h;show⟨_,aj (aU (bQ LJ LO LQ xr bB (pa1 (dP (N:=["letter"]) (fr:=[none]) (jA ⋯ rfl ⋯ ⋯) rfl (cL (pv 0))
    (λC s' H' fp Nw=>⟨gx 0 (⋯:(["letter"]:List Str).Nodup),ft,m9 bV (pv 0) aa (λ_ _=>rfl)⟩))))),?_⟩
 have I:=line5000;have hlen:=aT hw;show⟨rfl,_,rfl,W,rfl,⟨_,SqL.of g⟩,λD j=>dB (K:=[]) (a:=W) (xs:=n) (λi Z ys H'=>∃o,Z=[o]/\ys=((w.take i).map λa=>[sgn a]).map (λl=>V.str (txt l))/\Same H H'/\H' D=some (.lst ys))
  ⟨none,rfl,rfl,cK j,bO⟩ (by rintro i Z ys H' _ ⟨_,_,_,e,_⟩;show SqL.of (e _ _ g)) ?_ ?_⟩
 .rintro i x Z ys H' r ⟨o,rfl,rfl,sm,d⟩;obtain⟨a,ha,b,rfl,u⟩:=c_ hw r;show⟨_,rfl,b,_,0,_,rfl,rfl,SqT.of (sm _ _ u),tZ a,d,?_,λL kn v=>⟨_,rfl,?_,λc o e=>(kn c (ar e j)).trans (sm _ _ e),v⟩⟩
  .rw[aE,aE,bu];lia
  rw[cS,ha,aX,aX];rfl
 rintro Z ys H' ⟨o,rfl,rfl,sm,d⟩;rw[hlen,eV] at d;have m:(w.map λa=>[sgn a]).flatten=w.map sgn:=by
  clear hw p hlen d q;induction w with
  |nil=>rfl
  |cons a w y=>rw[az,kI,y];rfl
 show⟨D,w.map λa=>[sgn a],by rw[zC],rfl,SqL.of d,?_,?_⟩
 .rw[m,aE];lia
 rw[m];show q _ sm
end
end K71
end
section
namespace K71
open PySem L2 K51 K31 K15
theorem Ck{lo:Int}{n:Nat}{g:TG}{tb:L2.TS}{D:Ends}(Pv:Nat->St->Hp->Prop)(R:St->Hp->Prop)(c:Pv 0 Z H)
  (d:∀a:St->Hp->Prop,(∀Z H,R Z H->a Z H)->∀i Z H,i<n->Pv i Z H->g (.int (lo+i)) Z H λσ2 H2=>tb {D with nx:=Pv (i+1),ct:=Pv (i+1),bk:=a} σ2 H2) (hd:∀Z H,Pv n Z H->R Z H) (out:∀Z H,R Z H->D.nx Z H) :
  ∃W:Nat->Nat->St->Hp->Prop,(∃m,W 0 m Z H)/\∀i m Z H,W i m Z H->
   ((Itr lo n).stop i H/\D.nx Z H)\/((Itr lo n).go i H/\∃N:St->Hp->Prop,(∀Z' H',N Z' H'->∃b,b<m/\W (i+1) b Z' H')/\∀x H',(Itr lo n).yld i H x H'->g x Z H' λσ2 H2=>tb {D with nx:=N,ct:=N,bk:=D.nx} σ2 H2):=
 jI Pv c (d D.nx out) λZ H p=>out Z H (hd Z H p)
theorem OAt.but{p O L T:Addr}{a d:List V}{f:Fr}(h:OAt H O L T a d f)(g:H p=some (.lst xs))(s:But p H H')(i:p≠O)(j:p≠L)(m:p≠T)(n:V.ref p∉a):OAt H' O L T a d f:=
 ⟨s _ _ (aG i) h.o,s _ _ (aG j) h.l,cu.move (φ:=nat) h.p λb o c e=>s b o (λz=>n (by rw[<-z];show c)) e,s _ _ (aG m) h.t,aO.move h.q λb o c e=>by
  obtain⟨ys,r⟩:=sQ h.q c;show s b o (bD r g (by intro z;cases z)) e⟩
theorem Fz.ndt{f:Fr}(h:Fz f):(tl f.ts).Nodup:=by have:=h.fi.nd;unfold kn at this;show (bS.mp this).1
def L0(a:Lt):Prop:=Lets a/\jn a=0
structure ISel(H:Hp)(Z_:Addr)(i:Nat)(ys:List V)(lz:List Lt)(H':Hp):Prop where
 s:Same H H'
 z:H' Z_=some (.lst ys)
 l:bE H' ys lz
 c:∀a∈lz,L0 a
 n:ys.length<=i
theorem ISel.same{H H' H2:Hp}{Z_:Addr}{i:Nat}{ys:List V}{a:List Lt}(I:ISel H Z_ i ys a H')(s:Same H' H2):ISel H Z_ i ys a H2:=⟨I.s.trans s,s _ _ I.z,I.l.same s,I.c,I.n⟩
theorem ISel.skip{Z_:Addr}{i:Nat}{ys:List V}{a:List Lt}(I:ISel H Z_ i ys a H'):ISel H Z_ (i+1) ys a H':=⟨I.s,I.z,I.l,I.c,Nat.le_succ_of_le I.n⟩
theorem ISel.put{H H' a:Hp}{Z_ tb:Addr}{i:Nat}{ys:List V}{d:List Lt}{b:Lt}(I:ISel H Z_ i ys d H')(g:H Z_=none)(h:H tb=some (.tup (ltV b)))(j:L0 b)(k:∀c,c≠Z_->a c=H' c)(y:a Z_=some (.lst (ys++[.ref tb]))):ISel H Z_ (i+1) (ys++[.ref tb]) (d++[b]) a:=by
 have f:∀t xs,H' t=some (.tup xs)->a t=some (.tup xs):=λt xs e=>(k t (bD e I.z (by intro z;cases z))).trans e;show⟨λc o e=>(k c (ar e g)).trans (I.s _ _ e),y,oH (jG f I.l) (.cons ⟨tb,rfl,f _ _ (I.s _ _ h)⟩ .nil),λc m=>?_,?_⟩
 .rcases aw.mp m with z|z
  .exact I.c c z
  rw[aL.mp z];show j
 rw[ao,aV];have:=I.n;lia
theorem zD:Rn [[0,1]] [.sg 67,.sg 69]:=
 .cons (ah:=[]) (n:=2) (x:=2) ∅ (.inl rfl) rfl (.cons (ah:=[]) (loop:=[0,2,1]) (n:=0) (x:=1) ∅ (.inr (.inr (.inr rfl))) rfl .nil)
theorem Dj{f:Fr}(h:Fz f)(e:f.ts≠[]):∀a b c,En (f.ts++clos f.n f.ls) a b c->∃d,En (f.ts++clos f.n f.ls) b a d:=by
 have fi:=rh f.ls f.ts f.n h.fi (h.go e).1 λp q g=>by
  rcases aw.mp g with z|z
  .exact (h.ok.bigT _ z).1
  obtain⟨l,i,j⟩:=ia.mp z;show h.ok.big l i p (jB j).1
 show λa b c m=>fi.clo.cl m
structure IAp(H:Hp)(p O L TT:Addr)(m:Nat)(o4 o5 o6 o7:Option V)(vl vt:List V)(g:Fr)(pq':Int×Int)(Z:St)(H':Hp):Prop where
 e:Z=[some (.ref p),some (.int (m:Int)),some (.ref O),some (.int (g.ts.length:Int)),o4,o5,o6,o7]
 b:But p H H'
 h:H' p=some (.lst (bZ pq'))
 k:cA pq'
 y:OAt H' O L TT vl vt g
 x:FX g
def DU(vs:List V)(H:Hp)(Q:VK)(p:Addr)(b:Int×Int)(m:Nat):Prop:=vs=[.ref p,.int (m:Int)]/\H p=some (.lst (bZ b))/\cA b/\m<=24/\
 ∀r c w d H',But p H H'->H r=none->r≠p->H' p=some (.lst (bZ d))->cA d->H' r=some (.lst c)->bE H' c w->(∀a∈w,Lets a)->w.length<=240->Rn [[0,1]] w->jns w=0->Q (.ref r) H'
def x_:Sp:=λvs H Q _=>Exists (Ex3 (DU vs H Q))
section
theorem gk:bH ["_law_pot_here","_law_most","_law_front","_law_many","_law_k","_law_way","_law_some","_law_letter_here"] ["_law_pot_here","_law_most"] (a7 lZ):=⟨rfl,rfl,rfl,⋯,rfl,⋯,⋯⟩
theorem Eu{f f1 f2 f3 f4 f5 f6:Addr}{fd d1 d2 d3 d4 d5 d6:FuncData}(U:Fun K "_law_apart" "_law_apart" lZ f fd)(T:cW mg)(G:Use P w K mg base 2 "_law_can" ["_law_front","_law_letter_here"] pH f1 d1)
  (GD:Use P w K mg base 1 "_law_digit" ["_law_pot_here","_law_base"] jb f2 d2) (GP:Use P w K mg base 3 "_law_partings" ["_law_front"] vK f3 d3) (GU:Use P w K mg base 3 "_law_put" ["_law_front","_law_letter_here"] zt f4 d4)
  (GW:Use P w K mg base 5 "_law_wound" ["_law_triples","_law_side"] sf f5 d5) (GC:Use P w K mg base 1 "_law_closing" ["_law_front"] vZ f6 d6) :
  FnOk P w K mg base CX0 6 f fd ["_law_pot_here","_law_most"] x_:=by
 show U.ok gk (by rintro _ _ _ _ ⟨_,_,_,rfl,_⟩;rfl) λNz A outer s H vs Q E hr h=>?_
 obtain⟨p,pq,m,rfl,hp,cc,hm,q⟩:=h;have bb:=hr.mono (show 1<=5 by decide);have bc:=hr.mono (show 2<=5 by decide);have cd:=hr.mono (show 3<=5 by decide);show⟨_,(af (sx 2 gk.nd (bf (ai (bf (pa1 (bf (ai aa (pa1 aa))))) (ai (bf de) (pa1 aa)))))
  (af (sx 3 gk.nd aa)
  (af (cY cF rfl (i8 rfl T.range (pa1 (uc GD bb (ai (pv 0) (pa1 (au bN (pv 1) aa)))))) (gx 4 gk.nd)
   (af (sx 5 gk.nd (uc GD bb (ai (pv 0) (pa1 aa))))
  (af (l_ (i:=6) (N:=["_law_letter_here","_law_front"]) (fr:=[none,some 2]) (dY ⋯ rfl rfl ⋯ ⋯ (by walk_at"cs") (by walk_at"ct")) rfl (cL (bf (ai (aK (pa1 bB)) (ai (aK (pa1 bB)) (pa1 (aK (pa1 bB)))))))
    (λC' s' H' fp Nw=>⟨gx 0 (⋯:(["_law_letter_here","_law_front"]:List Str).Nodup),hJ (aH yF (uc G bc (ai (pv 1) (pa1 (pv 0)))) fS (nomark _)),pv 0⟩) gk.nd rfl (.inl rfl))
  (af (aY (aH bY (pv 5) aa (nomark _)) (aj (l_ (i:=6) (N:=["_law_letter_here"]) (fr:=[none]) (jA ⋯ rfl ⋯ ⋯) rfl (cL (uc GP cd (pa1 (pv 2))))
    (λC' s' H' fp Nw=>⟨gx 0 (⋯:(["_law_letter_here"]:List Str).Nodup),hJ (aH bY (ixx bV (pv 0) aa) aa (nomark _)),pv 0⟩) gk.nd rfl (.inl rfl))) a8)
  (af (sx 7 gk.nd (aK (pa1 bB)))
  (af (aY (PW.pt (dR (aH ko (pv 5) aa (nomark _)) (eK (aH (iG hr.units) (pv 6) (bf de) (nomark _))))) (aj (sx 7 gk.nd (ixx aJ (pv 6) (uc GD bb (ai (pv 0) (pa1 (pln T.len (pv 6)))))))) a8)
  (af (aY (aH tQ (uc GU cd (ai (pv 2) (pa1 (pv 7)))) fS (nomark _)) (aj D_) a8)
  (aj (sx 3 gk.nd (au bN (pv 3) aa))))))))))
  (af (aY (aH bY (pv 3) aa (nomark _)) (aj (aU (bf (ai (aK (pa1 bB)) (pa1 (aK (pa1 bB))))))) a8)
  (aj (aU (ixx bV (uc GW hr (ai (uc GC bb (pa1 (pv 2))) (pa1 (aK (ai aa (pa1 aa)))))) aa))))))),?_⟩
 have ef:=line5000;show⟨lit2,λB H1 hB s1 y1=>?_⟩;show⟨lit1,λL H2 hL s2 y2=>?_⟩;show⟨aQ _,λTT H3 hT s3 y3=>?_⟩;show⟨lit3,λO D hO s4 y4=>?_⟩;have bt:=s1.trans s2;have bw:=(bt.trans s3).trans s4;have nB:H B=none:=hB;have nL:H L=none:=s1.free hL;have nT:H TT=none:=bt.free hT;have nO:H O=none:=(bt.trans s3).free hO;have pB:=ar hp nB;have pL:=ar hp nL;have pT:=ar hp nT;have pO:=ar hp nO;have Y0:OAt D O L TT [.ref B] [] Fr.at0:=⟨y4,(s3.trans s4) _ _ y2,.cons ⟨B,rfl,((s2.trans s3).trans s4) _ _ y1⟩ .nil,s4 _ _ y3,.nil⟩;show⟨_,rfl,_,rfl,_,_,rfl,rfl,p,pq,(m:Int)+1,rfl,bw _ _ hp,cc,(),gg () (),λH6 k6 y6=>?_⟩;have hd:=fm (q:=pq) (b:=(m:Int)+1) ();have ce:=df (b:=(m:Int)+1) cc;obtain⟨d,ed⟩:=AB hd.1;rw[ed] at hd |-;generalize nxt pq ((m:Int)+1)=c5 at ce y6 |-;have b6:But p H H6:=λb o n e=>(k6 b n).trans (bw _ _ e);have Y6:OAt H6 O L TT [.ref B] [] Fr.at0:=Y0.but (bw _ _ hp) (λb o n e=>(k6 b n).trans e) pO pL pT ‹pB›;show⟨_,rfl,(),(),Ck (lo:=0) (n:=((d:Nat):Int).toNat) (λi Z H'=>∃o4 o5 o6 o7 u C g bA,IAp H p O L TT m o4 o5 o6 o7 u C g bA Z H'/\g.ts.length=i/\V.ref p∉u)
  (λZ H'=>∃o4 o5 o6 o7 u C g bA,IAp H p O L TT m o4 o5 o6 o7 u C g bA Z H'/\g.ts.length<=m)
  ⟨none,none,none,none,_,_,Fr.at0,c5,⟨rfl,b6,y6,ce,Y6,fx0⟩,rfl,‹pB›⟩ ?_ ?_ ?_⟩
 .rintro NX hOut i Z H7 hi ⟨o4,o5,o6,o7,u,C,g,ad,⟨rfl,b7,ap,a0,Y7,M⟩,eg,bF⟩;have ei:i<d:=();show⟨_,rfl,p,ad,6,rfl,ap,a0,⋯,gg ⋯ ⋯,λH8 k8 y8=>?_⟩;have bd:=df (b:=6) a0;generalize digO ad 6=wy;generalize nxt ad 6=be at bd y8 |-;have cf:But p H7 H8:=λb o n e=>(k8 b n).trans e;have Y:OAt H8 O L TT u C g:=Y7.but ap cf pO pL pT bF;have ok:=M.fz.ok;have ndt:=M.fz.ndt;have b0:g.ts.length<=300:=();show⟨lit1,λta Ha ga sa ya=>?_⟩;show⟨lit1,λtb Hb gb sb yb=>?_⟩;show⟨lit1,λtc Hc gc sc yc=>?_⟩;show⟨lit3,λcg Hd gl sd yd=>?_⟩;have ch:=((sa.trans sb).trans sc).trans sd;have c6:bE Hd [.ref ta,.ref tb,.ref tc] [.sg 69,.sg 82,.sg 76]:=.cons ⟨ta,rfl,((sb.trans sc).trans sd) _ _ (ya.trans ltE)⟩ (.cons ⟨tb,rfl,(sc.trans sd) _ _ (yb.trans K51.ltR)⟩ (.cons ⟨tc,rfl,sd _ _ (yc.trans ltL)⟩ .nil));have c8:∀b∈([.sg 69,.sg 82,.sg 76]:List Lt),L0 b:=λb hb=>by
   simp only[ae,bq,or_false] at hb;rcases hb with rfl|rfl|rfl<;>simp[L0,K31.Lets,jn]
  show⟨cg,rfl,⟨_,SqL.of yd⟩,λZ_ hZ=>dB (K:=[]) (a:=cg) (xs:=[V.ref ta,V.ref tb,V.ref tc]) (λi Z ys H'=>∃o lz,Z=[o,some (.ref O)]/\ISel Hd Z_ i ys lz H') ⟨none,[],rfl,cK hZ,bO,.nil,∅,ax _⟩ (by rintro i Z ys H' _ ⟨_,_,_,I⟩;show SqL.of (I.s _ _ yd)) ?_ ?_⟩
  .rintro i y Z ys H' hi ⟨o,lz,rfl,I⟩;obtain⟨b,a1,tb,rfl,ah⟩:=kX c6 hi;have ej:i<3:=(aI.mp hi).1;have ci:=c8 b (a_ a1);show⟨_,rfl,_,rfl,O,tb,L,TT,u,C,g,b,rfl,(Y.same ch).same I.s,ok,ndt,b0,I.s _ _ ah,ci.1,λH2 s2=>⟨rfl,_,rfl,?_⟩⟩;have I2:=I.same s2;cases g.can b with
   |none=>show ak ⟨_,lz,rfl,I2.skip⟩
   |some x=>show aA ⟨_,rfl,I2.z,by have:=I.n;lia,λH3 k3 y3=>⟨_,lz++[b],rfl,I2.put hZ ah ci k3 y3⟩⟩
  rintro Z ys H' ⟨o,lz,rfl,I⟩;have q1:=ch.trans I.s;have Y1:=Y.same q1;have ek:ys.length<=3:=I.n;dsimp only [uf,mW,c7];show jd (λZ H2=>∃r xs al,Z=[some (.ref p),some (.int (m:Int)),some (.ref O),some (.int (g.ts.length:Int)),some (.int (0+(i:Int))),some (.int wy),some (.ref r),o7]/\Same H8 H2/\H2 r=some (.lst xs)/\bE H2 xs al/\(∀a∈al,L0 a)/\xs.length<=400) (λcj a2=>?_) ?_
  .refine⟨_,rfl,rfl,_,rfl,?_⟩;cases decide (V.int wy=V.int 5) with
   |false=>show ak (a2 _ _ ⟨Z_,ys,lz,rfl,q1,I.z,I.l,I.c,()⟩)
   |true=>
    show aA ⟨_,rfl,O,L,TT,u,C,g,rfl,Y1,ok,ndt,b0,λr xs al H2 s2 cl am bi db=>?_⟩;show⟨r,rfl,⟨_,SqL.of cl⟩,λZ2 cm=>dB (K:=[]) (a:=r) (xs:=xs) (λi Z ys H'=>∃o lz,Z=[o]/\ISel H2 Z2 i ys lz H') ⟨none,[],rfl,cK cm,bO,.nil,∅,ax _⟩ (by rintro i Z ys H' _ ⟨_,_,_,I⟩;show SqL.of (I.s _ _ cl)) ?_ ?_⟩
    .rintro i' y Z cn H3 co ⟨o,bl,rfl,X⟩;obtain⟨b,a1,dc,rfl,ah⟩:=kX am co;have el:=(aI.mp co).1;have dd:=bi b (a_ a1);cases b with
     |sg c=>show dd.elim
     |sp j k=>
      show⟨_,rfl,dc,_,1,V.int (j:Int),rfl,rfl,SqT.of (X.s _ _ ah),rfl,rfl,_,rfl,?_⟩;by_cases hj:j=0
      .rw[show decide (V.int (j:Int)=V.int 0)=true by rw[hj];rfl];show aA ⟨_,rfl,X.z,by have:=X.n;lia,λD k4 y4=>⟨_,bl++[.sp j k],rfl,X.put cm ah (show L0 (.sp j k) from ⟨trivial,by simp[jn,hj]⟩) k4 y4⟩⟩
      rw[Nu (λz=>hj (by injection z with z;lia))];show ak ⟨_,bl,rfl,X.skip⟩
    rintro Z cn H3 ⟨o,bl,rfl,X⟩;show a2 _ _ ⟨Z2,cn,bl,rfl,(q1.trans s2).trans X.s,X.z,X.l,X.c,by have:=X.n;lia⟩
  rintro Z H2 ⟨r,xs,al,rfl,q2,bc,am,bi,db⟩;show⟨lit1,λtt H3 gt a3 dj=>?_⟩;have q3:=q2.trans a3;have dk:=aT am;dsimp only [uf,mW,c7];show jd (λZ D=>∃t a an,Z=[some (.ref p),some (.int (m:Int)),some (.ref O),some (.int (g.ts.length:Int)),some (.int (0+(i:Int))),some (.int wy),some (.ref r),some (.ref t)]/\But p H8 D/\D p=some (.lst (bZ an))/\cA an/\D t=some (.tup (ltV a))/\L0 a) (λcj a2=>?_) ?_
  .have stay:∀D,Same H3 D->cj [some (.ref p),some (.int (m:Int)),some (.ref O),some (.int (g.ts.length:Int)),some (.int (0+(i:Int))),some (.int wy),some (.ref r),some (.ref tt)] D:=λD b1=>a2 _ _ ⟨tt,.sg 67,be,rfl,λb o n e=>b1 _ _ (q3 _ _ e),b1 _ _ (q3 _ _ y8),bd,b1 _ _ (dj.trans ltC),.inl rfl,rfl⟩;show⟨_,rfl,_,_,rfl,rfl,_,rfl,?_⟩;cases decide ((1:Int)<wy) with
   |false=>show ak (ak (stay H3 Fv))
   |true=>
    show aA ⟨_,rfl,aQ _,λp5 H9 h5 v y9=>?_⟩;show⟨_,_,.lst (SqL.of (v _ _ (a3 _ _ bc))) (rO (λa ha=>oU (bi a ha).1) ((am.same a3).same v)),.lst (SqL.of y9) .nil,?_,_,rfl,?_⟩
    .have:=qT al;simp only[PyData.depth];lia
    rw[Nq rfl,lK];cases al with
    |nil=>show ak (stay H9 v)
    |cons c al=>
     have em:0<xs.length:=by rw[dk];simp
     have b2:=v _ _ (q3 _ _ y8);have b4:=v _ _ (a3 _ _ bc);show aA ⟨_,rfl,_,rfl,_,rfl,r,_,rfl,.inl (SqL.of b4),p,be,_,rfl,b2,bd,(),gg () (),λbm b5 bn=>?_⟩;have cr:=fm (q:=be) (b:=(xs.length:Int)) ();have a4:=df (b:=(xs.length:Int)) bd;obtain⟨d',dl⟩:=AB cr.1;rw[dl] at cr |-;generalize nxt be (xs.length:Int)=an at a4 bn |-;have dm:r≠p:=λz=>by
      have e1:=b4;rw[z,b2] at e1;injection e1 with e1;injection e1 with e1;rw[<-e1] at am;cases am with
      |cons h _=>obtain⟨t,e,_⟩:=h;cases e
     have dp:d'<xs.length:=();have b8:xs[d']?=some xs[d']:=aP dp;obtain⟨b,a1,b9,dw,ah⟩:=kX am b8;rw[dw] at b8;have cv:=v _ _ (a3 _ _ ah);show⟨r,_,(d':Int),V.ref b9,rfl,rfl,SqL.of ((b5 r dm).trans b4),cM b8,a2 _ _ ⟨b9,b,an,rfl,λc o n e=>(b5 c n).trans (v _ _ (q3 _ _ e)),bn,a4,(b5 b9 (bD cv b2 (by intro z;cases z))).trans cv,bi b (a_ a1)⟩⟩
  rintro Z D ⟨t,a,an,rfl,cx,ca,a4,dx,ha⟩;have Y4:OAt D O L TT u C g:=Y.but y8 cx pO pL pT bF;have cz:But p H D:=λb o n e=>cx b o n (cf b o n (b7 b o n e));show⟨_,rfl,_,rfl,O,t,L,TT,u,C,g,a,rfl,Y4,ok,ndt,b0,dx,ha.1,λhc dy cb=>?_,λx hx t' dy dF dK b3 Y5 nv nt=>?_⟩
  .refine⟨rfl,_,rfl,?_⟩;show aA (hOut _ _ ⟨_,_,_,_,u,C,g,an,⟨rfl,λb o n e=>cb _ _ (cz b o n e),cb _ _ ca,a4,Y4.same cb,M⟩,()⟩)
  show⟨rfl,_,rfl,?_⟩;have dL:=(M.fz.put ha.1 hx).2;show ak ⟨_,rfl,_,_,rfl,rfl,some (.int (0+(i:Int))),some (.int wy),some (.ref r),some (.ref t),dF,dK,g.put a x,an,⟨?_,λb o n e=>b3 b o (ar e nO) (ar e nL) (ar e nT) (cz b o n e),b3 _ _ pO pL pT ca,a4,Y5,M.put ha.1 ha.2 hx⟩,(),?_⟩
  .rw[dL];rfl
  intro z;rcases nv _ z with z|z
  .exact bF z
  rw[ca] at z;cases z
 .rintro Z H7 ⟨o4,o5,o6,o7,u,C,g,ad,h,eg,_⟩;show⟨o4,o5,o6,o7,u,C,g,ad,h,()⟩
 rintro Z H7 ⟨o4,o5,o6,o7,u,C,g,ad,⟨rfl,b7,ap,a0,Y7,M⟩,eg⟩;have fr:∀{c:Addr}{Hx:Hp},Same H7 Hx->Hx c=none->H c=none/\c≠p:=λ{c Hx} sx hc=>by
  have c1:c≠p:=λz=>by rw[z,sx _ _ ap] at hc;cases hc
  show⟨?_,c1⟩;cases e:H c with
  |none=>rfl
  |some o=>rw[sx _ _ (b7 c o c1 e)] at hc;cases hc
 show⟨_,rfl,rfl,_,rfl,?_⟩;by_cases a5:g.ts=[]
 .rw[show decide (V.int (g.ts.length:Int)=V.int 0)=true by rw[a5];rfl];show aA ⟨lit1,λt1 H8 h1 s8 y8=>?_⟩;show⟨lit1,λt2 H9 h2 v y9=>?_⟩;show⟨lit2,λz bm hz a6 bn=>?_⟩;have ba:=(s8.trans v).trans a6;obtain⟨n1,n2⟩:=fr (s8.trans v) hz;show q z _ [.sg 67,.sg 69] ad bm (b7.same ba) n1 n2 (ba _ _ ap) a0 bn (.cons ⟨t1,rfl,(v.trans a6) _ _ (y8.trans ltC)⟩ (.cons ⟨t2,rfl,a6 _ _ (y9.trans ltE)⟩ .nil)) (λa ha=>by
   simp only[ae,bq,or_false] at ha;rcases ha with rfl|rfl
   .exact .inl rfl
   show .inr (.inr (.inr rfl))) ∅ zD rfl
 rw[Nu (λz=>a5 (by injection z with z;show KZ ()))];show ak ?_;obtain⟨⟨hg,dT⟩,c0,dV⟩:=wG M.fz a5;obtain⟨N,hN⟩:=bounded (g.ts++clos g.n g.ls);have en:=M.fz.ok.tot;have c2:=Dj M.fz a5;show⟨_,rfl,O,L,TT,u,C,g,rfl,Y7,M.fz.ok,(),λR vr H8 hR s8 y8 tr=>?_⟩;show⟨lit2,λS H9 hS v y9=>?_⟩;have c3:=s8.trans v;show⟨R,S,vr,_,0,1,c0,N,rfl,v _ _ y8,tr.same v,?_,.inr c2,hg,dT,hN,y9,dV,λr' W vw lw o1 o2 bm eo hW a6 d0 yW d7 d8 d9 ec=>?_⟩
 .rw[ao,rQ];lia
 have ba:=c3.trans a6;obtain⟨n1,n2⟩:=fr c3 hW;obtain⟨rl,ds,come,ee,wx⟩:=ec;have wx:WX (g.ts++clos g.n g.ls) 0 1 ds [] come lw:=by rw[wb ee c2] at wx;simpa [caps] using wx
 have c4:=wx.run [] .nil;rw[dh] at c4;show⟨r',_,0,.ref W,rfl,rfl,SqT.of d0,rfl,q W vw lw ad bm (b7.same ba) n1 n2 (ba _ _ ap) a0 yW d7 d8 d9 c4 (Di M a5 wx)⟩
end
end K71
end
section
namespace K15
def nam(f:Nat->Nat)(t:Tri):Tri:=(f t.1,f t.2.1,f t.2.2)
def naE(f:Nat->Nat)(e:Ent):Ent:=((f e.1.1,f e.1.2),f e.2)
theorem xD{f:Nat->Nat}{ts:List Tri}:ents (ts.map (nam f))=(ents ts).map (naE f):=by
 induction ts with
 |nil=>rfl
 |cons t ts a=>
  have h1:ents ((t::ts).map (nam f))=ents [nam f t]++ents (ts.map (nam f)):=by simp[ents]
  have h2:ents (t::ts)=ents [t]++ents ts:=by simp[ents]
  rw[h1,h2,aX,a];rfl
theorem EI{f:Nat->Nat}{ts:List Tri}(g:Good ts)(inj:∀a b,Co ts a->Co ts b->f a=f b->a=b):Good (ts.map (nam f)):=by
 have k:=g.sk;show⟨λt o=>?_,?_⟩
 .obtain⟨⟨a,b,c⟩,h,rfl⟩:=aq.mp o;have ca:Co ts a:=d_.mpr ⟨_,h,.inl rfl⟩;have l:Co ts b:=d_.mpr ⟨_,h,.inr (.inl rfl)⟩;have m:Co ts c:=d_.mpr ⟨_,h,.inr (.inr rfl)⟩;obtain⟨p,q,r⟩:a≠b/\b≠c/\c≠a:=g.ne _ h;show⟨λz=>p (inj _ _ ca l z),λz=>q (inj _ _ l m z),λz=>r (inj _ _ m ca z)⟩
 rw[xD,cU];have nd:=g.nd;rw[List.Nodup,ff] at nd |-;show nd.imp_of_mem λ{x y} s u h z=>h ?_;obtain⟨⟨a,b⟩,c⟩:=x;obtain⟨⟨d,i⟩,j⟩:=y;have z:=dz z;have e:En ts a b c:=s;have n:En ts d i j:=u;have v:f a=f d:=z.1;have w:f b=f i:=z.2;change (a,b)=(d,i);rw[inj a d ⟨b,c,e⟩ ⟨i,j,n⟩ v,inj b i ⟨c,a,k.rot e⟩ ⟨j,d,k.rot n⟩ w]
end K15
end
section
namespace K15
open PySem L2 K51 K31
theorem vF{l:List Nat}(nd:l.Nodup){i a:Nat}(h:l[i]?=some a):a∉l.eraseIdx i/\(l.eraseIdx i).Nodup/\(∀x∈l.eraseIdx i,x∈l)/\(l.eraseIdx i).length=l.length-1:=by
 have hi:=(aI.mp h).1;show⟨λz=>?_,nd.sublist (ju l i),λx c=>(ju l i).subset c,uG hi⟩;obtain⟨j,b⟩:=nQ z;rw[List.getElem?_eraseIdx] at b
 split at b
 .have:=jF nd h b;lia
 have:=jF nd h b;lia
theorem pops3{n s0 s1 s2:Nat}(f:s0<n)(h1:s1<n-1)(h2:s2<n-2):∃a b c,(List.range n)[s0]?=some a/\((List.range n).eraseIdx s0)[s1]?=some b/\(((List.range n).eraseIdx s0).eraseIdx s1)[s2]?=some c/\a≠b/\b≠c/\c≠a:=by
 have d:s0<(List.range n).length:=by rw[iS];show f
 obtain⟨e,g,l,h⟩:=vF (uJ (n:=n)) (aP d);rw[iS] at h;have g1:s1<((List.range n).eraseIdx s0).length:=();obtain⟨i,m,j,o⟩:=vF g (aP g1);have g2:s2<(((List.range n).eraseIdx s0).eraseIdx s1).length:=();show⟨_,_,_,aP d,aP g1,aP g2,λz=>e ?_,λz=>i ?_,λz=>e ?_⟩
 .rw[z];show ir g1
 .rw[z];show ir g2
 rw[<-z];show j _ (ir g2)
theorem EM(l:List Nat)(k:Nat):(nV l).eraseIdx k=nV (l.eraseIdx k):=by
 induction l generalizing k with
 |nil=>rfl
 |cons a l b=>
  cases k with
  |zero=>rfl
  |succ k=>
   change _::(nV l).eraseIdx k=_;rw[b];rfl
theorem yg{n k:Nat}(h:k<n):seqIndex? (k:Int) n=some k:=by show (oW ?_).1;unfold ixN;rw[Nq (),Nq ()];simp
theorem GV{n:Nat}(h:3<=n):(n:Int)*((n:Int)-1)*((n:Int)-2)=((n*(n-1)*(n-2):Nat):Int):=by have a:(n:Int)-1=((n-1:Nat):Int):=();have b:(n:Int)-2=((n-2:Nat):Int):=();rw[a,b,KO,KO]
theorem E7{n:Nat}(h:3<=n):0<n*(n-1)*(n-2):=Lp (Lp () ()) ()
theorem GO{n:Nat}(h:n<=9):n*(n-1)*(n-2)<=504:=Lo (Lo h (show n-1<=8 by lia)) (show n-2<=7 by lia)
theorem wX{n m:Nat}(h:3<=n)(hm:m<n*(n-1)*(n-2)):m/n/(n-1)<n-2:=by rw[Nat.div_div_eq_div_mul];show Nat.div_lt_of_lt_mul hm
def DS(vs:List V)(H:Hp)(Q:VK)(p:Addr)(q:Int×Int)(m:Nat):Prop:=vs=[.ref p,.int (m:Int)]/\H p=some (.lst (bZ q))/\cA q/\m<=16/\
 ∀r a ts b H',H r=none->But p H H'->H' p=some (.lst (bZ b))->cA b->H' r=some (.lst a)->aO H' a ts->ts.length<=m->Good ts->Q (.ref r) H'
def xZ:Sp:=λvs H Q _=>Exists (Ex3 (DS vs H Q))
section
theorem je:bH ["_law_pot_here","_law_most","_law_n","_law_triples","_law_k","_law_number","_law_left","_law_triple"] ["_law_pot_here","_law_most"] (a7 mI):=⟨rfl,rfl,rfl,⋯,rfl,⋯,⋯⟩
theorem Es{f f1 f2 f3:Addr}{fd d1 d2 d3:FuncData}(U:Fun K "_law_drawn" "_law_drawn" mI f fd)(T:cW mg)
  (GD:Use P w K mg base 2 "_law_digit" ["_law_pot_here","_law_base"] jb f1 d1)
  (GT:Use P w K mg base 2 "_law_thirds" ["_law_triples"] spThirds f2 d2)
  (GF:Use P w K mg base 2 "_law_free" ["_law_thirds_here","_law_triple"] tq f3 d3) :
  FnOk P w K mg base CX0 3 f fd ["_law_pot_here","_law_most"] xZ:=by
 show U.ok je (by rintro _ _ _ _ ⟨_,_,_,rfl,_⟩;rfl) λNz A outer s H vs Q E v h=>?_
 obtain⟨p,q,m,rfl,hp,am,hm,Qq⟩:=h;have hu:=eu v;show⟨_,(af (sx 2 je.nd (au bN aa (uc GD v (ai (pv 0) (pa1 aa)))))
  (af (sx 3 je.nd (bf de))
  (af (cY cF rfl (i8 rfl T.range (pa1 (uc GD v (ai (pv 0) (pa1 (au bN (pv 1) aa)))))) (gx 4 je.nd) (af (sx 5 je.nd (uc GD v (ai (pv 0) (pa1 (au j7 (au j7 (pv 2) (au gv (pv 2) aa)) (au gv (pv 2) aa))))))
  (af (sx 6 je.nd (eJ (Bv rfl) (by rfl) T.list n8 (pa1 (eJ Bs (by rfl) T.range Mw (pa1 (pv 2))))))
  (af (sx 7 je.nd (eJ qN (by rfl) T.tuple A6 (pa1 (dP (N:=["_law_spot","_law_left"]) (fr:=[none,some 6]) (te:=tBM [] "list" zF (cD 1) (eO (cD 0) gI)) (dY ⋯ rfl rfl ⋯ ⋯ (by walk_at"cs") (by walk_at"ct")) rfl (cL (bf (ai (au dH (pv 5) (pv 2)) (ai (au dH (au jP (pv 5) (pv 2)) (au gv (pv 2) aa)) (pa1 (au jP (au jP (pv 5) (pv 2)) (au gv (pv 2) aa)))))))
    (λC' s' H' fp Nw=>⟨gx 0 (⋯:(["_law_spot","_law_left"]:List Str).Nodup),ft,bQ bT qE qF rJ (pv 1) (pa1 (pv 0))⟩)))))
  (aj (aY (jj (uc GF v (ai (uc GT v (pa1 (pv 3))) (pa1 (pv 7))))) (aj (bU (bQ bT cG cH cq (pv 3) (pa1 (pv 7))))) a8))))))
  (aj (aU (pv 3)))))),?_⟩
 have ce:=line5000;obtain⟨d1,d2⟩:=fm (q:=q) (b:=7) ⋯;show⟨_,rfl,p,q,7,rfl,hp,am,⋯,⋯,λH1 k1 y1=>⟨_,_,rfl,rfl,?_⟩⟩;obtain⟨n,en,S,bF⟩:∃n:Nat,3+digO q 7=(n:Int)/\3<=n/\n<=9:=⟨(3+digO q 7).toNat,(),(),()⟩;change c7 2 (V.int (3+digO q 7)) _ _ _;rw[en];show⟨aQ _,λg H2 a6 s2 y2=>?_⟩;have X:p≠g:=ar y1 a6;have ba:H g=none:=(k1 g (aG X)).symm.trans a6;obtain⟨d3,d4⟩:=fm (q:=nxt q 7) (b:=(m:Int)+1) ();show⟨_,rfl,_,rfl,_,_,rfl,rfl,p,nxt q 7,_,rfl,s2 _ _ y1,df am,(),lg20 (),λH3 z y3=>⟨_,rfl,(),(),?_⟩⟩;have hN:(digO (nxt q 7) ((m:Int)+1)).toNat<=m:=();generalize (digO (nxt q 7) ((m:Int)+1)).toNat=N at hN;show jI (lo:=0) (n:=N) (λi Z H'=>∃o4 o5 o6 o7 r j q',Z=[some (V.ref p),some (.int (m:Int)),some (.int (n:Int)),some (.ref g),o4,o5,o6,o7]/\But p H H'/\H' p=some (.lst (bZ q'))/\cA q'/\H' g=some (.lst r)/\aO H' r j/\j.length<=i/\Good j)
  ⟨none,none,none,none,[],[],_,rfl,λd o nb e=>(z d nb).trans (s2 _ _ ((k1 d nb).trans e)),y3,df (df am),(z g (aG X)).trans y2,.nil,ax _,⟨∅,by simp[ents]⟩⟩ ?_ ?_
 .rintro i Z H4 hi ⟨o4,o5,o6,o7,r,j,B,rfl,sm,Y,C,an,ad,b0,I⟩;have L:=GV S;have cf:=E7 S;have cg:=GO bF;show⟨_,rfl,_,rfl,_,rfl,_,_,rfl,rfl,_,_,rfl,rfl,.inl ⟨(),()⟩,_,rfl,_,_,rfl,rfl,_,_,rfl,rfl,.inr ⟨(),()⟩,p,B,_,rfl,Y,C,by rw[L];lia,gg (by rw[L];lia) (by rw[L];show AC (show ((n*(n-1)*(n-2):Nat):Int)<=504 by lia) ⋯),λH5 k5 y5=>?_⟩;obtain⟨d5,d6⟩:=fm (q:=B) (b:=(n:Int)*((n:Int)-1)*((n:Int)-2)) (by rw[L];lia);obtain⟨num,enum⟩:∃num:Nat,digO B ((n:Int)*((n:Int)-1)*((n:Int)-2))=(num:Int):=⟨_,(qd d5).symm⟩;rw[enum] at d6 |-;rw[L] at d6;have bb:num<n*(n-1)*(n-2):=();clear d6 d5;show⟨_,rfl,_,rfl,λra b1=>?_⟩;walk_at"H5 ra b1 M s6 y6";show⟨ra,n,rfl,y6,(),λu bc=>?_⟩;walk_at"M u bc H7 s7 y7";have y7:H7 u=some (.lst (nV (List.range n))):=y7;have bd:(n:Int).natAbs.log2<9000:=gg () (AC (show (n:Int)<=9 by lia) ⋯);have b2:((n:Int)-1).natAbs.log2<9000:=gg () (AC (show (n:Int)-1<=9 by lia) ⋯);show⟨_,rfl,_,rfl,_,_,rfl,rfl,(),_,rfl,_,rfl,_,_,rfl,rfl,⟨(),bd⟩,_,rfl,_,_,rfl,rfl,_,_,rfl,rfl,(),_,rfl,_,rfl,_,_,rfl,rfl,⟨(),bd⟩,_,rfl,_,_,rfl,rfl,_,_,rfl,rfl,⟨(),b2⟩,lit3,λdl H8 b3 s8 y8=>?_⟩;have ed:([V.int ((num:Int)%(n:Int)),V.int ((num:Int)/(n:Int)%((n:Int)-1)),V.int ((num:Int)/(n:Int)/((n:Int)-1))]:List V)=nV [num%n,num/n%(n-1),num/n/(n-1)]:=by
   have O:(n:Int)-1=((n-1:Nat):Int):=();rw[O];rfl
  rw[ed] at y8;obtain⟨a,b,c,ha,hb,hc,n1,n2,n3⟩:=pops3 (n:=n) (s0:=num%n) (s1:=num/n%(n-1)) (s2:=num/n/(n-1)) (iW _ ()) (iW _ ()) (wX S bb);have yL:=s8 _ _ y7;have b4:dl≠u:=aG (ar y7 b3);show⟨dl,rfl,⟨_,SqL.of y8⟩,λZ_ hZ=>?_⟩;have be:u≠Z_:=ar yL hZ;have b5:num%n<100:=cp (iW _ ()) ();have b6:num/n%(n-1)<100:=cp (iW _ ()) ();have b7:num/n/(n-1)<100:=cp (wX S bb) ();have bi:But p H M:=λd o nb e=>s6 _ _ ((k5 d nb).trans (sm _ _ nb e));have ap:M g=some (.lst r):=s6 _ _ ((k5 g (aG X)).trans an);have bl:=s6 _ _ y5;have a0:aO M r j:=Paired.imp' (λ_ _ ⟨d,O,R⟩=>⟨d,O,s6 _ _ ((k5 d (bD R Y ∅)).trans R)⟩) ad;generalize num%n=s0 at *;generalize num/n%(n-1)=s1 at *;generalize num/n/(n-1)=bm at *;show dB (K:=[]) (a:=dl) (xs:=nV [s0,s1,bm]) (λi Z ys H'=>∃o l,Z=[o,some (V.ref u)]/\(i=0/\l=List.range n/\ys=[]\/i=1/\l=(List.range n).eraseIdx s0/\ys=nV [a]\/i=2/\l=((List.range n).eraseIdx s0).eraseIdx s1/\ys=nV [a,b]\/i=3/\ys=nV [a,b,c])/\But u H8 H'/\H' u=some (.lst (nV l))/\H' Z_=some (.lst ys))
   ⟨none,_,rfl,.inl ⟨rfl,rfl,rfl⟩,But.refl.same (cK hZ),cK hZ _ _ yL,bO⟩ (by rintro i Z ys H' _ ⟨_,_,_,_,e,_⟩;show SqL.of (e _ _ b4 y8)) ?_ ?_
  .rintro i x Z ys H' hi ⟨o,l,rfl,ah,bt,a1,a2⟩;rw[nV,cB] at hi;obtain⟨s,hs,rfl⟩:=eG.mp hi;obtain⟨y,hy,ch,ci,b8⟩:∃y:Nat,l[s]?=some y/\s<100/\ys.length<=3/\(i+1=0/\l.eraseIdx s=List.range n/\ys++[V.int (y:Int)]=[]\/i+1=1/\l.eraseIdx s=(List.range n).eraseIdx s0/\ys++[V.int (y:Int)]=nV [a]\/i+1=2/\l.eraseIdx s=((List.range n).eraseIdx s0).eraseIdx s1/\ys++[V.int (y:Int)]=nV [a,b]\/i+1=3/\ys++[V.int (y:Int)]=nV [a,b,c]):=by
    rcases ah with ⟨rfl,rfl,rfl⟩|⟨rfl,rfl,rfl⟩|⟨rfl,rfl,rfl⟩|⟨rfl,rfl⟩
    .cases hs;show⟨a,ha,b5,∅,.inr (.inl ⟨rfl,rfl,rfl⟩)⟩
    .cases hs;show⟨b,hb,b6,by simp[nV],.inr (.inr (.inl ⟨rfl,rfl,rfl⟩))⟩
    .cases hs;show⟨c,hc,b7,by simp[nV],.inr (.inr (.inr ⟨rfl,rfl⟩))⟩
    cases hs
   have b9:=(aI.mp hy).1;show⟨_,rfl,.inl ⟨rfl,_,SqL.of a1⟩,_,rfl,u,nV l,(s:Int),s,V.int (y:Int),rfl,rfl,a1,(),(),yg (by rw[bC];show b9),by rw[nV,cB,hy];rfl,λcj bn ca=>?_⟩;show⟨(bn Z_ (aG be)).trans a2,(),λH3 z y3=>⟨_,_,rfl,b8,λd o nb e=>(z d (ar e hZ)).trans ((bn d nb).trans (bt _ _ nb e)),(z u be).trans (by rw[ca,EM]),y3⟩⟩
  rintro Z ys H' ⟨o,l,rfl,ah,bt,a1,a2⟩;obtain rfl:ys=nV [a,b,c]:=by
   have e3:(nV [s0,s1,bm]).length=3:=rfl;rw[e3] at ah;rcases ah with ⟨h,_⟩|⟨h,_⟩|⟨h,_⟩|⟨_,h⟩
   .cases h
   .cases h
   .cases h
   show h
  show⟨Z_,_,rfl,.inl ⟨SqL.of a2,λt ht=>?_⟩⟩;walk_at"H' t ht H9 s9 y9";have a3:Same M H9:=λd o e=>s9 _ _ (bt _ _ (ar e bc) (s8 _ _ (s7 _ _ e)));show⟨_,rfl,g,r,j,rfl,a3 _ _ ap,a0.same a3,(),I.nd,λD cl cm a4 hD=>?_⟩;show⟨_,rfl,D,t,j,(a,b,c),rfl,hD,a4 _ _ y9,λcb bw=>?_⟩;have st:=(a3.trans a4).trans bw;have bA:=bw _ _ (a4 _ _ y9);show⟨_,rfl,?_⟩;cases cc:iL j (a,b,c) with
  |false=>
   show ak ⟨_,_,_,_,r,j,_,rfl,λd o nb e=>st _ _ (bi _ _ nb e),st _ _ bl,df C,st _ _ ap,a0.same st,(),I⟩
  |true=>
   have a5:=st _ _ ap;show aA ⟨_,rfl,.inl ⟨rfl,_,SqL.of a5⟩,_,rfl,g,r,_,rfl,rfl,a5,by rw[aT ad];lia,λcn al cd=>?_⟩;have tn:∀{d:Addr}{xs:List V},cb d=some (.tup xs)->d≠g:=λe=>bD e a5 ∅;show⟨_,_,_,_,_,j++[(a,b,c)],_,rfl,λd o nb e=>(al d (ar e ba)).trans (st _ _ (bi _ _ nb e)),(al p X).trans (st _ _ bl),df C,cd,?_,by rw[ao,aV];lia,oB I ⟨n1,n2,n3⟩ cc⟩;show cZ (Paired.imp' (λ_ _ ⟨d,O,R⟩=>⟨d,O,(al d (tn (st _ _ R))).trans (st _ _ R)⟩) a0) (.cons ⟨t,rfl,(al t (tn bA)).trans bA⟩ .nil)
 rintro Z H4 ⟨o4,o5,o6,o7,r,j,B,rfl,sm,Y,C,an,ad,b0,I⟩;show⟨_,rfl,Qq g r j B H4 ba sm Y C an ad () I⟩
end
end K15
end
section
namespace K15
theorem Ja{f:Nat->Nat}{ts:List Tri}(g:Good ts)(inj:∀a b,Co ts a->Co ts b->f a=f b->a=b){a b c:Nat}(h:En (ts.map (nam f)) a b c):∃d e i,En ts d e i/\a=f d/\b=f e/\c=f i:=by unfold En at h;rw[xD] at h;obtain⟨⟨⟨d,e⟩,i⟩,h1,h2⟩:=aq.mp h;have h2:=dz h2;have j:=dz h2.1;show⟨d,e,i,h1,j.1.symm,j.2.symm,h2.2.symm⟩
theorem rf(a:Tri)(l:List Tri):ents (a::l)=ents [a]++ents l:=by simp[ents]
theorem EN{ts c:List Tri}(h:c.Sublist ts):(ents c).Sublist (ents ts):=by
 induction h with
 |slnil=>show KQ _
 |cons a _ b=>rw[rf a];show b.trans (List.sublist_append_right _ _)
 |cons_cons a _ b=>rw[rf a,rf a];show Ms (KQ _) b
theorem rN{ts a:List Tri}(g:Good ts)(h:a.Sublist ts):Good a:=by show⟨λt b=>g.ne t (h.subset b),g.nd.sublist (KP _ ?_)⟩;show EN h
theorem EJ{as bs:List Tri}(g:Good as)(g':Good bs)(h:∀a,Co as a->¬Co bs a):Good (as++bs):=by
 have e:ents (as++bs)=ents as++ents bs:=by simp[ents]
 show⟨λt j=>(aw.mp j).elim (g.ne t) (g'.ne t),?_⟩;rw[e,aX,bS];show⟨g.nd,g'.nd,λs l s' m z=>?_⟩;obtain⟨⟨⟨a,b⟩,c⟩,h1,h2⟩:=aq.mp l;obtain⟨⟨⟨f,i⟩,n⟩,o,d⟩:=aq.mp m;have h2:(a,b)=s:=h2;have d:(f,i)=s':=d;have:(a,b)=(f,i):=by rw[h2,d,z]
 cases this;show h a ⟨b,c,h1⟩ ⟨b,n,o⟩
theorem C7{l:List Tri}{a b c n:Nat}(g:Good (l++[(a,b,c)]))(f:¬Co (l++[(a,b,c)]) n):Good (l++[(a,b,n),(b,c,n),(c,a,n)]):=by
 have e:∀m,ents (l++m)=ents l++ents m:=λm=>by simp[ents]
 have gl:Good l:=rN g ∅;have nd:=g.nd;rw[e,aX,bS] at nd;obtain⟨j,o,r⟩:a≠b/\b≠c/\c≠a:=g.ne (a,b,c) ∅;have co:∀x,x=a\/x=b\/x=c->Co (l++[(a,b,c)]) x:=λx B=>d_.mpr ⟨(a,b,c),∅,B⟩;have na:n≠a:=λz=>f (co n (.inl z));have nb:n≠b:=λz=>f (co n (.inr (.inl z)));have i:n≠c:=λz=>f (co n (.inr (.inr z)));have nl:∀s∈(ents l).map (·.1),s.1≠n/\s.2≠n:=λs d=>by
  obtain⟨⟨⟨x,y⟩,z⟩,h1,rfl⟩:=aq.mp d;have h1:En l x y z:=h1;have v:∀u,Co l u->Co (l++[(a,b,c)]) u:=λu ⟨p,q,C⟩=>⟨p,q,by unfold En at *;rw[e];show bM _ C⟩;show⟨λw=>f (w ▸ v x ⟨y,z,h1⟩),λw=>f (w ▸ v y ⟨z,x,gl.sk.rot h1⟩)⟩
 have D:∀s∈(ents l).map (·.1),s≠(a,b)/\s≠(b,c)/\s≠(c,a):=λs d=>by
  have h:=nd.2.2 s d;show⟨h (a,b) (by simp[ents]),h (b,c) (by simp[ents]),h (c,a) (by simp[ents])⟩
 show⟨λt E=>?_,?_⟩
 .rcases aw.mp E with h|h
  .exact gl.ne t h
  simp only[ae,bq,or_false] at h;rcases h with rfl|rfl|rfl
  .exact⟨j,aG nb,na⟩
  .exact⟨o,aG i,nb⟩
  show⟨r,aG na,i⟩
 rw[e,aX,bS];show⟨gl.nd,?_,λs d s' A z=>?_⟩
 .simp[ents,j,o,r,na,nb,i,aG j,aG o,aG r,aG na,aG nb,aG i]
 subst z;obtain⟨H,I⟩:=nl s d;obtain⟨K,L,M⟩:=D s d;simp[ents] at A;rcases A with rfl|rfl|rfl|rfl|rfl|rfl|rfl|rfl|rfl
 all_goals first|show K rfl|show L rfl|show M rfl|show H rfl|show I rfl
end K15
end
section
namespace K15
open PySem L2 K51 K31
def rtF(i:Nat):List Tri:=[(i,(i+1)%7,(i+3)%7),(i,(i+3)%7,(i+2)%7)]
def rt:List Tri:=(List.range 7).flatMap rtF
theorem sJ:Good rt:=⟨⋯,⋯⟩
theorem HY:∀i:Fin 14,∀j:Fin 13,∃t∈(rt.eraseIdx i).eraseIdx j,6=t.1\/6=t.2.1\/6=t.2.2:=⋯
theorem Ai:∀t∈rt,t.1<7/\t.2.1<7/\t.2.2<7:=⋯
theorem qR{α:Type}:∀{l:List α}{i:Nat}{x:α},l[i]?=some x->(l.eraseIdx i++[x]).Perm l
 | [],i,x,h=>by simp at h
 |a::l,0,x,h=>by
  simp at h;subst h;show (cP (l₁:=l) (l₂:=[a]))
 |a::l,i+1,x,h=>(qR (l:=l) (i:=i) ‹h›).cons a
theorem C9{as bs:List Tri}(h:as.Perm bs):(ents as).Perm (ents bs):=h.flatMap_right _
theorem oD{H H1:Hp}{c t:Addr}{d:List V}{f:List Tri}{u:Tri}(hf:H c=some (.lst d))(k:∀b,b≠c->H1 b=H b)(tr:aO H d f)(g:H t=some (.tup [.int (u.1:Int),.int (u.2.1:Int),.int (u.2.2:Int)])) :
  aO H1 (d++[V.ref t]) (f++[u]):=by
 have tn:∀{a:Addr}{xs:List V},H a=some (.tup xs)->a≠c:=λe=>bD e hf ∅;show cZ (Paired.imp' (λ_ _ ⟨a,i,h⟩=>⟨a,i,(k _ (tn h)).trans h⟩) tr) (.cons ⟨t,rfl,(k _ (tn g)).trans g⟩ .nil)
theorem xO{p:Addr}{a pv:List V}{c:List Tri}(b:But p H H')(e:H p=some (.lst pv))(h:aO H a c):aO H' a c:=
 Paired.imp' (λ_ _ ⟨f,g,d⟩=>⟨f,g,b _ _ (bD d e ∅) d⟩) h
theorem xh{α β:Type}{F:α->β->Prop}:∀{xs:List α}{ys:List β}(k:Nat),Paired F xs ys->Paired F (xs.eraseIdx k) (ys.eraseIdx k)
 |_,_,_,.nil=>.nil
 |_,_,0,.cons _ t=>t
 |_,_,k+1,.cons h t=>.cons h (xh k t)
def Fn(vs:List V)(H:Hp)(Q:VK)(p:Addr)(q:Int×Int):Prop:=vs=[.ref p]/\H p=some (.lst (bZ q))/\cA q/\
 ∀r a ts b H',H r=none->But p H H'->H' p=some (.lst (bZ b))->cA b->H' r=some (.lst a)->aO H' a ts->ts.length<=16->Good ts->Q (.ref r) H'
def zr:Sp:=λvs H Q _=>Exists (Ex2 (Fn vs H Q))
section
theorem iE:bH ["_law_pot_here","_law_triples","_law_i","_law_way","_law_k","_law_gone","_law_new"] ["_law_pot_here"] (a7 mF):=⟨rfl,rfl,rfl,⋯,rfl,⋯,⋯⟩
theorem FQ{f f1 f2 f3:Addr}{fd d1 d2 d3:FuncData}(U:Fun K "_law_ring" "_law_ring" mF f fd)(T:cW mg)(mM:mg "max" = none)
  (GD:Use P w K mg base 2 "_law_digit" ["_law_pot_here","_law_base"] jb f1 d1)
  (GC:Use P w K mg base 2 "_law_corners" ["_law_triples"] k_ f2 d2)
  (GS:Use P w K mg base 2 "_law_sides" ["_law_triple"] si f3 d3) :
  FnOk P w K mg base CX0 3 f fd ["_law_pot_here"] zr:=by
 show U.ok iE (by rintro _ _ _ _ ⟨_,_,rfl,_⟩;rfl) λNz A outer s H vs Q E hr h=>?_
 obtain⟨p,q,rfl,hp,bb,Qq⟩:=h;have hu:=eu hr;show⟨_,(af (sx 1 iE.nd (bf de))
  (af (cY cF rfl (i8 rfl T.range (pa1 aa)) (gx 2 iE.nd)
   (af (bU (bQ bT cG cH cq (pv 1) (pa1 (aK (ai (pv 2) (ai (au dH (au bN (pv 2) aa) aa) (pa1 (au dH (au bN (pv 2) aa) aa))))))))
  (aj (bU (bQ bT cG cH cq (pv 1) (pa1 (aK (ai (pv 2) (ai (au dH (au bN (pv 2) aa) aa) (pa1 (au dH (au bN (pv 2) aa) aa)))))))))))
  (af (sx 3 iE.nd (uc GD hr (ai (pv 0) (pa1 aa))))
  (af (cY cF rfl (i8 rfl T.range (pa1 (au dH (pv 3) aa))) (gx 4 iE.nd)
   (af (sx 5 iE.nd (bQ bT qE qF rJ (pv 1) (pa1 (uc GD hr (ai (pv 0) (pa1 (pln T.len (pv 1))))))))
  (aj (aY (aH bY (pv 4) aa (nomark _)) (af (sx 6 iE.nd (au bN (dZ (qO rfl) (by rfl) mM uX (pa1 (uc GC hr (pa1 (pv 1))))) aa))
  (aj (sx 1 iE.nd (au du (pv 1) (dP (N:=["_law_p","_law_q","_law_new"]) (fr:=[none,none,some 6]) (g:=nk [] 2 (ib (c7 0) (ib (c7 1) nq))) (te:=tTup (eO (cD 0) (eO (cD 1) (eO (cD 2) gI)))) (dY ⋯ rfl rfl ⋯ ⋯ (by walk_at"cs") (by walk_at"ct")) rfl (cL (uc GS hr (pa1 (pv 5))))
    (λC' s' H' fp Nw=>⟨(eN rfl (bL (gx 0 (⋯:(["_law_p","_law_q","_law_new"]:List Str).Nodup)) (bL (gx 1 (⋯:(["_law_p","_law_q","_law_new"]:List Str).Nodup)) dD))),ft,(aK (ai (pv 0) (ai (pv 1) (pa1 (pv 2)))))⟩)))))) a8))))
  (aj (aU (pv 1))))))),?_⟩
 have cg:=line5000;show⟨aQ _,λD H1 al s1 y1=>?_⟩;have bw:D≠p:=λz=>by rw[z,hp] at al;cases al
 show⟨_,rfl,⋯,⋯,?_⟩;show jI (lo:=0) (n:=7) (λi Z H'=>∃v B,Z=[some (V.ref p),some (.ref D),v,none,none,none,none]/\Same H H'/\H' D=some (.lst B)/\aO H' B ((List.range i).flatMap rtF))
  ⟨none,[],rfl,s1,y1,.nil⟩ ?_ ?_
 .rintro i Z H2 hi ⟨v,B,rfl,sm,a0,O⟩;have ch:B.length<=100:=by
   rw[aT O,La];have:((List.range i).map λa=>(rtF a).length).sum=2*i:=by
    have e:(List.range i).map (λa=>(rtF a).length)=List.replicate i 2:=by rw[List.eq_replicate_iff];show⟨∅,λb hb=>by obtain⟨x,_,rfl⟩:=aq.mp hb;rfl⟩
    rw[e];clear e;have:∀n:Nat,(List.replicate n 2).sum=2*n:=λn=>by
     induction n with
     |zero=>rfl
     |succ n ih=>rw[List.replicate_succ,fg,ih];lia
    show this i
   lia
  show⟨_,rfl,.inl ⟨rfl,_,SqL.of a0⟩,_,rfl,_,rfl,_,_,rfl,rfl,_,_,rfl,rfl,(show (0:Int)<7 by decide),_,rfl,_,_,rfl,rfl,_,_,rfl,rfl,(show (0:Int)<7 by decide),lit3,λt H3 ht s3 y3=>?_⟩;have bA:H3 t=some (.tup [.int (i:Int),.int (((i+1)%7:Nat):Int),.int (((i+3)%7:Nat):Int)]):=by rw[show (0+(i:Int))=(i:Int) by lia] at y3;show y3
  have bc:=s3 _ _ a0;show⟨D,B,_,rfl,rfl,bc,(),λH4 k4 y4=>?_⟩;have I:=oD (u:=(i,(i+1)%7,(i+3)%7)) bc k4 (O.same s3) bA;have bF:Same H H4:=λd o e=>(k4 d (ar e al)).trans (s3 _ _ (sm _ _ e));show⟨_,rfl,.inl ⟨rfl,_,SqL.of y4⟩,_,rfl,_,rfl,_,_,rfl,rfl,_,_,rfl,rfl,(show (0:Int)<7 by decide),_,rfl,_,_,rfl,rfl,_,_,rfl,rfl,(show (0:Int)<7 by decide),lit3,λt2 H5 ci s5 y5=>?_⟩;have b0:H5 t2=some (.tup [.int (i:Int),.int (((i+3)%7:Nat):Int),.int (((i+2)%7:Nat):Int)]):=by rw[show (0+(i:Int))=(i:Int) by lia] at y5;show y5
  have bd:=s5 _ _ y4;show⟨D,_,_,rfl,rfl,bd,by rw[ao,aV];lia,λH6 L y6=>?_⟩;have S:=oD (u:=(i,(i+3)%7,(i+2)%7)) bd L (I.same s5) b0;show⟨_,_,rfl,λd o e=>(L d (ar e al)).trans (s5 _ _ (bF _ _ e)),y6,?_⟩;rw[AW,ql];simpa [rtF] using S
 rintro Z H2 ⟨v,B,rfl,sm,a0,O⟩;have O:aO H2 B rt:=O;obtain⟨d1,d2⟩:=fm (q:=q) (b:=4) ⋯;obtain⟨wy,ew⟩:∃wy:Nat,digO q 4=(wy:Int):=⟨_,(qd d1).symm⟩;show⟨_,rfl,p,q,4,rfl,sm _ _ hp,bb,⋯,⋯,λH3 k3 y3=>?_⟩;rw[ew] at d2 |-;show⟨_,rfl,_,_,rfl,rfl,(show (0:Int)<3 by decide),_,rfl,(),(),?_⟩;have hw:((wy:Int)%3).toNat<=2:=();generalize ((wy:Int)%3).toNat=W at hw;have b3:But p H H3:=λd o n e=>(k3 d n).trans (sm _ _ e);show jI (lo:=0) (n:=W) (λi Z H'=>∃v o4 o5 o6 l r tc q',Z=[some (V.ref p),some (.ref l),v,some (.int (wy:Int)),o4,o5,o6]/\But p H H'/\H' p=some (.lst (bZ q'))/\cA q'/\H l=none/\H' l=some (.lst r)/\aO H' r tc/\(i=0/\tc=rt\/(i=1/\∃j:Fin 14,tc=rt.eraseIdx j)\/i=2/\tc.length<=16/\Good tc))
  ⟨_,none,none,none,D,B,rt,_,rfl,b3,y3,df bb,al,(k3 D bw).trans a0,Paired.imp' (λ_ _ ⟨d,M,y⟩=>⟨d,M,(k3 d (bD y (sm _ _ hp) ∅)).trans y⟩) O,.inl ⟨rfl,rfl⟩⟩ ?_ ?_
 .rintro i Z H4 hi ⟨v,o4,o5,o6,l,r,tc,X,rfl,b4,am,an,ad,ap,I,ah⟩;have ah:i=0/\tc=rt\/(i=1/\∃j:Fin 14,tc=rt.eraseIdx j):=ah.imp_right λh=>h.resolve_right λ⟨z,_⟩=>();have cj:13<=tc.length/\tc.length<=14:=by
   rcases ah with ⟨_,rfl⟩|⟨_,j,rfl⟩
   .decide
   rw[uG (show (j:Nat)<rt.length from j.2)];decide
  have cl:=aT I;obtain⟨M,y⟩:=fm (q:=X) (b:=(r.length:Int)) ();obtain⟨k,hk⟩:∃k:Nat,digO X (r.length:Int)=(k:Int):=⟨_,(qd M).symm⟩;have a3:k<tc.length:=();obtain⟨⟨a,b,c⟩,a4⟩:∃s,tc[k]?=some s:=⟨_,aP a3⟩;obtain⟨zv,b1,tt,rfl,be⟩:=mQ I a4;have bi:l≠p:=λz=>by rw[z,hp] at ad;cases ad
  show⟨_,rfl,.inl ⟨rfl,_,SqL.of ap⟩,_,rfl,_,rfl,l,_,rfl,.inl (SqL.of ap),p,X,_,rfl,am,an,(),gg () (),λH5 k5 y5=>?_⟩;rw[hk];have a5:=(k5 l bi).trans ap;show⟨l,r,(k:Int),k,_,rfl,rfl,a5,(),(),yg (),b1,λH6 L y6=>?_⟩;have b5:But p H H5:=λd o n e=>(k5 d n).trans (b4 _ _ n e);have b2:aO H5 r tc:=Paired.imp' (λ_ _ ⟨d,M,y⟩=>⟨d,M,(k5 d (bD y am ∅)).trans y⟩) I;have bl:H5 tt=some (.tup [.int (a:Int),.int (b:Int),.int (c:Int)]):=(k5 tt (bD be am ∅)).trans be;have b6:But p H H6:=λd o n e=>(L d (ar e ad)).trans (b5 _ _ n e);have a6:H6 p=some (.lst (bZ (nxt X (r.length:Int)))):=(L p (aG bi)).trans y5;have S:aO H6 (r.eraseIdx k) (tc.eraseIdx k):=Paired.imp' (λ_ _ ⟨d,M,y⟩=>⟨d,M,(L d (bD y a5 ∅)).trans y⟩) (xh k b2);have b7:=(L tt (bD bl a5 ∅)).trans bl;show⟨_,rfl,rfl,_,rfl,?_⟩;rcases ah with ⟨rfl,rfl⟩|⟨rfl,j,rfl⟩
  .exact ak ⟨_,_,_,_,l,_,_,_,rfl,b6,a6,df an,ad,y6,S,.inr (.inl ⟨rfl,⟨k,a3⟩,rfl⟩)⟩
  show aA ?_;have b8:(rt.eraseIdx j).length=13:=by rw[uG (show (j:Nat)<rt.length from j.2)];rfl
  have b9:((rt.eraseIdx j).eraseIdx k).length=12:=by rw[uG a3,b8]
  have cm:=aT S;show⟨_,rfl,l,_,_,rfl,y6,S,(),λrc cs H7 cn s7 y7 bm lcs=>?_⟩;have six:6∈cs:=by rw[bm.2];obtain⟨t,h1,h2⟩:=HY j ⟨k,()⟩;show eU.mpr ⟨t,h1,‹h2›⟩
  have hle:∀x∈cs,x<7:=λx hx=>by
   rw[bm.2] at hx;obtain⟨t,h1,h2⟩:=eU.mp hx;have h3:=Ai t ((ju _ _).subset ((ju _ _).subset h1));have h2:x=t.1\/x=t.2.1\/x=t.2.2:=‹h2›
   lia
  show⟨rc,cs.map (λc:Nat=>(c:Int)),rfl,SqL.of (by rw[y7];simp[nV]),λz=>?_,λm hm ca=>⟨_,_,rfl,rfl,?_⟩⟩
  .rw[Lc.mp z] at six;cases six
  have em:m=6:=by obtain⟨x,hx,rfl⟩:=aq.mp hm;have:=ca 6 (aq.mpr ⟨6,six,rfl⟩);have:=hle x hx;lia
  subst em;show⟨_,rfl,_,rfl,tt,(a,b,c),rfl,s7 _ _ b7,λZ_ zs H8 co s8 y8 sd=>?_⟩;have cb:=s7.trans s8;show⟨Z_,rfl,⟨_,SqL.of y8⟩,λY hY=>dB (K:=[]) (a:=Z_) (xs:=zs) (λi Z ys H'=>∃o1 v,Z=[o1,v,some (.int 7)]/\Same H8 H'/\H' Y=some (.lst ys)/\aO H' ys (((fq (a,b,c)).take i).map λs=>(s.1,s.2,7)))
   ⟨none,none,rfl,cK hY,bO,.nil⟩ (by rintro i Z ys H' _ ⟨_,_,_,e,_⟩;show SqL.of (e _ _ y8)) ?_ ?_⟩
  .rintro i x Z ys H' hi ⟨o1,cc,rfl,a1,ba,C⟩;obtain⟨⟨x1,x2⟩,hs,c',rfl,cd⟩:=c_ sd hi;show⟨c',_,rfl,SqT.of (a1 _ _ cd),rfl,_,_,rfl,_,_,rfl,rfl,?_⟩;show⟨_,rfl,_,rfl,_,rfl,lit3,λt H9 ht s9 y9=>?_⟩;have bn:=s9 _ _ ba;show⟨bn,?_,λHn kn yn=>⟨_,_,rfl,λd o e=>(kn d (ar e hY)).trans (s9 _ _ (a1 _ _ e)),yn,?_⟩⟩
   .rw[aT C,aE,bu];simp[fq];lia
   rw[cS,hs,aX];show oD (u:=(x1,x2,7)) bn kn (C.same s9) y9
  rintro Z ys H9 ⟨o1,cc,rfl,a1,ba,C⟩;have l3:zs.length=3:=aT sd;rw[l3] at C;have C:aO H9 ys [(a,b,7),(b,c,7),(c,a,7)]:=C;have a2:=cb.trans a1;show⟨l,Y,_,_,rfl,rfl,a2 _ _ y6,ba,by have:=aT C;simp at this;lia,λR cr hR bt ce=>?_⟩;have st:=a2.trans bt;have cf:H R=none:=by
   cases e:H R with
   |none=>rfl
   |some o=>
    by_cases ep:R=p
    .rw[ep,a2 _ _ a6] at hR;cases hR
    rw[a2 _ _ (b6 _ _ ep e)] at hR;cases hR
  show⟨_,_,_,_,R,_,_,_,rfl,λd o n e=>st _ _ (b6 _ _ n e),st _ _ a6,df an,cf,ce,cZ (S.same st) (C.same bt),.inr (.inr ⟨rfl,?_,?_⟩)⟩
  .rw[ao,b9];show (show 12+3<=16 by decide)
  show C7 (C6 (rN sJ (ju rt j)) (C9 (qR a4))) λz=>?_;obtain⟨t,h1,h2⟩:=d_.mp z;have h3:=Ai t ((ju _ _).subset ((qR a4).mem_iff.mp h1));lia
 rintro Z H4 ⟨v,o4,o5,o6,l,r,tc,X,rfl,b4,am,an,ad,ap,I,ah⟩;have hh:tc.length<=16/\Good tc:=by
  rcases ah with ⟨_,rfl⟩|⟨_,j,rfl⟩|⟨_,h⟩
  .exact⟨⋯,sJ⟩
  .exact⟨cC (ju rt j).length_le ⋯,rN sJ (ju rt j)⟩
  show h
 show⟨_,rfl,Qq l r tc X H4 ad b4 am an ap I hh.1 hh.2⟩
end
def CH(vs:List V)(H:Hp)(Q:VK)(S T:Addr)(a b:List V)(ss ts:List Tri):Prop:=vs=[.ref S,.ref T]/\H S=some (.lst a)/\aO H a ss/\ss.length<=10/\Good ss/\H T=some (.lst b)/\aO H b ts/\ts.length<=10/\Good ts/\
 ∀r c rs H',H r=none->Same H H'->H' r=some (.lst c)->aO H' c rs->rs.length<=20->Good rs->Q (.ref r) H'
def w_:Sp:=λvs H Q _=>Exists (Ex6 (CH vs H Q))
section
theorem xc:bH ["_law_one","_law_other","_law_more"] ["_law_one","_law_other"] (a7 lH):=⟨rfl,rfl,rfl,⋯,rfl,⋯,⋯⟩
theorem CT{f f2:Addr}{fd d2:FuncData}(U:Fun K "_law_beside" "_law_beside" lH f fd)(T:cW mg)(mM:mg "max" = none)
  (GC:Use P w K mg base 2 "_law_corners" ["_law_triples"] k_ f2 d2) :
  FnOk P w K mg base CX0 3 f fd ["_law_one","_law_other"] w_:=by
 show U.ok xc (by rintro _ _ _ _ ⟨_,_,_,_,_,_,rfl,_⟩;rfl) λNz A outer s H vs Q E hr h=>?_
 obtain⟨S,T0,an,vt,ss,ts,rfl,hS,y,lS,gS,hT,ap,lT,gT,Qq⟩:=h;have hu:=eu hr;show⟨_,(af (sx 2 xc.nd (au bN (dZ (qO rfl) (by rfl) mM uX (pa1 (au du (uc GC hr (pa1 (pv 0))) (bf (pa1 (dg da aa)))))) aa))
  (aj (aU (au du (pv 0) (dP (N:=["_law_triple","_law_more"]) (fr:=[none,some 2]) (te:=tCB (λxs H Q=>∃p ys,xs=[.ref p]/\((SqL [] H p ys/\∀l,H l=none->Q (.ref l) (upd H l (.tup ys)))\/(SqT [] H p ys/\Q (.ref p) H))) (eO (tW (iTup [] (cD 0)) (c7 0) (λ_ H Q=>Q true H) (tOp (rI0 λi j=>.int (i+j)) (cD 0) (cD 1)) [none,some 1]) gI)) (dY ⋯ rfl rfl ⋯ ⋯ (by walk_at"cs") (by walk_at"ct")) rfl (cL (pv 1))
    (λC' s' H' fp Nw=>⟨(gx 0 (⋯:(["_law_triple","_law_more"]:List Str).Nodup)),ft,(eJ qN (by rfl) T.tuple A6 (pa1 (dP (N:=["_law_corner","_law_more"]) (fr:=[none,some 1]) (te:=tOp (rI0 λi j=>.int (i+j)) (cD 0) (cD 1)) (dY ⋯ rfl rfl ⋯ ⋯ (by walk_at"cs") (by walk_at"ct")) rfl (tL (pv 0))
    (λC' s' H' fp Nw=>⟨(gx 0 (⋯:(["_law_corner","_law_more"]:List Str).Nodup)),ft,(au bN (pv 0) (pv 1))⟩))))⟩)))))),?_⟩
 have a3:=line5000;show⟨_,rfl,S,an,ss,rfl,hS,y,(),λL cs H1 a4 s1 y1 a0 lcs=>?_⟩;show⟨_,rfl,lit1,λl1 H2 g1 s2 y2=>?_⟩;show⟨L,l1,_,_,rfl,rfl,s2 _ _ y1,y2,by rw[bC];simp only[aV];lia,λl2 H3 g2 s3 y3=>?_⟩;show⟨l2,cs.map (λc:Nat=>(c:Int))++[-1],rfl,SqL.of (by rw[y3];simp[nV]),∅,λm hm ad=>⟨_,_,rfl,rfl,?_⟩⟩;obtain⟨n,hn⟩:∃n:Nat,m+1=(n:Int):=by have:=ad (-1) ∅;show⟨(m+1).toNat,()⟩
 have a1:∀c,Co ss c->c<n:=λc hc=>by
  have:c∈cs:=by rw[a0.2];obtain⟨t,h1,h2⟩:=d_.mp hc;show eU.mpr ⟨t,h1,‹h2›⟩
  have:=ad (c:Int) (bM _ (aq.mpr ⟨c,this,rfl⟩));lia
 change c7 2 (V.int (m+1)) _ _ _;rw[hn];have B:=(s1.trans s2).trans s3;have ah:=B _ _ hT;have al:=ap.same B;have gN:Good (ts.map (nam (· + n))):=EI gT (λa b _ _ h=>‹h›);show⟨_,rfl,_,rfl,T0,rfl,⟨_,SqL.of ah⟩,λZ_ hZ=>dB (K:=[]) (a:=T0) (xs:=vt) (λi Z ys H'=>∃o,Z=[o,some (.int (n:Int))]/\Same H3 H'/\H' Z_=some (.lst ys)/\aO H' ys ((ts.take i).map (nam (· + n))))
  ⟨none,rfl,cK hZ,bO,.nil⟩ (by rintro i Z ys H' _ ⟨_,_,e,_⟩;show SqL.of (e _ _ ah)) ?_ ?_⟩
 .rintro i x Z ys H' hi ⟨o,rfl,sm,C,d⟩;obtain⟨⟨a,b,c⟩,hs,t,rfl,g⟩:=c_ al hi;have g:H3 t=some (.tup [.int (a:Int),.int (b:Int),.int (c:Int)]):=g;have a5:=(aI.mp hs).1;show⟨_,rfl,t,rfl,⟨_,SqT.of (sm _ _ g)⟩,λY hY=>xH (K:=[]) (a:=t) (xs:=nV [a,b,c]) (λi Z ys D=>∃o,Z=[o,some (.int (n:Int))]/\ys=nV (([a,b,c].take i).map (· + n))/\Same H' D/\D Y=some (.lst ys)) ⟨none,rfl,rfl,cK hY,bO⟩ (by rintro i Z ys D _ ⟨_,_,_,e,_⟩;show SqT.of (e _ _ (sm _ _ g))) ?_ ?_⟩
  .rintro j x Z zs I hj ⟨o,rfl,rfl,M,O⟩;rw[nV,cB] at hj;obtain⟨z,hz,rfl⟩:=eG.mp hj;have a6:j<3:=(aI.mp hz).1;show⟨_,rfl,_,rfl,_,_,rfl,rfl,O,?_,λHn kn X=>⟨_,rfl,?_,λr o e=>(kn r (ar e hY)).trans (M _ _ e),X⟩⟩
   .rw[bC,aE,bu];simp;lia
   rw[cS,hz,aX,<-gz];rfl
  rintro Z zs I ⟨o,rfl,rfl,M,O⟩;show⟨Y,_,rfl,.inl ⟨SqL.of O,λt' a2=>?_⟩⟩;walk_at"I t' a2 H5 q y5";have st:=M.trans q;have am:=st _ _ C;show⟨am,?_,λHn kn X=>⟨_,rfl,λr o e=>(kn r (ar e hZ)).trans (st _ _ (sm _ _ e)),X,?_⟩⟩
  .rw[aT d,aE,bu];lia
  rw[cS,hs,aX];show oD (u:=(a+n,b+n,c+n)) am kn (d.same st) y5
 rintro Z ys I ⟨o,rfl,sm,C,d⟩;rw[aT al,eV] at d;have lz:=aT d;rw[aE] at lz;have lv:=aT y;have v:=B.trans sm;show⟨S,Z_,_,_,rfl,rfl,v _ _ hS,C,(),λR H5 hR q y5=>?_⟩;show Qq R _ _ H5 (v.free hR) (v.trans q) y5 (cZ (y.same (v.trans q)) (d.same q)) ?_ ?_
 .rw[ao,aE];lia
 show EJ gS gN λa ha g=>?_;have:=a1 a ha;obtain⟨b,c,e⟩:=g;obtain⟨a',r,c',_,h2,_⟩:=Ja gT (λa b _ _ h=>‹h›) e;have h2:a=a' + n:=h2;lia
end
theorem Fc{r p:Addr}{a:List V}{ts:List Tri}{q:Int×Int}(c:H r=some (.lst a))(tr:aO H a ts)(d:H p=some (.lst (bZ q))):r≠p:=λz=>by
 rw[z,d] at c;cases c;cases tr with
 |cons h _=>
  obtain⟨b,e,_⟩:=h;cases e
def DO(vs:List V)(H:Hp)(Q:VK)(p:Addr)(q:Int×Int):Prop:=vs=[.ref p,.int 16]/\H p=some (.lst (bZ q))/\cA q/\
 ∀r a ts b H',r≠p->But p H H'->H' p=some (.lst (bZ b))->cA b->H' r=some (.lst a)->aO H' a ts->ts.length<=20->Good ts->(∀c,Co ts c->One (En ts) c)->Q (.ref r) H'
def xV:Sp:=λvs H Q _=>Exists (Ex2 (DO vs H Q))
section
theorem yj:bH ["_law_pot_here","_law_most","_law_way"] ["_law_pot_here","_law_most"] (a7 mC):=⟨rfl,rfl,rfl,⋯,rfl,⋯,⋯⟩
theorem Em{f f1 f2 f3 f4 f5 f6:Addr}{fd O S d3 d4 d5 d6:FuncData}(U:Fun K "_law_skin" "_law_skin" mC f fd)
  (GD:Use P w K mg base 3 "_law_digit" ["_law_pot_here","_law_base"] jb f1 O)
  (GR:Use P w K mg base 3 "_law_ring" ["_law_pot_here"] zr f2 S)
  (D:Use P w K mg base 3 "_law_split" ["_law_triples"] sh f3 d3)
  (GB:Use P w K mg base 3 "_law_beside" ["_law_one","_law_other"] w_ f4 d4)
  (T:Use P w K mg base 3 "_law_grown" ["_law_pot_here","_law_most"] xX f5 d5)
  (X:Use P w K mg base 3 "_law_drawn" ["_law_pot_here","_law_most"] xZ f6 d6) :
  FnOk P w K mg base CX0 4 f fd ["_law_pot_here","_law_most"] xV:=by
 show U.ok yj (by rintro _ _ _ _ ⟨_,_,rfl,_⟩;rfl) λNz A outer s H vs Q E c h=>?_
 obtain⟨p,q,rfl,hp,x,Qq⟩:=h;show⟨_,(af (sx 2 yj.nd (uc GD c (ai (pv 0) (pa1 aa))))
  (af (aY (PW.pt (dR (aH bY (pv 2) aa (nomark _)) (eK (aH ko (pv 1) aa (nomark _))))) (aj (aU (uc D c (pa1 (uc GR c (pa1 (pv 0))))))) a8)
  (af (aY (aH bY (pv 2) aa (nomark _)) (aj (aU (uc D c (pa1 (uc GB c (ai (uc T c (ai (pv 0) (pa1 (au jP (pv 1) aa)))) (pa1 (uc X c (ai (pv 0) (pa1 (au jP (pv 1) aa))))))))))) a8)
  (af (aY (aH fD (pv 2) aa (nomark _)) (aj (aU (uc D c (pa1 (uc X c (ai (pv 0) (pa1 (pv 1)))))))) a8)
  (aj (aU (uc D c (pa1 (uc T c (ai (pv 0) (pa1 (pv 1)))))))))))),?_⟩
 obtain⟨O,S⟩:=fm (q:=q) (b:=8) ⋯;show⟨_,rfl,p,q,8,rfl,hp,x,⋯,⋯,λH1 k1 y=>?_⟩;have b1:But p H H1:=λm o n e=>(k1 m n).trans e;have end_:∀(R:Addr)(a:List V)(ts:List Tri)(I:Int×Int)(H2:Hp),But p H1 H2->H2 p=some (.lst (bZ I))->cA I->H2 R=some (.lst a)->aO H2 a ts->ts.length<=20->Good ts->sh [.ref R] H2 Q E:=by intro R a ts I H2 g d i j tr B l;show⟨R,a,ts,rfl,j,tr,B,l,λr ad ah Y M Z L l3 g3 o3=>?_⟩;show Qq r ad ah I Y (Fc Z L (M _ _ d)) (λm o n e=>M _ _ (g m o n (b1 m o n e))) (M _ _ d) i Z L () g3 o3
 show⟨_,rfl,rfl,_,rfl,?_⟩;generalize digO q 8=u at *;by_cases h0:u=0
 .subst h0;show aA ⟨_,rfl,_,_,rfl,rfl,_,rfl,aA ?_⟩;show⟨_,rfl,p,_,rfl,y,df x,λR a ts v H2 C g d i j tr B l=>?_⟩;show end_ R a ts v H2 g d i j tr () l
 rw[show decide (V.int u=V.int 0)=false from Nu λz=>h0 (V.int.inj z)];show ak (ak ⟨_,rfl,rfl,_,rfl,?_⟩);by_cases h1:u=1
 .subst h1;show aA ?_;show⟨_,rfl,_,rfl,_,_,rfl,rfl,⟨⋯,⋯⟩,p,_,8,rfl,y,df x,⋯,λR a ts v H2 C g d i j tr B l=>?_⟩;show⟨_,rfl,_,rfl,_,_,rfl,rfl,⟨⋯,⋯⟩,p,_,8,rfl,d,i,⋯,λR3 al am q3 Y bb N an ap a0 L bc a1=>?_⟩;have a2:R≠p:=λz=>by rw[z,y] at C;cases C
  show⟨R,R3,a,al,ts,am,rfl,N _ _ a2 j,xO N d tr,(),l,a0,L,(),a1,λR4 a3 a4 H4 bd s4 a5 a6 be ba=>?_⟩;show end_ R4 a3 a4 q3 H4 (λm o n e=>s4 _ _ (N m o n (g m o n e))) (s4 _ _ an) ap a5 a6 () ba
 rw[show decide (V.int u=V.int 1)=false from Nu λz=>h1 (V.int.inj z)];show ak ⟨_,rfl,_,_,rfl,rfl,_,rfl,?_⟩;change if decide (u<5)=true then _ else _
 by_cases h5:u<5
 .rw[Nt h5];show aA ?_;show⟨_,rfl,_,rfl,p,_,16,rfl,y,df x,⋯,λR a ts v H2 C g d i j tr B l=>?_⟩;show end_ R a ts v H2 g d i j tr () l
 rw[Nu h5];show ak ?_;show⟨_,rfl,_,rfl,p,_,16,rfl,y,df x,⋯,λR a ts v H2 C g d i j tr B l=>?_⟩;show end_ R a ts v H2 g d i j tr () l
end
end K15
end
section
namespace K71
open PySem L2 K51 K31 K15 K52
def CF(vs:List V)(H:Hp)(Q:VK)(W:Addr)(b:List V)(w:List Lt):Prop:=vs=[.ref W]/\H W=some (.lst b)/\bE H b w/\(∀a∈w,Lets a)/\w.length<=4000/\∀H',Same H H'->Q (.bl (decide (jns w≠0))) H'
def w9:Sp:=λvs H Q _=>Exists (Ex3 (CF vs H Q))
def B1(vs:List V)(H:Hp)(Q:VK)(p T:Addr)(a:Int×Int)(b:List V)(ts:List Tri):Prop:=vs=[.ref p,.ref T]/\H p=some (.lst (bZ a))/\cA a/\H T=some (.lst b)/\aO H b ts/\ts.length<=20/\ts≠[]/\Good ts/\
 ∀r x y c d H',But p H H'->H' p=some (.lst (bZ d))->cA d->H' r=some (.tup [.int (x:Nat),.int (y:Nat)])->En ts x y c->Q (.ref r) H'
def v8:Sp:=λvs H Q _=>Exists (Ex5 (B1 vs H Q))
theorem F8(w:List Lt):(w.map λa=>decide (jn a≠0)).any id=decide (jns w≠0):=by
 induction w with
 |nil=>rfl
 |cons a w b=>rw[az,jt,b,rL,cR];simp
def teJ:TE:=Af (tOp rEq (tOp (iN []) (cD 0) (L2.tC (.int 0))) (L2.tC (.str "S"))) (tOp (rI0 λi j=>.bl (decide (j<i))) (tOp (iN []) (cD 0) (L2.tC (.int 1))) (L2.tC (.int 0)))
section
theorem DZ:bH ["_law_word"] ["_law_word"] (a7 lF):=⟨rfl,rfl,rfl,⋯,rfl,⋯,⋯⟩
theorem CQ{f:Addr}(U:Fun K "_law_joined" "_law_joined" lF f fd)(mA:mg "any" = none):FnOk P w K mg base CX0 1 f fd ["_law_word"] w9:=by
 show U.ok DZ (by rintro _ _ _ _ ⟨_,_,_,rfl,_⟩;rfl) λB A outer s H vs Q E C h=>?_
 obtain⟨W,p,w,rfl,l,hw,r,I,q⟩:=h;show⟨_,aj (aU (dZ (vD rfl) (by rfl) mA Lx (pa1 (dP (N:=["_law_letter_here"]) (fr:=[none]) (te:=teJ) (jA ⋯ rfl ⋯ ⋯) rfl (cL (pv 0))
    (λL s' H' fp Nw=>⟨gx 0 (⋯:(["_law_letter_here"]:List Str).Nodup),ft,zK (h_ bY (ixx bV (pv 0) aa) bB (nomark _)) (tN (h_ ko (ixx bV (pv 0) aa) aa (nomark _)))⟩))))),?_⟩
 have M:=line5000;have hlen:=aT hw;show⟨_,rfl,W,rfl,⟨_,SqL.of l⟩,λD m=>dB (K:=[]) (a:=W) (xs:=p) (λi Z ys H'=>∃o,Z=[o]/\ys=((w.take i).map λa=>decide (jn a≠0)).map V.bl/\Same H H'/\H' D=some (.lst ys))
  ⟨none,rfl,rfl,cK m,bO⟩ (by rintro i Z ys H' _ ⟨_,_,_,e,_⟩;show SqL.of (e _ _ l)) ?_ ?_⟩
 .rintro i x Z ys H' u ⟨o,rfl,rfl,sm,d⟩;obtain⟨a,ha,b,rfl,n⟩:=c_ hw u;have out:∀v,v=V.bl (decide (jn a≠0))->H' D=some (.lst (((w.take i).map λa=>decide (jn a≠0)).map V.bl))/\(((w.take i).map λa=>decide (jn a≠0)).map V.bl).length<sizeLine/\WrO H' D (.lst (((w.take i).map λa=>decide (jn a≠0)).map V.bl++[v])) (λg=>∃o:Option V,([some (V.ref b)]:St)=[o]/\((w.take i).map λa=>decide (jn a≠0)).map V.bl++[v]=((w.take (i+1)).map λa=>decide (jn a≠0)).map V.bl/\Same H g/\g D=some (.lst (((w.take i).map λa=>decide (jn a≠0)).map V.bl++[v]))):=λv ev=>by
   show⟨d,?_,λg kn y=>⟨_,rfl,?_,λc o e=>(kn c (ar e m)).trans (sm _ _ e),y⟩⟩
   .rw[aE,aE,bu];lia
   rw[cS,ha,aX,aX,ev];rfl
  show⟨_,rfl,b,_,0,_,rfl,rfl,SqT.of (sm _ _ n),tZ a,rfl,_,rfl,?_⟩;rw[show (Str.ofString "S")=txt [83] from s83,dW];cases a with
  |sg c=>
   have z:Lets (.sg c):=r _ (a_ ha);simp only[K31.Lets] at z;rw[show decide (sgn (.sg c)=83)=false from Nu (show ¬c=83 by lia)];show ak (out _ rfl)
  |sp j k=>
   show aA ⟨_,rfl,b,_,1,V.int (j:Int),rfl,rfl,SqT.of (sm _ _ n),rfl,_,_,rfl,rfl,out _ ?_⟩;show congrArg V.bl (show decide ((0:Int)<(j:Int))=_ from ?_);rw[cR,decide_eq_true_eq,decide_eq_true_eq];unfold jn
   split<;>lia
 rintro Z ys H' ⟨o,rfl,rfl,sm,d⟩;rw[hlen,eV] at d;show⟨D,_,rfl,SqL.of d,?_⟩;rw[F8];show q _ sm
theorem wa:bH ["_law_pot_here","_law_triples","_law_sides_here"] ["_law_pot_here","_law_triples"] (a7 lq):=⟨rfl,rfl,rfl,⋯,rfl,⋯,⋯⟩
theorem Cd{f f1 f2:Addr}{fd d1 d2:FuncData}(U:Fun K "_law_any_side" "_law_any_side" lq f fd)(T:cW mg)(mS:mg "sorted" = none)
  (GD:Use P w K mg base 1 "_law_digit" ["_law_pot_here","_law_base"] jb f1 d1) (GT:Use P w K mg base 1 "_law_thirds" ["_law_triples"] K15.spThirds f2 d2) :
  FnOk P w K mg base CX0 2 f fd ["_law_pot_here","_law_triples"] v8:=by
 show U.ok wa (by rintro _ _ _ _ ⟨_,_,_,_,_,rfl,_⟩;rfl) λNz A outer s H vs Q E O h=>?_
 obtain⟨p,S,v,vs,ts,rfl,am,R,yS,tr,bb,an,g,q⟩:=h;show⟨_,af (sx 2 wa.nd (dZ (om rfl) (by rfl) mS kR (pa1 (uc GT O (pa1 (pv 1))))))
  (aj (aU (ixx aJ (pv 2) (uc GD O (ai (pv 0) (pa1 (pln T.len (pv 2)))))))),?_⟩
 have bc:=line5000;show⟨_,rfl,S,vs,ts,rfl,yS,tr,(),g.nd,λD H7 bd s7 m=>?_⟩;show⟨D,rfl,.inr ⟨_,m⟩,λks be B=>.inr ⟨_,rC (gX (K:=[]) m B),?_,λr ix ap pm _=>?_⟩⟩
 .rw[aT (gX (K:=[]) m B),aE,K15.ents_len];lia
 have X:=gX (K:=[]) m B;have lk:=aT X;walk_at"H7 r ap Y Z u";have a0:∀i∈ix,i<ks.length:=λi hi=>fX.mp (pm.mem_iff.mp hi);have j:=oF (Paired.imp' (λ_ _ ⟨a,e,h⟩=>⟨a,e,Z _ _ h⟩) X:SdsAt Y ks ((ents ts).map (·.1))) ix a0;have C:(ix.map λi=>((ents ts).map (·.1)).getD i (0,0)).Perm ((ents ts).map (·.1)):=qX (by rw[<-lk];show pm);generalize (ix.map λi=>((ents ts).map (·.1)).getD i (0,0))=ss at j C;generalize (ix.map λi=>ks.getD i .non)=zs at j u;have lz:=aT j;have bi:ss.length=3*ts.length:=by rw[C.length_eq,aE,K15.ents_len]
 have bl:0<ts.length:=iR.mpr an;have ad:=s7.trans Z;have I:=ad _ _ am;show⟨_,rfl,_,rfl,_,rfl,r,_,rfl,.inl (SqL.of u),p,v,_,rfl,I,R,(),gg () (),λH9 k9 y9=>?_⟩;have hd:=fm (q:=v) (b:=(zs.length:Int)) ();have ah:=df (b:=(zs.length:Int)) R;obtain⟨d,ed⟩:=AB hd.1;rw[ed] at hd |-;generalize nxt v (zs.length:Int)=a1 at ah y9 |-;have a2:r≠p:=λz=>by
  have l:=u;rw[z,I] at l;injection l with l;injection l with l;rw[<-l] at j;cases j with
  |cons h _=>obtain⟨b,e,_⟩:=h;cases e
 have L:But p Y H9:=λb o n e=>(k9 b n).trans e;have a3:d<zs.length:=();have M:zs[d]?=some zs[d]:=aP a3;obtain⟨⟨x,y⟩,a4,sd,a5,al⟩:=c_ j M;rw[a5] at M;have a6:=L _ _ (bD al I (by intro z;cases z)) al;obtain⟨⟨⟨x',y'⟩,c⟩,ba,N⟩:=aq.mp (C.mem_iff.mp (a_ a4));have N:(x',y')=(x,y):=N;cases N;show⟨r,_,(d:Int),.ref sd,rfl,rfl,SqL.of (L _ _ a2 u),cM M,q sd x y c a1 H9 (λb o n e=>L b o n (ad _ _ e)) y9 ah a6 ba⟩
end
structure WA(H:Hp)(W:Addr)(vw:List V)(w:List Lt):Prop where
 l:H W=some (.lst vw)
 p:bE H vw w
 ok:∀a∈w,Lets a
 len:w.length<=240
theorem WA.same{W:Addr}{a:List V}{w:List Lt}(h:WA H W a w)(s:Same H H'):WA H' W a w:=⟨s _ _ h.l,h.p.same s,h.ok,h.len⟩
theorem WA.dt{W:Addr}{b:List V}{w:List Lt}(h:WA H W b w):Dt [] H (.ref W) (.list (w.map ltD)):=.lst (SqL.of h.l) (rO (λa ha=>oU (h.ok a ha)) h.p)
theorem pQ(w:List Lt):(PyData.list (w.map ltD)).depth<=60:=by have:=qT w;simp only[PyData.depth];lia
theorem Kw{w:List Lt}(h:∀a∈w,Lets a):asc (w.map sgn):=λc b=>by
 obtain⟨a,ha,rfl⟩:=aq.mp b;have:=h a ha;cases a with
 |sg c=>simp only[K31.Lets] at this;simp only[sgn];lia
 |sp j k=>simp only[sgn];lia
theorem WA.but{p W:Addr}{a zs:List V}{w:List Lt}(h:WA H W a w)(c:H p=some (.lst zs))(b:But p H H')(n:W≠p):WA H' W a w:=
 ⟨b _ _ n h.l,jG (λt o e=>b _ _ (bD e c (by intro z;cases z)) e) h.p,h.ok,h.len⟩
theorem Gx(ts:List Tri):PyData.depthAll (ts.map trD)<=3:=by
 induction ts with
 |nil=>simp[PyData.depthAll]
 |cons t ts h1=>
  simp only[az,PyData.depthAll,trD,PyData.depth];lia
theorem zV(w:List Lt):(w.map λa=>[sgn a]).flatten=w.map sgn:=by
 induction w with
 |nil=>rfl
 |cons a w b=>rw[az,kI,b];rfl
def DM(vs:List V)(H:Hp)(Q:VK)(W:Addr)(a:List V)(w:List Lt):Prop:=vs=[.ref W]/\WA H W a w/\plc (w.map sgn)=some w/\∀H',Same H H'->Q (.bl true) H'
def xU:Sp:=λvs H Q _=>Exists (Ex3 (DM vs H Q))
section
theorem oR:bH ["_law_word","_law_handed","_law_signs","_law_found"] ["_law_word"] (a7 lX):=⟨rfl,rfl,rfl,⋯,rfl,⋯,⋯⟩
theorem Ek{f f1 f2:Addr}{fd d1 d2:FuncData}(U:Fun K "_law_right" "_law_right" lX f fd)(T:cW mg)(GP:Use P w K mg base 1 "plain" ["word"] sr f1 d1)(z:Use P w K mg base 3 "placed" ["text"] w8 f2 d2) :
  FnOk P w K mg base CX0 4 f fd ["_law_word"] xU:=by
 show U.ok oR (by rintro _ _ _ _ ⟨_,_,_,rfl,_⟩;rfl) λNz A outer s H vs Q E d h=>?_
 obtain⟨W,n,w,rfl,hw,C,q⟩:=h;have ad:=d.mono (show 1<=3 by decide);show⟨_,(af (sx 1 oR.nd (eJ kQ (by rfl) T.list n8 (pa1 (pv 0))))
  (af (sx 2 oR.nd (uc GP ad (pa1 (pv 1))))
  (af (aY (PW.pt (km (aH An (pv 2) (bQ LJ LO LQ xr bB (pa1 (dP (N:=["_law_letter_here"]) (fr:=[none]) (te:=tOp (iN []) (cD 0) (L2.tC (.int 0))) (jA ⋯ rfl ⋯ ⋯) rfl (cL (pv 0))
    (λC' s' H' fp Nw=>⟨gx 0 (⋯:(["_law_letter_here"]:List Str).Nodup),ft,m9 bV (pv 0) aa (λ_ _=>rfl)⟩)))) (nomark _)) (j6 (aH (iG d.units) (pv 1) (pv 0) (nomark _))))) iy a8)
  (af (sx 3 oR.nd (uc z d (pa1 (pv 2))))
  (af (aY (aH (iG d.units) (pv 3) (pv 0) (nomark _)) iy a8)
  (af (bU (tP bT PySem.F.slot_list_reverse PySem.F.type_list_reverse Ce (pv 3)))
  (aj (aU (h_ (j8 d.units) (uc z d (pa1 (pv 2))) (pv 0) (nomark _)))))))))),?_⟩
 have an:=line5000;have hlen:=aT hw.p;have ap:=hw.len;show⟨_,rfl,W,_,rfl,.inl (SqL.of hw.l),λB H1 hB s1 I=>?_⟩;have g:=hw.same s1;have wB:WA H1 B n w:=⟨I,g.p,g.ok,g.len⟩;show⟨_,rfl,B,n,w,rfl,I,g.p,(),λH2 s2=>?_⟩;have j:=g.same s2;show⟨_,rfl,rfl,_,rfl,W,rfl,⟨_,SqL.of j.l⟩,λD L=>dB (K:=[]) (a:=W) (xs:=n) (λi Z ys H'=>∃o,Z=[o]/\ys=((w.take i).map λa=>[sgn a]).map (λl=>V.str (txt l))/\Same H2 H'/\H' D=some (.lst ys))
  ⟨none,rfl,rfl,cK L,bO⟩ (by rintro i Z ys H' _ ⟨_,_,_,e,_⟩;show SqL.of (e _ _ j.l)) ?_ ?_⟩
 .rintro i x Z ys H' hx ⟨o,rfl,rfl,sm,m⟩;obtain⟨a,ha,b,rfl,hb⟩:=c_ j.p hx;show⟨_,rfl,b,_,0,_,rfl,rfl,SqT.of (sm _ _ hb),tZ a,m,?_,λHn kn yn=>⟨_,rfl,?_,λc o e=>(kn c (ar e L)).trans (sm _ _ e),yn⟩⟩
  .rw[aE,aE,bu];lia
  rw[cS,ha,aX,aX];rfl
 rintro Z ys H3 ⟨o,rfl,rfl,sm,m⟩;rw[hlen,eV] at m;have r:=j.same sm;have ah:=(wB.same s2).same sm;show⟨D,w.map λa=>[sgn a],by rw[zC],rfl,SqL.of m,?_,?_⟩
 .rw[zV,aE];lia
 rw[zV];show⟨rfl,_,rfl,?_⟩;rw[Nt rfl];show ak ⟨_,rfl,_,rfl,_,_,ah.dt,r.dt,pQ w,_,rfl,?_⟩;rw[Nq rfl,oI,Nt rfl];show ak ?_;have M:=Kw hw.ok;have O:(w.map sgn).length<=4000:=by rw[aE];lia
 show⟨_,rfl,w.map sgn,w,rfl,M,O,C,λF xs R hF S u l4=>?_⟩;have v:=r.same S;have wF:WA R F xs w:=⟨u,l4,v.ok,v.len⟩;show⟨_,rfl,_,rfl,_,_,wF.dt,v.dt,pQ w,_,rfl,?_⟩;rw[Nq rfl,oI,Nt rfl];show ak ⟨_,rfl,.inl ⟨rfl,_,SqL.of u⟩,F,xs,rfl,rfl,u,?_⟩;walk_at"R F H5 k5 y5";have X:Same H3 H5:=λb o e=>(k5 b (ar e hF)).trans (S _ _ e);have w5:=r.same X;show⟨_,rfl,w.map sgn,w,rfl,M,O,C,λF2 al H6 a0 Y y6 l6=>?_⟩;have y:=w5.same Y;have am:WA H6 F2 al w:=⟨y6,l6,y.ok,y.len⟩;show⟨_,rfl,_,_,am.dt,y.dt,pQ w,?_⟩;rw[Np ⋯,oI,Nt rfl];show q _ ((((s1.trans s2).trans sm).trans X).trans Y)
def HM(K:W.Frag)(vs:List V)(H:Hp)(Q:VK)(a:Addr)(ns:List Int):Prop:=vs=[.ref a]/\SqL [] H a (ns.map V.int)/\ns.length<=63/\∀H',Q (.bl true) H'
def mX(K:W.Frag):Sp:=λvs H Q _=>Exists (Ex2 (HM K vs H Q))
theorem kl:bH ["_law_script","_law_word","_law_other","_law_pot_here","_law_triples"] ["_law_script"] (a7 ig):=⟨rfl,rfl,rfl,⋯,rfl,⋯,⋯⟩
theorem Iu{f f1 f2 f3 f4 f5 f6 f7 f8:Addr}{d d1 d2 d3 d4 d5 d6 d7 d8:FuncData}(U:Fun K "law" "law" ig f d)
  (GP:Use P w K mg base 2 "_law_pot" ["_law_script","_law_k"] (Ag K) f1 d1) (GA:Use P w K mg base 6 "_law_apart" ["_law_pot_here","_law_most"] x_ f2 d2) (GS:Use P w K mg base 4 "_law_skin" ["_law_pot_here","_law_most"] xV f3 d3)
  (GW:Use P w K mg base 5 "_law_wound" ["_law_triples","_law_side"] sf f4 d4) (GY:Use P w K mg base 2 "_law_any_side" ["_law_pot_here","_law_triples"] v8 f5 d5) (GJ:Use P w K mg base 1 "_law_joined" ["_law_word"] w9 f6 d6)
  (GR:Use P w K mg base 4 "_law_right" ["_law_word"] xU f7 d7) (GQ:Use P w K mg base 1 "plain" ["word"] sr f8 d8) :
  FnOk P w K mg base CX0 7 f d ["_law_script"] (mX K):=by
 show U.ok kl (by rintro _ _ _ _ ⟨_,_,rfl,_⟩;rfl) λNz A outer s H vs Q E ap h=>?_
 obtain⟨a,ns,rfl,a0,cg,q⟩:=h;have m:=ap;have C:=m.mono (show 1<=6 by decide);have R:=m.mono (show 2<=6 by decide);have S:=m.mono (show 4<=6 by decide);have be:=m.mono (show 5<=6 by decide);show⟨_,(af (sx 1 kl.nd (uc GA ap (ai (uc GP R (ai (pv 0) (pa1 aa))) (pa1 aa))))
  (af (sx 2 kl.nd (bf (ai (aK (pa1 bB)) (pa1 (aK (pa1 bB))))))
  (af (sx 3 kl.nd (uc GP R (ai (pv 0) (pa1 aa))))
  (af (sx 4 kl.nd (uc GS S (ai (pv 3) (pa1 aa))))
  (af (aY (aH (iG m.units) (pv 4) (bf de) (nomark _)) (aj (sx 2 kl.nd (ixx bV (uc GW be (ai (pv 4) (pa1 (uc GY R (ai (pv 3) (pa1 (pv 4))))))) aa))) a8)
  (af (aY (PW.pt (km (jj (uc GJ C (pa1 (pv 1)))) (j6 (tI (jj (uc GR S (pa1 (pv 1)))))))) iy a8)
  (af (aY (jj (uc GJ C (pa1 (pv 2)))) (aj (aU Am)) a8)
  (aj (aU (zK (uc GR S (pa1 (pv 2))) (tN (h_ bY (h_ bY (uc GQ C (pa1 (pv 1))) (uc GQ C (pa1 (pv 2))) (nomark _)) (h_ (j8 m.units) (pv 1) (pv 2) (nomark _)) (nomark _))))))))))))),?_⟩
 have ch:=line5000;show⟨_,rfl,a,ns,0,rfl,a0,⋯,⋯,λp H1 hp s1 X=>?_⟩;obtain⟨D,X,bi⟩:∃D,H1 p=some (.lst (bZ D))/\cA D:=⟨_,X,xu ns ⋯ ⋯⟩;show⟨p,D,24,rfl,X,bi,⋯,λW r j ci H2 b2 nW cj cl cm yW lW bl bm bn jW=>?_⟩;have wW:WA H2 W r j:=⟨yW,lW,bl,bm⟩;show⟨lit1,λt1 H3 h1 s3 y3=>?_⟩;show⟨lit1,λt2 H4 h2 s4 y4=>?_⟩;show⟨lit2,λO Y hO s5 y5=>?_⟩;have a1:=(s3.trans s4).trans s5;have I:WA Y O [.ref t1,.ref t2] [.sg 67,.sg 69]:=⟨y5,.cons ⟨t1,rfl,(s4.trans s5) _ _ (y3.trans ltC)⟩ (.cons ⟨t2,rfl,s5 _ _ (y4.trans ltE)⟩ .nil),λa ha=>by
  simp only[ae,bq,or_false] at ha;rcases ha with rfl|rfl
  .exact .inl rfl
  show .inr (.inr (.inr rfl)),∅⟩
 have ad:=wW.same a1;have stay:SqL [] Y a (ns.map V.int):=by
  have go:∀{o:HO},H a=some o->Y a=some o:=λe=>a1 _ _ (b2 _ _ (ar e hp) (s1 _ _ e));rcases a0 with (e|⟨o,e⟩)|h
  .exact .inl (.inl (go e))
  .exact .inl (.inr ⟨o,go e⟩)
  show .inr h
 show⟨_,rfl,a,ns,1,rfl,stay,⋯,⋯,λp' H6 L s6 u=>?_⟩;obtain⟨M,u,bt⟩:∃M,H6 p'=some (.lst (bZ M))/\cA M:=⟨_,u,xu ns ⋯ ⋯⟩;show⟨_,rfl,p',M,rfl,u,bt,λT vt ts bw H7 nT b7 bA bF yT tr b0 g one=>?_⟩;have a2:=(ad.same s6).but u b7 (ar ad.l L);have a3:=(I.same s6).but u b7 (ar I.l L);have nO:O≠p':=ar I.l L;have b1:W≠p':=ar ad.l L;dsimp only [mW,c7];show jd (λZ H'=>∃O v b x y,Z=[some (.ref a),some (.ref W),some (.ref O),some (.ref p'),some (.ref T)]/\WA H' W r j/\WA H' O v b/\Rn [[x,y]] b) (λNX hOut=>?_) ?_
 .refine⟨_,rfl,aQ _,λpe H8 cn i y8=>?_⟩;show⟨_,_,.lst (SqL.of (i _ _ yT)) (yQ (tr.same i)),.lst (SqL.of y8) .nil,?_,_,rfl,?_⟩
  .have:=Gx ts;simp only[PyData.depth];lia
  rw[Nq rfl,lK];cases ts with
  |nil=>show ak (hOut _ _ ⟨O,_,_,0,1,rfl,a2.same i,a3.same i,zD⟩)
  |cons t0 ts=>
   have ah:=i _ _ bA;have a4:=i _ _ yT;obtain⟨N,hN⟩:=bounded (t0::ts);show aA ⟨_,rfl,_,rfl,_,rfl,p',T,bw,vt,t0::ts,rfl,ah,bF,a4,tr.same i,b0,∅,g,λsd x y c co H9 b9 cr cs b3 b4=>?_⟩;show⟨T,sd,vt,t0::ts,x,y,c,N,rfl,b9 _ _ nT a4,xO b9 ah (tr.same i),(),.inl (),g,one,hN,b3,b4,λr' W2 b5 lw o1 o2 Ha ct cv sa b6 b8 ca cb cc cd=>?_⟩;obtain⟨rl,ds,come,_,wx⟩:=cd;have a5:=wx.run [] .nil;rw[dh] at a5;show⟨r',_,0,.ref W2,rfl,rfl,SqT.of b6,rfl,hOut _ _ ⟨W2,b5,lw,x,y,rfl,((a2.same i).but ah b9 b1).same sa,⟨b8,ca,cb,cc⟩,a5⟩⟩
 clear I a3 nO y5 hO;rintro Z H8 ⟨O,v,b,x,y,rfl,n,a6,ce⟩;have l1:=n.len;have l2:=a6.len;have pW:=zE bn jW;show⟨_,rfl,W,r,j,rfl,n.l,n.p,n.ok,(),λH9 s9=>⟨_,rfl,?_⟩⟩;rw[Nu (λz=>z jW)];show ak ⟨_,rfl,W,r,j,rfl,n.same s9,pW,λcx cf=>⟨true,rfl,?_⟩⟩;have ba:=s9.trans cf;dsimp only [pG,tOrK,Ay];have B:=a6.same ba;show ak ⟨_,rfl,O,v,b,rfl,B.l,B.p,B.ok,(),λcz al=>⟨_,rfl,?_⟩⟩;by_cases jO:jns b=0
 .rw[Nu (λz=>z jO)];have pO:=zE ce jO;show ak ⟨_,rfl,O,v,b,rfl,B.same al,pO,λc0 bb=>⟨true,rfl,?_⟩⟩;rw[Nq rfl];have am:=((n.same ba).same al).same bb;show⟨_,rfl,W,r,j,rfl,am.l,am.p,(),λc1 bc=>?_⟩;have an:=((B.same al).same bb).same bc;show⟨_,rfl,O,v,b,rfl,an.l,an.p,(),λc2 bd=>⟨rfl,?_⟩⟩;show⟨_,rfl,_,rfl,_,_,((am.same bc).same bd).dt,(an.same bd).dt,pQ _,?_⟩;rw[Np ⋯,oI,yX];show⟨rfl,?_⟩;rw[show (j.map sgn==b.map sgn)=decide (j=b) by
   rw[cR,beq_iff_eq,decide_eq_true_eq];show⟨λe=>?_,λe=>by rw[e]⟩;rw[e,pO] at pW;show (cy pW).symm,Nt rfl]
  show q _
 rw[Nt jO];show aA (q _)
end
theorem len1(h:us.length=1):∃a,us=[a]:=List.length_eq_one_iff.mp h
theorem len2(h:us.length=2):∃a b,us=[a,b]:=by obtain⟨a,r,rfl⟩:=AI h;obtain⟨b,rfl⟩:=len1 (A1 h);show⟨a,b,rfl⟩
theorem len3(h:us.length=3):∃a b c,us=[a,b,c]:=by obtain⟨a,r,rfl⟩:=AI h;obtain⟨b,c,rfl⟩:=len2 (A1 h);show⟨a,b,c,rfl⟩
theorem len4(h:us.length=4):∃a b c d,us=[a,b,c,d]:=by obtain⟨a,r,rfl⟩:=AI h;obtain⟨b,c,d,rfl⟩:=len3 (A1 h);show⟨a,b,c,d,rfl⟩
structure Top(K:W.Frag)(mg:Str->Option Value)(x:Str)(st:Stmt)(f:Addr)(fd:FuncData):Prop where
 u:Fun K x x st f fd
 m:mg x=some (.ref f)
theorem zq{h:Heap}{x:Str}{st:Stmt}{f:Addr}{d:Value}{e an:Option Addr}{g:Array (Option Value)}{kV doc pm b ct:Value}(X:K.In h)(G:h.Ns mainGlobals mg)
  (a:W.nsIn K mainGlobals x=some (some (.ref f))) (l:K.lookup f=some ⟨d,e,.func (W.fnOf x x (gq st) (fQ st) (a7 st) .none kV doc pm an b ct),g⟩) (c:W.codeIn K b x=true) (k:W.keepIn K (.ref f)=true) :
  Top K mg x st f (W.fnOf x x (gq st) (fQ st) (a7 st) .none kV doc pm an b ct):=⟨IX (st:=st) l c k,u7 X G a⟩
def bJ(K:W.Frag)(x:Str)(st:Stmt):Prop:=∃(f:Addr)(a:Value)(b an:Option Addr)(c:Array (Option Value))(kV d pm cd ct:Value),W.nsIn K mainGlobals x=some (some (.ref f))/\K.lookup f=some ⟨a,b,.func (W.fnOf x x (gq st) (fQ st) (a7 st) .none kV d pm an cd ct),c⟩/\W.codeIn K cd x=true/\W.keepIn K (.ref f)=true
theorem top_in{x:Str}{st:Stmt}{f:Addr}{b:Value}{d an:Option Addr}{e:Array (Option Value)}{kV g pm cd ct:Value}(a:W.nsIn K mainGlobals x=some (some (.ref f)))(l:K.lookup f=some ⟨b,d,.func (W.fnOf x x (gq st) (fQ st) (a7 st) .none kV g pm an cd ct),e⟩)(c:W.codeIn K cd x=true)(k:W.keepIn K (.ref f)=true):bJ K x st:=⟨f,b,d,an,e,kV,g,pm,cd,ct,a,l,c,k⟩
theorem bP{h:Heap}{x:Str}{st:Stmt}(X:K.In h)(G:h.Ns mainGlobals mg)(t:bJ K x st):∃f d,Top K mg x st f d:=by obtain⟨f,b,e,an,g,kV,i,pm,cd,ct,a,l,c,k⟩:=t;show⟨_,_,zq (st:=st) X G a l c k⟩
section
theorem all_ok{f1 f2 f3 f4 f5 f6 f7 f8 f9 cj cl cm cn co cr cs ct cv cx cz bb bc bd be c0 c1 c2 c3 c4 c5 c6 c8 db dc bi:Addr}{d1 d2 d3 d4 d5 d6 d7 d8 d9 dd dj dk dl dm dp ds dw dx dy dF bl bm bn bt dK dL dT dV d0 ec ed ee ef eg bw:FuncData}(T:cW mg)(B:mg "sorted" = none)(bA:mg "min" = none)(D:mg "max" = none)(ei:mg "dict" = none)(bF:mg "any" = none){tl tf:Tok}(mL:mg "LEAST_LOOP" = some (.int 3 tl))(mO:mg "FIRST_LOOP" = some (.int 2 tf))(ej:mg "repr" = none)(ek:mg "zip" = none)
  (o:Top K mg "plain" mz f1 d1)
  (E:Top K mg "taken_up" mw f2 d2)
  (H:Top K mg "letter_found" mH f3 d3)
  (I:Top K mg "placed" lC f4 d4)
  (L:Top K mg "_law_at" sAt f5 d5)
  (M:Top K mg "_law_pot" nj f6 d6)
  (i:Top K mg "_law_digit" mJ f7 d7)
  (p:Top K mg "_law_sides" my f8 d8)
  (g:Top K mg "_law_thirds" lR f9 d9)
  (q:Top K mg "_law_free" m6 cj dd)
  (j:Top K mg "_law_corners" lI cl dj)
  (O:Top K mg "_law_fans" m7 cm dk)
  (Q:Top K mg "_law_split" mx cn dl)
  (R:Top K mg "_law_drawn" mI co dm)
  (r:Top K mg "_law_rim_sides" kU cr dp)
  (S:Top K mg "_law_grown" lY cs ds)
  (U:Top K mg "_law_ring" mF ct dw)
  (X:Top K mg "_law_beside" lH cv dx)
  (Y:Top K mg "_law_skin" mC cx dy)
  (Z:Top K mg "_law_rims" mG cz dF)
  (ad:Top K mg "_law_capped" lG bb bl)
  (s:Top K mg "_law_wanted" lD bc bm)
  (v:Top K mg "_law_step" mB bd bn)
  (ah:Top K mg "_law_letter" lE be bt)
  (x:Top K mg "_law_wound" lU c0 dK)
  (al:Top K mg "_law_third" lV c1 dL)
  (l:Top K mg "_law_can" m5 c2 dT)
  (am:Top K mg "_law_put" mY c3 dV)
  (an:Top K mg "_law_partings" kW c4 d0)
  (ap:Top K mg "_law_closing" lh c5 ec)
  (a0:Top K mg "_law_joined" lF c6 ed)
  (a1:Top K mg "_law_any_side" lq c8 ee)
  (a2:Top K mg "_law_apart" lZ db ef)
  (a3:Top K mg "_law_right" lX dc eg)
  (el:Top K mg "law" ig bi bw)
  : FnOk P w K mg base CX0 7 bi bw ["_law_script"] (mX K):=by
 have b1:=o.u.binds (ps:=["word"]) λ_ _ _ _ _ _ us f=>by obtain⟨a,rfl⟩:=len1 f;rfl
 have b2:=E.u.binds (ps:=["lengths"]) λ_ _ _ _ _ _ us f=>by obtain⟨a,rfl⟩:=len1 f;rfl
 have b3:=H.u.binds (ps:=["sign","lengths"]) λ_ _ _ _ _ _ us f=>by obtain⟨a,b,rfl⟩:=len2 f;rfl
 have b4:=I.u.binds (ps:=["text"]) λ_ _ _ _ _ _ us f=>by obtain⟨a,rfl⟩:=len1 f;rfl
 have b5:=L.u.binds (ps:=["_law_script","_law_k"]) λ_ _ _ _ _ _ us f=>by obtain⟨a,b,rfl⟩:=len2 f;rfl
 have b6:=M.u.binds (ps:=["_law_script","_law_k"]) λ_ _ _ _ _ _ us f=>by obtain⟨a,b,rfl⟩:=len2 f;rfl
 have y:=i.u.binds (ps:=["_law_pot_here","_law_base"]) λ_ _ _ _ _ _ us f=>by obtain⟨a,b,rfl⟩:=len2 f;rfl
 have b8:=p.u.binds (ps:=["_law_triple"]) λ_ _ _ _ _ _ us f=>by obtain⟨a,rfl⟩:=len1 f;rfl
 have n:=g.u.binds (ps:=["_law_triples"]) λ_ _ _ _ _ _ us f=>by obtain⟨a,rfl⟩:=len1 f;rfl
 have b0:=q.u.binds (ps:=["_law_thirds_here","_law_triple"]) λ_ _ _ _ _ _ us f=>by obtain⟨a,b,rfl⟩:=len2 f;rfl
 have a4:=j.u.binds (ps:=["_law_triples"]) λ_ _ _ _ _ _ us f=>by obtain⟨a,rfl⟩:=len1 f;rfl
 have em:=O.u.binds (ps:=["_law_triples","_law_corner"]) λ_ _ _ _ _ _ us f=>by obtain⟨a,b,rfl⟩:=len2 f;rfl
 have en:=Q.u.binds (ps:=["_law_triples"]) λ_ _ _ _ _ _ us f=>by obtain⟨a,rfl⟩:=len1 f;rfl
 have eo:=R.u.binds (ps:=["_law_pot_here","_law_most"]) λ_ _ _ _ _ _ us f=>by obtain⟨a,b,rfl⟩:=len2 f;rfl
 have ca:=r.u.binds (ps:=["_law_triples"]) λ_ _ _ _ _ _ us f=>by obtain⟨a,rfl⟩:=len1 f;rfl
 have ep:=S.u.binds (ps:=["_law_pot_here","_law_most"]) λ_ _ _ _ _ _ us f=>by obtain⟨a,b,rfl⟩:=len2 f;rfl
 have eq:=U.u.binds (ps:=["_law_pot_here"]) λ_ _ _ _ _ _ us f=>by obtain⟨a,rfl⟩:=len1 f;rfl
 have er:=X.u.binds (ps:=["_law_one","_law_other"]) λ_ _ _ _ _ _ us f=>by obtain⟨a,b,rfl⟩:=len2 f;rfl
 have es:=Y.u.binds (ps:=["_law_pot_here","_law_most"]) λ_ _ _ _ _ _ us f=>by obtain⟨a,b,rfl⟩:=len2 f;rfl
 have et:=Z.u.binds (ps:=["_law_triples"]) λ_ _ _ _ _ _ us f=>by obtain⟨a,rfl⟩:=len1 f;rfl
 have ev:=ad.u.binds (ps:=["_law_triples"]) λ_ _ _ _ _ _ us f=>by obtain⟨a,rfl⟩:=len1 f;rfl
 have cb:=s.u.binds (ps:=["_law_loops"]) λ_ _ _ _ _ _ us f=>by obtain⟨a,rfl⟩:=len1 f;rfl
 have cc:=v.u.binds (ps:=["_law_loops","_law_letter_here","_law_x"]) λ_ _ _ _ _ _ us f=>by obtain⟨a,b,c,rfl⟩:=len3 f;rfl
 have ew:=ah.u.binds (ps:=["_law_loops","_law_thirds_here","_law_come","_law_x"]) λ_ _ _ _ _ _ us f=>by obtain⟨a,b,c,d,rfl⟩:=len4 f;rfl
 have cd:=x.u.binds (ps:=["_law_triples","_law_side"]) λ_ _ _ _ _ _ us f=>by obtain⟨a,b,rfl⟩:=len2 f;rfl
 have ey:=al.u.binds (ps:=["_law_front","_law_letter_here"]) λ_ _ _ _ _ _ us f=>by obtain⟨a,b,rfl⟩:=len2 f;rfl
 have a6:=l.u.binds (ps:=["_law_front","_law_letter_here"]) λ_ _ _ _ _ _ us f=>by obtain⟨a,b,rfl⟩:=len2 f;rfl
 have ez:=am.u.binds (ps:=["_law_front","_law_letter_here"]) λ_ _ _ _ _ _ us f=>by obtain⟨a,b,rfl⟩:=len2 f;rfl
 have eA:=an.u.binds (ps:=["_law_front"]) λ_ _ _ _ _ _ us f=>by obtain⟨a,rfl⟩:=len1 f;rfl
 have eB:=ap.u.binds (ps:=["_law_front"]) λ_ _ _ _ _ _ us f=>by obtain⟨a,rfl⟩:=len1 f;rfl
 have eC:=a0.u.binds (ps:=["_law_word"]) λ_ _ _ _ _ _ us f=>by obtain⟨a,rfl⟩:=len1 f;rfl
 have eE:=a1.u.binds (ps:=["_law_pot_here","_law_triples"]) λ_ _ _ _ _ _ us f=>by obtain⟨a,b,rfl⟩:=len2 f;rfl
 have eH:=a2.u.binds (ps:=["_law_pot_here","_law_most"]) λ_ _ _ _ _ _ us f=>by obtain⟨a,b,rfl⟩:=len2 f;rfl
 have eT:=a3.u.binds (ps:=["_law_word"]) λ_ _ _ _ _ _ us f=>by obtain⟨a,rfl⟩:=len1 f;rfl
 have TM:um mg:=⟨bF,D,bA,ej⟩;have g6:FnOk P w K mg base CX0 _ _ _ _ _:=Ir M.u L.u b5 L.m L.u.kp T;have A:FnOk P w K mg base CX0 _ _ _ _ _:=Et i.u;have g8:FnOk P w K mg base CX0 _ _ _ _ _:=Ej p.u;have x9:FnOk P w K mg base CX0 1 f9 d9 ["_law_triples"] (spX kZ):=FnOk.ex λφ h=>Ca (λ{a b} e=>h a b e) g.u;have C:FnOk P w K mg base CX0 1 f9 d9 ["_law_triples"] K15.spThirds:=x9.imp λ_ _ _ _ z=>Dx z;have ce:FnOk P w K mg base CX0 _ _ _ _ _:=FS q.u T ⟨g8,b8,p.m,p.u.kp⟩;have a5:FnOk P w K mg base CX0 _ _ _ _ _:=Cb j.u B;have e0:FnOk P w K mg base CX0 _ _ _ _ _:=FT O.u B ⟨C,n,g.m,g.u.kp⟩;have e1:FnOk P w K mg base CX0 _ _ _ _ _:=Ei Q.u T D ⟨a5.mono ⋯,a4,j.m,j.u.kp⟩ ⟨e0,em,O.m,O.u.kp⟩;have cf:FnOk P w K mg base CX0 _ _ _ _ _:=Iq r.u B ⟨C,n,g.m,g.u.kp⟩;have e2:FnOk P w K mg base CX0 _ _ _ _ _:=Ep S.u T ⟨A.mono ⋯,y,i.m,i.u.kp⟩ ⟨C.mono ⋯,n,g.m,g.u.kp⟩ ⟨ce,b0,q.m,q.u.kp⟩ ⟨cf,ca,r.m,r.u.kp⟩ ⟨a5.mono ⋯,a4,j.m,j.u.kp⟩;have e3:FnOk P w K mg base CX0 _ _ _ _ _:=Eo Z.u B ei bA ⟨cf,ca,r.m,r.u.kp⟩;have e4:FnOk P w K mg base CX0 4 bb bl ["_law_triples"] (spN rB):=FnOk.ex λN _=>CS ad.u T ek ⟨e3,et,Z.m,Z.u.kp⟩;have cg:FnOk P w K mg base CX0 1 bc bm ["_law_loops"] (spX oy):=FnOk.ex λφ h=>B_ (λ{a b} e=>h a b e) s.u T;have ch:FnOk P w K mg base CX0 1 bd bn ["_law_loops","_law_letter_here","_law_x"] (spX oP):=FnOk.ex λφ h=>Eh v.u T;have e5:FnOk P w K mg base CX0 2 be bt ["_law_loops","_law_thirds_here","_law_come","_law_x"] (spX rz):=FnOk.ex λφ h=>CP (λ{a b} e=>h a b e) ah.u ⟨cg.imp λ_ _ _ _ z=>⟨φ,h,z⟩,cb,s.m,s.u.kp⟩;have ci:FnOk P w K mg base CX0 _ _ _ _ _:=Ee x.u T ⟨x9,n,g.m,g.u.kp⟩ ⟨e4,ev,ad.m,ad.u.kp⟩ ⟨e5,ew,ah.m,ah.u.kp⟩ ⟨ch,cc,v.m,v.u.kp⟩;have e6:FnOk P w K mg base CX0 _ _ _ _ _:=Ef al.u T;have ba:FnOk P w K mg base CX0 _ _ _ _ _:=Iv l.u T TM ⟨e6,ey,al.m,al.u.kp⟩ ⟨cg.imp λ_ _ _ _ z=>Dp z,cb,s.m,s.u.kp⟩ ⟨x9.imp λ_ _ _ _ z=>Dw z,n,g.m,g.u.kp⟩;have e7:FnOk P w K mg base CX0 _ _ _ _ _:=FR am.u TM ⟨ba,a6,l.m,l.u.kp⟩ ⟨ch.imp λ_ _ _ _ z=>HJ z,cc,v.m,v.u.kp⟩;have e8:FnOk P w K mg base CX0 _ _ _ _ _:=BF an.u T ⟨ba,a6,l.m,l.u.kp⟩;have e9:FnOk P w K mg base CX0 _ _ _ _ _:=Cc ap.u T;have fb:FnOk P w K mg base CX0 _ _ _ _ _:=Es R.u T ⟨A.mono ⋯,y,i.m,i.u.kp⟩ ⟨C.mono ⋯,n,g.m,g.u.kp⟩ ⟨ce,b0,q.m,q.u.kp⟩;have fd:FnOk P w K mg base CX0 _ _ _ _ _:=FQ U.u T D ⟨A.mono ⋯,y,i.m,i.u.kp⟩ ⟨a5.mono ⋯,a4,j.m,j.u.kp⟩ ⟨g8.mono ⋯,b8,p.m,p.u.kp⟩;have fi:FnOk P w K mg base CX0 _ _ _ _ _:=CT X.u T D ⟨a5.mono ⋯,a4,j.m,j.u.kp⟩;have fl:FnOk P w K mg base CX0 _ _ _ _ _:=Em Y.u ⟨A.mono ⋯,y,i.m,i.u.kp⟩ ⟨fd,eq,U.m,U.u.kp⟩ ⟨e1,en,Q.m,Q.u.kp⟩ ⟨fi,er,X.m,X.u.kp⟩ ⟨e2,ep,S.m,S.u.kp⟩ ⟨fb,eo,R.m,R.u.kp⟩;have g1:FnOk P w K mg base CX0 _ _ _ _ _:=El o.u;have g2:FnOk P w K mg base CX0 _ _ _ _ _:=Eg E.u;have g3:FnOk P w K mg base CX0 _ _ _ _ _:=Er H.u ⟨g2,b2,E.m,E.u.kp⟩ mL;have g4:FnOk P w K mg base CX0 _ _ _ _ _:=CO I.u T ⟨g3,b3,H.m,H.u.kp⟩ mL mO;have fn:FnOk P w K mg base CX0 _ _ _ _ _:=CQ a0.u bF;have fo:FnOk P w K mg base CX0 _ _ _ _ _:=Cd a1.u T B ⟨A,y,i.m,i.u.kp⟩ ⟨C,n,g.m,g.u.kp⟩;have fp:FnOk P w K mg base CX0 _ _ _ _ _:=Eu a2.u T ⟨ba,a6,l.m,l.u.kp⟩ ⟨A,y,i.m,i.u.kp⟩ ⟨e8,eA,an.m,an.u.kp⟩ ⟨e7,ez,am.m,am.u.kp⟩ ⟨ci,cd,x.m,x.u.kp⟩ ⟨e9,eB,ap.m,ap.u.kp⟩;have fv:FnOk P w K mg base CX0 _ _ _ _ _:=Ek a3.u T ⟨g1,b1,o.m,o.u.kp⟩ ⟨g4,b4,I.m,I.u.kp⟩;show Iu el.u ⟨g6,b6,M.m,M.u.kp⟩ ⟨fp,eH,a2.m,a2.u.kp⟩ ⟨fl,es,Y.m,Y.u.kp⟩ ⟨ci,cd,x.m,x.u.kp⟩ ⟨fo,eE,a1.m,a1.u.kp⟩ ⟨fn,eC,a0.m,a0.u.kp⟩ ⟨fv,eT,a3.m,a3.u.kp⟩ ⟨g1,b1,o.m,o.u.kp⟩
end
theorem all_mk{l:W.OpenLaw}{h:Heap}{fa:Addr}(X:K.In h)(G:h.Ns mainGlobals mg)(b:mg "law" = some (.ref fa))
  (h1:bJ K "plain" mz)
  (h2:bJ K "taken_up" mw)
  (d:bJ K "letter_found" mH)
  (f:bJ K "placed" lC)
  (g:bJ K "_law_at" sAt)
  (i:bJ K "_law_pot" nj)
  (j:bJ K "_law_digit" mJ)
  (m:bJ K "_law_sides" my)
  (n:bJ K "_law_thirds" lR)
  (o:bJ K "_law_free" m6)
  (p:bJ K "_law_corners" lI)
  (q:bJ K "_law_fans" m7)
  (r:bJ K "_law_split" mx)
  (u:bJ K "_law_drawn" mI)
  (x:bJ K "_law_rim_sides" kU)
  (y:bJ K "_law_grown" lY)
  (z:bJ K "_law_ring" mF)
  (A:bJ K "_law_beside" lH)
  (B:bJ K "_law_skin" mC)
  (C:bJ K "_law_rims" mG)
  (D:bJ K "_law_capped" lG)
  (E:bJ K "_law_wanted" lD)
  (H:bJ K "_law_step" mB)
  (I:bJ K "_law_letter" lE)
  (L:bJ K "_law_wound" lU)
  (M:bJ K "_law_third" lV)
  (N:bJ K "_law_can" m5)
  (O:bJ K "_law_put" mY)
  (P:bJ K "_law_partings" kW)
  (Q:bJ K "_law_closing" lh)
  (R:bJ K "_law_joined" lF)
  (S:bJ K "_law_any_side" lq)
  (U:bJ K "_law_apart" lZ)
  (Y:bJ K "_law_right" lX)
  (Z:bJ K "law" ig)
  (ad:W.nsIn K mainGlobals "len" = some none)
  (ah:W.nsIn K mainGlobals "int" = some none)
  (al:W.nsIn K mainGlobals "str" = some none)
  (am:W.nsIn K mainGlobals "isinstance" = some none)
  (ap:W.nsIn K mainGlobals "range" = some none)
  (a0:W.nsIn K mainGlobals "list" = some none)
  (a1:W.nsIn K mainGlobals "tuple" = some none)
  (a2:W.nsIn K mainGlobals "bool" = some none)
  (a3:W.nsIn K mainGlobals "all" = some none)
  (a4:W.nsIn K mainGlobals "ValueError" = some none)
  (a5:W.nsIn K mainGlobals "reversed" = some none)
  (a6:W.nsIn K mainGlobals "enumerate" = some none)
  (ba:W.nsIn K mainGlobals "sorted" = some none)
  (bb:W.nsIn K mainGlobals "min" = some none)
  (bc:W.nsIn K mainGlobals "max" = some none)
  (bd:W.nsIn K mainGlobals "dict" = some none)
  (be:W.nsIn K mainGlobals "any" = some none)
  (bi:W.nsIn K mainGlobals "repr" = some none)
  (bl:W.nsIn K mainGlobals "zip" = some none)
  {tl tf:Tok}
  (bm:W.nsIn K mainGlobals "LEAST_LOOP" = some (some (.int 3 tl)))
  (bn:W.nsIn K mainGlobals "FIRST_LOOP" = some (some (.int 2 tf)))
  : ∃fd:FuncData,(∀(s:Shared)(v:Value),BindsTo s fd ⟨[v],[]⟩ [("_law_script",v)])/\∀base:Heap,K.In base->base.Ns mainGlobals mg->FnOk l.prog w K mg base CX0 7 fa fd ["_law_script"] (mX K):=by
 obtain⟨cn,oc,od,an,sl,kV,dc,pm,cd,ct,a,l,c,k⟩:=Z;have e:=b.symm.trans (u7 X G a);cases e;have T:cW mg:=⟨dA X G ad,dA X G ah,dA X G al,dA X G am,dA X G ap,dA X G a0,dA X G a1,dA X G a2,dA X G a3,dA X G a4,dA X G a5,dA X G a6⟩;obtain⟨_,_,U1⟩:=bP X G h1;obtain⟨_,_,U2⟩:=bP X G h2;obtain⟨_,_,U3⟩:=bP X G d;obtain⟨_,_,U4⟩:=bP X G f;obtain⟨_,_,U5⟩:=bP X G g;obtain⟨_,_,U6⟩:=bP X G i;obtain⟨_,_,U7⟩:=bP X G j;obtain⟨_,_,U8⟩:=bP X G m;obtain⟨_,_,U9⟩:=bP X G n;obtain⟨_,_,bt⟩:=bP X G o;obtain⟨_,_,bw⟩:=bP X G p;obtain⟨_,_,bA⟩:=bP X G q;obtain⟨_,_,bF⟩:=bP X G r;obtain⟨_,_,b0⟩:=bP X G u;obtain⟨_,_,b1⟩:=bP X G x;obtain⟨_,_,b2⟩:=bP X G y;obtain⟨_,_,b3⟩:=bP X G z;obtain⟨_,_,b4⟩:=bP X G A;obtain⟨_,_,b5⟩:=bP X G B;obtain⟨_,_,b6⟩:=bP X G C;obtain⟨_,_,b7⟩:=bP X G D;obtain⟨_,_,b8⟩:=bP X G E;obtain⟨_,_,b9⟩:=bP X G H;obtain⟨_,_,ca⟩:=bP X G I;obtain⟨_,_,cb⟩:=bP X G L;obtain⟨_,_,cc⟩:=bP X G M;obtain⟨_,_,ce⟩:=bP X G N;obtain⟨_,_,cf⟩:=bP X G O;obtain⟨_,_,cg⟩:=bP X G P;obtain⟨_,_,ch⟩:=bP X G Q;obtain⟨_,_,ci⟩:=bP X G R;obtain⟨_,_,cj⟩:=bP X G S;obtain⟨_,_,cl⟩:=bP X G U;obtain⟨_,_,cm⟩:=bP X G Y;show⟨W.fnOf "law" "law" (gq ig) (fQ ig) (a7 ig) .none kV dc pm an cd ct,λs v=>.of_eq rfl,λbase _ _=>all_ok T (dA X G ba) (dA X G bb) (dA X G bc) (dA X G bd) (dA X G be) (u7 X G bm) (u7 X G bn) (dA X G bi) (dA X G bl) U1 U2 U3 U4 U5 U6 U7 U8 U9 bt bw bA bF b0 b1 b2 b3 b4 b5 b6 b7 b8 b9 ca cb cc ce cf cg ch ci cj cl cm (zq (st:=ig) X G a l c k)⟩
theorem walk{l:W.OpenLaw}{q:Program}{loose:List Str}{XP:(Str->Option Value)->Heap->Prop}{YP:World->Heap->Prop}{d:DefRec}{K:Params->W.Frag}(b:l.most=some 63)(c:d.params.defaults=[])
  (e:∀(w:World)(h:Heap),YP w h->(K w.params).In h) (g:∀(w:World)(a:Addr)(o:Obj),(K w.params).lookup a=some o->o.cls≠.type "list")
  (F:∀(w:World)(mg:Str->Option Value)(fa:Addr)(h:Heap),(K w.params).In h->h.Ns mainGlobals mg->mg d.name=some (.ref fa)->
   ∃fd:FuncData,(∀(s:Shared)(u:Value),BindsTo s fd ⟨[u],[]⟩ [("_law_script",u)])/\∀base:Heap,(K w.params).In base->base.Ns mainGlobals mg->FnOk l.prog w (K w.params) mg base CX0 7 fa fd ["_law_script"] (mX (K w.params))) :
  W.WalkO q loose XP YP l.row.toRowW d [] (λf vs=>PySem.call f vs):=
 L2.walk_of (n:=63) (k:=7) (x:="_law_script") (CX:=λ_=>CX0) (sp:=λw=>mX (K w.params)) b ⋯ c ⟨rfl,⋯,⋯,rfl⟩ e F g (λ_ _ a ns i _ j=>⟨a,ns,rfl,j,i,λ_=>rfl⟩) λ_ _ _ _ _ z=>z
end K71
end
namespace K15
open PySem L2 PySem.W K51
theorem kf_nl(P:Params)(a:Addr)(o:Obj)(h:(kf P).lookup a=some o):o.cls≠.type "list":=Ao (show _=true by kernel_rfl) h
end K15
def PySem.W.Fast.tw13561732863419043236:PySem.Program:=PySem.Challenge.pw_shapestring_k53_whole_signs_are_enough
theorem PySem.W.Fast.te13561732863419043236:PySem.Challenge.pw_shapestring_k53_whole_signs_are_enough=PySem.W.Fast.tw13561732863419043236:=rfl
open PySem PySem.W PyProof.Rows
set_option maxRecDepth 100000 in
set_option maxHeartbeats 0 in
theorem PySem.Challenge.cw_shapestring_k53_whole_signs_are_enough_holds : PySem.Challenge.rw_shapestring_k53_whole_signs_are_enough.Holds := by
 w_on;o_law
 show W.holds_open (q:=K15.view) (loose:=[]) (Xt:=λs=>xlAt K15.view [] s&&recOk [] s) (XP:=XL K15.view []) (Yf:=Hook.obs (kHook K15.kf K15.ads (λ_=>by kernel_rfl))) (Ya:=Hook.val (kHook K15.kf K15.ads (λ_=>by kernel_rfl))) (YP:=Hook.says (kHook K15.kf K15.ads (λ_=>by kernel_rfl))) (N:=3098) K15.left (Hook.of _) (Hook.keeps _)
  (λs e=>xl_of s (KH.mp e).1) XL.keeps (by rfl) (by rfl) (by rfl) (λs e=>recFacts_of (KH.mp e).2) (by rfl) (by assumption) ⋯ ⟨rfl,rfl,rfl,rfl,rfl,⋯⟩ ?hw ?hc
 case hw=>w_witness2
 k_fill
 show K71.walk (l:=PySem.Challenge.rw_shapestring_k53_whole_signs_are_enough) rfl rfl (λw h Y=>W.kIn_of Y) (λw=>K15.kf_nl w.params) ?F
 case F=>
  intro w mg fa h KX G hmg
  refine' K71.all_mk KX G hmg ?_ ?_ ?_ ?_ ?_ ?_ ?_ ?_ ?_ ?_ ?_ ?_ ?_ ?_ ?_ ?_ ?_ ?_ ?_ ?_ ?_ ?_ ?_ ?_ ?_ ?_ ?_ ?_ ?_ ?_ ?_ ?_ ?_ ?_ ?_ ?_ ?_ ?_ ?_ ?_ ?_ ?_ ?_ ?_ ?_ ?_ ?_ ?_ ?_ ?_ ?_ ?_ ?_ ?_ ?cl ?cf
  (case cl=>k_is);(case cf=>k_is)
  all_goals first|k_is|(refine' K71.top_in ?a ?l ?c ?k;(case a=>k_is);(case l=>k_is);(case c=>k_is);(case k=>k_is))
#print axioms PySem.Challenge.cw_shapestring_k53_whole_signs_are_enough_holds

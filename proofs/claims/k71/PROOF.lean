import PyProof.Rows.All
import Wide.All
import OpenK.AllK
import Wide.FinOn
import Lean
import PyProof.EqAt
import PyProof.EqKinds
import PyProof.TupleCall
import PyProof.NeData
import PyProof.P3In
import PyProof.DictItems
import KE.KPairComp
import KE.KRevIter
import PyProof.Draws
import PyProof.EnumMake
import PyProof.Rows.Chain
import PyProof.ReprRoads
import PyProof.DictCompW
import PyProof.AttrMissHeap
import PyProof.MeetsSeq3
import KE.KEqDict
import PyProof.Rows.ZipGen
import PyProof.Rows.StrRev
import Open.Pieces
import KE.KRevSl
import KE.KItemsList
import KE.KTryMore
import PyProof.DictUpdate
import PySem.Challenge.RW_shapestring_k71_whole_stretches
set_option Elab.async false
set_option linter.all false
set_option maxRecDepth 100000
set_option maxHeartbeats 0
open Bool renaming false_ne_true->cq,eq_iff_iff->dn,false_eq_true->pz,and_eq_true->sU,not_true->yI,and_eq_true_iff->Im,false_or->Io,or_eq_true->Ip,or_false->Iq
open Classical renaming byContradiction->sY
open List renaming mem_cons->af,length_append->ar,mem_map->aw,mem_append->ay,map_cons->aB,length_map->aQ,mem_singleton->aR,getElem?_eq_some_iff->aS,nodup_cons->aV,length_drop->aW,getElem?_eq_getElem->aX,mem_cons_of_mem->aY,length_cons->aZ,mem_of_getElem?->a7,not_mem_nil->a8,length_singleton->bg,length_take->bG,append_assoc->bH,map_append->bI,mem_append_right->bN,size_toArray->bX,nodup_append->bZ,mem_append_left->cf,perm_append_comm->cR,take_add_one->cU,append_nil->cZ,getElem?_map->c7,map_map->c9,mem_iff_getElem?->dB,getElem?_append_left->dS,mem_of_mem_drop->eK,map_nil->eO,cons_append->eY,drop_eq_getElem_cons->eZ,getElem?_cons_succ->e_,take_append_drop->fc,mem_cons_self->fE,mem_reverse->fG,sum_cons->fH,pairwise_map->fX,take_length->fY,length_reverse->gD,mem_of_mem_take->gE,mem_range->gF,take_of_length_le->gG,getElem?_append_right->gZ,reverse_cons->g_,all_eq_true->iB,filter_cons->iC,length_filter_le->iD,length_pos_iff->iE,lookup_cons->iF,mem_filter->iG,mem_flatMap->iH,sum_append->iI,filter_append->jd,flatMap_cons->je,length_nil->jf,mem_flatten->jg,nil_append->jh,any_cons->j5,getElem_mem->j6,nodup_nil->j7,reverse_perm->j8,append_of_mem->m6,drop_zero->m7,ext_getElem->m8,filter_nil->m9,find?_cons->m_,getElem?_eq_none->ng,take_succ_cons->nh,any_eq_true->pE,any_map->pG,concat_eq_append->pH,eq_nil_or_concat->pI,flatMap_nil->pJ,getElem?_of_mem->pK,getLast?_eq_getElem?->pM,length_dropLast->pN,length_range->pP,map_congr_left->pQ,map_take->pR,pairwise_singleton->pU,perm_middle->pV,take_zero->pW,dropLast_concat->tm,drop_length->tq,ext_getElem?->tE,extract_eq_take_drop->tF,filterMap_cons->tG,flatMap_append->tH,getElem?_drop->tI,getLast?_eq_some_iff->tJ,map_reverse->tK,mem_filterMap->tL,pairwise_append->tM,reverse_reverse->tN,sum_nil->tO,all_cons->yO,drop_drop->yQ,drop_eq_nil_of_le->yT,drop_of_length_le->yU,eraseIdx_eq_take_drop_succ->yV,exists_cons_of_length_eq_add_one->yX,flatten_append->yY,flatten_cons->y_,foldl_cons->za,getElem?_take_of_lt->zb,head?_eq_getElem?->zc,map_drop->zd,mem_iff_getElem->ze,of_mem_zip->zf,pairwise_cons->zg,pairwise_iff_getElem->zh,all_map->Iw,any_nil->Iy,drop_take->Iz,eraseIdxIfInBounds_toArray->IA,exists_mem_of_ne_nil->IB,filter_congr->IC,filter_cons_of_neg->ID,filter_eq_self->IE,foldl_append->IF,foldl_nil->IG,getElem?_append->IH,getElem?_eq_none_iff->II,getElem?_range->IJ,getElem?_set_ne->IK,getElem?_set_self->IL,length_eq_zero_iff->IM,length_erase_of_mem->IP,length_pos_of_mem->IQ,map_eq_nil_iff->IR,map_id->IS,mem_erase_of_ne->IT,mem_of_mem_eraseIdx->IU,nodup_range->IV,perm_iff_count->IW
open List.Pairwise renaming imp_of_mem->pC
open List.Perm renaming append_right->eJ,append_left->gC,refl->pD,of_eq->yN
open List.Sublist renaming map->J4
open List.cons renaming injEq->yP
open Nat renaming le_refl->aC,zero_le->aT,le_trans->bV,ne_of_lt->cC,lt_of_lt_of_le->c_,lt_irrefl->fI,lt_succ_self->ji,mod_eq_of_lt->j9,add_sub_cancel->ni,add_sub_cancel_left->nj,le_of_lt->nk,min_eq_left->nq,mod_lt->nu,mod_self->ny,zero_add->nC,le_add_right->pX,le_succ->pY,sub_self->pZ,add_le_add_left->tP,add_zero->tQ,le_of_eq->tR,max_eq_right->tS,le_of_not_lt->zi,log2_lt->zj,lt_of_le_of_lt->zk,lt_succ_of_lt->zl,lt_trans->zm,ne_of_gt->zo,pow_le_pow_right->zp,sub_zero->zq,add_assoc->IX,add_lt_add_left->IY,add_mul->IZ,le_of_lt_succ->I0,lt_succ_iff->I_,not_lt_zero->Ja,succ_ne_self->Jb
open Nat.succ renaming inj->zr
open Ne renaming symm->aF
open Option renaming map_eq_some_iff->fJ,map_some->hJ,isSome_iff_exists->tV,getD_some->zt,isSome_map->zu,bind_some->Je,getD_none->Jf
open Option.some renaming inj->cH,injEq->J5
open Prod renaming ext->nE
open Prod.mk renaming injEq->bq,inj->eP
open PyProof.Rows renaming wpS_bind->az,wpS_pure->aG,wpS_forRange->eL,wpS_mono->eQ,wpS_get->hU,wpS_modify->iK,boot_list->j_,boot_repr->nG,callWith_type1->nH,Subscript_->tZ,reverseSlice'_eq->t_,boot_int->zw,boot_max->zB,boot_min->zC,args_list_sort->JC,boot_enumerate->JD,entry_list_sort->JE,slot_list_sort->JI,subscriptTail_builtinR->JJ,boot_any->J8,boot_dict->J9,boot_tuple->J_,callWith_builtin1->Ka,floordiv_int->Kb
open PySem renaming wpAny_bind->ao,wpAny_pure->aO,boot_len->cF,wpAny_mono->fe,wpAny_holding->fK,sizeLine_eq->gH,wpAny_truthy_bool->iJ,wpAny_call_entry->kg,wpAny_passesOwn->kh,mem_of_lookup->nI,wpAny_loadPart'->nJ,wpAny_newObj_type->nK,tupleKind_room_in1->qc,wpAny_pyIter_list->qd,call_meets->tY,codeAny_builtin->t4,plainId_quiet->t8,wpAny_callSpecial?_slot->ua,wpAny_execs_nil->ub,wpAny_fieldsOf->uc,wpAny_of_eq->ue,wpAny_pyIter_enum->uf,wpAny_standAt->ug,wpAny_typeNameOfWhole_keyiter->uh,wpAny_typeNameOf_keyiter->ui,call_meets->zG,call_meetsIn->zH,codeAny_mono->zI,evalPart_none->zJ,seqIndex_neg->zK,seqIndex_of->zL,slot_list_getitem->zM,wpAny_Call_Name_kw->zN,wpAny_Name->zO,wpAny_attempt->zP,wpAny_dictEntries->zQ,wpAny_dictEpoch->zR,wpAny_eqBool_int->zS,wpAny_field->zT,wpAny_isOneOf_keyiter->zU,wpAny_pyIter_revIter->zV,wpAny_pyNext_list_end->zW,wpAny_pyNext_list_item->zX,wpAny_rule->zY,wpAny_setField->zZ,wpAny_typeOf->z6,fitsIndex_both->JF,repr_of_reads'->JG,wpAny_Call_method->JK,wpAny_Call_method_late->JL,wpAny_Compare1->JM,wpAny_Dict_empty->JN,wpAny_assign_Name->JO,wpAny_comprehension_free->JP,wpAny_execs_cons->JQ,wpAny_getItem_list_slice->JR,wpAny_isTrue_Compare1->JS,wpAny_letOwnedTupleGo_enum->JT,wpAny_loadName_cell->JU,wpAny_loadName_local->JV,wpAny_notOrdered_dict->JW,wpAny_pyIter_zip->JX,wpAny_specialOf->JY
open PySem.Around renaming under_plainId->sT
open PySem.AutoSeq1 renaming wpAny_loadPart'->eX,list_insert_list_int_val_1->Kc,wpAny_loadPart'->Kd
open PySem.Calls renaming callWith_builtin->pA,evalArgs_plain->sV,spliced_cons->sW,spliced_nil->sX,Name_function_global->Ir
open PySem.EqMixed renaming eq_bool_str->Ke,eq_int_str->Kf,eq_str_bool->Kg,eq_str_int->Kh,ne_bool_str->Ki,ne_int_str->Kj,ne_str_bool->Kk,ne_str_int->Kl
open PySem.EqNone renaming eq_bool_none->Km,eq_int_none->Kn,eq_none_bool->Ko,eq_none_int->Kp,eq_none_none->Kq,eq_none_str->Kr,eq_str_none->Ks,ne_bool_none->Kt,ne_int_none->Ku,ne_none_bool->Kv,ne_none_int->Kw,ne_none_none->Kx,ne_none_str->Kz,ne_str_none->KA
open PySem.F renaming plainAttrs_list->cM,slot_list_append->da,type_list_append->de,slot_dict_keyiterator_next->qa,slot_lri_next->tW,slot_dict_get->zE,slot_list_getattribute->zF,args_dict_get_2->Ji,args_dict_keyiterator_next_1->Jj,args_lri_next_1->Jk,entry_dict_get->Jl,entry_dict_keyiterator_next->Jm,entry_lri_next->Jn,plainAttrs_dict->Jo,slot_dict_iter->Jp,slot_dict_pop->Jq,slot_list_insert->Jr,slot_list_lt->Js,slot_list_pop->Jt,slot_tuple_index->Ju,type_list_pop->Jv
open PySem.Heap renaming lt_size->bf,get?_push_of_some->bP,get?_push_size->cQ,get?_none_of_le->tj,get?_update_ne->yJ,get?_update_self->yK,size_push->yM,get?_update_other->Iv
open PySem.Heap.DictOf renaming new->JZ
open PySem.Heap.ExtBut renaming refl->J2
open PySem.Heap.IsSliceOf renaming new->Iu
open PySem.Heap.SameBut renaming update->s_,refl->J3
open PySem.MeetsSeq3 renaming plain_eq_loop->tX,entry_eq_loop->Jw
open PySem.Obj renaming data_mapFields->tU,cls_mapFields->Jc,isFreed_of_fields->Jd
open PySem.Paired renaming length->p_,snoc->Jg
open PySem.PassesOwn renaming never->cD
open PySem.PyData renaming noDict_hsm->Jh
open PySem.PyData.int renaming injEq->J6
open PySem.PyData.tuple renaming injEq->J7
open PySem.SeqAt renaming compareEq_reads->KC,compareNe_reads->KD,eqAt_reads->KF,in_list_reads->KG,in_tuple_reads->KH
open PySem.SeqAt.EqAt renaming int_str->Jz,str_int->JA,bool_bool->KJ,bool_int->KL,bool_none->KM,bool_str->KN,int_bool->KO,int_int->KP,int_none->KQ,none_bool->KR,none_int->KS,none_str->KU,same->KW,str_bool->KY,str_none->KZ,str_str->K0
open PySem.SeqAt.ReadsAll renaming length->KB
open PySem.Str renaming length_append->qb
open PySem.W renaming mg_none_of->dM,cellsFrom_some->Jx,mg_of->Jy
open PySem.W.KIN renaming signs_num->KI
open PySem.Walks renaming list->JB
open Std.Legacy.Range renaming forIn_eq_forIn_range'->K1
theorem K2.{u} {c : Prop} [h : Decidable c] (hnc : ¬c) {α : Sort u} {t e : α} : (if c then t else e)=e := if_neg hnc
theorem K3.{u} {c : Prop} [h : Decidable c] (hc : c) {α : Sort u} {t e : α} : (if c then t else e)=t := if_pos hc
theorem K4 {p : Prop} [h : Decidable p] (hp : p) : decide p=true := decide_eq_true hp
theorem K5 {p : Prop} [h : Decidable p] (hp : ¬p) : decide p=false := decide_eq_false hp
theorem K6 {p : Prop} [h : Decidable p] (hp : decide p=true) : p := of_decide_eq_true hp
variable {pins:List (PySem.Addr×PySem.Obj)} {s:PySem.Shared} {P:PySem.Program} {w:PySem.World} {A:PySem.Around} {mg:PySem.Str->Option PySem.Value} {base:PySem.Heap} {us:List PySem.Value} {E:PySem.Value->PySem.Shared->Prop} {fd:PySem.FuncData} {K:PySem.W.Frag} {scope:PySem.Scope}
section
namespace L2
open PySem
def gk (s:Stmt):Arguments:=match s with
 |.FunctionDef _ a _ _ _ _ _ _ _ _=>a
 |_=>{posonlyargs:=[],args:=[],vararg:=none,kwonlyargs:=[],kw_defaults:=[],kwarg:=none,defaults:=[]}
def fS (s:Stmt):List Stmt:=match s with
 |.FunctionDef _ _ b _ _ _ _ _ _ _=>b
 |_=>[]
def bu (s:Stmt):Scope:=match s with
 |.FunctionDef _ _ _ _ _ _ sc _ _ _=>sc
 |_=>{kind:=.function,names:=[],isGenerator:=false,isCoroutine:=false}
end L2
namespace K51
open PySem L2
def HQ:Nat:=5
def bQ (i:Nat):Stmt:=PySem.Challenge.pw_shapestring_k71_whole_stretches.main.body.getD i (.Pass ⟨0,0,0,0⟩)
def top (i:Nat):Stmt:=bQ (HQ+i)
abbrev ko:Stmt:=bQ 1
abbrev kQ:Stmt:=bQ 2
abbrev ki:Stmt:=bQ 3
abbrev sAt:Stmt:=top 0
abbrev mU:Stmt:=top 1
abbrev me:Stmt:=top 2
abbrev l8:Stmt:=top 3
abbrev lC:Stmt:=top 4
abbrev mJ:Stmt:=top 5
abbrev kX:Stmt:=top 6
abbrev mK:Stmt:=top 7
abbrev l6:Stmt:=top 8
abbrev kq:Stmt:=top 9
abbrev lI:Stmt:=top 10
abbrev ma:Stmt:=top 11
abbrev kW:Stmt:=top 12
abbrev kS:Stmt:=top 13
abbrev l_:Stmt:=top 14
abbrev kU:Stmt:=top 15
abbrev lD:Stmt:=top 16
abbrev lF:Stmt:=top 17
abbrev mI:Stmt:=top 18
abbrev mH:Stmt:=top 19
abbrev ku:Stmt:=top 20
abbrev lJ:Stmt:=top 21
abbrev kI:Stmt:=top 22
abbrev l9:Stmt:=top 23
abbrev lH:Stmt:=top 24
abbrev lE:Stmt:=top 25
abbrev lG:Stmt:=top 26
abbrev gU:Stmt:=top 27
end K51
end
section
namespace K15
open PySem L2 PySem.W K51
noncomputable def cO (x:Str) (t l n a b:Nat):Obj:=⟨.type "code",none,.fields #[.str x t,.str x (t+1),.str "/claim/cut.py" (t+2),.int l 0,.int n 0,.int 0 0,.int 0 0,.int 3 0,.ref a,.bool true,.int 181 0,.ref (a+1),.none,.ref (a+2),.ref (a+3),.ref (a+4),.int b 0,.int l 0,.str "/claim/cut.py" (b+1)],#[]⟩
noncomputable def fO (x:Str) (s:Stmt) (m:Str) (t c:Nat):Obj:=⟨.type "function",none,.func (fnOf x x (gk s) (fS s) (bu s) .none .none .none (.str m t) none (.ref c) .none),#[]⟩
noncomputable def dE (P:Params) (x:Str) (t:Nat) (v:Value):DictEntry:=PySem.DictEntry.mk (PySem.PyData.keyHash P x) (.str x t) v
noncomputable def fL (x:Str) (s:Stmt) (c:Nat):Obj:=fO x s "law_shapestring_k71_whole_stretches" 221 c
noncomputable def kf:Params->Frag:=λP=>
 (nat_lit 2,⟨.none,none,(.dict #[] 0),#[]⟩) ::
 (nat_lit 3,⟨(.type "dict"),none,(.dict #[(dE P "__name__" 165 (.str "law_shapestring_k71_whole_stretches" 221)),(dE P "__doc__" 166 .none),(dE P "__package__" 167 .none),(dE P "__loader__" 168 (.builtin "__main__.__loader__#opaque")),(dE P "__spec__" 169 .none),(dE P "__annotations__" 170 (.ref 6)),(dE P "__builtins__" 171 (.ref 4)),(dE P "__file__" 173 (.str "/claim/cut.py" 172)),(dE P "__cached__" 174 .none),(dE P "many_alike" 199 (.ref 21)),(dE P "stretch" 209 (.ref 28)),(dE P "with_stretch" 220 (.ref 35)),(dE P "_law_at" 230 (.ref 42)),(dE P "_law_pot" 241 (.ref 49)),(dE P "_law_digit" 250 (.ref 56)),(dE P "_law_sides" 260 (.ref 63)),(dE P "_law_thirds" 271 (.ref 70)),(dE P "_law_free" 277 (.ref 75)),(dE P "_law_corners" 287 (.ref 82)),(dE P "_law_fans" 293 (.ref 87)),(dE P "_law_split" 299 (.ref 92)),(dE P "_law_rim_sides" 305 (.ref 97)),(dE P "_law_grown" 311 (.ref 102)),(dE P "_law_rims" 322 (.ref 109)),(dE P "_law_capped" 334 (.ref 116)),(dE P "_law_wanted" 346 (.ref 123)),(dE P "_law_step" 360 (.ref 130)),(dE P "_law_letter" 376 (.ref 137)),(dE P "_law_wound" 382 (.ref 142)),(dE P "_law_third" 392 (.ref 149)),(dE P "_law_can" 398 (.ref 154)),(dE P "_law_put" 408 (.ref 161)),(dE P "_law_partings" 414 (.ref 166)),(dE P "_law_begun" 420 (.ref 171)),(dE P "_law_closing" 432 (.ref 178)),(dE P "_law_word" 442 (.ref 185)),(dE P "_law_least" 453 (.ref 192)),(dE P "_law_words" 459 (.ref 197)),(dE P "_law_right" 471 (.ref 204)),(dE P "law" 482 (.ref 211))] 40),#[]⟩) ::
 (nat_lit 20,cO "many_alike" 189 2 2 15 197) ::
 (nat_lit 21,fO "many_alike" ko "shapestring.stretches" 187 20) ::
 (nat_lit 27,cO "stretch" 200 9 2 22 207) ::
 (nat_lit 28,fO "stretch" kQ "shapestring.stretches" 187 27) ::
 (nat_lit 34,cO "with_stretch" 210 13 2 29 218) ::
 (nat_lit 35,fO "with_stretch" ki "shapestring.stretches" 187 34) ::
 (nat_lit 41,cO "_law_at" 223 17 2 36 228) ::
 (nat_lit 42,fL "_law_at" sAt 41) ::
 (nat_lit 48,cO "_law_pot" 231 21 2 43 239) ::
 (nat_lit 49,fL "_law_pot" mU 48) ::
 (nat_lit 55,cO "_law_digit" 242 29 2 50 248) ::
 (nat_lit 56,fL "_law_digit" me 55) ::
 (nat_lit 62,cO "_law_sides" 251 36 1 57 258) ::
 (nat_lit 63,fL "_law_sides" l8 62) ::
 (nat_lit 69,cO "_law_thirds" 261 39 1 64 269) ::
 (nat_lit 70,fL "_law_thirds" lC 69) ::
 (nat_lit 74,⟨(.type "code"),none,(.fields #[(.str "_law_free" 272),(.str "_law_free" 273),(.str "/claim/cut.py" 274),(.int 46 0),(.int 2 0),(.int 0 0),(.int 0 0),(.int 3 0),(.ref 71),(.bool Bool.true),(.int 181 0),(.ref 72),.none,.none,.none,(.ref 73),(.int 275 0),(.int 46 0),(.str "/claim/cut.py" 276)]),#[]⟩) ::
 (nat_lit 75,fL "_law_free" mJ 74) ::
 (nat_lit 81,cO "_law_corners" 278 48 1 76 285) ::
 (nat_lit 82,fL "_law_corners" kX 81) ::
 (nat_lit 86,⟨(.type "code"),none,(.fields #[(.str "_law_fans" 288),(.str "_law_fans" 289),(.str "/claim/cut.py" 290),(.int 54 0),(.int 2 0),(.int 0 0),(.int 0 0),(.int 3 0),(.ref 83),(.bool Bool.true),(.int 181 0),(.ref 84),.none,.none,.none,(.ref 85),(.int 291 0),(.int 54 0),(.str "/claim/cut.py" 292)]),#[]⟩) ::
 (nat_lit 87,fL "_law_fans" mK 86) ::
 (nat_lit 91,⟨(.type "code"),none,(.fields #[(.str "_law_split" 294),(.str "_law_split" 295),(.str "/claim/cut.py" 296),(.int 67 0),(.int 1 0),(.int 0 0),(.int 0 0),(.int 3 0),(.ref 88),(.bool Bool.true),(.int 181 0),(.ref 89),.none,.none,.none,(.ref 90),(.int 297 0),(.int 67 0),(.str "/claim/cut.py" 298)]),#[]⟩) ::
 (nat_lit 92,fL "_law_split" l6 91) ::
 (nat_lit 96,⟨(.type "code"),none,(.fields #[(.str "_law_rim_sides" 300),(.str "_law_rim_sides" 301),(.str "/claim/cut.py" 302),(.int 81 0),(.int 1 0),(.int 0 0),(.int 0 0),(.int 3 0),(.ref 93),(.bool Bool.true),(.int 181 0),(.ref 94),.none,.none,.none,(.ref 95),(.int 303 0),(.int 81 0),(.str "/claim/cut.py" 304)]),#[]⟩) ::
 (nat_lit 97,fL "_law_rim_sides" kq 96) ::
 (nat_lit 101,⟨(.type "code"),none,(.fields #[(.str "_law_grown" 306),(.str "_law_grown" 307),(.str "/claim/cut.py" 308),(.int 84 0),(.int 2 0),(.int 0 0),(.int 0 0),(.int 3 0),(.ref 98),(.bool Bool.true),(.int 181 0),(.ref 99),.none,.none,.none,(.ref 100),(.int 309 0),(.int 84 0),(.str "/claim/cut.py" 310)]),#[]⟩) ::
 (nat_lit 102,fL "_law_grown" lI 101) ::
 (nat_lit 108,cO "_law_rims" 312 99 1 103 320) ::
 (nat_lit 109,fL "_law_rims" ma 108) ::
 (nat_lit 115,cO "_law_capped" 323 110 1 110 332) ::
 (nat_lit 116,fL "_law_capped" kW 115) ::
 (nat_lit 122,cO "_law_wanted" 335 116 1 117 344) ::
 (nat_lit 123,fL "_law_wanted" kS 122) ::
 (nat_lit 129,cO "_law_step" 347 122 3 124 358) ::
 (nat_lit 130,fL "_law_step" l_ 129) ::
 (nat_lit 136,cO "_law_letter" 361 138 4 131 374) ::
 (nat_lit 137,fL "_law_letter" kU 136) ::
 (nat_lit 141,⟨(.type "code"),none,(.fields #[(.str "_law_wound" 377),(.str "_law_wound" 378),(.str "/claim/cut.py" 379),(.int 154 0),(.int 2 0),(.int 0 0),(.int 0 0),(.int 3 0),(.ref 138),(.bool Bool.true),(.int 181 0),(.ref 139),.none,.none,.none,(.ref 140),(.int 380 0),(.int 154 0),(.str "/claim/cut.py" 381)]),#[]⟩) ::
 (nat_lit 142,fL "_law_wound" lD 141) ::
 (nat_lit 148,cO "_law_third" 383 168 2 143 390) ::
 (nat_lit 149,fL "_law_third" lF 148) ::
 (nat_lit 153,⟨(.type "code"),none,(.fields #[(.str "_law_can" 393),(.str "_law_can" 394),(.str "/claim/cut.py" 395),(.int 181 0),(.int 2 0),(.int 0 0),(.int 0 0),(.int 3 0),(.ref 150),(.bool Bool.true),(.int 181 0),(.ref 151),.none,.none,.none,(.ref 152),(.int 396 0),(.int 181 0),(.str "/claim/cut.py" 397)]),#[]⟩) ::
 (nat_lit 154,fL "_law_can" mI 153) ::
 (nat_lit 160,cO "_law_put" 399 198 2 155 406) ::
 (nat_lit 161,fL "_law_put" mH 160) ::
 (nat_lit 165,⟨(.type "code"),none,(.fields #[(.str "_law_partings" 409),(.str "_law_partings" 410),(.str "/claim/cut.py" 411),(.int 207 0),(.int 1 0),(.int 0 0),(.int 0 0),(.int 3 0),(.ref 162),(.bool Bool.true),(.int 181 0),(.ref 163),.none,.none,.none,(.ref 164),(.int 412 0),(.int 207 0),(.str "/claim/cut.py" 413)]),#[]⟩) ::
 (nat_lit 166,fL "_law_partings" ku 165) ::
 (nat_lit 170,⟨(.type "code"),none,(.fields #[(.str "_law_begun" 415),(.str "_law_begun" 416),(.str "/claim/cut.py" 417),(.int 212 0),(.int 2 0),(.int 0 0),(.int 0 0),(.int 3 0),(.ref 167),(.bool Bool.true),(.int 181 0),(.ref 168),.none,.none,.none,(.ref 169),(.int 418 0),(.int 212 0),(.str "/claim/cut.py" 419)]),#[]⟩) ::
 (nat_lit 171,fL "_law_begun" lJ 170) ::
 (nat_lit 177,cO "_law_closing" 421 227 1 172 430) ::
 (nat_lit 178,fL "_law_closing" kI 177) ::
 (nat_lit 184,cO "_law_word" 433 238 2 179 440) ::
 (nat_lit 185,fL "_law_word" l9 184) ::
 (nat_lit 191,cO "_law_least" 443 243 2 186 451) ::
 (nat_lit 192,fL "_law_least" lH 191) ::
 (nat_lit 196,⟨(.type "code"),none,(.fields #[(.str "_law_words" 454),(.str "_law_words" 455),(.str "/claim/cut.py" 456),(.int 252 0),(.int 2 0),(.int 0 0),(.int 0 0),(.int 3 0),(.ref 193),(.bool Bool.true),(.int 181 0),(.ref 194),.none,.none,.none,(.ref 195),(.int 457 0),(.int 252 0),(.str "/claim/cut.py" 458)]),#[]⟩) ::
 (nat_lit 197,fL "_law_words" lE 196) ::
 (nat_lit 203,cO "_law_right" 460 268 2 198 469) ::
 (nat_lit 204,fL "_law_right" lG 203) ::
 (nat_lit 210,cO "law" 472 282 1 205 480) ::
 (nat_lit 211,fL "law" gU 210)::[]
end K15
end
section
namespace L2
open PySem PySem.W PySem.Calls PyProof.Rows
def lg (tb:String->Option Builtin) (p:Program) (w:World) (n₀:Nat) (ann:Option Value):Nat->SharedT->Thread->Option SharedT
 |0,_,_=>none
 |n+1,s,t=>match through t with
  |true=>some s
  |false=>match stepOk n₀ ann t with
   |false=>none
   |true=>match stepT (denote tb) p w s t with
    |some (s',t')=>lg tb p w n₀ ann n s' t'
    |none=>none
theorem ur {tb:String->Option Builtin} {p:Program} {n₀:Nat} {ann:Option Value}:∀{n:Nat} {s s':SharedT} {t:Thread},lg tb p w n₀ ann n s t=some s'->topRun tb p w n₀ ann n s.abs t=some s'.abs
 |0,_,_,_,h=>by cases h
 |n+1,s,s',t,h=>by
  unfold lg at h;unfold topRun;cases ht:through t with
  |true=>rw[ht] at h;cases h;rfl
  |false=>
   rw[ht] at h;cases hk:stepOk n₀ ann t with
   |false=>rw[hk] at h;cases h
   |true=>
    rw[hk] at h;cases hs:stepT (denote tb) p w s t with
    |none=>rw[hs] at h;cases h
    |some r=>obtain⟨s₂,t₂⟩:=r;rw[hs] at h;rw[stepT_spec hs];exact ur h
def xm:List Obj->Nat->BT->BT
 | [],_,t=>t
 |o::os,n,t=>xm os (n+1) (t.ins n o)
noncomputable def st0 (w:World) (os:OsState):SharedT:=⟨xm (boot_heap w.params).objs.toList 0 .nil,(boot_heap w.params).objs.size,(boot_heap w.params).life,Array.mk [],boot_drawn,boot_toks,os⟩
theorem Dv (w:World) (os:OsState):(st0 w os).abs=⟨boot_heap w.params,Array.mk [],boot_drawn,boot_toks,os⟩:=by kernel_rfl
theorem Eu (w:World):((boot_heap w.params).isNs mainGlobals&&(Array.mk []:Array GenState).size==0)=true:=by kernel_rfl
theorem Gg (w:World):(boot_heap w.params).objs.size=11:=by kernel_rfl
theorem Da (w:World):(boot_heap w.params).nsMap mainGlobals "__annotations__" = some (.ref 6):=by kernel_rfl
noncomputable def qQ (p:Program) (w:World) (s:Shared):Bool:=staticsOk (importedModules p.main.body) (boot_heap w.params) s.heap&&namesBound p s.heap&&gensDone s&&laidKept (boot_heap w.params) s.heap
theorem D4 {p q:Program} {loose:List Str} {Xt:Shared->Bool} {α:Type} {Yf:Shared->α} {Ya:World->α} {N:Nat} {g0:Bool} {run:World->OsState->Option SharedT} (hr:∀w os,run w os=lg treeTable p w 11 (some (.ref 6)) N (st0 w os) (topStub p)) (hN:Nat.ble 600 N=true)
  (e:opening p=plainProg p.main.scope.names) (f:∀s,fenceModules? p s=some s)
  (a:∀(w:World) (os:OsState),(run w os).map (λs=>(openSeen q loose (importedModules p.main.body) Xt g0 s.abs).1)=some (openGood q loose).1)
  (a2:∀(w:World) (os:OsState),(run w os).map (λs=>((openSeen q loose (importedModules p.main.body) Xt g0 s.abs).2.1,(openSeen q loose (importedModules p.main.body) Xt g0 s.abs).2.2.1))=some ((openGood q loose).2.1,(openGood q loose).2.2.1))
  (a3:∀(w:World) (os:OsState),(run w os).map (λs=>(openSeen q loose (importedModules p.main.body) Xt g0 s.abs).2.2.2)=some (openGood q loose).2.2.2)
  (b:∀(w:World) (os:OsState),(run w os).map (λs=>(qQ p w s.abs,Yf s.abs))=some (true,Ya w)):LeftO p q loose Xt Yf Ya N g0:=λw=>by
 obtain⟨⟨h,gs,d,k,os⟩,e1,e'⟩:=fJ.mp (boot_open e hN f w);obtain⟨rfl,rfl,rfl,rfl⟩:h=boot_heap w.params/\gs=Array.mk []/\d=boot_drawn/\k=boot_toks:=by simpa using e'
 obtain⟨s1,r1,o1⟩:=fJ.mp (a w os);have a2:=a2 w os;have a3:=a3 w os;have b:=b w os;rw[r1,hJ] at a2 a3 b;have a2:=eP (cH a2);have a3:=cH a3;obtain⟨l1,o2⟩:=eP (cH b);have l2:openSeen q loose (importedModules p.main.body) Xt g0 s1.abs=openGood q loose:=nE o1 (nE a2.1 (nE a2.2 a3));rw[hr] at r1;have r:=ur r1;rw[Dv] at r;have t:topFrom treeTable p w N ⟨boot_heap w.params,Array.mk [],boot_drawn,boot_toks,os⟩=some s1.abs:=by unfold topFrom;dsimp only;rw[Eu,Gg,Da,r];unfold qQ at l1;show (match staticsOk (importedModules p.main.body) (boot_heap w.params) s1.abs.heap&&namesBound p s1.abs.heap&&gensDone s1.abs&&laidKept (boot_heap w.params) s1.abs.heap with|true=>_|false=>_)=_;rw[l1]
 unfold openEnds;rw[e1];show (topFrom treeTable p w N _).map _=_;rw[t];exact congrArg some (nE l2 o2)
end L2
end
section
namespace K15
open PySem L2 PySem.W K51
def ads:List Addr:=[2,3,20,21,27,28,34,35,41,42,48,49,55,56,62,63,69,70,74,75,81,82,86,87,91,92,96,97,101,102,108,109,115,116,122,123,129,130,136,137,141,142,148,149,153,154,160,161,165,166,170,171,177,178,184,185,191,192,196,197,203,204,210,211]
noncomputable def view:Program:={PySem.Challenge.pw_shapestring_k71_whole_stretches with main:={(PySem.Challenge.pw_shapestring_k71_whole_stretches).main with body:=[bQ 1,bQ 2,bQ 3,bQ 5,bQ 6,bQ 7,bQ 8,bQ 9,bQ 10,bQ 11,bQ 12,bQ 13,bQ 14,bQ 15,bQ 16,bQ 17,bQ 18,bQ 19,bQ 20,bQ 21,bQ 22,bQ 23,bQ 24,bQ 25,bQ 26,bQ 27,bQ 28,bQ 29,bQ 30,bQ 31,bQ 32]}}
noncomputable abbrev run (w:World) (os:OsState):Option SharedT:=lg treeTable PySem.Challenge.pw_shapestring_k71_whole_stretches w 11 (some (.ref 6)) 2070 (st0 w os) (topStub PySem.Challenge.pw_shapestring_k71_whole_stretches)
noncomputable abbrev seenAt (s:SharedT):=openSeen view [] (importedModules (PySem.Challenge.pw_shapestring_k71_whole_stretches).main.body) (λs=>xlAt view [] s&&recOk [] s) true s.abs
theorem leftA (w:World) (os:OsState):(run w os).map (λs=>(seenAt s).1)=some (openGood view []).1:=by kernel_rfl
theorem leftA2 (w:World) (os:OsState):(run w os).map (λs=>((seenAt s).2.1,(seenAt s).2.2.1))=some ((openGood view []).2.1,(openGood view []).2.2.1):=by kernel_rfl
theorem leftA3 (w:World) (os:OsState):(run w os).map (λs=>(seenAt s).2.2.2)=some (openGood view []).2.2.2:=by kernel_rfl
theorem leftB (w:World) (os:OsState):(run w os).map (λs=>(qQ PySem.Challenge.pw_shapestring_k71_whole_stretches w s.abs,Hook.obs (kHook K15.kf K15.ads (λ_=>by kernel_rfl)) s.abs))=some (true,Hook.val (kHook K15.kf K15.ads (λ_=>by kernel_rfl)) w):=by kernel_rfl
theorem left:LeftO PySem.Challenge.pw_shapestring_k71_whole_stretches view [] (λs=>xlAt view [] s&&recOk [] s) (Hook.obs (kHook K15.kf K15.ads (λ_=>by kernel_rfl))) (Hook.val (kHook K15.kf K15.ads (λ_=>by kernel_rfl))) 2070:=
 D4 (run:=run) (λ_ _=>rfl) (by decide) (by kernel_rfl) (λs=>by kernel_rfl) leftA leftA2 leftA3 leftB
end K15
end
section
namespace L2
open PySem PySem.Spec PyProof.Rows
abbrev Key:=Sum Int Str
def jX:Key->Value->Bool
 |.inl k,v=>Value.isInt k v
 |.inr x,v=>Value.isStrOf x v
def keyH (w:World):Key->Int
 |.inl k=>hashInt k
 |.inr x=>hashStr w x
theorem fM:∀{k:Key} {v:Value},jX k v=true->(∃i t,k=Sum.inl i/\v=Value.int i t)\/(∃x t,k=Sum.inr x/\v=Value.str x t)
 |.inl i,v,h=>by
  obtain⟨t,e⟩:=Value.isInt_shape (k:=i) (v:=v) h;exact .inl ⟨i,t,rfl,e⟩
 |.inr x,v,h=>by
  obtain⟨t,e⟩:=Value.isStrOf_shape (x:=x) (v:=v) h;exact .inr ⟨x,t,rfl,e⟩
theorem Bv (i:Int) (t:Tok):jX (.inl i) (.int i t)=true:=by simp[jX,Value.isInt]
theorem Bu (x:Str) (t:Tok):jX (.inr x) (.str x t)=true:=by simp[jX,Value.isStrOf]
theorem FN (a b:Int):decide ((Sum.inl a:Key)=Sum.inl b)=(a==b):=by
 by_cases e:a=b
 .subst e;simp
 .have h:¬(Sum.inl a:Key)=Sum.inl b:=λq=>e (Sum.inl.inj q);rw[K5 h];exact (beq_eq_false_iff_ne.mpr e).symm
theorem FK (a b:Str):decide ((Sum.inr a:Key)=Sum.inr b)=decide (a=b):=by
 by_cases e:a=b
 .subst e;simp
 .have h:¬(Sum.inr a:Key)=Sum.inr b:=λq=>e (Sum.inr.inj q);rw[K5 h,K5 e]
theorem FM (a:Int) (b:Str):decide ((Sum.inl a:Key)=Sum.inr b)=false:=K5 (λq=>nomatch q)
theorem FL (a:Str) (b:Int):decide ((Sum.inr a:Key)=Sum.inl b)=false:=K5 (λq=>nomatch q)
def dH (prog:Program) (w:World):PySem.KeyKind prog w Key where
 is:=jX
 hash:=keyH w
 inj:=λv a b ha hb=>by
  rcases fM ha with ⟨i,t,rfl,rfl⟩|⟨x,t,rfl,rfl⟩
  .rcases fM hb with ⟨j,u,rfl,e⟩|⟨y,u,rfl,e⟩
   .injection e with e1 _;rw[e1]
   .exact nomatch e
  .rcases fM hb with ⟨j,u,rfl,e⟩|⟨y,u,rfl,e⟩
   .exact nomatch e
   .injection e with e1 _;rw[e1]
 byValue:=λk v h=>by
  rcases fM h with ⟨i,t,rfl,rfl⟩|⟨x,t,rfl,rfl⟩<;>rfl
 pyHash:=λhv h=>by
  rcases fM hv with ⟨i,t,rfl,rfl⟩|⟨x,t,rfl,rfl⟩
  .exact wpAny_pyHash_int h
  .exact wpAny_pyHash_str h
 eqBool:=λhu hv h=>by
  rcases fM hu with ⟨i,t,rfl,rfl⟩|⟨x,t,rfl,rfl⟩
  .rcases fM hv with ⟨j,u,rfl,rfl⟩|⟨y,u,rfl,rfl⟩
   .rw[FN] at h;exact zS h
   .rw[FM] at h;exact Jz i t y u _ _ _ _ h
  .rcases fM hv with ⟨j,u,rfl,rfl⟩|⟨y,u,rfl,rfl⟩
   .rw[FL] at h;exact JA x t j u _ _ _ _ h
   .rw[FK] at h;exact wpAny_eqBool_str h
 «strs»:=λk x t v h=>by
  rcases fM h with ⟨i,u,rfl,e⟩|⟨y,u,rfl,e⟩
  .exact nomatch e
  .injection e with e1 _;subst e1;cases v<;>rfl
theorem Av (prog:Program) (w:World) (i:Int) (t:Tok):(dH prog w).is (.inl i) (.int i t)=true:=Bv i t
theorem Au (prog:Program) (w:World) (x:Str) (t:Tok):(dH prog w).is (.inr x) (.str x t)=true:=Bu x t
end L2
namespace L2
open PySem PySem.Spec PyProof.Rows
inductive V where
 |non|bl (b:Bool)|int (i:Int)|str (x:Str)|byt (b:Array UInt8)|flt (b:UInt64)|ref (a:Addr)|ty (n:String)
 deriving DecidableEq
def aH:V->Value->Prop
 |.non,u=>u=Value.none
 |.bl b,u=>u=Value.bool b
 |.int i,u=>∃t,u=Value.int i t
 |.str x,u=>∃t,u=Value.str x t
 |.byt b,u=>∃t,u=Value.bytes b t
 |.flt b,u=>∃t,u=Value.float b t
 |.ref a,u=>u=Value.ref a
 |.ty n,u=>u=Value.type n
abbrev Vals:List V->List Value->Prop:=Paired aH
theorem Vals.length {xs:List V} (r:Vals xs us):xs.length=us.length:=p_ r
theorem Vals.get:∀{xs:List V} {us:List Value} {i:Nat} {x:V},Vals xs us->xs[i]?=some x->∃u,us[i]?=some u/\aH x u
 |_,_,_,_,.nil,e=>by simp at e
 |_,_,0,_,.cons r _,e=>by simp at e;subst e;exact⟨_,rfl,r⟩
 |_,_,i+1,x,.cons _ t,e=>by
  obtain⟨u,h1,h2⟩:=Vals.get (i:=i) (x:=x) t (by simpa using e);exact⟨u,by simpa using h1,h2⟩
theorem Vals.set {x:V} {u:Value} (r:aH x u):∀{xs:List V} {us:List Value} (i:Nat),Vals xs us->Vals (xs.set i x) (us.set i u)
 |_,_,_,.nil=>.nil
 |_,_,0,.cons _ t=>.cons r t
 |_,_,i+1,.cons q t=>.cons q (Vals.set r i t)
theorem Vals.append:∀{xs ys:List V} {us ws:List Value},Vals xs us->Vals ys ws->Vals (xs++ys) (us++ws)
 |_,_,_,_,.nil,s=>s
 |_,_,_,_,.cons r t,s=>.cons r (Vals.append t s)
theorem Vals.take:∀{xs:List V} {us:List Value} (n:Nat),Vals xs us->Vals (xs.take n) (us.take n)
 |_,_,0,_=>.nil
 |_,_,_+1,.nil=>.nil
 |_,_,n+1,.cons r t=>.cons r (Vals.take n t)
theorem Vals.drop:∀{xs:List V} {us:List Value} (n:Nat),Vals xs us->Vals (xs.drop n) (us.drop n)
 |_,_,0,r=>r
 |_,_,_+1,.nil=>.nil
 |_,_,n+1,.cons _ t=>Vals.drop n t
def eW:Option V->Option Value->Prop
 |some v,some u=>aH v u
 |none,none=>True
 |_,_=>False
def KV {κ:Type}:List (κ×V)->List (κ×Value)->Prop:=Paired λ(p:κ×V) (q:κ×Value)=>p.1=q.1/\aH p.2 q.2
def kV:Key->V
 |.inl i=>.int i
 |.inr x=>.str x
inductive HO where
 |lst (xs:List V)
 |tup (xs:List V)
 |dK (kvs:List (Key×V))|dT (kvs:List (List Key×V))
 |set (S:Int->Bool) (n:Nat)
 |ins (C dx:Addr) (fs:List (Str×V))
 |own (x:Addr)
 |xd (fs:List (Str×V))
 |met (f x:Addr)
 |rng (lo hi:Int)
 |frz (o:Obj) (u:HO)
 |tbl (ps:Array Value)
 |ext (φ:Heap->Prop)
abbrev Hp:=Addr->Option HO
def upd (H:Hp) (a:Addr) (o:HO):Hp:=λb=>if b=a then some o else H b
theorem cx {H:Hp} {a:Addr} {o:HO}:upd H a o a=some o:=by unfold upd;rw[K3 rfl]
theorem bz {H:Hp} {a b:Addr} {o:HO} (h:b≠a):upd H a o b=H b:=by unfold upd;rw[K2 h]
theorem qN {H:Hp} {a:Addr} {o u:HO}:upd (upd H a o) a u=upd H a u:=by funext b;unfold upd;split<;>rfl
theorem bM {H:Hp} {a b:Addr} {o u:HO} (h:H a=some o) (h':H b=some u) (d:o≠u):a≠b:=by intro e;subst e;rw[h] at h';exact d (cH h')
theorem ax {H:Hp} {a b:Addr} {o:HO} (h:H a=some o) (h':H b=none):a≠b:=by intro e;subst e;rw[h] at h';cases h'
section
variable (P:Program) (w:World)
def cL (H:Hp) (h:Heap) (a:Addr):HO->Prop
 |.lst xs=>xs.length<=sizeLine/\∃(its:List Value) (n:Nat),Vals xs its/\h.get? a=some {cls:=.type "list",data:=.seq its.toArray n}
 |.tup xs=>(xs.length<=sizeLine/\∃o,h.get? a=some o/\o.dict=none)/\∃its:List Value,Vals xs its/\IsTup h a its.toArray
 |.dK kvs=>kvs.length<=sizeLine/\(a==sysModules)=false/\∃vs,KV kvs vs/\h.DictOf (dH P w) a vs
 |.dT kvs=>kvs.length<=sizeLine/\(a==sysModules)=false/\∃xs:List (List Key×Addr×Value),
   Paired (λ(p:List Key×V) (q:List Key×Addr×Value)=>p.1=q.1/\H q.2.1=some (.tup (p.1.map kV))/\aH p.2 q.2.2) kvs xs/\
   ∃o es ep,h.get? a=some o/\o.ExactDict/\o.data=.dict es ep/\es.toList=xs.map (entryOfKey (tupleKind (dH P w)))/\(xs.map (·.1)).Nodup
 |.set S n=>h.SetOf (intKind P w) a S n
 |.ins C dx fs=>H dx=some (.own a)/\fs.length<=1000/\dx≠a/\h.get? a=some (W.instObj C dx)/\
   ∃mA,h.Ns1 dx mA/\(∀f,eW (fs.lookup f) (mA f))/\PySem.Within mA (fs.map (·.1))
 |.own _=>∃o,h.get? a=some o
 |.xd fs=>∃mA,h.Ns1 a mA/\∀f,eW (fs.lookup f) (mA f)
 |.rng lo hi=>∃t u v,h.get? a=some {cls:=.type "range",data:=.fields #[.int lo t,.int hi u,.int 1 v]}
 |.frz o u=>h.get? a=some o/\cL H h a u
 |.tbl ps=>h.get? a=some {cls:=.none,data:=.fields ps}
 |.met f x=>h.get? a=some (W.methodObj (.ref f) (.ref x))
 |.ext φ=>φ h/\(∃o,h.get? a=some o)/\∀h1 h2:Heap,φ h1->(∀o,h1.get? a=some o->h2.get? a=some o)->φ h2
def HOk (H:Hp) (h:Heap):Prop:=∀a o,H a=some o->cL P w H h a o
end
section
variable {H H':Hp} {h h':Heap} {a:Addr} {o:HO}
theorem cL.lt (x:cL P w H h a o):a<h.objs.size:=by
 cases o with
 |lst xs=>obtain⟨_,_,_,_,e⟩:=x;exact bf e
 |tup xs=>obtain⟨_,_,_,p⟩:=x;exact p.lt
 |dK kvs=>obtain⟨_,_,_,_,o,_,_,e,_⟩:=x;exact bf e
 |dT kvs=>obtain⟨_,_,_,_,o,_,_,e,_⟩:=x;exact bf e
 |set S n=>obtain⟨o,_,_,_,e,_⟩:=x;exact bf e
 |ins C dx fs=>obtain⟨_,_,_,e,_⟩:=x;exact bf e
 |own y=>obtain⟨_,e⟩:=x;exact bf e
 |xd fs=>obtain⟨_,⟨_,_,_,e,_⟩,_⟩:=x;exact bf e
 |rng lo hi=>obtain⟨_,_,_,e⟩:=x;exact bf e
 |frz ob u=>obtain⟨e,_⟩:=x;exact bf e
 |tbl ps=>exact bf (show h.get? a=some _ from x)
 |met f y=>exact bf (show h.get? a=some _ from x)
 |ext φ=>obtain⟨_,⟨_,e⟩,_⟩:=x;exact bf e
theorem Paired.mapP {α β:Type} {F G:α->β->Prop}:∀{l₁:List α} {l₂:List β},Paired F l₁ l₂->(∀a b,F a b->G a b)->Paired G l₁ l₂
 |_,_,.nil,_=>.nil
 |_,_,.cons r t,f=>.cons (f _ _ r) (Paired.mapP t f)
theorem Paired.imp' {α β:Type} {F G:α->β->Prop} (f:∀a b,F a b->G a b) {l₁:List α} {l₂:List β} (r:Paired F l₁ l₂):Paired G l₁ l₂:=Paired.mapP r f
theorem cL.stay (x:cL P w H h a o) (k:∀b u,(b=a\/H b=some (.own a))->h.get? b=some u->h'.get? b=some u)
  (ho:∀b,H b=some (.own a)->H' b=some (.own a)) (ht:∀b xs,H b=some (.tup xs)->H' b=some (.tup xs)):cL P w H' h' a o:=by
 induction o with
 |lst xs=>obtain⟨z,its,n,r,e⟩:=x;exact⟨z,its,n,r,k _ _ (.inl rfl) e⟩
 |tup xs=>obtain⟨⟨z,o',e',d'⟩,its,r,ob,e,c⟩:=x;exact⟨⟨z,o',k _ _ (.inl rfl) e',d'⟩,its,r,ob,k _ _ (.inl rfl) e,c⟩
 |dK kvs=>obtain⟨z,y,vs,r,ob,es,ep,e,c⟩:=x;exact⟨z,y,vs,r,ob,es,ep,k _ _ (.inl rfl) e,c⟩
 |dT kvs=>
  obtain⟨z,y,xs,r,ob,es,ep,e,c⟩:=x;exact⟨z,y,xs,Paired.mapP r λp q z=>⟨z.1,ht _ _ z.2.1,z.2.2⟩,ob,es,ep,k _ _ (.inl rfl) e,c⟩
 |set S n=>obtain⟨ob,es,ep,t,e,c⟩:=x;exact⟨ob,es,ep,t,k _ _ (.inl rfl) e,c⟩
 |ins C dx fs=>
  obtain⟨d,z,ne,e,mA,⟨od,es,ep,e2,c⟩,r⟩:=x;exact⟨ho _ d,z,ne,k _ _ (.inl rfl) e,mA,⟨od,es,ep,k _ _ (.inr d) e2,c⟩,r⟩
 |own y=>obtain⟨ob,e⟩:=x;exact⟨ob,k _ _ (.inl rfl) e⟩
 |xd fs=>obtain⟨mA,⟨od,es,ep,e,c⟩,r⟩:=x;exact⟨mA,⟨od,es,ep,k _ _ (.inl rfl) e,c⟩,r⟩
 |rng lo hi=>obtain⟨t,u,v,e⟩:=x;exact⟨t,u,v,k _ _ (.inl rfl) e⟩
 |frz ob u ih=>obtain⟨e,q⟩:=x;exact⟨k _ _ (.inl rfl) e,ih q⟩
 |tbl ps=>
  have e:h.get? a=some {cls:=.none,data:=.fields ps}:=x;show h'.get? a=some {cls:=.none,data:=.fields ps};exact k a _ (.inl rfl) e
 |met f y=>
  have e:h.get? a=some (W.methodObj (.ref f) (.ref y)):=x;show h'.get? a=some (W.methodObj (.ref f) (.ref y));exact k a _ (.inl rfl) e
 |ext φ=>obtain⟨p,⟨o,e⟩,st⟩:=x;exact⟨st _ _ p λo q=>k _ _ (.inl rfl) q,⟨o,k _ _ (.inl rfl) e⟩,st⟩
theorem HOk.lt (x:HOk P w H h) (e:H a=some o):a<h.objs.size:=(x a o e).lt
theorem HOk.fresh (x:HOk P w H h) (e:h.objs.size<=a):H a=none:=by
 cases q:H a with
 |none=>rfl
 |some u=>exact absurd (c_ (x.lt q) e) (fI _)
theorem HOk.kept (x:HOk P w H h) (k:∀b u,h.get? b=some u->h'.get? b=some u):HOk P w H h':=λa o e=>
 (x a o e).stay (λb u _ q=>k b u q) (λ_ q=>q) λ_ _ q=>q
theorem HOk.laid (x:HOk P w H h) (k:∀b u,h.get? b=some u->h'.get? b=some u) (hp:h.objs.size<=a) (new:cL P w (upd H a o) h' a o):HOk P w (upd H a o) h':=λb u e=>by
 have hn:=x.fresh hp;by_cases hb:b=a
 .subst hb;rw[cx] at e;cases e;exact new
 .rw[bz hb] at e;exact (x b u e).stay (λc v _ q=>k c v q) (λc q=>by rw[bz (ax q hn)];exact q) λc xs q=>by rw[bz (ax q hn)];exact q
end
def Rd (H:Hp) (a:Addr) (u:HO):Prop:=H a=some u\/∃o,H a=some (.frz o u)
theorem Rd.ok {H:Hp} {h:Heap} {a:Addr} {u:HO} (r:Rd H a u) (x:HOk P w H h):cL P w H h a u:=by
 rcases r with r|⟨o,r⟩
 .exact x a u r
 .obtain⟨_,q⟩:=x a _ r;exact q
def Mut:Option HO->Prop
 |some (.lst _)=>True
 |some (.dK _)=>True
 |some (.dT _)=>True
 |some (.set _ _)=>True
 |some (.ins _ _ _)=>True
 |some (.ext _)=>True
 |_=>False
section
variable {H:Hp} {h h':Heap} {x e:Addr} {o':HO}
theorem HOk.write (ok:HOk P w H h) (mu:Mut (H x)) (he:e=x\/H e=some (.own x)) (k:∀b u,b≠e->h.get? b=some u->h'.get? b=some u) (heo:∃u,h'.get? e=some u)
  (new:cL P w (upd H x o') h' x o'):HOk P w (upd H x o') h':=λb u q=>by
 have nown:∀c y,H c=some (.own y)->c≠x:=λc y r z=>by subst z;rw[r] at mu;exact mu
 have ntup:∀c xs,H c=some (.tup xs)->c≠x:=λc xs r z=>by subst z;rw[r] at mu;exact mu
 by_cases hb:b=x
 .subst hb;rw[cx] at q;cases q;exact new
 .rw[bz hb] at q;by_cases hbe:b=e
  .have q':H b=some (.own x):=by
    rcases he with z|z
    .exact absurd (hbe.trans z) hb
    .rw[hbe];exact z
   rw[q] at q';cases q';obtain⟨v,hv⟩:=heo;exact⟨v,by rw[hbe];exact hv⟩
  .refine (ok b u q).stay (λc v hc r=>k c v ?_ r) (λc r=>by rw[bz (nown c b r)];exact r) λc xs r=>by rw[bz (ntup c xs r)];exact r
   rcases hc with rfl|hc
   .exact hbe
   .rintro rfl;rcases he with z|z
    .exact nown c b hc z
    .rw[hc] at z;cases z;exact hb rfl
end
structure Un (fs ex:List Addr) (H H':Hp) (h h':Heap):Prop where
 keep:∀b o,h.get? b=some o->H b=none->b∉fs->b∉ex->h'.get? b=some o
 slot:∀b o,h.get? b=some o->H b=none->b∈fs->b∉ex->∃sl,h'.get? b=some {o with slots:=sl}
 free:∀b o,h.get? b=some o->H b=none->b∉ex->H' b=none
 there:∀b o,h.get? b=some o->b∉ex->∃o',h'.get? b=some o'
 tups:∀b xs,H b=some (.tup xs)->H' b=some (.tup xs)
 frzs:∀b o u,H b=some (.frz o u)->H' b=some (.frz o u)
 tbls:∀b ps,H b=some (.tbl ps)->∃more,H' b=some (.tbl (ps++more))
section
variable {fs fs' ex ex':List Addr} {H H1 H2:Hp} {h h1 h2 h':Heap} {a x e:Addr} {o:HO}
theorem Un.any (u:Un fs ex H H1 h h1) {b:Addr} {ob:Obj} (q:h.get? b=some ob) (n:H b=none) (hx:b∉ex):∃sl,h1.get? b=some {ob with slots:=sl}:=by
 by_cases hb:b∈fs
 .exact u.slot b ob q n hb hx
 .exact⟨ob.slots,u.keep b ob q n hb hx⟩
theorem Un.kept (k:∀b u,h.get? b=some u->h'.get? b=some u):Un fs ex H H h h':=
 ⟨λb ob q _ _ _=>k b ob q,λb ob q _ _ _=>⟨ob.slots,k b ob q⟩,λ_ _ _ n _=>n,λb ob q _=>⟨ob,k b ob q⟩,λ_ _ q=>q,λ_ _ _ q=>q,λ_ ps q=>⟨#[],by rw[q];simp⟩⟩
theorem Un.refl:Un fs ex H H h h:=Un.kept λ_ _ q=>q
theorem Un.laid (k:∀b u,h.get? b=some u->h'.get? b=some u) (hp:h.objs.size<=a) (hn:H a=none):Un fs ex H (upd H a o) h h' where
 keep:=λb u q _ _ _=>k b u q
 slot:=λb u q _ _ _=>⟨u.slots,k b u q⟩
 free:=λb u q n _=>by rw[bz (cC (c_ (bf q) hp))];exact n
 there:=λb u q _=>⟨u,k b u q⟩
 tups:=λb xs q=>by rw[bz (ax q hn)];exact q
 frzs:=λb u xs q=>by rw[bz (ax q hn)];exact q
 tbls:=λb ps q=>⟨#[],by rw[bz (ax q hn),q];simp⟩
theorem Un.write (mu:Mut (H x)) (he:e=x\/H e=some (.own x)) (k:∀b u,b≠e->h.get? b=some u->h'.get? b=some u) (heo:∃u,h'.get? e=some u):Un fs ex H (upd H x o) h h':=by
 have hx:∀b,H b=none->b≠x:=λb n z=>by subst z;rw[n] at mu;exact mu
 have hb:∀b,H b=none->b≠e:=λb n z=>by
  subst z;rcases he with r|r
  .exact hx b n r
  .rw[n] at r;cases r
 have hm:∀b u,H b=some u->¬Mut (some u)->b≠x:=λb u q nm z=>by subst z;rw[q] at mu;exact nm mu
 refine⟨λb u q n _ _=>k b u (hb b n) q,λb u q n _ _=>⟨u.slots,k b u (hb b n) q⟩,λb u q n _=>by rw[bz (hx b n)];exact n,λb u q _=>?_,
  λb xs q=>by rw[bz (hm b _ q λz=>z)];exact q,λb u xs q=>by rw[bz (hm b _ q λz=>z)];exact q,λb ps q=>⟨#[],by rw[bz (hm b _ q λz=>z),q];simp⟩⟩
 by_cases hbe:b=e
 .subst hbe;exact heo
 .exact⟨u,k b u hbe q⟩
end
def trk (h:Heap) (H:Hp):List Addr:=(List.range h.objs.size).filter λa=>(H a).isSome
def gY (h:Heap) (H:Hp):Heap:=W.hideAll h (trk h H)
theorem Bx (h:Heap) (H:Hp):(gY h H).objs.size=h.objs.size:=W.hideAll_size _ _
theorem CS {h:Heap} {H:Hp} {b:Addr} {o:Obj} (e:h.get? b=some o) (n:H b=none):(gY h H).get? b=some o:=
 W.hideAll_get _ e λhm=>by
  have q:(H b).isSome=true:=(iG.mp hm).2;rw[n] at q;simp at q
theorem DX {h:Heap} {H:Hp} {b:Addr} {o:Obj} (e:(gY h H).get? b=some o):h.get? b=some o/\H b=none:=by
 have e':h.get? b=some o:=W.of_hideAll (trk h H) e;refine⟨e',?_⟩;cases q:H b with
 |none=>rfl
 |some x=>
  have hm:b∈trk h H:=iG.mpr ⟨gF.mpr (bf e'),by simp[q]⟩;have z:(gY h H).get? b=none:=W.hideAll_none (trk h H) hm;rw[z] at e;cases e
def oE (g h:Heap) (L:Addr):List (Addr×Obj):=(List.range h.objs.size).filterMap λa=>if a=L\/(g.get? a).isSome=true then none else (h.get? a).map λo=>(a,o)
theorem uq {g h:Heap} {L a:Addr} {o:Obj} (h1:a≠L) (h2:g.get? a=none) (h3:h.get? a=some o):(a,o)∈oE g h L:=
 tL.mpr ⟨a,gF.mpr (bf h3),by simp[h1,h2,h3]⟩
theorem Ab {g h:Heap} {L:Addr} {p:Addr×Obj} (hp:p∈oE g h L):p.1≠L/\g.get? p.1=none/\h.get? p.1=some p.2:=by
 obtain⟨b,_,e⟩:=tL.mp hp
 split at e
 .cases e
 .rename_i hn;cases q:h.get? b with
  |none=>rw[q] at e;simp at e
  |some u=>
   rw[q] at e;simp only[hJ,J5] at e;subst e;refine⟨λz=>hn (.inl z),?_,q⟩;show g.get? b=none;cases r:g.get? b with
   |none=>rfl
   |some v=>exact (hn (.inr (by simp[r]))).elim
theorem vH {g h:Heap} {L:Addr}:News g L h (oE g h L):=λp hp=>let ⟨a,b,c⟩:=Ab hp;⟨c,a,b⟩
end L2
namespace L2
open PySem PySem.Spec PyProof.Rows
structure Mod (K:W.Frag) (mg:Str->Option Value) (base:Heap):Prop where
 kin:K.In base
 glob:base.Ns mainGlobals mg
 blt:∃mb,base.Ns builtinsNs mb/\∀x:Str,x≠"__name__"->mb x=bootBuiltins x
 nolimit:base.NoLimit
structure Cx where
 prog:Program
 w:World
 K:W.Frag
 mg:Str->Option Value
 base:Heap
 A:Around
 N:List Str
 s₀:Shared
 H₀:Hp
 env:Env
 outer:List Env
 stack:List Env
 ex:List Addr
 fn:Str->Bool
 calm:Bool
 pn:List (Addr×Obj)
 xe:Value->Shared->Prop
def frs (l:List Env):List Addr:=l.filterMap (·.frame)
abbrev Cx.fs (X:Cx):List Addr:=frs X.outer
def Vis (sc:Scope) (x:Str):Prop:=sc.names.lookup x=some .local\/sc.names.lookup x=some .cell\/sc.names.lookup x=some .free
def Loc (sc:Scope) (x:Str):Prop:=sc.names.lookup x=some .local\/sc.names.lookup x=some .cell
def Look (env:Env) (h:Heap) (m:Str->Option Value) (x:Str) (u:Value):Prop:=
 (env.kindOf x=some .local/\m x=some u)\/((env.kindOf x=some .cell\/env.kindOf x=some .free)/\∃c,env.cells.lookup x=some c/\h.IsCell c (some u))
structure Cx.Ok (X:Cx):Prop where
 mod:Mod X.K X.mg X.base
 kind:X.env.scope.kind=.function
 glob:X.env.globals=mainGlobals
 blt:X.env.builtins=builtinsNs
 above:X.s₀.heap.objs.size<=X.env.locals
 inj:∀x y c,X.env.cells.lookup x=some c->X.env.cells.lookup y=some c->x=y
 has:∀x,(X.env.kindOf x=some .cell\/X.env.kindOf x=some .free)->∃c,X.env.cells.lookup x=some c
 cab:∀x c,X.fn x=true->X.env.cells.lookup x=some c->X.s₀.heap.objs.size<=c
 hd:X.calm=true->X.A.handled=none
 frames:X.A.frames=some X.stack
 stk:X.stack=X.outer\/(X.stack=X.env::X.outer/\X.env.frame=some X.env.locals)
 exf:∀b∈X.ex,b≠X.env.locals/\∀x c,X.env.cells.lookup x=some c->c≠b
 bs:∀b o,X.base.get? b=some o->X.s₀.heap.get? b=some o/\X.H₀ b=none
 bsz:X.base.objs.size<=X.s₀.heap.objs.size
 noex:∀b o,X.base.get? b=some o->b∉X.ex
 exfs:∀b∈X.ex,b∉X.fs
 funs:X.s₀.heap.FunFrames X.base X.outer
 frf:∀b∈X.fs,X.H₀ b=none
structure Inv (X:Cx) (pins:List (Addr×Obj)) (Z:List (Option V)) (H:Hp) (s:Shared):Prop where
 ok:X.Ok
 os:s.os=X.s₀.os
 bare:AllBare s.gens
 base:Un X.fs X.ex X.H₀ H X.s₀.heap s.heap
 loc:∃m,s.heap.Ns X.env.locals m/\∀(i:Nat) (x:Str) (v:V),X.N[i]?=some x->Z[i]?=some (some v)->Vis X.env.scope x->∃u,aH v u/\Look X.env s.heap m x u
 cell:∀x c,X.env.cells.lookup x=some c->∃v,s.heap.IsCell c v
 free:H X.env.locals=none
 freeC:∀x c,X.env.cells.lookup x=some c->H c=none
 pin:∀p∈X.pn++pins,s.heap.get? p.1=some p.2/\H p.1=none/\p.1≠X.env.locals/\p.1∉X.fs/\∀v,p.2.data≠.cell v
 hok:HOk X.prog X.w H s.heap
 len:Z.length=X.N.length
section
variable {X:Cx} {Z:List (Option V)} {H H':Hp} {h':Heap}
theorem Cx.Ok.nofr (ok:X.Ok) {b:Addr} {o:Obj} (e:X.base.get? b=some o):b∉X.fs:=λhb=>by
 have:=(ok.funs.mem hb).1;rw[e] at this;cases this
theorem Inv.bs (I:Inv X pins Z H s):∀b o,X.base.get? b=some o->s.heap.get? b=some o/\H b=none:=λb o e=>
 ⟨I.base.keep b o (I.ok.bs b o e).1 (I.ok.bs b o e).2 (I.ok.nofr e) (I.ok.noex b o e),I.base.free b o (I.ok.bs b o e).1 (I.ok.bs b o e).2 (I.ok.noex b o e)⟩
theorem Inv.bk (I:Inv X pins Z H s):∀b o,X.base.get? b=some o->s.heap.get? b=some o:=λb o e=>(I.bs b o e).1
theorem Inv.mod (I:Inv X pins Z H s):Mod X.K X.mg X.base:=I.ok.mod
theorem Inv.kIn (I:Inv X pins Z H s):X.K.In s.heap:=I.ok.mod.kin.keeps I.bk
theorem Inv.fr (I:Inv X pins Z H s):∃m,Fr X.base X.env.locals s.heap m:=
 let ⟨m,hn,_⟩:=I.loc
 ⟨m,hn,I.bk,bV I.ok.bsz I.ok.above⟩
theorem Inv.lt (I:Inv X pins Z H s):X.env.locals<s.heap.objs.size:=let ⟨_,hn,_⟩:=I.loc;hn.lt
theorem Inv.sz (I:Inv X pins Z H s):X.s₀.heap.objs.size<=s.heap.objs.size:=bV I.ok.above (nk I.lt)
theorem Inv.nofs (I:Inv X pins Z H s) {a:Addr} (h:s.heap.objs.size<=a):a∉X.fs:=λhb=>by
 obtain⟨_,o,ho,_⟩:=I.ok.funs.mem hb;exact absurd (c_ (bf ho) (bV I.sz h)) (fI _)
theorem Inv.cne (I:Inv X pins Z H s):∀x c,X.env.cells.lookup x=some c->c≠X.env.locals:=λx c e z=>by
 obtain⟨v,o,ho,hd⟩:=I.cell x c e;obtain⟨m,⟨o',es,ep,ho',hd',_⟩,_⟩:=I.loc;rw[z,ho'] at ho;cases ho;rw[hd'] at hd;cases hd
theorem Inv.funs (I:Inv X pins Z H s):s.heap.FunFrames X.base X.outer:=by
 have all:∀(l:List Env),(∀b∈frs l,b∈X.fs)->X.s₀.heap.FunFrames X.base l->s.heap.FunFrames X.base l:=by
  intro l;induction l with
  |nil=>intro _ _;trivial
  |cons env r ih=>
   intro hs hl;obtain⟨hk,⟨L,o,hf,hn,ho,hd⟩,hr⟩:=hl;have hL:L∈X.fs:=hs L (by unfold frs;rw[tG,hf];exact fE);obtain⟨sl,e⟩:=I.base.slot L o ho (I.ok.frf L hL) hL λz=>I.ok.exfs L z hL;exact⟨hk,⟨L,_,hf,hn,e,hd⟩,ih (λb hb=>hs b (by unfold frs;rw[tG,hf];exact aY _ hb)) hr⟩
 exact all X.outer (λ_ hb=>hb) I.ok.funs
theorem Inv.stack (I:Inv X pins Z H s):s.heap.FunFrames X.base X.stack:=by
 rcases I.ok.stk with e|⟨e,hf⟩
 .rw[e];exact I.funs
 .rw[e];obtain⟨m,hn,_⟩:=I.loc;refine .cons (by rw[I.ok.kind];decide) hf hn ?_ I.funs;exact tj (bV I.ok.bsz I.ok.above)
theorem Inv.stkSub (I:Inv X pins Z H s):∀b∈frs X.stack,b∈X.env.locals::X.fs:=λb hb=>by
 rcases I.ok.stk with e|⟨e,hf⟩
 .rw[e] at hb;exact aY _ hb
 .rw[e] at hb;unfold frs at hb;rw[tG,hf] at hb;exact hb
theorem Inv.stkFree (I:Inv X pins Z H s):∀b∈frs X.stack,H b=none:=λb hb=>by
 rcases af.mp (I.stkSub b hb) with e|hb
 .rw[e];exact I.free
 .obtain⟨_,o,ho,_⟩:=I.ok.funs.mem hb;exact I.base.free b o ho (I.ok.frf b hb) λz=>I.ok.exfs b z hb
theorem Inv.step {g':Array GenState} {t':Nat} {d':Drawn} {ch:List Addr} (I:Inv X pins Z H s)
  (hch:∀b∈ch,(b∈X.ex\/X.s₀.heap.objs.size<=b)/\b≠X.env.locals/\(∀x c,X.env.cells.lookup x=some c->c≠b)/\∀p∈X.pn++pins,p.1≠b)
  (keep:∀b o,b≠X.env.locals->b∉X.fs->b∉ch->s.heap.get? b=some o->H b=none->h'.get? b=some o)
  (slot:∀b o,b≠X.env.locals->b∈X.fs->b∉ch->s.heap.get? b=some o->H b=none->∃sl,h'.get? b=some {o with slots:=sl}) (free:∀b o,b∉ch->s.heap.get? b=some o->H b=none->H' b=none)
  (there:∀b o,b∉ch->s.heap.get? b=some o->∃o',h'.get? b=some o')
  (tups:∀b xs,H b=some (.tup xs)->H' b=some (.tup xs)) (frzs:∀b o u,H b=some (.frz o u)->H' b=some (.frz o u)) (tbls:∀b ps,H b=some (.tbl ps)->∃more,H' b=some (.tbl (ps++more)))
  (ns:∀m,s.heap.Ns X.env.locals m->h'.Ns X.env.locals m) (hok:HOk X.prog X.w H' h') (hg:AllBare g') :
  Inv X pins Z H' {s with heap:=h',gens:=g',drawn:=d',toks:=t'}:=by
 have neL:∀b o,X.s₀.heap.get? b=some o->b≠X.env.locals:=λb o e=>cC (c_ (bf e) I.ok.above);have neC:∀b o,X.s₀.heap.get? b=some o->b∉X.ex->b∉ch:=λb o e hx hb=>by
  rcases (hch b hb).1 with z|z
  .exact hx z
  .exact absurd (c_ (bf e) z) (fI _)
 have cellK:∀x c,X.env.cells.lookup x=some c->∀v,s.heap.IsCell c v->h'.IsCell c v:=λx c e v ⟨o,ho,hd⟩=>by
  have nch:c∉ch:=λz=>(hch c z).2.2.1 x c e rfl;by_cases hc:c∈X.fs
  .obtain⟨sl,q⟩:=slot c o (I.cne x c e) hc nch ho (I.freeC x c e);exact⟨_,q,hd⟩
  .exact⟨o,keep c o (I.cne x c e) hc nch ho (I.freeC x c e),hd⟩
 refine⟨I.ok,I.os,hg,⟨λb o e n hb hx=>?_,λb o e n hb hx=>?_,λb o e n hx=>?_,λb o e hx=>?_,λb xs e=>tups b xs (I.base.tups b xs e),λb o xs e=>frzs b o xs (I.base.frzs b o xs e),λb ps e=>?_⟩,?_,λx c e=>?_,?_,λx c e=>?_,λp hp=>?_,hok,I.len⟩
 .exact keep b o (neL b o e) hb (neC b o e hx) (I.base.keep b o e n hb hx) (I.base.free b o e n hx)
 .obtain⟨sl,e1⟩:=I.base.slot b o e n hb hx;obtain⟨sl',e2⟩:=slot b _ (neL b o e) hb (neC b o e hx) e1 (I.base.free b o e n hx);exact⟨sl',e2⟩
 .obtain⟨o',e1⟩:=I.base.there b o e hx;exact free b o' (neC b o e hx) e1 (I.base.free b o e n hx)
 .obtain⟨o',e1⟩:=I.base.there b o e hx;exact there b o' (neC b o e hx) e1
 .obtain⟨m1,e1⟩:=I.base.tbls b ps e;obtain⟨m2,e2⟩:=tbls b _ e1;exact⟨m1++m2,by rw[e2,Array.append_assoc]⟩
 .obtain⟨m,hn,hl⟩:=I.loc;refine⟨m,ns m hn,λi x v e1 e2 e3=>?_⟩;obtain⟨u,r,l⟩:=hl i x v e1 e2 e3;refine⟨u,r,?_⟩;rcases l with l|⟨k,c,e,z⟩
  .exact .inl l
  .exact .inr ⟨k,c,e,cellK x c e _ z⟩
 .obtain⟨v,z⟩:=I.cell x c e;exact⟨v,cellK x c e v z⟩
 .obtain⟨m,⟨o,_,_,ho,_⟩,_⟩:=I.loc;exact free _ o (λz=>(hch _ z).2.1 rfl) ho I.free
 .obtain⟨v,o,ho,hd⟩:=I.cell x c e;exact free c o (λz=>(hch c z).2.2.1 x c e rfl) ho (I.freeC x c e)
 .obtain⟨e,n,ne,nf,d⟩:=I.pin p hp;have nch:p.1∉ch:=λz=>(hch p.1 z).2.2.2 p hp rfl;exact⟨keep p.1 p.2 ne nf nch e n,free p.1 p.2 nch e n,ne,nf,d⟩
theorem Inv.un {t':Nat} (I:Inv X pins Z H s) (u:Un X.fs [] H H' s.heap h') (hok:HOk X.prog X.w H' h'):Inv X pins Z H' {s with heap:=h',toks:=t'}:=by
 obtain⟨m,⟨o,es,ep,ho,r⟩,_⟩:=id I.loc;obtain⟨sl,hL⟩:=u.any ho I.free (by simp);exact I.step (g':=s.gens) (d':=s.drawn) (ch:=[]) (λ_ z=>nomatch z) (λb o _ hb _ e n=>u.keep b o e n hb (by simp)) (λb o _ hb _ e n=>u.slot b o e n hb (by simp)) (λb o _ e n=>u.free b o e n (by simp)) (λb o _ e=>u.there b o e (by simp)) u.tups u.frzs u.tbls (λm' hm=>by
  obtain⟨o',es',ep',ho',r'⟩:=hm;rw[ho] at ho';cases ho';exact⟨_,es',ep',hL,r'⟩) hok I.bare
theorem Inv.call {g':Array GenState} {t':Nat} {d':Drawn} {ch:List Addr} (I:Inv X pins Z H s) (u:Un (frs X.stack) ch H H' s.heap h') (hok:HOk X.prog X.w H' h') (hg:AllBare g')
  (hch:∀b∈ch,(b∈X.ex\/X.s₀.heap.objs.size<=b)/\b≠X.env.locals/\(∀x c,X.env.cells.lookup x=some c->c≠b)/\∀p∈X.pn++pins,p.1≠b) :
  Inv X pins Z H' {s with heap:=h',gens:=g',drawn:=d',toks:=t'}:=by
 obtain⟨m,⟨o,es,ep,ho,r⟩,_⟩:=id I.loc;obtain⟨sl,hL⟩:=u.any ho I.free λz=>(hch _ z).2.1 rfl;exact I.step (ch:=ch) hch (λb o hL hb hc e n=>u.keep b o e n (λz=>(af.mp (I.stkSub b z)).elim hL hb) hc) (λb o _ _ hc e n=>u.any e n hc) (λb o hc e n=>u.free b o e n hc) (λb o hc e=>u.there b o e hc) u.tups u.frzs u.tbls (λm' hm=>by
  obtain⟨o',es',ep',ho',r'⟩:=hm;rw[ho] at ho';cases ho';exact⟨_,es',ep',hL,r'⟩) hok hg
theorem Inv.turned {t':Nat} {it:Addr} (I:Inv X pins Z H s) (k:∀b o,b≠it->s.heap.get? b=some o->h'.get? b=some o) (hn:H it=none) (hL:it≠X.env.locals)
  (h1:it∈X.ex\/X.s₀.heap.objs.size<=it) (h2:∀x c,X.env.cells.lookup x=some c->c≠it) (h3:∀p∈X.pn++pins,p.1≠it):Inv X pins Z H {s with heap:=h',toks:=t'}:=by
 have nit:∀b u,H b=some u->b≠it:=λb u e z=>by rw[z,hn] at e;cases e
 refine I.step (g':=s.gens) (d':=s.drawn) (ch:=[it]) (λb hb=>?_) (λb o _ _ hc e _=>k b o (λz=>hc (by simp[z])) e) (λb o _ _ hc e _=>⟨o.slots,k b o (λz=>hc (by simp[z])) e⟩) (λ_ _ _ _ n=>n)
  (λb o hc e=>⟨o,k b o (λz=>hc (by simp[z])) e⟩) (λ_ _ e=>e) (λ_ _ _ e=>e) (λb ps e=>⟨#[],by rw[e];simp⟩) (λm hm=>?_) (λb u e=>?_) I.bare
 .have e:b=it:=by simpa using hb
  subst e;exact⟨h1,hL,h2,h3⟩
 .obtain⟨o,es,ep,ho,r⟩:=hm;exact⟨o,es,ep,k _ o (aF hL) ho,r⟩
 .refine (I.hok b u e).stay (λc v hc q=>k c v ?_ q) (λ_ q=>q) λ_ _ q=>q;rcases hc with z|z
  .rw[z];exact nit b u e
  .exact nit c _ z
theorem Inv.tok (I:Inv X pins Z H s) (t:Nat):Inv X pins Z H {s with toks:=t}:=I.un (h':=s.heap) (t':=t) Un.refl I.hok
theorem Inv.kept {t':Nat} (I:Inv X pins Z H s) (k:∀b u,s.heap.get? b=some u->h'.get? b=some u):Inv X pins Z H {s with heap:=h',toks:=t'}:=I.un (Un.kept k) (I.hok.kept k)
theorem Inv.laid {a:Addr} {o:HO} {t':Nat} (I:Inv X pins Z H s) (k:∀b u,s.heap.get? b=some u->h'.get? b=some u) (hp:s.heap.objs.size<=a) (new:cL X.prog X.w (upd H a o) h' a o) :
  Inv X pins Z (upd H a o) {s with heap:=h',toks:=t'}:=I.un (Un.laid k hp (I.hok.fresh hp)) (I.hok.laid k hp new)
theorem Inv.write {x e:Addr} {o:HO} {t':Nat} (I:Inv X pins Z H s) (mu:Mut (H x)) (he:e=x\/H e=some (.own x)) (k:∀b u,b≠e->s.heap.get? b=some u->h'.get? b=some u) (heo:∃u,h'.get? e=some u)
  (new:cL X.prog X.w (upd H x o) h' x o):Inv X pins Z (upd H x o) {s with heap:=h',toks:=t'}:=I.un (Un.write mu he k heo) (I.hok.write mu he k heo new)
theorem Inv.pins_of {pins':List (Addr×Obj)} (I:Inv X pins Z H s) (h:∀p∈pins',s.heap.get? p.1=some p.2/\H p.1=none/\p.1≠X.env.locals/\p.1∉X.fs/\∀v,p.2.data≠.cell v):Inv X pins' Z H s:=
 ⟨I.ok,I.os,I.bare,I.base,I.loc,I.cell,I.free,I.freeC,λp hp=>(ay.mp hp).elim (λz=>I.pin p (cf _ z)) (h p),I.hok,I.len⟩
theorem vG {N:List Str} (hN:N.Nodup) {i j:Nat} {x:Str} (a:N[i]?=some x) (b:N[j]?=some x):i=j:=by obtain⟨h1,e1⟩:=aS.mp a;obtain⟨h2,e2⟩:=aS.mp b;exact (List.getElem_inj hN).mp (e1.trans e2.symm)
theorem uJ {M:Model} {i:Nat} {x:Str} {v:V} {u:Value} {Q:Unit->Shared->Prop} (I:Inv X pins Z H s) (hN:X.N.Nodup) (hi:X.N[i]?=some x) (hx:Loc X.env.scope x) (r:aH v u)
  (h:∀s',Inv X pins (Z.set i (some v)) H s'->(∃a,Heap.SameBut a s.heap s'.heap/\(a=X.env.locals\/X.env.cells.lookup x=some a))->Q () s') (hf:X.fn x=true\/X.env.scope.names.lookup x=some .local:=by first|exact .inl rfl|exact .inr rfl|assumption):wpAny M A (storeName X.env x u) Q E s:=by
 obtain⟨m,hn,hl⟩:=id I.loc;have hcls:(X.env.scope.kind==.class||(X.env.scope.kind==.module&&X.env.locals != X.env.globals))=false:=by rw[I.ok.kind];rfl
 have hiσ:i<Z.length:=by rw[I.len];exact (aS.mp hi).1
 have cne:=I.cne;have tracked:∀{a:Addr} {h':Heap},(∃o,s.heap.get? a=some o/\H a=none)->Heap.SameBut a s.heap h'->HOk X.prog X.w H h':=λ{a h'} ha hs b ob e=>by
  obtain⟨_,_,hfree⟩:=ha;refine (I.hok b ob e).stay (λc w' hc q=>(hs.2 c ?_).trans q) (λ_ q=>q) λ_ _ q=>q;rintro rfl;rcases hc with rfl|hc
  .rw[hfree] at e;cases e
  .rw[hfree] at hc;cases hc
 rcases hx with hk|hk
 .refine wpAny_storeName_local hk hn (λh' hn' hs=>?_) hcls;obtain⟨oL,_,_,hoL,_⟩:=id hn;refine h _ ⟨I.ok,I.os,I.bare,⟨λb o e n hb hx=>?_,λb o e n hb hx=>?_,I.base.free,λb o e hx=>?_,I.base.tups,I.base.frzs,I.base.tbls⟩,⟨_,hn',λj y v' e1 e2 e3=>?_⟩,λy c e=>?_,I.free,I.freeC,λp hp=>?_,tracked ⟨oL,hoL,I.free⟩ hs,by simpa using I.len⟩ ⟨_,hs,.inl rfl⟩
  .exact (hs.2 b (cC (c_ (bf e) I.ok.above))).trans (I.base.keep b o e n hb hx)
  .obtain⟨sl,e1⟩:=I.base.slot b o e n hb hx;exact⟨sl,(hs.2 b (cC (c_ (bf e) I.ok.above))).trans e1⟩
  .obtain⟨o',e1⟩:=I.base.there b o e hx;exact⟨o',(hs.2 b (cC (c_ (bf e) I.ok.above))).trans e1⟩
  .by_cases hj:j=i
   .subst hj;rw[hi] at e1;cases e1;rw[IL hiσ] at e2;cases e2;exact⟨u,r,.inl ⟨hk,by simp⟩⟩
   .rw[IK (aF hj)] at e2;obtain⟨u',r',q⟩:=hl j y v' e1 e2 e3;refine⟨u',r',?_⟩;rcases q with ⟨k,e⟩|⟨k,c,e,z⟩
    .refine .inl ⟨k,?_⟩;have:y≠x:=λe=>hj (vG hN e1 (e ▸ hi));simp[this,e]
    .exact .inr ⟨k,c,e,z.sameBut hs (cne y c e)⟩
  .obtain⟨w',z⟩:=I.cell y c e;exact⟨w',z.sameBut hs (cne y c e)⟩
  .obtain⟨e,n,ne,nf,d⟩:=I.pin p hp;exact⟨(hs.2 p.1 ne).trans e,n,ne,nf,d⟩
 .have hfn:X.fn x=true:=by
   rcases hf with z|z
   .exact z
   .rw[z] at hk;cases hk
  obtain⟨c,hc⟩:=I.ok.has x (.inl hk);obtain⟨w',z⟩:=I.cell x c hc;refine wpAny_storeName_cell I.ok.kind hk hc z (λh' hc' hs=>?_);obtain⟨oc,hoc,hocd⟩:=id z;refine h {s with heap:=h'} ⟨I.ok,I.os,I.bare,⟨λb o e n hb hx=>?_,λb o e n hb hx=>?_,I.base.free,λb o e hx=>?_,I.base.tups,I.base.frzs,I.base.tbls⟩,⟨m,hn.sameBut hs (aF (cne x c hc)),λj y v' e1 e2 e3=>?_⟩,λy c' e=>?_,I.free,I.freeC,λp hp=>?_,tracked ⟨oc,hoc,I.freeC x c hc⟩ hs,by simpa using I.len⟩ ⟨c,hs,.inr hc⟩
  .exact (hs.2 b (cC (c_ (bf e) (I.ok.cab x c hfn hc)))).trans (I.base.keep b o e n hb hx)
  .obtain⟨sl,e1⟩:=I.base.slot b o e n hb hx;exact⟨sl,(hs.2 b (cC (c_ (bf e) (I.ok.cab x c hfn hc)))).trans e1⟩
  .obtain⟨o',e1⟩:=I.base.there b o e hx;exact⟨o',(hs.2 b (cC (c_ (bf e) (I.ok.cab x c hfn hc)))).trans e1⟩
  .by_cases hj:j=i
   .subst hj;rw[hi] at e1;cases e1;rw[IL hiσ] at e2;cases e2;exact⟨u,r,.inr ⟨.inl hk,c,hc,hc'⟩⟩
   .rw[IK (aF hj)] at e2;obtain⟨u',r',q⟩:=hl j y v' e1 e2 e3;refine⟨u',r',?_⟩;rcases q with q|⟨k,c',e,z'⟩
    .exact .inl q
    .refine .inr ⟨k,c',e,z'.sameBut hs ?_⟩;rintro rfl;exact hj (vG hN e1 (I.ok.inj _ _ _ e hc ▸ hi))
  .by_cases hcc:c'=c
   .subst hcc;exact⟨_,hc'⟩
   .obtain⟨w2,z2⟩:=I.cell y c' e;exact⟨w2,z2.sameBut hs hcc⟩
  .obtain⟨e,n,ne,nf,d⟩:=I.pin p hp;refine⟨(hs.2 p.1 ?_).trans e,n,ne,nf,d⟩;intro q;rw[q,hoc] at e;have q':oc=p.2:=cH e;exact d w' (by rw[<-q'];exact hocd)
theorem qz {M:Model} {i:Nat} {x:Str} {v:V} {u:Value} {Q:Unit->Shared->Prop} (I:Inv X pins Z H s) (hN:X.N.Nodup) (hi:X.N[i]?=some x) (hx:Loc X.env.scope x) (r:aH v u)
  (h:∀s',Inv X pins (Z.set i (some v)) H s'->Q () s') (hf:X.fn x=true\/X.env.scope.names.lookup x=some .local:=by first|exact .inl rfl|exact .inr rfl|assumption):wpAny M A (storeName X.env x u) Q E s:=
 uJ I hN hi hx r (λs' I' _=>h s' I') hf
theorem Inv.call' {s':Shared} {ch:List Addr} (I:Inv X pins Z H s) (ho:s'.os=s.os) (u:Un (frs X.stack) ch H H' s.heap s'.heap) (hok:HOk X.prog X.w H' s'.heap) (hg:AllBare s'.gens)
  (hch:∀b∈ch,(b∈X.ex\/X.s₀.heap.objs.size<=b)/\b≠X.env.locals/\(∀x c,X.env.cells.lookup x=some c->c≠b)/\∀p∈X.pn++pins,p.1≠b):Inv X pins Z H' s':=by
 obtain⟨h',g',d',t',o'⟩:=s';have e:o'=s.os:=ho;subst e;exact I.call (g':=g') (t':=t') (d':=d') u hok hg hch
end
abbrev XK:=Value->Option Addr->Hp->Prop
abbrev St:=List (Option V)
abbrev VK:=V->Hp->Prop
abbrev TE:=St->Hp->VK->Prop
abbrev TT:=St->Hp->(Bool->Hp->Prop)->Prop
abbrev TA:=St->Hp->(List V->Hp->Prop)->Prop
structure Ends where
 nx:St->Hp->Prop
 rt:VK
 bk:St->Hp->Prop:=λ_ _=>False
 ct:St->Hp->Prop:=λ_ _=>False
abbrev TS:=Ends->St->Hp->Prop
def EP (X:Cx) (pins:List (Addr×Obj)) (Z:St) (Q:VK) (u:Value) (s':Shared):Prop:=∃v H',Inv X pins Z H' s'/\aH v u/\Q v H'
def TP (X:Cx) (pins:List (Addr×Obj)) (Z:St) (Q:Bool->Hp->Prop) (b:Bool) (s':Shared):Prop:=∃H',Inv X pins Z H' s'/\Q b H'
def AP (X:Cx) (pins:List (Addr×Obj)) (Z:St) (Q:List V->Hp->Prop) (us:List Value) (s':Shared):Prop:=∃vs H',Inv X pins Z H' s'/\Vals vs us/\Q vs H'
def SP (X:Cx) (pins:List (Addr×Obj)) (D:Ends) (f:Flow) (s':Shared):Prop:=
 match f with
 |.next=>∃Z' H',Inv X pins Z' H' s'/\D.nx Z' H'
 |.brk=>∃Z' H',Inv X pins Z' H' s'/\D.bk Z' H'
 |.cont=>∃Z' H',Inv X pins Z' H' s'/\D.ct Z' H'
 |.ret u=>∃v Z' H',Inv X pins Z' H' s'/\aH v u/\D.rt v H'
def PE (X:Cx) (e:Expr) (t:TE):Prop:=
 ∀(pins:List (Addr×Obj)) (s:Shared) (Z:St) (H:Hp) (Q:VK),Inv X pins Z H s->t Z H Q->wpAny (model X.prog X.w) X.A (eval e X.env) (EP X pins Z Q) X.xe s
def PT (X:Cx) (e:Expr) (t:TT):Prop:=
 ∀(pins:List (Addr×Obj)) (s:Shared) (Z:St) (H:Hp) (Q:Bool->Hp->Prop),Inv X pins Z H s->t Z H Q->wpAny (model X.prog X.w) X.A (isTrue e X.env (eval e X.env)) (TP X pins Z Q) X.xe s
def PW (X:Cx) (e:Expr) (t:TT):Prop:=
 ∀(whole:Sem Value) (pins:List (Addr×Obj)) (s:Shared) (Z:St) (H:Hp) (Q:Bool->Hp->Prop),Inv X pins Z H s->t Z H Q->wpAny (model X.prog X.w) X.A (isTrue e X.env whole) (TP X pins Z Q) X.xe s
theorem PW.pt {X:Cx} {e:Expr} {t:TT} (h:PW X e t):PT X e t:=h _
def PA (X:Cx) (es:List Expr) (t:TA):Prop:=
 ∀(pos:Pos) (pins:List (Addr×Obj)) (s:Shared) (Z:St) (H:Hp) (Q:List V->Hp->Prop),Inv X pins Z H s->t Z H Q->wpAny (model X.prog X.w) X.A (spliced (backTo pos (starEach es X.env))) (AP X pins Z Q) X.xe s
def PS (X:Cx) (st:Stmt) (t:TS):Prop:=
 ∀(pins:List (Addr×Obj)) (s:Shared) (Z:St) (H:Hp) (D:Ends),Inv X pins Z H s->t D Z H->wpAny (model X.prog X.w) X.A (exec st X.env) (SP X pins D) X.xe s
def PSs (X:Cx) (st:List Stmt) (t:TS):Prop:=
 ∀(pins:List (Addr×Obj)) (s:Shared) (Z:St) (H:Hp) (D:Ends),Inv X pins Z H s->t D Z H->wpAny (model X.prog X.w) X.A (execs st X.env) (SP X pins D) X.xe s
theorem thn {α:Type} {t:Sem α} {Q Q':α->Shared->Prop} {M:Model} (h:wpAny M A t Q E s) (hQ:∀a s,Q a s->Q' a s):wpAny M A t Q' E s:=fe h hQ λ_ _ x=>x
end L2
variable {H:L2.Hp} {Z:L2.St} {X:L2.Cx} {xs:List L2.V} {vs:List L2.V} {H':L2.Hp}
namespace L2
open PySem PySem.Spec PyProof.Rows
section
def Ex2 {α β:Type} (P:α->β->Prop) (a:α):Prop:=Exists (P a)
def Ex3 {α β γ:Type} (P:α->β->γ->Prop) (a:α):Prop:=Exists (Ex2 (P a))
def Ex4 {α β γ δ:Type} (P:α->β->γ->δ->Prop) (a:α):Prop:=Exists (Ex3 (P a))
def Ex5 {α β γ δ ε:Type} (P:α->β->γ->δ->ε->Prop) (a:α):Prop:=Exists (Ex4 (P a))
def Ex6 {α β γ δ ε ζ:Type} (P:α->β->γ->δ->ε->ζ->Prop) (a:α):Prop:=Exists (Ex5 (P a))
def Ex7 {α β γ δ ε ζ η:Type} (P:α->β->γ->δ->ε->ζ->η->Prop) (a:α):Prop:=Exists (Ex6 (P a))
def Ex8 {α β γ δ ε ζ η θ:Type} (P:α->β->γ->δ->ε->ζ->η->θ->Prop) (a:α):Prop:=Exists (Ex7 (P a))
def Ex9 {α β γ δ ε ζ η θ ι:Type} (P:α->β->γ->δ->ε->ζ->η->θ->ι->Prop) (a:α):Prop:=Exists (Ex8 (P a))
def Ex10 {α β γ δ ε ζ η θ ι κ:Type} (P:α->β->γ->δ->ε->ζ->η->θ->ι->κ->Prop) (a:α):Prop:=Exists (Ex9 (P a))
def Ex11 {α β γ δ ε ζ η θ ι κ μ:Type} (P:α->β->γ->δ->ε->ζ->η->θ->ι->κ->μ->Prop) (a:α):Prop:=Exists (Ex10 (P a))
def Ex12 {α β γ δ ε ζ η θ ι κ μ ν:Type} (P:α->β->γ->δ->ε->ζ->η->θ->ι->κ->μ->ν->Prop) (a:α):Prop:=Exists (Ex11 (P a))
def Ex13 {α β γ δ ε ζ η θ ι κ μ ν ξ:Type} (P:α->β->γ->δ->ε->ζ->η->θ->ι->κ->μ->ν->ξ->Prop) (a:α):Prop:=Exists (Ex12 (P a))
def Same (H H':Hp):Prop:=∀b o,H b=some o->H' b=some o
def fD (H:Hp) (o:HO) (Q:VK):Prop:=∀p H',H p=none->Same H H'->H' p=some o->Q (.ref p) H'
theorem fD.at {o:HO} {Q:VK} {p:Addr} (q:fD H o Q) (h:H p=none):Q (.ref p) (upd H p o):=q p _ h (λb u e=>(bz (λz=>by rw[z,h] at e;cases e)).trans e) cx
def WrO (H:Hp) (l:Addr) (o:HO) (k:Hp->Prop):Prop:=∀H',(∀b,b≠l->H' b=H b)->H' l=some o->k H'
theorem WrO.at {l:Addr} {o:HO} {k:Hp->Prop} (q:WrO H l o k):k (upd H l o):=q _ (λ_ h=>bz h) cx
def Gi (i:Nat) (Z:St) (H:Hp) (Q:VK) (v:V):Prop:=Z[i]?=some (some v)/\Q v H
def eh (i:Nat):TE:=λZ H Q=>Exists (Gi i Z H Q)
def tC (v:V):TE:=λ_ H Q=>Q v H
theorem Fq {i:Nat} {x:Str} {pos:Pos} (hN:X.N[i]?=some x) (hv:Vis X.env.scope x) (hd:(x==("__debug__" : Str))=false:=by decide) (hcd:(x==("__classdict__" : Str))=false:=by decide):PE X (.Name x pos) (eh i):=by
 intro pins s Z H Q I h;obtain⟨v,e,h⟩:=h;obtain⟨m,hn,hl⟩:=I.loc;obtain⟨u,r,l⟩:=hl i x v hN e hv;have fin:EP X pins Z Q u s:=⟨v,H,I,r,h⟩;rcases l with ⟨hk,hm⟩|⟨hk,c,hc,hcell⟩
 .exact zO (JV I.ok.kind hk hn hm fin) hd
 .rcases hk with hk|hk
  .exact zO (JU I.ok.kind hk hc hcell fin) hd
  .exact zO (wpAny_loadName_free I.ok.kind hk hc hcell fin hcd) hd
theorem ag {i j pos}:PE X (.Constant (.int i) j pos) (tC (.int i)):=λ_ _ _ H _ I h=>wpAny_Constant_int ⟨.int i,H,I.tok _,⟨_,rfl⟩,h⟩
theorem yj {b j pos}:PE X (.Constant (.bool b) j pos) (tC (.bl b)):=λ_ _ _ H _ I h=>Constant_bool ⟨.bl b,H,I,rfl,h⟩
theorem fk {j pos}:PE X (.Constant .none j pos) (tC .non):=λ_ _ _ H _ I h=>Constant_none ⟨.non,H,I,rfl,h⟩
theorem b_ {x j pos}:PE X (.Constant (.str x) j pos) (tC (.str x)):=λ_ _ _ H _ I h=>Calls.Constant_str ⟨.str x,H,I.tok _,⟨_,rfl⟩,h⟩
def Gl (X:Cx) (x:Str):Prop:=X.env.kindOf x=some .globalImplicit
theorem D5 {x:Str} {u:Value} {pos:Pos} {Q:Value->Shared->Prop} (I:Inv X pins Z H s) (hg:Gl X x) (hm:X.mg x=some u) (h:Q u s)
  (hd:(x==("__debug__" : Str))=false:=by decide):wpAny (model X.prog X.w) X.A (eval (.Name x pos) X.env) Q E s:=
 Ir I.ok.kind hg (Calls.loadGlobal_global (by rw[I.ok.glob];exact I.mod.glob.keeps I.bk) hm h) hd
theorem iY {x:Str} {u:Value} {pos:Pos} {Q:Value->Shared->Prop} (I:Inv X pins Z H s) (hg:Gl X x) (hm:X.mg x=none) (hv:bootBuiltins x=some u) (h:Q u s)
  (hn:x≠"__name__":=by decide) (hd:(x==("__debug__" : Str))=false:=by decide):wpAny (model X.prog X.w) X.A (eval (.Name x pos) X.env) Q E s:=by
 obtain⟨mb,h1,h2⟩:=I.mod.blt;exact Ir I.ok.kind hg (Calls.loadGlobal_builtin (by rw[I.ok.glob];exact I.mod.glob.keeps I.bk) hm (by rw[I.ok.blt];exact h1.keeps I.bk) ((h2 x hn).trans hv) h) hd
variable {a b:Expr} {ta tb:TE} {pos:Pos}
def PC (X:Cx) (op:CmpOp) (a b:Expr) (t:TE):Prop:=
 ∀(pins:List (Addr×Obj)) (s:Shared) (Z:St) (H:Hp) (Q:VK),Inv X pins Z H s->t Z H Q->
  wpAny (model X.prog X.w) X.A (eval a X.env) (λv s₁=>wpAny (model X.prog X.w) X.A (eval b X.env) (λu s₂=>wpAny (model X.prog X.w) X.A (compareOp op v u) (EP X pins Z Q) X.xe s₂) X.xe s₁) X.xe s
def tBB (Q:Bool->Hp->Prop) (x:V) (H1:Hp) (c:Bool):Prop:=x=.bl c/\Q c H1
def tBK (Q:Bool->Hp->Prop):VK:=λx H1=>Exists (tBB Q x H1)
def tB (t:TE):TT:=λZ H Q=>t Z H (tBK Q)
theorem rO {op:CmpOp} {t:TE} (h:PC X op a b t) (h1:behindInMarks op b=false:=by first|exact nobehind _ (by decide) (by decide)|rfl):PE X (.Compare a [op] [b] pos) t:=λpins s Z H Q I hw=>JM (h pins s Z H Q I hw) h1
theorem ml {op:CmpOp} {t:TE} (h:PC X op a b t) (h1:behindInMarks op b=false:=by first|exact nobehind _ (by decide) (by decide)|rfl):PT X (.Compare a [op] [b] pos) (tB t):=by intro pins s Z H Q I hw;refine JS (thn (h pins s Z H _ I hw) λv s1 h1=>thn h1 λu s2 h2=>thn h2 λc s3 ⟨x,H1,I1,r1,q1⟩=>?_) h1;obtain⟨d,rfl,q⟩:=q1;cases r1;exact iJ ⟨H1,I1,q⟩
theorem mh {e:Expr} {t:TE} (h:PE X e t) (he:∀whole,isTrue e X.env whole=(do let v <-whole;standAt e.pos;holding [v] (truthy v)):=by intro _;rfl):PT X e (tB t):=by intro pins s Z H Q I hw;refine isTrue_plain (thn (h pins s Z H _ I hw) λv s1 ⟨x,H1,I1,r1,q1⟩=>?_) (he _);obtain⟨d,rfl,q⟩:=q1;cases r1;exact iJ ⟨H1,I1,q⟩
variable {tA tB':TT} {rest:List Expr}
def G_ (u:TT) (Z:St) (Q:Bool->Hp->Prop):Bool->Hp->Prop:=λc H1=>if c=true then u Z H1 Q else Q false H1
def sM (t u:TT):TT:=λZ H Q=>t Z H (G_ u Z Q)
def pf (u:TT) (Z:St) (Q:Bool->Hp->Prop):Bool->Hp->Prop:=λc H1=>if c=true then Q true H1 else u Z H1 Q
def tOr (t u:TT):TT:=λZ H Q=>t Z H (pf u Z Q)
def oV (Q:Bool->Hp->Prop):Bool->Hp->Prop:=λc H1=>Q (!c) H1
def tNot (t:TT):TT:=λZ H Q=>t Z H (oV Q)
theorem eM (ha:PT X a tA):PW X (.BoolOp .And [a] pos) tA:=by
 intro wh pins s Z H Q I h;refine isTrue_and (thn (ha pins s Z H Q I h) λc s1 e=>?_);cases c with
 |true=>exact isTrue_and_nil e
 |false=>exact e
theorem jM (ha:PT X a tA):PW X (.BoolOp .Or [a] pos) tA:=by
 intro wh pins s Z H Q I h;refine isTrue_or (thn (ha pins s Z H Q I h) λc s1 e=>?_);cases c with
 |false=>exact isTrue_or_nil e
 |true=>exact e
theorem eG (ha:PT X a tA) (hb:PW X (.BoolOp .And (b::rest) pos) tB'):PW X (.BoolOp .And (a::b::rest) pos) (sM tA tB'):=by
 intro wh pins s Z H Q I h;refine isTrue_and (thn (ha pins s Z H _ I h) λc s1 ⟨H1,I1,q1⟩=>?_);cases c with
 |true=>exact hb wh pins s1 Z H1 Q I1 q1
 |false=>exact⟨H1,I1,q1⟩
theorem i8 (ha:PT X a tA) (hb:PW X (.BoolOp .Or (b::rest) pos) tB'):PW X (.BoolOp .Or (a::b::rest) pos) (tOr tA tB'):=by
 intro wh pins s Z H Q I h;refine isTrue_or (thn (ha pins s Z H _ I h) λc s1 ⟨H1,I1,q1⟩=>?_);cases c with
 |true=>exact⟨H1,I1,q1⟩
 |false=>exact hb wh pins s1 Z H1 Q I1 q1
theorem rL (ha:PT X a tA):PT X (.UnaryOp .Not a pos) (tNot tA):=by intro pins s Z H Q I h;exact isTrue_not (ha pins s Z H (λc H1=>Q (!c) H1) I h)
def Gr (tb:TE) (Z:St) (Q:VK) (x:V) (H1:Hp) (c:Bool):Prop:=x=.bl c/\if c=true then Q (.bl true) H1 else tb Z H1 Q
def Gq (tb:TE) (Z:St) (Q:VK):VK:=λx H1=>Exists (Gr tb Z Q x H1)
def tOrV (ta tb:TE):TE:=λZ H Q=>ta Z H (Gq tb Z Q)
theorem Fs {op} {t:TE} (h:PE X a t):PE X (.BoolOp op [a] pos) t:=λpins s Z H Q I hw=>BoolOp_one (h pins s Z H Q I hw)
theorem HL (ha:PE X a ta) (hb:PE X (.BoolOp .Or (b::rest) pos) tb):PE X (.BoolOp .Or (a::b::rest) pos) (tOrV ta tb):=by
 intro pins s Z H Q I h;refine BoolOp_or (thn (ha pins s Z H _ I h) λv s1 ⟨x,H1,I1,r1,q1⟩=>?_);obtain⟨c,rfl,q1⟩:=q1;cases r1;refine iJ ?_;cases c with
 |false=>exact hb pins s1 Z H1 Q I1 q1
 |true=>exact⟨.bl true,H1,I1,rfl,q1⟩
end
end L2
namespace L2
open PySem PySem.Spec PyProof.Rows
def SqL (K:W.Frag) (H:Hp) (a:Addr) (xs:List V):Prop:=
 Rd H a (.lst xs) \/
  ∃(o:Obj) (its:Array Value) (n:Nat),K.lookup a=some o/\o.cls=.type "list"/\o.dict=none/\o.data=.seq its n/\its.size<=sizeLine/\Vals xs its.toList
def SqT (K:W.Frag) (H:Hp) (a:Addr) (xs:List V):Prop:=
 Rd H a (.tup xs) \/
  ∃(o:Obj) (its:Array Value) (n:Nat),K.lookup a=some o/\o.cls=.type "tuple"/\o.data=.seq its n/\its.size<=sizeLine/\Vals xs its.toList
def absV:Value->Option V
 |.none=>some .non
 |.bool b=>some (.bl b)
 |.int i _=>some (.int i)
 |.str x _=>some (.str x)
 |.bytes b _=>some (.byt b)
 |.float b _=>some (.flt b)
 |.ref a=>some (.ref a)
 |.type n=>some (.ty n)
 |_=>none
theorem aH.abs {x:V} {u:Value} (r:aH x u):absV u=some x:=by
 cases x with
 |non=>cases r;rfl
 |bl _=>cases r;rfl
 |int _=>obtain⟨t,rfl⟩:=r;rfl
 |str _=>obtain⟨t,rfl⟩:=r;rfl
 |byt _=>obtain⟨t,rfl⟩:=r;rfl
 |flt _=>obtain⟨t,rfl⟩:=r;rfl
 |ref _=>cases r;rfl
 |ty _=>cases r;rfl
theorem aH.inj {x y:V} {u:Value} (r:aH x u) (q:aH y u):x=y:=cH (r.abs.symm.trans q.abs)
theorem Vals.inj:∀{xs ys:List V} {us:List Value},Vals xs us->Vals ys us->xs=ys
 |_,_,_,.nil,.nil=>rfl
 |_,_,_,.cons r t,.cons r' t'=>by rw[r.inj r',Vals.inj t t']
section
variable {a:Addr} {xs ys:List V}
theorem SqL.of (h:H a=some (.lst xs)):SqL K H a xs:=.inl (.inl h)
theorem SqT.of (h:H a=some (.tup xs)):SqT K H a xs:=.inl (.inl h)
theorem Inv.list (I:Inv X pins Z H s) (h:SqL [] H a xs):∃its:List Value,Vals xs its/\PlainL s.heap a its.toArray/\xs.length<=sizeLine:=by
 rcases h with h|⟨o,its,n,hk,hc,hd,hs,hz,r⟩
 .obtain⟨z,its,n,r,e⟩:=h.ok I.hok;exact⟨its,r,⟨_,n,e,rfl,rfl,rfl⟩,z⟩
 .cases hk
theorem Inv.tuple (I:Inv X pins Z H s) (h:SqT [] H a xs):∃its:List Value,Vals xs its/\IsTup s.heap a its.toArray/\xs.length<=sizeLine:=by
 rcases h with h|⟨o,its,n,hk,hc,hs,hz,r⟩
 .obtain⟨⟨z,_⟩,its,r,p⟩:=h.ok I.hok;exact⟨its,r,p,z⟩
 .cases hk
theorem Inv.list_inj (I:Inv X pins Z H s) (h:SqL [] H a xs) (h':SqL [] H a ys):xs=ys:=by
 obtain⟨its,r,⟨o,n,e,_,_,d⟩,_⟩:=I.list h;obtain⟨its',r',⟨o',n',e',_,_,d'⟩,_⟩:=I.list h';rw[e] at e';cases e';rw[d] at d';injection d' with d1 _;have:its=its':=by simpa using congrArg Array.toList d1
 subst this;exact r.inj r'
theorem Inv.tuple_inj (I:Inv X pins Z H s) (h:SqT [] H a xs) (h':SqT [] H a ys):xs=ys:=by
 obtain⟨its,r,⟨o,e,_,n,d⟩,_⟩:=I.tuple h;obtain⟨its',r',⟨o',e',_,n',d'⟩,_⟩:=I.tuple h';rw[e] at e';cases e';rw[d] at d';injection d' with d1 _;have:its=its':=by simpa using congrArg Array.toList d1
 subst this;exact r.inj r'
end
abbrev Cx.wish (X:Cx) (E:Value->Shared->Prop):Cx:={X with xe:=E}
abbrev Cx.nox (X:Cx):Cx:=X.wish λ_ _=>False
theorem Cx.Ok.wish (ok:X.Ok) (E:Value->Shared->Prop):(X.wish E).Ok:=
 ⟨ok.mod,ok.kind,ok.glob,ok.blt,ok.above,ok.inj,ok.has,ok.cab,ok.hd,ok.frames,ok.stk,ok.exf,ok.bs,ok.bsz,ok.noex,ok.exfs,ok.funs,ok.frf⟩
theorem Cx.Ok.unwish (ok:(X.wish E).Ok):X.Ok:=
 ⟨ok.mod,ok.kind,ok.glob,ok.blt,ok.above,ok.inj,ok.has,ok.cab,ok.hd,ok.frames,ok.stk,ok.exf,ok.bs,ok.bsz,ok.noex,ok.exfs,ok.funs,ok.frf⟩
section
theorem Inv.wish (I:Inv X pins Z H s) (E:Value->Shared->Prop):Inv (X.wish E) pins Z H s:=⟨I.ok.wish E,I.os,I.bare,I.base,I.loc,I.cell,I.free,I.freeC,I.pin,I.hok,I.len⟩
theorem Inv.unwish (I:Inv (X.wish E) pins Z H s):Inv X pins Z H s:=⟨I.ok.unwish,I.os,I.bare,I.base,I.loc,I.cell,I.free,I.freeC,I.pin,I.hok,I.len⟩
theorem SP.unwish {D:Ends} {f:Flow} {s':Shared} (h:SP (X.wish E) pins D f s'):SP X pins D f s':=by
 cases f with
 |next=>obtain⟨Z',H',I,q⟩:=h;exact⟨Z',H',I.unwish,q⟩
 |brk=>obtain⟨Z',H',I,q⟩:=h;exact⟨Z',H',I.unwish,q⟩
 |cont=>obtain⟨Z',H',I,q⟩:=h;exact⟨Z',H',I.unwish,q⟩
 |ret u=>obtain⟨v,Z',H',I,r,q⟩:=h;exact⟨v,Z',H',I.unwish,r,q⟩
theorem PSs.nox {st:List Stmt} {t:TS} (h:PSs X.nox st t):PSs X st t:=λpins s Z H D I hw=>
 fe (h pins s Z H D (I.wish _) hw) (λ_ _ q=>q.unwish) λ_ _ z=>False.elim z
end
section
variable {st:Stmt} {rest:List Stmt} {t u:TS} {e:Expr} {te:TE} {pos:Pos}
def Gs:TS:=λD Z H=>D.nx Z H
def sv (t u:TS):TS:=λD Z H=>t {D with nx:=u D} Z H
theorem bJ:PSs X [] Gs:=λ_ _ Z H _ I h=>ub ⟨Z,H,I,h⟩
theorem ak (h1:PS X st t) (h2:PSs X rest u):PSs X (st::rest) (sv t u):=by
 intro pins s Z H D I h;refine JQ (thn (h1 pins s Z H {D with nx:=u D} I h) λf s1 q=>?_);cases f with
 |next=>
  obtain⟨Z',H',I',q⟩:=q;exact h2 pins s1 Z' H' D I' q
 |ret v=>exact q
 |brk=>exact q
 |cont=>exact q
theorem au (h1:PS X st t):PSs X [st] t:=by
 intro pins s Z H D I h;refine JQ (thn (h1 pins s Z H D I h) λf s1 q=>?_);cases f with
 |next=>exact ub q
 |ret v=>exact q
 |brk=>exact q
 |cont=>exact q
def EW:TS:=λD Z H=>D.bk Z H
def G4:TS:=λD Z H=>D.ct Z H
theorem Ci:PS X (.Break pos) EW:=λ_ _ Z H _ I h=>wpAny_Break ⟨Z,H,I,h⟩
theorem Aq:PS X (.Continue pos) G4:=λ_ _ Z H _ I h=>wpAny_Continue ⟨Z,H,I,h⟩
theorem Inv.quiet (I:Inv X pins Z H s):interactive X.env=false:=by simp[interactive,I.ok.kind]
def EK (D:Ends) (Z:St):VK:=λ_ H1=>D.nx Z H1
def Gy (te:TE):TS:=λD Z H=>te Z H (EK D Z)
theorem cy (he:PE X e te) (hs:swapsWith e none pos.line X.env=pure false:=by rfl):PS X (.Expr e pos) (Gy te):=by intro pins s Z H D I h;exact wpAny_Expr_any (thn (he pins s Z H _ I h) λv s1 ⟨x,H1,I1,r1,q1⟩=>⟨Z,H1,I1,q1⟩) I.quiet hs
def tRet (te:TE):TS:=λD Z H=>te Z H D.rt
theorem bj (he:PE X e te):PS X (.Return (some e) pos) (tRet te):=by intro pins s Z H D I h;exact wpAny_Return_some (thn (he pins s Z H _ I h) λv s1 ⟨x,H1,I1,r1,q1⟩=>⟨x,Z,H1,I1,r1,q1⟩)
def tIfK (t u:TS) (D:Ends) (Z:St):Bool->Hp->Prop:=λb H1=>if b=true then t D Z H1 else u D Z H1
def mP (c:TT) (t u:TS):TS:=λD Z H=>c Z H (tIfK t u D Z)
theorem bL {c:Expr} {a b:List Stmt} {tc:TT} (hc:PT X c tc) (ha:PSs X a t) (hb:PSs X b u):PS X (.If c a b pos) (mP tc t u):=by
 intro pins s Z H D I h;refine wpAny_If (thn (hc pins s Z H _ I h) λd s1 ⟨H1,I1,q1⟩=>?_);cases d with
 |true=>exact ha pins s1 Z H1 D I1 q1
 |false=>exact hb pins s1 Z H1 D I1 q1
def EJ:TS:=λ_ _ _=>False
theorem n6 {sts:List Stmt}:PSs X sts EJ:=λ_ _ _ _ _ _ h=>h.elim
end
abbrev TG:=V->St->Hp->(St->Hp->Prop)->Prop
abbrev TGs:=List V->St->Hp->(St->Hp->Prop)->Prop
def PG (X:Cx) (target:Expr) (t:TG):Prop:=
 ∀(pins:List (Addr×Obj)) (s:Shared) (Z:St) (H:Hp) (v:V) (u:Value) (Q:St->Hp->Prop),Inv X pins Z H s->aH v u->t v Z H Q->
  wpAny (model X.prog X.w) X.A (assign target X.env u) (λ_ s'=>∃Z' H',Inv X pins Z' H' s'/\Q Z' H') X.xe s
def PGs (X:Cx) (ts:List Expr) (t:TGs):Prop:=
 ∀(pins:List (Addr×Obj)) (s:Shared) (Z:St) (H:Hp) (vs:List V) (us:List Value) (Q:St->Hp->Prop),Inv X pins Z H s->Vals vs us->t vs Z H Q->
  wpAny (model X.prog X.w) X.A (assignInOrder ((assignEach ts X.env).map (·.2)) us) (λ_ s'=>∃Z' H',Inv X pins Z' H' s'/\Q Z' H') X.xe s
abbrev TSet:=V->V->V->Hp->(Hp->Prop)->Prop
def PSet (X:Cx) (t:TSet):Prop:=
 ∀(pins:List (Addr×Obj)) (s:Shared) (Z:St) (H:Hp) (o i v:V) (ov iv u:Value) (Q:Hp->Prop),Inv X pins Z H s->aH o ov->aH i iv->aH v u->t o i v H Q->
  wpAny (model X.prog X.w) X.A (setItem ov iv u) (λ_ s'=>∃H',Inv X pins Z H' s'/\Q H') X.xe s
abbrev TIp:=V->V->Hp->VK->Prop
def PIp (X:Cx) (op:Operator) (t:TIp):Prop:=
 ∀(pins:List (Addr×Obj)) (s:Shared) (Z:St) (H:Hp) (x y:V) (v u:Value) (Q:VK),Inv X pins Z H s->aH x v->aH y u->t x y H Q->
  wpAny (model X.prog X.w) X.A (inplaceOp op v u) (EP X pins Z Q) X.xe s
section
variable {pos:Pos}
def dZ (i:Nat):TG:=λv Z H Q=>Q (Z.set i (some v)) H
theorem aK {i:Nat} {x:Str} (hN:X.N.Nodup) (hi:X.N[i]?=some x) (hx:Loc X.env.scope x) (hf:X.fn x=true\/X.env.scope.names.lookup x=some .local:=by first|exact .inl rfl|exact .inr rfl|assumption):PG X (.Name x pos) (dZ i):=by intro pins s Z H v u Q I r h;exact JO (qz I hN hi hx r (λs' I'=>⟨_,H,I',h⟩) hf)
def mX:TGs:=λvs Z H Q=>vs=[]/\Q Z H
def F3 (u:TGs) (r:List V) (Q:St->Hp->Prop):St->Hp->Prop:=λZ' H'=>u r Z' H' Q
def F4 (t:TG) (u:TGs) (vs:List V) (Z:St) (H:Hp) (Q:St->Hp->Prop) (v:V) (r:List V):Prop:=vs=v::r/\t v Z H (F3 u r Q)
def gR (t:TG) (u:TGs):TGs:=λvs Z H Q=>Exists (Ex2 (F4 t u vs Z H Q))
theorem dt:PGs X [] mX:=by intro pins s Z H vs us Q I r h;obtain⟨e,h⟩:=h;subst e;cases r;exact assignInOrder_nil ⟨Z,H,I,h⟩
theorem bB {e:Expr} {es:List Expr} {t:TG} {u:TGs} (h1:PG X e t) (h2:PGs X es u)
  (hs:(assignEach (e::es) X.env).map (·.2)=assign e X.env::(assignEach es X.env).map (·.2):=by rfl):PGs X (e::es) (gR t u):=by
 intro pins s Z H vs us Q I r h;obtain⟨v,vr,e1,h⟩:=h;subst e1;cases r with
 |cons r rr=>
  rw[hs];refine assignInOrder_cons (thn (h1 pins s Z H _ _ _ I r h) λ_ s1 ⟨Z1,H1,I1,q1⟩=>?_);exact h2 pins s1 Z1 H1 _ _ Q I1 rr q1
def H0 (K:W.Frag) (n:Nat) (t:TGs) (v:V) (Z:St) (H:Hp) (Q:St->Hp->Prop) (a:Addr) (xs:List V):Prop:=v=.ref a/\SqT K H a xs/\xs.length=n/\t xs Z H Q
def mW (K:W.Frag) (n:Nat) (t:TGs):TG:=λv Z H Q=>Exists (Ex2 (H0 K n t v Z H Q))
theorem dX {es:List Expr} {k:Nat} {t:TGs} (hc:X.calm=true) (h:PGs X es t)
  (hn:(assignEach es X.env).length=es.length:=by rfl) (hst:(assignEach es X.env).findIdx? (·.1)=none:=by rfl):PG X (.Tuple es k pos) (mW [] es.length t):=by
 intro pins s Z H v u Q I r hw;obtain⟨a,xs,e1,hq,hl,hw⟩:=hw;subst e1;cases r;obtain⟨its,rv,ht,hz⟩:=I.tuple hq;refine assign_Tuple_tuple (I.ok.hd hc) ht (by simp[hn,<-hl,rv.length]) hst λh' hx=>?_;have I1:Inv X pins Z H {s with heap:=h'}:=I.kept (t':=s.toks) λb o e=>hx b o (cC (bf e)) e;exact h pins _ Z H xs _ Q I1 (by simpa using rv) hw
def H_ (t:TSet) (o v:V) (Z:St) (Q:St->Hp->Prop):VK:=λi H2=>t o i v H2 (Q Z)
def Ia (ti:TE) (t:TSet) (v:V) (Z:St) (Q:St->Hp->Prop):VK:=λo H1=>ti Z H1 (H_ t o v Z Q)
def gSub (to ti:TE) (t:TSet):TG:=λv Z H Q=>to Z H (Ia ti t v Z Q)
theorem oM {o i:Expr} {to ti:TE} {t:TSet} (ho:PE X o to) (hi:PE X i ti) (hs:PSet X t)
  (ha:∀v,assign (.Subscript o i pos) X.env v=(do
   let ov <-holding [v] (eval o X.env)
   let iv <-holding [v,ov] (eval i X.env)
   standAt pos
   holding [v,ov,iv] (setItem ov iv v)
   release [v,ov,iv] []):=by intro _;rfl):PG X (.Subscript o i pos) (gSub to ti t):=by
 intro pins s Z H v u Q I r h;rw[ha];refine ao (fK (thn (ho pins s Z H _ I h) λov s1 ⟨x,H1,I1,r1,q1⟩=>?_));refine ao (fK (thn (hi pins s1 Z H1 _ I1 q1) λiv s2 ⟨y,H2,I2,r2,q2⟩=>?_));refine ao (ug (ao (fK (thn (hs pins s2 Z H2 x y v ov iv u _ I2 r1 r2 r q2) λ_ s3 ⟨H3,I3,q3⟩=>?_))));exact wpAny_release ⟨Z,H3,I3,q3⟩
def mB (g:TG) (D:Ends) (Z:St):VK:=λx H1=>g x Z H1 D.nx
def pg (te:TE) (g:TG):TS:=λD Z H=>te Z H (mB g D Z)
theorem eV {tg e:Expr} {te:TE} {g:TG} (he:PE X e te) (hg:PG X tg g) (hs:swapsWithSole [tg] e pos.line X.env=pure false:=by rfl) (hw:swappedStores [tg] e X.env=pure none:=by rfl)
  (h1:(assignEach [tg] X.env).map (·.2)=[assign tg X.env]:=by rfl):PS X (.Assign [tg] e pos) (pg te g):=by
 intro pins s Z H D I h;refine wpAny_Assign_stores (thn (he pins s Z H _ I h) λv s1 ⟨x,H1,I1,r1,q1⟩=>?_) hs hw;rw[h1];exact thn (hg pins s1 Z H1 x v _ I1 r1 q1) λ_ s2 q=>q
theorem aA {i:Nat} {x:Str} {e:Expr} {te:TE} {pos':Pos} (hN:X.N.Nodup) (hi:X.N[i]?=some x) (hx:Loc X.env.scope x) (he:PE X e te) (hs:swapsWith e (some (.Name x pos')) pos.line X.env=pure false:=by rfl) (hf:X.fn x=true\/X.env.scope.names.lookup x=some .local:=by first|exact .inl rfl|exact .inr rfl|assumption) :
  PS X (.Assign [.Name x pos'] e pos) (pg te (dZ i)):=by
 intro pins s Z H D I h;refine wpAny_Assign_Name (thn (he pins s Z H _ I h) λv s1 ⟨y,H1,I1,r1,q1⟩=>?_) hs;exact qz I1 hN hi hx r1 (λs2 I2=>⟨_,H1,I2,q1⟩) hf
def G8 (i:Nat) (D:Ends) (Z:St):VK:=λz H2=>D.nx (Z.set i (some z)) H2
def G9 (i:Nat) (ti:TIp) (D:Ends) (Z:St) (x:V):VK:=λy H1=>ti x y H1 (G8 i D Z)
def G7 (i:Nat) (te:TE) (ti:TIp) (D:Ends) (Z:St) (H:Hp) (x:V):Prop:=Z[i]?=some (some x)/\te Z H (G9 i ti D Z x)
def tAug (i:Nat) (te:TE) (ti:TIp):TS:=λD Z H=>Exists (G7 i te ti D Z H)
theorem Fo {i:Nat} {x:Str} {e:Expr} {te:TE} {op:Operator} {ti:TIp} {pos':Pos} (hN:X.N.Nodup) (hi:X.N[i]?=some x) (hx:Loc X.env.scope x) (he:PE X e te) (ho:PIp X op ti) (hf:X.fn x=true\/X.env.scope.names.lookup x=some .local:=by first|exact .inl rfl|exact .inr rfl|assumption) :
  PS X (.AugAssign (.Name x pos') op e pos) (tAug i te ti):=by
 intro pins s Z H D I h;obtain⟨v,e1,h⟩:=h;obtain⟨m,hn,hl⟩:=I.loc;have vis:Vis X.env.scope x:=by rcases hx with k|k;exact .inl k;exact .inr (.inl k)
 obtain⟨u,r,l⟩:=hl i x v hi e1 vis;refine wpAny_AugAssign_Name ?_;have go:wpAny (model X.prog X.w) X.A (eval e X.env) (λw s₂=>wpAny (model X.prog X.w) X.A (inplaceOp op u w) (λr s₃=>wpAny (model X.prog X.w) X.A (storeName X.env x r) (λ_=>SP X pins D .next) X.xe s₃) X.xe s₂) X.xe s:=by refine thn (he pins s Z H _ I h) λw s1 ⟨y,H1,I1,r1,q1⟩=>?_;refine thn (ho pins s1 Z H1 v y u w _ I1 r r1 q1) λz s2 ⟨zv,H2,I2,r2,q2⟩=>?_;exact qz I2 hN hi hx r2 (λs3 I3=>⟨_,H2,I3,q2⟩) hf
 rcases l with ⟨hk,hm⟩|⟨hk,c,hc,hcell⟩
 .exact JV I.ok.kind hk hn hm go
 .rcases hk with hk|hk
  .exact JU I.ok.kind hk hc hcell go
  .rcases hx with k|k
   .have:X.env.scope.names.lookup x=some .free:=hk;rw[k] at this;cases this
   .have:X.env.scope.names.lookup x=some .free:=hk;rw[k] at this;cases this
def ipI (f:Int->Int->Int):TIp:=λx y H Q=>∃i j,x=.int i/\y=.int j/\Q (.int (f i j)) H
theorem FR:PIp X .Add (ipI λi j=>i+j):=by intro pins s Z H x y v u Q I r1 r2 h;obtain⟨i,j,e1,e2,q⟩:=h;subst e1;subst e2;obtain⟨t,rfl⟩:=r1;obtain⟨t',rfl⟩:=r2;exact iadd_int ⟨.int _,H,I.tok _,⟨_,rfl⟩,q⟩
end
section
variable {pos:Pos}
def tWhN (tb:TS) (D:Ends) (W:Nat->St->Hp->Prop) (m:Nat) (Z:St) (H1:Hp) (N:St->Hp->Prop):Prop:=(∀Z' H',N Z' H'->∃m',m'<m/\W m' Z' H')/\tb {D with nx:=N,ct:=N,bk:=D.nx} Z H1
def tWhK (tb:TS) (D:Ends) (W:Nat->St->Hp->Prop) (m:Nat) (Z:St):Bool->Hp->Prop:=λb H1=>if b=true then Exists (tWhN tb D W m Z H1) else D.nx Z H1
def tWhB (c:TT) (tb:TS) (D:Ends) (Z:St) (H:Hp) (W:Nat->St->Hp->Prop):Prop:=(∃m,W m Z H)/\∀m Z H,W m Z H->c Z H (tWhK tb D W m Z)
def rC (c:TT) (tb:TS):TS:=λD Z H=>Exists (tWhB c tb D Z H)
theorem ib {c:Expr} {body:List Stmt} {tc:TT} {tb:TS} (hp:PassesOwn (model X.prog X.w) X.A X.env X.xe) (hc:PT X c tc) (hb:PSs X body tb):PS X (.While c body [] pos) (rC tc tb):=by
 intro pins s Z H D I h;obtain⟨W,⟨m0,w0⟩,turn⟩:=h;refine wpAny_While (codeAny_whileLoop (λn s'=>∃Z' H',Inv X pins Z' H' s'/\W n Z' H') ?_ m0 ⟨Z,H,I,w0⟩);rintro n s1 ⟨Z1,H1,I1,w1⟩;refine kh hp (thn (hc pins s1 Z1 H1 _ I1 (turn n Z1 H1 w1)) λb s2 ⟨H2,I2,q2⟩=>?_);cases b with
 |true=>
  obtain⟨N,hN,q2⟩:=q2;rw[K3 rfl];refine kh hp (thn (hb pins s2 Z1 H2 _ I2 q2) λf s3 q3=>?_);cases f with
  |next=>
   obtain⟨Z3,H3,I3,n3⟩:=q3;obtain⟨m',hm,w3⟩:=hN Z3 H3 n3;exact⟨m',hm,Z3,H3,I3,w3⟩
  |cont=>
   obtain⟨Z3,H3,I3,n3⟩:=q3;obtain⟨m',hm,w3⟩:=hN Z3 H3 n3;exact⟨m',hm,Z3,H3,I3,w3⟩
  |brk=>exact q3
  |ret v=>exact q3
 |false=>
  rw[K2 cq];exact ub ⟨Z1,H2,I2,q2⟩
end
structure It where
 go:Nat->Hp->Prop
 yld:Nat->Hp->V->Hp->Prop
 stop:Nat->Hp->Prop
def dR (X:Cx) (pins:List (Addr×Obj)) (H:Hp) (b:Addr):Prop:=
 H b=none/\b≠X.env.locals/\b∉X.fs/\(b∈X.ex\/X.s₀.heap.objs.size<=b)/\(∀x c,X.env.cells.lookup x=some c->c≠b)/\∀p∈X.pn++pins,p.1≠b
theorem Inv.fpOk {b:Addr} (I:Inv X pins Z H s) (hb:s.heap.objs.size<=b) (hn:H' b=none):dR X pins H' b:=by
 refine⟨hn,zo (c_ I.lt hb),I.nofs hb,.inr (bV I.sz hb),λx c e z=>?_,λp hp z=>?_⟩
 .obtain⟨v,q⟩:=I.cell x c e;exact absurd (c_ q.lt (by rw[z];exact hb)) (fI _)
 .exact absurd (c_ (bf (I.pin p hp).1) (by rw[z];exact hb)) (fI _)
structure Turn (P:Program) (w:World) (K:W.Frag) (tg:Expr) (J:It) (fp:List Addr) (it:Addr) (tn:Nat->Heap->Prop):Prop where
 mem:it∈fp
 obj:∀i h,tn i h->∀b∈fp,∃o,h.get? b=some o/\∀v,o.data≠.cell v
 keep:∀i h h',tn i h->(∀b∈fp,∀o,h.get? b=some o->h'.get? b=some o)->tn i h'
 item:∀(X:Cx),X.prog=P->X.w=w->X.K=K->X.calm=true->∀(i:Nat) (pins:List (Addr×Obj)) (s:Shared) (Z:St) (H:Hp) (E:Value->Shared->Prop),Inv X pins Z H s->(∀b∈fp,dR X pins H b)->tn i s.heap->J.go i H->
  wpAny (model P w) X.A (pyNext (.ref it)) (λr s1=>∃u,r=some u/\
   wpAny (model P w) X.A (letOwnedTupleGo tg (.ref it) u) (λ_ s2=>∃x H',Inv X pins Z H' s2/\aH x u/\J.yld i H x H'/\tn (i+1) s2.heap/\∀b∈fp,H' b=none) E s1) E s
 done:∀(X:Cx),X.prog=P->X.w=w->X.K=K->X.calm=true->∀(i:Nat) (pins:List (Addr×Obj)) (s:Shared) (Z:St) (H:Hp) (E:Value->Shared->Prop),Inv X pins Z H s->(∀b∈fp,dR X pins H b)->tn i s.heap->J.stop i H->
  wpAny (model P w) X.A (pyNext (.ref it)) (λr s1=>r=none/\Inv X pins Z H s1) E s
 self:∀(A:Around) (i:Nat) (s:Shared) (Q:Value->Shared->Prop) (E:Value->Shared->Prop),tn i s.heap->Q (.ref it) s->wpAny (model P w) A (pyIter (.ref it)) Q E s
abbrev TI:=St->Hp->(It->Hp->Prop)->Prop
def PIE (X:Cx) (pins:List (Addr×Obj)) (Z:St) (tg:Expr) (R:It->Hp->Prop) (itv:Value) (s2:Shared):Prop:=
 ∃(it:Addr) (fp:List Addr) (tn:Nat->Heap->Prop) (J:It) (H':Hp),itv=.ref it/\Inv X pins Z H' s2/\Turn X.prog X.w X.K tg J fp it tn/\tn 0 s2.heap/\(∀b∈fp,dR X pins H' b)/\R J H'
def PI (X:Cx) (tg iter:Expr) (wi:TI):Prop:=
 ∀(pins:List (Addr×Obj)) (s:Shared) (Z:St) (H:Hp) (R:It->Hp->Prop),Inv X pins Z H s->wi Z H R->
  wpAny (model X.prog X.w) X.A (eval iter X.env) (λv s1=>wpAny (model X.prog X.w) X.A (pyIter v) (PIE X pins Z tg R) X.xe s1) X.xe s
theorem r_ {M:Model} {tg:Expr} {it:Addr} {u:Value} {o:Obj} {n:String} {vs:Array Value} {Q:Unit->Shared->Prop} (ho:s.heap.get? it=some o) (hc:o.cls=.type n) (hd:o.data=.fields vs)
  (hn:["enumerate","zip","dict_itemiterator","dict_reverseitemiterator","odict_iterator","itertools.zip_longest","itertools.pairwise"].contains n=false) (hQ:Q () s):wpAny M A (letOwnedTupleGo tg (.ref it) u) Q E s:=by
 unfold letOwnedTupleGo;cases tg<;>first
  |exact aO hQ
  |(cases u<;>first
    |exact aO hQ
    |(refine ao (wpAny_load ho ?_)
      rw[hc,hd];show wpAny M A (if (["enumerate","zip","dict_itemiterator","dict_reverseitemiterator","odict_iterator","itertools.zip_longest","itertools.pairwise"].contains n&&vs[0]?==some (rawInt _))=true then _ else _) Q E s;rw[K2 (by intro h;rw[hn,Bool.false_and] at h;cases h)];exact aO hQ))
def Itl (K:W.Frag) (a:Addr):It:=
 ⟨λi H=>∃xs x,SqL K H a xs/\xs[i]?=some x,λi H x H'=>H'=H/\∀xs,SqL K H a xs->xs[i]?=some x,λi H=>∃xs,SqL K H a xs/\xs.length<=i⟩
def Itt (K:W.Frag) (a:Addr):It:=
 ⟨λi H=>∃xs x,SqT K H a xs/\xs[i]?=some x,λi H x H'=>H'=H/\∀xs,SqT K H a xs->xs[i]?=some x,λi H=>∃xs,SqT K H a xs/\xs.length<=i⟩
def Itr (lo:Int) (n:Nat):It:=⟨λi _=>i<n,λi H x H'=>H'=H/\x=.int (lo+i),λi _=>n<=i⟩
theorem Ba {tg:Expr} (a it:Addr):Turn P w K tg (Itl [] a) [it] it (λi h=>h.IsListIter it a i) where
 mem:=by simp
 obj:=λi h st b hb=>by
  have e:b=it:=by simpa using hb
  subst e;obtain⟨o,e,c,d⟩:=st;exact⟨o,e,λv z=>by rw[d] at z;cases z⟩
 keep:=λi h h' st k=>st.at λo e=>k it (by simp) o e
 item:=by intro X hP hw hK hc i pins s Z H E I hf st hg;subst hP hw hK;obtain⟨xs,x,hq,hx⟩:=hg;obtain⟨its,rv,p,hz⟩:=I.list hq;obtain⟨u,hu,ru⟩:=rv.get hx;obtain⟨f0,f1,f2,f3,f4,f5⟩:=hf it (by simp);refine zX st p.isList (x:=u) (by simpa using hu) λh' st' sb=>?_;have I1:Inv X pins Z H {s with heap:=h'}:=I.turned (t':=s.toks) (λb o hb e=>(sb.2 b hb).trans e) f0 f1 f3 f4 f5;obtain⟨o,e,c,d⟩:=id st';exact⟨u,rfl,r_ (s:={s with heap:=h'}) e c d (by decide) ⟨x,H,I1,ru,⟨rfl,λys hy=>by rw[I.list_inj hy hq];exact hx⟩,st',λb hb=>(hf b hb).1⟩⟩
 done:=by intro X hP hw hK hc i pins s Z H E I hf st hg;subst hP hw hK;obtain⟨xs,hq,hx⟩:=hg;obtain⟨its,rv,p,hz⟩:=I.list hq;obtain⟨f0,f1,f2,f3,f4,f5⟩:=hf it (by simp);have hl:=rv.length;exact zW (I.ok.hd hc) st p.isList (by simp;lia) λh' eb=>⟨rfl,I.turned (t':=s.toks) (λb o hb e=>eb b o hb e) f0 f1 f3 f4 f5⟩
 self:=λ_ _ _ _ _ st h=>wpAny_pyIter_listiter st h
theorem AE {tg:Expr} (a it:Addr):Turn P w K tg (Itt [] a) [it] it (λi h=>h.IsTupleIter it a i) where
 mem:=by simp
 obj:=λi h st b hb=>by
  have e:b=it:=by simpa using hb
  subst e;obtain⟨o,e,c,d⟩:=st;exact⟨o,e,λv z=>by rw[d] at z;cases z⟩
 keep:=λi h h' st k=>st.at λo e=>k it (by simp) o e
 item:=by intro X hP hw hK hc i pins s Z H E I hf st hg;subst hP hw hK;obtain⟨xs,x,hq,hx⟩:=hg;obtain⟨its,rv,p,hz⟩:=I.tuple hq;obtain⟨u,hu,ru⟩:=rv.get hx;obtain⟨f0,f1,f2,f3,f4,f5⟩:=hf it (by simp);refine wpAny_pyNext_tuple_item st (show s.heap.IsTuple a its.toArray from p) (x:=u) (by simpa using hu) λh' st' sb=>?_;have I1:Inv X pins Z H {s with heap:=h'}:=I.turned (t':=s.toks) (λb o hb e=>(sb.2 b hb).trans e) f0 f1 f3 f4 f5;obtain⟨o,e,c,d⟩:=id st';exact⟨u,rfl,r_ (s:={s with heap:=h'}) e c d (by decide) ⟨x,H,I1,ru,⟨rfl,λys hy=>by rw[I.tuple_inj hy hq];exact hx⟩,st',λb hb=>(hf b hb).1⟩⟩
 done:=by intro X hP hw hK hc i pins s Z H E I hf st hg;subst hP hw hK;obtain⟨xs,hq,hx⟩:=hg;obtain⟨its,rv,p,hz⟩:=I.tuple hq;obtain⟨f0,f1,f2,f3,f4,f5⟩:=hf it (by simp);have hl:=rv.length;exact wpAny_pyNext_tuple_end (I.ok.hd hc) st (show s.heap.IsTuple a its.toArray from p) (by simp;lia) λh' eb=>⟨rfl,I.turned (t':=s.toks) (λb o hb e=>eb b o hb e) f0 f1 f3 f4 f5⟩
 self:=λ_ _ _ _ _ st h=>wpAny_pyIter_tupleiter st h
theorem AF {tg:Expr} (it:Addr) (lo:Int) (n:Nat):Turn P w K tg (Itr lo n) [it] it (λi h=>IsRangeIter h it (lo+(i:Nat)*1) ((n:Int)-(i:Nat)) 1) where
 mem:=by simp
 obj:=λi h st b hb=>by
  have e:b=it:=by simpa using hb
  subst e;exact⟨_,st,λv z=>by
   have z':Data.fields _=Data.cell v:=z;cases z'⟩
 keep:=λi h h' st k=>k it (by simp) _ st
 item:=by intro X hP hw hK hc i pins s Z H E I hf st hg;subst hP hw hK;obtain⟨f0,f1,f2,f3,f4,f5⟩:=hf it (by simp);have W:=Walks.range (prog:=X.prog) (w:=X.w) (I.ok.hd hc) it lo 1 n;refine W.item i s _ _ hg st λv h' tk hv st' kk=>?_;obtain⟨t,rfl⟩:=hv;have I1:Inv X pins Z H {s with heap:=h',toks:=tk}:=I.turned (λb o hb e=>kk b o (by simpa using hb) e) f0 f1 f3 f4 f5;refine⟨_,rfl,r_ (s:={s with heap:=h',toks:=tk}) (n:="range_iterator") st' rfl rfl (by decide) ⟨.int (lo+i),H,I1,⟨t,?_⟩,⟨rfl,rfl⟩,st',λb hb=>(hf b hb).1⟩⟩;rw[Int.mul_one]
 done:=by intro X hP hw hK hc i pins s Z H E I hf st hg;subst hP hw hK;obtain⟨f0,f1,f2,f3,f4,f5⟩:=hf it (by simp);exact wpAny_pyNext_range_end (I.ok.hd hc) st (by have:n<=i:=hg;lia) λh' eb=>⟨rfl,I.turned (t':=s.toks) (λb o hb e=>eb b o hb e) f0 f1 f3 f4 f5⟩
 self:=λ_ _ _ _ _ st h=>wpAny_pyIter_rangeiter st h
end L2
namespace L2
open PySem PySem.Spec PyProof.Rows
section
variable {tg:Expr}
def FW (K:W.Frag) (R:It->Hp->Prop) (x:V) (H1:Hp) (a:Addr):Prop:=x=.ref a/\(∃xs,SqL K H1 a xs)/\R (Itl K a) H1
def FV (K:W.Frag) (R:It->Hp->Prop):VK:=λx H1=>Exists (FW K R x H1)
def HX (K:W.Frag) (tl:TE):TI:=λZ H R=>tl Z H (FV K R)
def HV (K:W.Frag) (R:It->Hp->Prop) (x:V) (H1:Hp) (a:Addr):Prop:=x=.ref a/\(∃xs,SqT K H1 a xs)/\R (Itt K a) H1
def HU (K:W.Frag) (R:It->Hp->Prop):VK:=λx H1=>Exists (HV K R x H1)
def iTup (K:W.Frag) (tl:TE):TI:=λZ H R=>tl Z H (HU K R)
theorem dr {l:Expr} {tl:TE} (hl:PE X l tl):PI X tg l (HX [] tl):=by
 intro pins s Z H R I h;refine thn (hl pins s Z H _ I h) λv s1 ⟨x,H1,I1,r1,q1⟩=>?_;obtain⟨a,e,⟨xs,hq⟩,q⟩:=q1;subst e;cases r1;obtain⟨its,rv,p,hz⟩:=I1.list hq;refine qd p.isList ?_;refine⟨s1.heap.objs.size,[s1.heap.objs.size],_,_,H1,rfl,I1.kept (t':=s1.toks) λb o e=>bP _ e,Ba a _,⟨_,cQ _ rfl,rfl,rfl⟩,λb hb=>?_,q⟩;have e:b=s1.heap.objs.size:=by simpa using hb
 subst e;exact I1.fpOk (aC _) (I1.hok.fresh (aC _))
theorem xB {l:Expr} {tl:TE} (hl:PE X l tl):PI X tg l (iTup [] tl):=by
 intro pins s Z H R I h;refine thn (hl pins s Z H _ I h) λv s1 ⟨x,H1,I1,r1,q1⟩=>?_;obtain⟨a,e,⟨xs,hq⟩,q⟩:=q1;subst e;cases r1;obtain⟨its,rv,p,hz⟩:=I1.tuple hq;refine wpAny_pyIter_tuple (show s1.heap.IsTuple a its.toArray from p) ?_;refine⟨s1.heap.objs.size,[s1.heap.objs.size],_,_,H1,rfl,I1.kept (t':=s1.toks) λb o e=>bP _ e,AE a _,⟨_,cQ _ rfl,rfl,rfl⟩,λb hb=>?_,q⟩;have e:b=s1.heap.objs.size:=by simpa using hb
 subst e;exact I1.fpOk (aC _) (I1.hok.fresh (aC _))
theorem Cb {R:It->Hp->Prop} {lo hi:Int} {t u v:Tok} {tk:Nat} (I:Inv X pins Z H s) (h1:-(2 ^ 62)<=lo) (h2:lo<2 ^ 62) (h3:-(2 ^ 62)<=hi) (h4:hi<2 ^ 62)
  (q:R (Itr lo (hi-lo).toNat) H):wpAny (model X.prog X.w) X.A (pyIter (.ref s.heap.objs.size)) (PIE X pins Z tg R) E {s with heap:=s.heap.push {cls:=.type "range",data:=.fields #[.int lo t,.int hi u,.int 1 v]},toks:=tk}:=by
 refine wpAny_pyIter_range (IsRange.new ..) (small_one h1 h2 h3 h4) ?_;have I1:Inv X pins Z H {s with heap:=s.heap.push {cls:=.type "range",data:=.fields #[.int lo t,.int hi u,.int 1 v]},toks:=tk}:=I.kept λb o e=>bP _ e;refine⟨(s.heap.push {cls:=.type "range",data:=.fields #[.int lo t,.int hi u,.int 1 v]}).objs.size,[(s.heap.push {cls:=.type "range",data:=.fields #[.int lo t,.int hi u,.int 1 v]}).objs.size],_,_,H,rfl,
  I1.kept (t':=tk) λb o e=>bP _ e,AF _ lo (hi-lo).toNat,?_,λb hb=>?_,q⟩
 .have e1:lo+((0:Nat):Int)*1=lo:=by simp
  have e2:(((hi-lo).toNat:Nat):Int)-((0:Nat):Int)=Builtin.Range.rangeSize lo hi 1:=by rw[rangeSize_one];split<;>lia
  show IsRangeIter _ _ (lo+((0:Nat):Int)*1) ((((hi-lo).toNat:Nat):Int)-((0:Nat):Int)) 1;rw[e1,e2];exact cQ _ rfl
 .have e:b=(s.heap.push {cls:=.type "range",data:=.fields #[.int lo t,.int hi u,.int 1 v]}).objs.size:=by simpa using hb
  subst e;exact I1.fpOk (aC _) (I1.hok.fresh (aC _))
def FU (R:It->Hp->Prop) (vs:List V) (H1:Hp) (j:Int):Prop:=vs=[.int j]/\-(2 ^ 62)<=j/\j<2 ^ 62/\R (Itr 0 j.toNat) H1
def FT (R:It->Hp->Prop):List V->Hp->Prop:=λvs H1=>Exists (FU R vs H1)
def HW (ta:TA):TI:=λZ H R=>ta Z H (FT R)
theorem iO {a:Expr} {ta:TA} {p pos:Pos} (hg:Gl X "range") (hm:X.mg "range" = none) (ha:PA X [a] ta) (hs:starEach [a] X.env=[(false,eval a X.env)]:=by rfl):PI X tg (.Call (.Name "range" p) [a] [] pos) (HW ta):=by
 intro pins s Z H R I h;refine Call_ (iY I hg hm boot_range (nH (thn (ha pos pins s Z H _ I h) λus s1 ⟨vs,H1,I1,r1,q1⟩=>?_) hs rfl));obtain⟨j,e,q1,q2,q⟩:=q1;subst e;cases r1 with
 |cons r rr=>
  cases rr;obtain⟨t,rfl⟩:=r;exact call_range_1 (Cb I1 (by lia) (by lia) q1 q2 (by simpa using q))
def Gv (J:It) (g:TG) (tb:TS) (D:Ends) (W:Nat->Nat->St->Hp->Prop) (i m:Nat) (Z:St) (H:Hp) (N:St->Hp->Prop):Prop:=(∀Z' H',N Z' H'->∃m',m'<m/\W (i+1) m' Z' H')/\∀x H',J.yld i H x H'->g x Z H' (tb {D with nx:=N,ct:=N,bk:=D.nx})
def Gx (g:TG) (tb:TS) (D:Ends) (Z:St) (J:It) (H1:Hp) (W:Nat->Nat->St->Hp->Prop):Prop:=(∃m,W 0 m Z H1)/\∀i m Z H,W i m Z H->(J.stop i H/\D.nx Z H)\/(J.go i H/\Exists (Gv J g tb D W i m Z H))
def Gw (g:TG) (tb:TS) (D:Ends) (Z:St):It->Hp->Prop:=λJ H1=>Exists (Gx g tb D Z J H1)
def tFor (wi:TI) (g:TG) (tb:TS):TS:=λD Z H=>wi Z H (Gw g tb D Z)
def mm (fp:List Addr) (h:Heap):List (Addr×Obj):=fp.filterMap λb=>(h.get? b).map λo=>(b,o)
theorem kB {fp:List Addr} {h:Heap} {b:Addr} {o:Obj} (hb:b∈fp) (e:h.get? b=some o):(b,o)∈mm fp h:=tL.mpr ⟨b,hb,by rw[e];rfl⟩
theorem Bp {fp:List Addr} {h:Heap} {p:Addr×Obj} (hp:p∈mm fp h):p.1∈fp/\h.get? p.1=some p.2:=by
 obtain⟨b,hb,e⟩:=tL.mp hp;cases q:h.get? b with
 |none=>rw[q] at e;cases e
 |some o=>
  rw[q] at e;have e':(b,o)=p:=cH e;subst e';exact⟨hb,q⟩
theorem Inv.pinned {fp:List Addr} (I:Inv X pins Z H s) (hf:∀b∈fp,dR X pins H b) (ho:∀b∈fp,∃o,s.heap.get? b=some o/\∀v,o.data≠.cell v):Inv X (pins++mm fp s.heap) Z H s:=
 I.pins_of λp hp=>(ay.mp hp).elim (λz=>I.pin p (bN _ z)) λz=>by
  obtain⟨hb,e⟩:=Bp z;obtain⟨f0,f1,f2,_⟩:=hf p.1 hb;obtain⟨o,e',d⟩:=ho p.1 hb;rw[e] at e';cases e';exact⟨e,f0,f1,f2,d⟩
theorem Inv.unpinned {pins pl:List (Addr×Obj)} (I:Inv X (pins++pl) Z H s):Inv X pins Z H s:=I.pins_of λp hp=>I.pin p (bN _ (cf _ hp))
theorem dh {iter:Expr} {body:List Stmt} {wi:TI} {g:TG} {tb:TS} {pos:Pos} (hp:PassesOwn (model X.prog X.w) X.A X.env X.xe) (hc:X.calm=true) (hi:PI X tg iter wi) (hg:PG X tg g) (hb:PSs X body tb)
  (hs:∀x,foldedSetIterable iter X.env x=pure x:=by intro _;rfl):PS X (.For tg iter body [] pos) (tFor wi g tb):=by
 intro pins s Z H D I h;refine wpAny_For (thn (hi pins s Z H _ I h) λv s1 h1=>thn h1 λitv s2 h2=>?_) hs;obtain⟨it,fp,tn,J,H2,e,I2,T,st2,f2,W,⟨m0,w0⟩,turn⟩:=h2;subst e;have stat:∀{H':Hp},(∀b∈fp,H' b=none)->∀b∈fp,dR X pins H' b:=λhn b hb=>⟨hn b hb,(f2 b hb).2⟩;refine codeAny_forLoop_any (λn s'=>∃i Z' H',Inv X pins Z' H' s'/\tn i s'.heap/\(∀b∈fp,H' b=none)/\W i n Z' H') ?_ m0 ⟨0,Z,H2,I2,st2,λb hb=>(f2 b hb).1,w0⟩;rintro n s3 ⟨i,Z3,H3,I3,st3,fr3,w3⟩;rcases turn i n Z3 H3 w3 with ⟨stop,qn⟩|⟨go,N,hN,step⟩
 .refine kh hp (thn (T.done X rfl rfl rfl hc i pins s3 Z3 H3 X.xe I3 (stat fr3) st3 stop) λr s4 ⟨hr,I4⟩=>?_);subst hr;exact ub ⟨Z3,H3,I4,qn⟩
 .refine kh hp (thn (T.item X rfl rfl rfl hc i pins s3 Z3 H3 X.xe I3 (stat fr3) st3 go) λr s4 ⟨u,hr,h4⟩=>?_);subst hr;refine kh hp (thn h4 λ_ s5 ⟨x,H5,I5,r5,y5,st5,fr5⟩=>?_);have I5':=I5.pinned (stat fr5) (T.obj _ _ st5);refine kh hp (thn (hg _ s5 Z3 H5 x u _ I5' r5 (step x H5 y5)) λ_ s6 ⟨Z6,H6,I6,q6⟩=>?_);refine kh hp (thn (hb _ s6 Z6 H6 _ I6 q6) λf s7 q7=>?_);have again:∀{Z7:St} {H7:Hp},Inv X (pins++mm fp s5.heap) Z7 H7 s7->N Z7 H7->∃m,m<n/\∃i Z' H',Inv X pins Z' H' s7/\tn i s7.heap/\(∀b∈fp,H' b=none)/\W i m Z' H':=λ{Z7 H7} I7 n7=>by
   obtain⟨m',hm,w7⟩:=hN Z7 H7 n7;refine⟨m',hm,i+1,Z7,H7,I7.unpinned,T.keep _ _ _ st5 λb hb o e=>(I7.pin (b,o) (bN _ (bN _ (kB hb e)))).1,λb hb=>?_,w7⟩;obtain⟨o,e,d⟩:=T.obj _ _ st5 b hb;exact (I7.pin (b,o) (bN _ (bN _ (kB hb e)))).2.1
  cases f with
  |next=>obtain⟨Z7,H7,I7,n7⟩:=q7;exact again I7 n7
  |cont=>obtain⟨Z7,H7,I7,n7⟩:=q7;exact again I7 n7
  |brk=>obtain⟨Z7,H7,I7,q7⟩:=q7;exact⟨Z7,H7,I7.unpinned,q7⟩
  |ret v=>obtain⟨x7,Z7,H7,I7,r7,q7⟩:=q7;exact⟨x7,Z7,H7,I7.unpinned,r7,q7⟩
end
theorem gJ {a:Addr} {g:TG} {tb:TS} {D:Ends} (Pv:Nat->St->Hp->Prop) (h0:Pv 0 Z H) (hl:∀i Z H,i<=xs.length->Pv i Z H->SqL K H a xs)
  (hs:∀i x Z H,xs[i]?=some x->Pv i Z H->g x Z H λσ2 H2=>tb {D with nx:=Pv (i+1),ct:=Pv (i+1),bk:=D.nx} σ2 H2) (hd:∀Z H,Pv xs.length Z H->D.nx Z H) :
  ∃W:Nat->Nat->St->Hp->Prop,(∃m,W 0 m Z H)/\∀i m Z H,W i m Z H->
   ((Itl K a).stop i H/\D.nx Z H)\/((Itl K a).go i H/\∃N:St->Hp->Prop,(∀Z' H',N Z' H'->∃m',m'<m/\W (i+1) m' Z' H')/\∀x H',(Itl K a).yld i H x H'->g x Z H' λσ2 H2=>tb {D with nx:=N,ct:=N,bk:=D.nx} σ2 H2):=by
 refine⟨λi m Z H=>m=xs.length-i/\i<=xs.length/\Pv i Z H,⟨xs.length,by simp,aT _,h0⟩,?_⟩;rintro i m Z H ⟨rfl,hi,p⟩;have q:=hl i Z H hi p;by_cases hlt:i<xs.length
 .refine .inr ⟨⟨xs,xs[i],q,by simp[hlt]⟩,Pv (i+1),λZ' H' p'=>⟨xs.length-(i+1),by lia,rfl,hlt,p'⟩,λx H' y=>?_⟩;obtain⟨e,y⟩:=y;subst e;exact hs i x Z _ (y xs q) p
 .have e:i=xs.length:=by lia
  subst e;exact .inl ⟨⟨xs,q,aC _⟩,hd Z H p⟩
theorem Ec {a:Addr} {g:TG} {tb:TS} {D:Ends} (Pv:Nat->St->Hp->Prop) (h0:Pv 0 Z H) (hl:∀i Z H,i<=xs.length->Pv i Z H->SqT K H a xs)
  (hs:∀i x Z H,xs[i]?=some x->Pv i Z H->g x Z H λσ2 H2=>tb {D with nx:=Pv (i+1),ct:=Pv (i+1),bk:=D.nx} σ2 H2) (hd:∀Z H,Pv xs.length Z H->D.nx Z H) :
  ∃W:Nat->Nat->St->Hp->Prop,(∃m,W 0 m Z H)/\∀i m Z H,W i m Z H->
   ((Itt K a).stop i H/\D.nx Z H)\/((Itt K a).go i H/\∃N:St->Hp->Prop,(∀Z' H',N Z' H'->∃m',m'<m/\W (i+1) m' Z' H')/\∀x H',(Itt K a).yld i H x H'->g x Z H' λσ2 H2=>tb {D with nx:=N,ct:=N,bk:=D.nx} σ2 H2):=by
 refine⟨λi m Z H=>m=xs.length-i/\i<=xs.length/\Pv i Z H,⟨xs.length,by simp,aT _,h0⟩,?_⟩;rintro i m Z H ⟨rfl,hi,p⟩;have q:=hl i Z H hi p;by_cases hlt:i<xs.length
 .refine .inr ⟨⟨xs,xs[i],q,by simp[hlt]⟩,Pv (i+1),λZ' H' p'=>⟨xs.length-(i+1),by lia,rfl,hlt,p'⟩,λx H' y=>?_⟩;obtain⟨e,y⟩:=y;subst e;exact hs i x Z _ (y xs q) p
 .have e:i=xs.length:=by lia
  subst e;exact .inl ⟨⟨xs,q,aC _⟩,hd Z H p⟩
theorem jq {lo:Int} {n:Nat} {g:TG} {tb:TS} {D:Ends} (Pv:Nat->St->Hp->Prop) (h0:Pv 0 Z H)
  (hs:∀i Z H,i<n->Pv i Z H->g (.int (lo+i)) Z H λσ2 H2=>tb {D with nx:=Pv (i+1),ct:=Pv (i+1),bk:=D.nx} σ2 H2) (hd:∀Z H,Pv n Z H->D.nx Z H) :
  ∃W:Nat->Nat->St->Hp->Prop,(∃m,W 0 m Z H)/\∀i m Z H,W i m Z H->
   ((Itr lo n).stop i H/\D.nx Z H)\/((Itr lo n).go i H/\∃N:St->Hp->Prop,(∀Z' H',N Z' H'->∃m',m'<m/\W (i+1) m' Z' H')/\∀x H',(Itr lo n).yld i H x H'->g x Z H' λσ2 H2=>tb {D with nx:=N,ct:=N,bk:=D.nx} σ2 H2):=by
 refine⟨λi m Z H=>m=n-i/\i<=n/\Pv i Z H,⟨n,by simp,aT _,h0⟩,?_⟩;rintro i m Z H ⟨rfl,hi,p⟩;by_cases hlt:i<n
 .refine .inr ⟨hlt,Pv (i+1),λZ' H' p'=>⟨n-(i+1),by lia,rfl,hlt,p'⟩,λx H' y=>?_⟩;obtain⟨e,y⟩:=y;subst e y;exact hs i Z _ hlt p
 .have e:i=n:=by lia
  subst e;exact .inl ⟨aC _,hd Z H p⟩
end L2
namespace L2
open PySem PySem.Spec PyProof.Rows
abbrev R2:=V->V->Hp->VK->Prop
def OpR (X:Cx) (f:Value->Value->Sem Value) (r:R2):Prop:=
 ∀(pins:List (Addr×Obj)) (s:Shared) (Z:St) (H:Hp) (x y:V) (v u:Value) (Q:VK),Inv X pins Z H s->aH x v->aH y u->r x y H Q->
  wpAny (model X.prog X.w) X.A (f v u) (EP X pins Z Q) X.xe s
def UnR (X:Cx) (f:Value->Sem Value) (r:V->Hp->VK->Prop):Prop:=
 ∀(pins:List (Addr×Obj)) (s:Shared) (Z:St) (H:Hp) (x:V) (v:Value) (Q:VK),Inv X pins Z H s->aH x v->r x H Q->
  wpAny (model X.prog X.w) X.A (f v) (EP X pins Z Q) X.xe s
def d_ (X:Cx) (f:Value) (r:List V->Hp->VK->Prop):Prop:=
 ∀(pins:List (Addr×Obj)) (s:Shared) (Z:St) (H:Hp) (xs:List V) (us:List Value) (Q:VK),Inv X pins Z H s->Vals xs us->r xs H Q->
  wpAny (model X.prog X.w) X.A (call f us) (EP X pins Z Q) X.xe s
def tOp2 (r:R2) (x:V) (Q:VK):VK:=λy H2=>r x y H2 Q
def tOp1 (r:R2) (tb:TE) (Z:St) (Q:VK):VK:=λx H1=>tb Z H1 (tOp2 r x Q)
def tOp (r:R2) (ta tb:TE):TE:=λZ H Q=>ta Z H (tOp1 r tb Z Q)
def tUnK (r:V->Hp->VK->Prop) (Q:VK):VK:=λx H1=>r x H1 Q
def tUn (r:V->Hp->VK->Prop) (ta:TE):TE:=λZ H Q=>ta Z H (tUnK r Q)
def rIB (C:Int->Int->Prop) (g:Int->Int->V) (x y:V) (H:Hp) (Q:VK) (i j:Int):Prop:=x=.int i/\y=.int j/\C i j/\Q (g i j) H
def rI (C:Int->Int->Prop) (g:Int->Int->V):R2:=λx y H Q=>Exists (Ex2 (rIB C g x y H Q))
def rI0B (g:Int->Int->V) (x y:V) (H:Hp) (Q:VK) (i j:Int):Prop:=x=.int i/\y=.int j/\Q (g i j) H
def rI0 (g:Int->Int->V):R2:=λx y H Q=>Exists (Ex2 (rI0B g x y H Q))
def rUB (g:Int->V) (x:V) (H:Hp) (Q:VK) (i:Int):Prop:=x=.int i/\Q (g i) H
def rU (g:Int->V):V->Hp->VK->Prop:=λx H Q=>Exists (rUB g x H Q)
section
variable {a b c:Expr} {ta tb tc:TE} {pos:Pos}
theorem sS (ha:PE X a ta) (hb:PE X b tb) {R:V->V->Hp->Prop} (I:Inv X pins Z H s)
  (h:ta Z H λx H1=>tb Z H1 λy H2=>R x y H2) {Q:Value->Shared->Prop} {f:Value->Value->Sem Value}
  (hf:∀v u s2 x y H2,Inv X pins Z H2 s2->aH x v->aH y u->R x y H2->wpAny (model X.prog X.w) X.A (f v u) Q X.xe s2) :
  wpAny (model X.prog X.w) X.A (eval a X.env) (λv s₁=>wpAny (model X.prog X.w) X.A (eval b X.env) (λu s₂=>wpAny (model X.prog X.w) X.A (f v u) Q X.xe s₂) X.xe s₁) X.xe s:=by
 refine thn (ha pins s Z H _ I h) λv s1 ⟨x,H1,I1,r1,q1⟩=>?_;refine thn (hb pins s1 Z H1 _ I1 q1) λu s2 ⟨y,H2,I2,r2,q2⟩=>?_;exact hf v u s2 x y H2 I2 r1 r2 q2
theorem aD {op:Operator} {r:R2} (ho:OpR X (binaryOp op) r) (ha:PE X a ta) (hb:PE X b tb):PE X (.BinOp a op b pos) (tOp r ta tb):=by intro pins s Z H Q I h;exact wpAny_BinOp (sS ha hb I h λv u s2 x y H2 I2 rx ry q=>ho pins s2 Z H2 x y v u Q I2 rx ry q)
theorem dA {op:UnaryOp} {r:V->Hp->VK->Prop} (ho:UnR X (unaryOp op) r) (ha:PE X a ta):PE X (.UnaryOp op a pos) (tUn r ta):=by intro pins s Z H Q I h;exact UnaryOp_ (thn (ha pins s Z H _ I h) λv s1 ⟨x,H1,I1,r1,q1⟩=>ho pins s1 Z H1 x v Q I1 r1 q1)
theorem opI {f:Value->Value->Sem Value} {C:Int->Int->Prop} {g:Int->Int->Int}
  (rule:∀(i j:Int) (t u:Tok) (s:Shared) (Q:Value->Shared->Prop) (E:Value->Shared->Prop),C i j->Q (.int (g i j) s.toks) {s with toks:=s.toks+1}->wpAny (model X.prog X.w) X.A (f (.int i t) (.int j u)) Q E s) :
  OpR X f (rI C λi j=>.int (g i j)):=by
 intro pins s Z H x y v u Q I rx ry h;obtain⟨i,j,rfl,rfl,hc,q⟩:=h;obtain⟨t,rfl⟩:=rx;obtain⟨t',rfl⟩:=ry;exact rule i j t t' s _ _ hc ⟨.int (g i j),H,I.tok _,⟨_,rfl⟩,q⟩
theorem opI0 {f:Value->Value->Sem Value} {g:Int->Int->Int}
  (rule:∀(i j:Int) (t u:Tok) (s:Shared) (Q:Value->Shared->Prop) (E:Value->Shared->Prop),Q (.int (g i j) s.toks) {s with toks:=s.toks+1}->wpAny (model X.prog X.w) X.A (f (.int i t) (.int j u)) Q E s) :
  OpR X f (rI0 λi j=>.int (g i j)):=by
 intro pins s Z H x y v u Q I rx ry h;obtain⟨i,j,rfl,rfl,q⟩:=h;obtain⟨t,rfl⟩:=rx;obtain⟨t',rfl⟩:=ry;exact rule i j t t' s _ _ ⟨.int (g i j),H,I.tok _,⟨_,rfl⟩,q⟩
theorem sQ {f:Value->Value->Sem Value} {g:Int->Int->Bool}
  (rule:∀(i j:Int) (t u:Tok) (s:Shared) (Q:Value->Shared->Prop) (E:Value->Shared->Prop),Q (.bool (g i j)) s->wpAny (model X.prog X.w) X.A (f (.int i t) (.int j u)) Q E s) :
  OpR X f (rI0 λi j=>.bl (g i j)):=by
 intro pins s Z H x y v u Q I rx ry h;obtain⟨i,j,rfl,rfl,q⟩:=h;obtain⟨t,rfl⟩:=rx;obtain⟨t',rfl⟩:=ry;exact rule i j t t' s _ _ ⟨.bl (g i j),H,I,rfl,q⟩
def CPow (i j:Int):Prop:=0<=j/\j<=1000000/\i.natAbs<2 ^ 64
def CMul (i j:Int):Prop:=(-(2 ^ 64)<i/\i<2 ^ 64)\/(-(2 ^ 64)<j/\j<2 ^ 64)
theorem CMul.ok {i j:Int} (h:CMul i j):IntMulOk i j:=by
 rcases h with ⟨h1,h2⟩|⟨h1,h2⟩
 .exact .of_left (intBits_le_64 h1 h2)
 .exact .of_right (intBits_le_64 h1 h2)
theorem cb:OpR X (binaryOp .Add) (rI0 λi j=>.int (i+j)):=opI0 λ_ _ _ _ _ _ _ q=>add_int q
theorem fU:OpR X (binaryOp .Sub) (rI0 λi j=>.int (i-j)):=opI0 λ_ _ _ _ _ _ _ q=>sub_int q
theorem jO:OpR X (binaryOp .Mult) (rI CMul λi j=>.int (i*j)):=opI λ_ _ _ _ _ _ _ hc q=>mul_int q hc.ok
theorem gr:OpR X (binaryOp .Mod) (rI (λ_ j=>0<j) λi j=>.int (i%j)):=opI λi j _ _ _ _ _ hc q=>by
 have h1:(0:Int)<j:=hc;exact mod_int' (by lia) (by rw[Int.fmod_eq_emod_of_nonneg i (by lia)];exact q)
theorem Fu:OpR X (binaryOp .Pow) (rI CPow λi j=>.int (i ^ j.toNat)):=opI λ_ _ _ _ _ _ _ hc q=>pow_int_small hc.1 hc.2.1 hc.2.2 q
theorem unI {f:Value->Sem Value} {g:Int->Int}
  (rule:∀(i:Int) (t:Tok) (s:Shared) (Q:Value->Shared->Prop) (E:Value->Shared->Prop),Q (.int (g i) s.toks) {s with toks:=s.toks+1}->wpAny (model X.prog X.w) X.A (f (.int i t)) Q E s) :
  UnR X f (rU λi=>.int (g i)):=by
 intro pins s Z H x v Q I rx h;obtain⟨i,rfl,q⟩:=h;obtain⟨t,rfl⟩:=rx;exact rule i t s _ _ ⟨.int (g i),H,I.tok _,⟨_,rfl⟩,q⟩
theorem dz:UnR X (unaryOp .USub) (rU λi=>.int (-i)):=unI λ_ _ _ _ _ q=>neg_int q
end
def scal:V->V->Bool
 |.non,.non=>true | .non,.int _=>true | .int _,.non=>true | .non,.bl _=>true | .bl _,.non=>true | .non,.str _=>true | .str _,.non=>true
 |.int _,.int _=>true | .bl _,.bl _=>true | .str _,.str _=>true | .byt _,.byt _=>true
 |.int _,.str _=>true | .str _,.int _=>true | .bl _,.str _=>true | .str _,.bl _=>true
 |_,_=>false
def rEq:R2:=λx y H Q=>scal x y=true/\Q (.bl (decide (x=y))) H
def rNe:R2:=λx y H Q=>scal x y=true/\Q (.bl (!decide (x=y))) H
theorem w4 {i j:Int}:decide (V.int i=V.int j)=(i==j):=by rw[dn];simp
theorem xR {i j:Bool}:decide (V.bl i=V.bl j)=(i==j):=by rw[dn];simp
theorem wZ {i j:Str}:decide (V.str i=V.str j)=(i==j):=by rw[dn];simp
theorem w5 {i j:Array UInt8}:decide (V.byt i=V.byt j)=(i.toList==j.toList):=by rw[dn];cases i;cases j;simp
section
variable {a b c:Expr} {ta tb tc:TE} {pos:Pos}
theorem bY {Q:VK} {k k':Bool} (I:Inv X pins Z H s) (q:Q (.bl k) H) (e:k=k'):EP X pins Z Q (.bool k') s:=by subst e;exact⟨.bl k,H,I,rfl,q⟩
theorem du:OpR X (compareOp .Eq) rEq:=by
 intro pins s Z H x y v u Q I rx ry h;obtain⟨hs,q⟩:=h;cases x with
 |non=>
  cases rx;cases y with
  |non=>cases ry;exact Kq (bY I q (by simp))
  |bl j=>cases ry;exact Ko (bY I q (by simp))
  |int j=>obtain⟨t',rfl⟩:=ry;exact Kp (bY I q (by simp))
  |str j=>obtain⟨t',rfl⟩:=ry;exact Kr (bY I q (by simp))
  |_=>exact absurd (show false=true from hs) cq
 |bl i=>
  cases rx;cases y with
  |non=>cases ry;exact Km (bY I q (by simp))
  |bl j=>cases ry;exact eq_bool (bY I q xR)
  |str j=>obtain⟨t',rfl⟩:=ry;exact Ke (bY I q (by simp))
  |_=>exact absurd (show false=true from hs) cq
 |int i=>
  obtain⟨t,rfl⟩:=rx;cases y with
  |non=>cases ry;exact Kn (bY I q (by simp))
  |int j=>obtain⟨t',rfl⟩:=ry;exact eq_int (bY I q w4)
  |str j=>obtain⟨t',rfl⟩:=ry;exact Kf (bY I q (by simp))
  |_=>exact absurd (show false=true from hs) cq
 |str i=>
  obtain⟨t,rfl⟩:=rx;cases y with
  |non=>cases ry;exact Ks (bY I q (by simp))
  |bl j=>cases ry;exact Kg (bY I q (by simp))
  |int j=>obtain⟨t',rfl⟩:=ry;exact Kh (bY I q (by simp))
  |str j=>obtain⟨t',rfl⟩:=ry;exact eq_str (bY I q wZ)
  |_=>exact absurd (show false=true from hs) cq
 |byt i=>
  obtain⟨t,rfl⟩:=rx;cases y with
  |byt j=>obtain⟨t',rfl⟩:=ry;exact W.eq_bytes (bY I q w5)
  |_=>exact absurd (show false=true from hs) cq
 |_=>cases y<;>exact absurd (show false=true from hs) cq
theorem rZ:OpR X (compareOp .NotEq) rNe:=by
 intro pins s Z H x y v u Q I rx ry h;obtain⟨hs,q⟩:=h;cases x with
 |non=>
  cases rx;cases y with
  |non=>cases ry;exact Kx (bY I q (by simp))
  |bl j=>cases ry;exact Kv (bY I q (by simp))
  |int j=>obtain⟨t',rfl⟩:=ry;exact Kw (bY I q (by simp))
  |str j=>obtain⟨t',rfl⟩:=ry;exact Kz (bY I q (by simp))
  |_=>exact absurd (show false=true from hs) cq
 |bl i=>
  cases rx;cases y with
  |non=>cases ry;exact Kt (bY I q (by simp))
  |bl j=>cases ry;exact ne_bool (bY I q (congrArg not xR))
  |str j=>obtain⟨t',rfl⟩:=ry;exact Ki (bY I q (by simp))
  |_=>exact absurd (show false=true from hs) cq
 |int i=>
  obtain⟨t,rfl⟩:=rx;cases y with
  |non=>cases ry;exact Ku (bY I q (by simp))
  |int j=>obtain⟨t',rfl⟩:=ry;exact ne_int (bY I q (congrArg not w4))
  |str j=>obtain⟨t',rfl⟩:=ry;exact Kj (bY I q (by simp))
  |_=>exact absurd (show false=true from hs) cq
 |str i=>
  obtain⟨t,rfl⟩:=rx;cases y with
  |non=>cases ry;exact KA (bY I q (by simp))
  |bl j=>cases ry;exact Kk (bY I q (by simp))
  |int j=>obtain⟨t',rfl⟩:=ry;exact Kl (bY I q (by simp))
  |str j=>obtain⟨t',rfl⟩:=ry;exact ne_str (bY I q (congrArg not wZ))
  |_=>exact absurd (show false=true from hs) cq
 |byt i=>
  obtain⟨t,rfl⟩:=rx;cases y with
  |byt j=>obtain⟨t',rfl⟩:=ry;exact W.ne_bytes (bY I q (congrArg not w5))
  |_=>exact absurd (show false=true from hs) cq
 |_=>cases y<;>exact absurd (show false=true from hs) cq
theorem fW:OpR X (compareOp .Lt) (rI0 λi j=>.bl (decide (i<j))):=sQ λ_ _ _ _ _ _ _ q=>lt_int q
theorem r9:OpR X (compareOp .Gt) (rI0 λi j=>.bl (decide (j<i))):=sQ λ_ _ _ _ _ _ _ q=>gt_int q
theorem HM:OpR X (compareOp .GtE) (rI0 λi j=>.bl (decide (j<=i))):=sQ λ_ _ _ _ _ _ _ q=>ge_int q
theorem rP:OpR X (compareOp .Is) (λx y H Q=>y=.non/\Q (.bl (decide (x=.non))) H):=by
 intro pins s Z H x y v u Q I rx ry h;obtain⟨rfl,q⟩:=h;cases ry;refine is_none_gen (bY I q ?_);cases x<;>first
  |(cases rx;rfl)
  |(obtain⟨t,rfl⟩:=rx;rfl)
theorem wG:OpR X (compareOp .IsNot) (λx y H Q=>y=.non/\Q (.bl (!decide (x=.non))) H):=by
 intro pins s Z H x y v u Q I rx ry h;obtain⟨rfl,q⟩:=h;cases ry;refine isnot_none_gen (bY I q ?_);cases x<;>first
  |(cases rx;rfl)
  |(obtain⟨t,rfl⟩:=rx;rfl)
theorem nomark (b:Expr) {op:CmpOp} (h:op≠.In:=by decide) (h2:op≠.NotIn:=by decide):behindInMarks op b=false:=by
 have e1:(op==CmpOp.In)=false:=by cases op<;>first|rfl|exact absurd rfl h
 have e2:(op==CmpOp.NotIn)=false:=by cases op<;>first|rfl|exact absurd rfl h2
 cases b<;>simp[behindInMarks,e1,e2]
theorem oz {op:CmpOp} {r:R2} (ho:OpR X (compareOp op) r) (ha:PE X a ta) (hb:PE X b tb) (hm:behindInMarks op b=false):PE X (.Compare a [op] [b] pos) (tOp r ta tb):=by intro pins s Z H Q I h;exact JM (sS ha hb I h λv u s2 x y H2 I2 rx ry q=>ho pins s2 Z H2 x y v u Q I2 rx ry q) hm
def i6 (t:TE):TT:=λZ H Q=>t Z H (tBK Q)
theorem aL {op:CmpOp} {r:R2} (ho:OpR X (compareOp op) r) (ha:PE X a ta) (hb:PE X b tb) (hm:behindInMarks op b=false):PT X (.Compare a [op] [b] pos) (i6 (tOp r ta tb)):=by
 intro pins s Z H Q I h;refine JS (thn (ha pins s Z H _ I h) λv s1 ⟨x,H1,I1,r1,q1⟩=>thn (hb pins s1 Z H1 _ I1 q1) λu s2 ⟨y,H2,I2,r2,q2⟩=>
  thn (ho pins s2 Z H2 x y v u _ I2 r1 r2 q2) λc s3 ⟨z,H3,I3,r3,k,e,q3⟩=>?_) hm
 subst e;cases r3;exact iJ ⟨H3,I3,q3⟩
theorem line63:(sizeLine:Nat)<2 ^ 63:=by rw[gH];decide
theorem vals1 {x:V} (r:Vals [x] us):∃u,us=[u]/\aH x u:=by
 cases r with
 |cons r1 r2=>cases r2;exact⟨_,rfl,r1⟩
theorem vals2 {x y:V} (r:Vals [x,y] us):∃u w',us=[u,w']/\aH x u/\aH y w':=by
 cases r with
 |cons r1 r2=>
  cases r2 with
  |cons r3 r4=>cases r4;exact⟨_,_,rfl,r1,r3⟩
theorem BG (hc:X.calm=true):d_ X (.builtin "max") (λxs H Q=>∃i j,xs=[.int i,.int j]/\Q (.int (if j>i then j else i)) H):=by
 intro pins s Z H xs us Q I r h;obtain⟨i,j,rfl,q⟩:=h;obtain⟨u,w',rfl,⟨t,rfl⟩,⟨t',rfl⟩⟩:=vals2 r;refine max_two_ints (I.ok.hd hc) λh' tk k=>⟨_,H,I.kept k,?_,q⟩;by_cases hj:j>i
 .rw[K3 hj,K3 hj];exact⟨_,rfl⟩
 .rw[K2 hj,K2 hj];exact⟨_,rfl⟩
theorem qq (hc:X.calm=true):d_ X (.builtin "min") (λxs H Q=>∃i j,xs=[.int i,.int j]/\Q (.int (if j<i then j else i)) H):=by
 intro pins s Z H xs us Q I r h;obtain⟨i,j,rfl,q⟩:=h;obtain⟨u,w',rfl,⟨t,rfl⟩,⟨t',rfl⟩⟩:=vals2 r;refine min_two_ints (I.ok.hd hc) λh' tk k=>⟨_,H,I.kept k,?_,q⟩;by_cases hj:j<i
 .rw[K3 hj,K3 hj];exact⟨_,rfl⟩
 .rw[K2 hj,K2 hj];exact⟨_,rfl⟩
theorem qr:d_ X (.type "int") (λxs H Q=>(∃i,xs=[.int i]/\Q (.int i) H)\/∃k,xs=[.bl k]/\Q (.int (if k then 1 else 0)) H):=by
 intro pins s Z H xs us Q I r h;rcases h with ⟨i,rfl,q⟩|⟨k,rfl,q⟩
 .obtain⟨u,rfl,t,rfl⟩:=vals1 r;exact call_int_int ⟨.int i,H,I,⟨_,rfl⟩,q⟩
 .obtain⟨u,rfl,r1⟩:=vals1 r;cases r1;exact call_int_bool ⟨.int (if k then 1 else 0),H,I.tok _,⟨_,rfl⟩,q⟩
end
end L2
namespace L2
open PySem PySem.Spec PyProof.Rows
section
variable {prog:Program} {x dx C f:Addr} {mA:Str->Option Value} {name:Str} {v:Value}
end
theorem eW.some_of {v:V} {o:Option Value} (r:eW (some v) o):∃u,o=some u/\aH v u:=by
 cases o with
 |none=>exact (show False from r).elim
 |some u=>exact⟨u,rfl,r⟩
section
variable {h h':Heap} {a C dx:Addr} {fs fs':List (Str×V)}
end
section
variable {a C dx:Addr} {fs:List (Str×V)} {f:Str} {v:V}
end
section
variable {o e value:Expr} {f:Str} {pos pos' tpos:Pos} {ta tv:TE}
end
section
variable {Q:Value->Shared->Prop} {c:Value} {b:Bool}
end
end L2
namespace L2
open PySem PySem.Spec PyProof.Rows
structure Room (k:Nat) (A:Around):Prop where
 hd:A.handled=none
 dp:A.depth+3*k+5<recursionLimit
 un:A.units+16*k+200<cLine
 gu:A.guards=some []
theorem Room.mono {j k:Nat} (r:Room k A) (h:j<=k):Room j A:=⟨r.hd,by have:=r.dp;lia,by have:=r.un;lia,r.gu⟩
theorem Room.deeper {k:Nat} (r:Room (k+1) A) (env:Env):Room k (A.deeper env):=
 ⟨r.hd,by have:=r.dp;show A.depth+1+3*k+5<_;lia,by have:=r.un;show A.units+3+16*k+200<_;lia,r.gu⟩
theorem Room.depth {k:Nat} (r:Room k A):A.depth<recursionLimit:=by have:=r.dp;lia
theorem Room.units {k:Nat} (r:Room k A):A.units+64<cLine:=by have:=r.un;lia
theorem Room.units0 {k:Nat} (r:Room k A):A.units<cLine:=by have:=r.un;lia
def mO:TA:=λ_ H Q=>Q [] H
def ET (x:V) (Q:List V->Hp->Prop):List V->Hp->Prop:=λxs H2=>Q (x::xs) H2
def EU (tr:TA) (Z:St) (Q:List V->Hp->Prop):VK:=λx H1=>tr Z H1 (ET x Q)
def i7 (ta:TE) (tr:TA):TA:=λZ H Q=>ta Z H (EU tr Z Q)
section
variable {e:Expr} {es:List Expr} {te:TE} {t:TA} {pos:Pos}
theorem ae:PA X [] mO:=λ_ _ _ _ H Q I h=>sX ⟨[],H,I,.nil,h⟩
theorem aa (ha:PE X e te) (hr:PA X es t) (hs:starEach (e::es) X.env=(false,eval e X.env)::starEach es X.env:=by rfl):PA X (e::es) (i7 te t):=by intro pos pins s Z H Q I h;rw[hs];show wpAny _ _ (spliced ((false,eval e X.env)::backTo pos (starEach es X.env))) _ _ s;refine sW (thn (ha pins s Z H _ I h) λu s1 ⟨x,H1,I1,r1,q1⟩=>?_);exact thn (hr pos pins s1 Z H1 _ I1 q1) λus s2 ⟨xs,H2,I2,r2,q2⟩=>⟨x::xs,H2,I2,.cons r1 r2,q2⟩
def Gj (Q:VK):List V->Hp->Prop:=λxs H1=>xs.length<=sizeLine/\fD H1 (.tup xs) Q
def tTup (t:TA):TE:=λZ H Q=>t Z H (Gj Q)
def Gu (Q:VK):List V->Hp->Prop:=λxs H1=>xs.length<=sizeLine/\fD H1 (.lst xs) Q
def sF (t:TA):TE:=λZ H Q=>t Z H (Gu Q)
theorem aN {x1} (h:PA X es t):PE X (.Tuple es x1 pos) (tTup t):=by intro pins s Z H Q I hq;refine wpAny_Tuple_spliced (thn (h pos pins s Z H _ I hq) λus s1 ⟨xs,H1,I1,r,z,q⟩=>⟨by rw[<-r.length];exact z,?_⟩);have hf:H1 s1.heap.objs.size=none:=I1.hok.fresh (aC _);refine⟨.ref s1.heap.objs.size,upd H1 s1.heap.objs.size (.tup xs),I1.laid (t':=s1.toks) (λb u e=>bP _ e) (aC _) ?_,rfl,q.at hf⟩;exact⟨⟨z,_,cQ _ rfl,rfl⟩,us,r,⟨_,cQ _ rfl,rfl,_,rfl⟩⟩
theorem br (h:PA X es t):PE X (.List es pos) (sF t):=by intro pins s Z H Q I hq;refine wpAny_List_spliced (thn (h pos pins s Z H _ I hq) λus s1 ⟨xs,H1,I1,r,z,q⟩=>⟨by rw[<-r.length];exact z,?_⟩);have hf:H1 s1.heap.objs.size=none:=I1.hok.fresh (aC _);refine⟨.ref s1.heap.objs.size,upd H1 s1.heap.objs.size (.lst xs),I1.laid (t':=s1.toks) (λb u e=>bP _ e) (aC _) ?_,rfl,q.at hf⟩;exact⟨z,us,0,r,cQ _ rfl⟩
end
abbrev Sp:=List V->Hp->VK->XK->Prop
abbrev CXT:=List Env->Hp->Shared->XK->Value->Shared->Prop
structure px (P:Program) (w:World) (K:W.Frag) (mg:Str->Option Value) (base:Heap) (A:Around) (outer:List Env) (s:Shared) (H:Hp):Prop where
 frames:A.frames=some outer
 mod:Mod K mg base
 bs:∀b o,base.get? b=some o->s.heap.get? b=some o/\H b=none
 bsz:base.objs.size<=s.heap.objs.size
 funs:s.heap.FunFrames base outer
 frf:∀b∈frs outer,H b=none
 hok:HOk P w H s.heap
 bare:AllBare s.gens
def CE (outer:List Env) (P:Program) (w:World) (H:Hp) (s:Shared) (Q:VK) (u:Value) (s':Shared):Prop:=
 ∃v H',s'.os=s.os/\AllBare s'.gens/\Un (frs outer) [] H H' s.heap s'.heap/\HOk P w H' s'.heap/\aH v u/\Q v H'
def CR (CX:CXT) (outer:List Env) (P:Program) (w:World) (H:Hp) (s:Shared) (Q:VK) (E:XK) (r:Result) (s':Shared):Prop:=
 match r with
 |.ok (.ret u)=>CE outer P w H s Q u s'
 |.ok _=>False
 |.error e=>CX outer H s E e s'
structure FnOk (P:Program) (w:World) (K:W.Frag) (mg:Str->Option Value) (base:Heap) (CX:CXT) (k:Nat) (f:Addr) (fd:FuncData) (ps:List Str) (sp:Sp):Prop where
 len:∀vs H Q E,sp vs H Q E->vs.length=ps.length
 run:∀(A:Around) (outer:List Env) (s:Shared) (H:Hp) (args:Args) (us:List Value) (vs:List V) (Q:VK) (E:XK),Room k A->px P w K mg base A outer s H->BindsTo s fd args (ps.zip us)->Vals vs us->sp vs H Q E->
  codeAny (model P w) A (.call (.ref f) args) (CR CX outer P w H s Q E) s
theorem FnOk.mono {CX:CXT} {j k:Nat} {f:Addr} {ps:List Str} {sp:Sp} (F:FnOk P w K mg base CX j f fd ps sp) (h:j<=k) :
  FnOk P w K mg base CX k f fd ps sp:=⟨F.len,λA outer s H args us vs Q E hr=>F.run A outer s H args us vs Q E (hr.mono h)⟩
theorem FnOk.imp {CX:CXT} {k:Nat} {f:Addr} {ps:List Str} {sp sp':Sp} (F:FnOk P w K mg base CX k f fd ps sp)
  (h:∀vs H Q E,sp' vs H Q E->sp vs H Q E):FnOk P w K mg base CX k f fd ps sp':=
 ⟨λvs H Q E q=>F.len vs H Q E (h _ _ _ _ q),λA outer s H args us vs Q E hr he hb hv hs=>F.run A outer s H args us vs Q E hr he hb hv (h _ _ _ _ hs)⟩
section
variable {s s':Shared}
theorem Inv.env0 (I:Inv X pins Z H s):px X.prog X.w X.K X.mg X.base X.A X.stack s H:=
 ⟨I.ok.frames,I.ok.mod,I.bs,bV I.ok.bsz I.sz,I.stack,I.stkFree,I.hok,I.bare⟩
theorem Inv.after {Q:VK} {u:Value} (I:Inv X pins Z H s) (h:CE X.stack X.prog X.w H s Q u s'):EP X pins Z Q u s':=by obtain⟨v,H',os,bare,un,hok,r,q⟩:=h;obtain⟨hh,g,d,t,os'⟩:=s';obtain rfl:os'=s.os:=os;exact⟨v,H',I.call (h':=hh) (g':=g) (d':=d) (t':=t) (ch:=[]) un hok bare (λb z=>absurd z (by simp)),r,q⟩
end
def EV (sp:Sp) (dvs:List V) (E:XK) (Q:VK):List V->Hp->Prop:=λvs H1=>sp (vs++dvs) H1 Q E
def G5 (sp:Sp) (dvs:List V) (E:XK) (t:TA):TE:=λZ H Q=>t Z H (EV sp dvs E Q)
def Binds (K:W.Frag) (fd:FuncData) (ps:List Str) (ds:List Value):Prop:=
 ∀(s:Shared) (us:List Value),K.In s.heap->(us++ds).length=ps.length->BindsTo s fd ⟨us,[]⟩ (ps.zip (us++ds))
theorem Binds.all {ps:List Str} (h:∀us:List Value,us.length=ps.length->bindArgs fd ⟨us,[]⟩=pure (ps.zip us)):Binds K fd ps []:=λs us _ hl=>by
 rw[cZ] at hl |-;exact .of_eq (h us hl)
def Passes (CX:CXT) (X:Cx) (E:XK):Prop:=∀(pins:List (Addr×Obj)) (Z:St) (H:Hp) (s:Shared) (e:Value) (s':Shared),Inv X pins Z H s->CX X.stack H s E e s'->X.xe e s'
section
variable {CX:CXT} {k:Nat} {f C:Addr} {ps:List Str} {sp:Sp} {dvs:List V} {ds:List Value} {E:XK} {x m:Str} {p pos apos:Pos} {e o:Expr} {es:List Expr} {ta:TE} {t:TA}
theorem Fc {Q:VK} (F:FnOk X.prog X.w X.K X.mg X.base CX k f fd ps sp) (hr:Room k X.A) (hb:Binds X.K fd ps ds) (hd:Vals dvs ds) (hx:Passes CX X E)
  (I:Inv X pins Z H s) (r:Vals vs us) (h:sp (vs++dvs) H Q E):wpAny (model X.prog X.w) X.A (call (.ref f) us) (EP X pins Z Q) X.xe s:=by
 have r2:Vals (vs++dvs) (us++ds):=r.append hd;have hl:(us++ds).length=ps.length:=by rw[<-r2.length];exact F.len _ _ _ _ h
 refine wpAny_call (zI (F.run X.A X.stack s H ⟨us,[]⟩ (us++ds) (vs++dvs) Q E hr I.env0 (hb s us I.kIn hl) r2 h) λr s' hq=>?_);cases r with
 |error e=>exact hx pins Z H s e s' I hq
 |ok fl=>
  cases fl with
  |ret u=>exact I.after hq
  |next=>exact False.elim hq
  |brk=>exact False.elim hq
  |cont=>exact False.elim hq
theorem aP (F:FnOk X.prog X.w X.K X.mg X.base CX k f fd ps sp) (hr:Room k X.A) (hg:Gl X x) (hm:X.mg x=some (.ref f)) (hk:W.keepIn X.K (.ref f)=true) (hb:Binds X.K fd ps ds) (hd:Vals dvs ds) (hx:Passes CX X E)
  (ha:PA X (e::es) t) (hdb:(x==("__debug__" : Str))=false:=by decide) (he:starEach (e::es) X.env=(false,eval e X.env)::starEach es X.env:=by rfl) (hpl:(backTo pos (starEach es X.env)).any (·.1)=false:=by rfl) :
  PE X (.Call (.Name x p) (e::es) [] pos) (G5 sp dvs E t):=by
 intro pins s Z H Q I h;refine zN (D5 I hg hm ?_ hdb);refine W.callWith_K (h₀:=X.base) I.ok.mod.kin hk (thn (ha pos pins s Z H _ I h) λus s1 ⟨vs,H1,I1,r,q⟩=>⟨I1.kIn,?_⟩) he hpl;exact Fc F hr hb hd hx I1 r q
end
section
variable {CX:CXT} {k:Nat} {f C:Addr} {ps ks:List Str} {sp:Sp} {E:XK} {x m:Str} {p pos apos kpos:Pos} {e o:Expr} {es:List Expr} {kws:List Keyword} {te ta:TE} {t tk:TA} {nm:Option Str}
variable {g:List Value->List Value->List Value} {gV:List V->List V->List V}
end
structure bS (N P:List Str) (sc:Scope):Prop where
 kind:sc.kind=.function
 co:sc.isCoroutine=false
 gen:sc.isGenerator=false
 nd:N.Nodup
 pre:N.take P.length=P
 par:∀x∈P,sc.names.lookup x=some .local\/sc.names.lookup x=some .cell
 nofree:∀y∈sc.names,y.2≠.free
theorem vg {kindOf:Str->Option NameKind} {x:Str}:∀{binds:List (Str×Value)} {m:Str->Option Value},(∀v,(x,v)∉binds)->bindL kindOf binds m x=m x
 | [],_,_=>rfl
 |(n,v)::r,m,h=>by
  unfold bindL;rw[vg λw hw=>h w (aY _ hw)]
  split
  .have:x≠n:=by rintro rfl;exact h v fE
   simp[this]
  .rfl
theorem vi {kindOf:Str->Option NameKind} {x:Str}:∀{binds:List (Str×Value)} {m:Str->Option Value},(∀v,(x,v)∉binds)->bindC kindOf binds m x=m x
 | [],_,_=>rfl
 |(n,v)::r,m,h=>by
  unfold bindC;rw[vi λw hw=>h w (aY _ hw)]
  split
  .rfl
  .have:x≠n:=by rintro rfl;exact h v fE
   simp[this]
theorem vh {kindOf:Str->Option NameKind} {x:Str} {v:Value}:∀{P:List Str} {vs:List Value} {i:Nat} {m:Str->Option Value},P.Nodup->P[i]?=some x->vs[i]?=some v->kindOf x=some .local->
  bindL kindOf (P.zip vs) m x=some v
 | [],_,_,_,_,h,_,_=>by simp at h
 |_::_,[],_,_,_,_,h,_=>by simp at h
 |p::P,w::vs,0,m,nd,h1,h2,hk=>by
  simp at h1 h2;subst h1;subst h2;show bindL kindOf ((p,w)::P.zip vs) m p=_;unfold bindL;rw[vg λv hv=>(aV.mp nd).1 (zf hv).1,K3 hk];simp
 |p::P,w::vs,i+1,m,nd,h1,h2,hk=>by
  show bindL kindOf ((p,w)::P.zip vs) m x=_;unfold bindL;exact vh (i:=i) (aV.mp nd).2 (by simpa using h1) (by simpa using h2) hk
theorem vj {kindOf:Str->Option NameKind} {x:Str} {v:Value}:∀{P:List Str} {vs:List Value} {i:Nat} {m:Str->Option Value},P.Nodup->P[i]?=some x->vs[i]?=some v->kindOf x≠some .local->
  bindC kindOf (P.zip vs) m x=some v
 | [],_,_,_,_,h,_,_=>by simp at h
 |_::_,[],_,_,_,_,h,_=>by simp at h
 |p::P,w::vs,0,m,nd,h1,h2,hk=>by
  simp at h1 h2;subst h1;subst h2;show bindC kindOf ((p,w)::P.zip vs) m p=_;unfold bindC;rw[vi λv hv=>(aV.mp nd).1 (zf hv).1,K2 hk];simp
 |p::P,w::vs,i+1,m,nd,h1,h2,hk=>by
  show bindC kindOf ((p,w)::P.zip vs) m x=_;unfold bindC;exact vj (i:=i) (aV.mp nd).2 (by simpa using h1) (by simpa using h2) hk
def start (N:List Str) (vs:List V):St:=vs.map some++List.replicate (N.length-vs.length) none
def j3 (CX:CXT) (P:Program) (w:World) (K:W.Frag) (mg:Str->Option Value) (base:Heap) (N:List Str) (qual:Str) (scope:Scope) (f:Addr) (cd:Value) (A:Around) (outer:List Env) (s:Shared) (H:Hp) (E:XK):Cx where
 prog:=P
 w:=w
 K:=K
 mg:=mg
 base:=base
 A:=A.deeper (envOfC qual scope s.heap.objs.size f cd)
 N:=N
 s₀:=s
 H₀:=H
 env:=envOfC qual scope s.heap.objs.size f cd
 outer:=outer
 stack:=envOfC qual scope s.heap.objs.size f cd::outer
 ex:=[]
 calm:=true
 fn:=λ_=>true
 pn:=[]
 xe:=λe s'=>wpAny (model P w) (A.deeper (envOfC qual scope s.heap.objs.size f cd)) (leaving (envOfC qual scope s.heap.objs.size f cd) e) (λ_ s''=>CX outer H s E e s'') (λe' s''=>CX outer H s E e' s'') s'
theorem vV {sc:Scope} {n:Nat} {x:Str} (h:sc.names.lookup x=some .cell):∃c,(cellsFrom n sc.names []).lookup x=some c:=by have q:=Jx sc.names n [] (.inl h);exact tV.mp q
theorem Bw {CX:CXT} {N ps:List Str} {qual:Str} {f:Addr} {cd:Value} {outer:List Env} {s s1:Shared} {E:XK}
  (S:bS N ps scope) (hd:A.handled=none) (e0:px P w K mg base A outer s H) (hl:vs.length=ps.length) (r:Vals vs us)
  (x:InCallC s s.heap.objs.size (bindL (envOfC qual scope s.heap.objs.size f cd).kindOf (ps.zip us) λ_=>none) (cellsFrom (s.heap.objs.size+1) scope.names []) (bindC (envOfC qual scope s.heap.objs.size f cd).kindOf (ps.zip us) λ_=>none) s1) :
  Inv (j3 CX P w K mg base N qual scope f cd A outer s H E) [] (start N vs) H s1:=by
 have hpl:ps.length<=N.length:=by have:=congrArg List.length S.pre;rw[bG] at this;lia
 obtain⟨h1,tk,rfl,hk⟩:=x.done;have noA:∀b:Addr,b∉(j3 CX P w K mg base N qual scope f cd A outer s H E).ex:=λb z=>absurd (show b∈([]:List Addr) from z) (by simp);refine⟨⟨e0.mod,S.kind,rfl,rfl,aC _,λy z c h1 h2=>?_,λy hy=>?_,λy c _ h=>?_,λ_=>hd,Around.frames_deeper e0.frames,.inr ⟨rfl,rfl⟩,λb z=>absurd z (noA b),e0.bs,e0.bsz,λb _ _=>noA b,λb z=>absurd z (noA b),e0.funs,e0.frf⟩,
  rfl,e0.bare,Un.kept hk,⟨_,x.toInCall.ns,λi y v h1 h2 h3=>?_⟩,λy c h=>⟨_,x.cell y c h⟩,e0.hok.fresh (aC _),λy c h=>?_,λp hp=>absurd (show p∈([]:List (Addr×Obj)) from hp) (by simp),e0.hok.kept hk,?_⟩
 .exact name_of_addr x.apart (nI h1) (nI h2)
 .have hy:scope.names.lookup y=some .cell\/scope.names.lookup y=some .free:=hy;rcases hy with hy|hy
  .exact vV hy
  .exact absurd rfl (S.nofree _ (nI hy))
 .exact nk (x.above y c (nI h))
 .have hi:i<vs.length:=by
   unfold start at h2;by_cases hi:i<vs.length
   .exact hi
   .rw[gZ (by simpa using hi)] at h2;rw[List.getElem?_replicate] at h2
    split at h2<;>cases h2
  have ha:vs[i]?=some v:=by
   unfold start at h2;rw[dS (by simpa using hi),c7] at h2;cases e:vs[i]? with
   |none=>rw[e] at h2;cases h2
   |some a=>rw[e] at h2;cases h2;rfl
  obtain⟨u,hu,rv⟩:=r.get ha;have hp:ps[i]?=some y:=by rw[<-S.pre,zb (by lia)];exact h1
  have ndP:ps.Nodup:=by rw[<-S.pre];exact S.nd.sublist (List.take_sublist _ _)
  refine⟨u,rv,?_⟩;rcases S.par y (a7 hp) with k|k
  .exact .inl ⟨k,vh ndP hp hu k⟩
  .obtain⟨c,e⟩:=vV (n:=s.heap.objs.size+1) k;refine .inr ⟨.inl k,c,e,?_⟩;have q:=x.cell y c e;rw[vj ndP hp hu (by show scope.names.lookup y≠_;rw[k];decide)] at q;exact q
 .exact e0.hok.fresh (nk (x.above y c (nI h)))
 .unfold start;show _=N.length;rw[ar,aQ,List.length_replicate];lia
theorem Ic {CX:CXT} {k:Nat} {f:Addr} {name qual:Str} {params:Arguments} {body:List Stmt} {dV kV doc pm cdv ct oc:Value} {an od:Option Addr}
  {osl:Array (Option Value)} {N ps:List Str} {sp:Sp} (lk:K.lookup f=some ⟨oc,od,.func (W.fnOf name qual params body scope dV kV doc pm an cdv ct),osl⟩) (hcd:W.codeIn K cdv qual=true) (S:bS N ps scope)
  (len:∀vs H Q E,sp vs H Q E->vs.length=ps.length)
  (hbody:∀(A:Around) (outer:List Env) (s:Shared) (H:Hp) (vs:List V) (Q:VK) (E:XK),Room k (A.deeper (envOfC qual scope s.heap.objs.size f cdv))->sp vs H Q E->
   ∃t,PSs (j3 CX P w K mg base N qual scope f cdv A outer s H E) body t/\t {nx:=λ_ H'=>Q .non H',rt:=Q} (start N vs) H) :
  FnOk P w K mg base CX (k+1) f (W.fnOf name qual params body scope dV kV doc pm an cdv ct) ps sp:=by
 refine⟨len,λA outer s H args us vs Q E hr e0 hb r hsp=>?_⟩;have hl:=len _ _ _ _ hsp;have KX:K.In s.heap:=e0.mod.kin.keeps λb o e=>(e0.bs b o e).1;have lim:s.heap.NoLimit:=e0.mod.nolimit.keeps λb o e=>(e0.bs b o e).1;have hkind:∀y∈ps.zip us,scope.names.lookup y.1=some .local\/(scope.names.lookup y.1=some .cell/\((cellsFrom (s.heap.objs.size+1) scope.names []).lookup y.1).isSome=true):=λ⟨n,v⟩ hy=>by
  rcases S.par n (zf hy).1 with q|q
  .exact .inl q
  .exact .inr ⟨q,Jx _ _ _ (.inl q)⟩
 refine codeAny_call_function hr.depth (KX _ _ lk) rfl S.co S.gen rfl (W.codeRec_of KX hcd) (hb _ _ _ _ ?_);refine wpAny_newFunctionEnv_cells S.kind hkind λenv he s1 x=>?_;subst he;refine⟨lim.keeps x.toInCall.keep,codeAny_func ?_⟩;obtain⟨t,ht,hq⟩:=hbody A outer s H vs Q E (hr.deeper _) hsp;have I:Inv (j3 CX P w K mg base N qual scope f cdv A outer s H E) [] (start N vs) H s1:=Bw S hr.hd e0 hl r x;refine fe (ht [] s1 (start N vs) H _ I hq) (λfl s' hs=>?_) λe s' hs=>hs;have fin:∀{Z':St} {H':Hp} {v:V} {u:Value},Inv (j3 CX P w K mg base N qual scope f cdv A outer s H E) [] Z' H' s'->aH v u->Q v H'->CE outer P w H s Q u s':=
  λ{Z' H' v u} J rv q=>⟨v,H',J.os,J.bare,J.base,J.hok,rv,q⟩
 cases fl with
 |ret u=>
  obtain⟨v,Z',H',J,rv,q⟩:=hs;exact fin J rv q
 |next=>
  obtain⟨Z',H',J,q⟩:=hs;exact fin (v:=V.non) (u:=Value.none) J rfl q
 |brk=>
  obtain⟨_,_,_,q⟩:=hs;exact False.elim q
 |cont=>
  obtain⟨_,_,_,q⟩:=hs;exact False.elim q
end L2
namespace L2
open PySem PySem.Spec PyProof.Rows
section
variable {x:Str} {p pos:Pos} {e:Expr} {es:List Expr} {t:TA} {id T:String} {r:List V->Hp->VK->Prop}
def tCBK (r:List V->Hp->VK->Prop) (Q:VK):List V->Hp->Prop:=λvs H1=>r vs H1 Q
def tCB (r:List V->Hp->VK->Prop) (t:TA):TE:=λZ H Q=>t Z H (tCBK r Q)
theorem a9 (hc:d_ X (.builtin id) r) (hg:Gl X x) (hm:X.mg x=none) (hv:bootBuiltins x=some (.builtin id)) (ha:PA X (e::es) t) (hn:x≠"__name__":=by decide) (hdb:(x==("__debug__" : Str))=false:=by decide)
  (he:starEach (e::es) X.env=(false,eval e X.env)::starEach es X.env:=by rfl) (hpl:(backTo pos (starEach es X.env)).any (·.1)=false:=by rfl):PE X (.Call (.Name x p) (e::es) [] pos) (tCB r t):=by
 intro pins s Z H Q I h;refine zN (iY I hg hm hv ?_ hn hdb);exact Ka (thn (ha pos pins s Z H _ I h) λus s1 ⟨vs,H1,I1,r1,q1⟩=>hc pins s1 Z H1 vs us Q I1 r1 q1) he hpl
theorem ff (hc:d_ X (.type T) r) (hg:Gl X x) (hm:X.mg x=none) (hv:bootBuiltins x=some (.type T)) (ha:PA X (e::es) t) (hn:x≠"__name__":=by decide) (hdb:(x==("__debug__" : Str))=false:=by decide)
  (he:starEach (e::es) X.env=(false,eval e X.env)::starEach es X.env:=by rfl) (hpl:(backTo pos (starEach es X.env)).any (·.1)=false:=by rfl):PE X (.Call (.Name x p) (e::es) [] pos) (tCB r t):=by
 intro pins s Z H Q I h;refine zN (iY I hg hm hv ?_ hn hdb);exact nH (thn (ha pos pins s Z H _ I h) λus s1 ⟨vs,H1,I1,r1,q1⟩=>hc pins s1 Z H1 vs us Q I1 r1 q1) he hpl
end
end L2
namespace HT
open PySem PyProof.Rows
def lexLt:List Int->List Int->Bool
 | [],[]=>false
 | [],_::_=>true
 |_::_,[]=>false
 |x::xs,y::ys=>if x=y then lexLt xs ys else decide (x<y)
theorem lexLt_cons (x y:Int) (xs ys:List Int):lexLt (x::xs) (y::ys)=if x=y then lexLt xs ys else decide (x<y):=rfl
section
open PySem.SeqAt
open PySem.AutoSeq1 (wpAny_loadPart')
open PySem.MeetsSeq PySem.MeetsSeq2 PySem.MeetsSeq3
end
section
variable {prog:Program}
def sIx (n d:Nat):Option Int->Nat
 |none=>d
 |some v=>if v<0 then (v+(n:Int)).toNat else min v.toNat n
theorem sIx_none (n d:Nat):sIx n d none=d:=rfl
theorem sIx_nat (n d k:Nat):sIx n d (some (k:Int))=min k n:=by show (if (k:Int)<0 then ((k:Int)+(n:Int)).toNat else min (k:Int).toNat n)=min k n;rw[K2 (by lia),Int.toNat_natCast]
end
end HT
namespace L2
open PySem PySem.Spec PyProof.Rows
abbrev TO:=St->Hp->(Option Int->Hp->Prop)->Prop
def PO (X:Cx) (e:Option Expr) (t:TO):Prop:=
 ∀(pins:List (Addr×Obj)) (s:Shared) (Z:St) (H:Hp) (Q:Option Int->Hp->Prop),Inv X pins Z H s->t Z H Q->
  wpAny (model X.prog X.w) X.A (evalPart e X.env) (λu s'=>∃o H',Inv X pins Z H' s'/\IsPart u o/\Q o H') X.xe s
def Do:TO:=λ_ H Q=>Q none H
def EI (Q:Option Int->Hp->Prop) (x:V) (H1:Hp) (i:Int):Prop:=x=.int i/\Q (some i) H1
def EH (Q:Option Int->Hp->Prop):VK:=λx H1=>Exists (EI Q x H1)
def Gp (t:TE):TO:=λZ H Q=>t Z H (EH Q)
theorem nS {ns:List Int}:∀{us:List Value},Vals (ns.map V.int) us->IntsAre us ns:=by
 induction ns with
 |nil=>intro us r;rw[eO] at r;cases r;exact .nil
 |cons n ns ih=>
  intro us r;rw[aB] at r;cases r with
  |cons r1 r2=>
   obtain⟨t,e⟩:=r1;subst e;exact .cons n t (ih r2)
section
variable {e:Expr} {te:TE} {lo hi:Option Expr} {tl th:TO} {pos p2:Pos}
theorem dq:PO X none Do:=by intro pins s Z H Q I h;rw[zJ];exact aO ⟨none,H,I,.none,h⟩
theorem ck (h:PE X e te):PO X (some e) (Gp te):=by intro pins s Z H Q I hw;rw[evalPart_some];refine thn (h pins s Z H _ I hw) λu s1 ⟨x,H1,I1,r1,q1⟩=>?_;obtain⟨i,rfl,q⟩:=q1;obtain⟨t,rfl⟩:=r1;exact⟨some i,H1,I1,.int i t,q⟩
def SlR (X:Cx) (r:V->Option Int->Option Int->Hp->VK->Prop):Prop:=
 ∀(pins:List (Addr×Obj)) (s:Shared) (Z:St) (H:Hp) (x:V) (v vl vu:Value) (lo hi:Option Int) (sl:Addr) (Q:VK),Inv X pins Z H s->aH x v->s.heap.IsSliceOf sl vl vu .none->IsPart vl lo->IsPart vu hi->r x lo hi H Q->
  ∃T id,typeLookup (.type T) "__getitem__" = pure (some (.builtin id))/\s.TypeIs v T/\wpAny (model X.prog X.w) X.A (getItem v (.ref sl)) (EP X pins Z Q) X.xe s
def tSl3 (r:V->Option Int->Option Int->Hp->VK->Prop) (x:V) (l:Option Int) (Q:VK):Option Int->Hp->Prop:=λu H3=>r x l u H3 Q
def tSl2 (r:V->Option Int->Option Int->Hp->VK->Prop) (th:TO) (Z:St) (x:V) (Q:VK):Option Int->Hp->Prop:=λl H2=>th Z H2 (tSl3 r x l Q)
def tSl1 (r:V->Option Int->Option Int->Hp->VK->Prop) (tl th:TO) (Z:St) (Q:VK):VK:=λx H1=>tl Z H1 (tSl2 r th Z x Q)
def tSl (r:V->Option Int->Option Int->Hp->VK->Prop) (te:TE) (tl th:TO):TE:=λZ H Q=>te Z H (tSl1 r tl th Z Q)
theorem cS {r:V->Option Int->Option Int->Hp->VK->Prop} (hr:SlR X r) (he:PE X e te) (hl:PO X lo tl) (hu:PO X hi th):PE X (.Subscript e (.Slice lo hi none p2) pos) (tSl r te tl th):=by intro pins s Z H Q I h;refine tZ (thn (he pins s Z H _ I h) λv s1 ⟨x,H1,I1,r1,q1⟩=>?_);refine wpAny_Slice (thn (hl pins s1 Z H1 _ I1 q1) λvl s2 ⟨l,H2,I2,pl,q2⟩=>thn (hu pins s2 Z H2 _ I2 q2) λvu s3 ⟨u,H3,I3,pu,q3⟩=>?_);rw[zJ];refine aO ?_;have I4:Inv X pins Z H3 {s3 with heap:=s3.heap.push {cls:=.type "slice",data:=.fields #[vl,vu,.none]}}:=I3.kept (t':=s3.toks) λb ob q=>bP _ q;obtain⟨T,id,hT,ht,hg⟩:=hr pins {s3 with heap:=s3.heap.push {cls:=.type "slice",data:=.fields #[vl,vu,.none]}} Z H3 x v vl vu l u s3.heap.objs.size Q I4 r1 (Iu ..) pl pu q3;show wpAny (model X.prog X.w) X.A (subscriptTail e (.Slice lo hi none p2) v (.ref s3.heap.objs.size)) (EP X pins Z Q) X.xe {s3 with heap:=s3.heap.push {cls:=.type "slice",data:=.fields #[vl,vu,.none]}};exact tail_any (ops:=[.ref s3.heap.objs.size,v]) ht hT hg (by with_unfolding_all rfl)
def dP (xs:List V) (lo hi:Option Int):List V:=(xs.drop (HT.sIx xs.length 0 lo)).take (HT.sIx xs.length xs.length hi-HT.sIx xs.length 0 lo)
theorem AA (xs:List V) (lo hi:Option Int):(dP xs lo hi).length<=xs.length:=by unfold dP;rw[bG,aW];lia
end
end L2
namespace L2
open PySem PySem.Spec PyProof.Rows
def ixN (n:Nat) (i:Int):Option Nat:=if 0<=i then (if i<n then some i.toNat else none) else if -(n:Int)<=i then some (i+n).toNat else none
def atI {α:Type} (xs:List α) (i:Int):Option α:=(ixN xs.length i).bind λj=>xs[j]?
theorem rm {n:Nat} {i:Int} {j:Nat} (h:ixN n i=some j):seqIndex? i n=some j/\j<n/\-(n:Int)<=i/\i<n:=by
 unfold ixN at h;by_cases h0:0<=i
 .rw[K3 h0] at h;by_cases h1:i<n
  .rw[K3 h1] at h;have e:i.toNat=j:=cH h;exact⟨by rw[zL h0 h1,e],by lia,by lia,h1⟩
  .rw[K2 h1] at h;cases h
 .rw[K2 h0] at h;by_cases h1:-(n:Int)<=i
  .rw[K3 h1] at h;have e:(i+n).toNat=j:=cH h;exact⟨by rw[zK (by lia) h1,e],by lia,h1,by lia⟩
  .rw[K2 h1] at h;cases h
theorem xh {α:Type} {xs:List α} {i:Int} {v:α} (h:atI xs i=some v):∃j,seqIndex? i xs.length=some j/\xs[j]?=some v/\j<xs.length/\-(xs.length:Int)<=i/\i<xs.length:=by
 unfold atI at h;cases e:ixN xs.length i with
 |none=>rw[e] at h;cases h
 |some j=>
  rw[e] at h;obtain⟨h1,h2,h3,h4⟩:=rm e;exact⟨j,h1,h,h2,h3,h4⟩
theorem cA {α:Type} {xs:List α} {j:Nat} {v:α} (h:xs[j]?=some v):atI xs (j:Int)=some v:=by
 have hj:j<xs.length:=(aS.mp h).1;have e:ixN xs.length (j:Int)=some j:=by unfold ixN;rw[K3 (by lia),K3 (by lia)];simp
 unfold atI;rw[e];exact h
def Ex (b:Expr):Prop:=∀o i,subscripted b false o i=operate [o,i] (getItem o i)
def IxR (X:Cx) (r:R2):Prop:=
 ∀(value slice:Expr) (pins:List (Addr×Obj)) (s:Shared) (Z:St) (H:Hp) (x y:V) (v u:Value) (Q:VK),Inv X pins Z H s->aH x v->aH y u->r x y H Q->
  subscripted slice false v u=operate [v,u] (getItem v u)->wpAny (model X.prog X.w) X.A (subscriptTail value slice v u) (EP X pins Z Q) X.xe s
def MtR (X:Cx) (id:String) (r:V->List V->Hp->VK->Prop):Prop:=
 ∀(pins:List (Addr×Obj)) (s:Shared) (Z:St) (H:Hp) (x:V) (xs:List V) (v:Value) (us:List Value) (Q:VK),Inv X pins Z H s->aH x v->Vals xs us->r x xs H Q->
  wpAny (model X.prog X.w) X.A (call (.builtin id) (v::us)) (EP X pins Z Q) X.xe s
section
variable {a b:Expr} {ta tb:TE} {pos:Pos}
theorem aq {r:R2} (hr:IxR X r) (ha:PE X a ta) (hb:PE X b tb) (hs:Ex b):PE X (.Subscript a b pos) (tOp r ta tb):=by intro pins s Z H Q I h;exact tZ (sS ha hb I h λv u s2 x y H2 I2 rx ry q=>hr a b pins s2 Z H2 x y v u Q I2 rx ry q (hs _ _))
def HE (K:W.Frag) (x y:V) (H:Hp) (Q:VK) (p:Addr) (xs:List V) (i:Int) (v:V):Prop:=x=.ref p/\y=.int i/\SqL K H p xs/\atI xs i=some v/\Q v H
def sN (K:W.Frag):R2:=λx y H Q=>Exists (Ex4 (HE K x y H Q))
def HD (K:W.Frag) (x y:V) (H:Hp) (Q:VK) (p:Addr) (xs:List V) (i:Int) (v:V):Prop:=x=.ref p/\y=.int i/\SqT K H p xs/\atI xs i=some v/\Q v H
def mV (K:W.Frag):R2:=λx y H Q=>Exists (Ex4 (HD K x y H Q))
theorem aI:IxR X (sN []):=by
 intro value slice pins s Z H x y v u Q I rx ry h hs;obtain⟨p,xs,i,z,rfl,rfl,hq,he,q⟩:=h;cases rx;obtain⟨t,rfl⟩:=ry;obtain⟨its,r,pl,hz⟩:=I.list hq;obtain⟨j,h1,h2,h3,h4,h5⟩:=xh he;obtain⟨w,ew,rw'⟩:=r.get h2;have hl:=r.length;have hn:=line63;have fin:EP X pins Z Q w s:=⟨z,H,I,rw',q⟩;by_cases h0:0<=i
 .have hj:i.toNat=j:=by
   rw[zL h0 h5] at h1;exact cH h1
  exact item_listR pl.isList h0 (by lia) (by rw[hj];simpa using ew) fin hs
 .have hj:(i+(its.toArray.size:Int)).toNat=j:=by
   rw[zK (by lia) h4] at h1;rw[bX,<-hl];exact cH h1
  exact JJ (x:=w) pl.isList.typeIs zM.lookup
   (wpAny_getItem_list_neg (Q:=λr s'=>r=w/\EP X pins Z Q r s') pl.isList (by lia) (by rw[bX]<;>lia) (by lia) (by rw[hj];simpa using ew) ⟨rfl,fin⟩) hs
theorem cB:IxR X (mV []):=by
 intro value slice pins s Z H x y v u Q I rx ry h hs;obtain⟨p,xs,i,z,rfl,rfl,hq,he,q⟩:=h;cases rx;obtain⟨t,rfl⟩:=ry;obtain⟨its,r,pl,hz⟩:=I.tuple hq;obtain⟨j,h1,h2,h3,h4,h5⟩:=xh he;obtain⟨w,ew,rw'⟩:=r.get h2;have hl:=r.length;have hn:=line63;have fin:EP X pins Z Q w s:=⟨z,H,I,rw',q⟩;exact JJ (x:=w) pl.typeIs slot_tuple_getitem.lookup
  (getItem_tuple (j:=j) (Q:=λr s'=>r=w/\EP X pins Z Q r s') pl (by lia) (by lia) (by rw[bX,<-hl];exact h1) (by simpa using ew) ⟨rfl,fin⟩) hs
theorem A2 (its:List Value) (n j:Nat) (u:Value):Obj.mapSeq (·.setIfInBounds j u) {cls:=.type "list",data:=.seq its.toArray n}={cls:=.type "list",data:=.seq (its.set j u).toArray n}:=by simp[Obj.mapSeq]
theorem Inv.lst {p:Addr} (I:Inv X pins Z H s) (h:H p=some (.lst xs)) :
  ∃(its:List Value) (n:Nat),Vals xs its/\s.heap.get? p=some {cls:=.type "list",data:=.seq its.toArray n}/\xs.length<=sizeLine:=by
 obtain⟨z,its,n,r,e⟩:=I.hok p _ h;exact⟨its,n,r,e,z⟩
theorem Inv.lstUpd {p:Addr} {xs ys:List V} {its its':List Value} {n n':Nat} {f:Obj->Obj} (I:Inv X pins Z H s) (h:H p=some (.lst xs))
  (ho:s.heap.get? p=some {cls:=.type "list",data:=.seq its.toArray n}) (hf:f {cls:=.type "list",data:=.seq its.toArray n}={cls:=.type "list",data:=.seq its'.toArray n'}) (r:Vals ys its') (hz:ys.length<=sizeLine) (t:Nat) :
  Inv X pins Z (upd H p (.lst ys)) {s with heap:=s.heap.update p f,toks:=t}:=by
 have e:(s.heap.update p f).get? p=some {cls:=.type "list",data:=.seq its'.toArray n'}:=by rw[yK f ho (by rw[hf]<;>rfl),hf]
 refine I.write (x:=p) (e:=p) (by rw[h];trivial) (.inl rfl) (λb u hb q=>(Iv _ _ (aF hb)).trans q) ⟨_,e⟩ ?_;exact⟨hz,its',n',r,e⟩
def Fi (o i v:V) (H:Hp) (Q:Hp->Prop) (p:Addr) (xs:List V) (k:Int) (j:Nat):Prop:=o=.ref p/\i=.int k/\H p=some (.lst xs)/\ixN xs.length k=some j/\WrO H p (.lst (xs.set j v)) Q
def Hu:V->V->V->Hp->(Hp->Prop)->Prop:=λo i v H Q=>Exists (Ex4 (Fi o i v H Q))
theorem og:PSet X Hu:=by
 intro pins s Z H o i v ov iv u Q I ro ri rv h;obtain⟨p,xs,k,j,rfl,rfl,hp,hj,q⟩:=h;replace q:=q.at;cases ro;obtain⟨t,rfl⟩:=ri;obtain⟨its,n,r,ho,hz⟩:=I.lst hp;obtain⟨h1,h2,h3,h4⟩:=rm hj;have hl:=r.length;have hn:=line63;have I':Inv X pins Z (upd H p (.lst (xs.set j v))) {s with heap:=s.heap.update p (Obj.mapSeq (·.setIfInBounds j u))}:=
  I.lstUpd hp ho (A2 its n j u) (r.set rv j) (by rw[List.length_set];exact hz) s.toks
 by_cases h0:0<=k
 .have hk:k.toNat=j:=by
   rw[zL h0 h4] at h1;exact cH h1
  exact W.ki_setAt ho h0 (by lia) (by rw[bX,<-hl];exact h4) (by rw[hk];exact⟨_,I',q⟩)
 .have hk:(k+(its.toArray.size:Int)).toNat=j:=by
   rw[zK (by lia) h3] at h1;rw[bX,<-hl];exact cH h1
  exact W.ki_setBack ho (by lia) (by rw[bX,<-hl];exact h3) (by lia) (by rw[hk];exact⟨_,I',q⟩)
theorem Am (lo hi:Option Int) (n:Nat):(sliceBounds lo hi none n).1=((HT.sIx n 0 lo:Nat):Int)/\(sliceBounds lo hi none n).2.1=((HT.sIx n n hi:Nat):Int)/\(sliceBounds lo hi none n).2.2=1:=by
 refine⟨?_,?_,rfl⟩
 .cases lo with
  |none=>simp[sliceBounds,HT.sIx]
  |some i=>
   simp only[sliceBounds,HT.sIx,Jf,show (1:Int)>0 by decide,if_true];by_cases h:i<0
   .simp only[h,if_true]<;>lia
   .simp only[h,if_false]<;>lia
 .cases hi with
  |none=>simp[sliceBounds,HT.sIx]
  |some i=>
   simp only[sliceBounds,HT.sIx,Jf,show (1:Int)>0 by decide,if_true];by_cases h:i<0
   .simp only[h,if_true]<;>lia
   .simp only[h,if_false]<;>lia
theorem Ad (its:List Value) (lo hi:Option Int):slicePick its.toArray lo hi none=((its.drop (HT.sIx its.length 0 lo)).take (HT.sIx its.length its.length hi-HT.sIx its.length 0 lo)).toArray:=by obtain⟨h1,h2,h3⟩:=Am lo hi its.toArray.size;unfold slicePick;rw[h1,h2,h3];simp only[sliceRange_one,pick_run,bX]<;>rfl
def Ho (K:W.Frag) (x:V) (lo hi:Option Int) (H:Hp) (Q:VK) (a:Addr) (xs:List V):Prop:=x=.ref a/\SqL K H a xs/\fD H (.lst (dP xs lo hi)) Q
def rSlL (K:W.Frag):V->Option Int->Option Int->Hp->VK->Prop:=λx lo hi H Q=>Exists (Ex2 (Ho K x lo hi H Q))
theorem cT:SlR X (rSlL []):=by intro pins s Z H x v vl vu lo hi sl Q I rx hs pl pu h;obtain⟨a,xs,rfl,hx,q⟩:=h;cases rx;obtain⟨its,r,ht,hz⟩:=I.list hx;have hlen:=r.length;refine⟨"list",_,zM.lookup,ht.isList.typeIs,?_⟩;refine JR ht.isList hs pl pu .none (by simp) ?_ (by rw[bX]<;>lia);rw[Ad,<-hlen];refine⟨.ref s.heap.objs.size,_,I.laid (t':=s.toks) (o:=.lst (dP xs lo hi)) (λb ob q=>bP _ q) (aC _) ?_,rfl,q.at (I.hok.fresh (aC _))⟩;exact⟨bV (AA xs lo hi) hz,_,0,(r.drop (HT.sIx xs.length 0 lo)).take (HT.sIx xs.length xs.length hi-HT.sIx xs.length 0 lo),cQ _ rfl⟩
def gz:V->Bool
 |.non=>true
 |.bl _=>true
 |.int _=>true
 |.str _=>true
 |_=>false
def eqV:V->V->Bool
 |.non,.non=>true
 |.bl a,.bl b=>a==b
 |.bl a,.int b=>(if a then 1 else 0)==b
 |.int a,.bl b=>a==(if b then 1 else 0)
 |.int a,.int b=>a==b
 |.str a,.str b=>a==b
 |_,_=>false
theorem F7 {y x:V} {u v:Value} (ry:aH y u) (rx:aH x v) (fy:gz y=true) (fx:gz x=true):SeqAt.EqAt A s u v (eqV y x):=by
 cases y with
 |non=>
  cases ry;cases x with
  |non=>cases rx;exact KW _
  |bl b=>cases rx;exact KR b
  |int b=>obtain⟨t,rfl⟩:=rx;exact KS b t
  |str b=>obtain⟨t,rfl⟩:=rx;exact KU b t
  |_=>exact absurd (show false=true from fx) cq
 |bl a=>
  cases ry;cases x with
  |non=>cases rx;exact KM a
  |bl b=>cases rx;exact KJ a b
  |int b=>obtain⟨t,rfl⟩:=rx;exact KL a b t
  |str b=>obtain⟨t,rfl⟩:=rx;exact KN a b t
  |_=>exact absurd (show false=true from fx) cq
 |int a=>
  obtain⟨t',rfl⟩:=ry;cases x with
  |non=>cases rx;exact KQ a t'
  |bl b=>cases rx;exact KO a t' b
  |int b=>obtain⟨t,rfl⟩:=rx;exact KP a t' b t
  |str b=>obtain⟨t,rfl⟩:=rx;exact Jz a t' b t
  |_=>exact absurd (show false=true from fx) cq
 |str a=>
  obtain⟨t',rfl⟩:=ry;cases x with
  |non=>cases rx;exact KZ a t'
  |bl b=>cases rx;exact KY a t' b
  |int b=>obtain⟨t,rfl⟩:=rx;exact JA a t' b t
  |str b=>obtain⟨t,rfl⟩:=rx;exact K0 a t' b t
  |_=>exact absurd (show false=true from fx) cq
 |_=>exact absurd (show false=true from fy) cq
def eqU (x:V) (u:Value):Bool:=match u with
 |.none=>eqV .non x
 |.bool b=>eqV (.bl b) x
 |.int i _=>eqV (.int i) x
 |.str z _=>eqV (.str z) x
 |_=>false
theorem xO {x y:V} {u:Value} (r:aH y u) (f:gz y=true):eqU x u=eqV y x:=by
 cases y with
 |non=>cases r;rfl
 |bl b=>cases r;rfl
 |int i=>obtain⟨t,rfl⟩:=r;rfl
 |str z=>obtain⟨t,rfl⟩:=r;rfl
 |_=>exact absurd (show false=true from f) cq
theorem lY {x:V}:∀{xs:List V} {us:List Value},Vals xs us->xs.all gz=true->us.any (eqU x)=xs.any λy=>eqV y x
 |_,_,.nil,_=>rfl
 |y::xs,u::us,.cons r t,f=>by
  rw[yO,sU] at f;rw[j5,j5,xO r f.1,lY t f.2]
theorem kY {x:V} {v:Value} (rx:aH x v) (fx:gz x=true):∀{xs:List V} {us:List Value},Vals xs us->xs.all gz=true->∀u∈us,SeqAt.EqAt A s u v (eqU x u)
 |_,_,.nil,_=>λu hu=>by cases hu
 |y::xs,u::us,.cons r t,f=>λu' hu=>by
  rw[yO,sU] at f;rcases af.mp hu with rfl|hu
  .rw[xO r f.1];exact F7 r rx f.1 fx
  .exact kY rx fx t f.2 u' hu
def inV (x:V) (xs:List V):Bool:=xs.any λy=>eqV y x
def rInB (K:W.Frag) (neg:Bool) (x y:V) (H:Hp) (Q:VK) (p:Addr) (xs:List V):Prop:=y=.ref p/\(SqL K H p xs\/SqT K H p xs)/\gz x=true/\xs.all gz=true/\Q (.bl (if neg then !inV x xs else inV x xs)) H
def rIn (K:W.Frag) (neg:Bool):R2:=λx y H Q=>Exists (Ex2 (rInB K neg x y H Q))
theorem kJ:OpR X (compareOp .In) (rIn [] false):=by
 intro pins s Z H x y v u Q I rx ry h;obtain⟨p,xs,rfl,hq,fx,fs,q⟩:=h;cases ry;rcases hq with hq|hq
 .obtain⟨its,r,pl,hz⟩:=I.list hq;refine SeqAt.in_listAt (eqU x) pl.isList (λw hw=>kY rx fx r fs w (by simpa using hw)) ⟨.bl _,H,I,rfl,?_⟩;rw[show its.toArray.any (eqU x)=its.any (eqU x) by simp,lY r fs];exact q
 .obtain⟨its,r,pl,hz⟩:=I.tuple hq;refine SeqAt.in_tupleAt (eqU x) pl (λw hw=>kY rx fx r fs w (by simpa using hw)) ⟨.bl _,H,I,rfl,?_⟩;rw[show its.toArray.any (eqU x)=its.any (eqU x) by simp,lY r fs];exact q
theorem iL:OpR X (compareOp .NotIn) (rIn [] true):=by
 intro pins s Z H x y v u Q I rx ry h;obtain⟨p,xs,rfl,hq,fx,fs,q⟩:=h;cases ry;rcases hq with hq|hq
 .obtain⟨its,r,pl,hz⟩:=I.list hq;refine SeqAt.notIn_listAt (eqU x) pl.isList (λw hw=>kY rx fx r fs w (by simpa using hw)) ⟨.bl _,H,I,rfl,?_⟩;rw[show its.toArray.any (eqU x)=its.any (eqU x) by simp,lY r fs];exact q
 .obtain⟨its,r,pl,hz⟩:=I.tuple hq;refine SeqAt.notIn_tupleAt (eqU x) pl (λw hw=>kY rx fx r fs w (by simpa using hw)) ⟨.bl _,H,I,rfl,?_⟩;rw[show its.toArray.any (eqU x)=its.any (eqU x) by simp,lY r fs];exact q
def Fl (K:W.Frag) (xs:List V) (H:Hp) (Q:VK) (p:Addr) (ys:List V):Prop:=xs=[.ref p]/\(SqL K H p ys\/SqT K H p ys)/\Q (.int ys.length) H
def HC (K:W.Frag):List V->Hp->VK->Prop:=λxs H Q=>Exists (Ex2 (Fl K xs H Q))
theorem cu:d_ X (.builtin "len") (HC []):=by
 intro pins s Z H xs us Q I r h;obtain⟨p,ys,rfl,hq,q⟩:=h;obtain⟨u,rfl,rx⟩:=vals1 r;cases rx;have hn:=line63;rcases hq with hq|hq
 .obtain⟨its,r',pl,hz⟩:=I.list hq;have hlen:=r'.length;exact Calls.call_len_list pl.isList (by simp only[bX]<;>lia) ⟨.int ys.length,H,I.tok _,⟨s.toks+1,by rw[bX,hlen]⟩,q⟩
 .obtain⟨its,r',pl,hz⟩:=I.tuple hq;have hlen:=r'.length;exact len_tuple pl (by simp only[bX]<;>lia) ⟨.int ys.length,H,I.tok _,⟨s.toks+1,by rw[bX,hlen]⟩,q⟩
def DK (K:W.Frag) (xs:List V) (H:Hp) (Q:VK) (p:Addr) (ys:List V):Prop:=xs=[.ref p]/\(SqL K H p ys\/SqT K H p ys)/\fD H (.lst ys) Q
def Fk (K:W.Frag):List V->Hp->VK->Prop:=λxs H Q=>Exists (Ex2 (DK K xs H Q))
theorem iM:d_ X (.type "list") (Fk []):=by
 intro pins s Z H xs us Q I r h;obtain⟨p,ys,rfl,hq,q⟩:=h;obtain⟨u,rfl,rx⟩:=vals1 r;cases rx;have fin:∀(its:List Value),Vals ys its->ys.length<=sizeLine->∀(h':Heap) (c':Nat),(∀b o',s.heap.get? b=some o'->h'.get? b=some o')->
   h'.get? s.heap.objs.size=some {cls:=.type "list",dict:=none,data:=.seq its.toArray c',slots:=#[]}->EP X pins Z Q (.ref s.heap.objs.size) {s with heap:=h'}:=λits r' hz h' c' kp e=>
  ⟨.ref s.heap.objs.size,_,I.laid (t':=s.toks) kp (aC _) (show cL X.prog X.w _ h' _ (.lst ys) from ⟨hz,its,c',r',e⟩),rfl,q.at (I.hok.fresh (aC _))⟩
 rcases hq with hq|hq
 .obtain⟨its,r',pl,hz⟩:=I.list hq;have hlen:=r'.length;obtain⟨o,ho,hc,n,hd⟩:=pl.isList;exact call_list_seq p (.inl rfl) ho hc hd (λh' c' kp e=>fin its r' hz h' c' kp e) (by simp only[bX]<;>lia)
 .obtain⟨its,r',pl,hz⟩:=I.tuple hq;have hlen:=r'.length;obtain⟨o,ho,hc,n,hd⟩:=pl;exact call_list_seq p (.inr rfl) ho hc hd (λh' c' kp e=>fin its r' hz h' c' kp e) (by simp only[bX]<;>lia)
theorem Af:d_ X (.type "tuple") (λxs H Q=>∃p ys,xs=[.ref p]/\((SqL [] H p ys/\∀l,H l=none->Q (.ref l) (upd H l (.tup ys)))\/(SqT [] H p ys/\Q (.ref p) H))):=by
 intro pins s Z H xs us Q I r h;obtain⟨p,ys,rfl,h⟩:=h;obtain⟨u,rfl,rx⟩:=vals1 r;cases rx;rcases h with ⟨hq,q⟩|⟨hq,q⟩
 .obtain⟨its,r',pl,hz⟩:=I.list hq;have hlen:=r'.length;refine call_tuple_list pl.isList (λh' kp=>?_) (by simp only[bX]<;>lia);have I1:Inv X pins Z H {s with heap:=h'}:=I.kept (t':=s.toks) kp;have I2:Inv X pins Z (upd H h'.objs.size (.tup ys)) {s with heap:=h'.push {cls:=.type "tuple",data:=.seq its.toArray}}:=
   I1.laid (t':=s.toks) (λb o e=>bP _ e) (aC _) (show cL X.prog X.w _ _ _ (.tup ys) from ⟨⟨hz,_,cQ _ rfl,rfl⟩,its,r',IsTup.new _ _⟩)
  exact⟨.ref h'.objs.size,_,I2,rfl,q _ (I1.hok.fresh (aC _))⟩
 .obtain⟨its,r',pl,hz⟩:=I.tuple hq;exact call_tuple_same pl ⟨.ref p,H,I,rfl,q⟩
def tyV (K:W.Frag) (T:String) (x:V) (H:Hp):Prop:=match x with
 |.str _=>T = "str"
 |.int _=>T = "int"
 |.ref p=>(T = "list"/\∃xs,SqL K H p xs)\/(T = "tuple"/\∃o,K.lookup p=some o/\o.cls=.type "tuple"/\o.dict=none) \/
   (T = "dict"/\((∃kvs,H p=some (.dK kvs))\/∃kvs,H p=some (.dT kvs)))\/(T = "set"/\∃S n,H p=some (.set S n))
 |_=>False
theorem xk {T:String} {x:V} {v:Value} (I:Inv X pins Z H s) (r:aH x v) (ty:tyV [] T x H) :
  s.TypeIs v T/\∀a,v=.ref a->∃ob,s.heap.get? a=some ob/\ob.dict=none:=by
 cases x with
 |str z=>
  obtain⟨t,rfl⟩:=r;cases (show T = "str" from ty);exact⟨typeIs_str s z t,λ_ e=>nomatch e⟩
 |int i=>
  obtain⟨t,rfl⟩:=r;cases (show T = "int" from ty);exact⟨typeIs_int s i t,λ_ e=>nomatch e⟩
 |ref p=>
  cases r;rcases ty with ⟨rfl,xs,hq⟩|⟨rfl,o,hk,hc,hd⟩|⟨rfl,hk⟩|⟨rfl,S,n,hk⟩
  .obtain⟨its,_,pl,_⟩:=I.list hq;refine⟨pl.isList.typeIs,λa e=>?_⟩;cases e;obtain⟨o,n,e,c,hd,_⟩:=pl;exact⟨o,e,hd⟩
  .cases hk
  .have z:∃o,s.heap.get? p=some o/\o.ExactDict:=by
    rcases hk with ⟨kvs,hk⟩|⟨kvs,hk⟩
    .obtain⟨_,_,_,_,o,_,_,e,ex,_⟩:=I.hok p _ hk;exact⟨o,e,ex⟩
    .obtain⟨_,_,_,_,o,_,_,e,ex,_⟩:=I.hok p _ hk;exact⟨o,e,ex⟩
   obtain⟨o,e,ex⟩:=z;refine⟨⟨o,e,ex.1⟩,λa e2=>?_⟩;cases e2;exact⟨o,e,ex.2.1⟩
  .obtain⟨o,_,_,_,e,ex,_⟩:=I.hok p _ hk;refine⟨⟨o,e,ex.1⟩,λa e2=>?_⟩;cases e2;exact⟨o,e,ex.2.1⟩
 |_=>exact False.elim ty
def G6 (K:W.Frag) (T:String) (r:V->List V->Hp->VK->Prop) (Q:VK):VK:=λx H1=>tyV K T x H1/\r x [] H1 Q
def tBM0 (K:W.Frag) (T:String) (r:V->List V->Hp->VK->Prop) (to:TE):TE:=λZ H Q=>to Z H (G6 K T r Q)
def tBM2 (r:V->List V->Hp->VK->Prop) (x:V) (Q:VK):List V->Hp->Prop:=λxs H2=>r x xs H2 Q
def tBM1 (K:W.Frag) (T:String) (r:V->List V->Hp->VK->Prop) (t:TA) (Z:St) (Q:VK):VK:=λx H1=>tyV K T x H1/\t Z H1 (tBM2 r x Q)
def tBM (K:W.Frag) (T:String) (r:V->List V->Hp->VK->Prop) (to:TE) (t:TA):TE:=λZ H Q=>to Z H (tBM1 K T r t Z Q)
variable {o e:Expr} {es:List Expr} {to:TE} {t:TA} {name:Str} {apos cpos:Pos} {T id:String} {r:V->List V->Hp->VK->Prop}
theorem Ft (pa:PlainAttrs T) (slot:Slot T name id) (hty:typeOf (.builtin id)=pure (.type "method_descriptor")) (hm:MtR X id r) (ho:PE X o to)
  (hbase:attributeBase o name X.env (eval o X.env)=eval o X.env:=by rfl) (hline:(apos.endLine==cpos.line)=true:=by rfl):PE X (.Call (.Attribute o name apos) [] [] cpos) (tBM0 [] T r to):=by
 intro pins s Z H Q I h;refine wpAny_Call_method0_late hbase hline (thn (ho pins s Z H _ I h) λv s1 ⟨x,H1,I1,r1,ty,q1⟩=>?_);obtain⟨h1,h2⟩:=xk I1 r1 ty;exact⟨T,id,pa,slot,hty,h1,h2,pA rfl (PySem.evalArgs_none (hm pins s1 Z H1 x [] v [] Q I1 r1 .nil q1))⟩
theorem cK (pa:PlainAttrs T) (slot:Slot T name id) (hty:typeOf (.builtin id)=pure (.type "method_descriptor")) (hm:MtR X id r) (ho:PE X o to) (ha:PA X (e::es) t)
  (hbase:attributeBase o name X.env (eval o X.env)=eval o X.env:=by rfl)
  (hfew:((backTo cpos (starEach (e::es) X.env)).all (λx=>!x.1)&&(backToKw cpos (keywordEach [] X.env)).all (λx=>x.1.isSome)
   && decide ((e::es).length+([]:List Keyword).length+(if ([]:List Keyword).isEmpty then 0 else 1)<30))=true:=by rfl)
  (hline:(apos.endLine==cpos.line)=true:=by rfl) (hs:starEach (e::es) X.env=(false,eval e X.env)::starEach es X.env:=by rfl) (hplain:(backTo cpos (starEach es X.env)).any (·.1)=false:=by rfl) :
  PE X (.Call (.Attribute o name apos) (e::es) [] cpos) (tBM [] T r to t):=by
 intro pins s Z H Q I h;refine JL hbase hfew hline rfl (thn (ho pins s Z H _ I h) λv s1 ⟨x,H1,I1,r1,ty,q1⟩=>?_);obtain⟨h1,h2⟩:=xk I1 r1 ty;refine⟨T,id,pa,slot,hty,h1,h2,?_⟩;have hA:=ha cpos pins s1 Z H1 _ I1 q1;rw[hs] at hA |-;refine pA (by show (false||(backTo cpos (starEach es X.env)).any (·.1))=false;rw[hplain]<;>rfl) (sV ?_);exact thn hA λus s2 ⟨vs,H2,I2,r2,q2⟩=>hm pins s2 Z H2 x vs v us Q I2 r1 r2 q2
end
end L2
namespace L2
open PySem PySem.Spec PyProof.Rows
def MtM (X:Cx) (id:String) (r:V->List V->Hp->VK->Prop):Prop:=
 ∀(pins:List (Addr×Obj)) (s:Shared) (Z:St) (H:Hp) (x:V) (xs:List V) (v:Value) (us:List Value) (Q:VK),Inv X pins Z H s->aH x v->Vals xs us->r x xs H Q->
  wpAny (model X.prog X.w) X.A (call (.builtin id) (v::us)) (EP X pins Z Q) X.xe s
theorem Vals.one:∀{x:V} {us:List Value},Vals [x] us->∃u,us=[u]/\aH x u
 |_,_,.cons r .nil=>⟨_,rfl,r⟩
theorem Vals.two:∀{x y:V} {us:List Value},Vals [x,y] us->∃u v,us=[u,v]/\aH x u/\aH y v
 |_,_,_,.cons r (.cons q .nil)=>⟨_,_,rfl,r,q⟩
theorem Vals.zero:∀{us:List Value},Vals [] us->us=[]
 |_,.nil=>rfl
theorem Vals.dropLast (h:Vals xs us):Vals xs.dropLast us.dropLast:=by
 induction h with
 |nil=>exact .nil
 |cons r t ih=>
  cases t with
  |nil=>exact .nil
  |cons q t'=>exact .cons r ih
theorem Vals.eraseIdx:∀{xs:List V} {us:List Value} (i:Nat),Vals xs us->Vals (xs.eraseIdx i) (us.eraseIdx i)
 |_,_,_,.nil=>.nil
 |_,_,0,.cons _ t=>t
 |_,_,i+1,.cons r t=>.cons r (Vals.eraseIdx i t)
theorem Vals.reverse (h:Vals xs us):Vals xs.reverse us.reverse:=by
 induction h with
 |nil=>exact .nil
 |cons r t ih=>rw[g_,g_];exact Vals.append ih (.cons r .nil)
theorem A5 {α:Type} (l:List α):l.eraseIdx (l.length-1)=l.dropLast:=by
 induction l with
 |nil=>rfl
 |cons a r ih=>
  cases r with
  |nil=>rfl
  |cons b r=>
   have e:(a::b::r).length-1=((b::r).length-1)+1:=by have h1:(a::b::r).length=r.length+2:=rfl;have h2:(b::r).length=r.length+1:=rfl;lia
   rw[e,List.eraseIdx_cons_succ,ih]
   all_goals rfl
theorem uV {α:Type}:∀(l:List α) (i:Nat),(l.eraseIdx i).length<=l.length
 | [],_=>aC _
 |_::_,0=>pY _
 |_::r,i+1=>Nat.succ_le_succ (uV r i)
section
variable {l b:Addr} {xs ys zs:List V}
theorem Inv.lset {its its':List Value} {n:Nat} {f:Array Value->Array Value} {t':Nat} (I:Inv X pins Z H s) (hH:H l=some (.lst xs))
  (e:s.heap.get? l=some {cls:=.type "list",data:=.seq its.toArray n}) (hf:f its.toArray=its'.toArray) (hv:Vals ys its') (hz:ys.length<=sizeLine) :
  Inv X pins Z (upd H l (.lst ys)) {s with heap:=s.heap.update l (Obj.mapSeq f),toks:=t'}:=by
 have q:=PySem.IsL.update e f;rw[hf] at q;refine I.write (x:=l) (e:=l) (by rw[hH];exact trivial) (.inl rfl) (λb' u hb hu=>(Iv s.heap (Obj.mapSeq f) (aF hb)).trans hu) ⟨_,q⟩ ?_;exact⟨hz,its',_,hv,q⟩
theorem Inv.lnew {its:List Value} {t':Nat} (I:Inv X pins Z H s) (hv:Vals ys its) (hz:ys.length<=sizeLine) :
  Inv X pins Z (upd H s.heap.objs.size (.lst ys)) {s with heap:=s.heap.push {cls:=.type "list",data:=.seq its.toArray},toks:=t'}:=
 I.laid (λ_ _ q=>bP _ q) (aC _) ⟨hz,its,0,hv,cQ _ rfl⟩
theorem Inv.fresh (I:Inv X pins Z H s):H s.heap.objs.size=none:=I.hok.fresh (aC _)
theorem Inv.lstM (I:Inv X pins Z H s) (hH:H l=some (.lst xs)):xs.length<=sizeLine/\∃(its:List Value) (n:Nat),Vals xs its/\xs.length=its.length/\s.heap.get? l=some {cls:=.type "list",data:=.seq its.toArray n}:=by obtain⟨z,its,n,r,e⟩:=I.hok l _ hH;exact⟨z,its,n,r,r.length,e⟩
end
section
def Ce (x:V) (vs:List V) (H:Hp) (Q:VK) (l:Addr) (xs:List V) (y:V):Prop:=x=.ref l/\vs=[y]/\H l=some (.lst xs)/\xs.length<sizeLine/\WrO H l (.lst (xs++[y])) (Q .non)
def DN:V->List V->Hp->VK->Prop:=λx vs H Q=>Exists (Ex3 (Ce x vs H Q))
theorem cN:MtM X "list.append" DN:=by intro pins s Z H x vs v us Q I rx rv h;obtain⟨l,xs,y,rfl,rfl,hH,hz,q⟩:=h;cases rx;obtain⟨u,rfl,ru⟩:=rv.one;obtain⟨z,its,n,r,hl,e⟩:=I.lstM hH;refine zG F.slot_list_append ⟨_,e,rfl⟩ F.entry_list_append (F.args_list_append_2 _ _) (PySem.list_append l its.toArray n u (by rw[bX];lia)) ⟨e,?_⟩;refine⟨.non,_,I.lset (its':=its++[u]) hH e (by simp) (r.append (.cons ru .nil)) ?_,rfl,q.at⟩;rw[ar,bg];lia
def Hz (x:V) (vs:List V) (H:Hp) (Q:VK) (l:Addr) (xs:List V) (y:V):Prop:=x=.ref l/\vs=[]/\H l=some (.lst xs)/\xs[xs.length-1]?=some y/\WrO H l (.lst xs.dropLast) (Q y)
def rPop:V->List V->Hp->VK->Prop:=λx vs H Q=>Exists (Ex3 (Hz x vs H Q))
theorem FC:MtM X "list.pop" rPop:=by
 intro pins s Z H x vs v us Q I rx rv h;obtain⟨l,xs,y,rfl,rfl,hH,hy,q⟩:=h;cases rx;have hus:=rv.zero;subst hus;obtain⟨z,its,n,r,hl,e⟩:=I.lstM hH;obtain⟨u,hu,ru⟩:=r.get hy;have hy':its.toArray[its.toArray.size-1]?=some u:=by show its.toArray[its.length-1]?=some u;rw[<-Array.getElem?_toList,<-hl];exact hu
 refine zG F.slot_list_pop ⟨_,e,rfl⟩ F.entry_list_pop (F.args_list_pop_1 _) (MeetsSeq.list_pop_last l its.toArray n u hy' (by rw[bX];lia)) ⟨e,?_⟩;refine⟨y,_,I.lset (its':=its.dropLast) hH e ?_ r.dropLast ?_,ru,q.at⟩
 .show its.toArray.eraseIdxIfInBounds (its.toArray.size-1)=its.dropLast.toArray;rw[bX,IA,A5]
 .rw[pN];lia
def DJ (x:V) (vs:List V) (H:Hp) (Q:VK) (l:Addr) (xs:List V) (i:Int) (k:Nat) (y:V):Prop:=x=.ref l/\vs=[.int i]/\H l=some (.lst xs)/\-(2 ^ 63)<=i/\i<2 ^ 63/\seqIndex? i xs.length=some k/\xs[k]?=some y/\WrO H l (.lst (xs.eraseIdx k)) (Q y)
def Fj:V->List V->Hp->VK->Prop:=λx vs H Q=>Exists (Ex5 (DJ x vs H Q))
theorem CH:MtM X "list.pop" Fj:=by
 intro pins s Z H x vs v us Q I rx rv h;obtain⟨l,xs,i,k,y,rfl,rfl,hH,h1,h2,hk,hy,q⟩:=h;cases rx;obtain⟨u,rfl,ru⟩:=rv.one;obtain⟨t,rfl⟩:=ru;obtain⟨z,its,n,r,hl,e⟩:=I.lstM hH;obtain⟨w,hw,rw'⟩:=r.get hy;refine zG F.slot_list_pop ⟨_,e,rfl⟩ F.entry_list_pop (F.args_list_pop_2 _ _)
  (MeetsSeq.list_pop_at l its.toArray n i t k w (JF h1 h2) (by rw[bX,<-hl];exact hk) (by rw[<-Array.getElem?_toList];exact hw) (by rw[bX];lia)) ⟨e,?_⟩
 refine⟨y,_,I.lset (its':=its.eraseIdx k) hH e ?_ (r.eraseIdx k) ?_,rw',q.at⟩
 .show its.toArray.eraseIdxIfInBounds k=(its.eraseIdx k).toArray;rw[IA]
 .have:=uV xs k;lia
def HH (x y:V) (H:Hp) (Q:VK) (l b:Addr) (xs zs:List V):Prop:=x=.ref l/\y=.ref b/\H l=some (.lst xs)/\H b=some (.lst zs)/\xs.length+zs.length<=sizeLine/\fD H (.lst (xs++zs)) Q
def rCat:R2:=λx y H Q=>Exists (Ex4 (HH x y H Q))
theorem dI:OpR X (binaryOp .Add) rCat:=by
 intro pins s Z H x y v u Q I rx ry h;obtain⟨l,b,xs,zs,rfl,rfl,hH,hB,hz,q⟩:=h;cases rx;cases ry;obtain⟨z,its,n,r,hl,e⟩:=I.lstM hH;obtain⟨z2,its2,n2,r2,hl2,e2⟩:=I.lstM hB;refine PySem.P.add_list e e2 ?_ (by rw[bX,bX];lia);have ea:its.toArray++its2.toArray=(its++its2).toArray:=by simp
 rw[ea];exact⟨.ref _,_,I.lnew (t':=s.toks) (r.append r2) (by rw[ar];lia),rfl,q.at I.fresh⟩
end
section
variable {prog:Program}
set_option maxRecDepth 100000 in
end
section
end
end L2
namespace L2
open PySem PySem.Spec PyProof.Rows
section
variable {κ:Type} [DecidableEq κ]
def valV (kvs:List (κ×V)) (k:κ):Option V:=(kvs.find? λkv=>decide (kv.1=k)).map (·.2)
def cP (kvs:List (κ×V)) (k:κ) (v:V):List (κ×V):=
 if (kvs.any λkv=>decide (kv.1=k))=true then kvs.map (λkv=>if kv.1=k then (kv.1,v) else kv) else kvs++[(k,v)]
def i_ (kvs:List (κ×V)) (k:κ):List (κ×V):=kvs.filter λkv=>decide (kv.1≠k)
theorem dN {p:κ×V} {r:List (κ×V)} {k:κ} (e:p.1=k):valV (p::r) k=some p.2:=by simp[valV,m_,e]
theorem dC {p:κ×V} {r:List (κ×V)} {k:κ} (e:¬p.1=k):valV (p::r) k=valV r k:=by simp[valV,m_,e]
theorem js (k:κ):∀kvs:List (κ×V),(kvs.any λkv=>decide (kv.1=k))=(valV kvs k).isSome
 | []=>rfl
 |p::r=>by
  rw[j5];by_cases e:p.1=k
  .simp only[dN e,K4 e,Bool.true_or,Option.isSome_some]
  .rw[dC e,K5 e,Io];exact js k r
theorem vp (k j:κ) (y:V):∀kvs:List (κ×V),valV (kvs.map λkv=>if kv.1=k then (kv.1,y) else kv) j=(valV kvs j).map λx=>if j=k then y else x
 | []=>rfl
 |p::r=>by
  have ih:=vp k j y r;rw[aB];by_cases h:p.1=k
  .rw[K3 h];by_cases e:p.1=j
   .rw[dN (p:=(p.1,y)) e,dN e,hJ,K3 (e.symm.trans h)]
   .rw[dC (p:=(p.1,y)) e,dC e,ih]
  .rw[K2 h];by_cases e:p.1=j
   .rw[dN (p:=p) e,dN e,hJ,K2 (λz=>h (e.trans z))]
   .rw[dC (p:=p) e,dC e,ih]
theorem uF (k j:κ) (y:V):∀kvs:List (κ×V),valV kvs k=none->valV (kvs++[(k,y)]) j=if j=k then some y else valV kvs j
 | [],_=>by
  by_cases e:k=j
  .rw[K3 e.symm];exact dN (p:=(k,y)) e
  .rw[K2 (λz=>e z.symm)];exact dC (p:=(k,y)) e
 |p::r,hn=>by
  rw[eY];have hk:¬p.1=k:=λz=>by rw[dN z] at hn;cases hn
  rw[dC hk] at hn;have ih:=uF k j y r hn;by_cases e:p.1=j
  .rw[dN e,dN e,K2 (λz=>hk (e.trans z))]
  .rw[dC e,dC e,ih]
theorem vo (kvs:List (κ×V)) (k j:κ) (y:V):valV (cP kvs k y) j=if j=k then some y else valV kvs j:=by
 unfold cP;by_cases a:(kvs.any λkv=>decide (kv.1=k))=true
 .rw[K3 a,vp];rw[js] at a;by_cases e:j=k
  .obtain⟨x,hx⟩:=tV.mp a;rw[K3 e,e,hx,hJ,K3 rfl]
  .rw[K2 e];cases valV kvs j with
   |none=>rfl
   |some x=>rw[hJ,K2 e]
 .rw[K2 a];refine uF k j y kvs ?_;rw[js] at a;cases q:valV kvs k with
  |none=>rfl
  |some x=>rw[q] at a;exact (a rfl).elim
theorem kl (kvs:List (κ×V)) (k:κ) (v:V):(cP kvs k v).length<=kvs.length+1:=by
 unfold cP
 split
 .rw[aQ];lia
 .rw[ar,aZ,jf];lia
theorem qD {kvs:List (κ×V)} {k:κ} (v:V) (h:valV kvs k=none):cP kvs k v=kvs++[(k,v)]:=by unfold cP;rw[js,h];exact K2 (by decide)
theorem eW.isSome_eq {o:Option V} {u:Option Value} (r:eW o u):o.isSome=u.isSome:=by
 cases o with
 |none=>cases u with
  |none=>rfl
  |some _=>exact (show False from r).elim
 |some _=>cases u with
  |none=>exact (show False from r).elim
  |some _=>rfl
theorem eW.getD {o:Option V} {u:Option Value} {d:V} {d':Value} (r:eW o u) (rd:aH d d'):aH (o.getD d) (u.getD d'):=by
 cases o with
 |none=>cases u with
  |none=>exact rd
  |some _=>exact (show False from r).elim
 |some _=>cases u with
  |none=>exact (show False from r).elim
  |some _=>exact r
theorem KV.val {kvs:List (κ×V)} {vs:List (κ×Value)} (r:KV kvs vs) (k:κ):eW (valV kvs k) (valueAt vs k):=by
 unfold KV at r;induction r with
 |nil=>exact True.intro
 | @cons p q ps qs h t ih=>
  obtain⟨h1,h2⟩:=h;by_cases e:p.1=k
  .have e':q.1=k:=h1.symm.trans e;have b:valueAt (q::qs) k=some q.2:=by simp[valueAt,m_,e']
   rw[dN e,b];exact h2
  .have e':¬q.1=k:=λz=>e (h1.trans z);have b:valueAt (q::qs) k=valueAt qs k:=by simp[valueAt,m_,e']
   rw[dC e,b];exact ih
theorem KV.any {kvs:List (κ×V)} {vs:List (κ×Value)} (r:KV kvs vs) (k:κ):(kvs.any λkv=>decide (kv.1=k))=vs.any λkv=>decide (kv.1=k):=by
 unfold KV at r;induction r with
 |nil=>rfl
 |cons h t ih=>rw[j5,j5,ih,h.1]
theorem KV.repl {kvs:List (κ×V)} {vs:List (κ×Value)} (r:KV kvs vs) (k:κ) {y:V} {u:Value} (ry:aH y u) :
  KV (kvs.map λkv=>if kv.1=k then (kv.1,y) else kv) (vs.map λkv=>if kv.1=k then (kv.1,u) else kv):=by
 unfold KV at r |-;induction r with
 |nil=>exact .nil
 | @cons p q ps qs h t ih=>
  rw[aB,aB];refine .cons ?_ ih;obtain⟨h1,h2⟩:=h;by_cases e:p.1=k
  .rw[K3 e,K3 (h1.symm.trans e)];exact⟨h1,ry⟩
  .rw[K2 e,K2 (λz=>e (h1.trans z))];exact⟨h1,h2⟩
theorem KV.put {kvs:List (κ×V)} {vs:List (κ×Value)} (r:KV kvs vs) (k:κ) {y:V} {u:Value} (ry:aH y u):KV (cP kvs k y) (stored vs k u):=by
 unfold cP stored;rw[r.any k];by_cases e:(vs.any λkv=>decide (kv.1=k))=true
 .rw[K3 e,K3 e];exact r.repl k ry
 .rw[K2 e,K2 e];exact Jg r ⟨rfl,ry⟩
theorem KV.drop {kvs:List (κ×V)} {vs:List (κ×Value)} (r:KV kvs vs) (k:κ):KV (i_ kvs k) (without vs k):=by
 unfold KV at r |-;unfold i_ without;induction r with
 |nil=>exact .nil
 | @cons p q ps qs h t ih=>
  obtain⟨h1,h2⟩:=h;rw[iC,iC];by_cases e:p.1=k
  .have a:¬decide (p.1≠k)=true:=by simp[e]
   have b:¬decide (q.1≠k)=true:=by simp[h1.symm.trans e]
   rw[K2 a,K2 b];exact ih
  .have e':¬q.1=k:=λz=>e (h1.trans z);have a:decide (p.1≠k)=true:=by simp[e]
   have b:decide (q.1≠k)=true:=by simp[e']
   rw[K3 a,K3 b];exact .cons ⟨h1,h2⟩ ih
theorem KV.length {kvs:List (κ×V)} {vs:List (κ×Value)} (r:KV kvs vs):kvs.length=vs.length:=p_ r
theorem C1 (kvs:List (κ×V)) (k:κ):(i_ kvs k).length<=kvs.length:=iD _ _
end
theorem iy {k:Key} {u:Value} (r:aH (kV k) u):(dH P w).is k u=true:=by
 cases k with
 |inl i=>obtain⟨t,e⟩:=(show ∃t,u=Value.int i t from r);subst e;exact Av P w i t
 |inr x=>obtain⟨t,e⟩:=(show ∃t,u=Value.str x t from r);subst e;exact Au P w x t
theorem uX:∀{ks:List Key} {us:List Value},Vals (ks.map kV) us->ItemsAre (dH P w) ks us
 | [],_,r=>by rw[eO] at r;cases r;exact .nil
 |k::ks,_,r=>by
  rw[aB] at r;cases r with
  |cons h t=>exact .cons (iy h) (uX t)
abbrev KT (H:Hp):List (List Key×V)->List (List Key×Addr×Value)->Prop:=Paired λp q=>p.1=q.1/\H q.2.1=some (.tup (p.1.map kV))/\aH p.2 q.2.2
theorem KT.val {kvs:List (List Key×V)} {xs:List (List Key×Addr×Value)} (r:KT H kvs xs) (k:List Key):eW (valV kvs k) ((atKey xs k).map (·.2)):=by
 induction r with
 |nil=>exact True.intro
 | @cons p q ps qs h t ih=>
  obtain⟨h1,_,h2⟩:=h;by_cases e:p.1=k
  .have e':q.1=k:=h1.symm.trans e;have b:atKey (q::qs) k=some q.2:=by simp[atKey,m_,e']
   rw[dN e,b];exact h2
  .have e':¬q.1=k:=λz=>e (h1.trans z);have b:atKey (q::qs) k=atKey qs k:=by simp[atKey,m_,e']
   rw[dC e,b];exact ih
theorem KT.repl {kvs:List (List Key×V)} {xs:List (List Key×Addr×Value)} (r:KT H kvs xs) (k:List Key) {y:V} {u:Value} (ry:aH y u) :
  KT H (kvs.map λkv=>if kv.1=k then (kv.1,y) else kv) (xs.map (putAt k u)):=by
 induction r with
 |nil=>exact .nil
 | @cons p q ps qs h t ih=>
  rw[aB,aB];refine .cons ?_ ih;obtain⟨h1,h2,h3⟩:=h;unfold putAt;by_cases e:p.1=k
  .rw[K3 e,K3 (h1.symm.trans e)];exact⟨h1,h2,ry⟩
  .rw[K2 e,K2 (λz=>e (h1.trans z))];exact⟨h1,h2,h3⟩
theorem KT.put {kvs:List (List Key×V)} {xs:List (List Key×Addr×Value)} (r:KT H kvs xs) (k:List Key) {b:Addr} {y:V} {u:Value} (hb:H b=some (.tup (k.map kV))) (ry:aH y u) :
  KT H (cP kvs k y) (storedH xs k b u):=by
 have e:(kvs.any λkv=>decide (kv.1=k))=(atKey xs k).isSome:=by rw[js,(r.val k).isSome_eq,zu]
 unfold cP storedH;rw[e];by_cases q:(atKey xs k).isSome=true
 .rw[K3 q,K3 q];exact r.repl k ry
 .rw[K2 q,K2 q];exact Jg r ⟨rfl,hb,ry⟩
theorem KT.keeps {kvs:List (List Key×V)} {xs:List (List Key×Addr×Value)} (r:KT H kvs xs) (ht:∀b ys,H b=some (.tup ys)->H' b=some (.tup ys)):KT H' kvs xs:=
 Paired.mapP r λ_ _ z=>⟨z.1,ht _ _ z.2.1,z.2.2⟩
section
variable {h:Heap} {a:Addr}
theorem x_ {u:HO} (ok:HOk P w H h) (e:Rd H a u):cL P w H h a u:=e.ok ok
theorem gA {kvs:List (Key×V)} (ok:HOk P w H h) (e:Rd H a (.dK kvs)):kvs.length<=sizeLine/\(a==sysModules)=false/\∃vs,KV kvs vs/\h.DictOf (dH P w) a vs:=
 show cL P w H h a (.dK kvs) from x_ ok e
theorem o_ {kvs:List (Key×V)} (ok:HOk P w H h) (e:H a=some (.dK kvs)):kvs.length<=sizeLine/\(a==sysModules)=false/\∃vs,KV kvs vs/\h.DictOf (dH P w) a vs:=gA ok (.inl e)
theorem jP {ks:List Key} (ok:HOk P w H h) (e:H a=some (.tup (ks.map kV))):(tupleKind (dH P w)).is h ks a:=by obtain⟨_,its,r,o,h1,h2,n,h3⟩:=(show cL P w H h a (.tup (ks.map kV)) from ok a _ e);exact⟨o,its.toArray,n,h1,h2,h3,by simpa using uX r⟩
theorem iz {kvs:List (List Key×V)} (ok:HOk P w H h) (e:Rd H a (.dT kvs)):kvs.length<=sizeLine/\(a==sysModules)=false/\
  ∃xs,KT H kvs xs/\h.DictOfH (tupleKind (dH P w)) a xs:=by
 obtain⟨z,y,xs,r,o,es,ep,h1,h2,h3,h4,h5⟩:=(show cL P w H h a (.dT kvs) from x_ ok e);refine⟨z,y,xs,r,o,es,ep,h1,h2,h3,h4,λx hx=>?_,h5⟩;have all:∀{l:List (List Key×V)} {m:List (List Key×Addr×Value)},KT H l m->∀x∈m,(tupleKind (dH P w)).is h x.1 x.2.1:=by
  intro l m q;induction q with
  |nil=>intro x hx;exact nomatch hx
  | @cons p q ps qs hq t ih=>
   intro x hx;rcases af.mp hx with e|hx
   .subst e;exact jP ok (by rw[<-hq.1];exact hq.2.1)
   .exact ih x hx
 exact all r x hx
theorem yu {kvs:List (List Key×V)} (ok:HOk P w H h) (e:H a=some (.dT kvs)):kvs.length<=sizeLine/\(a==sysModules)=false/\
  ∃xs,KT H kvs xs/\h.DictOfH (tupleKind (dH P w)) a xs:=iz ok (.inl e)
end
def DGet (H:Hp) (a:Addr) (y:V) (r:Option V):Prop:=
 (∃kvs k,Rd H a (.dK kvs)/\y=kV k/\r=valV kvs k)\/∃kvs k b,Rd H a (.dT kvs)/\y=.ref b/\H b=some (.tup (k.map kV))/\r=valV kvs k
def DPut (H:Hp) (a:Addr) (y v:V) (H':Hp):Prop:=
 (∃kvs k,H a=some (.dK kvs)/\y=kV k/\kvs.length<sizeLine/\H'=upd H a (.dK (cP kvs k v))) \/
 ∃kvs k b,H a=some (.dT kvs)/\y=.ref b/\H b=some (.tup (k.map kV))/\kvs.length<sizeLine/\H'=upd H a (.dT (cP kvs k v))
theorem DGet.t {a b:Addr} {kvs:List (List Key×V)} {k:List Key} (e:H a=some (.dT kvs)) (eb:H b=some (.tup (k.map kV))):DGet H a (.ref b) (valV kvs k):=.inr ⟨kvs,k,b,.inl e,rfl,eb,rfl⟩
theorem DPut.k {a:Addr} {kvs:List (Key×V)} {k:Key} {v:V} (e:H a=some (.dK kvs)) (hl:kvs.length<sizeLine):DPut H a (kV k) v (upd H a (.dK (cP kvs k v))):=.inl ⟨kvs,k,e,rfl,hl,rfl⟩
theorem DPut.t {a b:Addr} {kvs:List (List Key×V)} {k:List Key} {v:V} (e:H a=some (.dT kvs)) (eb:H b=some (.tup (k.map kV))) (hl:kvs.length<sizeLine) :
  DPut H a (.ref b) v (upd H a (.dT (cP kvs k v))):=.inr ⟨kvs,k,b,e,rfl,eb,hl,rfl⟩
section
variable {a:Addr} {y v:V} {u r:Value} {o:Option V}
theorem Inv.big (I:Inv X pins Z H s):sysModules<s.heap.objs.size:=by have h:mainGlobals<s.heap.objs.size:=(I.mod.glob.keeps I.bk).lt;exact zm (by decide) h
theorem BB {Q:Value->Shared->Prop} (hu:A.units+1<cLine) (I:Inv X pins Z H s) (g:DGet H a y (some v)) (ry:aH y u) (h:∀w' s',Inv X pins Z H s'->aH v w'->Q w' s') :
  wpAny (model X.prog X.w) A (getItem (.ref a) u) Q E s:=by
 rcases g with ⟨kvs,k,e,ey,l⟩|⟨kvs,k,b,e,ey,eb,l⟩
 .subst ey;obtain⟨z,hd,vs,rel,dd⟩:=gA I.hok e;obtain⟨w',hw,rw'⟩:=eW.some_of (v:=v) (o:=valueAt vs k) (by rw[l];exact rel.val k);exact wpAny_getItem_of (iy ry) dd.mapOf hw (h w' _ (I.tok _) rw')
 .subst ey;cases (show u=Value.ref b from ry);obtain⟨z,hd,xs,rel,dd⟩:=iz I.hok e;obtain⟨w',hw,rw'⟩:=eW.some_of (v:=v) (o:=(atKey xs k).map (·.2)) (by rw[l];exact rel.val k);obtain⟨p,hp,hp2⟩:=fJ.mp hw;refine wpAny_getItem_heap (qc hu) (jP I.hok eb) dd hp ?_;rw[hp2];exact h w' _ (I.tok _) rw'
theorem d_in {Q:Value->Shared->Prop} (hu:A.units+1<cLine) (I:Inv X pins Z H s) (g:DGet H a y o) (ry:aH y u) (h:∀s',Inv X pins Z H s'->Q (.bool o.isSome) s') :
  wpAny (model X.prog X.w) A (compareOp .In u (.ref a)) Q E s:=by
 rcases g with ⟨kvs,k,e,ey,l⟩|⟨kvs,k,b,e,ey,eb,l⟩
 .subst ey;obtain⟨z,hd,vs,rel,dd⟩:=gA I.hok e;refine wpAny_in_of (iy ry) hd dd.mapOf ?_;rw[<-(rel.val k).isSome_eq,<-l];exact h _ (I.tok _)
 .subst ey;cases (show u=Value.ref b from ry);obtain⟨z,hd,xs,rel,dd⟩:=iz I.hok e;refine wpAny_in_heap (qc hu) (jP I.hok eb) hd dd ?_;have q:=(rel.val k).isSome_eq;rw[zu] at q;rw[<-q,<-l];exact h _ (I.tok _)
theorem El {Q:Value->Shared->Prop} (hu:A.units+1<cLine) (I:Inv X pins Z H s) (g:DGet H a y o) (ry:aH y u) (h:∀s',Inv X pins Z H s'->Q (.bool (!o.isSome)) s') :
  wpAny (model X.prog X.w) A (compareOp .NotIn u (.ref a)) Q E s:=by
 rcases g with ⟨kvs,k,e,ey,l⟩|⟨kvs,k,b,e,ey,eb,l⟩
 .subst ey;obtain⟨z,hd,vs,rel,dd⟩:=gA I.hok e;refine wpAny_notIn_of (iy ry) hd dd.mapOf ?_;rw[<-(rel.val k).isSome_eq,<-l];exact h _ (I.tok _)
 .subst ey;cases (show u=Value.ref b from ry);obtain⟨z,hd,xs,rel,dd⟩:=iz I.hok e;refine wpAny_notIn_heap (qc hu) (jP I.hok eb) hd dd ?_;have q:=(rel.val k).isSome_eq;rw[zu] at q;rw[<-q,<-l];exact h _ (I.tok _)
theorem oC {h':Heap} {t':Nat} {ob:HO} (I:Inv X pins Z H s) (mu:Mut (H a)) (hs:Heap.SameBut a s.heap h') (he:∃q,h'.get? a=some q) (new:cL X.prog X.w (upd H a ob) h' a ob) :
  Inv X pins Z (upd H a ob) {s with heap:=h',toks:=t'}:=
 I.write (x:=a) (e:=a) mu (.inl rfl) (λb q hb z=>(hs.2 b hb).trans z) he new
theorem rR {H':Hp} {h':Heap} {kvs:List (Key×V)} {vs:List (Key×Value)} (z:kvs.length<=sizeLine) (hd:(a==sysModules)=false) (rel:KV kvs vs) (dd:h'.DictOf (dH P w) a vs) :
  cL P w H' h' a (.dK kvs):=⟨z,hd,vs,rel,dd⟩
theorem BA {H':Hp} {Q:Unit->Shared->Prop} (hu:A.units+1<cLine) (I:Inv X pins Z H s) (g:DPut H a y v H') (ry:aH y u) (rv:aH v r) (h:∀s',Inv X pins Z H' s'->Q () s') :
  wpAny (model X.prog X.w) A (setItem (.ref a) u r) Q E s:=by
 rcases g with ⟨kvs,k,e,ey,l,eH⟩|⟨kvs,k,b,e,ey,eb,l,eH⟩
 .subst ey eH;obtain⟨z,hd,vs,rel,dd⟩:=o_ I.hok e;have hz:vs.length<=sizeLine:=by rw[<-rel.length];exact z
  have hl:(cP kvs k v).length<=sizeLine:=by have:=kl kvs k v;lia
  refine wpAny_setItem_pairs (hsz:=hz) (iy ry) dd λh' dd' hs=>h _ ?_;have he:∃q,h'.get? a=some q:=let ⟨q,_,_,hq,_⟩:=dd';⟨q,hq⟩;exact oC I (by rw[e];exact True.intro) hs he (rR hl hd (rel.put k rv) dd')
 .subst ey eH;cases (show u=Value.ref b from ry);obtain⟨z,hd,xs,rel,dd⟩:=yu I.hok e;have hz:xs.length<=sizeLine:=by rw[<-p_ rel];exact z
  have hl:(cP kvs k v).length<=sizeLine:=by have:=kl kvs k v;lia
  refine wpAny_setItem_heap (hsz:=hz) (qc hu) (jP I.hok eb) dd λh' dd' hs=>h _ ?_;obtain⟨q,es,ep,hq,h2,h3,h4,_,h5⟩:=dd';refine oC I (by rw[e];exact True.intro) hs ⟨q,hq⟩ ⟨hl,hd,_,(rel.put k eb rv).keeps λc ys ec=>?_,q,es,ep,hq,h2,h3,h4,h5⟩;rw[bz (bM ec e (λz=>nomatch z))];exact ec
end
section
variable {a:Addr} {kvs:List (Key×V)} {k:Key} {u:Value}
theorem Ii {v:V} {more:List Value} {Q:Value->Shared->Prop} (I:Inv X pins Z H s) (e:H a=some (.dK kvs)) (ry:aH (kV k) u) (l:valV kvs k=some v) (hm:more=[]\/∃x,more=[x])
  (h:∀w' s',Inv X pins Z (upd H a (.dK (i_ kvs k))) s'->aH v w'->Q w' s'):wpAny (model X.prog X.w) A (call (.builtin "dict.pop") (.ref a::u::more)) Q E s:=by
 obtain⟨z,hd,vs,rel,dd⟩:=o_ I.hok e;obtain⟨w',hw,rw'⟩:=eW.some_of (v:=v) (o:=valueAt vs k) (by rw[<-l];exact rel.val k);have hp:(keyPart u).isSome=true:=by
  cases k with
  |inl i=>obtain⟨t,q⟩:=(show ∃t,u=Value.int i t from ry);subst q;rfl
  |inr x=>obtain⟨t,q⟩:=(show ∃t,u=Value.str x t from ry);subst q;rfl
 have ha:argsOk "dict.pop" ⟨.ref a::u::more,[]⟩:=by
  rcases hm with q|⟨x,q⟩
  .subst q;exact PySem.F.args_dict_pop_2 _ _
  .subst q;exact PySem.F.args_dict_pop_3 _ _ _
 refine zH Jq dd.typeIs PySem.F.entry_dict_pop ha (meets_dict_pop_there (dH X.prog X.w) a (iy ry) more hm hp)
  ⟨vs,w',dd,by rw[<-rel.length];exact z,hw,λh' dd' hs=>h w' _ ?_ rw'⟩
 have he:∃q,h'.get? a=some q:=let ⟨q,_,_,hq,_⟩:=dd';⟨q,hq⟩;exact oC I (by rw[e];exact True.intro) hs he (rR (bV (C1 kvs k) z) hd (rel.drop k) dd')
end
def NoSl (i:Expr):Prop:=∀ov iv,subscripted i false ov iv=operate [ov,iv] (getItem ov iv)
theorem Ds {prog:Program} {env:Env} {value slice:Expr} {pos:Pos} {T id:String} {Q:Value->Shared->Prop}
  (hl:typeLookup (.type T) "__getitem__" = pure (some (.builtin id))) (hs:NoSl slice)
  (h:wpAny (model prog w) A (eval value env) (λo s₁=>wpAny (model prog w) A (eval slice env) (λi s₂=>s₂.TypeIs o T/\wpAny (model prog w) A (getItem o i) Q E s₂) E s₁) E s) :
  wpAny (model prog w) A (eval (.Subscript value slice pos) env) Q E s:=by
 refine tZ (fe h (λo s₁ h₁=>fe h₁ (λi s₂ h₂=>?_) λ_ _ x=>x) λ_ _ x=>x);obtain⟨hT,h₂⟩:=h₂;unfold subscriptTail;refine ao ?_;rw[getitemInPython_of_ne hT.not_modules];refine ao (JY hT hl ?_);have fin:wpAny (model prog w) A (subscripted slice false o i) (λr s₃=>wpAny (model prog w) A (letTemporaryGo value o r >>= λ_=>pure r) Q E s₃) E s₂:=by rw[hs o i];exact wpAny_operating (fe h₂ (λr s₃ h₃=>ao (wpAny_letTemporaryGo (aO h₃))) λ_ _ x=>x)
 first
  |exact aO (ao fin)
  |exact ao (aO (ao fin))
  |exact ao fin
theorem Az {a:Addr} {y:V} {o:Option V} (I:Inv X pins Z H s) (g:DGet H a y o):s.TypeIs (.ref a) "dict":=by
 rcases g with ⟨kvs,k,e,_,_⟩|⟨kvs,k,b,e,_,_,_⟩
 .obtain⟨_,_,vs,_,dd⟩:=gA I.hok e;exact dd.typeIs
 .obtain⟨_,_,xs,_,dd⟩:=iz I.hok e;exact dd.typeIs
def ER (x y:V) (H2:Hp) (Q:VK) (a:Addr) (v:V):Prop:=x=.ref a/\DGet H2 a y (some v)/\Q v H2
def Dq (x:V) (Q:VK):VK:=λy H2=>Exists (Ex2 (ER x y H2 Q))
def EO (ty:TE) (Z:St) (Q:VK):VK:=λx H1=>ty Z H1 (Dq x Q)
def GV (td ty:TE):TE:=λZ H Q=>td Z H (EO ty Z Q)
def GK (x y:V) (H2:Hp) (Q:VK) (a:Addr) (o:Option V):Prop:=x=.ref a/\DGet H2 a y o/\Q (.bl o.isSome) H2
def GN (y:V) (Q:VK):VK:=λx H2=>Exists (Ex2 (GK x y H2 Q))
def GQ (td:TE) (Z:St) (Q:VK):VK:=λy H1=>td Z H1 (GN y Q)
def tDIn (ty td:TE):TE:=λZ H Q=>ty Z H (GQ td Z Q)
def BQ (x y:V) (H2:Hp) (Q:VK) (a:Addr) (o:Option V):Prop:=x=.ref a/\DGet H2 a y o/\Q (.bl (!o.isSome)) H2
def BR (y:V) (Q:VK):VK:=λx H2=>Exists (Ex2 (BQ x y H2 Q))
def BS (td:TE) (Z:St) (Q:VK):VK:=λy H1=>td Z H1 (BR y Q)
def Dp (ty td:TE):TE:=λZ H Q=>ty Z H (BS td Z Q)
def E8 (D:Ends) (Z:St) (v x y:V) (H3:Hp) (a:Addr) (H4:Hp):Prop:=x=.ref a/\DPut H3 a y v H4/\D.nx Z H4
def E9 (D:Ends) (Z:St) (v x:V):VK:=λy H3=>Exists (Ex2 (E8 D Z v x y H3))
def E_ (ty:TE) (D:Ends) (Z:St) (v:V):VK:=λx H2=>ty Z H2 (E9 D Z v x)
def Fb (td ty:TE) (D:Ends) (Z:St):VK:=λv H1=>td Z H1 (E_ ty D Z v)
def Hk (td ty tv:TE):TS:=λD Z H=>tv Z H (Fb td ty D Z)
section
variable {o i e value:Expr} {pos pos' tpos:Pos} {td ty tv:TE}
theorem gN (hu:X.A.units+1<cLine) (ho:PE X o td) (hi:PE X i ty) (hs:NoSl i):PE X (.Subscript o i pos) (GV td ty):=by intro pins s Z H Q I h;refine Ds PySem.F.slot_dict_getitem.lookup hs (thn (ho pins s Z H _ I h) λu s1 ⟨x,H1,I1,rx,q1⟩=>thn (hi pins s1 Z H1 _ I1 q1) λiv s2 ⟨y,H2,I2,ry,a,v,ex,g,q2⟩=>?_);subst ex;obtain rfl:u=Value.ref a:=rx;exact⟨Az I2 g,BB hu I2 g ry λw' s3 I3 rw'=>⟨v,H2,I3,rw',q2⟩⟩
theorem mn (hu:X.A.units+1<cLine) (hi:PE X i ty) (ho:PE X o td):PC X .In i o (tDIn ty td):=by intro pins s Z H Q I h;refine thn (hi pins s Z H _ I h) λiv s1 ⟨y,H1,I1,ry,q1⟩=>thn (ho pins s1 Z H1 _ I1 q1) λu s2 ⟨x,H2,I2,rx,a,ov,ex,g,q2⟩=>?_;subst ex;obtain rfl:u=Value.ref a:=rx;exact d_in hu I2 g ry λs3 I3=>⟨.bl ov.isSome,H2,I3,rfl,q2⟩
theorem qm (hu:X.A.units+1<cLine) (hi:PE X i ty) (ho:PE X o td):PC X .NotIn i o (Dp ty td):=by intro pins s Z H Q I h;refine thn (hi pins s Z H _ I h) λiv s1 ⟨y,H1,I1,ry,q1⟩=>thn (ho pins s1 Z H1 _ I1 q1) λu s2 ⟨x,H2,I2,rx,a,ov,ex,g,q2⟩=>?_;subst ex;obtain rfl:u=Value.ref a:=rx;exact El hu I2 g ry λs3 I3=>⟨.bl (!ov.isSome),H2,I3,rfl,q2⟩
theorem lL (hu:X.A.units+1<cLine) (ho:PE X o td) (hi:PE X i ty) (hv:PE X value tv) (hs:swapsWith value (some (.Subscript o i pos')) pos.line X.env=pure false) :
  PS X (.Assign [.Subscript o i pos'] value pos) (Hk td ty tv):=by
 intro pins s Z H D I h;refine wpAny_Assign_Subscript (thn (hv pins s Z H _ I h) λr s1 ⟨v,H1,I1,rv,q1⟩=>thn (ho pins s1 Z H1 _ I1 q1) λu s2 ⟨x,H2,I2,rx,q2⟩=>thn (hi pins s2 Z H2 _ I2 q2) λiv s3 ⟨y,H3,I3,ry,a,H4,ex,g,q3⟩=>?_) hs;subst ex;obtain rfl:u=Value.ref a:=rx;exact BA hu I3 g ry rv λs4 I4=>⟨Z,H4,I4,q3⟩
end
theorem vT (h:Heap) (hb:sysModules<h.objs.size):cL P w H (h.push {cls:=.type "dict",data:=.dict #[]}) h.objs.size (.dK []):=
 ⟨aT _,beq_eq_false_iff_ne.mpr (aF (cC hb)),[],.nil,JZ h⟩
theorem CZ (h:Heap) (hb:sysModules<h.objs.size):cL P w H (h.push {cls:=.type "dict",data:=.dict #[]}) h.objs.size (.dT []):=
 ⟨aT _,beq_eq_false_iff_ne.mpr (aF (cC hb)),[],.nil,_,#[],0,cQ _ rfl,⟨rfl,rfl,rfl⟩,rfl,rfl,j7⟩
def EN:TE:=λ_ H Q=>fD H (.dK []) Q
def EM:TE:=λ_ H Q=>fD H (.dT []) Q
section
variable {pos:Pos}
theorem vB:PE X (.Dict [] [] pos) EN:=λpins s Z H Q I h=>
 JN ⟨.ref s.heap.objs.size,_,I.laid (a:=s.heap.objs.size) (o:=.dK []) (t':=s.toks) (λ_ _ q=>bP _ q) (aC _) (vT s.heap I.big),rfl,fD.at h (I.hok.fresh (aC _))⟩
theorem vA:PE X (.Dict [] [] pos) EM:=λpins s Z H Q I h=>
 JN ⟨.ref s.heap.objs.size,_,I.laid (a:=s.heap.objs.size) (o:=.dT []) (t':=s.toks) (λ_ _ q=>bP _ q) (aC _) (CZ s.heap I.big),rfl,fD.at h (I.hok.fresh (aC _))⟩
end
structure M1 (X:Cx) (o:Expr) (m:Str) (apos:Pos) (e:Expr) (cpos:Pos):Prop where
 base:attributeBase o m X.env (eval o X.env)=eval o X.env
 few:((backTo cpos (starEach [e] X.env)).all (λx=>!x.1)&&(backToKw cpos (keywordEach [] X.env)).all (λx=>x.1.isSome)
  && decide (([e]:List Expr).length+([]:List Keyword).length+(if ([]:List Keyword).isEmpty then 0 else 1)<30))=true
 line:(apos.endLine==cpos.line)=true
 trees:backTo cpos (starEach [e] X.env)=[(false,eval e X.env)]
def IsD (H:Hp) (a:Addr):Prop:=(∃kvs,Rd H a (.dK kvs))\/∃kvs,Rd H a (.dT kvs)
theorem xK {a:Addr} (I:Inv X pins Z H s) (d:IsD H a) :
  s.TypeIs (.ref a) "dict"/\(∀b,Value.ref a=.ref b->∃ob,s.heap.get? b=some ob/\ob.dict=none)/\(a==sysModules)=false:=by
 rcases d with ⟨kvs,e⟩|⟨kvs,e⟩
 .obtain⟨_,hd,vs,_,dd⟩:=gA I.hok e;refine⟨dd.typeIs,λb q=>?_,hd⟩;cases q;obtain⟨ob,_,_,h1,h2,_⟩:=dd;exact⟨ob,h1,h2.2.1⟩
 .obtain⟨_,hd,xs,_,dd⟩:=iz I.hok e;refine⟨dd.typeIs,λb q=>?_,hd⟩;cases q;obtain⟨ob,_,_,h1,h2,_⟩:=dd;exact⟨ob,h1,h2.2.1⟩
section
variable {a:Addr} {y d:V} {u r:Value} {o:Option V}
theorem Gb {Q:Value->Shared->Prop} (hu:A.units+1<cLine) (I:Inv X pins Z H s) (g:DGet H a y o) (ry:aH y u) (h:∀w' s',Inv X pins Z H s'->aH (o.getD .non) w'->Q w' s') :
  wpAny (model X.prog X.w) A (call (.builtin "dict.get") [.ref a,u]) Q E s:=by
 rcases g with ⟨kvs,k,e,ey,l⟩|⟨kvs,k,b,e,ey,eb,l⟩
 .subst ey;obtain⟨z,hd,vs,rel,dd⟩:=gA I.hok e;refine zH zE dd.typeIs Jl (Ji _ _) (meets_dict_get (dH X.prog X.w) a (iy ry) hd) ⟨_,dd.mapOf,h _ _ (I.tok _) ?_⟩;rw[l];exact (rel.val k).getD rfl
 .subst ey;cases (show u=Value.ref b from ry);obtain⟨z,hd,xs,rel,dd⟩:=iz I.hok e;refine zH zE dd.typeIs Jl (Ji _ _) (meetsH_dict_get (tupleKind (dH X.prog X.w)) a b hd) ⟨qc hu,k,xs,jP I.hok eb,dd,h _ _ (I.tok _) ?_⟩;rw[l];exact (rel.val k).getD rfl
end
def GZ (a:Addr) (Q:VK) (y:V) (H2:Hp) (o:Option V):Prop:=DGet H2 a y o/\Q (o.getD .non) H2
def GX (a:Addr) (Q:VK):VK:=λy H2=>Exists (GZ a Q y H2)
def G0 (ty:TE) (Z:St) (Q:VK) (x:V) (H1:Hp) (a:Addr):Prop:=x=.ref a/\IsD H1 a/\ty Z H1 (GX a Q)
def GY (ty:TE) (Z:St) (Q:VK):VK:=λx H1=>Exists (G0 ty Z Q x H1)
def ES (td ty:TE):TE:=λZ H Q=>td Z H (GY ty Z Q)
def GH (a:Addr) (Q:VK) (y:V) (H2:Hp) (kvs:List (Key×V)) (k:Key) (v:V):Prop:=H2 a=some (.dK kvs)/\y=kV k/\valV kvs k=some v/\WrO H2 a (.dK (i_ kvs k)) (Q v)
def Gz (a:Addr) (Q:VK):VK:=λy H2=>Exists (Ex3 (GH a Q y H2))
def GJ (ty:TE) (Z:St) (Q:VK) (x:V) (H1:Hp) (a:Addr):Prop:=x=.ref a/\IsD H1 a/\ty Z H1 (Gz a Q)
def GE (ty:TE) (Z:St) (Q:VK):VK:=λx H1=>Exists (GJ ty Z Q x H1)
def EL (td ty:TE):TE:=λZ H Q=>td Z H (GE ty Z Q)
section
variable {o e f:Expr} {apos cpos:Pos} {td ty tx:TE}
theorem Ck (hu:X.A.units+1<cLine) (ho:PE X o td) (he:PE X e ty) (m:M1 X o "get" apos e cpos):PE X (.Call (.Attribute o "get" apos) [e] [] cpos) (ES td ty):=by intro pins s Z H Q I h;refine JK m.base m.few m.line Jo zE PySem.F.type_dict_get (thn (ho pins s Z H _ I h) λu s1 ⟨x,H1,I1,rx,a,ex,d,q1⟩=>?_);subst ex;obtain rfl:u=Value.ref a:=rx;obtain⟨t1,t2,_⟩:=xK I1 d;refine⟨t1,t2,?_⟩;rw[m.trees];refine pA rfl (sV (sW (thn (he pins s1 Z H1 _ I1 q1) λiv s2 ⟨y,H2,I2,ry,ov,g,q2⟩=>sX ?_)));exact Gb hu I2 g ry λw' s3 I3 rw'=>⟨_,H2,I3,rw',q2⟩
theorem Cj (ho:PE X o td) (he:PE X e ty) (m:M1 X o "pop" apos e cpos):PE X (.Call (.Attribute o "pop" apos) [e] [] cpos) (EL td ty):=by intro pins s Z H Q I h;refine JK m.base m.few m.line Jo Jq PySem.F.type_dict_pop (thn (ho pins s Z H _ I h) λu s1 ⟨x,H1,I1,rx,a,ex,d,q1⟩=>?_);subst ex;obtain rfl:u=Value.ref a:=rx;obtain⟨t1,t2,_⟩:=xK I1 d;refine⟨t1,t2,?_⟩;rw[m.trees];refine pA rfl (sV (sW (thn (he pins s1 Z H1 _ I1 q1) λiv s2 ⟨y,H2,I2,ry,kvs,k,v,ea,ey,l,q2⟩=>sX ?_)));subst ey;exact Ii I2 ea ry l (.inl rfl) λw' s3 I3 rw'=>⟨v,_,I3,rw',WrO.at q2⟩
end
section
variable {a:Addr} {kvs:List (Key×V)}
end
section
variable {a:Addr} {y:V} {u:Value}
end
end L2
namespace Att
open PySem PySem.W PySem.Calls PyProof.Rows
theorem z_ {P:Params} {h:Heap}:∀(ns:List Int) (vs:List Value),WellAll P h vs (ns.map WData.int)->IntsAre vs ns:=by
 intro ns;induction ns with
 |nil=>
  intro vs w;rw[eO] at w;cases w;exact .nil
 |cons n ns ih=>
  intro vs w;rw[aB] at w;cases w with
  |cons a b=>
   cases a;exact .cons _ _ (ih _ b)
theorem Bh {l:OpenLaw} {n:Nat} (hn:l.most=some n) {P:Params} {h:Heap} {args:List WData} {vals:List Value}
  (hpre:l.row.toRowW.claim.pre args=true) (hwl:WellAll P h vals args) :
  ∃a vs ns,vals=[Value.ref a]/\args=[WData.list (ns.map WData.int)]/\h.get? a=some {cls:=.type "list",data:=.seq vs.toArray}/\IntsAre vs ns/\ns.length<=n:=by
 have hsh:WShape.hasAll [] args [.list .int]=true:=(pre_splitW hpre).1;have hc:l.pre.holds [] {args:=args}=true:=(pre_splitW hpre).2;obtain⟨d,r,rfl,h1,h2⟩:=hasAllW_cons hsh;obtain rfl:=hasAllW_nil h2;obtain⟨xs,rfl,h3⟩:=hasW_list h1;obtain⟨ns,rfl⟩:=items_int h3;have hlen:ns.length<=n:=by
  unfold OpenLaw.pre at hc;have h4:(WTm.not (.lt (.lit (.int (n:Int))) (.len (.arg 0)))).holds [] {args:=[.list (ns.map .int)]}=true:=by have h4:=(holds_andW hc).1;rw[hn] at h4;exact h4
  have h5:=condW_of h4 (w_not (w_lt w_lit (w_len_list (w_arg rfl))));rw[aQ] at h5;refine zi λq=>?_;have q':(n:Int)<((ns.length:Nat):Int):=by lia
  first
   |(rw[K4 q'] at h5;exact absurd h5 (by decide))
   |(simp at h5;lia)
 cases hwl with
 |cons w1 w2=>
  cases w2;cases w1 with
  |list ho hall=>exact⟨_,_,ns,rfl,rfl,ho,z_ ns _ hall,hlen⟩
theorem Bk (l:OpenLaw) (args:List WData):l.row.toRowW.claim.post args (.bool true) args=true:=
 postW_of (r:=l.row.toRowW) (X:=(true==true))
  (show WShape.has [] (.bool true) .bool=true by first|rfl|decide|simp[WShape.has,WShape.arms,WShape.armsAll])
  (show (WTm.eq .res (.lit (.bool true))).value [] {args:=args,res:=some (.bool true),after:=args}=some (.bool (true==true)) from w_eq_bool (w_res rfl) w_lit) rfl
theorem attach_call {l:OpenLaw} {n:Nat} {q:Program} {loose:List Str} {XP:(Str->Option Value)->Heap->Prop} {YP:World->Heap->Prop} {d:DefRec}
  (hn:l.most=some n) (hdf:d.params.defaults=[])
  (call:∀(w:World) (s₀ s₁:Shared) (mg mb:Str->Option Value) (fa:Addr) (o:Obj) (pm cd doc:Value) (a:Addr) (vs:List Value) (ns:List Int),
   Ground q loose [] XP w s₀ mg mb s₁.heap->YP w s₁.heap->
   s₁.heap.get? fa=some o->o.data=.func (docDef d.name d.params d.body d.scope pm cd doc)->s₁.heap.CodeRec cd d.name->mg d.name=some (.ref fa)->
   s₁.heap.get? a=some {cls:=.type "list",data:=.seq vs.toArray}->IntsAre vs ns->ns.length<=n->s₁.gens=#[]->
   codeAny (model l.prog w) callerA (.call (.ref fa) ⟨[.ref a],[]⟩) (λr s'=>r=.ok (.ret (.bool true))/\OldK s₁.heap s'.heap/\s'.os=s₁.os/\AllBare s'.gens) s₁) :
  WalkO q loose XP YP l.row.toRowW d [] (λf vs=>PySem.call f vs):=by
 intro w s₀ s₁ mg mb G Y fa o pm cd doc dV kV ho hd hcd hD hmg hg args vals as hpre hlay hrd hwl hlo;obtain rfl:dV=.none:=Dflts.none hD hdf;obtain rfl:kV=.none:=Dflts.noKw hD;obtain⟨a,vs,ns,rfl,rfl,hobj,hints,hlen⟩:=Bh hn hpre hwl;refine enter_call (zI (call w s₀ s₁ mg mb fa o pm cd doc a vs ns G Y ho (fd_plain hd) hcd hmg hobj hints hlen hg) λr s' hq=>?_);obtain⟨rfl,h2,h3,h4⟩:=hq;exact⟨.inl ⟨.bool true,.bool true,[],rfl,λ_=>rfl,.bool true,Bk l _,λ_=>⟨List.Pairwise.nil,λ_ hm=>(nomatch hm)⟩⟩,h2,h3,h4⟩
section
variable {prog:Program} {K:Frag}
end
end Att
namespace L2
open PySem PySem.Spec PyProof.Rows
theorem uE:∀{vs:List Value} {ns:List Int},IntsAre vs ns->Vals (ns.map V.int) vs
 |_,_,.nil=>.nil
 |_,_,.cons n t h=>.cons ⟨t,rfl⟩ (uE h)
def Only (H:Hp):Prop:=∀b,H b=none\/∃o xs,H b=some (.frz o (.lst xs))
theorem CN {P:Program} {w:World} {mg mb:Str->Option Value} {CX:CXT} {k:Nat} {fa a:Addr} {fd:FuncData} {x:Str} {sp:Sp} {s₁:Shared} {vs:List Value} {ns:List Int}
  (KX:K.In s₁.heap) (hns:s₁.heap.Ns mainGlobals mg) (hb:s₁.heap.Ns builtinsNs mb) (hbb:∀x:Str,x≠"__name__"->mb x=bootBuiltins x) (hlim:s₁.heap.NoLimit) (hg:s₁.gens=#[])
  (ha:s₁.heap.get? a=some {cls:=.type "list",data:=.seq vs.toArray}) (hi:IntsAre vs ns) (hl:ns.length<=sizeLine) (hr:Room k callerA)
  (F:∀base:Heap,K.In base->base.Ns mainGlobals mg->FnOk P w K mg base CX k fa fd [x] sp) (hbind:∀(s:Shared) (u:Value),BindsTo s fd ⟨[u],[]⟩ [(x,u)])
  (hL:∀o,K.lookup a=some o->o.cls≠.type "list") (hsp:∀H:Hp,Only H->SqL [] H a (ns.map V.int)->sp [.ref a] H (λv _=>v=.bl true) λ_ _ _=>False)
  (hCX:∀H e s',CX [] H s₁ (λ_ _ _=>False) e s'->False) :
  codeAny (model P w) callerA (.call (.ref fa) ⟨[.ref a],[]⟩) (λr s'=>r=.ok (.ret (.bool true))/\OldK s₁.heap s'.heap/\s'.os=s₁.os/\AllBare s'.gens) s₁:=by
 have rv:=uE hi;have lenV:=hi.length;have core:∀H:Hp,Only H->SqL [] H a (ns.map V.int)->HOk P w H s₁.heap->(∀b,H b≠none->b=a)->(H a≠none->K.lookup a=none)->
   codeAny (model P w) callerA (.call (.ref fa) ⟨[.ref a],[]⟩) (λr s'=>r=.ok (.ret (.bool true))/\OldK s₁.heap s'.heap/\s'.os=s₁.os/\AllBare s'.gens) s₁:=by
  intro H hO hS hok hA hK;have base_of:∀{b:Addr} {o:Obj},s₁.heap.get? b=some o->H b=none->(gY s₁.heap H).get? b=some o:=λe n=>CS e n;have noA:∀{b:Addr} {o:Obj} {es:Array DictEntry} {ep:Nat},s₁.heap.get? b=some o->o.data=.dict es ep->H b=none:=λ{b o es ep} e d=>by
   cases q:H b with
   |none=>rfl
   |some u=>
    have e':b=a:=hA b (by rw[q];simp);subst e';rw[ha] at e;cases e;have d':Data.seq vs.toArray _=Data.dict es ep:=d;cases d'
  have nsK:∀{b:Addr} {m:Str->Option Value},s₁.heap.Ns b m->(gY s₁.heap H).Ns b m:=λ{b m} ⟨o,es,ep,e,d,r⟩=>⟨o,es,ep,base_of e (noA e d),d,r⟩;have hKb:K.In (gY s₁.heap H):=λb o e=>base_of (KX b o e) (by
   cases q:H b with
   |none=>rfl
   |some u=>
    have e':b=a:=hA b (by rw[q];simp);subst e';rw[hK (by rw[q];simp)] at e;cases e)
  have hM:Mod K mg (gY s₁.heap H):=⟨hKb,nsK hns,⟨mb,nsK hb,hbb⟩,let ⟨mc,h1,h2⟩:=hlim;⟨mc,nsK h1,h2⟩⟩;have e0:px P w K mg (gY s₁.heap H) callerA [] s₁ H:=⟨rfl,hM,λb o e=>DX e,tR (Bx _ _),trivial,λb hb=>absurd (show b∈([]:List Addr) from hb) (by simp),hok,.of_eq hg⟩;refine zI ((F _ hKb (nsK hns)).run callerA [] s₁ H ⟨[.ref a],[]⟩ [.ref a] [.ref a] _ _ hr e0 (hbind s₁ (.ref a)) (.cons rfl .nil) (hsp H hO hS)) λr s' h=>?_;cases r with
  |error e=>exact (hCX H e s' h).elim
  |ok fl=>
   cases fl with
   |next=>exact False.elim h
   |brk=>exact False.elim h
   |cont=>exact False.elim h
   |ret u=>
    obtain⟨v,H',os,bare,un,hok',r',q⟩:=h;have q':v=.bl true:=q;subst q';obtain rfl:u=Value.bool true:=r';refine⟨rfl,OldK.of_keep λb o e=>?_,os,bare⟩;cases q:H b with
    |none=>exact un.keep b o e q (by intro z;exact absurd (show b∈([]:List Addr) from z) (by simp)) (by simp)
    |some u=>
     rcases hO b with z|⟨ob,xs,z⟩
     .rw[q] at z;cases z
     .have z2:=un.frzs b ob _ z;obtain⟨e1,_⟩:=hok b _ z;obtain⟨e2,_⟩:=hok' b _ z2;rw[e] at e1;cases e1;exact e2
 cases hk:K.lookup a with
 |some o=>
  have e:=KX a o hk;rw[ha] at e;cases e;exact absurd rfl (hL _ hk)
 |none=>
  refine core (λb=>if b=a then some (.frz {cls:=.type "list",data:=.seq vs.toArray} (.lst (ns.map V.int))) else none) (λb=>?_) (.inl (.inr ⟨{cls:=.type "list",data:=.seq vs.toArray},K3 rfl⟩)) (λb u z=>?_) (λb z=>?_) λ_=>hk
  .by_cases hb:b=a
   .exact .inr ⟨_,_,K3 hb⟩
   .exact .inl (K2 hb)
  .by_cases hb:b=a
   .have z':=(K3 hb).symm.trans z;cases z';subst hb;exact⟨ha,by rw[aQ];exact hl,vs,_,rv,ha⟩
   .have z':=(K2 hb).symm.trans z;cases z'
  .by_cases hb:b=a
   .exact hb
   .exact absurd (K2 hb) z
end L2
namespace L2
open PySem PySem.Spec PyProof.Rows
theorem walk_of {l:W.OpenLaw} {n k:Nat} {q:Program} {loose:List Str} {XP:(Str->Option Value)->Heap->Prop} {YP:World->Heap->Prop} {d:DefRec} {K:Params->W.Frag} {CX:World->CXT} {sp:World->Sp} {x:Str}
  (hn:l.most=some n) (hn2:n<=sizeLine) (hdf:d.params.defaults=[]) (hr:Room k callerA)
  (hY:∀(w:World) (h:Heap),YP w h->(K w.params).In h)
  (F:∀(w:World) (mg:Str->Option Value) (fa:Addr) (h:Heap),(K w.params).In h->h.Ns mainGlobals mg->mg d.name=some (.ref fa)->
   ∃fd:FuncData,(∀(s:Shared) (u:Value),BindsTo s fd ⟨[u],[]⟩ [(x,u)])/\
    ∀base:Heap,(K w.params).In base->base.Ns mainGlobals mg->FnOk l.prog w (K w.params) mg base (CX w) k fa fd [x] (sp w))
  (hL:∀(w:World) (a:Addr) (o:Obj),(K w.params).lookup a=some o->o.cls≠.type "list") (hsp:∀(w:World) (H:Hp) (a:Addr) (ns:List Int),ns.length<=n->Only H->SqL [] H a (ns.map V.int)->sp w [.ref a] H (λv _=>v=.bl true) λ_ _ _=>False)
  (hCX:∀(w:World) (H:Hp) (s:Shared) (e:Value) (s':Shared),CX w [] H s (λ_ _ _=>False) e s'->False) :
  W.WalkO q loose XP YP l.row.toRowW d [] (λf vs=>PySem.call f vs):=by
 refine Att.attach_call hn hdf λw s₀ s₁ mg mb fa o pm cd doc a vs ns G Y ho hd hcd hmg hobj hints hlen hg=>?_;have KX:=hY w _ Y;obtain⟨fd,hb,hF⟩:=F w mg fa _ KX G.T.g hmg;exact CN KX G.T.g G.T.b G.T.builtins G.T.nolimit hg hobj hints (bV hlen hn2) hr hF hb (hL w a) (λH hO hS=>hsp w H a ns hlen hO hS) λH e s'=>hCX w H s₁ e s'
def nlV:Value->Bool
 |.type s=>!(s=="list")
 |_=>true
theorem yk {a:Addr} {o:Obj}:∀{K:W.Frag},K.all (λx=>nlV x.2.cls)=true->K.lookup a=some o->o.cls≠.type "list"
 | [],_,h=>nomatch h
 |(b,u)::K,e,h=>by
  rw[yO,sU] at e;rw[iF] at h
  split at h
  .cases h;intro z;have:=e.1;rw[z] at this;exact absurd this (by decide)
  .exact yk e.2 h
end L2
namespace L2
open PySem PySem.Spec PyProof.Rows
abbrev CX0:CXT:=λ_ _ _ _ _ _=>False
abbrev E0:XK:=λ_ _ _=>False
theorem pass0:Passes CX0 X E0:=λ_ _ _ _ _ _ _ h=>h.elim
structure Fun (K:W.Frag) (x qual:Str) (st:Stmt) (f:Addr) (fd:FuncData):Prop where
 ex:∃(oc:Value) (od:Option Addr) (kV doc pm:Value) (an:Option Addr) (cdv ct:Value) (osl:Array (Option Value)),
  fd=W.fnOf x qual (gk st) (fS st) (bu st) .none kV doc pm an cdv ct/\K.lookup f=some ⟨oc,od,.func fd,osl⟩/\W.codeIn K cdv qual=true
 kp:W.keepIn K (.ref f)=true
section
theorem Fun.ok {x qual:Str} {st:Stmt} {f:Addr} {N ps:List Str} {k:Nat} {sp:Sp} (F:Fun K x qual st f fd) (S:bS N ps (bu st)) (len:∀vs H Q E,sp vs H Q E->vs.length=ps.length)
  (hbody:∀(cdv:Value) (A:Around) (outer:List Env) (s:Shared) (H:Hp) (vs:List V) (Q:VK) (E:XK),Room k (A.deeper (envOfC qual (bu st) s.heap.objs.size f cdv))->sp vs H Q E->
   ∃t,PSs (j3 CX0 P w K mg base N qual (bu st) f cdv A outer s H E).nox (fS st) t/\t {nx:=λ_ H'=>Q .non H',rt:=Q} (start N vs) H):FnOk P w K mg base CX0 (k+1) f fd ps sp:=by
 obtain⟨oc,od,kV,doc,pm,an,cdv,ct,osl,rfl,lk,hcd⟩:=F.ex;refine Ic lk hcd S len λA outer s H vs Q E hr hsp=>?_;obtain⟨t,h,q⟩:=hbody cdv A outer s H vs Q E hr hsp;exact⟨t,h.nox,q⟩
theorem Fun.binds {x qual:Str} {st:Stmt} {f:Addr} {ps:List Str} (F:Fun K x qual st f fd)
  (h:∀(kV doc pm:Value) (an:Option Addr) (cdv ct:Value) (us:List Value),us.length=ps.length->bindArgs (W.fnOf x qual (gk st) (fS st) (bu st) .none kV doc pm an cdv ct) ⟨us,[]⟩=pure (ps.zip us)):Binds K fd ps []:=by
 obtain⟨oc,od,kV,doc,pm,an,cdv,ct,osl,rfl,lk,hcd⟩:=F.ex;exact .all (h kV doc pm an cdv ct)
theorem F5 {x qual:Str} {st:Stmt} {f:Addr} {oc:Value} {od an:Option Addr} {osl:Array (Option Value)} {kV doc pm cdv ct:Value} (l:K.lookup f=some ⟨oc,od,.func (W.fnOf x qual (gk st) (fS st) (bu st) .none kV doc pm an cdv ct),osl⟩)
  (c:W.codeIn K cdv qual=true) (k:W.keepIn K (.ref f)=true):Fun K x qual st f (W.fnOf x qual (gk st) (fS st) (bu st) .none kV doc pm an cdv ct):=⟨⟨oc,od,kV,doc,pm,an,cdv,ct,osl,rfl,l,c⟩,k⟩
end
theorem fB {k:Nat} (hr:Room k A):A.units+1<cLine:=zk (tP (by decide:1<=64) _) hr.units
section
theorem pv (i:Nat) {x:Str} {pos:Pos} (hN:X.N[i]?=some x:=by rfl) (hv:Vis X.env.scope x:=by first|exact Or.inl rfl|exact Or.inr (.inl rfl)|exact Or.inr (.inr rfl)) (hd:(x==("__debug__" : Str))=false:=by decide)
  (hcd:(x==("__classdict__" : Str))=false:=by decide):PE X (.Name x pos) (eh i):=Fq hN hv hd hcd
end
theorem av {A B:Prop} (h:B):if false=true then A else B:=by rw[K2 cq];exact h
theorem aJ {A B:Prop} (h:A):if true=true then A else B:=by rw[K3 rfl];exact h
theorem ite2 {c A B:Prop} [Decidable c] (h1:c->A) (h2:¬c->B):if c then A else B:=by
 by_cases h:c
 .rw[K3 h];exact h1 h
 .rw[K2 h];exact h2 h
theorem Same.refl (H:Hp):Same H H:=λ_ _ h=>h
theorem Same.trans {H H1 H2:Hp} (a:Same H H1) (b:Same H1 H2):Same H H2:=λc o h=>b c o (a c o h)
theorem Same.free (e:Same H H') {l:Addr} (h:H' l=Option.none):H l=Option.none:=by
 cases q:H l with
 |none=>rfl
 |some o=>
  rw[e l o q] at h;cases h
theorem Same.seq {a:Addr} (e:Same H H') (h:SqL K H a xs):SqL K H' a xs:=by
 rcases h with (h|⟨o,h⟩)|h
 .exact .inl (.inl (e _ _ h))
 .exact .inl (.inr ⟨o,e _ _ h⟩)
 .exact .inr h
section
variable {κ:Type} [DecidableEq κ]
theorem Dg {kvs:List (κ×V)} {k:κ} {v:V} (h:valV kvs k=some v):k∈kvs.map (·.1):=by
 have q:(kvs.any λkv=>decide (kv.1=k))=true:=by
  rw[js,h]
  all_goals rfl
 obtain⟨p,hp,e⟩:=pE.mp q;exact aw.mpr ⟨p,hp,K6 e⟩
end
end L2
end
variable {H:L2.Hp} {Z:L2.St} {X:L2.Cx} {xs:List L2.V} {vs:List L2.V} {H':L2.Hp}
section
namespace L2
open PySem PySem.Spec PyProof.Rows
def dQ (env:Env):List (Str×NameKind)->List (Str×Addr)->List (Str×Addr)
 | [],cs=>cs
 |(n,k)::r,cs=>dQ env r (if k==.free then (n,(env.cells.lookup n).getD 0)::cs else cs)
theorem uB (env:Env):∀(names:List (Str×NameKind)) (cs:List (Str×Addr)),(∀x∈names,x.2=.free->∃c,env.cells.lookup x.1=some c)->
  (forIn names cs (λ(x:Str×NameKind) (r:List (Str×Addr))=>(do
   if x.2==NameKind.free then
    let a <-cellOf env x.1
    pure (ForInStep.yield ((x.1,a)::r))
   else pure (ForInStep.yield r):Sem (ForInStep (List (Str×Addr))))))=pure (dQ env names cs)
 | [],cs,_=>rfl
 |(n,k)::r,cs,h=>by
  have ih:=λcs=>uB env r cs λx hx=>h x (aY _ hx);rw[List.forIn_cons];by_cases hk:k=.free
  .subst hk;obtain⟨c,hc⟩:=h (n,.free) fE rfl;have e:cellOf env n=pure c:=by
    have hc':env.cells.lookup n=some c:=hc;unfold cellOf;rw[hc']
    try rfl
   rw[K3 (show (((n,NameKind.free).2==NameKind.free)=true) from rfl),e];refine Eq.trans ?_ ((ih ((n,c)::cs)).trans ?_)
   .rfl
   .have hc':env.cells.lookup n=some c:=hc;show pure (dQ env r ((n,c)::cs))=pure (dQ env r ((n,(env.cells.lookup n).getD 0)::cs));rw[hc'];rfl
  .have hb:(k==NameKind.free)=false:=by simpa using hk
   rw[K2 (show ¬(((n,k).2==NameKind.free)=true) by rw[show ((n,k).2==NameKind.free)=false from hb];simp)];refine Eq.trans ?_ ((ih cs).trans ?_)
   .rfl
   .show pure (dQ env r cs)=pure (dQ env r (if (k==NameKind.free)=true then _ else cs));rw[hb];rfl
theorem uA {env:Env} (h:∀x∈scope.names,x.2=.free->∃c,env.cells.lookup x.1=some c):closureFor scope env=pure (dQ env scope.names []):=by
 have e:=uB env scope.names [] h;unfold closureFor;simp only[bind_pure_comp,map_pure] at e |-
 first
  |(rw[e];rfl)
  |exact e
theorem w9 {env:Env}:∀{names:List (Str×NameKind)} {cs:List (Str×Addr)} {x:Str} {c:Addr},(∀y∈names,y.2=.free->∃c,env.cells.lookup y.1=some c)->
  (dQ env names cs).lookup x=some c->env.cells.lookup x=some c\/cs.lookup x=some c
 | [],cs,x,c,_,h=>.inr h
 |(n,k)::r,cs,x,c,hf,h=>by
  have hf':∀y∈r,y.2=.free->∃c,env.cells.lookup y.1=some c:=λy hy=>hf y (aY _ hy);rcases w9 (names:=r) hf' h with q|q
  .exact .inl q
  .by_cases hk:(k==NameKind.free)=true
   .rw[K3 hk] at q;have hk':k=.free:=by simpa using hk
    obtain⟨c',e⟩:=hf (n,k) fE hk';have e:env.cells.lookup n=some c':=e;rw[iF] at q;cases hx:x==n with
    |true=>
     rw[hx] at q;have hx':x=n:=by simpa using hx
     subst hx';rw[e] at q;have q':c'=c:=by simpa using q
     exact .inl (q' ▸ e)
    |false=>
     rw[hx] at q;exact .inr q
   .rw[K2 hk] at q;exact .inr q
theorem qK {env:Env}:∀{names:List (Str×NameKind)} {cs:List (Str×Addr)} {x:Str},((x,NameKind.free)∈names\/(cs.lookup x).isSome=true)->((dQ env names cs).lookup x).isSome=true
 | [],cs,x,h=>by
  rcases h with h|h
  .simp at h
  .exact h
 |(n,k)::r,cs,x,h=>by
  refine qK (names:=r) ?_;rcases h with h|h
  .rcases af.mp h with e|e
   .cases e;refine .inr ?_;rw[K3 (by rfl),iF,beq_self_eq_true];rfl
   .exact .inl e
  .refine .inr ?_;by_cases hk:(k==NameKind.free)=true
   .rw[K3 hk,iF];cases hx:x==n with
    |true=>rfl
    |false=>exact h
   .rw[K2 hk];exact h
theorem uj (env:Env):∀(names:List (Str×NameKind)) (x:Str),
  (names.map λ(n,k)=>if (k==NameKind.free&&env.scope.kind==.function&&env.kindOf n==some .cell) then (n,NameKind.cell) else (n,k)).lookup x=(names.lookup x).map λk=>if (k==NameKind.free&&env.scope.kind==.function&&env.kindOf x==some .cell) then NameKind.cell else k
 | [],_=>rfl
 |(n,k)::r,x=>by
  have ih:=uj env r x;rw[aB];dsimp only at ih |-;by_cases hc:(k==NameKind.free&&env.scope.kind==.function&&env.kindOf n==some .cell)=true
  .rw[K3 hc,iF,iF];cases hx:x==n with
   |true=>
    have hx':x=n:=by simpa using hx
    subst hx';simp only[hJ,hc,if_true]
   |false=>exact ih
  .rw[K2 hc,iF,iF];cases hx:x==n with
   |true=>
    have hx':x=n:=by simpa using hx
    subst hx';simp only[hJ];rw[K2 hc]
   |false=>exact ih
def ir (X:Cx) (N:List Str) (scope:Scope) (C:Addr) (s:Shared) (H:Hp) (fp:List Addr) (pins:List (Addr×Obj)):Cx:=
 {X with N:=N,s₀:=s,H₀:=H,env:=compEnvC scope (dQ X.env scope.names []) C X.env,outer:=X.stack,ex:=fp,fn:=λ_=>false,pn:=X.pn++pins,xe:=λ_ _=>False}
def i5 (fr:List (Option Nat)) (Z:St):St:=fr.map λo=>o.bind λi=>(Z[i]?).join
structure f_ (X:Cx) (N:List Str) (fr:List (Option Nat)) (scope:Scope):Prop where
 nd:N.Nodup
 len:fr.length=N.length
 kind:scope.kind=.function
 nocell:∀y∈scope.names,y.2≠.cell
 names:∀y∈scope.names,y.2=.local->scope.names.lookup y.1=some .local
 frees:∀y∈scope.names,y.2=.free->X.env.kindOf y.1=some .cell\/X.env.kindOf y.1=some .free
 fr:∀(j i:Nat) (x:Str),fr[j]?=some (some i)->N[j]?=some x->X.N[i]?=some x/\scope.names.lookup x=some .free
section
variable {N:List Str} {fr:List (Option Nat)} {fp:List Addr}
theorem f_.cells (S:f_ X N fr scope) (ok:X.Ok):∀y∈scope.names,y.2=.free->∃c,X.env.cells.lookup y.1=some c:=λy hy hf=>ok.has y.1 (S.frees y hy hf)
theorem nP {names:List (Str×NameKind)} {x:Str} {k:NameKind} (h:names.lookup x=some k):(x,k)∈names:=nI h
theorem u7 {C:Addr} {x:Str}:(compEnvC scope (dQ X.env scope.names []) C X.env).kindOf x=(scope.names.lookup x).map λk=>if (k==NameKind.free&&X.env.scope.kind==.function&&X.env.kindOf x==some .cell) then NameKind.cell else k:=uj X.env scope.names x
theorem f_.free_of (S:f_ X N fr scope) {C:Addr} {x:Str} (h:(compEnvC scope (dQ X.env scope.names []) C X.env).kindOf x=some .cell\/(compEnvC scope (dQ X.env scope.names []) C X.env).kindOf x=some .free):scope.names.lookup x=some .free:=by
 rw[u7] at h;cases e:scope.names.lookup x with
 |none=>rw[e] at h;simp at h
 |some k=>
  rw[e] at h;have nc:=S.nocell _ (nP e);cases k with
  |free=>rfl
  |cell=>exact absurd rfl nc
  |_=>
   exfalso;rcases h with h|h<;>simp at h
theorem BD {C:Addr} {x:Str} (h:scope.names.lookup x=some .free):(compEnvC scope (dQ X.env scope.names []) C X.env).kindOf x=some .cell\/(compEnvC scope (dQ X.env scope.names []) C X.env).kindOf x=some .free:=by
 rw[u7,h,hJ];by_cases c:(NameKind.free==NameKind.free&&X.env.scope.kind==.function&&X.env.kindOf x==some .cell)=true
 .rw[K3 c];exact .inl rfl
 .rw[K2 c];exact .inr rfl
end
end L2
end
section
namespace L2
open PySem PySem.Spec PyProof.Rows
section
variable {N:List Str} {fr:List (Option Nat)} {fp:List Addr}
theorem A6 {C:Addr} {h1:Heap} {m:Str->Option Value} {t:Nat} (S:f_ X N fr scope) (I:Inv X pins Z H s) (hf:∀b∈fp,dR X pins H b) (hC:s.heap.objs.size<=C) (hfC:∀b∈fp,b≠C)
  (hn:h1.Ns C m) (hk:∀b o,s.heap.get? b=some o->h1.get? b=some o):Inv (ir X N scope C s H fp pins) [] (i5 fr Z) H {s with heap:=h1,toks:=t}:=by
 have hcl:=S.cells I.ok;have sub:∀x c,(dQ X.env scope.names []).lookup x=some c->X.env.cells.lookup x=some c:=λx c e=>by
  rcases w9 hcl e with q|q
  .exact q
  .simp at q
 have ok:(ir X N scope C s H fp pins).Ok:=by
  refine⟨I.ok.mod,S.kind,I.ok.glob,I.ok.blt,hC,λx y c h1 h2=>I.ok.inj x y c (sub x c h1) (sub y c h2),λx hx=>?_,λx c e=>absurd e (by show ¬(false=true);decide),I.ok.hd,I.ok.frames,.inl rfl,λb hb=>?_,λb o e=>I.bs b o e,bV I.ok.bsz I.sz,λb o e hb=>?_,λb hb=>?_,I.stack,I.stkFree⟩
  .have e:=S.free_of hx;exact tV.mp (qK (.inl (nP e)))
  .exact⟨hfC b hb,λx c e=>(hf b hb).2.2.2.2.1 x c (sub x c e)⟩
  .rcases (hf b hb).2.2.2.1 with z|z
   .exact I.ok.noex b o e z
   .exact absurd (c_ (bf e) (bV I.ok.bsz z)) (fI _)
  .intro z;rcases af.mp (I.stkSub b z) with q|q
   .exact (hf b hb).2.1 q
   .exact (hf b hb).2.2.1 q
 have hfresh:H C=none:=I.hok.fresh hC;refine⟨ok,rfl,I.bare,Un.kept hk,⟨m,hn,λj x v e1 e2 e3=>?_⟩,λx c e=>?_,hfresh,λx c e=>I.freeC x c (sub x c e),λp hp=>?_,I.hok.kept hk,?_⟩
 .have e2:(i5 fr Z)[j]?=some (some v):=e2;unfold i5 at e2;rw[c7] at e2;cases q:fr[j]? with
  |none=>rw[q] at e2;cases e2
  |some o=>
   rw[q] at e2;cases o with
   |none=>cases e2
   |some i=>
    have e2:(Z[i]?).join=some v:=cH e2;obtain⟨hi,hfree⟩:=S.fr j i x q e1;have hσ:Z[i]?=some (some v):=by
     cases z:Z[i]? with
     |none=>rw[z] at e2;cases e2
     |some y=>rw[z] at e2;cases y with
      |none=>cases e2
      |some y'=>have e2:some y'=some v:=e2;rw[e2]
    obtain⟨m0,_,hl⟩:=I.loc;have hcf:X.env.kindOf x=some .cell\/X.env.kindOf x=some .free:=S.frees (x,.free) (nP hfree) rfl;have hvis:Vis X.env.scope x:=hcf.elim (λz=>.inr (.inl z)) λz=>.inr (.inr z);obtain⟨u,r,lk⟩:=hl i x v hi hσ hvis;rcases lk with ⟨z,_⟩|⟨_,c,ec,hcell⟩
    .rcases hcf with y|y<;>(rw[y] at z;cases z)
    .refine⟨u,r,.inr ⟨BD hfree,?_⟩⟩;obtain⟨c',ec'⟩:=tV.mp (qK (env:=X.env) (names:=scope.names) (cs:=[]) (.inl (nP hfree)));have:=sub x c' ec';rw[ec] at this;cases this;obtain⟨o,ho,hd⟩:=hcell;exact⟨c,ec',o,hk c o ho,hd⟩
 .obtain⟨v,o,ho,hd⟩:=I.cell x c (sub x c e);exact⟨v,o,hk c o ho,hd⟩
 .have hp:p∈(X.pn++pins)++[]:=hp;rw[cZ] at hp;obtain⟨e,n,ne,nf,d⟩:=I.pin p hp;refine⟨hk _ _ e,n,λz=>?_,λz=>?_,d⟩
  .have z:p.1=C:=z;exact absurd (c_ (bf e) hC) (by rw[z];exact fI _)
  .rcases af.mp (I.stkSub p.1 z) with q|q
   .exact ne q
   .exact nf q
 .show (i5 fr Z).length=N.length;unfold i5;rw[aQ];exact S.len
theorem C7 {C:Addr} {H2:Hp} {s':Shared} {Z':St} {p':List (Addr×Obj)} (I:Inv X pins Z H s) (hf:∀b∈fp,dR X pins H b) (hC:s.heap.objs.size<=C) (J:Inv (ir X N scope C s H fp pins) p' Z' H2 s') :
  Inv X pins Z H2 s'/\dR X pins H2 C:=by
 have J0:Inv X pins Z H2 s':=I.call' J.os J.base J.hok J.bare λb hb=>⟨(hf b hb).2.2.2.1,(hf b hb).2.1,(hf b hb).2.2.2.2.1,(hf b hb).2.2.2.2.2⟩;exact⟨J0,I.fpOk hC J.free⟩
end
end L2
end
section
namespace L2
open PySem PySem.Spec PyProof.Rows
def PIf (X:Cx) (ifs:List Expr) (t:TT):Prop:=
 ∀(pins:List (Addr×Obj)) (s:Shared) (Z:St) (H:Hp) (Q:Bool->Hp->Prop),Inv X pins Z H s->t Z H Q->
  wpAny (model X.prog X.w) X.A (forIn ifs true λc r=>if r=true then do let ok <-isTrue c X.env (eval c X.env);pure (ForInStep.yield ok) else pure (ForInStep.yield r)) (TP X pins Z Q) X.xe s
theorem jD:PIf X [] (λ_ H Q=>Q true H):=λ_ _ _ H _ I h=>wpAny_tests_nil ⟨H,I,h⟩
theorem gM {c:Expr} {t:TT} (h:PT X c t):PIf X [c] t:=λpins s Z H Q I q=>wpAny_tests_one (h pins s Z H Q I q)
def tBlE (D:Addr) (ys:List V) (N:St->List V->Hp->Prop) (σ2:St):VK:=λy H4=>H4 D=some (.lst ys)/\ys.length<sizeLine/\WrO H4 D (.lst (ys++[y])) (N σ2 (ys++[y]))
def sJ (te:TE) (D:Addr) (ys:List V) (N:St->List V->Hp->Prop) (σ2:St):Bool->Hp->Prop:=λb H3=>if b=true then te σ2 H3 (tBlE D ys N σ2) else N σ2 ys H3
def mQ (tt:TT) (te:TE) (D:Addr) (ys:List V) (N:St->List V->Hp->Prop):St->Hp->Prop:=λσ2 H2=>tt σ2 H2 (sJ te D ys N σ2)
def tBlN (J:It) (g:TG) (tt:TT) (te:TE) (D:Addr) (W:Nat->Nat->St->List V->Hp->Prop) (i m:Nat) (Z:St) (ys:List V) (H:Hp) (N:St->List V->Hp->Prop):Prop:=(∀Z' ys' H',N Z' ys' H'->∃m',m'<m/\W (i+1) m' Z' ys' H')/\∀x H',J.yld i H x H'->g x Z H' (mQ tt te D ys N)
def tBlB (J:It) (g:TG) (tt:TT) (te:TE) (D:Addr) (Z':St) (H1:Hp) (Q:Hp->Prop) (W:Nat->Nat->St->List V->Hp->Prop):Prop:=(∃m,W 0 m Z' [] (upd H1 D (.lst [])))/\∀i m Z ys H,W i m Z ys H->(J.stop i H/\Q H)\/(J.go i H/\Exists (tBlN J g tt te D W i m Z ys H))
def iX (J:It) (g:TG) (tt:TT) (te:TE) (D:Addr) (Z':St) (H1:Hp) (Q:Hp->Prop):Prop:=Exists (tBlB J g tt te D Z' H1 Q)
theorem BC {elt target iter:Expr} {ifs:List Expr} {scope:Scope} {pos:Pos} {it acc:Value} {env:Env} {R:Result->Shared->Prop} (I:Nat->Shared->Prop)
  (turn:∀n s,I n s->wpAny (model P w) A (pyNext it) (λr s1=>match r with
   |none=>R (.ok .next) s1
   |some v=>wpAny (model P w) A (letOwnedTupleGo target it v) (λ_ s1'=>wpAny (model P w) A (assign target env v) (λ_ s2=>
     wpAny (model P w) A (forIn ifs true λc r=>if r=true then do let ok <-isTrue c env (eval c env);pure (ForInStep.yield ok) else pure (ForInStep.yield r)) (λok s3=>
      if ok=true then wpAny (model P w) A (eval elt env) (λx s4=>
       wpAny (model P w) A (call (.builtin "list.append") [acc,x]) (λ_ s5=>∃m,m<n/\I m s5) (λ_ _=>False) s4) (λ_ _=>False) s3
      else ∃m,m<n/\I m s3) (λ_ _=>False) s2) (λ_ _=>False) s1') (λ_ _=>False) s1) (λ_ _=>False) s)
  (n:Nat) (h:I n s) :
  codeAny (model P w) A (.compLoop (.ListComp elt [⟨target,iter,ifs,0⟩] scope pos) 0 it acc env) R s:=by
 have no:∀(e:Value) (t:Shared),False->notedBy (model P w) A env (λe s'=>R (.error e) s') e t:=λ_ _ z=>z.elim;refine codeAny_loop rfl I (λn s hI=>?_) n h;refine wpAny_noted ?_;rw[compTurn_list];refine ao (ug (ao (fe (turn n s hI) (λr s1 h1=>?_) no)));cases r with
 |none=>exact aO h1
 |some v=>
  refine ao (fe h1 (λ_ s1' h1'=>?_) no);refine ao (fe h1' (λ_ s2 h2=>ao (fe h2 (λok s3 h3=>?_) no)) no);cases ok with
  |false=>exact aO ⟨rfl,h3⟩
  |true=>
   exact ao (ao (fe h3 (λx s4 h4=>ao (fe h4 (λ_ s5 h5=>aO (aO ⟨rfl,h5⟩)) no)) no))
section
variable {N:List Str} {fr:List (Option Nat)} {fp:List Addr}
theorem C6 {elt target iter:Expr} {ifs:List Expr} {pos:Pos} {it D:Addr} {tn:Nat->Heap->Prop} {J:It} {g:TG} {tt:TT} {te:TE} {R:Result->Shared->Prop} {s1:Shared} {Z1:St} {H1:Hp} {Q:Hp->Prop}
  {Y:Cx} (hY:Y.xe=λ_ _=>False) (hc:Y.calm=true) (I:Inv Y [] Z1 (upd H1 D (.lst [])) s1) (T:Turn Y.prog Y.w Y.K target J fp it tn) (ht:tn 0 s1.heap) (hf:∀b∈fp,dR Y [] (upd H1 D (.lst [])) b)
  (hg:PG Y target g) (hi:PIf Y ifs tt) (he:PE Y elt te) (h:iX J g tt te D Z1 H1 Q) (hR:∀s' Z' H',Inv Y [] Z' H' s'->Q H'->R (.ok .next) s') :
  codeAny (model Y.prog Y.w) Y.A (.compLoop (.ListComp elt [⟨target,iter,ifs,0⟩] scope pos) 0 (.ref it) (.ref D) Y.env) R s1:=by
 obtain⟨W,⟨m0,w0⟩,turn⟩:=h;have stat:∀{H':Hp},(∀b∈fp,H' b=none)->∀b∈fp,dR Y [] H' b:=λhn b hb=>⟨hn b hb,(hf b hb).2⟩;refine BC (λn s'=>∃i Z' ys H',Inv Y [] Z' H' s'/\tn i s'.heap/\(∀b∈fp,H' b=none)/\W i n Z' ys H') ?_ m0 ⟨0,Z1,[],_,I,ht,λb hb=>(hf b hb).1,w0⟩;rintro n s3 ⟨i,Z3,ys,H3,I3,st3,fr3,w3⟩;have back:∀{α:Type} {t:Sem α} {Q:α->Shared->Prop} {s:Shared},wpAny (model Y.prog Y.w) Y.A t Q Y.xe s->wpAny (model Y.prog Y.w) Y.A t Q (λ_ _=>False) s:=λh=>by rw[hY] at h;exact h
 rcases turn i n Z3 ys H3 w3 with ⟨stop,qn⟩|⟨go,N',hN',step⟩
 .refine thn (T.done Y rfl rfl rfl hc i [] s3 Z3 H3 _ I3 (stat fr3) st3 stop) λr s4 ⟨hr,I4⟩=>?_;subst hr;exact hR s4 Z3 H3 I4 qn
 .refine thn (T.item Y rfl rfl rfl hc i [] s3 Z3 H3 _ I3 (stat fr3) st3 go) λr s4 ⟨u,hr,h4⟩=>?_;subst hr;refine thn h4 λ_ s5 ⟨x,H5,I5,r5,y5,st5,fr5⟩=>?_;have I5':=I5.pinned (stat fr5) (T.obj _ _ st5);rw[jh] at I5';refine thn (back (hg _ s5 Z3 H5 x u _ I5' r5 (step x H5 y5))) λ_ s6 ⟨Z6,H6,I6,q6⟩=>?_;refine thn (back (hi _ s6 Z6 H6 _ I6 q6)) λb s7 ⟨H7,I7,q7⟩=>?_;have again:∀{Z7:St} {H7:Hp} {s7:Shared} {ys':List V},Inv Y (mm fp s5.heap) Z7 H7 s7->(∃m',m'<n/\W (i+1) m' Z7 ys' H7)->∃m,m<n/\∃i Z' ys H',Inv Y [] Z' H' s7/\tn i s7.heap/\(∀b∈fp,H' b=none)/\W i m Z' ys H':=λ{Z7 H7 s7 ys'} I7 ⟨m',hm,w7⟩=>by
   refine⟨m',hm,i+1,Z7,ys',H7,I7.pins_of (λp hp=>by simp at hp),T.keep _ _ _ st5 λb hb o e=>(I7.pin (b,o) (bN _ (kB hb e))).1,λb hb=>?_,w7⟩;obtain⟨o,e,d⟩:=T.obj _ _ st5 b hb;exact (I7.pin (b,o) (bN _ (kB hb e))).2.1
  cases b with
  |false=>
   rw[sJ,K2 cq] at q7;rw[K2 cq];exact again I7 (hN' _ _ _ q7)
  |true=>
   rw[sJ,K3 rfl] at q7;rw[K3 rfl];refine thn (back (he _ s7 Z6 H7 _ I7 q7)) λv s8 ⟨y,H8,I8,r8,hD,hl,q8⟩=>?_;refine thn (back (cN _ s8 Z6 H8 (.ref D) [y] (.ref D) [v] (λ_ H'=>N' Z6 (ys++[y]) H') I8 rfl (.cons r8 .nil) ⟨D,ys,y,rfl,rfl,hD,hl,q8⟩)) λ_ s9 ⟨_,H9,I9,_,q9⟩=>?_;exact again I9 (hN' _ _ _ q9)
end
end L2
end
section
namespace L2
open PySem PySem.Spec PyProof.Rows
def sI (Q:VK) (D:Addr):Hp->Prop:=λH2=>Q (.ref D) H2
def tCoA (g:TG) (tt:TT) (te:TE) (fr:List (Option Nat)) (Z:St) (Q:VK) (J:It) (H1:Hp):Prop:=∀D,H1 D=none->iX J g tt te D (i5 fr Z) H1 (sI Q D)
def tCoK (g:TG) (tt:TT) (te:TE) (fr:List (Option Nat)) (Z:St) (Q:VK):It->Hp->Prop:=λJ H1=>tCoA g tt te fr Z Q J H1
def xX (wi:TI) (g:TG) (tt:TT) (te:TE) (fr:List (Option Nat)):TE:=λZ H Q=>wi Z H (tCoK g tt te fr Z Q)
section
variable {N:List Str} {fr:List (Option Nat)} {elt tg iter:Expr} {ifs:List Expr} {pos:Pos} {wi:TI} {g:TG} {tt:TT} {te:TE}
def PComp (X:Cx) (N:List Str) (scope:Scope) (tg:Expr) (ifs:List Expr) (elt:Expr) (g:TG) (tt:TT) (te:TE):Prop:=
 ∀(C:Addr) (s:Shared) (H:Hp) (fp:List Addr) (pins:List (Addr×Obj)),PG (ir X N scope C s H fp pins) tg g/\PIf (ir X N scope C s H fp pins) ifs tt/\PE (ir X N scope C s H fp pins) elt te
theorem uy {itv:Value} {Z_:Value->Addr->Result->Shared->Prop} {QQ:Addr->Hp->Prop} (S:f_ X N fr scope) (hc:X.calm=true)
  (hb:PComp X N scope tg ifs elt g tt te) (h2:PIE X pins Z tg (λJ H1=>∀D,H1 D=none->iX J g tt te D (i5 fr Z) H1 (QQ D)) itv s)
  (hZ:∀D C s' H',Inv X pins Z H' s'->dR X pins H' C->(∃m,s'.heap.Ns C m)->QQ D H'->Z_ (.ref D) C (.ok .next) s') :
  wpAny (model X.prog X.w) X.A (newList []) (λacc s3=>wpAny (model X.prog X.w) X.A (newFunctionEnv scope X.env.globals (dQ X.env scope.names []) [] X.env.qual none .none (some X.env)) (λcenv s4=>
   codeAny (model X.prog X.w) X.A (.compStart (.ListComp elt [⟨tg,iter,ifs,0⟩] scope pos) 0 itv acc {cenv with scope:=relabel scope X.env}) (Z_ acc cenv.locals) s4) E s3) E s:=by
 obtain⟨it,fp,tn,J,H1,e,I2,T,st2,f2,q⟩:=h2;subst e;have hD:H1 s.heap.objs.size=none:=I2.hok.fresh (aC _);have old:∀b∈fp,b<s.heap.objs.size:=λb hb=>by
  obtain⟨o,e,_⟩:=T.obj _ _ st2 b hb;exact bf e
 refine nK (wpAny_newFunctionEnv S.nocell (by intro y hy;simp at hy) (λh1 hns hsb=>?_) S.kind);dsimp only at hns hsb |-;have I3:Inv X pins Z (upd H1 s.heap.objs.size (.lst [])) {s with heap:=s.heap.push {cls:=.type "list",dict:=none,data:=.seq ([]:List Value).toArray}}:=by refine I2.laid (t':=s.toks) (λb u e=>bP _ e) (aC _) ?_;exact⟨aT _,[],_,.nil,cQ _ rfl⟩
 have f3:∀b∈fp,dR X pins (upd H1 s.heap.objs.size (.lst [])) b:=λb hb=>⟨by rw[bz (cC (old b hb))];exact (f2 b hb).1,(f2 b hb).2⟩;have hsz:(s.heap.push {cls:=.type "list",dict:=none,data:=.seq ([]:List Value).toArray}).objs.size=s.heap.objs.size+1:=yM ..;have I4:=A6 (C:=(s.heap.push {cls:=.type "list",dict:=none,data:=.seq ([]:List Value).toArray}).objs.size) (h1:=h1) (t:=s.toks+([]:List (Str×Value)).length) (fp:=fp) S I3 f3 (aC _)
  (λb hb=>by rw[hsz];exact cC (zl (old b hb))) hns λb o e=>hsb.extBut b o (cC (bf e)) (bP _ e)
 have st4:tn 0 h1:=T.keep _ _ _ st2 λb hb o e=>by
  have e1:=bP {cls:=.type "list",dict:=none,data:=.seq ([]:List Value).toArray} e;exact hsb.extBut b o (cC (bf e1)) (bP _ e1)
 have f4:∀b∈fp,dR (ir X N scope (s.heap.push {cls:=.type "list",dict:=none,data:=.seq ([]:List Value).toArray}).objs.size {s with heap:=s.heap.push {cls:=.type "list",dict:=none,data:=.seq ([]:List Value).toArray}} (upd H1 s.heap.objs.size (.lst [])) fp pins) [] (upd H1 s.heap.objs.size (.lst [])) b:=λb hb=>by
  refine⟨(f3 b hb).1,(I4.ok.exf b hb).1,I4.ok.exfs b hb,.inl hb,(I4.ok.exf b hb).2,λp hp=>?_⟩;have hp:p∈(X.pn++pins)++[]:=hp;rw[cZ] at hp;exact (f3 b hb).2.2.2.2.2 p hp
 obtain⟨b1,b2,b3⟩:=hb (s.heap.push {cls:=.type "list",dict:=none,data:=.seq ([]:List Value).toArray}).objs.size {s with heap:=s.heap.push {cls:=.type "list",dict:=none,data:=.seq ([]:List Value).toArray}} (upd H1 s.heap.objs.size (.lst [])) fp pins;have run:=C6 (Y:=ir X N scope (s.heap.push {cls:=.type "list",dict:=none,data:=.seq ([]:List Value).toArray}).objs.size {s with heap:=s.heap.push {cls:=.type "list",dict:=none,data:=.seq ([]:List Value).toArray}} (upd H1 s.heap.objs.size (.lst [])) fp pins) (elt:=elt) (iter:=iter) (pos:=pos) (scope:=scope) (R:=Z_ (.ref s.heap.objs.size) (s.heap.push {cls:=.type "list",dict:=none,data:=.seq ([]:List Value).toArray}).objs.size) rfl hc I4 T st4 f4 b1 b2 b3 (q _ hD) λs' Z' H' I' q'=>by
  obtain⟨J1,F1⟩:=C7 I3 f3 (aC _) I';obtain⟨m,hm,_⟩:=I'.loc;exact hZ _ _ s' H' J1 F1 ⟨m,hm⟩ q'
 exact codeAny_compStart_list run (T.self _ 0 _ _ _ st4 run)
theorem gj (S:f_ X N fr scope) (hc:X.calm=true) (hi:PI X tg iter wi) (hb:PComp X N scope tg ifs elt g tt te)
  (hs:∀x,foldedSetIterable iter X.env x=pure x:=by intro _;rfl):PE X (.ListComp elt [⟨tg,iter,ifs,0⟩] scope pos) (xX wi g tt te fr):=by
 intro pins s Z H Q I h;rw[eval_ListComp];refine JP (use:=none) rfl hs (uA (S.cells I.ok)) S.kind S.names (thn (hi pins s Z H _ I h) λv s1 h1=>thn h1 λitv s2 h2=>?_);refine uy (QQ:=λD H2=>Q (.ref D) H2) (Z_:=λacc C=>compPost (model X.prog X.w) X.A X.xe none (EP X pins Z Q) acc C) S hc hb h2 λD C s' H' J F hm q=>?_;obtain⟨m,hm⟩:=hm;refine⟨m,hm,λh' hs'=>⟨.ref D,H',?_,rfl,q⟩⟩;exact J.turned (t':=s'.toks) (λb o hb e=>hs'.extBut b o hb e) F.1 F.2.1 F.2.2.2.1 F.2.2.2.2.1 F.2.2.2.2.2
theorem lO {i:Nat} {x:Str} {pos' spos:Pos} (S:f_ X N fr scope) (hc:X.calm=true) (hi:PI X tg iter wi) (hb:PComp X N scope tg ifs elt g tt te) (hN:X.N.Nodup) (hx:X.N[i]?=some x) (hl:Loc X.env.scope x)
  (hsw:swapsWith (.ListComp elt [⟨tg,iter,ifs,0⟩] scope pos) (some (.Name x pos')) spos.line X.env=pure true:=by rfl)
  (hf:X.fn x=true\/X.env.scope.names.lookup x=some .local:=by first|exact .inl rfl|exact .inr rfl|assumption)
  (hs:∀x,foldedSetIterable iter X.env x=pure x:=by intro _;rfl):PS X (.Assign [.Name x pos'] (.ListComp elt [⟨tg,iter,ifs,0⟩] scope pos) spos) (pg (xX wi g tt te fr) (dZ i)):=by
 intro pins s Z H D I h;rw[exec_Assign_Name_used _ _ _ _ hsw];refine ao (ug (ao ?_));show wpAny _ _ (do let _ <-comprehension (.ListComp elt [⟨tg,iter,ifs,0⟩] scope pos) scope X.env _ (newList []) false (eval iter X.env) (some (assign (.Name x pos') X.env))) _ _ s;refine ao (thn (JP (use:=some (assign (.Name x pos') X.env)) (Q:=λ_ s'=>SP X pins D .next s') rfl hs (uA (S.cells I.ok)) S.kind S.names (thn (hi pins s Z H _ I h) λv s1 h1=>thn h1 λitv s2 h2=>?_)) λ_ s' hq=>aO (aO hq));refine uy (QQ:=λd H2=>D.nx (Z.set i (some (.ref d))) H2) (Z_:=λacc C=>compPost (model X.prog X.w) X.A X.xe (some (assign (.Name x pos') X.env)) (λ_ s'=>SP X pins D .next s') acc C) S hc hb h2 λd C s' H' J F hm q=>?_;obtain⟨m,hm⟩:=hm;show wpAny _ _ (assign (.Name x pos') X.env (.ref d)) _ _ s';refine JO (uJ J hN hx hl (v:=.ref d) rfl (λs2 I2 ⟨a,sb,ha⟩=>?_) hf);have hCa:C≠a:=by
  rcases ha with e|e
  .rw[e];exact F.2.1
  .exact λz=>F.2.2.2.2.1 x a e z.symm
 refine⟨m,hm.sameBut sb hCa,λh' hs'=>⟨_,H',?_,q⟩⟩;exact I2.turned (t':=s2.toks) (λb o hb e=>hs'.extBut b o hb e) F.1 F.2.1 F.2.2.2.1 F.2.2.2.2.1 F.2.2.2.2.2
end
section
variable {a D:Addr} {g:TG} {tt:TT} {te:TE} {Z':St} {H1:Hp} {Q:Hp->Prop}
theorem fg (Pv:Nat->St->List V->Hp->Prop) (h0:Pv 0 Z' [] (upd H1 D (.lst []))) (hl:∀i Z ys H,i<=xs.length->Pv i Z ys H->SqL K H a xs)
  (hs:∀i x Z ys H,xs[i]?=some x->Pv i Z ys H->g x Z H (mQ tt te D ys (Pv (i+1))))
  (hd:∀Z ys H,Pv xs.length Z ys H->Q H):iX (Itl K a) g tt te D Z' H1 Q:=by
 refine⟨λi m Z ys H=>m=xs.length-i/\i<=xs.length/\Pv i Z ys H,⟨xs.length,by simp,aT _,h0⟩,?_⟩;rintro i m Z ys H ⟨rfl,hi,p⟩;have q:=hl i Z ys H hi p;by_cases hlt:i<xs.length
 .refine .inr ⟨⟨xs,xs[i],q,by simp[hlt]⟩,Pv (i+1),λZ' ys' H' p'=>⟨xs.length-(i+1),by lia,rfl,hlt,p'⟩,λx H' y=>?_⟩;obtain⟨e,y⟩:=y;subst e;exact hs i x Z ys _ (y xs q) p
 .have e:i=xs.length:=by lia
  subst e;exact .inl ⟨⟨xs,q,aC _⟩,hd Z ys H p⟩
theorem C5 (Pv:Nat->St->List V->Hp->Prop) (h0:Pv 0 Z' [] (upd H1 D (.lst []))) (hl:∀i Z ys H,i<=xs.length->Pv i Z ys H->SqT K H a xs)
  (hs:∀i x Z ys H,xs[i]?=some x->Pv i Z ys H->g x Z H (mQ tt te D ys (Pv (i+1))))
  (hd:∀Z ys H,Pv xs.length Z ys H->Q H):iX (Itt K a) g tt te D Z' H1 Q:=by
 refine⟨λi m Z ys H=>m=xs.length-i/\i<=xs.length/\Pv i Z ys H,⟨xs.length,by simp,aT _,h0⟩,?_⟩;rintro i m Z ys H ⟨rfl,hi,p⟩;have q:=hl i Z ys H hi p;by_cases hlt:i<xs.length
 .refine .inr ⟨⟨xs,xs[i],q,by simp[hlt]⟩,Pv (i+1),λZ' ys' H' p'=>⟨xs.length-(i+1),by lia,rfl,hlt,p'⟩,λx H' y=>?_⟩;obtain⟨e,y⟩:=y;subst e;exact hs i x Z ys _ (y xs q) p
 .have e:i=xs.length:=by lia
  subst e;exact .inl ⟨⟨xs,q,aC _⟩,hd Z ys H p⟩
theorem A7 {lo:Int} {n:Nat} (Pv:Nat->St->List V->Hp->Prop) (h0:Pv 0 Z' [] (upd H1 D (.lst [])))
  (hs:∀i Z ys H,i<n->Pv i Z ys H->g (.int (lo+i)) Z H (mQ tt te D ys (Pv (i+1))))
  (hd:∀Z ys H,Pv n Z ys H->Q H):iX (Itr lo n) g tt te D Z' H1 Q:=by
 refine⟨λi m Z ys H=>m=n-i/\i<=n/\Pv i Z ys H,⟨n,by simp,aT _,h0⟩,?_⟩;rintro i m Z ys H ⟨rfl,hi,p⟩;by_cases hlt:i<n
 .refine .inr ⟨hlt,Pv (i+1),λZ' ys' H' p'=>⟨n-(i+1),by lia,rfl,hlt,p'⟩,λx H' y=>?_⟩;obtain⟨e,y⟩:=y;subst e y;exact hs i Z ys _ hlt p
 .have e:i=n:=by lia
  subst e;exact .inl ⟨aC _,hd Z ys H p⟩
end
end L2
end
section
namespace TimS
open PySem PySem.W PyProof.Rows
theorem half {u w:Nat} (h:¬u ≥ w):u<=(u+w)/2/\(u+w)/2<w:=by lia
theorem half' {u w:Nat} (h:¬u ≥ w):u<=u+(w-u)/2/\u+(w-u)/2<w:=by lia
theorem fewer {u w k t m:Nat} (h:w-u<=k-t) (h1:m<w) (h2:u<=m):m-u<=k-(t+1):=by lia
theorem fewer' {u w k t m:Nat} (h:w-u<=k-t) (h1:m<w) (h2:u<=m):w-(m+1)<=k-(t+1):=by lia
abbrev SM:=StateT SortSt Sem
def gal:Bool->Keyed->Array Keyed->Nat->Nat->Nat->SM (Option Nat):=sortPriv% PySem.Builtin.gallop
def mlo:Array Keyed->Array Keyed->SM (Array Keyed):=sortPriv% PySem.Builtin.mergeLo
def mhi:Array Keyed->Array Keyed->SM (Array Keyed):=sortPriv% PySem.Builtin.mergeHi
def smg:Nat->SM Unit:=sortPriv% PySem.Builtin.setMinGallop
def bey (l:Bool) (q:Keyed) (v:Array Keyed) (o i:Nat):SM (Option Bool):=do
 let x <-elem' v (o+i)
 if l then lt' x q else return (<-lt' q x).map (!·)
theorem F2 (l:Bool) (q:Keyed) (v:Array Keyed) (o n h:Nat):gal l q v o n h=(do
 let mut z:=0
 let mut c:=1
 let mut u:=0
 let mut w:=0
 let some r <-bey l q v o h|return none
 if r then
  let m:=n-h
  for _ in [0:n] do
   if c ≥ m then break
   let some g <-bey l q v o (h+c)|return none
   if !g then break
   z:=c
   c:=2*c+1
  u:=h+z+1
  w:=h+min c m
 else
  let m:=h+1
  for _ in [0:n] do
   if c ≥ m then break
   let some g <-bey l q v o (h-c)|return none
   if g then break
   z:=c
   c:=2*c+1
  u:=h+1-min c m
  w:=h-z
 for _ in [0:n] do
  if u ≥ w then break
  let m:=u+(w-u)/2
  let some g <-bey l q v o m|return none
  if g then u:=m+1 else w:=m
 return some w):=rfl
theorem FD (x y:Array Keyed):mlo x y=(do
 rule "list.sort.merge-lo"
 let T:=x.size+y.size
 let fa (v:Array Keyed) (i j:Nat):=v++x.extract i x.size++y.extract j y.size
 let fb (v:Array Keyed) (i j:Nat):=v++y.extract j y.size++x.extract i x.size
 let mut v:Array Keyed:=#[<-elem' y 0]
 let mut i:=0
 let mut j:=1
 if j==y.size then return fa v i j
 if i+1==x.size then return fb v i j
 let mut g:=gallopOf (<-get)
 for _ in [0:T] do
  let mut c:=0
  let mut d:=0
  for _ in [0:T] do
   let some b <-lt' (<-elem' y j) (<-elem' x i)|return fa v i j
   if b then
    v:=v.push (<-elem' y j);j:=j+1;d:=d+1;c:=0
    if j==y.size then return fa v i j
    if d ≥ g then break
   else
    v:=v.push (<-elem' x i);i:=i+1;c:=c+1;d:=0
    if i+1==x.size then return fb v i j
    if c ≥ g then break
  rule "list.sort.gallop"
  g:=g+1
  for _ in [0:T] do
   if g>1 then g:=g-1
   smg g
   let some k <-gal false (<-elem' y j) x i (x.size-i) 0|return fa v i j
   c:=k
   if k>0 then
    v:=v++x.extract i (i+k);i:=i+k
    if i+1==x.size then return fb v i j
    if i==x.size then return fa v i j
   v:=v.push (<-elem' y j);j:=j+1
   if j==y.size then return fa v i j
   let some k <-gal true (<-elem' x i) y j (y.size-j) 0|return fa v i j
   d:=k
   if k>0 then
    v:=v++y.extract j (j+k);j:=j+k
    if j==y.size then return fa v i j
   v:=v.push (<-elem' x i);i:=i+1
   if i+1==x.size then return fb v i j
   if c<7&&d<7 then break
  g:=g+1
  smg g
 unsupported "internal:list.sort.merge-bound"):=rfl
def G (a:Array Keyed) (i:Nat):Keyed:=a.getD i (Value.none,Value.none)
structure Cmp (M:Model) (A:Around) (E:Value->Shared->Prop) (s:Shared) (κ:SortKind) (N:Keyed->Prop) (lt:Keyed->Keyed->Bool):Prop where
 asym:∀x y,lt x y=true->lt y x=false
 tr:∀x y z,lt y x=false->lt z y=false->lt z x=false
 ask:∀{x y:Keyed} {st:SortSt} {Q:Option Bool->SortSt->Prop},N x->N y->kindOf st=κ->Q (some (lt x y)) st->wpS M A E s (lt' x y) Q st
section
variable {M:Model} {κ:SortKind} {N:Keyed->Prop} {lt:Keyed->Keyed->Bool}
theorem pd {a:Array Keyed} {i:Nat} (h:i<a.size):a[i]?=some (G a i):=by simp[G,Array.getD,h]
theorem bE {α:Type} {c:Prop} [Decidable c] {t e:StateT SortSt Sem α} {Q:α->SortSt->Prop} {st:SortSt} (h:c) (q:wpS M A E s t Q st):wpS M A E s (if c then t else e) Q st:=by rw[K3 h];exact q
theorem bo {α:Type} {c:Prop} [Decidable c] {t e:StateT SortSt Sem α} {Q:α->SortSt->Prop} {st:SortSt} (h:¬c) (q:wpS M A E s e Q st):wpS M A E s (if c then t else e) Q st:=by rw[K2 h];exact q
theorem cW {a:Array Keyed} {i:Nat} {Q:Keyed->SortSt->Prop} {st:SortSt} (h:i<a.size) (q:Q (G a i) st):wpS M A E s (elem' a i) Q st:=by rw[elem'_eq,pd h];exact aG q
theorem Cmp.refl (C:Cmp M A E s κ N lt) (x:Keyed):lt x x=false:=by
 cases h:lt x x with
 |false=>rfl
 |true=>have z:=C.asym x x h;rw[h] at z;cases z
theorem Cmp.ltle (C:Cmp M A E s κ N lt) {x y z:Keyed} (h:lt x y=true) (h2:lt z y=false):lt x z=true:=by
 cases q:lt x z with
 |true=>rfl
 |false=>have:=C.tr _ _ _ h2 q;rw[h] at this;cases this
theorem Cmp.lelt (C:Cmp M A E s κ N lt) {x y z:Keyed} (h:lt y x=false) (h2:lt y z=true):lt x z=true:=by
 cases q:lt x z with
 |true=>rfl
 |false=>have:=C.tr _ _ _ q h;rw[h2] at this;cases this
theorem jx {x:String} {Q:Unit->SortSt->Prop} {st:SortSt} (h:Q () st):wpS M A E s (liftM (rule x):SM Unit) Q st:=wpS_lift (zY ⟨rfl,h⟩)
def bv (lt:Keyed->Keyed->Bool) (l:Bool) (q:Keyed) (v:Array Keyed) (o i:Nat):Bool:=if l then lt (G v (o+i)) q else !lt q (G v (o+i))
theorem jG (C:Cmp M A E s κ N lt) {l:Bool} {q:Keyed} {v:Array Keyed} {o i:Nat} {st:SortSt} {Q:Option Bool->SortSt->Prop} (hN:∀i,i<v.size->N (G v i)) (hq:N q) (hi:o+i<v.size) (hk:kindOf st=κ) (h:Q (some (bv lt l q v o i)) st):wpS M A E s (bey l q v o i) Q st:=by
 unfold bey;refine az (cW hi ?_);cases l with
 |true=>exact C.ask (hN _ hi) hq hk h
 |false=>exact az (C.ask hq (hN _ hi) hk (aG h))
theorem jF {l:Bool} {q:Keyed} {v:Array Keyed} {o n h:Nat} {st:SortSt} {Q:Option Nat->SortSt->Prop} (b:Nat->Bool) (hb:∀i,i<n->∀Q:Option Bool->SortSt->Prop,Q (some (b i)) st->wpS M A E s (bey l q v o i) Q st)
  (mo:∀i j,i<=j->j<n->b j=true->b i=true) (hh:h<n) (hQ:∀k,k<=n->(∀i,i<k->b i=true)->(∀i,k<=i->i<n->b i=false)->Q (some k) st):wpS M A E s (gal l q v o n h) Q st:=by
 have mf:∀i j,i<=j->j<n->b i=false->b j=false:=λi j a c d=>by
  cases e:b j with
  |false=>rfl
  |true=>rw[mo i j a c e] at d;cases d
 have tail:∀(u w:Nat),u<=w->w<=n->(∀i,i<u->b i=true)->(∀i,w<=i->i<n->b i=false)->wpS M A E s (do
   let mut u:=u
   let mut w:=w
   for _ in [0:n] do
    if u ≥ w then break
    let m:=u+(w-u)/2
    let some g <-bey l q v o m|return none
    if g then u:=m+1 else w:=m
   return some w) Q st:=by
  intro u w h1 h2 h3 h4;dsimp only;refine az (eQ (eL (I:=λi x st'=>st'=st/\x.1=none/\x.2.1<=x.2.2/\x.2.2<=n/\x.2.2-x.2.1<=n-i/\(∀i,i<x.2.1->b i=true)/\(∀i,x.2.2<=i->i<n->b i=false)) (Q:=λx st'=>st'=st/\x.1=none/\x.2.1=x.2.2/\x.2.2<=n/\(∀i,i<x.2.1->b i=true)/\(∀i,x.2.2<=i->i<n->b i=false)) ?step ?fin ⟨rfl,rfl,h1,h2,by show w-u<=n-0;lia,h3,h4⟩) ?post)
  case fin=>
   rintro⟨r,u,w⟩ st' ⟨rfl,e,a1,a2,a3,a4,a5⟩;have a1:u<=w:=a1;have a3:w-u<=n-max 0 n:=a3;exact⟨rfl,e,by show u=w;lia,a2,a4,a5⟩
  case step=>
   rintro i ⟨r,u,w⟩ st' _ hi ⟨rfl,e,a1,a2,a3,a4,a5⟩;have a1:u<=w:=a1;have a2:w<=n:=a2;have a3:w-u<=n-i:=a3;have a4:∀i,i<u->b i=true:=a4;have a5:∀i,w<=i->i<n->b i=false:=a5;dsimp only;by_cases c:u ≥ w
   .refine bE c ?_;exact aG ⟨rfl,rfl,by show u=w;lia,a2,a4,a5⟩
   .refine bo c ?_;obtain⟨m1,m2⟩:=half' c;generalize u+(w-u)/2=m at m1 m2 |-;refine az (hb _ (c_ m2 a2) _ ?_);dsimp only;cases hm:b m with
    |true=>
     refine bE rfl ?_;exact aG ⟨rfl,rfl,m2,a2,fewer' a3 m2 m1,λk hk=>mo k m (I0 hk) (c_ m2 a2) hm,a5⟩
    |false=>
     refine bo (by decide) ?_;exact aG ⟨rfl,rfl,m1,nk (c_ m2 a2),fewer a3 m2 m1,a4,λk hk h'=>mf _ k hk h' hm⟩
  case post=>
   rintro⟨r,u,w⟩ st' ⟨rfl,e,a1,a2,a3,a4⟩;have e:r=none:=e;cases e;cases (show u=w from a1);exact aG (hQ u a2 a3 a4)
 rw[F2];dsimp only;refine az (hb h hh _ ?_);dsimp only;cases b0:b h with
 |true=>
  refine bE rfl ?_;refine az (eQ (eL (β:=Option (Option Nat)×Nat×Nat) (I:=λi x st'=>st'=st/\x.1=none/\b (h+x.2.1)=true/\h+x.2.1<n/\x.2.1<x.2.2/\i<x.2.2) (Q:=λx st'=>st'=st/\x.1=none/\b (h+x.2.1)=true/\h+x.2.1<n/\x.2.1<x.2.2/\(x.2.2 ≥ n-h\/b (h+x.2.2)=false)) ?s1 ?f1 ⟨rfl,rfl,b0,hh,ji 0,ji 0⟩) ?p1)
  case f1=>
   rintro⟨r,z,c⟩ st' ⟨rfl,e,a1,a2,a3,a4⟩;have a4:max 0 n<c:=a4;exact⟨rfl,e,a1,a2,a3,.inl (by show c ≥ n-h;lia)⟩
  case s1=>
   rintro i ⟨r,z,c⟩ st' _ hi ⟨rfl,e,a1,a2,a3,a4⟩;have a1:b (h+z)=true:=a1;have a2:h+z<n:=a2;have a3:z<c:=a3;have a4:i<c:=a4;dsimp only;by_cases c1:c ≥ n-h
   .exact bE c1 (aG ⟨rfl,rfl,a1,a2,a3,.inl c1⟩)
   .refine bo c1 ?_;refine az (hb _ (by lia) _ ?_);dsimp only;cases hm:b (h+c) with
    |true=>
     refine bo (by decide) ?_;exact aG ⟨rfl,rfl,hm,by show h+c<n;lia,by show c<2*c+1;lia,by show i+1<2*c+1;lia⟩
    |false=>
     refine bE (by decide) ?_;exact aG ⟨rfl,rfl,a1,a2,a3,.inr hm⟩
  case p1=>
   rintro⟨r,z,c⟩ st' ⟨rfl,e,a1,a2,a3,a4⟩;have e:r=none:=e;subst e;have a1:b (h+z)=true:=a1;have a2:h+z<n:=a2;have a3:z<c:=a3;have a4:c ≥ n-h\/b (h+c)=false:=a4;dsimp only;refine tail (h+z+1) (h+min c (n-h)) (by lia) (by lia) (λi hi=>mo i (h+z) (by lia) a2 a1) (λi hi hn=>?_);rcases a4 with a4|a4
   .lia
   .by_cases c1:c ≥ n-h
    .lia
    .exact mf (h+c) i (by lia) hn a4
 |false=>
  refine bo (by decide) ?_;refine az (eQ (eL (β:=Option (Option Nat)×Nat×Nat) (I:=λi x st'=>st'=st/\x.1=none/\b (h-x.2.1)=false/\x.2.1<=h/\x.2.1<x.2.2/\i<x.2.2) (Q:=λx st'=>st'=st/\x.1=none/\b (h-x.2.1)=false/\x.2.1<=h/\x.2.1<x.2.2/\(x.2.2 ≥ h+1\/b (h-x.2.2)=true)) ?s2 ?f2 ⟨rfl,rfl,b0,aT _,ji 0,ji 0⟩) ?p2)
  case f2=>
   rintro⟨r,z,c⟩ st' ⟨rfl,e,a1,a2,a3,a4⟩;have a4:max 0 n<c:=a4;exact⟨rfl,e,a1,a2,a3,.inl (by show c ≥ h+1;lia)⟩
  case s2=>
   rintro i ⟨r,z,c⟩ st' _ hi ⟨rfl,e,a1,a2,a3,a4⟩;have a1:b (h-z)=false:=a1;have a2:z<=h:=a2;have a3:z<c:=a3;have a4:i<c:=a4;dsimp only;by_cases c1:c ≥ h+1
   .exact bE c1 (aG ⟨rfl,rfl,a1,a2,a3,.inl c1⟩)
   .refine bo c1 ?_;refine az (hb _ (by lia) _ ?_);dsimp only;cases hm:b (h-c) with
    |true=>
     refine bE rfl ?_;exact aG ⟨rfl,rfl,a1,a2,a3,.inr hm⟩
    |false=>
     refine bo (by decide) ?_;exact aG ⟨rfl,rfl,hm,by show c<=h;lia,by show c<2*c+1;lia,by show i+1<2*c+1;lia⟩
  case p2=>
   rintro⟨r,z,c⟩ st' ⟨rfl,e,a1,a2,a3,a4⟩;have e:r=none:=e;subst e;have a1:b (h-z)=false:=a1;have a2:z<=h:=a2;have a3:z<c:=a3;have a4:c ≥ h+1\/b (h-c)=true:=a4;dsimp only;refine tail (h+1-min c (h+1)) (h-z) (by lia) (by lia) (λi hi=>?_) (λi hi hn=>mf (h-z) i (by lia) hn a1);rcases a4 with a4|a4
   .lia
   .by_cases c1:c ≥ h+1
    .lia
    .exact mo i (h-c) (by lia) (by lia) a4
end
theorem FE (x y:Array Keyed):mhi x y=(do
 rule "list.sort.merge-hi"
 let T:=x.size+y.size
 let fa (v:Array Keyed) (i j:Nat):=x.extract 0 i++y.extract 0 j++v.reverse
 let fb (v:Array Keyed) (i j:Nat):=y.extract 0 j++x.extract 0 i++v.reverse
 let mut i:=x.size-1
 let mut j:=y.size
 let mut v:Array Keyed:=#[<-elem' x i]
 if i==0 then return fa v i j
 if j==1 then return fb v i j
 let mut g:=gallopOf (<-get)
 for _ in [0:T] do
  let mut c:=0
  let mut d:=0
  for _ in [0:T] do
   let some b <-lt' (<-elem' y (j-1)) (<-elem' x (i-1))|return fa v i j
   if b then
    i:=i-1;v:=v.push (<-elem' x i);c:=c+1;d:=0
    if i==0 then return fa v i j
    if c ≥ g then break
   else
    j:=j-1;v:=v.push (<-elem' y j);d:=d+1;c:=0
    if j==1 then return fb v i j
    if d ≥ g then break
  rule "list.sort.gallop"
  g:=g+1
  for _ in [0:T] do
   if g>1 then g:=g-1
   smg g
   let some p <-gal false (<-elem' y (j-1)) x 0 i (i-1)|return fa v i j
   let k:=i-p
   c:=k
   if k>0 then
    v:=v++(x.extract p i).reverse;i:=p
    if i==0 then return fa v i j
   j:=j-1;v:=v.push (<-elem' y j)
   if j==1 then return fb v i j
   let some p <-gal true (<-elem' x (i-1)) y 0 j (j-1)|return fa v i j
   let k:=j-p
   d:=k
   if k>0 then
    v:=v++(y.extract p j).reverse;j:=p
    if j==1 then return fb v i j
    if j==0 then return fa v i j
   i:=i-1;v:=v.push (<-elem' x i)
   if i==0 then return fa v i j
   if c<7&&d<7 then break
  g:=g+1
  smg g
 unsupported "internal:list.sort.merge-bound"):=rfl
theorem E4 (g:Nat):smg g=modify λs=>SortSt.mk' (kindOf s) (arrOf s) (pendingOf s) g (failedOf s):=rfl
theorem FF (i:Nat):mergeAt' i=(do
 let s <-get
 let (some (p,m,e),some (q,n,_)):=((pendingOf s)[i]?,(pendingOf s)[i+1]?)|unsupported "internal:list.sort.pending"
 set (setPending s (((pendingOf s).setIfInBounds i (p,m+n,e)).eraseIdxIfInBounds (i+1)))
 let some k <-gal false (<-elem' (arrOf s) q) (arrOf s) p m 0|return false
 let (p,m):=(p+k,m-k)
 if m==0 then return true
 let some n <-gal true (<-elem' (arrOf s) (p+m-1)) (arrOf s) q n (n-1)|return false
 if n==0 then return true
 let x:=(arrOf s).extract p q
 let y:=(arrOf s).extract q (q+n)
 let r <-if m<=n then mlo x y else mhi x y
 modify λs=>setArr s (r.toList.zipIdx.foldl (λa (z,j)=>a.setIfInBounds (p+j) z) (arrOf s))
 return (failedOf (<-get)).isNone):=rfl
section
variable {M:Model} {κ:SortKind} {N:Keyed->Prop} {lt:Keyed->Keyed->Bool}
def Asc (lt:Keyed->Keyed->Bool) (x:Array Keyed):Prop:=∀i j,i<=j->j<x.size->lt (G x j) (G x i)=false
def Srt (lt:Keyed->Keyed->Bool) (l:List Keyed):Prop:=l.Pairwise λa b=>lt b a=false
structure MI (lt:Keyed->Keyed->Bool) (x y v:Array Keyed) (i j:Nat):Prop where
 ix:i<=x.size
 jy:j<=y.size
 pm:v.toList.Perm (x.toList.take i++y.toList.take j)
 so:Srt lt v.toList
 bx:∀a∈v.toList,∀k,i<=k->k<x.size->lt (G x k) a=false
 by_:∀a∈v.toList,∀k,j<=k->k<y.size->lt (G y k) a=false
def Good (lt:Keyed->Keyed->Bool) (x y v:Array Keyed):Prop:=v.toList.Perm (x.toList++y.toList)/\Srt lt v.toList
theorem MI.sw {x y v:Array Keyed} {i j:Nat} (h:MI lt x y v i j):MI lt y x v j i:=⟨h.jy,h.ix,h.pm.trans cR,h.so,h.by_,h.bx⟩
theorem EG {x:Array Keyed} {i:Nat} (h:i<x.size):x.toList.take (i+1)=x.toList.take i++[G x i]:=by rw[cU,Array.getElem?_toList,pd h];rfl
theorem MI.push {x y v:Array Keyed} {i j:Nat} (hx:Asc lt x) (h:MI lt x y v i j) (hi:i<x.size) (hy:∀k,j<=k->k<y.size->lt (G y k) (G x i)=false):MI lt x y (v.push (G x i)) (i+1) j:=by
 refine⟨hi,h.jy,?_,?_,λa ha k h1 h2=>?_,λa ha k h1 h2=>?_⟩
 .rw[Array.toList_push,EG hi,bH];refine (h.pm.append_right _).trans ?_;rw[bH];exact gC _ cR
 .unfold Srt;rw[Array.toList_push,tM];refine⟨h.so,pU _ _,λa ha b hb=>?_⟩;rw[aR.mp hb];exact h.bx a ha i (aC _) hi
 .rw[Array.toList_push] at ha;rcases ay.mp ha with ha|ha
  .exact h.bx a ha k (by lia) h2
  .rw[aR.mp ha];exact hx i k (by lia) h2
 .rw[Array.toList_push] at ha;rcases ay.mp ha with ha|ha
  .exact h.by_ a ha k h1 h2
  .rw[aR.mp ha];exact hy k h1 h2
theorem yp {x v:Array Keyed} {i k:Nat} (h:i+k<x.size):v++x.extract i (i+(k+1))=(v++x.extract i (i+k)).push (G x (i+k)):=by
 apply Array.toList_inj.mp;rw[Array.toList_push,Array.toList_append,Array.toList_append,Array.toList_extract,Array.toList_extract,tF,tF,bH]
 congr 1
 rw[show i+(k+1)-i=k+1 by lia,show i+k-i=k by lia,cU,tI,Array.getElem?_toList,pd h];rfl
theorem MI.chunk {x y v:Array Keyed} {i j:Nat} (hx:Asc lt x) (h:MI lt x y v i j):∀(k:Nat),i+k<=x.size->(∀m,m<k->∀k',j<=k'->k'<y.size->lt (G y k') (G x (i+m))=false)->MI lt x y (v++x.extract i (i+k)) (i+k) j
 |0,_,_=>by
  have e:v++x.extract i (i+0)=v:=by apply Array.toList_inj.mp;simp
  rw[e];exact h
 |k+1,hk,hm=>by
  rw[yp (by lia)];exact (MI.chunk hx h k (by lia) λm hm'=>hm m (by lia)).push hx (by lia) (hm k (ji _))
theorem MI.fin {x y v:Array Keyed} (h:MI lt x y v x.size y.size):Good lt x y v:=by
 refine⟨?_,h.so⟩;have:=h.pm
 rwa [gG (by simp),gG (by simp)] at this
theorem MI.fa {x y v:Array Keyed} {i j:Nat} (hx:Asc lt x) (hy:Asc lt y) (h:MI lt x y v i j) (hr:∀m,i<=m->m<x.size->∀k,j<=k->k<y.size->lt (G y k) (G x m)=false):Good lt x y (v++x.extract i x.size++y.extract j y.size):=by have hi:=h.ix;have hj:=h.jy;have a1:=MI.chunk hx h (x.size-i) (by lia) λm hm k h1 h2=>hr _ (by lia) (by lia) k h1 h2;rw[show i+(x.size-i)=x.size by lia] at a1;have a2:=MI.chunk hy a1.sw (y.size-j) (by lia) λm hm k h1 h2=>absurd h1 (by lia);rw[show j+(y.size-j)=y.size by lia] at a2;exact a2.sw.fin
theorem Good.sw {x y v:Array Keyed} (h:Good lt y x v):Good lt x y v:=⟨h.1.trans cR,h.2⟩
def Fr (st st':SortSt):Prop:=kindOf st'=kindOf st/\arrOf st'=arrOf st/\pendingOf st'=pendingOf st/\failedOf st'=failedOf st
theorem oF {g:Nat} {st st':SortSt} {Q:Unit->SortSt->Prop} (f:Fr st st') (h:∀st'',Fr st st''->Q () st''):wpS M A E s (smg g) Q st':=by rw[E4];exact iK (h _ f)
structure J (lt:Keyed->Keyed->Bool) (x y:Array Keyed) (st:SortSt) (lo:Nat) (r:Option (Array Keyed)) (v:Array Keyed) (i j:Nat) (st':SortSt):Prop where
 f:Fr st st'
 yes:∀a,r=some a->Good lt x y a
 no:r=none->MI lt x y v i j/\i+1<x.size/\j<y.size/\lo<=i+j
theorem J.on {x y:Array Keyed} {st st':SortSt} {lo i j:Nat} {v:Array Keyed} (f:Fr st st') (h:MI lt x y v i j) (hi:i+1<x.size) (hj:j<y.size) (hl:lo<=i+j):J lt x y st lo none v i j st':=⟨f,λ_ z=>(nomatch z),λ_=>⟨h,hi,hj,hl⟩⟩
theorem J.end_ {x y:Array Keyed} {st st':SortSt} {lo i j:Nat} {v a:Array Keyed} (f:Fr st st') (h:Good lt x y a):J lt x y st lo (some a) v i j st':=⟨f,λ_ z=>cH z ▸ h,λz=>(nomatch z)⟩
theorem Ez (C:Cmp M A E s κ N lt) {x y:Array Keyed} {st:SortSt} {Q:Array Keyed->SortSt->Prop} (hk:kindOf st=κ) (Nx:∀i,i<x.size->N (G x i)) (Ny:∀i,i<y.size->N (G y i)) (hx:Asc lt x) (hy:Asc lt y) (h0:0<x.size) (h1:0<y.size)
  (hb:lt (G y 0) (G x 0)=true) (hl:∀j,j<y.size->lt (G y j) (G x (x.size-1))=true) (q:∀r st',Fr st st'->Good lt x y r->Q r st'):wpS M A E s (mlo x y) Q st:=by
 have m0:MI lt x y #[G y 0] 0 1:=by have z:MI lt y x #[] 0 0:=⟨aT _,aT _,by simp,List.Pairwise.nil,by simp,by simp⟩;exact (z.push hy h1 λk _ hk'=>C.tr _ _ _ (C.asym _ _ hb) (hx 0 k (aT _) hk')).sw
 have fa:∀{v:Array Keyed} {i j:Nat},MI lt x y v i j->j=y.size\/i=x.size->Good lt x y (v++x.extract i x.size++y.extract j y.size):=λ{v i j} m e=>m.fa hx hy λa h2 h3 b h4 h5=>absurd e (by lia);have fb:∀{v:Array Keyed} {i j:Nat},MI lt x y v i j->i+1=x.size->Good lt x y (v++y.extract j y.size++x.extract i x.size):=λ{v i j} m e=>(m.sw.fa hy hx λa h2 h3 b h4 h5=>by
  rw[show b=x.size-1 by lia];exact C.asym _ _ (hl a h3)).sw
 have eqt:∀{a b:Nat},(a==b)=true->a=b:=λh=>by simpa using h
 have eqf:∀{a b:Nat},¬(a==b)=true->a≠b:=λh=>by simpa using h
 rw[FD];dsimp only;refine az (jx (az (cW h1 ?_)));by_cases e1:(1==y.size)=true
 .exact bE e1 (aG (q _ _ ⟨rfl,rfl,rfl,rfl⟩ (fa m0 (.inl (eqt e1)))))
 refine bo e1 ?_;by_cases e2:(0+1==x.size)=true
 .exact bE e2 (aG (q _ _ ⟨rfl,rfl,rfl,rfl⟩ (fb m0 (eqt e2))))
 refine bo e2 ?_;have e1:=eqf e1;have e2:=eqf e2;have j0:=J.on (lo:=0) (show Fr st st from ⟨rfl,rfl,rfl,rfl⟩) m0 (by lia) (by lia) (aT _);refine az (hU (az (eQ (eL (β:=Option (Array Keyed)×Array Keyed×Nat×Nat×Nat) (I:=λt z st'=>z.1=none/\J lt x y st t none z.2.1 z.2.2.1 z.2.2.2.1 st') (Q:=λz st'=>J lt x y st (x.size+y.size) z.1 z.2.1 z.2.2.1 z.2.2.2.1 st') ?step ?fin ⟨rfl,j0⟩) ?post)))
 case fin=>
  rintro⟨r,v,i,j,g⟩ st' ⟨e,h⟩;have e:r=none:=e;subst e;exact⟨h.f,h.yes,λz=>by
   obtain⟨a1,a2,a3,a4⟩:=h.no z;exact⟨a1,a2,a3,by rw[tS (aT _)] at a4;exact a4⟩⟩
 case post=>
  rintro⟨r,v,i,j,g⟩ st' h;cases r with
  |some r=>exact aG (q _ _ h.f (h.yes _ rfl))
  |none=>
   obtain⟨_,a2,a3,a4⟩:=h.no rfl;have a2:i+1<x.size:=a2;have a3:j<y.size:=a3;have a4:x.size+y.size<=i+j:=a4;lia
 case step=>
  rintro t ⟨r,v,i,j,g⟩ st1 _ ht ⟨e,h⟩;have e:r=none:=e;subst e;dsimp only at h |-;refine az (eQ (eL (β:=Option (Array Keyed)×Array Keyed×Nat×Nat×Nat×Nat) (I:=λk z st'=>z.1=none/\J lt x y st (t+k) none z.2.1 z.2.2.1 z.2.2.2.1 st') (Q:=λz st'=>J lt x y st (t+1) z.1 z.2.1 z.2.2.1 z.2.2.2.1 st') ?s1 ?f1 ⟨rfl,h⟩) ?p1)
  case f1=>
   rintro⟨r,v,i,j,c,d⟩ st' ⟨e,h⟩;have e:r=none:=e;subst e;exact⟨h.f,h.yes,λz=>by
    obtain⟨a1,a2,a3,a4⟩:=h.no z;exact⟨a1,a2,a3,by rw[tS (aT _)] at a4;lia⟩⟩
  case s1=>
   rintro k ⟨r,v,i,j,c,d⟩ st' _ hk' ⟨e,h⟩;obtain⟨m,a2,a3,a4⟩:=h.no rfl;have f:=h.f;clear h e;dsimp only at m a2 a3 a4 |-;refine az (cW a3 (az (cW (by lia) (az (C.ask (Ny _ a3) (Nx _ (by lia)) (f.1.trans hk) ?_)))));dsimp only;cases hc:lt (G y j) (G x i) with
   |true=>
    refine bE rfl ?_;have m':=(m.sw.push hy a3 λk h2 h3=>C.tr _ _ _ (C.asym _ _ hc) (hx i k h2 h3)).sw;refine az (cW a3 ?_)
    split
    .rename_i e;exact aG (J.end_ f (fa m' (.inl (eqt e))))
    .rename_i e;have e:=eqf e;have j1:=J.on (lo:=t+1) f m' a2 (by lia) (by lia);have j2:=J.on (lo:=t+(k+1)) f m' a2 (by lia) (by lia)
     split
     .exact aG j1
     .exact aG ⟨rfl,j2⟩
   |false=>
    refine bo (by decide) ?_;have m':=m.push hx (by lia) λk h2 h3=>C.tr _ _ _ hc (hy j k h2 h3);refine az (cW (by lia) ?_)
    split
    .rename_i e;exact aG (J.end_ f (fb m' (eqt e)))
    .rename_i e;have e:=eqf e;have j1:=J.on (lo:=t+1) f m' (by lia) a3 (by lia);have j2:=J.on (lo:=t+(k+1)) f m' (by lia) a3 (by lia)
     split
     .exact aG j1
     .exact aG ⟨rfl,j2⟩
  case p1=>
   rintro⟨r,v,i,j,c,d⟩ st' h;cases r with
   |some r=>exact aG ⟨h.f,h.yes,λz=>nomatch z⟩
   |none=>
   dsimp only at h |-;refine az (jx (az (eQ (eL (β:=Option (Array Keyed)×Array Keyed×Nat×Nat×Nat×Nat×Nat) (I:=λk z st'=>z.1=none/\J lt x y st (t+1) none z.2.1 z.2.2.1 z.2.2.2.1 st') (Q:=λz st'=>J lt x y st (t+1) z.1 z.2.1 z.2.2.1 z.2.2.2.1 st') ?s2 ?f2 ⟨rfl,h⟩) ?p2)))
   case f2=>
    rintro⟨r,v,i,j,g,c,d⟩ st' ⟨e,h⟩;have e:r=none:=e;subst e;exact h
   case p2=>
    rintro⟨r,v,i,j,g,c,d⟩ st' h;cases r with
    |some r=>exact aG ⟨h.f,h.yes,λz=>nomatch z⟩
    |none=>exact az (oF h.f λst'' f'=>aG ⟨rfl,f',λ_ z=>(nomatch z),h.no⟩)
   case s2=>
    rintro k ⟨r,v,i,j,g,c,d⟩ st2 _ hk' ⟨e,h⟩;obtain⟨m,a2,a3,a4⟩:=h.no rfl;have f:=h.f;clear h e;dsimp only at m a2 a3 a4 |-;have tl:∀{o:Nat},bv lt false (G y j) x i o=true->lt (G y j) (G x (i+o))=false:=λh=>by simpa [bv] using h
    have fl:∀{o:Nat},bv lt false (G y j) x i o=false->lt (G y j) (G x (i+o))=true:=λh=>by simpa [bv] using h
    by_cases hg:g>1;refine bE hg ?_
    rotate_left
    refine bo hg ?_
    all_goals
     refine az (oF f λst3 f3=>az (cW a3 (az (jF (bv lt false (G y j) x i) (λo ho Q' q'=>jG C Nx (Ny _ a3) (by lia) (f3.1.trans hk) q') (λo p ho hp hb'=>?_) (by lia) λk hk1 hk2 hk3=>?_))))
     .cases hc:lt (G y j) (G x (i+o)) with
      |false=>show (!lt _ _)=true;rw[hc];rfl
      |true=>have:=C.ltle hc (hx (i+o) (i+p) (by lia) (by lia));rw[tl hb'] at this;cases this
     dsimp only;have m1:=m.chunk hx k (by lia) λo ho k' h2 h3=>C.tr _ _ _ (tl (hk2 o ho)) (hy j k' h2 h3);have nx1:i+k<x.size->lt (G y j) (G x (i+k))=true:=λz=>fl (hk3 k (aC _) (by lia));have i0:t+1<=i+k+j:=by lia
     by_cases hk0:k>0;refine bE hk0 ?_;by_cases c1:(i+k+1==x.size)=true
     .exact bE c1 (aG (J.end_ f3 (fb m1 (eqt c1))))
     refine bo c1 ?_;by_cases c2:(i+k==x.size)=true
     .exact bE c2 (aG (J.end_ f3 (fa m1 (.inr (eqt c2)))))
     refine bo c2 ?_;have c1:=eqf c1;have c2:=eqf c2;have b2:i+k+1<x.size:=by lia
     have n1:=nx1 (by lia);generalize i+k=i1 at m1 b2 n1 i0 |-;generalize v++x.extract i i1=v1 at m1 |-
     rotate_left
     refine bo hk0 ?_;have b2:=a2;have n1:=nx1 (by lia);have m1:=m;have i0:=a4;rw[show i+k=i by lia] at n1;clear nx1;generalize i=i1 at m1 b2 n1 i0 |-;generalize v=v1 at m1 |-
     all_goals
      have m2:=(m1.sw.push hy a3 λk h2 h3=>C.tr _ _ _ (C.asym _ _ n1) (hx i1 k h2 h3)).sw;refine az (cW a3 ?_);by_cases c3:(j+1==y.size)=true
      .exact bE c3 (aG (J.end_ f3 (fa m2 (.inl (eqt c3)))))
      refine bo c3 ?_;have c3:=eqf c3;refine az (cW (by lia) (az (jF (bv lt true (G x i1) y (j+1)) (λo ho Q' q'=>jG C Ny (Nx _ (by lia)) (by lia) (f3.1.trans hk) q') (λo p ho hp hb'=>C.lelt (hy _ _ (by lia) (by lia)) hb') (by lia) λk' hk1' hk2' hk3'=>?_)));dsimp only;have m3:=(m2.sw.chunk hy k' (by lia) λo ho k'' h2 h3=>C.tr _ _ _ (C.asym _ _ (hk2' o ho)) (hx i1 k'' h2 h3)).sw;have ny1:j+1+k'<y.size->lt (G y (j+1+k')) (G x i1)=false:=λz=>hk3' k' (aC _) (by lia);have j0:j<=j+1+k':=by lia
      by_cases hk0':k'>0;refine bE hk0' ?_;by_cases c4:(j+1+k'==y.size)=true
      .exact bE c4 (aG (J.end_ f3 (fa m3 (.inl (eqt c4)))))
      refine bo c4 ?_;have c4:=eqf c4;have b3:j+1+k'<y.size:=by lia
      have n2:=ny1 b3;generalize j+1+k'=j1 at m3 b3 n2 j0 |-;generalize v1.push (G y j)++y.extract (j+1) j1=v3 at m3 |-
      rotate_left
      refine bo hk0' ?_;have b3:j+1<y.size:=by lia
      have n2:=ny1 (by lia);have m3:=m2;have j0:j<=j+1:=pY _;rw[show j+1+k'=j+1 by lia] at n2;clear ny1 hk1' hk2' hk3' c3;generalize j+1=j1 at m3 b3 n2 j0 |-;generalize v1.push (G y j)=v3 at m3 |-
      all_goals
       have m4:=m3.push hx (by lia) λk h2 h3=>C.tr _ _ _ n2 (hy j1 k h2 h3);refine az (cW (by lia) ?_);by_cases c5:(i1+1+1==x.size)=true
       .exact bE c5 (aG (J.end_ f3 (fb m4 (eqt c5))))
       refine bo c5 ?_;have c5:=eqf c5;have j2:=J.on (lo:=t+1) f3 m4 (by lia) b3 (by lia)
       split
       .exact aG j2
       .exact aG ⟨rfl,j2⟩
end
section
variable {M:Model} {κ:SortKind} {N:Keyed->Prop} {lt:Keyed->Keyed->Bool}
structure HI (lt:Keyed->Keyed->Bool) (x y v:Array Keyed) (i j:Nat):Prop where
 ix:i<=x.size
 jy:j<=y.size
 pm:v.toList.Perm (x.toList.drop i++y.toList.drop j)
 so:v.toList.Pairwise λa b=>lt a b=false
 bx:∀a∈v.toList,∀k,k<i->lt a (G x k)=false
 by_:∀a∈v.toList,∀k,k<j->lt a (G y k)=false
theorem HI.sw {x y v:Array Keyed} {i j:Nat} (h:HI lt x y v i j):HI lt y x v j i:=⟨h.jy,h.ix,h.pm.trans cR,h.so,h.by_,h.bx⟩
theorem F_ {x:Array Keyed} {i:Nat} (h:i<x.size):x.toList.drop i=G x i::x.toList.drop (i+1):=by rw[eZ (by simpa using h)];simp[G,h]
theorem HI.push {x y v:Array Keyed} {i j:Nat} (hx:Asc lt x) (h:HI lt x y v (i+1) j) (hy:∀k,k<j->lt (G x i) (G y k)=false):HI lt x y (v.push (G x i)) i j:=by
 have hi:=h.ix;refine⟨by lia,h.jy,?_,?_,λa ha k h1=>?_,λa ha k h1=>?_⟩
 .rw[Array.toList_push,F_ (show i<x.size by lia)];exact (cR.trans (List.Perm.cons _ h.pm))
 .rw[Array.toList_push,tM];refine⟨h.so,pU _ _,λa ha b hb=>?_⟩;rw[aR.mp hb];exact h.bx a ha i (ji _)
 .rw[Array.toList_push] at ha;rcases ay.mp ha with ha|ha
  .exact h.bx a ha k (by lia)
  .rw[aR.mp ha];exact hx k i (by lia) (by lia)
 .rw[Array.toList_push] at ha;rcases ay.mp ha with ha|ha
  .exact h.by_ a ha k h1
  .rw[aR.mp ha];exact hy k h1
theorem Hm {x v:Array Keyed} {p k:Nat} (h:p+k<x.size):v++(x.extract p (p+(k+1))).reverse=v.push (G x (p+k))++(x.extract p (p+k)).reverse:=by have e:=yp (v:=#[]) h;simp only[Array.empty_append] at e;rw[e];apply Array.toList_inj.mp;simp
theorem HI.chunk {x y:Array Keyed} {p j:Nat} (hx:Asc lt x):∀(k:Nat) {v:Array Keyed},HI lt x y v (p+k) j->(∀m,m<k->∀k',k'<j->lt (G x (p+m)) (G y k')=false)->HI lt x y (v++(x.extract p (p+k)).reverse) p j
 |0,v,h,_=>by
  have e:v++(x.extract p (p+0)).reverse=v:=by apply Array.toList_inj.mp;simp
  rw[e];exact h
 |k+1,v,h,hm=>by
  have hi:=h.ix;rw[Hm (by lia)];exact HI.chunk hx k (h.push hx (hm k (ji _))) λm hm'=>hm m (by lia)
theorem HI.fa {x y v:Array Keyed} {i j:Nat} (hx:Asc lt x) (hy:Asc lt y) (h:HI lt x y v i j) (hr:∀m,m<j->∀k,k<i->lt (G y m) (G x k)=false):Good lt x y (x.extract 0 i++y.extract 0 j++v.reverse):=by
 have a1:=HI.chunk (p:=0) hy j (by rw[nC];exact h.sw) λm hm k hk=>by rw[nC];exact hr m hm k hk
 have a2:=HI.chunk (p:=0) hx i (by rw[nC];exact a1.sw) λm hm k hk=>absurd hk (Ja _);rw[nC,nC] at a2;have e:(x.extract 0 i++y.extract 0 j++v.reverse)=(v++(y.extract 0 j).reverse++(x.extract 0 i).reverse).reverse:=by apply Array.toList_inj.mp;simp
 rw[e];refine⟨?_,?_⟩
 .rw[Array.toList_reverse];have:=a2.pm;simp only[m7] at this;exact (j8 _).trans this
 .unfold Srt;rw[Array.toList_reverse,List.pairwise_reverse];exact a2.so
structure JH (lt:Keyed->Keyed->Bool) (x y:Array Keyed) (st:SortSt) (lo:Nat) (r:Option (Array Keyed)) (v:Array Keyed) (i j:Nat) (st':SortSt):Prop where
 f:Fr st st'
 yes:∀a,r=some a->Good lt x y a
 no:r=none->HI lt x y v i j/\0<i/\1<j/\lo+(i+j)<=x.size+y.size
theorem JH.on {x y:Array Keyed} {st st':SortSt} {lo i j:Nat} {v:Array Keyed} (f:Fr st st') (h:HI lt x y v i j) (hi:0<i) (hj:1<j) (hl:lo+(i+j)<=x.size+y.size):JH lt x y st lo none v i j st':=⟨f,λ_ z=>(nomatch z),λ_=>⟨h,hi,hj,hl⟩⟩
theorem JH.end_ {x y:Array Keyed} {st st':SortSt} {lo i j:Nat} {v a:Array Keyed} (f:Fr st st') (h:Good lt x y a):JH lt x y st lo (some a) v i j st':=⟨f,λ_ z=>cH z ▸ h,λz=>(nomatch z)⟩
theorem EA (C:Cmp M A E s κ N lt) {x y:Array Keyed} {st:SortSt} {Q:Array Keyed->SortSt->Prop} (hk:kindOf st=κ) (Nx:∀i,i<x.size->N (G x i)) (Ny:∀i,i<y.size->N (G y i)) (hx:Asc lt x) (hy:Asc lt y) (h0:0<x.size) (h1:0<y.size)
  (hb:lt (G y 0) (G x 0)=true) (hl:∀j,j<y.size->lt (G y j) (G x (x.size-1))=true) (q:∀r st',Fr st st'->Good lt x y r->Q r st'):wpS M A E s (mhi x y) Q st:=by
 have m0:HI lt x y #[G x (x.size-1)] (x.size-1) y.size:=by have z:HI lt x y #[] (x.size-1+1) y.size:=⟨by lia,aC _,by rw[show x.size-1+1=x.size by lia];simp,List.Pairwise.nil,by simp,by simp⟩;exact z.push hx λk hk'=>C.asym _ _ (hl k hk')
 have fa:∀{v:Array Keyed} {i j:Nat},HI lt x y v i j->i=0\/j=0->Good lt x y (x.extract 0 i++y.extract 0 j++v.reverse):=λ{v i j} m e=>m.fa hx hy λa h2 b h4=>absurd e (by lia);have fb:∀{v:Array Keyed} {i j:Nat},HI lt x y v i j->j=1->Good lt x y (y.extract 0 j++x.extract 0 i++v.reverse):=λ{v i j} m e=>(m.sw.fa hy hx λa h2 b h4=>by
  have:=m.ix;rw[show b=0 by lia];exact C.asym _ _ (C.ltle hb (hx 0 a (aT _) (by lia)))).sw
 have eqt:∀{a b:Nat},(a==b)=true->a=b:=λh=>by simpa using h
 have eqf:∀{a b:Nat},¬(a==b)=true->a≠b:=λh=>by simpa using h
 rw[FE];dsimp only;refine az (jx (az (cW (by lia) ?_)));by_cases e1:(x.size-1==0)=true
 .exact bE e1 (aG (q _ _ ⟨rfl,rfl,rfl,rfl⟩ (fa m0 (.inl (eqt e1)))))
 refine bo e1 ?_;by_cases e2:(y.size==1)=true
 .exact bE e2 (aG (q _ _ ⟨rfl,rfl,rfl,rfl⟩ (fb m0 (eqt e2))))
 refine bo e2 ?_;have e1:=eqf e1;have e2:=eqf e2;have j0:=JH.on (lo:=0) (show Fr st st from ⟨rfl,rfl,rfl,rfl⟩) m0 (by lia) (by lia) (by lia);refine az (hU (az (eQ (eL (β:=Option (Array Keyed)×Nat×Nat×Array Keyed×Nat) (I:=λt z st'=>z.1=none/\JH lt x y st t none z.2.2.2.1 z.2.1 z.2.2.1 st') (Q:=λz st'=>JH lt x y st (x.size+y.size) z.1 z.2.2.2.1 z.2.1 z.2.2.1 st') ?step ?fin ⟨rfl,j0⟩) ?post)))
 case fin=>
  rintro⟨r,i,j,v,g⟩ st' ⟨e,h⟩;have e:r=none:=e;subst e;exact⟨h.f,h.yes,λz=>by
   obtain⟨a1,a2,a3,a4⟩:=h.no z;exact⟨a1,a2,a3,by rw[tS (aT _)] at a4;exact a4⟩⟩
 case post=>
  rintro⟨r,i,j,v,g⟩ st' h;cases r with
  |some r=>exact aG (q _ _ h.f (h.yes _ rfl))
  |none=>
   obtain⟨_,a2,a3,a4⟩:=h.no rfl;have a2:0<i:=a2;have a4:x.size+y.size+(i+j)<=x.size+y.size:=a4;lia
 case step=>
  rintro t ⟨r,i,j,v,g⟩ st1 _ ht ⟨e,h⟩;have e:r=none:=e;subst e;dsimp only at h |-;refine az (eQ (eL (β:=Option (Array Keyed)×Nat×Nat×Array Keyed×Nat×Nat) (I:=λk z st'=>z.1=none/\JH lt x y st (t+k) none z.2.2.2.1 z.2.1 z.2.2.1 st') (Q:=λz st'=>JH lt x y st (t+1) z.1 z.2.2.2.1 z.2.1 z.2.2.1 st') ?s1 ?f1 ⟨rfl,h⟩) ?p1)
  case f1=>
   rintro⟨r,i,j,v,c,d⟩ st' ⟨e,h⟩;have e:r=none:=e;subst e;exact⟨h.f,h.yes,λz=>by
    obtain⟨a1,a2,a3,a4⟩:=h.no z;exact⟨a1,a2,a3,by rw[tS (aT _)] at a4;lia⟩⟩
  case s1=>
   rintro k ⟨r,i,j,v,c,d⟩ st' _ hk' ⟨e,h⟩;obtain⟨m,a2,a3,a4⟩:=h.no rfl;have f:=h.f;clear h e;dsimp only at m a2 a3 a4 |-;have mi:=m.ix;have mj:=m.jy;obtain⟨i,rfl⟩:∃i',i=i' + 1:=⟨i-1,by lia⟩;obtain⟨j,rfl⟩:∃j',j=j' + 1:=⟨j-1,by lia⟩;simp only[ni];refine az (cW (by lia) (az (cW (by lia) (az (C.ask (Ny _ (by lia)) (Nx _ (by lia)) (f.1.trans hk) ?_)))));dsimp only;cases hc:lt (G y j) (G x i) with
   |true=>
    refine bE rfl ?_;have m':=m.push hx λk h2=>C.tr _ _ _ (hy k j (by lia) (by lia)) (C.asym _ _ hc);refine az (cW (by lia) ?_);by_cases c1:(i==0)=true
    .exact bE c1 (aG (JH.end_ f (fa m' (.inl (eqt c1)))))
    refine bo c1 ?_;have c1:=eqf c1;have j1:=JH.on (lo:=t+1) f m' (by lia) (by lia) (by lia);have j2:=JH.on (lo:=t+(k+1)) f m' (by lia) (by lia) (by lia)
    split
    .exact aG j1
    .exact aG ⟨rfl,j2⟩
   |false=>
    refine bo (by decide) ?_;have m':=(m.sw.push hy λk h2=>C.tr _ _ _ (hx k i (by lia) (by lia)) hc).sw;refine az (cW (by lia) ?_);by_cases c1:(j==1)=true
    .exact bE c1 (aG (JH.end_ f (fb m' (eqt c1))))
    refine bo c1 ?_;have c1:=eqf c1;have j1:=JH.on (lo:=t+1) f m' (by lia) (by lia) (by lia);have j2:=JH.on (lo:=t+(k+1)) f m' (by lia) (by lia) (by lia)
    split
    .exact aG j1
    .exact aG ⟨rfl,j2⟩
  case p1=>
   rintro⟨r,i,j,v,c,d⟩ st' h;cases r with
   |some r=>exact aG ⟨h.f,h.yes,λz=>nomatch z⟩
   |none=>
   dsimp only at h |-;refine az (jx (az (eQ (eL (β:=Option (Array Keyed)×Nat×Nat×Array Keyed×Nat×Nat×Nat) (I:=λk z st'=>z.1=none/\JH lt x y st (t+1) none z.2.2.2.1 z.2.1 z.2.2.1 st') (Q:=λz st'=>JH lt x y st (t+1) z.1 z.2.2.2.1 z.2.1 z.2.2.1 st') ?s2 ?f2 ⟨rfl,h⟩) ?p2)))
   case f2=>
    rintro⟨r,i,j,v,g,c,d⟩ st' ⟨e,h⟩;have e:r=none:=e;subst e;exact h
   case p2=>
    rintro⟨r,i,j,v,g,c,d⟩ st' h;cases r with
    |some r=>exact aG ⟨h.f,h.yes,λz=>nomatch z⟩
    |none=>exact az (oF h.f λst'' f'=>aG ⟨rfl,f',λ_ z=>(nomatch z),h.no⟩)
   case s2=>
    rintro k ⟨r,i,j,v,g,c,d⟩ st2 _ hk' ⟨e,h⟩;obtain⟨m,a2,a3,a4⟩:=h.no rfl;have f:=h.f;clear h e;dsimp only at m a2 a3 a4 |-;have mi:=m.ix;have mj:=m.jy;obtain⟨j,rfl⟩:∃j',j=j' + 1:=⟨j-1,by lia⟩;simp only[ni];have tl:∀{o:Nat},bv lt false (G y j) x 0 o=true->lt (G y j) (G x o)=false:=λh=>by simpa [bv] using h
    have fl:∀{o:Nat},bv lt false (G y j) x 0 o=false->lt (G y j) (G x o)=true:=λh=>by simpa [bv] using h
    by_cases hg:g>1;refine bE hg ?_
    rotate_left
    refine bo hg ?_
    all_goals
     refine az (oF f λst3 f3=>az (cW (by lia) (az (jF (bv lt false (G y j) x 0) (λo ho Q' q'=>jG C Nx (Ny _ (by lia)) (by lia) (f3.1.trans hk) q') (λo p ho hp hb'=>?_) (by lia) λp hp1 hp2 hp3=>?_))))
     .cases hc:lt (G y j) (G x o) with
      |false=>show (!lt _ (G x (0+o)))=true;rw[nC,hc];rfl
      |true=>have:=C.ltle hc (hx o p (by lia) (by lia));rw[tl hb'] at this;cases this
     dsimp only;have m1:=HI.chunk (p:=p) (v:=v) (j:=j+1) hx (i-p) (by rw[show p+(i-p)=i by lia];exact m) λo ho k' h2=>C.tr _ _ _ (hy k' j (by lia) (by lia)) (C.asym _ _ (fl (hp3 (p+o) (by lia) (by lia))));rw[show p+(i-p)=i by lia] at m1;have n1:∀o,o<p->lt (G y j) (G x o)=false:=λo ho=>tl (hp2 o ho);have i0:t+1+(p+(j+1))<=x.size+y.size:=by lia
     have mi1:p<=x.size:=by lia
     by_cases hk0:i-p>0;refine bE hk0 ?_;by_cases c1:(p==0)=true
     .exact bE c1 (aG (JH.end_ f3 (fa m1 (.inl (eqt c1)))))
     refine bo c1 ?_;have b2:0<p:=by have:=eqf c1;lia
     generalize v++(x.extract p i).reverse=v1 at m1 |-;generalize hkk:i-p=kk;clear hp1 hp2 hp3 hk0 hkk
     rotate_left
     refine bo hk0 ?_;have hpi:i=p:=by lia
     have b2:0<p:=by lia
     have m1:=m;rw[hpi] at m1 |-;generalize v=v1 at m1 |-;generalize hkk:p-p=kk;clear hp1 hp2 hp3 hk0 hkk hpi
     all_goals
      obtain⟨p,rfl⟩:∃p',p=p' + 1:=⟨p-1,by lia⟩;have m2:=(m1.sw.push hy n1).sw;refine az (cW (by lia) ?_);by_cases c3:(j==1)=true
      .exact bE c3 (aG (JH.end_ f3 (fb m2 (eqt c3))))
      refine bo c3 ?_;have c3:=eqf c3;simp only[ni];refine az (cW (by lia) (az (jF (bv lt true (G x p) y 0) (λo ho Q' q'=>jG C Ny (Nx _ (by lia)) (by lia) (f3.1.trans hk) q') (λo p ho hp hb'=>C.lelt (hy _ _ (by lia) (by lia)) hb') (by lia) λp' hp1' hp2' hp3'=>?_)));have tl':∀{o:Nat},bv lt true (G x p) y 0 o=lt (G y o) (G x p):=λ{o}=>by simp[bv]
      dsimp only;have m3:=(HI.chunk (p:=p') (v:=v1.push (G y j)) hy (j-p') (by rw[show p' + (j-p')=j by lia];exact m2.sw) λo ho k' h2=>C.tr _ _ _ (hx k' p (by lia) (by lia)) (tl' ▸ hp3' (p' + o) (by lia) (by lia))).sw;rw[show p' + (j-p')=j by lia] at m3;have n2:∀o,o<p'->lt (G x p) (G y o)=false:=λo ho=>C.asym _ _ (tl' ▸ hp2' o ho);have j0:t+1+(p+1+p')<=x.size+y.size:=by lia
      by_cases hk0':j-p'>0;refine bE hk0' ?_;by_cases c4:(p'==1)=true
      .exact bE c4 (aG (JH.end_ f3 (fb m3 (eqt c4))))
      refine bo c4 ?_;by_cases c5:(p'==0)=true
      .exact bE c5 (aG (JH.end_ f3 (fa m3 (.inr (eqt c5)))))
      refine bo c5 ?_;have b3:1<p':=by have:=eqf c4;have:=eqf c5;lia
      generalize v1.push (G y j)++(y.extract p' j).reverse=v3 at m3 |-;generalize hkk':j-p'=kk';clear hkk' hk0'
      rotate_left
      refine bo hk0' ?_;have b3:1<p':=by lia
      have m3:=m2;rw[show j=p' by lia] at m3 |-;generalize v1.push (G y p')=v3 at m3 |-;generalize p'-p'=kk'
      all_goals
       have m4:=m3.push hx n2;refine az (cW (by lia) ?_);by_cases c6:(p==0)=true
       .exact bE c6 (aG (JH.end_ f3 (fa m4 (.inl (eqt c6)))))
       refine bo c6 ?_;have c6:=eqf c6;have j2:=JH.on (lo:=t+1) f3 m4 (by lia) b3 (by lia)
       split
       .exact aG j2
       .exact aG ⟨rfl,j2⟩
end
def Seg (lt:Keyed->Keyed->Bool) (a:Array Keyed) (lo hi:Nat):Prop:=∀i j,lo<=i->i<=j->j<hi->lt (G a j) (G a i)=false
def Dn (lt:Keyed->Keyed->Bool) (a:Array Keyed) (lo hi:Nat):Prop:=∀i j,lo<=i->i<=j->j<hi->lt (G a i) (G a j)=false
def Tl (lt:Keyed->Keyed->Bool) (a:Array Keyed) (hi q:Nat):Prop:=∀i j,hi<=i+(q+1)->i<hi->hi<=j+(q+1)->j<hi->lt (G a i) (G a j)=false
structure Cg (lo hi:Nat) (a a':Array Keyed):Prop where
 pm:a'.Perm a
 at_:∀k,k<lo\/hi<=k->G a' k=G a k
theorem Cg.size {lo hi:Nat} {a a':Array Keyed} (h:Cg lo hi a a'):a'.size=a.size:=h.pm.size_eq
theorem Cg.refl (lo hi:Nat) (a:Array Keyed):Cg lo hi a a:=⟨Array.Perm.refl _,λ_ _=>rfl⟩
theorem Cg.trans {lo hi:Nat} {a b c:Array Keyed} (h:Cg lo hi a b) (h2:Cg lo hi b c):Cg lo hi a c:=⟨h2.pm.trans h.pm,λk hk=>(h2.at_ k hk).trans (h.at_ k hk)⟩
theorem Cg.mono {lo hi lo' hi':Nat} {a b:Array Keyed} (h:Cg lo hi a b) (h1:lo'<=lo) (h2:hi<=hi'):Cg lo' hi' a b:=⟨h.pm,λk hk=>h.at_ k (by lia)⟩
theorem jc {p q:Array Keyed} {i j:Nat} (h:p[i]?=q[j]?):G p i=G q j:=by
 have e:∀(a:Array Keyed) (k:Nat),G a k=(a[k]?).getD (Value.none,Value.none):=λa k=>by simp[G]
 rw[e,e,h]
theorem fV {p:Array Keyed} {i j:Nat} (hj:j<=p.size) (k:Nat):G (mirror p i j ((j-i)/2)) k=if i<=k/\k<j then G p (i+j-1-k) else G p k:=by
 have h:=getElem?_mirror_all (xs:=p) (i:=i) hj k
 split
 .rename_i c;rw[K3 c] at h;exact jc h
 .rename_i c;rw[K2 c] at h;exact jc h
theorem oP {p:Array Keyed} {i j:Nat} (hj:j<=p.size):Cg i j p (mirror p i j ((j-i)/2)):=⟨mirror_perm _ _ _ _,λk hk=>by rw[fV hj,K2 (by lia)]⟩
abbrev sa (st:SortSt) (a:Array Keyed):SortSt:=setArr st a
section
variable {M:Model} {κ:SortKind} {N:Keyed->Prop} {lt:Keyed->Keyed->Bool}
def Nm (N:Keyed->Prop) (a:Array Keyed):Prop:=∀x,x∈a->N x
theorem Nm.at {a:Array Keyed} (h:Nm N a) {i:Nat} (hi:i<a.size):N (G a i):=h _ (Array.mem_of_getElem? (pd hi))
theorem Nm.perm {a b:Array Keyed} (h:Nm N a) (e:b.Perm a):Nm N b:=λx hx=>h x (e.mem_iff.mp hx)
theorem k_ (C:Cmp M A E s κ N lt) {st:SortSt} {a:Array Keyed} {i j:Nat} {Q:Option Bool->SortSt->Prop} (hk:kindOf st=κ) (hN:Nm N a) (hi:i<a.size) (hj:j<a.size) (h:Q (some (lt (G a i) (G a j))) (sa st a)):wpS M A E s (ltAt' i j) Q (sa st a):=by rw[ltAt'_eq];refine az (hU ?_);show wpS _ _ _ _ (do let x <-elem' a i;let y <-elem' a j;lt' x y) Q _;exact az (cW hi (az (cW hj (C.ask (hN.at hi) (hN.at hj) hk h))))
theorem DC (C:Cmp M A E s κ N lt) {a:Array Keyed} {l:Nat}:Seg lt a l (l+1):=λi j h1 h2 h3=>by
 have:i=j:=by lia
 subst this;exact C.refl _
theorem B8 (C:Cmp M A E s κ N lt) {a:Array Keyed} {l n:Nat} (h:Seg lt a l (l+n)) (h1:1<=n) (hl:lt (G a (l+n)) (G a (l+n-1))=false):Seg lt a l (l+(n+1)):=λi j hi hij hj=>by
 by_cases e:j=l+n
 .subst e;by_cases e2:i=l+n
  .subst e2;exact C.refl _
  .exact C.tr _ (G a (l+n-1)) _ (h i (l+n-1) hi (by lia) (by lia)) hl
 .exact h i j hi hij (by lia)
theorem lW (C:Cmp M A E s κ N lt) {a:Array Keyed} {l n:Nat} (h:Dn lt a l (l+n)) (h1:1<=n) (hl:lt (G a (l+n-1)) (G a (l+n))=false):Dn lt a l (l+(n+1)):=λi j hi hij hj=>by
 by_cases e:j=l+n
 .subst e;by_cases e2:i=l+n
  .subst e2;exact C.refl _
  .exact C.tr _ (G a (l+n-1)) _ hl (h i (l+n-1) hi (by lia) (by lia))
 .exact h i j hi hij (by lia)
theorem BI (C:Cmp M A E s κ N lt) {st:SortSt} {a:Array Keyed} {l m:Nat} {Q:Option Nat->SortSt->Prop} (hk:kindOf st=κ) (hN:Nm N a) (h1:1<=m) (hs:l+m<=a.size)
  (q:∀n a',Cg l (l+m) a a'->1<=n->n<=m->Seg lt a' l (l+n)->Q (some n) (sa st a')):wpS M A E s (countRun' l m) Q (sa st a):=by
 have asc:∀(n:Nat) (a':Array Keyed) (Q':Option (Option Nat)×Nat->SortSt->Prop),Cg l (l+m) a a'->1<=n->n<=m->Seg lt a' l (l+n)->(∀n',n<=n'->n'<=m->Seg lt a' l (l+n')->(n'<m->lt (G a' (l+n')) (G a' (l+n'-1))=true)->Q' (none,n') (sa st a'))->
   wpS M A E s (forIn [n:m] ((none,n):Option (Option Nat)×Nat) λ_ x=>do
    let z <-ltAt' (l+x.2) (l+x.2-1)
    match z with
    |some z=>if z=true then pure (ForInStep.done (none,x.2)) else pure (ForInStep.yield (none,x.2+1))
    |_=>pure (ForInStep.done (some none,x.2))) Q' (sa st a'):=by
  intro n a' Q' cg n1 nm sg q';refine eL (β:=Option (Option Nat)×Nat) (I:=λt x st'=>st'=sa st a'/\x.1=none/\x.2=t/\n<=t/\t<=m/\Seg lt a' l (l+t)) (Q:=Q') ?_ ?_ ⟨rfl,rfl,rfl,aC _,nm,sg⟩
  .rintro t ⟨r,n'⟩ st' _ ht ⟨rfl,e1,e2,e3,e4,e5⟩;have e2:n'=t:=e2;subst e2;have hz:=cg.size;refine az (k_ C hk (hN.perm cg.pm) (by lia) (by lia) ?_);cases hc:lt (G a' (l+n')) (G a' (l+n'-1)) with
   |true=>exact aG (q' n' e3 (by lia) e5 λ_=>hc)
   |false=>exact aG ⟨rfl,rfl,rfl,by lia,by lia,B8 C e5 (by lia) hc⟩
  .rintro⟨r,n'⟩ st' ⟨rfl,e1,e2,e3,e4,e5⟩;have e1:r=none:=e1;have e2:n'=max n m:=e2;subst e1;have:n'=m:=by lia
   subst this;rw[show max n n'=n' by lia] at e5;exact q' n' nm (aC _) e5 λz=>absurd z (by lia)
 have rv:∀{a':Array Keyed} {n:Nat},Cg l (l+m) a a'->n<=m->Dn lt a' l (l+n)->Seg lt (mirror a' l (l+n) ((l+n-l)/2)) l (l+n):=λ{a' n} cg nm d i j hi hij hj=>by
  have hz:=cg.size;rw[fV (by lia),fV (by lia),K3 (by lia),K3 (by lia)];exact d _ _ (by lia) (by lia) (by lia)
 have rt:∀{a':Array Keyed} {n q:Nat},Cg l (l+m) a a'->n<=m->q<n->Dn lt a' l (l+n)->Tl lt a' (l+n) q->Dn lt (mirror a' (l+n-(q+1)) (l+n) ((l+n-(l+n-(q+1)))/2)) l (l+n):=λ{a' n q} cg nm hq d tl i j hi hij hj=>by
  have hz:=cg.size;rw[fV (by lia),fV (by lia)]
  split
  .split
   .exact tl _ _ (by lia) (by lia) (by lia) (by lia)
   .lia
  .split
   .exact d _ _ hi (by lia) (by lia)
   .exact d _ _ hi hij hj
 have t0:∀{a':Array Keyed} {h:Nat},Tl lt a' h 0:=λ{a' h} i j h1 h2 h3 h4=>by
  have:i=j:=by lia
  subst this;exact C.refl _
 have dl:∀(n:Nat) (a':Array Keyed),Cg l (l+m) a a'->1<=n->n<=m->Dn lt a' l (l+n)->wpS M A E s (do
   rule "list.sort.descending-run"
   let mut n:=n
   let mut q:=0
   for _ in [n:m] do
    let some z <-ltAt' (l+n) (l+n-1)|return none
    if z then
     if q>0 then reverseSlice' (l+n-(q+1)) (l+n)
     q:=0
    else
     let some z <-ltAt' (l+n-1) (l+n)|return none
     if z then break
     q:=q+1
    n:=n+1
   if q>0 then reverseSlice' (l+n-(q+1)) (l+n)
   reverseSlice' l (l+n)
   for _ in [n:m] do
    let some z <-ltAt' (l+n) (l+n-1)|return none
    if z then break
    n:=n+1
   return some n) Q (sa st a'):=by
  intro n a1 cg n1 nm d;dsimp only;refine az (jx (az (eQ (eL (β:=Option (Option Nat)×Nat×Nat) (I:=λt x st'=>x.1=none/\x.2.1=t/\n<=t/\t<=m/\x.2.2<t/\∃a',st'=sa st a'/\Cg l (l+m) a a'/\Dn lt a' l (l+t)/\Tl lt a' (l+t) x.2.2)
   (Q:=λx st'=>x.1=none/\n<=x.2.1/\x.2.1<=m/\x.2.2<x.2.1/\∃a',st'=sa st a'/\Cg l (l+m) a a'/\Dn lt a' l (l+x.2.1)/\Tl lt a' (l+x.2.1) x.2.2) ?_ ?_ ⟨rfl,rfl,aC _,nm,n1,a1,rfl,cg,d,t0⟩) ?_)))
  .rintro t ⟨r,n',q'⟩ st' _ ht ⟨e1,e2,e3,e4,e5,a',rfl,cg',d',tl⟩;have e2:n'=t:=e2;subst e2;have e5:q'<n':=e5;have hz:=cg'.size;dsimp only at tl |-;refine az (k_ C hk (hN.perm cg'.pm) (by lia) (by lia) ?_);dsimp only;cases hc:lt (G a' (l+n')) (G a' (l+n'-1)) with
   |true=>
    refine bE rfl ?_;by_cases hq:q'>0
    .rw[K3 hq,t_];refine az (iK (aG ⟨rfl,rfl,by lia,by lia,by show 0<n' + 1;lia,_,rfl,cg'.trans ((oP (by lia)).mono (by lia) (by lia)),?_,t0⟩));refine lW C (rt cg' (by lia) e5 d' tl) (by lia) ?_;rw[fV (by show l+n'<=a'.size;lia),fV (by show l+n'<=a'.size;lia),K3 (by lia),K2 (by lia)];exact C.tr _ (G a' (l+n'-1)) _ (C.asym _ _ hc) (d' _ _ (by lia) (by lia) (by lia))
    .refine bo hq ?_;exact aG ⟨rfl,rfl,by lia,by lia,by show 0<n' + 1;lia,a',rfl,cg',lW C d' (by lia) (C.asym _ _ hc),t0⟩
   |false=>
    refine bo (by decide) ?_;refine az (k_ C hk (hN.perm cg'.pm) (by lia) (by lia) ?_);dsimp only;cases hc2:lt (G a' (l+n'-1)) (G a' (l+n')) with
    |true=>
     refine bE rfl ?_;exact aG ⟨rfl,e3,e4,e5,a',rfl,cg',d',tl⟩
    |false=>
     refine bo (by decide) ?_;refine aG ⟨rfl,rfl,by lia,by lia,by show q' + 1<n' + 1;lia,a',rfl,cg',lW C d' (by lia) hc2,λi j b1 b2 b3 b4=>?_⟩;have b1:l+(n' + 1)<=i+(q' + 1+1):=b1;have b3:l+(n' + 1)<=j+(q' + 1+1):=b3;by_cases ei:i=l+n'
     .by_cases ej:j=l+n'
      .subst ei;subst ej;exact C.refl _
      .subst ei;exact C.tr _ (G a' (l+n'-1)) _ (tl _ _ (by lia) (by lia) (by lia) (by lia)) hc
     .by_cases ej:j=l+n'
      .subst ej;exact C.tr _ (G a' (l+n'-1)) _ hc2 (tl _ _ (by lia) (by lia) (by lia) (by lia))
      .exact tl _ _ (by lia) (by lia) (by lia) (by lia)
  .rintro⟨r,n',q'⟩ st' ⟨e1,e2,e3,e4,e5,a',rfl,cg',d',tl⟩;have e2:n'=max n m:=e2;have:n'=m:=by lia
   subst this;rw[show max n n'=n' by lia] at d' tl e5 e3;exact⟨e1,e3,aC _,e5,a',rfl,cg',d',tl⟩
  .rintro⟨r,n',q'⟩ st' ⟨e1,e3,e4,e5,a',rfl,cg',d',tl⟩;cases e1;dsimp only at e3 e4 e5 d' tl |-;have hz:=cg'.size;by_cases hq:q'>0;rw[K3 hq,t_];refine az (iK ?_);have cg2:=cg'.trans ((oP (i:=l+n'-(q' + 1)) (j:=l+n') (p:=a') (by lia)).mono (show l<=_ by lia) (show _<=l+m by lia));have d2:=rt cg' e4 e5 d' tl;show wpS _ _ _ _ _ _ (sa st (mirror a' (l+n'-(q' + 1)) (l+n') ((l+n'-(l+n'-(q' + 1)))/2)));generalize mirror a' (l+n'-(q' + 1)) (l+n') ((l+n'-(l+n'-(q' + 1)))/2)=a2 at cg2 d2 |-
   rotate_left
   refine bo hq ?_;have cg2:=cg';have d2:=d';generalize a'=a2 at cg2 d2 |-
   all_goals
    have hz2:=cg2.size;rw[t_];refine az (iK ?_);have cg3:=cg2.trans ((oP (i:=l) (j:=l+n') (p:=a2) (by lia)).mono (aC _) (show _<=l+m by lia));refine az (asc n' _ _ cg3 (by lia) e4 (rv cg2 e4 d2) λn'' b1 b2 b3 b4=>?_);exact aG (q n'' _ cg3 (by lia) b2 b3)
 rw[countRun'_eq];dsimp only;refine az (asc 1 a _ (Cg.refl _ _ _) (aC _) h1 (DC C) λn b1 b2 b3 b4=>?_);dsimp only;by_cases c1:(n==m)=true
 .exact bE c1 (aG (q n a (Cg.refl _ _ _) b1 b2 b3))
 refine bo c1 ?_;have c1:n≠m:=by simpa using c1
 have hl:=b4 (by lia);by_cases c2:n>1
 .refine bE c2 ?_;refine az (k_ C hk hN (by lia) (by lia) ?_);dsimp only;cases hc:lt (G a l) (G a (l+n-1)) with
  |true=>rw[K3 rfl];exact aG (q n a (Cg.refl _ _ _) b1 b2 b3)
  |false=>
   rw[K2 (by decide),t_];refine az (iK ?_);have cg:=(oP (i:=l) (j:=l+n) (p:=a) (by lia)).mono (aC _) (show l+n<=l+m by lia);show wpS _ _ _ _ _ _ (sa st (mirror a l (l+n) ((l+n-l)/2)));refine dl (n+1) _ cg (by lia) (by lia) (lW C (λi j hi hij hj=>?_) (by lia) ?_)
   .rw[fV (by lia),fV (by lia),K3 (by lia),K3 (by lia)];exact b3 _ _ (by lia) (by lia) (by lia)
   .rw[fV (by lia),fV (by lia),K3 (by lia),K2 (by lia),show l+(l+n)-1-(l+n-1)=l by lia];exact C.tr _ (G a (l+n-1)) _ (C.asym _ _ hl) hc
 .refine bo c2 ?_;have:n=1:=by lia
  subst this;refine dl 2 a (Cg.refl _ _ _) (by lia) (by lia) (lW C (λi j hi hij hj=>?_) (aC _) (C.asym _ _ hl));have:i=j:=by lia
  subst this;exact C.refl _
end
section
variable {M:Model} {κ:SortKind} {N:Keyed->Prop} {lt:Keyed->Keyed->Bool}
theorem rV {p:Array Keyed} {k z:Nat} (hk:k<p.size) (hl:z<=k) (i:Nat):G (bubble p k (k-z)) i=if i=z then G p k else if z<i/\i<=k then G p (i-1) else G p i:=by
 have h:=getElem?_bubble (xs:=p) (src:=k) hk (k-z) (by lia) i;have e:k-(k-z)=z:=by lia
 rw[e] at h
 repeat' split at h
 .rename_i c;rw[K3 c];exact jc h
 .rename_i c c2;rw[K2 c,K3 c2];exact jc h
 .rename_i c c2;rw[K2 c,K2 c2];exact jc h
theorem EC (C:Cmp M A E s κ N lt) {st:SortSt} {a:Array Keyed} {l n o:Nat} {Q:Bool->SortSt->Prop} (hk:kindOf st=κ) (hN:Nm N a) (h1:1<=o) (h2:o<=n) (hs:l+n<=a.size) (sg:Seg lt a l (l+o))
  (q:∀a',Cg l (l+n) a a'->Seg lt a' l (l+n)->Q true (sa st a')):wpS M A E s (binarySort' l n o) Q (sa st a):=by
 rw[binarySort'_eq];dsimp only;refine az (eQ (eL (I:=λk x st'=>x.1=none/\1<=k/\k<=n/\∃a',st'=sa st a'/\Cg l (l+n) a a'/\Seg lt a' l (l+k)) (Q:=λx st'=>x.1=none/\∃a',st'=sa st a'/\Cg l (l+n) a a'/\Seg lt a' l (l+n)) ?step ?fin ⟨rfl,by lia,by lia,a,rfl,Cg.refl _ _ _,by rw[show max o 1=o by lia];exact sg⟩) ?post)
 case fin=>
  rintro⟨r,u⟩ st' ⟨e,e1,e2,a',rfl,cg,sg'⟩;rw[show max (max o 1) n=n by lia] at sg';exact⟨e,a',rfl,cg,sg'⟩
 case post=>
  rintro⟨r,u⟩ st' ⟨e,a',rfl,cg,sg'⟩;cases e;exact aG (q a' cg sg')
 case step=>
  rintro k ⟨r,u⟩ st' _ hkn ⟨e,e1,e2,a',rfl,cg,sg'⟩;have hz:=cg.size;refine az (eQ (eL (β:=Option Bool×Nat×Nat) (I:=λt x st'=>st'=sa st a'/\x.1=none/\x.2.1<=x.2.2/\x.2.2<=k/\x.2.2-x.2.1<=k-t/\(∀i,i<x.2.1->lt (G a' (l+k)) (G a' (l+i))=false)/\(∀i,x.2.2<=i->i<k->lt (G a' (l+i)) (G a' (l+k))=false))
   (Q:=λx st'=>st'=sa st a'/\x.1=none/\x.2.1<=k/\(∀i,i<x.2.1->lt (G a' (l+k)) (G a' (l+i))=false)/\(∀i,x.2.1<=i->i<k->lt (G a' (l+i)) (G a' (l+k))=false)) ?s8 ?f8 ⟨rfl,rfl,aT _,aC _,aC _,λi hi=>absurd hi (Ja _),λi hi hj=>absurd hi (Nat.not_le_of_lt hj)⟩) ?p8)
  case f8=>
   rintro⟨r,u,w⟩ st' ⟨rfl,e,b1,b2,b3,b4,b5⟩;have b1:u<=w:=b1;have b3:w-u<=k-max 0 k:=b3;have:u=w:=by lia
   subst this;exact⟨rfl,e,b2,b4,b5⟩
  case s8=>
   rintro t ⟨r,u,w⟩ st' _ ht ⟨rfl,e,b1,b2,b3,b4,b5⟩;have b1:u<=w:=b1;have b2:w<=k:=b2;have b3:w-u<=k-t:=b3;dsimp only at b4 b5 |-;by_cases c1:u ≥ w
   .refine bE c1 ?_;have:u=w:=by lia
    subst this;exact aG ⟨rfl,rfl,b2,b4,b5⟩
   refine bo c1 ?_;obtain⟨m1,m2⟩:=half c1;generalize (u+w)/2=m at m1 m2 |-;refine az (k_ C hk (hN.perm cg.pm) (by lia) (by lia) ?_);dsimp only;cases hc:lt (G a' (l+k)) (G a' (l+m)) with
   |true=>
    refine bE rfl ?_;refine aG ⟨rfl,rfl,m1,nk (c_ m2 b2),fewer b3 m2 m1,b4,λi hi hik=>?_⟩;exact C.asym _ _ (C.ltle hc (sg' _ _ (pX _ _) (tP hi l) (IY hik l)))
   |false=>
    refine bo (by decide) ?_;refine aG ⟨rfl,rfl,m2,b2,fewer' b3 m2 m1,λi hi=>?_,b5⟩;exact C.tr _ _ _ (sg' _ _ (pX _ _) (tP (I0 hi) l) (IY (c_ m2 b2) l)) hc
  case p8=>
   rintro⟨r,u,w⟩ st' ⟨rfl,e,b2,b4,b5⟩;cases e;have b2:u<=k:=b2;dsimp only at b4 b5 |-;rw[moveDown'_eq];refine az (iK (aG ⟨rfl,by lia,by lia,bubble a' (l+k) (l+k-(l+u)),rfl,cg.trans ⟨bubble_perm _ _ _,λi hi=>?_⟩,λi j hi hij hj=>?_⟩))
   .rw[rV (by lia) (by lia),K2 (by lia),K2 (by lia)]
   .rw[rV (by lia) (by lia),rV (by lia) (by lia)]
    repeat' split
    .exact C.refl _
    all_goals first
     |lia
     |exact sg' _ _ (by lia) (by lia) (by lia)
     |(have z:=b5 (j-1-l) (by lia) (by lia);rw[show l+(j-1-l)=j-1 by lia] at z;exact (by
       rename_i h1 h2 h3;cases hcc:lt (G a' (j-1)) (G a' (l+k)) with
       |false=>rfl
       |true=>rw[hcc] at z;cases z))
     |(have z:=b4 (i-l) (by lia);rw[show l+(i-l)=i by lia] at z;exact z)
end
theorem xW (p:Nat):∀(l:List Keyed) (n:Nat) (a:Array Keyed),p+n+l.length<=a.size->
  ((l.zipIdx n).foldl (λa (z:Keyed×Nat)=>a.setIfInBounds (p+z.2) z.1) a).size=a.size/\∀m:Nat,((l.zipIdx n).foldl (λa (z:Keyed×Nat)=>a.setIfInBounds (p+z.2) z.1) a)[m]?=if p+n<=m/\m<p+n+l.length then l[m-(p+n)]? else a[m]?
 | [],n,a,h=>⟨rfl,λm=>by rw[K2 (by simp only[jf];lia)];rfl⟩
 |x::l,n,a,h=>by
  rw[aZ] at h;obtain⟨h1,h2⟩:=xW p l (n+1) (a.setIfInBounds (p+n) x) (by rw[Array.size_setIfInBounds];lia);rw[List.zipIdx_cons,za];refine⟨h1.trans Array.size_setIfInBounds,λm=>?_⟩;rw[h2 m,aZ,Array.getElem?_setIfInBounds];by_cases c:m=p+n
  .subst c;rw[K2 (by lia),K3 rfl,K3 (by lia),K3 (by lia),pZ];rfl
  .by_cases c2:p+(n+1)<=m/\m<p+(n+1)+l.length
   .rw[K3 c2,K3 (by lia),show m-(p+n)=m-(p+(n+1))+1 by lia];rfl
   .rw[K2 c2,K2 (λz=>c z.symm),K2 (by lia)]
theorem pj {a:Array Keyed} {k:Nat} {x:Keyed} (h:a[k]?=some x):G a k=x:=by
 have e:G a k=(a[k]?).getD (Value.none,Value.none):=by simp[G]
 rw[e,h];rfl
theorem oT {a:Array Keyed} {p q k:Nat} (h:p+k<q) (hq:q<=a.size):G (a.extract p q) k=G a (p+k):=by apply jc;rw[Array.getElem?_extract,K3 (by lia)]
theorem CL {a:Array Keyed} {p q r:Nat} (h1:p<=q) (h2:q<=r) (h3:r<=a.size):a.toList=a.toList.take p++((a.extract p q).toList++(a.extract q r).toList)++a.toList.drop r:=by
 rw[Array.toList_extract,Array.toList_extract,tF,tF];have e1:(a.toList.drop p).take (q-p)++(a.toList.drop q).take (r-q)=(a.toList.drop p).take (r-p):=by rw[show r-p=(q-p)+(r-q) by lia,List.take_add,yQ,show p+(q-p)=q by lia]
 rw[e1,bH];have e2:(a.toList.drop p).take (r-p)++a.toList.drop r=a.toList.drop p:=by
  conv=>rhs;rw[<-fc (r-p) (a.toList.drop p)]
  rw[yQ,show p+(r-p)=r by lia]
 rw[e2,fc]
section
variable {M:Model} {κ:SortKind} {N:Keyed->Prop} {lt:Keyed->Keyed->Bool}
theorem uP {α:Type} (u v w:α) (l2:List α):∀l1:List α,((l1++u::w::l2).set l1.length v).eraseIdx (l1.length+1)=l1++v::l2
 | []=>rfl
 |x::l1=>by
  show x::((l1++u::w::l2).set l1.length v).eraseIdx (l1.length+1)=_;rw[uP u v w l2 l1];rfl
theorem jv {a:Array Keyed} {i j:Nat} (h:j<=a.size):(a.extract i j).size=j-i:=by rw[Array.size_extract,nq h]
theorem yo {a:Array Keyed} {x:Keyed} (h:x∈a.toList):∃k,k<a.size/\G a k=x:=by obtain⟨k,hk⟩:=dB.mp h;rw[Array.getElem?_toList] at hk;exact⟨k,(Array.getElem?_eq_some_iff.mp hk).1,pj hk⟩
theorem Cf (C:Cmp M A E s κ N lt) {a r:Array Keyed} {p p1 q n1 z:Nat} (h1:p<=p1) (h2:p1<=q) (h3:q+n1<=z) (hs:z<=a.size) (g:Good lt (a.extract p1 q) (a.extract q (q+n1)) r)
  (s1:Seg lt a p q) (s2:Seg lt a q z) (lo:∀k,p<=k->k<p1->∀j,q<=j->j<z->lt (G a j) (G a k)=false) (hi:∀j,q+n1<=j->j<z->∀k,p<=k->k<q->lt (G a j) (G a k)=false) :
  Cg p z a (r.toList.zipIdx.foldl (λa (z:Keyed×Nat)=>a.setIfInBounds (p1+z.2) z.1) a)/\Seg lt (r.toList.zipIdx.foldl (λa (z:Keyed×Nat)=>a.setIfInBounds (p1+z.2) z.1) a) p z:=by
 have q1s:q+n1<=a.size:=bV h3 hs;have qs:q<=a.size:=bV (pX q n1) q1s;have lt1:(a.toList.take p1).length=p1:=by rw[bG,Array.length_toList,nq (bV h2 qs)]
 have len:r.toList.length=q-p1+n1:=by rw[g.1.length_eq,ar,Array.length_toList,Array.length_toList,jv qs,jv q1s,nj]
 obtain⟨w1,w2⟩:=xW p1 r.toList 0 a (by lia);generalize (r.toList.zipIdx.foldl (λa (z:Keyed×Nat)=>a.setIfInBounds (p1+z.2) z.1) a)=a' at w1 w2 |-;rw[len] at w2;simp only[tQ] at w2;have out:∀k,k<p1\/q+n1<=k->G a' k=G a k:=λk hk=>jc (by rw[w2 k,K2 (by lia)]);have inn:∀k,p1<=k->k<q+n1->∃c,p1<=c/\c<q+n1/\G a' k=G a c:=λk hk1 hk2=>by
  have e:=w2 k;rw[K3 (by lia)] at e;have hl:k-p1<r.toList.length:=by lia
  rw[aX hl] at e;have e:=pj e;have mem:r.toList[k-p1]∈r.toList:=j6 _;rcases ay.mp (g.1.mem_iff.mp mem) with h|h
  .obtain⟨c,c1,c2⟩:=yo h;rw[jv qs] at c1;exact⟨p1+c,by lia,by lia,by rw[e,<-c2,oT (by lia) (by lia)]⟩
  .obtain⟨c,c1,c2⟩:=yo h;rw[jv q1s,nj] at c1;exact⟨q+c,by lia,by lia,by rw[e,<-c2,oT (by lia) (by lia)]⟩
 have srt:∀i j,p1<=i->i<=j->j<q+n1->lt (G a' j) (G a' i)=false:=λi j i1 ij j1=>by
  have ei:=w2 i;have ej:=w2 j;rw[K3 (by lia)] at ei ej;have li:i-p1<r.toList.length:=by lia
  have lj:j-p1<r.toList.length:=by lia
  rw[aX li] at ei;rw[aX lj] at ej;rw[pj ei,pj ej];by_cases e:i=j
  .subst e;exact C.refl _
  .exact zh.mp g.2 (i-p1) (j-p1) li lj (by lia)
 refine⟨⟨?_,λk hk=>out k (by lia)⟩,λi j hi1 hij hj=>?_⟩
 .rw[Array.perm_iff_toList_perm];have e:a'.toList=a.toList.take p1++r.toList++a.toList.drop (q+n1):=by
   apply tE;intro m;rw[Array.getElem?_toList,w2 m];by_cases c1:m<p1
   .rw[K2 (by lia),bH,dS (by rw[lt1];exact c1),zb c1,Array.getElem?_toList]
   .by_cases c2:m<q+n1
    .rw[K3 (by lia),bH,gZ (by rw[lt1];lia),dS (by rw[lt1];lia),lt1]
    .rw[K2 (by lia),gZ (by rw[ar,lt1];lia),tI,Array.getElem?_toList,ar,lt1]
     congr 1
     lia
  rw[e];exact ((g.1.append_left _).append_right _).trans (yN (CL (a:=a) h2 (pX q n1) (by lia)).symm)
 .by_cases ci:i<p1
  .rw[out i (.inl ci)];by_cases cj:j<p1
   .rw[out j (.inl cj)];exact s1 i j hi1 hij (by lia)
   .have hc:∀c,p1<=c->c<z->lt (G a c) (G a i)=false:=λc c1 c2=>by
     by_cases cc:c<q
     .exact s1 i c hi1 (by lia) cc
     .exact lo i hi1 ci c (by lia) c2
    by_cases cj2:j<q+n1
    .obtain⟨c,c1,c2,e⟩:=inn j (by lia) cj2;rw[e];exact hc c c1 (by lia)
    .rw[out j (.inr (by lia))];exact hc j (by lia) hj
  .by_cases cj:j<q+n1
   .exact srt i j (by lia) hij cj
   .rw[out j (.inr (by lia))];have hc:∀c,p<=c->c<j->lt (G a j) (G a c)=false:=λc c1 c2=>by
     by_cases cc:c<q
     .exact hi j (by lia) hj c c1 cc
     .exact s2 c j (by lia) (by lia) hj
    by_cases ci2:i<q+n1
    .obtain⟨c,c1,c2,e⟩:=inn i (by lia) ci2;rw[e];exact hc c (by lia) (by lia)
    .rw[out i (.inr (by lia))];by_cases e:i=j
     .subst e;exact C.refl _
     .exact hc i hi1 (by lia)
theorem Ey {st st':SortSt} {Q:PUnit->SortSt->Prop} (h:Q ⟨⟩ st'):wpS M A E s (set st':SM PUnit) Q st:=by unfold wpS;rw[StateT.run_set];exact aO ⟨rfl,h⟩
theorem EB (C:Cmp M A E s κ N lt) {st:SortSt} {a:Array Keyed} {i p m e q n e':Nat} {l1 l2:List (Nat×Nat×Nat)} {Q:Bool->SortSt->Prop} (hk:kindOf st=κ) (hf:failedOf st=none) (hN:Nm N a) (hp:(pendingOf st).toList=l1++(p,m,e)::(q,n,e')::l2) (hi:l1.length=i)
  (hq:q=p+m) (hm:1<=m) (hn:1<=n) (hs:q+n<=a.size) (s1:Seg lt a p q) (s2:Seg lt a q (q+n))
  (h:∀(a':Array Keyed) (st':SortSt),PyProof.Rows.kindOf st'=κ->failedOf st'=none->arrOf st'=a'->(pendingOf st').toList=l1++(p,m+n,e)::l2->Cg p (q+n) a a'->Seg lt a' p (q+n)->Q true st'):wpS M A E s (mergeAt' i) Q (sa st a):=by
 have e1:(pendingOf st)[i]?=some (p,m,e):=by rw[<-Array.getElem?_toList,hp,<-hi];simp
 have e2:(pendingOf st)[i+1]?=some (q,n,e'):=by rw[<-Array.getElem?_toList,hp,<-hi];simp
 have e3:(((pendingOf st).setIfInBounds i (p,m+n,e)).eraseIdxIfInBounds (i+1)).toList=l1++(p,m+n,e)::l2:=by rw[Array.toList_eraseIdxIfInBounds,Array.toList_setIfInBounds,hp,<-hi];exact uP _ _ _ _ _
 have eqt:∀{a b:Nat},(a==b)=true->a=b:=λh=>by simpa using h
 have eqf:∀{a b:Nat},¬(a==b)=true->a≠b:=λh=>by simpa using h
 rw[FF];refine az (hU ?_);show wpS _ _ _ _ (match ((pendingOf st)[i]?,(pendingOf st)[i+1]?) with|(some (p,m,e),some (q,n,_))=>_|_=>_) _ _;rw[e1,e2];dsimp only;refine az (Ey ?_);have tl:∀{o:Nat},bv lt false (G a q) a p o=true->lt (G a q) (G a (p+o))=false:=λh=>by simpa [bv] using h
 have fl:∀{o:Nat},bv lt false (G a q) a p o=false->lt (G a q) (G a (p+o))=true:=λh=>by simpa [bv] using h
 refine az (cW (show q<a.size by lia) (az (jF (bv lt false (G a q) a p) (λo ho Q' q'=>jG C (λ_ z=>hN.at z) (hN.at (by lia)) (show p+o<a.size by lia) hk q') (λo o' ho hp' hb'=>?_) (by lia) λk hk1 hk2 hk3=>?_)))
 .cases hc:lt (G a q) (G a (p+o)) with
  |false=>show (!lt _ _)=true;rw[hc];rfl
  |true=>have:=C.ltle hc (s1 (p+o) (p+o') (by lia) (by lia) (by lia));rw[tl hb'] at this;cases this
 dsimp only;have seg:(∀i,p<=i->i<q->∀j,q<=j->j<q+n->lt (G a j) (G a i)=false)->Seg lt a p (q+n):=λhh i j h1 h2 h3=>by
  by_cases c:j<q
  .exact s1 i j h1 h2 c
  .by_cases c2:i<q
   .exact hh i h1 c2 j (by lia) h3
   .exact s2 i j (by lia) h2 h3
 have low:∀i,p<=i->i<p+k->∀j,q<=j->j<q+n->lt (G a j) (G a i)=false:=λi h1 h2 j h3 h4=>by
  have z:=tl (hk2 (i-p) (by lia));rw[show p+(i-p)=i by lia] at z;exact C.tr _ _ _ z (s2 q j (aC _) h3 h4)
 by_cases c1:(m-k==0)=true
 .refine bE c1 ?_;have c1:=eqt c1;exact aG (h a _ hk hf rfl e3 (Cg.refl _ _ _) (seg λi h1 h2=>low i h1 (by lia)))
 refine bo c1 ?_;have c1:=eqf c1;rw[show p+k+(m-k)-1=q-1 by lia];refine az (cW (show q-1<a.size by lia) (az (jF (bv lt true (G a (q-1)) a q) (λo ho Q' q'=>jG C (λ_ z=>hN.at z) (hN.at (by lia)) (show q+o<a.size by lia) hk q') (λo o' ho hp' hb'=>C.lelt (s2 _ _ (by lia) (by lia) (by lia)) hb') (by lia) λn1 hn1 hn2 hn3=>?_)));dsimp only;have hig:∀j,q+n1<=j->j<q+n->∀i,p<=i->i<q->lt (G a j) (G a i)=false:=λj h1 h2 i h3 h4=>by
  have z:=hn3 (j-q) (by lia) (by lia);have z:lt (G a (q+(j-q))) (G a (q-1))=false:=z;rw[show q+(j-q)=j by lia] at z;exact C.tr _ _ _ (s1 i (q-1) h3 (by lia) (by lia)) z
 by_cases c2:(n1==0)=true
 .refine bE c2 ?_;have c2:=eqt c2;exact aG (h a _ hk hf rfl e3 (Cg.refl _ _ _) (seg λi h1 h2 j h3 h4=>hig j (by lia) h4 i h1 h2))
 refine bo c2 ?_;have c2:=eqf c2;have zx:(a.extract (p+k) q).size=q-(p+k):=jv (by lia);have zy:(a.extract q (q+n1)).size=n1:=by rw[jv (by lia),nj]
 have gx:∀i,i<(a.extract (p+k) q).size->G (a.extract (p+k) q) i=G a (p+k+i):=λi hi=>oT (by lia) (by lia);have gy:∀i,i<(a.extract q (q+n1)).size->G (a.extract q (q+n1)) i=G a (q+i):=λi hi=>oT (by lia) (by lia);have hx:Asc lt (a.extract (p+k) q):=λi j hij hj=>by rw[gx i (by lia),gx j hj];exact s1 _ _ (by lia) (by lia) (by lia)
 have hy:Asc lt (a.extract q (q+n1)):=λi j hij hj=>by rw[gy i (by lia),gy j hj];exact s2 _ _ (by lia) (by lia) (by lia)
 have Nx:∀i,i<(a.extract (p+k) q).size->N (G (a.extract (p+k) q) i):=λi hi=>by rw[gx i hi];exact hN.at (by lia)
 have Ny:∀i,i<(a.extract q (q+n1)).size->N (G (a.extract q (q+n1)) i):=λi hi=>by rw[gy i hi];exact hN.at (by lia)
 have hb:lt (G (a.extract q (q+n1)) 0) (G (a.extract (p+k) q) 0)=true:=by rw[gx 0 (by lia),gy 0 (by lia)];exact fl (hk3 k (aC _) (by lia))
 have hl:∀j,j<(a.extract q (q+n1)).size->lt (G (a.extract q (q+n1)) j) (G (a.extract (p+k) q) ((a.extract (p+k) q).size-1))=true:=λj hj=>by
  rw[gx _ (by lia),gy j hj,zx,show p+k+(q-(p+k)-1)=q-1 by lia];exact hn2 j (by lia)
 have fin:∀(r:Array Keyed) (st2:SortSt),Fr (SortSt.mk' (kindOf st) a (((pendingOf st).setIfInBounds i (p,m+n,e)).eraseIdxIfInBounds (i+1)) (gallopOf st) (failedOf st)) st2->Good lt (a.extract (p+k) q) (a.extract q (q+n1)) r->
   wpS M A E s (do
    modify λs=>setArr s (r.toList.zipIdx.foldl (λa (z,j)=>a.setIfInBounds (p+k+j) z) (arrOf s))
    return (failedOf (<-get)).isNone) Q st2:=λr st2 f g=>by
  obtain⟨f1,f2,f3,f4⟩:=f;have f2:arrOf st2=a:=f2;refine az (iK (az (hU ?_)));obtain⟨b1,b2⟩:=Cf C (p:=p) (z:=q+n) (by lia) (by lia) (by lia) hs g s1 s2 low hig;have fn:failedOf st2=none:=f4.trans hf;have e9:(failedOf (setArr st2 (r.toList.zipIdx.foldl (λa (z:Keyed×Nat)=>a.setIfInBounds (p+k+z.2) z.1) (arrOf st2)))).isNone=true:=by show (failedOf st2).isNone=true;rw[fn];rfl
  show wpS _ _ _ _ (pure (failedOf (setArr st2 (r.toList.zipIdx.foldl (λa (z:Keyed×Nat)=>a.setIfInBounds (p+k+z.2) z.1) (arrOf st2)))).isNone) _ (setArr st2 (r.toList.zipIdx.foldl (λa (z:Keyed×Nat)=>a.setIfInBounds (p+k+z.2) z.1) (arrOf st2)));rw[e9];refine aG (h _ _ (f1.trans hk) fn rfl ?_ ?_ ?_)
  .exact (congrArg Array.toList f3).trans e3
  .rw[f2];exact b1
  .rw[f2];exact b2
 by_cases c3:m-k<=n1
 .refine bE c3 ?_;exact az (Ez C hk Nx Ny hx hy (show 0<(a.extract (p+k) q).size by lia) (show 0<(a.extract q (q+n1)).size by lia) hb hl λr st2 f g=>fin r st2 f g)
 .refine bo c3 ?_;exact az (EA C hk Nx Ny hx hy (show 0<(a.extract (p+k) q).size by lia) (show 0<(a.extract q (q+n1)).size by lia) hb hl λr st2 f g=>fin r st2 f g)
end
def Runs (lt:Keyed->Keyed->Bool) (a:Array Keyed):List (Nat×Nat×Nat)->Nat->Nat->Prop
 | [],b,e=>b=e
 |x::l,b,e=>x.1=b/\1<=x.2.1/\Seg lt a b (b+x.2.1)/\Runs lt a l (b+x.2.1) e
section
variable {M:Model} {κ:SortKind} {N:Keyed->Prop} {lt:Keyed->Keyed->Bool}
theorem Runs.len {a:Array Keyed}:∀{l:List (Nat×Nat×Nat)} {b e:Nat},Runs lt a l b e->b+l.length<=e
 | [],_,_,h=>tR h
 |x::l,b,e,h=>by
  have:=Runs.len h.2.2.2;have:=h.2.1;rw[aZ];lia
theorem Seg.congr {a a':Array Keyed} {b e:Nat} (h:∀k,b<=k->k<e->G a' k=G a k) (r:Seg lt a b e):Seg lt a' b e:=λi j h1 h2 h3=>by
 rw[h i h1 (by lia),h j (by lia) h3];exact r i j h1 h2 h3
theorem Runs.congr {a a':Array Keyed}:∀{l:List (Nat×Nat×Nat)} {b e:Nat},(∀k,b<=k->k<e->G a' k=G a k)->Runs lt a l b e->Runs lt a' l b e
 | [],_,_,_,r=>r
 |x::l,b,e,h,r=>by
  have:=Runs.len r.2.2.2;exact⟨r.1,r.2.1,r.2.2.1.congr λk h1 h2=>h k h1 (by lia),Runs.congr (λk h1 h2=>h k (by lia) h2) r.2.2.2⟩
theorem Runs.app {a:Array Keyed} {l2:List (Nat×Nat×Nat)}:∀{l1:List (Nat×Nat×Nat)} {b e:Nat},Runs lt a (l1++l2) b e↔∃m,Runs lt a l1 b m/\Runs lt a l2 m e
 | [],b,e=>⟨λh=>⟨b,rfl,h⟩,λ⟨m,h1,h2⟩=>by cases h1;exact h2⟩
 |x::l1,b,e=>by
  constructor
  .rintro⟨h1,h2,h3,h4⟩;obtain⟨m,h5,h6⟩:=Runs.app.mp h4;exact⟨m,⟨h1,h2,h3,h5⟩,h6⟩
  .rintro⟨m,⟨h1,h2,h3,h4⟩,h5⟩;exact⟨h1,h2,h3,Runs.app.mpr ⟨m,h4,h5⟩⟩
structure RS (κ:SortKind) (N:Keyed->Prop) (lt:Keyed->Keyed->Bool) (a0:Array Keyed) (lo:Nat) (st:SortSt):Prop where
 k:PyProof.Rows.kindOf st=κ
 f:failedOf st=none
 pm:(arrOf st).Perm a0
 r:Runs lt (arrOf st) (pendingOf st).toList 0 lo
theorem xj (C:Cmp M A E s κ N lt) {a0:Array Keyed} {lo i:Nat} {st:SortSt} {Q:Bool->SortSt->Prop} (hN:Nm N a0) (R:RS κ N lt a0 lo st) (hlo:lo<=a0.size) (hi:i+1<(pendingOf st).size)
  (q:∀st',RS κ N lt a0 lo st'->(pendingOf st').size+1=(pendingOf st).size->(∀k,lo<=k->G (arrOf st') k=G (arrOf st) k)->Q true st'):wpS M A E s (mergeAt' i) Q st:=by
 have hz:=R.pm.size_eq;have hN':Nm N (arrOf st):=hN.perm R.pm;obtain⟨l1,x,y,l2,e,hl⟩:∃l1 x y l2,(pendingOf st).toList=l1++x::y::l2/\l1.length=i:=by
  have h1:i<(pendingOf st).toList.length:=by rw[Array.length_toList];lia
  have h2:i+1<(pendingOf st).toList.length:=by rw[Array.length_toList];lia
  refine⟨(pendingOf st).toList.take i,(pendingOf st).toList[i],(pendingOf st).toList[i+1],(pendingOf st).toList.drop (i+1+1),?_,by rw[bG];lia⟩;rw[<-eZ h2,<-eZ h1,fc]
 obtain⟨p,m,w⟩:=x;obtain⟨q',n,w'⟩:=y;have r:=R.r;rw[e] at r;obtain⟨b,r1,h1,h2,h3,h4,h5,h6,h7⟩:=Runs.app.mp r;have h1:p=b:=h1;subst h1;have h4:q'=p+m:=h4;dsimp only at h2 h3 h5 h6 h7;have le:=h7.len;show wpS M A E s (mergeAt' i) Q (sa st (arrOf st));refine EB C R.k R.f hN' e hl h4 h2 h5 (by lia) (by rw[h4];exact h3) (by rw[h4];exact h6) λa' st' k1 k2 k3 k4 k5 k6=>q st' ⟨k1,k2,by rw[k3];exact k5.pm.trans R.pm,?_⟩ ?_ λk hk=>by rw[k3];exact k5.at_ k (by lia)
 .rw[k3,k4];have le1:=r1.len;refine Runs.app.mpr ⟨p,r1.congr λk _ hk=>k5.at_ k (by lia),rfl,by show 1<=m+n;lia,?_,?_⟩
  .show Seg lt a' p (p+(m+n));rw[h4,IX] at k6;exact k6
  .show Runs lt a' l2 (p+(m+n)) lo;rw[<-IX];exact h7.congr λk hk _=>k5.at_ k (by lia)
 .have z1:=congrArg List.length e;have z2:=congrArg List.length k4;simp only[Array.length_toList,ar,aZ] at z1 z2;lia
theorem vI {a:Array Keyed} {w:Nat}:∀{l:List (Nat×Nat×Nat)} {i b e:Nat},Runs lt a l b e->Runs lt a (l.modify i λx=>(x.1,x.2.1,w)) b e
 | [],i,_,_,h=>by
  simpa using h
 |x::l,0,_,_,h=>h
 |x::l,i+1,_,_,h=>⟨h.1,h.2.1,h.2.2.1,vI h.2.2.2⟩
theorem wp_runs (C:Cmp M A E s κ N lt) {a0:Array Keyed} {st:SortSt} {Q:Unit->SortSt->Prop} (hN:Nm N a0) (hk:PyProof.Rows.kindOf st=κ) (hf:failedOf st=none) (ha:arrOf st=a0) (hp:pendingOf st=#[]) (h2:2<=a0.size)
  (q:∀st',failedOf st'=none->(arrOf st').Perm a0->Seg lt (arrOf st') 0 a0.size->Q () st'):wpS M A E s sortRuns' Q st:=by
 rw[sortRuns'_eq];refine az (hU ?_);dsimp only;rw[ha];generalize minRun' a0.size a0.size 0=mr;have R0:RS κ N lt a0 0 st:=⟨hk,hf,ha ▸ Array.Perm.refl _,by rw[hp];exact rfl⟩;refine az (eQ (eL (I:=λt x st'=>x.1=none/\t<=x.2/\x.2<=a0.size/\RS κ N lt a0 x.2 st') (Q:=λx st'=>x.1=none/\x.2=a0.size/\RS κ N lt a0 x.2 st') ?step ?fin ⟨rfl,aC _,aT _,R0⟩) ?post)
 case fin=>
  rintro⟨r,lo⟩ st' ⟨e1,e2,e3,e4⟩;have e2:max 0 a0.size<=lo:=e2;have e3:lo<=a0.size:=e3;exact⟨e1,by show lo=_;lia,e4⟩
 case post=>
  rintro⟨r,lo⟩ st' ⟨e1,e2,R⟩;cases e1;have e2:lo=a0.size:=e2;subst e2;dsimp only at R |-;have l0:=R.r.len;rw[Array.length_toList] at l0;refine az (eQ (eL (I:=λt x st'=>x.1=none/\RS κ N lt a0 a0.size st'/\((pendingOf st').size+t<=a0.size\/(pendingOf st').size<=1)) (Q:=λx st'=>x.1=none/\RS κ N lt a0 a0.size st'/\(pendingOf st').size<=1) ?s2 ?f2 ⟨rfl,R,.inl (by lia)⟩) ?p2)
  case f2=>
   rintro⟨r,u⟩ st' ⟨e1,R,e2⟩;exact⟨e1,R,by lia⟩
  case p2=>
   rintro⟨r,u⟩ st' ⟨e1,R,e2⟩;cases e1;refine aG (q st' R.f R.pm ?_);have r:=R.r;have z:(pendingOf st').toList.length<=1:=by rw[Array.length_toList];exact e2
   match hh:(pendingOf st').toList,r,z with
   | [],r,_=>have:0=a0.size:=r;lia
   | [x],r,_=>
    have r3:=r.2.2.1;have e:0+x.2.1=a0.size:=r.2.2.2;rw[e] at r3;exact r3
   |x::y::l,r,z=>simp only[aZ] at z;lia
  case s2=>
   rintro t ⟨r,u⟩ st' _ ht ⟨e1,R,e2⟩;refine az (hU ?_);by_cases c:(pendingOf st').size<=1
   .exact bE c (aG ⟨rfl,R,c⟩)
   refine bo c ?_;refine az (xj C hN R (aC _) ?_ λst'' R' hz _=>aG ⟨rfl,R',by lia⟩)
   repeat' split
   all_goals lia
 case step=>
  rintro t ⟨r,lo⟩ st' _ ht ⟨e1,e2,e3,R⟩;cases e1;dsimp only at e2 e3 R |-;by_cases c:lo ≥ a0.size
  .exact bE c (aG ⟨rfl,by show lo=_;lia,R⟩)
  refine bo c ?_;have hz:=R.pm.size_eq;show wpS M A E s _ _ (sa st' (arrOf st'));refine az (BI C R.k (hN.perm R.pm) (by lia) (by lia) λn a1 cg n1 n2 sg=>?_);dsimp only;have R1:RS κ N lt a0 lo (sa st' a1):=⟨R.k,R.f,cg.pm.trans R.pm,R.r.congr λk _ hk'=>cg.at_ k (.inl hk')⟩;have z1:=cg.size;by_cases c2:n<mr;refine bE c2 ?_;refine az (jx (az (EC C R.k (hN.perm R1.pm) (o:=n) n1 (by lia) (by lia) sg λa2 cg2 sg2=>?_)));refine bo (by decide) ?_;have R2:RS κ N lt a0 lo (sa st' a2):=⟨R.k,R.f,cg2.pm.trans R1.pm,R1.r.congr λk _ hk'=>cg2.at_ k (.inl hk')⟩;have n3:1<=min (a0.size-lo) mr:=by lia
  have n4:lo+min (a0.size-lo) mr<=a0.size:=by lia
  generalize min (a0.size-lo) mr=nn at sg2 n3 n4 |-
  rotate_left
  refine bo c2 ?_;have sg2:=sg;have R2:=R1;have n3:=n1;have n4:lo+n<=a0.size:=by lia
  clear n1 n2 sg c2;generalize n=nn at sg2 n3 n4 |-;generalize a1=a2 at sg2 R2 |-
  all_goals
   refine az (hU ?_);have last:∀st3,RS κ N lt a0 lo st3->Seg lt (arrOf st3) lo (lo+nn)->wpS M A E s (do
     modify λs=>setPending s ((pendingOf s).push (lo,nn,0))
     pure (ForInStep.yield ((none:Option Unit),lo+nn))) (λ(r:ForInStep (Option Unit×Nat)) st'=>match r with | .done x=>x.1=none/\x.2=a0.size/\RS κ N lt a0 x.2 st' | .yield x=>x.1=none/\t+1<=x.2/\x.2<=a0.size/\RS κ N lt a0 x.2 st') st3:=λst3 R3 sg3=>by
    refine az (iK (aG ⟨rfl,by show t+1<=lo+nn;lia,n4,R3.k,R3.f,R3.pm,?_⟩));show Runs lt (arrOf st3) ((pendingOf st3).push (lo,nn,0)).toList 0 (lo+nn);rw[Array.toList_push];exact Runs.app.mpr ⟨lo,R3.r,rfl,n3,sg3,rfl⟩
   cases hb:(pendingOf (sa st' a2)).back? with
   |none=>exact last _ R2 sg2
   |some y=>
    obtain⟨s1,n5,w⟩:=y;dsimp only;generalize power' _ _ _ _=pw;refine az (eQ (eL (I:=λ_ x st3=>x.1=none/\RS κ N lt a0 lo st3/\Seg lt (arrOf st3) lo (lo+nn)) (Q:=λx st3=>x.1=none/\RS κ N lt a0 lo st3/\Seg lt (arrOf st3) lo (lo+nn)) ?_ (λ_ _ z=>z) ⟨rfl,R2,sg2⟩) ?_)
    .rintro t3 ⟨r,u⟩ st3 _ ht3 ⟨e1,R3,sg3⟩;refine az (hU ?_);by_cases c3:(pendingOf st3).size>1
     .rw[K3 c3,Array.getElem?_eq_getElem (show (pendingOf st3).size-2<(pendingOf st3).size by lia)];dsimp only
      split
      .exact aG ⟨rfl,R3,sg3⟩
      .exact az (xj C hN R3 e3 (by lia) λst4 R4 _ k4=>aG ⟨rfl,R4,sg3.congr λk hk1 _=>k4 k hk1⟩)
     .rw[K2 c3];exact aG ⟨rfl,R3,sg3⟩
    .rintro⟨r,u⟩ st3 ⟨e1,R3,sg3⟩;cases e1;refine az (iK (last _ ⟨R3.k,R3.f,R3.pm,?_⟩ sg3));show Runs lt (arrOf st3) ((pendingOf st3).modify _ _).toList 0 lo;rw[Array.toList_modify];exact vI R3.r
end
end TimS
end
section
namespace L2
open PySem PySem.Spec PyProof.Rows PySem.W
open HT (lexLt)
theorem vL:∀a b:List Int,lexLt a b=true->lexLt b a=false
 | [],[],h=>rfl
 | [],_::_,_=>rfl
 |_::_,[],h=>by cases h
 |x::xs,y::ys,h=>by
  rw[HT.lexLt_cons] at h |-;by_cases e:x=y
  .rw[K3 e] at h;rw[K3 e.symm];exact vL xs ys h
  .rw[K2 e] at h;rw[K2 λz=>e z.symm];have:x<y:=K6 h;exact K5 (by lia)
theorem xH:∀a b c:List Int,lexLt b a=false->lexLt c b=false->lexLt c a=false
 | [],b,[],_,_=>rfl
 | [],[],_::_,_,h=>rfl
 | [],_::_,_::_,_,_=>rfl
 |_::_,[],_,h,_=>by cases h
 |_::_,_::_,[],_,h=>by cases h
 |x::xs,y::ys,z::zs,h1,h2=>by
  rw[HT.lexLt_cons] at h1 h2 |-;by_cases e1:y=x
  .subst e1;rw[K3 rfl] at h1;by_cases e2:z=y
   .rw[K3 e2] at h2 |-;exact xH xs ys zs h1 h2
   .rw[K2 e2] at h2 |-;exact h2
  .rw[K2 e1] at h1;have l1:¬y<x:=of_decide_eq_false h1;by_cases e2:z=y
   .subst e2;rw[K2 e1];exact h1
   .rw[K2 e2] at h2;have l2:¬z<y:=of_decide_eq_false h2;rw[K2 (by lia)];exact K5 (by lia)
def Tups (K:Frag) (H:Hp) (ys:List V) (ks:List (List Int)):Prop:=Paired (λy k=>∃b,y=V.ref b/\SqT K H b (k.map V.int)/\k≠[]) ys ks
theorem FB {h h':Heap} {a:Addr} {m m':Str->Option Value} (h1:h.Ns a m) (h2:h.Ns a m'):m=m':=by obtain⟨o,es,ep,e1,e2,_,e4⟩:=h1;obtain⟨o',es',ep',f1,f2,_,f4⟩:=h2;rw[e1] at f1;cases f1;rw[e2] at f2;cases f2;funext x;rw[<-e4,<-f4]
section
theorem Inv.newsKept {h':Heap} {m:Str->Option Value} {t':Nat} {more:List (Addr×Obj)} (I:Inv X pins Z H s) (F:Fr X.base X.env.locals s.heap m) (F':Fr X.base X.env.locals h' m) (N:News X.base X.env.locals h' (more++oE X.base s.heap X.env.locals)) :
  (∀b o,b≠X.env.locals->s.heap.get? b=some o->h'.get? b=some o)/\(∀m,s.heap.Ns X.env.locals m->h'.Ns X.env.locals m):=by
 refine⟨λb o hb e=>?_,λm' hm=>by rw[<-FB (h':=h') F.ns hm];exact F'.ns⟩;cases q:X.base.get? b with
 |some u=>
  have e2:=I.bk b u q;rw[e] at e2;cases e2;exact F'.keep b _ q
 |none=>exact (N (b,o) (bN _ (uq hb q e))).1
theorem cL.there {h:Heap} {a:Addr} {o:HO} (x:cL P w H h a o):∃ob,h.get? a=some ob:=by
 cases o with
 |lst xs=>obtain⟨_,_,_,_,e⟩:=x;exact⟨_,e⟩
 |tup xs=>obtain⟨_,_,_,ob,e,_⟩:=x;exact⟨_,e⟩
 |dK kvs=>obtain⟨_,_,_,_,o,_,_,e,_⟩:=x;exact⟨_,e⟩
 |dT kvs=>obtain⟨_,_,_,_,o,_,_,e,_⟩:=x;exact⟨_,e⟩
 |set S n=>obtain⟨o,_,_,_,e,_⟩:=x;exact⟨_,e⟩
 |ins C dx fs=>obtain⟨_,_,_,e,_⟩:=x;exact⟨_,e⟩
 |own y=>exact x
 |xd fs=>obtain⟨_,⟨_,_,_,e,_⟩,_⟩:=x;exact⟨_,e⟩
 |rng lo hi=>obtain⟨_,_,_,e⟩:=x;exact⟨_,e⟩
 |frz ob u=>obtain⟨e,_⟩:=x;exact⟨_,e⟩
 |tbl ps=>exact⟨_,(show h.get? a=some _ from x)⟩
 |met f y=>exact⟨_,(show h.get? a=some _ from x)⟩
 |ext φ=>obtain⟨_,e,_⟩:=x;exact e
theorem HOk.none_of {h:Heap} {a:Addr} (x:HOk P w H h) (e:h.get? a=none):H a=none:=by
 cases q:H a with
 |none=>rfl
 |some u=>
  obtain⟨o,z⟩:=(x a u q).there;rw[e] at z;cases z
theorem Inv.laidN {h':Heap} {t':Nat} {a:Addr} {o:HO} (I:Inv X pins Z H s) (k:∀b o,b≠X.env.locals->s.heap.get? b=some o->h'.get? b=some o) (kn:∀m,s.heap.Ns X.env.locals m->h'.Ns X.env.locals m)
  (ha:s.heap.get? a=none) (new:∀H',cL X.prog X.w H' h' a o) (hx:∀y fs,o≠.ins y fs []):Inv X pins Z (upd H a o) {s with heap:=h',toks:=t'}:=by
 have hn:H a=none:=I.hok.none_of ha;have hL:∀b u,H b=some u->b≠X.env.locals:=λb u e z=>by rw[z,I.free] at e;cases e
 refine I.step (g':=s.gens) (d':=s.drawn) (ch:=[]) (λ_ z=>nomatch z) (λb o hb _ _ e _=>k b o hb e) (λb o hb _ _ e _=>⟨o.slots,k b o hb e⟩) (λb o _ e n=>?_) (λb o _ e=>?_) (λb xs e=>?_) (λb o u e=>?_) (λb ps e=>⟨#[],?_⟩) kn (λb u e=>?_) I.bare
 .rw[bz (λz=>by rw[z,ha] at e;cases e)];exact n
 .by_cases hb:b=X.env.locals
  .subst hb;obtain⟨m,hm,_⟩:=I.loc;obtain⟨o',_,_,e',_⟩:=kn m hm;exact⟨o',e'⟩
  .exact⟨o,k b o hb e⟩
 .rw[bz (ax e hn)];exact e
 .rw[bz (ax e hn)];exact e
 .rw[bz (ax e hn),e];simp
 .by_cases hb:b=a
  .subst hb;rw[cx] at e;cases e;exact new _
  .rw[bz hb] at e;refine (I.hok b u e).stay (λc v hc q=>k c v ?_ q) (λc q=>by rw[bz (ax q hn)];exact q) λc xs q=>by rw[bz (ax q hn)];exact q
   rcases hc with z|z
   .rw[z];exact hL b u e
   .exact hL c _ z
theorem Inv.keptN {h':Heap} {t':Nat} (I:Inv X pins Z H s) (k:∀b o,b≠X.env.locals->s.heap.get? b=some o->h'.get? b=some o) (kn:∀m,s.heap.Ns X.env.locals m->h'.Ns X.env.locals m):Inv X pins Z H {s with heap:=h',toks:=t'}:=by
 have hL:∀b u,H b=some u->b≠X.env.locals:=λb u e z=>by rw[z,I.free] at e;cases e
 refine I.step (g':=s.gens) (d':=s.drawn) (ch:=[]) (λ_ z=>nomatch z) (λb o hb _ _ e _=>k b o hb e) (λb o hb _ _ e _=>⟨o.slots,k b o hb e⟩) (λb o _ e n=>n) (λb o _ e=>?_) (λb xs e=>e) (λb o u e=>e) (λb ps e=>⟨#[],by rw[e];simp⟩) kn (λb u e=>?_) I.bare
 .by_cases hb:b=X.env.locals
  .subst hb;obtain⟨m,hm,_⟩:=I.loc;obtain⟨o',_,_,e',_⟩:=kn m hm;exact⟨o',e'⟩
  .exact⟨o,k b o hb e⟩
 .refine (I.hok b u e).stay (λc v hc q=>k c v ?_ q) (λc q=>q) λc xs q=>q;rcases hc with z|z
  .rw[z];exact hL b u e
  .exact hL c _ z
end
def fT (h:Heap) (a:Addr) (vs:List Value):Heap:=((h.update a (Obj.mapSeq λ_=>#[])).push (seqObj "tuple" vs.toArray 0)).push (seqObj "list" #[] 0)
section
variable {prog:Program} {κ:SortKind} {rk:Value->List Int}
theorem uU {a:Addr} {vs:List Value} {n:Nat} {P:PySem.Fin->Shared->Prop} (ho:s.heap.get? a=some (seqObj "list" vs.toArray n)) (hz:vs.length<=sizeLine)
  (hk:2<=vs.length->∀Q:SortKind->Shared->Prop,Q κ {s with heap:=fT s.heap a vs}->wpAny (model prog w) A (keyKind' vs.toArray) Q E {s with heap:=fT s.heap a vs})
  (hc:2<=vs.length->∀x∈vs,∀y∈vs,∀C:Bool->Shared->Prop,C (HT.lexLt (rk x) (rk y)) {s with heap:=fT s.heap a vs}->wpAny (model prog w) A (keyLt' κ x y) C (λ_ _=>False) {s with heap:=fT s.heap a vs})
  (h:∀out:List Value,out.Perm vs->out.Pairwise (λu v=>HT.lexLt (rk v) (rk u)=false)->P (.done (.ret .none)) {s with heap:=sortedHeap s.heap a vs out.toArray}):wpAny (model prog w) A (Builtin.«list.sort» ⟨[.ref a],[]⟩) P E s:=by
 have lt:a<s.heap.objs.size:=bf ho;obtain⟨e1,h1⟩:∃e1,(s.heap.update a (Obj.mapSeq λ_=>(#[]:Array Value))).get? a=some (seqObj "list" #[] e1):=⟨_,get?_update_seq ho λ_=>#[]⟩;have h3:(fT s.heap a vs).get? a=some (seqObj "list" #[] e1):=bP _ (bP _ h1);have zs:(vs.toArray.zip vs.toArray).map (·.2)=vs.toArray:=by apply Array.toList_inj.mp;simp only[Array.toList_map,List.zip_toArray];exact List.map_snd_zip (aC _)
 rw[list_sort_plain];refine ao (listItems_at ho rfl (ao (listUpdate_at ho rfl (ao (seqEpoch_at h1 rfl (ao (wpAny_newTuple (ao (wpAny_newList (fK ?_) (aT _))) hz)))) (by rw[bX];lia) (aT _))));show wpAny _ _ _ _ _ {s with heap:=fT s.heap a vs};have fin:∀st:SortSt,failedOf st=none->((arrOf st).map (·.2)).toList.Perm vs->((arrOf st).map (·.2)).toList.Pairwise (λu v=>HT.lexLt (rk v) (rk u)=false)->∀s':Shared,s'={s with heap:=fT s.heap a vs}->wpAny (model prog w) A (do
   let touched:=(<-seqEpoch a) != e1
   Builtin.List.listUpdate (.ref a) λ_=>(arrOf st).map (·.2)
   if let some e:=failedOf st then rule "list.sort.comparison-raised";throw e
   if touched then rule "list.sort.modified";raiseError "ValueError" "list modified during sort"
   ret .none) P E s':=by
  rintro st hf hp hs _ rfl;refine ao (seqEpoch_at h3 rfl (ao (listUpdate_at h3 rfl ?_ (aT _) (by have:=hp.length_eq;rw[Array.length_toList] at this;lia))));rw[hf];simp only[bne_self_eq_false,pz,if_false];exact aO (by
   have z:=h _ hp hs
   rwa [Array.toArray_toList] at z)
 dsimp only;by_cases h2:vs.length<2
 .have hs2:vs.toArray.size<2:=by rw[bX];exact h2
  rw[K3 hs2,K3 hs2];refine ao (aO ?_);rw[StateT.run_pure];refine ao (aO ?_);refine fin (SortSt.mk' general' (vs.toArray.zip vs.toArray) #[] 7 none) rfl ?_ ?_ _ rfl
  .show (((vs.toArray.zip vs.toArray).map (·.2)).toList).Perm vs;rw[zs]
  .show (((vs.toArray.zip vs.toArray).map (·.2)).toList).Pairwise _;rw[zs]
   match vs,h2 with
   | [],_=>exact .nil
   | [_],_=>exact pU _ _
 .have nt:¬vs.toArray.size<2:=by rw[bX];lia
  rw[K2 nt,K2 nt];refine ao (hk (by lia) _ ?_);have mem:∀x∈(vs.toArray.zip vs.toArray),x.1∈vs/\x.1=x.2:=λx hx=>by
   have hx:x∈vs.zip vs:=by simpa using hx
   obtain⟨i,hi⟩:=dB.mp hx;rw[List.getElem?_zip_eq_some] at hi;exact⟨a7 hi.1,cH (hi.1.symm.trans hi.2)⟩
  have C:TimS.Cmp (model prog w) A E {s with heap:=fT s.heap a vs} κ (λx=>x∈(vs.toArray.zip vs.toArray)) (λx y=>HT.lexLt (rk x.1) (rk y.1)):=by refine⟨λ_ _=>vL _ _,λ_ _ _=>xH _ _ _,λ{x y st Q} hx hy hk' q=>?_⟩;rw[lt'_eq];refine az (hU ?_);rw[hk'];refine az (wpS_lift (zP (fe (hc (by lia) _ (mem x hx).1 _ (mem y hy).1 (λb s'=>b=HT.lexLt (rk x.1) (rk y.1)/\s'={s with heap:=fT s.heap a vs}) ⟨rfl,rfl⟩) (λb s' ⟨e,e'⟩=>?_) λ_ _ z=>z.elim)));subst e e';exact⟨rfl,aG q⟩
  have hzz:(vs.toArray.zip vs.toArray).size=vs.length:=by simp
  refine ao (fe (TimS.wp_runs C (st:=SortSt.mk' κ (vs.toArray.zip vs.toArray) #[] 7 none) (λx hx=>hx) rfl rfl rfl rfl (by rw[hzz];lia) (Q:=λ_ st=>failedOf st=none/\(arrOf st).Perm (vs.toArray.zip vs.toArray)/\TimS.Seg (λx y=>HT.lexLt (rk x.1) (rk y.1)) (arrOf st) 0 vs.length) λst' f p g=>⟨f,p,by rw[hzz] at g;exact g⟩) ?_ λ_ _ e=>e);rintro⟨⟨⟩,st'⟩ s' ⟨e,hf,hp,hg⟩;refine fin st' hf ?_ ?_ s' e
  .have:=(Array.perm_iff_toList_perm.mp hp).map (·.2);rw[<-Array.toList_map,<-Array.toList_map,zs] at this;exact this
  .rw[Array.toList_map,fX];refine zh.mpr λi j hi hj hij=>?_;have hz2:(arrOf st').size=vs.length:=hp.size_eq.trans hzz;have hi':i<(arrOf st').size:=by simpa using hi
   have hj':j<(arrOf st').size:=by simpa using hj
   have g:=hg i j (aT _) (by lia) (by lia);have e2:∀k (hk:k<(arrOf st').size),TimS.G (arrOf st') k=(arrOf st')[k]:=λk hk=>by simp[TimS.G,hk]
   have e3:∀k (hk:k<(arrOf st').size),((arrOf st')[k]).1=((arrOf st')[k]).2:=λk hk=>(mem _ (hp.mem_iff.mp (Array.getElem_mem hk))).2;have g:HT.lexLt (rk (TimS.G (arrOf st') j).1) (rk (TimS.G (arrOf st') i).1)=false:=g;rw[e2 i hi',e2 j hj',e3 i hi',e3 j hj'] at g;simpa using g
theorem AQ {l:Addr} {vs:List Value} {Q:Value->Shared->Prop} (hl:s.heap.IsList l vs.toArray) (hz:vs.length+1<=sizeLine)
  (hk:∀h':Heap,(∀b o,s.heap.get? b=some o->h'.get? b=some o)->2<=vs.length->∀Q:SortKind->Shared->Prop,Q κ {s with heap:=h'}->wpAny (model prog w) A.in1.in1 (keyKind' vs.toArray) Q E {s with heap:=h'})
  (hc:∀h':Heap,(∀b o,s.heap.get? b=some o->h'.get? b=some o)->2<=vs.length->∀x∈vs,∀y∈vs,∀C:Bool->Shared->Prop,C (HT.lexLt (rk x) (rk y)) {s with heap:=h'}->wpAny (model prog w) A.in1.in1 (keyLt' κ x y) C (λ_ _=>False) {s with heap:=h'})
  (h:∀out:List Value,out.Perm vs->out.Pairwise (λu v=>HT.lexLt (rk v) (rk u)=false)->Q (.ref (s.heap.objs.size+1)) {s with heap:=sortedAll s.heap vs out.toArray}):wpAny (model prog w) A (call (.builtin "sorted") [.ref l]) Q E s:=by
 refine Calls.call_function_entry kind_sorted plain_sorted entry_sorted (args_sorted1 _) ?_;unfold Builtin.«sorted»;refine ao (m:=checkCount "sorted" 1 1 _) (aO (ao (collect_list hl (ao (wpAny_newList ?_ (by lia))) (by lia))));generalize hG:(s.heap.push (seqObj "list" #[] 0)).update s.heap.objs.size (Obj.mapSeq (·++vs.toArray))=G;have hz':G.objs.size=s.heap.objs.size+1:=by rw[<-hG,Heap.size_update,size_push']
 have ho:(G.push (seqObj "list" vs.toArray 0)).get? (s.heap.objs.size+1)=some (seqObj "list" vs.toArray 0):=by rw[<-hz'];exact cQ _ rfl
 have hA:∀out:List Value,sortedAll s.heap vs out.toArray=sortedHeap (G.push (seqObj "list" vs.toArray 0)) (s.heap.objs.size+1) vs out.toArray:=λout=>by rw[<-hG];rfl
 have old:∀b o,s.heap.get? b=some o->(fT (G.push (seqObj "list" vs.toArray 0)) (s.heap.objs.size+1) vs).get? b=some o:=λb o q=>by
  have lt:=bf q;have g:G.get? b=some o:=by rw[<-hG,yJ _ _ _ _ (cC lt)];exact bP _ q
  refine bP _ (bP _ ?_);rw[yJ _ _ _ _ (cC (zl lt))];exact bP _ g
 show wpAny _ _ _ _ _ {s with heap:=G.push (seqObj "list" vs.toArray 0)};rw[hz'];refine ao (fK (kg JI ⟨_,ho,rfl⟩ JE ?body (JC _)))
 case body=>
  refine uU (rk:=rk) (κ:=κ) (s:={s with heap:=G.push (seqObj "list" vs.toArray 0)}) ho (by lia) (hk _ old) (hc _ old) λout p1 p2=>?_;exact⟨_,rfl,aO ⟨_,rfl,(hA out) ▸ h out p1 p2⟩⟩
end
section
theorem AS (ys:List V):((List.range ys.length).map λi=>ys.getD i V.non)=ys:=by refine m8 (by simp) λi h1 h2=>?_;simp[h2]
theorem Paired.getE {α β:Type} {F:α->β->Prop}:∀{l1:List α} {l2:List β} {i:Nat} {x:α},Paired F l1 l2->l1[i]?=some x->∃y,l2[i]?=some y/\F x y
 |_,_,_,_,.nil,e=>by simp at e
 |_,_,0,_,.cons r _,e=>by simp at e;subst e;exact⟨_,rfl,r⟩
 |_,_,i+1,x,.cons _ t,e=>by
  obtain⟨u,h1,h2⟩:=Paired.getE (i:=i) (x:=x) t (by simpa using e);exact⟨u,by simpa using h1,h2⟩
theorem uD {ys:List V} {its:List Value} (r:Vals ys its):∀(ix:List Nat),(∀i∈ix,i<ys.length)->Vals (ix.map λi=>ys.getD i .non) (ix.map λi=>its.getD i Value.none)
 | [],_=>.nil
 |i::ix,h=>by
  refine .cons ?_ (uD r ix λj hj=>h j (aY _ hj));have hi:=h i fE;obtain⟨u,e1,e2⟩:=r.get (i:=i) (x:=ys[i]) (by simp[hi]);have e3:ys.getD i .non=ys[i]:=by simp[List.getD,hi]
  have e4:its.getD i Value.none=u:=by rw[List.getD,e1];rfl
  show aH (ys.getD i .non) (its.getD i Value.none);rw[e3,e4];exact e2
theorem xi {prog:Program}:∀(us ws:List Value) (ns ms:List Int) (i:Nat) (s:Shared) {fin:Bool} {Q:Bool->Shared->Prop},IntsAre us ns->IntsAre ws ms->fin=decide (ns.length<ms.length)->Q (HT.lexLt ns ms) s->KatLex prog w A true fin Q (us.zip ws) i s
 | [],[],_,_,_,s,fin,Q,.nil,.nil,e,q=>by subst e;exact q
 | [],_::_,_,_,_,s,fin,Q,.nil,.cons _ _ _,e,q=>by subst e;exact kat_nil (by simpa [HT.lexLt] using q)
 |_::_,[],_,_,_,s,fin,Q,.cons _ _ _,.nil,e,q=>by subst e;exact kat_nil (by simpa [HT.lexLt] using q)
 |_::us,_::ws,_,_,i,s,fin,Q,.cons a t r1,.cons b u r2,e,q=>by
  rw[HT.lexLt_cons] at q;refine kat_cons (zS ?_);by_cases h:a=b
  .rw[K3 h] at q;rw[show (a==b)=true by simpa using h];refine kat_yes (xi us ws _ _ (i+1) s r1 r2 ?_ q);rw[e];simp
  .rw[K2 h] at q;rw[show (a==b)=false by simpa using h];refine kat_no ?_;cases hb:(true&&i==0) with
   |true=>exact oneLt_int q
   |false=>exact kat_one _ _ (lt_int q)
theorem Bl {α β:Type} {f:α->β}:∀{l l':List β},l'.Perm l->∀ix:List α,l=ix.map f->∃ix':List α,ix'.Perm ix/\l'=ix'.map f:=by
 intro l l' h;induction h with
 |nil=>exact λix e=>⟨ix,.refl _,e⟩
 |cons x _ ih=>
  intro ix e;cases ix with
  |nil=>cases e
  |cons i ix=>
   rw[aB] at e;injection e with e1 e2;obtain⟨ix',p,q⟩:=ih ix e2;exact⟨i::ix',p.cons i,by rw[aB,e1,q]⟩
 |swap x y l=>
  intro ix e
  match ix,e with
  |i::j::ix,e=>
   simp only[aB,yP] at e;exact⟨j::i::ix,.swap _ _ _,by rw[aB,aB,e.1,e.2.1,e.2.2]⟩
 |trans _ _ ih1 ih2=>
  intro ix e;obtain⟨ix2,p2,q2⟩:=ih2 ix e;obtain⟨ix1,p1,q1⟩:=ih1 ix2 q2;exact⟨ix1,p1.trans p2,q1⟩
def Ky (K:Frag) (H:Hp) (ys:List V) (ks:List (List Int)):Prop:=Paired (λy k=>∃n,y=V.int n/\k=[n]) ys ks\/Tups K H ys ks
def rkV (h:Heap):Value->List Int
 |.int n _=>[n]
 |.ref b=>match h.get? b with
  |some o=>match o.data with
   |.seq xs _=>xs.toList.map λv=>match v with | .int n _=>n|_=>0
   |_=>[]
  |none=>[]
 |_=>[]
theorem qX:∀{us:List Value} {ns:List Int},IntsAre us ns->(us.map λv=>match v with | .int n _=>n|_=>0)=ns
 |_,_,.nil=>rfl
 |_,_,.cons n t r=>by rw[aB,qX r]
theorem FJ (I:Inv X pins Z H s) {ys:List V} {ks:List (List Int)} {its:List Value} (h:Ky [] H ys ks) (rv:Vals ys its):∃κ:SortKind,(∀i,i<its.length->rkV s.heap (its.getD i Value.none)=ks.getD i [])/\
  ∀{A:Around} {E:Value->Shared->Prop} (h':Heap),(∀b o,s.heap.get? b=some o->o.cls=.type "tuple"->h'.get? b=some o)->2<=its.length->
   (∀Q:SortKind->Shared->Prop,Q κ {s with heap:=h'}->wpAny (model X.prog X.w) A (keyKind' its.toArray) Q E {s with heap:=h'})/\
   ∀x∈its,∀y∈its,∀C:Bool->Shared->Prop,C (HT.lexLt (rkV s.heap x) (rkV s.heap y)) {s with heap:=h'}->wpAny (model X.prog X.w) A (keyLt' κ x y) C (λ_ _=>False) {s with heap:=h'}:=by
 rcases h with h|h
 .obtain⟨ns,rfl,rfl⟩:∃ns:List Int,ys=ns.map V.int/\ks=ns.map λn=>[n]:=by
   clear rv;induction h with
   |nil=>exact⟨[],rfl,rfl⟩
   |cons r _ ih=>
    obtain⟨n,rfl,rfl⟩:=r;obtain⟨ns,rfl,rfl⟩:=ih;exact⟨n::ns,rfl,rfl⟩
  have hI:=nS rv;have hv:∀{its:List Value} {ns:List Int},IntsAre its ns->∀x∈its,∃n t,x=Value.int n t:=λ{its ns} hI x hx=>by
   induction hI with
   |nil=>cases hx
   |cons n t _ ih=>
    rcases af.mp hx with rfl|hx
    .exact⟨n,t,rfl⟩
    .exact ih hx
  refine⟨oneType',λi hi=>?_,λ{A E} h' _ h2=>⟨λQ q=>?_,λx hx y hy C q=>?_⟩⟩
  .obtain⟨u,e1,e2⟩:=rv.get (i:=i) (x:=(ns.map V.int)[i]'(by rw[rv.length];exact hi)) (by simp);have hi':i<ns.length:=by have:=rv.length;rw[aQ] at this;lia
   rw[List.getElem_map] at e2;obtain⟨t,rfl⟩:=e2;rw[List.getD,e1,List.getD,c7,aX hi'];rfl
  .match its,h2,hI with
   |v1::v2::rest,_,hI=>rw[keyKind_ints hI];exact aO q
  .obtain⟨n,t,rfl⟩:=hv hI x hx;obtain⟨m,u,rfl⟩:=hv hI y hy;refine kat_lt_int ?_;have e:HT.lexLt (rkV s.heap (Value.int n t)) (rkV s.heap (Value.int m u))=decide (n<m):=by
    show HT.lexLt [n] [m]=_;rw[HT.lexLt_cons];by_cases z:n=m
    .rw[K3 z,K5 (by lia)];rfl
    .rw[K2 z]
   rw[<-e];exact q
 .have at_:∀(ks:List (List Int)) (ys:List V) (its:List Value),Tups [] H ys ks->Vals ys its->Paired (λv k=>k≠[]/\∃b us o n,v=Value.ref b/\IntsAre us k/\s.heap.get? b=some o/\o.cls=.type "tuple"/\o.data=.seq us.toArray n) its ks:=by
   intro ks;induction ks with
   |nil=>intro ys its a b;cases a;cases b;exact .nil
   |cons k ks ih=>
    intro ys its a b;cases a with
    |cons hh tt=>
     obtain⟨bb,e0,hq,hne⟩:=hh;subst e0;cases b with
     |cons r rr=>
      cases r;obtain⟨us,r5,⟨o,p1,p2,n,p3⟩,_⟩:=I.tuple hq;exact .cons ⟨hne,bb,us,o,n,rfl,nS r5,p1,p2,p3⟩ (ih _ _ tt rr)
  have P:=at_ ks ys its h rv;have rkk:∀{b:Addr} {us:List Value} {o:Obj} {n:Nat} {k:List Int},IntsAre us k->s.heap.get? b=some o->o.data=.seq us.toArray n->rkV s.heap (Value.ref b)=k:=λ{b us o n k} i1 i2 i3=>by
   show (match s.heap.get? b with|some o=>_|none=>_)=_;rw[i2];show (match o.data with | .seq xs _=>_|_=>_)=_;rw[i3];exact qX i1
  refine⟨tuples' (Value.type "int" != Value.type "tuple"),λi hi=>?_,λ{A E} h' old h2=>⟨λQ q=>?_,λx hx y hy C q=>?_⟩⟩
  .obtain⟨k,e1,_,b,us,o,n,e2,i1,i2,_,i3⟩:=Paired.getE (i:=i) (x:=its[i]) P (by simp[hi]);rw[show its.getD i Value.none=its[i] by simp[List.getD,hi],e2,rkk i1 i2 i3,List.getD,e1];rfl
  .obtain⟨fs,hk,hfl,hfi⟩:∃fs,KatTups h' its fs/\fs.length=its.length/\∀v∈fs,∃n t,v=Value.int n t:=by
    clear rv h2 h at_;induction P with
    |nil=>exact⟨[],.nil,rfl,λ_ h=>nomatch h⟩
    |cons r _ ih=>
     obtain⟨hne,b,us,o,n,rfl,i1,i2,i4,i3⟩:=r;obtain⟨fs,k1,hl1,hi1⟩:=ih;cases i1 with
     |nil=>exact absurd rfl hne
     |cons z tk r2=>
      refine⟨Value.int z tk::fs,.cons (old _ _ i2 i4) i4 i3 (by simp) k1,by simp[hl1],λv hv=>?_⟩;rcases af.mp hv with rfl|hv
      .exact⟨_,_,rfl⟩
      .exact hi1 v hv
   refine kat_kind (T:=.type "int") hk (by lia) (λv hv=>?_) (by decide) q;obtain⟨n,t,rfl⟩:=hfi v hv;exact Looks.of_pure rfl
  .obtain⟨i,hi⟩:=dB.mp hx;obtain⟨j,hj⟩:=dB.mp hy;obtain⟨k1,_,_,b1,u1,o1,n1,rfl,i1,x1,c1,z1⟩:=Paired.getE P hi;obtain⟨k2,_,_,b2,u2,o2,n2,rfl,i2,x2,c2,z2⟩:=Paired.getE P hj;rw[rkk i1 x1 z1,rkk i2 x2 z2] at q;rw[show (Value.type "int" != Value.type "tuple")=true by decide];refine kat_lt (old _ _ x1 c1) z1 (old _ _ x2 c2) z2 (xi u1 u2 _ _ 0 _ i1 i2 ?_ q);rw[<-i1.length,<-i2.length];simp
theorem xI {ys:List V} {ks:List (List Int)} {its out:List Value} (rv:Vals ys its) (hr:∀i,i<its.length->rkV s.heap (its.getD i Value.none)=ks.getD i []) (p:out.Perm its) (pw:out.Pairwise (λu v=>HT.lexLt (rkV s.heap v) (rkV s.heap u)=false)) :
  ∃ix:List Nat,ix.Perm (List.range ys.length)/\(ix.map λi=>ks.getD i []).Pairwise (λa b=>HT.lexLt b a=false)/\Vals (ix.map λi=>ys.getD i .non) out:=by
 have e:its=(List.range its.length).map λi=>its.getD i Value.none:=by refine m8 (by simp) λi h1 h2=>?_;simp[h1]
 obtain⟨ix,p2,rfl⟩:=Bl p _ e;have hb:∀i∈ix,i<its.length:=λi hi=>gF.mp (p2.mem_iff.mp hi);refine⟨ix,by rw[rv.length];exact p2,?_,uD rv ix λi hi=>by rw[rv.length];exact hb i hi⟩;rw[fX] at pw |-;refine pC (λ{a b} ha hb' h=>?_) pw;rw[hr _ (hb a ha),hr _ (hb b hb')] at h;exact h
theorem FH {K:Frag} (ns:List Int):Ky K H (ns.map V.int) (ns.map λn=>[n]):=.inl (by
 induction ns with
 |nil=>exact .nil
 |cons n ns ih=>exact .cons ⟨n,rfl,rfl⟩ ih)
theorem FQ {ns:List Int} {ix:List Nat} (p:ix.Perm (List.range (ns.map V.int).length)) (w:(ix.map λi=>(ns.map λn=>[n]).getD i []).Pairwise (λa b=>HT.lexLt b a=false)) :
  ∃ms:List Int,ms.Perm ns/\ms.Pairwise (·<=·)/\(ix.map λi=>(ns.map V.int).getD i .non)=ms.map V.int:=by
 rw[aQ] at p;have hb:∀i∈ix,i<ns.length:=λi hi=>gF.mp (p.mem_iff.mp hi);refine⟨ix.map λi=>ns.getD i 0,?_,?_,?_⟩
 .have:=p.map λi=>ns.getD i 0;refine this.trans (yN (m8 (by simp) λi h1 h2=>?_));simp[h2]
 .rw[fX] at w |-;refine pC (λ{a b} ha hb' h=>?_) w;have h1:=hb a ha;have h2:=hb b hb';simp only[List.getD,c7,aX h1,aX h2,hJ,zt] at h |-;rw[HT.lexLt_cons] at h;by_cases z:ns[b]=ns[a]
  .lia
  .rw[K2 z] at h;have:=of_decide_eq_false h;lia
 .rw[c9];refine pQ λi hi=>?_;have:=hb i hi;simp[List.getD,this]
end
def DAt (h:Heap) (d:Addr) (es:Array DictEntry) (ep:Nat):Prop:=∃o,h.get? d=some o/\o.ExactDict/\o.data=.dict es ep
theorem DAt.lt {h:Heap} {d:Addr} {es:Array DictEntry} {ep:Nat} (x:DAt h d es ep):d<h.objs.size:=let ⟨_,e,_⟩:=x;bf e
theorem DAt.at {h h':Heap} {d:Addr} {es:Array DictEntry} {ep:Nat} (x:DAt h d es ep) (k:∀o,h.get? d=some o->h'.get? d=some o):DAt h' d es ep:=let ⟨o,e,r⟩:=x;⟨o,k o e,r⟩
theorem DAt.ty {d:Addr} {es:Array DictEntry} {ep:Nat} (x:DAt s.heap d es ep):s.TypeIs (.ref d) "dict":=let ⟨o,e,c,_⟩:=x;⟨o,e,c.1⟩
section
variable {prog:Program} {d it:Addr} {es:Array DictEntry} {ep i:Nat}
theorem yy {Q:Value->Shared->Prop} (lo:(d==sysModules)=false) (m:DAt s.heap d es ep)
  (q:Q (.ref s.heap.objs.size) {s with heap:=s.heap.push {cls:=.type "dict_keyiterator",data:=.fields #[.ref d,.int 0 0,.int es.size 0,.int ep 0]}}):wpAny (model prog w) A (pyIter (.ref d)) Q E s:=by
 obtain⟨o,eo,_,ed⟩:=id m;refine wpAny_pyIter_slot m.ty Jp (kg Jp m.ty PySem.F.entry_dict_iter ?tree (PySem.F.args_dict_iter_1 _));unfold Builtin.«dict.__iter__» Builtin.Dict.dictSlotNone;refine ao (ao (JW m.ty ?_));refine aO (show wpAny _ _ (Builtin.Dict.showsAll d >>= _) _ _ s from ?_);unfold Builtin.Dict.showsAll;rw[K2 (show ¬(d==sysModules)=true by rw[lo];simp)];refine ao (aO (ao (zQ eo ed (ao (zR eo ed ?_)))));refine ao (nK (aO ⟨_,rfl,"dict_keyiterator",_,⟨_,cQ _ rfl,rfl⟩,qa.lookup,?_⟩));simpa [rawInt] using q
theorem Ij {Q:Option Value->Shared->Prop} (hit:s.heap.IsKeyIter it d i es.size ep) (m:DAt s.heap d es ep) (hi:i<es.size)
  (q:∀h',h'.IsKeyIter it d (i+1) es.size ep->Heap.SameBut it s.heap h'->Q (some es[i].key) {s with heap:=h'}):wpAny (model prog w) A (pyNext (.ref it)) Q E s:=by
 obtain⟨o,ho,hc,hd⟩:=id hit;obtain⟨od,eo,_,ed⟩:=id m;unfold pyNext;refine ao (zP (ua (name:=Str.ofString "__next__") hit.typeIs qa (kg qa hit.typeIs Jm ?tree (Jj _))));refine ao (aO (ao (ao ?_)))
 first|refine ao (uh hit.typeIs (aO (ao (uc ho hd ?_))))|refine ao (ui hit.typeIs (aO (ao (uc ho hd ?_))))
 simp only[show Builtin.Dict_items.ownsTuple "dict_keyiterator" = false by decide,pz,if_false];refine (show wpAny _ _ (if (Value.ref d==Value.none)=true then _ else _) _ _ s from ?_);rw[K2 (show ¬(Value.ref d==Value.none)=true from cq)];refine ao (aO (ao (zQ eo ed ?_)));rw[K2 (by simp)];refine ao (aO (ao (zR eo ed ?_)));rw[K2 (by simp)];refine aO ?_;simp only[show ¬((i:Int)<0) by lia,if_false,Int.toNat_natCast,Array.getElem?_eq_getElem hi];refine ao ?_
 first|refine ao (uh hit.typeIs (aO (ao (zU hit.typeIs ?_))))|refine ao (ui hit.typeIs (aO (ao (zU hit.typeIs ?_))))
 show wpAny _ _ (setField (.ref it) 1 (rawInt ((i:Int)+1)) >>= _) _ _ s;refine ao (zZ ho hd (by simp) ?_);have t':(s.heap.update it (Obj.mapFields (·.setIfInBounds 1 (rawInt ((i:Int)+1))))).IsKeyIter it d (i+1) es.size ep:=
  ⟨_,yK _ ho (Jd (tU hd _)),(Jc ..).trans hc,by rw[tU hd];simp[rawInt]⟩
 refine ao (fK (ao (zU (s:={s with heap:=s.heap.update it (Obj.mapFields (·.setIfInBounds 1 (rawInt ((i:Int)+1))))}) t'.typeIs ?_)));show wpAny _ _ (pure es[i].key) _ _ _;exact aO (aO ⟨_,rfl,aO (q _ t' (s_ ..))⟩)
theorem dEnd {Q:Option Value->Shared->Prop} (hh:A.handled=none) (hit:s.heap.IsKeyIter it d i es.size ep) (m:DAt s.heap d es ep) (hi:es.size<=i)
  (q:∀h',Heap.ExtBut it s.heap h'->Q none {s with heap:=h'}):wpAny (model prog w) A (pyNext (.ref it)) Q E s:=by
 obtain⟨o,ho,hc,hd⟩:=id hit;obtain⟨od,eo,_,ed⟩:=id m;unfold pyNext;refine ao (zP (ua (name:=Str.ofString "__next__") hit.typeIs qa (kg qa hit.typeIs Jm ?tree (Jj _))));refine ao (aO (ao (ao ?_)))
 first|refine ao (uh hit.typeIs (aO (ao (uc ho hd ?_))))|refine ao (ui hit.typeIs (aO (ao (uc ho hd ?_))))
 simp only[show Builtin.Dict_items.ownsTuple "dict_keyiterator" = false by decide,pz,if_false];refine (show wpAny _ _ (if (Value.ref d==Value.none)=true then _ else _) _ _ s from ?_);rw[K2 (show ¬(Value.ref d==Value.none)=true from cq)];refine ao (aO (ao (zQ eo ed ?_)));rw[K2 (by simp)];refine ao (aO (ao (zR eo ed ?_)));rw[K2 (by simp)];refine aO ?_;simp only[show ¬((i:Int)<0) by lia,if_false,Int.toNat_natCast,Array.getElem?_eq_none hi];refine ao ?_
 first|refine ao (uh hit.typeIs (aO ?_))|refine ao (ui hit.typeIs (aO ?_))
 refine (show wpAny _ _ (setField (.ref it) 0 .none >>= _) _ _ s from ao (zZ ho hd (by simp) ?_));show wpAny _ _ (newExc (.type "StopIteration") [] >>= _) _ _ _;refine ao ?_;simp only[newExc,newTuple];refine ao (nK (ao (m:=firstArgMember _ _) (ue (a:=Value.none) (by first|rfl|(simp only[firstArgMember];rfl)) (nK ?_ (by size_fits)))) (by size_fits));simp only[raiseNew];refine ao (wpAny_handled ?_);rw[show A.in1.handled=none from hh];refine ao (aO (wpAny_throw ?_));refine ao (wpAny_isInstance (b:=true) (T:="StopIteration") ⟨_,cQ _ rfl,rfl⟩ isSubtype_stop ?_);exact aO (q _ (((s_ ..).extBut.push _).push _))
theorem xS (hh:A.handled=none) (I:Addr) (hne:d≠I):Walks prog w A I [I,d] [I] es.size (λi v=>∃(h:i<es.size),v=es[i].key) (λi h=>h.IsKeyIter I d i es.size ep/\DAt h d es ep) where
 sub:=λb hb=>by simp at hb;simp[hb]
 frame:=λ_ _ _ st hk=>⟨st.1.at λo e=>hk I (by simp) o e,st.2.at λo e=>hk d (by simp) o e⟩
 item:=λi s Q E hi st hQ=>Ij st.1 st.2 hi λh' t' sb=>hQ _ h' s.toks ⟨hi,rfl⟩ ⟨t',st.2.at λo e=>(sb.2 d hne).trans e⟩ λb o hb e=>sb.extBut b o (λh=>hb (by simp[h])) e
 done:=λs Q E st hQ=>dEnd hh st.1 st.2 (aC _) λh' x=>hQ h' s.toks λb o hb e=>x b o (λh=>hb (by simp[h])) e
 self:=λ_ _ _ _ st hQ=>wpAny_pyIter_keyiter st.1 hQ
theorem dSrc (lo:(d==sysModules)=false):KdlSrc prog w "dict" d d es.size (λi v=>∃(h:i<es.size),v=es[i].key) (λh=>DAt h d es ep) where
 type:=λ_ m=>m.ty
 there:=λ_ m=>⟨m.lt,m.lt⟩
 keep:=λ_ _ m hk=>m.at λo e=>hk d (.inl rfl) o e
 notList:=by decide
 notTuple:=by decide
 hint:=λ_ _ _ _ m hq=>kdl_hint_dict m.ty hq
 iter:=λ_ _ hh m=>⟨_,_,(λ_ _ hq=>yy lo m hq),xS hh _ (cC m.lt),⟨⟨_,cQ _ rfl,rfl,rfl⟩,m.at λo e=>bP _ e⟩⟩
end
end L2
end
section
namespace L2
open PySem PySem.Spec PyProof.Rows PySem.W
def DKeys (H:Hp) (d:Addr) (ks vs:List V):Prop:=
 (∃kvs,H d=some (.dK kvs)/\ks=kvs.map (λp=>kV p.1)/\vs=kvs.map (·.2)) \/
 ∃kvs as,H d=some (.dT kvs)/\Paired (λ(p:List Key×V) a=>H a=some (.tup (p.1.map kV))) kvs as/\ks=as.map V.ref/\vs=kvs.map (·.2)
def DIs (H:Hp) (d:Addr):Prop:=(∃kvs,H d=some (.dK kvs))\/∃kvs,H d=some (.dT kvs)
theorem dview {d:Addr} (I:Inv X pins Z H s) (hd:DIs H d) :
  (d==sysModules)=false/\∃ks vs es ep,DKeys H d ks vs/\ks.length<=sizeLine/\DAt s.heap d es ep/\Vals ks (es.toList.map (·.key))/\Vals vs (es.toList.map (·.val)):=by
 rcases hd with ⟨kvs,e⟩|⟨kvs,e⟩
 .obtain⟨z,lo,us,rel,o,es,ep,h1,h2,h3,_,h5,_⟩:=o_ I.hok e;refine⟨lo,_,_,es,ep,.inl ⟨kvs,e,rfl,rfl⟩,by rw[aQ];exact z,⟨o,h1,h2,h3⟩,?_⟩;generalize es.toList=l at h5;have go:∀{kvs:List (Key×V)} {us:List (Key×Value)} {l:List DictEntry},KV kvs us->Pairs (dH X.prog X.w) l us->Vals (kvs.map λp=>kV p.1) (l.map (·.key))/\Vals (kvs.map (·.2)) (l.map (·.val)):=by
   intro kvs us l r;induction r generalizing l with
   |nil=>intro p;cases p;exact⟨.nil,.nil⟩
   | @cons a b l1 l2 h1 h2 ih=>
    intro p;cases p with
    |cons p1 p2 p3=>
     obtain⟨i1,i2⟩:=ih p3;refine⟨.cons ?_ i1,.cons ?_ i2⟩
     .dsimp only;rw[h1.1];rcases fM p1 with ⟨i,t,e1,e2⟩|⟨x,t,e1,e2⟩
      .rw[e1,e2];exact⟨t,rfl⟩
      .rw[e1,e2];exact⟨t,rfl⟩
     .dsimp only;rw[p2];exact h1.2
  exact go rel h5
 .obtain⟨z,lo,xs,rel,o,es,ep,h1,h2,h3,h4,hz⟩:=yu I.hok e;clear hz;have go:∀{kvs:List (List Key×V)} {xs:List (List Key×Addr×Value)},KT H kvs xs->Paired (λ(p:List Key×V) a=>H a=some (.tup (p.1.map kV))) kvs (xs.map (·.2.1))/\Vals (kvs.map (·.2)) (xs.map (·.2.2)):=by
   intro kvs xs r;induction r with
   |nil=>exact⟨.nil,.nil⟩
   |cons h1 h2 ih=>exact⟨.cons h1.2.1 ih.1,.cons h1.2.2 ih.2⟩
  obtain⟨g1,g2⟩:=go rel;have hl:=p_ g1;refine⟨lo,_,_,es,ep,.inr ⟨kvs,_,e,g1,rfl,rfl⟩,by rw[aQ,<-hl];exact z,⟨o,h1,h2,h3⟩,?_,?_⟩
  .rw[h4,c9,c9];clear h4 rel g1 g2 hl;induction xs with
   |nil=>exact .nil
   |cons x r ih=>exact .cons rfl ih
  .rw[h4,c9];exact g2
abbrev sh (X:Cx):Cx:={X with A:=X.A.in1}
section
theorem Inv.toIn1 (I:Inv X pins Z H s):Inv (sh X) pins Z H s:=
 ⟨⟨I.ok.mod,I.ok.kind,I.ok.glob,I.ok.blt,I.ok.above,I.ok.inj,I.ok.has,I.ok.cab,I.ok.hd,I.ok.frames,I.ok.stk,I.ok.exf,I.ok.bs,I.ok.bsz,I.ok.noex,I.ok.exfs,I.ok.funs,I.ok.frf⟩,I.os,I.bare,I.base,I.loc,I.cell,I.free,I.freeC,I.pin,I.hok,I.len⟩
theorem Inv.ofIn1 (I:Inv (sh X) pins Z H s):Inv X pins Z H s:=
 ⟨⟨I.ok.mod,I.ok.kind,I.ok.glob,I.ok.blt,I.ok.above,I.ok.inj,I.ok.has,I.ok.cab,I.ok.hd,I.ok.frames,I.ok.stk,I.ok.exf,I.ok.bs,I.ok.bsz,I.ok.noex,I.ok.exfs,I.ok.funs,I.ok.frf⟩,I.os,I.bare,I.base,I.loc,I.cell,I.free,I.freeC,I.pin,I.hok,I.len⟩
end
section
def wA (K:Frag):V->List V->Hp->VK->Prop:=λx vs H Q=>∃(l:Addr) (ys:List V) (ks:List (List Int)),x=.ref l/\vs=[]/\H l=some (.lst ys)/\Ky K H ys ks/\ys.length<5000/\
 ∀(ix:List Nat),ix.Perm (List.range ys.length)->(ix.map λi=>ks.getD i []).Pairwise (λa b=>HT.lexLt b a=false)->Q .non (upd H l (.lst (ix.map λi=>ys.getD i .non)))
theorem As:MtM X "list.sort" (wA []):=by
 intro pins s Z H x vs v us Q I rx rv h;obtain⟨l,ys,ks,rfl,rfl,hl,hy,hz,q⟩:=h;cases rx;cases rv;obtain⟨z,its,n,r,hlen,e⟩:=I.lstM hl;have hn:=r.length;obtain⟨κ,hr,ask⟩:=FJ I hy r;have old:∀b o,s.heap.get? b=some o->o.cls=.type "tuple"->(fT s.heap l its).get? b=some o:=λb o hb hc=>by
  refine bP _ (bP _ ?_);rw[yJ _ _ _ _ (λy=>by rw[y,e] at hb;cases hb;exact absurd (show Value.type "list" = Value.type "tuple" from hc) (by decide))];exact hb
 refine kg JI ⟨_,e,rfl⟩ JE (uU (κ:=κ) (rk:=rkV s.heap) e (by rw[gH];lia) (λh2=>(ask _ old h2).1) (λh2=>(ask (E:=λ_ _=>False) _ old h2).2) λout p1 p2=>⟨_,rfl,?_⟩) (JC _);obtain⟨ix,x1,x2,x3⟩:=xI r hr p1 p2;obtain⟨e',he⟩:=sortedHeap_at (out:=out.toArray) e;exact⟨.non,_,I.write (x:=l) (e:=l) (o:=.lst (ix.map λi=>ys.getD i .non)) (t':=s.toks) (by rw[hl];exact True.intro) (.inl rfl) (λb u hb q=>(sortedHeap_old hb (bf q)).trans q) ⟨_,he⟩ ⟨by rw[aQ,x1.length_eq,pP,gH];lia,out,e',x3,by rw[he]⟩,rfl,q ix x1 x2⟩
end
theorem Tups.mono {K:Frag} {ys:List V} {ks:List (List Int)} (h:Tups K H ys ks) (k:∀a xs,H a=some (.tup xs)->H' a=some (.tup xs)) (kf:∀a o xs,H a=some (.frz o (.tup xs))->H' a=some (.frz o (.tup xs))):Tups K H' ys ks:=by
 refine Paired.mapP h λy z ⟨b,e,q,n⟩=>⟨b,e,?_,n⟩;rcases q with (q|⟨o,q⟩)|q
 .exact .inl (.inl (k _ _ q))
 .exact .inl (.inr ⟨o,kf _ _ _ q⟩)
 .exact .inr q
theorem B6 {K:Frag} {D:Addr} {ks:List V} {Q:V->Hp->Prop} (hn:H D=none)
  (k:(∃ns:List Int,ks=ns.map V.int/\ns.length<5000/\∀(p:Addr) (ms:List Int),H p=none->ms.Perm ns->ms.Pairwise (·<=·)->Q (.ref p) (upd H p (.lst (ms.map V.int)))) \/
   ∃kz:List (List Int),Tups K H ks kz/\ks.length<5000/\∀(p:Addr) (ix:List Nat),H p=none->ix.Perm (List.range ks.length)->(ix.map λi=>kz.getD i []).Pairwise (λa b=>HT.lexLt b a=false)->Q (.ref p) (upd H p (.lst (ix.map λi=>ks.getD i .non)))) :
  wA K (.ref D) [] (upd H D (.lst ks)) λ_ H'=>Q (.ref D) H':=by
 rcases k with ⟨ns,e0,hl,q⟩|⟨kz,ht,hl,q⟩
 .subst e0;refine⟨D,_,_,rfl,rfl,cx,FH ns,by rw[aQ];exact hl,λix h1 h2=>?_⟩;obtain⟨ms,m1,m2,m3⟩:=FQ h1 h2;rw[qN,m3];exact q D ms hn m1 m2
 .refine⟨D,ks,kz,rfl,rfl,cx,.inr (ht.mono (λb xs e=>by rw[bz (ax e hn)];exact e) λb o xs e=>by rw[bz (ax e hn)];exact e),hl,λix h1 h2=>?_⟩;rw[qN];exact q D ix hn h1 h2
section
def Fh (K:Frag):List V->Hp->VK->Prop:=λxs H Q=>∃a:Addr,xs=[.ref a]/\DIs H a/\∀ks vs,DKeys H a ks vs->
 (∃ns:List Int,ks=ns.map V.int/\ns.length<5000/\∀(p:Addr) (ms:List Int),H p=none->ms.Perm ns->ms.Pairwise (·<=·)->Q (.ref p) (upd H p (.lst (ms.map V.int)))) \/
 ∃kz:List (List Int),Tups K H ks kz/\ks.length<5000/\∀(p:Addr) (ix:List Nat),H p=none->ix.Perm (List.range ks.length)->(ix.map λi=>kz.getD i []).Pairwise (λa b=>HT.lexLt b a=false)->Q (.ref p) (upd H p (.lst (ix.map λi=>ks.getD i .non)))
theorem A3 {α:Type} {l m:List α} (hl:l.length=m.length) (h:∀(j:Nat) (v:α),l[j]?=some v->m[j]?=some v):l=m:=by
 refine tE λi=>?_;cases e:l[i]? with
 |some v=>rw[h i v e]
 |none=>
  have:l.length<=i:=II.mp e;exact (II.mpr (by lia)).symm
theorem nM (hc:X.calm=true):d_ X (.builtin "sorted") (Fh []):=by
 intro pins s Z H xs us Q I r h;obtain⟨a,rfl,hd,k⟩:=h;obtain⟨u,rfl,ru⟩:=Vals.one r;cases ru;obtain⟨lo,ks,vs,es,ep,dk,hz,dm,r1,r2⟩:=dview I hd;obtain⟨m,F⟩:=I.fr;have hl1:ks.length=es.size:=by have:=r1.length;simpa using this
 refine kdu_sorted (dSrc (es:=es) (ep:=ep) lo) (I.ok.hd hc) F (vH (g:=X.base) (L:=X.env.locals)) dm (by rw[<-hl1];exact hz) λD h' tk vs' F' N' hD hl hv=>?_;obtain⟨k1,k2⟩:=I.newsKept (t':=s.toks) (more:=[(D,listOf vs'.toArray 0)]) F F' N';have nD:=N' (D,listOf vs'.toArray 0) (.head _);have hD0:s.heap.get? D=none:=by
  cases e:s.heap.get? D with
  |none=>rfl
  |some o=>exact absurd (hD (D,o) (uq nD.2.1 nD.2.2 e)) (fI _)
 have ev:vs'=es.toList.map (·.key):=by refine A3 (by rw[hl];simp) λj v e=>?_;obtain⟨hj,rfl⟩:=hv j v e;rw[c7];simp[hj]
 have I':Inv X pins Z (upd H D (.lst ks)) {s with heap:=h',toks:=tk}:=I.laidN (t':=tk) k1 k2 hD0 (λH'=>⟨hz,vs',0,by rw[ev];exact r1,nD.1⟩) (λ_ _ z=>by cases z);have z:=As (X:=sh X) pins _ Z _ (.ref D) [] (.ref D) [] (λ_ H'=>Q (.ref D) H') I'.toIn1 rfl .nil (B6 (I.hok.none_of hD0) (k ks vs dk));exact thn z λ_ s' ⟨_,H',J,_,q'⟩=>⟨.ref D,H',J.ofIn1,rfl,q'⟩
end
section
def Cc (x:V) (vs:List V) (H:Hp) (Q:VK) (l:Addr) (xs:List V) (i:Nat) (y:V):Prop:=x=.ref l/\vs=[.int i,y]/\H l=some (.lst xs)/\i<=xs.length/\xs.length<sizeLine/\WrO H l (.lst (xs.take i++y::xs.drop i)) (Q .non)
def DL:V->List V->Hp->VK->Prop:=λx vs H Q=>Exists (Ex4 (Cc x vs H Q))
theorem Ef {i n:Nat} (hi:i<=n) (hz:n<sizeLine):¬(!Builtin.List.listFitsIndex (i:Int))=true:=by rw[gH] at hz;have f:=JF (k:=(i:Int)) (by lia) (by lia);intro y;rw[f] at y;cases y
theorem CO {prog:Program} {w:World} {A:Around} {E:Value->Shared->Prop} {Q:Value->Shared->Prop} {l:Addr} {its:Array Value} {n:Nat} {i:Int} {t:Tok} {u2:Value} (hT:s.TypeIs (Value.ref l) "list") (hfit:¬(!Builtin.List.listFitsIndex i)=true) (hsz:its.size<=sizeLine)
  (e:s.heap.get? l=some {cls:=.type "list",data:=.seq its n})
  (h:Q .none {s with heap:=s.heap.update l (Obj.mapSeq λxs=>(xs.extract 0 (if i<0 then (i+(xs.size:Int)).toNat else min i.toNat xs.size)).push u2++xs.extract (if i<0 then (i+(xs.size:Int)).toNat else min i.toNat xs.size))}) :
  wpAny (model prog w) A (call (Value.builtin "list.insert") [Value.ref l,Value.int i t,u2]) Q E s:=
 tY Jr hT PySem.F.entry_list_insert (PySem.F.args_list_insert_3 _ _ _) (Kc l its n i t u2 hfit hsz) ⟨e,h⟩
theorem Bq:MtM X "list.insert" DL:=by
 intro pins s Z H x vs v us Q I rx rv h;obtain⟨l,xs,i,y,rfl,rfl,hH,hi,hz,q⟩:=h;cases rx;obtain⟨u1,u2,rfl,r1,r2⟩:=rv.two;obtain⟨t,rfl⟩:=r1;obtain⟨z,its,n,r,hl,e⟩:=I.lstM hH;have hfit:=Ef hi hz;have hsz:its.toArray.size<=sizeLine:=by rw[bX,<-hl];exact z
 refine CO (s:=s) ⟨_,e,rfl⟩ hfit hsz e ?_;refine⟨.non,_,I.lset (its':=its.take i++u2::its.drop i) hH e ?_ (Vals.append (r.take i) (.cons r2 (r.drop i))) ?_,rfl,q.at⟩
 .have e1:(if (i:Int)<0 then ((i:Int)+(its.toArray.size:Int)).toNat else min (i:Int).toNat its.toArray.size)=i:=by
   rw[K2 (by lia),Int.toNat_natCast,bX];lia
  show ((its.toArray.extract 0 _).push u2++its.toArray.extract _)=_;rw[e1];have hd:(its.drop i).take (its.length-i)=its.drop i:=gG (by rw[aW];exact aC _);simp[List.extract_eq_drop_take,hd]
 .rw[ar,aZ,bG,aW];lia
def HB (K:Frag):List V->Hp->VK->Prop:=λxs H Q=>∃(a:Addr) (ns:List Int),xs=[.ref a]/\SqL K H a (ns.map V.int)/\ns≠[]/\∀m,m∈ns->(∀n∈ns,n<=m)->Q (.int m) H
theorem qM (r:Vals xs us) {i:Nat} {v:Value} (e:us[i]?=some v):∃x,xs[i]?=some x/\aH x v:=by
 have hl:=r.length;have hi:i<xs.length:=by have:=(aS.mp e).1;lia
 obtain⟨u,e1,e2⟩:=r.get (i:=i) (x:=xs[i]) (by simp[hi]);rw[e] at e1;cases e1;exact⟨_,by simp[hi],e2⟩
theorem xM {ns:List Int} (r:Vals (ns.map V.int) us) (i:Nat) (v:Value) (e:us.toArray[i]?=some v):∃t,v=.int (ns.getD i 0) t:=by obtain⟨x,e1,e2⟩:=qM r (i:=i) (v:=v) (by simpa using e);rw[c7] at e1;obtain⟨n,e3,rfl⟩:=fJ.mp e1;obtain⟨t,rfl⟩:=e2;exact⟨t,by rw[List.getD,e3];rfl⟩
theorem uo (hc:X.calm=true):d_ X (.builtin "max") (HB []):=by intro pins s Z H xs us Q I r h;obtain⟨a,ns,rfl,hq,hne,q⟩:=h;obtain⟨u,rfl,ru⟩:=Vals.one r;cases ru;obtain⟨its,rv,p,hz⟩:=I.list hq;obtain⟨m,F⟩:=I.fr;refine max_list_N (I.ok.hd hc) F (vH (g:=X.base) (L:=X.env.locals)) p.isList (nS rv) (iE.mpr hne) λh' M t tk F' N' h1 h2=>?_;obtain⟨k1,k2⟩:=I.newsKept (t':=tk) (more:=[]) F F' N';exact⟨.int M,H,I.keptN (t':=tk) k1 k2,⟨t,rfl⟩,q M h1 h2⟩
theorem Dd (ns:List Int) (hne:ns≠[]):(ns.getD (argBest (λi j=>decide (ns.getD i 0<ns.getD j 0)) (ns.length-1)) 0)∈ns/\∀n∈ns,ns.getD (argBest (λi j=>decide (ns.getD i 0<ns.getD j 0)) (ns.length-1)) 0<=n:=by
 obtain⟨h1,h2⟩:=argBest_lt (λi=>ns.getD i 0) (ns.length-1);have hp:=iE.mpr hne;refine⟨?_,λn hn=>?_⟩
 .have hb:argBest (λi j=>decide (ns.getD i 0<ns.getD j 0)) (ns.length-1)<ns.length:=by lia
  rw[List.getD,aX hb];exact j6 hb
 .obtain⟨j,hj,rfl⟩:=List.getElem_of_mem hn;have:=h2 j (by lia);have e:ns.getD j 0=ns[j]:=by simp[List.getD,hj]
  rw[e] at this;exact this
end
end L2
end
section
namespace L2
open PySem PySem.Spec PyProof.Rows
section
def rAll (K:W.Frag):List V->Hp->VK->Prop:=λxs H Q=>∃(a:Addr) (bs:List Bool),xs=[.ref a]/\SqL K H a (bs.map V.bl)/\Q (.bl (bs.all id)) H
theorem Aj (hc:X.calm=true):d_ X (.builtin "all") (rAll []):=by
 intro pins s Z H xs us Q I r h;obtain⟨a,bs,rfl,hq,q⟩:=h;obtain⟨u,rfl,ru⟩:=Vals.one r;cases ru;obtain⟨its,rv,p,hz⟩:=I.list hq;have hl:=rv.length;rw[aQ] at hl;have hil:=p.isList;have hlt:a<s.heap.objs.size:=by obtain⟨_,e,_⟩:=hil;exact bf e
 refine call_all_walk (qd hil ?_);refine⟨s.heap.objs.size,_,_,_,_,_,(λi=>bs.getD i false),rfl,JB (A:=X.A.in1) (I.ok.hd hc) _ a (cC hlt) its.toArray,⟨⟨_,cQ _ rfl,rfl,rfl⟩,hil.push _⟩,λi v s' Q' E' hP hQ=>?_,λh' tk hk=>?_⟩
 .obtain⟨x,e1,e2⟩:=qM rv (i:=i) (v:=v) (by simpa using hP);rw[c7] at e1;obtain⟨b,e3,rfl⟩:=fJ.mp e1;cases e2;have:bs.getD i false=b:=by rw[List.getD,e3];rfl
  dsimp only at hQ;rw[this] at hQ;exact iJ hQ
 .have e:(List.range its.toArray.size).all (λi=>bs.getD i false)=bs.all id:=by
   rw[bX,<-hl];have e2:bs=(List.range bs.length).map λi=>bs.getD i false:=by refine m8 (by simp) λi h1 h2=>?_;simp[h1]
   conv=>rhs;rw[e2,Iw]
   rfl
  rw[e];exact⟨.bl _,H,I.kept (t':=tk) λb o e=>hk b o (λz=>by rw[aR.mp z] at e;exact absurd (bf e) (fI _)) (bP _ e),rfl,q⟩
end
mutual
inductive Dt (K:W.Frag) (H:Hp):V->PyData->Prop
 |non:Dt K H .non .none
 |bl (b:Bool):Dt K H (.bl b) (.bool b)
 |int (i:Int):Dt K H (.int i) (.int i)
 |str (x:Str) (h:(PyData.str x).canLay0=true):Dt K H (.str x) (.str x)
 |lst {a:Addr} {xs:List V} {ds:List PyData} (h:SqL K H a xs) (r:Dts K H xs ds):Dt K H (.ref a) (.list ds)
 |tup {a:Addr} {xs:List V} {ds:List PyData} (h:SqT K H a xs) (r:Dts K H xs ds):Dt K H (.ref a) (.tuple ds)
inductive Dts (K:W.Frag) (H:Hp):List V->List PyData->Prop
 |nil:Dts K H [] []
 |cons {x:V} {d:PyData} {xs:List V} {ds:List PyData} (h:Dt K H x d) (r:Dts K H xs ds):Dts K H (x::xs) (d::ds)
end
section
mutual
theorem Dt.reads (I:Inv X pins Z H s):∀(d:PyData) (v:V) (u:Value),Dt [] H v d->aH v u->∃as,Reads s.heap u d as
 |.none,_,_,.non,r=>by cases r;exact⟨_,.none⟩
 |.bool b,_,_,.bl _,r=>by cases r;exact⟨_,.bool b⟩
 |.int i,_,_,.int _,r=>by obtain⟨t,rfl⟩:=r;exact⟨_,.int i t⟩
 |.str x,_,_,.str _ _,r=>by obtain⟨t,rfl⟩:=r;exact⟨_,.str x t⟩
 |.list ds,_,_,.lst h hs,r=>by
  cases r;obtain⟨its,rv,⟨o,n,e,c,_,dd⟩,_⟩:=I.list h;obtain⟨as,q⟩:=Dts.reads I ds _ _ hs rv;exact⟨_,.list e c dd (by simpa using q)⟩
 |.tuple ds,_,_,.tup h hs,r=>by
  cases r;obtain⟨its,rv,⟨o,e,c,n,dd⟩,_⟩:=I.tuple h;obtain⟨as,q⟩:=Dts.reads I ds _ _ hs rv;exact⟨_,.tuple e c dd (by simpa using q)⟩
 |.dict _,_,_,h,_=>nomatch h
theorem Dts.reads (I:Inv X pins Z H s):∀(ds:List PyData) (xs:List V) (us:List Value),Dts [] H xs ds->Vals xs us->∃as,ReadsAll s.heap us ds as
 | [],_,_,.nil,r=>by cases r;exact⟨_,.nil⟩
 |d::ds,_,_,.cons h hs,r=>by
  cases r with
  |cons r rs=>
   obtain⟨as,q⟩:=Dt.reads I d _ _ h r;obtain⟨bs,p⟩:=Dts.reads I ds _ _ hs rs;exact⟨_,.cons q p⟩
end
mutual
theorem Dt.can:∀(d:PyData) (v:V),Dt K H v d->d.canLay0=true
 |.none,_,_=>rfl
 |.bool b,_,_=>rfl
 |.int i,_,_=>rfl
 |.str x,_,.str _ h=>h
 |.list ds,_,.lst _ hs=>Dts.can ds _ hs
 |.tuple ds,_,.tup _ hs=>Dts.can ds _ hs
 |.dict _,_,h=>nomatch h
theorem Dts.can:∀(ds:List PyData) (xs:List V),Dts K H xs ds->PyData.canLayAll0 ds=true
 | [],_,_=>rfl
 |d::ds,_,.cons h hs=>by rw[PyData.canLayAll0,Dt.can d _ h,Dts.can ds _ hs];rfl
end
mutual
def gX:PyData->Bool
 |.bool _=>false
 |.list ds=>eU ds
 |.tuple ds=>eU ds
 |.dict _=>false
 |_=>true
def eU:List PyData->Bool
 | []=>true
 |d::ds=>gX d&&eU ds
end
mutual
theorem lU:∀(d e:PyData),gX d=true->gX e=true->(PyData.eqv d e=true↔d=e)
 |.none,e,_,h=>by cases e<;>simp[PyData.eqv]
 |.bool b,_,h,_=>nomatch h
 |.int i,e,_,h=>by
  cases e with
  |bool _=>exact nomatch h
  |_=>simp[PyData.eqv]
 |.str i,e,_,h=>by
  cases e with
  |bool _=>exact nomatch h
  |_=>simp[PyData.eqv]
 |.list xs,e,h1,h=>by
  cases e with
  |list ys=>rw[PyData.eqv,qh xs ys h1 h];simp
  |_=>simp[PyData.eqv]
 |.tuple xs,e,h1,h=>by
  cases e with
  |tuple ys=>rw[PyData.eqv,qh xs ys h1 h];simp
  |_=>simp[PyData.eqv]
 |.dict _,_,h,_=>nomatch h
theorem qh:∀(ds es:List PyData),eU ds=true->eU es=true->(PyData.eqvAll ds es=true↔ds=es)
 | [],[],_,_=>by simp[PyData.eqvAll]
 | [],_::_,_,_=>by simp[PyData.eqvAll]
 |_::_,[],_,_=>by simp[PyData.eqvAll]
 |d::ds,e::es,h1,h2=>by
  have a1:gX d=true/\eU ds=true:=by simpa [eU] using h1
  have a2:gX e=true/\eU es=true:=by simpa [eU] using h2
  rw[PyData.eqvAll,sU,lU d e a1.1 a2.1,qh ds es a1.2 a2.2];simp
end
def HG (K:W.Frag) (neg:Bool) (x y:V) (H:Hp) (Q:VK) (d e:PyData):Prop:=Dt K H x d/\Dt K H y e/\d.depth<=60/\Q (.bl (if neg then !PyData.eqv d e else PyData.eqv d e)) H
def sP (K:W.Frag) (neg:Bool):R2:=λx y H Q=>Exists (Ex2 (HG K neg x y H Q))
theorem min60 {u a b:Nat} (h:u+64<cLine) (h':a<=60):u+min a b<cLine:=by have:min a b<=a:=Nat.min_le_left _ _;lia
theorem iq (hu:X.A.units+64<cLine):OpR X (compareOp .Eq) (sP [] false):=by intro pins s Z H x y v u Q I rx ry h;obtain⟨d,e,hd,he,hz,q⟩:=h;obtain⟨as,ra⟩:=Dt.reads I d x v hd rx;obtain⟨bs,rb⟩:=Dt.reads I e y u he ry;exact KC ra rb (Dt.can d x hd) (Dt.can e y he) (min60 hu hz) ⟨.bl _,H,I,rfl,q⟩
theorem gO (hu:X.A.units+64<cLine):OpR X (compareOp .NotEq) (sP [] true):=by intro pins s Z H x y v u Q I rx ry h;obtain⟨d,e,hd,he,hz,q⟩:=h;obtain⟨as,ra⟩:=Dt.reads I d x v hd rx;obtain⟨bs,rb⟩:=Dt.reads I e y u he ry;exact KD ra rb (Dt.can d x hd) (Dt.can e y he) (min60 hu hz) ⟨.bl _,H,I,rfl,q⟩
def HF (K:W.Frag) (neg:Bool) (x y:V) (H:Hp) (Q:VK) (d:PyData) (a:Addr) (xs:List V) (ds:List PyData):Prop:=Dt K H x d/\y=.ref a/\(SqL K H a xs\/SqT K H a xs)/\Dts K H xs ds/\d.depth<=60/\
 Q (.bl (if neg then !(ds.any λz=>PyData.eqv z d) else ds.any λz=>PyData.eqv z d)) H
def sO (K:W.Frag) (neg:Bool):R2:=λx y H Q=>Exists (Ex4 (HF K neg x y H Q))
theorem min61 {u a b:Nat} (h:u+64<cLine) (h':b<=60):u+1+min a b<cLine:=by have:min a b<=b:=Nat.min_le_right _ _;lia
theorem xD (hu:X.A.units+64<cLine):OpR X (compareOp .In) (sO [] false):=by
 intro pins s Z H x y v u Q I rx ry h;obtain⟨d,a,xs,ds,hd,rfl,hq,hs,hz,q⟩:=h;cases ry;obtain⟨as,ra⟩:=Dt.reads I d x v hd rx;rcases hq with hq|hq
 .obtain⟨bs,rb⟩:=Dt.reads I (.list ds) (.ref a) _ (.lst hq hs) rfl;exact KG rb ra (Dts.can ds _ hs) (Dt.can d x hd) (min61 hu hz) ⟨.bl _,H,I,rfl,q⟩
 .obtain⟨bs,rb⟩:=Dt.reads I (.tuple ds) (.ref a) _ (.tup hq hs) rfl;exact KH rb ra (Dts.can ds _ hs) (Dt.can d x hd) (min61 hu hz) ⟨.bl _,H,I,rfl,q⟩
end
end L2
end
section
namespace L2
open PySem PySem.Spec PyProof.Rows
section
theorem Inv.turnLaid {h':Heap} {t':Nat} {a:Addr} {o:HO} {ch:List Addr} (I:Inv X pins Z H s) (hch:∀b∈ch,dR X pins H b) (k:∀b o,b∉ch->s.heap.get? b=some o->h'.get? b=some o)
  (ha:s.heap.get? a=none) (new:∀H',cL X.prog X.w H' h' a o):Inv X pins Z (upd H a o) {s with heap:=h',toks:=t'}:=by
 have hn:H a=none:=I.hok.none_of ha;have nch:∀b u,H b=some u->b∉ch:=λb u e z=>by
  have:=(hch b z).1;rw[this] at e;cases e
 refine I.step (g':=s.gens) (d':=s.drawn) (ch:=ch) (λb hb=>?_) (λb o _ _ hc e _=>k b o hc e) (λb o _ _ hc e _=>⟨o.slots,k b o hc e⟩) (λb o _ e n=>?_) (λb o hc e=>⟨o,k b o hc e⟩) (λb xs e=>?_) (λb o u e=>?_) (λb ps e=>⟨#[],?_⟩) (λm hm=>?_) (λb u e=>?_) I.bare
 .obtain⟨_,f1,_,f3,f4,f5⟩:=hch b hb;exact⟨f3,f1,f4,f5⟩
 .rw[bz (λz=>by rw[z,ha] at e;cases e)];exact n
 .rw[bz (ax e hn)];exact e
 .rw[bz (ax e hn)];exact e
 .rw[bz (ax e hn),e];simp
 .obtain⟨o,es,ep,ho,r⟩:=hm;exact⟨o,es,ep,k _ o (λz=>(hch _ z).2.1 rfl) ho,r⟩
 .by_cases hb:b=a
  .subst hb;rw[cx] at e;cases e;exact new _
  .rw[bz hb] at e;refine (I.hok b u e).stay (λc v hc q=>k c v ?_ q) (λc q=>by rw[bz (ax q hn)];exact q) λc xs q=>by rw[bz (ax q hn)];exact q
   rcases hc with z|z
   .rw[z];exact nch b u e
   .exact nch c _ z
end
def Ite (K:W.Frag) (a:Addr):It:=
 ⟨λi H=>∃xs x,SqL K H a xs/\xs[i]?=some x,
  λi H v H'=>∃p x,H p=none/\v=.ref p/\H'=upd H p (.tup [.int (i:Int),x])/\∀xs,SqL K H a xs->xs[i]?=some x,
  λi H=>∃xs,SqL K H a xs/\xs.length<=i⟩
theorem Bb {elts:List Expr} {x1} {pos:Pos} (a it e:Addr) (hne:e≠it) :
  Turn P w K (.Tuple elts x1 pos) (Ite [] a) [e,it] e (λi h=>(∃old,IsEnum h e it (i:Int) old)/\h.IsListIter it a i) where
 mem:=by simp
 obj:=λi h st b hb=>by
  obtain⟨⟨old,st1⟩,o,e2,c,d⟩:=st;rcases af.mp hb with z|z
  .subst z;exact⟨_,st1,λv z=>by
    have z':Data.fields _=Data.cell v:=z;cases z'⟩
  .have z:b=it:=by simpa using z
   subst z;exact⟨o,e2,λv z=>by rw[d] at z;cases z⟩
 keep:=λi h h' st k=>by
  obtain⟨⟨old,st1⟩,st2⟩:=st;exact⟨⟨old,k e (by simp) _ st1⟩,st2.at λo q=>k it (by simp) o q⟩
 item:=by
  intro X hP hw hK hc i pins s Z H E I hf st hg;subst hP hw hK;obtain⟨xs,x,hq,hx⟩:=hg;obtain⟨⟨old,st1⟩,st2⟩:=st;obtain⟨its,rv,p,hz⟩:=I.list hq;obtain⟨u,hu,ru⟩:=rv.get hx;refine wpAny_pyNext_enum_item st1 st2 p.isList (x:=u) (by simpa using hu) hne λh1 heo hit1 ht1 hz1 hk1=>?_;refine⟨_,rfl,?_⟩;refine JT heo λh2 he2 hs2=>?_;replace hs2:Heap.SameBut e h1 h2:=hs2;have hfr:s.heap.get? s.heap.objs.size=none:=tj (aC _);have hee:e<s.heap.objs.size:=bf st1;have hit2:it<s.heap.objs.size:=by obtain⟨_,q,_⟩:=st2;exact bf q
  have hn:H s.heap.objs.size=none:=I.hok.fresh (aC _);have ht2:h2.get? s.heap.objs.size=some {cls:=.type "tuple",data:=.seq #[.int i s.toks,u]}:=(hs2.2 _ (zo hee)).trans ht1;have I2:Inv X pins Z (upd H s.heap.objs.size (.tup [.int (i:Int),x])) {s with heap:=h2,toks:=s.toks+1}:=by
   refine I.turnLaid (ch:=[e,it]) hf (λb o hb q=>?_) hfr λH'=>?_
   .have hb1:b≠e:=λz=>hb (by simp[z]);have hb2:b≠it:=λz=>hb (by simp[z]);exact (hs2.2 b hb1).trans (hk1 b o hb1 hb2 q)
   .exact⟨⟨by simp;rw[gH];lia,_,ht2,rfl⟩,[.int i s.toks,u],.cons ⟨_,rfl⟩ (.cons ru .nil),⟨_,ht2,rfl,_,rfl⟩⟩
  refine⟨.ref s.heap.objs.size,_,I2,rfl,⟨s.heap.objs.size,x,hn,rfl,rfl,λys hy=>by rw[I.list_inj hy hq];exact hx⟩,⟨⟨_,he2⟩,?_⟩,λb hb=>?_⟩
  .obtain⟨o,q1,q2⟩:=hit1;exact⟨o,(hs2.2 it (aF hne)).trans q1,q2⟩
  .have:b≠s.heap.objs.size:=by
    rcases af.mp hb with z|z
    .rw[z];exact cC hee
    .rw[(by simpa using z:b=it)];exact cC hit2
   rw[bz this];exact (hf b hb).1
 done:=by intro X hP hw hK hc i pins s Z H E I hf st hg;subst hP hw hK;obtain⟨xs,hq,hx⟩:=hg;obtain⟨⟨old,st1⟩,st2⟩:=st;obtain⟨its,rv,p,hz⟩:=I.list hq;obtain⟨f0,f1,f2,f3,f4,f5⟩:=hf it (by simp);have hl:=rv.length;exact wpAny_pyNext_enum_end (I.ok.hd hc) st1 st2 p.isList (by simp;lia) λh' eb=>⟨rfl,I.turned (t':=s.toks) (λb o hb q=>eb b o hb q) f0 f1 f3 f4 f5⟩
 self:=λ_ _ _ _ _ st h=>by
  obtain⟨⟨old,st1⟩,_⟩:=st;exact uf st1 h
section
def FZ (K:W.Frag) (R:It->Hp->Prop) (vs:List V) (H1:Hp) (a:Addr) (xs:List V):Prop:=vs=[.ref a]/\SqL K H1 a xs/\R (Ite K a) H1
def FY (K:W.Frag) (R:It->Hp->Prop):List V->Hp->Prop:=λvs H1=>Exists (Ex2 (FZ K R vs H1))
def HY (K:W.Frag) (ta:TA):TI:=λZ H R=>ta Z H (FY K R)
theorem rf {elts:List Expr} {x1} {tpos:Pos} {a:Expr} {ta:TA} {p pos:Pos} (hg:Gl X "enumerate") (hm:X.mg "enumerate" = none) (ha:PA X [a] ta) (hs:starEach [a] X.env=[(false,eval a X.env)]:=by rfl) :
  PI X (.Tuple elts x1 tpos) (.Call (.Name "enumerate" p) [a] [] pos) (HY [] ta):=by
 intro pins s Z H R I h;refine Call_ (iY I hg hm JD (nH (thn (ha pos pins s Z H _ I h) λus s1 ⟨vs,H1,I1,r1,q1⟩=>?_) hs rfl));obtain⟨a,xs,e,hq,q⟩:=q1;subst e;obtain⟨u,rfl,ru⟩:=Vals.one r1;cases ru;obtain⟨its,rv,pl,hz⟩:=I1.list hq;refine call_enumerate_list pl.isList λh' he hi hsz hk=>?_;refine uf he ?_;have I2:Inv X pins Z H1 {s1 with heap:=h'}:=I1.kept (t':=s1.toks) hk;refine⟨_,[s1.heap.objs.size+1,s1.heap.objs.size],_,_,H1,rfl,I2,Bb a _ _ (Jb _),⟨⟨.none,he⟩,hi⟩,λb hb=>?_,q⟩;have hb':s1.heap.objs.size<=b:=by
  rcases af.mp hb with z|z
  .rw[z];exact pY _
  .have:b=s1.heap.objs.size:=by simpa using z
   exact tR this.symm
 exact I1.fpOk hb' (I1.hok.fresh hb')
end
end L2
end
section
namespace L2
open PySem PySem.Spec PyProof.Rows PySem.W
section
variable {prog:Program} {d it v:Addr} {es:Array DictEntry} {ep i:Nat}
end
section
variable {d:Addr} {u:HO}
def IsDO:HO->Prop
 |.dK _=>True
 |.dT _=>True
 |_=>False
def DKV (H:Hp) (u:HO) (ks vs:List V):Prop:=
 (∃kvs,u=.dK kvs/\ks=kvs.map (λp=>kV p.1)/\vs=kvs.map (·.2)) \/
 ∃kvs as,u=.dT kvs/\Paired (λ(p:List Key×V) a=>H a=some (.tup (p.1.map kV))) kvs as/\ks=as.map V.ref/\vs=kvs.map (·.2)
theorem F9 (I:Inv X pins Z H s) (hd:Rd H d u) (hu:IsDO u) :
  (d==sysModules)=false/\∃ks vs es ep,DKV H u ks vs/\ks.length<=sizeLine/\DAt s.heap d es ep/\Vals ks (es.toList.map (·.key))/\Vals vs (es.toList.map (·.val)):=by
 cases u<;>first|exact False.elim hu|skip
 case dK kvs=>
  obtain⟨z,lo,us,rel,o,es,ep,h1,h2,h3,_,h5,_⟩:=gA I.hok hd;refine⟨lo,_,_,es,ep,.inl ⟨kvs,rfl,rfl,rfl⟩,by rw[aQ];exact z,⟨o,h1,h2,h3⟩,?_⟩;generalize es.toList=l at h5;have go:∀{kvs:List (Key×V)} {us:List (Key×Value)} {l:List DictEntry},KV kvs us->Pairs (dH X.prog X.w) l us->Vals (kvs.map λp=>kV p.1) (l.map (·.key))/\Vals (kvs.map (·.2)) (l.map (·.val)):=by
   intro kvs us l r;induction r generalizing l with
   |nil=>intro p;cases p;exact⟨.nil,.nil⟩
   | @cons a b l1 l2 h1 h2 ih=>
    intro p;cases p with
    |cons p1 p2 p3=>
     obtain⟨i1,i2⟩:=ih p3;refine⟨.cons ?_ i1,.cons ?_ i2⟩
     .dsimp only;rw[h1.1];rcases fM p1 with ⟨i,t,e1,e2⟩|⟨x,t,e1,e2⟩
      .rw[e1,e2];exact⟨t,rfl⟩
      .rw[e1,e2];exact⟨t,rfl⟩
     .dsimp only;rw[p2];exact h1.2
  exact go rel h5
 case dT kvs=>
  obtain⟨z,lo,xs,rel,o,es,ep,h1,h2,h3,h4,hz⟩:=iz I.hok hd;clear hz;have go:∀{kvs:List (List Key×V)} {xs:List (List Key×Addr×Value)},KT H kvs xs->Paired (λ(p:List Key×V) a=>H a=some (.tup (p.1.map kV))) kvs (xs.map (·.2.1))/\Vals (kvs.map (·.2)) (xs.map (·.2.2)):=by
   intro kvs xs r;induction r with
   |nil=>exact⟨.nil,.nil⟩
   |cons h1 h2 ih=>exact⟨.cons h1.2.1 ih.1,.cons h1.2.2 ih.2⟩
  obtain⟨g1,g2⟩:=go rel;have hl:=p_ g1;refine⟨lo,_,_,es,ep,.inr ⟨kvs,_,rfl,g1,rfl,rfl⟩,by rw[aQ,<-hl];exact z,⟨o,h1,h2,h3⟩,?_,?_⟩
  .rw[h4,c9,c9];clear h4 rel g1 g2 hl;induction xs with
   |nil=>exact .nil
   |cons x r ih=>exact .cons rfl ih
  .rw[h4,c9];exact g2
end
end L2
end
section
namespace L2
open PySem PySem.Spec PyProof.Rows PySem.W
section
def HA:List V->Hp->VK->Prop:=λxs H Q=>∃(d:Addr) (kvs:List (Key×V)) (ns:List Int),xs=[.ref d]/\Rd H d (.dK kvs)/\kvs.map (λp=>kV p.1)=ns.map V.int/\ns≠[]/\∀m,m∈ns->(∀n∈ns,m<=n)->Q (.int m) H
theorem FO (es:Array DictEntry) {i:Nat} (hi:i<es.size):(es.toList.map (·.key)).toArray[i]?=some es[i].key:=by simp[hi]
theorem Ag (hc:X.calm=true):d_ X (.builtin "min") HA:=by
 intro pins s Z H xs us Q I r h;obtain⟨d,kvs,ns,rfl,hd,hk0,hne,q⟩:=h;obtain⟨u,rfl,ru⟩:=Vals.one r;cases ru;obtain⟨lo,ks,vs,es,ep,dk,hz,dm,rk,rv⟩:=F9 I hd (u:=.dK kvs) trivial;have ek:ks=ns.map V.int:=by
  rcases dk with ⟨kvs',e,e1,_⟩|⟨_,_,e,_⟩
  .cases e;rw[e1,hk0]
  .cases e
 subst ek;have hl:ns.length=es.size:=by have:=rk.length;simpa using this
 refine call_min_walk (yy lo dm ?_);refine⟨s.heap.objs.size,_,_,_,_,_,_,rfl,xS (A:=X.A.in1) (es:=es) (ep:=ep) (d:=d) (I.ok.hd hc) _ (cC dm.lt),⟨⟨_,cQ _ rfl,rfl,rfl⟩,dm.at λo e=>bP _ e⟩,λb hb=>?_,?_,CmpOf.ints_lt (λi=>ns.getD i 0) (λi v e=>?_),λv h' tk hP hk=>?_⟩
 .show b<(s.heap.push _).objs.size;rw[yM];rcases af.mp hb with rfl|hb
  .exact ji _
  .rw[aR.mp hb];exact zl dm.lt
 .rw[<-hl];exact iE.mpr hne
 .obtain⟨hi,rfl⟩:=e;exact xM rk i _ (by simp[hi])
 .obtain⟨hi,rfl⟩:=hP;obtain⟨t,et⟩:=xM rk _ _ (FO es hi);obtain⟨b1,b2⟩:=Dd ns hne;have e:es.size-1=ns.length-1:=by rw[hl]
  refine⟨.int _,H,I.kept (t':=tk) λb o e=>hk b o (λz=>by rw[aR.mp z] at e;exact absurd (bf e) (fI _)) (bP _ e),⟨t,et⟩,?_⟩;rw[e];exact q _ b1 b2
end
open PySem.SeqAt in
theorem Aa (l:Addr) (items:Array Value) (n:Nat) (dd:Option Addr) (sl:Array (Option Value)) (x:Value) (e:Nat->Bool) (j:Nat) (hj:j<items.size) (hit:e j=true) (hno:∀m,m<j->e m=false) :
  Meets (Builtin.«tuple.index» ⟨[.ref l,x],[]⟩)
   (λA R s=>s.heap.get? l=some {cls:=.type "tuple",dict:=dd,data:=.seq items n,slots:=sl}/\(∀m (h:m<items.size),EqAt A.in1 s items[m] x (e m))/\R (.ok (.ret (.int j s.toks))) {s with toks:=s.toks+1}):=
 .of_wp λprog w A R s h=>by
  obtain⟨hp,g,d,tk,os⟩:=s;obtain⟨hl,he,h⟩:=h;unfold Builtin.«tuple.index»;simp only[K1]
  wp_walk using Kd hl,wpAny_forIn_list _ (λrest b s'=>b.1=none/\s'=⟨hp,g,d,tk,os⟩/\∃i,i<=j/\rest=List.range' i (items.size-i)) _
  case turn=>
   rintro y rest b s' ⟨hb,rfl,i,hij,hr⟩;have e0:items.size-i=(items.size-(i+1))+1:=by lia
   rw[e0,List.range'_succ] at hr;injection hr with h1 h2;subst h1;have hy:y<items.size:=by lia
   have hg:items[y]?=some items[y]:=by simp[hy]
   rw[hg];refine ao (he y hy prog w _ _ ?_);by_cases z:y=j
   .subst z;rw[hit]
    wp_walk
    exact⟨_,rfl,h⟩
   .rw[hno y (by lia)]
    wp_walk
    exact⟨rfl,rfl,y+1,by lia,h2⟩
  case fin=>
   rintro b s' ⟨_,_,i,hij,hr⟩;have:=congrArg List.length hr;simp at this;lia
  case h=>
   exact⟨rfl,rfl,0,aT _,by simp[Std.Legacy.Range.size]⟩
section
def DM (K:Frag):V->List V->Hp->VK->Prop:=λx vs H Q=>∃(a:Addr) (xs:List V) (ds:List PyData) (y:V) (d:PyData) (j:Nat),x=.ref a/\vs=[y]/\SqT K H a xs/\Dts K H xs ds/\Dt K H y d/\d.depth<=60/\
 j<ds.length/\PyData.eqv (ds.getD j .none) d=true/\(∀m,m<j->PyData.eqv (ds.getD m .none) d=false)/\Q (.int (j:Int)) H
theorem Br (hu:X.A.units+64<cLine):MtM X "tuple.index" (DM []):=by
 intro pins s Z H x vs v us Q I rx rv h;obtain⟨a,xs,ds,y,d,j,rfl,rfl,hq,hs,hd,hz,hj,e1,e2,q⟩:=h;cases rx;obtain⟨u,rfl,ru⟩:=rv.one;obtain⟨its,rs,p,hsz⟩:=I.tuple hq;obtain⟨as,ra⟩:=Dts.reads I ds xs its hs rs;obtain⟨bs,rb⟩:=Dt.reads I d y u hd ru;have hl:its.length=ds.length:=KB _ _ _ ra;obtain⟨⟨cls,dd,data,sl⟩,eo,hc,n,hdt⟩:=id p;simp only at hc hdt;subst hc hdt;refine tY Ju ⟨_,eo,rfl⟩ PySem.F.entry_tuple_index (PySem.F.args_tuple_index_2 _ _) (Aa a its.toArray n dd sl u (λm=>PyData.eqv (ds.getD m .none) d) j (by simp;lia) e1 e2) ⟨eo,λm hm=>?_,?_⟩
 .have hm':m<ds.length:=by rw[bX] at hm;lia
  obtain⟨dy,cs,ry,hcy,hle⟩:∃dy cs,PySem.Reads s.heap its.toArray[m] dy cs/\dy.canLay0=true/\dy=ds.getD m .none:=by
   have go:∀(ds:List PyData) (its:List Value) (as:List Addr) (m:Nat) (h:m<its.length),ReadsAll s.heap its ds as->PyData.canLayAll0 ds=true->∃cs,PySem.Reads s.heap its[m] (ds.getD m .none) cs/\(ds.getD m .none).canLay0=true:=by
    intro ds;induction ds with
    |nil=>intro its as m h r _;cases r;simp at h
    |cons d ds ih=>
     intro its as m h r c;have c':d.canLay0=true/\PyData.canLayAll0 ds=true:=by simpa [PyData.canLayAll0] using c
     cases r with
     |cons r1 r2=>
      cases m with
      |zero=>exact⟨_,r1,c'.1⟩
      |succ m=>exact ih _ _ m (by simpa using h) r2 c'.2
   obtain⟨cs,h1,h2⟩:=go ds its as m (by simpa using hm) ra (Dts.can ds _ hs);exact⟨_,cs,by simpa using h1,h2,rfl⟩
  rw[<-hle];refine KF dy d X.A.in1 s _ _ _ _ ry rb hcy (Dt.can d y hd) ?_;show X.A.units+1+min _ _<cLine;exact min61 hu hz
 .exact⟨.int (j:Int),H,I.tok _,⟨_,rfl⟩,q⟩
end
end L2
end
section
namespace L2
open PySem PySem.Spec PyProof.Rows
section
def txt (l:List Nat):Str:=⟨l.toArray⟩
theorem Dj (l:List Nat):(txt l).cps.toList=l:=by simp[txt]
theorem Dh (l:List Nat):(txt l).length=l.length:=by simp[txt,Str.length]
theorem Di (z:Str):txt z.cps.toList=z:=by cases z;simp[txt]
theorem qO {a b:List Nat} (h:txt a=txt b):a=b:=by have:=congrArg (λz:Str=>z.cps.toList) h;simpa [txt] using this
def fC {α:Type} (xs:List α) (lo hi:Option Int):List α:=(xs.drop (HT.sIx xs.length 0 lo)).take (HT.sIx xs.length xs.length hi-HT.sIx xs.length 0 lo)
end
end L2
end
section
namespace K51
open PySem L2
inductive Lt where
 |sg (c:Nat)|sp (j k:Nat)
 deriving DecidableEq
def oK (c:Nat):Bool:=c==67||c==82||c==76||c==69
def sign (c:Nat):Bool:=oK c||c==83
def digits (n:Nat):List Nat:=(Nat.toDigits 10 n).map Char.toNat
def Lt.ok:Lt->Prop
 |.sg c=>oK c=true
 |.sp _ _=>True
theorem AV {c:Nat} (h:oK c=true):sign c=true:=by unfold sign;rw[h];rfl
theorem qe {n:Nat} (h:n<10):digits n=[48+n]:=by
 unfold digits;rw[Nat.toDigits_of_lt_base h];have:∀d:Nat,d<10->(Nat.digitChar d).toNat=48+d:=by decide
 simp[this n h]
theorem Ay {n:Nat} (h:10<=n):digits n=digits (n/10)++[48+n%10]:=by have hm:n%10<10:=nu n (by decide);have t:Nat.toDigits 10 (n/10)++Nat.toDigits 10 (n%10)=Nat.toDigits 10 (10*(n/10)+n%10):=Nat.toDigits_append_toDigits (by decide) (by lia) hm;rw[Nat.div_add_mod] at t;rw[<-qe hm];unfold digits;rw[<-t,bI]
theorem ux:∀(m n:Nat),n<10 ^ (m+1)->(digits n).length<=m+1
 |0,n,h=>by
  rw[qe (by simpa using h)];simp
 |m+1,n,h=>by
  by_cases h10:n<10
  .rw[qe h10];simp
  .rw[Ay (by lia),ar,bg];have:=ux m (n/10) (by rw[Nat.pow_succ] at h;lia);lia
theorem Du (n:Nat):((toString ((n:Nat):Int):String):Str)=txt (digits n):=by rw[<-Di (Str.ofString (toString ((n:Nat):Int))),KI];rfl
def asc (l:List Nat):Prop:=∀c∈l,c<128
theorem B7 {c:Nat} (h:sign c=true):c<128:=by unfold sign oK at h;simp only[Ip,beq_iff_eq] at h;lia
end K51
end
section
namespace L2
open PySem PySem.Spec PyProof.Rows
section
variable {tg:Expr}
theorem Ak:bootBuiltins "reversed" = some (.type "reversed"):=by decide +kernel
end
end L2
end
section
namespace K51
open PySem L2
theorem Ek (a b:List Nat):decide (V.str (txt a)=V.str (txt b))=(a==b):=by
 rw[dn,decide_eq_true_eq,beq_iff_eq];constructor
 .intro h;injection h with h;exact qO h
 .rintro rfl;rfl
structure di (mg:Str->Option Value):Prop where
 len:mg "len" = none
 int:mg "int" = none
 str:mg "str" = none
 isi:mg "isinstance" = none
 range:mg "range" = none
 list:mg "list" = none
 tuple:mg "tuple" = none
 bool:mg "bool" = none
 all:mg "all" = none
 ve:mg "ValueError" = none
 rev:mg "reversed" = none
 enum:mg "enumerate" = none
theorem oD {α:Type} (l:List α) (a b:Nat):fC l (some (a:Int)) (some (b:Int))=(l.drop a).take (b-a):=by
 unfold fC;rw[HT.sIx_nat,HT.sIx_nat];by_cases h:a<=l.length
 .rw[nq h];by_cases hb:b<=l.length
  .rw[nq hb]
  .rw[Nat.min_eq_right (by lia),gG (by rw[aW];lia),gG (by rw[aW];lia)]
 .rw[yU (show l.length<=a by lia),yU (show l.length<=min a l.length by lia)];simp
theorem rS {α:Type} (l:List α) (b:Nat):fC l none (some (b:Int))=l.take b:=by have h:=oD l 0 b;unfold fC at h |-;rw[HT.sIx_none];simpa [HT.sIx] using h
theorem om {α:Type} (l:List α) (a:Nat):fC l (some (a:Int)) none=l.drop a:=by have h:=oD l a l.length;rw[gG (by rw[aW];lia)] at h;rw[<-h];unfold fC;rw[HT.sIx_none,HT.sIx_nat,HT.sIx_nat,Nat.min_self]
theorem line5000:5010<=sizeLine:=by rw[gH];decide
def ltV:Lt->List V
 |.sg c=>[.str (txt [c])]
 |.sp j k=>[.str (txt [83]),.int (j:Nat),.int (k:Nat)]
def gB (H:Hp) (v:V) (a:Lt):Prop:=∃t,v=.ref t/\H t=some (.tup (ltV a))
abbrev bU (H:Hp):List V->List Lt->Prop:=Paired (gB H)
theorem gB.same {v:V} {a:Lt} (e:Same H H') (h:gB H v a):gB H' v a:=by obtain⟨t,rfl,h⟩:=h;exact⟨t,rfl,e t _ h⟩
theorem bU.same (e:Same H H'):∀{xs:List V} {ls:List Lt},bU H xs ls->bU H' xs ls
 |_,_,.nil=>.nil
 |_,_,.cons h t=>.cons (h.same e) (bU.same e t)
theorem bU.snoc {v:V} {a:Lt}:∀{xs:List V} {ls:List Lt},bU H xs ls->gB H v a->bU H (xs++[v]) (ls++[a])
 |_,_,.nil,h=>.cons h .nil
 |_,_,.cons h t,h'=>.cons h (bU.snoc t h')
theorem s83:("S" : Str)=txt [83]:=by decide +kernel
theorem dD {t:Addr} {o:HO} (h:H t=none):Same H (upd H t o):=λb u e=>by rw[bz (ax e h)];exact e
theorem Bg {n:Nat} (h:n<10 ^ 60):((n:Nat):Int).natAbs.log2<1920:=by
 show n.log2<1920;by_cases h0:n=0
 .subst h0;decide
 .exact (zj h0).mpr (c_ (zm h (show 10 ^ 60<2 ^ 200 by decide)) (zp (by decide) (by decide)))
theorem jj:∀{xs:List V} {ls:List Lt} {i:Nat} {x:V},bU H xs ls->xs[i]?=some x->∃a,ls[i]?=some a/\gB H x a
 |_,_,_,_,.nil,e=>by simp at e
 |_,_,0,_,.cons h _,e=>by simp at e;subst e;exact⟨_,rfl,h⟩
 |_,_,i+1,_,.cons _ t,e=>by
  obtain⟨a,h1,h2⟩:=jj (i:=i) t (by simpa using e);exact⟨a,by simpa using h1,h2⟩
theorem ja (x:V) (xs:List V):atI (x::xs) 0=some x:=cA (j:=0) rfl
theorem uz {N:List Str} (nd:N.Nodup) (kind:scope.kind=.function) (nc:scope.names.all (λy=>y.2 != .cell&&y.2 != .free)=true)
  (nm:scope.names.all (λy=>y.2 != .local||scope.names.lookup y.1==some .local)=true):f_ X N (N.map λ_=>none) scope:=by
 have h1:∀y∈scope.names,y.2≠.cell/\y.2≠.free:=λy hy=>by
  have:=iB.mp nc y hy;simpa using this
 refine⟨nd,by simp,kind,λy hy=>(h1 y hy).1,λy hy e=>?_,λy hy e=>absurd e (h1 y hy).2,λj i x e _=>?_⟩
 .have:=iB.mp nm y hy;rw[e] at this;simpa using this
 .rw[c7] at e;cases q:N[j]? with
  |none=>rw[q] at e;cases e
  |some z=>rw[q] at e;cases e
theorem sC:("C" : Str)=txt [67]:=by decide +kernel
theorem sR:("R" : Str)=txt [82]:=by decide +kernel
theorem sL:("L" : Str)=txt [76]:=by decide +kernel
theorem sE:("E" : Str)=txt [69]:=by decide +kernel
theorem ltC:some (HO.tup [V.str (Str.ofString "C")])=some (HO.tup (ltV (.sg 67))):=by rw[show (Str.ofString "C")=txt [67] from sC];rfl
theorem ltR:some (HO.tup [V.str (Str.ofString "R")])=some (HO.tup (ltV (.sg 82))):=by rw[show (Str.ofString "R")=txt [82] from sR];rfl
theorem ltL:some (HO.tup [V.str (Str.ofString "L")])=some (HO.tup (ltV (.sg 76))):=by rw[show (Str.ofString "L")=txt [76] from sL];rfl
theorem ltE:some (HO.tup [V.str (Str.ofString "E")])=some (HO.tup (ltV (.sg 69))):=by rw[show (Str.ofString "E")=txt [69] from sE];rfl
theorem gB.move {v:V} {a:Lt} (h:gB H v a) (e:∀t xs,H t=some (.tup xs)->H' t=some (.tup xs)):gB H' v a:=by obtain⟨t,rfl,h⟩:=h;exact⟨t,rfl,e _ _ h⟩
theorem bU.move (e:∀t xs,H t=some (.tup xs)->H' t=some (.tup xs)):∀{xs:List V} {ls:List Lt},bU H xs ls->bU H' xs ls
 |_,_,.nil=>.nil
 |_,_,.cons h t=>.cons (h.move e) (bU.move e t)
theorem jZ (a b:Int):decide (V.int a=V.int b)=decide (a=b):=by rw[dn];simp
theorem yF {p:List Nat} (h:asc p):(PyData.str (txt p)).canLay0=true:=by show (txt p).cps.all (· < 0x110000)=true;rw[<-Array.all_toList,Dj,iB];exact λc hc=>K4 (by have:=h c hc;lia)
def ltD:Lt->PyData
 |.sg c=>.tuple [.str (txt [c])]
 |.sp j k=>.tuple [.str (txt [83]),.int (j:Nat),.int (k:Nat)]
theorem asc1 {c:Nat} (h:c<128):asc [c]:=λd hd=>by rw[aR.mp hd];exact h
theorem fq {v:V} {a:Lt} (ho:a.ok) (h:gB H v a):Dt K H v (ltD a):=by
 obtain⟨t,rfl,h⟩:=h;cases a with
 |sg c=>exact .tup (.inl (.inl h)) (.cons (.str _ (yF (asc1 (B7 (AV ho))))) .nil)
 |sp j k=>exact .tup (.inl (.inl h)) (.cons (.str _ (yF (asc1 (by decide)))) (.cons (.int _) (.cons (.int _) .nil)))
theorem iQ:∀{xs:List V} {ls:List Lt},(∀a∈ls,a.ok)->bU H xs ls->Dts K H xs (ls.map ltD)
 |_,_,_,.nil=>.nil
 |_,_,ho,.cons h t=>.cons (fq (ho _ (by simp)) h) (iQ (λa ha=>ho a (aY _ ha)) t)
theorem h_ (a:Lt):PyData.depth (ltD a)<=2:=by cases a<;>simp[ltD,PyData.depth,PyData.depthAll]
theorem hV:∀(ls:List Lt),PyData.depthAll (ls.map ltD)<=2
 | []=>by simp[PyData.depthAll]
 |a::ls=>by
  have h1:=hV ls;have h2:=h_ a;simp only[aB,PyData.depthAll];lia
theorem qG (a:Lt):gX (ltD a)=true:=by cases a<;>rfl
theorem kK:∀(ls:List Lt),eU (ls.map ltD)=true
 | []=>rfl
 |a::ls=>by
  rw[aB];show (gX (ltD a)&&eU (ls.map ltD))=true;rw[qG,kK ls];rfl
theorem wJ {a b:Lt} (h:ltD a=ltD b):a=b:=by
 cases a<;>cases b<;>simp[ltD] at h
 .rw[List.singleton_inj.mp (qO h)]
 .obtain⟨h1,h2⟩:=h
  congr 1<;>lia
theorem vM:∀{ls ms:List Lt},ls.map ltD=ms.map ltD->ls=ms
 | [],[],_=>rfl
 | [],_::_,h=>by simp at h
 |_::_,[],h=>by simp at h
 |a::ls,b::ms,h=>by
  simp only[aB,yP] at h;rw[wJ h.1,vM h.2]
theorem vR (ls ms:List Lt):PyData.eqv (.list (ls.map ltD)) (.list (ms.map ltD))=decide (ls=ms):=by
 have:=lU (.list (ls.map ltD)) (.list (ms.map ltD)) (kK ls) (kK ms);rw[dn,this,decide_eq_true_eq];constructor
 .intro h;injection h with h;exact vM h
 .rintro rfl;rfl
end K51
end
section
namespace K31
open K51
abbrev Side:=Nat×Nat
abbrev Lps:=List (List Nat)
def path:Nat->List Nat->Nat->List Side
 |a,[],z=>[(a,z)]
 |a,b::l,z=>(a,b)::path b l z
def sides:List Nat->List Side
 | []=>[]
 |a::l=>path a l a
def wl (ls:Lps):List Side:=ls.flatMap sides
theorem eS:∀(a:Nat) (l:List Nat) (b:Nat) (r:List Nat) (z:Nat),path a (l++b::r) z=path a l b++path b r z
 |_,[],_,_,_=>rfl
 |a,c::l,b,r,z=>by
  show (a,c)::path c (l++b::r) z=(a,c)::(path c l b++path b r z);rw[eS c l b r z]
theorem qg (l r:List Nat):(sides (l++r)).Perm (sides (r++l)):=by
 cases l with
 |nil=>rw[jh,cZ]
 |cons a l=>
  cases r with
  |nil=>rw[jh,cZ]
  |cons b r=>
   show (path a (l++b::r) a).Perm (path b (r++a::l) b);rw[eS,eS];exact cR
theorem dO (xs ys:Lps):wl (xs++ys)=wl xs++wl ys:=by simp[wl,tH]
theorem eF (l:List Nat):wl [l]=sides l:=by simp[wl]
theorem jz (l:List Nat) (ls:Lps):wl (l::ls)=sides l++wl ls:=by simp[wl]
theorem vC:∀(a:Nat) (l:List Nat) (z:Nat),(path a l z).length=l.length+1
 |_,[],_=>rfl
 |a,b::l,z=>by simp[path,vC b l z]
theorem vD:∀(a:Nat) (l:List Nat) (z k:Nat),k<=l.length->(path a l z)[k]?=some ((a::l).getD k 0,(l++[z]).getD k 0)
 |a,[],z,k,h=>by
  have:k=0:=by simpa using h
  subst this;rfl
 |a,b::l,z,0,h=>by simp[path]
 |a,b::l,z,k+1,h=>by
  have:=vD b l z k (by simpa using h);simp only[path,e_,this];simp
theorem jl (l:List Nat) (k:Nat) (h:k<l.length):(sides l)[k]?=some (l.getD k 0,l.getD ((k+1)%l.length) 0):=by
 cases l with
 |nil=>simp at h
 |cons a l=>
  have hk:k<=l.length:=by simpa [I_] using h
  show (path a l a)[k]?=_;rw[vD a l a k hk]
  congr 2
  rw[aZ];by_cases e:k=l.length
  .subst e;rw[ny];simp[List.getD]
  .rw[j9 (by lia)];simp only[List.getD,e_];rw[dS (by lia)]
theorem jk (l:List Nat):(sides l).length=l.length:=by
 cases l with
 |nil=>rfl
 |cons a l=>exact vC a l a
theorem ic:∀(a:Nat) (l:List Nat) (z:Nat) (s:Side),s∈path a l z->(s.1=a\/s.1∈l)/\(s.2=z\/s.2∈l)
 |a,[],z,s,h=>by
  simp only[path,aR] at h;subst h;simp
 |a,b::l,z,s,h=>by
  simp only[path,af] at h;rcases h with rfl|h
  .simp
  .obtain⟨h1,h2⟩:=ic b l z s h;simp only[af];exact⟨.inr h1,h2.elim .inl λz=>.inr (.inr z)⟩
theorem kH {l:List Nat} {s:Side} (h:s∈sides l):s.1∈l/\s.2∈l:=by
 cases l with
 |nil=>simp[sides] at h
 |cons a l=>
  obtain⟨h1,h2⟩:=ic a l a s h;simp only[af];exact⟨h1,h2⟩
theorem jH {ls:Lps} {s:Side}:s∈wl ls↔∃l∈ls,s∈sides l:=by simp[wl,iH]
structure Fr where
 ls:Lps
 ts:List (Nat×Nat×Nat)
 n:Nat
def tl (ts:List (Nat×Nat×Nat)):List Side:=ts.flatMap λt=>[(t.1,t.2.1),(t.2.1,t.2.2),(t.2.2,t.1)]
def sgn:Lt->Nat
 |.sg c=>c
 |.sp _ _=>83
def bK (ah:Lps) (loop:List Nat) (a:Lt) (x:Nat):Lps:=match a with
 |.sg c=>if c=67 then ah++[loop.take 1++x::loop.drop 1] else if c=82 then ah++[loop.take 1++loop.drop 2] else if c=76 then ah++[x::(loop.drop 1).dropLast] else ah
 |.sp j k=>if j=0 then ah++[loop.take 1++loop.drop k,x::(loop.take k).drop 1]
  else ah.eraseIdx (ah.length-j)++[loop.take 1++(ah.getD (ah.length-j) []).drop k++(ah.getD (ah.length-j) []).take k++x::loop.drop 1]
def aM (ah:Lps) (loop:List Nat) (a:Lt) (n:Nat):Option Nat:=match a with
 |.sg c=>if c=67 then some n else if (c=82\/c=76)/\3<loop.length\/c=69/\loop.length=3 then (if c=82 then loop[2]? else loop[loop.length-1]?) else none
 |.sp j k=>if j=0 then (if 2<k/\k+1<loop.length then loop[k]? else none) else if j<=ah.length then (ah.getD (ah.length-j) [])[k]? else none
def asked (c a b x:Nat):List Side:=(if c=82\/c=69 then [] else [(b,x),(x,b)])++if c=76\/c=69 then [] else [(x,a),(a,x)]
def g1 (l:List Nat):Nat:=l.getD 0 0
def g2 (l:List Nat):Nat:=l.getD 1 0
def gS (ah:Lps) (loop:List Nat) (ts:List (Nat×Nat×Nat)) (n:Nat) (a:Lt):Option Nat:=
 (aM ah loop a n).bind λx=>if x=g1 loop\/x=g2 loop then none
  else if (asked (sgn a) (g1 loop) (g2 loop) x).any (λs=>decide (s∈wl (ah++[loop]))||decide (s∈tl ts)) then none else some x
def Fr.can (f:Fr) (a:Lt):Option Nat:=match f.ls.getLast? with
 |none=>none
 |some loop=>gS f.ls.dropLast loop f.ts f.n a
def Fr.put (f:Fr) (a:Lt) (x:Nat):Fr:=match f.ls.getLast? with
 |none=>f
 |some loop=>⟨bK f.ls.dropLast loop a x,f.ts++[(g1 loop,g2 loop,x)],max f.n (x+1)⟩
def Fr.at0:Fr:=⟨[[0,1]],[],2⟩
theorem mw {ah:Lps} {loop:List Nat} {ts:List (Nat×Nat×Nat)} {n:Nat} {a:Lt}:Fr.can ⟨ah++[loop],ts,n⟩ a=gS ah loop ts n a:=by unfold Fr.can;simp
theorem oJ {ah:Lps} {loop:List Nat} {ts:List (Nat×Nat×Nat)} {n:Nat} {a:Lt} {x:Nat}:Fr.put ⟨ah++[loop],ts,n⟩ a x=⟨bK ah loop a x,ts++[(g1 loop,g2 loop,x)],max n (x+1)⟩:=by unfold Fr.put;simp
def gone (c a b x:Nat):List Side:=(a,b)::((if c=82\/c=69 then [(b,x)] else [])++if c=76\/c=69 then [(x,a)] else [])
def come (c a b x:Nat):List Side:=(if c=82\/c=69 then [] else [(x,b)])++if c=76\/c=69 then [] else [(a,x)]
def Lets (a:Lt):Prop:=match a with
 |.sg c=>c=67\/c=82\/c=76\/c=69
 |.sp _ _=>True
theorem two {loop:List Nat} (h:2<=loop.length):∃t,loop=g1 loop::g2 loop::t:=by
 match loop,h with
 |a::b::t,_=>exact⟨t,rfl⟩
theorem oB {l:List Nat} {k x:Nat} (h:l[k]?=some x):l=l.take k++x::l.drop (k+1)/\l.drop k=x::l.drop (k+1):=by
 obtain⟨hk,e⟩:=aS.mp h;have e2:l.drop k=x::l.drop (k+1):=by rw[eZ hk,e]
 exact⟨by rw[<-e2,fc],e2⟩
theorem rW {ah:Lps} {i:Nat} (h:i<ah.length):∃u v,ah=u++ah.getD i []::v/\ah.eraseIdx i=u++v:=by
 refine⟨ah.take i,ah.drop (i+1),?_,?_⟩
 .have e:ah.getD i []=ah[i]:=by simp[List.getD,h]
  rw[e,<-eZ h,fc]
 .rw[yV]
theorem uL {ah:Lps} {loop:List Nat} {a:Lt} {n x:Nat} (hl:2<=loop.length) (ha:Lets a) (h:aM ah loop a n=some x) :
  ∃rest,(wl (ah++[loop])).Perm (gone (sgn a) (g1 loop) (g2 loop) x++rest)/\(wl (bK ah loop a x)).Perm (come (sgn a) (g1 loop) (g2 loop) x++rest):=by
 obtain⟨t,el⟩:=two hl;generalize g1 loop=p at *;generalize g2 loop=q at *;subst el;have base:∀(l:List Nat),(wl (ah++[l])).Perm (sides l++wl ah):=λl=>by
  rw[dO,eF];exact cR
 cases a with
 |sg c=>
  simp only[Lets] at ha;simp only[aM] at h;rcases ha with rfl|rfl|rfl|rfl
  .refine⟨path q t p++wl ah,base _,?_⟩;refine (base _).trans ?_;show ((p,x)::(x,q)::(path q t p++wl ah)).Perm ((x,q)::(p,x)::(path q t p++wl ah));exact List.Perm.swap ..
  .simp at h
   match t,h with
   | [],h=>simp at h
   |y::t',h=>
    simp at h;obtain⟨_,rfl⟩:=h;exact⟨path y t' p++wl ah,base _,base _⟩
  .simp at h;have ht:t≠[]:=by rintro rfl;simp at h
   have hx:t.getLast?=some x:=by
    rw[pM];have:=h.2
    match t,ht with
    |y::t',_=>simpa using this
   obtain⟨t',e⟩:=tJ.mp hx;subst e;refine⟨path q t' x++wl ah,(base _).trans ?_,(base _).trans ?_⟩
   .show ((p,q)::path q (t'++[x]) p++wl ah).Perm ((p,q)::(x,p)::(path q t' x++wl ah));rw[eS];refine List.Perm.cons _ ?_;show ((path q t' x++[(x,p)])++wl ah).Perm ([(x,p)]++(path q t' x++wl ah));rw[<-bH];exact eJ _ cR
   .have e:(List.drop 1 (p::q::(t'++[x]))).dropLast=q::t':=by
     show (q::(t'++[x])).dropLast=_;rw[<-eY,tm]
    rw[e];exact pD _
  .simp at h;obtain⟨h3,h⟩:=h
   match t,h3,h with
   | [y],_,h=>
    simp at h;subst h;refine⟨wl ah,base _,pD _⟩
 |sp j k=>
  simp only[aM] at h;by_cases hj:j=0
  .subst hj;rw[K3 rfl] at h;by_cases hk:2<k/\k+1<(p::q::t).length
   .rw[K3 hk] at h;obtain⟨e1,e2⟩:=oB h;obtain⟨m,rfl⟩:∃m,k=m+2:=⟨k-2,by lia⟩;have e3:t=t.take m++x::t.drop (m+1):=by simpa using e1
    have e4:t.drop m=x::t.drop (m+1):=by simpa using e2
    refine⟨path q (t.take m) x++path x (t.drop (m+1)) p++wl ah,(base _).trans ?_,?_⟩
    .show ((p,q)::path q t p++wl ah).Perm ((p,q)::(path q (t.take m) x++path x (t.drop (m+1)) p++wl ah));have e5:path q t p=path q (t.take m) x++path x (t.drop (m+1)) p:=by
      conv=>lhs;rw[e3]
      exact eS ..
     rw[e5];exact pD _
    .show (wl (ah++[p::List.drop m t,x::q::t.take m])).Perm ((x,q)::(p,x)::(path q (t.take m) x++path x (t.drop (m+1)) p++wl ah));rw[e4,dO,jz,eF];refine cR.trans ?_;show ((p,x)::path x (t.drop (m+1)) p++(x,q)::path q (t.take m) x++wl ah).Perm _;refine (eJ _ cR).trans ?_;show ((x,q)::(path q (t.take m) x++(p,x)::path x (t.drop (m+1)) p++wl ah)).Perm _;refine List.Perm.cons _ ?_;rw[bH,bH];exact pV
   .rw[K2 hk] at h;cases h
  .rw[K2 hj] at h;by_cases hk:j<=ah.length
   .rw[K3 hk] at h;obtain⟨u,v,e1,e2⟩:=rW (show ah.length-j<ah.length by lia);have es:bK ah (p::q::t) (.sp j k) x=ah.eraseIdx (ah.length-j)++[[p]++(ah.getD (ah.length-j) []).drop k++(ah.getD (ah.length-j) []).take k++x::q::t]:=by
     unfold bK;dsimp only;rw[K2 hj];rfl
    rw[es,e2];obtain⟨e3,e4⟩:=oB h;generalize ah.getD (ah.length-j) []=o at *;refine⟨sides (x::(o.drop (k+1)++o.take k))++path q t p++(wl u++wl v),?_,?_⟩
    .refine (base _).trans ?_;show ((p,q)::path q t p++wl ah).Perm ((p,q)::(sides (x::(o.drop (k+1)++o.take k))++path q t p++(wl u++wl v)));refine List.Perm.cons _ ?_;rw[e1,dO,jz];have e5:(sides o).Perm (sides (x::(o.drop (k+1)++o.take k))):=by
      conv=>lhs;rw[e3]
      exact qg (o.take k) (x::o.drop (k+1))
     have e6:(wl u++(sides o++wl v)).Perm (sides o++(wl u++wl v)):=by rw[<-bH,<-bH];exact eJ _ cR
     refine ((gC _ e6).trans ?_);rw[<-bH];refine eJ _ (cR.trans ?_);exact eJ _ e5
    .rw[dO,dO,eF];refine cR.trans ?_;have e7:sides ([p]++o.drop k++o.take k++x::q::t)=(p,x)::(path x (o.drop (k+1)++o.take k) x++(x,q)::path q t p):=by
      rw[e4];show path p (x::o.drop (k+1)++o.take k++x::q::t) p=_;rw[eY,eY];show (p,x)::path x (o.drop (k+1)++o.take k++x::q::t) p=_;rw[eS];rfl
     rw[e7];show ((p,x)::(path x (o.drop (k+1)++o.take k) x++(x,q)::path q t p)++(wl u++wl v)).Perm ((x,q)::(p,x)::(path x (o.drop (k+1)++o.take k) x++path q t p++(wl u++wl v)));refine List.Perm.trans ?_ (List.Perm.swap ..);refine List.Perm.cons _ ?_;show ((path x (o.drop (k+1)++o.take k) x++(x,q)::path q t p)++(wl u++wl v)).Perm ((x,q)::(path x (o.drop (k+1)++o.take k) x++path q t p++(wl u++wl v)));rw[bH,bH];exact pV
   .rw[K2 hk] at h;cases h
structure Ok (f:Fr):Prop where
 two:∀l∈f.ls,2<=l.length
 tot:(f.ls.map List.length).sum<=2+f.ts.length
 num:f.n<=2+f.ts.length
 big:∀l∈f.ls,∀c∈l,c<f.n
 bigT:∀s∈tl f.ts,s.1<f.n/\s.2<f.n
 nd:(wl f.ls).Nodup
 ne:∀s∈wl f.ls,s.1≠s.2
theorem ok0:Ok Fr.at0:=by refine⟨?_,?_,?_,?_,?_,?_,?_⟩<;>decide
theorem v9 (ts:List (Nat×Nat×Nat)) (p q x:Nat):tl (ts++[(p,q,x)])=tl ts++[(p,q),(q,x),(x,p)]:=by simp[tl]
theorem kM {ah:Lps} {loop:List Nat} {ts:List (Nat×Nat×Nat)} {n x:Nat} {a:Lt} (h:gS ah loop ts n a=some x) :
  aM ah loop a n=some x/\x≠g1 loop/\x≠g2 loop/\∀s∈asked (sgn a) (g1 loop) (g2 loop) x,s∉wl (ah++[loop])/\s∉tl ts:=by
 unfold gS at h;cases e:aM ah loop a n with
 |none=>rw[e] at h;cases h
 |some y=>
  rw[e] at h;simp only[Je] at h;by_cases h1:y=g1 loop\/y=g2 loop
  .rw[K3 h1] at h;cases h
  .rw[K2 h1] at h;by_cases h2:((asked (sgn a) (g1 loop) (g2 loop) y).any λs=>decide (s∈wl (ah++[loop]))||decide (s∈tl ts))=true
   .rw[K3 h2] at h;cases h
   .rw[K2 h2] at h;cases h;refine⟨rfl,λz=>h1 (.inl z),λz=>h1 (.inr z),λs hs=>?_⟩;have h3:=h2;rw[pE] at h3;have h4:¬((decide (s∈wl (ah++[loop]))||decide (s∈tl ts))=true):=λz=>h3 ⟨s,hs,z⟩;simp at h4;exact h4
theorem uI {ah:Lps} {loop:List Nat} {a:Lt} {n x:Nat} (h:aM ah loop a n=some x):(a=.sg 67/\x=n)\/∃l∈ah++[loop],x∈l:=by
 cases a with
 |sg c=>
  simp only[aM] at h;by_cases hc:c=67
  .rw[K3 hc] at h;subst hc;cases h;exact .inl ⟨rfl,rfl⟩
  .rw[K2 hc] at h;refine .inr ⟨loop,by simp,?_⟩
   split at h
   .split at h
    .exact a7 h
    .exact a7 h
   .cases h
 |sp j k=>
  simp only[aM] at h;by_cases hj:j=0
  .rw[K3 hj] at h
   split at h
   .exact .inr ⟨loop,by simp,a7 h⟩
   .cases h
  .rw[K2 hj] at h
   split at h
   .have hx:=a7 h;refine .inr ⟨ah.getD (ah.length-j) [],?_,hx⟩;refine cf _ ?_;have hi:ah.length-j<ah.length:=by lia
    have e:ah.getD (ah.length-j) []=ah[ah.length-j]:=by simp[List.getD,hi]
    rw[e];exact j6 hi
   .cases h
theorem uu {ah:Lps} {loop:List Nat} {a:Lt} {n x:Nat} (hl:2<=loop.length) (ha:Lets a) (h:aM ah loop a n=some x) (h2:∀l∈ah,2<=l.length) :
  (∀l∈bK ah loop a x,2<=l.length)/\((bK ah loop a x).map List.length).sum<=((ah++[loop]).map List.length).sum+1/\(∀l∈bK ah loop a x,∀c∈l,c=x\/∃l'∈ah++[loop],c∈l'):=by
 have inL:∀c,c∈loop->(c=x\/∃l'∈ah++[loop],c∈l'):=λc hc=>.inr ⟨loop,by simp,hc⟩;have inA:∀l∈ah,∀c∈l,(c=x\/∃l'∈ah++[loop],c∈l'):=λl hl c hc=>.inr ⟨l,cf _ hl,hc⟩;have one:∀(l:List Nat),2<=l.length->l.length<=loop.length+1->(∀c∈l,c=x\/c∈loop)->(∀l'∈ah++[l],2<=l'.length)/\((ah++[l]).map List.length).sum<=((ah++[loop]).map List.length).sum+1/\(∀l'∈ah++[l],∀c∈l',c=x\/∃l''∈ah++[loop],c∈l''):=λl h1 h3 h4=>by
  refine⟨λl' hl'=>?_,?_,λl' hl' c hc=>?_⟩
  .rcases ay.mp hl' with z|z
   .exact h2 l' z
   .rw[aR.mp z];exact h1
  .simp only[bI,iI,aB,eO,fH,tO];lia
  .rcases ay.mp hl' with z|z
   .exact inA l' z c hc
   .rw[aR.mp z] at hc;exact (h4 c hc).elim .inl (inL c)
 cases a with
 |sg c=>
  simp only[Lets] at ha;simp only[aM] at h;rcases ha with rfl|rfl|rfl|rfl
  .refine one (loop.take 1++x::loop.drop 1) ?_ ?_ λc hc=>?_
   .simp only[ar,bG,aZ,aW];lia
   .simp only[ar,bG,aZ,aW];lia
   .rcases ay.mp hc with z|z
    .exact .inr (gE z)
    .rcases af.mp z with z|z
     .exact .inl z
     .exact .inr (eK z)
  .simp at h;refine one (loop.take 1++loop.drop 2) ?_ ?_ λc hc=>?_
   .simp only[ar,bG,aW];lia
   .simp only[ar,bG,aW];lia
   .rcases ay.mp hc with z|z
    .exact .inr (gE z)
    .exact .inr (eK z)
  .simp at h;refine one (x::(loop.drop 1).dropLast) ?_ ?_ λc hc=>?_
   .simp only[aZ,pN,aW];lia
   .simp only[aZ,pN,aW];lia
   .rcases af.mp hc with z|z
    .exact .inl z
    .exact .inr (eK ((List.dropLast_sublist _).subset z))
  .refine⟨h2,?_,inA⟩;show (ah.map List.length).sum<=_;simp only[bI,iI];lia
 |sp j k=>
  simp only[aM] at h;by_cases hj:j=0
  .subst hj;rw[K3 rfl] at h;by_cases hk:2<k/\k+1<loop.length
   .show (∀l∈ah++[loop.take 1++loop.drop k,x::(loop.take k).drop 1],_)/\(((ah++[loop.take 1++loop.drop k,x::(loop.take k).drop 1]).map List.length).sum<=_)/\(∀l∈ah++[loop.take 1++loop.drop k,x::(loop.take k).drop 1],_);refine⟨λl hl=>?_,?_,λl hl c hc=>?_⟩
    .simp only[ay,af,a8,or_false] at hl;rcases hl with z|rfl|rfl
     .exact h2 l z
     .simp only[ar,bG,aW];lia
     .simp only[aZ,aW,bG];lia
    .simp only[bI,iI,aB,eO,fH,tO,ar,bG,aW,aZ];lia
    .simp only[ay,af,a8,or_false] at hl;rcases hl with z|rfl|rfl
     .exact inA l z c hc
     .rcases ay.mp hc with z|z
      .exact inL c (gE z)
      .exact inL c (eK z)
     .rcases af.mp hc with z|z
      .exact .inl z
      .exact inL c (gE (eK z))
   .rw[K2 hk] at h;cases h
  .rw[K2 hj] at h;by_cases hk:j<=ah.length
   .rw[K3 hk] at h;obtain⟨u,v,e1,e2⟩:=rW (show ah.length-j<ah.length by lia);have es:bK ah loop (.sp j k) x=ah.eraseIdx (ah.length-j)++[loop.take 1++(ah.getD (ah.length-j) []).drop k++(ah.getD (ah.length-j) []).take k++x::loop.drop 1]:=by
     unfold bK;dsimp only;rw[K2 hj]
    rw[es,e2];have kx:=(aS.mp h).1;have ho:ah.getD (ah.length-j) []∈ah:=by
     have hi:ah.length-j<ah.length:=by lia
     have e:ah.getD (ah.length-j) []=ah[ah.length-j]:=by simp[List.getD,hi]
     rw[e];exact j6 hi
    generalize ah.getD (ah.length-j) []=o at *;have sum:(ah.map List.length).sum=(u.map List.length).sum+o.length+(v.map List.length).sum:=by rw[e1];simp only[bI,iI,aB,fH];lia
    have sub:∀l,l∈u++v->l∈ah:=λl hl=>by
     rw[e1];rcases ay.mp hl with z|z
     .exact cf _ z
     .exact bN _ (aY _ z)
    refine⟨λl hl=>?_,?_,λl hl c hc=>?_⟩
    .rcases ay.mp hl with z|z
     .exact h2 l (sub l z)
     .rw[aR.mp z];simp only[ar,bG,aW,aZ];lia
    .simp only[bI,iI,aB,eO,fH,tO,ar,bG,aW,aZ];rw[sum];lia
    .rcases ay.mp hl with z|z
     .exact inA l (sub l z) c hc
     .rw[aR.mp z] at hc;simp only[ay,af] at hc;rcases hc with ((z|z)|z)|z|z
      .exact inL c (gE z)
      .exact inA o ho c (eK z)
      .exact inA o ho c (gE z)
      .exact .inl z
      .exact inL c (eK z)
   .rw[K2 hk] at h;cases h
def tk (W:Side->Bool) (p q:Nat):Side->Bool:=λs=>if W (p,q) then W s&&decide (s≠(p,q)) else W s||decide (s=(q,p))
theorem vk {c a b x:Nat}:((b,x)∈asked c a b x/\(x,b)∈asked c a b x\/(c=82\/c=69))/\((x,a)∈asked c a b x/\(a,x)∈asked c a b x\/(c=76\/c=69)):=by unfold asked;by_cases h1:c=82\/c=69<;>by_cases h2:c=76\/c=69<;>simp[h1,h2]
theorem AB {f:Fr} {ah:Lps} {loop:List Nat} {a:Lt} {x:Nat} (h:Ok f) (e:f.ls=ah++[loop]) (ha:Lets a) (hc:gS ah loop f.ts f.n a=some x) :
  (∀s,tk (tk (tk (λs=>decide (s∈wl f.ls)) (g1 loop) (g2 loop)) (g2 loop) x) x (g1 loop) s=decide (s∈wl (bK ah loop a x)))/\(wl (bK ah loop a x)).Nodup/\∀s∈wl (bK ah loop a x),s.1≠s.2:=by
 have hl:2<=loop.length:=h.two loop (by rw[e];simp);obtain⟨ht,hx1,hx2,hk⟩:=kM hc;obtain⟨rest,p1,p2⟩:=uL hl ha ht;rw[<-e] at p1 hk;have nd:=h.nd;have ne:=h.ne;have m1:∀s,s∈wl f.ls↔s∈gone (sgn a) (g1 loop) (g2 loop) x++rest:=λs=>p1.mem_iff;have m2:∀s,s∈wl (bK ah loop a x)↔s∈come (sgn a) (g1 loop) (g2 loop) x++rest:=λs=>p2.mem_iff;have nd1:=p1.nodup_iff.mp nd;have hpq:g1 loop≠g2 loop:=ne (g1 loop,g2 loop) ((m1 _).mpr (by simp[gone]));obtain⟨k1,k2⟩:=vk (c:=sgn a) (a:=g1 loop) (b:=g2 loop) (x:=x);generalize g1 loop=p at *;generalize g2 loop=q at *;generalize sgn a=c at *;have hn:∀s,s∈asked c p q x->s∉rest/\s∉gone c p q x:=λs hs=>by
  have:=(hk s hs).1;rw[m1] at this;exact⟨λz=>this (bN _ z),λz=>this (cf _ z)⟩
 have nr:∀s∈gone c p q x,s∉rest:=λs hs hr=>(bZ.mp nd1).2.2 s hs s hr rfl;have ndr:=(bZ.mp nd1).2.1;have hw:∀s,(s∈wl f.ls)=(s∈gone c p q x\/s∈rest):=λs=>by rw[propext (m1 s),ay]
 refine⟨λs=>?_,p2.nodup_iff.mpr ?_,λs hs=>?_⟩
 .have hs2:(s∈wl (bK ah loop a x))=(s∈come c p q x\/s∈rest):=by rw[propext (m2 s),ay]
  simp only[tk,hw,hs2];have d1:(p,q)≠(q,x):=λz=>hpq (congrArg Prod.fst z);have d2:(p,q)≠(x,p):=λz=>hx1 (congrArg Prod.fst z).symm;have d3:(q,x)≠(x,p):=λz=>hx2 (congrArg Prod.fst z).symm;have d4:(x,q)≠(x,p):=λz=>hpq (congrArg Prod.snd z).symm;have d5:(x,q)≠(q,x):=λz=>hx2 (congrArg Prod.fst z);have d6:(p,x)≠(x,p):=λz=>hx1 (congrArg Prod.fst z).symm;have r0:(p,q)∉rest:=nr _ (by simp[gone]);by_cases h1:c=82\/c=69
  .have r1:(q,x)∉rest:=nr _ (by simp[gone,h1]);by_cases h2:c=76\/c=69
   .have r2:(x,p)∉rest:=nr _ (by simp[gone,h2]);simp only[gone,come,h1,h2,if_true,af,ay,a8,or_false,false_or];rw[dn];simp[d1,d2,d3,d1.symm,d2.symm,d3.symm];constructor
    .rintro⟨⟨⟨z,n0⟩,n1⟩,n2⟩;simpa [n0,n1,n2] using z
    .intro z;refine⟨⟨⟨.inr z,?_⟩,?_⟩,?_⟩<;>(rintro rfl;simp_all)
   .have r2:=hn (x,p) ((k2.resolve_right h2).1);have r3:=hn (p,x) ((k2.resolve_right h2).2);simp only[gone,come,h1,h2,if_true,if_false,af,ay,a8,or_false,false_or] at r2 r3 |-;rw[dn];simp[d1,d2,d3,d1.symm,d2.symm,d3.symm,r2.1];constructor
    .rintro (⟨⟨z|z,n0⟩,n1⟩|z)<;>simp_all
    .rintro (z|z)
     .exact .inr z
     .refine .inl ⟨⟨.inr z,?_⟩,?_⟩<;>(rintro rfl;simp_all)
  .have r1:=hn (q,x) ((k1.resolve_right h1).1);have r4:=hn (x,q) ((k1.resolve_right h1).2);by_cases h2:c=76\/c=69
   .have r2:(x,p)∉rest:=nr _ (by simp[gone,h2]);simp only[gone,come,h1,h2,if_true,if_false,af,ay,a8,or_false,false_or] at r1 r4 |-;rw[dn];simp[d1,d2,d3,d1.symm,d2.symm,d3.symm,r1.1];constructor
    .rintro⟨⟨z|z,n0⟩|z,n2⟩<;>simp_all
    .rintro (z|z)
     .exact⟨.inr z,by rw[z];exact d4⟩
     .refine⟨.inl ⟨.inr z,?_⟩,?_⟩<;>(rintro rfl;simp_all)
   .have r2:=hn (x,p) ((k2.resolve_right h2).1);have r3:=hn (p,x) ((k2.resolve_right h2).2);simp only[gone,come,h1,h2,if_true,if_false,af,ay,a8,or_false,false_or] at r1 r2 r3 r4 |-;rw[dn];simp[d1,d2,d3,d1.symm,d2.symm,d3.symm,d4.symm,r1.1,r2.1];constructor
    .rintro ((⟨z|z,n0⟩|z)|z)<;>simp_all
    .rintro ((z|z)|z)
     .exact .inl (.inr z)
     .exact .inr z
     .refine .inl (.inl ⟨.inr z,?_⟩);rintro rfl;simp_all
 .refine bZ.mpr ⟨?_,ndr,?_⟩
  .unfold come;by_cases h1:c=82\/c=69<;>by_cases h2:c=76\/c=69<;>simp[h1,h2]
   intro z;exact λ_=>hx1 z
  .intro s hs t ht est;subst est;unfold come at hs;by_cases h1:c=82\/c=69<;>by_cases h2:c=76\/c=69<;>simp[h1,h2] at hs
   .subst hs;exact (hn _ ((k2.resolve_right h2).2)).1 ht
   .subst hs;exact (hn _ ((k1.resolve_right h1).2)).1 ht
   .rcases hs with rfl|rfl
    .exact (hn _ ((k1.resolve_right h1).2)).1 ht
    .exact (hn _ ((k2.resolve_right h2).2)).1 ht
 .rw[m2,ay] at hs;rcases hs with hs|hs
  .unfold come at hs;by_cases h1:c=82\/c=69<;>by_cases h2:c=76\/c=69<;>simp[h1,h2] at hs
   .subst hs;exact aF hx1
   .subst hs;exact hx2
   .rcases hs with rfl|rfl
    .exact hx2
    .exact aF hx1
  .exact ne s ((m1 s).mpr (bN _ hs))
theorem xE {f:Fr} {a:Lt} {x:Nat} (h:Ok f) (ha:Lets a) (hc:f.can a=some x):Ok (f.put a x):=by
 obtain⟨ls,ts,n⟩:=f;rcases pI ls with rfl|⟨ah,loop,e⟩
 .cases hc
 .rw[pH] at e;subst e;rw[mw] at hc;rw[oJ];obtain⟨ht,hx1,hx2,hk⟩:=kM hc;have w:=AB h rfl ha hc;have hl:2<=loop.length:=h.two loop (by simp);have hs:=uu hl ha ht λl hl=>h.two l (cf _ hl);have htot:=h.tot;have hnum:=h.num;dsimp only at htot hnum;have hxn:x<max n (x+1):=by lia
  have old:∀c,(∃l∈ah++[loop],c∈l)->c<n:=λc ⟨l,h1,h2⟩=>h.big l h1 c h2;have hx:x<=n:=by
   rcases uI ht with ⟨_,z⟩|z
   .lia
   .exact nk (old x z)
  obtain⟨t,et⟩:=two hl;have hp:g1 loop<n:=old _ ⟨loop,by simp,by rw[et];simp[g1]⟩;have hq:g2 loop<n:=old _ ⟨loop,by simp,by rw[et];simp[g2]⟩;refine⟨hs.1,?_,?_,?_,?_,w.2.1,w.2.2⟩
  .dsimp only;rw[ar];have:=hs.2.1;simp only[aZ,jf];lia
  .dsimp only;rw[ar];simp only[aZ,jf];lia
  .intro l hl' c hc';dsimp only;rcases hs.2.2 l hl' c hc' with z|z
   .lia
   .have:=old c z;lia
  .intro s hs';dsimp only at hs' |-;rw[v9,ay] at hs';rcases hs' with z|z
   .have:=h.bigT s z;dsimp only at this;lia
   .simp only[af,a8,or_false] at z;rcases z with rfl|rfl|rfl<;>(dsimp only;lia)
end K31
end
section
namespace L2
open PySem PySem.Spec PyProof.Rows
open AutoSeq1 (wpAny_loadPart')
section
variable {prog:Program} {it l:Addr}
theorem Ca {i:Nat} {items:Array Value} {x:Value} {Q:Value->Shared->Prop} (hit:s.heap.IsRevIter it l (i:Int)) (hl:s.heap.IsList l items) (hx:items[i]?=some x)
  (hQ:∀h',h'.IsRevIter it l ((i:Int)-1)->Heap.SameBut it s.heap h'->Q x {s with heap:=h'}):wpAny (model prog w) A (Builtin.SmallTypes.nextOf (.ref it)) Q E s:=by
 obtain⟨o,ho,hc,hd⟩:=id hit;obtain⟨ol,hol,_,nl,hdl⟩:=hl;unfold Builtin.SmallTypes.nextOf;refine ao (ua (name:=Str.ofString "__next__") hit.typeIs tW (kg tW hit.typeIs Jn ?_ (Jk _)));unfold Builtin.«list_reverseiterator.__next__»;refine ao (ue (a:=(Value.ref it,[])) rfl ?_)
 try dsimp only
 refine ao (zT ho hd (x:=rawInt (i:Int)) rfl ?_);show wpAny _ _ (if (i:Int)<0 then _ else _) _ _ s;rw[K2 (by lia)];show wpAny _ _ (field (.ref it) 0 >>= _) _ _ s;refine ao (zT ho hd (x:=.ref l) rfl ?_);show wpAny _ _ (seqItems? (.ref l) >>= _) _ _ s;refine ao (wpAny_seqItems hol hdl ?_);simp only[Int.toNat_natCast,hx];refine ao (zZ ho hd (by simp) ?_)
 first
 |refine aO ⟨x,rfl,aO (hQ _ ?_ (s_ ..))⟩
 |refine ao (aO (aO ⟨x,rfl,aO (hQ _ ?_ (s_ ..))⟩))
 exact⟨_,yK _ ho (Jd (tU hd _)),(Jc ..).trans hc,by rw[tU hd];simp⟩
theorem B_ {Q:Value->Shared->Prop} (hh:A.handled=none) (hit:s.heap.IsRevIter it l (-1))
  (hE:∀h' e,Heap.ExtBut it s.heap h'->(∃o,h'.get? e=some o/\o.cls=.type "StopIteration")->E (.ref e) {s with heap:=h'}):wpAny (model prog w) A (Builtin.SmallTypes.nextOf (.ref it)) Q E s:=by
 obtain⟨o,ho,hc,hd⟩:=id hit;unfold Builtin.SmallTypes.nextOf;refine ao (ua (name:=Str.ofString "__next__") hit.typeIs tW (kg tW hit.typeIs Jn ?_ (Jk _)));unfold Builtin.«list_reverseiterator.__next__»;refine ao (ue (a:=(Value.ref it,[])) rfl ?_)
 try dsimp only
 refine ao (zT ho hd (x:=rawInt (-1)) rfl ?_);show wpAny _ _ (if (-1:Int)<0 then _ else _) _ _ s;rw[K3 (by decide)];refine ao (zY ?_)
 first
 |show wpAny _ _ (newExc (.type "StopIteration") [] >>= _) _ _ _
 |(refine ao ?_;show wpAny _ _ (newExc (.type "StopIteration") [] >>= _) _ _ _)
 refine ao ?_;simp only[newExc,newTuple];refine ao (nK ?_ (by size_fits));refine ao (m:=firstArgMember _ _) (ue (a:=Value.none) (by first|rfl|(simp only[firstArgMember];rfl)) ?_);refine nK ?_ (by size_fits);simp only[raiseNew];refine ao (wpAny_handled ?_)
 first|rw[show A.in1.handled=none from hh] | rw[hh]
 refine ao (aO (wpAny_throw ?_));exact hE _ _ (((J2 _ _).push _).push _) ⟨_,cQ _ rfl,rfl⟩
end
theorem uZ {prog:Program} (hh:A.handled=none) (it l:Addr) (hne:l≠it) (items:Array Value) :
  Draws prog w A it [it,l] items.size (λi v=>items[items.size-1-i]?=some v) (λi h=>i<=items.size/\h.IsRevIter it l ((items.size:Int)-1-(i:Int))/\h.IsList l items) where
 live:=λ_ _ st=>let ⟨o,ho,_⟩:=st.2.1;⟨o,ho⟩
 frame:=λ_ _ _ st hk=>⟨st.1,st.2.1.at λo e=>hk it (by simp) o e,st.2.2.at λo e=>hk l (by simp) o e⟩
 item:=λi s Q E hi st hQ=>by
  have e1:(items.size:Int)-1-(i:Int)=((items.size-1-i:Nat):Int):=by lia
  have h1:=st.2.1;rw[e1] at h1;refine Ca h1 st.2.2 (x:=items[items.size-1-i]'(by lia)) (by simp) λh' hit' hs'=>?_;refine hQ _ h' s.toks (by simp) ⟨by lia,?_,st.2.2.extBut hs'.extBut hne⟩ hs';rw[show (items.size:Int)-1-((i+1:Nat):Int)=((items.size-1-i:Nat):Int)-1 by lia];exact hit'
 done:=λs Q E st hE=>by
  have h1:=st.2.1;rw[show (items.size:Int)-1-(items.size:Int)=-1 by lia] at h1;exact B_ hh h1 hE
theorem Aw (r l:Addr) (i:Int) (o:Obj) :
  Meets (Builtin.«enumerate.__new__» ⟨[.type "enumerate",.ref r],[]⟩) (λ_ R s=>s.heap.get? r=some o/\s.heap.IsRevIter r l i/\
   R (.ok (.ret (.ref s.heap.objs.size))) {s with heap:=s.heap.push {cls:=.type "enumerate",data:=.fields #[.none,.bool false,.ref r,rawInt 0,.none,.none]}}):=
 .of_wp λprog w A R s h=>by
  obtain⟨hp,g,d,tk,os⟩:=s;obtain⟨hl,hL,h⟩:=h;have hsub:=sub_enumerate
  wp_walk using nJ hl
  refine wpAny_stack_any λst=>aO ?_
  split
  .rename_i c _ _ _ _ _;cases (c==Value.type "enumerate")
   .wp_walk using nJ hl,zV hL
    exact⟨_,rfl,h⟩
   .wp_walk using nJ hl,zV hL
    exact⟨_,rfl,h⟩
  .wp_walk using nJ hl,zV hL
   exact⟨_,rfl,h⟩
theorem A8 {prog:Program} {w:World} {A:Around} {E:Value->Shared->Prop} {r l:Addr} {i:Int} {Q:Value->Shared->Prop} (hL:s.heap.IsRevIter r l i)
  (h:Q (.ref s.heap.objs.size) {s with heap:=s.heap.push {cls:=.type "enumerate",data:=.fields #[.none,.bool false,.ref r,rawInt 0,.none,.none]}}) :
  wpAny (model prog w) A (call (.type "enumerate") [.ref r]) Q E s:=by
 obtain⟨o,ho,_⟩:=id hL;refine callType_new PySem.F.called_enumerate (by decide) (PySem.F.typeCall_enumerate_1 _) (PySem.F.newCall_enumerate_1 _) (λobj=>PySem.F.args_object_init_2 obj _) PySem.F.entry_enumerate_new (Aw r l i o) ⟨ho,hL,?_⟩;exact⟨⟨_,cQ _ rfl,rfl⟩,h⟩
def m5 (K:W.Frag) (a:Addr) (n:Nat):It:=
 ⟨λi H=>∃xs x,SqL K H a xs/\xs.length=n/\i<n/\xs[n-1-i]?=some x,
  λi H v H'=>∃p x,H p=none/\v=.ref p/\H'=upd H p (.tup [.int (i:Int),x])/\∀xs,SqL K H a xs->xs[n-1-i]?=some x,
  λi H=>i=n/\∃xs,SqL K H a xs/\xs.length=n⟩
theorem AG {elts:List Expr} {x1} {pos:Pos} (a it e:Addr) (n:Nat) (hne:e≠it) :
  Turn P w K (.Tuple elts x1 pos) (m5 [] a n) [e,it] e (λi h=>(∃old,IsEnum h e it (i:Int) old)/\h.IsRevIter it a ((n:Int)-1-(i:Int))) where
 mem:=by simp
 obj:=λi h st b hb=>by
  obtain⟨⟨old,st1⟩,o,e2,c,d⟩:=st;rcases af.mp hb with z|z
  .subst z;exact⟨_,st1,λv z=>by
    have z':Data.fields _=Data.cell v:=z;cases z'⟩
  .have z:b=it:=by simpa using z
   subst z;exact⟨o,e2,λv z=>by rw[d] at z;cases z⟩
 keep:=λi h h' st k=>by
  obtain⟨⟨old,st1⟩,st2⟩:=st;exact⟨⟨old,k e (by simp) _ st1⟩,st2.at λo q=>k it (by simp) o q⟩
 item:=by
  intro X hP hw hK hc i pins s Z H E I hf st hg;subst hP hw hK;obtain⟨xs,x,hq,hn,hi,hx⟩:=hg;obtain⟨⟨old,st1⟩,st2⟩:=st;obtain⟨its,rv,p,hz⟩:=I.list hq;have hl:=rv.length;obtain⟨u,hu,ru⟩:=rv.get hx;have ha1:a≠it:=λz=>by
   obtain⟨o1,g1,_,d1⟩:=st2;obtain⟨o2,g2,_,_,d2⟩:=p.isList;rw[z,g1] at g2;cases g2;rw[d1] at d2;cases d2
  have ha2:e≠a:=λz=>by
   obtain⟨o2,g2,_,_,d2⟩:=p.isList;rw[<-z] at g2;have st1':=st1;unfold IsEnum at st1';rw[g2] at st1';cases st1';cases d2
  have hsz:its.toArray.size=n:=by rw[bX];lia
  have D:=uZ (prog:=X.prog) (w:=X.w) (A:=X.A.in1) (I.ok.hd hc) it a ha1 its.toArray;rw[hsz] at D;refine wpAny_pyNext_enum_itemD D st1 (i:=i) ⟨by lia,st2,p.isList⟩ hi hne (λz=>by
   simp only[af,a8,or_false] at z;exact z.elim hne ha2) λv h1 tk hv heo hst1 ht1 hz1 hk1=>?_
  have hvu:v=u:=by
   have h2:its.toArray[n-1-i]?=some u:=by simpa using hu
   rw[h2] at hv;exact (cH hv).symm
  subst hvu;refine⟨_,rfl,?_⟩;refine JT heo λh2 he2 hs2=>?_;replace hs2:Heap.SameBut e h1 h2:=hs2;have hfr:s.heap.get? s.heap.objs.size=none:=tj (aC _);have hee:e<s.heap.objs.size:=bf st1;have hit2:it<s.heap.objs.size:=by obtain⟨_,q,_⟩:=st2;exact bf q
  have hnn:H s.heap.objs.size=none:=I.hok.fresh (aC _);have ht2:h2.get? s.heap.objs.size=some {cls:=.type "tuple",data:=.seq #[.int i tk,v]}:=(hs2.2 _ (zo hee)).trans ht1;have I2:Inv X pins Z (upd H s.heap.objs.size (.tup [.int (i:Int),x])) {s with heap:=h2,toks:=tk+1}:=by
   refine I.turnLaid (ch:=[e,it]) hf (λb o hb q=>?_) hfr λH'=>?_
   .have hb1:b≠e:=λz=>hb (by simp[z]);have hb2:b≠it:=λz=>hb (by simp[z]);exact (hs2.2 b hb1).trans (hk1 b o hb1 hb2 q)
   .exact⟨⟨by simp;rw[gH];lia,_,ht2,rfl⟩,[.int i tk,v],.cons ⟨_,rfl⟩ (.cons ru .nil),⟨_,ht2,rfl,_,rfl⟩⟩
  refine⟨.ref s.heap.objs.size,_,I2,rfl,⟨s.heap.objs.size,x,hnn,rfl,rfl,λys hy=>by rw[I.list_inj hy hq];exact hx⟩,⟨⟨_,he2⟩,?_⟩,λb hb=>?_⟩
  .obtain⟨_,⟨o,q1,q2⟩,_⟩:=hst1;exact⟨o,(hs2.2 it (aF hne)).trans q1,q2⟩
  .have:b≠s.heap.objs.size:=by
    rcases af.mp hb with z|z
    .rw[z];exact cC hee
    .rw[(by simpa using z:b=it)];exact cC hit2
   rw[bz this];exact (hf b hb).1
 done:=by
  intro X hP hw hK hc i pins s Z H E I hf st hg;subst hP hw hK;obtain⟨hi,xs,hq,hn⟩:=hg;obtain⟨⟨old,st1⟩,st2⟩:=st;obtain⟨its,rv,p,hz⟩:=I.list hq;obtain⟨f0,f1,f2,f3,f4,f5⟩:=hf it (by simp);have hl:=rv.length;have ha1:a≠it:=λz=>by
   obtain⟨o1,g1,_,d1⟩:=st2;obtain⟨o2,g2,_,_,d2⟩:=p.isList;rw[z,g1] at g2;cases g2;rw[d1] at d2;cases d2
  have hsz:its.toArray.size=n:=by rw[bX];lia
  have D:=uZ (prog:=X.prog) (w:=X.w) (A:=X.A.in1) (I.ok.hd hc) it a ha1 its.toArray;rw[hsz] at D;rw[hi] at st2;exact wpAny_pyNext_enum_endD D st1 ⟨aC _,st2,p.isList⟩ λh' eb=>⟨rfl,I.turned (t':=s.toks) (λb o hb q=>eb b o hb q) f0 f1 f3 f4 f5⟩
 self:=λ_ _ _ _ _ st h=>by
  obtain⟨⟨old,st1⟩,_⟩:=st;exact uf st1 h
section
def Ea (K:W.Frag) (R:It->Hp->Prop) (vs:List V) (H1:Hp) (a:Addr) (xs:List V):Prop:=vs=[.ref a]/\SqL K H1 a xs/\R (m5 K a xs.length) H1
def D_ (K:W.Frag) (R:It->Hp->Prop):List V->Hp->Prop:=λvs H1=>Exists (Ex2 (Ea K R vs H1))
def FX (K:W.Frag) (ta:TA):TI:=λZ H R=>ta Z H (D_ K R)
theorem vz {elts:List Expr} {x1} {tpos:Pos} {a:Expr} {ta:TA} {p pos p2 pos2:Pos} (hg:Gl X "enumerate") (hm:X.mg "enumerate" = none) (hg2:Gl X "reversed") (hm2:X.mg "reversed" = none) (ha:PA X [a] ta) (hs:starEach [a] X.env=[(false,eval a X.env)]:=by rfl)
  (hs2:starEach [.Call (.Name "reversed" p2) [a] [] pos2] X.env=[(false,eval (.Call (.Name "reversed" p2) [a] [] pos2) X.env)]:=by rfl) :
  PI X (.Tuple elts x1 tpos) (.Call (.Name "enumerate" p) [.Call (.Name "reversed" p2) [a] [] pos2] [] pos) (FX [] ta):=by
 intro pins s Z H R I h;have hp:∀(s:Shared) (Q:List Value->Shared->Prop),wpAny (model X.prog X.w) X.A (eval (.Call (.Name "reversed" p2) [a] [] pos2) X.env) (λv s'=>Q [v] s') X.xe s->wpAny (model X.prog X.w) X.A (spliced (backTo pos (starEach [.Call (.Name "reversed" p2) [a] [] pos2] X.env))) Q X.xe s:=λs Q hQ=>by
  rw[hs2];show wpAny _ _ (spliced ((false,_)::backTo pos [])) _ _ s;exact sW (thn hQ λu s1 q=>sX q)
 refine Call_ (iY I hg hm JD (nH (hp _ _ ?_) hs2 rfl));refine Call_ (iY I hg2 hm2 Ak (nH (thn (ha pos2 pins s Z H _ I h) λus s1 ⟨vs,H1,I1,r1,q1⟩=>?_) hs rfl));obtain⟨a,xs,e,hq,q⟩:=q1;subst e;obtain⟨u,rfl,ru⟩:=Vals.one r1;cases ru;obtain⟨its,rv,pl,hz⟩:=I1.list hq;have hl:=rv.length;refine call_reversed_list pl.isList ?_;have new:(s1.heap.push (revObj a ((its.toArray.size:Int)-1))).IsRevIter s1.heap.objs.size a ((xs.length:Int)-1-((0:Nat):Int)):=by
  have e:(xs.length:Int)-1-((0:Nat):Int)=(its.toArray.size:Int)-1:=by rw[bX];lia
  rw[e];exact⟨_,cQ _ rfl,rfl,rfl⟩
 refine A8 (s:={s1 with heap:=s1.heap.push (revObj a ((its.toArray.size:Int)-1))}) new ?_;have I2:Inv X pins Z H1 {s1 with heap:=s1.heap.push (revObj a ((its.toArray.size:Int)-1))}:=I1.kept (t':=s1.toks) λb o e=>bP _ e;have I3:=I2.kept (h':=(s1.heap.push (revObj a ((its.toArray.size:Int)-1))).push {cls:=.type "enumerate",data:=.fields #[.none,.bool false,.ref s1.heap.objs.size,rawInt 0,.none,.none]}) (t':=s1.toks) λb o e=>bP _ e;have hes:(s1.heap.push (revObj a ((its.toArray.size:Int)-1))).objs.size=s1.heap.objs.size+1:=yM ..;have he:IsEnum ((s1.heap.push (revObj a ((its.toArray.size:Int)-1))).push {cls:=.type "enumerate",data:=.fields #[.none,.bool false,.ref s1.heap.objs.size,rawInt 0,.none,.none]}) (s1.heap.objs.size+1) s1.heap.objs.size 0 .none:=by have:=cQ (s1.heap.push (revObj a ((its.toArray.size:Int)-1))) (o:={cls:=.type "enumerate",data:=.fields #[.none,.bool false,.ref s1.heap.objs.size,rawInt 0,.none,.none]}) rfl;rw[hes] at this;exact this
 show wpAny _ _ (pyIter (.ref (s1.heap.push (revObj a ((its.toArray.size:Int)-1))).objs.size)) _ _ _;rw[hes];refine uf he ?_;refine⟨_,[s1.heap.objs.size+1,s1.heap.objs.size],_,_,H1,rfl,I3,AG a _ _ xs.length (Jb _),⟨⟨.none,he⟩,new.at λo q=>bP _ q⟩,λb hb=>?_,q⟩;have hb':s1.heap.objs.size<=b:=by
  rcases af.mp hb with z|z
  .rw[z];exact pY _
  .have:b=s1.heap.objs.size:=by simpa using z
   exact tR this.symm
 exact I1.fpOk hb' (I1.hok.fresh hb')
end
theorem uY {a:Addr} {g:TG} {tb:TS} {D:Ends} (Pv:Nat->St->Hp->Prop) (h0:Pv 0 Z H) (hl:∀i Z H,i<=xs.length->Pv i Z H->SqL K H a xs)
  (hs:∀i x p Z H,i<xs.length->xs[xs.length-1-i]?=some x->Pv i Z H->H p=none->g (.ref p) Z (upd H p (.tup [.int (i:Int),x])) λσ2 H2=>tb {D with nx:=Pv (i+1),ct:=Pv (i+1),bk:=D.nx} σ2 H2) (hd:∀Z H,Pv xs.length Z H->D.nx Z H) :
  ∃W:Nat->Nat->St->Hp->Prop,(∃m,W 0 m Z H)/\∀i m Z H,W i m Z H->
   ((m5 K a xs.length).stop i H/\D.nx Z H)\/((m5 K a xs.length).go i H/\∃N:St->Hp->Prop,(∀Z' H',N Z' H'->∃m',m'<m/\W (i+1) m' Z' H')/\∀x H',(m5 K a xs.length).yld i H x H'->g x Z H' λσ2 H2=>tb {D with nx:=N,ct:=N,bk:=D.nx} σ2 H2):=by
 refine⟨λi m Z H=>m=xs.length-i/\i<=xs.length/\Pv i Z H,⟨xs.length,by simp,aT _,h0⟩,?_⟩;rintro i m Z H ⟨rfl,hi,p⟩;have q:=hl i Z H hi p;by_cases hlt:i<xs.length
 .refine .inr ⟨⟨xs,xs[xs.length-1-i]'(by lia),q,rfl,hlt,aX (by lia)⟩,Pv (i+1),λZ' H' p'=>⟨xs.length-(i+1),by lia,rfl,hlt,p'⟩,λx H' y=>?_⟩;obtain⟨b,v,hb,rfl,rfl,y⟩:=y;exact hs i v b Z H hlt (y xs q) p hb
 .have e:i=xs.length:=by lia
  subst e;exact .inl ⟨⟨rfl,xs,q,rfl⟩,hd Z H p⟩
theorem vP {a:Addr} {g:TG} {tb:TS} {D:Ends} (Pv:Nat->St->Hp->Prop) (h0:Pv 0 Z H) (hl:∀i Z H,i<=xs.length->Pv i Z H->SqL K H a xs)
  (hs:∀i x p Z H,xs[i]?=some x->Pv i Z H->H p=none->g (.ref p) Z (upd H p (.tup [.int (i:Int),x])) λσ2 H2=>tb {D with nx:=Pv (i+1),ct:=Pv (i+1),bk:=D.nx} σ2 H2) (hd:∀Z H,Pv xs.length Z H->D.nx Z H) :
  ∃W:Nat->Nat->St->Hp->Prop,(∃m,W 0 m Z H)/\∀i m Z H,W i m Z H->
   ((Ite K a).stop i H/\D.nx Z H)\/((Ite K a).go i H/\∃N:St->Hp->Prop,(∀Z' H',N Z' H'->∃m',m'<m/\W (i+1) m' Z' H')/\∀x H',(Ite K a).yld i H x H'->g x Z H' λσ2 H2=>tb {D with nx:=N,ct:=N,bk:=D.nx} σ2 H2):=by
 refine⟨λi m Z H=>m=xs.length-i/\i<=xs.length/\Pv i Z H,⟨xs.length,by simp,aT _,h0⟩,?_⟩;rintro i m Z H ⟨rfl,hi,p⟩;have q:=hl i Z H hi p;by_cases hlt:i<xs.length
 .refine .inr ⟨⟨xs,xs[i],q,aX hlt⟩,Pv (i+1),λZ' H' p'=>⟨xs.length-(i+1),by lia,rfl,hlt,p'⟩,λx H' y=>?_⟩;obtain⟨b,v,hb,rfl,rfl,y⟩:=y;exact hs i v b Z H (y xs q) p hb
 .have e:i=xs.length:=by lia
  subst e;exact .inl ⟨⟨xs,q,aC _⟩,hd Z H p⟩
section
variable {prog:Program}
theorem u5 {it t:Addr} {items:Array Value} (hne:t≠it):∀(n i:Nat) (s:Shared) (Q:List Value->Shared->Prop),s.heap.IsListIter it t i->s.heap.IsList t items->i+n<=items.size->
  (∀h',h'.IsListIter it t (i+n)->Heap.SameBut it s.heap h'->Q ((items.toList.drop i).take n) {s with heap:=h'})->wpAny (model prog w) A (draw (.ref it) n) Q E s
 |0,i,s,Q,hit,_,_,hQ=>by
  show wpAny _ _ (pure []) Q E s;exact aO (by simpa using hQ s.heap hit (J3 ..))
 |n+1,i,s,Q,hit,ht,hle,hQ=>by
  have hlt:i<items.size:=by lia
  show wpAny _ _ (pyNext (.ref it) >>= _) Q E s;refine ao (zX hit ht (x:=items[i]) (by simp[hlt]) λh1 hit1 sb1=>?_);refine ao (fK (u5 hne n (i+1) _ _ hit1 (ht.extBut sb1.extBut hne) (by lia) λh2 hit2 sb2=>aO ?_));have hd:items.toList.drop i=items[i]::items.toList.drop (i+1):=by simp[eZ,hlt]
  have z:=hQ h2 (by rw[show i+(n+1)=i+1+n by lia];exact hit2) (sb1.trans sb2);rw[hd,nh] at z;exact z
theorem Al {t:Addr} {items:Array Value} {Q:List Value->Shared->Prop} (hh:A.handled=none) (ht:s.heap.IsList t items)
  (hQ:∀h',Heap.ExtBut s.heap.objs.size s.heap h'->Q items.toList {s with heap:=h'}):wpAny (model prog w) A (unpackItems (.ref t) items.size none) Q E s:=by
 have hlt:t≠s.heap.objs.size:=by obtain⟨o,ho,_⟩:=ht;exact cC (bf ho)
 unfold unpackItems;refine ao ?_;unfold notIterableAtAll;refine ao (JY ht.typeIs slot_list_iter.lookup (aO ?_));simp only[pz,if_false];refine ao (fK (qd ht ?_));refine ao (fK (u5 hlt items.size 0 _ _ ⟨_,cQ _ rfl,rfl,rfl⟩ (ht.push _) (by lia) λh1 hit1 sb1=>?_));have hall:List.take items.size (List.drop 0 items.toList)=items.toList:=by rw[m7];exact gG (by simp)
 rw[hall,K2 (by simp)];have ht1:h1.IsList t items:=(ht.push _).extBut sb1.extBut hlt;refine ao (fK (zW hh (by simpa using hit1) ht1 (by simp) λh2 he2=>?_));simp only[Option.isSome_none,pz,if_false];exact aO (hQ h2 λb o hb e=>he2 b o hb (sb1.extBut b o hb (bP _ e)))
end
section
variable {pos:Pos}
def Ib (K:W.Frag) (n:Nat) (t:TGs) (v:V) (Z:St) (H:Hp) (Q:St->Hp->Prop) (a:Addr) (xs:List V):Prop:=v=.ref a/\SqL K H a xs/\xs.length=n/\t xs Z H Q
def gLst (K:W.Frag) (n:Nat) (t:TGs):TG:=λv Z H Q=>Exists (Ex2 (Ib K n t v Z H Q))
theorem oN {es:List Expr} {k:Nat} {t:TGs} (hc:X.calm=true) (h:PGs X es t)
  (hn:(assignEach es X.env).length=es.length:=by rfl) (hst:(assignEach es X.env).findIdx? (·.1)=none:=by rfl):PG X (.Tuple es k pos) (gLst [] es.length t):=by
 intro pins s Z H v u Q I r hw;obtain⟨a,xs,rfl,hq,hl,hw⟩:=hw;cases r;obtain⟨its,rv,p,hz⟩:=I.list hq;rw[assign_Tuple];refine ao (ug ?_);unfold unpack;have hsz:(assignEach es X.env).length=its.toArray.size:=by simp[hn,<-hl,rv.length]
 rw[hsz,hst];refine ao (fK (Al (I.ok.hd hc) p.isList λh' hx=>?_));have I1:Inv X pins Z H {s with heap:=h'}:=I.kept (t':=s.toks) λb o e=>hx b o (cC (bf e)) e;exact h pins _ Z H xs _ Q I1 (by simpa using rv) hw
def rAny (K:W.Frag):List V->Hp->VK->Prop:=λxs H Q=>∃(a:Addr) (bs:List Bool),xs=[.ref a]/\SqL K H a (bs.map V.bl)/\Q (.bl (bs.any id)) H
theorem Ai (hc:X.calm=true):d_ X (.builtin "any") (rAny []):=by
 intro pins s Z H xs us Q I r h;obtain⟨a,bs,rfl,hq,q⟩:=h;obtain⟨u,rfl,ru⟩:=Vals.one r;cases ru;obtain⟨its,rv,p,hz⟩:=I.list hq;have hl:=rv.length;rw[aQ] at hl;have hil:=p.isList;have hlt:a<s.heap.objs.size:=by obtain⟨_,e,_⟩:=hil;exact bf e
 refine call_any_walk (qd hil ?_);refine⟨s.heap.objs.size,_,_,_,_,_,(λi=>bs.getD i false),rfl,JB (A:=X.A.in1) (I.ok.hd hc) _ a (cC hlt) its.toArray,⟨⟨_,cQ _ rfl,rfl,rfl⟩,hil.push _⟩,λi v s' Q' E' hP hQ=>?_,λh' tk hk=>?_⟩
 .obtain⟨x,e1,e2⟩:=qM rv (i:=i) (v:=v) (by simpa using hP);rw[c7] at e1;obtain⟨b,e3,rfl⟩:=fJ.mp e1;cases e2;have:bs.getD i false=b:=by rw[List.getD,e3];rfl
  dsimp only at hQ;rw[this] at hQ;exact iJ hQ
 .have e:(List.range its.toArray.size).any (λi=>bs.getD i false)=bs.any id:=by
   rw[bX,<-hl];have e2:bs=(List.range bs.length).map λi=>bs.getD i false:=by refine m8 (by simp) λi h1 h2=>?_;simp[h1]
   conv=>rhs;rw[e2,pG]
   rfl
  rw[e];exact⟨.bl _,H,I.kept (t':=tk) λb o e=>hk b o (λz=>by rw[aR.mp z] at e;exact absurd (bf e) (fI _)) (bP _ e),rfl,q⟩
def tCh4 (Q:Bool->Hp->Prop):VK:=λc' H5=>Exists (tBB Q c' H5)
def tCh5 (r':R2) (y:V) (Q:Bool->Hp->Prop):VK:=λz H4=>r' y z H4 (tCh4 Q)
def tChB (r':R2) (tc:TE) (Z:St) (y:V) (Q:Bool->Hp->Prop) (c:V) (H3:Hp) (k:Bool):Prop:=c=.bl k/\(if k=true then tc Z H3 (tCh5 r' y Q) else Q false H3)
def tCh3 (r':R2) (tc:TE) (Z:St) (y:V) (Q:Bool->Hp->Prop):VK:=λc H3=>Exists (tChB r' tc Z y Q c H3)
def tCh2 (r r':R2) (tc:TE) (Z:St) (x:V) (Q:Bool->Hp->Prop):VK:=λy H2=>r x y H2 (tCh3 r' tc Z y Q)
def tCh1 (r r':R2) (tb tc:TE) (Z:St) (Q:Bool->Hp->Prop):VK:=λx H1=>tb Z H1 (tCh2 r r' tc Z x Q)
def Dr (r r':R2) (ta tb tc:TE):TT:=λZ H Q=>ta Z H (tCh1 r r' tb tc Z Q)
theorem uR {a b c:Expr} {op op':CmpOp} {r r':R2} {ta tb tc:TE} (ho:OpR X (compareOp op) r) (ho':OpR X (compareOp op') r') (ha:PE X a ta) (hb:PE X b tb) (hcc:PE X c tc)
  (hm:lastMarks [op,op'] [b,c]=false):PT X (.Compare a [op,op'] [b,c] pos) (Dr r r' ta tb tc):=by
 intro pins s Z H Q I h;refine isTrue_chain (thn (ha pins s Z H _ I h) λu s1 ⟨x,H1,I1,r1,q1⟩=>?_) hm;refine test_link (thn (hb pins s1 Z H1 _ I1 q1) λv s2 ⟨y,H2,I2,r2,q2⟩=>thn (ho pins s2 Z H2 x y u v _ I2 r1 r2 q2) λcv s3 ⟨z,H3,I3,r3,q3⟩=>?_);obtain⟨k,rfl,q3⟩:=q3;cases r3;refine iJ ?_;cases k with
 |false=>exact⟨H3,I3,q3⟩
 |true=>
  refine test_last (thn (hcc pins s3 Z H3 _ I3 q3) λw' s4 ⟨zz,H4,I4,r4,q4⟩=>thn (ho' pins s4 Z H4 y zz v w' _ I4 r2 r4 q4) λcv' s5 ⟨z',H5,I5,r5,q5⟩=>?_);obtain⟨k',rfl,q5⟩:=q5;cases r5;exact iJ ⟨H5,I5,q5⟩
end
end L2
end
section
namespace L2
open PySem PySem.Spec PyProof.Rows
section
def Hy (K:W.Frag):List V->Hp->VK->Prop:=λxs H Q=>∃(x:V) (d:PyData),xs=[x]/\Dt K H x d/\d.showable=true/\d.depth<=60/\d.shown.length<=sizeLine/\Q (.str d.shown) H
theorem jr (hu:X.A.units+64<cLine) (hg:X.A.guards=some []):d_ X (.builtin "repr") (Hy []):=by
 intro pins s Z H xs us Q I r h;obtain⟨x,d,rfl,hd,hs,hz,hl,q⟩:=h;obtain⟨u,rfl,ru⟩:=Vals.one r;obtain⟨as,ra⟩:=Dt.reads I d x u hd ru;have hc:=PyData.hasDict_of_canLay d (Dt.can d x hd);have tick:EP X pins Z Q (.str d.shown s.toks) {s with toks:=s.toks+1}:=⟨.str d.shown,H,I.kept (λ_ _ z=>z),⟨_,rfl⟩,q⟩;cases hd with
 |non=>cases ru;exact P.repr_of_none tick
 |bl b=>cases ru;exact P.repr_of_bool tick
 |int i=>obtain⟨t,rfl⟩:=ru;exact P.repr_of_int (by simpa [PyData.showable] using hs) tick
 |str y hy=>obtain⟨t,rfl⟩:=ru;exact P.repr_of_str tick (hsz:=hl)
 |lst h1 h2=>
  cases ru;exact JG ra hs (Jh hc) hg (by lia) (λ_ _ z=>z) (λh' u tk k=>⟨.str _,H,I.kept k,⟨_,rfl⟩,q⟩) (hsz:=hl)
 |tup h1 h2=>
  cases ru;exact JG ra hs (Jh hc) hg (by lia) (λ_ _ z=>z) (λh' u tk k=>⟨.str _,H,I.kept k,⟨_,rfl⟩,q⟩) (hsz:=hl)
end
end L2
end
section
namespace K15
abbrev Tri:=Nat×Nat×Nat
abbrev Ent:=(Nat×Nat)×Nat
def ents (ts:List Tri):List Ent:=ts.flatMap λt=>[((t.1,t.2.1),t.2.2),((t.2.1,t.2.2),t.1),((t.2.2,t.1),t.2.1)]
theorem dv {ts:List Tri} {a b c:Nat}:((a,b),c)∈ents ts↔(a,b,c)∈ts\/(c,a,b)∈ts\/(b,c,a)∈ts:=by
 unfold ents;rw[iH];constructor
 .rintro⟨⟨x,y,z⟩,ht,h⟩;simp only[af,a8,or_false,bq] at h;rcases h with ⟨⟨rfl,rfl⟩,rfl⟩|⟨⟨rfl,rfl⟩,rfl⟩|⟨⟨rfl,rfl⟩,rfl⟩
  .exact .inl ht
  .exact .inr (.inl ht)
  .exact .inr (.inr ht)
 .rintro (h|h|h)
  .exact⟨_,h,by simp⟩
  .exact⟨_,h,by simp⟩
  .exact⟨_,h,by simp⟩
structure Sk (E:Nat->Nat->Nat->Prop):Prop where
 rot:∀{a b c},E a b c->E b c a
 one:∀{a b c d},E a b c->E a b d->c=d
 ne:∀{a b c},E a b c->a≠b
def En (ts:List Tri) (a b c:Nat):Prop:=((a,b),c)∈ents ts
structure Good (ts:List Tri):Prop where
 ne:∀t∈ts,t.1≠t.2.1/\t.2.1≠t.2.2/\t.2.2≠t.1
 nd:((ents ts).map (·.1)).Nodup
theorem uT {α β:Type} {l:List (α×β)} (h:(l.map (·.1)).Nodup) {a:α} {b c:β} (hb:(a,b)∈l) (hc:(a,c)∈l):b=c:=by
 induction l with
 |nil=>cases hb
 |cons x l ih=>
  rw[aB,aV] at h;rcases af.mp hb with e|hb'
  .rcases af.mp hc with e' | hc'
   .rw[<-e] at e';exact (eP e').2.symm
   .exact (h.1 (aw.mpr ⟨_,hc',by rw[<-e]⟩)).elim
  .rcases af.mp hc with e' | hc'
   .exact (h.1 (aw.mpr ⟨_,hb',by rw[<-e']⟩)).elim
   .exact ih h.2 hb' hc'
theorem n_ {l:List Nat} (h:l.Nodup):∀{i j x:Nat},l[i]?=some x->l[j]?=some x->i=j:=by
 induction l with
 |nil=>intro i j x h1;simp at h1
 |cons a l ih=>
  intro i j x h1 h2;rw[aV] at h;cases i with
  |zero=>
   cases j with
   |zero=>rfl
   |succ j=>
    simp at h1 h2;subst h1;exact (h.1 (a7 h2)).elim
  |succ i=>
   cases j with
   |zero=>
    simp at h1 h2;subst h2;exact (h.1 (a7 h1)).elim
   |succ j=>
    simp at h1 h2;rw[ih h.2 h1 h2]
theorem Good.sk {ts:List Tri} (g:Good ts):Sk (En ts):=by
 refine⟨λ{a b c} h=>?_,λ{a b c d} h1 h2=>uT g.nd h1 h2,λ{a b c} h=>?_⟩
 .unfold En at *;rw[dv] at *;rcases h with h|h|h
  .exact .inr (.inl h)
  .exact .inr (.inr h)
  .exact .inl h
 .unfold En at h;rw[dv] at h;rcases h with h|h|h
  .exact (g.ne _ h).1
  .exact (g.ne _ h).2.1
  .exact (g.ne _ h).2.2
section
variable {E:Nat->Nat->Nat->Prop}
theorem Sk.inj (k:Sk E) {v p p' q:Nat} (h:E v p q) (h':E v p' q):p=p':=k.one (k.rot (k.rot h)) (k.rot (k.rot h'))
structure Fan (E:Nat->Nat->Nat->Prop) (v:Nat) (F:List Nat):Prop where
 ne:F≠[]
 nd:F.Nodup
 ch:∀i p q,F[i]?=some p->F[i+1]?=some q->E v p q
 key:∀p∈F,∃q,E v p q
 clF:∀p∈F,∀q,E v p q->(∃r,E v q r)->q∈F
 clB:∀p∈F,∀o,E v o p->o∈F
def One (E:Nat->Nat->Nat->Prop) (v:Nat):Prop:=∃F,Fan E v F/\∀p,(∃q,E v p q)->p∈F
theorem C_ {v:Nat} {F G:List Nat} (ch:∀i p q,F[i]?=some p->F[i+1]?=some q->E v p q) (key:∀p∈F,∃q,E v p q) (hG:Fan E v G) {x:Nat} (x1:x∈F) (x2:x∈G):∀y∈F,y∈G:=by
 obtain⟨j,hj⟩:=pK x1;have fw:∀(m:Nat) (y:Nat),F[j+m]?=some y->y∈G:=by
  intro m;induction m with
  |zero=>intro y hy;rw[tQ,hj] at hy;cases hy;exact x2
  |succ m ih=>
   intro y hy;have hl:j+m<F.length:=by have:=(aS.mp hy).1;lia
   have h1:F[j+m]?=some F[j+m]:=aX hl;exact hG.clF _ (ih _ h1) y (ch (j+m) _ _ h1 hy) (key y (a7 hy))
 have bw:∀m:Nat,m<=j->∀y:Nat,F[j-m]?=some y->y∈G:=by
  intro m;induction m with
  |zero=>intro _ y hy;rw[zq,hj] at hy;cases hy;exact x2
  |succ m ih=>
   intro hm y hy;have hl:j-m<F.length:=by have:=(aS.mp hj).1;lia
   have h1:F[j-m]?=some F[j-m]:=aX hl;have e:j-(m+1)+1=j-m:=by lia
   exact hG.clB _ (ih (by lia) _ h1) y (ch (j-(m+1)) _ _ hy (by rw[e];exact h1))
 intro y hy;obtain⟨i,hi⟩:=pK hy;by_cases h:j<=i
 .exact fw (i-j) y (by rw[show j+(i-j)=i by lia];exact hi)
 .exact bw (j-i) (by lia) y (by rw[show j-(j-i)=i by lia];exact hi)
theorem CV (k:Sk E) {v:Nat} {fs:List (List Nat)} {left F:List Nat} {x0:Nat} (hfs:∀G∈fs,Fan E v G) (hleft:∀p,(∃q,E v p q)->p∈left\/∃G∈fs,p∈G) (hdis:∀p∈left,∀G∈fs,p∉G)
  (nd:F.Nodup) (key:∀p∈F,∃q,E v p q) (ch:∀i p q,F[i]?=some p->F[i+1]?=some q->E v p q) (x1:x0∈F) (x2:x0∈left)
  (hend:∀p,F.getLast?=some p->∀q,E v p q->q∈left->q∈F) (hbeg:∀p,F.head?=some p->∀o,E v o p->o∈F):Fan E v F/\∀p∈F,∀G∈fs,p∉G:=by
 have dis:∀p∈F,∀G∈fs,p∉G:=λp hp G hG hpG=>hdis x0 x2 G hG (C_ ch key (hfs G hG) hp hpG x0 x1);refine⟨⟨λz=>(by rw[z] at x1;cases x1),nd,ch,key,λp hp q hq hr=>?_,λp hp o ho=>?_⟩,dis⟩
 .obtain⟨i,hi⟩:=pK hp;have hil:=(aS.mp hi).1;by_cases h:i+1<F.length
  .have h1:F[i+1]?=some F[i+1]:=aX h;rw[k.one hq (ch i _ _ hi h1)];exact a7 h1
  .have e:F.getLast?=some p:=by rw[pM,show F.length-1=i by lia];exact hi
   rcases hleft q hr with z|⟨G,hG,hqG⟩
   .exact hend p e q hq z
   .exact (dis p hp G hG ((hfs G hG).clB q hqG p hq)).elim
 .obtain⟨i,hi⟩:=pK hp;cases i with
  |zero=>exact hbeg p (by rw[zc];exact hi) o ho
  |succ i=>
   have hil:=(aS.mp hi).1;have h1:F[i]?=some F[i]:=aX (by lia);rw[k.inj ho (ch i _ _ h1 hi)];exact a7 h1
structure Fans (E:Nat->Nat->Nat->Prop) (v:Nat) (fs:List (List Nat)):Prop where
 fan:∀F∈fs,Fan E v F
 all:∀p,(∃q,E v p q)->∃F∈fs,p∈F
 dis:fs.Pairwise λF G=>∀p∈F,p∉G
def rn (v n:Nat) (F:List Nat) (a b:Nat):Nat:=if a=v/\b∈F then n else a
def ren (v n:Nat) (F:List Nat) (t:Tri):Tri:=(rn v n F t.1 t.2.1,rn v n F t.2.1 t.2.2,rn v n F t.2.2 t.1)
def Rn (E:Nat->Nat->Nat->Prop) (v n:Nat) (F:List Nat) (x y z:Nat):Prop:=∃a b c,E a b c/\x=rn v n F a b/\y=rn v n F b c/\z=rn v n F c a
theorem F8 {ts:List Tri} {v n:Nat} {F:List Nat} {x y z:Nat}:En (ts.map (ren v n F)) x y z↔Rn (En ts) v n F x y z:=by
 unfold En Rn;rw[dv];constructor
 .intro h;have key:∀p q r,(p,q,r)∈ts.map (ren v n F)->∃a b c,(a,b,c)∈ts/\p=rn v n F a b/\q=rn v n F b c/\r=rn v n F c a:=by
   intro p q r hp;obtain⟨⟨a,b,c⟩,ht,e⟩:=aw.mp hp;unfold ren at e;simp only[bq] at e;exact⟨a,b,c,ht,e.1.symm,e.2.1.symm,e.2.2.symm⟩
  rcases h with h|h|h
  .obtain⟨a,b,c,ht,e1,e2,e3⟩:=key _ _ _ h;exact⟨a,b,c,dv.mpr (.inl ht),e1,e2,e3⟩
  .obtain⟨a,b,c,ht,e1,e2,e3⟩:=key _ _ _ h;exact⟨b,c,a,dv.mpr (.inr (.inl ht)),e2,e3,e1⟩
  .obtain⟨a,b,c,ht,e1,e2,e3⟩:=key _ _ _ h;exact⟨c,a,b,dv.mpr (.inr (.inr ht)),e3,e1,e2⟩
 .rintro⟨a,b,c,h,rfl,rfl,rfl⟩;rcases dv.mp h with h|h|h
  .exact .inl (aw.mpr ⟨_,h,rfl⟩)
  .exact .inr (.inl (aw.mpr ⟨_,h,rfl⟩))
  .exact .inr (.inr (aw.mpr ⟨_,h,rfl⟩))
theorem fN {v n:Nat} {F:List Nat} {a b:Nat} (h:a≠v):rn v n F a b=a:=by unfold rn;rw[K2 λz=>h z.1]
theorem oX {v n:Nat} {F:List Nat} {b:Nat} (h:b∈F):rn v n F v b=n:=by unfold rn;rw[K3 ⟨rfl,h⟩]
theorem rK {v n:Nat} {F:List Nat} {b:Nat} (h:b∉F):rn v n F v b=v:=by unfold rn;rw[K2 λz=>h z.2]
section
variable {v n:Nat} {F:List Nat}
theorem gW {a b:Nat} (ha:a≠n) (h:rn v n F a b=n):a=v/\b∈F:=by
 unfold rn at h
 split at h
 .assumption
 .exact (ha h).elim
theorem fR {a b:Nat} (h:rn v n F a b≠n):rn v n F a b=a:=by
 unfold rn at h |-
 split
 .rename_i z;rw[K3 z] at h;exact (h rfl).elim
 .rfl
variable (k:Sk E) (fr:∀a b c,E a b c->a≠n) (hF:Fan E v F)
include k fr
theorem lK {p q:Nat}:Rn E v n F n p q↔E v p q/\p∈F:=by
 constructor
 .rintro⟨a,b,c,h,e1,rfl,rfl⟩;obtain⟨rfl,hb⟩:=gW (fr _ _ _ h) e1.symm;rw[fN (aF (k.ne h)),fN (k.ne (k.rot (k.rot h)))];exact⟨h,hb⟩
 .rintro⟨h,hp⟩;exact⟨v,p,q,h,(oX hp).symm,(fN (aF (k.ne h))).symm,(fN (k.ne (k.rot (k.rot h)))).symm⟩
theorem jB (hv:v≠n) {p q:Nat}:Rn E v n F v p q↔E v p q/\p∉F:=by
 constructor
 .rintro⟨a,b,c,h,e1,rfl,rfl⟩;have:a=v:=by
   have e2:=fR (v:=v) (n:=n) (F:=F) (a:=a) (b:=b) (by rw[<-e1];exact hv);rw[e1,e2]
  subst this;have hb:b∉F:=λz=>by rw[oX z] at e1;exact hv e1
  rw[fN (aF (k.ne h)),fN (k.ne (k.rot (k.rot h)))];exact⟨h,hb⟩
 .rintro⟨h,hp⟩;exact⟨v,p,q,h,(rK hp).symm,(fN (aF (k.ne h))).symm,(fN (k.ne (k.rot (k.rot h)))).symm⟩
theorem Hl:Sk (Rn E v n F):=by
 refine⟨?_,?_,?_⟩
 .rintro x y z ⟨a,b,c,h,e1,e2,e3⟩;exact⟨b,c,a,k.rot h,e2,e3,e1⟩
 .rintro x y z z' ⟨a,b,c,h,e1,e2,e3⟩ ⟨a',b',c',h',e1',e2',e3'⟩;have fa:a≠n:=fr _ _ _ h;have fa':a'≠n:=fr _ _ _ h';have fb:b≠n:=fr _ _ _ (k.rot h);have fb':b'≠n:=fr _ _ _ (k.rot h');have ea:a=a':=by
   by_cases hx:x=n
   .rw[(gW fa (e1.symm.trans hx)).1,(gW fa' (e1'.symm.trans hx)).1]
   .rw[<-fR (v:=v) (n:=n) (F:=F) (a:=a) (b:=b) (by rw[<-e1];exact hx),<-fR (v:=v) (n:=n) (F:=F) (a:=a') (b:=b') (by rw[<-e1'];exact hx),<-e1,<-e1']
  have eb:b=b':=by
   by_cases hy:y=n
   .rw[(gW fb (e2.symm.trans hy)).1,(gW fb' (e2'.symm.trans hy)).1]
   .rw[<-fR (v:=v) (n:=n) (F:=F) (a:=b) (b:=c) (by rw[<-e2];exact hy),<-fR (v:=v) (n:=n) (F:=F) (a:=b') (b:=c') (by rw[<-e2'];exact hy),<-e2,<-e2']
  subst ea eb;rw[e3,e3',k.one h h']
 .rintro x y z ⟨a,b,c,h,rfl,rfl,_⟩;have fa:a≠n:=fr _ _ _ h;have fb:b≠n:=fr _ _ _ (k.rot h);have nab:=k.ne h;intro e;by_cases hx:rn v n F a b=n
  .have h1:=(gW fa hx).1;have h2:=(gW fb (e.symm.trans hx)).1;exact nab (h1.trans h2.symm)
  .have h1:=fR hx;have h2:=fR (v:=v) (n:=n) (F:=F) (a:=b) (b:=c) (by rw[<-e];exact hx);exact nab (by rw[<-h1,e,h2])
include hF
theorem Cp:One (Rn E v n F) n:=by
 refine⟨F,⟨hF.ne,hF.nd,λi p q hp hq=>(lK k fr).mpr ⟨hF.ch i p q hp hq,a7 hp⟩,λp hp=>?_,λp hp q hq hr=>?_,λp hp o ho=>((lK k fr).mp ho).2⟩,λp ⟨q,hq⟩=>((lK k fr).mp hq).2⟩
 .obtain⟨q,hq⟩:=hF.key p hp;exact⟨q,(lK k fr).mpr ⟨hq,hp⟩⟩
 .obtain⟨r,hr⟩:=hr;exact ((lK k fr).mp hr).2
omit hF in
theorem CU (hv:v≠n) {G:List Nat} (hG:Fan E v G) (hd:∀p∈F,p∉G):Fan (Rn E v n F) v G:=by
 have out:∀p∈G,p∉F:=λp hp z=>hd p z hp;refine⟨hG.ne,hG.nd,λi p q hp hq=>(jB k fr hv).mpr ⟨hG.ch i p q hp hq,out p (a7 hp)⟩,λp hp=>?_,λp hp q hq hr=>?_,λp hp o ho=>hG.clB p hp o ((jB k fr hv).mp ho).1⟩
 .obtain⟨q,hq⟩:=hG.key p hp;exact⟨q,(jB k fr hv).mpr ⟨hq,out p hp⟩⟩
 .obtain⟨r,hr⟩:=hr;exact hG.clF p hp q ((jB k fr hv).mp hq).1 ⟨r,((jB k fr hv).mp hr).1⟩
theorem Bm (hv:v≠n) {u:Nat} (huv:u≠v) (hun:u≠n) (h:One E u):One (Rn E v n F) u:=by
 obtain⟨G,hG,hall⟩:=h
 let cond:Prop:=(∃q∈F,E u v q)\/((∃p,E u p v)/\u∈F)
 have dec:=Classical.propDecidable cond
 let ρ:Nat->Nat:=λx=>if x=v then (if cond then n else v) else x
 have ρo:∀x,x≠v->ρ x=x:=λx hx=>K2 hx;have ρv:ρ v=if cond then n else v:=K3 rfl
 have rp:∀p q,E u p q->rn v n F p q=ρ p:=by
  intro p q h;by_cases hp:p=v
  .subst hp;by_cases hq:q∈F
   .rw[oX hq,ρv,K3 (.inl ⟨q,hq,h⟩)]
   .rw[rK hq,ρv,K2];rintro (⟨q',hq',h'⟩|⟨⟨p',hp'⟩,huF⟩)
    .exact hq (by rw[k.one h h'];exact hq')
    .exact hq (hF.clB u huF q (k.rot h))
  .rw[fN hp,ρo p hp]
 have rq:∀p q,E u p q->rn v n F q u=ρ q:=by
  intro p q h;by_cases hq:q=v
  .subst hq;by_cases hu:u∈F
   .rw[oX hu,ρv,K3 (.inr ⟨⟨p,h⟩,hu⟩)]
   .rw[rK hu,ρv,K2];rintro (⟨q',hq',h'⟩|⟨_,huF⟩)
    .exact hu (hF.clF q' hq' u (k.rot h') ⟨p,k.rot (k.rot h)⟩)
    .exact hu huF
  .rw[fN hq,ρo q hq]
 have ru:∀b,rn v n F u b=u:=λb=>fN huv;have to:∀p q,E u p q->Rn E v n F u (ρ p) (ρ q):=λp q h=>⟨u,p,q,h,(ru p).symm,(rp p q h).symm,(rq p q h).symm⟩;have back:∀x y,Rn E v n F u x y->∃p q,E u p q/\x=ρ p/\y=ρ q:=by
  rintro x y ⟨a,b,c,h,e1,e2,e3⟩;have ha:a=u:=by
   by_cases hx:rn v n F a b=n
   .exact (hun (e1.trans hx)).elim
   .rw[e1,fR hx]
  subst ha;exact⟨b,c,h,e2.trans (rp b c h),e3.trans (rq b c h)⟩
 have fresh:∀p q,E u p q->p≠n/\q≠n:=λp q h=>⟨fr _ _ _ (k.rot h),fr _ _ _ (k.rot (k.rot h))⟩;have inj:∀x y,x≠n->y≠n->ρ x=ρ y->x=y:=by
  intro x y hx hy e;by_cases h1:x=v
  .by_cases h2:y=v
   .rw[h1,h2]
   .rw[h1,ρo y h2,ρv] at e
    split at e
    .exact (hy e.symm).elim
    .exact (h2 e.symm).elim
  .by_cases h2:y=v
   .rw[h2,ρo x h1,ρv] at e
    split at e
    .exact (hx e).elim
    .exact (h1 e).elim
   .rw[ρo x h1,ρo y h2] at e;exact e
 have gn:∀x∈G,x≠n:=λx hx=>by
  obtain⟨q,hq⟩:=hG.key x hx;exact (fresh x q hq).1
 have gm:∀x,x≠n->ρ x∈G.map ρ->x∈G:=λx hx h=>by
  obtain⟨y,hy,e⟩:=aw.mp h;rw[<-inj y x (gn y hy) hx e];exact hy
 have get:∀(i:Nat) (x:Nat),(G.map ρ)[i]?=some x->∃p,G[i]?=some p/\x=ρ p:=λi x h=>by
  rw[c7] at h;cases e:G[i]? with
  |none=>rw[e] at h;cases h
  |some p=>rw[e] at h;cases h;exact⟨p,rfl,rfl⟩
 refine⟨G.map ρ,⟨by simpa using hG.ne,?_,λi p q hp hq=>?_,λp hp=>?_,λx hx y hy hr=>?_,λx hx y hy=>?_⟩,?_⟩
 .have:∀l:List Nat,(∀x∈l,x≠n)->l.Nodup->(l.map ρ).Nodup:=by
   intro l;induction l with
   |nil=>intro _ _;exact j7
   |cons a l ih=>
    intro h1 h2;rw[aV] at h2;rw[aB,aV];refine⟨λz=>?_,ih (λx hx=>h1 x (aY _ hx)) h2.2⟩;obtain⟨y,hy,e⟩:=aw.mp z;have:=inj y a (h1 y (aY _ hy)) (h1 a (by simp)) e;exact h2.1 (this ▸ hy)
  exact this G gn hG.nd
 .obtain⟨p',hp',rfl⟩:=get i p hp;obtain⟨q',hq',rfl⟩:=get (i+1) q hq;exact to p' q' (hG.ch i p' q' hp' hq')
 .obtain⟨p',hp',rfl⟩:=aw.mp hp;obtain⟨q,hq⟩:=hG.key p' hp';exact⟨_,to p' q hq⟩
 .obtain⟨p',hp',rfl⟩:=aw.mp hx;obtain⟨p,q,h1,e1,rfl⟩:=back _ _ hy;have ep:=inj p' p (gn p' hp') (fresh p q h1).1 e1;subst ep;obtain⟨r,hr⟩:=hr;obtain⟨p2,q2,h2,e2,_⟩:=back _ _ hr;have eq:=inj q p2 (fresh p' q h1).2 (fresh p2 q2 h2).1 e2;subst eq;exact aw.mpr ⟨q,hG.clF p' hp' q h1 ⟨q2,h2⟩,rfl⟩
 .obtain⟨p',hp',rfl⟩:=aw.mp hx;obtain⟨p,q,h1,rfl,e1⟩:=back _ _ hy;have eq:=inj p' q (gn p' hp') (fresh p q h1).2 e1;subst eq;exact aw.mpr ⟨p,hG.clB p' hp' p h1,rfl⟩
 .rintro x ⟨y,hy⟩;obtain⟨p,q,h1,rfl,_⟩:=back _ _ hy;exact aw.mpr ⟨p,hall p ⟨q,h1⟩,rfl⟩
end
end
end K15
end
section
namespace K31
open PySem L2 K51
theorem same_of {H H1:Hp} {p:Addr} {o:HO} (g:H p=none) (e:upd H p o=H1):Same H H1:=by rw[<-e];exact dD g
theorem at_of {H H1:Hp} {p:Addr} {o:HO} (e:upd H p o=H1):H1 p=some o:=by rw[<-e];exact cx
def nV (l:List Nat):List V:=l.map λn:Nat=>V.int (n:Int)
def j4 (H:Hp) (v:V) (l:List Nat):Prop:=∃a,v=.ref a/\H a=some (.lst (nV l))
abbrev eI (H:Hp):List V->Lps->Prop:=Paired (j4 H)
def mY (H:Hp) (v:V) (t:Nat×Nat×Nat):Prop:=∃a,v=.ref a/\H a=some (.tup [.int (t.1:Int),.int (t.2.1:Int),.int (t.2.2:Int)])
abbrev bh (H:Hp):List V->List (Nat×Nat×Nat)->Prop:=Paired (mY H)
theorem j4.same {v:V} {l:List Nat} (s:Same H H') (h:j4 H v l):j4 H' v l:=by obtain⟨a,e,h⟩:=h;exact⟨a,e,s a _ h⟩
theorem eI.same {ls:Lps} (s:Same H H') (h:eI H vs ls):eI H' vs ls:=Paired.imp' (λ_ _ q=>q.same s) h
theorem mY.same {v:V} {t:Nat×Nat×Nat} (s:Same H H') (h:mY H v t):mY H' v t:=by obtain⟨a,e,h⟩:=h;exact⟨a,e,s a _ h⟩
theorem bh.same {ls:List (Nat×Nat×Nat)} (s:Same H H') (h:bh H vs ls):bh H' vs ls:=Paired.imp' (λ_ _ q=>q.same s) h
section
variable {α β:Type} {F:α->β->Prop}
theorem aU:∀{xs:List α} {ys:List β},Paired F xs ys->xs.length=ys.length
 |_,_,.nil=>rfl
 |_,_,.cons _ t=>by rw[aZ,aZ,aU t]
theorem cX:∀{xs:List α} {ys:List β} {xs':List α} {ys':List β},Paired F xs ys->Paired F xs' ys'->Paired F (xs++xs') (ys++ys')
 |_,_,_,_,.nil,h=>h
 |_,_,_,_,.cons a t,h=>.cons a (cX t h)
theorem pr_take:∀{xs:List α} {ys:List β} (k:Nat),Paired F xs ys->Paired F (xs.take k) (ys.take k)
 |_,_,0,_=>by simp only[pW];exact .nil
 |_,_,_+1,.nil=>by simp only[List.take_nil];exact .nil
 |_,_,k+1,.cons a t=>.cons a (pr_take k t)
theorem pr_drop:∀{xs:List α} {ys:List β} (k:Nat),Paired F xs ys->Paired F (xs.drop k) (ys.drop k)
 |_,_,0,h=>h
 |_,_,_+1,.nil=>by simp only[List.drop_nil];exact .nil
 |_,_,k+1,.cons a t=>pr_drop k t
theorem jN:∀{xs:List α} {ys:List β} {i:Nat} {y:β},Paired F xs ys->ys[i]?=some y->∃x,xs[i]?=some x/\F x y
 |_,_,_,_,.nil,h=>by simp at h
 |_,_,0,_,.cons a t,h=>by
  simp at h;subst h;exact⟨_,rfl,a⟩
 |_,_,i+1,_,.cons a t,h=>by simpa using jN (i:=i) t (by simpa using h)
theorem dG:∀{xs:List α} {ys:List β} {i:Nat} {x:α},Paired F xs ys->xs[i]?=some x->∃y,ys[i]?=some y/\F x y
 |_,_,_,_,.nil,h=>by simp at h
 |_,_,0,_,.cons a t,h=>by
  simp at h;subst h;exact⟨_,rfl,a⟩
 |_,_,i+1,_,.cons a t,h=>by simpa using dG (i:=i) t (by simpa using h)
theorem jC {xs:List α} {ys:List β} {y:β} (h:Paired F xs (ys++[y])):∃xs' x,xs=xs'++[x]/\Paired F xs' ys/\F x y:=by
 have hl:=aU h;rw[ar] at hl;have h1:=pr_take ys.length h;have h2:=pr_drop ys.length h;rw[List.take_left] at h1;rw[List.drop_left] at h2;cases e:xs.drop ys.length with
 |nil=>rw[e] at h2;cases h2
 |cons x r=>
  rw[e] at h2;cases h2 with
  |cons a t=>
   cases t;exact⟨xs.take ys.length,x,by rw[<-e,fc],h1,a⟩
end
theorem bO (l:List Nat):(nV l).length=l.length:=aQ ..
theorem gP (l r:List Nat):nV l++nV r=nV (l++r):=(bI ..).symm
theorem oO (n:Nat):[V.int (n:Int)]=nV [n]:=rfl
theorem dY {l:List Nat} {i n:Nat} (h:l[i]?=some n):(nV l)[i]?=some (.int (n:Int)):=by unfold nV;rw[c7,h];rfl
theorem sr (l:List Nat) (i:Int) (k:Nat) (h:i=(k:Int)):dP (nV l) none (some i)=nV (l.take k):=by show fC (nV l) none (some i)=_;rw[h,rS];exact (pR ..).symm
theorem Et (l:List Nat) (i:Int) (k:Nat) (h:i=(k:Int)):dP (nV l) (some i) none=nV (l.drop k):=by show fC (nV l) (some i) none=_;rw[h,om];exact (zd ..).symm
theorem E7 (n d:Nat):HT.sIx n d (some (-1))=n-1:=by unfold HT.sIx;dsimp only;rw[K3 (by decide)];lia
theorem wr_of {H H1:Hp} {p:Addr} {o:HO} (e:upd H p o=H1):∀b,b≠p->H1 b=H b:=λb hb=>by rw[<-e,bz hb]
def ky (p q:Nat):List Key:=[Sum.inl (p:Int),Sum.inl (q:Int)]
theorem oQ {p q p' q':Nat}:ky p q=ky p' q'↔(p,q)=(p',q'):=by
 unfold ky;constructor
 .intro h;injection h with h1 h2;injection h2 with h2 _;injection h1 with h1;injection h2 with h2;have:p=p':=by lia
  have:q=q':=by lia
  simp[*]
 .intro h;injection h with h1 h2;rw[h1,h2]
def Keys (kvs:List (List Key×V)) (W:Side->Bool):Prop:=∀p q:Nat,(valV kvs (ky p q)).isSome=W (p,q)
def SdAt (H:Hp) (v:V) (s:Side):Prop:=∃a,v=.ref a/\H a=some (.tup ((ky s.1 s.2).map kV))
abbrev SdsAt (H:Hp):List V->List Side->Prop:=Paired (SdAt H)
theorem bh.move {ys:List V} {ls:List (Nat×Nat×Nat)} (h:bh H ys ls) (e:∀b o,V.ref b∈ys->H b=some o->H' b=some o):bh H' ys ls:=by
 induction h with
 |nil=>exact .nil
 | @cons a1 b1 a2 b2 h t ih=>
  obtain⟨b,e1,e2⟩:=h;exact .cons ⟨b,e1,e b _ (by rw[e1];simp) e2⟩ (ih λb o hb=>e b o (aY _ hb))
theorem qV:Same H H:=λ_ _ z=>z
theorem lit1:1<=sizeLine:=by show 1<=sizeLine;decide
theorem lit2:2<=sizeLine:=by show 2<=sizeLine;decide
theorem lit3:3<=sizeLine:=by show 3<=sizeLine;decide
theorem eR {N:List Str} {fr:List (Option Nat)} (nd:N.Nodup) (len:fr.length=N.length) (kind:scope.kind=.function) (nc:scope.names.all (λy=>y.2 != .cell)=true)
  (nm:scope.names.all (λy=>y.2 != .local||scope.names.lookup y.1==some .local)=true)
  (frc:∀y∈scope.names,y.2=.free->X.env.kindOf y.1=some .cell\/X.env.kindOf y.1=some .free)
  (frn:∀(j i:Nat) (x:Str),fr[j]?=some (some i)->N[j]?=some x->X.N[i]?=some x/\scope.names.lookup x=some .free):f_ X N fr scope:=by
 refine⟨nd,len,kind,λy hy=>?_,λy hy e=>?_,frc,frn⟩
 .have:=iB.mp nc y hy;simpa using this
 .have:=iB.mp nm y hy;rw[e] at this;simpa using this
end K31
end
local macro_rules | `(tactic| walk_at $s:str) => let i := fun (x : String) => Lean.mkIdent (Lean.Name.mkSimple x); match s.getString.splitOn " " with | [h, p, g, h1, t, y] => `(tactic| (generalize hq : L2.upd $(i h) $(i p) _ = $(i h1); have $(i t) := K31.same_of $(i g) hq; have $(i y) := K31.at_of hq; clear hq)) | [h, p, h1, k, y] => `(tactic| (generalize hq : L2.upd $(i h) $(i p) _ = $(i h1); have $(i k) := K31.wr_of hq; have $(i y) := K31.at_of hq; clear hq)) | ["cs"] => `(tactic| ((intro y hy e; simp only [List.mem_cons, List.not_mem_nil, or_false] at hy; repeat' first | subst hy | rcases hy with hy | hy) <;> first | (cases e; done) | exact .inl rfl | exact .inr rfl)) | ["ct"] => `(tactic| (intro j i y e1 e2; rcases j with _ | _ | _ | _ | _ | _ | j <;> first | (simp at e1; done) | (simp at e1 e2; subst e1 e2; exact ⟨rfl, rfl⟩))) | ["sc"] => `(tactic| exact ⟨rfl, rfl, rfl, by decide +kernel, rfl, by decide +kernel, by decide +kernel⟩) | _ => Lean.Macro.throwUnsupported
section
namespace K51
open PySem L2
def mixed (ns:List Int) (k:Int):Int:=(ns.take 40).foldl (λs c=>(s*48271+c)%2147483647) (7+1009*k)
def jQ (ns:List Int) (k:Int):Int:=if k<(ns.length:Int) then ns.getD k.toNat 0 else 0
def rY (ns:List Int) (k:Int):Int×Int:=(if jQ ns k<1000000000000000000 then 0 else jQ ns k,mixed ns k)
def refill (p:Int×Int):Int×Int:=if p.1=0 then (((p.2*16807+11)%2147483647)*((p.2*16807+11)%2147483647)%2147483629,(p.2*16807+11)%2147483647) else p
def digO (p:Int×Int) (b:Int):Int:=(refill p).1%b
def nxt (p:Int×Int) (b:Int):Int×Int:=((refill p).1/b,(refill p).2)
def cG (p:Int×Int):List V:=[.int p.1,.int p.2]
def cY (p:Int×Int):Prop:=-(2 ^ 60)<p.2/\p.2<2 ^ 60
theorem Bj {p:Int×Int} (h:cY p):cY (refill p):=by
 unfold refill
 split
 .have:=Int.emod_lt_of_pos (p.2*16807+11) (show (0:Int)<2147483647 by decide);have:=Int.emod_nonneg (p.2*16807+11) (show (2147483647:Int)≠0 by decide);unfold cY;constructor<;>(show _<_;lia)
 .exact h
theorem fm {p:Int×Int} {b:Int} (h:cY p):cY (nxt p b):=Bj h
theorem CI (ns:List Int) {k:Int} (h0:0<=k) (h1:k<1000):-(2 ^ 60)<mixed ns k/\mixed ns k<2 ^ 60:=by
 unfold mixed;have:∀(l:List Int) (s:Int),(-(2 ^ 60)<s/\s<2 ^ 60)->(-(2 ^ 60)<l.foldl (λs c=>(s*48271+c)%2147483647) s/\l.foldl (λs c=>(s*48271+c)%2147483647) s<2 ^ 60):=by
  intro l;induction l with
  |nil=>intro s h;exact h
  |cons c r ih=>
   intro s h;rw[za];refine ih _ ?_;have:=Int.emod_lt_of_pos (s*48271+c) (show (0:Int)<2147483647 by decide);have:=Int.emod_nonneg (s*48271+c) (show (2147483647:Int)≠0 by decide);constructor<;>lia
 exact this _ _ (by constructor<;>lia)
theorem Cm:OpR X (binaryOp .FloorDiv) (rI (λ_ j=>0<j/\j.natAbs.log2<9000) λi j=>.int (i/j)):=opI λi j _ _ _ _ _ hc q=>by
 have e:i.fdiv j=i/j:=by rw[Int.fdiv_eq_ediv_of_nonneg _ (Int.le_of_lt hc.1)]
 rw[<-e] at q;exact Kb (by lia) q (.inl (PyProof.noPylong_of_log2 hc.2))
def Hj (K:W.Frag) (vs:List V) (H:Hp) (Q:VK) (a:Addr) (ns:List Int) (k:Int):Prop:=vs=[.ref a,.int k]/\SqL [] H a (ns.map V.int)/\0<=k/\Q (.int (jQ ns k)) H
def spAt (K:W.Frag):Sp:=λvs H Q _=>Exists (Ex3 (Hj K vs H Q))
def E1 (K:W.Frag) (vs:List V) (H:Hp) (Q:VK) (a:Addr) (ns:List Int) (k:Int):Prop:=vs=[.ref a,.int k]/\SqL [] H a (ns.map V.int)/\0<=k/\k<1000/\
 ∀(p:Addr) (H':Hp),H p=none->Same H H'->H' p=some (.lst (cG (rY ns k)))->Q (.ref p) H'
def xY (K:W.Frag):Sp:=λvs H Q _=>Exists (Ex3 (E1 K vs H Q))
def B4 (vs:List V) (H:Hp) (Q:VK) (p:Addr) (q:Int×Int) (b:Int):Prop:=vs=[.ref p,.int b]/\H p=some (.lst (cG q))/\cY q/\0<b/\b.natAbs.log2<9000/\WrO H p (.lst (cG (nxt q b))) (Q (.int (digO q b)))
def lr:Sp:=λvs H Q _=>Exists (Ex3 (B4 vs H Q))
section
theorem scAt:bS ["_law_script","_law_k"] ["_law_script","_law_k"] (bu sAt):=by walk_at"sc"
theorem HN {f:Addr} (U:Fun K "_law_at" "_law_at" sAt f fd) (T:di mg):FnOk P w K mg base CX0 1 f fd ["_law_script","_law_k"] (spAt K):=by
 refine U.ok scAt (λvs H Q E h=>?_) (λcdv A outer s H vs Q E hr h=>?_)
 .obtain⟨a,ns,k,rfl,_⟩:=h;rfl
 .obtain⟨a,ns,k,rfl,hS,h0,q⟩:=h;refine⟨_,ak (bL (aL fW (pv 1) (a9 cu (by rfl) T.len cF (aa (pv 0) ae)) (nomark _)) (au (bj (aq aI (pv 0) (pv 1) (λ_ _=>rfl)))) bJ) (au (bj ag)),?_⟩;refine⟨_,rfl,_,rfl,a,_,rfl,.inl hS,_,_,rfl,rfl,_,rfl,?_⟩;unfold jQ at q;rw[aQ];refine ite2 (λc=>?_) (λc=>?_)
  .have c:k<(ns.length:Int):=K6 c;rw[K3 c] at q;have hk:k.toNat<ns.length:=by lia
   refine⟨_,rfl,_,rfl,a,_,k,.int (ns.getD k.toNat 0),rfl,rfl,hS,?_,q⟩;have e:((k.toNat:Nat):Int)=k:=by lia
   rw[<-e];refine cA ?_;have e2:ns[k.toNat]?=some (ns.getD k.toNat 0):=by simp[List.getD,hk]
   rw[c7,e2];rfl
  .have c:¬k<(ns.length:Int):=λz=>c (K4 z);rw[K2 c] at q;exact q
theorem wx:bS ["_law_pot_here","_law_base","_law_digit_here"] ["_law_pot_here","_law_base"] (bu me):=by walk_at"sc"
theorem CC {f:Addr} (U:Fun K "_law_digit" "_law_digit" me f fd):FnOk P w K mg base CX0 1 f fd ["_law_pot_here","_law_base"] lr:=by
 refine U.ok wx (λvs H Q E h=>?_) (λcdv A outer s H vs Q E hr h=>?_)
 .obtain⟨p,q,b,rfl,_⟩:=h;rfl
 .obtain⟨p,⟨n,z⟩,b,rfl,hp,hok,hb0,hb1,q⟩:=h;refine⟨_,ak (bL (aL du (aq aI (pv 0) ag (λ_ _=>rfl)) ag (nomark _))
    (ak (eV (aD gr (aD cb (aD jO (aq aI (pv 0) ag (λ_ _=>rfl)) ag) ag) ag) (oM (pv 0) ag og))
     (au (eV (aD gr (aD jO (aq aI (pv 0) ag (λ_ _=>rfl)) (aq aI (pv 0) ag (λ_ _=>rfl))) ag) (oM (pv 0) ag og)))) bJ)
   (ak (aA (i:=2) wx.nd rfl (.inl rfl) (aD gr (aq aI (pv 0) ag (λ_ _=>rfl)) (pv 1)))
   (ak (eV (aD Cm (aq aI (pv 0) ag (λ_ _=>rfl)) (pv 1)) (oM (pv 0) ag og))
   (au (bj (pv 2))))),?_⟩
  have a0:∀(x y:Int),atI [V.int x,V.int y] 0=some (V.int x):=λ_ _=>rfl;have a1:∀(x y:Int),atI [V.int x,V.int y] 1=some (V.int y):=λ_ _=>rfl;have b0:∀(x y:V),ixN [x,y].length 0=some 0:=λ_ _=>rfl;have b1:∀(x y:V),ixN [x,y].length 1=some 1:=λ_ _=>rfl;have hz1:=hok.1;have hz2:=hok.2;refine⟨_,rfl,p,_,0,_,rfl,rfl,SqL.of hp,a0 _ _,rfl,_,rfl,?_⟩;have hz1:-(2 ^ 60)<z:=hz1;have hz2:z<2 ^ 60:=hz2;refine ite2 (λc=>?_) (λc=>?_)
  .have c:n=0:=by
    have:=K6 c;injection this
   have m1:=Int.emod_lt_of_pos (z*16807+11) (show (0:Int)<2147483647 by decide);have m2:=Int.emod_nonneg (z*16807+11) (show (2147483647:Int)≠0 by decide);refine⟨_,rfl,p,_,1,_,rfl,rfl,SqL.of hp,a1 _ _,_,_,rfl,rfl,.inl ⟨by lia,by lia⟩,_,_,rfl,rfl,_,_,rfl,rfl,(show (0:Int)<2147483647 by decide),_,rfl,p,_,_,_,rfl,rfl,hp,b1 _ _,λH1 k1 u1=>?_⟩;refine⟨_,rfl,p,_,1,_,rfl,rfl,SqL.of u1,a1 _ _,_,rfl,p,_,1,_,rfl,rfl,SqL.of u1,a1 _ _,_,_,rfl,rfl,.inl ⟨by lia,by lia⟩,_,_,rfl,rfl,(show (0:Int)<2147483629 by decide),_,rfl,p,_,_,_,rfl,rfl,u1,b0 _ _,λH2 k2 u2=>?_⟩;refine⟨_,rfl,p,_,0,_,rfl,rfl,SqL.of u2,a0 _ _,_,rfl,_,_,rfl,rfl,hb0,?_⟩;refine⟨_,rfl,p,_,0,_,rfl,rfl,SqL.of u2,a0 _ _,_,rfl,_,_,rfl,rfl,⟨hb0,hb1⟩,_,rfl,p,_,_,_,rfl,rfl,u2,b0 _ _,λH3 k3 u3=>?_⟩;refine⟨_,rfl,?_⟩;have e:refill (n,z)=((z*16807+11)%2147483647*((z*16807+11)%2147483647)%2147483629,(z*16807+11)%2147483647):=by unfold refill;rw[K3 c]
   unfold digO nxt cG at q;rw[e] at q;exact q H3 (λb h=>(k3 b h).trans ((k2 b h).trans (k1 b h))) u3
  .have c:¬n=0:=λy=>c (by rw[y];exact K4 rfl);refine⟨_,rfl,p,_,0,_,rfl,rfl,SqL.of hp,a0 _ _,_,rfl,_,_,rfl,rfl,hb0,?_⟩;refine⟨_,rfl,p,_,0,_,rfl,rfl,SqL.of hp,a0 _ _,_,rfl,_,_,rfl,rfl,⟨hb0,hb1⟩,_,rfl,p,_,_,_,rfl,rfl,hp,b0 _ _,λH3 k3 u3=>?_⟩;refine⟨_,rfl,?_⟩;have e:refill (n,z)=(n,z):=by
    unfold refill;rw[K2 c]
   unfold digO nxt cG at q;rw[e] at q;exact q H3 k3 u3
theorem jT:bS ["_law_script","_law_k","_law_seed","_law_cell","_law_number"] ["_law_script","_law_k"] (bu mU):=by walk_at"sc"
theorem BP (ns:List Int):dP (ns.map V.int) none (some 40)=(ns.take 40).map V.int:=by
 unfold dP;have e1:HT.sIx (ns.map V.int).length 0 none=0:=rfl;have e2:HT.sIx (ns.map V.int).length (ns.map V.int).length (some 40)=min 40 ns.length:=by rw[aQ];have:=HT.sIx_nat ns.length ns.length 40;simpa using this
 rw[e1,e2,m7,<-pR,zq]
 congr 1
 rw[List.take_eq_take_iff];lia
theorem Fx {f fA:Addr} {fd fdA:FuncData} (U:Fun K "_law_pot" "_law_pot" mU f fd) (UA:Fun K "_law_at" "_law_at" sAt fA fdA) (bA:Binds K fdA ["_law_script","_law_k"] []) (mA:mg "_law_at" = some (.ref fA)) (kA:W.keepIn K (.ref fA)=true) (T:di mg) :
  FnOk P w K mg base CX0 2 f fd ["_law_script","_law_k"] (xY K):=by
 have GA:FnOk P w K mg base CX0 1 fA fdA ["_law_script","_law_k"] (spAt K):=HN UA T;refine U.ok jT (λvs H Q E h=>?_) (λcdv A outer s H vs Q E hr h=>?_)
 .obtain⟨a,ns,k,rfl,_⟩:=h;rfl
 .obtain⟨a,ns,k,rfl,hS,h0,h1,q⟩:=h;refine⟨_,ak (aA (i:=2) jT.nd rfl (.inl rfl) (aD cb ag (aD jO ag (pv 1))))
   (ak (dh cD rfl (dr (cS cT (pv 0) dq (ck ag))) (aK (i:=3) jT.nd rfl (.inl rfl))
    (au (aA (i:=2) jT.nd rfl (.inl rfl) (aD gr (aD cb (aD jO (pv 2) ag) (pv 3)) ag))))
   (ak (aA (i:=4) jT.nd rfl (.inl rfl) (aP GA hr rfl mA kA bA .nil pass0 (aa (pv 0) (aa (pv 1) ae))))
   (ak (bL (aL fW (pv 4) (aD Fu ag ag) (nomark _)) (au (aA (i:=4) jT.nd rfl (.inl rfl) ag)) bJ)
   (au (bj (br (aa (pv 4) (aa (pv 2) ae)))))))),?_⟩
  refine⟨_,rfl,_,_,rfl,rfl,.inl ⟨by lia,by lia⟩,_,_,rfl,rfl,?_⟩;refine⟨_,rfl,40,rfl,a,_,rfl,hS,λl H1 hl sm yl=>?_⟩;rw[BP] at yl;refine⟨l,rfl,⟨_,SqL.of yl⟩,gJ (K:=[]) (a:=l) (xs:=(ns.take 40).map V.int) (λi Z H2=>∃v,Z=[some (.ref a),some (.int k),some (.int (((ns.take 40).take i).foldl (λs c=>(s*48271+c)%2147483647) (7+1009*k))),v,none]/\H2=H1/\
   (-(2 ^ 60)<(((ns.take 40).take i).foldl (λs c=>(s*48271+c)%2147483647) (7+1009*k))/\(((ns.take 40).take i).foldl (λs c=>(s*48271+c)%2147483647) (7+1009*k))<2 ^ 60))
   ⟨none,rfl,rfl,by simp only[pW,IG];constructor<;>lia⟩ (λi Z H2 _ ⟨_,_,e,_⟩=>by rw[e];exact SqL.of yl) ?_ ?_⟩
  .rintro i y Z H2 hi ⟨v,rfl,rfl,hb1,hb2⟩;obtain⟨c,hc,rfl⟩:∃c,(ns.take 40)[i]?=some c/\V.int c=y:=by
    rw[c7] at hi;exact fJ.mp hi
   have e:(ns.take 40).take (i+1)=(ns.take 40).take i++[c]:=by rw[cU,hc];rfl
   refine⟨_,rfl,_,_,rfl,rfl,.inl ⟨by lia,by lia⟩,_,rfl,_,_,rfl,rfl,_,_,rfl,rfl,(show (0:Int)<2147483647 by decide),?_⟩;refine⟨some (.int c),?_,rfl,?_⟩
   .rw[e,IF];rfl
   .rw[e,IF];have m1:=Int.emod_lt_of_pos ((((ns.take 40).take i).foldl (λs c=>(s*48271+c)%2147483647) (7+1009*k))*48271+c) (show (0:Int)<2147483647 by decide);have m2:=Int.emod_nonneg ((((ns.take 40).take i).foldl (λs c=>(s*48271+c)%2147483647) (7+1009*k))*48271+c) (show (2147483647:Int)≠0 by decide);simp only[za,IG];constructor<;>lia
  .rintro Z H2 ⟨v,rfl,rfl,_,_⟩;rw[aQ,fY];refine⟨_,rfl,_,rfl,a,ns,k,rfl,sm.seq hS,h0,?_⟩;refine⟨_,rfl,_,_,rfl,rfl,⟨by decide,by decide,by decide⟩,_,_,rfl,rfl,_,rfl,?_⟩;have fin:∀(r:Addr) (H3:Hp),H2 r=none->Same H2 H3->H3 r=some (.lst (cG (rY ns k)))->Q (.ref r) H3:=λr H3 hr' s2 y2=>q r H3 (sm.free hr') (sm.trans s2) y2;unfold rY at fin;refine ite2 (λc=>?_) (λc=>?_)
   .have c:jQ ns k<1000000000000000000:=K6 c;rw[K3 c] at fin;exact⟨_,rfl,_,rfl,(show 2<=sizeLine by decide),fin⟩
   .have c:¬jQ ns k<1000000000000000000:=λy=>c (K4 y);rw[K2 c] at fin;exact⟨_,rfl,_,rfl,(show 2<=sizeLine by decide),fin⟩
end
theorem gK {q:Int×Int} {b:Int} (hb:0<b):0<=digO q b/\digO q b<b:=⟨Int.emod_nonneg _ (by lia),Int.emod_lt_of_pos _ hb⟩
theorem fZ {b:Int} (h0:0<b) (h:b<=10 ^ 60):b.natAbs.log2<9000:=by
 have h1:b.natAbs≠0:=by lia
 refine (zj h1).mpr ?_;have h2:b.natAbs<=10 ^ 60:=by lia
 exact zk h2 (c_ (show 10 ^ 60<2 ^ 200 by decide) (zp (by decide) (by decide)))
end K51
end
section
namespace K15
open PySem L2 K51 K31
def eC (e:Ent):List Key×V:=(ky e.1.1 e.1.2,V.int (e.2:Int))
theorem kN {l:List Ent} {p q:Nat}:valV (l.map eC) (ky p q)=none↔(p,q)∉l.map (·.1):=by
 induction l with
 |nil=>simp[valV]
 |cons e l ih=>
  rw[aB,aB,af];by_cases h:(eC e).1=ky p q
  .rw[dN h];have:e.1=(p,q):=oQ.mp h;simp[this]
  .rw[dC h,ih];have:(p,q)≠e.1:=λz=>h (oQ.mpr (by rw[z]));simp[this]
theorem BK {l:List Ent} (nd:(l.map (·.1)).Nodup) {p q c:Nat}:valV (l.map eC) (ky p q)=some (V.int (c:Int))↔((p,q),c)∈l:=by
 induction l with
 |nil=>simp[valV]
 |cons e l ih=>
  rw[aB,aV] at nd;rw[aB,af];by_cases h:(eC e).1=ky p q
  .rw[dN h];have e1:e.1=(p,q):=oQ.mp h;constructor
   .intro z;injection z with z;injection z with z;left;have:e.2=c:=by lia
    rw[<-e1,<-this]
   .rintro (z|z)
    .rw[<-z];rfl
    .exact (nd.1 (aw.mpr ⟨_,z,e1.symm⟩)).elim
  .rw[dC h,ih nd.2];constructor
   .exact .inr
   .rintro (z|z)
    .exact (h (oQ.mpr (by rw[<-z]))).elim
    .exact z
theorem Df {l:List Ent} {p q:Nat} {v:V} (h:valV (l.map eC) (ky p q)=some v):∃c:Nat,v=V.int (c:Int):=by
 induction l with
 |nil=>cases h
 |cons e l ih=>
  rw[aB] at h;by_cases h1:(eC e).1=ky p q
  .rw[dN h1] at h;injection h with h;exact⟨e.2,h.symm⟩
  .rw[dC h1] at h;exact ih h
theorem vX {ts:List Tri} (g:Good ts) (p q:Nat):(∃c,En ts p q c/\valV ((ents ts).map eC) (ky p q)=some (V.int (c:Int)))\/((∀c,¬En ts p q c)/\valV ((ents ts).map eC) (ky p q)=none):=by
 cases h:valV ((ents ts).map eC) (ky p q) with
 |none=>
  refine .inr ⟨λc hc=>?_,rfl⟩;exact kN.mp h (aw.mpr ⟨_,hc,rfl⟩)
 |some v=>
  obtain⟨c,rfl⟩:=Df h;exact .inl ⟨c,(BK g.nd).mp h,rfl⟩
theorem ents_app (a b:List Tri):ents (a++b)=ents a++ents b:=by simp[ents]
theorem ents_len (ts:List Tri):(ents ts).length=3*ts.length:=by
 induction ts with
 |nil=>rfl
 |cons t ts ih=>
  rw[show t::ts=[t]++ts from rfl,ents_app,ar,ih,ar];show 3+_=3*(1+_);lia
theorem qT {l:List Ent} {a b c:Nat} (h:((l++[((a,b),c)]).map (·.1)).Nodup):(l.map (·.1)).Nodup/\(a,b)∉l.map (·.1):=by rw[bI,bZ] at h;refine⟨h.1,λz=>?_⟩;exact h.2.2 _ z (a,b) (by simp) rfl
def dU (t:Tri):List (Nat×Nat):=[(t.1,t.2.1),(t.2.1,t.2.2),(t.2.2,t.1)]
def B0 (vs:List V) (H:Hp) (Q:VK) (t:Addr) (x:Tri):Prop:=vs=[.ref t]/\H t=some (.tup [.int (x.1:Int),.int (x.2.1:Int),.int (x.2.2:Int)])/\
 ∀r zs H',H r=none->Same H H'->H' r=some (.lst zs)->SdsAt H' zs (dU x)->Q (.ref r) H'
def qS:Sp:=λvs H Q _=>Exists (Ex2 (B0 vs H Q))
def Bd (vs:List V) (H:Hp) (Q:VK) (T:Addr) (vt:List V) (ts:List Tri):Prop:=vs=[.ref T]/\H T=some (.lst vt)/\bh H vt ts/\ts.length<=400/\((ents ts).map (·.1)).Nodup/\
 ∀D H',H D=none->Same H H'->H' D=some (.dT ((ents ts).map eC))->Q (.ref D) H'
def spThirds:Sp:=λvs H Q _=>Exists (Ex3 (Bd vs H Q))
def i9 (ts:List Tri) (x:Tri):Bool:=(dU x).all λs=>decide (s∉(ents ts).map (·.1))
def DA (vs:List V) (H:Hp) (Q:VK) (D t:Addr) (ts:List Tri) (x:Tri):Prop:=vs=[.ref D,.ref t]/\H D=some (.dT ((ents ts).map eC))/\H t=some (.tup [.int (x.1:Int),.int (x.2.1:Int),.int (x.2.2:Int)])/\
 ∀H',Same H H'->Q (.bl (i9 ts x)) H'
def xv:Sp:=λvs H Q _=>Exists (Ex4 (DA vs H Q))
section
theorem ow:bS ["_law_triple","_law_a","_law_b","_law_c"] ["_law_triple"] (bu l8):=by walk_at"sc"
theorem Cw {f:Addr} (U:Fun K "_law_sides" "_law_sides" l8 f fd):FnOk P w K mg base CX0 1 f fd ["_law_triple"] qS:=by
 refine U.ok ow (λvs H Q E h=>?_) (λcdv A outer s H vs Q E hr h=>?_)
 .obtain⟨t,x,rfl,_⟩:=h;rfl
 .obtain⟨t,x,rfl,ht,q⟩:=h;refine⟨_,ak (eV (pv 0) (dX rfl (bB (aK (i:=1) ow.nd rfl (.inl rfl)) (bB (aK (i:=2) ow.nd rfl (.inl rfl)) (bB (aK (i:=3) ow.nd rfl (.inl rfl)) dt)))))
   (au (bj (br (aa (aN (aa (pv 1) (aa (pv 2) ae))) (aa (aN (aa (pv 2) (aa (pv 3) ae))) (aa (aN (aa (pv 3) (aa (pv 1) ae))) ae)))))),?_⟩
  refine⟨_,rfl,t,_,rfl,SqT.of ht,rfl,_,_,rfl,_,_,rfl,_,_,rfl,rfl,?_⟩;refine⟨_,rfl,_,rfl,lit2,λt1 H1 h1 s1 y1=>?_⟩;refine⟨_,rfl,_,rfl,lit2,λt2 H2 h2 s2 y2=>?_⟩;refine⟨_,rfl,_,rfl,lit2,λt3 H3 h3 s3 y3=>?_⟩;refine⟨lit3,λr H4 h4 s4 y4=>?_⟩;exact q r _ H4 (((s1.trans s2).trans s3).free h4) (((s1.trans s2).trans s3).trans s4) y4 (.cons ⟨t1,rfl,((s2.trans s3).trans s4) _ _ y1⟩ (.cons ⟨t2,rfl,(s3.trans s4) _ _ y2⟩ (.cons ⟨t3,rfl,s4 _ _ y3⟩ .nil)))
theorem kP:bS ["_law_triples","_law_thirds_here","_law_a","_law_b","_law_c"] ["_law_triples"] (bu lC):=by walk_at"sc"
end
theorem Dc:bootBuiltins "all" = some (.builtin "all"):=by decide +kernel
theorem kj:bootBuiltins "sorted" = some (.builtin "sorted"):=by decide +kernel
def flat (ts:List Tri):List Nat:=ts.flatMap λt=>[t.1,t.2.1,t.2.2]
def kb (c:Nat):Key×V:=(Sum.inl (c:Int),V.bl true)
theorem FP {c d:Nat}:(kb c).1=(Sum.inl (d:Int):Key)↔c=d:=by
 unfold kb;constructor
 .intro h;injection h with h;lia
 .rintro rfl;rfl
theorem Fn (dd:List Nat) (c:Nat):cP (dd.map kb) (Sum.inl (c:Int)) (V.bl true)=(if c∈dd then dd else dd++[c]).map kb:=by
 by_cases h:c∈dd
 .rw[K3 h];have ha:((dd.map kb).any λkv=>decide (kv.1=(Sum.inl (c:Int):Key)))=true:=pE.mpr ⟨kb c,aw.mpr ⟨c,h,rfl⟩,K4 rfl⟩;unfold cP;rw[K3 ha,c9];refine pQ λx _=>?_;show (if (kb x).1=(Sum.inl (c:Int):Key) then ((kb x).1,V.bl true) else kb x)=kb x
  split<;>rfl
 .rw[K2 h,qD,bI]
  .rfl
  .cases e:valV (dd.map kb) (Sum.inl (c:Int)) with
   |none=>rfl
   |some v=>
    have:=Dg e;rw[c9] at this;obtain⟨x,hx,ex⟩:=aw.mp this;exact (h (FP.mp ex ▸ hx)).elim
def Cs (ts:List Tri) (cs:List Nat):Prop:=cs.Pairwise (· < ·)/\∀c,c∈cs↔c∈flat ts
theorem AO {dd:List Nat} {ms:List Int} (nd:dd.Nodup) (hp:ms.Perm (dd.map λc:Nat=>(c:Int))) (hs:ms.Pairwise (·<=·)):∃cs:List Nat,ms=cs.map (λc:Nat=>(c:Int))/\cs.Pairwise (· < ·)/\cs.Perm dd:=by
 have e:ms=(ms.map Int.toNat).map (λc:Nat=>(c:Int)):=by
  rw[c9];have:∀x∈ms,((λc:Nat=>(c:Int)) ∘ Int.toNat) x=id x:=by intro x hx;obtain⟨c,_,rfl⟩:=aw.mp (hp.mem_iff.mp hx);simp
  rw[pQ this,IS]
 have pm:(ms.map Int.toNat).Perm dd:=by
  have:=hp.map Int.toNat;rw[c9] at this;have e2:dd.map (Int.toNat ∘ λc:Nat=>(c:Int))=dd:=by
   have:∀x∈dd,(Int.toNat ∘ λc:Nat=>(c:Int)) x=id x:=λx _=>by simp
   rw[pQ this,IS]
  rw[e2] at this;exact this
 refine⟨ms.map Int.toNat,e,?_,pm⟩;have nd':(ms.map Int.toNat).Nodup:=pm.nodup_iff.mpr nd;rw[e] at hs;rw[fX] at hs;have:=hs.and nd';refine this.imp λ{a b} h=>?_;have h1:=h.1;have h2:=h.2;lia
def AM (vs:List V) (H:Hp) (Q:VK) (T:Addr) (vt:List V) (ts:List Tri):Prop:=vs=[.ref T]/\H T=some (.lst vt)/\bh H vt ts/\ts.length<=20/\
 ∀r cs H',H r=none->Same H H'->H' r=some (.lst (nV cs))->Cs ts cs->cs.length<=60->Q (.ref r) H'
def nX:Sp:=λvs H Q _=>Exists (Ex3 (AM vs H Q))
section
theorem E6:bS ["_law_thirds_here","_law_triple"] ["_law_thirds_here","_law_triple"] (bu mJ):=by walk_at"sc"
theorem DV {f f1:Addr} {fd d1:FuncData} (U:Fun K "_law_free" "_law_free" mJ f fd) (T:di mg) (G:FnOk P w K mg base CX0 1 f1 d1 ["_law_triple"] qS) (b1:Binds K d1 ["_law_triple"] []) (m1:mg "_law_sides" = some (.ref f1)) (k1:W.keepIn K (.ref f1)=true) :
  FnOk P w K mg base CX0 2 f fd ["_law_thirds_here","_law_triple"] xv:=by
 refine U.ok E6 (λvs H Q E h=>?_) (λcdv A outer s H vs Q E hr h=>?_)
 .obtain⟨D,t,ts,x,rfl,_⟩:=h;rfl
 .obtain⟨D,t,ts,x,rfl,hD,ht,q⟩:=h;have hu:=fB hr;refine⟨_,au (bj (a9 (Aj rfl) (by rfl) T.all Dc (aa (gj (N:=["_law_side","_law_thirds_here"]) (fr:=[none,some 0]) (eR (by decide +kernel) rfl rfl (by decide +kernel) (by decide +kernel) (by walk_at"cs") (by walk_at"ct")) rfl (dr (aP G hr rfl m1 k1 b1 .nil pass0 (aa (pv 1) ae)))
     (λC' s' H' fp pins=>⟨aK (i:=0) (show (["_law_side","_law_thirds_here"]:List Str).Nodup by decide +kernel) rfl (.inl rfl) (.inr rfl),jD,rO (qm hu (pv 0) (pv 1))⟩)) ae))),?_⟩
  have hline:=line5000;refine⟨_,rfl,t,x,rfl,ht,λr zs H1 hr1 s1 y1 sd=>?_⟩;have hl:=aU sd;refine⟨r,rfl,⟨_,SqL.of y1⟩,λZ_ hZ=>fg (K:=[]) (a:=r) (xs:=zs) (λi Z ys H'=>∃o,Z=[o,some (.ref D)]/\ys=(((dU x).take i).map λs=>decide (s∉(ents ts).map (·.1))).map V.bl/\Same H1 H'/\H' Z_=some (.lst ys)) ⟨none,rfl,rfl,dD hZ,cx⟩ (λi Z ys H' _ ⟨_,_,_,e,_⟩=>SqL.of (e _ _ y1)) ?_ ?_⟩
  .rintro i y Z ys H' hi ⟨o,rfl,rfl,sZ,yZ⟩;obtain⟨⟨a,b⟩,hs,c,rfl,hc⟩:=dG sd hi;have hil:=(aS.mp hs).1;refine⟨_,rfl,_,rfl,D,_,rfl,DGet.t (k:=ky a b) (sZ _ _ (s1 _ _ hD)) (sZ _ _ hc),yZ,?_,λH3 k3 y3=>⟨_,rfl,?_,λb o e=>(k3 b (ax e hZ)).trans (sZ _ _ e),y3⟩⟩
   .rw[aQ,aQ,bG];have:(dU x).length=3:=rfl;lia
   .rw[cU,hs];show _=((((dU x).take i)++[(a,b)]).map _).map _;rw[bI,bI]
    congr 1
    show [V.bl _]=[V.bl _]
    congr 2
    cases hv:valV ((ents ts).map eC) (ky a b) with
    |none=>exact (K4 (kN.mp hv)).symm
    |some v=>exact (K5 λz=>by rw[kN.mpr z] at hv;cases hv).symm
  .rintro Z ys H' ⟨o,rfl,rfl,sZ,yZ⟩;refine⟨Z_,(dU x).map λs=>decide (s∉(ents ts).map (·.1)),rfl,SqL.of ?_,?_⟩
   .rw[yZ,hl,fY]
   .rw[Iw];exact q _ (s1.trans sZ)
theorem nZ:bS ["_law_triples","_law_found","_law_triple","_law_corner"] ["_law_triples"] (bu kX):=by walk_at"sc"
theorem A0 {f:Addr} (U:Fun K "_law_corners" "_law_corners" kX f fd) (mS:mg "sorted" = none):FnOk P w K mg base CX0 1 f fd ["_law_triples"] nX:=by
 refine U.ok nZ (λvs H Q E h=>?_) (λcdv A outer s H vs Q E hr h=>?_)
 .obtain⟨T,vt,ts,rfl,_⟩:=h;rfl
 .obtain⟨T,vt,ts,rfl,hT,ht,hl,q⟩:=h;have hu:=fB hr;refine⟨_,ak (aA (i:=1) nZ.nd rfl (.inl rfl) vB)
   (ak (dh cD rfl (dr (pv 0)) (aK (i:=2) nZ.nd rfl (.inl rfl))
    (au (dh cD rfl (xB (pv 2)) (aK (i:=3) nZ.nd rfl (.inl rfl)) (au (lL hu (pv 1) (pv 3) yj rfl)))))
   (au (bj (a9 (nM rfl) (by rfl) mS kj (aa (pv 1) ae))))),?_⟩
  have hline:=line5000;have hlen:=aU ht;refine λD H1 h1 s1 y1=>?_;refine⟨_,rfl,T,rfl,⟨_,SqL.of (s1 _ _ hT)⟩,gJ (K:=[]) (a:=T) (xs:=vt) (λi Z H2=>∃v2 v3 dd,Z=[some (.ref T),some (.ref D),v2,v3]/\Same H H2/\H2 D=some (.dK (dd.map kb))/\dd.Nodup/\(∀c,c∈dd↔c∈flat (ts.take i))/\dd.length<=3*i)
   ⟨none,none,[],rfl,s1,y1,j7,by simp[flat],aT _⟩ (λi Z H2 _ ⟨_,_,_,_,e,_⟩=>SqL.of (e _ _ hT)) ?_ ?_⟩
  .rintro i x Z H2 hi ⟨v2,v3,dd,rfl,sm,hD,nd,hm,hz⟩;obtain⟨⟨a,b,c⟩,hs,t,rfl,hb⟩:=dG ht hi;have hb:H t=some (.tup [.int (a:Int),.int (b:Int),.int (c:Int)]):=hb;have hil:i<ts.length:=(aS.mp hs).1;have et:flat (ts.take (i+1))=flat (ts.take i)++[a,b,c]:=by rw[cU,hs];simp[flat]
   refine⟨_,rfl,t,rfl,⟨_,SqT.of (sm _ _ hb)⟩,Ec (K:=[]) (a:=t) (xs:=[.int (a:Int),.int (b:Int),.int (c:Int)]) (λj Z H3=>∃v3 dd,Z=[some (.ref T),some (.ref D),some (.ref t),v3]/\Same H H3/\H3 D=some (.dK (dd.map kb))/\dd.Nodup/\(∀z,z∈dd↔z∈flat (ts.take i)++[a,b,c].take j)/\dd.length<=3*i+j)
    ⟨_,dd,rfl,sm,hD,nd,by simpa using hm,hz⟩ (λj Z H3 _ ⟨_,_,_,e,_⟩=>SqT.of (e _ _ hb)) ?_ ?_⟩
   .rintro j y Z H3 hj ⟨v3,dd,rfl,sm3,hD3,nd3,hm3,hz3⟩;obtain⟨n,hn,rfl⟩:∃n:Nat,[a,b,c][j]?=some n/\y=.int (n:Int):=by
     match j,hj with
     |0,hj=>simp at hj;exact⟨a,rfl,hj.symm⟩
     |1,hj=>simp at hj;exact⟨b,rfl,hj.symm⟩
     |2,hj=>simp at hj;exact⟨c,rfl,hj.symm⟩
     |j+3,hj=>simp at hj
    have hj3:j<3:=(aS.mp hn).1;refine⟨_,rfl,_,rfl,D,_,rfl,DPut.k (k:=Sum.inl (n:Int)) hD3 (by rw[aQ];lia),?_⟩;rw[Fn];walk_at"H3 D H4 k4 y4";refine⟨_,_,rfl,λb' o e=>(k4 b' (ax e h1)).trans (sm3 _ _ e),y4,?_,λz=>?_,?_⟩
    .split
     .exact nd3
     .rename_i h;exact bZ.mpr ⟨nd3,by simp,λx hx y hy=>by rw[aR.mp hy];rintro rfl;exact h hx⟩
    .rw[cU,hn,<-bH];show _↔z∈(flat (ts.take i)++[a,b,c].take j)++[n];rw[ay,<-hm3 z]
     split
     .rename_i h;constructor
      .exact .inl
      .rintro (h' | h')
       .exact h'
       .rw[aR.mp h'];exact h
     .rw[ay]
    .split
     .lia
     .rw[ar,bg];lia
   .rintro Z H3 ⟨v3,dd,rfl,sm3,hD3,nd3,hm3,hz3⟩;refine⟨_,_,dd,rfl,sm3,hD3,nd3,λz=>?_,?_⟩
    .rw[et];exact hm3 z
    .have:([V.int (a:Int),.int (b:Int),.int (c:Int)]:List V).length=3:=rfl;lia
  .rintro Z H2 ⟨v2,v3,dd,rfl,sm,hD,nd,hm,hz⟩;rw[hlen,fY] at hm;refine⟨_,rfl,D,rfl,.inl ⟨_,hD⟩,λks vs hk=>.inl ⟨dd.map (λc:Nat=>(c:Int)),?_,by rw[aQ];lia,λp ms hp pm ps=>?_⟩⟩
   .rcases hk with ⟨kvs,e,rfl,_⟩|⟨kvs,as,e,_⟩
    .rw[hD] at e;cases e;rw[c9,c9];rfl
    .rw[hD] at e;cases e
   .obtain⟨cs,rfl,pl,pc⟩:=AO nd pm ps;have hcl:=pc.length_eq;have e:(cs.map (λc:Nat=>(c:Int))).map V.int=nV cs:=by rw[c9];rfl
    rw[e];exact q p cs _ (sm.free hp) (sm.trans (dD hp)) cx ⟨pl,λc=>by rw[pc.mem_iff];exact hm c⟩ (by lia)
end
theorem jE (l:List Nat):(nV l).all gz=true:=by rw[iB];intro v hv;obtain⟨n,_,rfl⟩:=aw.mp hv;rfl
theorem iZ (c:Nat) (l:List Nat):inV (V.int (c:Int)) (nV l)=decide (c∈l):=by
 unfold inV nV;rw[pG,dn,decide_eq_true_eq,pE];constructor
 .rintro⟨x,hx,e⟩;have:(x:Int)=(c:Int):=by simpa [eqV] using e
  have:x=c:=by lia
  rw[<-this];exact hx
 .intro h;exact⟨c,h,by simp[eqV]⟩
theorem D9 (l:List Nat):inV V.non (nV l)=false:=by unfold inV nV;rw[pG,List.any_eq_false];intro x _;simp[eqV]
theorem n8 {l m:List Nat} (h:l.Nodup) (hs:∀x∈l,x∈m):l.length<=m.length:=by
 induction l generalizing m with
 |nil=>exact aT _
 |cons a l ih=>
  rw[aV] at h;have ha:=hs a (by simp);have:=ih (m:=m.erase a) h.2 λx hx=>by
   have hne:x≠a:=λz=>h.1 (z ▸ hx);exact (IT hne).mpr (hs x (aY _ hx))
  rw[IP ha] at this;have hpos:0<m.length:=IQ ha;rw[aZ];lia
theorem gI {K:W.Frag} {D:Addr} {l:List Ent} {ks vs:List V} (hD:H D=some (.dT (l.map eC))) (hk:DKeys H D ks vs):SdsAt H ks (l.map (·.1)):=by
 rcases hk with ⟨kvs,e,_⟩|⟨kvs,as,e,hp,rfl,_⟩
 .rw[hD] at e;cases e
 .rw[hD] at e;cases e;rename_i hv;clear hD hv;induction l generalizing as with
  |nil=>cases hp;exact .nil
  |cons x l ih=>
   cases hp with
   |cons h t=>exact .cons ⟨_,rfl,h⟩ (ih _ t)
theorem qC {ks:List V} {ss:List (Nat×Nat)} (h:SdsAt H ks ss):Tups K H ks (ss.map λs=>[(s.1:Int),(s.2:Int)]):=by
 induction h with
 |nil=>exact .nil
 |cons q _ ih=>
  obtain⟨a,rfl,ha⟩:=q;exact .cons ⟨a,rfl,SqT.of ha,by simp⟩ ih
theorem oh {ks:List V} {ss:List (Nat×Nat)} (h:SdsAt H ks ss):∀ix:List Nat,(∀i∈ix,i<ks.length)->SdsAt H (ix.map λi=>ks.getD i .non) (ix.map λi=>ss.getD i (0,0))
 | [],_=>.nil
 |i::ix,hi=>by
  have hik:=hi i (by simp);have h1:ks[i]?=some ks[i]:=aX hik;obtain⟨y,hy,hf⟩:=dG h h1;refine .cons ?_ (oh h ix λj hj=>hi j (aY _ hj));simp only[List.getD,h1,hy,zt];exact hf
theorem ql {ss:List (Nat×Nat)} {ix:List Nat} (h:ix.Perm (List.range ss.length)):(ix.map λi=>ss.getD i (0,0)).Perm ss:=by
 have:=h.map λi=>ss.getD i (0,0);refine this.trans (yN ?_);refine tE λi=>?_;rw[c7];by_cases hi:i<ss.length
 .rw[IJ hi];simp[List.getD,aX hi]
 .rw[ng (by simpa using hi),ng (by lia)];rfl
theorem xP (l:List Nat):Dts K H (nV l) (l.map λn:Nat=>PyData.int (n:Int)):=by
 induction l with
 |nil=>exact .nil
 |cons a l ih=>exact .cons (.int _) ih
theorem Ga (l:List Nat):(PyData.list (l.map λn:Nat=>PyData.int (n:Int))).depth<=3:=by
 have:PyData.depthAll (l.map λn:Nat=>PyData.int (n:Int))<=1:=by
  induction l with
  |nil=>simp[PyData.depthAll]
  |cons a l ih=>simp only[aB,PyData.depthAll,PyData.depth];lia
 simp only[PyData.depth];lia
theorem jw (ds:List PyData):PyData.eqv (.list ds) (.list [])=ds.isEmpty:=by cases ds<;>simp[PyData.eqv,PyData.eqvAll]
structure Run (ts:List Tri) (v x0:Nat) (F:List Nat):Prop where
 nd:F.Nodup
 key:∀p∈F,∃q,En ts v p q
 ch:∀i p q,F[i]?=some p->F[i+1]?=some q->En ts v p q
 x1:x0∈F
section
variable {ts:List Tri} {v x0 p c o:Nat} {F:List Nat}
theorem DD (h:∃q,En ts v x0 q):Run ts v x0 [x0]:=⟨by simp,λp hp=>by rw[aR.mp hp];exact h,λi p q _ h2=>by simp at h2,by simp⟩
theorem DF (r:Run ts v x0 F) (hl:F.getLast?=some p) (e:En ts v p c) (hk:∃q,En ts v c q) (hc:c∉F):Run ts v x0 (F++[c]):=by
 refine⟨bZ.mpr ⟨r.nd,by simp,λx hx y hy=>by rw[aR.mp hy];rintro rfl;exact hc hx⟩,λq hq=>?_,λi a b h1 h2=>?_,cf _ r.x1⟩
 .rcases ay.mp hq with h|h
  .exact r.key q h
  .rw[aR.mp h];exact hk
 .by_cases hi:i+1<F.length
  .rw[dS hi] at h2;rw[dS (by lia)] at h1;exact r.ch i a b h1 h2
  .have hb:=(aS.mp h2).1;rw[ar,bg] at hb;have ei:i+1=F.length:=by lia
   rw[pM,<-ei,ni] at hl;rw[dS (by lia),hl] at h1;rw[ei,gZ (aC _),pZ] at h2;cases h1;cases h2;exact e
theorem DE (r:Run ts v x0 F) (hh:F.head?=some p) (e:En ts v o p) (ho:o∉F):Run ts v x0 (o::F):=by
 refine⟨aV.mpr ⟨ho,r.nd⟩,λq hq=>?_,λi a b h1 h2=>?_,aY _ r.x1⟩
 .rcases af.mp hq with rfl|h
  .exact⟨p,e⟩
  .exact r.key q h
 .cases i with
  |zero=>
   rw[e_,<-zc,hh] at h2;cases h1;cases h2;exact e
  |succ i=>
   rw[e_] at h1 h2;exact r.ch i a b h1 h2
theorem qW (r:Run ts v x0 F) (hl:ts.length<=20):F.length<=60:=by
 have:=n8 (m:=(ents ts).map (·.1.2)) r.nd λx hx=>by
  obtain⟨q,hq⟩:=r.key x hx;exact aw.mpr ⟨_,hq,rfl⟩
 rw[aQ,ents_len] at this;lia
theorem rJ (r:Run ts v x0 F):F≠[]:=λz=>by have:=r.x1;rw[z] at this;cases this
theorem wL (h:F≠[]):∃p,F.getLast?=some p:=⟨_,List.getLast?_eq_some_getLast h⟩
theorem Eb (h:F≠[]):∃p,F.head?=some p:=by
 cases F with
 |nil=>exact (h rfl).elim
 |cons a l=>exact⟨a,rfl⟩
theorem gQ {α:Type} {l:List α} {x:α} (h:l[l.length-1]?=some x):atI l (-1)=some x:=by have hl:=(aS.mp h).1;unfold atI ixN;rw[K2 (by decide),K3 (by lia)];rw[show ((-1:Int)+(l.length:Int)).toNat=l.length-1 by lia];exact h
theorem Ew (h:F.getLast?=some p):atI (nV F) (-1)=some (V.int (p:Int)):=by refine gQ ?_;rw[bO,nV,c7,<-pM,h];rfl
theorem xg (h:F.head?=some p):atI (nV F) 0=some (V.int (p:Int)):=by
 have:(nV F)[0]?=some (V.int (p:Int)):=by rw[nV,c7,<-zc,h];rfl
 exact cA this
end
theorem kE {c:TT} {tb:TS} {D:Ends} (R:St->Hp->Prop) (h:∀NX:St->Hp->Prop,(∀Z H,R Z H->NX Z H)->rC c tb {D with nx:=NX} Z H) (out:∀Z H,R Z H->D.nx Z H):rC c tb D Z H:=h D.nx out
theorem AU {α β:Type} {F G:α->β->Prop} {xs:List α} {ys:List β} (h:∀x y,x∈xs->F x y->G x y) (p:Paired F xs ys):Paired G xs ys:=by
 induction p with
 |nil=>exact .nil
 |cons a _ ih=>exact .cons (h _ _ (by simp) a) (ih λx y hx=>h x y (aY _ hx))
def DB (vs:List V) (H:Hp) (Q:VK) (T:Addr) (vt:List V) (ts:List Tri) (v:Nat):Prop:=vs=[.ref T,.int (v:Int)]/\H T=some (.lst vt)/\bh H vt ts/\ts.length<=20/\Good ts/\
 ∀r gs fs H',H r=none->Same H H'->H' r=some (.lst gs)->eI H' gs fs->Fans (En ts) v fs->fs.length<=60->Q (.ref r) H'
def xw:Sp:=λvs H Q _=>Exists (Ex4 (DB vs H Q))
section
theorem jL:bS ["_law_triples","_law_corner","_law_thirds_here","_law_left","_law_found","_law_fan"] ["_law_triples","_law_corner"] (bu mK):=by walk_at"sc"
theorem DW {f f1:Addr} {fd d1:FuncData} (U:Fun K "_law_fans" "_law_fans" mK f fd) (mS:mg "sorted" = none) (G:FnOk P w K mg base CX0 1 f1 d1 ["_law_triples"] spThirds) (b1:Binds K d1 ["_law_triples"] []) (m1:mg "_law_thirds" = some (.ref f1)) (k1:W.keepIn K (.ref f1)=true) :
  FnOk P w K mg base CX0 2 f fd ["_law_triples","_law_corner"] xw:=by
 refine U.ok jL (λvs H Q E h=>?_) (λcdv A outer s H vs Q E hr h=>?_)
 .obtain⟨T,vt,ts,v,rfl,_⟩:=h;rfl
 .obtain⟨T,vt,ts,v,rfl,hT,ht,hl,g,q⟩:=h;have hu:=fB hr;refine⟨_,ak (aA (i:=2) jL.nd rfl (.inl rfl) (aP G hr rfl m1 k1 b1 .nil pass0 (aa (pv 0) ae)))
   (ak (lO (i:=3) (N:=["_law_a","_law_p","_law_corner"]) (fr:=[none,none,some 1]) (g:=mW [] 2 (gR (dZ 0) (gR (dZ 1) mX))) (eR (by decide +kernel) rfl rfl (by decide +kernel) (by decide +kernel) (by walk_at"cs") (by walk_at"ct")) rfl (dr (a9 (nM rfl) (by rfl) mS kj (aa (pv 2) ae)))
     (λC' s' H' fp pins=>⟨dX rfl (bB (aK (i:=0) (show (["_law_a","_law_p","_law_corner"]:List Str).Nodup by decide +kernel) rfl (.inl rfl) (.inr rfl)) (bB (aK (i:=1) (show (["_law_a","_law_p","_law_corner"]:List Str).Nodup by decide +kernel) rfl (.inl rfl) (.inr rfl)) dt)),gM (aL du (pv 0) (pv 2) (nomark _)),pv 1⟩) jL.nd rfl (.inl rfl))
   (ak (aA (i:=4) jL.nd rfl (.inl rfl) (br ae))
   (ak (ib cD (aL (gO hr.units) (pv 3) (br ae) (nomark _)) (ak (aA (i:=5) jL.nd rfl (.inr rfl) (br (aa (aq aI (pv 3) ag (λ_ _=>rfl)) ae)))
    (ak (ib cD (PW.pt (eG (aL kJ (Ck hu (pv 2) (aN (aa (pv 1) (aa (aq aI (pv 5) (dA dz ag) (λ_ _=>rfl)) ae))) ⟨rfl,rfl,rfl,rfl⟩) (pv 3) rfl) (eM (aL iL (gN hu (pv 2) (aN (aa (pv 1) (aa (aq aI (pv 5) (dA dz ag) (λ_ _=>rfl)) ae))) (λ_ _=>rfl)) (pv 5) rfl)))) (au (cy (cK cM da de cN (pv 5) (aa (gN hu (pv 2) (aN (aa (pv 1) (aa (aq aI (pv 5) (dA dz ag) (λ_ _=>rfl)) ae))) (λ_ _=>rfl)) ae)))))
    (ak (ib cD (PW.pt (eG (ml (mn hu (aN (aa (aq aI (pv 5) ag (λ_ _=>rfl)) (aa (pv 1) ae))) (pv 2))) (eM (aL iL (gN hu (pv 2) (aN (aa (aq aI (pv 5) ag (λ_ _=>rfl)) (aa (pv 1) ae))) (λ_ _=>rfl)) (pv 5) rfl)))) (au (cy (cK cM Jr PySem.F.type_list_insert Bq (pv 5) (aa ag (aa (gN hu (pv 2) (aN (aa (aq aI (pv 5) ag (λ_ _=>rfl)) (aa (pv 1) ae))) (λ_ _=>rfl)) ae))))))
    (ak (lO (i:=3) (N:=["_law_p","_law_fan"]) (fr:=[none,some 5]) (tt:=i6 (tOp (rIn [] true) (eh 0) (eh 1))) (eR (by decide +kernel) rfl rfl (by decide +kernel) (by decide +kernel) (by walk_at"cs") (by walk_at"ct")) rfl (dr (pv 3))
     (λC' s' H' fp pins=>⟨aK (i:=0) (show (["_law_p","_law_fan"]:List Str).Nodup by decide +kernel) rfl (.inl rfl) (.inr rfl),gM (aL iL (pv 0) (pv 1) rfl),pv 0⟩) jL.nd rfl (.inl rfl))
    (au (cy (cK cM da de cN (pv 4) (aa (pv 5) ae)))))))))
   (au (bj (pv 4)))))),?_⟩
  have hline:=line5000;have k:=g.sk;refine⟨_,rfl,T,vt,ts,rfl,hT,ht,by lia,g.nd,λD H1 hD0 s1 hD=>?_⟩;refine⟨_,rfl,D,rfl,.inr ⟨_,hD⟩,λks vs hk=>.inr ⟨_,qC (gI (K:=[]) hD hk),?_,λp ix hp pm _=>?_⟩⟩
  .rw[aU (gI (K:=[]) hD hk),aQ,ents_len];lia
  have sd0:=gI (K:=[]) hD hk;have lk:=aU sd0;walk_at"H1 p hp H2 s2 y2";have ixb:∀i∈ix,i<ks.length:=λi hi=>gF.mp (pm.mem_iff.mp hi);have sdz:=oh (Paired.imp' (λ_ _ ⟨a,e,h⟩=>⟨a,e,s2 _ _ h⟩) sd0:SdsAt H2 ks ((ents ts).map (·.1))) ix ixb;have pss:(ix.map λi=>((ents ts).map (·.1)).getD i (0,0)).Perm ((ents ts).map (·.1)):=ql (by rw[<-lk];exact pm);generalize (ix.map λi=>((ents ts).map (·.1)).getD i (0,0))=ss at sdz pss;generalize (ix.map λi=>ks.getD i .non)=zs at sdz y2;have lz:=aU sdz;have lss:ss.length<=60:=by rw[pss.length_eq,aQ,ents_len];lia
  refine⟨p,rfl,⟨_,SqL.of y2⟩,λZ_ hZ=>fg (K:=[]) (a:=p) (xs:=zs) (λi Z ys H'=>∃o1 o2,Z=[o1,o2,some (.int (v:Int))]/\ys=nV (((ss.take i).filter λs=>decide (s.1=v)).map (·.2))/\Same H2 H'/\H' Z_=some (.lst ys)) ⟨none,none,rfl,rfl,dD hZ,cx⟩ (λi Z ys H' _ ⟨_,_,_,_,e,_⟩=>SqL.of (e _ _ y2)) ?_ ?_⟩
  .rintro i y Z ys H' hi ⟨o1,o2,rfl,rfl,sZ,yZ⟩;obtain⟨⟨a,b⟩,hs,c,rfl,hc⟩:=dG sdz hi;have et:ss.take (i+1)=ss.take i++[(a,b)]:=by rw[cU,hs];rfl
   refine⟨c,_,rfl,SqT.of (sZ _ _ hc),rfl,_,_,rfl,_,_,rfl,rfl,?_⟩;refine⟨_,rfl,_,rfl,rfl,_,rfl,?_⟩;show if decide (V.int (a:Int)=V.int (v:Int))=true then _ else _
   rw[jZ];by_cases hav:a=v
   .rw[K4 (by rw[hav])];refine aJ ⟨_,rfl,yZ,?_,λH3 k3 y3=>⟨_,_,rfl,?_,λb o e=>(k3 b (ax e hZ)).trans (sZ _ _ e),y3⟩⟩
    .rw[bO,aQ];have h1:=iD (λs:Nat×Nat=>decide (s.1=v)) (ss.take i);rw[bG] at h1;lia
    .rw[et,jd,iC,K3 (K4 hav),m9,bI,<-gP];rfl
   .rw[K5 (by lia)];refine av ⟨_,_,rfl,?_,sZ,yZ⟩;rw[et,jd,iC,K2 (by simp[hav]),m9,cZ]
  .rintro Z ys H3 ⟨o1,o2,rfl,rfl,sZ,yZ⟩;rw[lz,fY] at yZ;have hlf:∀x,x∈((ss.filter λs=>decide (s.1=v)).map (·.2))↔∃q,En ts v x q:=by
    intro x;rw[aw];constructor
    .rintro⟨⟨a,b⟩,hm,rfl⟩;rw[iG,pss.mem_iff] at hm;obtain⟨hm,ha⟩:=hm;have ha:a=v:=K6 ha;obtain⟨⟨e1,c⟩,he,e2⟩:=aw.mp hm;have e2:e1=(a,b):=e2;subst e2 ha;exact⟨c,he⟩
    .rintro⟨c,hc⟩;exact⟨(v,x),iG.mpr ⟨pss.mem_iff.mpr (aw.mpr ⟨_,hc,rfl⟩),K4 rfl⟩,rfl⟩
   have ndlf:((ss.filter λs=>decide (s.1=v)).map (·.2)).Nodup:=by
    have nd1:ss.Nodup:=pss.nodup_iff.mpr g.nd;have:∀l:List (Nat×Nat),l.Nodup->((l.filter λs=>decide (s.1=v)).map (·.2)).Nodup:=by
     intro l;induction l with
     |nil=>intro _;exact j7
     |cons x l ih=>
      intro h;rw[aV] at h;rw[iC]
      split
      .rename_i hx;rw[aB,aV];refine⟨λz=>?_,ih h.2⟩;obtain⟨y,hy,e⟩:=aw.mp z;rw[iG] at hy;have h1:y.1=v:=K6 hy.2;have h2:x.1=v:=K6 hx;have:y=x:=nE (h1.trans h2.symm) e;exact h.1 (this ▸ hy.1)
      .exact ih h.2
    exact this ss nd1
   have llf:((ss.filter λs=>decide (s.1=v)).map (·.2)).length<=60:=by rw[aQ];exact bV (iD _ _) lss
   generalize ((ss.filter λs=>decide (s.1=v)).map (·.2))=lf0 at hlf ndlf llf yZ;have q3:=(s1.trans s2).trans sZ;refine⟨aT _,λFd H4 hFd s4 y4=>?_⟩;have q4:=q3.trans s4;have hD4:=((s2.trans sZ).trans s4) _ _ hD;refine⟨λm Z H'=>∃v5 Lf lf Fd gs fs,Z=[some (V.ref T),some (.int (v:Int)),some (.ref D),some (.ref Lf),some (.ref Fd),v5]/\m=lf.length/\H Fd=none/\Same H H'/\H' D=some (.dT ((ents ts).map eC))/\H' Lf=some (.lst (nV lf))/\H' Fd=some (.lst gs)/\eI H' gs fs/\lf.Nodup/\
     (∀x∈lf,∃q,En ts v x q)/\(∀F∈fs,Fan (En ts) v F)/\(∀x,(∃q,En ts v x q)->x∈lf\/∃F∈fs,x∈F)/\(∀x∈lf,∀F∈fs,x∉F)/\(fs.Pairwise λF G=>∀x∈F,x∉G)/\fs.length+lf.length<=60/\V.ref Fd∉gs,
    ⟨_,none,Z_,lf0,Fd,[],[],rfl,rfl,q3.free hFd,q4,hD4,s4 _ _ yZ,y4,.nil,ndlf,λx hx=>(hlf x).mp hx,by simp,λx hx=>.inl ((hlf x).mpr hx),by simp,List.Pairwise.nil,by simpa using llf,by simp⟩,?_⟩
   rintro m Z H5 ⟨v5,Lf,lf,Fd,gs,fs,rfl,rfl,hFd0,sm,hD5,hLf,hFd5,hgs,ndl,hkey,hfan,hcov,hdis,hpw,hsz,hnot⟩;refine⟨_,rfl,aT _,λpe H6 hpe s6 y6=>?_⟩;refine⟨_,_,.lst (SqL.of (s6 _ _ hLf)) (xP lf),.lst (SqL.of y6) .nil,bV (Ga lf) (by decide),_,rfl,?_⟩;rw[K3 rfl,jw];cases lf with
   |nil=>
    refine av ?_;refine⟨_,rfl,q Fd gs fs H6 hFd0 (sm.trans s6) (s6 _ _ hFd5) (hgs.same s6) ⟨hfan,λx hx=>?_,hpw⟩ (by simp at hsz;lia)⟩;exact (hcov x hx).resolve_left (by simp)
   |cons x0 lf=>
    refine aJ ?_;have hx0:=hkey x0 (by simp);refine⟨_,λZ' H' h=>h,?_⟩;refine⟨_,rfl,Lf,_,0,V.int (x0:Int),rfl,rfl,SqL.of (s6 _ _ hLf),xg rfl,lit1,λfa H7 hfa s7 y7=>?_⟩;have nD:∀{b:Addr} {ob:HO},H6 b=some ob->b≠fa:=λe=>ax e hfa;have hD6:=s6 _ _ hD5;have hL6:=s6 _ _ hLf;refine kE (λZ H'=>∃F,Z=[some (V.ref T),some (.int (v:Int)),some (.ref D),some (.ref Lf),some (.ref Fd),some (.ref fa)]/\Same H6 H'/\H' fa=some (.lst (nV F))/\Run ts v x0 F/\∀p,F.getLast?=some p->∀q,En ts v p q->q∈x0::lf->q∈F) (λNX z=>?_) ?_
    .refine⟨λm Z H'=>∃F,Z=[some (V.ref T),some (.int (v:Int)),some (.ref D),some (.ref Lf),some (.ref Fd),some (.ref fa)]/\m=100-F.length/\Same H6 H'/\H' fa=some (.lst (nV F))/\Run ts v x0 F,⟨_,[x0],rfl,rfl,s7,y7,DD hx0⟩,?_⟩;rintro m Z H8 ⟨F,rfl,rfl,sm8,y8,rn⟩;have hFl:=qW rn hl;obtain⟨p,hp⟩:=wL (rJ rn);have ap:=Ew hp;refine⟨_,rfl,D,rfl,.inr ⟨_,.inl (sm8 _ _ hD6)⟩,_,rfl,_,rfl,_,rfl,fa,_,_,_,rfl,rfl,SqL.of y8,ap,lit2,λk1 H9 g1 s9 y9=>?_⟩;have sm9:=sm8.trans s9;rcases vX g v p with ⟨c,hc,e⟩|⟨hc,e⟩
     .refine⟨_,e ▸ DGet.t (k:=ky v p) (sm9 _ _ hD6) y9,_,rfl,Lf,_,rfl,.inl (SqL.of (sm9 _ _ hL6)),rfl,jE _,_,rfl,?_⟩;show if (if false=true then _ else inV (V.int (c:Int)) (nV (x0::lf)))=true then _ else _
      rw[K2 cq,iZ];by_cases hcl:c∈x0::lf
      .rw[K4 hcl];refine aJ ?_;refine⟨_,rfl,_,rfl,_,rfl,_,rfl,fa,_,_,_,rfl,rfl,SqL.of (s9 _ _ y8),ap,lit2,λk2 H10 g2 s10 y10=>?_⟩;have sm10:=sm9.trans s10;refine⟨D,V.int (c:Int),rfl,e ▸ DGet.t (k:=ky v p) (sm10 _ _ hD6) y10,_,rfl,fa,_,rfl,.inl (SqL.of (s10 _ _ (s9 _ _ y8))),rfl,jE _,_,rfl,?_⟩;show if (if true=true then !inV (V.int (c:Int)) (nV F) else _)=true then _ else _
       rw[K3 rfl,iZ];by_cases hcF:c∈F
       .rw[K4 hcF];refine av (z _ _ ⟨F,rfl,sm10,s10 _ _ (s9 _ _ y8),rn,λp' hp' q hq _=>?_⟩);rw[hp] at hp';cases hp';rw[k.one hq hc];exact hcF
       .rw[K5 hcF];refine aJ ⟨_,λZ' H' h=>h,?_⟩;refine⟨_,rfl,.inl ⟨rfl,_,SqL.of (s10 _ _ (s9 _ _ y8))⟩,_,rfl,_,rfl,_,rfl,_,rfl,fa,_,_,_,rfl,rfl,SqL.of (s10 _ _ (s9 _ _ y8)),ap,lit2,λk3 H11 g3 s11 y11=>?_⟩;have sm11:=sm10.trans s11;refine⟨D,V.int (c:Int),rfl,e ▸ DGet.t (k:=ky v p) (sm11 _ _ hD6) y11,fa,_,_,rfl,rfl,s11 _ _ (s10 _ _ (s9 _ _ y8)),by rw[bO];lia,λH12 k12 y12=>?_⟩;refine⟨_,?_,F++[c],rfl,rfl,λb' o e=>(k12 b' (nD e)).trans (sm11 _ _ e),?_,DF rn hp hc (hkey c hcl) hcF⟩
        .rw[ar,bg];lia
        .rw[y12];simp[nV]
      .rw[K5 hcl];refine av (av (z _ _ ⟨F,rfl,sm9,s9 _ _ y8,rn,λp' hp' q hq hl'=>?_⟩));rw[hp] at hp';cases hp';rw[k.one hq hc] at hl';exact (hcl hl').elim
     .refine⟨_,e ▸ DGet.t (k:=ky v p) (sm9 _ _ hD6) y9,_,rfl,Lf,_,rfl,.inl (SqL.of (sm9 _ _ hL6)),rfl,jE _,_,rfl,?_⟩;show if (if false=true then _ else inV V.non (nV (x0::lf)))=true then _ else _
      rw[K2 cq,D9];refine av (av (z _ _ ⟨F,rfl,sm9,s9 _ _ y8,rn,λp' hp' q hq _=>?_⟩));rw[hp] at hp';cases hp';exact (hc q hq).elim
    rintro Z H8 ⟨F,rfl,sm8,y8,rn,hend⟩;clear y7 s7 H7;refine kE (λZ H'=>∃F,Z=[some (V.ref T),some (.int (v:Int)),some (.ref D),some (.ref Lf),some (.ref Fd),some (.ref fa)]/\Same H6 H'/\H' fa=some (.lst (nV F))/\Run ts v x0 F/\(∀p,F.getLast?=some p->∀q,En ts v p q->q∈x0::lf->q∈F)/\∀p,F.head?=some p->∀o,En ts v o p->o∈F) (λNX z=>?_) ?_
    .refine⟨λm Z H'=>∃F,Z=[some (V.ref T),some (.int (v:Int)),some (.ref D),some (.ref Lf),some (.ref Fd),some (.ref fa)]/\m=100-F.length/\Same H6 H'/\H' fa=some (.lst (nV F))/\Run ts v x0 F/\∀p,F.getLast?=some p->∀q,En ts v p q->q∈x0::lf->q∈F,⟨_,F,rfl,rfl,sm8,y8,rn,hend⟩,?_⟩;clear hend rn y8 sm8;clear F H8;rintro m Z H8 ⟨F,rfl,rfl,sm8,y8,rn,hend⟩;have hFl:=qW rn hl;obtain⟨p,hp⟩:=Eb (rJ rn);have ap:=xg hp;refine⟨_,rfl,fa,_,_,_,rfl,rfl,SqL.of y8,ap,_,rfl,lit2,λk1 H9 g1 s9 y9=>?_⟩;have sm9:=sm8.trans s9;rcases vX g p v with ⟨c,hc,e⟩|⟨hc,e⟩
     .refine⟨_,rfl,D,_,rfl,e ▸ DGet.t (k:=ky p v) (sm9 _ _ hD6) y9,_,rfl,?_⟩;refine aJ ?_;refine⟨_,rfl,_,rfl,fa,_,_,_,rfl,rfl,SqL.of (s9 _ _ y8),ap,_,rfl,lit2,λk2 H10 g2 s10 y10=>?_⟩;have sm10:=sm9.trans s10;refine⟨D,V.int (c:Int),rfl,e ▸ DGet.t (k:=ky p v) (sm10 _ _ hD6) y10,_,rfl,fa,_,rfl,.inl (SqL.of (s10 _ _ (s9 _ _ y8))),rfl,jE _,_,rfl,?_⟩;show if (if true=true then !inV (V.int (c:Int)) (nV F) else _)=true then _ else _
      rw[K3 rfl,iZ];by_cases hcF:c∈F
      .rw[K4 hcF];refine av (z _ _ ⟨F,rfl,sm10,s10 _ _ (s9 _ _ y8),rn,hend,λp' hp' o ho=>?_⟩);rw[hp] at hp';cases hp';rw[k.one (k.rot (k.rot ho)) hc];exact hcF
      .rw[K5 hcF];refine aJ ⟨_,λZ' H' h=>h,?_⟩;refine⟨_,rfl,.inl ⟨rfl,_,SqL.of (s10 _ _ (s9 _ _ y8))⟩,_,rfl,_,rfl,fa,_,_,_,rfl,rfl,SqL.of (s10 _ _ (s9 _ _ y8)),ap,_,rfl,lit2,λk3 H11 g3 s11 y11=>?_⟩;have sm11:=sm10.trans s11;refine⟨D,V.int (c:Int),rfl,e ▸ DGet.t (k:=ky p v) (sm11 _ _ hD6) y11,fa,_,0,_,rfl,rfl,s11 _ _ (s10 _ _ (s9 _ _ y8)),aT _,by rw[bO];lia,λH12 k12 y12=>?_⟩;refine⟨_,?_,c::F,rfl,rfl,λb' o e=>(k12 b' (nD e)).trans (sm11 _ _ e),?_,DE rn hp (k.rot hc) hcF,λp' hp' q hq hql=>?_⟩
       .rw[aZ];lia
       .rw[y12];simp[nV]
       .refine aY _ (hend p' ?_ q hq hql);rw[<-hp'];obtain⟨z,hz⟩:=wL (rJ rn);rw[List.getLast?_cons,hz];rfl
     .refine⟨_,rfl,D,_,rfl,e ▸ DGet.t (k:=ky p v) (sm9 _ _ hD6) y9,_,rfl,?_⟩;refine av (av (z _ _ ⟨F,rfl,sm9,s9 _ _ y8,rn,hend,λp' hp' o ho=>?_⟩));rw[hp] at hp';cases hp';exact (hc _ (k.rot (k.rot ho))).elim
    clear hend rn y8 sm8;clear F H8;rintro Z H8 ⟨F,rfl,sm8,y8,rn,hend,hbeg⟩;have hFl:=qW rn hl;obtain⟨fF,dF⟩:=CV k hfan hcov hdis rn.nd rn.key rn.ch rn.x1 (by simp) hend hbeg;have hL8:=sm8 _ _ hL6;refine⟨_,rfl,Lf,rfl,⟨_,SqL.of hL8⟩,λZ_ hZ=>fg (K:=[]) (a:=Lf) (xs:=nV (x0::lf)) (λi Z ys H'=>∃o,Z=[o,some (.ref fa)]/\ys=nV (((x0::lf).take i).filter λp=>decide (p∉F))/\Same H8 H'/\H' Z_=some (.lst ys)) ⟨none,rfl,rfl,dD hZ,cx⟩ (λi Z ys H' _ ⟨_,_,_,e,_⟩=>SqL.of (e _ _ hL8)) ?_ ?_⟩
    .rintro i y Z ys H' hi ⟨o,rfl,rfl,sZ,yZ⟩;rw[nV,c7] at hi;obtain⟨n,hn,rfl⟩:=fJ.mp hi;have et:(x0::lf).take (i+1)=(x0::lf).take i++[n]:=by rw[cU,hn];rfl
     refine⟨_,rfl,_,rfl,fa,_,rfl,.inl (SqL.of (sZ _ _ y8)),rfl,jE _,_,rfl,?_⟩;show if (if true=true then !inV (V.int (n:Int)) (nV F) else _)=true then _ else _
     rw[K3 rfl,iZ];by_cases hnF:n∈F
     .rw[K4 hnF];refine av ⟨_,rfl,?_,sZ,yZ⟩;rw[et,jd,iC,K2 (by simp[hnF]),m9,cZ]
     .rw[K5 hnF];refine aJ ⟨_,rfl,yZ,?_,λH3 k3 y3=>⟨_,rfl,?_,λb o e=>(k3 b (ax e hZ)).trans (sZ _ _ e),y3⟩⟩
      .rw[bO];have h1:=iD (λp=>decide (p∉F)) ((x0::lf).take i);rw[bG] at h1;rw[aZ] at hsz h1;lia
      .rw[et,jd,iC,K3 (by simp[hnF]),m9,<-gP];rfl
    .rintro Z ys H9 ⟨o,rfl,rfl,sZ,yZ⟩;rw[bO,fY] at yZ;have e0:((x0::lf).filter λp=>decide (p∉F))=lf.filter λp=>decide (p∉F):=by
      rw[iC,K2 (by simp[rn.x1])]
     have l0:=iD (λp=>decide (p∉F)) lf;rw[<-e0] at l0;have hmem:∀x,x∈((x0::lf).filter λp=>decide (p∉F))↔x∈x0::lf/\x∉F:=λx=>by rw[iG,decide_eq_true_eq]
     have ndf:((x0::lf).filter λp=>decide (p∉F)).Nodup:=ndl.filter _;generalize ((x0::lf).filter λp=>decide (p∉F))=lf' at *;have sm9:=sm8.trans sZ;have hF6:=s6 _ _ hFd5;have hF9:=sm9 _ _ hF6;have hg:=aU hgs;rw[aZ] at hsz;refine⟨_,rfl,.inl ⟨rfl,_,SqL.of hF9⟩,_,rfl,Fd,gs,_,rfl,rfl,hF9,by rw[hg];lia,λH10 k10 y10=>?_⟩;have nFa:Fd≠fa:=nD hF6;have nFD:D≠Fd:=λz=>by rw[z,hF6] at hD6;cases hD6
     have nFZ:Z_≠Fd:=λz=>by rw[z,sm8 _ _ hF6] at hZ;cases hZ
     have sH:Same H H9:=(sm.trans s6).trans sm9;refine⟨lf'.length,by rw[aZ];lia,_,Z_,lf',Fd,gs++[V.ref fa],fs++[F],rfl,rfl,hFd0,λb' o e=>(k10 b' (ax e hFd0)).trans (sH _ _ e),(k10 D nFD).trans (sm9 _ _ hD6),(k10 Z_ nFZ).trans yZ,y10,?_,ndf,λx hx=>hkey x ((hmem x).mp hx).1,?_,?_,?_,?_,?_,?_⟩
     .refine cX ?_ (.cons ⟨fa,rfl,(k10 fa (aF nFa)).trans (sZ _ _ y8)⟩ .nil);refine AU (λu l hu ⟨a,e1,e2⟩=>⟨a,e1,(k10 a λz=>hnot (by rw[<-z,<-e1];exact hu)).trans (sm9 _ _ (s6 _ _ e2))⟩) hgs
     .intro G hG;rcases ay.mp hG with h|h
      .exact hfan G h
      .rw[aR.mp h];exact fF
     .intro x hx;rcases hcov x hx with h|⟨G,hG,h⟩
      .by_cases hxF:x∈F
       .exact .inr ⟨F,by simp,hxF⟩
       .exact .inl ((hmem x).mpr ⟨h,hxF⟩)
      .exact .inr ⟨G,cf _ hG,h⟩
     .intro x hx G hG;rcases ay.mp hG with h|h
      .exact hdis x ((hmem x).mp hx).1 G h
      .rw[aR.mp h];exact ((hmem x).mp hx).2
     .refine tM.mpr ⟨hpw,pU _ _,λG hG F' hF' x hx hxF=>?_⟩;rw[aR.mp hF'] at hxF;exact dF x hxF G hG hx
     .rw[ar,bg];lia
     .intro z;rcases ay.mp z with h|h
      .exact hnot h
      .have:=aR.mp h;cases this;exact nFa rfl
end
end K15
end
section
namespace K15
def reE (v n:Nat) (F:List Nat) (e:Ent):Ent:=((rn v n F e.1.1 e.1.2,rn v n F e.1.2 e.2),rn v n F e.2 e.1.1)
theorem CY {ts:List Tri} {v n:Nat} {F:List Nat}:ents (ts.map (ren v n F))=(ents ts).map (reE v n F):=by
 induction ts with
 |nil=>rfl
 |cons t ts ih=>
  have h1:ents ((t::ts).map (ren v n F))=ents [ren v n F t]++ents (ts.map (ren v n F)):=by simp[ents]
  have h2:ents (t::ts)=ents [t]++ents ts:=by simp[ents]
  rw[h1,h2,bI,ih];rfl
def Co (ts:List Tri) (u:Nat):Prop:=∃p q,En ts u p q
theorem CT {ts:List Tri} {v n:Nat} {F:List Nat} (g:Good ts) (fr:∀a b c,En ts a b c->a≠n):Good (ts.map (ren v n F)):=by
 have k:=g.sk;have ks:=Hl (v:=v) (F:=F) k fr;refine⟨λt ht=>?_,?_⟩
 .obtain⟨⟨a,b,c⟩,h,rfl⟩:=aw.mp ht;have e1:En ts a b c:=dv.mpr (.inl h);have e2:=k.rot e1;have e3:=k.rot e2;exact⟨ks.ne (c:=rn v n F c a) ⟨a,b,c,e1,rfl,rfl,rfl⟩,ks.ne (c:=rn v n F a b) ⟨b,c,a,e2,rfl,rfl,rfl⟩,ks.ne (c:=rn v n F b c) ⟨c,a,b,e3,rfl,rfl,rfl⟩⟩
 .rw[CY,c9];have nd:=g.nd;have mem:∀e∈ents ts,En ts e.1.1 e.1.2 e.2:=λe he=>he;rw[List.Nodup,fX] at nd |-;refine nd.imp_of_mem λ{x y} hx hy h z=>h ?_;have z:=eP z;obtain⟨⟨a,b⟩,c⟩:=x;obtain⟨⟨a',b'⟩,c'⟩:=y;have e:En ts a b c:=mem _ hx;have e':En ts a' b' c':=mem _ hy;have z1:rn v n F a b=rn v n F a' b':=z.1;have z2:rn v n F b c=rn v n F b' c':=z.2;have key:∀{p q p' q'},p≠n->p'≠n->rn v n F p q=rn v n F p' q'->p=p':=by
   intro p q p' q' h1 h2 h3;by_cases hx:rn v n F p q=n
   .rw[(gW h1 hx).1,(gW h2 (h3 ▸ hx)).1]
   .rw[<-fR hx,h3,fR (h3 ▸ hx)]
  show (a,b)=(a',b');rw[key (fr _ _ _ e) (fr _ _ _ e') z1,key (fr _ _ _ (k.rot e)) (fr _ _ _ (k.rot e')) z2]
structure Mid (ts:List Tri) (v:Nat) (F0:List Nat) (fs:List (List Nat)) (rest:List Nat):Prop where
 good:Good ts
 fans:Fans (En ts) v (F0::fs)
 oth:∀u,Co ts u->u=v\/u∈rest\/One (En ts) u
theorem DR {E E':Nat->Nat->Nat->Prop} (h:∀a b c,E a b c↔E' a b c):E=E':=by funext a b c;exact propext (h a b c)
theorem CJ {ts:List Tri} {v n:Nat} {F0 F:List Nat} {fs:List (List Nat)} {rest:List Nat} (m:Mid ts v F0 (F::fs) rest) (fr:∀u,Co ts u->u≠n):Mid (ts.map (ren v n F)) v F0 fs rest:=by
 have fr':∀a b c,En ts a b c->a≠n:=λa b c h=>fr a ⟨b,c,h⟩;have k:=m.good.sk;have eE:En (ts.map (ren v n F))=Rn (En ts) v n F:=DR λ_ _ _=>F8;have hF:=m.fans.fan F (by simp);have hv:v≠n:=by obtain⟨p,hp⟩:=IB _ hF.ne;obtain⟨q,hq⟩:=hF.key p hp;exact fr' _ _ _ hq
 have dis:=m.fans.dis;rw[zg,zg] at dis;obtain⟨d0,d1,d2⟩:=dis;have dF:∀G∈F0::fs,∀p∈F,p∉G:=by
  intro G hG p hp hpG;rcases af.mp hG with rfl|h
  .exact d0 F (by simp) p hpG hp
  .exact d1 G h p hp hpG
 refine⟨CT m.good fr',?_,?_⟩
 .rw[eE];refine⟨λG hG=>?_,λp ⟨q,hq⟩=>?_,?_⟩
  .refine CU k fr' hv (m.fans.fan G ?_) (dF G hG);rcases af.mp hG with rfl|h
   .simp
   .exact aY _ (aY _ h)
  .obtain⟨h1,h2⟩:=(jB k fr' hv).mp hq;obtain⟨G,hG,hp⟩:=m.fans.all p ⟨q,h1⟩;rcases af.mp hG with rfl|h
   .exact⟨G,by simp,hp⟩
   .rcases af.mp h with rfl|h
    .exact (h2 hp).elim
    .exact⟨G,aY _ h,hp⟩
  .rw[zg];exact⟨λG hG=>d0 G (aY _ hG),d2⟩
 .rintro u ⟨p,q,h⟩;rw[eE] at h |-;by_cases hun:u=n
  .subst hun;exact .inr (.inr (Cp k fr' hF))
  .obtain⟨a,b,c,h,e1,_,_⟩:=h;have ea:u=a:=by rw[e1];exact fR (by rw[<-e1];exact hun)
   subst ea;rcases m.oth u ⟨b,c,h⟩ with h1|h1|h1
   .exact .inl h1
   .exact .inr (.inl h1)
   .by_cases huv:u=v
    .exact .inl huv
    .exact .inr (.inr (Bm k fr' hF hv huv hun h1))
theorem D1 {ts:List Tri} {v:Nat} {F0:List Nat} {rest:List Nat} (m:Mid ts v F0 [] rest) (u:Nat) (hu:Co ts u):u∈rest\/One (En ts) u:=by
 rcases m.oth u hu with rfl|h
 .refine .inr ⟨F0,m.fans.fan F0 (by simp),λp hp=>?_⟩;obtain⟨G,hG,h⟩:=m.fans.all p hp;rw[aR.mp hG] at h;exact h
 .exact h
theorem Bs {ts:List Tri} {v:Nat} {F0:List Nat} {fs:List (List Nat)} {rest:List Nat} (g:Good ts) (h:Fans (En ts) v (F0::fs)) (o:∀u,Co ts u->u∈v::rest\/One (En ts) u):Mid ts v F0 fs rest:=
 ⟨g,h,λu hu=>(o u hu).elim (λz=>(af.mp z).elim .inl λz=>.inr (.inl z)) λz=>.inr (.inr z)⟩
theorem CK {ts:List Tri} {v:Nat} {rest:List Nat} (h:Fans (En ts) v []) (o:∀u,Co ts u->u∈v::rest\/One (En ts) u) (u:Nat) (hu:Co ts u):u∈rest\/One (En ts) u:=by
 rcases o u hu with z|z
 .rcases af.mp z with rfl|z
  .obtain⟨p,q,hp⟩:=hu;obtain⟨G,hG,_⟩:=h.all p ⟨q,hp⟩;cases hG
  .exact .inl z
 .exact .inr z
theorem gq {ts:List Tri} {u:Nat}:Co ts u↔∃t∈ts,u=t.1\/u=t.2.1\/u=t.2.2:=by
 constructor
 .rintro⟨p,q,h⟩;rcases dv.mp h with h|h|h
  .exact⟨_,h,.inl rfl⟩
  .exact⟨_,h,.inr (.inl rfl)⟩
  .exact⟨_,h,.inr (.inr rfl)⟩
 .rintro⟨⟨a,b,c⟩,h,rfl|rfl|rfl⟩
  .exact⟨b,c,dv.mpr (.inl h)⟩
  .exact⟨c,a,dv.mpr (.inr (.inl h))⟩
  .exact⟨a,b,dv.mpr (.inr (.inr h))⟩
end K15
end
section
namespace L2
open PySem PySem.Spec PyProof.Rows
section
theorem Inv.bareTup {a:Addr} (I:Inv X pins Z H s) (h:Rd H a (.tup xs)) :
  s.TypeIs (.ref a) "tuple"/\∃ob,s.heap.get? a=some ob/\ob.dict=none:=by
 obtain⟨⟨_,b⟩,its,r,p⟩:=h.ok I.hok;exact⟨p.typeIs,b⟩
def tTM2 (r:V->List V->Hp->VK->Prop) (x:V) (Q:VK):List V->Hp->Prop:=λvs H2=>r x vs H2 Q
def tTM1 (r:V->List V->Hp->VK->Prop) (t:TA) (Z:St) (Q:VK):VK:=λx H1=>(∃a xs,x=.ref a/\Rd H1 a (.tup xs))/\t Z H1 (tTM2 r x Q)
def tTM (r:V->List V->Hp->VK->Prop) (to:TE) (t:TA):TE:=λZ H Q=>to Z H (tTM1 r t Z Q)
theorem HK {o e:Expr} {es:List Expr} {to:TE} {t:TA} {name:Str} {apos cpos:Pos} {id:String} {r:V->List V->Hp->VK->Prop} (pa:PlainAttrs "tuple") (slot:Slot "tuple" name id) (hty:typeOf (.builtin id)=pure (.type "method_descriptor")) (hm:MtM X id r) (ho:PE X o to) (ha:PA X (e::es) t)
  (hbase:attributeBase o name X.env (eval o X.env)=eval o X.env:=by rfl)
  (hfew:((backTo cpos (starEach (e::es) X.env)).all (λx=>!x.1)&&(backToKw cpos (keywordEach [] X.env)).all (λx=>x.1.isSome)
   && decide ((e::es).length+([]:List Keyword).length+(if ([]:List Keyword).isEmpty then 0 else 1)<30))=true:=by rfl)
  (hline:(apos.endLine==cpos.line)=true:=by rfl) (hs:starEach (e::es) X.env=(false,eval e X.env)::starEach es X.env:=by rfl) (hplain:(backTo cpos (starEach es X.env)).any (·.1)=false:=by rfl) :
  PE X (.Call (.Attribute o name apos) (e::es) [] cpos) (tTM r to t):=by
 intro pins s Z H Q I h;refine JL hbase hfew hline rfl (thn (ho pins s Z H _ I h) λv s1 ⟨x,H1,I1,r1,⟨a,xs,ex,hx⟩,q1⟩=>?_);subst ex;obtain rfl:v=Value.ref a:=r1;obtain⟨h1,h2⟩:=I1.bareTup hx;refine⟨"tuple",id,pa,slot,hty,h1,λb e=>by cases e;exact h2,?_⟩;have hA:=ha cpos pins s1 Z H1 _ I1 q1;rw[hs] at hA |-;refine pA (by show (false||(backTo cpos (starEach es X.env)).any (·.1))=false;rw[hplain]<;>rfl) (sV ?_);exact thn hA λus s2 ⟨vs,H2,I2,r2,q2⟩=>hm pins s2 Z H2 (.ref a) vs (.ref a) us Q I2 rfl r2 q2
end
end L2
end
section
namespace K15
open PySem L2 K51 K31
theorem iS {A B:TS} {D:Ends} (R:St->Hp->Prop) (hA:∀NX:St->Hp->Prop,(∀Z H,R Z H->NX Z H)->A {D with nx:=NX} Z H) (hB:∀Z H,R Z H->B D Z H):sv A B D Z H:=hA (B D) hB
theorem De {x:V} {i:Nat} {B:TS} {D:Ends} (h:B D (Z.set i (some x)) H):sv (pg (tC x) (dZ i)) B D Z H:=h
theorem DH {v n a b c:Nat} {F:List Nat} (h1:a=v->b∉F) (h2:b=v->c∉F) (h3:c=v->a∉F):rn v n F a b=a/\rn v n F b c=b/\rn v n F c a=c:=by unfold rn;exact⟨K2 λz=>h1 z.1 z.2,K2 λz=>h2 z.1 z.2,K2 λz=>h3 z.1 z.2⟩
theorem Fe {v n a b c:Nat} {F:List Nat} (h:a=v/\b∈F\/b=v/\c∈F\/c=v/\a∈F) (n1:a≠b) (n2:b≠c) (n3:c≠a) :
  rn v n F a b=(if a=v then n else a)/\rn v n F b c=(if b=v then n else b)/\rn v n F c a=if c=v then n else c:=by
 unfold rn;rcases h with ⟨rfl,h⟩|⟨rfl,h⟩|⟨rfl,h⟩
 .exact⟨by rw[K3 ⟨rfl,h⟩,K3 rfl],by rw[K2 λz=>n1 z.1.symm,K2 λz=>n1 z.symm],by rw[K2 λz=>n3 z.1,K2 n3]⟩
 .exact⟨by rw[K2 λz=>n1 z.1,K2 n1],by rw[K3 ⟨rfl,h⟩,K3 rfl],by rw[K2 λz=>n2 z.1.symm,K2 λz=>n2 z.symm]⟩
 .exact⟨by rw[K2 λz=>n3 z.1.symm,K2 λz=>n3 z.symm],by rw[K2 λz=>n2 z.1,K2 n2],by rw[K3 ⟨rfl,h⟩,K3 rfl]⟩
def BZ (vs:List V) (H:Hp) (Q:VK) (T:Addr) (vt:List V) (ts:List Tri):Prop:=vs=[.ref T]/\H T=some (.lst vt)/\bh H vt ts/\ts.length<=20/\Good ts/\
 ∀r vr ts' H',Same H H'->H' r=some (.lst vr)->bh H' vr ts'->ts'.length=ts.length->Good ts'->(∀u,Co ts' u->One (En ts') u)->Q (.ref r) H'
def wg:Sp:=λvs H Q _=>Exists (Ex3 (BZ vs H Q))
section
theorem gi:bS ["_law_triples","_law_corner","_law_fan","_law_new","_law_made","_law_triple","_law_at_here"] ["_law_triples"] (bu l6):=by walk_at"sc"
theorem Cv {f f1 f2:Addr} {fd d1 d2:FuncData} (U:Fun K "_law_split" "_law_split" l6 f fd) (T:di mg) (mM:mg "max" = none)
  (G1:FnOk P w K mg base CX0 2 f1 d1 ["_law_triples"] nX) (b1:Binds K d1 ["_law_triples"] []) (m1:mg "_law_corners" = some (.ref f1)) (k1:W.keepIn K (.ref f1)=true)
  (G2:FnOk P w K mg base CX0 2 f2 d2 ["_law_triples","_law_corner"] xw) (b2:Binds K d2 ["_law_triples","_law_corner"] []) (m2:mg "_law_fans" = some (.ref f2)) (k2:W.keepIn K (.ref f2)=true) :
  FnOk P w K mg base CX0 3 f fd ["_law_triples"] wg:=by
 refine U.ok gi (λvs H Q E h=>?_) (λcdv A outer s H vs Q E hr h=>?_)
 .obtain⟨T,vt,ts,rfl,_⟩:=h;rfl
 .obtain⟨T0,vt,ts,rfl,hT,ht,hl,g,q⟩:=h;have hu:=fB hr;refine⟨_,(ak (dh cD rfl (dr (aP G1 hr rfl m1 k1 b1 .nil pass0 (aa (pv 0) ae))) (aK (i:=1) gi.nd rfl (.inr rfl)) (au (dh cD rfl (dr (cS cT (aP G2 hr rfl m2 k2 b2 .nil pass0 (aa (pv 0) (aa (pv 1) ae))) (ck ag) dq)) (aK (i:=2) gi.nd rfl (.inl rfl)) (ak (aA (i:=3) gi.nd rfl (.inr rfl) (aD cb (a9 (uo rfl) (by rfl) mM zB (aa (aP G1 hr rfl m1 k1 b1 .nil pass0 (aa (pv 0) ae)) ae)) ag))
   (ak (aA (i:=4) gi.nd rfl (.inl rfl) (br ae))
   (ak (dh cD rfl (dr (pv 0)) (aK (i:=5) gi.nd rfl (.inl rfl)) (ak (aA (i:=6) gi.nd rfl (.inl rfl) ag)
   (ak (bL (aL kJ (pv 1) (pv 5) rfl) (au (aA (i:=6) gi.nd rfl (.inl rfl) (HK PySem.F.plainAttrs_tuple Ju PySem.F.type_tuple_index (Br hr.units) (pv 5) (aa (pv 1) ae)))) bJ)
   (ak (bL (PW.pt (eG (aL fW (pv 6) ag (nomark _)) (eM (aL kJ (aq cB (pv 5) (aD gr (aD cb (pv 6) ag) ag) (λ_ _=>rfl)) (pv 2) rfl)))) (au (aA (i:=5) gi.nd rfl (.inl rfl) (ff Af (by rfl) T.tuple J_ (aa (gj (N:=["_law_one","_law_new","_law_corner"]) (fr:=[none,some 3,some 1]) (te:=tOp (sN []) (sF (i7 (eh 0) (i7 (eh 1) mO))) (tCB (λxs H Q=>(∃i,xs=[.int i]/\Q (.int i) H)\/∃k,xs=[.bl k]/\Q (.int (if k then 1 else 0)) H) (i7 (tOp rEq (eh 0) (eh 2)) mO))) (eR (by decide +kernel) rfl rfl (by decide +kernel) (by decide +kernel) (by walk_at"cs") (by walk_at"ct")) rfl (xB (pv 5))
     (λC' s' H' fp pins=>⟨aK (i:=0) (show (["_law_one","_law_new","_law_corner"]:List Str).Nodup by decide +kernel) rfl (.inl rfl) (.inr rfl),jD,aq aI (br (aa (pv 0) (aa (pv 1) ae))) (ff qr (by rfl) T.int zw (aa (oz du (pv 0) (pv 2) (nomark _)) ae)) (λ_ _=>rfl)⟩)) ae)))) bJ)
   (au (cy (cK cM da de cN (pv 4) (aa (pv 5) ae))))))))
   (au (aA (i:=0) gi.nd rfl (.inl rfl) (pv 4)))))))))
   (au (bj (pv 0)))),?_⟩
  have hline:=line5000;refine⟨_,rfl,T0,vt,ts,rfl,hT,ht,hl,λr0 cs H1 hr0 s1 y1 hcs hcl=>?_⟩;refine⟨r0,rfl,⟨_,SqL.of y1⟩,gJ (K:=[]) (a:=r0) (xs:=nV cs) (λi Z H'=>∃v1 v2 v3 v4 v5 v6 Tc vc tc,Z=[some (V.ref Tc),v1,v2,v3,v4,v5,v6]/\Same H1 H'/\H' Tc=some (.lst vc)/\bh H' vc tc/\tc.length=ts.length/\Good tc/\∀u,Co tc u->u∈cs.drop i\/One (En tc) u)
   ⟨none,none,none,none,none,none,T0,vt,ts,rfl,Same.refl _,s1 _ _ hT,ht.same s1,rfl,g,λu hu=>.inl ?_⟩ (λi Z H' _ ⟨_,_,_,_,_,_,_,_,_,_,e,_⟩=>SqL.of (e _ _ y1)) ?_ ?_⟩
  .rw[m7,hcs.2];obtain⟨t,htm,hu⟩:=gq.mp hu;exact iH.mpr ⟨t,htm,by simpa using hu⟩
  .rintro i x Z H2 hi ⟨v1,v2,v3,v4,v5,v6,Tc,vc,tc,rfl,sm2,hTc,htc,hlc,gc,oc⟩;rw[nV,c7] at hi;obtain⟨v,hv,rfl⟩:=fJ.mp hi;have hil:=(aS.mp hv).1;have edr:cs.drop i=v::cs.drop (i+1):=by
    rw[eZ hil,(aS.mp hv).2]
   rw[edr] at oc;refine⟨_,rfl,_,rfl,Tc,vc,tc,v,rfl,hTc,htc,by lia,gc,λr gs fs H3 hr3 s3 y3 lps hfn hfl=>?_⟩;refine⟨1,rfl,r,gs,rfl,SqL.of y3,λp H4 hp s4 y4=>?_⟩;rw[show dP gs (some 1) none=gs.drop 1 from om gs 1] at y4;have sm4:=(sm2.trans s3).trans s4;cases fs with
   |nil=>
    cases lps;refine⟨p,rfl,⟨_,SqL.of y4⟩,gJ (K:=[]) (a:=p) (xs:=[]) (λj Z H'=>Z=[some (V.ref Tc),some (.int (v:Int)),v2,v3,v4,v5,v6]/\H'=H4) ⟨rfl,rfl⟩ (λj Z H' _ ⟨_,e⟩=>by rw[e];exact SqL.of y4) (λj x Z H' h=>by simp at h) ?_⟩;rintro Z H' ⟨rfl,rfl⟩;exact⟨_,_,_,_,_,_,Tc,vc,tc,rfl,sm4,s4 _ _ (s3 _ _ hTc),(htc.same s3).same s4,hlc,gc,CK hfn oc⟩
   |cons F0 fs=>
    obtain⟨g0,gs,rfl,hg0,hgs⟩:∃g0 gs',gs=g0::gs'/\j4 H3 g0 F0/\eI H3 gs' fs:=by
     cases lps with
     |cons a b=>exact⟨_,_,rfl,a,b⟩
    refine⟨p,rfl,⟨_,SqL.of y4⟩,gJ (K:=[]) (a:=p) (xs:=gs) (λj Z H'=>∃v2 v3 v4 v5 v6 Tc vc tc,Z=[some (V.ref Tc),some (.int (v:Int)),v2,v3,v4,v5,v6]/\Same H4 H'/\H' Tc=some (.lst vc)/\bh H' vc tc/\tc.length=ts.length/\Mid tc v F0 (fs.drop j) (cs.drop (i+1)))
     ⟨v2,v3,v4,v5,v6,Tc,vc,tc,rfl,Same.refl _,s4 _ _ (s3 _ _ hTc),(htc.same s3).same s4,hlc,Bs gc hfn oc⟩ (λj Z H' _ ⟨_,_,_,_,_,_,_,_,_,e,_⟩=>SqL.of (e _ _ y4)) ?_ ?_⟩
    .rintro j x Z H5 hj ⟨v2,v3,v4,v5,v6,Tc,vc,tc,rfl,sm5,hTc,htc,hlc,md⟩;obtain⟨F,hF,fa,rfl,hfa⟩:=dG hgs hj;have hjl:=(aS.mp hF).1;have efs:fs.drop j=F::fs.drop (j+1):=by
      rw[eZ hjl,(aS.mp hF).2]
     rw[efs] at md;have hfa5:=sm5 _ _ (s4 _ _ hfa);refine⟨_,rfl,Tc,vc,tc,rfl,hTc,htc,by lia,λrc cs2 H6 hrc s6 y6 hcs2 hcl2=>?_⟩;have ev:nV cs2=(cs2.map (λc:Nat=>(c:Int))).map V.int:=by rw[c9];rfl
     have hco:∀u,Co tc u->u∈cs2:=λu hu=>by
      rw[hcs2.2];obtain⟨t,htm,hu⟩:=gq.mp hu;exact iH.mpr ⟨t,htm,by simpa using hu⟩
     have hvc:Co tc v:=by have fF:=md.fans.fan F (by simp);obtain⟨p,hp⟩:=IB _ fF.ne;obtain⟨q,hq⟩:=fF.key p hp;exact⟨p,q,hq⟩
     refine⟨rc,_,rfl,SqL.of (by rw[y6,ev]),λz=>?_,λm hm hmax=>⟨_,_,rfl,rfl,?_⟩⟩
     .have:=hco v hvc;rw[IR.mp z] at this;cases this
     obtain⟨n0,hn0,rfl⟩:=aw.mp hm;have hfr:∀u,Co tc u->u≠n0+1:=λu hu z=>by
      have:=hmax (u:Int) (aw.mpr ⟨u,hco u hu,rfl⟩);lia
     have en:V.int ((n0:Int)+1)=V.int ((n0+1:Nat):Int):=rfl;have mdS:=CJ md hfr;have hvn:=hfr v hvc;generalize n0+1=n at hfr en mdS hvn;refine⟨aT _,λmo H7 hmo s7 y7=>?_⟩;have hT7:=s7 _ _ (s6 _ _ hTc);have ht7:=(htc.same s6).same s7;refine⟨_,rfl,Tc,rfl,⟨_,SqL.of hT7⟩,gJ (K:=[]) (a:=Tc) (xs:=vc) (λk Z H'=>∃v5 v6 vm,Z=[some (V.ref Tc),some (.int (v:Int)),some (.ref fa),some (.int (n:Int)),some (.ref mo),v5,v6]/\Same H6 H'/\H' mo=some (.lst vm)/\bh H' vm ((tc.take k).map (ren v n F)))
      ⟨v5,v6,[],by rw[<-en];rfl,s7,y7,.nil⟩ (λk Z H' _ ⟨_,_,_,_,e,_⟩=>SqL.of (e _ _ (s6 _ _ hTc))) ?_ ?_⟩
     .rintro k x Z H8 hk ⟨v5,v6,vm,rfl,sm8,hmo8,hvm⟩;obtain⟨⟨a,b,c⟩,hs,t,rfl,hb⟩:=dG htc hk;have hb:H5 t=some (.tup [.int (a:Int),.int (b:Int),.int (c:Int)]):=hb;have hb8:=sm8 _ _ (s6 _ _ hb);have hF8:=sm8 _ _ (s6 _ _ hfa5);obtain⟨n1,n2,n3⟩:a≠b/\b≠c/\c≠a:=md.good.ne (a,b,c) (a7 hs);have et:(tc.take (k+1)).map (ren v n F)=(tc.take k).map (ren v n F)++[(rn v n F a b,rn v n F b c,rn v n F c a)]:=by rw[cU,hs,bI];rfl
      have vml:vm.length<=20:=by rw[aU hvm,aQ,bG];lia
      refine De ?_;refine iS (λZ H'=>∃j:Nat,Z=[some (V.ref Tc),some (.int (v:Int)),some (.ref fa),some (.int (n:Int)),some (.ref mo),some (.ref t),some (.int (j:Int))]/\H'=H8/\(j=3/\a≠v/\b≠v/\c≠v\/j=0/\a=v\/j=1/\b=v\/j=2/\c=v)) (λNX z=>?_) ?_
      .refine⟨_,rfl,_,rfl,t,_,rfl,.inr (SqT.of hb8),rfl,rfl,_,rfl,?_⟩;show if (if false=true then _ else inV (V.int (v:Int)) (nV [a,b,c]))=true then _ else _
       rw[K2 cq,iZ];by_cases hv3:v∈[a,b,c]
       .rw[K4 hv3];refine aJ ⟨_,rfl,⟨t,_,rfl,.inl hb8⟩,_,rfl,?_⟩;have dts:Dts [] H8 [V.int (a:Int),.int (b:Int),.int (c:Int)] [.int (a:Int),.int (b:Int),.int (c:Int)]:=.cons (.int _) (.cons (.int _) (.cons (.int _) .nil));have eqi:∀x y:Nat,PyData.eqv (.int (x:Int)) (.int (y:Int))=decide (x=y):=λx y=>by
         rw[dn];simp[PyData.eqv];lia
        have dd:(PyData.int (v:Int)).depth<=60:=by simp[PyData.depth]
        by_cases ha:a=v
        .exact⟨t,_,_,_,_,0,rfl,rfl,SqT.of hb8,dts,.int _,dd,by simp,by show PyData.eqv (.int (a:Int)) _=true;rw[eqi];exact K4 ha,λm hm=>by lia,z _ _ ⟨0,rfl,rfl,.inr (.inl ⟨rfl,ha⟩)⟩⟩
        .have f0:PyData.eqv (.int (a:Int)) (.int (v:Int))=false:=by rw[eqi];exact K5 ha
         by_cases hbv:b=v
         .refine⟨t,_,_,_,_,1,rfl,rfl,SqT.of hb8,dts,.int _,dd,by simp,by show PyData.eqv (.int (b:Int)) _=true;rw[eqi];exact K4 hbv,λm hm=>?_,z _ _ ⟨1,rfl,rfl,.inr (.inr (.inl ⟨rfl,hbv⟩))⟩⟩;obtain rfl:m=0:=by lia
          exact f0
         .have f1:PyData.eqv (.int (b:Int)) (.int (v:Int))=false:=by rw[eqi];exact K5 hbv
          have hcv:c=v:=by
           simp only[af,a8,or_false] at hv3;rcases hv3 with h|h|h
           .exact (ha h.symm).elim
           .exact (hbv h.symm).elim
           .exact h.symm
          refine⟨t,_,_,_,_,2,rfl,rfl,SqT.of hb8,dts,.int _,dd,by simp,by show PyData.eqv (.int (c:Int)) _=true;rw[eqi];exact K4 hcv,λm hm=>?_,z _ _ ⟨2,rfl,rfl,.inr (.inr (.inr ⟨rfl,hcv⟩))⟩⟩;obtain rfl|rfl:m=0\/m=1:=by lia
          .exact f0
          .exact f1
       .rw[K5 hv3];simp only[af,a8,or_false,not_or] at hv3;exact av (z _ _ ⟨3,rfl,rfl,.inl ⟨rfl,aF hv3.1,aF hv3.2.1,aF hv3.2.2⟩⟩)
      rintro Z H9 ⟨j,rfl,rfl,hj3⟩;refine iS (λZ H'=>∃t' w6,Z=[some (V.ref Tc),some (.int (v:Int)),some (.ref fa),some (.int (n:Int)),some (.ref mo),some (.ref t'),w6]/\Same H9 H'/\H' t'=some (.tup [.int (rn v n F a b:Int),.int (rn v n F b c:Int),.int (rn v n F c a:Int)])) (λNX z=>?_) ?_
      .obtain⟨y,hy,hyr⟩:∃y:Nat,(j<3->atI [V.int (a:Int),.int (b:Int),.int (c:Int)] (((j:Int)+1)%3)=some (V.int (y:Int)))/\(j<3->(y∈F->a=v/\b∈F\/b=v/\c∈F\/c=v/\a∈F)/\(y∉F->(a=v->b∉F)/\(b=v->c∉F)/\(c=v->a∉F))):=by
        rcases hj3 with ⟨rfl,_⟩|⟨rfl,h⟩|⟨rfl,h⟩|⟨rfl,h⟩
        .exact⟨0,λz=>by lia,λz=>by lia⟩
        .exact⟨b,λ_=>cA (j:=1) rfl,λ_=>⟨λz=>.inl ⟨h,z⟩,λz=>⟨λ_=>z,λe=>(n1 (h.trans e.symm)).elim,λe=>(n3 (e.trans h.symm)).elim⟩⟩⟩
        .exact⟨c,λ_=>cA (j:=2) rfl,λ_=>⟨λz=>.inr (.inl ⟨h,z⟩),λz=>⟨λe=>(n1 (e.trans h.symm)).elim,λ_=>z,λe=>(n2 (h.trans e.symm)).elim⟩⟩⟩
        .exact⟨a,λ_=>cA (j:=0) rfl,λ_=>⟨λz=>.inr (.inr ⟨h,z⟩),λz=>⟨λe=>(n3 (h.trans e.symm)).elim,λe=>(n2 (e.trans h.symm)).elim,λ_=>z⟩⟩⟩
       have same:(a=v->b∉F)/\(b=v->c∉F)/\(c=v->a∉F)->NX [some (V.ref Tc),some (.int (v:Int)),some (.ref fa),some (.int (n:Int)),some (.ref mo),some (.ref t),some (.int (j:Int))] H9:=λh=>by
        obtain⟨e1,e2,e3⟩:=DH (n:=n) h.1 h.2.1 h.2.2;exact z _ _ ⟨t,_,rfl,Same.refl _,by rw[e1,e2,e3];exact hb8⟩
       refine⟨_,rfl,_,_,rfl,rfl,_,rfl,?_⟩;show if decide ((j:Int)<3)=true then _ else _
       by_cases hj:j<3
       .rw[K4 (show (j:Int)<3 by lia)];refine aJ ?_;refine⟨_,rfl,_,rfl,_,_,rfl,rfl,_,_,rfl,rfl,by lia,t,_,_,_,rfl,rfl,SqT.of hb8,hy hj,_,rfl,fa,_,rfl,.inl (SqL.of hF8),rfl,jE _,_,rfl,?_⟩;show if (if false=true then _ else inV (V.int (y:Int)) (nV F))=true then _ else _
        rw[K2 cq,iZ];by_cases hyF:y∈F
        .rw[K4 hyF];refine aJ ?_;obtain⟨e1,e2,e3⟩:=Fe (n:=n) ((hyr hj).1 hyF) n1 n2 n3;have fv:∀z:Nat,atI [V.int (z:Int),V.int (n:Int)] (if decide ((z:Int)=(v:Int))=true then 1 else 0)=some (V.int ((if z=v then n else z:Nat):Int)):=λz=>by
          by_cases h:z=v
          .rw[K3 (K4 (by lia)),K3 h];exact cA (j:=1) rfl
          .rw[K2 (by simp;lia),K2 h];exact cA (j:=0) rfl
         refine⟨_,rfl,t,rfl,⟨_,SqT.of hb8⟩,λZ_ hZ=>C5 (K:=[]) (a:=t) (xs:=nV [a,b,c]) (λi Z ys H'=>∃o,Z=[o,some (.int (n:Int)),some (.int (v:Int))]/\ys=nV (([a,b,c].take i).map λz=>if z=v then n else z)/\Same H9 H'/\H' Z_=some (.lst ys)) ⟨none,rfl,rfl,dD hZ,cx⟩ (λi Z ys H' _ ⟨_,_,_,e,_⟩=>SqT.of (e _ _ hb8)) ?_ ?_⟩
         .rintro i x Z ys H' hi ⟨o,rfl,rfl,sm',hZ'⟩;rw[nV,c7] at hi;obtain⟨z,hz,rfl⟩:=fJ.mp hi;have hil:i<3:=(aS.mp hz).1;refine⟨_,rfl,_,rfl,lit2,λl2 H'' hl2 s'' y''=>?_⟩;refine⟨_,rfl,_,rfl,rfl,.inr ⟨_,rfl,l2,_,_,V.int ((if z=v then n else z:Nat):Int),rfl,rfl,SqL.of y'',?_,s'' _ _ hZ',?_,λH3 k3 y3=>⟨_,rfl,?_,λb' o e=>(k3 b' (λq=>by rw[q] at e;rw[e] at hZ;cases hZ)).trans (s'' _ _ (sm' _ _ e)),y3⟩⟩⟩
          .rw[jZ];exact fv z
          .rw[bO,aQ,bG];simp;lia
          .rw[cU,hz,bI,<-gP];rfl
         .rintro Z ys H' ⟨o,rfl,rfl,sm',hZ'⟩;refine⟨Z_,_,rfl,.inl ⟨SqL.of hZ',λt' ht'=>?_⟩⟩;exact z _ _ ⟨t',_,rfl,sm'.trans (dD ht'),by rw[cx,e1,e2,e3];rfl⟩
        .rw[K5 hyF];exact av (same ((hyr hj).2 hyF))
       .rw[K5 (show ¬(j:Int)<3 by lia)];refine av (av (same ?_));rcases hj3 with ⟨_,h1,h2,h3⟩|⟨h,_⟩|⟨h,_⟩|⟨h,_⟩
        .exact⟨λz=>(h1 z).elim,λz=>(h2 z).elim,λz=>(h3 z).elim⟩
        all_goals lia
      .rintro Z H10 ⟨t',w6,rfl,sm10,ht'⟩;have hm10:=sm10 _ _ hmo8;refine⟨_,rfl,.inl ⟨rfl,_,SqL.of hm10⟩,_,rfl,mo,vm,_,rfl,rfl,hm10,by lia,λH11 k11 y11=>?_⟩;refine⟨_,_,_,rfl,λb' o e=>(k11 b' (ax e hmo)).trans ((sm8.trans sm10) _ _ e),y11,?_⟩;rw[et];have tn:∀{b':Addr} {xs:List V},H10 b'=some (.tup xs)->b'≠mo:=λe=>bM e hm10 (by simp);refine cX (Paired.imp' (λ_ _ ⟨b',e1,e2⟩=>⟨b',e1,(k11 b' (tn (sm10 _ _ e2))).trans (sm10 _ _ e2)⟩) hvm) (.cons ⟨t',rfl,(k11 t' (tn ht')).trans ht'⟩ .nil)
     .rintro Z H8 ⟨v5,v6,vm,rfl,sm8,hmo8,hvm⟩;rw[aU htc,fY] at hvm;exact⟨_,rfl,_,_,_,_,_,mo,vm,_,rfl,(sm5.trans s6).trans sm8,hmo8,hvm,by rw[aQ];exact hlc,mdS⟩
    .rintro Z H5 ⟨v2,v3,v4,v5,v6,Tc,vc,tc,rfl,sm5,hTc,htc,hlc,md⟩;rw[aU hgs,tq] at md;exact⟨_,_,_,_,_,_,Tc,vc,tc,rfl,sm4.trans sm5,hTc,htc,hlc,md.good,D1 md⟩
  .rintro Z H2 ⟨v1,v2,v3,v4,v5,v6,Tc,vc,tc,rfl,sm2,hTc,htc,hlc,gc,oc⟩;rw[bO,tq] at oc;exact⟨_,rfl,q Tc vc tc H2 (s1.trans sm2) hTc htc hlc gc λu hu=>(oc u hu).resolve_left (by simp)⟩
end
def Rim (ts:List Tri) (s:Nat×Nat):Prop:=s∈(ents ts).map (·.1)/\(s.2,s.1)∉(ents ts).map (·.1)
theorem _root_.K31.SdsAt.same {ls:List (Nat×Nat)} (s:Same H H') (h:SdsAt H vs ls):SdsAt H' vs ls:=Paired.imp' (λ_ _ ⟨a,e,q⟩=>⟨a,e,s _ _ q⟩) h
def EZ (vs:List V) (H:Hp) (Q:VK) (T:Addr) (vt:List V) (ts:List Tri):Prop:=vs=[.ref T]/\H T=some (.lst vt)/\bh H vt ts/\ts.length<=200/\((ents ts).map (·.1)).Nodup/\
 ∀r zs rs H',H r=none->Same H H'->H' r=some (.lst zs)->SdsAt H' zs rs->(∀s∈rs,Rim ts s)->rs.length<=600->rs.Nodup/\(∀s,Rim ts s->s∈rs)->Q (.ref r) H'
def rX:Sp:=λvs H Q _=>Exists (Ex3 (EZ vs H Q))
section
theorem xZ:bS ["_law_triples","_law_thirds_here"] ["_law_triples"] (bu kq):=by walk_at"sc"
theorem Fw {f f1:Addr} {fd d1:FuncData} (U:Fun K "_law_rim_sides" "_law_rim_sides" kq f fd) (mS:mg "sorted" = none) (G:FnOk P w K mg base CX0 1 f1 d1 ["_law_triples"] spThirds) (b1:Binds K d1 ["_law_triples"] []) (m1:mg "_law_thirds" = some (.ref f1)) (k1:W.keepIn K (.ref f1)=true) :
  FnOk P w K mg base CX0 2 f fd ["_law_triples"] rX:=by
 refine U.ok xZ (λvs H Q E h=>?_) (λcdv A outer s H vs Q E hr h=>?_)
 .obtain⟨T,vt,ts,rfl,_⟩:=h;rfl
 .obtain⟨T,vt,ts,rfl,hT,ht,hl,hnd,q⟩:=h;have hu:=fB hr;refine⟨_,ak (aA (i:=1) xZ.nd rfl (.inr rfl) (aP G hr rfl m1 k1 b1 .nil pass0 (aa (pv 0) ae)))
   (au (bj (gj (N:=["_law_a","_law_b","_law_thirds_here"]) (fr:=[none,none,some 1]) (g:=mW [] 2 (gR (dZ 0) (gR (dZ 1) mX))) (eR (by decide +kernel) rfl rfl (by decide +kernel) (by decide +kernel) (by walk_at"cs") (by walk_at"ct")) rfl (dr (a9 (nM rfl) (by rfl) mS kj (aa (pv 1) ae)))
     (λC' s' H' fp pins=>⟨dX rfl (bB (aK (i:=0) (show (["_law_a","_law_b","_law_thirds_here"]:List Str).Nodup by decide +kernel) rfl (.inl rfl) (.inr rfl)) (bB (aK (i:=1) (show (["_law_a","_law_b","_law_thirds_here"]:List Str).Nodup by decide +kernel) rfl (.inl rfl) (.inr rfl)) dt)),
      gM (ml (qm hu (aN (aa (pv 1) (aa (pv 0) ae))) (pv 2))),aN (aa (pv 0) (aa (pv 1) ae))⟩)))),?_⟩
  have hline:=line5000;refine⟨_,rfl,T,vt,ts,rfl,hT,ht,by lia,hnd,λD H1 hD0 s1 hD=>?_⟩;refine⟨_,rfl,D,rfl,.inr ⟨_,hD⟩,λks vs hk=>.inr ⟨_,qC (gI (K:=[]) hD hk),?_,λp ix hp pm _=>?_⟩⟩
  .rw[aU (gI (K:=[]) hD hk),aQ,ents_len];lia
  have sd0:=gI (K:=[]) hD hk;have lk:=aU sd0;walk_at"H1 p hp H2 s2 y2";have ixb:∀i∈ix,i<ks.length:=λi hi=>gF.mp (pm.mem_iff.mp hi);have sdz:=oh (Paired.imp' (λ_ _ ⟨a,e,h⟩=>⟨a,e,s2 _ _ h⟩) sd0:SdsAt H2 ks ((ents ts).map (·.1))) ix ixb;have pss:(ix.map λi=>((ents ts).map (·.1)).getD i (0,0)).Perm ((ents ts).map (·.1)):=ql (by rw[<-lk];exact pm);generalize (ix.map λi=>((ents ts).map (·.1)).getD i (0,0))=ss at sdz pss;generalize (ix.map λi=>ks.getD i .non)=zs at sdz y2;have lz:=aU sdz;have ndss:ss.Nodup:=pss.nodup_iff.mpr hnd;have lss:ss.length<=600:=by rw[pss.length_eq,aQ,ents_len];lia
  refine⟨p,rfl,⟨_,SqL.of y2⟩,λZ_ hZ=>fg (K:=[]) (a:=p) (xs:=zs) (λi Z ys H'=>∃o1 o2 rs,Z=[o1,o2,some (.ref D)]/\Same H2 H'/\H' Z_=some (.lst ys)/\SdsAt H' ys rs/\(∀s∈rs,Rim ts s)/\rs.length<=i/\rs.Nodup/\(∀s∈rs,s∈ss.take i)/\∀s∈ss.take i,Rim ts s->s∈rs) ⟨none,none,[],rfl,dD hZ,cx,.nil,by simp,aC _,.nil,by simp,by simp⟩ (λi Z ys H' _ ⟨_,_,_,_,e,_⟩=>SqL.of (e _ _ y2)) ?_ ?_⟩
  .rintro i y Z ys H' hi ⟨o1,o2,rs,rfl,sm,hZ',sd,hrs,lrs,ndr,inr,allr⟩;obtain⟨⟨a,b⟩,hs,c,rfl,hc⟩:=dG sdz hi;have hil:i<ss.length:=(aS.mp hs).1;have hm:(a,b)∈(ents ts).map (·.1):=pss.mem_iff.mp (a7 hs);have et:ss.take (i+1)=ss.take i++[(a,b)]:=by rw[cU,hs];rfl
   refine⟨c,_,rfl,SqT.of (sm _ _ hc),rfl,_,_,rfl,_,_,rfl,rfl,?_⟩;refine⟨_,rfl,_,rfl,lit2,λt1 H3 g1 s3 y3=>?_⟩;have lys:ys.length<=600:=by rw[aU sd];lia
   refine⟨_,rfl,D,_,rfl,DGet.t (k:=ky b a) (s3 _ _ (sm _ _ (s2 _ _ hD))) y3,?_⟩;by_cases hba:(b,a)∈(ents ts).map (·.1)
   .have hv:(valV ((ents ts).map eC) (ky b a)).isSome=true:=by
     cases e:valV ((ents ts).map eC) (ky b a) with
     |none=>exact (kN.mp e hba).elim
     |some v=>rfl
    refine⟨false,by rw[hv];rfl,av ⟨_,_,rs,rfl,sm.trans s3,s3 _ _ hZ',K31.SdsAt.same s3 sd,hrs,by lia,ndr,λs hs'=>by rw[et];exact cf _ (inr s hs'),λs hs' hr'=>by
     rw[et] at hs';rcases ay.mp hs' with h|h
     .exact allr s h hr'
     .rw[aR.mp h] at hr';exact (hr'.2 hba).elim⟩⟩
   .refine⟨true,by rw[kN.mpr hba];rfl,aJ ⟨_,rfl,_,rfl,lit2,λt2 H4 g2 s4 y4=>?_⟩⟩;have hZ4:=s4 _ _ (s3 _ _ hZ');have tn:∀{b':Addr} {xs:List V},H4 b'=some (.tup xs)->b'≠Z_:=λe=>bM e hZ4 (by simp);refine⟨hZ4,by lia,λH5 k5 y5=>⟨_,_,rs++[(a,b)],rfl,λb' o e=>(k5 _ (ax e hZ)).trans (s4 _ _ (s3 _ _ (sm _ _ e))),y5,?_,?_,by rw[ar,bg];lia,?_,λs hs'=>?_,λs hs' hr'=>?_⟩⟩
    .exact cX (Paired.imp' (λ_ _ ⟨b',e1,e2⟩=>⟨b',e1,by have e3:=s4 _ _ (s3 _ _ e2);exact (k5 _ (tn e3)).trans e3⟩) sd) (.cons ⟨t2,rfl,(k5 _ (tn y4)).trans y4⟩ .nil)
    .intro s hs';rcases ay.mp hs' with h|h
     .exact hrs s h
     .rw[aR.mp h];exact⟨hm,hba⟩
    .rw[bZ];refine⟨ndr,by simp,λx hx z hz e=>?_⟩;rw[aR.mp hz] at e;rw[e] at hx;have nd:=ndss;rw[<-fc (i+1) ss,et,bZ,bZ] at nd;exact nd.1.2.2 _ (inr _ hx) _ (by simp) rfl
    .rw[et];rcases ay.mp hs' with h|h
     .exact cf _ (inr s h)
     .exact bN _ h
    .rw[et] at hs';rcases ay.mp hs' with h|h
     .exact cf _ (allr s h hr')
     .exact bN _ h
  .rintro Z ys H' ⟨o1,o2,rs,rfl,sm,hZ',sd,hrs,lrs,ndr,inr,allr⟩;refine q Z_ ys rs H' ?_ ((s1.trans s2).trans sm) hZ' sd hrs (by lia) ⟨ndr,λs hs=>allr s (by rw[gG (by lia)];exact pss.mem_iff.mpr hs.1) hs⟩;exact (s1.trans s2).free hZ
end
def But (p:Addr) (H H':Hp):Prop:=∀b o,b≠p->H b=some o->H' b=some o
theorem But.same {p:Addr} {H H' H'':Hp} (h:But p H H') (s:Same H' H''):But p H H'':=λb o n e=>s _ _ (h b o n e)
theorem lg20 {n:Nat} (h:n<=1000):((n:Int)+1).natAbs.log2<9000:=by
 have e:((n:Int)+1).natAbs=n+1:=by lia
 rw[e];have:=zj (n:=n+1) (k:=9000) (by lia);rw[this];exact c_ (show n+1<2 ^ 10 by lia) (zp (by decide) (by decide))
theorem qp {ts:List Tri} {x:Tri} (g:Good ts) (hne:x.1≠x.2.1/\x.2.1≠x.2.2/\x.2.2≠x.1) (hf:i9 ts x=true):Good (ts++[x]):=by
 refine⟨λt ht=>?_,?_⟩
 .rcases ay.mp ht with h|h
  .exact g.ne t h
  .rw[aR.mp h];exact hne
 .rw[ents_app,bI,bZ];obtain⟨a,b,c⟩:=x;obtain⟨n1,n2,n3⟩:a≠b/\b≠c/\c≠a:=hne;have hf':∀s∈dU (a,b,c),s∉(ents ts).map (·.1):=by
   intro s hs;unfold i9 at hf;exact K6 (iB.mp hf s hs)
  have ek:(ents [(a,b,c)]).map (·.1)=[(a,b),(b,c),(c,a)]:=rfl;rw[ek];refine⟨g.nd,?_,λs hs s' hs' z=>hf' s' hs' (z ▸ hs)⟩;simp[n1,n2,n3,aF n1,aF n2,aF n3]
theorem HZ {g:TG} {x:V} {tb:TS} {rt:VK} {bk P:St->Hp->Prop} (h:∀N:St->Hp->Prop,(∀Z' H',P Z' H'->N Z' H')->g x Z H (tb ⟨N,rt,bk,N⟩)):g x Z H λσ2 H2=>tb ⟨P,rt,bk,P⟩ σ2 H2:=h P λ_ _ z=>z
def B3 (vs:List V) (H:Hp) (Q:VK) (p:Addr) (q:Int×Int) (m:Nat):Prop:=vs=[.ref p,.int (m:Int)]/\H p=some (.lst (cG q))/\cY q/\m<=16/\
 ∀r vr ts q' H',H r=none->But p H H'->H' p=some (.lst (cG q'))->cY q'->H' r=some (.lst vr)->bh H' vr ts->ts.length<=m->Good ts->Q (.ref r) H'
def wm:Sp:=λvs H Q _=>Exists (Ex3 (B3 vs H Q))
def Cov (ts:List Tri) (n:Nat):Prop:=∀c,Co ts c↔c<n
theorem Gc {ts:List Tri} {cs:List Nat} {n:Nat} (h:Cs ts cs) (hc:Cov ts n):cs.length=n:=by
 have nd:cs.Nodup:=h.1.imp λhab=>cC hab;have:cs.Perm (List.range n):=(List.perm_ext_iff_of_nodup nd IV).mpr λa=>by
  rw[gF,h.2 a];refine Iff.trans ?_ (hc a);rw[gq];unfold flat;rw[iH];constructor
  .rintro⟨t,h1,h2⟩;exact⟨t,h1,by simpa using h2⟩
  .rintro⟨t,h1,h2⟩;exact⟨t,h1,by simpa using h2⟩
 rw[this.length_eq,pP]
theorem C4 {ts:List Tri} {n a b x:Nat} (hc:Cov ts n) (ha:a<n) (hb:b<n) (hx:x<n\/x=n):Cov (ts++[(b,a,x)]) (if x=n then n+1 else n):=λc=>by
 have:Co (ts++[(b,a,x)]) c↔Co ts c\/c=b\/c=a\/c=x:=by
  rw[gq,gq];constructor
  .rintro⟨t,h1,h2⟩;rcases ay.mp h1 with h|h
   .exact .inl ⟨t,h,h2⟩
   .rw[aR] at h;subst h;exact .inr h2
  .rintro (⟨t,h1,h2⟩|h)
   .exact⟨t,cf _ h1,h2⟩
   .exact⟨(b,a,x),by simp,h⟩
 rw[this,hc c]
 split<;>lia
theorem Er {ts:List Tri} {n:Nat} (hc:Cov ts n):Cov (ts++[(n,n+1,n+2)]) (n+3):=λc=>by
 have:Co (ts++[(n,n+1,n+2)]) c↔Co ts c\/c=n\/c=n+1\/c=n+2:=by
  rw[gq,gq];constructor
  .rintro⟨t,h1,h2⟩;rcases ay.mp h1 with h|h
   .exact .inl ⟨t,h,h2⟩
   .rw[aR] at h;subst h;exact .inr h2
  .rintro (⟨t,h1,h2⟩|h)
   .exact⟨t,cf _ h1,h2⟩
   .exact⟨(n,n+1,n+2),by simp,h⟩
 rw[this,hc c];lia
def sdD (s:Nat×Nat):PyData:=.tuple [.int (s.1:Int),.int (s.2:Int)]
theorem rE {ss:List (Nat×Nat)} (h:SdsAt H vs ss):Dts K H vs (ss.map sdD):=by
 induction h with
 |nil=>exact .nil
 |cons q _ ih=>
  obtain⟨a,rfl,ha⟩:=q;exact .cons (.tup (SqT.of ha) (.cons (.int _) (.cons (.int _) .nil))) ih
theorem B9 (ss:List (Nat×Nat)):(PyData.list (ss.map sdD)).depth<=60:=by
 have:PyData.depthAll (ss.map sdD)<=1:=by
  induction ss with
  |nil=>exact aT _
  |cons u us ih=>
   rw[aB];show max (sdD u).depth _<=1;have:(sdD u).depth=1:=by simp[sdD,PyData.depth,PyData.depthAll]
   lia
 show PyData.depthAll _+1<=60;lia
theorem Ei (ds:List PyData):PyData.eqv (.list ds) (.list [])=ds.isEmpty:=by cases ds<;>simp[PyData.eqv,PyData.eqvAll]
theorem free_of {ts:List Tri} (g:Good ts) {x:Tri} (h:∀s∈dU x,∀c,¬En ts s.1 s.2 c):i9 ts x=true:=by unfold i9;rw[iB];intro s hs;refine K4 λz=>?_;obtain⟨⟨⟨a,b⟩,c⟩,h1,rfl⟩:=aw.mp z;exact h (a,b) hs c h1
section
theorem fQ:bS ["_law_pot_here","_law_most","_law_triples","_law_k","_law_rim","_law_come","_law_new","_law_a","_law_b","_law_thirds_here","_law_some","_law_near"] ["_law_pot_here","_law_most"] (bu lI):=by walk_at"sc"
theorem CB {f f1 f2 f3 f4 f5:Addr} {fd d1 d2 d3 d4 d5:FuncData} (U:Fun K "_law_grown" "_law_grown" lI f fd) (T:di mg)
  (GD:FnOk P w K mg base CX0 2 f1 d1 ["_law_pot_here","_law_base"] lr) (bD:Binds K d1 ["_law_pot_here","_law_base"] []) (mD:mg "_law_digit" = some (.ref f1)) (kD:W.keepIn K (.ref f1)=true)
  (GT:FnOk P w K mg base CX0 2 f2 d2 ["_law_triples"] spThirds) (bT:Binds K d2 ["_law_triples"] []) (mT:mg "_law_thirds" = some (.ref f2)) (kT:W.keepIn K (.ref f2)=true)
  (GF:FnOk P w K mg base CX0 2 f3 d3 ["_law_thirds_here","_law_triple"] xv) (bF:Binds K d3 ["_law_thirds_here","_law_triple"] []) (mF:mg "_law_free" = some (.ref f3)) (kF:W.keepIn K (.ref f3)=true)
  (GR:FnOk P w K mg base CX0 2 f4 d4 ["_law_triples"] rX) (bR:Binds K d4 ["_law_triples"] []) (mR:mg "_law_rim_sides" = some (.ref f4)) (kR:W.keepIn K (.ref f4)=true)
  (GC:FnOk P w K mg base CX0 2 f5 d5 ["_law_triples"] nX) (bC:Binds K d5 ["_law_triples"] []) (mC:mg "_law_corners" = some (.ref f5)) (kC:W.keepIn K (.ref f5)=true) :
  FnOk P w K mg base CX0 3 f fd ["_law_pot_here","_law_most"] wm:=by
 refine U.ok fQ (λvs H Q E h=>?_) (λcdv A outer s H vs Q E hr h=>?_)
 .obtain⟨p,q,m,rfl,_⟩:=h;rfl
 .obtain⟨p,q,m,rfl,hp,pok,hm,Qq⟩:=h;have hu:=fB hr;refine⟨_,(ak (aA (i:=2) fQ.nd rfl (.inl rfl) (br ae))
   (ak (dh cD rfl (iO rfl T.range (aa (aP GD hr rfl mD kD bD .nil pass0 (aa (pv 0) (aa (aD cb (pv 1) ag) ae))) ae)) (aK (i:=3) fQ.nd rfl (.inl rfl))
    (ak (aA (i:=4) fQ.nd rfl (.inr rfl) (aP GR hr rfl mR kR bR .nil pass0 (aa (pv 2) ae)))
   (ak (aA (i:=5) fQ.nd rfl (.inl rfl) (aP GC hr rfl mC kC bC .nil pass0 (aa (pv 2) ae)))
   (ak (aA (i:=6) fQ.nd rfl (.inl rfl) (a9 cu (by rfl) T.len cF (aa (pv 5) ae)))
   (ak (bL (aL (iq hr.units) (pv 4) (br ae) (nomark _)) (ak (cy (cK cM da de cN (pv 2) (aa (aN (aa (pv 6) (aa (aD cb (pv 6) ag) (aa (aD cb (pv 6) ag) ae)))) ae)))
   (au Aq)) bJ)
   (ak (eV (aq aI (pv 4) (aP GD hr rfl mD kD bD .nil pass0 (aa (pv 0) (aa (a9 cu (by rfl) T.len cF (aa (pv 4) ae)) ae))) (λ_ _=>rfl)) (dX rfl (bB (aK (i:=7) fQ.nd rfl (.inr rfl)) (bB (aK (i:=8) fQ.nd rfl (.inr rfl)) dt))))
   (ak (aA (i:=9) fQ.nd rfl (.inr rfl) (aP GT hr rfl mT kT bT .nil pass0 (aa (pv 2) ae)))
   (ak (aA (i:=10) fQ.nd rfl (.inl rfl) (aD dI (gj (N:=["_law_x","_law_a","_law_b","_law_thirds_here"]) (fr:=[none,some 7,some 8,some 9])  (eR (by decide +kernel) rfl rfl (by decide +kernel) (by decide +kernel) (by walk_at"cs") (by walk_at"ct")) rfl (dr (pv 5))
     (λC' s' H' fp pins=>⟨(aK (i:=0) (show (["_law_x","_law_a","_law_b","_law_thirds_here"]:List Str).Nodup by decide +kernel) rfl (.inl rfl) (.inr rfl)),gM (PW.pt (eG (aL (show OpR _ (compareOp .NotIn) (rIn [] true) from iL) (pv 0) (aN (aa (pv 1) (aa (pv 2) ae))) rfl) (eM (mh (aP GF hr rfl mF kF bF .nil pass0 (aa (pv 3) (aa (aN (aa (pv 2) (aa (pv 1) (aa (pv 0) ae)))) ae))))))),(pv 0)⟩)) (br (aa (pv 6) ae))))
   (ak (aA (i:=11) fQ.nd rfl (.inl rfl) (aD dI (gj (N:=["_law_x","_law_a","_law_b","_law_rim"]) (fr:=[none,some 7,some 8,some 4])  (eR (by decide +kernel) rfl rfl (by decide +kernel) (by decide +kernel) (by walk_at"cs") (by walk_at"ct")) rfl (dr (pv 10))
     (λC' s' H' fp pins=>⟨(aK (i:=0) (show (["_law_x","_law_a","_law_b","_law_rim"]:List Str).Nodup by decide +kernel) rfl (.inl rfl) (.inr rfl)),gM (PW.pt (i8 (aL (show OpR _ (compareOp .In) (sO [] false) from xD hr.units) (aN (aa (pv 2) (aa (pv 0) ae))) (pv 3) rfl) (jM (aL (show OpR _ (compareOp .In) (sO [] false) from xD hr.units) (aN (aa (pv 0) (aa (pv 1) ae))) (pv 3) rfl)))),(pv 0)⟩)) (pv 10)))
   (au (cy (cK cM da de cN (pv 2) (aa (aN (aa (pv 8) (aa (pv 7) (aa (aq aI (pv 11) (aP GD hr rfl mD kD bD .nil pass0 (aa (pv 0) (aa (a9 cu (by rfl) T.len cF (aa (pv 11) ae)) ae))) (λ_ _=>rfl)) ae)))) ae)))))))))))))
   (au (bj (pv 2))))),?_⟩
  have hline:=line5000;refine⟨aT _,λfo H1 hfo s1 y1=>?_⟩;obtain⟨d3,d4⟩:=gK (q:=q) (b:=(m:Int)+1) (by lia);refine⟨_,rfl,_,rfl,_,_,rfl,rfl,p,q,_,rfl,s1 _ _ hp,pok,by lia,lg20 (by lia),λH2 k2 y2=>⟨_,rfl,by lia,by lia,?_⟩⟩;have nfp:fo≠p:=λz=>by rw[z,hp] at hfo;cases hfo
  have hN:(digO q ((m:Int)+1)).toNat<=m:=by lia
  generalize (digO q ((m:Int)+1)).toNat=N at hN;refine jq (lo:=0) (n:=N) (λi Z H'=>∃o3 o4 o5 o6 o7 o8 o9 oa ob vf tf q' n,Z=[some (V.ref p),some (.int (m:Int)),some (.ref fo),o3,o4,o5,o6,o7,o8,o9,oa,ob]/\But p H H'/\H' p=some (.lst (cG q'))/\cY q'/\H' fo=some (.lst vf)/\bh H' vf tf/\tf.length<=i/\Good tf/\Cov tf n)
   ⟨none,none,none,none,none,none,none,none,none,[],[],_,0,rfl,λb' o nb e=>(k2 b' nb).trans (s1 _ _ e),y2,fm pok,(k2 fo nfp).trans y1,.nil,aC _,⟨by simp,by simp[ents]⟩,λc=>by simp[gq]⟩ ?_ ?_
  .rintro i Z H4 hi ⟨o3,o4,o5,o6,o7,o8,o9,oa,ob,vf,tf,q4,n,rfl,sm,hp4,pok4,hfo4,tr4,htl,gf,cov⟩;refine HZ λNX hN=>?_;have ltf:tf.length<=16:=by lia
   have lvf:=aU tr4;have fin:∀(t:Addr) (u:Tri) (H8:Hp) (q8:Int×Int) (n':Nat) (x3 x4 x5 x6 x7 x8 x9 xa xb:Option V),But p H H8->H8 p=some (.lst (cG q8))->cY q8->H8 fo=some (.lst vf)->bh H8 vf tf->H8 t=some (.tup [.int (u.1:Int),.int (u.2.1:Int),.int (u.2.2:Int)])->Good (tf++[u])->Cov (tf++[u]) n'->∀H9:Hp,(∀b',b'≠fo->H9 b'=H8 b')->H9 fo=some (.lst (vf++[V.ref t]))->
     ∃o3 o4 o5 o6 o7 o8 o9 oa ob vf' tf' q' n',[some (V.ref p),some (.int (m:Int)),some (.ref fo),x3,x4,x5,x6,x7,x8,x9,xa,xb]=[some (V.ref p),some (.int (m:Int)),some (.ref fo),o3,o4,o5,o6,o7,o8,o9,oa,ob]/\But p H H9/\H9 p=some (.lst (cG q'))/\cY q'/\H9 fo=some (.lst vf')/\bh H9 vf' tf'/\tf'.length<=i+1/\Good tf'/\Cov tf' n':=by
    intro t u H8 q8 n' x3 x4 x5 x6 x7 x8 x9 xa xb b8 p8 k8 f8 tr8 ht g8 c8 H9 k9 y9;have tn:∀{b':Addr} {xs:List V},H8 b'=some (.tup xs)->b'≠fo:=λe=>bM e f8 (by simp);refine⟨_,_,_,_,_,_,_,_,_,_,tf++[u],q8,n',rfl,λb' o nb e=>(k9 b' (ax e hfo)).trans (b8 b' o nb e),(k9 p (aF nfp)).trans p8,k8,y9,?_,by rw[ar,bg];lia,g8,c8⟩;exact cX (Paired.imp' (λ_ _ ⟨b',e1,e2⟩=>⟨b',e1,(k9 _ (tn e2)).trans e2⟩) tr8) (.cons ⟨t,rfl,(k9 _ (tn ht)).trans ht⟩ .nil)
   have notco:∀{a b c:Nat},En tf a b c->a<n/\b<n:=λ{a b c} e=>⟨(cov a).mp ⟨b,c,e⟩,(cov b).mp ⟨c,a,gf.sk.rot e⟩⟩;refine⟨_,rfl,fo,vf,tf,rfl,hfo4,tr4,by lia,gf.nd,λRm zs rs H5 hR0 s5 y5 sd hrim lrs _=>?_⟩;refine⟨_,rfl,fo,vf,tf,rfl,s5 _ _ hfo4,tr4.same s5,by lia,λL cs H6 hL0 s6 y6 hcs lcs=>?_⟩;have lcn:=Gc hcs cov;refine⟨_,rfl,L,_,rfl,.inl (SqL.of y6),?_⟩;rw[bO,lcn];have s46:=s5.trans s6;refine⟨_,rfl,aT _,λz H7 hz s7 y7=>?_⟩;have s47:=s46.trans s7;refine⟨.list (rs.map sdD),.list [],.lst (SqL.of (s7 _ _ (s6 _ _ y5))) (rE (K31.SdsAt.same s7 (K31.SdsAt.same s6 sd))),.lst (SqL.of y7) .nil,B9 rs,_,rfl,?_⟩;rw[K2 cq,Ei];cases rs with
   |nil=>
    refine aJ ⟨_,rfl,.inl ⟨rfl,_,SqL.of (s47 _ _ hfo4)⟩,_,rfl,_,rfl,_,_,rfl,rfl,_,rfl,_,_,rfl,rfl,lit3,λt H8 ht s8 y8=>?_⟩;have s48:=s47.trans s8;refine⟨fo,vf,_,rfl,rfl,s48 _ _ hfo4,by lia,λH9 k9 y9=>hN _ _ ?_⟩;refine fin t (n,n+1,n+2) H8 q4 (n+3) _ _ _ _ _ _ _ _ _ (sm.same s48) (s48 _ _ hp4) pok4 (s48 _ _ hfo4) (tr4.same s48) y8 (qp gf ⟨by show n≠n+1;lia,by show n+1≠n+2;lia,by show n+2≠n;lia⟩ (free_of gf λs hs c e=>?_)) (Er cov) H9 k9 y9;have:=notco e;simp only[dU,af,a8,or_false] at hs;rcases hs with rfl|rfl|rfl<;>simp only at this<;>lia
   |cons r0 rs=>
    refine av ?_;generalize hrs:r0::rs=rl at *;have hrl:0<rl.length:=by rw[<-hrs];simp
    have lzs:=aU sd;obtain⟨e1,e2⟩:=gK (q:=q4) (b:=(zs.length:Int)) (by lia);obtain⟨k,hk⟩:∃k:Nat,digO q4 (zs.length:Int)=(k:Int):=⟨_,(Int.toNat_of_nonneg e1).symm⟩;have hkl:k<rl.length:=by lia
    obtain⟨⟨a,b⟩,hab⟩:∃s,rl[k]?=some s:=⟨_,aX hkl⟩;obtain⟨zv,hzv,tt,rfl,htt⟩:=jN sd hab;obtain⟨rim1,rim2⟩:=hrim (a,b) (a7 hab);refine⟨_,rfl,_,rfl,_,rfl,Rm,_,rfl,.inl (SqL.of (s7 _ _ (s6 _ _ y5))),p,q4,_,rfl,s47 _ _ hp4,pok4,by lia,fZ (by lia) (by lia),λH8 k8 y8=>?_⟩;rw[hk];have nRp:∀{b':Addr} {o:HO},H4 b'=none->H7 b'=some o->b'≠p:=λh0 h1 z=>by rw[z,hp4] at h0;cases h0
    have s78:∀b' o,b'≠p->H7 b'=some o->H8 b'=some o:=λb' o nb e=>(k8 b' nb).trans e;have hRm7:H7 Rm=some (.lst zs):=s7 _ _ (s6 _ _ y5);have hRm8:=s78 _ _ (nRp hR0 hRm7) hRm7;have htt7:H7 tt=some (.tup [.int (a:Int),.int (b:Int)]):=s7 _ _ (s6 _ _ htt);have hp7:=s47 _ _ hp4;have htt8:=s78 _ _ (bM htt7 hp7 (by simp)) htt7;have sd8:SdsAt H8 zs rl:=Paired.imp' (λ_ _ ⟨b',e1,e2⟩=>⟨b',e1,by have e3:=s7 _ _ (s6 _ _ e2);exact s78 _ _ (bM e3 hp7 (by simp)) e3⟩) sd;have hfo8:=s78 _ _ nfp (s47 _ _ hfo4);have tr8:bh H8 vf tf:=Paired.imp' (λ_ _ ⟨b',e1,e2⟩=>⟨b',e1,by have e3:=s47 _ _ e2;exact s78 _ _ (bM e3 hp7 (by simp)) e3⟩) tr4;have hL7:H7 L=some (.lst (nV cs)):=s7 _ _ y6;have nLp:L≠p:=λzz=>by rw[zz,s5 _ _ hp4] at hL0;cases hL0
    have hL8:=s78 _ _ nLp hL7;have but8:But p H H8:=λb' o nb e=>s78 _ _ nb (s47 _ _ (sm b' o nb e));obtain⟨hab1,hab2⟩:a<n/\b<n:=by obtain⟨⟨⟨x,y⟩,c⟩,h1,h2⟩:=aw.mp rim1;cases h2;exact notco h1
    have hne:a≠b:=by obtain⟨⟨⟨x,y⟩,c⟩,h1,h2⟩:=aw.mp rim1;cases h2;exact gf.sk.ne h1
    refine⟨Rm,zs,(k:Int),_,rfl,rfl,SqL.of hRm8,cA hzv,tt,_,rfl,SqT.of htt8,rfl,_,_,rfl,_,_,rfl,rfl,?_⟩;refine⟨_,rfl,fo,vf,tf,rfl,hfo8,tr8,by lia,gf.nd,λD H9 hD0 s9 y9=>?_⟩;refine⟨_,rfl,L,rfl,⟨_,SqL.of (s9 _ _ hL8)⟩,λZ_ hZ=>fg (K:=[]) (a:=L) (xs:=nV cs) (λi Z ys H'=>∃o sl,Z=[o,some (.int (a:Int)),some (.int (b:Int)),some (.ref D)]/\Same H9 H'/\H' Z_=some (.lst ys)/\ys=nV sl/\(∀x∈sl,x<n/\x≠a/\x≠b/\i9 tf (b,a,x)=true)/\sl.length<=i)
     ⟨none,[],rfl,dD hZ,cx,rfl,by simp,aC _⟩ (λi Z ys H' _ ⟨_,_,_,e,_⟩=>SqL.of (e _ _ (s9 _ _ hL8))) ?_ ?_⟩
    .rintro j y Z ys H' hj ⟨o,sl,rfl,sj,hZj,rfl,hsl,lsl⟩;rw[nV,c7] at hj;obtain⟨x,hx,rfl⟩:=fJ.mp hj;have hjl:=(aS.mp hx).1;have hxn:x<n:=by
      refine (cov x).mp ?_;have:=(hcs.2 x).mp (a7 hx);rw[gq];unfold flat at this;rw[iH] at this;obtain⟨t,h1,h2⟩:=this;exact⟨t,h1,by simpa using h2⟩
     refine⟨_,rfl,_,rfl,_,rfl,lit2,λt1 Ha g1 sA yA=>?_⟩;refine⟨t1,_,rfl,.inr (SqT.of yA),rfl,rfl,_,rfl,?_⟩;show if (if true=true then !inV (V.int (x:Int)) (nV [a,b]) else _)=true then _ else _
     rw[K3 rfl,iZ];by_cases hxab:x∈[a,b]
     .rw[K4 hxab];exact av (av ⟨_,sl,rfl,sj.trans sA,sA _ _ hZj,rfl,hsl,by lia⟩)
     .rw[K5 hxab];refine aJ ⟨_,rfl,_,rfl,_,rfl,_,rfl,lit3,λt2 Hb g2 sB yB=>?_⟩;refine⟨D,t2,tf,(b,a,x),rfl,sB _ _ (sA _ _ (sj _ _ y9)),yB,λHc sC=>?_⟩;have sjC:=((sj.trans sA).trans sB).trans sC;have hZc:=sC _ _ (sB _ _ (sA _ _ hZj));refine⟨_,rfl,?_⟩;by_cases hfr:i9 tf (b,a,x)=true
      .rw[hfr];refine aJ ⟨_,rfl,hZc,by rw[bO];lia,λH3 k3 y3=>⟨_,sl++[x],rfl,λb' o e=>(k3 b' (ax e hZ)).trans (sjC _ _ e),y3,by rw[oO,gP],λy hy=>?_,by rw[ar,bg];lia⟩⟩
       .rcases ay.mp hy with h|h
        .exact hsl y h
        .rw[aR.mp h];simp at hxab;exact⟨hxn,hxab.1,hxab.2,hfr⟩
      .rw[Bool.eq_false_iff.mpr hfr];exact av ⟨_,sl,rfl,sjC,hZc,rfl,hsl,by lia⟩
    .rintro Z ys Ha ⟨o,sl,rfl,sA,hZa,rfl,hsl,lsl⟩;rw[bO,lcn] at lsl;refine⟨_,rfl,lit1,λl1 Hb g1 sB yB=>?_⟩;refine⟨Z_,l1,_,_,rfl,rfl,sB _ _ hZa,yB,by rw[bO];simp only[bg];lia,λSo Hc g2 sC yC=>?_⟩;rw[oO,gP] at yC;have s9c:=(sA.trans sB).trans sC;refine⟨_,rfl,So,rfl,⟨_,SqL.of yC⟩,λY hY=>fg (K:=[]) (a:=So) (xs:=nV (sl++[n])) (λi Z ys H'=>∃o nl,Z=[o,some (.int (a:Int)),some (.int (b:Int)),some (.ref Rm)]/\Same Hc H'/\H' Y=some (.lst ys)/\ys=nV nl/\(∀x∈nl,x∈sl++[n])/\nl.length<=i)
      ⟨none,[],rfl,dD hY,cx,rfl,by simp,aC _⟩ (λi Z ys H' _ ⟨_,_,_,e,_⟩=>SqL.of (e _ _ yC)) ?_ ?_⟩
     .rintro j y Z ys H' hj ⟨o,nl,rfl,sj,hYj,rfl,hnl,lnl⟩;rw[nV,c7] at hj;obtain⟨x,hx,rfl⟩:=fJ.mp hj;have hjl:=(aS.mp hx).1;rw[ar,bg] at hjl;have hxm:=a7 hx;have hRmj:∀{Hx:Hp},Same H' Hx->Hx Rm=some (.lst zs)/\SdsAt Hx zs rl:=λsx=>⟨sx _ _ (sj _ _ (s9c _ _ (s9 _ _ hRm8))),K31.SdsAt.same (((s9.trans s9c).trans sj).trans sx) sd8⟩;have take:∀Hx:Hp,Same H' Hx->Hx Y=some (.lst (nV nl))/\(nV nl).length<sizeLine/\∀H3:Hp,(∀b',b'≠Y->H3 b'=Hx b')->H3 Y=some (.lst (nV nl++[V.int (x:Int)]))->∃o nl',[some (V.int (x:Int)),some (.int (a:Int)),some (.int (b:Int)),some (.ref Rm)]=[o,some (.int (a:Int)),some (.int (b:Int)),some (.ref Rm)]/\Same Hc H3/\H3 Y=some (.lst (nV nl++[V.int (x:Int)]))/\nV nl++[V.int (x:Int)]=nV nl'/\(∀y∈nl',y∈sl++[n])/\nl'.length<=j+1:=λHx sx=>by
       refine⟨sx _ _ hYj,by rw[bO];lia,λH3 k3 y3=>⟨_,nl++[x],rfl,λb' o e=>(k3 b' (ax e hY)).trans (sx _ _ (sj _ _ e)),y3,by rw[oO,gP],λy hy=>?_,by rw[ar,bg];lia⟩⟩
       .rcases ay.mp hy with h|h
        .exact hnl y h
        .rw[aR.mp h];exact hxm
      refine⟨_,rfl,_,rfl,lit2,λt1 Hd g1 sD yD=>?_⟩;obtain⟨r1,r2⟩:=hRmj sD;refine⟨_,rfl,sdD (b,x),Rm,zs,_,.tup (SqT.of yD) (.cons (.int _) (.cons (.int _) .nil)),rfl,.inl (SqL.of r1),rE r2,by show max 0 (max 0 0)+1<=60;decide,_,rfl,?_⟩;rw[K2 cq];generalize (rl.map sdD).any _=b1;cases b1 with
      |true=>exact aJ (aJ ⟨_,rfl,take Hd sD⟩)
      |false=>
       refine av ⟨_,rfl,_,rfl,lit2,λt2 He g2 sE yE=>?_⟩;obtain⟨r1,r2⟩:=hRmj (sD.trans sE);refine⟨_,rfl,sdD (x,a),Rm,zs,_,.tup (SqT.of yE) (.cons (.int _) (.cons (.int _) .nil)),rfl,.inl (SqL.of r1),rE r2,by show max 0 (max 0 0)+1<=60;decide,_,rfl,?_⟩;rw[K2 cq];generalize (rl.map sdD).any _=b2;cases b2 with
       |true=>exact aJ ⟨_,rfl,take He (sD.trans sE)⟩
       |false=>exact av ⟨_,nl,rfl,sj.trans (sD.trans sE),sE _ _ (sD _ _ hYj),rfl,hnl,by lia⟩
     .rintro Z ys Hd ⟨o,nl,rfl,sD,hYd,rfl,hnl,lnl⟩;rw[bO,ar,bg] at lnl;refine⟨_,rfl,Y,So,_,_,rfl,rfl,hYd,sD _ _ yC,by rw[bO,bO,ar,bg];lia,λNr He g3 sE yE=>?_⟩;rw[gP] at yE;have s8e:Same H8 He:=((s9.trans s9c).trans sD).trans sE;have hpe:He p=some (.lst (cG (nxt q4 (zs.length:Int)))):=s8e _ _ y8;obtain⟨e3,e4⟩:=gK (q:=nxt q4 (zs.length:Int)) (b:=((nV (nl++(sl++[n]))).length:Int)) (by rw[bO];simp only[ar,bg];lia);obtain⟨k2',hk2⟩:∃k:Nat,digO (nxt q4 (zs.length:Int)) ((nV (nl++(sl++[n]))).length:Int)=(k:Int):=⟨_,(Int.toNat_of_nonneg e3).symm⟩;have lne:(nV (nl++(sl++[n]))).length=nl.length+(sl.length+1):=by rw[bO];simp
      have hk2l:k2'<(nl++(sl++[n])).length:=by have l2:=bO (nl++(sl++[n]));lia
      have hxg:(nl++(sl++[n]))[k2']?=some (nl++(sl++[n]))[k2']:=aX hk2l;generalize (nl++(sl++[n]))[k2']=x at hxg;have hxs:x∈sl++[n]:=by
       rcases ay.mp (a7 hxg) with h|h
       .exact hnl x h
       .exact h
      refine⟨_,rfl,.inl ⟨rfl,_,SqL.of (s8e _ _ hfo8)⟩,_,rfl,_,rfl,_,rfl,_,rfl,_,rfl,Nr,_,rfl,.inl (SqL.of yE),p,_,_,rfl,hpe,fm pok4,by lia,fZ (by lia) (by lia),λHf kf yf=>?_⟩;rw[hk2];have sef:∀b' o,b'≠p->He b'=some o->Hf b'=some o:=λb' o nb e=>(kf b' nb).trans e;have nNe:Nr≠p:=λzz=>by rw[zz,sD _ _ (s9c _ _ (s9 _ _ y8))] at g3;cases g3
      refine⟨Nr,_,(k2':Int),_,rfl,rfl,SqL.of (sef _ _ nNe yE),cA (dY hxg),lit3,λt Hg ht sG yG=>?_⟩;have hfog:=sG _ _ (sef _ _ nfp (s8e _ _ hfo8));refine⟨fo,vf,_,rfl,rfl,hfog,by lia,λH9 k9 y9=>hN _ _ ?_⟩;have good:Good (tf++[(b,a,x)])/\(x<n\/x=n):=by
       rcases ay.mp hxs with h|h
       .obtain⟨h1,h2,h3,h4⟩:=hsl x h;exact⟨qp gf ⟨aF hne,aF h2,h3⟩ h4,.inl h1⟩
       .rw[aR.mp h];refine⟨qp gf ⟨aF hne,by show a≠n;lia,by show n≠b;lia⟩ (free_of gf λs hs c e=>?_),.inr rfl⟩;have hn:=notco e;simp only[dU,af,a8,or_false] at hs;rcases hs with rfl|rfl|rfl
        .exact rim2 (aw.mpr ⟨_,e,rfl⟩)
        .simp only at hn;lia
        .simp only at hn;lia
      exact fin t (b,a,x) Hg _ _ _ _ _ _ _ _ _ _ _ (λb' o nb e=>sG _ _ (sef _ _ nb (s8e _ _ (but8 b' o nb e)))) (sG _ _ yf) (fm (fm pok4)) hfog (Paired.imp' (λ_ _ ⟨b',e1,e2⟩=>⟨b',e1,by have e3:=s8e _ _ e2;exact sG _ _ (sef _ _ (bM e3 hpe (by simp)) e3)⟩) tr8) yG good.1 (C4 cov hab1 hab2 good.2) H9 k9 y9
  .rintro Z H4 ⟨o3,o4,o5,o6,o7,o8,o9,oa,ob,vf,tf,q4,n,rfl,sm,hp4,pok4,hfo4,tr4,htl,gf,cov⟩;exact⟨_,rfl,Qq fo vf tf q4 H4 hfo sm hp4 pok4 hfo4 tr4 (by lia) gf⟩
end
end K15
end
section
namespace K15
variable {E:Nat->Nat->Nat->Prop}
def a_ (E:Nat->Nat->Nat->Prop) (a b:Nat):Prop:=(∃q,E a b q)/\¬∃r,E b a r
theorem ox (k:Sk E) {a b:Nat} {F:List Nat} (hF:Fan E a F) (all:∀p,(∃q,E a p q)->p∈F) (h:a_ E a b):F[0]?=some b:=by
 obtain⟨i,hi⟩:=dB.mp (all b h.1);cases i with
 |zero=>exact hi
 |succ i=>
  obtain⟨hl,_⟩:=aS.mp hi;have hp:F[i]?=some (F[i]'(by lia)):=aX _;exact (h.2 ⟨_,k.rot (k.rot (hF.ch i _ _ hp hi))⟩).elim
theorem qY (k:Sk E) {a b b':Nat} (o:One E a) (h:a_ E a b) (h':a_ E a b'):b=b':=by obtain⟨F,hF,all⟩:=o;exact cH ((ox k hF all h).symm.trans (ox k hF all h'))
theorem oi (k:Sk E) {a z:Nat} {F:List Nat} (hF:Fan E a F) (all:∀p,(∃q,E a p q)->p∈F) (h:a_ E z a):∃l,F[F.length-1]?=some l/\E a l z:=by
 obtain⟨⟨q,hq⟩,no⟩:=h;have hq:=k.rot hq;obtain⟨i,hi⟩:=dB.mp (all q ⟨z,hq⟩);obtain⟨hl,_⟩:=aS.mp hi;by_cases c:i+1<F.length
 .have hn:F[i+1]?=some (F[i+1]):=aX c;have e:z=F[i+1]:=k.one hq (hF.ch i _ _ hi hn);exact (no (by rw[e];exact hF.key _ (j6 c))).elim
 .exact⟨q,by rw[show F.length-1=i by lia];exact hi,hq⟩
theorem oy (k:Sk E) {a z z':Nat} (o:One E a) (h:a_ E z a) (h':a_ E z' a):z=z':=by obtain⟨F,hF,all⟩:=o;obtain⟨l,h1,h2⟩:=oi k hF all h;obtain⟨l',h1',h2'⟩:=oi k hF all h';cases h1.symm.trans h1';exact k.one h2 h2'
theorem Bi (k:Sk E) {a b:Nat} (o:One E a) (h:a_ E a b):∃z,a_ E z a:=by
 obtain⟨F,hF,all⟩:=o;have h0:=ox k hF all h;have hl:0<F.length:=(aS.mp h0).1;have hlast:F[F.length-1]?=some (F[F.length-1]'(by lia)):=aX _;generalize F[F.length-1]'(by lia)=l at hlast;obtain⟨z,hz⟩:=hF.key l (a7 hlast);refine⟨z,⟨l,k.rot (k.rot hz)⟩,λ⟨r,hr⟩=>?_⟩;obtain⟨j,hj⟩:=dB.mp (all z ⟨r,hr⟩);cases j with
 |zero=>
  cases h0.symm.trans hj;exact h.2 ⟨l,k.rot (k.rot hz)⟩
 |succ j=>
  obtain⟨hj',_⟩:=aS.mp hj;have hp:F[j]?=some (F[j]'(by lia)):=aX _;have e:=k.inj hz (hF.ch j _ _ hp hj);rw[e] at hlast;have:=n_ hF.nd hlast hp;lia
theorem vy (k:Sk E) {a z:Nat} (o:One E a) (h:a_ E z a):∃b,a_ E a b:=by
 obtain⟨F,hF,all⟩:=o;obtain⟨l,h1,h2⟩:=oi k hF all h;have hl:0<F.length:=by
  cases hF':F with
  |nil=>exact absurd hF' hF.ne
  |cons x xs=>simp
 have h0:F[0]?=some (F[0]'hl):=aX _;generalize F[0]'hl=b at h0;refine⟨b,hF.key b (a7 h0),λ⟨r,hr⟩=>?_⟩;have hr:=k.rot hr;obtain⟨i,hi⟩:=dB.mp (all r ⟨b,hr⟩);obtain⟨hi',_⟩:=aS.mp hi;by_cases c:i+1<F.length
 .have hn:F[i+1]?=some (F[i+1]):=aX c;have e:=k.one hr (hF.ch i _ _ hi hn);rw[<-e] at hn;have:=n_ hF.nd hn h0;lia
 .rw[show F.length-1=i by lia] at h1;cases hi.symm.trans h1;have e:=k.one hr h2;exact h.2 (by rw[<-e];exact hF.key b (a7 h0))
section
variable {R:Nat->Nat->Prop}
structure Path (R:Nat->Nat->Prop) (l:List Nat):Prop where
 ne:l≠[]
 nd:l.Nodup
 ch:∀i p q,l[i]?=some p->l[i+1]?=some q->R p q
structure Cyc (R:Nat->Nat->Prop) (l:List Nat):Prop extends Path R l where
 back:∀p q,l[l.length-1]?=some p->l[0]?=some q->R p q
theorem Path.one (R:Nat->Nat->Prop) (a:Nat):Path R [a]:=⟨by simp,by simp,λi p q h1 h2=>by simp at h2⟩
theorem Path.home (inj:∀a b c,R a c->R b c->a=b) {l:List Nat} (h:Path R l) {p z:Nat} (hp:l[l.length-1]?=some p) (hz:R p z) (hm:z∈l):l[0]?=some z:=by
 obtain⟨j,hj⟩:=dB.mp hm;cases j with
 |zero=>exact hj
 |succ j=>
  obtain⟨hl,_⟩:=aS.mp hj;have hq:l[j]?=some (l[j]'(by lia)):=aX _;have e:=inj _ _ _ hz (h.ch j _ _ hq hj);rw[<-e] at hq;have:=n_ h.nd hp hq;lia
theorem Path.snoc {l:List Nat} (h:Path R l) {p z:Nat} (hp:l[l.length-1]?=some p) (hz:R p z) (hm:z∉l):Path R (l++[z]):=by
 have hl:0<l.length:=iE.mpr h.ne;refine⟨by simp,bZ.mpr ⟨h.nd,by simp,λa ha b hb e=>hm (by rw[<-aR.mp hb,<-e];exact ha)⟩,λi x y h1 h2=>?_⟩;by_cases c:i+1<l.length
 .rw[dS c] at h2;rw[dS (by lia)] at h1;exact h.ch i x y h1 h2
 .by_cases d:i+1=l.length
  .rw[gZ (by lia),show i+1-l.length=0 by lia] at h2;rw[dS (by lia),show i=l.length-1 by lia] at h1;cases hp.symm.trans h1;cases (show some z=some y from h2);exact hz
  .rw[gZ (by lia)] at h2;have:[z][i+1-l.length]?=none:=ng (by simp;lia);rw[this] at h2;cases h2
theorem Cyc.step {l:List Nat} (h:Cyc R l) {p:Nat} (hp:p∈l):∃q∈l,R p q:=by
 obtain⟨i,hi⟩:=dB.mp hp;obtain⟨hl,_⟩:=aS.mp hi;by_cases c:i+1<l.length
 .exact⟨l[i+1],j6 c,h.ch i _ _ hi (aX c)⟩
 .rw[show i=l.length-1 by lia] at hi;have h0:l[0]?=some (l[0]'(by lia)):=aX _;exact⟨_,a7 h0,h.back _ _ hi h0⟩
theorem Cyc.before (inj:∀a b c,R a c->R b c->a=b) {l:List Nat} (h:Cyc R l) {p q:Nat} (hq:q∈l) (hr:R p q):p∈l:=by
 obtain⟨i,hi⟩:=dB.mp hq;obtain⟨hl,_⟩:=aS.mp hi;cases i with
 |zero=>
  have hp:l[l.length-1]?=some (l[l.length-1]'(by lia)):=aX _;rw[inj _ _ _ hr (h.back _ _ hp hi)];exact a7 hp
 |succ i=>
  have hp:l[i]?=some (l[i]'(by lia)):=aX _;rw[inj _ _ _ hr (h.ch i _ _ hp hi)];exact a7 hp
theorem Path.from (inj:∀a b c,R a c->R b c->a=b) {l m:List Nat} (h:Path R m) (hl:Cyc R l) {x:Nat} (hx:x∈m) (hxl:x∈l) {y:Nat} (hy:m[0]?=some y):y∈l:=by
 have key:∀(i p:Nat),m[i]?=some p->p∈l->y∈l:=by
  intro i;induction i with
  |zero=>intro p hp hpl;cases hy.symm.trans hp;exact hpl
  |succ i ih=>
   intro p hp hpl;obtain⟨hm,_⟩:=aS.mp hp;have hq:m[i]?=some (m[i]'(by lia)):=aX _;exact ih _ hq (hl.before inj hpl (h.ch i _ _ hq hp))
 obtain⟨i,hi⟩:=dB.mp hx;exact key i x hi hxl
structure Rims (R:Nat->Nat->Prop) (ls:List (List Nat)):Prop where
 cyc:∀l∈ls,Cyc R l
 least:∀l∈ls,∀x,l[0]?=some x->∀p∈l,x<=p
 all:∀p,(∃q,R p q)->∃l∈ls,p∈l
 rise:ls.Pairwise λl m=>∀x y,l[0]?=some x->m[0]?=some y->x<y
theorem Path.begin {l:List Nat} (h:Path R l):∃x,l[0]?=some x/\x∈l:=by have hl:0<l.length:=iE.mpr h.ne;exact⟨l[0],aX _,j6 _⟩
end
end K15
end
section
namespace K15
section
variable {R:Nat->Nat->Prop}
structure ft (R:Nat->Nat->Prop) (ls:List (List Nat)):Prop where
 cyc:∀l∈ls,Cyc R l
 least:∀l∈ls,∀x,l[0]?=some x->∀p∈l,x<=p
 rise:ls.Pairwise λl m=>∀x y,l[0]?=some x->m[0]?=some y->x<y
 nd:ls.flatten.Nodup
theorem ft.nil:ft R []:=⟨by simp,by simp,.nil,by simp⟩
theorem ft.step (inj:∀a b c,R a c->R b c->a=b) {ls:List (List Nat)} {l:List Nat} {c:Nat} (h:ft R ls) (hc:Cyc R l) (h0:l[0]?=some c) (hn:∀m∈ls,c∉m)
  (low:∀p,(∃q,R p q)->p<c->∃m∈ls,p∈m) (up:∀m∈ls,∀x,m[0]?=some x->x<c):ft R (ls++[l])/\∀x∈l,x∉ls.flatten:=by
 have dj:∀x∈l,∀m∈ls,x∉m:=λx hx m hm hxm=>hn m hm (hc.toPath.from inj (h.cyc m hm) hx hxm h0);have dj':∀x∈l,x∉ls.flatten:=λx hx z=>by
  obtain⟨m,hm,hxm⟩:=jg.mp z;exact dj x hx m hm hxm
 refine⟨⟨λm hm=>?_,λm hm x hx p hp=>?_,?_,?_⟩,dj'⟩
 .rcases ay.mp hm with z|z
  .exact h.cyc m z
  .rw[aR.mp z];exact hc
 .rcases ay.mp hm with z|z
  .exact h.least m z x hx p hp
  .rw[aR.mp z] at hx hp;cases h0.symm.trans hx;refine zi λlt=>?_;obtain⟨q,_,hq⟩:=hc.step hp;obtain⟨m',hm',hpm⟩:=low p ⟨q,hq⟩ lt;exact dj p hp m' hm' hpm
 .rw[tM];refine⟨h.rise,pU _ _,λm hm m' hm' x y hx hy=>?_⟩;rw[aR.mp hm'] at hy;cases h0.symm.trans hy;exact up m hm x hx
 .rw[yY,bZ];refine⟨h.nd,by simpa using hc.nd,λa ha b hb e=>?_⟩;subst e;exact dj' a (by simpa using hb) ha
theorem ft.done {ls:List (List Nat)} (h:ft R ls) (all:∀p,(∃q,R p q)->∃l∈ls,p∈l):Rims R ls:=⟨h.cyc,h.least,all,h.rise⟩
theorem ft.in {ls:List (List Nat)} (h:ft R ls) {p:Nat} (hp:p∈ls.flatten):∃q,R p q:=by obtain⟨m,hm,hpm⟩:=jg.mp hp;obtain⟨q,_,hq⟩:=(h.cyc m hm).step hpm;exact⟨q,hq⟩
end
end K15
end
section
namespace L2
open PySem PySem.Spec PyProof.Rows
theorem Bz {d:Addr} {kvs:List (Key×V)} {k:Key} {v:V} {u r:Value} {Q:Unit->Shared->Prop} (I:Inv X pins Z H s) (e:H d=some (.dK kvs)) (ry:aH (kV k) u) (l:kvs.length<sizeLine) (rv:aH v r)
  (h:∀s',Inv X pins Z (upd H d (.dK (cP kvs k v))) s'->Q () s'):wpAny (model X.prog X.w) A (dictSet d u r) Q E s:=by
 obtain⟨z,hd,vs,rel,dd⟩:=o_ I.hok e;have hz:vs.length<=sizeLine:=by rw[<-rel.length];exact z
 have hl:(cP kvs k v).length<=sizeLine:=by have:=kl kvs k v;lia
 refine wpAny_dictSet_pairs (hsz:=hz) (iy ry) dd λh' dd' hs=>h _ ?_;have he:∃q,h'.get? d=some q:=let ⟨q,_,_,hq,_⟩:=dd';⟨q,hq⟩;exact oC I (by rw[e];exact True.intro) hs he (rR hl hd (rel.put k rv) dd')
section
variable {N:List Str} {fr:List (Option Nat)} {fp:List Addr}
end
section
variable {N:List Str} {fr:List (Option Nat)} {kx vx tg iter:Expr} {ifs:List Expr} {pos:Pos} {wi:TI} {g:TG} {tt:TT} {tk tv:TE}
end
section
variable {a D:Addr} {g:TG} {tt:TT} {tk tv:TE} {Z':St} {H1:Hp} {Q:Hp->Prop}
end
section
variable {d D:Addr} {o:Obj} {u:HO} {ks vs:List V} {g:TG} {tt:TT} {tk tv:TE} {Z':St} {H1:Hp} {Q:Hp->Prop}
end
end L2
end
section
namespace L2
open PySem PySem.Spec PyProof.Rows
theorem Ax:typeLookup (.type "list") "keys" = pure none:=am_miss_of_fast (by kernel_rfl)
theorem DY {prog:Program} {w:World} {E:Value->Shared->Prop} {a:Addr} {xs:Array Value} {k:Nat} {sl:Array (Option Value)} {Q:Option Value->Shared->Prop}
  (hx:s.heap.get? a=some {cls:=.type "list",dict:=none,data:=.seq xs k,slots:=sl}) (hA:A.handled=none)
  (q:∀h' tk,(∀b ob,s.heap.get? b=some ob->h'.get? b=some ob)->Q none {s with heap:=h',toks:=tk}):wpAny (model prog w) A (getAttr? (.ref a) "keys") Q E s:=by
 obtain⟨hp,g,d,tk,os⟩:=s;have ty:∀tk',(⟨hp,g,d,tk',os⟩:Shared).TypeIs (.ref a) "list":=λ_=>⟨_,hx,rfl⟩;have g1:=sub_AttributeError;have g2:=zF.lookup;have g3:=zF.bind (.ref a);have g4:=am_list_getattr_none;unfold getAttr? getAttrBy? getAttrBy
 repeat (any_goals (first|assumption|exact ty _|((with_reducible show wpAny _ _ (call (Value.builtin "list.__getattribute__") _ _) _ _ _);refine tY zF (ty _) am_entry_list_getattribute (PySem.F.args_list_getattribute_2 _ _) (meets_getattribute_miss_list a xs k sl "keys" _ Ax (by decide +kernel)) ⟨hx,hA,λh' tk' e ne=>?_⟩)|wp_step))
 obtain⟨t',u',at_e⟩:=ne.there;show wpAny _ _ (getattributeRaised _ _ _ _ _ _ _) _ _ _;unfold getattributeRaised
 repeat (any_goals (first|assumption|wp_step))
 exact q _ _ ne.keeps
theorem uk:entryFor table "dict.update.loop" = some Builtin.«dict.update.loop»:=entryFor_of_tree (by kernel_rfl)
theorem nQ:plainId "dict.update.loop" = true:=by decide +kernel
section
def gT (H:Hp) (ys:List V) (ps:List (Key×V)):Prop:=Paired (λy p=>∃b,y=V.ref b/\H b=some (.tup [kV p.1,p.2])) ys ps
theorem gT.get:∀{ys:List V} {ps:List (Key×V)} {i:Nat} {p:Key×V},gT H ys ps->ps[i]?=some p->∃b,ys[i]?=some (.ref b)/\H b=some (.tup [kV p.1,p.2])
 |_,_,_,_,.nil,e=>by simp at e
 |_,_,0,_,.cons ⟨b,e1,e2⟩ _,e=>by simp at e;subst e e1;exact⟨b,rfl,e2⟩
 |_,_,i+1,p,.cons _ t,e=>by
  obtain⟨b,h1,h2⟩:=gT.get (i:=i) (p:=p) t (by simpa using e);exact⟨b,by simpa using h1,h2⟩
theorem gT.len:∀{ys:List V} {ps:List (Key×V)},gT H ys ps->ys.length=ps.length
 |_,_,.nil=>rfl
 |_,_,.cons _ t=>by simp[gT.len t]
def ip (kvs:List (Key×V)) (ps:List (Key×V)):List (Key×V):=ps.foldl (λd p=>cP d p.1 p.2) kvs
theorem AW {a D it:Addr} {ys:List V} {ps:List (Key×V)} (hc:A.handled=none) (hD:H D=none) (hq:SqL [] H a ys) (hp:gT H ys ps) (hz:ps.length<sizeLine)
  {R:Result->Shared->Prop} (hR:∀s',Inv X pins Z (upd H D (.dK (ip [] ps))) s'->R (.ok (.ret .none)) s') :
  ∀(k i:Nat) (kvs:List (Key×V)) (s:Shared),ps.length-i=k->i<=ps.length->kvs.length<=i->ip kvs (ps.drop i)=ip [] ps->Inv X pins Z (upd H D (.dK kvs)) s->s.heap.IsListIter it a i->dR X pins (upd H D (.dK kvs)) it->
   codeAny (model X.prog X.w) A (.builtin "dict.update.loop" ⟨[.ref D,.ref it,rawInt i,.none],[]⟩) R s:=by
 have sq:∀kvs,SqL [] (upd H D (.dK kvs)) a ys:=λkvs=>by
  rcases hq with (e|⟨o,e⟩)|h
  .exact .inl (.inl (by rw[bz (ax e hD)];exact e))
  .exact .inl (.inr ⟨o,by rw[bz (ax e hD)];exact e⟩)
  .exact .inr h
 intro k;induction k with
 |zero=>
  intro i kvs s hk hi _ hput I st hf;have hin:i=ps.length:=by lia
  subst hin;refine t4 uk ?_;rw[sT nQ _];obtain⟨its,rv,p,hz'⟩:=I.list (sq kvs);obtain⟨f0,f1,f2,f3,f4,f5⟩:=hf;have hl:=rv.length;have hl2:=hp.len;show wpAny _ A.in1 (pyNext (.ref it) >>= _) _ _ s;refine ao (zW hc st p.isList (by simp;lia) λh' eb=>?_);rw[tq] at hput;have hput:kvs=ip [] ps:=hput;subst hput;show wpAny _ A.in1 (Builtin.Dict.addKeywords D [] >>= _) _ _ _;exact ao (aO (aO (hR _ (I.turned (t':=s.toks) (λb o hb e=>eb b o hb e) f0 f1 f3 f4 f5))))
 |succ k ih=>
  intro i kvs s hk hi hkl hput I st hf;have hlt:i<ps.length:=by lia
  refine t4 uk ?_;rw[sT nQ _];obtain⟨its,rv,p,hz'⟩:=I.list (sq kvs);obtain⟨b,hb1,hb2⟩:=hp.get (i:=i) (p:=ps[i]) (by simp[hlt]);obtain⟨u,hu,ru⟩:=rv.get hb1;cases ru;obtain⟨f0,f1,f2,f3,f4,f5⟩:=id hf;show wpAny _ A.in1 (pyNext (.ref it) >>= _) _ _ s;refine ao (zX st p.isList (x:=.ref b) (by simpa using hu) λh' st' sb=>?_);have I1:Inv X pins Z (upd H D (.dK kvs)) {s with heap:=h'}:=I.turned (t':=s.toks) (λb o hb e=>(sb.2 b hb).trans e) f0 f1 f3 f4 f5;have hbD:upd H D (.dK kvs) b=some (.tup [kV (ps[i]).1,(ps[i]).2]):=by rw[bz (ax hb2 hD)];exact hb2
  obtain⟨vs,rvs,⟨ot,p1,p2,n,p3⟩,_⟩:=I1.tuple (SqT.of hbD);have hvs:∃v1 v2,vs=[v1,v2]/\aH (kV (ps[i]).1) v1/\aH (ps[i]).2 v2:=by
   cases rvs with
   |cons r1 rr=>cases rr with
    |cons r2 rr=>cases rr;exact⟨_,_,rfl,r1,r2⟩
  obtain⟨v1,v2,rfl,r1,r2⟩:=hvs;refine ao (fK (ao ?_));refine wpAny_tryCatch ?_;unfold Builtin.Dict.pairItems;refine ao (z6 ⟨_,p1,p2⟩ ?_);rw[K3 (by decide)];unfold seqItems?;refine ao (ao (wpAny_load p1 ?_));rw[p3];refine aO (aO ?_);show wpAny _ _ (holding [v1,v2] (dictSet D v1 v2)) _ _ _;have ob:∀c∈[it],∃o,h'.get? c=some o/\∀v,o.data≠.cell v:=λc hc'=>by
   have e:c=it:=by simpa using hc'
   subst e;obtain⟨o,e,c1,d⟩:=st';exact⟨o,e,λv z=>by rw[d] at z;cases z⟩
  have I2:=I1.pinned (fp:=[it]) (λc hc'=>by rw[aR.mp hc'];exact hf) ob;refine fK (Bz I2 cx r1 (by lia) r2 λs' I'=>?_);rw[qN] at I';have J:=I'.pins_of (pins':=pins) λq hq=>I'.pin q (bN _ (cf _ hq));have st2:s'.heap.IsListIter it a (i+1):=st'.at λo e=>(I'.pin (it,o) (bN _ (bN _ (kB (by simp) e)))).1;have hl:=kl kvs (ps[i]).1 (ps[i]).2;have hc1:((i:Int)+1)=((i+1:Nat):Int):=by push_cast;rfl
  refine aO ⟨t8 nQ _,?_⟩;rw[hc1];refine ih (i+1) _ s' (by lia) (by lia) (by lia) ?_ J st2 ⟨?_,f1,f2,f3,f4,f5⟩
  .rw[<-hput,eZ hlt];rfl
  .have:it≠D:=λz=>by rw[z,cx] at f0;cases f0
   rw[bz this] at f0 |-;exact f0
def Cd (K:W.Frag):List V->Hp->VK->Prop:=λxs H Q=>∃(a:Addr) (ys:List V) (ps:List (Key×V)),xs=[.ref a]/\H a=some (.lst ys)/\gT H ys ps/\ps.length<sizeLine/\∀p,H p=none->Q (.ref p) (upd H p (.dK (ip [] ps)))
theorem Ah (hh:X.A.handled=none):d_ X (.type "dict") (Cd []):=by
 intro pins s Z H xs us Q I r h;obtain⟨a,ys,ps,rfl,ha,hp,hz,q⟩:=h;obtain⟨u,rfl,ru⟩:=Vals.one r;cases ru;obtain⟨z,its,n,rv,ea⟩:=I.hok _ _ ha;have hD:H s.heap.objs.size=none:=I.hok.fresh (aC _);refine callType_codes (Q₁:=λobj s₁=>obj=.ref s.heap.objs.size/\s₁={s with heap:=s.heap.push {cls:=.type "dict",data:=.dict #[]}}) PySem.F.kt_called_dict (PySem.F.kt_typeCall_dict_1 _) PySem.F.entry_dict_init (kt_code_dict_new _ ⟨rfl,rfl⟩) ?_;rintro obj s₁ ⟨rfl,rfl⟩;have I3:Inv X pins Z (upd H s.heap.objs.size (.dK [])) {s with heap:=s.heap.push {cls:=.type "dict",data:=.dict #[]}}:=by refine I.laid (t':=s.toks) (λb u e=>bP _ e) (aC _) ?_;exact vT s.heap I.big
 have tD:({s with heap:=s.heap.push {cls:=.type "dict",data:=.dict #[]}}:Shared).TypeIs (.ref s.heap.objs.size) "dict":=⟨_,cQ _ rfl,rfl⟩;have ea1:=bP ({cls:=.type "dict",data:=.dict #[]}:Obj) ea;refine⟨tD,PySem.F.args_dict_init_2 _ _,?_⟩;unfold Builtin.«dict.__init__» Builtin.Dict.selfAndRest;refine ao (ao (JW tD ?_));show wpAny _ _ (pure (s.heap.objs.size,[Value.ref a])) _ _ _;refine aO ?_;show wpAny _ _ (Builtin.Dict.updateFrom "dict.__init__" s.heap.objs.size (.ref a) [] .none) _ _ _;unfold Builtin.Dict.updateFrom;refine ao (z6 ⟨_,ea1,rfl⟩ ?_);rw[K3 (by decide)];refine ao (DY ea1 hh λh2 tk2 k2=>?_);have I4:Inv X pins Z (upd H s.heap.objs.size (.dK [])) {s with heap:=h2,toks:=tk2}:=I3.kept k2;obtain⟨z4,its4,n4,rv4,ea4⟩:=I4.hok _ _ (show upd H s.heap.objs.size (.dK []) a=some (.lst ys) by rw[bz (ax ha hD)];exact ha);simp only[Option.isNone_none,if_true];refine ao (zY ?_);refine ao (qd (l:=a) ⟨_,ea4,rfl,n4,rfl⟩ ?_);have I5:Inv X pins Z (upd H s.heap.objs.size (.dK [])) {s with heap:=h2.push {cls:=.type "list_iterator",data:=.fields #[.ref a,rawInt 0]},toks:=tk2}:=I4.kept (t':=tk2) λb o e=>bP _ e;refine aO ⟨t8 nQ _,?_⟩;refine AW (X:=X) (A:=X.A.in1) (R:=wants (λr s₂=>r=.none/\EP X pins Z Q (.ref s.heap.objs.size) s₂) X.xe) hh hD (.inl (.inl ha)) hp hz (λs' I'=>⟨rfl,.ref s.heap.objs.size,_,I',rfl,q _ hD⟩) _ 0 [] _ rfl (aT _) (aC _) rfl I5 ⟨_,cQ _ rfl,rfl,rfl⟩ ?_;exact I4.fpOk (aC _) (I4.hok.fresh (aC _))
end
end L2
end
section
namespace L2
open PySem PySem.Spec PyProof.Rows PySem.W
theorem qI:∀{us:List Value} {ns:List Int} {i:Nat},IntsAre us ns->i<us.length->∃t,us[i]?=some (Value.int (ns.getD i 0) t)
 |_,_,_,.nil,h=>by simp at h
 |_,_,0,.cons n t _,_=>⟨t,rfl⟩
 |_,_,i+1,.cons n t r,h=>by
  obtain⟨t',e⟩:=qI (i:=i) r (by simpa using h);exact⟨t',by simpa using e⟩
theorem C0 {ns ms:List Int} {i:Nat} (h1:i<ns.length) (h2:i<ms.length):HT.lexLt (ns.drop i) (ms.drop i)=if ns.getD i 0=ms.getD i 0 then HT.lexLt (ns.drop (i+1)) (ms.drop (i+1)) else decide (ns.getD i 0<ms.getD i 0):=by rw[eZ h1,eZ h2,HT.lexLt_cons];simp[List.getD,h1,h2]
theorem D2 (l b:Addr) (us ws:List Value) (ns ms:List Int) (n n2:Nat) (hu:IntsAre us ns) (hw:IntsAre ws ms) (k:Nat) :
  ∀i:Nat,us.length-i=k->i<=us.length->i<=ws.length->Meets (Builtin.«list.__eq__.loop» ⟨[.ref l,.ref b,rawInt i,rawInt 0],[]⟩)
   (λ_ R s=>s.heap.get? l=some (seqObj "list" us.toArray n)/\s.heap.get? b=some (seqObj "list" ws.toArray n2)/\R (.ok (.ret (.bool (HT.lexLt (ns.drop i) (ms.drop i))))) s):=by
 have lu:=hu.length;have lw:=hw.length;have stop:∀i:Nat,i<=us.length->i<=ws.length->(us.length<=i\/ws.length<=i)->Meets (Builtin.«list.__eq__.loop» ⟨[.ref l,.ref b,rawInt i,rawInt 0],[]⟩)
   (λ_ R s=>s.heap.get? l=some (seqObj "list" us.toArray n)/\s.heap.get? b=some (seqObj "list" ws.toArray n2)/\R (.ok (.ret (.bool (HT.lexLt (ns.drop i) (ms.drop i))))) s):=by
  intro i h1 h2 h3 prog w A R s h;obtain⟨hp,g,d,tk,os⟩:=s;obtain⟨hl,hb,h⟩:=h
  wp_walk using eX hl,eX hb
  have e:HT.lexLt (ns.drop i) (ms.drop i)=decide (us.length<ws.length):=by
   by_cases c:us.length<=i
   .rw[yT (by lia)];by_cases c2:ws.length<=i
    .rw[yT (by lia),K5 (by lia)];rfl
    .rw[eZ (by lia),K4 (by lia)];rfl
   .have:ws.length<=i:=by lia
    rw[yT (as:=ms) (by lia),eZ (by lia),K5 (by lia)];rfl
  rw[e] at h;rcases h3 with h3|h3
  .rw[show us.toArray[((i:Nat):Int).toNat]?=none by simp;lia]
   wp_walk using eX hl,eX hb
   show R (.ok (.ret (.bool (decide (us.toArray.size<ws.toArray.size))))) _;simpa using h
  .by_cases c:us.length<=i
   .rw[show us.toArray[((i:Nat):Int).toNat]?=none by simp;lia]
    wp_walk using eX hl,eX hb
    show R (.ok (.ret (.bool (decide (us.toArray.size<ws.toArray.size))))) _;simpa using h
   .rw[show us.toArray[((i:Nat):Int).toNat]?=some (us[i]'(by lia)) by simp,show ws.toArray[((i:Nat):Int).toNat]?=none by simp;lia]
    wp_walk using eX hl,eX hb
    show R (.ok (.ret (.bool (decide (us.toArray.size<ws.toArray.size))))) _;simpa using h
 induction k with
 |zero=>
  intro i hk h1 h2;exact stop i h1 h2 (.inl (by lia))
 |succ k ih=>
  intro i hk h1 h2;by_cases c:ws.length<=i
  .exact stop i h1 h2 (.inr c)
  intro prog w A R s h;obtain⟨hp,g,d,tk,os⟩:=s;obtain⟨hl,hb,h⟩:=h
  wp_walk using eX hl,eX hb
  obtain⟨t1,e1⟩:=qI (i:=i) hu (by lia);obtain⟨t2,e2⟩:=qI (i:=i) hw (by lia);have hi1:us.toArray[((i:Nat):Int).toNat]?=some (Value.int (ns.getD i 0) t1):=by simpa using e1
  have hi2:ws.toArray[((i:Nat):Int).toNat]?=some (Value.int (ms.getD i 0) t2):=by simpa using e2
  have hc:((i:Int)+1)=((i+1:Nat):Int):=by push_cast;rfl
  rw[C0 (by lia) (by lia)] at h;rw[hi1,hi2];refine ao (zS ?_);by_cases e:ns.getD i 0=ms.getD i 0
  .rw[K3 e] at h;rw[show (ns.getD i 0==ms.getD i 0)=true by simpa using e]
   wp_walk
   rw[hc];exact⟨t8 tX _,t4 Jw (by
    rw[sT tX _];exact ih (i+1) (by lia) (by lia) (by lia) prog w A R _ ⟨hl,hb,h⟩)⟩
  .rw[K2 e] at h;rw[show (ns.getD i 0==ms.getD i 0)=false by simpa using e]
   wp_walk using eX hl,eX hb
   rw[hi1,hi2];refine ao ?_;refine (show wpAny (model prog w) _ (compareOp .Lt (.int (ns.getD i 0) t1) (.int (ms.getD i 0) t2)) _ _ _ from lt_int ?_)
   wp_walk
   exact h
theorem D3 (l b:Addr) (us ws:List Value) (ns ms:List Int) (n n2:Nat) (hu:IntsAre us ns) (hw:IntsAre ws ms) :
  Meets (Builtin.«list.__lt__» ⟨[.ref l,.ref b],[]⟩)
   (λ_ R s=>s.heap.get? l=some (seqObj "list" us.toArray n)/\s.heap.get? b=some (seqObj "list" ws.toArray n2)/\R (.ok (.ret (.bool (HT.lexLt ns ms)))) s):=by
 intro prog w A R s h;obtain⟨hp,g,d,tk,os⟩:=s;obtain⟨hl,hb,h⟩:=h;have f3:=AutoSeq1.sub_list_list
 wp_walk using eX hl,eX hb
 exact⟨t8 tX _,t4 Jw (by
  rw[sT tX _];exact D2 l b us ws ns ms n n2 hu hw _ 0 rfl (aT _) (aT _) prog w A R _ ⟨hl,hb,h⟩)⟩
section
variable {prog:Program}
theorem Cn {a b:Addr} {us ws:List Value} {ns ms:List Int} {n n2:Nat} {C:Bool->Shared->Prop} (hr:A.units<cLine) (h1:s.heap.get? a=some (seqObj "list" us.toArray n)) (h2:s.heap.get? b=some (seqObj "list" ws.toArray n2)) (hu:IntsAre us ns) (hw:IntsAre ws ms) (q:C (HT.lexLt ns ms) s) :
  wpAny (model prog w) A (keyLt' oneType' (.ref a) (.ref b)) C E s:=by
 rw[keyLt'_oneType,oneLt'_eq];simp only[if_true];refine ao (wpAny_cRoomFor hr ?_);refine ao (wpAny_callSpecialIfBound?_slot ⟨_,h1,rfl⟩ Js ?_);refine tY Js ⟨_,h1,rfl⟩ PySem.F.entry_list_lt (PySem.F.args_list_lt_2 _ _) (D3 a b us ws ns ms n n2 hu hw) ⟨h1,h2,?_⟩;exact iJ q
end
def Lsts (K:Frag) (H:Hp) (ys:List V) (ks:List (List Int)):Prop:=Paired (λy k=>∃b,y=V.ref b/\H b=some (.lst (k.map V.int))) ys ks
section
def Fg (K:Frag):List V->Hp->VK->Prop:=λxs H Q=>∃(a:Addr) (ys:List V) (ks:List (List Int)),xs=[.ref a]/\SqL K H a ys/\Lsts K H ys ks/\ys.length<5000/\
 ∀p (ix:List Nat),H p=none->ix.Perm (List.range ys.length)->(ix.map λi=>ks.getD i []).Pairwise (λa b=>HT.lexLt b a=false)->Q (.ref p) (upd H p (.lst (ix.map λi=>ys.getD i .non)))
theorem z8 (hr:X.A.units+2<cLine):d_ X (.builtin "sorted") (Fg []):=by
 intro pins s Z H xs us Q I r h;obtain⟨a,ys,ks,rfl,hq,hy,hz,q⟩:=h;obtain⟨u,rfl,ru⟩:=Vals.one r;cases ru;obtain⟨its,rv,p,_⟩:=I.list hq;have hl:=rv.length;have at_:∀(ks:List (List Int)) (ys:List V) (its:List Value),Lsts [] H ys ks->Vals ys its->Paired (λv k=>∃b us n,v=Value.ref b/\IntsAre us k/\s.heap.get? b=some (seqObj "list" us.toArray n)) its ks:=by
  intro ks;induction ks with
  |nil=>intro ys its a b;cases a;cases b;exact .nil
  |cons k ks ih=>
   intro ys its a b;cases a with
   |cons hh tt=>
    obtain⟨bb,e0,hq⟩:=hh;subst e0;cases b with
    |cons r rr=>
     cases r;obtain⟨z,us,n,r5,p6⟩:=I.hok _ _ hq;exact .cons ⟨bb,us,n,rfl,nS r5,p6⟩ (ih _ _ tt rr)
 have P:=at_ ks ys its hy rv;have rkk:∀{b:Addr} {us:List Value} {n:Nat} {k:List Int},IntsAre us k->s.heap.get? b=some (seqObj "list" us.toArray n)->rkV s.heap (Value.ref b)=k:=λ{b us n k} i1 i2=>by
  show (match s.heap.get? b with|some o=>_|none=>_)=_;rw[i2];exact qX i1
 have hk:∀i,i<its.length->rkV s.heap (its.getD i Value.none)=ks.getD i []:=λi hi=>by
  obtain⟨k,e1,b,us,n,e2,i1,i2⟩:=Paired.getE (i:=i) (x:=its[i]) P (by simp[hi]);rw[show its.getD i Value.none=its[i] by simp[List.getD,hi],e2,rkk i1 i2,List.getD,e1];rfl
 refine AQ (κ:=oneType') (rk:=rkV s.heap) p.isList (by rw[gH];lia) (λh' old h2 Q q=>?_) (λh' old h2 x hx y hy C q=>?_) λout p1 p2=>?_
 .refine kas_kind (T:=.type "list") h2 (λv hv=>?_) (by decide) (by decide) q;obtain⟨i,hi⟩:=dB.mp hv;obtain⟨k,e1,b,us,n,rfl,i1,i2⟩:=Paired.getE P hi;intro A Q E s' k' q';have:=k' _ _ (old _ _ i2);exact z6 ⟨_,this,rfl⟩ q'
 .obtain⟨i,hi⟩:=dB.mp hx;obtain⟨j,hj⟩:=dB.mp hy;obtain⟨k1,_,b1,u1,n1,rfl,i1,x1⟩:=Paired.getE P hi;obtain⟨k2,_,b2,u2,n2,rfl,i2,x2⟩:=Paired.getE P hj;rw[rkk i1 x1,rkk i2 x2] at q;exact Cn (by show X.A.units+1+1<_;lia) (old _ _ x1) (old _ _ x2) i1 i2 q
 obtain⟨ix,x1,x2,x3⟩:=xI rv hk p1 p2;obtain⟨e,he⟩:=sortedAll_at s.heap its out.toArray;have hp:s.heap.objs.size<=s.heap.objs.size+1:=pY _;exact⟨.ref (s.heap.objs.size+1),upd H (s.heap.objs.size+1) (.lst (ix.map λi=>ys.getD i .non)),I.laid (t':=s.toks) (λb o e=>sortedAll_old e) hp ⟨by rw[aQ,x1.length_eq,pP,gH];lia,out,e,x3,by rw[he]⟩,rfl,q _ ix (I.hok.fresh hp) x1 x2⟩
end
end L2
end
section
namespace L2
open PySem PySem.Spec PyProof.Rows
def rNeE:R2:=λx y H Q=>∃(a b:Addr) (kvs:List (Key×V)),x=.ref a/\y=.ref b/\Rd H a (.dK kvs)/\Rd H b (.dK [])/\Q (.bl (!kvs.isEmpty)) H
theorem Fv (hu:X.A.units<cLine):OpR X (compareOp .NotEq) rNeE:=by
 intro pins s Z H x y v u Q I rx ry h;obtain⟨a,b,kvs,rfl,rfl,ha,hb,q⟩:=h;cases rx;cases ry;obtain⟨z0,lo,vs,rel,dd⟩:=gA I.hok ha;obtain⟨z1,lo1,ms,rel1,dd1⟩:=gA I.hok hb;have e0:ms=[]:=by have:=rel1.length;exact IM.mp this.symm
 subst e0;refine W.keq_ne (r:=true) lo lo1 dd dd1 hu (λe=>?_) ⟨.bl _,H,I,?_,q⟩
 .have e:vs=[]:=IM.mp e;subst e;exact .nil
 .show Value.bool _=Value.bool _;have:=rel.length;cases kvs with
  |nil=>cases vs with
   |nil=>rfl
   |cons p r=>simp at this
  |cons p r=>cases vs with
   |nil=>simp at this
   |cons p' r'=>rfl
end L2
end
section
namespace K71
open K31 K51
abbrev Tn:=Nat×Nat×Nat
def aE (a:Nat):List Nat->Nat
 | []=>a
 |b::l=>aE b l
def tw:Nat->Nat->List Nat->Nat->List Tn
 |p,v,[],z=>[(p,v,z)]
 |p,v,n::l,z=>(p,v,n)::tw v n l z
def turns:List Nat->List Tn
 | []=>[]
 |a::l=>tw (aE a l) a l a
def tn (ls:Lps):List Tn:=ls.flatMap turns
theorem iP:∀(a:Nat) (l:List Nat) (b:Nat) (r:List Nat),aE a (l++b::r)=aE b r
 |_,[],_,_=>rfl
 |_,c::l,b,r=>iP c l b r
theorem jI:∀(p v:Nat) (l:List Nat) (n:Nat) (r:List Nat) (z:Nat),tw p v (l++n::r) z=tw p v l n++tw (aE v l) n r z
 |_,_,[],_,_,_=>rfl
 |p,v,c::l,n,r,z=>by
  show (p,v,c)::tw v c (l++n::r) z=(p,v,c)::(tw v c l n++tw (aE c l) n r z);rw[jI v c l n r z]
def hd (l:List Nat) (z:Nat):Nat:=match l with
 | []=>z
 |n::_=>n
theorem my (v:Nat) (l:List Nat) (z:Nat):∃r,∀p,tw p v l z=(p,v,hd l z)::r:=by
 cases l with
 |nil=>exact⟨[],λ_=>rfl⟩
 |cons n l=>exact⟨tw v n l z,λ_=>rfl⟩
theorem oo (v:Nat) (l:List Nat) (z:Nat):∃n r,∀p,tw p v l z=(p,v,n)::r:=⟨_,my v l z⟩
theorem AC (l r:List Nat):(turns (l++r)).Perm (turns (r++l)):=by
 cases l with
 |nil=>rw[jh,cZ]
 |cons a l=>
  cases r with
  |nil=>rw[jh,cZ]
  |cons b r=>
   show (tw (aE a (l++b::r)) a (l++b::r) a).Perm (tw (aE b (r++a::l)) b (r++a::l) b);rw[jI,jI,iP,iP];exact cR
theorem vq:∀(p v:Nat) (l:List Nat) (z:Nat),(tw p v l z).map (·.2)=path v l z
 |_,_,[],_=>rfl
 |p,v,n::l,z=>by
  show (v,n)::(tw v n l z).map (·.2)=(v,n)::path n l z;rw[vq v n l z]
theorem Ao (l:List Nat):(turns l).map (·.2)=sides l:=by
 cases l with
 |nil=>rfl
 |cons a l=>exact vq _ a l a
theorem kO (ls:Lps):(tn ls).map (·.2)=wl ls:=by
 induction ls with
 |nil=>rfl
 |cons l ls ih=>
  show (turns l++tn ls).map (·.2)=sides l++wl ls;rw[bI,ih,Ao]
theorem vY:∀(p v:Nat) (l:List Nat) (z:Nat),(tw p v l z).map (λt=>(t.1,t.2.1))++[(aE v l,z)]=(p,v)::path v l z
 |_,_,[],_=>rfl
 |p,v,n::l,z=>by
  show (p,v)::((tw v n l z).map (λt=>(t.1,t.2.1))++[(aE n l,z)])=_;rw[vY v n l z];rfl
theorem AD (l:List Nat):((turns l).map λt=>(t.1,t.2.1)).Perm (sides l):=by
 cases l with
 |nil=>exact .nil
 |cons a l=>
  have h:=vY (aE a l) a l a;have h2:((tw (aE a l) a l a).map (λt=>(t.1,t.2.1))++[(aE a l,a)]).Perm (path a l a++[(aE a l,a)]):=by rw[h];exact (cR (l₁:=[(aE a l,a)]))
  exact (List.perm_append_right_iff _).mp h2
theorem vZ (ls:Lps):((tn ls).map λt=>(t.1,t.2.1)).Perm (wl ls):=by
 induction ls with
 |nil=>exact .nil
 |cons l ls ih=>
  show ((turns l++tn ls).map λt=>(t.1,t.2.1)).Perm (sides l++wl ls);rw[bI];exact (AD l).append ih
theorem il (xs ys:Lps):tn (xs++ys)=tn xs++tn ys:=by simp[tn,tH]
theorem jJ (l:List Nat):tn [l]=turns l:=by simp[tn]
theorem v8 (l:List Nat) (ls:Lps):tn (l::ls)=turns l++tn ls:=by simp[tn]
theorem pm3 {α:Type} (r2 w r1 q:List α):(r2++(w++r1)++q).Perm (w++(r1++r2++q)):=by rw[show w++(r1++r2++q)=(w++r1)++r2++q by simp];exact eJ _ cR
inductive TS (a b x:Nat):Nat->Nat->List Tn->List Tn->Prop
 |c (w p n:Nat) (r:List Tn):TS a b x 67 w ((p,a,b)::(a,b,n)::r) ((p,a,x)::(a,x,b)::(x,b,n)::r)
 |r (w p z:Nat) (r:List Tn):TS a b x 82 w ((p,a,b)::(a,b,x)::(b,x,z)::r) ((p,a,x)::(a,x,z)::r)
 |l (w n y:Nat) (r:List Tn):TS a b x 76 w ((x,a,b)::(a,b,n)::(y,x,a)::r) ((y,x,b)::(x,b,n)::r)
 |e (w:Nat) (r:List Tn):TS a b x 69 w ((x,a,b)::(a,b,x)::(b,x,a)::r) r
 |s (p n y z:Nat) (r:List Tn):TS a b x 83 z ((p,a,b)::(a,b,n)::(y,x,z)::r) ((p,a,x)::(a,x,z)::(y,x,b)::(x,b,n)::r)
def jV (ah:Lps) (loop:List Nat) (x:Nat):Lt->Nat
 |.sg _=>0
 |.sp j k=>if j=0 then hd (loop.drop (k+1)) (g1 loop) else hd ((ah.getD (ah.length-j) []).drop (k+1)++(ah.getD (ah.length-j) []).take k) x
theorem qf {ah:Lps} {a b:Nat} {t:List Nat} {lt:Lt} {n x:Nat} (ha:Lets lt) (h:aM ah (a::b::t) lt n=some x) :
  ∃T T',(tn (ah++[a::b::t])).Perm T/\(tn (bK ah (a::b::t) lt x)).Perm T'/\TS a b x (sgn lt) (jV ah (a::b::t) x lt) T T':=by
 have base:∀(l:List Nat),(tn (ah++[l])).Perm (turns l++tn ah):=λl=>by
  rw[il,jJ];exact cR
 obtain⟨n0,r0,h0⟩:=oo b t a;have hb:(tn (ah++[a::b::t])).Perm ((aE b t,a,b)::(a,b,n0)::(r0++tn ah)):=by refine (base _).trans ?_;show ((aE b t,a,b)::tw a b t a++tn ah).Perm _;rw[h0 a];exact .refl _
 cases lt with
 |sg c=>
  simp only[Lets] at ha;simp only[aM] at h;rcases ha with rfl|rfl|rfl|rfl
  .refine⟨_,_,hb,(base _).trans ?_,TS.c _ _ _ _⟩;show ((aE b t,a,x)::(a,x,b)::tw x b t a++tn ah).Perm _;rw[h0 x];exact .refl _
  .simp at h
   match t,h with
   | [],h=>simp at h
   |y::t',h=>
    simp at h;obtain⟨_,rfl⟩:=h;obtain⟨z,r1,h1⟩:=oo y t' a;refine⟨(aE y t',a,b)::(a,b,y)::(b,y,z)::(r1++tn ah),(aE y t',a,y)::(a,y,z)::(r1++tn ah),(base _).trans ?_,(base _).trans ?_,TS.r _ _ _ _⟩
    .show ((aE y t',a,b)::(a,b,y)::tw b y t' a++tn ah).Perm _;rw[h1 b];exact .refl _
    .show ((aE y t',a,y)::tw a y t' a++tn ah).Perm _;rw[h1 a];exact .refl _
  .simp at h;have ht:t≠[]:=by rintro rfl;simp at h
   have hx:t.getLast?=some x:=by
    rw[pM];have:=h.2
    match t,ht with
    |y::t',_=>simpa using this
   obtain⟨m,e⟩:=tJ.mp hx;subst e;obtain⟨n1,r1,h1⟩:=oo b m x;refine⟨(x,a,b)::(a,b,n1)::(aE b m,x,a)::(r1++tn ah),(aE b m,x,b)::(x,b,n1)::(r1++tn ah),(base _).trans ?_,(base _).trans ?_,TS.l _ _ _ _⟩
   .show ((aE b (m++[x]),a,b)::tw a b (m++[x]) a++tn ah).Perm _;rw[iP,jI,h1 a];show ((x,a,b)::((a,b,n1)::r1++[(aE b m,x,a)])++tn ah).Perm _;refine List.Perm.cons _ (List.Perm.cons _ ?_);show (r1++[(aE b m,x,a)]++tn ah).Perm ([(aE b m,x,a)]++(r1++tn ah));rw[<-bH];exact eJ _ cR
   .have e:(List.drop 1 (a::b::(m++[x]))).dropLast=b::m:=by
     show (b::(m++[x])).dropLast=_;rw[<-eY,tm]
    rw[e];show ((aE b m,x,b)::tw x b m x++tn ah).Perm _;rw[h1 x];exact .refl _
  .simp at h;obtain⟨h3,h⟩:=h
   match t,h3,h with
   | [y],_,h=>
    simp at h;subst h;exact⟨_,_,base _,.refl _,TS.e _ _⟩
 |sp j k=>
  simp only[aM] at h;by_cases hj:j=0
  .subst hj;rw[K3 rfl] at h;by_cases hk:2<k/\k+1<(a::b::t).length
   .rw[K3 hk] at h;obtain⟨e1,e2⟩:=oB h;obtain⟨m,rfl⟩:∃m,k=m+2:=⟨k-2,by lia⟩;have e3:t=t.take m++x::t.drop (m+1):=by simpa using e1
    have e4:t.drop m=x::t.drop (m+1):=by simpa using e2
    obtain⟨n1,r1,h1⟩:=oo b (t.take m) x;obtain⟨r2,h2⟩:=my x (t.drop (m+1)) a;have ez:jV ah (a::b::t) x (.sp 0 (m+2))=hd (t.drop (m+1)) a:=rfl;rw[ez];generalize hd (t.drop (m+1)) a=z at *;have el:aE b t=aE x (t.drop (m+1)):=by conv=>lhs;rw[e3,iP]
    refine⟨(aE b t,a,b)::(a,b,n1)::(aE b (t.take m),x,z)::(r1++r2++tn ah),(aE b t,a,x)::(a,x,z)::(aE b (t.take m),x,b)::(x,b,n1)::(r1++r2++tn ah),(base _).trans ?_,?_,TS.s _ _ _ _ _⟩
    .show ((aE b t,a,b)::tw a b t a++tn ah).Perm _;have e5:tw a b t a=(a,b,n1)::r1++(aE b (t.take m),x,z)::r2:=by
      conv=>lhs;rw[e3]
      rw[jI,h1 a,h2]
     rw[e5];refine List.Perm.cons _ ?_;show ((a,b,n1)::(r1++(aE b (t.take m),x,z)::r2++tn ah)).Perm _;refine List.Perm.cons _ ?_;rw[bH,bH];exact pV
    .show (tn (ah++[a::List.drop m t,x::b::t.take m])).Perm _;rw[e4,il,v8,jJ];refine cR.trans ?_;show ((aE x (t.drop (m+1)),a,x)::tw a x (t.drop (m+1)) a++(aE b (t.take m),x,b)::tw x b (t.take m) x++tn ah).Perm _;rw[h2 a,h1 x,el];refine List.Perm.cons _ ?_;show ((a,x,z)::(r2++(aE b (t.take m),x,b)::(x,b,n1)::r1++tn ah)).Perm _;refine List.Perm.cons _ ?_;show (r2++([(aE b (t.take m),x,b),(x,b,n1)]++r1)++tn ah).Perm ([(aE b (t.take m),x,b),(x,b,n1)]++(r1++r2++tn ah));exact pm3 _ _ _ _
   .rw[K2 hk] at h;cases h
  .rw[K2 hj] at h;by_cases hk:j<=ah.length
   .rw[K3 hk] at h;obtain⟨u,v,e1,e2⟩:=rW (show ah.length-j<ah.length by lia);have es:bK ah (a::b::t) (.sp j k) x=ah.eraseIdx (ah.length-j)++[[a]++(ah.getD (ah.length-j) []).drop k++(ah.getD (ah.length-j) []).take k++x::b::t]:=by
     unfold bK;dsimp only;rw[K2 hj];rfl
    have ez:jV ah (a::b::t) x (.sp j k)=hd ((ah.getD (ah.length-j) []).drop (k+1)++(ah.getD (ah.length-j) []).take k) x:=by unfold jV;dsimp only;rw[K2 hj]
    rw[es,e2,ez];obtain⟨e3,e4⟩:=oB h;generalize ah.getD (ah.length-j) []=o at *;obtain⟨r2,h2⟩:=my x (o.drop (k+1)++o.take k) x;generalize hd (o.drop (k+1)++o.take k) x=z at *;refine⟨(aE b t,a,b)::(a,b,n0)::(aE x (o.drop (k+1)++o.take k),x,z)::(r0++r2++(tn u++tn v)),(aE b t,a,x)::(a,x,z)::(aE x (o.drop (k+1)++o.take k),x,b)::(x,b,n0)::(r0++r2++(tn u++tn v)),hb.trans ?_,?_,TS.s _ _ _ _ _⟩
    .refine List.Perm.cons _ (List.Perm.cons _ ?_);have e5:(turns o).Perm ((aE x (o.drop (k+1)++o.take k),x,z)::r2):=by
      rw[<-h2]
      conv=>lhs;rw[e3]
      exact AC (o.take k) (x::o.drop (k+1))
     have e6:(tn ah).Perm ((aE x (o.drop (k+1)++o.take k),x,z)::r2++(tn u++tn v)):=by
      rw[e1,il,v8];have:(tn u++(turns o++tn v)).Perm (turns o++(tn u++tn v)):=by rw[<-bH,<-bH];exact eJ _ cR
      exact this.trans (eJ _ e5)
     refine (gC r0 e6).trans ?_;show (r0++((aE x (o.drop (k+1)++o.take k),x,z)::(r2++(tn u++tn v)))).Perm _;refine pV.trans (List.Perm.cons _ ?_);rw[<-bH]
    .rw[il,il,jJ];refine cR.trans ?_;have e7:turns ([a]++o.drop k++o.take k++x::b::t)=(aE b t,a,x)::((a,x,z)::r2++(aE x (o.drop (k+1)++o.take k),x,b)::(x,b,n0)::r0):=by
      rw[e4];have:[a]++x::o.drop (k+1)++o.take k++x::b::t=a::x::(o.drop (k+1)++o.take k++x::b::t):=by simp
      rw[this];show (aE x (o.drop (k+1)++o.take k++x::b::t),a,x)::tw a x (o.drop (k+1)++o.take k++x::b::t) a=_;rw[iP,jI,h2 a];show (aE b t,a,x)::((a,x,z)::r2++(aE x (o.drop (k+1)++o.take k),x,b)::tw x b t a)=_;rw[h0 x]
     rw[e7];refine List.Perm.cons _ (List.Perm.cons _ ?_);show (r2++([(aE x (o.drop (k+1)++o.take k),x,b),(x,b,n0)]++r0)++(tn u++tn v)).Perm ([(aE x (o.drop (k+1)++o.take k),x,b),(x,b,n0)]++(r0++r2++(tn u++tn v)));exact pm3 _ _ _ _
   .rw[K2 hk] at h;cases h
end K71
end
section
namespace K71
open K31 K51 K15
section
variable {U:Nat->Nat->Prop}
structure df (U:Nat->Nat->Prop) (n p:Nat) (l:List Nat):Prop where
 nd:(n::l).Nodup
 st:∀s∈path n l p,U s.1 s.2
def Gap (U:Nat->Nat->Prop) (n p:Nat):Prop:=∃l,df U n p l
theorem df.imp {U':Nat->Nat->Prop} {n p:Nat} {l:List Nat} (h:df U n p l) (hu:∀s t,s∈n::l->U s t->U' s t):df U' n p l:=by refine⟨h.nd,λs hs=>hu _ _ ?_ (h.st s hs)⟩;exact af.mpr (ic n l p s hs).1
theorem df.cut {n p:Nat} {l1 l2:List Nat} {m:Nat} (h:df U n p (l1++m::l2)):df U n m l1/\df U m p l2:=by
 have nd:=h.nd;rw[<-eY,bZ] at nd;refine⟨⟨nd.1,λs hs=>h.st s ?_⟩,⟨nd.2.1,λs hs=>h.st s ?_⟩⟩
 .rw[eS];exact cf _ hs
 .rw[eS];exact bN _ hs
theorem df.next {n p:Nat} {l:List Nat} (h:df U n p l) {s:Nat} (hs:s∈n::l):∃t,U s t/\(t=p\/t∈n::l):=by
 rcases af.mp hs with rfl|hs
 .cases l with
  |nil=>exact⟨p,h.st (s,p) (by simp[path]),.inl rfl⟩
  |cons m l=>exact⟨m,h.st (s,m) (by simp[path]),.inr (by simp)⟩
 .obtain⟨l1,l2,rfl⟩:=m6 hs;have h2:=h.cut.2;cases l2 with
  |nil=>exact⟨p,h2.st (s,p) (by simp[path]),.inl rfl⟩
  |cons m l2=>exact⟨m,h2.st (s,m) (by simp[path]),.inr (by simp)⟩
theorem qo:∀(n:Nat) (l:List Nat) (p:Nat),(aE n l,p)∈path n l p
 |_,[],_=>by simp[path,aE]
 |n,m::l,p=>by
  show (aE m l,p)∈(n,m)::path m l p;exact aY _ (qo m l p)
theorem uW:∀(n:Nat) (l:List Nat),aE n l∈n::l
 |_,[]=>by simp[aE]
 |n,m::l=>aY _ (uW m l)
theorem jm:∀(n:Nat) (l:List Nat) (p s:Nat),s∈l->∃o,(o,s)∈path n l p/\o∈n::l
 |_,[],_,_,h=>by cases h
 |n,m::l,p,s,h=>by
  rcases af.mp h with rfl|h
  .exact⟨n,by simp[path],by simp⟩
  .obtain⟨o,h1,h2⟩:=jm m l p s h;exact⟨o,aY _ h1,aY _ h2⟩
theorem rh:∀(n:Nat) (l:List Nat) (p i r s:Nat),(n::l)[i]?=some r->(n::l)[i+1]?=some s->(r,s)∈path n l p
 |_,[],_,_,_,_,_,h=>by simp at h
 |n,m::l,p,0,r,s,h1,h2=>by
  simp at h1 h2;subst h1 h2;simp[path]
 |n,m::l,p,i+1,r,s,h1,h2=>aY _ (rh m l p i r s (by simpa using h1) (by simpa using h2))
theorem oe (inj:∀a b c,U a c->U b c->a=b) {n p n' p':Nat} {l l':List Nat} (h:df U n p l) (h':df U n' p' l') (s0:∀o,¬U o n) (s0':∀o,¬U o n') {s:Nat} (hs:s∈n::l) (hs':s∈n'::l'):n=n':=by
 have key:∀(i s:Nat),(n::l)[i]?=some s->s∈n'::l'->n=n':=by
  intro i;induction i with
  |zero=>
   intro s e hs';have e:n=s:=by simpa using e
   subst e;rcases af.mp hs' with e|hs'
   .exact e
   .obtain⟨o,h1,_⟩:=jm n' l' p' n hs';exact (s0 o (h'.st _ h1)).elim
  |succ i ih=>
   intro s e hs';have hi:=(aS.mp e).1;have e0:(n::l)[i]?=some ((n::l)[i]'(by lia)):=aX _;have u:=h.st _ (rh n l p i _ s e0 e);rcases af.mp hs' with e2|hs'
   .rw[e2] at u;exact (s0' _ u).elim
   .obtain⟨o,h1,ho⟩:=jm n' l' p' s hs';have eo:o=(n::l)[i]'(by lia):=inj _ _ _ (h'.st _ h1) u;rw[eo] at ho;exact ih _ e0 ho
 obtain⟨i,hi⟩:=dB.mp hs;exact key i s hi hs'
end
def Ring (S:Nat->Nat->Prop) (l:List Nat):Prop:=l.Nodup/\∀p q,S p q↔(p,q)∈sides l
structure Clo (E:Nat->Nat->Nat->Prop):Prop where
 sk:Sk E
 cl:∀{a b c},E a b c->∃d,E b a d
 rg:∀{v p q},E v p q->∃l,Ring (E v) l
theorem Ring.turn {S:Nat->Nat->Prop} {l r:List Nat} (h:Ring S (l++r)):Ring S (r++l):=by
 refine⟨?_,λp q=>?_⟩
 .exact (cR.nodup_iff).mp h.1
 .rw[h.2,(qg l r).mem_iff]
theorem Ring.at {S:Nat->Nat->Prop} {l:List Nat} (h:Ring S l) {v:Nat} (hv:v∈l):∃r,Ring S (v::r):=by obtain⟨l1,l2,rfl⟩:=m6 hv;exact⟨l2++l1,h.turn⟩
theorem Ring.mem {S:Nat->Nat->Prop} {l:List Nat} (h:Ring S l) {p q:Nat} (hp:S p q):p∈l/\q∈l:=kH ((h.2 p q).mp hp)
def Dn (ds:List Tri) (a b:Nat):Prop:=∃c,En ds a b c
def Ud (E:Nat->Nat->Nat->Prop) (ds:List Tri) (v p q:Nat):Prop:=E v p q/\¬Dn ds v p
structure WI (E:Nat->Nat->Nat->Prop) (a0 b0:Nat) (ds:List Tri) (T:List Tn):Prop where
 sub:∀{a b c},En ds a b c->E a b c
 gd:((ents ds).map (·.1)).Nodup
 nd:(T.map (·.2)).Nodup
 pe:(T.map λt=>(t.1,t.2.1)).Perm (T.map (·.2))
 ed:∀{p v n},(p,v,n)∈T->(∃c,E v n c)/\¬Dn ds v n/\(ds=[]\/Dn ds n v)
 al:∀{v n c},E v n c->¬Dn ds v n->Dn ds n v->∃p,(p,v,n)∈T
 gp:∀{p v n},(p,v,n)∈T->Gap (Ud E ds v) n p
 st:ds=[]->T.Perm [(b0,a0,b0),(a0,b0,a0)]
section
variable {E:Nat->Nat->Nat->Prop} {a0 b0:Nat} {ds:List Tri} {T:List Tn}
theorem WI.perm {T':List Tn} (h:WI E a0 b0 ds T) (p:T.Perm T'):WI E a0 b0 ds T':=
 ⟨h.sub,h.gd,(p.map _).nodup_iff.mp h.nd,((p.map _).symm.trans h.pe).trans (p.map _),λz=>h.ed (p.mem_iff.mpr z),λe n d=>let ⟨q,hq⟩:=h.al e n d;⟨q,p.mem_iff.mp hq⟩,λz=>h.gp (p.mem_iff.mpr z),λe=>p.symm.trans (h.st e)⟩
theorem WI.same {p p' v n:Nat} (h:WI E a0 b0 ds T) (h1:(p,v,n)∈T) (h2:(p',v,n)∈T):p=p':=by
 have key:∀{T:List Tn},(T.map (·.2)).Nodup->(p,v,n)∈T->(p',v,n)∈T->p=p':=by
  intro T;induction T with
  |nil=>intro _ h;cases h
  |cons t T ih=>
   intro nd h1 h2;rw[aB,aV] at nd;rcases af.mp h1 with e1|h1
   .rcases af.mp h2 with e2|h2
    .rw[<-e1] at e2;cases e2;rfl
    .exact (nd.1 (aw.mpr ⟨_,h2,by rw[<-e1]⟩)).elim
   .rcases af.mp h2 with e2|h2
    .exact (nd.1 (aw.mpr ⟨_,h1,by rw[<-e2]⟩)).elim
    .exact ih nd.2 h1 h2
 exact key h.nd h1 h2
theorem WI.prev {p v n:Nat} (h:WI E a0 b0 ds T) (h1:(p,v,n)∈T):∃o,(o,p,v)∈T:=by have:(p,v)∈T.map (·.2):=h.pe.mem_iff.mp (aw.mpr ⟨_,h1,rfl⟩);obtain⟨⟨o,x,y⟩,h2,e⟩:=aw.mp this;cases e;exact⟨o,h2⟩
theorem EF (k:Sk E) {v p p' q:Nat} (h:Ud E ds v p q) (h':Ud E ds v p' q):p=p':=k.inj h.1 h'.1
theorem eN {a b c:Nat} (h:En ds a b c):En ds b c a:=by
 unfold En at *;rw[dv] at *;rcases h with h|h|h
 .exact .inr (.inl h)
 .exact .inr (.inr h)
 .exact .inl h
theorem jU (k:Sk E) (sub:∀{a b c},En ds a b c->E a b c) {v n:Nat} (h:Dn ds n v) (o:Nat):¬Ud E ds v o n:=by rintro⟨h1,h2⟩;obtain⟨c,hc⟩:=h;have e:o=c:=k.one (k.rot (k.rot h1)) (sub hc);subst e;exact h2 ⟨n,eN hc⟩
end
end K71
end
section
namespace K71
open K31 K51 K15
theorem vF:∀(n:Nat) (l:List Nat) (z z':Nat),∃r,path n l z=r++[(aE n l,z)]/\path n l z'=r++[(aE n l,z')]/\∀s∈r,s.2∈l
 |n,[],z,z'=>⟨[],rfl,rfl,λs h=>nomatch h⟩
 |n,m::l,z,z'=>by
  obtain⟨r,h1,h2,h3⟩:=vF m l z z';refine⟨(n,m)::r,by show (n,m)::path m l z=_;rw[h1];rfl,by show (n,m)::path m l z'=_;rw[h2];rfl,λs hs=>?_⟩;rcases af.mp hs with rfl|hs
  .simp
  .exact aY _ (h3 s hs)
theorem Ring.grow {S S':Nat->Nat->Prop} {l:List Nat} {u w x:Nat} (h:Ring S l) (hu:S u w) (hx:x∉l) (hs:∀p q,S' p q↔(S p q/\¬(p=u/\q=w))\/(p=u/\q=x)\/(p=x/\q=w)):∃l',Ring S' l'/\∀v,v∈l'↔v∈l\/v=x:=by
 obtain⟨l1,l2,e⟩:=m6 (h.mem hu).2;subst e;have hr:Ring S (w::(l2++l1)):=h.turn;have hm:∀v,v∈w::(l2++l1)↔v∈l1++w::l2:=λv=>by simp only[af,ay];constructor<;>(rintro (h|h|h)<;>simp[h])
 generalize l2++l1=r at hr hm;obtain⟨q,h1,h2,h3⟩:=vF w r w x;have nd:=hr.1;rw[aV] at nd;have hlast:aE w r=u:=by
  have:=(hr.2 u w).mp hu;rw[show sides (w::r)=path w r w from rfl,h1] at this;rcases ay.mp this with z|z
  .exact (nd.1 (h3 _ z)).elim
  .simp at z;exact z.symm
 have hx':x∉w::r:=λz=>hx ((hm x).mp z);refine⟨x::w::r,⟨aV.mpr ⟨hx',hr.1⟩,λp q'=>?_⟩,λv=>?_⟩
 .show _↔(p,q')∈(x,w)::path w r x;rw[hs,hr.2,show sides (w::r)=path w r w from rfl,h1,h2,hlast];simp only[af,ay,a8,or_false,bq];constructor
  .rintro (⟨h|h,h'⟩|h|h)
   .exact .inr (.inl h)
   .exact (h' h).elim
   .exact .inr (.inr h)
   .exact .inl h
  .rintro (h|h|h)
   .exact .inr (.inr h)
   .refine .inl ⟨.inl h,λz=>?_⟩;have:=h3 _ h;rw[z.2] at this;exact nd.1 this
   .exact .inr (.inl h)
 .rw[af,hm,or_comm]
theorem Ring.congr {S S':Nat->Nat->Prop} {l:List Nat} (h:Ring S l) (e:∀p q,S' p q↔S p q):Ring S' l:=⟨h.1,λp q=>(e p q).trans (h.2 p q)⟩
def Lk (ts:List Tri) (T:List Tn) (v p q:Nat):Prop:=En ts v p q\/(q,v,p)∈T
def kn (ts:List Tri) (ls:Lps):List Side:=tl ts++wl ls
structure FI (ts:List Tri) (ls:Lps):Prop where
 nd:(kn ts ls).Nodup
 sy:∀{p q},(p,q)∈kn ts ls->(q,p)∈kn ts ls
 ne:∀{p q},(p,q)∈kn ts ls->p≠q
 rg:∀v p q,Lk ts (tn ls) v p q->∃l,Ring (Lk ts (tn ls) v) l
theorem iw {ts:List Tri} {a b:Nat}:(a,b)∈tl ts↔∃c,En ts a b c:=by
 unfold tl En ents;simp only[iH,af,a8,or_false,bq];constructor
 .rintro⟨t,ht,h|h|h⟩
  .exact⟨_,t,ht,.inl ⟨h,rfl⟩⟩
  .exact⟨_,t,ht,.inr (.inl ⟨h,rfl⟩)⟩
  .exact⟨_,t,ht,.inr (.inr ⟨h,rfl⟩)⟩
 .rintro⟨c,t,ht,h|h|h⟩
  .exact⟨t,ht,.inl h.1⟩
  .exact⟨t,ht,.inr (.inl h.1)⟩
  .exact⟨t,ht,.inr (.inr h.1)⟩
theorem fP (ts:List Tri):tl ts=(ents ts).map (·.1):=by
 induction ts with
 |nil=>rfl
 |cons t ts ih=>
  show [(t.1,t.2.1),(t.2.1,t.2.2),(t.2.2,t.1)]++tl ts=_;rw[ih];simp[ents]
theorem iu {ls:Lps} {v n:Nat}:(v,n)∈wl ls↔∃p,(p,v,n)∈tn ls:=by
 rw[<-kO];constructor
 .intro h;obtain⟨⟨p,x,y⟩,h1,h2⟩:=aw.mp h;cases h2;exact⟨p,h1⟩
 .rintro⟨p,h⟩;exact aw.mpr ⟨_,h,rfl⟩
theorem oU {ls:Lps} {p v:Nat}:(p,v)∈wl ls↔∃n,(p,v,n)∈tn ls:=by
 rw[<-(vZ ls).mem_iff];constructor
 .intro h;obtain⟨⟨x,y,n⟩,h1,h2⟩:=aw.mp h;cases h2;exact⟨n,h1⟩
 .rintro⟨n,h⟩;exact aw.mpr ⟨_,h,rfl⟩
theorem vK {ts:List Tri} {ls:Lps} {v p q:Nat} (h:Lk ts (tn ls) v p q):(v,p)∈kn ts ls/\(q,v)∈kn ts ls:=by
 rcases h with h|h
 .exact⟨cf _ (iw.mpr ⟨q,h⟩),cf _ (iw.mpr ⟨p,eN (eN h)⟩)⟩
 .exact⟨bN _ (iu.mpr ⟨q,h⟩),bN _ (oU.mpr ⟨p,h⟩)⟩
theorem AR {ts:List Tri} {ls:Lps} (f:FI ts ls) {v c:Nat} {l:List Nat} (h:Ring (Lk ts (tn ls) v) l) (hc:c∈l):(v,c)∈kn ts ls:=by
 obtain⟨r,hr⟩:=h.at hc;have:∃q,(c,q)∈sides (c::r):=by
  cases r with
  |nil=>exact⟨c,by simp[sides,path]⟩
  |cons m r=>exact⟨m,by simp[sides,path]⟩
 obtain⟨q,hq⟩:=this;exact (vK ((hr.2 c q).mpr hq)).1
theorem ik {ts:List Tri} {T T':List Tn} (h:T.Perm T') (v p q:Nat):Lk ts T v p q↔Lk ts T' v p q:=by unfold Lk;rw[h.mem_iff]
theorem fi0:FI [] [[0,1]]:=by
 refine⟨by decide,λ{p q} h=>?_,λ{p q} h=>?_,λv p q h=>?_⟩
 .simp[kn,tl,wl,sides,path] at h |-;lia
 .simp[kn,tl,wl,sides,path] at h;lia
 .have e:∀v p q,Lk [] (tn [[0,1]]) v p q↔(q=1/\v=0/\p=1)\/(q=0/\v=1/\p=0):=λv p q=>by simp[Lk,En,ents,tn,turns,tw,aE]
  rcases (e v p q).mp h with ⟨rfl,rfl,rfl⟩|⟨rfl,rfl,rfl⟩
  .exact⟨[1],by simp,λp q=>by rw[e];simp[sides,path];lia⟩
  .exact⟨[0],by simp,λp q=>by rw[e];simp[sides,path];lia⟩
theorem iV {ds:List Tri} {a b x u v w:Nat}:En (ds++[(a,b,x)]) u v w↔En ds u v w\/(u=a/\v=b/\w=x)\/(u=b/\v=x/\w=a)\/(u=x/\v=a/\w=b):=by unfold En ents;rw[tH,ay];simp only[je,pJ,cZ,af,a8,or_false,bq,and_assoc]
theorem cn {ds:List Tri} {a b x u v:Nat}:Dn (ds++[(a,b,x)]) u v↔Dn ds u v\/(u=a/\v=b)\/(u=b/\v=x)\/(u=x/\v=a):=by
 unfold Dn;constructor
 .rintro⟨c,h⟩;rcases iV.mp h with h|⟨h1,h2,_⟩|⟨h1,h2,_⟩|⟨h1,h2,_⟩
  .exact .inl ⟨c,h⟩
  .exact .inr (.inl ⟨h1,h2⟩)
  .exact .inr (.inr (.inl ⟨h1,h2⟩))
  .exact .inr (.inr (.inr ⟨h1,h2⟩))
 .rintro (⟨c,h⟩|⟨h1,h2⟩|⟨h1,h2⟩|⟨h1,h2⟩)
  .exact⟨c,iV.mpr (.inl h)⟩
  .exact⟨x,iV.mpr (.inr (.inl ⟨h1,h2,rfl⟩))⟩
  .exact⟨a,iV.mpr (.inr (.inr (.inl ⟨h1,h2,rfl⟩)))⟩
  .exact⟨b,iV.mpr (.inr (.inr (.inr ⟨h1,h2,rfl⟩)))⟩
section
variable {E:Nat->Nat->Nat->Prop} {a0 b0:Nat} {ds:List Tri} {T:List Tn} {a b x p0 n0:Nat}
structure Gate (E:Nat->Nat->Nat->Prop) (a0 b0:Nat) (ds:List Tri) (T:List Tn) (a b x p0 n0:Nat):Prop where
 k:Clo E
 w:WI E a0 b0 ds T
 ga:(p0,a,b)∈T
 gb:(a,b,n0)∈T
 ex:E a b x
namespace Gate
variable (g:Gate E a0 b0 ds T a b x p0 n0)
include g
theorem inj (v:Nat):∀a b c,Ud E ds v a c->Ud E ds v b c->a=b:=λ_ _ _ h h'=>EF g.k.sk h h'
theorem ab:a≠b:=g.k.sk.ne g.ex
theorem bx:b≠x:=g.k.sk.ne (g.k.sk.rot g.ex)
theorem xa:x≠a:=g.k.sk.ne (g.k.sk.rot (g.k.sk.rot g.ex))
theorem eb:E b x a:=g.k.sk.rot g.ex
theorem ea:E x a b:=g.k.sk.rot g.eb
theorem nab:¬Dn ds a b:=(g.w.ed g.ga).2.1
theorem nbx:¬Dn ds b x:=λ⟨c,h⟩=>by
 have e:c=a:=g.k.sk.one (g.w.sub h) g.eb;subst e;exact g.nab ⟨x,eN (eN h)⟩
theorem nxa:¬Dn ds x a:=λ⟨c,h⟩=>by
 have e:c=b:=g.k.sk.one (g.w.sub h) g.ea;subst e;exact g.nab ⟨x,eN h⟩
theorem ud {v s t:Nat} (h:Ud E ds v s t) (h1:¬(v=a/\s=b)) (h2:¬(v=b/\s=x)) (h3:¬(v=x/\s=a)):Ud E (ds++[(a,b,x)]) v s t:=by
 refine⟨h.1,λz=>?_⟩;rcases cn.mp z with z|z|z|z
 .exact h.2 z
 .exact h1 z
 .exact h2 z
 .exact h3 z
theorem gapA:x=p0\/Gap (Ud E (ds++[(a,b,x)]) a) x p0:=by
 obtain⟨l,h⟩:=g.w.gp g.ga;cases l with
 |nil=>
  have u:=h.st (b,p0) (by simp[path]);exact .inl (g.k.sk.one g.ex u.1)
 |cons m l=>
  have u:=h.st (b,m) (by simp[path]);have e:x=m:=g.k.sk.one g.ex u.1;subst e;have nd:=h.nd;rw[aV] at nd;refine .inr ⟨l,nd.2,λs hs=>g.ud (h.st s (aY _ hs)) (λz=>?_) (λz=>g.ab z.1) λz=>g.xa z.1.symm⟩;have:=af.mpr (ic x l p0 s hs).1;rw[z.2] at this;exact nd.1 this
theorem gapB:∃l,df (Ud E ds b) n0 a l/\x∈n0::l/\(n0=x\/Gap (Ud E (ds++[(a,b,x)]) b) n0 x):=by
 obtain⟨l,h⟩:=g.w.gp g.gb;have u:=h.st _ (qo n0 l a);have e:aE n0 l=x:=g.k.sk.inj u.1 g.eb;refine⟨l,h,by rw[<-e];exact uW n0 l,?_⟩;rcases pI l with rfl|⟨l',m,e0⟩
 .exact .inl e
 .rw[pH] at e0;subst e0;rw[iP] at e;have e:m=x:=e;subst e;have h1:=h.cut.1;refine .inr ⟨l',h1.nd,λs hs=>g.ud (h1.st s hs) (λz=>g.ab z.1.symm) (λz=>?_) λz=>g.bx z.1⟩;have:=af.mpr (ic n0 l' m s hs).1;rw[z.2] at this;have nd:=h.nd;rw[<-eY,bZ] at nd;exact nd.2.2 m this m (by simp) rfl
theorem other (hx:(∀p n,(p,x,n)∉T)\/∃y z l,(y,x,z)∈T/\df (Ud E ds x) z y l/\a∈z::l) (hd:ds≠[]) {p v n:Nat} (h:(p,v,n)∈T) (h1:(v,n)≠(a,b)) (h2:(v,n)≠(b,n0)) (h3:∀y z,(y,x,z)∈T->(∃l,df (Ud E ds x) z y l/\a∈z::l)->(v,n)≠(x,z)) :
  Gap (Ud E (ds++[(a,b,x)]) v) n p:=by
 obtain⟨l,hl⟩:=g.w.gp h;have s0:∀{p v n:Nat},(p,v,n)∈T->∀o,¬Ud E ds v o n:=λht=>jU g.k.sk g.w.sub ((g.w.ed ht).2.2.resolve_left hd);refine⟨l,hl.imp λs t hs u=>g.ud u (λz=>?_) (λz=>?_) λz=>?_⟩
 .obtain⟨rfl,rfl⟩:=z;obtain⟨l0,hl0⟩:=g.w.gp g.ga;have e:=oe (g.inj _) hl hl0 (s0 h) (s0 g.ga) hs (by simp);subst e;exact h1 rfl
 .obtain⟨rfl,rfl⟩:=z;obtain⟨l0,hl0,hx0,_⟩:=g.gapB;have e:=oe (g.inj _) hl hl0 (s0 h) (s0 g.gb) hs hx0;subst e;exact h2 rfl
 .obtain⟨rfl,rfl⟩:=z;rcases hx with hx|⟨y,z,l0,hz,hl0,ha⟩
  .exact hx _ _ h
  .have e:=oe (g.inj _) hl hl0 (s0 h) (s0 hz) hs ha;subst e;exact h3 y n hz ⟨l0,hl0,ha⟩ rfl
theorem gd':((ents (ds++[(a,b,x)])).map (·.1)).Nodup:=by
 have e:(ents (ds++[(a,b,x)])).map (·.1)=(ents ds).map (·.1)++[(a,b),(b,x),(x,a)]:=by simp[ents]
 rw[e,bZ];refine⟨g.w.gd,?_,λs hs t ht e=>?_⟩
 .have h1:=g.ab;have h2:=g.bx;have h3:=g.xa;simp only[aV,af,a8,or_false,bq,not_or,not_false_eq_true,j7,and_true];exact⟨⟨λz=>h1 z.1,λz=>h3 z.1.symm⟩,λz=>h2 z.1⟩
 .subst e;obtain⟨⟨q,c⟩,h1,rfl⟩:=aw.mp hs;simp only[af,a8,or_false] at ht;rcases ht with rfl|rfl|rfl
  .exact g.nab ⟨c,h1⟩
  .exact g.nbx ⟨c,h1⟩
  .exact g.nxa ⟨c,h1⟩
theorem sub':∀{u v w},En (ds++[(a,b,x)]) u v w->E u v w:=λh=>by
 rcases iV.mp h with h|⟨rfl,rfl,rfl⟩|⟨rfl,rfl,rfl⟩|⟨rfl,rfl,rfl⟩
 .exact g.w.sub h
 .exact g.ex
 .exact g.eb
 .exact g.ea
theorem wantA (hd:ds≠[]) {o:Nat} (h:(o,x,a)∈T):p0=x:=by
 rcases g.gapA with e|⟨l,hl⟩
 .exact e.symm
 .-- nothing undone leads on from x about a
  have hxa:=(g.w.ed h).2.2.resolve_left hd;obtain⟨t,u,_⟩:=hl.next (s:=x) (by simp);exact (u.2 (cn.mpr (.inl hxa))).elim
theorem wantB (hd:ds≠[]) {o:Nat} (h:(o,b,x)∈T):n0=x:=by
 obtain⟨l,hl,hx,e|_⟩:=g.gapB
 .exact e
 .rcases af.mp hx with e|hx
  .exact e.symm
  .obtain⟨o',h1,_⟩:=jm n0 l a x hx;exact (jU g.k.sk g.w.sub ((g.w.ed h).2.2.resolve_left hd) o' (hl.st _ h1)).elim
theorem old (hd:ds≠[]) {y z:Nat} {l:List Nat} (hz:(y,x,z)∈T) (hl:df (Ud E ds x) z y l) (ha:a∈z::l) {T':List Tn} (nd:(T'.map (·.2)).Nodup) (pe:(T'.map λt=>(t.1,t.2.1)).Perm (T'.map (·.2)))
  (mem:∀t,t∈T'↔(t∈T/\t≠(p0,a,b)/\t≠(a,b,n0)/\t≠(y,x,z))\/(p0≠x/\t=(p0,a,x))\/(n0≠x/\t=(x,b,n0))\/(p0≠x/\t=(a,x,z))\/(n0≠x/\t=(y,x,b))):WI E a0 b0 (ds++[(a,b,x)]) T':=by
 have dnz:=(g.w.ed hz).2.2.resolve_left hd;have eA:z=a->p0=x:=λe=>by subst e;exact g.wantA hd hz
 have eA':p0=x->z=a:=λe=>by
  obtain⟨o,ho⟩:=g.w.prev g.ga;rw[e] at ho;have s0:=jU g.k.sk g.w.sub ((g.w.ed ho).2.2.resolve_left hd);rcases af.mp ha with e|ha
  .exact e.symm
  .obtain⟨o',h1,_⟩:=jm z l y a ha;exact (s0 _ (hl.st _ h1)).elim
 have eB':n0=x->y=b:=λe=>by
  have hb:=g.gb;rw[e] at hb;have dxb:=(g.w.ed hb).2.2.resolve_left hd;obtain⟨t,u,ht⟩:=hl.next ha;have et:t=b:=g.k.sk.one u.1 g.ea;subst et;rcases ht with e|ht
  .exact e.symm
  .obtain⟨t',u',_⟩:=hl.next ht;exact (u'.2 dxb).elim
 have eB:y=b->n0=x:=λe=>by
  obtain⟨o,ho⟩:=g.w.prev hz;rw[e] at ho;exact g.wantB hd ho
 have part:(z=a\/Gap (Ud E (ds++[(a,b,x)]) x) z a)/\(y=b\/Gap (Ud E (ds++[(a,b,x)]) x) b y):=by
  have tail:∀{m:Nat} {l2:List Nat},df (Ud E ds x) a y l2->m=a->y=b\/Gap (Ud E (ds++[(a,b,x)]) x) b y:=λ{m l2} h _=>by
   cases l2 with
   |nil=>exact .inl (g.k.sk.one (h.st (a,y) (by simp[path])).1 g.ea)
   |cons c l2=>
    have e:c=b:=g.k.sk.one (h.st (a,c) (by simp[path])).1 g.ea;subst e;have nd:=h.nd;rw[aV] at nd;refine .inr ⟨l2,nd.2,λs hs=>g.ud (h.st s (aY _ hs)) (λz=>g.xa z.1) (λz=>g.bx z.1.symm) λz=>?_⟩;have:=af.mpr (ic c l2 y s hs).1;rw[z.2] at this;exact nd.1 this
  rcases af.mp ha with e|ha
  .exact⟨.inl e.symm,tail (m:=a) (by rw[e];exact hl) rfl⟩
  .obtain⟨l1,l2,rfl⟩:=m6 ha;obtain⟨h1,h2⟩:=hl.cut;refine⟨.inr ⟨l1,h1.nd,λs hs=>g.ud (h1.st s hs) (λz=>g.xa z.1) (λz=>g.bx z.1.symm) λzz=>?_⟩,tail (m:=a) h2 rfl⟩;have:=af.mpr (ic z l1 a s hs).1;rw[zz.2] at this;have nd:=hl.nd;rw[<-eY,bZ] at nd;exact nd.2.2 a this a (by simp) rfl
 refine⟨g.sub',g.gd',nd,pe,?_,?_,?_,λe=>by simp at e⟩
 .intro p v n ht;rcases (mem _).mp ht with ⟨ht,h1,h2,h3⟩|⟨hp,e⟩|⟨hn,e⟩|⟨hp,e⟩|⟨hn,e⟩
  .obtain⟨c,d,e⟩:=g.w.ed ht;refine⟨c,λz=>?_,.inr (cn.mpr (.inl (e.resolve_left hd)))⟩;rcases cn.mp z with z|⟨rfl,rfl⟩|⟨rfl,rfl⟩|⟨rfl,rfl⟩
   .exact d z
   .exact h1 (by rw[g.w.same ht g.ga])
   .have e2:=g.wantB hd ht;subst e2;exact h2 (by rw[g.w.same ht g.gb])
   .have e2:=eA' (g.wantA hd ht);subst e2;exact h3 (by rw[g.w.same ht hz])
  .cases e;obtain⟨d,hd'⟩:=g.k.cl g.ea;refine⟨⟨d,hd'⟩,λz=>?_,.inr (cn.mpr (.inr (.inr (.inr ⟨rfl,rfl⟩))))⟩;rcases cn.mp z with z|z|z|z
   .obtain⟨o,ho⟩:=g.w.al g.ea g.nxa z;exact hp (g.wantA hd ho)
   .exact g.bx z.2.symm
   .exact g.ab z.1
   .exact g.xa z.1.symm
  .cases e;obtain⟨c,d,e⟩:=g.w.ed g.gb;refine⟨c,λz=>?_,.inr (cn.mpr (.inl (e.resolve_left hd)))⟩;rcases cn.mp z with z|z|z|z
   .exact d z
   .exact g.ab z.1.symm
   .exact hn z.2
   .exact g.bx z.1
  .cases e;obtain⟨c,d,e⟩:=g.w.ed hz;refine⟨c,λz=>?_,.inr (cn.mpr (.inl dnz))⟩;rcases cn.mp z with z|z|z|z
   .exact d z
   .exact g.xa z.1
   .exact g.bx z.1.symm
   .exact hp (eA z.2)
  .cases e;obtain⟨d,hd'⟩:=g.k.cl g.eb;refine⟨⟨d,hd'⟩,λz=>?_,.inr (cn.mpr (.inr (.inr (.inl ⟨rfl,rfl⟩))))⟩;rcases cn.mp z with z|z|z|z
   .obtain⟨o,ho⟩:=g.w.al g.eb g.nbx z;exact hn (g.wantB hd ho)
   .exact g.xa z.1
   .exact g.bx z.1.symm
   .exact g.ab z.2.symm
 .intro v n c he h1 h2;have h1':¬Dn ds v n:=λz=>h1 (cn.mpr (.inl z));rcases cn.mp h2 with h2|⟨rfl,rfl⟩|⟨rfl,rfl⟩|⟨rfl,rfl⟩
  .obtain⟨p,hp⟩:=g.w.al he h1' h2;by_cases c1:(p,v,n)=(p0,a,b)
   .cases c1;exact (h1 (cn.mpr (.inr (.inl ⟨rfl,rfl⟩)))).elim
   by_cases c2:(p,v,n)=(a,b,n0)
   .cases c2;have hn:n0≠x:=λe=>h1 (cn.mpr (.inr (.inr (.inl ⟨rfl,e⟩))));exact⟨x,(mem _).mpr (.inr (.inr (.inl ⟨hn,rfl⟩)))⟩
   by_cases c3:(p,v,n)=(y,x,z)
   .cases c3;have hn:p0≠x:=λe=>h1 (cn.mpr (.inr (.inr (.inr ⟨rfl,eA' e⟩))));exact⟨a,(mem _).mpr (.inr (.inr (.inr (.inl ⟨hn,rfl⟩))))⟩
   exact⟨p,(mem _).mpr (.inl ⟨hp,c1,c2,c3⟩)⟩
  .exact (h1' ((g.w.ed g.ga).2.2.resolve_left hd)).elim
  .have hn:n0≠v:=λe=>by
    have hb:=g.gb;rw[e] at hb;exact h1' ((g.w.ed hb).2.2.resolve_left hd)
   exact⟨y,(mem _).mpr (.inr (.inr (.inr (.inr ⟨hn,rfl⟩))))⟩
  .have hn:p0≠n:=λe=>by
    obtain⟨o,ho⟩:=g.w.prev g.ga;rw[e] at ho;exact h1' ((g.w.ed ho).2.2.resolve_left hd)
   exact⟨p0,(mem _).mpr (.inr (.inl ⟨hn,rfl⟩))⟩
 .intro p v n ht;rcases (mem _).mp ht with ⟨ht,h1,h2,h3⟩|⟨hp,e⟩|⟨hn,e⟩|⟨hp,e⟩|⟨hn,e⟩
  .refine g.other (.inr ⟨y,z,l,hz,hl,ha⟩) hd ht (λe=>?_) (λe=>?_) λy' z' hz' ⟨l',hl',ha'⟩ e=>?_
   .cases e;exact h1 (by rw[g.w.same ht g.ga])
   .cases e;exact h2 (by rw[g.w.same ht g.gb])
   .cases e;have e2:n=z:=oe (g.inj _) hl' hl (jU g.k.sk g.w.sub ((g.w.ed hz').2.2.resolve_left hd)) (jU g.k.sk g.w.sub dnz) ha' ha;subst e2;exact h3 (by rw[g.w.same ht hz])
  .cases e;exact g.gapA.resolve_left λe=>hp e.symm
  .cases e;obtain⟨_,_,_,h⟩:=g.gapB;exact h.resolve_left hn
  .cases e;exact part.1.resolve_left λe=>hp (eA e)
  .cases e;exact part.2.resolve_left λe=>hn (eB e)
end Gate
end
end K71
end
section
namespace K71
open K31 K51 K15
theorem Ring.grow' {S S' B:Nat->Nat->Prop} {l:List Nat} {u w x:Nat} (h:Ring S l) (hx:x∉l) (hB:∀p q,S p q↔B p q\/(p=u/\q=w)) (hn:¬B u w) (hs:∀p q,S' p q↔B p q\/(p=u/\q=x)\/(p=x/\q=w)):∃l',Ring S' l'/\∀v,v∈l'↔v∈l\/v=x:=by
 refine h.grow ((hB u w).mpr (.inr ⟨rfl,rfl⟩)) hx λp q=>?_;rw[hs,hB];constructor
 .rintro (h|h)
  .exact .inl ⟨.inl h,λz=>hn (by rw[<-z.1,<-z.2];exact h)⟩
  .exact .inr h
 .rintro (⟨h|h,h'⟩|h)
  .exact .inl h
  .exact (h' h).elim
  .exact .inr h
theorem Ie {A B:Prop} {v a b p q w y n P:Nat} (h1:v≠a) (h2:v≠b):(A\/(v=a/\p=b/\q=v\/v=b/\p=v/\q=a\/True/\p=a/\q=b)\/q=P/\v=a/\p=v\/q=a/\True/\p=w\/q=y/\True/\p=b\/q=v/\v=b/\p=n\/B)↔((A\/B)\/p=w/\q=a)\/p=a/\q=b\/p=b/\q=y:=by grind
section
variable {ts:List Tri} {ls:Lps} {a b x:Nat}
theorem HP {s w:Nat} {T T':List Tn} (f:FI ts ls) (hT:(tn ls).Perm T) (ab:a≠b) (bx:b≠x) (xa:x≠a) (h:TS a b x s w T T') (hab:(a,b)∈wl ls)
  (h67:s=67->∀c,(x,c)∉kn ts ls) (hA:s=67\/s=82\/s=83->(x,a)∉kn ts ls/\(a,x)∉kn ts ls) (hB:s=67\/s=76\/s=83->(b,x)∉kn ts ls/\(x,b)∉kn ts ls) :
  ∀v p q,Lk (ts++[(a,b,x)]) T' v p q->∃l,Ring (Lk (ts++[(a,b,x)]) T' v) l:=by
 have ndT:(T.map (·.2)).Nodup:=by have:=(bZ.mp f.nd).2.1;rw[<-kO] at this;exact (hT.map _).nodup_iff.mp this
 have ndT':=(fX.mp ndT).imp (S:=λa b=>a≠b) λh e=>h (by rw[e]);have ndT':T.Nodup:=ndT';have dis:∀{p v n c},(p,v,n)∈T->¬En ts v n c:=λ{p v n c} h1 h2=>(bZ.mp f.nd).2.2 (v,n) (iw.mpr ⟨c,h2⟩) (v,n) (iu.mpr ⟨p,hT.mem_iff.mpr h1⟩) rfl;have dis2:∀{p v n c},(p,v,n)∈T->¬En ts p v c:=λ{p v n c} h1 h2=>(bZ.mp f.nd).2.2 (p,v) (iw.mpr ⟨c,h2⟩) (p,v) (oU.mpr ⟨n,hT.mem_iff.mpr h1⟩) rfl;have rg:∀v p q,Lk ts T v p q->∃l,Ring (Lk ts T v) l:=λv p q h=>by
  obtain⟨l,hl⟩:=f.rg v p q ((ik hT v p q).mpr h);exact⟨l,hl.congr λp q=>(ik hT v p q).symm⟩
 have known:∀{v c l},Ring (Lk ts T v) l->c∈l->(v,c)∈kn ts ls:=λ{v c l} h hc=>AR f (h.congr λp q=>ik hT v p q) hc;have lk':∀v p q,Lk (ts++[(a,b,x)]) T' v p q↔En ts v p q\/((v=a/\p=b/\q=x)\/(v=b/\p=x/\q=a)\/(v=x/\p=a/\q=b))\/(q,v,p)∈T':=λv p q=>by
  unfold Lk;rw[iV,or_assoc]
 have oth:∀v,v≠a->v≠b->v≠x->(∀p q,(q,v,p)∈T'↔(q,v,p)∈T)->∀p q,Lk (ts++[(a,b,x)]) T' v p q->∃l,Ring (Lk (ts++[(a,b,x)]) T' v) l:=λv h1 h2 h3 h p q hp=>by
  have e:∀p q,Lk (ts++[(a,b,x)]) T' v p q↔Lk ts T v p q:=λp q=>by
   rw[lk'];unfold Lk;rw[h];simp[h1,h2,h3]
  obtain⟨l,hl⟩:=rg v p q ((e p q).mp hp);exact⟨l,hl.congr e⟩
 have one:∀(r:List Tn) (v u w c:Nat),(∀p q,Lk ts T v p q↔(En ts v p q\/(q,v,p)∈r)\/(p=u/\q=w))->¬(En ts v u w\/(w,v,u)∈r)->(v,c)∉kn ts ls->(∀p q,Lk (ts++[(a,b,x)]) T' v p q↔(En ts v p q\/(q,v,p)∈r)\/(p=u/\q=c)\/(p=c/\q=w))->∃l,Ring (Lk (ts++[(a,b,x)]) T' v) l:=λr v u w c h1 h2 h3 h4=>by
  obtain⟨l,hl⟩:=rg v u w ((h1 u w).mpr (.inr ⟨rfl,rfl⟩));obtain⟨l',hl',_⟩:=hl.grow' (λz=>h3 (known hl z)) h1 h2 h4;exact⟨l',hl'⟩
 intro v p q hv;cases h with
 |c _ P n r=>
  have d1:=λc=>dis (p:=P) (v:=a) (n:=b) (c:=c) (by simp);have d2:=λc=>dis (p:=a) (v:=b) (n:=n) (c:=c) (by simp);simp only[aV,af,not_or] at ndT';obtain⟨u1,u2⟩:=hA (.inl rfl);obtain⟨u3,u4⟩:=hB (.inl rfl);have fx:=h67 rfl;by_cases e1:v=a
  .subst e1;refine one r v b P x (λp q=>?_) (λz=>z.elim (d1 P) ndT'.1.2) u2 λp q=>?_
   .unfold Lk;simp only[af,bq]
    grind
   .rw[lk'];simp only[af,bq];grind
  by_cases e2:v=b
  .subst e2;refine one r v n a x (λp q=>?_) (λz=>z.elim (d2 a) ndT'.2.1) u3 λp q=>?_
   .unfold Lk;simp only[af,bq];grind
   .rw[lk'];simp only[af,bq];grind
  by_cases e3:v=x
  .subst e3;have none:∀p q,¬Lk ts ((P,a,b)::(a,b,n)::r) v p q:=λp q z=>fx p (vK ((ik hT v p q).mpr z)).1;refine⟨[a,b],by simp[ab],λp q=>?_⟩;have z:=none p q;unfold Lk at z;rw[lk'];simp only[af,bq,sides,path,a8,or_false] at z |-
   grind
  refine oth v e1 e2 e3 (λp q=>?_) p q hv;simp only[af,bq];grind
 |r _ P z r=>
  have d1:=λc=>dis (p:=P) (v:=a) (n:=b) (c:=c) (by simp);have d3:=λc=>dis (p:=b) (v:=x) (n:=z) (c:=c) (by simp);simp only[aV,af,not_or] at ndT';obtain⟨u1,u2⟩:=hA (.inr (.inl rfl));by_cases e1:v=a
  .subst e1;refine one r v b P x (λp q=>?_) (λz=>z.elim (d1 P) ndT'.1.2.2) u2 λp q=>?_
   .unfold Lk;simp only[af,bq];grind
   .rw[lk'];simp only[af,bq];grind
  by_cases e2:v=b
  .subst e2;have e:∀p q,Lk (ts++[(a,v,x)]) ((P,a,x)::(a,x,z)::r) v p q↔Lk ts ((P,a,v)::(a,v,x)::(v,x,z)::r) v p q:=λp q=>by
    rw[lk'];unfold Lk;simp only[af,bq];grind
   obtain⟨l,hl⟩:=rg v p q ((e p q).mp hv);exact⟨l,hl.congr e⟩
  by_cases e3:v=x
  .subst e3;refine one r v z b a (λp q=>?_) (λy=>y.elim (d3 b) ndT'.2.2.1) u1 λp q=>?_
   .unfold Lk;simp only[af,bq];grind
   .rw[lk'];simp only[af,bq];grind
  refine oth v e1 e2 e3 (λp q=>?_) p q hv;simp only[af,bq];grind
 |l _ n y r=>
  have d2:=λc=>dis (p:=a) (v:=b) (n:=n) (c:=c) (by simp);have d3:=λc=>dis (p:=y) (v:=x) (n:=a) (c:=c) (by simp);simp only[aV,af,not_or] at ndT';obtain⟨u3,u4⟩:=hB (.inr (.inl rfl));by_cases e1:v=a
  .subst e1;have e:∀p q,Lk (ts++[(v,b,x)]) ((y,x,b)::(x,b,n)::r) v p q↔Lk ts ((x,v,b)::(v,b,n)::(y,x,v)::r) v p q:=λp q=>by
    rw[lk'];unfold Lk;simp only[af,bq];grind
   obtain⟨l,hl⟩:=rg v p q ((e p q).mp hv);exact⟨l,hl.congr e⟩
  by_cases e2:v=b
  .subst e2;refine one r v n a x (λp q=>?_) (λz=>z.elim (d2 a) ndT'.2.1.2) u3 λp q=>?_
   .unfold Lk;simp only[af,bq];grind
   .rw[lk'];simp only[af,bq];grind
  by_cases e3:v=x
  .subst e3;refine one r v a y b (λp q=>?_) (λz=>z.elim (d3 y) ndT'.2.2.1) u4 λp q=>?_
   .unfold Lk;simp only[af,bq];grind
   .rw[lk'];simp only[af,bq];grind
  refine oth v e1 e2 e3 (λp q=>?_) p q hv;simp only[af,bq];grind
 |e _ r=>
  have e:∀p q,Lk (ts++[(a,b,x)]) T' v p q↔Lk ts ((x,a,b)::(a,b,x)::(b,x,a)::T') v p q:=λp q=>by
   rw[lk'];unfold Lk;simp only[af,bq];grind
  obtain⟨l,hl⟩:=rg v p q ((e p q).mp hv);exact⟨l,hl.congr e⟩
 |s P n y z r=>
  have d1:=λc=>dis (p:=P) (v:=a) (n:=b) (c:=c) (by simp);have d2:=λc=>dis (p:=a) (v:=b) (n:=n) (c:=c) (by simp);have d3:=λc=>dis (p:=y) (v:=x) (n:=w) (c:=c) (by simp);simp only[aV,af,not_or] at ndT';obtain⟨u1,u2⟩:=hA (.inr (.inr rfl));obtain⟨u3,u4⟩:=hB (.inr (.inr rfl));by_cases e1:v=a
  .subst e1;refine one r v b P x (λp q=>?_) (λz=>z.elim (d1 P) ndT'.1.2.2) u2 λp q=>?_
   .unfold Lk;simp only[af,bq];grind
   .rw[lk'];simp only[af,bq];grind
  by_cases e2:v=b
  .subst e2;refine one r v n a x (λp q=>?_) (λz=>z.elim (d2 a) ndT'.2.1.2) u3 λp q=>?_
   .unfold Lk;simp only[af,bq];grind
   .rw[lk'];simp only[af,bq];grind
  by_cases e3:v=x
  .subst e3;have hB:∀p q,Lk ts ((P,a,b)::(a,b,n)::(y,v,w)::r) v p q↔(En ts v p q\/(q,v,p)∈r)\/(p=w/\q=y):=λp q=>by
    unfold Lk;simp only[af,bq];grind
   obtain⟨l,hl⟩:=rg v w y ((hB w y).mpr (.inr ⟨rfl,rfl⟩));have na:a∉l:=λz=>u1 (known hl z);have nb:b∉l:=λz=>u4 (known hl z);obtain⟨l1,h1,m1⟩:=hl.grow' (S':=λp q=>(En ts v p q\/(q,v,p)∈r)\/(p=w/\q=a)\/(p=a/\q=y)) na hB (λz=>z.elim (d3 y) ndT'.2.2.1) λp q=>Iff.rfl;have na2:∀q,¬(En ts v a q\/(q,v,a)∈r):=λq z=>na ((hl.mem ((hB a q).mpr (.inl z))).1);have hwa:w≠a:=λe=>na (e ▸ (hl.mem ((hB w y).mpr (.inr ⟨rfl,rfl⟩))).1);obtain⟨l2,h2,_⟩:=h1.grow' (u:=a) (w:=y) (x:=b) (B:=λp q=>(En ts v p q\/(q,v,p)∈r)\/(p=w/\q=a)) (S':=Lk (ts++[(a,b,v)]) ((P,a,v)::(a,v,w)::(y,v,b)::(v,b,n)::r) v)
    (λz=>(m1 b).mp z |>.elim nb λe=>ab e.symm) (λp q=>by simp only[or_assoc]) (λz=>z.elim (na2 y) λz=>hwa z.1.symm) λp q=>by
     rw[lk'];simp only[af,bq];exact Ie (show v≠a from e1) (show v≠b from e2)
   exact⟨l2,h2⟩
  refine oth v e1 e2 e3 (λp q=>?_) p q hv;simp only[af,bq];grind
end
end K71
end
section
namespace K71
open K31 K51 K15
theorem oA {ts:List Tri} {ah:Lps} {a b:Nat} {t:List Nat} {lt:Lt} {n x:Nat} (ha:Lets lt) (h:aM ah (a::b::t) lt n=some x) :
  (kn (ts++[(a,b,x)]) (bK ah (a::b::t) lt x)).Perm (kn ts (ah++[a::b::t])++asked (sgn lt) a b x):=by
 obtain⟨rest,h1,h2⟩:=uL (loop:=a::b::t) (by simp) ha h;unfold kn;rw[v9];have h1:(wl (ah++[a::b::t])).Perm (gone (sgn lt) a b x++rest):=h1;have h2:(wl (bK ah (a::b::t) lt x)).Perm (come (sgn lt) a b x++rest):=h2;have e:([(a,b),(b,x),(x,a)]++come (sgn lt) a b x).Perm (gone (sgn lt) a b x++asked (sgn lt) a b x):=by
  unfold gone come asked;by_cases c1:sgn lt=82\/sgn lt=69
  .by_cases c2:sgn lt=76\/sgn lt=69
   .simp only[K3 c1,K3 c2];exact .refl _
   .simp only[K3 c1,K2 c2];exact .refl _
  .by_cases c2:sgn lt=76\/sgn lt=69
   .simp only[K2 c1,K3 c2];exact List.Perm.cons _ (List.Perm.swap ..)
   .simp only[K2 c1,K2 c2];exact List.Perm.cons _ (List.Perm.cons _ (List.Perm.swap ..))
 refine (gC _ h2).trans ?_;refine List.Perm.trans ?_ (eJ _ (gC _ h1.symm));rw[bH,bH,bH];refine gC _ ?_;rw[<-bH];refine (eJ _ e).trans ?_;rw[bH];exact gC _ cR
theorem oS {ts:List Tri} {ah:Lps} {a b:Nat} {t:List Nat} {lt:Lt} {n x:Nat} (f:FI ts (ah++[a::b::t])) (ha:Lets lt) (h:aM ah (a::b::t) lt n=some x) (xa:x≠a) (xb:x≠b)
  (ask:∀s∈asked (sgn lt) a b x,s∉kn ts (ah++[a::b::t])) (fr:sgn lt=67->∀c,(x,c)∉kn ts (ah++[a::b::t])):FI (ts++[(a,b,x)]) (bK ah (a::b::t) lt x):=by
 have pk:=oA (ts:=ts) ha h;have hab:(a,b)∈wl (ah++[a::b::t]):=by rw[dO,eF];exact bN _ (by simp[sides,path])
 have ab:a≠b:=f.ne (bN _ hab);have hask:∀{p q},(p,q)∈asked (sgn lt) a b x->(q,p)∈asked (sgn lt) a b x/\p≠q:=λ{p q} hp=>by
  unfold asked at hp |-;rcases ay.mp hp with hp|hp
  .split at hp
   .cases hp
   .rename_i c;rw[K2 c];simp only[af,a8,or_false,bq] at hp;rcases hp with ⟨rfl,rfl⟩|⟨rfl,rfl⟩
    .exact⟨by simp,λe=>xb e.symm⟩
    .exact⟨by simp,xb⟩
  .split at hp
   .cases hp
   .rename_i c;rw[K2 c];simp only[af,a8,or_false,bq] at hp;rcases hp with ⟨rfl,rfl⟩|⟨rfl,rfl⟩
    .exact⟨by simp,xa⟩
    .exact⟨by simp,λe=>xa e.symm⟩
 refine⟨pk.nodup_iff.mpr (bZ.mpr ⟨f.nd,?_,λs hs s' hs' e=>ask s' hs' (by rw[<-e];exact hs)⟩),λ{p q} hp=>?_,λ{p q} hp=>?_,?_⟩
 .unfold asked
  split<;>split
  .simp
  .simp[xa,aF xa]
  .simp[xb,aF xb]
  .simp only[eY,jh,aV,af,a8,or_false,bq,not_or,not_false_eq_true,j7,and_true];lia
 .rcases ay.mp (pk.mem_iff.mp hp) with h|h
  .exact pk.mem_iff.mpr (cf _ (f.sy h))
  .exact pk.mem_iff.mpr (bN _ (hask h).1)
 .rcases ay.mp (pk.mem_iff.mp hp) with h|h
  .exact f.ne h
  .exact (hask h).2
 .obtain⟨T,T',h1,h2,hs⟩:=qf ha h;have am:=λ(c:Nat)=>vk (c:=c) (a:=a) (b:=b) (x:=x);intro v p q hv;obtain⟨l,hl⟩:=HP f h1 ab (aF xb) xa hs hab fr (λz=>by
   obtain⟨_,⟨u1,u2⟩|u⟩:=am (sgn lt)
   .exact⟨ask _ u1,ask _ u2⟩
   .lia) (λz=>by
   obtain⟨⟨u1,u2⟩|u,_⟩:=am (sgn lt)
   .exact⟨ask _ u1,ask _ u2⟩
   .lia) v p q ((ik h2 v p q).mp hv)
  exact⟨l,hl.congr λp q=>ik h2 v p q⟩
theorem Ig {f:Fr} {lt:Lt} {x:Nat} (ok:Ok f) (h:FI f.ts f.ls) (ha:Lets lt) (hc:f.can lt=some x):FI (f.put lt x).ts (f.put lt x).ls:=by
 obtain⟨ls,ts,n⟩:=f;have hne:ls≠[]:=λe=>by subst e;simp[Fr.can] at hc
 obtain⟨ah,loop,rfl⟩:∃ah loop,ls=ah++[loop]:=by
  rcases pI ls with e|⟨ah,loop,e⟩
  .exact (hne e).elim
  .exact⟨ah,loop,by rw[e,pH]⟩
 rw[mw] at hc;rw[oJ];have l2:=ok.two loop (by simp);obtain⟨t,el⟩:=two l2;obtain⟨h1,h2,h3,h4⟩:=kM hc;generalize g1 loop=a at *;generalize g2 loop=b at *;subst el;refine oS h ha h1 h2 h3 (λs hs z=>?_) λe c z=>?_
 .obtain⟨u1,u2⟩:=h4 s hs;rcases ay.mp z with z|z
  .exact u2 z
  .exact u1 z
 .have ex:x=n:=by
   rcases uI h1 with ⟨_,e⟩|⟨l,hl,hx⟩
   .exact e
   .cases lt with
    |sg c=>
     have:c=67:=e;subst this;simp[aM] at h1;exact h1.symm
    |sp j k=>cases e
  subst ex;rcases ay.mp z with z|z
  .exact fI _ (ok.bigT _ z).1
  .obtain⟨l,hl,hz⟩:=jH.mp z;exact fI _ (ok.big l hl _ (kH hz).1)
section
variable {ts:List Tri} {ah:Lps} {a b x:Nat} {t:List Nat}
theorem FI.perm {ls ls':Lps} (f:FI ts ls) (h:ls.Perm ls'):FI ts ls':=by have h1:(wl ls).Perm (wl ls'):=h.flatMap_right _;have h2:(tn ls).Perm (tn ls'):=h.flatMap_right _;have h3:(kn ts ls).Perm (kn ts ls'):=gC _ h1;refine⟨h3.nodup_iff.mp f.nd,λz=>h3.mem_iff.mp (f.sy (h3.mem_iff.mpr z)),λz=>f.ne (h3.mem_iff.mpr z),λv p q z=>?_⟩;obtain⟨l,hl⟩:=f.rg v p q ((ik h2 v p q).mpr z);exact⟨l,hl.congr λp q=>(ik h2 v p q).symm⟩
theorem mL (f:FI ts (ah++[a::b::t])) (fr:∀c,(x,c)∉kn ts (ah++[a::b::t])) (xa:x≠a) (xb:x≠b) :
  FI (ts++[(a,b,x)]) (ah++[a::x::b::t])/\∀p q,(p,q)∈kn (ts++[(a,b,x)]) (ah++[a::x::b::t])↔(p,q)∈kn ts (ah++[a::b::t])\/(p=x/\(q=a\/q=b))\/(q=x/\(p=a\/p=b)):=by
 have h:aM ah (a::b::t) (.sg 67) x=some x:=rfl;have e:bK ah (a::b::t) (.sg 67) x=ah++[a::x::b::t]:=rfl;have fr2:∀c,(c,x)∉kn ts (ah++[a::b::t]):=λc z=>fr c (f.sy z);have ea:asked (sgn (.sg 67)) a b x=[(b,x),(x,b),(x,a),(a,x)]:=rfl;constructor
 .have:=oS f (lt:=.sg 67) (by simp[Lets]) h xa xb (λs hs=>?_) λ_=>fr
  .rw[e] at this;exact this
  .rw[ea] at hs;simp only[af,a8,or_false] at hs;rcases hs with rfl|rfl|rfl|rfl
   .exact fr2 _
   .exact fr _
   .exact fr _
   .exact fr2 _
 .intro p q;have pk:=oA (ts:=ts) (lt:=.sg 67) (by simp[Lets]) h;rw[e,ea] at pk;rw[pk.mem_iff,ay];simp only[af,a8,or_false,bq];constructor
  .rintro (z|⟨h1,h2⟩|⟨h1,h2⟩|⟨h1,h2⟩|⟨h1,h2⟩)
   .exact .inl z
   .exact .inr (.inr ⟨h2,.inr h1⟩)
   .exact .inr (.inl ⟨h1,.inr h2⟩)
   .exact .inr (.inl ⟨h1,.inl h2⟩)
   .exact .inr (.inr ⟨h2,.inl h1⟩)
  .rintro (z|⟨h1,h2|h2⟩|⟨h1,h2|h2⟩)
   .exact .inl z
   .exact .inr (.inr (.inr (.inl ⟨h1,h2⟩)))
   .exact .inr (.inr (.inl ⟨h1,h2⟩))
   .exact .inr (.inr (.inr (.inr ⟨h2,h1⟩)))
   .exact .inr (.inl ⟨h2,h1⟩)
theorem oY (f:FI ts (ah++[a::b::(t++[x])])) (ht:t≠[]) (xa:x≠a) (xb:x≠b) (u:(b,x)∉kn ts (ah++[a::b::(t++[x])])) :
  FI (ts++[(a,b,x)]) (ah++[x::b::t])/\∀p q,(p,q)∈kn (ts++[(a,b,x)]) (ah++[x::b::t])↔(p,q)∈kn ts (ah++[a::b::(t++[x])])\/(p=x/\q=b)\/(p=b/\q=x):=by
 have hl:0<t.length:=iE.mpr ht;have h:aM ah (a::b::(t++[x])) (.sg 76) x=some x:=by unfold aM;dsimp only;rw[K2 (by decide),K3 (.inl ⟨.inr rfl,by simp;lia⟩),K2 (by decide)];simp
 have e:bK ah (a::b::(t++[x])) (.sg 76) x=ah++[x::b::t]:=by show ah++[x::(b::(t++[x])).dropLast]=_;rw[<-eY,tm]
 have ea:asked (sgn (.sg 76)) a b x=[(b,x),(x,b)]:=rfl;constructor
 .have:=oS f (lt:=.sg 76) (by simp[Lets]) h xa xb (λs hs=>?_) λz=>by cases z
  .rw[e] at this;exact this
  .rw[ea] at hs;simp only[af,a8,or_false] at hs;rcases hs with rfl|rfl
   .exact u
   .exact λz=>u (f.sy z)
 .intro p q;have pk:=oA (ts:=ts) (lt:=.sg 76) (by simp[Lets]) h;rw[e,ea] at pk;rw[pk.mem_iff,ay];simp only[af,a8,or_false,bq];constructor
  .rintro (z|z|z)
   .exact .inl z
   .exact .inr (.inr z)
   .exact .inr (.inl z)
  .rintro (z|z|z)
   .exact .inl z
   .exact .inr (.inr z)
   .exact .inr (.inl z)
theorem HJ (f:FI ts (ah++[[a,b,x]])) (xa:x≠a) (xb:x≠b) :
  FI (ts++[(a,b,x)]) ah/\∀p q,(p,q)∈kn (ts++[(a,b,x)]) ah↔(p,q)∈kn ts (ah++[[a,b,x]]):=by
 have h:aM ah [a,b,x] (.sg 69) x=some x:=rfl;have e:bK ah [a,b,x] (.sg 69) x=ah:=rfl;have ea:asked (sgn (.sg 69)) a b x=[]:=rfl;constructor
 .have:=oS f (lt:=.sg 69) (by simp[Lets]) h xa xb (λs hs=>by rw[ea] at hs;cases hs) λz=>by cases z
  rw[e] at this;exact this
 .intro p q;have pk:=oA (ts:=ts) (lt:=.sg 69) (by simp[Lets]) h;rw[e,ea,cZ] at pk;exact pk.mem_iff
end
abbrev Pr:=Nat×Nat
theorem CW (a b c:Nat):(ents [(a,b,c)]).Perm (ents [(c,a,b)]):=by
 simp[ents];exact (List.Perm.swap _ _ _).trans (List.Perm.cons _ (List.Perm.swap _ _ _)) |>.symm.trans (by
  exact (pD _)) |>.symm |>.trans (by
  exact pD _) |>.symm
theorem FI.of_ents {ts ts':List Tri} {ls:Lps} (f:FI ts ls) (h:(ents ts).Perm (ents ts')):FI ts' ls:=by
 have h3:(kn ts ls).Perm (kn ts' ls):=by unfold kn;rw[fP,fP];exact eJ _ (h.map _)
 have e:∀v p q,Lk ts' (tn ls) v p q↔Lk ts (tn ls) v p q:=λv p q=>by
  unfold Lk En;rw[h.mem_iff]
 refine⟨h3.nodup_iff.mp f.nd,λz=>h3.mem_iff.mp (f.sy (h3.mem_iff.mpr z)),λz=>f.ne (h3.mem_iff.mpr z),λv p q z=>?_⟩;obtain⟨l,hl⟩:=f.rg v p q ((e v p q).mp z);exact⟨l,hl.congr (e v)⟩
def ann:Pr->List Pr->List Tri
 |_,[]=>[]
 |y,z::s=>[(y.1,y.2,z.2),(y.1,z.2,z.1)]++ann z s
def jW:Pr->List Pr->Pr
 |y,[]=>y
 |_,z::s=>jW z s
def XF:Pr->List Nat->List Pr->List Nat
 |_,X,[]=>X
 |y,X,z::s=>XF z (y.2::X) s
def cor (y:Pr) (s:List Pr):List Nat:=(y::s).flatMap λp=>[p.1,p.2]
theorem iT {y:Pr} {s:List Pr} {c:Nat}:c∈cor y s↔∃p∈y::s,c=p.1\/c=p.2:=by unfold cor;simp only[iH,af,a8,or_false]
theorem xV {ah:Lps} {N:Nat}:∀(s:List Pr) (ts:List Tri) (y:Pr) (X:List Nat),X≠[]->FI ts (ah++[y.1::y.2::(X++(s.map (·.1)).reverse)])->((y::s).map (·.2)).Nodup->(∀p∈y::s,p.1<N/\N<=p.2)->
  (∀p∈s,∀c,(p.2,c)∉kn ts (ah++[y.1::y.2::(X++(s.map (·.1)).reverse)]))->
  FI (ts++ann y s) (ah++[(jW y s).1::(jW y s).2::XF y X s])/\∀p q,(p,q)∈kn (ts++ann y s) (ah++[(jW y s).1::(jW y s).2::XF y X s])->(p,q)∈kn ts (ah++[y.1::y.2::(X++(s.map (·.1)).reverse)])\/(p∈cor y s/\q∈cor y s)
 | [],ts,y,X,_,f,_,_,_=>by
  simp only[eO,List.reverse_nil,cZ] at f |-;have e:ts++ann y []=ts:=by simp[ann]
  rw[e];exact⟨f,λp q h=>.inl h⟩
 |z::s,ts,y,X,hX,f,nd,big,fr=>by
  have hz:=big z (by simp);have hy:=big y (by simp);simp only[aB,aV,af,not_or] at nd;have e0:X++((z::s).map (·.1)).reverse=(X++(s.map (·.1)).reverse)++[z.1]:=by simp
  rw[e0] at f fr |-;have wz:(z.1,y.1)∈kn ts (ah++[y.1::y.2::((X++(s.map (·.1)).reverse)++[z.1])]):=by refine bN _ ?_;rw[dO,eF];refine bN _ ?_;show (z.1,y.1)∈path y.1 (y.2::((X++(s.map (·.1)).reverse)++[z.1])) y.1;rw[<-eY,eS];exact bN _ (by simp[path])
  have zy:z.1≠y.1:=f.ne wz;obtain⟨f1,k1⟩:=mL f (x:=z.2) (fr z (by simp)) (by lia) (λe=>nd.1.1 e.symm);have f1':FI (ts++[(y.1,y.2,z.2)]) (ah++[y.1::z.2::((y.2::(X++(s.map (·.1)).reverse))++[z.1])]):=f1;obtain⟨f2,k2⟩:=oY f1' (by simp) zy (by lia) (λh=>by
   rcases (k1 _ _).mp h with h|⟨_,h|h⟩|⟨h,_⟩
   .exact fr z (by simp) _ h
   .exact zy h
   .lia
   .lia)
  have fr2:∀p∈s,∀c,(p.2,c)∉kn (ts++[(y.1,y.2,z.2)]++[(y.1,z.2,z.1)]) (ah++[z.1::z.2::((y.2::X)++(s.map (·.1)).reverse)]):=λp hp c h=>by
   have hb:=big p (by simp[hp]);have n1:p.2≠z.2:=λe=>nd.2.1 (aw.mpr ⟨p,hp,e⟩);have n2:p.2≠y.2:=λe=>nd.1.2 (aw.mpr ⟨p,hp,e⟩);rcases (k2 _ _).mp h with h|⟨h,_⟩|⟨h,_⟩
   .rcases (k1 _ _).mp h with h|⟨h,_⟩|⟨_,h|h⟩
    .exact fr p (by simp[hp]) _ h
    .exact n1 h
    .lia
    .exact n2 h
   .lia
   .exact n1 h
  have f2':FI (ts++[(y.1,y.2,z.2)]++[(y.1,z.2,z.1)]) (ah++[z.1::z.2::((y.2::X)++(s.map (·.1)).reverse)]):=f2;obtain⟨f3,k3⟩:=xV s _ z (y.2::X) (by simp) f2' (by rw[aB,aV];exact nd.2) (λp hp=>big p (aY _ hp)) fr2;have e1:ts++[(y.1,y.2,z.2)]++[(y.1,z.2,z.1)]++ann z s=ts++ann y (z::s):=by simp[ann]
  rw[e1] at f3 k3;refine⟨f3,λp q h=>?_⟩;have cz:∀{c},c∈cor z s->c∈cor y (z::s):=λ{c} hc=>by
   obtain⟨p,hp,h⟩:=iT.mp hc;exact iT.mpr ⟨p,aY _ hp,h⟩
  have c1:y.1∈cor y (z::s):=iT.mpr ⟨y,by simp,.inl rfl⟩;have c2:y.2∈cor y (z::s):=iT.mpr ⟨y,by simp,.inr rfl⟩;have c3:z.1∈cor y (z::s):=iT.mpr ⟨z,by simp,.inl rfl⟩;have c4:z.2∈cor y (z::s):=iT.mpr ⟨z,by simp,.inr rfl⟩;rcases k3 p q h with h|⟨h1,h2⟩
  .rcases (k2 _ _).mp h with h|⟨rfl,rfl⟩|⟨rfl,rfl⟩
   .rcases (k1 _ _).mp h with h|⟨rfl,rfl|rfl⟩|⟨rfl,rfl|rfl⟩
    .exact .inl h
    .exact .inr ⟨c4,c1⟩
    .exact .inr ⟨c4,c2⟩
    .exact .inr ⟨c1,c4⟩
    .exact .inr ⟨c2,c4⟩
   .exact .inr ⟨c3,c4⟩
   .exact .inr ⟨c4,c3⟩
  .exact .inr ⟨cz h1,cz h2⟩
def con (c q1:Nat):Nat->List Nat->List Tri
 |y,[]=>[(y,c,q1)]
 |y,z::s=>(y,c,z)::con c q1 z s
theorem rT {ah:Lps} {c q1:Nat}:∀(s:List Nat) (ts:List Tri) (y:Nat),FI ts (ah++[y::c::q1::s.reverse])->(y::q1::s).Nodup->c∉y::q1::s->(∀q∈s,(c,q)∉kn ts (ah++[y::c::q1::s.reverse]))->
  FI (ts++con c q1 y s) ah/\∀p q,(p,q)∈kn (ts++con c q1 y s) ah->(p,q)∈kn ts (ah++[y::c::q1::s.reverse])\/(p=c\/p∈s)/\(q=c\/q∈s)
 | [],ts,y,f,nd,nc,_=>by
  simp only[aV,af,a8,or_false,not_or] at nd nc;obtain⟨f1,k1⟩:=HJ f (λe=>nd.1 e.symm) (λe=>nc.2 e.symm);exact⟨f1,λp q h=>.inl ((k1 p q).mp h)⟩
 |z::s,ts,y,f,nd,nc,un=>by
  simp only[aV,af,not_or] at nd nc;have e0:(y::c::q1::(z::s).reverse)=y::c::((q1::s.reverse)++[z]):=by simp
  rw[e0] at f un |-;obtain⟨f1,k1⟩:=oY f (by simp) (λe=>nd.1.2.1 e.symm) (λe=>nc.2.2.1 e.symm) (un z (by simp));obtain⟨f2,k2⟩:=rT s _ z f1 (by simp only[aV,af,not_or];exact⟨⟨λe=>nd.2.1.1 e.symm,nd.2.2.1⟩,nd.2.1.2,nd.2.2.2⟩) (by simp only[af,not_or];exact⟨nc.2.2.1,nc.2.1,nc.2.2.2⟩) (λq hq h=>by
   rcases (k1 _ _).mp h with h|⟨h,_⟩|⟨_,h⟩
   .exact un q (by simp[hq]) h
   .exact nc.2.2.1 h
   .subst h;exact nd.2.2.1 hq)
  have e1:ts++[(y,c,z)]++con c q1 z s=ts++con c q1 y (z::s):=by simp[con]
  rw[e1] at f2 k2;refine⟨f2,λp q h=>?_⟩;rcases k2 p q h with h|⟨h1,h2⟩
  .rcases (k1 _ _).mp h with h|⟨h1,h2⟩|⟨h1,h2⟩
   .exact .inl h
   .exact .inr ⟨.inr (by rw[h1];simp),.inl h2⟩
   .exact .inr ⟨.inl h1,.inr (by rw[h2];simp)⟩
  .exact .inr ⟨h1.imp_right λh=>aY _ h,h2.imp_right λh=>aY _ h⟩
def pp:Pr->List Pr->Pr->List (Pr×Pr)
 |u,[],w=>[(u,w)]
 |u,v::r,w=>(u,v)::pp v r w
def bp:Pr->List Pr->List (Pr×Pr)
 |_,[]=>[]
 |y,z::s=>(z,y)::bp z s
def cyc (P:List Pr):List (Pr×Pr):=match P with
 | []=>[]
 |u::r=>pp u r u
def tA (e:Pr×Pr):Tri:=(e.1.1,e.2.1,e.1.2)
def tB (e:Pr×Pr):Tri:=(e.2.1,e.2.2,e.1.2)
def tC (c:Nat) (e:Pr×Pr):Tri:=(e.1.2,e.2.2,c)
def clo (c:Nat) (P:List Pr):List Tri:=(cyc P).flatMap λe=>[tA e,tB e,tC c e]
theorem rN:∀(u:Pr) (r:List Pr) (v:Pr) (s:List Pr) (w:Pr),pp u (r++v::s) w=pp u r v++pp v s w
 |_,[],_,_,_=>rfl
 |u,x::r,v,s,w=>by
  show (u,x)::pp x (r++v::s) w=(u,x)::(pp x r v++pp v s w);rw[rN x r v s w]
theorem yz:∀(s:List Pr) (y w:Pr),(bp y (s++[w])).reverse=pp w s.reverse y
 | [],_,_=>rfl
 |z::s,y,w=>by
  show ((z,y)::bp z (s++[w])).reverse=_;rw[g_,yz s z w,g_,rN];rfl
theorem yH:∀(s:List Pr) (y:Pr) (X:List Nat) (w:Pr),XF y X (s++[w])=((y::s).map (·.2)).reverse++X
 | [],y,X,w=>rfl
 |z::s,y,X,w=>by
  show XF z (y.2::X) (s++[w])=_;rw[yH s z];simp
theorem vO:∀(s:List Pr) (y w:Pr),jW y (s++[w])=w
 | [],_,_=>rfl
 |z::s,_,w=>vO s z w
theorem ents_app (a b:List Tri):ents (a++b)=ents a++ents b:=by simp[ents]
def cE (e:Ent) (ts:List Tri):Nat:=(ents ts).count e
theorem dJ (e:Ent) (a b:List Tri):cE e (a++b)=cE e a+cE e b:=by unfold cE;rw[ents_app,List.count_append]
theorem dW (e:Ent) (t:Tri) (b:List Tri):cE e (t::b)=cE e [t]+cE e b:=dJ e [t] b
theorem jS (e:Ent) (a b c:Nat):cE e [(a,b,c)]=cE e [(c,a,b)]:=(CW a b c).count_eq e
theorem xc (e:Ent) (c:Nat):∀Q:List (Pr×Pr),cE e (Q.flatMap λe=>[tA e,tB e,tC c e])=cE e (Q.map tA)+cE e (Q.map tB)+cE e (Q.map (tC c))
 | []=>rfl
 |q::Q=>by
  rw[je,aB,aB,aB,dJ,xc e c Q,dW e (tA q) (Q.map tA),dW e (tB q) (Q.map tB),dW e (tC c q) (Q.map _),dW e (tA q),dW e (tB q)];lia
theorem rB {e:Ent} {a b:List Tri} (h:a.Perm b):cE e a=cE e b:=(h.flatMap_right _).count_eq e
theorem xU (e:Ent):∀(s:List Pr) (y:Pr),cE e (ann y s)=cE e ((bp y s).map tA)+cE e ((bp y s).map tB)
 | [],_=>rfl
 |z::s,y=>by
  show cE e ([(y.1,y.2,z.2),(y.1,z.2,z.1)]++ann z s)=cE e (tA (z,y)::(bp z s).map tA)+cE e (tB (z,y)::(bp z s).map tB);rw[dJ,xU e s z,dW e (tA _),dW e (tB _),dW e (y.1,y.2,z.2),jS e y.1 z.2 z.1];show _+cE e [tA (z,y)]+_=_+_+(cE e [tB (z,y)]+_);have:cE e [(y.1,y.2,z.2)]=cE e [tB (z,y)]:=rfl;lia
theorem xT (e:Ent) (c:Nat) (w:Pr):∀(s:List Pr) (y:Pr),cE e (con c w.2 y.2 (s.map (·.2)))=cE e ((bp y (s++[w])).map (tC c))
 | [],y=>by
  show cE e [(y.2,c,w.2)]=cE e [tC c (w,y)];rw[jS];rfl
 |z::s,y=>by
  show cE e ((y.2,c,z.2)::con c w.2 z.2 (s.map (·.2)))=cE e (tC c (z,y)::(bp z (s++[w])).map (tC c));rw[dW,xT e c w s z,dW e (tC c _),jS];rfl
theorem close1 {ts:List Tri} {ah:Lps} {P0 P1 y:Pr} {R:List Pr} {c N:Nat} (f:FI ts (ah++[(P0::P1::(R++[y])).map (·.1)])) (nd:((P0::P1::(R++[y])).map (·.2)).Nodup) (big:∀p∈P0::P1::(R++[y]),p.1<N/\N<=p.2) (hc:∀p∈P0::P1::(R++[y]),p.2≠c) (hcN:N<=c)
  (old:∀p q,(p,q)∈kn ts (ah++[(P0::P1::(R++[y])).map (·.1)])->p<N) :
  FI (ts++clo c (P0::P1::(R++[y]))) ah/\∀p q,(p,q)∈kn (ts++clo c (P0::P1::(R++[y]))) ah->(p<N\/p=c\/∃r∈P0::P1::(R++[y]),p=r.2):=by
 have b0:=big P0 (by simp);have b1:=big P1 (by simp);have by':=big y (by simp)
 have nd0:=nd;simp only[aB,bI,eO,aV,bZ,af,ay,a8,or_false,not_or] at nd;obtain⟨⟨n01,n0R,n0y⟩,⟨n1R,n1y⟩,ndR,_,nRy⟩:=nd;have wy:(y.1,P0.1)∈kn ts (ah++[(P0::P1::(R++[y])).map (·.1)]):=by refine bN _ ?_;rw[dO,eF];refine bN _ ?_;show (y.1,P0.1)∈path P0.1 ((P1::(R++[y])).map (·.1)) P0.1;rw[show (P1::(R++[y])).map (·.1)=(P1::R).map (·.1)++y.1::[] by simp,eS];exact bN _ (by simp[path])
 have y0:y.1≠P0.1:=f.ne wy;have f0:FI ts (ah++[P0.1::P1.1::(R++[y]).map (·.1)]):=f;obtain⟨f1,k1⟩:=mL f0 (x:=P0.2) (λq h=>by have:=old _ _ h;lia) (by lia) (by lia);obtain⟨f2,k2⟩:=mL f1 (x:=y.2) (λq h=>by
  rcases (k1 _ _).mp h with h|⟨h,_⟩|⟨_,h|h⟩
  .have:=old _ _ h;lia
  .exact n0y h.symm
  .lia
  .lia) (by lia) (λe=>n0y e.symm)
 have e2:P0.1::y.2::P0.2::P1.1::(R++[y]).map (·.1)=P0.1::y.2::((P0.2::P1.1::R.map (·.1))++[y.1]):=by simp
 rw[e2] at f2 k2;obtain⟨f3,k3⟩:=oY f2 (by simp) y0 (by lia) (λh=>by
  rcases (k2 _ _).mp h with h|⟨_,h|h⟩|⟨h,_⟩
  .rcases (k1 _ _).mp h with h|⟨h,_⟩|⟨_,h|h⟩
   .have:=old _ _ h;lia
   .exact n0y h.symm
   .lia
   .lia
  .exact y0 h
  .lia
  .lia)
 have e3:y.1::y.2::P0.2::P1.1::R.map (·.1)=y.1::y.2::([P0.2]++((R.reverse++[P1]).map (·.1)).reverse):=by simp
 rw[e3] at f3 k3;have known3:∀{p q},(p,q)∈kn (ts++[(P0.1,P1.1,P0.2)]++[(P0.1,P0.2,y.2)]++[(P0.1,y.2,y.1)]) (ah++[y.1::y.2::([P0.2]++((R.reverse++[P1]).map (·.1)).reverse)])->p<N\/p=P0.2\/p=y.2:=λ{p q} h=>by
  rcases (k3 _ _).mp h with h|⟨rfl,_⟩|⟨rfl,_⟩
  .rcases (k2 _ _).mp h with h|⟨rfl,_⟩|⟨_,rfl|rfl⟩
   .rcases (k1 _ _).mp h with h|⟨rfl,_⟩|⟨_,rfl|rfl⟩
    .exact .inl (old _ _ h)
    .exact .inr (.inl rfl)
    .exact .inl b0.1
    .exact .inl b1.1
   .exact .inr (.inr rfl)
   .exact .inl b0.1
   .exact .inr (.inl rfl)
  .exact .inl by'.1
  .exact .inr (.inr rfl)
 have ms:∀p,p∈R.reverse++[P1]↔p∈R\/p=P1:=λp=>by simp
 obtain⟨f4,k4⟩:=xV (N:=N) (R.reverse++[P1]) _ y [P0.2] (by simp) f3 (by
   rw[aB,aV,bI,bZ,tK];refine⟨λh=>?_,(j8 _).nodup_iff.mpr ndR,by simp,λp hp q hq e=>?_⟩
   .rcases ay.mp h with h|h
    .exact nRy _ (fG.mp h) _ rfl rfl
    .exact n1y (aR.mp h).symm
   .rw[aR.mp hq] at e;rw[e] at hp;exact n1R (fG.mp hp)) (λp hp=>by
   rcases af.mp hp with rfl|hp
   .exact by'
   .rcases (ms p).mp hp with h|rfl
    .exact big p (by simp[h])
    .exact b1) (λp hp q h=>by
   rcases (ms p).mp hp with hR|rfl
   .have bp:=big p (by simp[hR]);rcases known3 h with h|h|h
    .lia
    .exact n0R (aw.mpr ⟨p,hR,h⟩)
    .exact nRy _ (aw.mpr ⟨p,hR,h⟩) _ rfl rfl
   .rcases known3 h with h|h|h
    .lia
    .exact n01 h.symm
    .exact n1y h)
 rw[vO,yH] at f4 k4;have e4:((y::R.reverse).map (·.2)).reverse++[P0.2]=(R++[y]).map (·.2)++[P0.2]:=by simp
 rw[e4] at f4 k4;have cor0:∀{q},q∈cor y (R.reverse++[P1])->q<N\/q=y.2\/q=P1.2\/∃r∈R,q=r.2:=λ{q} h=>by
  obtain⟨p,hp,h0⟩:=iT.mp h;rcases af.mp hp with e|hp
  .rw[e] at h0;exact h0.elim (λz=>.inl (by rw[z];exact by'.1)) λz=>.inr (.inl z)
  .rcases (ms p).mp hp with hR|e
   .exact h0.elim (λz=>.inl (by rw[z];exact (big p (by simp[hR])).1)) λz=>.inr (.inr (.inr ⟨p,hR,z⟩))
   .rw[e] at h0;exact h0.elim (λz=>.inl (by rw[z];exact b1.1)) λz=>.inr (.inr (.inl z))
 obtain⟨f5,k5⟩:=oY f4 (by simp) (by lia) n01 (λh=>by
  rcases k4 _ _ h with h|⟨_,h⟩
  .rcases known3 h with h|h|h
   .lia
   .exact n01 h.symm
   .exact n1y h
  .rcases cor0 h with h|h|h|⟨r,hr,h⟩
   .lia
   .exact n0y h
   .exact n01 h
   .exact n0R (aw.mpr ⟨r,hr,h.symm⟩))
 have known5:∀{p q},(p,q)∈kn _ (ah++[P0.2::P1.2::(R++[y]).map (·.2)])->p<N\/∃r∈P0::P1::(R++[y]),p=r.2:=λ{p q} h=>by
  rcases (k5 p q).mp h with h|⟨rfl,_⟩|⟨rfl,_⟩
  .rcases k4 _ _ h with h|⟨h,_⟩
   .rcases known3 h with h|h|h
    .exact .inl h
    .exact .inr ⟨P0,by simp,h⟩
    .exact .inr ⟨y,by simp,h⟩
   .rcases cor0 h with h|h|h|⟨r,hr,h⟩
    .exact .inl h
    .exact .inr ⟨y,by simp,h⟩
    .exact .inr ⟨P1,by simp,h⟩
    .exact .inr ⟨r,by simp[hr],h⟩
  .exact .inr ⟨P0,by simp,rfl⟩
  .exact .inr ⟨P1,by simp,rfl⟩
 have hc':∀r∈P0::P1::(R++[y]),c≠r.2:=λr hr e=>hc r hr e.symm;obtain⟨f6,k6⟩:=mL f5 (x:=c) (λq h=>by
  rcases known5 h with h|⟨r,hr,h⟩
  .lia
  .exact hc' r hr h) (hc' P0 (by simp)) (hc' P1 (by simp))
 have e6:(R++[y]).map (·.2)=(((R++[y]).reverse).map (·.2)).reverse:=by rw[tK,tN]
 rw[e6] at f6 k6;obtain⟨f7,k7⟩:=rT (c:=c) (q1:=P1.2) (((R++[y]).reverse).map (·.2)) _ P0.2 f6 (by
   exact (List.Perm.cons _ (List.Perm.cons _ ((j8 _).map _))).nodup_iff.mpr nd0) (by
   simp only[af,not_or,tK,fG];refine⟨hc' P0 (by simp),hc' P1 (by simp),λh=>?_⟩;obtain⟨r,hr,h⟩:=aw.mp h;exact hc' r (aY _ (aY _ hr)) h.symm) (λq hq h=>by
   simp only[tK,fG] at hq;obtain⟨r,hr,rfl⟩:=aw.mp hq;rcases (k6 _ _).mp h with h|⟨_,h⟩|⟨h,_⟩
   .rw[<-e6] at h;rcases known5 h with h|⟨r,hr,h⟩
    .lia
    .exact hc' r hr h
   .simp only[bI,ay,aB,eO,af,a8,or_false] at hq;rcases h with h|h
    .rw[h] at hq;exact hq.elim n0R n0y
    .rw[h] at hq;exact hq.elim n1R n1y
   .exact hc' r (aY _ (aY _ hr)) h.symm)
 have pe:(ents (ts++[(P0.1,P1.1,P0.2)]++[(P0.1,P0.2,y.2)]++[(P0.1,y.2,y.1)]++ann y (R.reverse++[P1])++[(P1.1,P1.2,P0.2)]++[(P0.2,P1.2,c)]++con c P1.2 P0.2 (((R++[y]).reverse).map (·.2)))).Perm (ents (ts++clo c (P0::P1::(R++[y])))):=by
  rw[IW];intro e;show cE e _=cE e _;have ec:cyc (P0::P1::(R++[y]))=(P0,P1)::(pp P1 R y++[(y,P0)]):=by show (P0,P1)::pp P1 (R++y::[]) P0=_;rw[rN];rfl
  have pb:(pp P1 R y).Perm (bp y (R.reverse++[P1])):=by have:=yz R.reverse y P1;rw[tN] at this;rw[<-this];exact j8 _
  have hA:=rB (e:=e) (pb.map tA);have hB:=rB (e:=e) (pb.map tB);have hC:=rB (e:=e) (pb.map (tC c));have hcon:cE e (con c P1.2 P0.2 (((R++[y]).reverse).map (·.2)))=cE e [tC c (y,P0)]+cE e ((bp y (R.reverse++[P1])).map (tC c)):=by rw[show (R++[y]).reverse=y::R.reverse by simp,xT e c P1 (y::R.reverse) P0,<-dW];rfl
  rw[clo,dJ e ts,xc,ec];simp only[aB,bI,eO];rw[dW e (tA _),dW e (tB _),dW e (tC c _),dJ e ((pp P1 R y).map tA),dJ e ((pp P1 R y).map tB),dJ e ((pp P1 R y).map (tC c)),hA,hB,hC];rw[dJ,dJ,dJ,dJ,dJ,dJ,dJ,hcon,xU,jS e P0.1 y.2 y.1];have r1:cE e [(P0.1,P1.1,P0.2)]=cE e [tA (P0,P1)]:=rfl;have r2:cE e [(P0.1,P0.2,y.2)]=cE e [tB (y,P0)]:=rfl;have r3:cE e [(y.1,P0.1,y.2)]=cE e [tA (y,P0)]:=rfl;have r4:cE e [(P1.1,P1.2,P0.2)]=cE e [tB (P0,P1)]:=rfl;have r5:cE e [(P0.2,P1.2,c)]=cE e [tC c (P0,P1)]:=rfl;lia
 refine⟨f7.of_ents pe,λp q h=>?_⟩;have kp:=(eJ (wl ah) (pe.map (·.1)));unfold kn at h;rw[fP] at h;have h':=(kp.mem_iff (a:=(p,q))).mpr h;rcases k7 p q (by unfold kn;rw[fP];exact h') with h|⟨h,_⟩
 .rcases (k6 _ _).mp h with h|⟨h,_⟩|⟨_,h|h⟩
  .rw[<-e6] at h;rcases known5 h with h|h
   .exact .inl h
   .exact .inr (.inr h)
  .exact .inr (.inl h)
  .exact .inr (.inr ⟨P0,by simp,h⟩)
  .exact .inr (.inr ⟨P1,by simp,h⟩)
 .rcases h with h|h
  .exact .inr (.inl h)
  .obtain⟨r,hr,h⟩:=aw.mp h;exact .inr (.inr ⟨r,aY _ (aY _ (fG.mp hr)),h.symm⟩)
section
variable {E:Nat->Nat->Nat->Prop} {a0 b0:Nat} {ds:List Tri} {T:List Tn} {a b x p0 n0:Nat}
theorem WI.same' {p v n n':Nat} (h:WI E a0 b0 ds T) (h1:(p,v,n)∈T) (h2:(p,v,n')∈T):n=n':=by
 have key:∀{T:List Tn},(T.map λt=>(t.1,t.2.1)).Nodup->(p,v,n)∈T->(p,v,n')∈T->n=n':=by
  intro T;induction T with
  |nil=>intro _ h;cases h
  |cons t T ih=>
   intro nd h1 h2;rw[aB,aV] at nd;rcases af.mp h1 with e1|h1
   .rcases af.mp h2 with e2|h2
    .rw[<-e1] at e2;cases e2;rfl
    .exact (nd.1 (aw.mpr ⟨_,h2,by rw[<-e1]⟩)).elim
   .rcases af.mp h2 with e2|h2
    .exact (nd.1 (aw.mpr ⟨_,h1,by rw[<-e2]⟩)).elim
    .exact ih nd.2 h1 h2
 exact key (h.pe.nodup_iff.mpr h.nd) h1 h2
namespace Gate
variable (g:Gate E a0 b0 ds T a b x p0 n0)
include g
theorem first (hd:ds=[]):p0=b/\n0=a/\∀t∈T,t=(p0,a,b)\/t=(a,b,n0):=by
 have hp:=g.w.st hd;have h1:=hp.mem_iff.mp g.ga;have h2:=hp.mem_iff.mp g.gb;have ab:=g.ab;have key:∀t∈T,t=(b0,a0,b0)\/t=(a0,b0,a0):=λt ht=>by simpa using hp.mem_iff.mp ht
 simp only[af,a8,or_false] at h1 h2;rcases h1 with h1|h1
 .cases h1;rcases h2 with h2|h2
  .cases h2;exact (ab rfl).elim
  .cases h2;exact⟨rfl,rfl,key⟩
 .cases h1;rcases h2 with h2|h2
  .cases h2;exact⟨rfl,rfl,λt ht=>(key t ht).symm⟩
  .cases h2;exact (ab rfl).elim
theorem new (hx:∀p q,¬En ds x p q) {T':List Tn} (nd:(T'.map (·.2)).Nodup) (pe:(T'.map λt=>(t.1,t.2.1)).Perm (T'.map (·.2)))
  (mem:∀t,t∈T'↔(t∈T/\t≠(p0,a,b)/\t≠(a,b,n0))\/t=(p0,a,x)\/t=(a,x,b)\/t=(x,b,n0)):WI E a0 b0 (ds++[(a,b,x)]) T':=by
 have hx1:∀q,¬Dn ds x q:=λq ⟨c,h⟩=>hx q c h;have hx2:∀q,¬Dn ds q x:=λq ⟨c,h⟩=>hx c q (eN h);have noT:∀p n,(p,x,n)∉T:=λp n h=>by
  by_cases hd:ds=[]
  .rcases (g.first hd).2.2 _ h with e|e
   .cases e;exact g.xa rfl
   .cases e;exact g.bx rfl
  .exact hx2 _ ((g.w.ed h).2.2.resolve_left hd)
 have nx0:n0≠x:=λe=>by
  by_cases hd:ds=[]
  .rw[(g.first hd).2.1] at e;exact g.xa e.symm
  .have hb:=g.gb;rw[e] at hb;exact hx1 _ ((g.w.ed hb).2.2.resolve_left hd)
 have px0:p0≠x:=λe=>by
  obtain⟨o,ho⟩:=g.w.prev g.ga;rw[e] at ho;exact noT _ _ ho
 have ne:ds=[]->∀t,t∈T->¬(t≠(p0,a,b)/\t≠(a,b,n0)):=λhd t ht z=>((g.first hd).2.2 t ht).elim z.1 z.2;refine⟨g.sub',g.gd',nd,pe,?_,?_,?_,λe=>by simp at e⟩
 .intro p v n ht;rcases (mem _).mp ht with ⟨ht,h1,h2⟩|e|e|e
  .have hd:ds≠[]:=λhd=>ne hd _ ht ⟨h1,h2⟩;obtain⟨c,d,e⟩:=g.w.ed ht;refine⟨c,λz=>?_,.inr (cn.mpr (.inl (e.resolve_left hd)))⟩;rcases cn.mp z with z|⟨rfl,rfl⟩|⟨rfl,rfl⟩|⟨rfl,rfl⟩
   .exact d z
   .exact h1 (by rw[g.w.same ht g.ga])
   .exact hx1 _ (e.resolve_left hd)
   .exact noT _ _ ht
  .cases e;obtain⟨d,hd'⟩:=g.k.cl g.ea;refine⟨⟨d,hd'⟩,λz=>?_,.inr (cn.mpr (.inr (.inr (.inr ⟨rfl,rfl⟩))))⟩;rcases cn.mp z with z|z|z|z
   .exact hx2 _ z
   .exact g.bx z.2.symm
   .exact g.ab z.1
   .exact g.xa z.1.symm
  .cases e;obtain⟨d,hd'⟩:=g.k.cl g.eb;refine⟨⟨d,hd'⟩,λz=>?_,.inr (cn.mpr (.inr (.inr (.inl ⟨rfl,rfl⟩))))⟩;rcases cn.mp z with z|z|z|z
   .exact hx1 _ z
   .exact g.xa z.1
   .exact g.bx z.1.symm
   .exact g.ab z.2.symm
  .cases e;obtain⟨c,d,e⟩:=g.w.ed g.gb;refine⟨c,λz=>?_,.inr ?_⟩
   .rcases cn.mp z with z|z|z|z
    .exact d z
    .exact g.ab z.1.symm
    .exact nx0 z.2
    .exact g.bx z.1
   .rcases e with e|e
    .rw[(g.first e).2.1];exact cn.mpr (.inr (.inl ⟨rfl,rfl⟩))
    .exact cn.mpr (.inl e)
 .intro v n c he h1 h2;have h1':¬Dn ds v n:=λz=>h1 (cn.mpr (.inl z));rcases cn.mp h2 with h2|⟨rfl,rfl⟩|⟨rfl,rfl⟩|⟨rfl,rfl⟩
  .obtain⟨p,hp⟩:=g.w.al he h1' h2;by_cases c1:(p,v,n)=(p0,a,b)
   .cases c1;exact (h1 (cn.mpr (.inr (.inl ⟨rfl,rfl⟩)))).elim
   by_cases c2:(p,v,n)=(a,b,n0)
   .cases c2;exact⟨x,(mem _).mpr (.inr (.inr (.inr rfl)))⟩
   exact⟨p,(mem _).mpr (.inl ⟨hp,c1,c2⟩)⟩
  .by_cases hd:ds=[]
   .have:=(g.first hd).2.1;subst this;exact⟨x,(mem _).mpr (.inr (.inr (.inr rfl)))⟩
   .exact (h1' ((g.w.ed g.ga).2.2.resolve_left hd)).elim
  .exact⟨a,(mem _).mpr (.inr (.inr (.inl rfl)))⟩
  .exact⟨p0,(mem _).mpr (.inr (.inl rfl))⟩
 .intro p v n ht;rcases (mem _).mp ht with ⟨ht,h1,h2⟩|e|e|e
  .have hd:ds≠[]:=λhd=>ne hd _ ht ⟨h1,h2⟩;refine g.other (.inl noT) hd ht (λe=>?_) (λe=>?_) λy' z' hz' _ _=>noT _ _ hz'
   .cases e;exact h1 (by rw[g.w.same ht g.ga])
   .cases e;exact h2 (by rw[g.w.same ht g.gb])
  .cases e;exact g.gapA.resolve_left λe=>px0 e.symm
  .cases e;obtain⟨l,hl⟩:=g.k.rg g.ea;obtain⟨r,hr⟩:=hl.at (hl.mem g.ea).1;have hs:=(hr.2 a b).mp g.ea;have h2:∃r',r=b::r':=by
    cases r with
    |nil=>
     simp[sides,path] at hs;exact (g.ab hs.symm).elim
    |cons c r'=>
     have:E x a c:=(hr.2 a c).mpr (by simp[sides,path]);have e:=g.k.sk.one this g.ea;subst e;exact⟨r',rfl⟩
   obtain⟨r',rfl⟩:=h2;have nd:=hr.1;rw[aV] at nd;refine⟨r',nd.2,λs hs=>⟨(hr.2 s.1 s.2).mpr (aY _ hs),λz=>?_⟩⟩;rcases cn.mp z with z|z|z|z
   .exact hx1 _ z
   .exact g.xa z.1
   .exact g.bx z.1.symm
   .have:=af.mpr (ic b r' a s hs).1;rw[z.2] at this;exact nd.1 this
  .cases e;obtain⟨_,_,_,h⟩:=g.gapB;exact h.resolve_left nx0
theorem back (hx:∃p q,En ds x p q):ds≠[]/\∃(rs:List Nat) (y z:Nat) (l:List Nat),rs[0]?=some a/\rs[rs.length-1]?=some z/\(∀i p q,rs[i]?=some p->rs[i+1]?=some q->E p x q)/\(∀i p,i+1<rs.length->rs[i]?=some p->∀o,(o,x,p)∉T)/\(y,x,z)∈T/\df (Ud E ds x) z y l/\a∈z::l:=by
 obtain⟨u,w,huw⟩:=hx;have hd:ds≠[]:=λe=>by rw[e] at huw;cases huw
 refine⟨hd,?_⟩;obtain⟨l0,hl0⟩:=g.k.rg g.ea;obtain⟨r,hr⟩:=hl0.at (hl0.mem (g.w.sub huw)).2;have ha:a∈w::r:=(hr.mem g.ea).1;have dw:Dn ds w x:=⟨u,eN (eN huw)⟩;have key:∀(i c:Nat),(w::r)[i]?=some c->¬Dn ds x c->∃(rs:List Nat) (z:Nat),rs[0]?=some c/\rs[rs.length-1]?=some z/\(∀i p q,rs[i]?=some p->rs[i+1]?=some q->E p x q)/\(∀i p,i+1<rs.length->rs[i]?=some p->¬Dn ds p x)/\Dn ds z x/\¬Dn ds x z/\(∃c',E x z c')/\
   ∀l y,df (Ud E ds x) z y l->Dn ds x y->c∈z::l:=by
  intro i;induction i with
  |zero=>
   intro c e hc;have e:w=c:=by simpa using e
   subst e;obtain⟨c',hc'⟩:∃c',E x w c':=by obtain⟨d,hd⟩:=g.k.cl (g.k.sk.rot (g.k.sk.rot (g.w.sub huw)));exact⟨d,hd⟩
   exact⟨[w],w,rfl,rfl,λi p q _ h=>by simp at h,λi p h=>by simp at h,dw,hc,⟨c',hc'⟩,λl y _ _=>by simp⟩
  |succ i ih=>
   intro c e hc;have hi:=(aS.mp e).1;have e0:(w::r)[i]?=some ((w::r)[i]'(by lia)):=aX _;generalize (w::r)[i]'(by lia)=o at e0;have hoc:E x o c:=(hr.2 o c).mpr (rh w r w i o c e0 e);by_cases hcd:Dn ds c x
   .obtain⟨c',hc'⟩:∃c',E x c c':=g.k.cl (g.k.sk.rot (g.k.sk.rot hoc));exact⟨[c],c,rfl,rfl,λi p q _ h=>by simp at h,λi p h=>by simp at h,hcd,hc,⟨c',hc'⟩,λl y _ _=>by simp⟩
   .have ho:¬Dn ds x o:=λ⟨d,h⟩=>by
     have e:=g.k.sk.one (g.w.sub h) hoc;subst e;exact hcd ⟨o,eN (eN h)⟩
    obtain⟨rs,z,h1,h2,h3,h4,h5,h6,h7,h8⟩:=ih o e0 ho;have hl:=(aS.mp h1).1;refine⟨c::rs,z,rfl,?_,?_,?_,h5,h6,h7,λl y hg hy=>?_⟩
    .rw[aZ,show rs.length+1-1=(rs.length-1)+1 by lia,e_];exact h2
    .intro j p q hp hq;cases j with
     |zero=>
      have hp:c=p:=by simpa using hp
      subst hp;rw[e_,h1] at hq;cases hq;exact g.k.sk.rot (g.k.sk.rot hoc)
     |succ j=>
      rw[e_] at hp hq;exact h3 j p q hp hq
    .intro j p hj hp;cases j with
     |zero=>
      have hp:c=p:=by simpa using hp
      subst hp;exact hcd
     |succ j=>
      rw[e_] at hp;exact h4 j p (by simp at hj;lia) hp
    .obtain⟨t,ut,ht⟩:=hg.next (h8 l y hg hy);have et:t=c:=g.k.sk.one ut.1 hoc;subst et;rcases ht with e|ht
     .subst e;exact (hc hy).elim
     .exact ht
 obtain⟨i,hi⟩:=dB.mp ha;obtain⟨rs,z,h1,h2,h3,h4,h5,h6,⟨c',h7⟩,h8⟩:=key i a hi g.nxa;obtain⟨y,hy⟩:=g.w.al h7 h6 h5;obtain⟨l,hl⟩:=g.w.gp hy;refine⟨rs,y,z,l,h1,h2,h3,λj p hj hp o ho=>h4 j p hj hp ((g.w.ed ho).2.2.resolve_left hd),hy,hl,h8 l y hl ?_⟩;obtain⟨o,ho⟩:=g.w.prev hy;exact (g.w.ed ho).2.2.resolve_left hd
end Gate
end
end K71
end
section
namespace K71
open K31 K51 K15
section
variable {E:Nat->Nat->Nat->Prop} {a0 b0:Nat} {ds:List Tri} {T:List Tn} {a b x p0 n0:Nat}
theorem ym {T:List Tn} (h:(T.map (·.2)).Nodup):T.Nodup:=(fX.mp h).imp λh e=>h (by rw[e])
namespace Gate
variable (g:Gate E a0 b0 ds T a b x p0 n0)
include g
theorem zA (hd:ds≠[]) {y z:Nat} {l:List Nat} (hz:(y,x,z)∈T) (hl:df (Ud E ds x) z y l) (ha:a∈z::l):z=a↔p0=x:=by
 refine⟨λe=>by subst e;exact g.wantA hd hz,λe=>?_⟩;obtain⟨o,ho⟩:=g.w.prev g.ga;rw[e] at ho;rcases af.mp ha with e|ha
 .exact e.symm
 .obtain⟨o',h1,_⟩:=jm z l y a ha;exact (jU g.k.sk g.w.sub ((g.w.ed ho).2.2.resolve_left hd) _ (hl.st _ h1)).elim
theorem yB (hd:ds≠[]) {y z:Nat} {l:List Nat} (hz:(y,x,z)∈T) (hl:df (Ud E ds x) z y l) (ha:a∈z::l):y=b↔n0=x:=by
 refine⟨λe=>?_,λe=>?_⟩
 .obtain⟨o,ho⟩:=g.w.prev hz;rw[e] at ho;exact g.wantB hd ho
 .have hb:=g.gb;rw[e] at hb;obtain⟨t,u,ht⟩:=hl.next ha;have et:t=b:=g.k.sk.one u.1 g.ea;subst et;rcases ht with e|ht
  .exact e.symm
  .obtain⟨t',u',_⟩:=hl.next ht;exact (u'.2 ((g.w.ed hb).2.2.resolve_left hd)).elim
theorem newA (hd:ds≠[]) (o:Nat):(o,a,x)∉T:=λh=>g.nxa ((g.w.ed h).2.2.resolve_left hd)
theorem newB (hd:ds≠[]) (o:Nat):(o,x,b)∉T:=λh=>g.nbx ((g.w.ed h).2.2.resolve_left hd)
theorem ts_old (hd:ds≠[]) {y z:Nat} {l:List Nat} (hz:(y,x,z)∈T) (hl:df (Ud E ds x) z y l) (ha:a∈z::l) {s w:Nat} {T':List Tn} (ts:TS a b x s w T T') (pe:(T'.map λt=>(t.1,t.2.1)).Perm (T'.map (·.2)))
  (h67:s≠67) (h82:s=82->z≠a) (h76:s=76->n0≠x) (h83:s=83->w=z/\z≠a/\n0≠x):WI E a0 b0 (ds++[(a,b,x)]) T':=by
 have zA:=g.zA hd hz hl ha;have yB:=g.yB hd hz hl ha;have nA:=g.newA hd;have nB:=g.newB hd;have ab:=g.ab;have bx:=g.bx;have xa:=g.xa;have nd:=g.w.nd;have ndT:=ym nd;have ga:=g.ga;have gb:=g.gb;have sm:=λ{p p' v n:Nat}=>g.w.same (p:=p) (p':=p') (v:=v) (n:=n);have sm':=λ{p v n n':Nat}=>g.w.same' (p:=p) (v:=v) (n:=n) (n':=n');cases ts with
 |c=>exact (h67 rfl).elim
 |r _ p z' r=>
  have e1:p=p0:=sm (by simp) ga;have e2:x=n0:=sm' (p:=a) (v:=b) (by simp) gb;have e3:y=b:=yB.mpr e2.symm;have hz':=hz;rw[e3] at hz';have e4:z'=z:=sm' (p:=b) (v:=x) (by simp) hz';clear hz';subst e1 e4 e3;have hp:p≠x:=λe=>h82 rfl (zA.mpr e);simp only[aB,aV,af,not_or] at nd;simp only[aV,af,not_or] at ndT;refine g.old hd hz hl ha ?_ pe λt=>?_
  .simp only[aB,aV,af,not_or];refine⟨⟨λe=>xa (eP e).1.symm,λe=>?_⟩,nd.2.2.1,nd.2.2.2⟩;obtain⟨⟨o,u,v⟩,h1,h2⟩:=aw.mp e;cases h2;exact nA o (by simp[h1])
  .simp only[af];constructor
   .rintro (h|h|h)
    .exact .inr (.inl ⟨hp,h⟩)
    .exact .inr (.inr (.inr (.inl ⟨hp,h⟩)))
    .refine .inl ⟨.inr (.inr (.inr h)),λe=>?_,λe=>?_,λe=>?_⟩
     .rw[e] at h;exact ndT.1.2.2 h
     .rw[<-e2] at e;rw[e] at h;exact ndT.2.1.2 h
     .rw[e] at h;exact ndT.2.2.1 h
   .rintro (⟨h|h|h|h,h1,h2,h3⟩|⟨_,h⟩|⟨h,_⟩|⟨_,h⟩|⟨h,_⟩)
    .exact (h1 h).elim
    .rw[e2] at h;exact (h2 h).elim
    .exact (h3 h).elim
    .exact .inr (.inr h)
    .exact .inl h
    .exact (h e2.symm).elim
    .exact .inr (.inl h)
    .exact (h e2.symm).elim
 |l _ n y' r=>
  have e1:x=p0:=sm (by simp) ga;have e2:n=n0:=sm' (p:=a) (v:=b) (by simp) gb;have e3:z=a:=zA.mpr e1.symm;have hz':=hz;rw[e3] at hz';have e4:y'=y:=sm (v:=x) (n:=a) (by simp) hz';clear hz';subst e2 e4 e3;have hn:=h76 rfl;simp only[aB,aV,af,not_or] at nd;simp only[aV,af,not_or] at ndT;refine g.old hd hz hl ha ?_ pe λt=>?_
  .simp only[aB,aV,af,not_or];refine⟨⟨λe=>bx (eP e).1.symm,λe=>?_⟩,nd.2.1.2,nd.2.2.2⟩;obtain⟨⟨o,u,v⟩,h1,h2⟩:=aw.mp e;cases h2;exact nB o (by simp[h1])
  .simp only[af];constructor
   .rintro (h|h|h)
    .exact .inr (.inr (.inr (.inr ⟨hn,h⟩)))
    .exact .inr (.inr (.inl ⟨hn,h⟩))
    .refine .inl ⟨.inr (.inr (.inr h)),λe=>?_,λe=>?_,λe=>?_⟩
     .rw[<-e1] at e;rw[e] at h;exact ndT.1.2.2 h
     .rw[e] at h;exact ndT.2.1.2 h
     .rw[e] at h;exact ndT.2.2.1 h
   .rintro (⟨h|h|h|h,h1,h2,h3⟩|⟨h,_⟩|⟨_,h⟩|⟨h,_⟩|⟨_,h⟩)
    .rw[e1] at h;exact (h1 h).elim
    .exact (h2 h).elim
    .exact (h3 h).elim
    .exact .inr (.inr h)
    .exact (h e1.symm).elim
    .exact .inr (.inl h)
    .exact (h e1.symm).elim
    .exact .inl h
 |e _ r=>
  have e1:x=p0:=sm (by simp) ga;have e2:x=n0:=sm' (p:=a) (v:=b) (by simp) gb;have e3:z=a:=zA.mpr e1.symm;have e4:y=b:=yB.mpr e2.symm;subst e3 e4;simp only[aB,aV,af,not_or] at nd;simp only[aV,af,not_or] at ndT;refine g.old hd hz hl ha nd.2.2.2 pe λt=>?_;simp only[af];constructor
  .intro h;refine .inl ⟨.inr (.inr (.inr h)),λe=>?_,λe=>?_,λe=>?_⟩
   .rw[<-e1] at e;rw[e] at h;exact ndT.1.2.2 h
   .rw[<-e2] at e;rw[e] at h;exact ndT.2.1.2 h
   .rw[e] at h;exact ndT.2.2.1 h
  .rintro (⟨h|h|h|h,h1,h2,h3⟩|⟨h,_⟩|⟨h,_⟩|⟨h,_⟩|⟨h,_⟩)
   .rw[e1] at h;exact (h1 h).elim
   .rw[e2] at h;exact (h2 h).elim
   .exact (h3 h).elim
   .exact h
   .exact (h e1.symm).elim
   .exact (h e2.symm).elim
   .exact (h e1.symm).elim
   .exact (h e2.symm).elim
 |s p n y' z' r=>
  obtain⟨e0,hza,hn⟩:=h83 rfl;have e1:p=p0:=sm (by simp) ga;have e2:n=n0:=sm' (p:=a) (v:=b) (by simp) gb;subst e0;have e4:y'=y:=sm (v:=x) (n:=w) (by simp) hz;subst e1 e2 e4;have hp:p≠x:=λe=>hza (zA.mpr e);simp only[aB,aV,af,not_or] at nd;simp only[aV,af,not_or] at ndT;refine g.old hd hz hl ha ?_ pe λt=>?_
  .simp only[aB,aV,af,not_or];refine⟨⟨λe=>xa (eP e).1.symm,λe=>xa (eP e).1.symm,λe=>ab (eP e).1,λe=>?_⟩,⟨λe=>?_,λe=>bx (eP e).1.symm,nd.2.2.1⟩,⟨λe=>bx (eP e).1.symm,λe=>?_⟩,nd.2.1.2,nd.2.2.2⟩
   .obtain⟨⟨o,u,v⟩,h1,h2⟩:=aw.mp e;cases h2;exact nA o (by simp[h1])
   .have ew:w=b:=(eP e).2;subst ew;exact nB y' hz
   .obtain⟨⟨o,u,v⟩,h1,h2⟩:=aw.mp e;cases h2;exact nB o (by simp[h1])
  .simp only[af];constructor
   .rintro (h|h|h|h|h)
    .exact .inr (.inl ⟨hp,h⟩)
    .exact .inr (.inr (.inr (.inl ⟨hp,h⟩)))
    .exact .inr (.inr (.inr (.inr ⟨hn,h⟩)))
    .exact .inr (.inr (.inl ⟨hn,h⟩))
    .refine .inl ⟨.inr (.inr (.inr h)),λe=>?_,λe=>?_,λe=>?_⟩
     .rw[e] at h;exact ndT.1.2.2 h
     .rw[e] at h;exact ndT.2.1.2 h
     .rw[e] at h;exact ndT.2.2.1 h
   .rintro (⟨h|h|h|h,h1,h2,h3⟩|⟨_,h⟩|⟨_,h⟩|⟨_,h⟩|⟨_,h⟩)
    .exact (h1 h).elim
    .exact (h2 h).elim
    .exact (h3 h).elim
    .exact .inr (.inr (.inr (.inr h)))
    .exact .inl h
    .exact .inr (.inr (.inr (.inl h)))
    .exact .inr (.inl h)
    .exact .inr (.inr (.inl h))
theorem ts_new (hx:∀p q,¬En ds x p q) {w:Nat} {T':List Tn} (ts:TS a b x 67 w T T') (pe:(T'.map λt=>(t.1,t.2.1)).Perm (T'.map (·.2))):WI E a0 b0 (ds++[(a,b,x)]) T':=by
 have nd:=g.w.nd;have ndT:=ym nd;have ga:=g.ga;have gb:=g.gb;have ab:=g.ab;have bx:=g.bx;have xa:=g.xa;have hx2:∀q,¬Dn ds q x:=λq ⟨c,h⟩=>hx c q (eN h);have hx1:∀q,¬Dn ds x q:=λq ⟨c,h⟩=>hx q c h;have sm:=λ{p p' v n:Nat}=>g.w.same (p:=p) (p':=p') (v:=v) (n:=n);have sm':=λ{p v n n':Nat}=>g.w.same' (p:=p) (v:=v) (n:=n) (n':=n');cases ts with
 |c _ p n r=>
  have e1:p=p0:=sm (by simp) ga;have e2:n=n0:=sm' (p:=a) (v:=b) (by simp) gb;subst e1 e2;simp only[aB,aV,af,not_or] at nd;simp only[aV,af,not_or] at ndT;have no:∀{o u v:Nat},(o,u,v)∈r->u≠x/\v≠x:=λ{o u v} h=>by
   by_cases hd:ds=[]
   .rcases (g.first hd).2.2 (o,u,v) (by simp[h]) with e|e
    .rw[e] at h;exact (ndT.1.2 h).elim
    .rw[e] at h;exact (ndT.2.1 h).elim
   .have hh:(o,u,v)∈(p,a,b)::(a,b,n)::r:=by simp[h]
    have:=(g.w.ed hh).2.2.resolve_left hd;exact⟨λe=>hx2 v (by rw[<-e];exact this),λe=>hx1 u (by rw[<-e];exact this)⟩
  refine g.new hx ?_ pe λt=>?_
  .simp only[aB,aV,af,not_or];refine⟨⟨λe=>xa (eP e).1.symm,λe=>ab (eP e).1,λe=>?_⟩,⟨λe=>bx (eP e).1.symm,λe=>?_⟩,nd.2.1,nd.2.2⟩
   .obtain⟨⟨o,u,v⟩,h1,h2⟩:=aw.mp e;cases h2;exact (no h1).2 rfl
   .obtain⟨⟨o,u,v⟩,h1,h2⟩:=aw.mp e;cases h2;exact (no h1).1 rfl
  .simp only[af];constructor
   .rintro (h|h|h|h)
    .exact .inr (.inl h)
    .exact .inr (.inr (.inl h))
    .exact .inr (.inr (.inr h))
    .refine .inl ⟨.inr (.inr h),λe=>?_,λe=>?_⟩
     .rw[e] at h;exact ndT.1.2 h
     .rw[e] at h;exact ndT.2.1 h
   .rintro (⟨h|h|h,h1,h2⟩|h|h|h)
    .exact (h1 h).elim
    .exact (h2 h).elim
    .exact .inr (.inr (.inr h))
    .exact .inl h
    .exact .inr (.inl h)
    .exact .inr (.inr (.inl h))
end Gate
end
end K71
end
section
namespace K71
open K31 K51 K15
def prs (N:Nat) (l:List Nat):List Pr:=(List.range l.length).map λi=>(l.getD i 0,N+i)
theorem DP (N:Nat) (l:List Nat):(prs N l).map (·.1)=l:=by unfold prs;rw[c9];refine m8 (by simp) λi h1 h2=>?_;simp[h2]
theorem DO (N:Nat) (l:List Nat):(prs N l).map (·.2)=(List.range l.length).map λi=>N+i:=by unfold prs;rw[c9];rfl
def clos:Nat->Lps->List Tri
 |_,[]=>[]
 |N,l::ls=>clo (N+l.length) (prs N l)++clos (N+l.length+1) ls
theorem Bc {P:List Pr} (h:3<=P.length):∃P0 P1 R y,P=P0::P1::(R++[y]):=by
 match P,h with
 |a::b::r,h=>
  rcases pI r with e|⟨R,y,e⟩
  .subst e;simp at h
  .rw[pH] at e;exact⟨a,b,R,y,by rw[e]⟩
theorem u9:∀(ls:Lps) (ts:List Tri) (N:Nat),FI ts ls->(∀l∈ls,3<=l.length)->(∀p q,(p,q)∈kn ts ls->p<N)->FI (ts++clos N ls) []
 | [],ts,N,f,_,_=>by
  have e:ts++clos N []=ts:=by simp[clos]
  rw[e];exact f
 |l::ls,ts,N,f,h3,old=>by
  have hp:(l::ls).Perm (ls++[l]):=(cR (l₁:=[l]));have f':=f.perm hp;have old':∀p q,(p,q)∈kn ts (ls++[l])->p<N:=λp q h=>old p q ((gC _ (hp.flatMap_right _)).mem_iff.mpr h);have hl:=h3 l (by simp);have lP:(prs N l).length=l.length:=by simp[prs]
  obtain⟨P0,P1,R,y,e⟩:=Bc (P:=prs N l) (by lia);have ef:=DP N l;have es:=DO N l;have mem:∀p∈prs N l,p.1∈l/\N<=p.2/\p.2<N+l.length:=λp hp=>by
   obtain⟨i,hi,rfl⟩:=aw.mp hp;rw[gF] at hi;refine⟨?_,by simp,by simp;exact hi⟩;simp[List.getD,hi]
  have lN:∀c∈l,c<N:=λc hc=>by
   obtain⟨q,hq⟩:∃q,(c,q)∈sides l:=by
    obtain⟨i,hi,e⟩:=ze.mp hc;have:=jl l i hi;have e2:l.getD i 0=c:=by simp[List.getD,hi,e]
    rw[e2] at this;exact⟨_,a7 this⟩
   refine old' c q (bN _ ?_);rw[dO,eF];exact bN _ hq
  have nd:((prs N l).map (·.2)).Nodup:=by rw[es,List.Nodup,fX];exact IV.imp λh e=>h (by lia)
  have f2:FI ts (ls++[(prs N l).map (·.1)]):=by rw[ef];exact f'
  have old2:∀p q,(p,q)∈kn ts (ls++[(prs N l).map (·.1)])->p<N:=by rw[ef];exact old'
  have big:∀p∈prs N l,p.1<N/\N<=p.2:=λp hp=>⟨lN _ (mem p hp).1,(mem p hp).2.1⟩;have hc:∀p∈prs N l,p.2≠N+l.length:=λp hp e=>by have:=(mem p hp).2.2;lia
  have snd:∀p∈prs N l,p.2<N+l.length:=λp hp=>(mem p hp).2.2;have ec:clos N (l::ls)=clo (N+l.length) (prs N l)++clos (N+l.length+1) ls:=rfl;rw[ec];rw[e] at f2 old2 nd big hc snd |-;obtain⟨f3,k3⟩:=close1 f2 nd big hc (by lia) old2;rw[<-bH];refine u9 ls _ _ f3 (λm hm=>h3 m (aY _ hm)) λp q h=>?_;rcases k3 p q h with h|h|⟨r,hr,h⟩
  .lia
  .lia
  .have:=snd r hr;lia
theorem FI.good {ts:List Tri} (f:FI ts []):((ents ts).map (·.1)).Nodup:=by have:=f.nd;unfold kn at this;rw[fP] at this;exact (bZ.mp this).1
theorem FI.clo {ts:List Tri} (f:FI ts []):Clo (En ts):=by
 have nd:=f.good;have mem:∀{a b c},En ts a b c->(a,b)∈kn ts []:=λh=>cf _ (iw.mpr ⟨_,h⟩);have back:∀{a b},(a,b)∈kn ts []->∃c,En ts a b c:=λh=>by
  rcases ay.mp h with h|h
  .exact iw.mp h
  .simp[wl] at h
 refine⟨⟨λh=>eN h,λh h'=>uT nd h h',λh=>f.ne (mem h)⟩,λh=>back (f.sy (mem h)),λ{v p q} h=>?_⟩;have e:∀v p q,Lk ts (tn []) v p q↔En ts v p q:=λv p q=>by simp[Lk,tn]
 obtain⟨l,hl⟩:=f.rg v p q ((e v p q).mpr h);exact⟨l,hl.congr λp q=>(e v p q).symm⟩
theorem wi0 {E:Nat->Nat->Nat->Prop} (k:Clo E) {a b c:Nat} (h:E a b c):WI E a b [] (tn [[a,b]]):=by
 have ab:=k.sk.ne h;obtain⟨d,hd⟩:=k.cl h;have et:tn [[a,b]]=[(b,a,b),(a,b,a)]:=by simp[tn,turns,tw,aE]
 have full:∀{v p q},E v p q->Gap (Ud E [] v) p p:=λ{v p q} h=>by
  obtain⟨l,hl⟩:=k.rg h;obtain⟨r,hr⟩:=hl.at (hl.mem h).1;exact⟨r,hr.1,λs hs=>⟨(hr.2 _ _).mpr hs,λ⟨c,hc⟩=>by simp[En,ents] at hc⟩⟩
 rw[et];refine⟨λh=>by simp[En,ents] at h,by simp[ents],by simp[ab,aF ab],?_,?_,λ_ _ ⟨c,hc⟩=>by simp[En,ents] at hc,?_,λ_=>.refl _⟩
 .exact List.Perm.swap _ _ _
 .intro p v n hm;simp only[af,a8,or_false] at hm;rcases hm with e|e
  .cases e;exact⟨⟨c,h⟩,λ⟨c,hc⟩=>by simp[En,ents] at hc,.inl rfl⟩
  .cases e;exact⟨⟨d,hd⟩,λ⟨c,hc⟩=>by simp[En,ents] at hc,.inl rfl⟩
 .intro p v n hm;simp only[af,a8,or_false] at hm;rcases hm with e|e
  .cases e;exact full h
  .cases e;exact full hd
theorem xG {l m:List (Nat×Nat)} (h:l.Nodup) (hs:∀x∈l,x∈m):l.length<=m.length:=by
 induction l generalizing m with
 |nil=>simp
 |cons x l ih=>
  rw[aV] at h;have hx:=hs x fE;have h1:=ih (m:=m.erase x) h.2 λy hy=>(IT (λe=>h.1 (by rw[<-e];exact hy))).mpr (hs y (aY _ hy));have h2:=IP hx;have h3:=IQ hx;rw[aZ];lia
theorem WI.less {ts ds:List Tri} {a0 b0:Nat} {T:List Tn} (h:WI (En ts) a0 b0 ds T) {t:Tn} (ht:t∈T):ds.length<ts.length:=by
 obtain⟨p,v,n⟩:=t;obtain⟨⟨c,hc⟩,nd,_⟩:=h.ed ht;have hk:(v,n)∉(ents ds).map (·.1):=λz=>by
  obtain⟨⟨⟨x,y⟩,c⟩,h1,h2⟩:=aw.mp z;cases h2;exact nd ⟨c,h1⟩
 have h1:=xG (l:=(v,n)::(ents ds).map (·.1)) (m:=(ents ts).map (·.1)) (aV.mpr ⟨hk,h.gd⟩) λx hx=>by
  rcases af.mp hx with rfl|hx
  .exact aw.mpr ⟨_,hc,rfl⟩
  .obtain⟨⟨⟨x1,x2⟩,c⟩,h1,rfl⟩:=aw.mp hx;exact aw.mpr ⟨_,h.sub h1,rfl⟩
 have el:∀ts:List Tri,(ents ts).length=3*ts.length:=λts=>by
  induction ts with
  |nil=>rfl
  |cons t ts ih=>
   show (_::_::_::ents ts).length=_;simp only[aZ,ih];lia
 rw[aZ,aQ,aQ,el,el] at h1;lia
theorem vN:∀(b:Nat) (t:List Nat),(b::t)[t.length]?=some (aE b t)
 |_,[]=>rfl
 |b,c::t=>by
  show (b::c::t)[t.length+1]?=_;rw[e_];exact vN c t
theorem oR {l:List Nat} {z:Nat} (h:0<l.length):l[0]?=some (hd l z):=by
 cases l with
 |nil=>simp at h
 |cons a l=>rfl
def At (ls:Lps) (j k x z:Nat):Prop:=∃o,j<ls.length/\ls[ls.length-1-j]?=some o/\k<o.length/\o.getD k 0=x/\o.getD ((k+1)%o.length) 0=z
section
variable {E:Nat->Nat->Nat->Prop} {a0 b0:Nat} {ds:List Tri} {ah:Lps} {a b x:Nat} {t:List Nat}
theorem wN (k:Clo E) (w:WI E a0 b0 ds (tn (ah++[a::b::t]))) (ex:E a b x):Gate E a0 b0 ds (tn (ah++[a::b::t])) a b x (aE b t) (hd t a):=by
 obtain⟨r,hr⟩:=my b t a;have e:turns (a::b::t)=(aE b t,a,b)::(a,b,hd t a)::r:=by show (aE b t,a,b)::tw a b t a=_;rw[hr]
 refine⟨k,w,?_,?_,ex⟩<;>rw[il,jJ,e]<;>exact bN _ (by simp)
theorem yh {ls:Lps} {T:List Tn} (h:(tn ls).Perm T):(T.map λt=>(t.1,t.2.1)).Perm (T.map (·.2)):=by refine ((h.map _).symm.trans (vZ ls)).trans ?_;rw[<-kO];exact h.map _
theorem A_ (k:Clo E) (w:WI E a0 b0 ds (tn (ah++[a::b::t]))) (ex:E a b x) (hx:∀p q,¬En ds x p q):WI E a0 b0 (ds++[(a,b,x)]) (tn (bK ah (a::b::t) (.sg 67) x)):=by have g:=wN k w ex;obtain⟨T,T',h1,h2,hs⟩:=qf (ah:=ah) (a:=a) (b:=b) (t:=t) (lt:=.sg 67) (n:=x) (x:=x) (by simp[Lets]) rfl;have g':Gate E a0 b0 ds T a b x (aE b t) (hd t a):=⟨k,w.perm h1,h1.mem_iff.mp g.ga,h1.mem_iff.mp g.gb,ex⟩;exact (g'.ts_new hx hs (yh h2)).perm h2.symm
theorem A9 (k:Clo E) (w:WI E a0 b0 ds (tn (ah++[a::b::t]))) (ex:E a b x) (hx:∃p q,En ds x p q) (two:∀l∈ah,2<=l.length) :
  ∃(rs:List Nat) (z:Nat),rs[0]?=some a/\rs[rs.length-1]?=some z/\(∀i p q,rs[i]?=some p->rs[i+1]?=some q->E p x q)/\(∀i p,i+1<rs.length->rs[i]?=some p->(x,p)∉wl (ah++[a::b::t]))/\(x,z)∈wl (ah++[a::b::t])/\
   ∀lt,(lt=.sg 69/\(b,x)∈wl (ah++[a::b::t])/\z=a\/lt=.sg 82/\(b,x)∈wl (ah++[a::b::t])/\z≠a\/lt=.sg 76/\(b,x)∉wl (ah++[a::b::t])/\z=a\/∃j k,lt=.sp j k/\(b,x)∉wl (ah++[a::b::t])/\z≠a/\At (ah++[a::b::t]) j k x z)->
    ∀n,aM ah (a::b::t) lt n=some x/\Lets lt/\WI E a0 b0 (ds++[(a,b,x)]) (tn (bK ah (a::b::t) lt x)):=by
 have g:=wN k w ex;obtain⟨hd0,rs,y,z,l,r1,r2,r3,r4,hz,hl,ha⟩:=g.back hx;have xz:(x,z)∈wl (ah++[a::b::t]):=iu.mpr ⟨y,hz⟩;have zA:=g.zA hd0 hz hl ha;have yB:=g.yB hd0 hz hl ha;have bw:(b,x)∈wl (ah++[a::b::t])↔hd t a=x:=by
  constructor
  .intro h;obtain⟨o,ho⟩:=iu.mp h;exact g.wantB hd0 ho
  .intro e;have:=g.gb;rw[e] at this;exact iu.mpr ⟨_,this⟩
 have ab:=g.ab;have bx:=g.bx;have xa:=g.xa;refine⟨rs,z,r1,r2,r3,λi p hi hp h=>?_,xz,λlt hlt n=>?_⟩
 .obtain⟨o,ho⟩:=iu.mp h;exact r4 i p hi hp o ho
 have fin:∀{lt:Lt},aM ah (a::b::t) lt n=some x->Lets lt->sgn lt≠67->(sgn lt=82->z≠a)->(sgn lt=76->hd t a≠x)->(sgn lt=83->jV ah (a::b::t) x lt=z/\z≠a/\hd t a≠x)->aM ah (a::b::t) lt n=some x/\Lets lt/\WI E a0 b0 (ds++[(a,b,x)]) (tn (bK ah (a::b::t) lt x)):=λ{lt} h hL c1 c2 c3 c4=>by
  obtain⟨T,T',h1,h2,hs⟩:=qf hL h;have g':Gate E a0 b0 ds T a b x (aE b t) (hd t a):=⟨k,w.perm h1,h1.mem_iff.mp g.ga,h1.mem_iff.mp g.gb,ex⟩;exact⟨h,hL,(g'.ts_old hd0 (h1.mem_iff.mp hz) hl ha hs (yh h2) c1 c2 c3 c4).perm h2.symm⟩
 have ndl:(sides (a::b::t)).Nodup:=by have:=w.nd;rw[kO,dO,eF] at this;exact (bZ.mp this).2.1
 rcases hlt with ⟨rfl,h1,h2⟩|⟨rfl,h1,h2⟩|⟨rfl,h1,h2⟩|⟨j,kk,rfl,h1,h2,o,hj,ho,hk,hox,hoz⟩
 .-- an end
  have e1:=bw.mp h1;have e2:=zA.mp h2;have ht:t=[x]:=by
   cases t with
   |nil=>exact (xa e1.symm).elim
   |cons c t'=>
    have e1:c=x:=e1;subst e1;cases t' with
    |nil=>rfl
    |cons d t''=>
     exfalso;obtain⟨r,hr⟩:=my c (d::t'') a;have h3:(b,c,d)∈tn (ah++[a::b::c::d::t'']):=by rw[il,jJ];exact bN _ (by simp[turns,tw])
     have hz':=hz;rw[yB.mpr (show hd (c::d::t'') a=c from rfl)] at hz';have e3:d=z:=w.same' h3 hz';have e2:aE d t''=c:=e2;have nd2:((c,d)::path d t'' a).Nodup:=by have:sides (a::b::c::d::t'')=(a,b)::(b,c)::(c,d)::path d t'' a:=rfl;rw[this] at ndl;exact (aV.mp (aV.mp ndl).2).2
     have pl:=qo d t'' a;rw[e2] at pl;rw[e3,h2] at nd2;have pl:(c,a)∈path a t'' a:=by rw[e3,h2] at pl;exact pl
     exact (aV.mp nd2).1 pl
  subst ht;exact fin rfl (by simp[Lets]) (by decide) (λz=>by cases z) (λz=>by cases z) λz=>by cases z
 .have e1:=bw.mp h1;have hp:aE b t≠x:=λe=>h2 (zA.mpr e);cases t with
  |nil=>exact (xa e1.symm).elim
  |cons c t'=>
   have e1:c=x:=e1;subst e1;cases t' with
   |nil=>exact (hp rfl).elim
   |cons d t''=>exact fin (by simp[aM]) (by simp[Lets]) (by decide) (λ_=>h2) (λz=>by cases z) λz=>by cases z
 .have hn:hd t a≠x:=λe=>h1 (bw.mpr e);have e2:=zA.mp h2;have hl2:2<=t.length:=by
   match t,e2,hn with
   | [],e2,_=>exact (bx e2).elim
   | [c],e2,hn=>exact (hn e2).elim
   |c::d::r,_,_=>simp
  have hg:(a::b::t)[(a::b::t).length-1]?=some x:=by rw[show (a::b::t).length-1=t.length+1 by simp,e_,vN,e2]
  refine fin ?_ (by simp[Lets]) (by decide) (λz=>by cases z) (λ_=>hn) λz=>by cases z
  unfold aM;dsimp only;rw[K2 (by decide),K3 (.inl ⟨.inr rfl,by simp;lia⟩),K2 (by decide)];exact hg
 .have hn:hd t a≠x:=λe=>h1 (bw.mpr e);have hok:o[kk]?=some x:=by rw[<-hox];simp[List.getD,hk]
  have hoz':o[(kk+1)%o.length]?=some z:=by rw[<-hoz];have:(kk+1)%o.length<o.length:=nu _ (by lia);simp[List.getD,this]
  rw[ar,bg] at hj ho;by_cases c:j=0
  .subst c;have ho:o=a::b::t:=by
    rw[show ah.length+1-1-0=ah.length by lia,gZ (by lia),pZ] at ho;exact (cH ho).symm
   subst ho;have k0:kk≠0:=λe=>by subst e;simp at hok;exact xa hok.symm
   have k1:kk≠1:=λe=>by subst e;simp at hok;exact bx hok
   have k2:kk≠2:=λe=>by
    subst e;rw[e_,e_] at hok;have ht:=(aS.mp hok).1;rw[oR (z:=a) ht] at hok;exact hn (cH hok)
   have k3:kk+1≠(a::b::t).length:=λe=>by
    rw[e,ny] at hoz';simp at hoz';exact h2 hoz'.symm
   have klt:kk+1<(a::b::t).length:=by lia
   rw[j9 klt] at hoz';refine fin ?_ (by simp[Lets]) (by simp[sgn]) (λz=>by cases z) (λz=>by cases z) λ_=>⟨?_,h2,hn⟩
   .unfold aM;dsimp only;rw[K3 rfl,K3 ⟨by lia,klt⟩];exact hok
   .show hd ((a::b::t).drop (kk+1)) a=z;have:0<((a::b::t).drop (kk+1)).length:=by rw[aW];lia
    have h3:=oR (z:=a) this;rw[tI,tQ,hoz'] at h3;exact (cH h3).symm
  .have hjl:j<=ah.length:=by lia
   have hlt:ah.length-j<ah.length:=by lia
   have ho:ah[ah.length-j]?=some o:=by rw[show ah.length+1-1-j=ah.length-j by lia,dS hlt] at ho;exact ho
   have eo:ah.getD (ah.length-j) []=o:=by rw[List.getD,ho];rfl
   have o2:=two o (a7 ho);refine fin ?_ (by simp[Lets]) (by simp[sgn]) (λz=>by cases z) (λz=>by cases z) λ_=>⟨?_,h2,hn⟩
   .unfold aM;dsimp only;rw[K2 c,K3 hjl,eo];exact hok
   .unfold jV;dsimp only;rw[K2 c,eo];by_cases k3:kk+1<o.length
    .rw[j9 k3] at hoz';have:0<(o.drop (kk+1)++o.take kk).length:=by rw[ar,aW];lia
     have h3:=oR (z:=x) this;rw[dS (by rw[aW];lia),tI,tQ,hoz'] at h3;exact (cH h3).symm
    .have e:kk+1=o.length:=by lia
     rw[e,ny] at hoz';rw[yU (by lia),jh];have:0<(o.take kk).length:=by rw[bG];lia
     have h3:=oR (z:=x) this;rw[zb (by lia),hoz'] at h3;exact (cH h3).symm
end
end K71
end
section
namespace K71
open PySem L2 K51 K31 K15
def cV (φ:Nat->Int) (l:List Nat):List V:=l.map λn:Nat=>V.int (φ n)
def LpC (φ:Nat->Int) (H:Hp) (v:V) (l:List Nat):Prop:=∃a,v=.ref a/\H a=some (.lst (cV φ l))
abbrev cw (φ:Nat->Int) (H:Hp):List V->Lps->Prop:=Paired (LpC φ H)
def TrC (φ:Nat->Int) (H:Hp) (v:V) (t:Tri):Prop:=∃a,v=.ref a/\H a=some (.tup [.int (φ t.1),.int (φ t.2.1),.int (φ t.2.2)])
abbrev eD (φ:Nat->Int) (H:Hp):List V->List Tri->Prop:=Paired (TrC φ H)
def kc (φ:Nat->Int) (p q:Nat):List Key:=[Sum.inl (φ p),Sum.inl (φ q)]
def enC (φ:Nat->Int) (e:Ent):List Key×V:=(kc φ e.1.1 e.1.2,V.int (φ e.2))
abbrev Inj (φ:Nat->Int):Prop:=∀{a b:Nat},φ a=φ b->a=b
section
variable {φ:Nat->Int}
theorem cw.same {ls:Lps} (s:Same H H') (h:cw φ H vs ls):cw φ H' vs ls:=Paired.imp' (λ_ _ ⟨a,e,q⟩=>⟨a,e,s _ _ q⟩) h
theorem cw.move {ys:List V} {ls:Lps} (h:cw φ H ys ls) (e:∀b o,V.ref b∈ys->H b=some o->H' b=some o):cw φ H' ys ls:=by
 induction h with
 |nil=>exact .nil
 | @cons a1 b1 a2 b2 h t ih=>
  obtain⟨b,e1,e2⟩:=h;exact .cons ⟨b,e1,e b _ (by rw[e1];simp) e2⟩ (ih λb o hb=>e b o (aY _ hb))
theorem DQ {ls:Lps} {b:Addr} (h:cw φ H vs ls) (hb:V.ref b∈vs):∃l∈ls,H b=some (.lst (cV φ l)):=by
 induction h with
 |nil=>cases hb
 | @cons a1 b1 a2 b2 q t ih=>
  rcases af.mp hb with z|z
  .obtain⟨b',e1,e2⟩:=q;rw[e1] at z;cases z;exact⟨_,by simp,e2⟩
  .obtain⟨l,h1,h2⟩:=ih z;exact⟨l,by simp[h1],h2⟩
theorem cJ (l:List Nat):(cV φ l).length=l.length:=aQ ..
theorem gv (l r:List Nat):cV φ l++cV φ r=cV φ (l++r):=(bI ..).symm
theorem jR {l:List Nat} {i n:Nat} (h:l[i]?=some n):(cV φ l)[i]?=some (.int (φ n)):=by unfold cV;rw[c7,h];rfl
theorem su (l:List Nat) (i:Int) (k:Nat) (h:i=(k:Int)):dP (cV φ l) none (some i)=cV φ (l.take k):=by show fC (cV φ l) none (some i)=_;rw[h,rS];exact (pR ..).symm
theorem lX (l:List Nat) (i:Int) (k:Nat) (h:i=(k:Int)):dP (cV φ l) (some i) none=cV φ (l.drop k):=by show fC (cV φ l) (some i) none=_;rw[h,om];exact (zd ..).symm
theorem Gf (l:List Nat) (i j:Int) (a b:Nat) (h:i=(a:Int)) (h':j=(b:Int)):dP (cV φ l) (some i) (some j)=cV φ ((l.take b).drop a):=by show fC (cV φ l) (some i) (some j)=_;rw[h,h',oD];unfold cV;rw[<-zd,<-pR,Iz]
theorem Ik (l:List Nat):dP (cV φ l) (some 1) (some (-1))=cV φ ((l.drop 1).dropLast):=by
 unfold dP;rw[E7,cJ,show HT.sIx l.length 0 (some 1)=min 1 l.length from HT.sIx_nat l.length 0 1];cases l with
 |nil=>rfl
 |cons a l=>
  simp only[aZ];rw[show min 1 (l.length+1)=1 by lia];show (cV φ l).take (l.length+1-1-1)=cV φ l.dropLast;rw[List.dropLast_eq_take];exact (pR ..).symm
theorem mq (i:Inj φ) {p q p' q':Nat}:kc φ p q=kc φ p' q'↔(p,q)=(p',q'):=by
 unfold kc;constructor
 .intro h;injection h with h1 h2;injection h2 with h2 _;injection h1 with h1;injection h2 with h2;rw[i h1,i h2]
 .intro h;injection h with h1 h2;rw[h1,h2]
theorem uH (i:Inj φ) {l:List Ent} {p q:Nat}:valV (l.map (enC φ)) (kc φ p q)=none↔(p,q)∉l.map (·.1):=by
 induction l with
 |nil=>simp[valV]
 |cons e l ih=>
  rw[aB,aB,af];by_cases h:(enC φ e).1=kc φ p q
  .rw[dN h];have:e.1=(p,q):=(mq i).mp h;simp[this]
  .rw[dC h,ih];have:(p,q)≠e.1:=λz=>h ((mq i).mpr (by rw[z]));simp[this]
theorem uG (i:Inj φ) {l:List Ent} (nd:(l.map (·.1)).Nodup) {p q c:Nat} (h:((p,q),c)∈l):valV (l.map (enC φ)) (kc φ p q)=some (V.int (φ c)):=by
 induction l with
 |nil=>cases h
 |cons e l ih=>
  rw[aB,aV] at nd;rcases af.mp h with z|z
  .rw[aB,<-z];exact dN rfl
  .rw[aB,dC,ih nd.2 z];intro z';have e1:e.1=(p,q):=(mq i).mp z';exact nd.1 (aw.mpr ⟨_,z,e1.symm⟩)
theorem qE (i:Inj φ) {l:List Ent} {a b c:Nat} (h:(a,b)∉l.map (·.1)):cP (l.map (enC φ)) (kc φ a b) (V.int (φ c))=(l++[((a,b),c)]).map (enC φ):=by rw[qD _ ((uH i).mpr h),bI];rfl
end
structure WdC (φ:Nat->Int) (H:Hp) (kw:List (List Key×V)) (W:Side->Prop) (A:Nat->Nat->Nat->Nat->Prop):Prop where
 no:∀p q,valV kw (kc φ p q)=none->¬W (p,q)
 yes:∀p q v,valV kw (kc φ p q)=some v->W (p,q)/\∃t j k,v=.ref t/\H t=some (.tup [.int ((j:Nat):Int),.int ((k:Nat):Int)])/\A j k p q
theorem WdC.put {φ:Nat->Int} {kw:List (List Key×V)} {W W':Side->Prop} {A A':Nat->Nat->Nat->Nat->Prop} (i:Inj φ) (h:WdC φ H kw W A) (s:∀t o,H t=some (.tup o)->H' t=some (.tup o)) {a b j k:Nat} {t:Addr}
  (ht:H' t=some (.tup [.int ((j:Nat):Int),.int ((k:Nat):Int)])) (hW:∀z,W' z↔W z\/z=(a,b)) (hA:A' j k a b) (hA':∀j k p q,A j k p q->A' j k p q):WdC φ H' (cP kw (kc φ a b) (.ref t)) W' A':=by
 constructor
 .intro p q hn hw;rw[vo] at hn;by_cases e:kc φ p q=kc φ a b
  .rw[K3 e] at hn;cases hn
  .rw[K2 e] at hn;rcases (hW _).mp hw with z|z
   .exact h.no p q hn z
   .exact e ((mq i).mpr z)
 .intro p q v hv;rw[vo] at hv;by_cases e:kc φ p q=kc φ a b
  .rw[K3 e] at hv;cases hv;have z:=(mq i).mp e;cases z;exact⟨(hW _).mpr (.inr rfl),t,j,k,rfl,ht,hA⟩
  .rw[K2 e] at hv;obtain⟨h1,t',j',k',rfl,h2,h3⟩:=h.yes p q v hv;exact⟨(hW _).mpr (.inl h1),t',j',k',rfl,s _ _ h2,hA' _ _ _ _ h3⟩
def AK (φ:Nat->Int) (vs:List V) (H:Hp) (Q:VK) (T:Addr) (vt:List V) (ts:List Tri):Prop:=vs=[.ref T]/\H T=some (.lst vt)/\eD φ H vt ts/\ts.length<=400/\((ents ts).map (·.1)).Nodup/\
 ∀D H',H D=none->Same H H'->H' D=some (.dT ((ents ts).map (enC φ)))->Q (.ref D) H'
def kG (φ:Nat->Int):Sp:=λvs H Q _=>Exists (Ex3 (AK φ vs H Q))
def AI (φ:Nat->Int) (vs:List V) (H:Hp) (Q:VK) (L:Addr) (vl:List V) (ls:Lps):Prop:=vs=[.ref L]/\H L=some (.lst vl)/\cw φ H vl ls/\(ls.map List.length).sum<=1000/\
 ∀D kw H',H D=none->Same H H'->H' D=some (.dT kw)->WdC φ H' kw (λs=>s∈wl ls) (At ls)->Q (.ref D) H'
def nU (φ:Nat->Int):Sp:=λvs H Q _=>Exists (Ex3 (AI φ vs H Q))
section
variable {φ:Nat->Int}
theorem AY (ij:Inj φ) {f:Addr} (U:Fun K "_law_thirds" "_law_thirds" lC f fd):FnOk P w K mg base CX0 1 f fd ["_law_triples"] (kG φ):=by
 refine U.ok kP (λvs H Q E h=>?_) (λcdv A outer s H vs Q E hr h=>?_)
 .obtain⟨T,vt,ts,rfl,_⟩:=h;rfl
 .obtain⟨T,vt,ts,rfl,hT,ht,hl,hnd,q⟩:=h;have hu:=fB hr;refine⟨_,ak (aA (i:=1) kP.nd rfl (.inl rfl) vA)
   (ak (dh cD rfl (dr (pv 0)) (dX rfl (bB (aK (i:=2) kP.nd rfl (.inl rfl)) (bB (aK (i:=3) kP.nd rfl (.inl rfl)) (bB (aK (i:=4) kP.nd rfl (.inl rfl)) dt))))
    (ak (lL hu (pv 1) (aN (aa (pv 2) (aa (pv 3) ae))) (pv 4) rfl)
    (ak (lL hu (pv 1) (aN (aa (pv 3) (aa (pv 4) ae))) (pv 2) rfl)
    (au (lL hu (pv 1) (aN (aa (pv 4) (aa (pv 2) ae))) (pv 3) rfl)))))
   (au (bj (pv 1)))),?_⟩
  have hline:=line5000;have hlen:=aU ht;refine λD H1 h1 s1 y1=>?_;refine⟨_,rfl,T,rfl,⟨_,SqL.of (s1 _ _ hT)⟩,gJ (K:=[]) (a:=T) (xs:=vt) (λi Z H2=>∃v2 v3 v4,Z=[some (.ref T),some (.ref D),v2,v3,v4]/\Same H H2/\H2 D=some (.dT ((ents (ts.take i)).map (enC φ))))
   ⟨none,none,none,rfl,s1,y1⟩ (λi Z H2 _ ⟨_,_,_,_,e,_⟩=>SqL.of (e _ _ hT)) ?_ ?_⟩
  .rintro i x Z H2 hi ⟨v2,v3,v4,rfl,sm,hD⟩;obtain⟨⟨a,b,c⟩,hs,t,rfl,hb⟩:=dG ht hi;have hb:H t=some (.tup [.int (φ a),.int (φ b),.int (φ c)]):=hb;have hil:i<ts.length:=(aS.mp hs).1;have et:ts.take (i+1)=ts.take i++[(a,b,c)]:=by rw[cU,hs];rfl
   have nd1:((ents (ts.take (i+1))).map (·.1)).Nodup:=by rw[<-fc (i+1) ts,ents_app,bI,bZ] at hnd;exact hnd.1
   have ee:ents (ts.take (i+1))=((ents (ts.take i)++[((a,b),c)])++[((b,c),a)])++[((c,a),b)]:=by rw[et,ents_app];simp[ents]
   rw[ee] at nd1;obtain⟨nd2,n3⟩:=qT nd1;obtain⟨nd3,n2⟩:=qT nd2;obtain⟨_,n1⟩:=qT nd3;have l0:=ents_len (ts.take i);rw[bG] at l0;refine⟨t,_,rfl,SqT.of (sm _ _ hb),rfl,_,_,rfl,_,_,rfl,_,_,rfl,rfl,?_⟩;refine⟨_,rfl,_,rfl,_,rfl,_,rfl,lit2,λt1 H3 g1 s3 y3=>?_⟩;refine⟨D,_,rfl,DPut.t (k:=kc φ a b) (s3 _ _ hD) y3 (by rw[aQ];lia),?_⟩;rw[qE ij n1];walk_at"H3 D H4 k4 y4";refine⟨_,rfl,_,rfl,_,rfl,_,rfl,lit2,λt2 H5 g2 s5 y5=>?_⟩;refine⟨D,_,rfl,DPut.t (k:=kc φ b c) (s5 _ _ y4) y5 (by rw[aQ,ar,bg];lia),?_⟩;rw[qE ij n2];walk_at"H5 D H6 k6 y6";refine⟨_,rfl,_,rfl,_,rfl,_,rfl,lit2,λt3 H7 g3 s7 y7=>?_⟩;refine⟨D,_,rfl,DPut.t (k:=kc φ c a) (s7 _ _ y6) y7 (by rw[aQ,ar,ar,bg,bg];lia),?_⟩;rw[qE ij n3];walk_at"H7 D H8 k8 y8";refine⟨_,_,_,rfl,λb' o e=>?_,by rw[y8,ee]⟩;have nb:=ax e h1;exact (k8 b' nb).trans (s7 _ _ ((k6 b' nb).trans (s5 _ _ ((k4 b' nb).trans (s3 _ _ (sm _ _ e))))))
  .rintro Z H2 ⟨v2,v3,v4,rfl,sm,hD⟩;rw[hlen,fY] at hD;exact⟨_,rfl,q D H2 h1 sm hD⟩
theorem um {ls:Lps} {i:Nat} {l:List Nat} (h:ls[ls.length-1-i]?=some l) (hi:i<ls.length):ls.drop (ls.length-(i+1))=l::ls.drop (ls.length-i):=by obtain⟨hk,e⟩:=aS.mp h;rw[show ls.length-(i+1)=ls.length-1-i by lia,eZ hk,e,show ls.length-1-i+1=ls.length-i by lia]
theorem qy (ls:Lps) (k:Nat):((ls.drop k).map List.length).sum<=(ls.map List.length).sum:=by
 conv=>rhs;rw[<-fc k ls,bI,iI]
 lia
theorem jt:bS ["_law_loops","_law_found","_law_j","_law_loop","_law_k","_law_corner"] ["_law_loops"] (bu kS):=by walk_at"sc"
theorem AX (ij:Inj φ) {f:Addr} (U:Fun K "_law_wanted" "_law_wanted" kS f fd) (T:di mg):FnOk P w K mg base CX0 1 f fd ["_law_loops"] (nU φ):=by
 refine U.ok jt (λvs H Q E h=>?_) (λcdv A outer s H vs Q E hr h=>?_)
 .obtain⟨L,vl,ls,rfl,_⟩:=h;rfl
 .obtain⟨L,vl,ls,rfl,hL,hp,hsum,q⟩:=h;have hu:=fB hr;refine⟨_,ak (aA (i:=1) jt.nd rfl (.inl rfl) vA)
   (ak (dh cD rfl (vz rfl T.enum rfl T.rev (aa (pv 0) ae)) (dX rfl (bB (aK (i:=2) jt.nd rfl (.inl rfl)) (bB (aK (i:=3) jt.nd rfl (.inl rfl)) dt)))
    (au (dh cD rfl (rf rfl T.enum (aa (pv 3) ae)) (dX rfl (bB (aK (i:=4) jt.nd rfl (.inl rfl)) (bB (aK (i:=5) jt.nd rfl (.inl rfl)) dt)))
     (au (lL hu (pv 1) (aN (aa (pv 5) (aa (aq aI (pv 3) (aD gr (aD cb (pv 4) ag) (a9 cu (by rfl) T.len cF (aa (pv 3) ae))) (λ_ _=>rfl)) ae)))
      (aN (aa (pv 2) (aa (pv 4) ae))) rfl)))))
   (au (bj (pv 1)))),?_⟩
  have hline:=line5000;have hlen:=aU hp;refine λD H1 h1 s1 y1=>?_;refine⟨_,rfl,L,vl,rfl,SqL.of (s1 _ _ hL),uY (K:=[]) (a:=L) (xs:=vl) (λi Z H2=>∃v2 v3 v4 v5 kw,Z=[some (.ref L),some (.ref D),v2,v3,v4,v5]/\Same H H2/\H2 D=some (.dT kw)/\WdC φ H2 kw (λs=>s∈wl (ls.drop (ls.length-i))) (At ls)/\kw.length<=((ls.drop (ls.length-i)).map List.length).sum)
   ⟨none,none,none,none,[],rfl,s1,y1,by rw[zq,tq];exact⟨λ_ _ _ z=>by simp[wl] at z,λ_ _ _ z=>nomatch z⟩,by simp⟩ (λi Z H2 _ ⟨_,_,_,_,_,_,e,_⟩=>SqL.of (e _ _ hL)) ?_ ?_⟩
  .rintro i x pt Z H2 hi hx ⟨v2,v3,v4,v5,kw,rfl,sm,hD,hk,hz⟩ hpt;rw[hlen] at hi hx;obtain⟨l,hs,b,rfl,hb⟩:=dG hp hx;have ed:=um hs hi;walk_at"H2 pt hpt H3 s3 y3";refine⟨pt,_,rfl,SqT.of y3,rfl,_,_,rfl,_,_,rfl,rfl,?_⟩;have hbl:∀H',Same H H'->SqL [] H' b (cV φ l):=λH' s'=>SqL.of (s' _ _ hb);have sd:=qy ls (ls.length-i);have se:=qy ls (ls.length-(i+1));rw[ed,aB,fH] at se;refine⟨_,rfl,b,cV φ l,rfl,hbl _ (sm.trans s3),vP (K:=[]) (a:=b) (xs:=cV φ l) (λk Z H4=>∃v4 v5 kw',Z=[some (.ref L),some (.ref D),some (.int (i:Int)),some (.ref b),v4,v5]/\Same H H4/\H4 D=some (.dT kw')/\WdC φ H4 kw' (λs=>s∈wl (ls.drop (ls.length-i))\/s∈(sides l).take k) (At ls)/\kw'.length<=((ls.drop (ls.length-i)).map List.length).sum+k)
    ⟨v4,v5,kw,rfl,sm.trans s3,s3 _ _ hD,⟨λp q hn z=>hk.no p q hn (z.elim id (by simp)),λp q v hv=>let ⟨h1,t,j,k,e,h2,h3⟩:=hk.yes p q v hv;⟨.inl h1,t,j,k,e,s3 _ _ h2,h3⟩⟩,by lia⟩ (λk Z H4 _ ⟨_,_,_,_,e,_⟩=>hbl _ e) ?_ ?_⟩
   .rintro k y pk Z H4 hy ⟨v4,v5,kw',rfl,sm4,hD4,hk4,hz4⟩ hpk;have hkl:k<l.length:=by
     have:=(aS.mp hy).1;rw[cJ] at this;exact this
    have hg:l[k]?=some (l.getD k 0):=by simp[List.getD,hkl]
    have hy':y=.int (φ (l.getD k 0)):=by rw[jR hg] at hy;exact (cH hy).symm
    subst hy';have hml:(k+1)%l.length<l.length:=nu _ (by lia);have hg2:l[(k+1)%l.length]?=some (l.getD ((k+1)%l.length) 0):=by simp[List.getD,hml]
    have hsd:=jl l k hkl;have hat:At ls i k (l.getD k 0) (l.getD ((k+1)%l.length) 0):=⟨l,hi,hs,hkl,rfl,rfl⟩;generalize l.getD k 0=c at hg hsd hat;generalize l.getD ((k+1)%l.length) 0=d at hg2 hsd hat;walk_at"H4 pk hpk H5 s5 y5";have sm5:=sm4.trans s5;refine⟨pk,_,rfl,SqT.of y5,rfl,_,_,rfl,_,_,rfl,rfl,?_⟩;refine⟨_,rfl,_,rfl,lit2,λt6 H6 g6 s6 y6=>?_⟩;have sm6:=sm5.trans s6;refine⟨_,rfl,_,rfl,_,rfl,_,rfl,_,_,rfl,rfl,_,rfl,b,_,rfl,.inl (hbl _ sm6),_,_,rfl,rfl,(by rw[cJ];show (0:Int)<_;lia),b,_,((((k+1)%l.length:Nat)):Int),.int (φ d),rfl,?_,hbl _ sm6,cA (jR hg2),lit2,λt7 H7 g7 s7 y7=>?_⟩
    .rw[cJ];show V.int (((k:Int)+1)%(l.length:Int))=_
     congr 1
    have hl7:=kl kw' (kc φ c d) (V.ref t6);refine⟨D,_,rfl,DPut.t (k:=kc φ c d) (s7 _ _ (s6 _ _ (s5 _ _ hD4))) y7 (by lia),?_⟩;walk_at"H7 D H8 k8 y8";have hD7:=s7 _ _ (s6 _ _ (s5 _ _ hD4));have t78:∀t o,H7 t=some (.tup o)->H8 t=some (.tup o):=λt o e=>(k8 t (bM e hD7 (by intro z;cases z))).trans e;refine⟨_,_,_,rfl,λb' o e=>(k8 b' (ax e h1)).trans (s7 _ _ (sm6 _ _ e)),y8,?_,by lia⟩;refine hk4.put ij (λt o e=>t78 _ _ (s7 _ _ (s6 _ _ (s5 _ _ e)))) (t78 _ _ (s7 _ _ y6)) (λs=>?_) hat λ_ _ _ _ h=>h;rw[cU,hsd,ay,Option.toList_some,aR,or_assoc]
   .rintro Z H4 ⟨v4,v5,kw',rfl,sm4,hD4,hk4,hz4⟩;rw[cJ] at hk4 hz4;rw[gG (by rw[jk];lia)] at hk4;refine⟨_,_,_,_,kw',rfl,sm4,hD4,?_,?_⟩
    .rw[ed];have hw:∀s,s∈wl (l::ls.drop (ls.length-i))↔(s∈wl (ls.drop (ls.length-i))\/s∈sides l):=λs=>by
      rw[jz,ay];exact or_comm
     exact⟨λp q hn z=>hk4.no p q hn ((hw _).mp z),λp q v hv=>let ⟨h1,h2⟩:=hk4.yes p q v hv;⟨(hw _).mpr h1,h2⟩⟩
    .rw[ed,aB,fH];lia
  .rintro Z H2 ⟨v2,v3,v4,v5,kw,rfl,sm,hD,hk,hz⟩;rw[hlen,pZ,m7] at hk;exact⟨_,rfl,q D kw H2 h1 sm hD hk⟩
end
end K71
end
section
namespace K71
open PySem L2 K51 K31 K15
theorem rj {va:List V} {p:Addr} (h:H p=none):∀b,V.ref b∈va++[V.ref p]->V.ref b∈va\/H b=none:=λb hb=>by
 rcases ay.mp hb with z|z
 .exact .inl z
 .have:b=p:=by simpa using z
  rw[this];exact .inr h
theorem jY (c d:Nat):decide (V.str (txt [c])=V.str (txt [d]))=decide (c=d):=by rw[Ek,dn];simp
def ltR:Lt->List V
 |.sg _=>[]
 |.sp j k=>[.int (j:Nat),.int (k:Nat)]
theorem rQ (a:Lt):ltV a=.str (txt [sgn a])::ltR a:=by cases a<;>rfl
theorem xN {l:List Nat} (h:2<=l.length):l[0]?=some (g1 l)/\l[1]?=some (g2 l):=by obtain⟨t,e⟩:=two h;rw[e];exact⟨rfl,rfl⟩
def But (L:Addr) (H H':Hp):Prop:=∀b o,b≠L->H b=some o->H' b=some o
theorem But.same {L:Addr} {H H1 H2:Hp} (h:But L H H1) (s:Same H1 H2):But L H H2:=λb o n e=>s _ _ (h b o n e)
theorem But.wr {L:Addr} {H H1 H2:Hp} (h:But L H H1) (k:∀b,b≠L->H2 b=H1 b):But L H H2:=λb o n e=>(k b n).trans (h b o n e)
theorem But.free {L:Addr} {H H1:Hp} {p:Addr} {o:HO} (h:But L H H1) (hL:H1 L=some o) (g:H1 p=none):H p=none:=by
 cases e:H p with
 |none=>rfl
 |some u=>
  exfalso;by_cases z:p=L
  .rw[z,hL] at g;cases g
  .rw[h p u z e] at g;cases g
theorem fu {i:Nat} {D:Ends} {t u:L2.TS} {a:Addr} {c d:Nat} {s:Str} (hv:Z[i]?=some (some (.ref a))) (h:H a=some (.tup (V.str (txt [c])::xs))) (e:s=txt [d]) (n:¬c=d) (q:u D Z H):mP (i6 (tOp rEq (tOp (mV []) (eh i) (L2.tC (.int 0))) (L2.tC (.str s)))) t u D Z H:=by subst e;exact⟨_,hv,a,_,_,_,rfl,rfl,SqT.of h,ja _ _,rfl,_,rfl,by rw[jY,K5 n];exact av q⟩
theorem rD {i:Nat} {D:Ends} {t u:L2.TS} {a:Addr} {c d:Nat} {s:Str} (hv:Z[i]?=some (some (.ref a))) (h:H a=some (.tup (V.str (txt [c])::xs))) (e:s=txt [d]) (n:c=d) (q:t D Z H):mP (i6 (tOp rEq (tOp (mV []) (eh i) (L2.tC (.int 0))) (L2.tC (.str s)))) t u D Z H:=by subst e;exact⟨_,hv,a,_,_,_,rfl,rfl,SqT.of h,ja _ _,rfl,_,rfl,by rw[jY,K4 n];exact aJ q⟩
theorem fj {i:Nat} {D:Ends} {B:TT} {t u:L2.TS} {a:Addr} {c d:Nat} {s:Str} (hv:Z[i]?=some (some (.ref a))) (h:H a=some (.tup (V.str (txt [c])::xs))) (e:s=txt [d]) (n:¬c=d) (q:u D Z H):mP (sM (i6 (tOp rEq (tOp (mV []) (eh i) (L2.tC (.int 0))) (L2.tC (.str s)))) B) t u D Z H:=by subst e;exact⟨_,hv,a,_,_,_,rfl,rfl,SqT.of h,ja _ _,rfl,_,rfl,by rw[jY,K5 n];exact av (av q)⟩
theorem iR {i:Nat} {D:Ends} {B:TT} {t u:L2.TS} {a:Addr} {c d:Nat} {s:Str} (hv:Z[i]?=some (some (.ref a))) (h:H a=some (.tup (V.str (txt [c])::xs))) (e:s=txt [d]) (n:c=d) (q:B Z H (tIfK t u D Z)):mP (sM (i6 (tOp rEq (tOp (mV []) (eh i) (L2.tC (.int 0))) (L2.tC (.str s)))) B) t u D Z H:=by subst e;exact⟨_,hv,a,_,_,_,rfl,rfl,SqT.of h,ja _ _,rfl,_,rfl,by rw[jY,K4 n];exact aJ q⟩
def BY (φ:Nat->Int) (vs:List V) (H:Hp) (Q:VK) (L t:Addr) (vl:List V) (ah:Lps) (loop:List Nat) (a:Lt) (n x:Nat):Prop:=vs=[.ref L,.ref t,.int (φ x)]/\H L=some (.lst vl)/\cw φ H vl (ah++[loop])/\H t=some (.tup (ltV a))/\Lets a/\aM ah loop a n=some x/\(∀l∈ah++[loop],2<=l.length/\l.length<=1000)/\ah.length<=900/\
 ∀H' vl',But L H H'->H' L=some (.lst vl')->cw φ H' vl' (bK ah loop a x)->(∀b,V.ref b∈vl'->V.ref b∈vl\/H b=none)->Q .non H'
def oq (φ:Nat->Int):Sp:=λvs H Q _=>Exists (Ex8 (BY φ vs H Q))
section
variable {φ:Nat->Int}
theorem jK:bS ["_law_loops","_law_letter_here","_law_x","_law_loop","_law_a","_law_b","_law_k","_law_other"] ["_law_loops","_law_letter_here","_law_x"] (bu l_):=by walk_at"sc"
theorem Cu {f:Addr} (U:Fun K "_law_step" "_law_step" l_ f fd) (T:di mg):FnOk P w K mg base CX0 1 f fd ["_law_loops","_law_letter_here","_law_x"] (oq φ):=by
 refine U.ok jK (λvs H Q E h=>?_) (λcdv A outer s H vs Q E hr h=>?_)
 .obtain⟨L,t,vl,ah,loop,a,n,x,rfl,_⟩:=h;rfl
 .obtain⟨L,t,vl,ah,loop,a,n,x,rfl,hL,hp,ht,ha,hx,hb,hn,q⟩:=h;refine⟨_,ak (aA (i:=3) jK.nd rfl (.inl rfl) (Ft cM Jt Jv FC (pv 0)))
   (ak (eV (cS cT (pv 3) dq (ck ag)) (oN rfl (bB (aK (i:=4) jK.nd rfl (.inl rfl)) (bB (aK (i:=5) jK.nd rfl (.inl rfl)) dt))))
   (ak (bL (aL du (aq cB (pv 1) ag (λ_ _=>rfl)) b_ (nomark _)) (au (cy (cK cM da de cN (pv 0) (aa ((aD dI (br (aa (pv 4) (aa (pv 2) ae))) (cS cT (pv 3) (ck ag) dq))) ae)))) bJ)
   (ak (bL (aL du (aq cB (pv 1) ag (λ_ _=>rfl)) b_ (nomark _)) (au (cy (cK cM da de cN (pv 0) (aa ((aD dI (br (aa (pv 4) ae)) (cS cT (pv 3) (ck ag) dq))) ae)))) bJ)
   (ak (bL (aL du (aq cB (pv 1) ag (λ_ _=>rfl)) b_ (nomark _)) (au (cy (cK cM da de cN (pv 0) (aa ((aD dI (br (aa (pv 2) ae)) (cS cT (pv 3) (ck ag) (ck (dA dz ag))))) ae)))) bJ)
   (ak (bL (PW.pt (eG (aL du (aq cB (pv 1) ag (λ_ _=>rfl)) b_ (nomark _)) (eM (aL du (aq cB (pv 1) ag (λ_ _=>rfl)) ag (nomark _))))) (ak (cy (cK cM da de cN (pv 0) (aa ((aD dI (br (aa (pv 4) ae)) (cS cT (pv 3) (ck (aq cB (pv 1) ag (λ_ _=>rfl))) dq))) ae))) (au (cy (cK cM da de cN (pv 0) (aa ((aD dI (br (aa (pv 2) ae)) (cS cT (pv 3) (ck ag) (ck (aq cB (pv 1) ag (λ_ _=>rfl)))))) ae))))) bJ)
   (au (bL (PW.pt (eG (aL du (aq cB (pv 1) ag (λ_ _=>rfl)) b_ (nomark _)) (eM (aL r9 (aq cB (pv 1) ag (λ_ _=>rfl)) ag (nomark _)))))
    (ak (aA (i:=6) jK.nd rfl (.inl rfl) (aq cB (pv 1) ag (λ_ _=>rfl)))
    (ak (aA (i:=7) jK.nd rfl (.inl rfl) (cK cM Jt Jv CH (pv 0) (aa (aD fU (a9 cu (by rfl) T.len cF (aa (pv 0) ae)) (aq cB (pv 1) ag (λ_ _=>rfl))) ae)))
    (au (cy (cK cM da de cN (pv 0) (aa ((aD dI (aD dI (aD dI (aD dI (br (aa (pv 4) ae)) (cS cT (pv 7) (ck (pv 6)) dq)) (cS cT (pv 7) dq (ck (pv 6)))) (br (aa (pv 2) ae))) (cS cT (pv 3) (ck ag) dq))) ae)))))) bJ))))))),?_⟩
  have hline:=line5000;obtain⟨va,v,rfl,hpa,B,rfl,hB⟩:=jC hp;have hla:=aU hpa;have hbl:=hb loop (by simp);have hg:=xN hbl.1;rw[rQ] at ht;have a0:atI (V.str (txt [sgn a])::ltR a) 0=some (V.str (txt [sgn a])):=ja _ _;have inL:∀b,V.ref b∈va->b≠L:=λb hb' z=>by
   obtain⟨l,hl,e⟩:=DQ hpa hb';rw[z,hL] at e;injection e with e;injection e with e;have h2:=(hb l (cf _ hl)).1;cases l with
   |nil=>simp at h2
   |cons c l=>
    cases hpa with
    |nil=>cases hb'
    |cons hq0 _=>
     obtain⟨b',e1,_⟩:=hq0;rw[e1] at e;simp[cV] at e
  have nBL:B≠L:=λz=>by
   rw[z,hL] at hB;injection hB with e;injection e with e;have h2:=hbl.1;cases loop with
   |nil=>simp at h2
   |cons c l=>
    cases hpa with
    |nil=>simp[cV] at e
    |cons hq0 _=>
     obtain⟨b',e1,_⟩:=hq0;rw[e1] at e;simp[cV] at e
  have nTL:t≠L:=bM ht hL (by intro z;cases z);refine⟨_,rfl,.inl ⟨rfl,_,SqL.of hL⟩,L,_,_,rfl,rfl,hL,(by simp:(va++[V.ref B])[(va++[V.ref B]).length-1]?=some (V.ref B)),λH1 k1 y1=>?_⟩;rw[tm] at y1;have b1:But L H H1:=λb o n e=>(k1 b n).trans e;refine⟨_,rfl,2,rfl,B,_,rfl,SqL.of (b1 _ _ nBL hB),λp2 H2 h2 s2 y2=>?_⟩;rw[su loop 2 2 rfl] at y2;have b2:=b1.same s2;have eT:loop.take 2=[g1 loop,g2 loop]:=by obtain⟨r,e⟩:=two hbl.1;rw[e];rfl
  rw[eT] at y2;refine⟨p2,_,rfl,SqL.of y2,rfl,_,_,rfl,_,_,rfl,rfl,?_⟩;have hL2:=s2 _ _ y1;have ht2:=b2 _ _ nTL ht;have hB2:=b2 _ _ nBL hB;clear y2;have fin:∀(H':Hp) (p:Addr) (l:List Nat),But L H H'->H' p=some (.lst (cV φ l))->H p=none->H' L=some (.lst (va++[.ref p]))->bK ah loop a x=ah++[l]->Q .non H':=λH' p l bb hp' hn' hl' e=>by
   refine q H' _ bb hl' ?_ ?_
   .rw[e];exact cX (cw.move hpa λb o hb e=>bb b o (inL b hb) e) (.cons ⟨p,rfl,hp'⟩ .nil)
   .intro b hb;rcases ay.mp hb with z|z
    .exact .inl (cf _ z)
    .have:b=p:=by simpa using z
     rw[this];exact .inr hn'
  cases a with
  |sg c=>
   simp only[K31.Lets] at ha;simp only[aM] at hx;rcases ha with rfl|rfl|rfl|rfl
   .refine rD rfl ht2 sC rfl ?_;refine⟨_,rfl,.inl ⟨rfl,_,SqL.of hL2⟩,_,rfl,_,rfl,lit2,λp3 H3 h3 s3 y3=>?_⟩;have b3:=b2.same s3;refine⟨_,rfl,1,rfl,B,_,rfl,SqL.of (s3 _ _ hB2),λp4 H4 h4 s4 y4=>?_⟩;rw[lX loop 1 1 rfl] at y4;have z3:H4 p3=some (.lst (cV φ [g1 loop,x])):=s4 _ _ y3;refine⟨p3,p4,_,_,rfl,rfl,z3,y4,(by rw[cJ,cJ,aW];show 2+_<=_;lia),λp5 H5 h5 s5 y5=>?_⟩;rw[gv] at y5;have n5:=(b3.same s4).free (s4 _ _ (s3 _ _ hL2)) h5;have b5:=(b3.same s4).same s5;have hL5:=s5 _ _ (s4 _ _ (s3 _ _ hL2));refine⟨L,_,_,rfl,rfl,hL5,by lia,λH6 k6 y6=>?_⟩;have b6:=b5.wr k6;have n5L:p5≠L:=aF (ax hL n5);have t6:H6 t=some (.tup (V.str (txt [sgn (.sg 67)])::ltR (.sg 67))):=b6 _ _ nTL ht;refine fu rfl t6 sR (by decide) ?_;refine fu rfl t6 sL (by decide) ?_;refine fj rfl t6 s83 (by decide) ?_;refine fj rfl t6 s83 (by decide) ?_;refine fin H6 p5 _ b6 ((k6 p5 n5L).trans y5) n5 y6 ?_;obtain⟨r,e⟩:=two hbl.1;show ah++[loop.take 1++x::loop.drop 1]=_;rw[e];rfl
   .refine fu rfl ht2 sC (by decide) ?_;refine rD rfl ht2 sR rfl ?_;simp at hx;refine⟨_,rfl,.inl ⟨rfl,_,SqL.of hL2⟩,_,rfl,lit1,λp3 H3 h3 s3 y3=>?_⟩;have b3:=b2.same s3;refine⟨_,rfl,2,rfl,B,_,rfl,SqL.of (s3 _ _ hB2),λp4 H4 h4 s4 y4=>?_⟩;rw[lX loop 2 2 rfl] at y4;have z3:H4 p3=some (.lst (cV φ [g1 loop])):=s4 _ _ y3;refine⟨p3,p4,_,_,rfl,rfl,z3,y4,(by rw[cJ,cJ,aW];show 1+_<=_;lia),λp5 H5 h5 s5 y5=>?_⟩;rw[gv] at y5;have n5:=(b3.same s4).free (s4 _ _ (s3 _ _ hL2)) h5;have b5:=(b3.same s4).same s5;have hL5:=s5 _ _ (s4 _ _ (s3 _ _ hL2));refine⟨L,_,_,rfl,rfl,hL5,by lia,λH6 k6 y6=>?_⟩;have b6:=b5.wr k6;have n5L:p5≠L:=aF (ax hL n5);have t6:H6 t=some (.tup (V.str (txt [sgn (.sg 82)])::ltR (.sg 82))):=b6 _ _ nTL ht;refine fu rfl t6 sL (by decide) ?_;refine fj rfl t6 s83 (by decide) ?_;refine fj rfl t6 s83 (by decide) ?_;refine fin H6 p5 _ b6 ((k6 p5 n5L).trans y5) n5 y6 ?_;obtain⟨r,e⟩:=two hbl.1;show ah++[loop.take 1++loop.drop 2]=_;rw[e];rfl
   .refine fu rfl ht2 sC (by decide) ?_;refine fu rfl ht2 sR (by decide) ?_;refine rD rfl ht2 sL rfl ?_;refine⟨_,rfl,.inl ⟨rfl,_,SqL.of hL2⟩,_,rfl,lit1,λp3 H3 h3 s3 y3=>?_⟩;have b3:=b2.same s3;refine⟨_,rfl,1,rfl,_,rfl,_,rfl,B,_,rfl,SqL.of (s3 _ _ hB2),λp4 H4 h4 s4 y4=>?_⟩;rw[Ik] at y4;have z3:H4 p3=some (.lst (cV φ [x])):=s4 _ _ y3;refine⟨p3,p4,_,_,rfl,rfl,z3,y4,(by rw[cJ,cJ,pN,aW];show 1+_<=_;lia),λp5 H5 h5 s5 y5=>?_⟩;rw[gv] at y5;have n5:=(b3.same s4).free (s4 _ _ (s3 _ _ hL2)) h5;have b5:=(b3.same s4).same s5;have hL5:=s5 _ _ (s4 _ _ (s3 _ _ hL2));refine⟨L,_,_,rfl,rfl,hL5,by lia,λH6 k6 y6=>?_⟩;have b6:=b5.wr k6;have n5L:p5≠L:=aF (ax hL n5);have t6:H6 t=some (.tup (V.str (txt [sgn (.sg 76)])::ltR (.sg 76))):=b6 _ _ nTL ht;refine fj rfl t6 s83 (by decide) ?_;refine fj rfl t6 s83 (by decide) ?_;exact fin H6 p5 _ b6 ((k6 p5 n5L).trans y5) n5 y6 rfl
   .refine fu rfl ht2 sC (by decide) ?_;refine fu rfl ht2 sR (by decide) ?_;refine fu rfl ht2 sL (by decide) ?_;refine fj rfl ht2 s83 (by decide) ?_;refine fj rfl ht2 s83 (by decide) ?_;exact q H2 va b2 hL2 (cw.move hpa λb o hb e=>b2 b o (inL b hb) e) λb hb=>.inl (cf _ hb)
  |sp j k=>
   have a1:atI (V.str (txt [sgn (.sp j k)])::ltR (.sp j k)) 1=some (V.int (j:Nat)):=rfl;have a2:atI (V.str (txt [sgn (.sp j k)])::ltR (.sp j k)) 2=some (V.int (k:Nat)):=rfl;refine fu rfl ht2 sC (by simp[sgn]) ?_;refine fu rfl ht2 sR (by simp[sgn]) ?_;refine fu rfl ht2 sL (by simp[sgn]) ?_;refine iR rfl ht2 s83 rfl ?_;refine⟨_,rfl,t,_,_,_,rfl,rfl,SqT.of ht2,a1,rfl,_,rfl,?_⟩;rw[jZ];simp only[aM] at hx;by_cases hj:j=0
   .subst hj;rw[K4 (show ((0:Nat):Int)=0 from rfl)];refine aJ ?_;rw[K3 rfl] at hx;by_cases hk:2<k/\k+1<loop.length
    .rw[K3 hk] at hx;refine⟨_,rfl,.inl ⟨rfl,_,SqL.of hL2⟩,_,rfl,lit1,λp3 H3 h3 s3 y3=>?_⟩;have b3:=b2.same s3;refine⟨_,rfl,_,rfl,t,_,_,_,rfl,rfl,SqT.of (s3 _ _ ht2),a2,_,rfl,B,_,rfl,SqL.of (s3 _ _ hB2),λp4 H4 h4 s4 y4=>?_⟩;rw[lX loop (k:Int) k rfl] at y4;have z3:H4 p3=some (.lst (cV φ [g1 loop])):=s4 _ _ y3;refine⟨p3,p4,_,_,rfl,rfl,z3,y4,(by rw[cJ,cJ,aW];show 1+_<=_;lia),λp5 H5 h5 s5 y5=>?_⟩;rw[gv] at y5;have n5:=(b3.same s4).free (s4 _ _ (s3 _ _ hL2)) h5;have b5:=(b3.same s4).same s5;have hL5:=s5 _ _ (s4 _ _ (s3 _ _ hL2));refine⟨L,_,_,rfl,rfl,hL5,by lia,λH6 k6 y6=>?_⟩;have b6:=b5.wr k6;have n5L:p5≠L:=aF (ax hL n5);have t6:=b6 _ _ nTL ht;have hB6:=b6 _ _ nBL hB;refine⟨_,rfl,.inl ⟨rfl,_,SqL.of y6⟩,_,rfl,lit1,λp7 H7 h7 s7 y7=>?_⟩;have b7:=b6.same s7;refine⟨_,rfl,1,rfl,_,rfl,t,_,_,_,rfl,rfl,SqT.of (s7 _ _ t6),a2,_,rfl,B,_,rfl,SqL.of (s7 _ _ hB6),λp8 H8 h8 s8 y8=>?_⟩;rw[Gf loop 1 (k:Int) 1 k rfl rfl] at y8;have z7:H8 p7=some (.lst (cV φ [x])):=s8 _ _ y7;refine⟨p7,p8,_,_,rfl,rfl,z7,y8,(by rw[cJ,cJ,aW,bG];show 1+_<=_;lia),λp9 H9 h9 s9 y9=>?_⟩;rw[gv] at y9;have hL8:=s8 _ _ (s7 _ _ y6);have n9:=(b7.same s8).free hL8 h9;have b9:=(b7.same s8).same s9;refine⟨L,_,_,rfl,rfl,s9 _ _ hL8,(by rw[ar,bg];lia),λHa ka ya=>?_⟩;have ba:=b9.wr ka;have n9L:p9≠L:=aF (ax hL n9);have ta:=ba _ _ nTL ht;refine iR rfl ta s83 rfl ?_;refine⟨_,rfl,t,_,_,_,rfl,rfl,SqT.of ta,a1,_,_,rfl,rfl,_,rfl,?_⟩;rw[K5 (by lia)];refine av ?_;have z5:Ha p5=some (.lst (cV φ ([g1 loop]++loop.drop k))):=(ka p5 n5L).trans (s9 _ _ (s8 _ _ (s7 _ _ ((k6 p5 n5L).trans y5))));have z9:Ha p9=some (.lst (cV φ ([x]++(loop.take k).drop 1))):=(ka p9 n9L).trans y9;refine q Ha _ ba ya ?_ ?_
     .have e:bK ah loop (.sp 0 k) x=ah++[loop.take 1++loop.drop k]++[x::(loop.take k).drop 1]:=by
       show ah++[loop.take 1++loop.drop k,x::(loop.take k).drop 1]=_;simp
      rw[e];have e1:loop.take 1=[g1 loop]:=by obtain⟨r,e⟩:=two hbl.1;rw[e];rfl
      rw[e1];exact cX (cX (cw.move hpa λb o hb e=>ba b o (inL b hb) e) (.cons ⟨p5,rfl,z5⟩ .nil)) (.cons ⟨p9,rfl,z9⟩ .nil)
     .intro b hb;rcases ay.mp hb with z|z
      .rcases rj n5 b z with z|z
       .exact .inl (cf _ z)
       .exact .inr z
      .have:b=p9:=by simpa using z
       rw[this];exact .inr n9
    .rw[K2 hk] at hx;cases hx
   .rw[K5 (by lia)];refine av ?_;rw[K2 hj] at hx;by_cases hk:j<=ah.length
    .rw[K3 hk] at hx;refine iR rfl ht2 s83 rfl ?_;refine⟨_,rfl,t,_,_,_,rfl,rfl,SqT.of ht2,a1,_,_,rfl,rfl,_,rfl,?_⟩;rw[K4 (by lia)];refine aJ ?_;have hi:ah.length-j<ah.length:=by lia
     have ho:ah[ah.length-j]?=some (ah.getD (ah.length-j) []):=by simp[List.getD,hi]
     have hbo:=hb _ (cf _ (a7 ho));obtain⟨v,hv,G,rfl,hG⟩:=jN hpa ho;have nGL:=inL G (a7 hv);have es:bK ah loop (.sp j k) x=ah.eraseIdx (ah.length-j)++[loop.take 1++(ah.getD (ah.length-j) []).drop k++(ah.getD (ah.length-j) []).take k++x::loop.drop 1]:=by unfold bK;dsimp only;rw[K2 hj]
     generalize ah.getD (ah.length-j) []=o at *;refine⟨_,rfl,t,_,_,_,rfl,rfl,SqT.of ht2,a2,?_⟩;have esq:seqIndex? ((va.length:Int)-(j:Int)) va.length=some (ah.length-j):=by
      refine (rm (n:=va.length) (i:=(va.length:Int)-(j:Int)) (j:=ah.length-j) ?_).1;unfold ixN;rw[K3 (by lia),K3 (by lia)]
      congr 1
      lia
     refine⟨_,rfl,.inl ⟨rfl,_,SqL.of hL2⟩,_,rfl,L,_,rfl,.inl (SqL.of hL2),_,rfl,t,_,_,_,rfl,rfl,SqT.of ht2,a1,_,_,rfl,rfl,L,_,_,ah.length-j,V.ref G,rfl,rfl,hL2,by lia,by lia,esq,hv,λH3 k3 y3=>?_⟩;have b3:=b2.wr k3;have t3:=b3 _ _ nTL ht;have hB3:=b3 _ _ nBL hB;have hG3:=b3 _ _ nGL hG;refine⟨_,rfl,.inl ⟨rfl,_,SqL.of y3⟩,_,rfl,lit1,λp4 H4 h4 s4 y4=>?_⟩;refine⟨_,rfl,_,rfl,_,rfl,G,_,rfl,SqL.of (s4 _ _ hG3),λp5 H5 h5 s5 y5=>?_⟩;rw[lX o (k:Int) k rfl] at y5;have z4:H5 p4=some (.lst (cV φ [g1 loop])):=s5 _ _ y4;refine⟨p4,p5,_,_,rfl,rfl,z4,y5,(by rw[cJ,cJ,aW];show 1+_<=_;lia),λp6 H6 h6 s6 y6=>?_⟩;rw[gv] at y6;have q36:=(s4.trans s5).trans s6;refine⟨_,rfl,_,rfl,_,rfl,G,_,rfl,SqL.of (q36 _ _ hG3),λp7 H7 h7 s7 y7=>?_⟩;rw[su o (k:Int) k rfl] at y7;refine⟨p6,p7,_,_,rfl,rfl,s7 _ _ y6,y7,(by rw[cJ,cJ,ar,aW,bG];show 1+_+_<=_;lia),λp8 H8 h8 s8 y8=>?_⟩;rw[gv] at y8;refine⟨_,rfl,lit1,λp9 H9 h9 s9 y9=>?_⟩;have z9:H9 p9=some (.lst (cV φ [x])):=y9;refine⟨p8,p9,_,_,rfl,rfl,s9 _ _ y8,z9,(by rw[cJ,cJ,ar,ar,aW,bG];show 1+_+_+1<=_;lia),λpa Ha ga sa ya=>?_⟩;rw[gv] at ya;have q3a:=(((q36.trans s7).trans s8).trans s9).trans sa;refine⟨_,rfl,1,rfl,B,_,rfl,SqL.of (q3a _ _ hB3),λpb Hb gb sb yb=>?_⟩;rw[lX loop 1 1 rfl] at yb;refine⟨pa,pb,_,_,rfl,rfl,sb _ _ ya,yb,(by rw[cJ,cJ,ar,ar,ar,aW,bG,aW];show 1+_+_+1+_<=_;lia),λpc Hc gc sc yc=>?_⟩;rw[gv] at yc;have q3b:=q3a.trans sb;have nc:=(b3.same q3b).free (q3b _ _ y3) gc;have bc:=(b3.same q3b).same sc;refine⟨L,_,_,rfl,rfl,(q3b.trans sc) _ _ y3,(by have:=List.length_eraseIdx_le va (ah.length-j);lia),λHd kd yd=>?_⟩;have bd:=bc.wr kd;have ncL:pc≠L:=aF (ax hL nc);refine q Hd _ bd yd ?_ ?_
     .rw[es];refine cX ?_ (.cons ⟨pc,rfl,?_⟩ .nil)
      .have h:=cw.move hpa λb o hb e=>bd b o (inL b hb) e;rw[yV,yV];exact cX (pr_take _ h) (pr_drop _ h)
      .have e:=(kd pc ncL).trans yc;have e1:loop.take 1=[g1 loop]:=by
        obtain⟨r,e⟩:=two hbl.1;rw[e];rfl
       have e2:[g1 loop]++o.drop k++o.take k++[x]++loop.drop 1=loop.take 1++o.drop k++o.take k++x::loop.drop 1:=by rw[e1];simp
       rw[e2] at e;exact e
     .intro b hb;rcases rj nc b hb with z|z
      .exact .inl (cf _ (IU z))
      .exact .inr z
    .rw[K2 hk] at hx;cases hx
end
end K71
end
section
namespace K71
open PySem L2 K51 K31 K15
structure Use (P:Program) (w:World) (K:W.Frag) (mg:Str->Option Value) (base:Heap) (n:Nat) (x:Str) (ps:List Str) (sp:Sp) (f:Addr) (fd:FuncData):Prop where
 g:FnOk P w K mg base CX0 n f fd ps sp
 b:Binds K fd ps []
 m:mg x=some (.ref f)
 k:W.keepIn K (.ref f)=true
theorem Ee (φ:Nat->Int) (l:List Nat):(cV φ l).all gz=true:=by rw[iB];intro v hv;obtain⟨n,_,rfl⟩:=aw.mp hv;rfl
theorem FS {φ:Nat->Int} (ij:Inj φ) (c:Nat) (l:List Nat):inV (V.int (φ c)) (cV φ l)=decide (c∈l):=by
 unfold inV cV;rw[pG,dn,decide_eq_true_eq,pE];constructor
 .rintro⟨x,hx,e⟩;have:φ x=φ c:=by simpa [eqV] using e
  rw[<-ij this];exact hx
 .intro h;exact⟨c,h,by simp[eqV]⟩
theorem decC {φ:Nat->Int} (ij:Inj φ) (a b:Nat):decide (V.int (φ a)=V.int (φ b))=decide (a=b):=by rw[dn,decide_eq_true_eq,decide_eq_true_eq];exact⟨λz=>by injection z with z;exact ij z,λz=>by rw[z]⟩
structure Rot (E:Nat->Nat->Nat->Prop) (W:Side->Prop) (a x z:Nat) (rs:List Nat):Prop where
 b:rs[0]?=some a
 e:rs[rs.length-1]?=some z
 st:∀i p q,rs[i]?=some p->rs[i+1]?=some q->E p x q
 no:∀i p,i+1<rs.length->rs[i]?=some p->¬W (x,p)
 ye:W (x,z)
def Which (W:Side->Prop) (A:Nat->Nat->Nat->Nat->Prop) (a b x z:Nat) (lt:Lt):Prop:=
 lt=.sg 69/\W (b,x)/\z=a\/lt=.sg 82/\W (b,x)/\z≠a\/lt=.sg 76/\¬W (b,x)/\z=a\/∃j k,lt=.sp j k/\¬W (b,x)/\z≠a/\A j k x z
def Be (φ:Nat->Int) (vs:List V) (H:Hp) (Q:VK) (L D C:Addr) (vl:List V) (ah:Lps) (a b:Nat) (t:List Nat) (ts:List Tri) (cs:List Nat) (x z:Nat) (rs:List Nat):Prop:=
 vs=[.ref L,.ref D,.ref C,.int (φ x)]/\H L=some (.lst vl)/\cw φ H vl (ah++[a::b::t])/\((ah++[a::b::t]).map List.length).sum<=1000/\H D=some (.dT ((ents ts).map (enC φ)))/\((ents ts).map (·.1)).Nodup/\H C=some (.lst (cV φ cs))/\
 (x∈cs->Rot (En ts) (λs=>s∈wl (ah++[a::b::t])) a x z rs)/\
 ∀t' lt H',H t'=none->Same H H'->H' t'=some (.tup (ltV lt))->(x∉cs/\lt=.sg 67\/x∈cs/\Which (λs=>s∈wl (ah++[a::b::t])) (At (ah++[a::b::t])) a b x z lt)->Q (.ref t') H'
def qA (φ:Nat->Int):Sp:=λvs H Q _=>Exists (Ex13 (Be φ vs H Q))
section
variable {φ:Nat->Int}
theorem ia:bS ["_law_loops","_law_thirds_here","_law_come","_law_x","_law_a","_law_b","_law_wanted_here","_law_q","_law_j","_law_k"] ["_law_loops","_law_thirds_here","_law_come","_law_x"] (bu kU):=by walk_at"sc"
theorem Bn (ij:Inj φ) {f f1:Addr} {fd d1:FuncData} (U:Fun K "_law_letter" "_law_letter" kU f fd)
  (GW:Use P w K mg base 1 "_law_wanted" ["_law_loops"] (nU φ) f1 d1) :
  FnOk P w K mg base CX0 2 f fd ["_law_loops","_law_thirds_here","_law_come","_law_x"] (qA φ):=by
 refine U.ok ia (λvs H Q E h=>?_) (λcdv A outer s H vs Q E hr h=>?_)
 .obtain⟨L,D,C,vl,ah,a,b,t,ts,cs,x,z,rs,rfl,_⟩:=h;rfl
 .obtain⟨L,D,C,vl,ah,a,b,t,ts,cs,x,z,rs,rfl,hL,hp,hsum,hD,hnd,hC,hrot,q⟩:=h;have hu:=fB hr;refine⟨_,ak (eV (cS cT (aq aI (pv 0) (dA dz ag) (λ_ _=>rfl)) dq (ck ag)) (oN rfl (bB (aK (i:=4) ia.nd rfl (.inl rfl)) (bB (aK (i:=5) ia.nd rfl (.inl rfl)) dt))))
   (ak (bL (aL iL (pv 3) (pv 2) rfl) (au (bj (aN (aa b_ ae)))) bJ)
   (ak (aA (i:=6) ia.nd rfl (.inl rfl) (aP GW.g hr rfl GW.m GW.k GW.b .nil pass0 (aa (pv 0) ae)))
   (ak (aA (i:=7) ia.nd rfl (.inl rfl) (pv 4))
   (ak (ib cD (ml (qm hu (aN (aa (pv 3) (aa (pv 7) ae))) (pv 6))) (au (aA (i:=7) ia.nd rfl (.inl rfl) (gN hu (pv 1) (aN (aa (pv 7) (aa (pv 3) ae))) (λ_ _=>rfl)))))
   (ak (bL (PW.pt (eG (ml (mn hu (aN (aa (pv 5) (aa (pv 3) ae))) (pv 6))) (eM (aL du (pv 7) (pv 4) (nomark _))))) (au (bj (aN (aa b_ ae)))) bJ)
   (ak (bL (ml (mn hu (aN (aa (pv 5) (aa (pv 3) ae))) (pv 6))) (au (bj (aN (aa b_ ae)))) bJ)
   (ak (bL (aL du (pv 7) (pv 4) (nomark _)) (au (bj (aN (aa b_ ae)))) bJ)
   (ak (eV (gN hu (pv 6) (aN (aa (pv 3) (aa (pv 7) ae))) (λ_ _=>rfl)) (dX rfl (bB (aK (i:=8) ia.nd rfl (.inl rfl)) (bB (aK (i:=9) ia.nd rfl (.inl rfl)) dt))))
   (au (bj (aN (aa b_ (aa (pv 8) (aa (pv 9) ae)))))))))))))),?_⟩
  have hline:=line5000;obtain⟨va,v,rfl,hpa,B,rfl,hB⟩:=jC hp;refine⟨_,rfl,_,rfl,L,_,_,_,rfl,rfl,SqL.of hL,gQ (x:=V.ref B) (by simp),2,rfl,B,_,rfl,SqL.of hB,λp1 H1 h1 s1 y1=>?_⟩;rw[su _ 2 2 rfl] at y1;have y1:H1 p1=some (.lst (cV φ [a,b])):=y1;refine⟨p1,_,rfl,SqL.of y1,rfl,_,_,rfl,_,_,rfl,rfl,?_⟩;refine⟨_,rfl,_,rfl,C,_,rfl,.inl (SqL.of (s1 _ _ hC)),rfl,Ee _ _,_,rfl,?_⟩;show if (if true=true then !inV (V.int (φ x)) (cV φ cs) else _)=true then _ else _
  rw[K3 rfl,FS ij];by_cases hx:x∈cs
  .rw[K4 hx];refine av ?_;refine⟨_,rfl,L,_,_,rfl,s1 _ _ hL,cw.same s1 hp,hsum,λW kw H2 hW0 s2 yW wd=>?_⟩;have R:=hrot hx;have ylen:0<rs.length:=(aS.mp R.b).1;have hD2:=s2 _ _ (s1 _ _ hD);refine⟨_,rfl,?_⟩;refine kE (λZ H'=>Z=[some (V.ref L),some (.ref D),some (.ref C),some (.int (φ x)),some (.int (φ a)),some (.int (φ b)),some (.ref W),some (.int (φ z)),none,none]/\Same H2 H') (λNX hOut=>?_) ?_
   .refine⟨λm Z H'=>∃i p,Z=[some (V.ref L),some (.ref D),some (.ref C),some (.int (φ x)),some (.int (φ a)),some (.int (φ b)),some (.ref W),some (.int (φ p)),none,none]/\m=rs.length-i/\i<rs.length/\rs[i]?=some p/\Same H2 H',⟨_,0,a,rfl,rfl,ylen,R.b,.refl _⟩,?_⟩;rintro m Z H' ⟨i,p,rfl,rfl,hi,hp',sm⟩;refine⟨_,rfl,_,rfl,lit2,λk1 H3 g1 s3 y3=>?_⟩;have sm3:=sm.trans s3;refine⟨_,rfl,W,_,rfl,DGet.t (k:=kc φ x p) (sm3 _ _ yW) y3,_,rfl,?_⟩;by_cases hl:i+1<rs.length
    .have hno:valV kw (kc φ x p)=none:=by
      cases e:valV kw (kc φ x p) with
      |none=>rfl
      |some v=>exact (R.no i p hl hp' (wd.yes x p v e).1).elim
     rw[hno];have hq:rs[i+1]?=some (rs.getD (i+1) 0):=by simp[List.getD,hl]
     generalize rs.getD (i+1) 0=p' at hq;have en:=R.st i p p' hp' hq;refine aJ ⟨_,λZ' H' h=>h,?_⟩;refine⟨_,rfl,_,rfl,_,rfl,lit2,λk2 H4 g2 s4 y4=>?_⟩;have sm4:=sm3.trans s4;refine⟨D,V.int (φ p'),rfl,uG ij hnd en ▸ DGet.t (k:=kc φ p x) (sm4 _ _ hD2) y4,?_⟩;exact⟨_,by lia,i+1,p',rfl,rfl,hl,hq,sm4⟩
    .have ei:i=rs.length-1:=by lia
     have ez:p=z:=by have:=R.e;rw[<-ei,hp'] at this;exact cH this
     subst ez;cases e:valV kw (kc φ x p) with
     |none=>exact (wd.no x p e R.ye).elim
     |some v=>exact av (hOut _ _ ⟨rfl,sm3⟩)
   rintro Z H' ⟨rfl,sm⟩;have s02:=s1.trans s2;refine⟨_,rfl,_,rfl,lit2,λk5 H5 g5 s5 y5=>?_⟩;have sm5:=sm.trans s5;refine⟨_,rfl,W,_,rfl,DGet.t (k:=kc φ b x) (sm5 _ _ yW) y5,_,rfl,?_⟩;cases e:valV kw (kc φ b x) with
   |some v=>
    have hw:=(wd.yes b x v e).1;refine aJ ⟨_,rfl,_,rfl,rfl,_,rfl,?_⟩;show if decide (V.int (φ z)=V.int (φ a))=true then _ else _
    rw[decC ij];by_cases hz:z=a
    .rw[K4 hz];refine aJ ⟨lit1,λp6 H6 h6 s6 y6=>?_⟩;exact q p6 (.sg 69) H6 ((s02.trans sm5).free h6) ((s02.trans sm5).trans s6) (y6.trans ltE) (.inr ⟨hx,.inl ⟨rfl,hw,hz⟩⟩)
    .rw[K5 hz];refine av ?_;refine⟨_,rfl,_,rfl,lit2,λk6 H6 g6 s6 y6=>?_⟩;have sm6:=sm5.trans s6;refine⟨_,rfl,W,_,rfl,DGet.t (k:=kc φ b x) (sm6 _ _ yW) y6,_,rfl,?_⟩;rw[e];refine aJ ⟨lit1,λp7 H7 h7 s7 y7=>?_⟩;exact q p7 (.sg 82) H7 ((s02.trans sm6).free h7) ((s02.trans sm6).trans s7) (y7.trans K51.ltR) (.inr ⟨hx,.inr (.inl ⟨rfl,hw,hz⟩)⟩)
   |none=>
    have hw:=wd.no b x e;refine av (av ?_);refine⟨_,rfl,_,rfl,lit2,λk6 H6 g6 s6 y6=>?_⟩;have sm6:=sm5.trans s6;refine⟨_,rfl,W,_,rfl,DGet.t (k:=kc φ b x) (sm6 _ _ yW) y6,_,rfl,?_⟩;rw[e];refine av ⟨_,rfl,_,rfl,rfl,_,rfl,?_⟩;show if decide (V.int (φ z)=V.int (φ a))=true then _ else _
    rw[decC ij];by_cases hz:z=a
    .rw[K4 hz];refine aJ ⟨lit1,λp7 H7 h7 s7 y7=>?_⟩;exact q p7 (.sg 76) H7 ((s02.trans sm6).free h7) ((s02.trans sm6).trans s7) (y7.trans ltL) (.inr ⟨hx,.inr (.inr (.inl ⟨rfl,hw,hz⟩))⟩)
    .rw[K5 hz];refine av ?_;refine⟨_,rfl,_,rfl,_,rfl,lit2,λk7 H7 g7 s7 y7=>?_⟩;have sm7:=sm6.trans s7;cases e':valV kw (kc φ x z) with
     |none=>exact (wd.no x z e' R.ye).elim
     |some v=>
      obtain⟨_,tt,j,k,rfl,ht,hA⟩:=wd.yes x z v e';refine⟨W,V.ref tt,rfl,e' ▸ DGet.t (k:=kc φ x z) (sm7 _ _ yW) y7,tt,_,rfl,SqT.of (sm7 _ _ ht),rfl,_,_,rfl,_,_,rfl,rfl,?_⟩;refine⟨_,rfl,_,rfl,lit3,λp8 H8 h8 s8 y8=>?_⟩;exact q p8 (.sp j k) H8 ((s02.trans sm7).free h8) ((s02.trans sm7).trans s8) (y8.trans (by rw[show (Str.ofString "S")=txt [83] from s83];rfl)) (.inr ⟨hx,.inr (.inr (.inr ⟨j,k,rfl,hw,hz,hA⟩))⟩)
  .rw[K5 hx];refine aJ ?_;refine⟨lit1,λp2 H2 h2 s2 y2=>?_⟩;exact q p2 (.sg 67) H2 (s1.free h2) (s1.trans s2) (y2.trans ltC) (.inl ⟨hx,rfl⟩)
end
end K71
end
section
namespace K71
open PySem L2 K51 K31 K15
theorem D6 {ps:List Nat} {p:Nat} (h:ps[ps.length-1]?=some p):atI (nV ps) (-1)=some (V.int (p:Int)):=by have hl:=(aS.mp h).1;unfold atI ixN;rw[bO,K2 (by decide),K3 (by lia)];show (nV ps)[_]?=_;rw[show (-1+(ps.length:Int)).toNat=ps.length-1 by lia];exact dY h
theorem xJ {ts:List Tri} {a b:Nat}:(a,b)∈(ents ts).map (·.1)↔∃c,En ts a b c:=by
 constructor
 .intro h;obtain⟨⟨⟨x,y⟩,c⟩,h1,h2⟩:=aw.mp h;cases h2;exact⟨c,h1⟩
 .rintro⟨c,h⟩;exact aw.mpr ⟨_,h,rfl⟩
theorem qZ {ts:List Tri} {a b:Nat}:a_ (En ts) a b↔Rim ts (a,b):=by unfold a_ Rim;rw[xJ,xJ]
theorem D0 {R:Nat->Nat->Prop} (one:∀a b c,R a b->R a c->b=c) {l:List (Nat×Nat)} (nd:l.Nodup) (h:∀p∈l,R p.1 p.2):(l.map (·.1)).Nodup:=by
 induction l with
 |nil=>exact j7
 |cons x l ih=>
  rw[aV] at nd;rw[aB,aV];refine⟨λz=>?_,ih nd.2 λp hp=>h p (aY _ hp)⟩;obtain⟨y,hy,e⟩:=aw.mp z;have h1:=h x fE;have h2:=h y (aY _ hy);rw[e] at h2;have:y=x:=nE e (one _ _ _ h2 h1);rw[this] at hy;exact nd.1 hy
theorem uK {ts:List Tri} (g:Good ts) (o:∀c,Co ts c->One (En ts) c):(∀a b c,a_ (En ts) a b->a_ (En ts) a c->b=c)/\(∀a b c,a_ (En ts) a c->a_ (En ts) b c->a=b)/\(∀a b,a_ (En ts) a b->∃c,a_ (En ts) b c):=by have co1:∀{a b},a_ (En ts) a b->Co ts a:=λ⟨⟨q,hq⟩,_⟩=>⟨_,q,hq⟩;have co2:∀{a b},a_ (En ts) a b->Co ts b:=λ⟨⟨q,hq⟩,_⟩=>⟨q,_,g.sk.rot hq⟩;exact⟨λa b c h1 h2=>qY g.sk (o a (co1 h1)) h1 h2,λa b c h1 h2=>oy g.sk (o c (co2 h1)) h1 h2,λa b h=>vy g.sk (o b (co2 h)) h⟩
def NewL (H H':Hp) (T:Addr) (v:V) (l:List Nat):Prop:=∃a,v=.ref a/\H a=none/\a≠T/\H' a=some (.lst (nV l))
theorem w8 {ls:List (List Nat)} (h:∀l∈ls,l≠[]):ls.length<=ls.flatten.length:=by
 induction ls with
 |nil=>simp
 |cons l ls ih=>
  have h1:=ih λm hm=>h m (aY _ hm);have h2:0<l.length:=iE.mpr (h l fE);rw[y_,ar,aZ];lia
theorem Ed {ls:List (List Nat)} {l:List Nat} (h:l∈ls):l.length<=ls.flatten.length:=by
 induction ls with
 |nil=>cases h
 |cons m ls ih=>
  rw[y_,ar];rcases af.mp h with rfl|h
  .lia
  .have:=ih h;lia
def nmV (x:Nat×Nat):Key×V:=(Sum.inl (x.1:Int),V.int (x.2:Int))
theorem EE {nm:List (Nat×Nat)} {c:Nat} (h:c∉nm.map (·.1)):valV (nm.map nmV) (Sum.inl (c:Int):Key)=none:=by
 induction nm with
 |nil=>simp[valV]
 |cons x nm ih=>
  rw[aB,af,not_or] at h;rw[aB,dC (λz=>h.1 ?_)]
  .exact ih h.2
  .have:(x.1:Int)=(c:Int):=Sum.inl.inj z;lia
theorem Fm {nm:List (Nat×Nat)} {c x:Nat} (h:c∉nm.map (·.1)):cP (nm.map nmV) (Sum.inl (c:Int):Key) (V.int (x:Int))=(nm++[(c,x)]).map nmV:=by rw[qD _ (EE h),bI];rfl
def nmF (nm:List (Nat×Nat)) (c:Nat):Nat:=(nm.lookup c).getD 0
theorem xF {nm:List (Nat×Nat)} {c:Nat} (h:c∈nm.map (·.1)):∃k x:Nat,nm[k]?=some (c,x)/\valV (nm.map nmV) (Sum.inl (c:Int):Key)=some (V.int (x:Int))/\nmF nm c=x:=by
 induction nm with
 |nil=>cases h
 |cons y nm ih=>
  obtain⟨c',x⟩:=y;by_cases e:c'=c
  .subst e;exact⟨0,x,rfl,dN (p:=nmV (c',x)) (r:=nm.map nmV) rfl,by simp[nmF]⟩
  .rw[aB] at h;obtain⟨k,x',h1,h2,h3⟩:=ih ((af.mp h).resolve_left λz=>e z.symm);refine⟨k+1,x',h1,?_,?_⟩
   .rw[aB,dC (λz=>e ?_)]
    .exact h2
    .have:(c':Int)=(c:Int):=Sum.inl.inj z;lia
   .have:(c==c')=false:=by simpa using λz:c=c'=>e z.symm
    unfold nmF at h3 |-;rw[iF,this];exact h3
theorem By {α:Type} (l:List α) (f:α->Bool) {x:α} (hx:x∈l) (hf:f x=false):(l.filter f).length<l.length:=by
 induction l with
 |nil=>cases hx
 |cons a l ih=>
  rw[iC];have:=iD f l;rcases af.mp hx with e|h
  .subst e;rw[K2 (by rw[hf];decide),aZ];lia
  .have:=ih h
   split<;>simp only[aZ]<;>lia
theorem DZ (l:List (Nat×Nat)):(l.map nmV).map (λp=>kV p.1)=nV (l.map (·.1)):=by rw[c9];unfold nV;rw[c9];rfl
theorem Ej (l:List (Nat×Nat)) (c:Nat):i_ (l.map nmV) (Sum.inl (c:Int):Key)=(l.filter λx=>decide (x.1≠c)).map nmV:=by
 unfold i_;rw[List.filter_map]
 congr 1
 apply IC;intro x _;show decide ((Sum.inl (x.1:Int):Key)≠Sum.inl (c:Int))=decide (x.1≠c);by_cases h:x.1=c
 .simp[h]
 .have z:¬(Sum.inl (x.1:Int):Key)=Sum.inl (c:Int):=λz=>h (by have:(x.1:Int)=(c:Int):=Sum.inl.inj z;lia);simp only[ne_eq,h,z,not_false_eq_true]
theorem wB:∀(rs l:List (Nat×Nat)),((l++rs).map (·.1)).Nodup->ip (l.map nmV) (rs.map nmV)=(l++rs).map nmV
 | [],l,_=>by rw[cZ];rfl
 |x::rs,l,nd=>by
  have hx:x.1∉l.map (·.1):=λz=>by
   rw[bI,bZ] at nd;exact nd.2.2 _ z _ (by simp) rfl
  show ip (cP (l.map nmV) (Sum.inl (x.1:Int)) (V.int (x.2:Int))) (rs.map nmV)=_;rw[Fm hx,wB rs (l++[(x.1,x.2)]) (by rw[bH];exact nd),bH];rfl
theorem wt:∀{vs:List V} {rs:List (Nat×Nat)},SdsAt H vs rs->gT H vs (rs.map nmV)
 |_,_,.nil=>.nil
 |_,_,.cons ⟨a,e1,e2⟩ t=>.cons ⟨a,e1,e2⟩ (wt t)
def cI (l:List Nat):List Int:=l.map λn:Nat=>(n:Int)
theorem cI_V (l:List Nat):(cI l).map V.int=nV l:=by unfold cI nV;rw[c9];rfl
theorem vJ {K:W.Frag}:∀{vs:List V} {ls:List (List Nat)},eI H vs ls->Lsts K H vs (ls.map cI)
 |_,_,.nil=>.nil
 |_,_,.cons ⟨a,e1,e2⟩ t=>.cons ⟨a,e1,by rw[cI_V];exact e2⟩ (vJ (K:=K) t)
theorem Bt {l m:List Nat} {x y:Nat} (h1:l[0]?=some x) (h2:m[0]?=some y) (h:x<y):HT.lexLt (cI l) (cI m)=true:=by
 cases l with
 |nil=>cases h1
 |cons a l=>cases m with
  |nil=>cases h2
  |cons b m=>
   cases h1;cases h2;show HT.lexLt ((x:Int)::cI l) ((y:Int)::cI m)=true;rw[HT.lexLt_cons,K2 (by lia),K4 (by lia)]
theorem D7 {ks:List (List Int)} {ix:List Nat} (pm:ix.Perm (List.range ks.length)) (hk:ks.Pairwise λa b=>HT.lexLt a b=true) (pw:(ix.map λi=>ks.getD i []).Pairwise (λa b=>HT.lexLt b a=false)):ix=List.range ks.length:=by
 rw[fX] at pw;have hb:∀i∈ix,i<ks.length:=λi hi=>gF.mp (pm.mem_iff.mp hi);have h1:ix.Pairwise (·<=·):=pC (λ{i j} hi hj h=>by
  refine zi λlt=>?_;have:=zh.mp hk j i (hb j hj) (hb i hi) lt;simp only[List.getD,aX (hb i hi),aX (hb j hj),zt] at h;rw[this] at h;cases h) pw
 exact List.Perm.eq_of_pairwise (λa b _ _ h1 h2=>Nat.le_antisymm h1 h2) h1 (List.pairwise_le_range) pm
def B2 (vs:List V) (H:Hp) (Q:VK) (T:Addr) (vt:List V) (ts:List Tri):Prop:=vs=[.ref T]/\H T=some (.lst vt)/\bh H vt ts/\ts.length<=200/\Good ts/\(∀c,Co ts c->One (En ts) c)/\
 ∀p vs ls H',H p=none->Same H H'->H' p=some (.lst vs)->eI H' vs ls->Rims (a_ (En ts)) ls->Q (.ref p) H'
def wk:Sp:=λvs H Q _=>Exists (Ex3 (B2 vs H Q))
theorem BH:bootBuiltins "min" = some (.builtin "min"):=by decide +kernel
section
theorem lB:bS ["_law_triples","_law_ahead","_law_found","_law_rim","_law_corner"] ["_law_triples"] (bu ma):=by walk_at"sc"
theorem Cz {f f1:Addr} {fd d1:FuncData} (U:Fun K "_law_rims" "_law_rims" ma f fd) (mS:mg "sorted" = none) (mD:mg "dict" = none) (mN:mg "min" = none)
  (GR:Use P w K mg base 2 "_law_rim_sides" ["_law_triples"] rX f1 d1) :
  FnOk P w K mg base CX0 3 f fd ["_law_triples"] wk:=by
 refine U.ok lB (λvs H Q E h=>?_) (λcdv A outer s H vs Q E hr h=>?_)
 .obtain⟨T,vt,ts,rfl,_⟩:=h;rfl
 .obtain⟨T,vt,ts,rfl,hT,tr,hl,g,hone,q⟩:=h;have hu:=fB hr;have hline:=line5000;refine⟨_,ak (aA (i:=1) lB.nd rfl (.inl rfl) (ff (Ah hr.hd) (by rfl) mD J9 (aa (aP GR.g hr rfl GR.m GR.k GR.b .nil pass0 (aa (pv 0) ae)) ae)))
   (ak (aA (i:=2) lB.nd rfl (.inl rfl) (br ae))
   (ak (ib cD (aL (Fv hr.units0) (pv 1) vB (nomark _))
    (ak (aA (i:=3) lB.nd rfl (.inl rfl) (br (aa (a9 (Ag rfl) (by rfl) mN BH (aa (pv 1) ae)) ae)))
    (ak (ib cD (aL rZ (gN hu (pv 1) (aq aI (pv 3) (dA dz ag) (λ_ _=>rfl)) (λ_ _=>rfl)) (aq aI (pv 3) ag (λ_ _=>rfl)) (nomark _))
     (au (cy (cK cM da de cN (pv 3) (aa (gN hu (pv 1) (aq aI (pv 3) (dA dz ag) (λ_ _=>rfl)) (λ_ _=>rfl)) ae)))))
    (ak (dh cD rfl (dr (pv 3)) (aK (i:=4) lB.nd rfl (.inl rfl)) (au (cy (Cj (pv 1) (pv 4) ⟨rfl,rfl,rfl,rfl⟩))))
    (au (cy (cK cM da de cN (pv 2) (aa (pv 3) ae))))))))
   (au (bj (a9 (z8 (zk (tP (show 2<=64 by decide) _) hr.units)) (by rfl) mS kj (aa (pv 2) ae)))))),?_⟩
  obtain⟨rone,rinj,rgo⟩:=uK g hone;refine⟨_,rfl,T,vt,ts,rfl,hT,tr,hl,g.nd,λr zs rs H1 hr0 s1 y1 sd hrs lrs ⟨ndr,allr⟩=>?_⟩;have kyn:(rs.map (·.1)).Nodup:=D0 rone ndr λp hp=>qZ.mpr (hrs p hp);have memr:∀x:Nat×Nat,x∈rs↔a_ (En ts) x.1 x.2:=λx=>⟨λh=>qZ.mpr (hrs x h),λh=>allr x (qZ.mp h)⟩;refine⟨r,zs,_,rfl,y1,wt sd,by rw[aQ];lia,λA' hA=>?_⟩;have pa0:ip [] (rs.map nmV)=rs.map nmV:=wB rs [] kyn;rw[pa0];walk_at"H1 A' hA H2 s2 y2";refine⟨by decide,λF H3 hF s3 y3=>?_⟩;have y23:=s3 _ _ y2;have hAF:A'≠F:=ax y2 hF;have s03:=(s1.trans s2).trans s3;have hF0:H F=none:=(s1.trans s2).free hF;have hA0:H A'=none:=s1.free hA;refine⟨λm Z H'=>∃o3 o4 vs ls lf,Z=[some (.ref T),some (.ref A'),some (.ref F),o3,o4]/\m=lf.length/\Same H H'/\H' A'=some (.dK (lf.map nmV))/\H' F=some (.lst vs)/\Paired (NewL H H' F) vs ls/\ft (a_ (En ts)) ls/\
    (∀x:Nat×Nat,x∈lf↔a_ (En ts) x.1 x.2/\x.1∉ls.flatten)/\(lf.map (·.1)).Nodup/\lf.length<=600/\(∀m∈ls,∀c,m[0]?=some c->∀p∈lf.map (·.1),c<p),
   ⟨_,none,none,[],[],rs,rfl,rfl,s03,y23,y3,.nil,ft.nil,λx=>by rw[memr x];simp,kyn,lrs,by simp⟩,?_⟩
  rintro m Z H' ⟨o3,o4,vs',ls,lf,rfl,rfl,sm,hA',hF',pr,ru,mem,nd,llf,low⟩;refine⟨_,rfl,λe H4 he s4 y4=>?_⟩;refine⟨A',e,_,rfl,rfl,.inl (s4 _ _ hA'),.inl y4,_,rfl,?_⟩;have lls:ls.length<=600:=by
   have h1:=w8 λm hm=>(ru.cyc m hm).ne;have h2:=n8 ru.nd (m:=rs.map (·.1)) λz hz=>by
    obtain⟨q',hq'⟩:=ru.in hz;exact aw.mpr ⟨(z,q'),(memr _).mpr hq',rfl⟩
   rw[aQ] at h2;lia
  cases hlf:lf with
  |nil=>
   refine av ⟨_,rfl,F,vs',ls.map cI,rfl,SqL.of (s4 _ _ hF'),vJ (Paired.imp' (λ_ _ ⟨a,e1,_,_,e4⟩=>⟨a,e1,s4 _ _ e4⟩) pr),by rw[aU pr];lia,λp ix hp pm pw=>?_⟩;have rims:Rims (a_ (En ts)) ls:=ru.done λp ⟨q',hp⟩=>sY λz=>by
    have:(p,q')∈lf:=(mem (p,q')).mpr ⟨hp,λh=>z (jg.mp h)⟩;rw[hlf] at this;cases this
   have er:ix=List.range (ls.map cI).length:=D7 (by rw[aQ,<-aU pr];exact pm) (by
    rw[fX];refine pC (λ{l m} hl hm h=>?_) ru.rise;obtain⟨x,hx,_⟩:=(ru.cyc l hl).toPath.begin;obtain⟨y,hy,_⟩:=(ru.cyc m hm).toPath.begin;exact Bt hx hy (h x y hx hy)) pw
   have ev:(ix.map λi=>vs'.getD i .non)=vs':=by rw[er,aQ,<-aU pr];exact AS vs'
   rw[ev];walk_at"H4 p hp H5 s5 y5";have s45:=s4.trans s5;exact q p vs' ls H5 ((sm.trans s4).free hp) (sm.trans s45) y5 (Paired.imp' (λ_ _ ⟨a,e1,_,_,e4⟩=>⟨a,e1,s45 _ _ e4⟩) pr) rims
  |cons x0 lf0=>
   have hne:lf≠[]:=by rw[hlf];simp
   rw[<-hlf];clear hlf;rw[show (!(lf.map nmV).isEmpty)=true by cases lf with
    |nil=>exact absurd rfl hne
    |cons a b=>rfl]
   have hA4:=s4 _ _ hA';have hF4:=s4 _ _ hF';refine aJ ⟨λZ' H''=>∃o3 o4 vs ls lf',Z'=[some (.ref T),some (.ref A'),some (.ref F),o3,o4]/\lf'.length<lf.length/\Same H H''/\H'' A'=some (.dK (lf'.map nmV))/\H'' F=some (.lst vs)/\Paired (NewL H H'' F) vs ls/\ft (a_ (En ts)) ls/\
     (∀x:Nat×Nat,x∈lf'↔a_ (En ts) x.1 x.2/\x.1∉ls.flatten)/\(lf'.map (·.1)).Nodup/\lf'.length<=600/\(∀m∈ls,∀c,m[0]?=some c->∀p∈lf'.map (·.1),c<p),
    λZ' H'' ⟨o3,o4,vs,ls,lf',e,hlt,r⟩=>⟨_,hlt,o3,o4,vs,ls,lf',e,rfl,r⟩,?_⟩
   refine⟨_,rfl,A',_,cI (lf.map (·.1)),rfl,.inl hA4,by rw[DZ,cI_V],by simpa [cI] using hne,λmi hmi hmin=>⟨lit1,λr3 H5 hr3 s5 y5=>?_⟩⟩;obtain⟨c,hc,rfl⟩:=aw.mp hmi;have hcmin:∀p∈lf.map (·.1),c<=p:=λp hp=>by
    have:=hmin (p:Int) (aw.mpr ⟨p,hp,rfl⟩);lia
   have key:∀p,p∈lf.map (·.1)↔(∃q,a_ (En ts) p q)/\p∉ls.flatten:=λp=>by
    constructor
    .intro h;obtain⟨⟨a,b⟩,h1,rfl⟩:=aw.mp h;exact⟨⟨b,((mem _).mp h1).1⟩,((mem _).mp h1).2⟩
    .rintro⟨⟨q',h⟩,n⟩;exact aw.mpr ⟨(p,q'),(mem _).mpr ⟨h,n⟩,rfl⟩
   have onw:∀p q,p∈lf.map (·.1)->a_ (En ts) p q->q∈lf.map (·.1):=λp q' hp hr=>(key q').mpr ⟨rgo _ _ hr,λz=>by
    obtain⟨m,hm,hz⟩:=jg.mp z;exact ((key p).mp hp).2 (jg.mpr ⟨m,hm,(ru.cyc m hm).before rinj hz hr⟩)⟩
   have rF:r3≠F:=λz=>by rw[z,hF4] at hr3;cases hr3
   have rA:r3≠A':=λz=>by rw[z,hA4] at hr3;cases hr3
   have hr30:H r3=none:=(sm.trans s4).free hr3;refine⟨λm Z H''=>∃ps:List Nat,Z=[some (.ref T),some (.ref A'),some (.ref F),some (.ref r3),o4]/\m=lf.length+1-ps.length/\Same H4 H''/\H'' r3=some (.lst (nV ps))/\Path (a_ (En ts)) ps/\ps[0]?=some c/\(∀p∈ps,p∈lf.map (·.1)),
    ⟨_,[c],rfl,rfl,s5,y5,Path.one _ c,rfl,λp hp=>by rw[aR.mp hp];exact hc⟩,?_⟩
   rintro m Z H6 ⟨ps,rfl,rfl,s6,y6,path,h0,pin⟩;have hp0:=(aS.mp h0).1;have lps:ps.length<=lf.length:=by have:=n8 path.nd pin;rw[aQ] at this;exact this
   obtain⟨z,hz⟩:∃z,ps[ps.length-1]?=some z:=⟨_,aX (by lia)⟩;obtain⟨i,x,h1,h2,_⟩:=xF (pin z (a7 hz));have hzx:a_ (En ts) z x:=((mem (z,x)).mp (a7 h1)).1;have hA6:=s6 _ _ hA4;have hat:=D6 hz;have hat0:atI (nV ps) 0=some (V.int (c:Int)):=cA (j:=0) (dY h0);refine⟨_,rfl,_,rfl,_,rfl,r3,_,_,_,rfl,rfl,SqL.of y6,hat,A',V.int (x:Int),rfl,.inl ⟨_,Sum.inl (z:Int),.inl hA6,rfl,h2.symm⟩,_,rfl,r3,_,_,_,rfl,rfl,SqL.of y6,hat0,rfl,_,rfl,?_⟩;show if (!decide (V.int (x:Int)=V.int (c:Int)))=true then _ else _
   rw[jZ];by_cases hxc:x=c
   .subst hxc;rw[K4 rfl];have cyc:Cyc (a_ (En ts)) ps:=⟨path,λp q' hp hq=>by rw[hz] at hp;rw[h0] at hq;cases hp;cases hq;exact hzx⟩;obtain⟨ru',dj⟩:=ru.step rinj cyc h0 (λm hm zz=>((key x).mp hc).2 (jg.mpr ⟨m,hm,zz⟩)) (λp hp hlt=>sY λzz=>by
     have:=hcmin p ((key p).mpr ⟨hp,λh=>zz (jg.mp h)⟩);lia) (λm hm y hy=>low m hm y hy x hc)
    refine av ⟨_,rfl,r3,rfl,⟨_,SqL.of y6⟩,gJ (K:=[]) (a:=r3) (xs:=nV ps) (λi Z H''=>∃o4',Z=[some (.ref T),some (.ref A'),some (.ref F),some (.ref r3),o4']/\(∀b o,b≠A'->H6 b=some o->H'' b=some o)/\H'' A'=some (.dK ((lf.filter λy=>decide (y.1∉ps.take i)).map nmV)))
     ⟨o4,rfl,λb o _ e=>e,by rw[hA6,IE.mpr (by simp)]⟩ (λi Z H'' _ ⟨_,_,e,_⟩=>SqL.of (e _ _ rA y6)) ?_ ?_⟩
    .rintro j y Z H7 hj ⟨o4',rfl,k7,hA7⟩;rw[nV,c7] at hj;obtain⟨w',hw,rfl⟩:=fJ.mp hj;have etj:ps.take (j+1)=ps.take j++[w']:=by rw[cU,hw];rfl
     have nz:w'∉ps.take j:=λh=>by
      have nd:=path.nd;rw[<-fc (j+1) ps,etj,bZ,bZ] at nd;exact nd.1.2.2 w' h w' (by simp) rfl
     have win:w'∈(lf.filter λy=>decide (y.1∉ps.take j)).map (·.1):=by obtain⟨y,hy,rfl⟩:=aw.mp (pin w' (a7 hw));exact aw.mpr ⟨y,iG.mpr ⟨hy,K4 nz⟩,rfl⟩
     obtain⟨_,v,_,hv,_⟩:=xF win;refine⟨_,rfl,A',rfl,.inl ⟨_,.inl hA7⟩,_,rfl,_,Sum.inl (w':Int),_,hA7,rfl,hv,λH8 k8 y8=>?_⟩;rw[Ej] at y8;refine⟨_,rfl,λb o n e=>(k8 b n).trans (k7 b o n e),?_⟩;rw[y8,List.filter_filter,etj]
     congr 3
     refine IC λy _=>?_;rw[dn];simp;exact And.comm
    .rintro Z H7 ⟨o4',rfl,k7,hA7⟩;rw[bO,fY] at hA7;have hF7:H7 F=some (.lst vs'):=k7 _ _ hAF.symm (s6 _ _ hF4);refine⟨_,rfl,.inl ⟨rfl,_,SqL.of hF7⟩,_,rfl,F,_,_,rfl,rfl,hF7,by rw[aU pr];lia,λH8 k8 y8=>?_⟩;have up:∀b o,b≠A'->b≠F->H4 b=some o->H8 b=some o:=λb o n n' e=>by rw[k8 b n'];exact k7 _ _ n (s6 _ _ e)
     refine⟨_,_,_,ls++[ps],lf.filter λy=>decide (y.1∉ps),rfl,?_,λb o e=>up b o (ax e hA0) (ax e hF0) (s4 _ _ (sm _ _ e)),(k8 _ hAF).trans hA7,y8,?_,ru',λy=>?_,nd.sublist (J4 _ List.filter_sublist),?_,λm hm c' hc' p hp=>?_⟩
     .obtain⟨y,hy,hyc⟩:=aw.mp hc;refine By lf _ hy ?_;rw[hyc];exact K5 λzz=>zz (a7 h0)
     .refine cX (Paired.imp' (λ_ _ ⟨a,e1,e2,e3,e4⟩=>⟨a,e1,e2,e3,up a _ (bM (s4 _ _ e4) hA4 (by intro zz;cases zz)) e3 (s4 _ _ e4)⟩) pr) (.cons ⟨r3,rfl,hr30,rF,?_⟩ .nil);rw[k8 r3 rF];exact k7 _ _ rA y6
     .rw[iG,mem y,decide_eq_true_eq,yY,ay];constructor
      .rintro⟨⟨a,b⟩,c'⟩;exact⟨a,λzz=>zz.elim b λz2=>c' (by simpa using z2)⟩
      .rintro⟨a,b⟩;exact⟨⟨a,λzz=>b (.inl zz)⟩,λzz=>b (.inr (by simpa using zz))⟩
     .exact bV (iD _ _) llf
     .obtain⟨y,hy,rfl⟩:=aw.mp hp;obtain⟨hy1,hy2⟩:=iG.mp hy;have hyk:y.1∈lf.map (·.1):=aw.mpr ⟨y,hy1,rfl⟩;rcases ay.mp hm with hm|hm
      .exact low m hm c' hc' _ hyk
      .rw[aR.mp hm,h0] at hc';cases hc';have h3:=hcmin _ hyk;have h4:y.1≠x:=λzz=>K6 hy2 (by rw[zz];exact a7 h0);lia
   .rw[K5 (by lia)];refine aJ ⟨λZ' H''=>∃ps':List Nat,Z'=[some (.ref T),some (.ref A'),some (.ref F),some (.ref r3),o4]/\ps'.length=ps.length+1/\Same H4 H''/\H'' r3=some (.lst (nV ps'))/\Path (a_ (En ts)) ps'/\ps'[0]?=some c/\(∀p∈ps',p∈lf.map (·.1)),
     λZ' H'' ⟨ps',e,h1,h2,h3,h4,h5,h6⟩=>⟨lf.length+1-ps'.length,by lia,ps',e,rfl,h2,h3,h4,h5,h6⟩,?_⟩
    have hx:x∉ps:=λh=>by
     have:=path.home rinj hz hzx h;rw[h0] at this;cases this;exact hxc rfl
    refine⟨_,rfl,.inl ⟨rfl,_,SqL.of y6⟩,_,rfl,_,rfl,_,rfl,r3,_,_,_,rfl,rfl,SqL.of y6,hat,A',V.int (x:Int),rfl,.inl ⟨_,Sum.inl (z:Int),.inl hA6,rfl,h2.symm⟩,r3,_,_,rfl,rfl,y6,by rw[bO];lia,λH7 k7 y7=>?_⟩;refine⟨ps++[x],rfl,by simp,λb' o e=>(k7 b' (ax e hr3)).trans (s6 _ _ e),by rw[y7,oO,gP],path.snoc hz hzx hx,by rw[dS hp0];exact h0,λp hp=>?_⟩
    .rcases ay.mp hp with h|h
     .exact pin p h
     .rw[aR.mp h];exact onw z x (pin z (a7 hz)) hzx
end
end K71
end
section
namespace K71
open K31 K51 K15
theorem xf (e:Ent) (c w:Nat):∀(s:List Nat) (y:Nat),cE e (con c w y s)=cE e ((path w s.reverse y).map λp=>((p.1,p.2,c):Tri))
 | [],y=>by
  show cE e [(y,c,w)]=cE e [(w,y,c)];rw[jS]
 |z::s,y=>by
  show cE e ((y,c,z)::con c w z s)=_;rw[dW,xf e c w s z,g_,eS,bI,dJ,jS e y c z];show cE e [(z,y,c)]+_=_+cE e [(z,y,c)];lia
theorem cone1 {ts:List Tri} {ah:Lps} {q0 q1 c:Nat} {r:List Nat} (f:FI ts (ah++[q0::q1::r])) (nd:(q0::q1::r).Nodup) (hc:∀p q,(p,q)∈kn ts (ah++[q0::q1::r])->p≠c) (hc2:c∉q0::q1::r) :
  FI (ts++(sides (q0::q1::r)).map λp=>((p.1,p.2,c):Tri)) ah/\∀p q,(p,q)∈kn (ts++(sides (q0::q1::r)).map λp=>((p.1,p.2,c):Tri)) ah->(∃q',(p,q')∈kn ts (ah++[q0::q1::r]))\/p=c:=by
 simp only[af,not_or] at hc2;obtain⟨f1,k1⟩:=mL f (x:=c) (λq h=>hc _ _ h rfl) hc2.1 hc2.2.1;have e:r=r.reverse.reverse:=tN r |>.symm
 have f1':FI (ts++[(q0,q1,c)]) (ah++[q0::c::q1::r.reverse.reverse]):=by rw[<-e];exact f1
 have k1':∀p q,(p,q)∈kn (ts++[(q0,q1,c)]) (ah++[q0::c::q1::r.reverse.reverse])↔(p,q)∈kn ts (ah++[q0::q1::r])\/p=c/\(q=q0\/q=q1)\/q=c/\(p=q0\/p=q1):=by rw[<-e];exact k1
 obtain⟨f2,k2⟩:=rT (c:=c) (q1:=q1) r.reverse _ q0 f1' ((List.Perm.cons _ (List.Perm.cons _ (j8 r))).nodup_iff.mpr nd) (by simp only[af,fG,not_or];exact hc2) (λq hq h=>by
  rcases (k1' _ _).mp h with h|⟨_,h|h⟩|⟨h,_⟩
  .exact hc _ _ h rfl
  .simp only[aV,af,not_or] at nd;rw[h] at hq;exact nd.1.2 (fG.mp hq)
  .simp only[aV,af,not_or] at nd;rw[h] at hq;exact nd.2.1 (fG.mp hq)
  .rw[h] at hq;exact hc2.2.2 (fG.mp hq))
 have pe:(ents (ts++[(q0,q1,c)]++con c q1 q0 r.reverse)).Perm (ents (ts++(sides (q0::q1::r)).map λp=>((p.1,p.2,c):Tri))):=by rw[IW];intro x;show cE x _=cE x _;rw[dJ,dJ,dJ,xf,tN];show _=_+cE x ((q0,q1,c)::(path q1 r q0).map λp=>((p.1,p.2,c):Tri));rw[dW x (q0,q1,c) (List.map _ _)];lia
 have sd:∀q∈q0::q1::r,∃q',(q,q')∈kn ts (ah++[q0::q1::r]):=λq hq=>by
  obtain⟨i,hi,e⟩:=ze.mp hq;have:=jl (q0::q1::r) i hi;have e2:(q0::q1::r).getD i 0=q:=by rw[List.getD,aX hi,e];rfl
  rw[e2] at this;refine⟨(q0::q1::r).getD ((i+1)%(q0::q1::r).length) 0,bN _ ?_⟩;rw[dO,eF];exact bN _ (a7 this)
 refine⟨f2.of_ents pe,λp q h=>?_⟩;have kp:=(eJ (wl ah) (pe.map (·.1)));unfold kn at h;rw[fP] at h;have h':=(kp.mem_iff (a:=(p,q))).mpr h;rcases k2 p q (by unfold kn;rw[fP];exact h') with h|⟨h|h,_⟩
 .rcases (k1' _ _).mp h with h|⟨h,_⟩|⟨_,h|h⟩
  .exact .inl ⟨q,h⟩
  .exact .inr h
  .rw[h];exact .inl (sd q0 (by simp))
  .rw[h];exact .inl (sd q1 (by simp))
 .exact .inr h
 .exact .inl (sd p (by simp[fG.mp h]))
theorem uS:∀(a:Nat) (l:List Nat) (z:Nat),((path a l z).map λs=>(s.2,s.1)).reverse=path z l.reverse a
 |_,[],_=>rfl
 |a,b::l,z=>by
  show (((b,a):Side)::(path b l z).map λs=>(s.2,s.1)).reverse=_;rw[g_,uS b l z,g_,eS];rfl
theorem uw (l:List Nat):((sides l).map λs=>((s.2,s.1):Side)).Perm (sides l.reverse):=by
 cases l with
 |nil=>exact .nil
 |cons a l=>
  rw[g_];refine List.Perm.trans ?_ (qg [a] l.reverse);show ((path a l a).map λs=>((s.2,s.1):Side)).Perm (path a l.reverse a);rw[<-uS];exact (j8 _).symm
theorem u6 {R:Nat->Nat->Prop} {l:List Nat} (h:Cyc R l):∀s∈sides l,R s.1 s.2:=by
 intro s hs;obtain⟨i,hi,e⟩:=ze.mp hs;rw[jk] at hi;have hg:=jl l i hi;have:(sides l)[i]?=some s:=by rw[<-e];exact aX _
 rw[this] at hg;have es:=cH hg;have h0:l[i]?=some (l.getD i 0):=by simp[List.getD,hi]
 have hm:(i+1)%l.length<l.length:=nu _ (by lia);have h1:l[(i+1)%l.length]?=some (l.getD ((i+1)%l.length) 0):=by simp[List.getD,hm]
 rw[es];by_cases c:i+1<l.length
 .rw[j9 c] at h1 |-;exact h.ch i _ _ h0 h1
 .have e:i+1=l.length:=by lia
  rw[e,ny] at h1 |-;exact h.back _ _ (by rw[show l.length-1=i by lia];exact h0) h1
theorem uQ {R:Nat->Nat->Prop} (inj:∀a b c,R a c->R b c->a=b) {ls:List (List Nat)} (h:Rims R ls):ls.flatten.Nodup:=by rw[List.Nodup,List.pairwise_flatten];refine⟨λl hl=>(h.cyc l hl).nd,?_⟩;refine pC (λ{l m} hl hm hr=>?_) h.rise;intro c hc c' hc' e;subst e;obtain⟨x,hx,hxl⟩:=(h.cyc l hl).toPath.begin;obtain⟨y,hy,hym⟩:=(h.cyc m hm).toPath.begin;have h1:=h.least l hl x hx y ((h.cyc m hm).toPath.from inj (h.cyc l hl) hc' hc hy);have h2:=h.least m hm y hy x ((h.cyc l hl).toPath.from inj (h.cyc m hm) hc hc' hx);have:=hr x y hx hy;lia
theorem qF:∀(a:Nat) (l:List Nat) (z p q:Nat),(p,q)∈path a l z↔∃i,(a::(l++[z]))[i]?=some p/\(a::(l++[z]))[i+1]?=some q
 |a,[],z,p,q=>by
  simp only[path,aR,bq,jh];constructor
  .rintro⟨rfl,rfl⟩;exact⟨0,rfl,rfl⟩
  .rintro⟨i,h1,h2⟩
   match i,h1,h2 with
   |0,h1,h2=>simp at h1 h2;exact⟨h1.symm,h2.symm⟩
   |i+1,_,h2=>simp at h2
 |a,b::l,z,p,q=>by
  show (p,q)∈(a,b)::path b l z↔_;rw[af,qF b l z,bq];constructor
  .rintro (⟨rfl,rfl⟩|⟨i,h1,h2⟩)
   .exact⟨0,rfl,rfl⟩
   .exact⟨i+1,h1,h2⟩
  .rintro⟨i,h1,h2⟩
   match i,h1,h2 with
   |0,h1,h2=>simp at h1 h2;exact .inl ⟨h1.symm,h2.symm⟩
   |i+1,h1,h2=>exact .inr ⟨i,h1,h2⟩
theorem vE:∀(a:Nat) (l:List Nat) (z:Nat),(path a l z).map (·.1)=a::l
 |_,[],_=>rfl
 |a,b::l,z=>by show a::(path b l z).map (·.1)=_;rw[vE]
theorem qj (l:List Nat):(sides l).map (·.1)=l:=by
 cases l with
 |nil=>rfl
 |cons a l=>exact vE a l a
theorem ED (ls:Lps):(wl ls).map (·.1)=ls.flatten:=by
 induction ls with
 |nil=>rfl
 |cons l ls ih=>rw[jz,bI,qj,ih];rfl
theorem vW (ls:Lps):((wl ls).map λs=>((s.2,s.1):Side)).Perm (wl (ls.map List.reverse)):=by
 induction ls with
 |nil=>exact .nil
 |cons l ls ih=>
  rw[jz,bI,aB,jz];exact (uw l).append ih
section
variable {ts:List Tri} {ls:Lps}
theorem Ff (g:Good ts) (o:∀c,Co ts c->One (En ts) c) (h:Rims (a_ (En ts)) ls) {p q:Nat}:(p,q)∈wl ls↔a_ (En ts) p q:=by
 constructor
 .intro hm;obtain⟨l,hl,hs⟩:=jH.mp hm;exact u6 (h.cyc l hl) _ hs
 .intro hr;obtain⟨l,hl,hp⟩:=h.all p ⟨q,hr⟩;rw[<-qj l] at hp;obtain⟨⟨p',q'⟩,h1,rfl⟩:=aw.mp hp;have h2:=u6 (h.cyc l hl) _ h1;have e:q=q':=qY g.sk (o _ ⟨_,_,hr.1.choose_spec⟩) hr h2;rw[e];exact jH.mpr ⟨l,hl,h1⟩
theorem Eg (g:Good ts) (o:∀c,Co ts c->One (En ts) c) (h:Rims (a_ (En ts)) ls):FI ts (ls.map List.reverse):=by
 have co1:∀{a b},a_ (En ts) a b->Co ts a:=λ⟨⟨q,hq⟩,_⟩=>⟨_,q,hq⟩;have co2:∀{a b},a_ (En ts) a b->Co ts b:=λ⟨⟨q,hq⟩,_⟩=>⟨q,_,g.sk.rot hq⟩;have rinj:∀a b c,a_ (En ts) a c->a_ (En ts) b c->a=b:=λa b c h1 h2=>oy g.sk (o c (co2 h1)) h1 h2;have rw_:∀{p q},(p,q)∈wl (ls.map List.reverse)↔a_ (En ts) q p:=λ{p q}=>by
  rw[<-(vW ls).mem_iff,<-Ff g o h];constructor
  .intro hm;obtain⟨⟨x,y⟩,h1,h2⟩:=aw.mp hm;cases h2;exact h1
  .intro hm;exact aw.mpr ⟨(q,p),hm,rfl⟩
 have ndw:(wl ls).Nodup:=by have:=uQ rinj h;rw[<-ED] at this;exact (fX.mp this).imp λh e=>h (by rw[e])
 have ndr:(wl (ls.map List.reverse)).Nodup:=by
  refine (vW ls).nodup_iff.mp ?_;rw[List.Nodup,fX];exact ndw.imp λ{s s'} h e=>h (by
   obtain⟨a,b⟩:=s;obtain⟨c,d⟩:=s';simp only[bq] at e |-;exact⟨e.2,e.1⟩)
 have tk:∀{a b},(a,b)∈tl ts↔∃c,En ts a b c:=iw;have tT:∀{p v n},(p,v,n)∈tn (ls.map List.reverse)->a_ (En ts) v p/\a_ (En ts) n v:=λ{p v n} ht=>⟨rw_.mp (oU.mpr ⟨n,ht⟩),rw_.mp (iu.mpr ⟨p,ht⟩)⟩;refine⟨?_,λ{p q} hm=>?_,λ{p q} hm=>?_,λv p q hv=>?_⟩
 .unfold kn;rw[bZ];refine⟨by rw[fP];exact g.nd,ndr,λs hs s' hs' e=>?_⟩;subst e;obtain⟨a,b⟩:=s;exact (rw_.mp hs').2 (tk.mp hs)
 .rcases ay.mp hm with hm|hm
  .by_cases c:∃r,En ts q p r
   .exact cf _ (tk.mpr c)
   .exact bN _ (rw_.mpr ⟨tk.mp hm,c⟩)
  .exact cf _ (tk.mpr (rw_.mp hm).1)
 .rcases ay.mp hm with hm|hm
  .obtain⟨c,hc⟩:=tk.mp hm;exact g.sk.ne hc
  .obtain⟨c,hc⟩:=(rw_.mp hm).1;exact (g.sk.ne hc).symm
 .have hco:Co ts v:=by
   rcases hv with hv|hv
   .exact⟨p,q,hv⟩
   .exact co1 (tT hv).1
  obtain⟨F,hF,all⟩:=o v hco;obtain⟨f,F',rfl⟩:∃f F',F=f::F':=by
   cases F with
   |nil=>exact (hF.ne rfl).elim
   |cons f F'=>exact⟨f,F',rfl⟩
  by_cases c:∃b,a_ (En ts) v b
  .obtain⟨b,hb⟩:=c;have hf:b=f:=by
    have:=ox g.sk hF all hb;exact (cH this).symm
   subst hf;obtain⟨w,hw⟩:=Bi g.sk (o v hco) hb;obtain⟨l,hl,hlw⟩:=oi g.sk hF all hw;have wF:w∉b::F':=λz=>hw.2 (hF.key w z);have hlen:∀i,(b::(F'++[w]))[i]?=if i<(b::F').length then (b::F')[i]? else [w][i-(b::F').length]?:=λi=>by
    rw[<-eY,IH]
   refine⟨b::(F'++[w]),?_,λp q=>?_⟩
   .rw[<-eY,bZ];exact⟨hF.nd,by simp,λx hx y hy e=>wF (by rw[<-aR.mp hy,<-e];exact hx)⟩
   .have turn:(q,v,p)∈tn (ls.map List.reverse)↔q=b/\p=w:=by
     constructor
     .intro ht;obtain⟨h1,h2⟩:=tT ht;exact⟨qY g.sk (o v hco) h1 hb,oy g.sk (o v hco) h2 hw⟩
     .rintro⟨rfl,rfl⟩;obtain⟨n,hn⟩:=oU.mp (rw_.mpr hb);have:=oy g.sk (o v hco) (tT hn).2 hw;rw[<-this];exact hn
    have en:En ts v p q↔(p,q)∈path b F' w:=by
     rw[qF];constructor
     .intro he;obtain⟨i,hi⟩:=dB.mp (all p ⟨q,he⟩);have hil:=(aS.mp hi).1;refine⟨i,by rw[hlen,K3 hil];exact hi,?_⟩;rw[hlen];by_cases c2:i+1<(b::F').length
      .rw[K3 c2];have e:=aX c2;rw[e,g.sk.one (hF.ch i p _ hi e) he]
      .rw[K2 c2,show i+1-(b::F').length=0 by lia];rw[show (b::F').length-1=i by lia,hi] at hl;cases hl;rw[g.sk.one hlw he];rfl
     .rintro⟨i,h1,h2⟩;rw[hlen] at h1 h2;by_cases c2:i+1<(b::F').length
      .rw[K3 c2] at h2;rw[K3 (by lia)] at h1;exact hF.ch i p q h1 h2
      .rw[K2 c2] at h2;have:=(aS.mp h2).1;rw[bg] at this;rw[show i+1-(b::F').length=0 by lia] at h2;rw[K3 (by lia),show i=(b::F').length-1 by lia,hl] at h1;cases h1;cases h2;exact hlw
    show Lk ts _ v p q↔(p,q)∈path b (F'++w::[]) b;rw[eS,ay];unfold Lk;rw[turn,en];simp only[path,aR,bq,and_comm]
  .have noT:∀p q,(q,v,p)∉tn (ls.map List.reverse):=λp q ht=>c ⟨q,(tT ht).1⟩;have noIn:∀z,¬a_ (En ts) z v:=λz hz=>c (vy g.sk (o v hco) hz);have hl:(f::F')[(f::F').length-1]?=some ((f::F')[(f::F').length-1]'(by simp)):=aX _;generalize (f::F')[(f::F').length-1]'(by simp)=l at hl;have hlf:En ts v l f:=by
    obtain⟨z,hz⟩:=hF.key l (a7 hl);have hk:∃r,En ts v z r:=sY λn=>noIn z ⟨⟨l,g.sk.rot (g.sk.rot hz)⟩,n⟩;obtain⟨j,hj⟩:=dB.mp (all z hk);cases j with
    |zero=>cases hj;exact hz
    |succ j=>
     have hjl:=(aS.mp hj).1;have e:=aX (show j<(f::F').length by lia);have:=g.sk.inj (hF.ch j _ _ e hj) hz;rw[this] at e;have:=n_ hF.nd e hl;lia
   have hlen:∀i,(f::(F'++[f]))[i]?=if i<(f::F').length then (f::F')[i]? else [f][i-(f::F').length]?:=λi=>by
    rw[<-eY,IH]
   refine⟨f::F',hF.nd,λp q=>?_⟩;show Lk ts _ v p q↔(p,q)∈path f F' f;unfold Lk;rw[qF];constructor
   .rintro (he|ht)
    .obtain⟨i,hi⟩:=dB.mp (all p ⟨q,he⟩);have hil:=(aS.mp hi).1;refine⟨i,by rw[hlen,K3 hil];exact hi,?_⟩;rw[hlen];by_cases c2:i+1<(f::F').length
     .rw[K3 c2];have e:=aX c2;rw[e,g.sk.one (hF.ch i p _ hi e) he]
     .rw[K2 c2,show i+1-(f::F').length=0 by lia];rw[show (f::F').length-1=i by lia,hi] at hl;cases hl;rw[g.sk.one hlf he];rfl
    .exact (noT p q ht).elim
   .rintro⟨i,h1,h2⟩;rw[hlen] at h1 h2;by_cases c2:i+1<(f::F').length
    .rw[K3 c2] at h2;rw[K3 (by lia)] at h1;exact .inl (hF.ch i p q h1 h2)
    .rw[K2 c2] at h2;have:=(aS.mp h2).1;rw[bg] at this;rw[show i+1-(f::F').length=0 by lia] at h2;rw[K3 (by lia),show i=(f::F').length-1 by lia,hl] at h1;cases h1;cases h2;exact .inl hlf
def caps:Nat->Lps->List Tri
 |_,[]=>[]
 |N,l::ls=>((sides l).map λs=>((s.2,s.1,N):Tri))++caps (N+1) ls
theorem w_:∀(ls:Lps) (ts:List Tri) (N:Nat),FI ts (ls.map List.reverse)->(∀l∈ls,l.Nodup)->(∀p q,(p,q)∈kn ts (ls.map List.reverse)->p<N)->FI (ts++caps N ls) []
 | [],ts,N,f,_,_=>by
  have e:ts++caps N []=ts:=by simp[caps]
  rw[e];exact f
 |l::ls,ts,N,f,nd,old=>by
  have hp:((l::ls).map List.reverse).Perm (ls.map List.reverse++[l.reverse]):=(cR (l₁:=[l.reverse]));have f':=f.perm hp;have old':∀p q,(p,q)∈kn ts (ls.map List.reverse++[l.reverse])->p<N:=λp q h=>old p q ((gC _ (hp.flatMap_right _)).mem_iff.mpr h);have hnd:l.reverse.Nodup:=(j8 l).nodup_iff.mpr (nd l (by simp));have sw:=uw l;have ec:caps N (l::ls)=((sides l).map λs=>((s.2,s.1,N):Tri))++caps (N+1) ls:=rfl;rw[ec,<-bH];have lift:∀{D:List Tri},FI (ts++D) (ls.map List.reverse)->(∀p q,(p,q)∈kn (ts++D) (ls.map List.reverse)->p<N+1)->(ents D).Perm (ents ((sides l).map λs=>((s.2,s.1,N):Tri)))->FI (ts++((sides l).map λs=>((s.2,s.1,N):Tri))++caps (N+1) ls) []:=λ{D} f2 o2 pe=>by
   have pe2:(ents (ts++D)).Perm (ents (ts++(sides l).map λs=>((s.2,s.1,N):Tri))):=by rw[K71.ents_app,K71.ents_app];exact gC _ pe
   refine w_ ls _ (N+1) (f2.of_ents pe2) (λm hm=>nd m (aY _ hm)) λp q h=>o2 p q ?_;unfold kn at h |-;rw[fP] at h |-;exact (eJ _ (pe2.map _)).mem_iff.mpr h
  generalize hr:l.reverse=r at *
  match r,hr with
  | [],hr=>
   have:l=[]:=by simpa using hr
   subst this;refine lift (D:=[]) ?_ (λp q h=>?_) (.refl _)
   .rw[cZ];refine⟨?_,?_,?_,?_⟩
    .have:=f'.nd;simpa [kn,dO,eF,sides] using this
    .intro p q h;have:=f'.sy (p:=p) (q:=q);simp[kn,dO,eF,sides] at this h |-;exact this h
    .intro p q h;have:=f'.ne (p:=p) (q:=q);simp[kn,dO,eF,sides] at this h;exact this h
    .intro v p q h;have e:∀v p q,Lk ts (tn (ls.map List.reverse++[[]])) v p q↔Lk ts (tn (ls.map List.reverse)) v p q:=λv p q=>by simp[Lk,il,jJ,turns]
     obtain⟨l,hl⟩:=f'.rg v p q ((e v p q).mpr h);exact⟨l,hl.congr λp q=>(e v p q).symm⟩
   .rw[cZ] at h;have:=old' p q (by simp[kn,dO,eF,sides] at h |-;exact h);lia
  | [q],hr=>
   have:(q,q)∈kn ts (ls.map List.reverse++[[q]]):=bN _ (by rw[dO,eF];exact bN _ (by simp[sides,path]));exact (f'.ne this rfl).elim
  |q0::q1::r',hr=>
   have nN:N∉q0::q1::r':=λz=>by
    rw[<-qj (q0::q1::r')] at z;obtain⟨⟨x,y⟩,h1,h2⟩:=aw.mp z;have:=old' x y (bN _ (by rw[dO,eF];exact bN _ h1));have h2:x=N:=h2;lia
   obtain⟨f2,k2⟩:=cone1 (c:=N) f' hnd (λp q h e=>by have:=old' p q h;lia) nN;refine lift f2 (λp q h=>?_) ?_
   .rcases k2 p q h with ⟨q',h⟩|h
    .have:=old' p q' h;lia
    .lia
   .have:=(sw.symm.map λp=>((p.1,p.2,N):Tri)).flatMap_right λt=>[((t.1,t.2.1),t.2.2),((t.2.1,t.2.2),t.1),((t.2.2,t.1),t.2.1)];rw[c9] at this;exact this
end
end K71
end
section
namespace L2
open PySem PySem.Spec PyProof.Rows
theorem Inv.turnedL {h':Heap} {t':Nat} {ch:List Addr} (I:Inv X pins Z H s) (hch:∀b∈ch,dR X pins H b) (k:∀b o,b∉ch->s.heap.get? b=some o->h'.get? b=some o) :
  Inv X pins Z H {s with heap:=h',toks:=t'}:=by
 have nch:∀b u,H b=some u->b∉ch:=λb u e z=>by
  have:=(hch b z).1;rw[this] at e;cases e
 refine I.step (g':=s.gens) (d':=s.drawn) (ch:=ch) (λb hb=>?_) (λb o _ _ hc e _=>k b o hc e) (λb o _ _ hc e _=>⟨o.slots,k b o hc e⟩) (λ_ _ _ _ n=>n) (λb o hc e=>⟨o,k b o hc e⟩) (λ_ _ e=>e) (λ_ _ _ e=>e) (λb ps e=>⟨#[],by rw[e];simp⟩) (λm hm=>?_) (λb u e=>?_) I.bare
 .obtain⟨_,f1,_,f3,f4,f5⟩:=hch b hb;exact⟨f3,f1,f4,f5⟩
 .obtain⟨o,es,ep,ho,r⟩:=hm;exact⟨o,es,ep,k _ o (λz=>(hch _ z).2.1 rfl) ho,r⟩
 .refine (I.hok b u e).stay (λc v hc q=>k c v ?_ q) (λ_ q=>q) λ_ _ q=>q;rcases hc with z|z
  .rw[z];exact nch b u e
  .exact nch c _ z
def Itz (K:W.Frag) (a b:Addr):It:=
 ⟨λi H=>∃xs ys x y,SqL K H a xs/\SqL K H b ys/\xs[i]?=some x/\ys[i]?=some y,
  λi H v H'=>∃p x y,H p=none/\v=.ref p/\H'=upd H p (.tup [x,y])/\(∀xs,SqL K H a xs->xs[i]?=some x)/\∀ys,SqL K H b ys->ys[i]?=some y,
  λi H=>∃xs ys,SqL K H a xs/\SqL K H b ys/\(xs.length<=i\/ys.length<=i)⟩
abbrev Il (z TI TO i1 i2 a b:Addr) (i:Nat) (h:Heap):Prop:=IsZip h z TI TO .none/\IsPair h TI (.ref i1) (.ref i2)/\(∃u v,IsPair h TO u v)/\h.IsListIter i1 a i/\h.IsListIter i2 b i
theorem BL {elts:List Expr} {x1} {pos:Pos} {a b z TI TO i1 i2:Addr} (D:ZipApart z TI TO i1 i2 a b) :
  Turn P w K (.Tuple elts x1 pos) (Itz [] a b) [z,TI,TO,i1,i2] z (Il z TI TO i1 i2 a b) where
 mem:=by simp
 obj:=λi h st c hc=>by
  obtain⟨s1,s2,⟨u,v,s3⟩,⟨o4,e4,_,d4⟩,o5,e5,_,d5⟩:=st;simp only[af,a8,or_false] at hc;rcases hc with rfl|rfl|rfl|rfl|rfl
  .exact⟨_,s1,λv z=>by have z':Data.fields _=Data.cell v:=z;cases z'⟩
  .exact⟨_,s2,λv z=>by have z':Data.seq _ _=Data.cell v:=z;cases z'⟩
  .exact⟨_,s3,λv z=>by have z':Data.seq _ _=Data.cell v:=z;cases z'⟩
  .exact⟨o4,e4,λv z=>by rw[d4] at z;cases z⟩
  .exact⟨o5,e5,λv z=>by rw[d5] at z;cases z⟩
 keep:=λi h h' st k=>by
  obtain⟨s1,s2,⟨u,v,s3⟩,s4,s5⟩:=st;exact⟨k z (by simp) _ s1,k TI (by simp) _ s2,⟨u,v,k TO (by simp) _ s3⟩,s4.at λo q=>k i1 (by simp) o q,s5.at λo q=>k i2 (by simp) o q⟩
 item:=by
  intro X hP hw hK hc i pins s Z H E I hf st hg;subst hP hw hK;obtain⟨xs,ys,x,y,hq,hq',hx,hy⟩:=hg;obtain⟨s1,s2,⟨u0,v0,s3⟩,s4,s5⟩:=st;obtain⟨its,rv,p,hz⟩:=I.list hq;obtain⟨its',rv',p',hz'⟩:=I.list hq';obtain⟨u,hu,ru⟩:=rv.get hx;obtain⟨u',hu',ru'⟩:=rv'.get hy;have lt:∀c o,s.heap.get? c=some o->c≠s.heap.objs.size:=λc o e=>cC (bf e);have l4:i1≠s.heap.objs.size:=by obtain⟨o,q,_⟩:=s4;exact lt _ _ q
  have l5:i2≠s.heap.objs.size:=by obtain⟨o,q,_⟩:=s5;exact lt _ _ q
  have l1:=lt _ _ s1;have l2:=lt _ _ s2;have l3:=lt _ _ s3;refine wpAny_pyNext_zip_item D s1 s2 s3 s4 s5 p.isList p'.isList (x:=u) (y:=u') (by simpa using hu) (by simpa using hu') λh1 a1 a2 a3 a4 a5 a6 hk1=>?_;refine⟨_,rfl,?_⟩;refine wpAny_letOwnedTupleGo_zip a1 λh2 hz2 hs2=>?_;replace hs2:Heap.SameBut z h1 h2:=hs2;have hfr:s.heap.get? s.heap.objs.size=none:=tj (aC _);have hn:H s.heap.objs.size=none:=I.hok.fresh (aC _);have ht2:h2.get? s.heap.objs.size=some {cls:=.type "tuple",data:=.seq #[u,u']}:=(hs2.2 _ (aF l1)).trans a5;have I2:Inv X pins Z (upd H s.heap.objs.size (.tup [x,y])) {s with heap:=h2,toks:=s.toks}:=by
   refine I.turnLaid (ch:=[z,TI,TO,i1,i2]) hf (λb o hb q=>?_) hfr λH'=>?_
   .have hb1:b≠z:=λe=>hb (by simp[e]);have hb2:b≠TO:=λe=>hb (by simp[e]);have hb3:b≠i1:=λe=>hb (by simp[e]);have hb4:b≠i2:=λe=>hb (by simp[e]);exact (hs2.2 b hb1).trans (hk1 b o hb1 hb2 hb3 hb4 q)
   .exact⟨⟨by simp;rw[gH];lia,_,ht2,rfl⟩,[u,u'],.cons ru (.cons ru' .nil),⟨_,ht2,rfl,_,rfl⟩⟩
  refine⟨.ref s.heap.objs.size,_,I2,rfl,⟨s.heap.objs.size,x,y,hn,rfl,rfl,λys hy'=>by rw[I.list_inj hy' hq];exact hx,λys hy'=>by rw[I.list_inj hy' hq'];exact hy⟩,⟨hz2,?_,⟨u,u',?_⟩,?_,?_⟩,λc hc=>?_⟩
  .exact (hs2.2 TI D.TIz).trans (hk1 TI _ D.TIz D.TITO D.TIi1 D.TIi2 s2)
  .exact (hs2.2 TO D.TOz).trans a2
  .exact a3.at λo q=>(hs2.2 i1 D.i1z).trans q
  .exact a4.at λo q=>(hs2.2 i2 D.i2z).trans q
  .have:c≠s.heap.objs.size:=by
    simp only[af,a8,or_false] at hc;rcases hc with rfl|rfl|rfl|rfl|rfl<;>assumption
   rw[bz this];exact (hf c hc).1
 done:=by intro X hP hw hK hc i pins s Z H E I hf st hg;subst hP hw hK;obtain⟨xs,ys,hq,hq',hx⟩:=hg;obtain⟨s1,s2,⟨u0,v0,s3⟩,s4,s5⟩:=st;obtain⟨its,rv,p,hz⟩:=I.list hq;obtain⟨its',rv',p',hz'⟩:=I.list hq';have hl:=rv.length;have hl':=rv'.length;refine wpAny_pyNext_zip_end (I.ok.hd hc) D s1 s2 s3 s4 s5 p.isList p'.isList (by simp;lia) λh' eb=>⟨rfl,?_⟩;refine I.turnedL (t':=s.toks) hf λb o hb q=>?_;exact eb b o (λe=>hb (by simp[e])) (λe=>hb (by simp[e])) (λe=>hb (by simp[e])) (λe=>hb (by simp[e])) q
 self:=λ_ _ _ _ _ st h=>JX st.1 h
section
def HS (K:W.Frag) (R:It->Hp->Prop) (vs:List V) (H1:Hp) (a b:Addr) (xs ys:List V):Prop:=vs=[.ref a,.ref b]/\SqL K H1 a xs/\SqL K H1 b ys/\R (Itz K a b) H1
def HR (K:W.Frag) (R:It->Hp->Prop):List V->Hp->Prop:=λvs H1=>Exists (Ex4 (HS K R vs H1))
def iZip (K:W.Frag) (ta:TA):TI:=λZ H R=>ta Z H (HR K R)
theorem xA {elts:List Expr} {x1} {tpos:Pos} {a b:Expr} {ta:TA} {p pos:Pos} (hg:Gl X "zip") (hm:X.mg "zip" = none) (ha:PA X [a,b] ta) (hs:starEach [a,b] X.env=[(false,eval a X.env),(false,eval b X.env)]:=by rfl) (hs2:starEach [b] X.env=[(false,eval b X.env)]:=by rfl) :
  PI X (.Tuple elts x1 tpos) (.Call (.Name "zip" p) [a,b] [] pos) (iZip [] ta):=by
 intro pins s Z H R I h;refine Call_ (iY I hg hm boot_zip (nH (thn (ha pos pins s Z H _ I h) λus s1 ⟨vs,H1,I1,r1,q1⟩=>?_) (by rw[hs,hs2]) (by rw[hs2];rfl)));obtain⟨a,b,xs,ys,e,hq,hq',q⟩:=q1;subst e;cases r1 with
 |cons r rr=>
  cases rr with
  |cons r' rr=>
   cases rr;cases r;cases r';obtain⟨its,rv,pl,hz⟩:=I1.list hq;obtain⟨its',rv',pl',hz'⟩:=I1.list hq';have la:a<s1.heap.objs.size:=by obtain⟨o,e,_⟩:=pl.isList;exact bf e
   have lb:b<s1.heap.objs.size:=by obtain⟨o,e,_⟩:=pl'.isList;exact bf e
   refine call_zip_2 pl.isList pl'.isList λh' h1 h2 h3 h4 h5 hsz hk=>?_;refine JX h1 ?_;have I2:Inv X pins Z H1 {s1 with heap:=h'}:=I1.kept (t':=s1.toks) hk;refine⟨_,_,_,_,H1,rfl,I2,BL (zipApart_new la lb),⟨h1,h2,⟨_,_,h3⟩,h4,h5⟩,λc hc=>?_,q⟩;have hb':s1.heap.objs.size<=c:=by
    simp only[af,a8,or_false] at hc;rcases hc with rfl|rfl|rfl|rfl|rfl
    all_goals first|exact aC _|exact pX _ _
   exact I1.fpOk hb' (I1.hok.fresh hb')
end
theorem wO {a b:Addr} {xs ys:List V} {g:TG} {tb:TS} {D:Ends} (Pv:Nat->St->Hp->Prop) (h0:Pv 0 Z H) (hl:∀i Z H,i<=xs.length->i<=ys.length->Pv i Z H->SqL K H a xs/\SqL K H b ys)
  (hs:∀i x y p Z H,xs[i]?=some x->ys[i]?=some y->Pv i Z H->H p=none->g (.ref p) Z (upd H p (.tup [x,y])) λσ2 H2=>tb {D with nx:=Pv (i+1),ct:=Pv (i+1),bk:=D.nx} σ2 H2) (hd:∀i Z H,i=min xs.length ys.length->Pv i Z H->D.nx Z H) :
  ∃W:Nat->Nat->St->Hp->Prop,(∃m,W 0 m Z H)/\∀i m Z H,W i m Z H->
   ((Itz K a b).stop i H/\D.nx Z H)\/((Itz K a b).go i H/\∃N:St->Hp->Prop,(∀Z' H',N Z' H'->∃m',m'<m/\W (i+1) m' Z' H')/\∀x H',(Itz K a b).yld i H x H'->g x Z H' λσ2 H2=>tb {D with nx:=N,ct:=N,bk:=D.nx} σ2 H2):=by
 refine⟨λi m Z H=>m=xs.length-i/\i<=xs.length/\i<=ys.length/\Pv i Z H,⟨xs.length,by simp,aT _,aT _,h0⟩,?_⟩;rintro i m Z H ⟨rfl,hi,hj,p⟩;obtain⟨q,q'⟩:=hl i Z H hi hj p;by_cases hlt:i<xs.length/\i<ys.length
 .refine .inr ⟨⟨xs,ys,xs[i]'hlt.1,ys[i]'hlt.2,q,q',aX hlt.1,aX hlt.2⟩,Pv (i+1),λZ' H' p'=>⟨xs.length-(i+1),by lia,rfl,hlt.1,hlt.2,p'⟩,λx H' y=>?_⟩;obtain⟨b',v,v',hb,rfl,rfl,y1,y2⟩:=y;exact hs i v v' b' Z H (y1 xs q) (y2 ys q') p hb
 .exact .inl ⟨⟨xs,ys,q,q',by lia⟩,hd i Z H (by lia) p⟩
end L2
end
section
namespace K71
open PySem L2 K51 K31 K15
def code (N:Nat) (n:Nat):Int:=if n<N then (n:Int) else -1-((n-N:Nat):Int)
theorem iW {N n:Nat} (h:n<N):code N n=(n:Int):=K3 h
theorem C8 (N i:Nat):code N (N+i)=-1-(i:Int):=by unfold code;rw[K2 (by lia),nj]
theorem kZ (N:Nat):Inj (code N):=by
 intro a b h;unfold code at h
 split at h<;>split at h<;>lia
theorem vd:∀(N:Nat) (ls:Lps) (l:List Nat),caps N (ls++[l])=caps N ls++(sides l).map λs=>((s.2,s.1,N+ls.length):Tri)
 |N,[],l=>by simp[caps]
 |N,m::ls,l=>by
  show ((sides m).map λs=>((s.2,s.1,N):Tri))++caps (N+1) (ls++[l])=_;rw[vd (N+1) ls l,<-bH,aZ,show N+1+ls.length=N+(ls.length+1) by lia];rfl
theorem qL:∀(N:Nat) (ls:Lps),(caps N ls).length=ls.flatten.length
 |_,[]=>rfl
 |N,l::ls=>by
  show (((sides l).map λs=>((s.2,s.1,N):Tri))++caps (N+1) ls).length=_;rw[ar,aQ,jk,qL,y_,ar]
theorem DG {l:List Nat} {k:Nat} (h:k<l.length):(l.drop 1++l.take 1)[k]?=some (l.getD ((k+1)%l.length) 0):=by
 cases l with
 |nil=>simp at h
 |cons a l=>
  have hk:k<l.length+1:=by simpa using h
  show (l++[a])[k]?=_;by_cases e:k=l.length
  .subst e;rw[aZ,ny];simp
  .rw[dS (by lia),aZ,j9 (by lia)];simp[List.getD,show k<l.length by lia]
theorem qP {N:Nat}:∀{vs:List V} {ts:List Tri},bh H vs ts->(∀t∈ts,t.1<N/\t.2.1<N/\t.2.2<N)->eD (code N) H vs ts
 |_,_,.nil,_=>.nil
 |_,_,.cons ⟨a,e,h⟩ t,hb=>.cons (let ⟨h1,h2,h3⟩:=hb _ fE;⟨a,e,by rw[iW h1,iW h2,iW h3];exact h⟩) (qP t λx hx=>hb x (aY _ hx))
theorem eD.same {φ:Nat->Int} {ts:List Tri} (s:Same H H') (h:eD φ H vs ts):eD φ H' vs ts:=Paired.imp' (λ_ _ ⟨a,e,q⟩=>⟨a,e,s _ _ q⟩) h
theorem eD.move {φ:Nat->Int} {ts:List Tri} (s:∀t o,H t=some (.tup o)->H' t=some (.tup o)) (h:eD φ H vs ts):eD φ H' vs ts:=Paired.imp' (λ_ _ ⟨a,e,q⟩=>⟨a,e,s _ _ q⟩) h
def Bf (N:Nat) (vs:List V) (H:Hp) (Q:VK) (T:Addr) (vt:List V) (ts:List Tri):Prop:=vs=[.ref T]/\H T=some (.lst vt)/\bh H vt ts/\ts.length<=100/\Good ts/\(∀c,Co ts c->One (En ts) c)/\(∀t∈ts,t.1<N/\t.2.1<N/\t.2.2<N)/\
 ∀r vr ls H',H r=none->Same H H'->H' r=some (.lst vr)->eD (code N) H' vr (ts++caps N ls)->Rims (a_ (En ts)) ls->(∀l∈ls,∀c∈l,c<N)->ls.flatten.length<=300->Q (.ref r) H'
def qB (N:Nat):Sp:=λvs H Q _=>Exists (Ex3 (Bf N vs H Q))
theorem oZ {ts:List Tri} {N:Nat} (hb:∀t∈ts,t.1<N/\t.2.1<N/\t.2.2<N) {a b c:Nat} (h:En ts a b c):a<N:=by
 rcases dv.mp h with z|z|z
 .exact (hb _ z).1
 .exact (hb _ z).2.1
 .exact (hb _ z).2.2
theorem vv {ts:List Tri} {ls:Lps} (g:Good ts) (o:∀c,Co ts c->One (En ts) c) (h:Rims (a_ (En ts)) ls):ls.flatten.length<=3*ts.length/\ls.length<=ls.flatten.length:=by
 refine⟨?_,w8 λl hl=>(h.cyc l hl).ne⟩;have:=n8 (uQ (uK g o).2.1 h) (m:=(ents ts).map (·.1.1)) λp hp=>by
  obtain⟨m,hm,hpm⟩:=jg.mp hp;obtain⟨q,_,⟨c,hq⟩,_⟩:=(h.cyc m hm).step hpm;exact aw.mpr ⟨_,hq,rfl⟩
 rw[aQ,ents_len] at this;exact this
theorem DI {ts:List Tri} {ls:Lps} {N:Nat} (h:Rims (a_ (En ts)) ls) (hb:∀t∈ts,t.1<N/\t.2.1<N/\t.2.2<N):∀l∈ls,∀c∈l,c<N:=by intro l hl c hc;obtain⟨q,_,⟨x,hq⟩,_⟩:=(h.cyc l hl).step hc;exact oZ hb hq
theorem Dl {φ:Nat->Int} {ts:List Tri} {l:List Nat} (h:eD φ H vs ts) (e:vs=nV l) (hl:l≠[]):False:=by
 cases l with
 |nil=>exact hl rfl
 |cons c l=>
  cases h with
  |nil=>cases e
  |cons h0 _=>
   obtain⟨b,e1,_⟩:=h0;rw[e1] at e;cases e
section
theorem ju:bS ["_law_triples","_law_found","_law_i","_law_rim","_law_p","_law_q"] ["_law_triples"] (bu kW):=by walk_at"sc"
theorem Bo {N:Nat} {f f1:Addr} {fd d1:FuncData} (U:Fun K "_law_capped" "_law_capped" kW f fd) (T:di mg) (mZ:mg "zip" = none)
  (GR:Use P w K mg base 3 "_law_rims" ["_law_triples"] wk f1 d1) :
  FnOk P w K mg base CX0 4 f fd ["_law_triples"] (qB N):=by
 refine U.ok ju (λvs H Q E h=>?_) (λcdv A outer s H vs Q E hr h=>?_)
 .obtain⟨TT,vt,ts,rfl,_⟩:=h;rfl
 .obtain⟨TT,vt,ts,rfl,hT,tr,hl,g,hone,hN,q⟩:=h;refine⟨_,ak (aA (i:=1) ju.nd rfl (.inl rfl) (ff iM (by rfl) T.list j_ (aa (pv 0) ae)))
   (ak (dh cD rfl (rf rfl T.enum (aa (aP GR.g hr rfl GR.m GR.k GR.b .nil pass0 (aa (pv 0) ae)) ae)) (dX rfl (bB (aK (i:=2) ju.nd rfl (.inl rfl)) (bB (aK (i:=3) ju.nd rfl (.inl rfl)) dt)))
    (au (dh cD rfl (xA rfl mZ (aa (pv 3) (aa (aD dI (cS cT (pv 3) (ck ag) dq) (cS cT (pv 3) dq (ck ag))) ae))) (dX rfl (bB (aK (i:=4) ju.nd rfl (.inl rfl)) (bB (aK (i:=5) ju.nd rfl (.inl rfl)) dt)))
     (au (cy (cK cM da de cN (pv 1) (aa (aN (aa (pv 5) (aa (pv 4) (aa (aD fU (dA dz ag) (pv 2)) ae)))) ae)))))))
   (au (bj (pv 1)))),?_⟩
  have hline:=line5000;have hlt:=aU tr;refine⟨_,rfl,TT,_,rfl,.inl (SqL.of hT),λF H1 hF s1 y1=>?_⟩;refine⟨_,rfl,TT,vt,ts,rfl,s1 _ _ hT,tr.same s1,by lia,g,hone,λR vr ls H2 hR s2 y2 lp rims=>?_⟩;obtain⟨lf,ll⟩:=vv g hone rims;have bl:=DI rims hN;have hlr:=aU lp;have s02:=s1.trans s2;have hF2:=s2 _ _ y1;have bF:∀{b:Addr} {l:List Nat},H2 b=some (.lst (nV l))->l≠[]->b≠F:=λ{b l} hb hl z=>by
   rw[z,hF2] at hb;injection hb with hb;injection hb with hb;exact Dl (qP tr hN) hb hl
  have RF:R≠F:=λz=>by rw[z,y1] at hR;cases hR
  have F0:H F=none:=hF;refine⟨R,_,rfl,SqL.of y2,vP (K:=[]) (a:=R) (xs:=vr) (λi Z H3=>∃o2 o3 o4 o5 vf,Z=[some (.ref TT),some (.ref F),o2,o3,o4,o5]/\But F H2 H3/\H3 F=some (.lst vf)/\eD (code N) H3 vf (ts++caps N (ls.take i)))
   ⟨none,none,none,none,vt,rfl,λ_ _ _ e=>e,hF2,by simp only[pW,caps,cZ];exact (qP tr hN).same s02⟩ (λi Z H3 _ ⟨_,_,_,_,_,_,bt,_⟩=>SqL.of (bt _ _ RF y2)) ?_ ?_⟩
  .rintro i v pt Z H3 hi ⟨o2,o3,o4,o5,vf,rfl,bt,hF3,tf⟩ hpt;obtain⟨l,hs,b,rfl,hb⟩:=dG lp hi;have hil:i<ls.length:=(aS.mp hs).1;have hlm:l∈ls:=a7 hs;have hlne:l≠[]:=(rims.cyc l hlm).ne;have hbF:=bF hb hlne;have fl:=Ed hlm;walk_at"H3 pt hpt H4 s4 y4";have b4:=bt.same s4;refine⟨pt,_,rfl,SqT.of y4,rfl,_,_,rfl,_,_,rfl,rfl,?_⟩;have hb4:=b4 _ _ hbF hb;refine⟨_,rfl,_,rfl,1,rfl,b,_,rfl,SqL.of hb4,λp5 H5 h5 s5 y5=>?_⟩;rw[Et l 1 1 rfl] at y5;refine⟨_,rfl,1,rfl,b,_,rfl,SqL.of (s5 _ _ hb4),λp6 H6 h6 s6 y6=>?_⟩;rw[sr l 1 1 rfl] at y6;refine⟨p5,p6,_,_,rfl,rfl,s6 _ _ y5,y6,by rw[bO,bO,aW,bG];lia,λp7 H7 h7 s7 y7=>?_⟩;rw[gP] at y7;have s47:=(s5.trans s6).trans s7;have b7:=b4.same s47;have hF7:=s47 _ _ (s4 _ _ hF3);have n7F:p7≠F:=λz=>by
    rw[z] at h7;have:=s6 _ _ (s5 _ _ (s4 _ _ hF3));rw[this] at h7;cases h7
   refine⟨b,p7,_,_,rfl,SqL.of (b7 _ _ hbF hb),SqL.of y7,wO (K:=[]) (a:=b) (b:=p7) (xs:=nV l) (ys:=nV (l.drop 1++l.take 1)) (λk Z H8=>∃o4 o5 vf,Z=[some (.ref TT),some (.ref F),some (.int (i:Int)),some (.ref b),o4,o5]/\But F H7 H8/\H8 F=some (.lst vf)/\eD (code N) H8 vf (ts++caps N (ls.take i)++((sides l).take k).map λs=>((s.2,s.1,N+i):Tri)))
    ⟨o4,o5,vf,rfl,λ_ _ _ e=>e,hF7,by simp only[pW,eO,cZ];exact (tf.same s4).same s47⟩ (λk Z H8 _ _ ⟨_,_,_,_,bt8,_⟩=>⟨SqL.of (bt8 _ _ hbF (b7 _ _ hbF hb)),SqL.of (bt8 _ _ n7F y7)⟩) ?_ ?_⟩
   .rintro k x y pk Z H8 hx hy ⟨o4,o5,vf,rfl,bt8,hF8,tf8⟩ hpk;have hk:k<l.length:=by
     have:=(aS.mp hx).1;rw[bO] at this;exact this
    have hg:l[k]?=some (l.getD k 0):=by simp[List.getD,hk]
    have hsd:=jl l k hk;have hg2:=DG hk;have bc:=bl l hlm _ (a7 hg);have bd:l.getD ((k+1)%l.length) 0<N:=bl l hlm _ (by
     have:=a7 hg2;rcases ay.mp this with z|z
     .exact eK z
     .exact gE z)
    generalize l.getD k 0=c at hg hsd bc;generalize l.getD ((k+1)%l.length) 0=d at hg2 hsd bd;rw[dY hg] at hx;rw[dY hg2] at hy;cases hx;cases hy;walk_at"H8 pk hpk H9 s9 y9";refine⟨pk,_,rfl,SqT.of y9,rfl,_,_,rfl,_,_,rfl,rfl,?_⟩;have hF9:=s9 _ _ hF8;refine⟨_,rfl,.inl ⟨rfl,_,SqL.of hF9⟩,_,rfl,_,rfl,_,rfl,_,rfl,_,_,rfl,rfl,lit3,λpa Ha ga sa ya=>?_⟩;have hFa:=sa _ _ hF9;have lv:=aU tf8;rw[ar,ar,qL,aQ,bG,jk] at lv;have lt1:(ls.take i).flatten.length<=ls.flatten.length:=by
     conv=>rhs;rw[<-fc i ls,yY,ar]
     lia
    refine⟨F,_,_,rfl,rfl,hFa,by lia,λHb kb yb=>?_⟩;have bb:But F H7 Hb:=λc o n e=>(kb c n).trans (sa _ _ (s9 _ _ (bt8 c o n e)));have tp:∀t o,Ha t=some (.tup o)->Hb t=some (.tup o):=λt o e=>(kb t (bM e hFa (by intro z;cases z))).trans e;refine⟨_,_,_,rfl,bb,yb,?_⟩;rw[cU,hsd,bI,<-bH];refine cX (((tf8.same s9).same sa).move tp) (.cons ⟨pa,rfl,?_⟩ .nil);refine (tp _ _ ya).trans ?_;rw[iW bd,iW bc,C8]
   .rintro k Z H8 hk ⟨o4,o5,vf,rfl,bt8,hF8,tf8⟩;have ek:k=l.length:=by
     rw[hk,bO,bO,ar,aW,bG];have:=iE.mpr hlne;lia
    rw[show (sides l).take k=sides l from gG (by rw[jk];lia)] at tf8;refine⟨_,_,_,_,vf,rfl,λc o n e=>bt8 c o n (b7 c o n e),hF8,?_⟩;have et:ls.take (i+1)=ls.take i++[l]:=by rw[cU,hs];rfl
    rw[et,vd,<-bH,bG,nq (by lia)];exact tf8
  .rintro Z H3 ⟨o2,o3,o4,o5,vf,rfl,bt,hF3,tf⟩;rw[hlr,fY] at tf;exact⟨_,rfl,q F vf ls H3 hF (λc o e=>bt c o (ax e hF) (s02 _ _ e)) hF3 tf rims bl (by lia)⟩
end
end K71
end
section
namespace K71
open K31 K51 K15
structure WS (cs:List Tri) (a0 b0:Nat) (ds:List Tri) (ls:Lps) (come:List Nat):Prop where
 wi:WI (En cs) a0 b0 ds (tn ls)
 two:∀l∈ls,2<=l.length
 st:ds=[]->ls=[[a0,b0]]/\come=[a0,b0]
 cm:ds≠[]->∀x,x∈come↔∃p q,En ds x p q
 lc:come.length<=ds.length+2
theorem lV {ds:List Tri} {a b x y p q:Nat}:En (ds++[(a,b,x)]) y p q↔En ds y p q\/(y,p,q)=(a,b,x)\/(y,p,q)=(b,x,a)\/(y,p,q)=(x,a,b):=by
 unfold En;rw[dv,dv];simp only[ay,aR,bq];constructor
 .rintro ((h|h)|(h|h)|(h|h))
  .exact .inl (.inl h)
  .exact .inr (.inl h)
  .exact .inl (.inr (.inl h))
  .exact .inr (.inr (.inl ⟨h.2.1,h.2.2,h.1⟩))
  .exact .inl (.inr (.inr h))
  .exact .inr (.inr (.inr ⟨h.2.2,h.1,h.2.1⟩))
 .rintro ((h|h|h)|h|h|h)
  .exact .inl (.inl h)
  .exact .inr (.inl (.inl h))
  .exact .inr (.inr (.inl h))
  .exact .inl (.inr h)
  .exact .inr (.inl (.inr ⟨h.2.2,h.1,h.2.1⟩))
  .exact .inr (.inr (.inr ⟨h.2.1,h.2.2,h.1⟩))
section
variable {cs:List Tri} {a0 b0:Nat} {ds:List Tri} {ls:Lps} {come:List Nat}
theorem WS.start (k:Clo (En cs)) {c:Nat} (h:En cs a0 b0 c):WS cs a0 b0 [] [[a0,b0]] [a0,b0]:=
 ⟨wi0 k h,by simp,λ_=>⟨rfl,rfl⟩,λh=>(h rfl).elim,by simp⟩
theorem EX (ls:Lps):(ls.map List.length).sum=(tn ls).length:=by
 have:(tn ls).length=(wl ls).length:=by rw[<-kO,aQ]
 rw[this];unfold wl;rw[List.length_flatMap]
 congr 1
 exact pQ λl _=>(jk l).symm
theorem WS.size (h:WS cs a0 b0 ds ls come):(ls.map List.length).sum<=3*cs.length:=by
 rw[EX];have h1:=xG (l:=(tn ls).map (·.2)) (m:=(ents cs).map (·.1)) h.wi.nd λx hx=>by
  obtain⟨⟨p,v,n⟩,ht,rfl⟩:=aw.mp hx;obtain⟨⟨c,hc⟩,_⟩:=h.wi.ed ht;exact aw.mpr ⟨_,hc,rfl⟩
 rw[aQ,aQ,K15.ents_len] at h1;exact h1
theorem WS.look {ah:Lps} {a b:Nat} {t:List Nat} (k:Clo (En cs)) (h:WS cs a0 b0 ds (ah++[a::b::t]) come) :
  ds.length<cs.length/\∃x,En cs a b x/\∃z rs,(x∈come->Rot (En cs) (λs=>s∈wl (ah++[a::b::t])) a x z rs)/\
   ∀lt n,(x∉come/\lt=.sg 67/\n=x\/x∈come/\Which (λs=>s∈wl (ah++[a::b::t])) (At (ah++[a::b::t])) a b x z lt)->
    aM ah (a::b::t) lt n=some x/\Lets lt/\WS cs a0 b0 (ds++[(a,b,x)]) (bK ah (a::b::t) lt x) (if lt=.sg 67 then come++[x] else come):=by
 have hab:(a,b)∈wl (ah++[a::b::t]):=jH.mpr ⟨a::b::t,by simp,by simp[sides,path]⟩;obtain⟨p,hp⟩:=iu.mp hab;obtain⟨⟨x,hx⟩,hn,hd⟩:=h.wi.ed hp;have ab:=k.sk.ne hx;have bx:=k.sk.ne (k.sk.rot hx);have xa:=k.sk.ne (k.sk.rot (k.sk.rot hx));have two':∀l∈ah,2<=l.length:=λl hl=>h.two l (cf _ hl);refine⟨h.wi.less hp,x,hx,?_⟩;have cab:a∈come/\b∈come:=by
  by_cases e:ds=[]
  .obtain⟨e1,e2⟩:=h.st e;have e3:a::b::t=[a0,b0]:=by
    have:=congrArg List.getLast? e1;simpa using this
   injection e3 with e4 e5;injection e5 with e5 e6;rw[e2,e4,e5];simp
  .obtain⟨c,hc⟩:=hd.resolve_left e;exact⟨(h.cm e a).mpr ⟨_,_,eN hc⟩,(h.cm e b).mpr ⟨_,_,hc⟩⟩
 have old:x∈come->∃p q,En ds x p q:=λhc=>by
  by_cases e:ds=[]
  .obtain⟨e1,e2⟩:=h.st e;have e3:a::b::t=[a0,b0]:=by
    have:=congrArg List.getLast? e1;simpa using this
   injection e3 with e4 e5;injection e5 with e5 e6;rw[e2,<-e4,<-e5] at hc;simp only[af,a8,or_false] at hc;rcases hc with z|z
   .exact (xa z).elim
   .exact (bx z.symm).elim
  .exact (h.cm e x).mp hc
 have new:x∉come->∀p q,¬En ds x p q:=λhc p q hq=>by
  by_cases e:ds=[]
  .rw[e] at hq;cases hq
  .exact hc ((h.cm e x).mpr ⟨p,q,hq⟩)
 have cm':∀cm:List Nat,(∀y,y∈cm↔y∈come\/y=x)->∀y,y∈cm↔∃p q,En (ds++[(a,b,x)]) y p q:=λcm hcm y=>by
  rw[hcm];constructor
  .rintro (hy|rfl)
   .by_cases e:ds=[]
    .obtain⟨e1,e2⟩:=h.st e;have e3:a::b::t=[a0,b0]:=by
      have:=congrArg List.getLast? e1;simpa using this
     injection e3 with e4 e5;injection e5 with e5 e6;rw[e2,<-e4,<-e5] at hy;simp only[af,a8,or_false] at hy;rcases hy with rfl|rfl
     .exact⟨_,_,lV.mpr (.inr (.inl rfl))⟩
     .exact⟨_,_,lV.mpr (.inr (.inr (.inl rfl)))⟩
    .obtain⟨p,q,hq⟩:=(h.cm e y).mp hy;exact⟨p,q,lV.mpr (.inl hq)⟩
   .exact⟨_,_,lV.mpr (.inr (.inr (.inr rfl)))⟩
  .rintro⟨p,q,hq⟩;rcases lV.mp hq with z|z|z|z
   .by_cases e:ds=[]
    .rw[e] at z;cases z
    .exact .inl ((h.cm e y).mpr ⟨p,q,z⟩)
   .injection z with z _;rw[z];exact .inl cab.1
   .injection z with z _;rw[z];exact .inl cab.2
   .injection z with z _;exact .inr z
 have fin:∀lt n,aM ah (a::b::t) lt n=some x->Lets lt->WI (En cs) a0 b0 (ds++[(a,b,x)]) (tn (bK ah (a::b::t) lt x))->(x∈come\/lt=.sg 67)->WS cs a0 b0 (ds++[(a,b,x)]) (bK ah (a::b::t) lt x) (if lt=.sg 67 then come++[x] else come):=λlt n h1 h2 h3 h4=>by
  refine⟨h3,(uu (h.two _ (by simp)) h2 h1 two').1,λe=>by simp at e,λ_=>cm' _ λy=>?_,?_⟩
  .split
   .simp
   .rename_i hne;exact⟨.inl,λz=>z.elim id λe=>e ▸ h4.resolve_right hne⟩
  .have:=h.lc
   split
   .rw[ar,ar,bg,bg];lia
   .rw[ar,bg];lia
 by_cases hc:x∈come
 .obtain⟨rs,z,r1,r2,r3,r4,r5,r6⟩:=A9 k h.wi hx (old hc) two';refine⟨z,rs,λ_=>⟨r1,r2,r3,r4,r5⟩,λlt n hl=>?_⟩;have hw:=(hl.resolve_left λz=>z.1 hc).2;obtain⟨h1,h2,h3⟩:=r6 lt hw n;exact⟨h1,h2,fin lt n h1 h2 h3 (.inl hc)⟩
 .refine⟨0,[],λz=>(hc z).elim,λlt n hl=>?_⟩;obtain⟨_,rfl,rfl⟩:=hl.resolve_right λz=>hc z.1;have h1:aM ah (a::b::t) (.sg 67) n=some n:=rfl;have h2:Lets (.sg 67):=by simp[Lets]
  exact⟨h1,h2,fin _ n h1 h2 (A_ k h.wi hx (new hc)) (.inr rfl)⟩
end
end K71
end
section
namespace K71
open PySem L2 K51 K31 K15
theorem _root_.L2.FnOk.ex {CX:CXT} {k:Nat} {f:Addr} {ps:List Str} {α:Sort _} {p:α->Prop} {sp:α->Sp} (h:∀a,p a->FnOk P w K mg base CX k f fd ps (sp a)) :
  FnOk P w K mg base CX k f fd ps (λvs H Q E=>∃a,p a/\sp a vs H Q E):=
 ⟨λvs H Q E ⟨a,ha,q⟩=>(h a ha).len vs H Q E q,λA outer s H args us vs Q E hr he hb hv ⟨a,ha,q⟩=>(h a ha).run A outer s H args us vs Q E hr he hb hv q⟩
def spXB (sp:(Nat->Int)->Sp) (vs:List V) (H:Hp) (Q:VK) (E:XK) (φ:Nat->Int):Prop:=(∀a b:Nat,φ a=φ b->a=b)/\sp φ vs H Q E
def spX (sp:(Nat->Int)->Sp):Sp:=λvs H Q E=>Exists (spXB sp vs H Q E)
def spNB (sp:Nat->Sp) (vs:List V) (H:Hp) (Q:VK) (E:XK) (N:Nat):Prop:=True/\sp N vs H Q E
def spN (sp:Nat->Sp):Sp:=λvs H Q E=>Exists (spNB sp vs H Q E)
theorem BE {a D:Addr} {g:TG} {tt:TT} {te:TE} {Z':St} {H1:Hp} {Q:Hp->Prop} (Pv:Nat->St->List V->Hp->Prop) (h0:Pv 0 Z' [] (upd H1 D (.lst []))) (hl:∀i Z ys H,i<=xs.length->Pv i Z ys H->SqL K H a xs)
  (hs:∀i x p Z ys H,xs[i]?=some x->Pv i Z ys H->H p=none->g (.ref p) Z (upd H p (.tup [.int (i:Int),x])) (mQ tt te D ys (Pv (i+1))))
  (hd:∀Z ys H,Pv xs.length Z ys H->Q H):iX (Ite K a) g tt te D Z' H1 Q:=by
 refine⟨λi m Z ys H=>m=xs.length-i/\i<=xs.length/\Pv i Z ys H,⟨xs.length,by simp,aT _,h0⟩,?_⟩;rintro i m Z ys H ⟨rfl,hi,p⟩;have q:=hl i Z ys H hi p;by_cases hlt:i<xs.length
 .refine .inr ⟨⟨xs,xs[i],q,by simp[hlt]⟩,Pv (i+1),λZ' ys' H' p'=>⟨xs.length-(i+1),by lia,rfl,hlt,p'⟩,λx H' y=>?_⟩;obtain⟨b,v,hb,rfl,rfl,y⟩:=y;exact hs i v b Z ys H (y xs q) p hb
 .have e:i=xs.length:=by lia
  subst e;exact .inl ⟨⟨xs,q,aC _⟩,hd Z ys H p⟩
def Small:Lt->Prop
 |.sg _=>True
 |.sp j k=>j<=1000/\k<=1000
theorem xQ {φ:Nat->Int}:∀l:List Nat,Dts K H (cV φ l) (l.map λn:Nat=>PyData.int (φ n))
 | []=>.nil
 |_::l=>.cons (.int _) (xQ l)
theorem vS {φ:Nat->Int}:∀{vs:List V} {ls:Lps},cw φ H vs ls->Dts K H vs (ls.map λl=>PyData.list (l.map λn:Nat=>PyData.int (φ n)))
 |_,_,.nil=>.nil
 |_,_,.cons ⟨_,e,h⟩ t=>e ▸ .cons (.lst (SqL.of h) (xQ _)) (vS t)
theorem C3 {φ:Nat->Int} (ls:Lps):(PyData.list (ls.map λl=>PyData.list (l.map λn:Nat=>PyData.int (φ n)))).depth<=4:=by
 have h1:∀l:List Nat,PyData.depthAll (l.map λn:Nat=>PyData.int (φ n))<=1:=λl=>by
  induction l with
  |nil=>simp[PyData.depthAll]
  |cons a l ih=>simp only[aB,PyData.depthAll,PyData.depth];lia
 have h2:PyData.depthAll (ls.map λl=>PyData.list (l.map λn:Nat=>PyData.int (φ n)))<=2:=by
  induction ls with
  |nil=>simp[PyData.depthAll]
  |cons a ls ih=>
   simp only[aB,PyData.depthAll,PyData.depth];have:=h1 a;lia
 simp only[PyData.depth];lia
theorem iU (a b:Lt):PyData.eqv (ltD a) (ltD b)=decide (a=b):=by rw[dn,lU _ _ (qG a) (qG b),decide_eq_true_eq];exact⟨wJ,λe=>by rw[e]⟩
theorem fh {a:Lt} (h:Lets a):a.ok:=by
 cases a with
 |sg c=>
  simp only[K31.Lets] at h;rcases h with rfl|rfl|rfl|rfl<;>rfl
 |sp j k=>trivial
theorem lh:∀{ls:Lps} {l:List Nat},l∈ls->l.length<=(ls.map List.length).sum
 | [],_,h=>by cases h
 |m::ls,l,h=>by
  rw[aB,fH];rcases af.mp h with rfl|h
  .lia
  .have:=lh h;lia
theorem lq:∀{ls:Lps},(∀l∈ls,2<=l.length)->ls.length<=(ls.map List.length).sum
 | [],_=>by simp
 |l::ls,h=>by
  rw[aB,fH,aZ];have:=h l fE;have:=lq λm hm=>h m (aY _ hm);lia
theorem jo {ls:List Lt} (e:∀t xs,H t=some (.tup xs)->H' t=some (.tup xs)) (h:bU H vs ls):bU H' vs ls:=Paired.imp' (λ_ _ q=>q.move e) h
theorem An {ls:Lps} {W:Side->Prop} {a b x z:Nat} {lt:Lt} (two:∀l∈ls,2<=l.length) (hs:(ls.map List.length).sum<=720) (h:Which W (At ls) a b x z lt):Small lt:=by
 rcases h with ⟨rfl,_⟩|⟨rfl,_⟩|⟨rfl,_⟩|⟨j,k,rfl,_,_,o,hj,ho,hk,_⟩
 .trivial
 .trivial
 .trivial
 .have h1:=lq two;have h2:=lh (a7 ho);exact⟨by lia,by lia⟩
def teN (K:W.Frag):TE:=tOp (sN []) (sF (i7 (eh 0) (i7 (L2.tC .non) mO))) (tCB (λxs H Q=>(∃i,xs=[.int i]/\Q (.int i) H)\/∃k,xs=[.bl k]/\Q (.int (if k then 1 else 0)) H) (i7 (tOp (rI0 λi j=>.bl (decide (i<j))) (eh 0) (L2.tC (.int 0))) mO))
def BU (vs:List V) (H:Hp) (Q:VK) (T S:Addr) (vt:List V) (ts:List Tri) (p q c N:Nat):Prop:=vs=[.ref T,.ref S]/\H T=some (.lst vt)/\bh H vt ts/\ts.length<=60/\Good ts/\(∀c,Co ts c->One (En ts) c)/\(∀t∈ts,t.1<N/\t.2.1<N/\t.2.2<N)/\
 H S=some (.tup [.int (p:Int),.int (q:Int)])/\En ts p q c/\
 ∀r W vw lts o1 o2 H',H r=none->H W=none->Same H H'->H' r=some (.tup [.ref W,o1,o2])->H' W=some (.lst vw)->bU H' vw lts->(∀a∈lts,Lets a/\Small a)->lts.length<=240->Q (.ref r) H'
def qR:Sp:=λvs H Q _=>Exists (Ex8 (BU vs H Q))
theorem Gd {ts:List Tri} {ls:Lps} {N:Nat} (g:Good ts) (o:∀c,Co ts c->One (En ts) c) (hb:∀t∈ts,t.1<N/\t.2.1<N/\t.2.2<N) (rims:Rims (a_ (En ts)) ls) (bl:∀l∈ls,∀c∈l,c<N) :
  FI (ts++caps N ls) []:=by
 refine w_ ls ts N (Eg g o rims) (λl hl=>(rims.cyc l hl).nd) λp q h=>?_;rcases ay.mp h with h|h
 .obtain⟨c,hc⟩:=iw.mp h;exact oZ hb hc
 .obtain⟨l,hl,hs⟩:=jH.mp h;obtain⟨m,hm,rfl⟩:=aw.mp hl;exact bl m hm p (fG.mp (kH hs).1)
section
theorem ig:bS ["_law_triples","_law_side","_law_thirds_here","_law_loops","_law_come","_law_word_here","_law_x","_law_letter_here","_law_caps"] ["_law_triples","_law_side"] (bu lD):=by walk_at"sc"
theorem Cq {f f1 f2 f3 f4:Addr} {fd d1 d2 d3 d4:FuncData} (U:Fun K "_law_wound" "_law_wound" lD f fd) (T:di mg)
  (GT:Use P w K mg base 1 "_law_thirds" ["_law_triples"] (spX kG) f1 d1) (GC:Use P w K mg base 4 "_law_capped" ["_law_triples"] (spN qB) f2 d2)
  (GL:Use P w K mg base 2 "_law_letter" ["_law_loops","_law_thirds_here","_law_come","_law_x"] (spX qA) f3 d3) (GS:Use P w K mg base 1 "_law_step" ["_law_loops","_law_letter_here","_law_x"] (spX oq) f4 d4) :
  FnOk P w K mg base CX0 5 f fd ["_law_triples","_law_side"] qR:=by
 refine U.ok ig (λvs H Q E h=>?_) (λcdv A outer s H vs Q E hr h=>?_)
 .obtain⟨TT,S,vt,ts,p,q',c,N,rfl,_⟩:=h;rfl
 .obtain⟨TT,S,vt,ts,p0,q0,c0,N,rfl,hT,tr,hl,g,hone,hN,hS,hpq,q⟩:=h;have hu:=fB hr;have hr1:=hr.mono (show 1<=4 by decide);have hr2:=hr.mono (show 2<=4 by decide);refine⟨_,ak (aA (i:=2) ig.nd rfl (.inl rfl) (aP GT.g hr1 rfl GT.m GT.k GT.b .nil pass0 (aa (aP GC.g hr rfl GC.m GC.k GC.b .nil pass0 (aa (pv 0) ae)) ae)))
   (ak (aA (i:=3) ig.nd rfl (.inl rfl) (br (aa (ff iM (by rfl) T.list j_ (aa (pv 1) ae)) ae)))
   (ak (aA (i:=4) ig.nd rfl (.inl rfl) (ff iM (by rfl) T.list j_ (aa (pv 1) ae)))
   (ak (aA (i:=5) ig.nd rfl (.inl rfl) (br ae))
   (ak (ib cD (aL (gO hr.units) (pv 3) (br ae) (nomark _))
    (ak (aA (i:=6) ig.nd rfl (.inl rfl) (gN hu (pv 2) (aN (aa (aq aI (aq aI (pv 3) (dA dz ag) (λ_ _=>rfl)) ag (λ_ _=>rfl)) (aa (aq aI (aq aI (pv 3) (dA dz ag) (λ_ _=>rfl)) ag (λ_ _=>rfl)) ae))) (λ_ _=>rfl)))
    (ak (aA (i:=7) ig.nd rfl (.inl rfl) (aP GL.g hr2 rfl GL.m GL.k GL.b .nil pass0 (aa (pv 3) (aa (pv 2) (aa (pv 4) (aa (pv 6) ae))))))
    (ak (cy (cK cM da de cN (pv 5) (aa (pv 7) ae)))
    (ak (bL (aL (iq hr.units) (pv 7) (aN (aa b_ ae)) (nomark _)) (au (cy (cK cM da de cN (pv 4) (aa (pv 6) ae)))) bJ)
    (au (cy (aP GS.g hr1 rfl GS.m GS.k GS.b .nil pass0 (aa (pv 3) (aa (pv 7) (aa (pv 6) ae)))))))))))
   (ak (lO (i:=8) (N:=["_law_k","_law_corner"]) (fr:=[none,none]) (g:=mW [] 2 (gR (dZ 0) (gR (dZ 1) mX))) (uz (by decide +kernel) rfl (by decide +kernel) (by decide +kernel)) rfl (rf rfl T.enum (aa (pv 4) ae))
     (λC' s' H' fp pins=>⟨dX rfl (bB (aK (i:=0) (show (["_law_k","_law_corner"]:List Str).Nodup by decide +kernel) rfl (.inl rfl) (.inr rfl)) (bB (aK (i:=1) (show (["_law_k","_law_corner"]:List Str).Nodup by decide +kernel) rfl (.inl rfl) (.inr rfl)) dt)),gM (aL fW (pv 1) ag (nomark _)),pv 0⟩) ig.nd rfl (.inl rfl))
   (au (bj (aN (aa (pv 5) (aa (pv 8) (aa (gj (N:=["_law_corner"]) (fr:=[none]) (te:=teN K) (uz (by decide +kernel) rfl (by decide +kernel) (by decide +kernel)) rfl (dr (pv 4))
     (λC' s' H' fp pins=>⟨aK (i:=0) (show (["_law_corner"]:List Str).Nodup by decide +kernel) rfl (.inl rfl) (.inr rfl),jD,aq aI (br (aa (pv 0) (aa fk ae))) (ff qr (by rfl) T.int zw (aa (oz fW (pv 0) ag (nomark _)) ae)) (λ_ _=>rfl)⟩)) ae))))))))))),?_⟩
  have hline:=line5000;refine⟨_,rfl,N,trivial,TT,vt,ts,rfl,hT,tr,by lia,g,hone,hN,λR vr rl H1 hR s1 y1 tc rims bl lf=>?_⟩;have fi:=Gd g hone hN rims bl;have k:=fi.clo;have lcs:(ts++caps N rl).length<=240:=by rw[ar,qL];have:=(vv g hone rims).1;lia
  have hin:En (ts++caps N rl) p0 q0 c0:=by unfold En at hpq |-;rw[K15.ents_app];exact cf _ hpq
  have hpN:=oZ hN hpq;have hqN:=oZ hN (g.sk.rot hpq);have ndc:=fi.good;generalize hcs:ts++caps N rl=cs at tc k lcs hin ndc;refine⟨code N,λa b h=>kZ N h,R,vr,cs,rfl,y1,tc,by lia,ndc,λD H2 hD s2 y2=>?_⟩;have s02:=s1.trans s2;refine⟨_,rfl,S,_,rfl,.inr (SqT.of (s02 _ _ hS)),λB H3 hB s3 y3=>?_⟩;refine⟨lit1,λL H4 hL s4 y4=>?_⟩;have s04:=(s02.trans s3).trans s4;refine⟨_,rfl,S,_,rfl,.inr (SqT.of (s04 _ _ hS)),λC H5 hC s5 y5=>?_⟩;refine⟨aT _,λW H6 hW s6 y6=>?_⟩;have s06:=(s04.trans s5).trans s6;have n1:H L=none:=(s02.trans s3).free hL;have n2:H C=none:=s04.free hC;have n3:H W=none:=(s04.trans s5).free hW;have n4:H D=none:=s1.free hD;have e0:∀x y:Nat,x<N->y<N->[V.int (x:Int),V.int (y:Int)]=cV (code N) [x,y]:=λx y hx hy=>by
   show _=[V.int (code N x),V.int (code N y)];rw[iW hx,iW hy]
  have y3':H6 B=some (.lst (cV (code N) [p0,q0])):=((s4.trans s5).trans s6) _ _ (y3.trans (by rw[e0 p0 q0 hpN hqN]));have y4':=(s5.trans s6) _ _ y4;have y5':H6 C=some (.lst (cV (code N) [p0,q0])):=s6 _ _ (y5.trans (by rw[e0 p0 q0 hpN hqN]));have yD:=(((s3.trans s4).trans s5).trans s6) _ _ y2;have dLC:L≠C:=ax y4 hC;have dLW:L≠W:=ax (s5 _ _ y4) hW;have dCW:C≠W:=ax y5 hW;have dDL:D≠L:=ax (s3 _ _ y2) hL;have dDC:D≠C:=ax (s4 _ _ (s3 _ _ y2)) hC;have dDW:D≠W:=ax (s5 _ _ (s4 _ _ (s3 _ _ y2))) hW;refine kE (λZ H'=>∃o6 o7 come vw lts,Z=[some (.ref TT),some (.ref S),some (.ref D),some (.ref L),some (.ref C),some (.ref W),o6,o7,none]/\Same H H'/\H' C=some (.lst (cV (code N) come))/\H' W=some (.lst vw)/\bU H' vw lts/\(∀a∈lts,Lets a/\Small a)/\lts.length<=240/\come.length<=242) (λNX hOut=>?_) ?_
  .refine⟨λm Z H'=>∃o6 o7 vl ls come vw lts ds,Z=[some (.ref TT),some (.ref S),some (.ref D),some (.ref L),some (.ref C),some (.ref W),o6,o7,none]/\m=240-ds.length/\Same H H'/\H' D=some (.dT ((ents cs).map (enC (code N))))/\H' L=some (.lst vl)/\cw (code N) H' vl ls/\H' C=some (.lst (cV (code N) come))/\H' W=some (.lst vw)/\bU H' vw lts/\(∀a∈lts,Lets a/\Small a)/\lts.length=ds.length/\ds.length<=240/\WS cs p0 q0 ds ls come/\(∀b,V.ref b∈vl->b≠C/\b≠W),
    ⟨_,none,none,_,[[p0,q0]],[p0,q0],[],[],[],rfl,rfl,s06,yD,y4',.cons ⟨B,rfl,y3'⟩ .nil,y5',y6,.nil,by simp,rfl,by simp,WS.start k hin,λb hb=>?_⟩,?_⟩
   .have:b=B:=by simpa using hb
    rw[this];exact⟨ax (s4 _ _ y3) hC,ax (s5 _ _ (s4 _ _ y3)) hW⟩
   rintro m Z H7 ⟨o6,o7,vl,ls,come,vw,lts,ds,rfl,rfl,sm,hD7,hL7,lp,hC7,hW7,let7,hlt,ell,ldl,ws,vlC⟩;refine⟨_,rfl,aT _,λpe H8 hpe s8 y8=>?_⟩;have lp8:=cw.same s8 lp;refine⟨_,_,.lst (SqL.of (s8 _ _ hL7)) (vS lp8),.lst (SqL.of y8) .nil,bV (C3 ls) (by decide),_,rfl,?_⟩;rw[K3 rfl,jw];by_cases hls:ls=[]
   .subst hls;refine av (hOut _ _ ⟨o6,o7,come,vw,lts,rfl,sm.trans s8,s8 _ _ hC7,s8 _ _ hW7,let7.same s8,hlt,by lia,?_⟩);have:=ws.lc;lia
   .rw[show (ls.map λl=>PyData.list (l.map λn:Nat=>PyData.int (code N n))).isEmpty=false by simp[hls]];obtain⟨ah,loop,rfl⟩:∃ah loop,ls=ah++[loop]:=⟨ls.dropLast,ls.getLast hls,(List.dropLast_concat_getLast hls).symm⟩;obtain⟨t,el⟩:=K31.two (ws.two loop (by simp));generalize g1 loop=a at el;generalize g2 loop=b at el;subst el;have size:=ws.size;obtain⟨less,x,hx,z,rs,hrot,hlook⟩:=ws.look k;obtain⟨va,v,rfl,lpa,B',rfl,hB'⟩:=jC lp;have hB8:=s8 _ _ hB';have hL8:=s8 _ _ hL7;have sz:((ah++[a::b::t]).map List.length).sum<=720:=by lia
    refine aJ ⟨_,λZ' H' h=>h,?_⟩;refine⟨_,rfl,_,rfl,_,rfl,L,_,_,_,rfl,rfl,SqL.of hL8,gQ (x:=V.ref B') (by simp),B',_,_,_,rfl,rfl,SqL.of hB8,cA (j:=0) (jR (n:=a) rfl),_,rfl,_,rfl,L,_,_,_,rfl,rfl,SqL.of hL8,gQ (x:=V.ref B') (by simp),B',_,_,_,rfl,rfl,SqL.of hB8,cA (j:=1) (jR (n:=b) rfl),lit2,λk9 H9 g9 s9 y9=>?_⟩;have s79:=s8.trans s9;refine⟨D,V.int (code N x),rfl,uG (kZ N) ndc hx ▸ DGet.t (k:=kc (code N) a b) (s79 _ _ hD7) y9,?_⟩;refine⟨_,rfl,_,rfl,_,rfl,_,rfl,code N,λa b h=>kZ N h,L,D,C,_,ah,a,b,t,cs,come,x,z,rs,rfl,s79 _ _ hL7,cw.same s79 lp,by lia,s79 _ _ hD7,ndc,s79 _ _ hC7,hrot,λt' lt Hq ht' sq yq hw=>?_⟩;have s7q:=s79.trans sq;have smq:=sm.trans s7q;obtain⟨lgT,lgL,lgW⟩:=hlook lt x (hw.elim (λz=>.inl ⟨z.1,z.2,rfl⟩) .inr);have lgS:Small lt:=by
     rcases hw with ⟨_,rfl⟩|⟨_,hw⟩
     .trivial
     .exact An ws.two sz hw
    have hltS:∀a∈lts++[lt],Lets a/\Small a:=λa ha=>by
     rcases ay.mp ha with z|z
     .exact hlt a z
     .rw[aR.mp z];exact⟨lgL,lgS⟩
    have lvw:=aU let7;have hWq:=s7q _ _ hW7;refine⟨_,rfl,.inl ⟨rfl,_,SqL.of hWq⟩,_,rfl,W,_,_,rfl,rfl,hWq,by lia,λHr kr yr=>?_⟩;have tpr:∀t xs,Hq t=some (.tup xs)->Hr t=some (.tup xs):=λt xs e=>(kr t (bM e hWq (by intro z;cases z))).trans e;have smr:Same H Hr:=λc o e=>(kr c (ax e n3)).trans (smq _ _ e);have yqr:=tpr _ _ yq;have letr:bU Hr (vw++[.ref t']) (lts++[lt]):=(jo tpr (let7.same s7q)).snoc ⟨t',rfl,yqr⟩;have hDr:=(kr D dDW).trans (s7q _ _ hD7);have hLr:=(kr L dLW).trans (s7q _ _ hL7);have hCr:=(kr C dCW).trans (s7q _ _ hC7);have lpr:cw (code N) Hr (va++[V.ref B']) (ah++[a::b::t]):=cw.move (cw.same s7q lp) λc o hc e=>(kr c (vlC c hc).2).trans e;refine⟨_,rfl,lit1,λps Ht hps st yt=>?_⟩;refine⟨_,_,fq (fh lgL) ⟨t',rfl,st _ _ yqr⟩,fq (a:=.sg 67) (by rfl) ⟨ps,rfl,yt.trans ltC⟩,bV (h_ _) (by decide),_,rfl,?_⟩;rw[K2 (by decide),iU];generalize hvl:va++[V.ref B']=vl at *;by_cases h67:lt=.sg 67
    .rw[K4 h67];rw[K3 h67] at lgW;have hCt:=st _ _ hCr;have lcm:=ws.lc;refine aJ ⟨_,rfl,.inl ⟨rfl,_,SqL.of hCt⟩,_,rfl,C,_,_,rfl,rfl,hCt,by rw[cJ];lia,λHv kv yv=>?_⟩;have yv:Hv C=some (.lst (cV (code N) (come++[x]))):=by rw[yv,<-gv];rfl
     have smv:Same H Hv:=λc o e=>(kv c (ax e n2)).trans (st _ _ (smr _ _ e));have tpv:∀t xs,Ht t=some (.tup xs)->Hv t=some (.tup xs):=λt xs e=>(kv t (bM e hCt (by intro z;cases z))).trans e;have hDv:=(kv D dDC).trans (st _ _ hDr);have hLv:=(kv L dLC).trans (st _ _ hLr);have hWv:=(kv W (aF dCW)).trans (st _ _ yr);have lpv:cw (code N) Hv vl (ah++[a::b::t]):=cw.move (cw.same st lpr) λc o hc e=>(kv c (vlC c hc).1).trans e;have letv:=jo tpv (letr.same st);have ytv:=tpv _ _ (st _ _ yqr);refine⟨_,rfl,_,rfl,_,rfl,code N,λa b h=>kZ N h,L,t',vl,ah,a::b::t,lt,x,x,rfl,hLv,lpv,ytv,lgL,lgT,λl hl=>⟨ws.two l hl,?_⟩,?_,λHs vl' bt hLs lps hnew=>?_⟩
     .have:=lh hl;lia
     .have:=lq ws.two;rw[ar,bg] at this;lia
     have tpS:∀t xs,Hv t=some (.tup xs)->Hs t=some (.tup xs):=λt xs e=>bt t _ (bM e hLv (by intro z;cases z)) e;refine⟨_,?_,some (.int (code N x)),some (.ref t'),vl',_,come++[x],_,lts++[lt],ds++[(a,b,x)],rfl,rfl,λc o e=>bt c o (ax e n1) (smv _ _ e),bt _ _ dDL hDv,hLs,lps,bt _ _ (aF dLC) yv,bt _ _ (aF dLW) hWv,jo tpS letv,hltS,by rw[ar,ar,bg,bg,ell],by rw[ar,bg];lia,lgW,λc hc=>?_⟩
     .rw[ar,bg];lia
     .rcases hnew c hc with z|z
      .exact vlC c z
      .exact⟨λe=>by (rw[e,yv] at z;cases z),λe=>by (rw[e,hWv] at z;cases z)⟩
    .rw[K5 h67];rw[K2 h67] at lgW;refine av ?_;have smt:=smr.trans st;have hDt:=st _ _ hDr;have hLt:=st _ _ hLr;have hCt:=st _ _ hCr;have hWt:=st _ _ yr;have lpt:=cw.same st lpr;have lett:=letr.same st;have ytt:=st _ _ yqr;refine⟨_,rfl,_,rfl,_,rfl,code N,λa b h=>kZ N h,L,t',vl,ah,a::b::t,lt,x,x,rfl,hLt,lpt,ytt,lgL,lgT,λl hl=>⟨ws.two l hl,?_⟩,?_,λHs vl' bt hLs lps hnew=>?_⟩
     .have:=lh hl;lia
     .have:=lq ws.two;rw[ar,bg] at this;lia
     have tpS:∀t xs,Ht t=some (.tup xs)->Hs t=some (.tup xs):=λt xs e=>bt t _ (bM e hLt (by intro z;cases z)) e;refine⟨_,?_,some (.int (code N x)),some (.ref t'),vl',_,come,_,lts++[lt],ds++[(a,b,x)],rfl,rfl,λc o e=>bt c o (ax e n1) (smt _ _ e),bt _ _ dDL hDt,hLs,lps,bt _ _ (aF dLC) hCt,bt _ _ (aF dLW) hWt,jo tpS lett,hltS,by rw[ar,ar,bg,bg,ell],by rw[ar,bg];lia,lgW,λc hc=>?_⟩
     .rw[ar,bg];lia
     .rcases hnew c hc with z|z
      .exact vlC c z
      .exact⟨λe=>by (rw[e,hCt] at z;cases z),λe=>by (rw[e,hWt] at z;cases z)⟩
  .rintro Z H7 ⟨o6,o7,come,vw,lts,rfl,sm,hC7,hW7,let7,hlt,ll,lc⟩;refine⟨_,rfl,C,_,rfl,SqL.of hC7,λZ_ hZ=>BE (K:=[]) (a:=C) (xs:=cV (code N) come) (λi Z ys H'=>∃o1 o2,Z=[o1,o2]/\Same H7 H'/\H' Z_=some (.lst ys)/\ys.length<=i) ⟨none,none,rfl,dD hZ,cx,by simp⟩ (λi Z ys H' _ ⟨_,_,_,e,_⟩=>SqL.of (e _ _ hC7)) ?_ ?_⟩
   .rintro i y pk Z ys H' hi ⟨o1,o2,rfl,e,hz,hys⟩ hpk;have hil:=(aS.mp hi).1;rw[cJ] at hil;have hg:come[i]?=some (come.getD i 0):=by simp[List.getD,hil]
    rw[jR hg] at hi;cases hi;walk_at"H' pk hpk H8 s8 y8";refine⟨pk,_,rfl,SqT.of y8,rfl,_,_,rfl,_,_,rfl,rfl,?_⟩;refine⟨_,rfl,_,_,rfl,rfl,_,rfl,?_⟩;have e8:=e.trans s8;cases decide (code N (come.getD i 0)<0) with
    |true=>
     exact aJ ⟨_,rfl,s8 _ _ hz,by lia,λH9 k9 y9=>⟨_,_,rfl,λc o ec=>(k9 c (ax ec hZ)).trans (e8 _ _ ec),y9,by rw[ar,bg];lia⟩⟩
    |false=>exact av ⟨_,_,rfl,e8,s8 _ _ hz,by lia⟩
   .rintro Z ys H' ⟨o1,o2,rfl,e,hz,hys⟩;refine⟨_,rfl,_,rfl,_,rfl,C,rfl,⟨_,SqL.of (e _ _ hC7)⟩,λY hY=>fg (K:=[]) (a:=C) (xs:=cV (code N) come) (λi Z ys H''=>∃o1,Z=[o1]/\Same H' H''/\H'' Y=some (.lst ys)/\ys.length<=i) ⟨none,rfl,dD hY,cx,by simp⟩ (λi Z ys H'' _ ⟨_,_,e',_⟩=>SqL.of (e' _ _ (e _ _ hC7))) ?_ ?_⟩
    .rintro i y Z ys' H'' hi ⟨o1,rfl,e',hz',hys'⟩;have hil:=(aS.mp hi).1;rw[cJ] at hil;have hg:come[i]?=some (come.getD i 0):=by simp[List.getD,hil]
     rw[jR hg] at hi;cases hi;refine⟨_,rfl,lit2,λp9 H9 h9 s9 y9=>?_⟩;have e9:=e'.trans s9;have out:∀v:V,H9 Y=some (.lst ys')/\ys'.length<sizeLine/\∀Hn:Hp,(∀b,b≠Y->Hn b=H9 b)->Hn Y=some (.lst (ys'++[v]))->∃o1:Option V,([some (V.int (code N (come.getD i 0)))]:St)=[o1]/\Same H' Hn/\Hn Y=some (.lst (ys'++[v]))/\(ys'++[v]).length<=i+1:=λv=>by
      exact⟨s9 _ _ hz',by lia,λHn kn yn=>⟨_,rfl,λc o ec=>(kn c (ax ec hY)).trans (e9 _ _ ec),yn,by rw[ar,bg];lia⟩⟩
     refine⟨_,rfl,_,_,rfl,rfl,.inr ⟨_,rfl,?_⟩⟩;cases decide (code N (come.getD i 0)<0) with
     |true=>exact⟨p9,_,1,V.non,rfl,rfl,SqL.of y9,rfl,out _⟩
     |false=>exact⟨p9,_,0,V.int (code N (come.getD i 0)),rfl,rfl,SqL.of y9,rfl,out _⟩
    .rintro Z ys' H'' ⟨o1,rfl,e',hz',hys'⟩;refine⟨lit3,λr H9 hr' s9 y9=>?_⟩;have e79:=(e.trans e').trans s9;exact q r W vw lts _ _ H9 ((sm.trans (e.trans e')).free hr') n3 (sm.trans e79) y9 (e79 _ _ hW7) (let7.same e79) hlt ll
end
theorem wI {f:Fr} (h:Ok f):∀l∈f.ls,l.length<=2+f.ts.length:=λl hl=>bV (lh hl) h.tot
theorem wH {f:Fr} (h:Ok f):f.ls.length<=2+f.ts.length:=bV (lq h.two) h.tot
theorem lT (c d e:Nat):inV (.str (txt [c])) [.str (txt [d]),.str (txt [e])]=(decide (c=d\/c=e)):=by
 have e:∀d:Nat,(txt [d]==txt [c])=decide (c=d):=λd=>by
  rw[dn,beq_iff_eq,decide_eq_true_eq];constructor
  .intro h;have:=qO h;simpa using this.symm
  .rintro rfl;rfl
 unfold inV;simp only[j5,Iy,eqV,e,Iq];rw[dn];simp
structure OAt (H:Hp) (O L T:Addr) (vl vt:List V) (f:Fr):Prop where
 o:H O=some (.lst [.ref L,.ref T,.int (f.n:Int)])
 l:H L=some (.lst vl)
 p:eI H vl f.ls
 t:H T=some (.lst vt)
 q:bh H vt f.ts
theorem OAt.same {O L T:Addr} {vl vt:List V} {f:Fr} (h:OAt H O L T vl vt f) (s:Same H H'):OAt H' O L T vl vt f:=⟨s _ _ h.o,s _ _ h.l,h.p.same s,s _ _ h.t,h.q.same s⟩
def ph:Option Nat->V
 |none=>.non
 |some x=>.int (x:Int)
def BW (vs:List V) (H:Hp) (Q:VK) (O t L T:Addr) (vl vt:List V) (f:Fr) (ah:Lps) (loop:List Nat) (a:Lt):Prop:=vs=[.ref O,.ref t]/\OAt H O L T vl vt f/\Ok f/\f.ts.length<=300/\f.ls=ah++[loop]/\H t=some (.tup (ltV a))/\Lets a/\
 ∀H',Same H H'->Q (ph (aM ah loop a f.n)) H'
def wc:Sp:=λvs H Q _=>Exists (Ex10 (BW vs H Q))
section
theorem qU:bS ["_law_front","_law_letter_here","_law_loop","_law_other"] ["_law_front","_law_letter_here"] (bu lF):=by walk_at"sc"
theorem Ct {f:Addr} (U:Fun K "_law_third" "_law_third" lF f fd) (T:di mg):FnOk P w K mg base CX0 1 f fd ["_law_front","_law_letter_here"] wc:=by
 refine U.ok qU (λvs H Q E h=>?_) (λcdv A outer s H vs Q E hr h=>?_)
 .obtain⟨O,t,L,TT,vl,vt,g,ah,loop,a,rfl,_⟩:=h;rfl
 .obtain⟨O,t,L,TT,vl,vt,g,ah,loop,a,rfl,Y,ok,hts,el,ht,ha,q⟩:=h;refine⟨_,ak (aA (i:=2) qU.nd rfl (.inl rfl) (aq aI (aq aI (pv 0) ag (λ_ _=>rfl)) (dA dz ag) (λ_ _=>rfl)))
   (ak (bL (aL (iq hr.units) (pv 1) (aN (aa b_ ae)) (nomark _)) (au (bj (aq aI (pv 0) ag (λ_ _=>rfl)))) bJ)
   (ak (bL (PW.pt (i8 (PW.pt (eG (aL kJ (aq cB (pv 1) ag (λ_ _=>rfl)) (aN (aa b_ (aa b_ ae))) rfl) (eM (aL r9 (a9 cu (by rfl) T.len cF (aa (pv 2) ae)) ag (nomark _)))))
     (jM (PW.pt (eG (aL (iq hr.units) (pv 1) (aN (aa b_ ae)) (nomark _)) (eM (aL du (a9 cu (by rfl) T.len cF (aa (pv 2) ae)) ag (nomark _))))))))
    (au (bj (aq aI (br (aa (aq aI (pv 2) (dA dz ag) (λ_ _=>rfl)) (aa (aq aI (pv 2) ag (λ_ _=>rfl)) ae))) (ff qr (by rfl) T.int zw (aa (oz du (aq cB (pv 1) ag (λ_ _=>rfl)) b_ (nomark _)) ae)) (λ_ _=>rfl)))) bJ)
   (ak (bL (PW.pt (eG (aL du (aq cB (pv 1) ag (λ_ _=>rfl)) b_ (nomark _)) (eG (aL du (aq cB (pv 1) ag (λ_ _=>rfl)) ag (nomark _)) (eM (uR fW fW ag (aq cB (pv 1) ag (λ_ _=>rfl)) (aD fU (a9 cu (by rfl) T.len cF (aa (pv 2) ae)) ag) rfl)))))
    (au (bj (aq aI (pv 2) (aq cB (pv 1) ag (λ_ _=>rfl)) (λ_ _=>rfl)))) bJ)
   (ak (bL (PW.pt (eG (aL du (aq cB (pv 1) ag (λ_ _=>rfl)) b_ (nomark _)) (eM (uR fW fW ag (aq cB (pv 1) ag (λ_ _=>rfl)) (a9 cu (by rfl) T.len cF (aa (aq aI (pv 0) ag (λ_ _=>rfl)) ae)) rfl))))
    (ak (aA (i:=3) qU.nd rfl (.inl rfl) (aq aI (aq aI (pv 0) ag (λ_ _=>rfl)) (aD fU (dA dz ag) (aq cB (pv 1) ag (λ_ _=>rfl))) (λ_ _=>rfl)))
    (au (bL (aL fW (aq cB (pv 1) ag (λ_ _=>rfl)) (a9 cu (by rfl) T.len cF (aa (pv 3) ae)) (nomark _)) (au (bj (aq aI (pv 3) (aq cB (pv 1) ag (λ_ _=>rfl)) (λ_ _=>rfl)))) bJ))) bJ)
   (au (bj fk)))))),?_⟩
  have hline:=line5000;have hp:=Y.p;rw[el] at hp;obtain⟨va,v,rfl,hpa,B,rfl,hB⟩:=jC hp;have hla:=aU hpa;have hm:=wH ok;have he:=wI ok;rw[el] at hm he;rw[ar,bg] at hm;have hbl:2<=loop.length:=ok.two loop (by rw[el];simp);have hbe:=he loop (by simp);have hok:=fh ha;have hdt:∀H',Same H H'->Dt [] H' (.ref t) (ltD a):=λH' s'=>fq hok ⟨t,rfl,s' _ _ ht⟩;have ht0:=ht;rw[rQ] at ht;have a0:atI (V.str (txt [sgn a])::ltR a) 0=some (V.str (txt [sgn a])):=ja _ _;have o0:∀x y z:V,atI [x,y,z] 0=some x:=λ_ _ _=>rfl;have o2:∀x y z:V,atI [x,y,z] 2=some z:=λ_ _ _=>rfl;refine⟨_,rfl,O,_,_,_,rfl,rfl,SqL.of Y.o,o0 _ _ _,_,rfl,L,_,_,_,rfl,rfl,SqL.of Y.l,gQ (x:=V.ref B) (by simp),?_⟩;refine⟨_,rfl,lit1,λp1 H1 h1 s1 y1=>?_⟩;have y1':=y1.trans ltC;refine⟨_,_,hdt H1 s1,fq (a:=.sg 67) (by rfl) ⟨p1,rfl,y1'⟩,bV (h_ a) (by decide),_,rfl,?_⟩;rw[K2 (by decide),iU];have a02:∀x y:V,atI [x,y] 0=some x:=λ_ _=>rfl;have a12:∀x y:V,atI [x,y] 1=some y:=λ_ _=>rfl;cases a with
  |sg c=>
   simp only[K31.Lets] at ha;have s1':=s1;rw[<-or_assoc (b:=c=76)] at ha;rcases ha with rfl|hc|rfl
   .rw[K4 rfl];refine aJ ?_;exact⟨_,rfl,O,_,_,_,rfl,rfl,SqL.of (s1 _ _ Y.o),o2 _ _ _,q H1 s1⟩
   .rw[K5 (show ¬Lt.sg c=Lt.sg 67 by rcases hc with rfl|rfl<;>(intro z;cases z))];refine av ?_;refine⟨_,rfl,t,_,_,_,rfl,rfl,SqT.of (s1' _ _ ht),a0,lit2,λp2 H2 h2 s2 y2=>?_⟩;have s2':=s1'.trans s2;refine⟨p2,_,rfl,.inr (SqT.of y2),rfl,rfl,_,rfl,?_⟩;rw[show (Str.ofString "R")=txt [82] from sR,show (Str.ofString "L")=txt [76] from sL,K2 (by decide),lT];rw[K4 (show sgn (.sg c)=82\/sgn (.sg c)=76 from hc)];refine aJ ?_;refine⟨_,rfl,B,_,rfl,.inl (SqL.of (s2' _ _ hB)),_,_,rfl,rfl,_,rfl,?_⟩;rw[bO];by_cases hb3:3<loop.length
    .rw[K4 (by lia)];refine aJ (aJ ?_);have hlast:loop[loop.length-1]?=some loop[loop.length-1]:=aX (by lia);have h2:loop[2]?=some loop[2]:=aX (by lia);refine⟨_,rfl,_,rfl,B,_,_,_,rfl,rfl,SqL.of (s2' _ _ hB),gQ (by rw[bO];exact dY hlast),_,rfl,B,_,_,_,rfl,rfl,SqL.of (s2' _ _ hB),cA (j:=2) (dY h2),lit2,λp9 H9 h9 s9 y9=>?_⟩;have s9':=s2'.trans s9;refine⟨_,rfl,t,_,_,_,rfl,rfl,SqT.of (s9' _ _ ht),a0,rfl,.inr ⟨_,rfl,?_⟩⟩;rw[jY];rcases hc with rfl|rfl
     .rw[show aM ah loop (.sg 82) g.n=some loop[2] by simp[aM,hb3,h2]] at q;exact⟨p9,_,1,_,rfl,rfl,SqL.of y9,a12 _ _,q H9 s9'⟩
     .rw[show aM ah loop (.sg 76) g.n=some loop[loop.length-1] by simp[aM,hb3,hlast]] at q;exact⟨p9,_,0,_,rfl,rfl,SqL.of y9,a02 _ _,q H9 s9'⟩
    .rw[K5 (by lia)];refine av ?_;refine⟨_,rfl,lit1,λp3 H3 h3 s3 y3=>?_⟩;have s3':=s2'.trans s3;refine⟨_,_,hdt H3 s3',fq (a:=.sg 69) (by rfl) ⟨p3,rfl,y3.trans ltE⟩,bV (h_ _) (by decide),_,rfl,?_⟩;rw[K2 (by decide),iU,K5 (show ¬Lt.sg c=Lt.sg 69 by rcases hc with rfl|rfl<;>(intro z;cases z))];refine av (av ?_);refine fj rfl (s3' _ _ ht) s83 (by rcases hc with rfl|rfl<;>decide) ?_;refine fj rfl (s3' _ _ ht) s83 (by rcases hc with rfl|rfl<;>decide) ?_;have e:aM ah loop (.sg c) g.n=none:=by
      rcases hc with rfl|rfl<;>(unfold aM;dsimp only;rw[K2 (by decide),K2 (λz=>z.elim (λy=>hb3 y.2) (λy=>absurd y.1 (by decide)))])
     rw[e] at q;exact q H3 s3'
   .rw[K5 (show ¬Lt.sg 69=Lt.sg 67 by intro z;cases z)];refine av ?_;refine⟨_,rfl,t,_,_,_,rfl,rfl,SqT.of (s1' _ _ ht),a0,lit2,λp2 H2 h2 s2 y2=>?_⟩;have s2':=s1'.trans s2;refine⟨p2,_,rfl,.inr (SqT.of y2),rfl,rfl,_,rfl,?_⟩;rw[show (Str.ofString "R")=txt [82] from sR,show (Str.ofString "L")=txt [76] from sL,K2 (by decide),lT];rw[K5 (by decide:¬(sgn (.sg 69)=82\/sgn (.sg 69)=76))];refine av (av ?_);refine⟨_,rfl,lit1,λp3 H3 h3 s3 y3=>?_⟩;have s3':=s2'.trans s3;refine⟨_,_,hdt H3 s3',fq (a:=.sg 69) (by rfl) ⟨p3,rfl,y3.trans ltE⟩,bV (h_ _) (by decide),_,rfl,?_⟩;rw[K2 (by decide),iU,K4 (rfl:Lt.sg 69=Lt.sg 69)];refine aJ ?_;refine⟨_,rfl,B,_,rfl,.inl (SqL.of (s3' _ _ hB)),rfl,_,rfl,?_⟩;rw[bO,jZ];by_cases h3:loop.length=3
    .rw[K4 (by lia)];refine aJ ?_;have hlast:loop[loop.length-1]?=some loop[loop.length-1]:=aX (by lia);have h2:loop[2]?=some loop[2]:=aX (by lia);refine⟨_,rfl,_,rfl,B,_,_,_,rfl,rfl,SqL.of (s3' _ _ hB),gQ (by rw[bO];exact dY hlast),_,rfl,B,_,_,_,rfl,rfl,SqL.of (s3' _ _ hB),cA (j:=2) (dY h2),lit2,λp9 H9 h9 s9 y9=>?_⟩;have s9':=s3'.trans s9;refine⟨_,rfl,t,_,_,_,rfl,rfl,SqT.of (s9' _ _ ht),a0,rfl,.inr ⟨_,rfl,?_⟩⟩;rw[jY];have e:aM ah loop (.sg 69) g.n=some loop[loop.length-1]:=by
      unfold aM;dsimp only;rw[K2 (by decide),K3 (.inr ⟨rfl,h3⟩),K2 (by decide),hlast]
     rw[e] at q;exact⟨p9,_,0,_,rfl,rfl,SqL.of y9,a02 _ _,q H9 s9'⟩
    .rw[K5 (by lia)];refine av ?_;refine fj rfl (s3' _ _ ht) s83 (by decide) ?_;refine fj rfl (s3' _ _ ht) s83 (by decide) ?_;have e:aM ah loop (.sg 69) g.n=none:=by
      simp[aM,h3]
     rw[e] at q;exact q H3 s3'
  |sp j k=>
   have s1':=s1;have a1:atI (V.str (txt [sgn (.sp j k)])::ltR (.sp j k)) 1=some (V.int (j:Nat)):=rfl;have a2:atI (V.str (txt [sgn (.sp j k)])::ltR (.sp j k)) 2=some (V.int (k:Nat)):=rfl;rw[K5 (show ¬Lt.sp j k=Lt.sg 67 by intro z;cases z)];refine av ?_;refine⟨_,rfl,t,_,_,_,rfl,rfl,SqT.of (s1' _ _ ht),a0,lit2,λp2 H2 h2 s2 y2=>?_⟩;have s2':=s1'.trans s2;refine⟨p2,_,rfl,.inr (SqT.of y2),rfl,rfl,_,rfl,?_⟩;rw[show (Str.ofString "R")=txt [82] from sR,show (Str.ofString "L")=txt [76] from sL,K2 (by decide),lT];rw[K5 (by simp[sgn]:¬(sgn (.sp j k)=82\/sgn (.sp j k)=76))];refine av (av ?_);refine⟨_,rfl,lit1,λp3 H3 h3 s3 y3=>?_⟩;have s3':=s2'.trans s3;refine⟨_,_,hdt H3 s3',fq (a:=.sg 69) (by rfl) ⟨p3,rfl,y3.trans ltE⟩,bV (h_ _) (by decide),_,rfl,?_⟩;rw[K2 (by decide),iU,K5 (show ¬Lt.sp j k=Lt.sg 69 by intro z;cases z)];refine av (av ?_);refine iR rfl (s3' _ _ ht) s83 rfl ?_;refine⟨_,rfl,t,_,_,_,rfl,rfl,SqT.of (s3' _ _ ht),a1,rfl,_,rfl,?_⟩;rw[jZ];have t3:=s3' _ _ ht;by_cases hj:j=0
   .subst hj;rw[K4 (show ((0:Nat):Int)=0 from rfl)];refine aJ ?_;refine⟨_,rfl,t,_,_,_,rfl,rfl,SqT.of t3,a2,_,_,rfl,rfl,_,rfl,?_⟩;by_cases h2:2<k
    .rw[K4 (by lia)];refine aJ ?_;refine⟨_,rfl,B,_,rfl,.inl (SqL.of (s3' _ _ hB)),_,_,rfl,rfl,_,_,rfl,rfl,_,rfl,?_⟩;rw[bO];by_cases h3:k+1<loop.length
     .rw[K4 (by lia)];refine aJ ?_;have hk:loop[k]?=some loop[k]:=aX (by lia);have e:aM ah loop (.sp 0 k) g.n=some loop[k]:=by
       unfold aM;dsimp only;rw[K3 rfl,K3 ⟨h2,h3⟩,hk]
      rw[e] at q;exact⟨_,rfl,_,rfl,t,_,_,_,rfl,rfl,SqT.of t3,a2,B,_,_,_,rfl,rfl,SqL.of (s3' _ _ hB),cA (dY hk),q H3 s3'⟩
     .rw[K5 (by lia)];refine av ?_;have e:aM ah loop (.sp 0 k) g.n=none:=by
       unfold aM;dsimp only;rw[K3 rfl,K2 λz=>h3 z.2]
      rw[e] at q;refine iR rfl t3 s83 rfl ?_;refine⟨_,rfl,t,_,_,_,rfl,rfl,SqT.of t3,a1,_,_,rfl,rfl,_,rfl,?_⟩;rw[K5 (by lia)];refine av (av ?_);exact q H3 s3'
    .rw[K5 (by lia)];refine av (av ?_);have e:aM ah loop (.sp 0 k) g.n=none:=by
      unfold aM;dsimp only;rw[K3 rfl,K2 λz=>h2 z.1]
     rw[e] at q;refine iR rfl t3 s83 rfl ?_;refine⟨_,rfl,t,_,_,_,rfl,rfl,SqT.of t3,a1,_,_,rfl,rfl,_,rfl,?_⟩;rw[K5 (by lia)];refine av (av ?_);exact q H3 s3'
   .rw[K5 (by lia)];refine av (av ?_);refine iR rfl t3 s83 rfl ?_;refine⟨_,rfl,t,_,_,_,rfl,rfl,SqT.of t3,a1,_,_,rfl,rfl,_,rfl,?_⟩;rw[K4 (by lia)];refine aJ ?_;refine⟨_,rfl,O,_,_,_,rfl,rfl,SqL.of (s3' _ _ Y.o),o0 _ _ _,L,_,rfl,.inl (SqL.of (s3' _ _ Y.l)),_,_,rfl,rfl,_,rfl,?_⟩;rw[ar,bg];by_cases hk:j<=ah.length
    .rw[K4 (by lia)];refine aJ ?_;have hi:ah.length-j<ah.length:=by lia
     have ho:ah[ah.length-j]?=some (ah.getD (ah.length-j) []):=by simp[List.getD,hi]
     obtain⟨v,hv,G,rfl,hG⟩:=jN hpa ho;have e:aM ah loop (.sp j k) g.n=(ah.getD (ah.length-j) [])[k]?:=by unfold aM;dsimp only;rw[K2 hj,K3 hk]
     rw[e] at q;generalize ah.getD (ah.length-j) []=o at *;have hat:atI (va++[V.ref B]) (-1-(j:Int))=some (V.ref G):=by unfold atI ixN;rw[K2 (by lia),K3 (by rw[ar,bg];lia)];show (va++[V.ref B])[_]?=_;rw[ar,bg,show ((-1-(j:Int))+((va.length+1:Nat):Int)).toNat=ah.length-j by lia,dS (by lia)];exact hv
     refine⟨_,rfl,O,_,_,_,rfl,rfl,SqL.of (s3' _ _ Y.o),o0 _ _ _,_,rfl,_,rfl,t,_,_,_,rfl,rfl,SqT.of t3,a1,_,_,rfl,rfl,L,_,_,_,rfl,rfl,SqL.of (s3' _ _ Y.l),hat,?_⟩;refine⟨_,rfl,t,_,_,_,rfl,rfl,SqT.of t3,a2,_,rfl,G,_,rfl,.inl (SqL.of (s3' _ _ hG)),_,_,rfl,rfl,_,rfl,?_⟩;rw[bO];by_cases h4:k<o.length
     .rw[K4 (by lia)];refine aJ ?_;have hko:o[k]?=some o[k]:=aX h4;rw[hko] at q;exact⟨_,rfl,_,rfl,t,_,_,_,rfl,rfl,SqT.of t3,a2,G,_,_,_,rfl,rfl,SqL.of (s3' _ _ hG),cA (dY hko),q H3 s3'⟩
     .rw[K5 (by lia)];refine av ?_;rw[ng (by lia)] at q;exact q H3 s3'
    .rw[K5 (by lia)];refine av ?_;have e:aM ah loop (.sp j k) g.n=none:=by
      unfold aM;dsimp only;rw[K2 hj,K2 hk]
     rw[e] at q;exact q H3 s3'
end
structure jb (mg:Str->Option Value):Prop where
 any:mg "any" = none
 max:mg "max" = none
 min:mg "min" = none
 repr:mg "repr" = none
abbrev nat:Nat->Int:=λn:Nat=>(n:Int)
theorem lS (a b:Nat) (h:nat a=nat b):a=b:=Int.ofNat.inj h
def AJ (vs:List V) (H:Hp) (Q:VK) (T:Addr) (vt:List V) (ts:List Tri):Prop:=vs=[.ref T]/\H T=some (.lst vt)/\bh H vt ts/\ts.length<=400/\(tl ts).Nodup/\
 ∀D kd H',H D=none->Same H H'->H' D=some (.dT kd)->Keys kd (λs=>decide (s∈tl ts))->Q (.ref D) H'
def uN:Sp:=λvs H Q _=>Exists (Ex3 (AJ vs H Q))
def AH (vs:List V) (H:Hp) (Q:VK) (L:Addr) (vl:List V) (ls:Lps):Prop:=vs=[.ref L]/\H L=some (.lst vl)/\eI H vl ls/\(ls.map List.length).sum<=1000/\
 ∀D kw H',H D=none->Same H H'->H' D=some (.dT kw)->Keys kw (λs=>decide (s∈wl ls))->Q (.ref D) H'
def uM:Sp:=λvs H Q _=>Exists (Ex3 (AH vs H Q))
theorem BO {Q:VK} {E:XK} (h:K15.spThirds vs H Q E):spX kG vs H Q E:=by obtain⟨T,vt,ts,rfl,hT,tr,hl,nd,q⟩:=h;exact⟨nat,lS,T,vt,ts,rfl,hT,tr,hl,nd,q⟩
theorem BN {Q:VK} {E:XK} (h:uN vs H Q E):spX kG vs H Q E:=by
 obtain⟨T,vt,ts,rfl,hT,tr,hl,nd,q⟩:=h;rw[fP] at nd;refine⟨nat,lS,T,vt,ts,rfl,hT,tr,hl,nd,λD H' h1 h2 h3=>q D _ H' h1 h2 h3 λa b=>?_⟩;rw[fP];have hv:=uH (φ:=nat) (λ{a b} h=>lS a b h) (l:=ents ts) (p:=a) (q:=b);cases e:valV ((ents ts).map (enC nat)) (ky a b) with
 |none=>exact (K5 (hv.mp e)).symm
 |some v=>
  refine (K4 ?_).symm;exact sY λz=>by rw[show ky a b=kc nat a b from rfl,hv.mpr z] at e;cases e
theorem BJ {Q:VK} {E:XK} (h:uM vs H Q E):spX nU vs H Q E:=by
 obtain⟨L,vl,ls,rfl,hL,lp,hs,q⟩:=h;refine⟨nat,lS,L,vl,ls,rfl,hL,lp,hs,λD kw H' h1 h2 h3 wd=>q D kw H' h1 h2 h3 λa b=>?_⟩;cases e:valV kw (ky a b) with
 |none=>exact (K5 (wd.no a b e)).symm
 |some v=>exact (K4 (wd.yes a b v e).1).symm
def lpD (l:List Nat):PyData:=.list (l.map λn:Nat=>.int (n:Int))
def lpsD (ls:Lps):PyData:=.list (ls.map lpD)
def trD (t:Nat×Nat×Nat):PyData:=.tuple [.int (t.1:Int),.int (t.2.1:Int),.int (t.2.2:Int)]
theorem Ih {v:V} {l:List Nat} (h:j4 H v l):Dt K H v (lpD l):=by obtain⟨a,rfl,h⟩:=h;exact .lst (SqL.of h) (xP l)
theorem wU:∀{vs:List V} {ls:Lps},eI H vs ls->Dts K H vs (ls.map lpD)
 |_,_,.nil=>.nil
 |_,_,.cons h t=>.cons (Ih h) (wU t)
theorem sf {v:V} {t:Nat×Nat×Nat} (h:mY H v t):Dt K H v (trD t):=by obtain⟨a,rfl,h⟩:=h;exact .tup (SqT.of h) (.cons (.int _) (.cons (.int _) (.cons (.int _) .nil)))
theorem wQ:∀{vs:List V} {ts:List (Nat×Nat×Nat)},bh H vs ts->Dts K H vs (ts.map trD)
 |_,_,.nil=>.nil
 |_,_,.cons h t=>.cons (sf h) (wQ t)
theorem wY:∀l:List Nat,PyData.depthAll (l.map λn:Nat=>PyData.int (n:Int))<=1
 | []=>by simp[PyData.depthAll]
 |a::l=>by
  have:=wY l;simp only[aB,PyData.depthAll,PyData.depth];lia
theorem wX:∀ls:Lps,PyData.depthAll (ls.map lpD)<=3
 | []=>by simp[PyData.depthAll]
 |l::ls=>by
  have h1:=wX ls;have h2:=wY l;simp only[aB,PyData.depthAll,lpD,PyData.depth];lia
theorem C2 (ls:Lps):(lpsD ls).depth<=4:=by have:=wX ls;simp only[lpsD,PyData.depth];lia
def E3 (vs:List V) (H:Hp) (Q:VK) (O t L T:Addr) (vl vt:List V) (f:Fr) (a:Lt):Prop:=vs=[.ref O,.ref t]/\OAt H O L T vl vt f/\Ok f/\(tl f.ts).Nodup/\f.ts.length<=300/\H t=some (.tup (ltV a))/\Lets a/\∀H',Same H H'->Q (ph (f.can a)) H'
def oW:Sp:=λvs H Q _=>Exists (Ex8 (E3 vs H Q))
theorem CQ (x p q:Nat):inV (.int (x:Int)) [.int (p:Int),.int (q:Int)]=decide (x=p\/x=q):=by unfold inV;simp only[j5,Iy,eqV,Iq];rw[dn];simp only[Ip,beq_iff_eq,decide_eq_true_eq];lia
section
theorem gw:bS ["_law_front","_law_letter_here","_law_x","_law_a","_law_b","_law_asked","_law_wanted_here","_law_thirds_here"] ["_law_front","_law_letter_here"] (bu mI):=by walk_at"sc"
theorem FA {f f1 f2 f3:Addr} {fd d1 d2 d3:FuncData} (U:Fun K "_law_can" "_law_can" mI f fd) (T:di mg) (TM:jb mg) (G1:Use P w K mg base 1 "_law_third" ["_law_front","_law_letter_here"] wc f1 d1)
  (G2:Use P w K mg base 1 "_law_wanted" ["_law_loops"] uM f2 d2) (G3:Use P w K mg base 1 "_law_thirds" ["_law_triples"] uN f3 d3):FnOk P w K mg base CX0 2 f fd ["_law_front","_law_letter_here"] oW:=by
 refine U.ok gw (λvs H Q E h=>?_) (λcdv A outer s H vs Q E hr h=>?_)
 .obtain⟨O,t,L,TT,vl,vt,g,a,rfl,_⟩:=h;rfl
 .obtain⟨O,t,L,TT,vl,vt,g,a,rfl,Y,ok,ndt,hts,ht,ha,q⟩:=h;have hu:=fB hr;refine⟨_,ak (aA (i:=2) gw.nd rfl (.inl rfl) fk)
   (ak (bL (aL (gO hr.units) (aq aI (pv 0) ag (λ_ _=>rfl)) (br ae) (nomark _)) (au (aA (i:=2) gw.nd rfl (.inl rfl) (aP G1.g hr rfl G1.m G1.k G1.b .nil pass0 (aa (pv 0) (aa (pv 1) ae))))) bJ)
   (ak (bL (PW.pt (i8 (aL rP (pv 2) fk (nomark _)) (jM (aL kJ (pv 2) (cS cT (aq aI (aq aI (pv 0) ag (λ_ _=>rfl)) (dA dz ag) (λ_ _=>rfl)) dq (ck ag)) rfl)))) (au (bj fk)) bJ)
   (ak (eV (cS cT (aq aI (aq aI (pv 0) ag (λ_ _=>rfl)) (dA dz ag) (λ_ _=>rfl)) dq (ck ag)) (oN rfl (bB (aK (i:=3) gw.nd rfl (.inl rfl)) (bB (aK (i:=4) gw.nd rfl (.inl rfl)) dt))))
   (ak (aA (i:=5) gw.nd rfl (.inl rfl) (br ae))
   (ak (bL (aL iL (aq cB (pv 1) ag (λ_ _=>rfl)) (aN (aa b_ (aa b_ ae))) rfl) (au (aA (i:=5) gw.nd rfl (.inl rfl) (aD dI (pv 5) (br (aa (aN (aa (pv 4) (aa (pv 2) ae))) (aa (aN (aa (pv 2) (aa (pv 4) ae))) ae)))))) bJ)
   (ak (bL (aL iL (aq cB (pv 1) ag (λ_ _=>rfl)) (aN (aa b_ (aa b_ ae))) rfl) (au (aA (i:=5) gw.nd rfl (.inl rfl) (aD dI (pv 5) (br (aa (aN (aa (pv 2) (aa (pv 3) ae))) (aa (aN (aa (pv 3) (aa (pv 2) ae))) ae)))))) bJ)
   (ak (aA (i:=6) gw.nd rfl (.inr rfl) (aP G2.g hr rfl G2.m G2.k G2.b .nil pass0 (aa (aq aI (pv 0) ag (λ_ _=>rfl)) ae)))
   (ak (aA (i:=7) gw.nd rfl (.inr rfl) (aP G3.g hr rfl G3.m G3.k G3.b .nil pass0 (aa (aq aI (pv 0) ag (λ_ _=>rfl)) ae)))
   (ak (bL (mh (a9 (Ai rfl) (by rfl) TM.any J8 (aa (gj (N:=["_law_side","_law_wanted_here","_law_thirds_here"]) (fr:=[none,some 6,some 7]) (eR (by decide +kernel) rfl rfl (by decide +kernel) (by decide +kernel) (by walk_at"cs") (by walk_at"ct")) rfl (dr (pv 5))
     (λC' s' H' fp pins=>⟨aK (i:=0) (show (["_law_side","_law_wanted_here","_law_thirds_here"]:List Str).Nodup by decide +kernel) rfl (.inl rfl) (.inr rfl),jD,
      HL (rO (mn hu (pv 0) (pv 1))) (Fs (rO (mn hu (pv 0) (pv 2))))⟩)) ae))) (au (bj fk)) bJ)
   (au (bj (pv 2)))))))))))),?_⟩
  have hline:=line5000;have o0:∀x y z:V,atI [x,y,z] 0=some x:=λ_ _ _=>rfl;have o1:∀x y z:V,atI [x,y,z] 1=some y:=λ_ _ _=>rfl;refine⟨_,rfl,O,_,_,_,rfl,rfl,SqL.of Y.o,o0 _ _ _,aT _,λp1 H1 h1 s1 y1=>?_⟩;have Y1:=Y.same s1;refine⟨_,_,.lst (SqL.of Y1.l) (wU Y1.p),.lst (SqL.of y1) .nil,bV (C2 g.ls) (by decide),_,rfl,?_⟩;rw[K3 rfl,jw];rcases pI g.ls with e|⟨ah,loop,e⟩
  .have ec:g.can a=none:=by unfold Fr.can;rw[e];rfl
   rw[ec] at q;rw[e];refine av ?_;refine⟨_,rfl,rfl,_,rfl,?_⟩;rw[K4 rfl];exact aJ (aJ (q H1 s1))
  .rw[pH] at e;have ec:g.can a=gS ah loop g.ts g.n a:=by
    obtain⟨ls,ts,n⟩:=g;dsimp only at e;rw[e,mw]
   rw[ec] at q;have e0:(!(g.ls.map lpD).isEmpty)=true:=by rw[e];simp
   rw[e0];refine aJ ?_;have ht1:=s1 _ _ ht;refine⟨_,rfl,_,rfl,O,t,L,TT,vl,vt,g,ah,loop,a,rfl,Y1,ok,hts,e,ht1,ha,λH2 s2=>?_⟩;have q2:=s1.trans s2;have Y2:=Y1.same s2;unfold gS at q;cases ex:aM ah loop a g.n with
   |none=>
    rw[ex] at q;refine⟨_,rfl,rfl,_,rfl,?_⟩;rw[show decide (ph none=V.non)=true from K4 rfl];exact aJ (aJ (q H2 q2))
   |some x=>
    rw[ex] at q;simp only[Je] at q;refine⟨_,rfl,rfl,_,rfl,?_⟩;rw[K5 (by intro z;cases z)];refine av ?_;have hp:=Y2.p;rw[e] at hp;obtain⟨va,v,ev,hpa,B,rfl,hB⟩:=jC hp;have hbl:2<=loop.length:=ok.two loop (by rw[e];simp);have eT:loop.take 2=[g1 loop,g2 loop]:=by obtain⟨r,e⟩:=two hbl;rw[e];rfl
    have hat:atI vl (-1)=some (V.ref B):=gQ (by rw[ev];simp);refine⟨_,rfl,_,rfl,O,_,_,_,rfl,rfl,SqL.of Y2.o,o0 _ _ _,_,rfl,L,_,_,_,rfl,rfl,SqL.of Y2.l,hat,2,rfl,B,_,rfl,SqL.of hB,λp3 H3 h3 s3 y3=>?_⟩;rw[sr loop 2 2 rfl,eT] at y3;refine⟨p3,_,rfl,.inl (SqL.of y3),rfl,rfl,_,rfl,?_⟩;rw[K2 (by decide)];show (if inV (V.int (x:Int)) [V.int (g1 loop:Int),V.int (g2 loop:Int)]=true then _ else _);rw[CQ];by_cases hx:x=g1 loop\/x=g2 loop
    .rw[K3 hx] at q;rw[K4 hx];exact aJ (q H3 (q2.trans s3))
    rw[K2 hx,<-e] at q;rw[K5 hx];refine av ?_;have Y3:=Y2.same s3;have hB3:=s3 _ _ hB;refine⟨_,rfl,O,_,_,_,rfl,rfl,SqL.of Y3.o,o0 _ _ _,_,rfl,L,_,_,_,rfl,rfl,SqL.of Y3.l,hat,2,rfl,B,_,rfl,SqL.of hB3,λp4 H4 h4 s4 y4=>?_⟩;rw[sr loop 2 2 rfl,eT] at y4;refine⟨p4,_,rfl,SqL.of y4,rfl,_,_,rfl,_,_,rfl,rfl,?_⟩;refine⟨aT _,λp5 H5 h5 s5 y5=>?_⟩;have q5:=((q2.trans s3).trans s4).trans s5;have a0:atI (ltV a) 0=some (V.str (txt [sgn a])):=by rw[rQ];exact ja _ _
    have hsum:(g.ls.map List.length).sum<=1000:=bV ok.tot (by lia);have hS:∀{H1 H2:Hp} {vs:List V} {ss:List Side},Same H1 H2->SdsAt H1 vs ss->SdsAt H2 vs ss:=λs h=>Paired.imp' (λ_ _ ⟨b,e1,e2⟩=>⟨b,e1,s _ _ e2⟩) h;dsimp only [mB,dZ];refine iS (λZ H'=>∃td vs,Z=[some (.ref O),some (.ref t),some (.int (x:Int)),some (.int (g1 loop:Int)),some (.int (g2 loop:Int)),some (.ref td),none,none]/\Same H H'/\H' td=some (.lst vs)/\SdsAt H' vs (if sgn a=82\/sgn a=69 then [] else [(g2 loop,x),(x,g2 loop)])) (λN hN=>?_) ?_
    .refine⟨_,rfl,t,_,_,_,rfl,rfl,SqT.of (q5 _ _ ht),a0,lit2,λp6 H6 h6 s6 y6=>?_⟩;have q6:=q5.trans s6;refine⟨p6,_,rfl,.inr (SqT.of y6),rfl,rfl,_,rfl,?_⟩;rw[show (Str.ofString "R")=txt [82] from sR,show (Str.ofString "E")=txt [69] from sE,K3 rfl,lT];by_cases k1:sgn a=82\/sgn a=69
     .rw[K4 k1];exact av (hN _ _ ⟨p5,[],rfl,q6,s6 _ _ y5,by rw[K3 k1];exact .nil⟩)
     .rw[K5 k1];refine aJ ⟨_,rfl,_,rfl,_,rfl,lit2,λta Ha ga sa ya=>⟨_,rfl,_,rfl,lit2,λtb Hb gb sb yb=>⟨lit2,λtc Hc gc sc yc=>⟨p5,tc,_,_,rfl,rfl,((s6.trans sa).trans (sb.trans sc)) _ _ y5,yc,(by show 0+2<=_;lia),λtd Hd gd sd yd=>hN _ _ ⟨td,_,rfl,(q6.trans sa).trans ((sb.trans sc).trans sd),yd,?_⟩⟩⟩⟩⟩;rw[K2 k1];exact .cons ⟨ta,rfl,((sb.trans sc).trans sd) _ _ ya⟩ (.cons ⟨tb,rfl,(sc.trans sd) _ _ yb⟩ .nil)
    rintro Z H7 ⟨t7,v7,rfl,q7,y7,d7⟩;have l7:v7.length<=2:=by rw[aU d7];split<;>simp
    refine iS (λZ H'=>∃td vs,Z=[some (.ref O),some (.ref t),some (.int (x:Int)),some (.int (g1 loop:Int)),some (.int (g2 loop:Int)),some (.ref td),none,none]/\Same H H'/\H' td=some (.lst vs)/\vs.length<=4/\SdsAt H' vs (asked (sgn a) (g1 loop) (g2 loop) x)) (λN hN=>?_) ?_
    .refine⟨_,rfl,t,_,_,_,rfl,rfl,SqT.of (q7 _ _ ht),a0,lit2,λp8 H8 h8 s8 y8=>?_⟩;have q8:=q7.trans s8;refine⟨p8,_,rfl,.inr (SqT.of y8),rfl,rfl,_,rfl,?_⟩;rw[show (Str.ofString "L")=txt [76] from sL,show (Str.ofString "E")=txt [69] from sE,K3 rfl,lT];by_cases k2:sgn a=76\/sgn a=69
     .rw[K4 k2];exact av (hN _ _ ⟨t7,v7,rfl,q8,s8 _ _ y7,by lia,by unfold asked;rw[K3 k2,cZ];exact hS s8 d7⟩)
     .rw[K5 k2];refine aJ ⟨_,rfl,_,rfl,_,rfl,lit2,λta Ha ga sa ya=>⟨_,rfl,_,rfl,lit2,λtb Hb gb sb yb=>⟨lit2,λtc Hc gc sc yc=>⟨t7,tc,_,_,rfl,rfl,((s8.trans sa).trans (sb.trans sc)) _ _ y7,yc,(by show v7.length+2<=_;lia),λtd Hd gd sd yd=>hN _ _ ⟨td,_,rfl,(q8.trans sa).trans ((sb.trans sc).trans sd),yd,by rw[ar];show v7.length+2<=4;lia,?_⟩⟩⟩⟩⟩;unfold asked;rw[K2 k2];exact cX (hS ((s8.trans sa).trans ((sb.trans sc).trans sd)) d7) (.cons ⟨ta,rfl,((sb.trans sc).trans sd) _ _ ya⟩ (.cons ⟨tb,rfl,(sc.trans sd) _ _ yb⟩ .nil))
    rintro Z H9 ⟨t9,zz,rfl,q9,y9,hbig,d9⟩;have Yn:=Y.same q9;refine⟨_,rfl,O,_,_,_,rfl,rfl,SqL.of Yn.o,o0 _ _ _,L,vl,g.ls,rfl,Yn.l,Yn.p,hsum,λW kw Hw hW sw yw kkw=>?_⟩;have qw:=q9.trans sw;have Yw:=Y.same qw;refine⟨_,rfl,O,_,_,_,rfl,rfl,SqL.of Yw.o,o1 _ _ _,TT,vt,g.ts,rfl,Yw.t,Yw.q,by lia,ndt,λD kd Hx hD sx yx kkd=>?_⟩;have qx:=qw.trans sx;have yw':=sx _ _ yw;have hss':=hS (sw.trans sx) d9;have hP':=sx _ _ (sw _ _ y9);have hsl:=aU hss';generalize asked (sgn a) (g1 loop) (g2 loop) x=ss at hss' hsl q;refine⟨_,rfl,t9,rfl,⟨_,SqL.of hP'⟩,λZ_ hZ=>fg (K:=[]) (a:=t9) (xs:=zz) (λi Z ys H'=>∃o,Z=[o,some (.ref W),some (.ref D)]/\ys=((ss.take i).map λs=>decide (s∈wl g.ls)||decide (s∈tl g.ts)).map V.bl/\Same Hx H'/\H' Z_=some (.lst ys)) ⟨none,rfl,rfl,dD hZ,cx⟩ (λi Z ys H' _ ⟨_,_,_,e,_⟩=>SqL.of (e _ _ hP')) ?_ ?_⟩
    .rintro i y Z ys H' hi ⟨o,rfl,rfl,sZ,yZ⟩;have hiz:=(aS.mp hi).1;obtain⟨⟨p,r⟩,hs,b,rfl,hb⟩:=dG hss' hi;have et:ss.take (i+1)=ss.take i++[(p,r)]:=by rw[cU,hs];rfl
     refine⟨_,rfl,_,rfl,W,_,rfl,DGet.t (k:=ky p r) (sZ _ _ yw') (sZ _ _ hb),_,rfl,?_⟩;rw[kkw p r];have le:(((ss.take i).map λs=>decide (s∈wl g.ls)||decide (s∈tl g.ts)).map V.bl).length<sizeLine:=by rw[aQ,aQ,bG];lia
     have fin:∀c:Bool,c=(decide ((p,r)∈wl g.ls)||decide ((p,r)∈tl g.ts))->((ss.take i).map λs=>decide (s∈wl g.ls)||decide (s∈tl g.ts)).map V.bl++[V.bl c]=((ss.take (i+1)).map λs=>decide (s∈wl g.ls)||decide (s∈tl g.ts)).map V.bl:=λc hc=>by
      rw[et,hc,bI,bI];rfl
     have sZ':∀{H3:Hp},(∀b,b≠Z_->H3 b=H' b)->Same Hx H3:=λk b o e=>(k b (ax e hZ)).trans (sZ _ _ e);refine ite2 (λc=>?_) (λc=>?_)
     .exact⟨yZ,le,λH3 k3 y3=>⟨_,rfl,fin true (by rw[show decide ((p,r)∈wl g.ls)=true from c];rfl),sZ' k3,y3⟩⟩
     .have c':decide ((p,r)∈wl g.ls)=false:=by simpa using c
      refine⟨_,rfl,_,rfl,D,_,rfl,DGet.t (k:=ky p r) (sZ _ _ yx) (sZ _ _ hb),?_⟩;rw[kkd p r];exact⟨yZ,le,λH3 k3 y3=>⟨_,rfl,fin _ (by rw[c',Io]),sZ' k3,y3⟩⟩
    .rintro Z ys H' ⟨o,rfl,rfl,sZ,yZ⟩;rw[hsl,fY] at yZ;refine⟨Z_,ss.map λs=>decide (s∈wl g.ls)||decide (s∈tl g.ts),rfl,SqL.of yZ,_,rfl,?_⟩;rw[show (ss.map λs=>decide (s∈wl g.ls)||decide (s∈tl g.ts)).any id=ss.any λs=>decide (s∈wl g.ls)||decide (s∈tl g.ts) by rw[pG];rfl];have q':=q _ (qx.trans sZ);refine ite2 (λc=>?_) (λc=>?_)
     .rw[K3 c] at q';exact q'
     .rw[K2 c] at q';exact⟨_,rfl,q'⟩
end
theorem Fp {ls:Lps} {b:Addr} (h:eI H vs ls) (hb:V.ref b∈vs):∃l∈ls,H b=some (.lst (nV l)):=by
 induction h with
 |nil=>cases hb
 | @cons a1 b1 a2 b2 q t ih=>
  rcases af.mp hb with z|z
  .obtain⟨b',e1,e2⟩:=q;rw[e1] at z;cases z;exact⟨_,by simp,e2⟩
  .obtain⟨l,h1,h2⟩:=ih z;exact⟨l,by simp[h1],h2⟩
theorem Gh {vm:List V} {ts:List (Nat×Nat×Nat)} {l:List Nat} (h:bh H vm ts) (e:vm=nV l) (hl:l≠[]):False:=by
 cases l with
 |nil=>exact hl rfl
 |cons a l=>
  rw[e] at h;cases h with
  |cons q _=>
   obtain⟨b,e,_⟩:=q;cases e
theorem q_ {ts:List (Nat×Nat×Nat)} {b:Addr} (h:bh H vs ts) (hb:V.ref b∈vs):∃xs,H b=some (.tup xs):=by
 induction h with
 |nil=>cases hb
 | @cons a1 b1 a2 b2 q t ih=>
  rcases af.mp hb with z|z
  .obtain⟨b',e1,e2⟩:=q;rw[e1] at z;cases z;exact⟨_,e2⟩
  .exact ih z
def But3 (O L T:Addr) (H H':Hp):Prop:=∀b o,b≠O->b≠L->b≠T->H b=some o->H' b=some o
def BX (vs:List V) (H:Hp) (Q:VK) (L t:Addr) (vl:List V) (ah:Lps) (loop:List Nat) (a:Lt) (n x:Nat):Prop:=vs=[.ref L,.ref t,.int (x:Int)]/\H L=some (.lst vl)/\eI H vl (ah++[loop])/\H t=some (.tup (ltV a))/\Lets a/\aM ah loop a n=some x/\(∀l∈ah++[loop],2<=l.length/\l.length<=1000)/\ah.length<=900/\
 ∀H' vl',But L H H'->H' L=some (.lst vl')->eI H' vl' (bK ah loop a x)->(∀b,V.ref b∈vl'->V.ref b∈vl\/H b=none)->Q .non H'
def we:Sp:=λvs H Q _=>Exists (Ex8 (BX vs H Q))
theorem EY {Q:VK} {E:XK} (h:we vs H Q E):spX oq vs H Q E:=⟨nat,lS,h⟩
theorem Ge {f:Fr} {a:Lt} {x:Nat} (h:f.can a=some x):∃ah loop,f.ls=ah++[loop]:=by
 unfold Fr.can at h;cases e:f.ls.getLast? with
 |none=>rw[e] at h;cases h
 |some l=>exact⟨f.ls.dropLast,l,by rw[tJ] at e;obtain⟨ys,e⟩:=e;rw[e];simp⟩
def Dz (vs:List V) (H:Hp) (Q:VK) (O t L T:Addr) (vl vt:List V) (f:Fr) (a:Lt):Prop:=vs=[.ref O,.ref t]/\OAt H O L T vl vt f/\Ok f/\(tl f.ts).Nodup/\f.ts.length<=300/\H t=some (.tup (ltV a))/\Lets a/\
 (f.can a=none->∀H',Same H H'->Q .non H')/\∀x,f.can a=some x->
 ∀t' H' vl' vt',But3 O L T H H'->OAt H' O L T vl' vt' (f.put a x)->(∀b,V.ref b∈vl'->V.ref b∈vl\/H b=none)->(∀b,V.ref b∈vt'->V.ref b∈vt\/H b=none)->Q (.ref t') H'
def xu:Sp:=λvs H Q _=>Exists (Ex8 (Dz vs H Q))
theorem CM {ls:Lps} {v:V} (h:eI H vs ls) (hv:v∈vs):∃b,v=.ref b:=by
 induction h with
 |nil=>cases hv
 | @cons a1 b1 a2 b2 q t ih=>
  rcases af.mp hv with z|z
  .obtain⟨b',e1,_⟩:=q;exact⟨b',z.trans e1⟩
  .exact ih z
theorem BM {ts:List (Nat×Nat×Nat)} {v:V} (h:bh H vs ts) (hv:v∈vs):∃b,v=.ref b:=by
 induction h with
 |nil=>cases hv
 | @cons a1 b1 a2 b2 q t ih=>
  rcases af.mp hv with z|z
  .obtain⟨b',e1,_⟩:=q;exact⟨b',z.trans e1⟩
  .exact ih z
theorem OAt.apart {O L T:Addr} {vl vt:List V} {f:Fr} (h:OAt H O L T vl vt f):O≠L/\O≠T:=by
 constructor
 .intro z;have e:=h.o;rw[z,h.l] at e;injection e with e;injection e with e;obtain⟨b,e2⟩:=CM (v:=.int (f.n:Int)) h.p (by rw[e];simp);cases e2
 .intro z;have e:=h.o;rw[z,h.t] at e;injection e with e;injection e with e;obtain⟨b,e2⟩:=BM (v:=.int (f.n:Int)) h.q (by rw[e];simp);cases e2
theorem OAt.apart2 {O L T:Addr} {vl vt:List V} {f:Fr} (h:OAt H O L T vl vt f) (hne:f.ls≠[]):L≠T:=by
 intro z;have e:=h.l;rw[z,h.t] at e;injection e with e;injection e with e;have hp:=h.p;cases hl:f.ls with
 |nil=>exact hne hl
 |cons l ls=>
  rw[hl] at hp;cases hp with
  | @cons v _ vr _ q t=>
   obtain⟨b,e1,e2⟩:=q;obtain⟨xs,e3⟩:=q_ h.q (b:=b) (by rw[e,e1];simp);rw[e2] at e3;cases e3
section
theorem rH:bS ["_law_front","_law_letter_here","_law_x","_law_triple"] ["_law_front","_law_letter_here"] (bu mH):=by walk_at"sc"
theorem DU {f f1 f2:Addr} {fd d1 d2:FuncData} (U:Fun K "_law_put" "_law_put" mH f fd) (TM:jb mg) (G1:Use P w K mg base 2 "_law_can" ["_law_front","_law_letter_here"] oW f1 d1) (G2:Use P w K mg base 1 "_law_step" ["_law_loops","_law_letter_here","_law_x"] we f2 d2) :
  FnOk P w K mg base CX0 3 f fd ["_law_front","_law_letter_here"] xu:=by
 refine U.ok rH (λvs H Q E h=>?_) (λcdv A outer s H vs Q E hr h=>?_)
 .obtain⟨O,t,L,T,vl,vt,g,a,rfl,_⟩:=h;rfl
 .obtain⟨O,t,L,T,vl,vt,g,a,rfl,Y,ok,ndt,hts,ht,ha,qn,q⟩:=h;have hr1:=hr.mono (show 1<=2 by decide);refine⟨_,ak (aA (i:=2) rH.nd rfl (.inl rfl) (aP G1.g hr rfl G1.m G1.k G1.b .nil pass0 (aa (pv 0) (aa (pv 1) ae))))
   (ak (bL (aL rP (pv 2) fk (nomark _)) (au (bj fk)) bJ)
   (ak (aA (i:=3) rH.nd rfl (.inl rfl) (aN (aa (aq aI (aq aI (aq aI (pv 0) ag (λ_ _=>rfl)) (dA dz ag) (λ_ _=>rfl)) ag (λ_ _=>rfl)) (aa (aq aI (aq aI (aq aI (pv 0) ag (λ_ _=>rfl)) (dA dz ag) (λ_ _=>rfl)) ag (λ_ _=>rfl)) (aa (pv 2) ae)))))
   (ak (cy (aP G2.g hr1 rfl G2.m G2.k G2.b .nil pass0 (aa (aq aI (pv 0) ag (λ_ _=>rfl)) (aa (pv 1) (aa (pv 2) ae)))))
   (ak (cy (cK cM da de cN (aq aI (pv 0) ag (λ_ _=>rfl)) (aa (pv 3) ae)))
   (ak (eV (a9 (BG rfl) (by rfl) TM.max zB (aa (aq aI (pv 0) ag (λ_ _=>rfl)) (aa (aD cb (pv 2) ag) ae))) (oM (pv 0) ag og))
   (au (bj (pv 3)))))))),?_⟩
  have hline:=line5000;have o0:∀x y z:V,atI [x,y,z] 0=some x:=λ_ _ _=>rfl;have o1:∀x y z:V,atI [x,y,z] 1=some y:=λ_ _ _=>rfl;have o2:∀x y z:V,atI [x,y,z] 2=some z:=λ_ _ _=>rfl;refine⟨_,rfl,_,rfl,O,t,L,T,vl,vt,g,a,rfl,Y,ok,ndt,hts,ht,ha,λH1 s1=>?_⟩;refine⟨_,rfl,rfl,_,rfl,?_⟩;cases hc:g.can a with
  |none=>
   rw[K4 (show ph none=V.non from rfl)];exact aJ (qn hc H1 s1)
  |some x=>
  rw[K5 (by intro z;cases z)];refine av ?_;obtain⟨ah,loop,el⟩:=Ge hc;replace q:=q x hc;have hcan:gS ah loop g.ts g.n a=some x:=by have:=hc;obtain⟨ls,ts,n⟩:=g;dsimp only at el;rw[el,mw] at this;exact this
  have hx:=(kM hcan).1;have hop:=xE ok ha hc;have ep:g.put a x=⟨bK ah loop a x,g.ts++[(g1 loop,g2 loop,x)],max g.n (x+1)⟩:=by obtain⟨ls,ts,n⟩:=g;dsimp only at el;rw[el,oJ]
  have hm:=wH ok;have he:=wI ok;rw[el] at hm he;rw[ar,bg] at hm;obtain⟨nOL,nOT⟩:=Y.apart;have nLT:=Y.apart2 (by rw[el];simp);have Y1:=Y.same s1;have hp:=Y1.p;rw[el] at hp;obtain⟨va,v,ev,hpa,B,rfl,hB⟩:=jC hp;have hat:atI vl (-1)=some (V.ref B):=gQ (by rw[ev];simp);have hg:=xN (ok.two loop (by rw[el];simp));refine⟨_,rfl,O,_,_,_,rfl,rfl,SqL.of Y1.o,o0 _ _ _,_,rfl,L,_,_,_,rfl,rfl,SqL.of Y1.l,hat,B,_,_,_,rfl,rfl,SqL.of hB,cA (j:=0) (dY hg.1),
   _,rfl,O,_,_,_,rfl,rfl,SqL.of Y1.o,o0 _ _ _,_,rfl,L,_,_,_,rfl,rfl,SqL.of Y1.l,hat,B,_,_,_,rfl,rfl,SqL.of hB,cA (j:=1) (dY hg.2),_,rfl,lit3,λtt H2 h2 s2 y2=>?_⟩
  have q2:=s1.trans s2;have Y2:=Y1.same s2;have ntt:H tt=none:=s1.free h2;refine⟨_,rfl,O,_,_,_,rfl,rfl,SqL.of Y2.o,o0 _ _ _,_,rfl,_,rfl,L,t,vl,ah,loop,a,g.n,x,rfl,Y2.l,by rw[<-el];exact Y2.p,q2 _ _ ht,ha,hx,λl hl=>⟨ok.two l (by rw[el];exact hl),bV (he l hl) (by lia)⟩,by lia,λH3 vl' b3 y3 p3 n3=>?_⟩;have hO3:=b3 _ _ nOL Y2.o;have hT3:=b3 _ _ (aF nLT) Y2.t;have lvt:=aU Y.q;refine⟨_,rfl,O,_,_,_,rfl,rfl,SqL.of hO3,o1 _ _ _,.inl ⟨rfl,_,SqL.of hT3⟩,_,rfl,T,_,_,rfl,rfl,hT3,by lia,λH4 k4 y4=>?_⟩;have hO4:H4 O=_:=(k4 O nOT).trans hO3;refine⟨_,rfl,O,_,_,_,rfl,rfl,SqL.of hO4,o2 _ _ _,_,rfl,_,_,rfl,rfl,_,_,rfl,_,rfl,O,_,_,_,rfl,rfl,hO4,(rfl:ixN 3 2=some 2),λH5 k5 y5=>?_⟩;have htt5:H5 tt=some (.tup [.int (g1 loop:Int),.int (g2 loop:Int),.int (x:Int)]):=by have n1:tt≠L:=aF (ax Y.l ntt);have n2:tt≠O:=aF (ax Y.o ntt);have n3:tt≠T:=aF (ax Y.t ntt);exact (k5 tt n2).trans ((k4 tt n3).trans (b3 _ _ n1 y2))
  have inn:∀b,V.ref b∈vl'->b≠T/\b≠O:=λb hb=>by
   obtain⟨l,hl,e⟩:=Fp p3 hb;have h2:2<=l.length:=hop.two l (by rw[ep];exact hl);refine⟨λz=>?_,λz=>?_⟩
   .rw[z,hT3] at e;injection e with e;injection e with e;exact Gh Y2.q e (by rintro rfl;simp at h2)
   .rw[z,hO3] at e;injection e with e;injection e with e;cases l with
    |nil=>simp at h2
    |cons c l=>simp[nV] at e
  refine⟨_,rfl,q tt H5 vl' (vt++[.ref tt]) (λb o n1 n2 n3 e=>(k5 b n1).trans ((k4 b n3).trans (b3 _ _ n2 (q2 _ _ e)))) ?_ (λb hb=>(n3 b hb).imp id q2.free) (rj ntt)⟩;rw[ep];refine⟨?_,(k5 L (aF nOL)).trans ((k4 L nLT).trans y3),cw.move (φ:=nat) p3 λb o hb e=>(k5 b (inn b hb).2).trans ((k4 b (inn b hb).1).trans e),(k5 T (aF nOT)).trans y4,cX (bh.move Y2.q λb o hb e=>?_) (.cons ⟨tt,rfl,htt5⟩ .nil)⟩
  .rw[y5];have e6:(if (x:Int)+1>(g.n:Int) then (x:Int)+1 else (g.n:Int))=((max g.n (x+1):Nat):Int):=by split<;>lia
   show some (HO.lst [V.ref L,V.ref T,V.int (if (x:Int)+1>(g.n:Int) then (x:Int)+1 else (g.n:Int))])=_;rw[e6]
  .obtain⟨xs,e'⟩:=q_ Y2.q hb;exact (k5 b (bM e' Y2.o (by intro z;cases z))).trans ((k4 b (bM e' Y2.t (by intro z;cases z))).trans (b3 _ _ (bM e' Y2.l (by intro z;cases z)) e))
end
def Can (f:Fr) (a:Lt):Prop:=Lets a/\(f.can a).isSome=true
def Ap (vs:List V) (H:Hp) (Q:VK) (O L T:Addr) (vl vt:List V) (f:Fr):Prop:=vs=[.ref O]/\OAt H O L T vl vt f/\Ok f/\(tl f.ts).Nodup/\f.ts.length<=300/\
 ∀r xs lts H',Same H H'->H' r=some (.lst xs)->bU H' xs lts->(∀a∈lts,Can f a)->xs.length<=400->Q (.ref r) H'
def uv:Sp:=λvs H Q _=>Exists (Ex6 (Ap vs H Q))
theorem qH:∀{xs:List V} {ls:List Lt},bU H xs ls->xs.length=ls.length
 |_,_,.nil=>rfl
 |_,_,.cons _ t=>by rw[aZ,aZ,qH t]
theorem oj {xs ys:List V} {ls ms:List Lt} (h:bU H xs ls) (g:bU H ys ms):bU H (xs++ys) (ls++ms):=cX h g
section
theorem km:bS ["_law_front","_law_found","_law_j","_law_loop"] ["_law_front"] (bu ku):=by walk_at"sc"
theorem Ar {f f1:Addr} {fd d1:FuncData} (U:Fun K "_law_partings" "_law_partings" ku f fd) (T:di mg) (G:Use P w K mg base 2 "_law_can" ["_law_front","_law_letter_here"] oW f1 d1) :
  FnOk P w K mg base CX0 3 f fd ["_law_front"] uv:=by
 refine U.ok km (λvs H Q E h=>?_) (λcdv A outer s H vs Q E hr h=>?_)
 .obtain⟨O,L,TT,vl,vt,g,rfl,_⟩:=h;rfl
 .obtain⟨O,L,TT,vl,vt,g,rfl,Y,ok,ndt,hts,q⟩:=h;refine⟨_,ak (aA (i:=1) km.nd rfl (.inl rfl) (br ae))
   (ak (dh cD rfl (vz rfl T.enum rfl T.rev (aa (aq aI (pv 0) ag (λ_ _=>rfl)) ae)) (dX rfl (bB (aK (i:=2) km.nd rfl (.inr rfl)) (bB (aK (i:=3) km.nd rfl (.inl rfl)) dt)))
    (au (aA (i:=1) km.nd rfl (.inl rfl) (aD dI (pv 1) (gj (N:=["_law_k","_law_j"]) (fr:=[none,some 2]) (eR (by decide +kernel) rfl rfl (by decide +kernel) (by decide +kernel) (by walk_at"cs") (by walk_at"ct")) rfl (iO rfl T.range (aa (a9 cu (by rfl) T.len cF (aa (pv 3) ae)) ae))
     (λC' s' H' fp pins=>⟨aK (i:=0) (show (["_law_k","_law_j"]:List Str).Nodup by decide +kernel) rfl (.inl rfl) (.inr rfl),jD,aN (aa b_ (aa (pv 1) (aa (pv 0) ae)))⟩))))))
   (au (bj (gj (N:=["_law_letter_here","_law_front"]) (fr:=[none,some 0]) (eR (by decide +kernel) rfl rfl (by decide +kernel) (by decide +kernel) (by walk_at"cs") (by walk_at"ct")) rfl (dr (pv 1))
     (λC' s' H' fp pins=>⟨aK (i:=0) (show (["_law_letter_here","_law_front"]:List Str).Nodup by decide +kernel) rfl (.inl rfl) (.inr rfl),gM (aL wG (aP G.g hr rfl G.m G.k G.b .nil pass0 (aa (pv 1) (aa (pv 0) ae))) fk (nomark _)),pv 0⟩))))),?_⟩
  have hline:=line5000;have o0:∀x y z:V,atI [x,y,z] 0=some x:=λ_ _ _=>rfl;have hlen:=aU Y.p;have htot:=ok.tot;refine⟨aT _,λp1 H1 h1 s1 y1=>?_⟩;have Y1:=Y.same s1;refine⟨_,rfl,O,_,_,_,rfl,rfl,SqL.of Y1.o,o0 _ _ _,L,vl,rfl,SqL.of Y1.l,uY (K:=[]) (a:=L) (xs:=vl) (λi Z H2=>∃v2 v3 Pf zs lts,Z=[some (.ref O),some (.ref Pf),v2,v3]/\Same H H2/\H2 Pf=some (.lst zs)/\bU H2 zs lts/\(∀a∈lts,Lets a)/\zs.length<=((g.ls.drop (g.ls.length-i)).map List.length).sum)
   ⟨none,none,p1,[],[],rfl,s1,y1,.nil,by simp,aT _⟩ (λi Z H2 _ ⟨_,_,_,_,_,_,e,_⟩=>SqL.of (e _ _ Y.l)) ?_ ?_⟩
  .rintro i x pt Z H2 hi hx ⟨v2,v3,Pf,zs,lts,rfl,sm,hPf,hlz,hcz,hz⟩ hpt;rw[hlen] at hi hx;obtain⟨l,hs,b,rfl,hb⟩:=dG Y.p hx;have ed:=um hs hi;have sd:=qy g.ls (g.ls.length-(i+1));rw[ed,aB,fH] at sd;walk_at"H2 pt hpt H3 s3 y3";have sm3:=sm.trans s3;refine⟨pt,_,rfl,SqT.of y3,rfl,_,_,rfl,_,_,rfl,rfl,?_⟩;refine⟨_,rfl,_,rfl,b,_,rfl,.inl (SqL.of (sm3 _ _ hb)),_,rfl,by rw[bO];lia,by rw[bO];lia,λD hD=>A7 (lo:=0) (n:=(((nV l).length:Nat):Int).toNat) (λk Z ys H'=>∃o,Z=[o,some (.int (i:Int))]/\Same H3 H'/\H' D=some (.lst ys)/\bU H' ys ((List.range k).map λk=>Lt.sp i k))
    ⟨none,rfl,dD hD,cx,.nil⟩ ?_ ?_⟩
   .rintro k Z ys H' hk ⟨o,rfl,sk,hDk,hlk⟩;rw[Int.toNat_natCast,bO] at hk;have hly:=qH hlk;rw[aQ,pP] at hly;refine⟨_,rfl,_,rfl,lit3,λtt H4 gt s4 y4=>?_⟩;have hD4:=s4 _ _ hDk;refine⟨hD4,by lia,λH5 k5 y5=>?_⟩;have mv:∀t xs,H4 t=some (.tup xs)->H5 t=some (.tup xs):=λt xs e=>(k5 t (bM e hD4 (by intro z;cases z))).trans e;refine⟨_,rfl,λb' o' e=>(k5 b' (ax e hD)).trans (s4 _ _ (sk _ _ e)),y5,?_⟩;rw[List.range_succ,bI];refine oj ((hlk.same s4).move mv) (.cons ⟨tt,rfl,mv _ _ ?_⟩ .nil);rw[y4,show (Str.ofString "S")=txt [83] from s83,Int.zero_add];rfl
   .rintro Z ys H' ⟨o,rfl,sk,hDk,hlk⟩;rw[Int.toNat_natCast,bO] at hlk;have hly:=qH hlk;rw[aQ,pP] at hly;refine⟨Pf,D,_,_,rfl,rfl,sk _ _ (s3 _ _ hPf),hDk,by lia,λPn H6 hn s6 y6=>?_⟩;refine⟨_,_,Pn,_,lts++(List.range l.length).map (λk=>Lt.sp i k),rfl,(sm3.trans sk).trans s6,y6,oj (hlz.same ((s3.trans sk).trans s6)) (hlk.same s6),?_,?_⟩
    .intro a ha;rcases ay.mp ha with z|z
     .exact hcz a z
     .obtain⟨k,_,rfl⟩:=aw.mp z;trivial
    .rw[ed,aB,fH,ar];lia
  .rintro Z H2 ⟨v2,v3,Pf,zs,lts,rfl,sm,hPf,hlz0,hcz0,hz⟩;rw[hlen,pZ,m7] at hz;have sm0:=sm;refine⟨_,rfl,Pf,rfl,⟨_,SqL.of hPf⟩,λZ_ hZ=>fg (K:=[]) (a:=Pf) (xs:=zs) (λi Z ys H'=>∃o lz,Z=[o,some (.ref O)]/\Same H2 H'/\H' Z_=some (.lst ys)/\bU H' ys lz/\(∀a∈lz,Can g a)/\ys.length<=i) ⟨none,[],rfl,dD hZ,cx,.nil,by simp,aC _⟩ (λi Z ys H' _ ⟨_,_,_,e,_⟩=>SqL.of (e _ _ hPf)) ?_ ?_⟩
   .rintro i y Z ys H' hi ⟨o,lz,rfl,sm,hZ',hlz,hcz,hlen'⟩;obtain⟨b,hb1,tb,rfl,htb⟩:=jj hlz0 hi;have hiz:=(aS.mp hi).1;have hbl:Lets b:=hcz0 b (a7 hb1);have Y':=(Y.same sm0).same sm;refine⟨_,rfl,_,rfl,O,tb,L,TT,vl,vt,g,b,rfl,Y',ok,ndt,hts,sm _ _ htb,hbl,λH2 s2=>⟨rfl,_,rfl,?_⟩⟩;have sm2:=sm.trans s2;have hZ2:=s2 _ _ hZ';cases ec:g.can b with
    |none=>
     refine av ?_;exact⟨_,lz,rfl,sm2,hZ2,hlz.same s2,hcz,by lia⟩
    |some x=>
     refine aJ ?_;refine⟨_,rfl,hZ2,by lia,λH3 k3 y3=>?_⟩;have mv:∀t xs,H2 t=some (.tup xs)->H3 t=some (.tup xs):=λt xs e=>(k3 t (bM e hZ2 (by intro z;cases z))).trans e;refine⟨_,lz++[b],rfl,λb' o' e=>(k3 b' (ax e hZ)).trans (sm2 _ _ e),y3,oj ((hlz.same s2).move mv) (.cons ⟨tb,rfl,mv _ _ (sm2 _ _ htb)⟩ .nil),?_,?_⟩
     .intro c hc;rcases ay.mp hc with z|z
      .exact hcz c z
      .rw[aR.mp z];exact⟨hbl,by rw[ec];rfl⟩
     .rw[ar,bg];lia
   .rintro Z ys H' ⟨o,lz,rfl,sm,hZ',hlz,hcz,hlen'⟩;exact q Z_ ys lz H' (sm0.trans sm) hZ' hlz hcz (by lia)
end
end K71
end
section
namespace K71
open K31 K51 K15
theorem step3 {ah:Lps} {loop:List Nat} {a:Lt} {n x:Nat} (hl:3<=loop.length) (ha:Lets a) (h:aM ah loop a n=some x) (h3:∀l∈ah,3<=l.length):∀l∈bK ah loop a x,3<=l.length:=by
 cases a with
 |sg c=>
  simp only[Lets] at ha;simp only[aM] at h;rcases ha with rfl|rfl|rfl|rfl
  .intro l hl';rcases ay.mp (show l∈ah++[loop.take 1++x::loop.drop 1] from hl') with z|z
   .exact h3 l z
   .rw[aR.mp z,ar,aZ,bG,aW];lia
  .simp at h;intro l hl';rcases ay.mp (show l∈ah++[loop.take 1++loop.drop 2] from hl') with z|z
   .exact h3 l z
   .rw[aR.mp z,ar,bG,aW];lia
  .simp at h;intro l hl';rcases ay.mp (show l∈ah++[x::(loop.drop 1).dropLast] from hl') with z|z
   .exact h3 l z
   .rw[aR.mp z,aZ,pN,aW];lia
  .exact λl hl'=>h3 l hl'
 |sp j k=>
  simp only[aM] at h;by_cases hj:j=0
  .subst hj;rw[K3 rfl] at h;by_cases hk:2<k/\k+1<loop.length
   .intro l hl';rcases ay.mp (show l∈ah++[loop.take 1++loop.drop k,x::(loop.take k).drop 1] from hl') with z|z
    .exact h3 l z
    .simp only[af,a8,or_false] at z;rcases z with rfl|rfl
     .rw[ar,bG,aW];lia
     .rw[aZ,aW,bG];lia
   .rw[K2 hk] at h;cases h
  .intro l hl';unfold bK at hl';dsimp only at hl';rw[K2 hj] at hl';rcases ay.mp hl' with z|z
   .exact h3 l (IU z)
   .rw[aR.mp z];simp only[ar,aZ,bG,aW];lia
structure Fz (f:Fr):Prop where
 ok:Ok f
 fi:FI f.ts f.ls
 st:f.ts=[]->f=Fr.at0
 go:f.ts≠[]->(∀l∈f.ls,3<=l.length)/\∃c,En f.ts 0 1 c
theorem fz0:Fz Fr.at0:=⟨ok0,fi0,λ_=>rfl,λh=>(h rfl).elim⟩
theorem Fz.put {f:Fr} {a:Lt} {x:Nat} (h:Fz f) (ha:Lets a) (hc:f.can a=some x):Fz (f.put a x)/\(f.put a x).ts.length=f.ts.length+1:=by
 have hok:=xE h.ok ha hc;have hfi:=Ig h.ok h.fi ha hc;obtain⟨ah,loop,el⟩:∃ah loop,f.ls=ah++[loop]:=by
  unfold Fr.can at hc;cases e:f.ls.getLast? with
  |none=>rw[e] at hc;cases hc
  |some l=>exact⟨f.ls.dropLast,l,by rw[tJ] at e;obtain⟨ys,e⟩:=e;rw[e];simp⟩
 have ep:f.put a x=⟨bK ah loop a x,f.ts++[(g1 loop,g2 loop,x)],max f.n (x+1)⟩:=by obtain⟨ls,ts,n⟩:=f;dsimp only at el;rw[el,oJ]
 have hcan:gS ah loop f.ts f.n a=some x:=by have:=hc;obtain⟨ls,ts,n⟩:=f;dsimp only at el;rw[el,mw] at this;exact this
 have hx:=(kM hcan).1;have el':(f.put a x).ts.length=f.ts.length+1:=by rw[ep];simp
 refine⟨⟨hok,hfi,λe=>by rw[e] at el';simp at el',λ_=>?_⟩,el'⟩;rw[ep];by_cases e:f.ts=[]
 .have e0:=h.st e;rw[e0] at el;have e1:ah=[]/\loop=[0,1]:=by
   have:([[0,1]]:Lps)=ah++[loop]:=el;cases ah with
   |nil=>simp at this;exact⟨rfl,this.symm⟩
   |cons b ah=>simp at this
  obtain⟨rfl,rfl⟩:=e1;have ea:a=.sg 67:=by
   cases a with
   |sg c=>
    simp only[Lets] at ha;rcases ha with rfl|rfl|rfl|rfl
    .rfl
    .simp[aM] at hx
    .simp[aM] at hx
    .simp[aM] at hx
   |sp j k=>
    simp only[aM] at hx;by_cases hj:j=0
    .rw[K3 hj] at hx;simp at hx;lia
    .rw[K2 hj,K2 (by simp;lia)] at hx;cases hx
  subst ea;constructor
  .intro l hl;have hl:l∈([[0,x,1]]:Lps):=hl;rw[aR.mp hl];simp
  .refine⟨x,?_⟩;rw[e];show ((0,1),x)∈ents [(0,1,x)];simp[ents]
 .obtain⟨g3,c,hc'⟩:=h.go e;refine⟨step3 (g3 loop (by rw[el];simp)) ha hx λl hl=>g3 l (by rw[el];simp[hl]),c,?_⟩;show ((0,1),c)∈ents _;rw[K15.ents_app];exact cf _ hc'
end K71
end
section
namespace K71
open PySem L2 K51 K31 K15
theorem A4 {lo:Int} {n:Nat} {g:TG} {tb:L2.TS} {D:Ends} (Pv:Nat->St->Hp->Prop) (R:St->Hp->Prop) (h0:Pv 0 Z H)
  (hs:∀NX:St->Hp->Prop,(∀Z H,R Z H->NX Z H)->∀i Z H,i<n->Pv i Z H->g (.int (lo+i)) Z H λσ2 H2=>tb {D with nx:=Pv (i+1),ct:=Pv (i+1),bk:=NX} σ2 H2) (hd:∀Z H,Pv n Z H->R Z H) (out:∀Z H,R Z H->D.nx Z H) :
  ∃W:Nat->Nat->St->Hp->Prop,(∃m,W 0 m Z H)/\∀i m Z H,W i m Z H->
   ((Itr lo n).stop i H/\D.nx Z H)\/((Itr lo n).go i H/\∃N:St->Hp->Prop,(∀Z' H',N Z' H'->∃m',m'<m/\W (i+1) m' Z' H')/\∀x H',(Itr lo n).yld i H x H'->g x Z H' λσ2 H2=>tb {D with nx:=N,ct:=N,bk:=D.nx} σ2 H2):=
 jq Pv h0 (hs D.nx out) λZ H p=>out Z H (hd Z H p)
theorem OAt.but {p O L T:Addr} {vl vt:List V} {f:Fr} (h:OAt H O L T vl vt f) (hp:H p=some (.lst xs)) (s:But p H H') (n1:p≠O) (n2:p≠L) (n3:p≠T) (n4:V.ref p∉vl):OAt H' O L T vl vt f:=
 ⟨s _ _ (aF n1) h.o,s _ _ (aF n2) h.l,cw.move (φ:=nat) h.p λb o hb e=>s b o (λz=>n4 (by rw[<-z];exact hb)) e,s _ _ (aF n3) h.t,bh.move h.q λb o hb e=>by
  obtain⟨ys,e'⟩:=q_ h.q hb;exact s b o (bM e' hp (by intro z;cases z)) e⟩
theorem Fz.ndt {f:Fr} (h:Fz f):(tl f.ts).Nodup:=by have:=h.fi.nd;unfold kn at this;exact (bZ.mp this).1
def B5 (vs:List V) (H:Hp) (Q:VK) (p:Addr) (pq:Int×Int) (m:Nat):Prop:=vs=[.ref p,.int (m:Int)]/\H p=some (.lst (cG pq))/\cY pq/\m<=16/\
 ∀r Ls O L T vl vt lv f pq' H',But p H H'->H' p=some (.lst (cG pq'))->cY pq'->H' r=some (.tup [.ref Ls,.ref O])->H' Ls=some (.lst lv)->OAt H' O L T vl vt f->Fz f->lv.length=f.ts.length->f.ts.length<=m->(∀v∈lv,∃b a,v=.ref b/\H' b=some (.tup (ltV a))/\Lets a)->Q (.ref r) H'
def wo:Sp:=λvs H Q _=>Exists (Ex3 (B5 vs H Q))
section
theorem gL:bS ["_law_pot_here","_law_most","_law_front","_law_letters","_law_k","_law_way","_law_some","_law_letter_here"] ["_law_pot_here","_law_most"] (bu lJ):=by walk_at"sc"
theorem CD {f f1 f2 f3 f4:Addr} {fd d1 d2 d3 d4:FuncData} (U:Fun K "_law_begun" "_law_begun" lJ f fd) (T:di mg) (G:Use P w K mg base 2 "_law_can" ["_law_front","_law_letter_here"] oW f1 d1)
  (GD:Use P w K mg base 1 "_law_digit" ["_law_pot_here","_law_base"] lr f2 d2) (GP:Use P w K mg base 3 "_law_partings" ["_law_front"] uv f3 d3) (GU:Use P w K mg base 3 "_law_put" ["_law_front","_law_letter_here"] xu f4 d4) :
  FnOk P w K mg base CX0 4 f fd ["_law_pot_here","_law_most"] wo:=by
 refine U.ok gL (λvs H Q E h=>?_) (λcdv A outer s H vs Q E hr h=>?_)
 .obtain⟨p,pq,m,rfl,_⟩:=h;rfl
 .obtain⟨p,pq,m,rfl,hp,hpq,hm,q⟩:=h;have hr1:=hr.mono (show 1<=3 by decide);have hr2:=hr.mono (show 2<=3 by decide);refine⟨_,ak (aA (i:=2) gL.nd rfl (.inr rfl) (br (aa (br (aa (br (aa ag (aa ag ae))) ae)) (aa (br ae) (aa ag ae)))))
   (ak (aA (i:=3) gL.nd rfl (.inl rfl) (br ae))
   (ak (dh cD rfl (iO rfl T.range (aa (aP GD.g hr1 rfl GD.m GD.k GD.b .nil pass0 (aa (pv 0) (aa (aD cb (pv 1) ag) ae))) ae)) (aK (i:=4) gL.nd rfl (.inl rfl))
    (ak (aA (i:=5) gL.nd rfl (.inl rfl) (aP GD.g hr1 rfl GD.m GD.k GD.b .nil pass0 (aa (pv 0) (aa ag ae))))
    (ak (lO (i:=6) (N:=["_law_letter_here","_law_front"]) (fr:=[none,some 2]) (eR (by decide +kernel) rfl rfl (by decide +kernel) (by decide +kernel) (by walk_at"cs") (by walk_at"ct")) rfl (dr (br (aa (aN (aa b_ ae)) (aa (aN (aa b_ ae)) (aa (aN (aa b_ ae)) ae)))))
     (λC' s' H' fp pins=>⟨aK (i:=0) (show (["_law_letter_here","_law_front"]:List Str).Nodup by decide +kernel) rfl (.inl rfl) (.inr rfl),gM (aL wG (aP G.g hr2 rfl G.m G.k G.b .nil pass0 (aa (pv 1) (aa (pv 0) ae))) fk (nomark _)),pv 0⟩) gL.nd rfl (.inl rfl))
    (ak (bL (aL du (pv 5) ag (nomark _)) (au (aA (i:=6) gL.nd rfl (.inl rfl) (aP GP.g hr rfl GP.m GP.k GP.b .nil pass0 (aa (pv 2) ae)))) bJ)
    (ak (aA (i:=7) gL.nd rfl (.inl rfl) (aN (aa b_ ae)))
    (ak (bL (PW.pt (eG (aL r9 (pv 5) ag (nomark _)) (eM (aL (gO hr.units) (pv 6) (br ae) (nomark _))))) (au (aA (i:=7) gL.nd rfl (.inl rfl) (aq aI (pv 6) (aP GD.g hr1 rfl GD.m GD.k GD.b .nil pass0 (aa (pv 0) (aa (a9 cu (by rfl) T.len cF (aa (pv 6) ae)) ae))) (λ_ _=>rfl)))) bJ)
    (ak (bL (aL rP (aP GU.g hr rfl GU.m GU.k GU.b .nil pass0 (aa (pv 2) (aa (pv 7) ae))) fk (nomark _)) (au Ci) bJ)
    (au (cy (cK cM da de cN (pv 3) (aa (pv 7) ae)))))))))))
   (au (bj (aN (aa (pv 3) (aa (pv 2) ae))))))),?_⟩
  have hline:=line5000;refine⟨lit2,λB H1 hB s1 y1=>?_⟩;refine⟨lit1,λL H2 hL s2 y2=>?_⟩;refine⟨aT _,λTT H3 hT s3 y3=>?_⟩;refine⟨lit3,λO H4 hO s4 y4=>?_⟩;refine⟨aT _,λLs H5 hLs s5 y5=>?_⟩;have s02:=s1.trans s2;have s04:=(s02.trans s3).trans s4;have s05:=s04.trans s5;have nB:H B=none:=hB;have nL:H L=none:=s1.free hL;have nT:H TT=none:=s02.free hT;have nO:H O=none:=(s02.trans s3).free hO;have nLs:H Ls=none:=s04.free hLs;have pB:=ax hp nB;have pL:=ax hp nL;have pT:=ax hp nT;have pO:=ax hp nO;have pLs:=ax hp nLs;have dLT:L≠TT:=ax y2 hT;have dLO:L≠O:=ax (s3 _ _ y2) hO;have dLLs:L≠Ls:=ax (s4 _ _ (s3 _ _ y2)) hLs;have dTO:TT≠O:=ax y3 hO;have dTLs:TT≠Ls:=ax (s4 _ _ y3) hLs;have dOLs:O≠Ls:=ax y4 hLs;have dBLs:B≠Ls:=ax (((s2.trans s3).trans s4) _ _ y1) hLs;have Y0:OAt H5 O L TT [.ref B] [] Fr.at0:=⟨s5 _ _ y4,((s3.trans s4).trans s5) _ _ y2,.cons ⟨B,rfl,(((s2.trans s3).trans s4).trans s5) _ _ y1⟩ .nil,(s4.trans s5) _ _ y3,.nil⟩;refine⟨_,rfl,_,rfl,_,_,rfl,rfl,p,pq,(m:Int)+1,rfl,s05 _ _ hp,hpq,by lia,fZ (by lia) (by lia),λH6 k6 y6=>?_⟩;have hd:=gK (q:=pq) (b:=(m:Int)+1) (by lia);have hpq1:=fm (b:=(m:Int)+1) hpq;obtain⟨d,ed⟩:=Int.eq_ofNat_of_zero_le hd.1;rw[ed] at hd |-;generalize nxt pq ((m:Int)+1)=pq1 at hpq1 y6 |-;have b6:But p H H6:=λb o n e=>(k6 b n).trans (s05 _ _ e);have Y6:OAt H6 O L TT [.ref B] [] Fr.at0:=Y0.but (s05 _ _ hp) (λb o n e=>(k6 b n).trans e) pO pL pT (by simpa using pB);refine⟨_,rfl,by lia,by lia,A4 (lo:=0) (n:=((d:Nat):Int).toNat) (λi Z H'=>∃o4 o5 o6 o7 vl vt lv g pq',Z=[some (.ref p),some (.int (m:Int)),some (.ref O),some (.ref Ls),o4,o5,o6,o7]/\But p H H'/\H' p=some (.lst (cG pq'))/\cY pq'/\H' Ls=some (.lst lv)/\OAt H' O L TT vl vt g/\Fz g/\lv.length=g.ts.length/\g.ts.length=i/\(∀v∈lv,∃b a,v=.ref b/\H' b=some (.tup (ltV a))/\Lets a)/\V.ref p∉vl/\V.ref Ls∉vl)
   (λZ H'=>∃o4 o5 o6 o7 vl vt lv g pq',Z=[some (.ref p),some (.int (m:Int)),some (.ref O),some (.ref Ls),o4,o5,o6,o7]/\But p H H'/\H' p=some (.lst (cG pq'))/\cY pq'/\H' Ls=some (.lst lv)/\OAt H' O L TT vl vt g/\Fz g/\lv.length=g.ts.length/\g.ts.length<=m/\(∀v∈lv,∃b a,v=.ref b/\H' b=some (.tup (ltV a))/\Lets a))
   ⟨none,none,none,none,_,_,[],Fr.at0,pq1,rfl,b6,y6,hpq1,(k6 Ls (aF pLs)).trans y5,Y6,fz0,rfl,rfl,by simp,by simpa using pB,by simpa using aF dBLs⟩ ?_ ?_ ?_⟩
  .rintro NX hOut i Z H7 hi ⟨o4,o5,o6,o7,vl,vt,lv,g,pq2,rfl,b7,hp7,hpq2,hLs7,Y7,fz,elv,eg,hlv,npv,nlv⟩;have hid:i<d:=by lia
   refine⟨_,rfl,p,pq2,6,rfl,hp7,hpq2,by decide,fZ (by decide) (by decide),λH8 k8 y8=>?_⟩;have hw:=gK (q:=pq2) (b:=6) (by decide);have hpq3:=fm (b:=6) hpq2;generalize digO pq2 6=wy at hw;generalize nxt pq2 6=pq3 at hpq3 y8 |-;have b78:But p H7 H8:=λb o n e=>(k8 b n).trans e;have Y:OAt H8 O L TT vl vt g:=Y7.but hp7 b78 pO pL pT npv;have ok:=fz.ok;have ndt:=fz.ndt;have hts:g.ts.length<=300:=by lia
   refine⟨lit1,λta Ha ga sa ya=>?_⟩;refine⟨lit1,λtb Hb gb sb yb=>?_⟩;refine⟨lit1,λtc Hc gc sc yc=>?_⟩;refine⟨lit3,λtl' Hd gl sd yd=>?_⟩;have sm0:=((sa.trans sb).trans sc).trans sd;have hz0:bU Hd [.ref ta,.ref tb,.ref tc] [.sg 69,.sg 82,.sg 76]:=.cons ⟨ta,rfl,((sb.trans sc).trans sd) _ _ (ya.trans ltE)⟩ (.cons ⟨tb,rfl,(sc.trans sd) _ _ (yb.trans K51.ltR)⟩ (.cons ⟨tc,rfl,sd _ _ (yc.trans ltL)⟩ .nil));have hcz0:∀b∈([.sg 69,.sg 82,.sg 76]:List Lt),Lets b:=λb hb=>by
    simp only[af,a8,or_false] at hb;rcases hb with rfl|rfl|rfl<;>simp[K31.Lets]
   refine⟨tl',rfl,⟨_,SqL.of yd⟩,λZ_ hZ=>fg (K:=[]) (a:=tl') (xs:=[V.ref ta,V.ref tb,V.ref tc]) (λi Z ys H'=>∃o lz,Z=[o,some (.ref O)]/\Same Hd H'/\H' Z_=some (.lst ys)/\bU H' ys lz/\(∀a∈lz,Can g a)/\ys.length<=i) ⟨none,[],rfl,dD hZ,cx,.nil,by simp,aC _⟩ (λi Z ys H' _ ⟨_,_,_,e,_⟩=>SqL.of (e _ _ yd)) ?_ ?_⟩
   .rintro i y Z ys H' hi ⟨o,lz,rfl,sm,hZ',hlz,hcz,hlen'⟩;obtain⟨b,hb1,tb,rfl,htb⟩:=jj hz0 hi;have hiz:=(aS.mp hi).1;have hiz:i<3:=hiz;have hbl:Lets b:=hcz0 b (a7 hb1);have Y':=(Y.same sm0).same sm;refine⟨_,rfl,_,rfl,O,tb,L,TT,vl,vt,g,b,rfl,Y',ok,ndt,hts,sm _ _ htb,hbl,λH2 s2=>⟨rfl,_,rfl,?_⟩⟩;have sm2:=sm.trans s2;have hZ2:=s2 _ _ hZ';cases ec:g.can b with
    |none=>
     refine av ?_;exact⟨_,lz,rfl,sm2,hZ2,hlz.same s2,hcz,by lia⟩
    |some x=>
     refine aJ ?_;refine⟨_,rfl,hZ2,by lia,λH3 k3 y3=>?_⟩;have mv:∀t xs,H2 t=some (.tup xs)->H3 t=some (.tup xs):=λt xs e=>(k3 t (bM e hZ2 (by intro z;cases z))).trans e;refine⟨_,lz++[b],rfl,λb' o' e=>(k3 b' (ax e hZ)).trans (sm2 _ _ e),y3,oj (jo mv (hlz.same s2)) (.cons ⟨tb,rfl,mv _ _ (sm2 _ _ htb)⟩ .nil),?_,?_⟩
     .intro c hc;rcases ay.mp hc with z|z
      .exact hcz c z
      .rw[aR.mp z];exact⟨hbl,by rw[ec];rfl⟩
     .rw[ar,bg];lia
   .rintro Z ys H' ⟨o,lz,rfl,sm,hZ',hlz,hcz,hlen'⟩;have q1:=sm0.trans sm;have Y1:=Y.same q1;have hlen3:ys.length<=3:=hlen';dsimp only [sI,mB,dZ];refine iS (λZ H2=>∃r xs lts,Z=[some (.ref p),some (.int (m:Int)),some (.ref O),some (.ref Ls),some (.int (0+(i:Int))),some (.int wy),some (.ref r),o7]/\Same H8 H2/\H2 r=some (.lst xs)/\bU H2 xs lts/\(∀a∈lts,Can g a)/\xs.length<=400) (λNX' hOut'=>?_) ?_
    .refine⟨_,rfl,rfl,_,rfl,?_⟩;cases decide (V.int wy=V.int 5) with
     |true=>exact aJ ⟨_,rfl,O,L,TT,vl,vt,g,rfl,Y1,ok,ndt,hts,λr xs lts H2 s2 hr2' hl2 hc2 hx2=>hOut' _ _ ⟨r,xs,lts,rfl,q1.trans s2,hr2',hl2,hc2,hx2⟩⟩
     |false=>exact av (hOut' _ _ ⟨Z_,ys,lz,rfl,q1,hZ',hlz,hcz,by lia⟩)
    rintro Z H2 ⟨r,xs,lts,rfl,q2,hr2,hl2,hc2,hx2⟩;refine⟨lit1,λtt H3 gt s3' y3'=>?_⟩;have q3:=q2.trans s3';have hlx:=aU hl2;dsimp only [sI,mB,dZ];refine iS (λZ H4=>∃t a pq4,Z=[some (.ref p),some (.int (m:Int)),some (.ref O),some (.ref Ls),some (.int (0+(i:Int))),some (.int wy),some (.ref r),some (.ref t)]/\But p H8 H4/\H4 p=some (.lst (cG pq4))/\cY pq4/\H4 t=some (.tup (ltV a))/\Lets a) (λNX' hOut'=>?_) ?_
    .have stay:∀H4,Same H3 H4->NX' [some (.ref p),some (.int (m:Int)),some (.ref O),some (.ref Ls),some (.int (0+(i:Int))),some (.int wy),some (.ref r),some (.ref tt)] H4:=λH4 s4'=>hOut' _ _ ⟨tt,.sg 67,pq3,rfl,λb o n e=>s4' _ _ (q3 _ _ e),s4' _ _ (q3 _ _ y8),hpq3,s4' _ _ (y3'.trans ltC),.inl rfl⟩;refine⟨_,rfl,_,_,rfl,rfl,_,rfl,?_⟩;cases decide ((1:Int)<wy) with
     |false=>exact av (av (stay H3 qV))
     |true=>
      refine aJ ⟨_,rfl,aT _,λp5 H9 h5 s9 y9=>?_⟩;refine⟨_,_,.lst (SqL.of (s9 _ _ (s3' _ _ hr2))) (iQ (λa ha=>fh (hc2 a ha).1) ((hl2.same s3').same s9)),.lst (SqL.of y9) .nil,?_,_,rfl,?_⟩
      .have:=hV lts;simp only[PyData.depth];lia
      rw[K3 rfl,jw];cases lts with
      |nil=>exact av (stay H9 s9)
      |cons c lts=>
       have hpos:0<xs.length:=by rw[hlx];simp
       have hp9:=s9 _ _ (q3 _ _ y8);have hr9:=s9 _ _ (s3' _ _ hr2);refine aJ ⟨_,rfl,_,rfl,_,rfl,r,_,rfl,.inl (SqL.of hr9),p,pq3,_,rfl,hp9,hpq3,by lia,fZ (by lia) (by lia),λH10 k10 y10=>?_⟩;have hd':=gK (q:=pq3) (b:=(xs.length:Int)) (by lia);have hpq4:=fm (b:=(xs.length:Int)) hpq3;obtain⟨d',ed'⟩:=Int.eq_ofNat_of_zero_le hd'.1;rw[ed'] at hd' |-;generalize nxt pq3 (xs.length:Int)=pq4 at hpq4 y10 |-;have nrp:r≠p:=λz=>by
        have e1:=hr9;rw[z,hp9] at e1;injection e1 with e1;injection e1 with e1;rw[<-e1] at hl2;cases hl2 with
        |cons h _=>obtain⟨t,e,_⟩:=h;cases e
       have hdx:d'<xs.length:=by lia
       have hxd:xs[d']?=some xs[d']:=aX hdx;obtain⟨b,hb1,tb2,etb,htb⟩:=jj hl2 hxd;rw[etb] at hxd;have htb9:=s9 _ _ (s3' _ _ htb);refine⟨r,_,(d':Int),V.ref tb2,rfl,rfl,SqL.of ((k10 r nrp).trans hr9),cA hxd,hOut' _ _ ⟨tb2,b,pq4,rfl,λc o n e=>(k10 c n).trans (s9 _ _ (q3 _ _ e)),y10,hpq4,(k10 tb2 (bM htb9 hp9 (by intro z;cases z))).trans htb9,(hc2 b (a7 hb1)).1⟩⟩
    rintro Z H4 ⟨t,a,pq4,rfl,b84,hp4,hpq4,ht4,ha⟩;have Y4:OAt H4 O L TT vl vt g:=Y.but y8 b84 pO pL pT npv;have bH4:But p H H4:=λb o n e=>b84 b o n (b78 b o n (b7 b o n e));have hLs4:=b84 _ _ (aF pLs) (b78 _ _ (aF pLs) hLs7);have hlv4:∀v∈lv,∃b a,v=.ref b/\H4 b=some (.tup (ltV a))/\Lets a:=λv hv=>let ⟨b,a,e1,e2,e3⟩:=hlv v hv;⟨b,a,e1,b84 _ _ (bM (b78 _ _ (bM e2 hp7 (by intro z;cases z)) e2) y8 (by intro z;cases z)) (b78 _ _ (bM e2 hp7 (by intro z;cases z)) e2),e3⟩;refine⟨_,rfl,_,rfl,O,t,L,TT,vl,vt,g,a,rfl,Y4,ok,ndt,hts,ht4,ha,λhc H5' s5'=>?_,λx hx t' H5' vl' vt' b3 Y5 nv nt=>?_⟩
    .refine⟨rfl,_,rfl,?_⟩;refine aJ (hOut _ _ ⟨_,_,_,_,vl,vt,lv,g,pq4,rfl,λb o n e=>s5' _ _ (bH4 b o n e),s5' _ _ hp4,hpq4,s5' _ _ hLs4,Y4.same s5',fz,elv,by lia,λv hv=>?_⟩);obtain⟨b,a,e1,e2,e3⟩:=hlv4 v hv;exact⟨b,a,e1,s5' _ _ e2,e3⟩
    .refine⟨rfl,_,rfl,?_⟩;obtain⟨fz',el'⟩:=fz.put ha hx;have hLs5:=b3 _ _ (aF dOLs) (aF dLLs) (aF dTLs) hLs4;have tp5:∀t xs,H4 t=some (.tup xs)->H5' t=some (.tup xs):=λt xs e=>b3 t _ (bM e Y4.o (by intro z;cases z)) (bM e Y4.l (by intro z;cases z)) (bM e Y4.t (by intro z;cases z)) e;refine av ⟨_,rfl,.inl ⟨rfl,_,SqL.of hLs5⟩,_,rfl,Ls,_,_,rfl,rfl,hLs5,by lia,λH6' k6' y6'=>?_⟩;have hp5:=b3 _ _ pO pL pT hp4;refine⟨_,_,_,_,vl',vt',_,g.put a x,pq4,rfl,λb o n e=>(k6' b (ax e nLs)).trans (b3 b o (ax e nO) (ax e nL) (ax e nT) (bH4 b o n e)),(k6' p pLs).trans hp5,hpq4,y6',Y5.but hLs5 (λb o n e=>(k6' b n).trans e) (aF dOLs) (aF dLLs) (aF dTLs) ?_,fz',?_,by lia,?_,?_,?_⟩
     .intro z;rcases nv _ z with z|z
      .exact nlv z
      .rw[hLs4] at z;cases z
     .rw[ar,bg];lia
     .have tp6:∀t xs,H5' t=some (.tup xs)->H6' t=some (.tup xs):=λt xs e=>(k6' t (bM e hLs5 (by intro z;cases z))).trans e;intro v hv;rcases ay.mp hv with z|z
      .obtain⟨b,a,e1,e2,e3⟩:=hlv4 v z;exact⟨b,a,e1,tp6 _ _ (tp5 _ _ e2),e3⟩
      .rw[aR.mp z];exact⟨t,a,rfl,tp6 _ _ (tp5 _ _ ht4),ha⟩
     .intro z;rcases nv _ z with z|z
      .exact npv z
      .rw[hp4] at z;cases z
     .intro z;rcases nv _ z with z|z
      .exact nlv z
      .rw[hLs4] at z;cases z
  .rintro Z H7 ⟨o4,o5,o6,o7,vl,vt,lv,g,pq2,rfl,b7,hp7,hpq2,hLs7,Y7,fz,elv,eg,hlv,npv,nlv⟩;exact⟨o4,o5,o6,o7,vl,vt,lv,g,pq2,rfl,b7,hp7,hpq2,hLs7,Y7,fz,elv,by lia,hlv⟩
  .rintro Z H7 ⟨o4,o5,o6,o7,vl,vt,lv,g,pq2,rfl,b7,hp7,hpq2,hLs7,Y7,fz,elv,eg,hlv⟩;refine⟨_,rfl,_,rfl,lit2,λr H8 hr' s8 y8=>?_⟩;exact q r Ls O L TT vl vt lv g pq2 H8 (b7.same s8) (s8 _ _ hp7) hpq2 y8 (s8 _ _ hLs7) (Y7.same s8) fz elv eg λv hv=>let ⟨b,a,e1,e2,e3⟩:=hlv v hv;⟨b,a,e1,s8 _ _ e2,e3⟩
end
theorem xy:∀(u:Pr) (r:List Pr) (w:Pr) (k:Nat),k<=r.length->(pp u r w)[k]?=some ((u::r).getD k (0,0),(r++[w]).getD k (0,0))
 |u,[],w,k,h=>by
  have:k=0:=by simpa using h
  subst this;rfl
 |u,v::r,w,0,h=>by simp[pp]
 |u,v::r,w,k+1,h=>by
  have:=xy v r w k (by simpa using h);simp only[pp,e_,this];simp
theorem xx:∀(u:Pr) (r:List Pr) (w:Pr),(pp u r w).length=r.length+1
 |_,[],_=>rfl
 |_,v::r,w=>by show (pp v r w).length+1=_;rw[xx];rfl
theorem rz (Q:List Pr):(cyc Q).length=Q.length:=by
 cases Q with
 |nil=>rfl
 |cons u r=>exact xx u r u
theorem Eo (Q:List Pr) (k:Nat) (h:k<Q.length):(cyc Q)[k]?=some (Q.getD k (0,0),Q.getD ((k+1)%Q.length) (0,0)):=by
 cases Q with
 |nil=>simp at h
 |cons u r=>
  have hk:k<=r.length:=by simpa [I_] using h
  show (pp u r u)[k]?=_;rw[xy u r u k hk]
  congr 2
  rw[aZ];by_cases e:k=r.length
  .subst e;rw[ny];simp[List.getD]
  .rw[j9 (by lia)];simp only[List.getD,e_];rw[dS (by lia)]
theorem lQ (N:Nat) (l:List Nat):(prs N l).length=l.length:=by simp[prs]
theorem wC {N:Nat} {l:List Nat} {k:Nat} (h:k<l.length):(prs N l).getD k (0,0)=(l.getD k 0,N+k):=by simp[prs,List.getD,h]
theorem Em {N:Nat} {l:List Nat} {k:Nat} (h:k<l.length):(cyc (prs N l))[k]?=some ((l.getD k 0,N+k),(l.getD ((k+1)%l.length) 0,N+(k+1)%l.length)):=by rw[Eo _ _ (by rw[lQ];exact h),lQ,wC h,wC (nu _ (by lia))]
def off (N:Nat) (ls:Lps):Nat:=N+(ls.map λl=>l.length+1).sum
theorem CG (N:Nat) (l:List Nat) (ls:Lps):off N (l::ls)=off (N+l.length+1) ls:=by simp only[off,aB,fH];lia
theorem CF (N:Nat) (ls:Lps) (l:List Nat):off N (ls++[l])=off N ls+l.length+1:=by simp only[off,bI,iI,aB,eO,fH,tO];lia
theorem u_:∀(N:Nat) (ls:Lps) (l:List Nat),clos N (ls++[l])=clos N ls++clo (off N ls+l.length) (prs (off N ls) l)
 |N,[],l=>by simp[clos,off]
 |N,m::ls,l=>by
  show clo (N+m.length) (prs N m)++clos (N+m.length+1) (ls++[l])=_;rw[u_ _ ls l,<-bH,CG];rfl
theorem qJ:∀(N:Nat) (ls:Lps),(clos N ls).length=3*(ls.map List.length).sum
 |_,[]=>rfl
 |N,l::ls=>by
  show (clo (N+l.length) (prs N l)++clos (N+l.length+1) ls).length=_;have h:∀(c:Nat) (Q:List (Pr×Pr)),(Q.flatMap λe=>[tA e,tB e,tC c e]).length=3*Q.length:=λc Q=>by
   induction Q with
   |nil=>rfl
   |cons e Q ih=>rw[je,ar,ih,aZ];simp only[aZ,jf];lia
  rw[ar,qJ,aB,fH];unfold clo;rw[h,rz,lQ];lia
def AN (vs:List V) (H:Hp) (Q:VK) (O L T:Addr) (vl vt:List V) (f:Fr):Prop:=vs=[.ref O]/\OAt H O L T vl vt f/\Ok f/\f.ts.length<=40/\
 ∀r vr H',H r=none->Same H H'->H' r=some (.lst vr)->bh H' vr (f.ts++clos f.n f.ls)->Q (.ref r) H'
def uO:Sp:=λvs H Q _=>Exists (Ex6 (AN vs H Q))
section
theorem iN:bS ["_law_front","_law_found","_law_new","_law_loop","_law_m","_law_i"] ["_law_front"] (bu kI):=by walk_at"sc"
theorem A1 {f:Addr} (U:Fun K "_law_closing" "_law_closing" kI f fd) (T:di mg):FnOk P w K mg base CX0 1 f fd ["_law_front"] uO:=by
 refine U.ok iN (λvs H Q E h=>?_) (λcdv A outer s H vs Q E hr h=>?_)
 .obtain⟨O,L,TT,vl,vt,g,rfl,_⟩:=h;rfl
 .obtain⟨O,L,TT,vl,vt,g,rfl,Y,ok,hts,q⟩:=h;refine⟨_,ak (aA (i:=1) iN.nd rfl (.inl rfl) (ff iM (by rfl) T.list j_ (aa (aq aI (pv 0) ag (λ_ _=>rfl)) ae)))
   (ak (aA (i:=2) iN.nd rfl (.inl rfl) (aq aI (pv 0) ag (λ_ _=>rfl)))
   (ak (dh cD rfl (dr (aq aI (pv 0) ag (λ_ _=>rfl))) (aK (i:=3) iN.nd rfl (.inl rfl))
    (ak (aA (i:=4) iN.nd rfl (.inl rfl) (a9 cu (by rfl) T.len cF (aa (pv 3) ae)))
    (ak (dh cD rfl (iO rfl T.range (aa (pv 4) ae)) (aK (i:=5) iN.nd rfl (.inl rfl))
     (ak (cy (cK cM da de cN (pv 1) (aa (aN (aa (aq aI (pv 3) (pv 5) (λ_ _=>rfl)) (aa (aq aI (pv 3) (aD gr (aD cb (pv 5) ag) (pv 4)) (λ_ _=>rfl)) (aa (aD cb (pv 2) (pv 5)) ae)))) ae)))
     (ak (cy (cK cM da de cN (pv 1) (aa (aN (aa (aq aI (pv 3) (aD gr (aD cb (pv 5) ag) (pv 4)) (λ_ _=>rfl)) (aa (aD cb (pv 2) (aD gr (aD cb (pv 5) ag) (pv 4))) (aa (aD cb (pv 2) (pv 5)) ae)))) ae)))
     (au (cy (cK cM da de cN (pv 1) (aa (aN (aa (aD cb (pv 2) (pv 5)) (aa (aD cb (pv 2) (aD gr (aD cb (pv 5) ag) (pv 4))) (aa (aD cb (pv 2) (pv 4)) ae)))) ae)))))))
    (au (aA (i:=2) iN.nd rfl (.inl rfl) (aD cb (aD cb (pv 2) (pv 4)) ag))))))
   (au (bj (pv 1))))),?_⟩
  have hline:=line5000;have o0:∀x y z:V,atI [x,y,z] 0=some x:=λ_ _ _=>rfl;have o1:∀x y z:V,atI [x,y,z] 1=some y:=λ_ _ _=>rfl;have o2:∀x y z:V,atI [x,y,z] 2=some z:=λ_ _ _=>rfl;have hlen:=aU Y.p;have htot:=ok.tot;refine⟨_,rfl,O,_,_,_,rfl,rfl,SqL.of Y.o,o1 _ _ _,TT,_,rfl,.inl (SqL.of Y.t),λF H1 hF s1 y1=>?_⟩;refine⟨_,rfl,O,_,_,_,rfl,rfl,SqL.of (s1 _ _ Y.o),o2 _ _ _,?_⟩;refine⟨_,rfl,O,_,_,_,rfl,rfl,SqL.of (s1 _ _ Y.o),o0 _ _ _,L,rfl,⟨_,SqL.of (s1 _ _ Y.l)⟩,gJ (K:=[]) (a:=L) (xs:=vl) (λi Z H2=>∃o3 o4 o5 vf,Z=[some (.ref O),some (.ref F),some (.int ((off g.n (g.ls.take i):Nat):Int)),o3,o4,o5]/\Same H H2/\H2 F=some (.lst vf)/\bh H2 vf (g.ts++clos g.n (g.ls.take i)))
   ⟨none,none,none,vt,rfl,s1,y1,by simp only[pW,clos,cZ];exact Y.q.same s1⟩ (λi Z H2 _ ⟨_,_,_,_,_,e,_⟩=>SqL.of (e _ _ Y.l)) ?_ ?_⟩
  .rintro i v Z H2 hi ⟨o3,o4,o5,vf,rfl,sm,hF2,tf⟩;obtain⟨l,hs,b,rfl,hb⟩:=dG Y.p hi;have hil:i<g.ls.length:=(aS.mp hs).1;have et:g.ls.take (i+1)=g.ls.take i++[l]:=by rw[cU,hs];rfl
   have st1:((g.ls.take i).map List.length).sum+l.length<=(g.ls.map List.length).sum:=by
    have:((g.ls.take (i+1)).map List.length).sum<=(g.ls.map List.length).sum:=by
     conv=>rhs;rw[<-fc (i+1) g.ls,bI,iI]
     lia
    rw[et,bI,iI] at this;simpa using this
   generalize hNi:off g.n (g.ls.take i)=Ni at *;have hbl:∀H',Same H H'->SqL [] H' b (nV l):=λH' s'=>SqL.of (s' _ _ hb);refine⟨_,rfl,b,_,rfl,.inl (hbl _ sm),?_⟩;rw[bO];refine⟨_,rfl,(l.length:Int),rfl,by lia,by lia,jq (lo:=0) (n:=((l.length:Nat):Int).toNat) (λk Z H3=>∃o5 vf,Z=[some (.ref O),some (.ref F),some (.int (Ni:Int)),some (.ref b),some (.int (l.length:Int)),o5]/\Same H H3/\H3 F=some (.lst vf)/\bh H3 vf (g.ts++clos g.n (g.ls.take i)++((cyc (prs Ni l)).take k).flatMap λe=>[tA e,tB e,tC (Ni+l.length) e]))
    ⟨o5,vf,rfl,sm,hF2,by simpa using tf⟩ ?_ ?_⟩
   .rintro k Z H3 hk ⟨o5,vf,rfl,sm3,hF3,tf3⟩;have hkl:k<l.length:=by lia
    have hg:l[k]?=some (l.getD k 0):=by simp[List.getD,hkl]
    have hml:(k+1)%l.length<l.length:=nu _ (by lia);have hg2:l[(k+1)%l.length]?=some (l.getD ((k+1)%l.length) 0):=by simp[List.getD,hml]
    have hcy:=Em (N:=Ni) hkl;have emod:((0+(k:Int))+1)%(l.length:Int)=(((k+1)%l.length:Nat):Int):=by rw[Int.zero_add];rfl
    have hmp:(0:Int)<(l.length:Int):=by lia
    generalize l.getD k 0=c at hg hcy;generalize l.getD ((k+1)%l.length) 0=d at hg2 hcy;generalize (k+1)%l.length=e at hg2 hcy emod;have lv:=aU tf3;rw[ar,ar,qJ] at lv;have lfl:((cyc (prs Ni l)).take k |>.flatMap λe=>[tA e,tB e,tC (Ni+l.length) e]).length<=3*l.length:=by
     have h:∀(c:Nat) (Q:List (Pr×Pr)),(Q.flatMap λe=>[tA e,tB e,tC c e]).length=3*Q.length:=λc Q=>by
      induction Q with
      |nil=>rfl
      |cons e Q ih=>rw[je,ar,ih,aZ];simp only[aZ,jf];lia
     rw[h,bG,rz,lQ];lia
    refine⟨_,rfl,.inl ⟨rfl,_,SqL.of hF3⟩,_,rfl,_,rfl,b,_,0+(k:Int),.int (c:Int),rfl,rfl,hbl _ sm3,by rw[Int.zero_add];exact cA (dY hg),_,rfl,_,rfl,_,_,rfl,rfl,_,rfl,_,_,rfl,rfl,hmp,b,_,_,.int (d:Int),rfl,rfl,hbl _ sm3,by rw[emod];exact cA (dY hg2),_,rfl,_,rfl,_,_,rfl,rfl,lit3,λta H4 ga s4 y4=>?_⟩;have hF4:=s4 _ _ hF3;refine⟨F,_,_,rfl,rfl,hF4,by lia,λH5 k5 y5=>?_⟩;have sm5:Same H H5:=λc o ec=>(k5 c (ax ec hF)).trans (s4 _ _ (sm3 _ _ ec));refine⟨_,rfl,.inl ⟨rfl,_,SqL.of y5⟩,_,rfl,_,rfl,_,_,rfl,rfl,_,rfl,_,_,rfl,rfl,hmp,b,_,_,.int (d:Int),rfl,rfl,hbl _ sm5,by rw[emod];exact cA (dY hg2),_,rfl,_,rfl,_,_,rfl,rfl,_,rfl,_,_,rfl,rfl,hmp,_,_,rfl,rfl,_,rfl,_,rfl,_,_,rfl,rfl,lit3,λtb H6 gb s6 y6=>?_⟩;have hF6:=s6 _ _ y5;refine⟨F,_,_,rfl,rfl,hF6,by rw[ar,bg];lia,λH7 k7 y7=>?_⟩;have sm7:Same H H7:=λc o ec=>(k7 c (ax ec hF)).trans (s6 _ _ (sm5 _ _ ec));refine⟨_,rfl,.inl ⟨rfl,_,SqL.of y7⟩,_,rfl,_,rfl,_,_,rfl,rfl,_,rfl,_,rfl,_,_,rfl,rfl,_,rfl,_,_,rfl,rfl,hmp,_,_,rfl,rfl,_,rfl,_,rfl,_,_,rfl,rfl,lit3,λtc H8 gc s8 y8=>?_⟩;have hF8:=s8 _ _ y7;refine⟨F,_,_,rfl,rfl,hF8,by rw[ar,ar,bg,bg];lia,λH9 k9 y9=>?_⟩;have tp5:∀t xs,H4 t=some (.tup xs)->H5 t=some (.tup xs):=λt xs e=>(k5 t (bM e hF4 (by intro z;cases z))).trans e;have tp7:∀t xs,H6 t=some (.tup xs)->H7 t=some (.tup xs):=λt xs e=>(k7 t (bM e hF6 (by intro z;cases z))).trans e;have tp9:∀t xs,H8 t=some (.tup xs)->H9 t=some (.tup xs):=λt xs e=>(k9 t (bM e hF8 (by intro z;cases z))).trans e;refine⟨_,_,rfl,λc o ec=>(k9 c (ax ec hF)).trans (s8 _ _ (sm7 _ _ ec)),y9,?_⟩;rw[cU,hcy,tH,<-bH,bH (as:=_++_) (bs:=[V.ref tb])];rw[bH (bs:=[V.ref ta])];refine cX (eD.move (φ:=nat) (λt xs e=>tp9 _ _ (s8 _ _ (tp7 _ _ (s6 _ _ (tp5 _ _ (s4 _ _ e)))))) tf3) (.cons ⟨ta,rfl,?_⟩ (.cons ⟨tb,rfl,?_⟩ (.cons ⟨tc,rfl,?_⟩ .nil)))
    .refine (tp9 _ _ (s8 _ _ (tp7 _ _ (s6 _ _ (tp5 _ _ y4))))).trans ?_;rw[Int.zero_add];rfl
    .refine (tp9 _ _ (s8 _ _ (tp7 _ _ y6))).trans ?_;rw[emod,Int.zero_add];rfl
    .refine (tp9 _ _ y8).trans ?_;rw[emod,Int.zero_add];rfl
   .rintro Z H3 ⟨o5,vf,rfl,sm3,hF3,tf3⟩;refine⟨_,rfl,_,rfl,_,_,rfl,rfl,_,_,rfl,rfl,some (.ref b),some (.int (l.length:Int)),o5,vf,?_,sm3,hF3,?_⟩
    .rw[et,CF,hNi];rfl
    .rw[et,u_,hNi,<-bH];rw[show (cyc (prs Ni l)).take ((l.length:Nat):Int).toNat=cyc (prs Ni l) from gG (by rw[rz,lQ];lia)] at tf3;exact tf3
  .rintro Z H2 ⟨o3,o4,o5,vf,rfl,sm,hF2,tf⟩;rw[hlen,fY] at tf;exact⟨_,rfl,q F vf H2 hF sm hF2 tf⟩
end
end K71
end
section
namespace K71
open K31 K51 K15
theorem Es {E:Nat->Nat->Nat->Prop} (k:Clo E) {v p q:Nat} (h:E v p q):One E v:=by
 obtain⟨l,nd,hl⟩:=k.rg h;have nx:∀i p,l[i]?=some p->(p,l.getD ((i+1)%l.length) 0)∈sides l:=λi p hp=>by
  have hi:=(aS.mp hp).1;have:=jl l i hi;rw[show l.getD i 0=p by simp[List.getD,hp]] at this;exact a7 this
 have key:∀p∈l,∃q,E v p q:=λp hp=>by
  obtain⟨i,hi⟩:=pK hp;exact⟨_,(hl _ _).mpr (nx i p hi)⟩
 have mem:∀{p q},E v p q->p∈l/\q∈l:=λh=>kH ((hl _ _).mp h);refine⟨l,⟨λe=>?_,nd,λi p q h1 h2=>?_,key,λp _ q h _=>(mem h).2,λp _ o h=>(mem h).1⟩,λp ⟨q,hq⟩=>(mem hq).1⟩
 .have:=(mem h).1;rw[e] at this;cases this
 .have h3:=nx i p h1;have hi:=(aS.mp h2).1;rw[j9 hi,show l.getD (i+1) 0=q by simp[List.getD,h2]] at h3;exact (hl _ _).mpr h3
theorem C9 {ts:List Tri} (f:FI ts []):Good ts/\∀c,Co ts c->One (En ts) c:=by have k:=f.clo;refine⟨⟨λt ht=>?_,f.good⟩,λc ⟨p,q,h⟩=>Es k h⟩;obtain⟨a,b,c⟩:=t;have e:En ts a b c:=dv.mpr (.inl ht);exact⟨k.sk.ne e,k.sk.ne (k.sk.rot e),k.sk.ne (k.sk.rot (k.sk.rot e))⟩
theorem bounded (ts:List Tri):∃N,∀t∈ts,t.1<N/\t.2.1<N/\t.2.2<N:=by
 induction ts with
 |nil=>exact⟨0,by simp⟩
 |cons t ts ih=>
  obtain⟨N,h⟩:=ih;refine⟨N+t.1+t.2.1+t.2.2+1,λu hu=>?_⟩;rcases af.mp hu with rfl|hu
  .lia
  .have:=h u hu;lia
theorem BF {f:Fr} (h:Fz f) (hne:f.ts≠[]):(Good (f.ts++clos f.n f.ls)/\∀c,Co (f.ts++clos f.n f.ls) c->One (En (f.ts++clos f.n f.ls)) c)/\∃c,En (f.ts++clos f.n f.ls) 0 1 c:=by
 obtain⟨h3,c,hc⟩:=h.go hne;refine⟨C9 (u9 f.ls f.ts f.n h.fi h3 λp q hk=>?_),c,?_⟩
 .rcases ay.mp hk with z|z
  .exact (h.ok.bigT _ z).1
  .obtain⟨l,hl,hs⟩:=jH.mp z;exact h.ok.big l hl p (kH hs).1
 .show ((0,1),c)∈ents _;rw[K15.ents_app];exact cf _ hc
end K71
end
section
namespace K71
open PySem L2 K51 K31 K15
theorem wK:∀{lv:List V},(∀v∈lv,∃b a,v=.ref b/\H b=some (.tup (ltV a))/\Lets a)->∃lts,bU H lv lts/\∀a∈lts,Lets a
 | [],_=>⟨[],.nil,by simp⟩
 |v::lv,h=>by
  obtain⟨b,a,rfl,h1,h2⟩:=h v fE;obtain⟨lts,h3,h4⟩:=wK λu hu=>h u (aY _ hu);exact⟨a::lts,.cons ⟨b,rfl,h1⟩ h3,λc hc=>by
   rcases af.mp hc with rfl|hc
   .exact h2
   .exact h4 c hc⟩
def Dw (vs:List V) (H:Hp) (Q:VK) (p:Addr) (pq:Int×Int) (m:Nat):Prop:=vs=[.ref p,.int (m:Int)]/\H p=some (.lst (cG pq))/\cY pq/\m<=12/\
 ∀r vw lts pq' H',But p H H'->H r=none->r≠p->H' p=some (.lst (cG pq'))->cY pq'->H' r=some (.lst vw)->bU H' vw lts->(∀a∈lts,Lets a/\Small a)->lts.length<=240->Q (.ref r) H'
def xq:Sp:=λvs H Q _=>Exists (Ex3 (Dw vs H Q))
section
theorem rG:bS ["_law_pot_here","_law_most","_law_letters","_law_front"] ["_law_pot_here","_law_most"] (bu l9):=by walk_at"sc"
theorem DS {f f1 f2 f3:Addr} {fd d1 d2 d3:FuncData} (U:Fun K "_law_word" "_law_word" l9 f fd) (GB:Use P w K mg base 4 "_law_begun" ["_law_pot_here","_law_most"] wo f1 d1)
  (GW:Use P w K mg base 5 "_law_wound" ["_law_triples","_law_side"] qR f2 d2) (GC:Use P w K mg base 1 "_law_closing" ["_law_front"] uO f3 d3) :
  FnOk P w K mg base CX0 6 f fd ["_law_pot_here","_law_most"] xq:=by
 refine U.ok rG (λvs H Q E h=>?_) (λcdv A outer s H vs Q E hr h=>?_)
 .obtain⟨p,pq,m,rfl,_⟩:=h;rfl
 .obtain⟨p,pq,m,rfl,hp,hpq,hm,q⟩:=h;have hr1:=hr.mono (show 1<=5 by decide);have hr4:=hr.mono (show 4<=5 by decide);refine⟨_,ak (eV (aP GB.g hr4 rfl GB.m GB.k GB.b .nil pass0 (aa (pv 0) (aa (pv 1) ae))) (dX rfl (bB (aK (i:=2) rG.nd rfl (.inl rfl)) (bB (aK (i:=3) rG.nd rfl (.inl rfl)) dt))))
   (ak (bL (aL (iq hr.units) (pv 2) (br ae) (nomark _)) (au (bj (br (aa (aN (aa b_ ae)) (aa (aN (aa b_ ae)) ae))))) bJ)
   (au (bj (aq cB (aP GW.g hr rfl GW.m GW.k GW.b .nil pass0 (aa (aP GC.g hr1 rfl GC.m GC.k GC.b .nil pass0 (aa (pv 3) ae)) (aa (aN (aa ag (aa ag ae))) ae))) ag (λ_ _=>rfl))))),?_⟩
  have hline:=line5000;refine⟨_,rfl,_,rfl,p,pq,m,rfl,hp,hpq,by lia,λr Ls O L T vl vt lv g pq1 H1 b1 hp1 hpq1 yr yL Y fz elv eg hlv=>?_⟩;obtain⟨lts,la,hlets⟩:=wK hlv;refine⟨r,_,rfl,SqT.of yr,rfl,_,_,rfl,_,_,rfl,rfl,?_⟩;refine⟨_,rfl,aT _,λpe H2 hpe s2 y2=>?_⟩;have b2:=b1.same s2;have hp2:=s2 _ _ hp1;refine⟨_,_,.lst (SqL.of (s2 _ _ yL)) (iQ (λa ha=>fh (hlets a ha)) (la.same s2)),.lst (SqL.of y2) .nil,?_,_,rfl,?_⟩
  .have:=hV lts;simp only[PyData.depth];lia
  rw[K2 (by decide),jw];have fr:∀{c:Addr} {Hx:Hp},Same H2 Hx->Hx c=none->H c=none/\c≠p:=λ{c Hx} sx hc=>by
   have hcp:c≠p:=λz=>by rw[z,sx _ _ hp2] at hc;cases hc
   refine⟨?_,hcp⟩;cases e:H c with
   |none=>rfl
   |some o=>rw[sx _ _ (b2 c o hcp e)] at hc;cases hc
  have hll:=aU la;cases lts with
  |nil=>
   refine aJ ⟨lit1,λt1 H3 h1 s3 y3=>?_⟩;refine⟨lit1,λt2 H4 h2 s4 y4=>?_⟩;refine⟨lit2,λz H5 hz s5 y5=>?_⟩;have s25:=(s3.trans s4).trans s5;obtain⟨n1,n2⟩:=fr (s3.trans s4) hz;exact q z _ [.sg 67,.sg 69] pq1 H5 (b2.same s25) n1 n2 (s25 _ _ hp2) hpq1 y5 (.cons ⟨t1,rfl,(s4.trans s5) _ _ (y3.trans ltC)⟩ (.cons ⟨t2,rfl,s5 _ _ (y4.trans ltE)⟩ .nil)) (λa ha=>by
    simp only[af,a8,or_false] at ha;rcases ha with rfl|rfl
    .exact⟨.inl rfl,trivial⟩
    .exact⟨.inr (.inr (.inr rfl)),trivial⟩) (by simp)
  |cons c lts=>
   refine av ?_;have hne:g.ts≠[]:=λe=>by
    rw[e] at elv;rw[hll] at elv;simp at elv
   obtain⟨⟨hg,hone⟩,c0,hc0⟩:=BF fz hne;obtain⟨N,hN⟩:=bounded (g.ts++clos g.n g.ls);have htot:=fz.ok.tot;refine⟨_,rfl,O,L,T,vl,vt,g,rfl,Y.same s2,fz.ok,by lia,λR vr H3 hR s3 y3 tr=>?_⟩;refine⟨lit2,λS H4 hS s4 y4=>?_⟩;have s24:=s3.trans s4;refine⟨R,S,vr,_,0,1,c0,N,rfl,s4 _ _ y3,tr.same s4,?_,hg,hone,hN,y4,hc0,λr' W vw lw o1 o2 H5 hr' hW s5 yr' yW lw' hlw llw=>?_⟩
   .rw[ar,qJ];lia
   have s25:=s24.trans s5;obtain⟨n1,n2⟩:=fr s24 hW;exact⟨r',_,0,.ref W,rfl,rfl,SqT.of yr',rfl,q W vw lw pq1 H5 (b2.same s25) n1 n2 (s25 _ _ hp2) hpq1 yW lw' hlw llw⟩
end
end K71
end
section
namespace L2
open PySem PySem.Spec PyProof.Rows
theorem Ac (items:Array Value):slicePick items none none (some (-1))=items.toList.reverse.toArray:=by
 have e:sliceRange (sliceBounds none none (some (-1)) items.size).1 (sliceBounds none none (some (-1)) items.size).2.1 (sliceBounds none none (some (-1)) items.size).2.2=(List.range items.size).map λk=>items.size-1-k:=by rw[<-picked_rev];rfl
 unfold slicePick;rw[e]
 congr 1
 refine tE λi=>?_;rw[List.filterMap_map];have h:∀l:List Nat,(∀k∈l,k<items.size)->l.filterMap ((items[·]?) ∘ λk=>items.size-1-k)=l.map λk=>items.toList.getD (items.size-1-k) .none:=by
  intro l;induction l with
  |nil=>intro _;rfl
  |cons k l ih=>
   intro h;have hk:=h k fE;have e:((items[·]?) ∘ λk=>items.size-1-k) k=some (items.toList.getD (items.size-1-k) .none):=by show items[items.size-1-k]?=_;rw[Array.getElem?_eq_getElem (by lia)];simp[List.getD,show items.size-1-k<items.size by lia]
   rw[tG,e,aB,ih λj hj=>h j (aY _ hj)]
 rw[h _ λk hk=>gF.mp hk];by_cases hi:i<items.size
 .rw[c7,IJ hi,List.getElem?_reverse (by simpa using hi)];simp[List.getD,show items.size-1-i<items.size by lia]
 .rw[ng (by simp;lia),ng (by simp;lia)]
def Gk (K:W.Frag) (x:V) (st:Option Int) (H2:Hp) (Q:VK) (a:Addr) (xs:List V):Prop:=st=some (-1)/\x=.ref a/\SqL K H2 a xs/\fD H2 (.lst xs.reverse) Q
def Gm (K:W.Frag) (x:V) (Q:VK):Option Int->Hp->Prop:=λst H2=>Exists (Ex2 (Gk K x st H2 Q))
def Gn (K:W.Frag) (ts:TO) (Z:St) (Q:VK):VK:=λx H1=>ts Z H1 (Gm K x Q)
def tRev (K:W.Frag) (te:TE) (ts:TO):TE:=λZ H Q=>te Z H (Gn K ts Z Q)
section
variable {e st:Expr} {te:TE} {ts:TO} {p2 pos:Pos}
theorem xC (he:PE X e te) (hs:PO X (some st) ts):PE X (.Subscript e (.Slice none none (some st) p2) pos) (tRev [] te ts):=by intro pins s Z H Q I h;refine tZ (thn (he pins s Z H _ I h) λv s1 ⟨x,H1,I1,r1,q1⟩=>?_);refine wpAny_Slice ?_;rw[zJ];refine aO (aO ?_);refine thn (hs pins s1 Z H1 _ I1 q1) λvs s3 ⟨o,H3,I3,ps,a,xs,eo,ex,hx,q3⟩=>?_;subst eo ex;cases r1;have I4:Inv X pins Z H3 {s3 with heap:=s3.heap.push {cls:=.type "slice",data:=.fields #[.none,.none,vs]}}:=I3.kept (t':=s3.toks) λb ob q=>bP _ q;obtain⟨its,r,ht,hz⟩:=I4.list hx;have hlen:=r.length;show wpAny (model X.prog X.w) X.A (subscriptTail e (.Slice none none (some st) p2) (.ref a) (.ref s3.heap.objs.size)) (EP X pins Z Q) X.xe {s3 with heap:=s3.heap.push {cls:=.type "slice",data:=.fields #[.none,.none,vs]}};refine tail_any (ops:=[.ref a,.ref s3.heap.objs.size]) ht.isList.typeIs zM.lookup ?_ (by with_unfolding_all rfl);refine JR ht.isList (Iu ..) .none .none ps (by simp) ?_ (by rw[bX]<;>lia);rw[Ac];refine⟨.ref _,_,I4.laid (t':=s3.toks) (o:=.lst xs.reverse) (λb ob q=>bP _ q) (aC _) ?_,rfl,q3.at (I4.hok.fresh (aC _))⟩;exact⟨by rw[gD];exact hz,_,0,r.reverse,cQ _ rfl⟩
end
end L2
end
section
namespace K71
open PySem L2 K51 K31 K15
def alike:List Lt->List Lt->Nat
 |a::l,b::m=>if a=b then alike l m+1 else 0
 |_,_=>0
theorem ie:∀l m:List Lt,alike l m<=l.length/\alike l m<=m.length
 | [],_=>by simp[alike]
 |_::_,[]=>by simp[alike]
 |a::l,b::m=>by
  have:=ie l m;simp only[alike,aZ]
  split<;>lia
theorem qi:∀(l m:List Lt) (i:Nat) (a b:Lt),l.take i=m.take i->l[i]?=some a->m[i]?=some b->a≠b->alike l m=i
 | [],_,_,_,_,_,h,_,_=>by simp at h
 |_::_,[],_,_,_,_,_,h,_=>by simp at h
 |x::l,y::m,0,a,b,_,h1,h2,h3=>by
  simp at h1 h2;subst h1 h2;simp[alike,h3]
 |x::l,y::m,i+1,a,b,h,h1,h2,h3=>by
  rw[nh,nh] at h;injection h with e1 e2;have:=qi l m i a b e2 (by simpa using h1) (by simpa using h2) h3;simp[alike,e1,this]
theorem qv:∀(l m:List Lt) (i:Nat),l.take i=m.take i->i=min l.length m.length->alike l m=i
 | [],_,i,_,h=>by simp at h;simp[alike,h]
 |_::_,[],i,_,h=>by simp at h;simp[alike,h]
 |x::l,y::m,0,_,h=>by simp at h
 |x::l,y::m,i+1,h,e=>by
  rw[nh,nh] at h;injection h with e1 e2;have:=qv l m i e2 (by simp at e;lia);simp[alike,e1,this]
structure WAt (H:Hp) (a:Addr) (xs:List V) (ls:List Lt):Prop where
 l:H a=some (.lst xs)
 p:bU H xs ls
 ok:∀x∈ls,Lets x/\Small x
 len:ls.length<=1000
theorem WAt.same {a:Addr} {ls:List Lt} (h:WAt H a xs ls) (s:Same H H'):WAt H' a xs ls:=⟨s _ _ h.l,h.p.same s,h.ok,h.len⟩
def Dy (vs:List V) (H:Hp) (Q:VK) (a b:Addr) (xs ys:List V) (ls ms:List Lt):Prop:=vs=[.ref a,.ref b]/\WAt H a xs ls/\WAt H b ys ms/\∀H',Same H H'->Q (.int ((alike ls ms:Nat):Int)) H'
def xt:Sp:=λvs H Q _=>Exists (Ex6 (Dy vs H Q))
def AL (vs:List V) (H:Hp) (Q:VK) (a b:Addr) (xs ys:List V) (ls ms:List Lt):Prop:=vs=[.ref a,.ref b]/\WAt H a xs ls/\WAt H b ys ms/\
 ∀r n i j zs H',H r=none->H n=none->Same H H'->i=alike ls ms->j=alike (ls.drop i).reverse (ms.drop i).reverse->H' r=some (.tup [.int ((i:Nat):Int),.int (((ls.length-i-j:Nat)):Int),.ref n])->WAt H' n zs ((ms.take (ms.length-j)).drop i)->Q (.ref r) H'
def nW:Sp:=λvs H Q _=>Exists (Ex6 (AL vs H Q))
def Dx (vs:List V) (H:Hp) (Q:VK) (a t n:Addr) (xs zs:List V) (ls ns:List Lt) (i j:Nat):Prop:=vs=[.ref a,.ref t]/\WAt H a xs ls/\H t=some (.tup [.int (i:Int),.int (j:Int),.ref n])/\WAt H n zs ns/\ls.length+ns.length<=1000/\
 ∀r ys H',H r=none->Same H H'->WAt H' r ys (ls.take i++ns++ls.drop (i+j))->Q (.ref r) H'
def xr:Sp:=λvs H Q _=>Exists (Ex9 (Dx vs H Q))
theorem rM {α β:Type} {F:α->β->Prop}:∀{xs:List α} {ys:List β},Paired F xs ys->Paired F xs.reverse ys.reverse
 |_,_,.nil=>.nil
 |_,_,.cons h t=>by rw[g_,g_];exact cX (rM t) (.cons h .nil)
section
theorem lZ:bS ["one","other","many","mine","yours"] ["one","other"] (bu ko):=by walk_at"sc"
theorem Ae {f:Addr} (U:Fun K "many_alike" "many_alike" ko f fd) (mZ:mg "zip" = none):FnOk P w K mg base CX0 1 f fd ["one","other"] xt:=by
 refine U.ok lZ (λvs H Q E h=>?_) (λcdv A outer s H vs Q E hr h=>?_)
 .obtain⟨a,b,xs,ys,ls,ms,rfl,_⟩:=h;rfl
 .obtain⟨a,b,xs,ys,ls,ms,rfl,wa,wb,q⟩:=h;refine⟨_,ak (aA (i:=2) lZ.nd rfl (.inl rfl) ag)
   (ak (dh cD rfl (xA rfl mZ (aa (pv 0) (aa (pv 1) ae))) (dX rfl (bB (aK (i:=3) lZ.nd rfl (.inl rfl)) (bB (aK (i:=4) lZ.nd rfl (.inl rfl)) dt)))
    (ak (bL (aL (gO hr.units) (pv 3) (pv 4) (nomark _)) (au (bj (pv 2))) bJ)
    (au (Fo (i:=2) lZ.nd rfl (.inl rfl) ag FR))))
   (au (bj (pv 2)))),?_⟩
  have la:=aU wa.p;have lb:=aU wb.p;refine⟨_,rfl,_,rfl,a,b,_,_,rfl,SqL.of wa.l,SqL.of wb.l,wO (K:=[]) (a:=a) (b:=b) (xs:=xs) (ys:=ys) (λi Z H'=>∃o3 o4,Z=[some (.ref a),some (.ref b),some (.int (i:Int)),o3,o4]/\Same H H'/\ls.take i=ms.take i)
   ⟨none,none,rfl,qV,rfl⟩ (λi Z H' _ _ ⟨_,_,_,sm,_⟩=>⟨SqL.of (sm _ _ wa.l),SqL.of (sm _ _ wb.l)⟩) ?_ ?_⟩
  .rintro i x y pk Z H' hx hy ⟨o3,o4,rfl,sm,et⟩ hpk;obtain⟨u,hu,tu,rfl,eu⟩:=jj wa.p hx;obtain⟨v,hv,tv,rfl,ev⟩:=jj wb.p hy;walk_at"H' pk hpk H1 s1 y1";have s01:=sm.trans s1;refine⟨pk,_,rfl,SqT.of y1,rfl,_,_,rfl,_,_,rfl,rfl,?_⟩;refine⟨_,rfl,_,rfl,_,_,fq (fh (wa.ok u (a7 hu)).1) ⟨tu,rfl,s01 _ _ eu⟩,fq (fh (wb.ok v (a7 hv)).1) ⟨tv,rfl,s01 _ _ ev⟩,bV (h_ _) (by decide),_,rfl,?_⟩;rw[K3 rfl,iU];by_cases e:u=v
   .rw[K4 e];refine av ⟨_,rfl,_,_,rfl,rfl,_,_,rfl,s01,?_⟩;rw[cU,cU,et,hu,hv,e]
   .rw[K5 e];refine aJ ⟨_,rfl,?_⟩;have:=q H1 s01;rw[qi ls ms i u v et hu hv e] at this;exact this
  .rintro i Z H' hi ⟨o3,o4,rfl,sm,et⟩;have:=q H' sm;rw[qv ls ms i et (by lia)] at this;exact⟨_,rfl,this⟩
theorem kL (xs:List V) (k:Nat):dP xs (some (k:Int)) none=xs.drop k:=om xs k
theorem Ep (xs:List V) (k:Nat):dP xs none (some (k:Int))=xs.take k:=rS xs k
theorem vU (xs:List V) (a b:Nat):dP xs (some (a:Int)) (some (b:Int))=(xs.take b).drop a:=by show fC xs (some (a:Int)) (some (b:Int))=_;rw[oD,Iz]
theorem qk:bS ["one","other","at","behind"] ["one","other"] (bu kQ):=by walk_at"sc"
theorem AZ {f f1:Addr} {fd d1:FuncData} (U:Fun K "stretch" "stretch" kQ f fd) (T:di mg) (GM:Use P w K mg base 1 "many_alike" ["one","other"] xt f1 d1):FnOk P w K mg base CX0 2 f fd ["one","other"] nW:=by
 refine U.ok qk (λvs H Q E h=>?_) (λcdv A outer s H vs Q E hr h=>?_)
 .obtain⟨a,b,xs,ys,ls,ms,rfl,_⟩:=h;rfl
 .obtain⟨a,b,xs,ys,ls,ms,rfl,wa,wb,q⟩:=h;refine⟨_,ak (aA (i:=2) qk.nd rfl (.inl rfl) (aP GM.g hr rfl GM.m GM.k GM.b .nil pass0 (aa (pv 0) (aa (pv 1) ae))))
   (ak (aA (i:=3) qk.nd rfl (.inl rfl) (aP GM.g hr rfl GM.m GM.k GM.b .nil pass0 (aa (xC (cS cT (pv 0) (ck (pv 2)) dq) (ck (dA dz ag))) (aa (xC (cS cT (pv 1) (ck (pv 2)) dq) (ck (dA dz ag))) ae))))
   (au (bj (aN (aa (pv 2) (aa (aD fU (aD fU (a9 cu (by rfl) T.len cF (aa (pv 0) ae)) (pv 2)) (pv 3)) (aa (cS cT (pv 1) (ck (pv 2)) (ck (aD fU (a9 cu (by rfl) T.len cF (aa (pv 1) ae)) (pv 3)))) ae))))))),?_⟩
  have la:=aU wa.p;have lb:=aU wb.p;refine⟨_,rfl,_,rfl,a,b,xs,ys,ls,ms,rfl,wa,wb,λH1 s1=>?_⟩;have ai:=ie ls ms;have ei:∃i,i=alike ls ms:=⟨_,rfl⟩;obtain⟨i,ei⟩:=ei;rw[<-ei] at ai |-;refine⟨_,rfl,_,rfl,_,rfl,a,_,rfl,SqL.of (s1 _ _ wa.l),λp2 H2 h2 s2 y2=>?_⟩;rw[kL] at y2;refine⟨_,rfl,_,rfl,p2,_,rfl,rfl,SqL.of y2,λp3 H3 h3 s3 y3=>?_⟩;have s13:=s2.trans s3;have s03:=s1.trans s13;refine⟨_,rfl,_,rfl,_,rfl,b,_,rfl,SqL.of (s03 _ _ wb.l),λp4 H4 h4 s4 y4=>?_⟩;rw[kL] at y4;refine⟨_,rfl,_,rfl,p4,_,rfl,rfl,SqL.of y4,λp5 H5 h5 s5 y5=>?_⟩;have s05:=(s03.trans s4).trans s5;have w1:WAt H5 p3 (xs.drop i).reverse (ls.drop i).reverse:=⟨(s4.trans s5) _ _ y3,rM (K31.pr_drop i (wa.p.same s05)),λx hx=>wa.ok x (eK (fG.mp hx)),by rw[gD,aW];have:=wa.len;lia⟩;have w2:WAt H5 p5 (ys.drop i).reverse (ms.drop i).reverse:=⟨y5,rM (K31.pr_drop i (wb.p.same s05)),λx hx=>wb.ok x (eK (fG.mp hx)),by rw[gD,aW];have:=wb.len;lia⟩;refine⟨p3,p5,_,_,_,_,rfl,w1,w2,λH6 s6=>?_⟩;have aj:=ie (ls.drop i).reverse (ms.drop i).reverse;have ej:∃j,j=alike (ls.drop i).reverse (ms.drop i).reverse:=⟨_,rfl⟩;obtain⟨j,ej⟩:=ej;rw[<-ej] at aj |-;rw[gD,gD,aW,aW] at aj;have s06:=s05.trans s6;have e1:((xs.length:Int)-(i:Int))-(j:Int)=((ls.length-i-j:Nat):Int):=by lia
  have e2:(ys.length:Int)-(j:Int)=((ms.length-j:Nat):Int):=by lia
  refine⟨_,rfl,_,rfl,a,_,rfl,.inl (SqL.of (s06 _ _ wa.l)),_,rfl,_,_,rfl,rfl,_,rfl,_,_,rfl,rfl,_,rfl,_,rfl,_,rfl,_,rfl,b,_,rfl,.inl (SqL.of (s06 _ _ wb.l)),_,rfl,_,_,rfl,rfl,?_⟩;refine⟨((ms.length-j:Nat):Int),congrArg V.int e2,b,_,rfl,SqL.of (s06 _ _ wb.l),λn H7 hn s7 y7=>?_⟩;rw[vU] at y7;refine⟨lit3,λr H8 hr' s8 y8=>?_⟩;have s08:=(s06.trans s7).trans s8;exact q r n i j _ H8 ((s06.trans s7).free hr') (s06.free hn) s08 ei ej (y8.trans (by show some (HO.tup [V.int (i:Int),V.int ((xs.length:Int)-(i:Int)-(j:Int)),V.ref n])=_;rw[e1])) ⟨s8 _ _ y7,K31.pr_drop i (K31.pr_take _ (wb.p.same s08)),λx hx=>wb.ok x (gE (eK hx)),by rw[aW,bG];have:=wb.len;lia⟩
theorem oG:bS ["word","told","at","many","letters"] ["word","told"] (bu ki):=by walk_at"sc"
theorem DT {f:Addr} (U:Fun K "with_stretch" "with_stretch" ki f fd):FnOk P w K mg base CX0 1 f fd ["word","told"] xr:=by
 refine U.ok oG (λvs H Q E h=>?_) (λcdv A outer s H vs Q E hr h=>?_)
 .obtain⟨a,t,n,xs,zs,ls,ns,i,j,rfl,_⟩:=h;rfl
 .obtain⟨a,t,n,xs,zs,ls,ns,i,j,rfl,wa,ht,wn,hsum,q⟩:=h;refine⟨_,ak (eV (pv 1) (dX rfl (bB (aK (i:=2) oG.nd rfl (.inl rfl)) (bB (aK (i:=3) oG.nd rfl (.inl rfl)) (bB (aK (i:=4) oG.nd rfl (.inl rfl)) dt)))))
   (au (bj (aD dI (aD dI (cS cT (pv 0) dq (ck (pv 2))) (pv 4)) (cS cT (pv 0) (ck (aD cb (pv 2) (pv 3))) dq)))),?_⟩
  have hline:=line5000;have la:=aU wa.p;have ln:=aU wn.p;refine⟨_,rfl,t,_,rfl,SqT.of ht,rfl,_,_,rfl,_,_,rfl,_,_,rfl,rfl,?_⟩;refine⟨_,rfl,_,rfl,_,rfl,a,_,rfl,SqL.of wa.l,λp1 H1 h1 s1 y1=>?_⟩;rw[Ep] at y1;refine⟨_,rfl,p1,n,_,_,rfl,rfl,y1,s1 _ _ wn.l,by rw[bG];lia,λp2 H2 h2 s2 y2=>?_⟩;have s02:=s1.trans s2;refine⟨_,rfl,_,rfl,_,rfl,_,_,rfl,rfl,_,rfl,a,_,rfl,SqL.of (s02 _ _ wa.l),λp3 H3 h3 s3 y3=>?_⟩;rw[show (i:Int)+(j:Int)=((i+j:Nat):Int) from rfl,kL] at y3;have s03:=s02.trans s3;refine⟨p2,p3,_,_,rfl,rfl,s3 _ _ y2,y3,by rw[ar,bG,aW];lia,λr H4 hr' s4 y4=>?_⟩;have s04:=s03.trans s4;refine q r _ H4 (s03.free hr') s04 ⟨y4,cX (cX (K31.pr_take _ (wa.p.same s04)) (wn.p.same s04)) (K31.pr_drop _ (wa.p.same s04)),λx hx=>?_,?_⟩
  .rcases ay.mp hx with hx|hx
   .rcases ay.mp hx with hx|hx
    .exact wa.ok x (gE hx)
    .exact wn.ok x hx
   .exact wa.ok x (eK hx)
  .rw[ar,ar,bG,aW];lia
end
theorem qu:∀(A B:List Lt) (r:Nat),r<=alike A B↔r<=A.length/\r<=B.length/\A.take r=B.take r
 | [],B,r=>by
  simp only[alike,jf];constructor
  .intro h;have:r=0:=by lia
   subst this;simp
  .exact λh=>h.1
 |a::A,[],r=>by
  simp only[alike,jf];constructor
  .intro h;have:r=0:=by lia
   subst this;simp
  .exact λh=>h.2.1
 |a::A,b::B,0=>by simp
 |a::A,b::B,r+1=>by
  have ih:=qu A B r;simp only[alike,aZ,nh];by_cases e:a=b
  .rw[K3 e,Nat.add_le_add_iff_right,ih,e];constructor
   .rintro⟨h1,h2,h3⟩;exact⟨by lia,by lia,by rw[h3]⟩
   .rintro⟨h1,h2,h3⟩;injection h3 with _ h3;exact⟨by lia,by lia,h3⟩
  .rw[K2 e];constructor
   .intro h;lia
   .rintro⟨_,_,h3⟩;injection h3 with h3 _;exact (e h3).elim
theorem qt {ls:List Lt} {i r:Nat} (hi:i<=ls.length) (h:r<=ls.length-i):(ls.drop i).reverse.take r=(ls.drop (ls.length-r)).reverse:=by
 rw[List.take_reverse,aW,yQ]
 congr 2
 lia
theorem uC {ls ms:List Lt} {i r:Nat} (hi':i<=ls.length) (hi:i<=ms.length) (hr:r<=ls.length-i):(i+r<=ms.length/\ms.drop (ms.length-r)=ls.drop (ls.length-r))↔r<=alike (ls.drop i).reverse (ms.drop i).reverse:=by
 rw[qu,gD,gD,aW,aW,qt hi' hr];constructor
 .rintro⟨h1,h2⟩;refine⟨hr,by lia,?_⟩;rw[qt hi (by lia),h2]
 .rintro⟨h1,h2,h3⟩;rw[qt hi h2] at h3;exact⟨by lia,(List.reverse_inj.mp h3).symm⟩
section
theorem lA:bS ["_law_one","_law_other","_law_at_here","_law_many","_law_rest"] ["_law_one","_law_other"] (bu lH):=by walk_at"sc"
theorem CA {f:Addr} (U:Fun K "_law_least" "_law_least" lH f fd) (T:di mg) (TM:jb mg):FnOk P w K mg base CX0 1 f fd ["_law_one","_law_other"] nW:=by
 refine U.ok lA (λvs H Q E h=>?_) (λcdv A outer s H vs Q E hr h=>?_)
 .obtain⟨a,b,xs,ys,ls,ms,rfl,_⟩:=h;rfl
 .obtain⟨a,b,xs,ys,ls,ms,rfl,wa,wb,q⟩:=h;refine⟨_,ak (aA (i:=2) lA.nd rfl (.inl rfl) ag)
   (ak (ib cD (PW.pt (eG (aL fW (pv 2) (a9 (qq rfl) (by rfl) TM.min zC (aa (a9 cu (by rfl) T.len cF (aa (pv 0) ae)) (aa (a9 cu (by rfl) T.len cF (aa (pv 1) ae)) ae))) (nomark _)) (eM (aL (iq hr.units) (aq aI (pv 0) (pv 2) (λ_ _=>rfl)) (aq aI (pv 1) (pv 2) (λ_ _=>rfl)) (nomark _)))))
    (au (aA (i:=2) lA.nd rfl (.inl rfl) (aD cb (pv 2) ag))))
   (ak (dh cD rfl (iO rfl T.range (aa (aD cb (aD fU (a9 cu (by rfl) T.len cF (aa (pv 0) ae)) (pv 2)) ag) ae)) (aK (i:=3) lA.nd rfl (.inl rfl))
    (ak (aA (i:=4) lA.nd rfl (.inl rfl) (cS cT (pv 0) (ck (aD cb (pv 2) (pv 3))) dq))
    (au (bL (PW.pt (eG (aL HM (aD fU (a9 cu (by rfl) T.len cF (aa (pv 1) ae)) (a9 cu (by rfl) T.len cF (aa (pv 4) ae))) (pv 2) (nomark _)) (eM (aL (iq hr.units) (cS cT (pv 1) (ck (aD fU (a9 cu (by rfl) T.len cF (aa (pv 1) ae)) (a9 cu (by rfl) T.len cF (aa (pv 4) ae)))) dq) (pv 4) (nomark _)))))
     (au (bj (aN (aa (pv 2) (aa (pv 3) (aa (cS cT (pv 1) (ck (pv 2)) (ck (aD fU (a9 cu (by rfl) T.len cF (aa (pv 1) ae)) (a9 cu (by rfl) T.len cF (aa (pv 4) ae))))) ae)))))) bJ))))
   (au (bj fk)))),?_⟩
  have hline:=line5000;have la:=aU wa.p;have lb:=aU wb.p;have ai:=ie ls ms;refine kE (λZ H'=>Z=[some (.ref a),some (.ref b),some (.int ((alike ls ms:Nat):Int)),none,none]/\Same H H') (λNX hOut=>?_) ?_
  .refine⟨λm Z H'=>∃i:Nat,Z=[some (.ref a),some (.ref b),some (.int (i:Int)),none,none]/\m=ls.length-i/\i<=ls.length/\i<=ms.length/\ls.take i=ms.take i/\Same H H',⟨_,0,rfl,rfl,aT _,aT _,rfl,qV⟩,?_⟩;rintro m Z H' ⟨i,rfl,rfl,hi,hj,et,sm⟩;refine⟨_,rfl,_,rfl,a,_,rfl,.inl (SqL.of (sm _ _ wa.l)),_,rfl,b,_,rfl,.inl (SqL.of (sm _ _ wb.l)),_,_,rfl,_,_,rfl,rfl,_,rfl,?_⟩;by_cases hm:i<ls.length/\i<ms.length
   .rw[K4 (by split<;>lia)];have hu:ls[i]?=some ls[i]:=aX hm.1;have hv:ms[i]?=some ms[i]:=aX hm.2;generalize ls[i]=u at hu;generalize ms[i]=v at hv;obtain⟨x,hx,tu,rfl,eu⟩:=jN wa.p hu;obtain⟨y,hy,tv,rfl,ev⟩:=jN wb.p hv;refine aJ ⟨_,rfl,_,rfl,a,_,(i:Int),.ref tu,rfl,rfl,SqL.of (sm _ _ wa.l),cA hx,_,rfl,_,rfl,b,_,(i:Int),.ref tv,rfl,rfl,SqL.of (sm _ _ wb.l),cA hy,_,_,fq (fh (wa.ok u (a7 hu)).1) ⟨tu,rfl,sm _ _ eu⟩,fq (fh (wb.ok v (a7 hv)).1) ⟨tv,rfl,sm _ _ ev⟩,bV (h_ _) (by decide),_,rfl,?_⟩;rw[K2 (by decide),iU];by_cases e:u=v
    .rw[K4 e];refine aJ ⟨_,λZ' H' h=>h,?_⟩;refine⟨_,rfl,_,_,rfl,rfl,?_⟩;refine⟨_,by lia,i+1,rfl,rfl,by lia,by lia,?_,sm⟩;rw[cU,cU,et,hu,hv,e]
    .rw[K5 e];refine av (hOut _ _ ⟨?_,sm⟩);rw[qi ls ms i u v et hu hv e]
   .rw[K5 (by split<;>lia)];refine av (av (hOut _ _ ⟨?_,sm⟩));rw[qv ls ms i et (by lia)]
  rintro Z H1 ⟨rfl,s1⟩;have ei:∃i,i=alike ls ms:=⟨_,rfl⟩;obtain⟨i,ei⟩:=ei;rw[<-ei] at ai |-;have aj:=ie (ls.drop i).reverse (ms.drop i).reverse;have ej:∃j,j=alike (ls.drop i).reverse (ms.drop i).reverse:=⟨_,rfl⟩;obtain⟨j,ej⟩:=ej;rw[<-ej] at aj;rw[gD,gD,aW,aW] at aj;refine⟨_,rfl,a,_,rfl,.inl (SqL.of (s1 _ _ wa.l)),_,rfl,_,_,rfl,rfl,_,_,rfl,rfl,?_⟩;have ern:((xs.length:Int)-(i:Int))+1=((ls.length-i+1:Nat):Int):=by lia
  have hwl:=wa.len;have hwb:=wb.len;refine⟨((ls.length-i+1:Nat):Int),congrArg (λz:Int=>[V.int z]) ern,by lia,by lia,jq (lo:=0) (n:=((ls.length-i+1:Nat):Int).toNat) (λk Z H'=>∃o3 o4,Z=[some (.ref a),some (.ref b),some (.int (i:Int)),o3,o4]/\Same H H'/\k<=ls.length-i-j)
   ⟨none,none,rfl,s1,aT _⟩ ?_ ?_⟩
  .rintro k Z H2 hk ⟨o3,o4,rfl,sm,hkM⟩;refine⟨_,rfl,_,rfl,_,rfl,_,_,rfl,rfl,((i+k:Nat):Int),(by show V.int ((i:Int)+(0+(k:Int)))=_;congr 1;lia),a,_,rfl,SqL.of (sm _ _ wa.l),λR H3 hR s3 y3=>?_⟩;rw[kL] at y3;have s03:=sm.trans s3;have lR:(xs.drop (i+k)).length=ls.length-i-k:=by rw[aW];lia
   generalize hr':ls.length-i-k=r at lR;have hb3:=s03 _ _ wb.l;have wR:WAt H3 R (xs.drop (i+k)) (ls.drop (ls.length-r)):=by refine⟨y3,?_,λx hx=>wa.ok x (eK hx),by rw[aW];lia⟩;rw[show ls.length-r=i+k by lia];exact K31.pr_drop _ (wa.p.same s03)
   refine⟨_,rfl,b,_,rfl,.inl (SqL.of hb3),_,rfl,R,_,rfl,.inl (SqL.of y3),_,_,rfl,rfl,_,rfl,_,_,rfl,rfl,_,rfl,?_⟩;rw[lR];have bi:=uC (ls:=ls) (ms:=ms) (i:=i) (r:=r) ai.1 ai.2 (by lia);rw[<-ej] at bi;by_cases h1:i+r<=ms.length
   .rw[K4 (by lia)];have e2:(ys.length:Int)-(r:Int)=((ms.length-r:Nat):Int):=by lia
    refine aJ ⟨_,rfl,_,rfl,b,_,rfl,.inl (SqL.of hb3),_,rfl,R,_,rfl,.inl (SqL.of y3),_,_,rfl,rfl,((ms.length-r:Nat):Int),(by show V.int ((ys.length:Int)-((xs.drop (i+k)).length:Int))=_;rw[lR,e2]),b,_,rfl,SqL.of hb3,λp4 H4 h4 s4 y4=>?_⟩;rw[kL] at y4;have s04:=s03.trans s4;refine⟨_,rfl,_,_,.lst (SqL.of y4) (iQ (λx hx=>fh (wb.ok x (eK hx)).1) (K31.pr_drop _ (wb.p.same s04))),.lst (SqL.of (s4 _ _ y3)) (iQ (λx hx=>fh (wR.ok x hx).1) (wR.p.same s4)),?_,_,rfl,?_⟩
    .have:=hV (ms.drop (ms.length-r));simp only[PyData.depth];lia
    rw[K2 (by decide),vR];by_cases h2:ms.drop (ms.length-r)=ls.drop (ls.length-r)
    .rw[K4 h2];have hrj:=bi.mp ⟨h1,h2⟩;have ek:k=ls.length-i-j:=by lia
     have erj:r=j:=by lia
     have hb4:=s04 _ _ wb.l;refine aJ ⟨_,rfl,_,rfl,_,rfl,_,rfl,_,rfl,_,rfl,b,_,rfl,.inl (SqL.of hb4),_,rfl,R,_,rfl,.inl (SqL.of (s4 _ _ y3)),_,_,rfl,rfl,((ms.length-j:Nat):Int),(by show V.int ((ys.length:Int)-((xs.drop (i+k)).length:Int))=_;rw[lR,e2,erj]),b,_,rfl,SqL.of hb4,λn H5 hn s5 y5=>?_⟩;rw[vU] at y5;refine⟨lit3,λrr H6 hrr s6 y6=>?_⟩;have s06:=(s04.trans s5).trans s6;refine q rr n i j _ H6 ((s04.trans s5).free hrr) (s04.free hn) s06 ei ej (y6.trans ?_) ⟨s6 _ _ y5,K31.pr_drop i (K31.pr_take _ (wb.p.same s06)),λx hx=>wb.ok x (gE (eK hx)),by rw[aW,bG];lia⟩;show some (HO.tup [V.int (i:Int),V.int (0+(k:Int)),V.ref n])=_;rw[<-ek,Int.zero_add]
    .rw[K5 h2];have:¬r<=j:=λz=>h2 (bi.mpr z).2;exact av ⟨_,_,rfl,s04,by lia⟩
   .rw[K5 (by lia)];have:¬r<=j:=λz=>h1 (bi.mpr z).1;exact av (av ⟨_,_,rfl,s03,by lia⟩)
  .rintro Z H2 ⟨o3,o4,rfl,sm,hkM⟩;exfalso;lia
end
theorem ou {n:Nat} (h:n<10000):(PyData.shown (.int (n:Int))).length<=4:=by show ((toString ((n:Nat):Int):String):Str).length<=4;rw[Du,Dh];exact ux 3 n (by lia)
theorem xp (c:Nat):∀(ts:List Str) (k:Nat) (acc:Str),(∀t∈ts,t.length<=c)->(PySem.textFrom k acc ts).length<=acc.length+ts.length*(c+2)
 | [],k,acc,_=>by show acc.length<=_;lia
 |t::r,k,acc,h=>by
  have h1:=h t (by simp);have ih:=xp c r (k+1) (acc++(if k>0 then ", " else "" : String)++t) λx hx=>h x (aY _ hx);show (PySem.textFrom (k+1) (acc++(if k>0 then ", " else "" : String)++t) r).length<=_;rw[qb,qb] at ih;have h2:(((if k>0 then ", " else "" : String):Str)).length<=2:=by split<;>decide
  rw[aZ,IZ];lia
theorem FG (c:Nat) (ts:List Str) (h:∀t∈ts,t.length<=c):(PySem.listText ts).length<=2+ts.length*(c+2):=by
 have:=xp c ts 0 "[" h;unfold PySem.listText;rw[qb];have e1:("[" : Str).length=1:=by decide
 have e2:("]" : Str).length=1:=by decide
 lia
theorem nY:∀ds:List PyData,PyData.shownAll ds=ds.map PyData.shown
 | []=>rfl
 |d::ds=>by
  show d.shown::PyData.shownAll ds=_;rw[nY ds];rfl
theorem xl (ts:List Str) (c:Nat) (h0:ts≠[]) (h:∀t∈ts,t.length<=c):(PySem.tupleText ts).length<=3+ts.length*(c+2):=by
 unfold PySem.tupleText;rw[qb,qb];have e1:("(" : Str).length=1:=by decide
 have e2:(((if ts.length==1 then ",)" else ")" : String):Str)).length<=2:=by split<;>decide
 have e3:=PySem.join_length_add ts h0;have e4:∀(us:List Str),(∀t∈us,t.length<=c)->PySem.piled us<=us.length*(c+2):=by
  intro us;induction us with
  |nil=>intro _;exact aT _
  |cons u us ih=>
   intro h;have h1:=h u (by simp);have h2:=ih λt ht=>h t (aY _ ht);rw[PySem.piled_cons,aZ,IZ];lia
 have e5:=e4 ts h;lia
theorem oH {n:Nat} (h:n<10000):(PyData.int (n:Int)).showable=true:=by show decide (((n:Nat):Int).natAbs.log2<1920)=true;exact K4 (Bg (zm h (by decide)))
theorem oI:∀ds:List PyData,(∀d∈ds,d.showable=true)->PyData.showableAll ds=true
 | [],_=>rfl
 |d::ds,h=>by
  show (d.showable&&PyData.showableAll ds)=true;rw[h d (by simp),oI ds λx hx=>h x (aY _ hx)];rfl
theorem wq {a:Lt} (h:Lets a/\Small a):(ltD a).shown.length<=40/\(ltD a).showable=true:=by
 cases a with
 |sg c=>
  have hc:=h.1;simp only[K31.Lets] at hc;rcases hc with rfl|rfl|rfl|rfl<;>exact⟨by decide +kernel,by decide +kernel⟩
 |sp j k=>
  obtain⟨h1,h2⟩:j<=1000/\k<=1000:=h.2;constructor
  .show (PySem.tupleText (PyData.shownAll _)).length<=_;rw[nY];refine bV (xl _ 4 (by simp) ?_) (by show 3+3*(4+2)<=40;decide);intro x hx;simp only[aB,eO,af,a8,or_false] at hx;rcases hx with rfl|rfl|rfl
   .decide +kernel
   .exact ou (by lia)
   .exact ou (by lia)
  .refine oI _ λd hd=>?_;simp only[af,a8,or_false] at hd;rcases hd with rfl|rfl|rfl
   .decide +kernel
   .exact oH (by lia)
   .exact oH (by lia)
def mz (i k:Nat) (ns:List Lt):PyData:=.tuple [.int (i:Int),.int (k:Int),.list (ns.map ltD)]
theorem jA {r n:Addr} {zs:List V} {ns:List Lt} {i k:Nat} (hr:H r=some (.tup [.int (i:Int),.int (k:Int),.ref n])) (w:WAt H n zs ns):Dt K H (.ref r) (mz i k ns):=
 .tup (SqT.of hr) (.cons (.int _) (.cons (.int _) (.cons (.lst (SqL.of w.l) (iQ (λa ha=>fh (w.ok a ha).1) w.p)) .nil)))
theorem Dm {i k:Nat} {ns:List Lt} (hi:i<=1000) (hk:k<=1000) (hn:ns.length<=1000) (h:∀a∈ns,Lets a/\Small a):(mz i k ns).showable=true/\(mz i k ns).depth<=60/\(mz i k ns).shown.length<=sizeLine:=by
 refine⟨oI _ λd hd=>?_,?_,?_⟩
 .simp only[af,a8,or_false] at hd;rcases hd with rfl|rfl|rfl
  .exact oH (by lia)
  .exact oH (by lia)
  .refine oI _ λe he=>?_;obtain⟨a,ha,rfl⟩:=aw.mp he;exact (wq (h a ha)).2
 .have:=hV ns;simp only[mz,PyData.depth,PyData.depthAll];lia
 .show (PySem.tupleText (PyData.shownAll _)).length<=_;rw[nY];have h1:(PyData.list (ns.map ltD)).shown.length<=50000:=by
   show (PySem.listText (PyData.shownAll _)).length<=_;rw[nY];refine bV (FG 40 _ ?_) (by rw[aQ,aQ];lia);intro t ht;rw[c9] at ht;obtain⟨a,ha,rfl⟩:=aw.mp ht;exact (wq (h a ha)).1
  refine bV (xl _ 50000 (by simp) ?_) (by show 3+3*(50000+2)<=_;rw[gH];decide);intro x hx;simp only[aB,eO,af,a8,or_false] at hx;rcases hx with rfl|rfl|rfl
  .exact bV (ou (by lia)) (by decide)
  .exact bV (ou (by lia)) (by decide)
  .exact h1
theorem joined {ls ms:List Lt} {i j:Nat} (ei:i=alike ls ms) (ej:j=alike (ls.drop i).reverse (ms.drop i).reverse):ls.take i++(ms.take (ms.length-j)).drop i++ls.drop (i+(ls.length-i-j))=ms:=by
 have ai:=ie ls ms;rw[<-ei] at ai;have aj:=ie (ls.drop i).reverse (ms.drop i).reverse;rw[<-ej,gD,gD,aW,aW] at aj;have h1:=((qu ls ms i).mp (by lia)).2.2;have h2:=(uC (ls:=ls) (ms:=ms) (i:=i) (r:=j) ai.1 ai.2 aj.1).mpr (by lia);rw[h1,show i+(ls.length-i-j)=ls.length-j by lia,<-h2.2];have h3:ms.take i=(ms.take (ms.length-j)).take i:=by rw[List.take_take,nq (by lia)]
 rw[h3,fc,fc]
theorem vQ {d:PyData} (h:gX d=true):PyData.eqv d d=true:=(lU d d h h).mpr rfl
def B1 (vs:List V) (H:Hp) (Q:VK) (a b:Addr) (xs ys:List V) (ls ms:List Lt):Prop:=vs=[.ref a,.ref b]/\WAt H a xs ls/\WAt H b ys ms/\ls.length<=400/\ms.length<=400/\∀H',Same H H'->Q (.bl true) H'
def wj:Sp:=λvs H Q _=>Exists (Ex6 (B1 vs H Q))
section
theorem lx:bS ["_law_one","_law_other","_law_due","_law_handed","_law_told","_law_made"] ["_law_one","_law_other"] (bu lG):=by walk_at"sc"
theorem Cy {f f1 f2 f3:Addr} {fd d1 d2 d3:FuncData} (U:Fun K "_law_right" "_law_right" lG f fd) (T:di mg) (TM:jb mg)
  (GL:Use P w K mg base 1 "_law_least" ["_law_one","_law_other"] nW f1 d1) (GS:Use P w K mg base 2 "stretch" ["one","other"] nW f2 d2) (GW:Use P w K mg base 1 "with_stretch" ["word","told"] xr f3 d3) :
  FnOk P w K mg base CX0 3 f fd ["_law_one","_law_other"] wj:=by
 refine U.ok lx (λvs H Q E h=>?_) (λcdv A outer s H vs Q E hr h=>?_)
 .obtain⟨a,b,xs,ys,ls,ms,rfl,_⟩:=h;rfl
 .obtain⟨a,b,xs,ys,ls,ms,rfl,wa,wb,hla,hlb,q⟩:=h;have hr1:=hr.mono (show 1<=2 by decide);refine⟨_,ak (aA (i:=2) lx.nd rfl (.inl rfl) (aP GL.g hr1 rfl GL.m GL.k GL.b .nil pass0 (aa (pv 0) (aa (pv 1) ae))))
   (ak (aA (i:=3) lx.nd rfl (.inl rfl) (br (aa (ff iM (by rfl) T.list j_ (aa (pv 0) ae)) (aa (ff iM (by rfl) T.list j_ (aa (pv 1) ae)) ae))))
   (ak (aA (i:=4) lx.nd rfl (.inl rfl) (aP GS.g hr rfl GS.m GS.k GS.b .nil pass0 (aa (aq aI (pv 3) ag (λ_ _=>rfl)) (aa (aq aI (pv 3) ag (λ_ _=>rfl)) ae))))
   (ak (bL (PW.pt (i8 (aL rZ (a9 (jr hr.units hr.gu) (by rfl) TM.repr nG (aa (pv 4) ae)) (a9 (jr hr.units hr.gu) (by rfl) TM.repr nG (aa (pv 2) ae)) (nomark _)) (jM (aL (gO hr.units) (pv 3) (br (aa (pv 0) (aa (pv 1) ae))) (nomark _))))) n6 bJ)
   (ak (aA (i:=5) lx.nd rfl (.inl rfl) (aP GW.g hr1 rfl GW.m GW.k GW.b .nil pass0 (aa (aq aI (pv 3) ag (λ_ _=>rfl)) (aa (pv 4) ae))))
   (ak (bL (aL (gO hr.units) (pv 5) (pv 1) (nomark _)) n6 bJ)
   (ak (cy (cK cM da de cN (pv 5) (aa (aN (aa b_ ae)) ae)))
   (ak (bL (PW.pt (i8 (aL (gO hr.units) (pv 3) (br (aa (pv 0) (aa (pv 1) ae))) (nomark _)) (jM (aL rZ (a9 (jr hr.units hr.gu) (by rfl) TM.repr nG (aa (pv 4) ae)) (a9 (jr hr.units hr.gu) (by rfl) TM.repr nG (aa (pv 2) ae)) (nomark _))))) n6 bJ)
   (ak (cy (cK cM da de cN (aq cB (pv 4) ag (λ_ _=>rfl)) (aa (aN (aa b_ ae)) ae)))
   (au (bj (oz du (a9 (jr hr.units hr.gu) (by rfl) TM.repr nG (aa (aP GS.g hr rfl GS.m GS.k GS.b .nil pass0 (aa (aq aI (pv 3) ag (λ_ _=>rfl)) (aa (aq aI (pv 3) ag (λ_ _=>rfl)) ae))) ae)) (a9 (jr hr.units hr.gu) (by rfl) TM.repr nG (aa (pv 2) ae)) (nomark _)))))))))))),?_⟩
  have hline:=line5000;have ai:=ie ls ms;refine⟨_,rfl,_,rfl,a,b,xs,ys,ls,ms,rfl,wa,wb,λD nD i j zD H1 hD hnD s1 ei ej yD wD=>?_⟩;rw[<-ei] at ai;refine⟨_,rfl,a,_,rfl,.inl (SqL.of (s1 _ _ wa.l)),λA' H2 hA s2 y2=>?_⟩;have s02:=s1.trans s2;refine⟨_,rfl,b,_,rfl,.inl (SqL.of (s02 _ _ wb.l)),λB' H3 hB s3 y3=>?_⟩;refine⟨lit2,λC H4 hC s4 y4=>?_⟩;have s14:=(s2.trans s3).trans s4;have s04:=s1.trans s14;have c0:∀x y:V,atI [x,y] 0=some x:=λ_ _=>rfl;have c1:∀x y:V,atI [x,y] 1=some y:=λ_ _=>rfl;have w1:WAt H4 A' xs ls:=⟨(s3.trans s4) _ _ y2,wa.p.same s04,wa.ok,wa.len⟩;have w2:WAt H4 B' ys ms:=⟨s4 _ _ y3,wb.p.same s04,wb.ok,wb.len⟩;refine⟨_,rfl,C,_,_,_,rfl,rfl,SqL.of y4,c0 _ _,_,rfl,C,_,_,_,rfl,rfl,SqL.of y4,c1 _ _,A',B',xs,ys,ls,ms,rfl,w1,w2,λR n i' j' zs H5 hR hn s5 ei' ej' yR wn=>?_⟩;obtain rfl:i'=i:=ei'.trans ei.symm;obtain rfl:j'=j:=ej'.trans ej.symm;have lns:((ms.take (ms.length-j')).drop i').length<=400:=by rw[aW,bG];lia
  have oks:∀x∈(ms.take (ms.length-j')).drop i',Lets x/\Small x:=λx hx=>wb.ok x (gE (eK hx));obtain⟨sb,dp,ln⟩:=Dm (i:=i') (k:=ls.length-i'-j') (ns:=(ms.take (ms.length-j')).drop i') (by lia) (by lia) (by lia) oks;have jn:=joined ei' ej';have s15:=s14.trans s5;have s05:=s1.trans s15;generalize hns:(ms.take (ms.length-j')).drop i'=ns at *;have sc:∀x:Str,scal (.str x) (.str x)=true:=λ_=>rfl;refine⟨_,rfl,_,_,rfl,jA yR wn,sb,dp,ln,_,rfl,_,_,rfl,jA (s15 _ _ yD) (wD.same s15),sb,dp,ln,sc _,_,rfl,?_⟩;rw[K4 rfl];refine av ?_;have dtw:∀{Hx:Hp} {p:Addr} {vs:List V} {l:List Lt},WAt Hx p vs l->Dt [] Hx (.ref p) (.list (l.map ltD)):=λw=>.lst (SqL.of w.l) (iQ (λx hx=>fh (w.ok x hx).1) w.p);have nb2:gX (.list [.list (ls.map ltD),.list (ms.map ltD)])=true:=by show (eU (ls.map ltD)&&(eU (ms.map ltD)&&true))=true;rw[kK,kK];rfl
  have dp2:(PyData.list [.list (ls.map ltD),.list (ms.map ltD)]).depth<=60:=by have:=hV ls;have:=hV ms;simp only[PyData.depth,PyData.depthAll];lia
  refine⟨_,rfl,_,rfl,_,rfl,lit2,λp6 H6 h6 s6 y6=>?_⟩;have s46:=s5.trans s6;have s06:=s04.trans s46;have w16:=w1.same s46;have w26:=w2.same s46;refine⟨_,_,.lst (SqL.of (s46 _ _ y4)) (.cons (dtw w16) (.cons (dtw w26) .nil)),.lst (SqL.of y6) (.cons (dtw (wa.same s06)) (.cons (dtw (wb.same s06)) .nil)),dp2,_,rfl,?_⟩;rw[K3 rfl,vQ nb2];refine av ?_;refine⟨_,rfl,C,_,_,_,rfl,rfl,SqL.of (s46 _ _ y4),c0 _ _,_,rfl,A',R,n,xs,zs,ls,ns,i',_,rfl,w16,s6 _ _ yR,wn.same s6,by lia,λM vm H7 hM s7 wM=>?_⟩;rw[jn] at wM;have s57:=s6.trans s7;have s07:=s06.trans s7;refine⟨_,rfl,_,rfl,_,_,dtw wM,dtw (wb.same s07),?_,_,rfl,?_⟩
  .have:=hV ms;simp only[PyData.depth];lia
  rw[K3 rfl,vR,K4 rfl];refine av ?_;refine⟨_,rfl,.inl ⟨rfl,_,SqL.of wM.l⟩,lit1,λte H8 he s8 y8=>?_⟩;have lM:=aU wM.p;refine⟨M,_,_,rfl,rfl,s8 _ _ wM.l,by lia,λH9 k9 y9=>?_⟩;have s78:=s57.trans s8;have s59:Same H5 H9:=λc o e=>(k9 c (ax (s6 _ _ e) hM)).trans (s78 _ _ e);have s49:=s5.trans s59;have s09:=s04.trans s49;refine⟨_,rfl,_,rfl,_,rfl,lit2,λpa Ha ga sa ya=>?_⟩;have s4a:=s49.trans sa;have s5a:=s59.trans sa;have s0a:=s04.trans s4a;refine⟨_,_,.lst (SqL.of (s4a _ _ y4)) (.cons (dtw (w1.same s4a)) (.cons (dtw (w2.same s4a)) .nil)),.lst (SqL.of ya) (.cons (dtw (wa.same s0a)) (.cons (dtw (wb.same s0a)) .nil)),dp2,_,rfl,?_⟩;rw[K3 rfl,vQ nb2];refine av ?_;have s1a:=s14.trans s4a;refine⟨_,rfl,_,_,rfl,jA (s5a _ _ yR) (wn.same s5a),sb,dp,ln,_,rfl,_,_,rfl,jA (s1a _ _ yD) (wD.same s1a),sb,dp,ln,sc _,_,rfl,?_⟩;rw[K4 rfl];refine av ?_;have t2:∀x y z:V,atI [x,y,z] 2=some z:=λ_ _ _=>rfl;have wna:=wn.same s5a;refine⟨_,rfl,R,_,_,_,rfl,rfl,SqT.of (s5a _ _ yR),t2 _ _ _,.inl ⟨rfl,_,SqL.of wna.l⟩,lit1,λtb Hb gb sb' yb=>?_⟩;have lN:=aU wn.p;refine⟨n,_,_,rfl,rfl,sb' _ _ wna.l,by lia,λHc kc' yc=>?_⟩;have s4c:Same H4 Hc:=λc o e=>(kc' c (ax e hn)).trans (sb' _ _ (s4a _ _ e));have s0c:=s04.trans s4c;have s1c:=s14.trans s4c;refine⟨_,rfl,C,_,_,_,rfl,rfl,SqL.of (s4c _ _ y4),c0 _ _,_,rfl,C,_,_,_,rfl,rfl,SqL.of (s4c _ _ y4),c1 _ _,A',B',xs,ys,ls,ms,rfl,w1.same s4c,w2.same s4c,λR2 n2 i2 j2 zs2 Hd hR2 hn2 sd ei2 ej2 yR2 wn2=>?_⟩;obtain rfl:i2=i':=ei2.trans ei'.symm;obtain rfl:j2=j':=ej2.trans ej'.symm;rw[hns] at wn2;have s1d:=s1c.trans sd;refine⟨_,_,rfl,jA yR2 wn2,sb,dp,ln,_,rfl,_,_,rfl,jA (s1d _ _ yD) (wD.same s1d),sb,dp,ln,sc _,?_⟩;rw[K4 rfl];exact q Hd (s0c.trans sd)
end
end K71
end
section
namespace K71
open K31 K51 K15
theorem D8 (X:List Nat) (p n:Nat) (Y:List Nat) (i:Nat):(X++p::n::Y)[i]?=if i<=X.length then (X++p::Y)[i]? else if i=X.length+1 then some n else (X++p::Y)[i-1]?:=by
 by_cases h1:i<X.length
 .rw[K3 (by lia),dS h1,dS h1]
 .rw[gZ (by lia)];by_cases h2:i=X.length
  .rw[K3 (by lia),gZ (by lia),h2];simp
  .rw[K2 (by lia)];by_cases h3:i=X.length+1
   .rw[K3 h3,h3,nj];rfl
   .rw[K2 h3,gZ (by lia)];obtain⟨d,rfl⟩:∃d,i=X.length+(d+2):=⟨i-X.length-2,by lia⟩;rw[nj,show X.length+(d+2)-1-X.length=d+1 by lia];rfl
theorem Eh {E E':Nat->Nat->Nat->Prop} (k:Sk E) {v p q n:Nat} (o:One E v) (hp:E v p q) (n1:∀x,¬E v n x) (n2:∀x,¬E v x n)
  (he:∀x y,E' v x y↔(E v x y/\¬(x=p/\y=q))\/(x=p/\y=n)\/(x=n/\y=q)):One E' v:=by
 obtain⟨F,f,all⟩:=o;have hpF:=all p ⟨q,hp⟩;obtain⟨X,Y,rfl⟩:=m6 hpF;have nF:n∉X++p::Y:=λz=>by
  obtain⟨y,hy⟩:=f.key n z;exact n1 y hy
 have ndF:=f.nd;have mem:∀x,x∈X++p::n::Y↔x∈X++p::Y\/x=n:=λx=>by
  simp only[ay,af];constructor
  .rintro (h|h|h|h)
   .exact .inl (.inl h)
   .exact .inl (.inr (.inl h))
   .exact .inr h
   .exact .inl (.inr (.inr h))
  .rintro ((h|h|h)|h)
   .exact .inl h
   .exact .inr (.inl h)
   .exact .inr (.inr (.inr h))
   .exact .inr (.inr (.inl h))
 have hpX:(X++p::Y)[X.length]?=some p:=by simp
 have only:∀i,(X++p::Y)[i]?=some p->i=X.length:=λi hi=>by
  have h1:=(aS.mp hi).1;have h2:=(aS.mp hpX).1;exact (List.getElem?_inj h1 ndF).mp (hi.trans hpX.symm)
 have ex:∀y r,E' v y r->y≠n->∃r,E v y r:=λy r h hy=>by
  rcases (he y r).mp h with ⟨h,_⟩|⟨rfl,_⟩|⟨h,_⟩
  .exact⟨r,h⟩
  .exact⟨q,hp⟩
  .exact (hy h).elim
 refine⟨X++p::n::Y,⟨by simp,?_,λi x y hx hy=>?_,λx hx=>?_,λx hx y hxy hr=>?_,λx hx o ho=>?_⟩,λx ⟨y,hy⟩=>?_⟩
 .have:(X++p::n::Y).Perm (n::(X++p::Y)):=by
   have h:=pV (a:=n) (l₁:=X++[p]) (l₂:=Y)
   rwa [bH,bH] at h
  rw[this.nodup_iff,aV];exact⟨nF,ndF⟩
 .rw[D8] at hx hy;rw[he];by_cases h1:i<X.length
  .rw[K3 (by lia)] at hx hy;refine .inl ⟨f.ch i x y hx hy,λz=>?_⟩;rw[z.1] at hx;have:=only i hx;lia
  .by_cases h2:i=X.length
   .rw[K3 (by lia),h2,hpX] at hx;rw[K2 (by lia),K3 (by lia)] at hy;cases hx;cases hy;exact .inr (.inl ⟨rfl,rfl⟩)
   .by_cases h3:i=X.length+1
    .rw[K2 (by lia),K3 h3] at hx;rw[K2 (by lia),K2 (by lia),ni] at hy;cases hx;rw[h3] at hy;exact .inr (.inr ⟨rfl,k.one (f.ch X.length p y hpX hy) hp⟩)
    .rw[K2 (by lia),K2 (by lia)] at hx;rw[K2 (by lia),K2 (by lia),ni] at hy;refine .inl ⟨f.ch (i-1) x y hx (by rw[show i-1+1=i by lia];exact hy),λz=>?_⟩;rw[z.1] at hx;have:=only (i-1) hx;lia
 .rcases (mem x).mp hx with h|rfl
  .obtain⟨y,hy⟩:=f.key x h;by_cases e:x=p/\y=q
   .exact⟨n,(he x n).mpr (.inr (.inl ⟨e.1,rfl⟩))⟩
   .exact⟨y,(he x y).mpr (.inl ⟨hy,e⟩)⟩
  .exact⟨q,(he x q).mpr (.inr (.inr ⟨rfl,rfl⟩))⟩
 .obtain⟨r,hr⟩:=hr;rw[mem];rcases (he x y).mp hxy with ⟨h,_⟩|⟨_,rfl⟩|⟨_,rfl⟩
  .have yn:y≠n:=λz=>n2 x (z ▸ h);have xn:x≠n:=λz=>n1 y (z ▸ h);exact .inl (f.clF x (((mem x).mp hx).resolve_right xn) y h (ex y r hr yn))
  .exact .inr rfl
  .have yn:y≠n:=λz=>n2 p (z ▸ hp);exact .inl (f.clF p hpF y hp (ex y r hr yn))
 .rw[mem];rcases (he o x).mp ho with ⟨h,_⟩|⟨rfl,_⟩|⟨rfl,_⟩
  .have xn:x≠n:=λz=>n2 o (z ▸ h);exact .inl (f.clB x (((mem x).mp hx).resolve_right xn) o h)
  .exact .inl hpF
  .exact .inr rfl
 .rw[mem];by_cases xn:x=n
  .exact .inr xn
  .exact .inl (all x (ex x y hy xn))
def news (t:Tri) (n:Nat):List Tri:=[(t.1,t.2.1,n),(t.2.1,t.2.2,n),(t.2.2,t.1,n)]
theorem CP {ts:List Tri} {a b c n:Nat} (g:Good ts) (o:∀v,Co ts v->One (En ts) v) (ht:(a,b,c)∈ts) (hn:∀x y,¬En ts n x y) :
  Good (ts.filter (λt=>decide (t≠(a,b,c)))++news (a,b,c) n)/\(∀v,Co (ts.filter (λt=>decide (t≠(a,b,c)))++news (a,b,c) n) v->One (En (ts.filter (λt=>decide (t≠(a,b,c)))++news (a,b,c) n)) v)/\(ts.filter (λt=>decide (t≠(a,b,c)))++news (a,b,c) n).length=ts.length+2:=by
 have k:=g.sk;obtain⟨A,B,rfl⟩:=m6 ht;have pe:(ents (A++(a,b,c)::B)).Perm (ents [(a,b,c)]++ents (A++B)):=by rw[K15.ents_app,K15.ents_app,show (a,b,c)::B=[(a,b,c)]++B from rfl,K15.ents_app,<-bH,<-bH];exact eJ _ cR
 have nd:=(pe.map (·.1)).nodup_iff.mp g.nd;rw[bI,bZ] at nd;obtain⟨nd1,nd2,nd3⟩:=nd;have out:(a,b,c)∉A++B:=λz=>by
  have h1:((a,b),c)∈ents (A++B):=dv.mpr (.inl z);exact nd3 (a,b) (by simp[ents]) (a,b) (aw.mpr ⟨_,h1,rfl⟩) rfl
 have ef:(A++(a,b,c)::B).filter (λt=>decide (t≠(a,b,c)))=A++B:=by rw[jd,ID (by simp),<-jd,IE];intro t ht';exact K4 λz=>out (z ▸ ht')
 rw[ef];have hE:En (A++(a,b,c)::B) a b c:=dv.mpr (.inl ht);have ab:=k.ne hE;have bc:=k.ne (k.rot hE);have ca:=k.ne (k.rot (k.rot hE));have n0:∀x y,¬En (A++(a,b,c)::B) x n y:=λx y h=>hn _ _ (k.rot h);have n3:∀x y,¬En (A++(a,b,c)::B) x y n:=λx y h=>hn _ _ (k.rot (k.rot h));have na:n≠a:=λz=>hn b c (by rw[z];exact hE);have nb:n≠b:=λz=>hn c a (by rw[z];exact k.rot hE);have nc:n≠c:=λz=>hn a b (by rw[z];exact k.rot (k.rot hE));have split:∀x y z,En (A++(a,b,c)::B) x y z↔((x,y,z)=(a,b,c)\/(x,y,z)=(b,c,a)\/(x,y,z)=(c,a,b))\/En (A++B) x y z:=λx y z=>by
  unfold En;rw[pe.mem_iff,ay];simp only[ents,je,pJ,cZ,af,a8,or_false,bq,and_assoc]
 have dis:∀x y z,En (A++B) x y z->¬((x=a/\y=b)\/(x=b/\y=c)\/(x=c/\y=a)):=λx y z h hk=>by
  have h1:(x,y)∈(ents (A++B)).map (·.1):=aw.mpr ⟨_,h,rfl⟩;refine nd3 (x,y) ?_ (x,y) h1 rfl;rcases hk with ⟨rfl,rfl⟩|⟨rfl,rfl⟩|⟨rfl,rfl⟩<;>simp[ents]
 have hE':∀x y z,En (A++B++news (a,b,c) n) x y z↔En (A++B) x y z\/((x=a/\y=b/\z=n)\/(x=b/\y=n/\z=a)\/(x=n/\y=a/\z=b))\/((x=b/\y=c/\z=n)\/(x=c/\y=n/\z=b)\/(x=n/\y=b/\z=c))\/((x=c/\y=a/\z=n)\/(x=a/\y=n/\z=c)\/(x=n/\y=c/\z=a)):=λx y z=>by
  unfold En;rw[K15.ents_app,ay];simp only[news,ents,je,pJ,cZ,ay,af,a8,or_false,bq,and_assoc,or_assoc]
 have sub:∀{x y z},En (A++B) x y z->En (A++(a,b,c)::B) x y z:=λ{x y z} h=>(split x y z).mpr (.inr h);have gd:Good (A++B++news (a,b,c) n):=by
  refine⟨λt h=>?_,?_⟩
  .rcases ay.mp h with h|h
   .exact g.ne t (by simp only[ay,af] at h |-;exact h.elim .inl λz=>.inr (.inr z))
   .simp only[news,af,a8,or_false] at h;rcases h with rfl|rfl|rfl
    .exact⟨ab,aF nb,na⟩
    .exact⟨bc,aF nc,nb⟩
    .exact⟨ca,aF na,nc⟩
  .rw[K15.ents_app,bI,bZ];refine⟨nd2,?_,λs hs s' hs' e=>?_⟩
   .simp[news,ents,ab,bc,ca,na,nb,nc,aF ab,aF bc,aF ca,aF na,aF nb,aF nc]
   .subst e;obtain⟨⟨⟨x,y⟩,z⟩,h,rfl⟩:=aw.mp hs;have h:En (A++B) x y z:=h;have h1:=dis x y z h;have h2:x≠n:=λe=>hn _ _ (e ▸ sub h);have h3:y≠n:=λe=>n0 _ _ (e ▸ sub h);simp only[news,ents,je,pJ,cZ,bI,aB,eO,ay,af,a8,or_false,bq] at hs';rcases hs' with (z|z|z)|(z|z|z)|z|z|z
    .exact h1 (.inl z)
    .exact h3 z.2
    .exact h2 z.1
    .exact h1 (.inr (.inl z))
    .exact h3 z.2
    .exact h2 z.1
    .exact h1 (.inr (.inr z))
    .exact h3 z.2
    .exact h2 z.1
 have turn:∀{v p q},En (A++(a,b,c)::B) v p q->(∀x y,En (A++B++news (a,b,c) n) v x y↔(En (A++(a,b,c)::B) v x y/\¬(x=p/\y=q))\/(x=p/\y=n)\/(x=n/\y=q))->One (En (A++B++news (a,b,c) n)) v:=λ{v p q} h he=>Eh k (o v ⟨_,_,h⟩) h (λx=>n0 _ _) (λx=>n3 _ _) he;refine⟨gd,λv hv=>?_,by simp[news];lia⟩;by_cases va:v=a
 .subst va;refine turn hE λx y=>?_;rw[hE',split];have:=dis v x y
  grind
 by_cases vb:v=b
 .subst vb;refine turn (k.rot hE) λx y=>?_;rw[hE',split];have:=dis v x y
  grind
 by_cases vc:v=c
 .subst vc;refine turn (k.rot (k.rot hE)) λx y=>?_;rw[hE',split];have:=dis v x y
  grind
 by_cases vn:v=n
 .subst vn;have hv':∀x y,En (A++B++news (a,b,c) v) v x y↔(x=a/\y=b)\/(x=b/\y=c)\/(x=c/\y=a):=λx y=>by
   rw[hE'];have:¬En (A++B) v x y:=λh=>hn _ _ (sub h)
   grind
  refine⟨[a,b,c],⟨by simp,by simp[ab,bc,aF ca],λi x y h1 h2=>?_,λx hx=>?_,λx _ y h _=>?_,λx _ o h=>?_⟩,λx ⟨y,h⟩=>?_⟩
  .rw[hv']
   match i,h1,h2 with
   |0,h1,h2=>simp at h1 h2;exact .inl ⟨h1.symm,h2.symm⟩
   |1,h1,h2=>simp at h1 h2;exact .inr (.inl ⟨h1.symm,h2.symm⟩)
   |2,_,h2=>simp at h2
   |i+3,_,h2=>simp at h2
  .simp only[af,a8,or_false] at hx;rcases hx with rfl|rfl|rfl
   .exact⟨b,(hv' _ _).mpr (.inl ⟨rfl,rfl⟩)⟩
   .exact⟨c,(hv' _ _).mpr (.inr (.inl ⟨rfl,rfl⟩))⟩
   .exact⟨a,(hv' _ _).mpr (.inr (.inr ⟨rfl,rfl⟩))⟩
  .rcases (hv' _ _).mp h with ⟨_,rfl⟩|⟨_,rfl⟩|⟨_,rfl⟩<;>simp
  .rcases (hv' _ _).mp h with ⟨rfl,_⟩|⟨rfl,_⟩|⟨rfl,_⟩<;>simp
  .rcases (hv' _ _).mp h with ⟨rfl,_⟩|⟨rfl,_⟩|⟨rfl,_⟩<;>simp
 .have same:∀x y,En (A++B++news (a,b,c) n) v x y↔En (A++(a,b,c)::B) v x y:=λx y=>by
   rw[hE',split];simp only[bq,va,vb,vc,vn,false_and,or_false,false_or]
  obtain⟨p,q,h⟩:=hv;obtain⟨F,f,all⟩:=o v ⟨p,q,(same p q).mp h⟩;exact⟨F,⟨f.ne,f.nd,λi x y h1 h2=>(same x y).mpr (f.ch i x y h1 h2),λx hx=>let ⟨y,hy⟩:=f.key x hx;⟨y,(same x y).mpr hy⟩,λx hx y h ⟨r,hr⟩=>f.clF x hx y ((same x y).mp h) ⟨r,(same y r).mp hr⟩,λx hx o h=>f.clB x hx o ((same o x).mp h)⟩,λx ⟨y,hy⟩=>all x ⟨y,(same x y).mp hy⟩⟩
end K71
end
section
namespace K71
open PySem L2 K51 K31 K15
theorem F6 (t u:Tri):PyData.eqv (trD t) (trD u)=decide (t=u):=by
 rw[dn,lU _ _ (by rfl) (by rfl),decide_eq_true_eq];constructor
 .intro h;obtain⟨a,b,c⟩:=t;obtain⟨d,e,f⟩:=u;simp only[trD,J7,yP,J6,and_true] at h;obtain⟨h1,h2,h3⟩:=h;have:a=d:=by lia
  have:b=e:=by lia
  have:c=f:=by lia
  simp[*]
 .rintro rfl;rfl
theorem Dk {p r:Addr} {pq:Int×Int} {vr:List V} {ts:List Tri} (hp:H p=some (.lst (cG pq))) (hr:H r=some (.lst vr)) (tr:bh H vr ts):r≠p:=λz=>by
 rw[z,hp] at hr;injection hr with hr;injection hr with hr;rw[<-hr] at tr;cases tr with
 |cons h _=>obtain⟨b,e,_⟩:=h;cases e
theorem E5 {p r:Addr} {pq:Int×Int} {vr:List V} {ts:List Side} (hp:H p=some (.lst (cG pq))) (hr:H r=some (.lst vr)) (tr:SdsAt H vr ts):r≠p:=λz=>by
 rw[z,hp] at hr;injection hr with hr;injection hr with hr;rw[<-hr] at tr;cases tr with
 |cons h _=>obtain⟨b,e,_⟩:=h;cases e
theorem WAt.but {p a:Addr} {xs zs:List V} {ls:List Lt} (h:WAt H a xs ls) (hp:H p=some (.lst zs)) (b:But p H H') (n:a≠p):WAt H' a xs ls:=
 ⟨b _ _ n h.l,jo (λt o e=>b _ _ (bM e hp (by intro z;cases z)) e) h.p,h.ok,h.len⟩
theorem bh.but {p:Addr} {xs zs:List V} {ts:List Tri} (h:bh H xs ts) (hp:H p=some (.lst zs)) (b:But p H H'):bh H' xs ts:=
 eD.move (φ:=nat) (λt o e=>b _ _ (bM e hp (by intro z;cases z)) e) h
theorem wV:∀ts:List Tri,PyData.depthAll (ts.map trD)<=3
 | []=>by simp[PyData.depthAll]
 |t::ts=>by
  have h1:=wV ts;simp only[aB,PyData.depthAll,trD,PyData.depth];lia
theorem one012:Good [(0,1,2)]/\∀c,Co [(0,1,2)] c->One (En [(0,1,2)]) c:=by
 have en:∀a b c,En [(0,1,2)] a b c↔(a=0/\b=1/\c=2)\/(a=1/\b=2/\c=0)\/(a=2/\b=0/\c=1):=λa b c=>by
  unfold En;simp only[ents,je,pJ,cZ,af,a8,or_false,bq,and_assoc]
 refine⟨⟨by simp,by decide⟩,λv ⟨p,q,h⟩=>?_⟩;have u:∀x y,En [(0,1,2)] v x y->x=p/\y=q:=λx y h'=>by
  rw[en] at h h';lia
 have pq:p≠q:=by rw[en] at h;lia
 refine⟨[p],⟨by simp,by simp,λi x y h1 h2=>by simp at h2,λx hx=>⟨q,by rw[aR.mp hx];exact h⟩,λx _ y h1 ⟨r,h2⟩=>?_,λx hx o h1=>?_⟩,λx ⟨y,h1⟩=>by rw[(u x y h1).1];simp⟩
 .exact (pq ((u y r h2).1.symm.trans (u x y h1).2)).elim
 .have:=u o x h1;rw[aR.mp hx] at this;exact (pq this.2).elim
def iA (H:Hp) (p F:Addr):List V->List (List Lt)->Prop:=Paired λv l=>∃a xs,v=.ref a/\WAt H a xs l/\a≠p/\a≠F/\l.length<=240
theorem iA.same {p F:Addr} {ws:List (List Lt)} (s:Same H H') (h:iA H p F vs ws):iA H' p F vs ws:=Paired.imp' (λ_ _ ⟨a,xs,e,w,r⟩=>⟨a,xs,e,w.same s,r⟩) h
theorem iA.but {p F q:Addr} {vs zs:List V} {ws:List (List Lt)} (hq:H q=some (.lst zs)) (b:But q H H') (hh:q=p\/q=F) (h:iA H p F vs ws):iA H' p F vs ws:=Paired.imp' (λ_ _ ⟨a,xs,e,w,n1,n2,r⟩=>⟨a,xs,e,w.but hq b (hh.elim (λz=>z ▸ n1) λz=>z ▸ n2),n1,n2,r⟩) h
def BV (vs:List V) (H:Hp) (Q:VK) (p:Addr) (pq:Int×Int) (m:Nat):Prop:=vs=[.ref p,.int (m:Int)]/\H p=some (.lst (cG pq))/\cY pq/\m<=12/\
 ∀r a b xs ys ls ms pq' H',But p H H'->H' p=some (.lst (cG pq'))->cY pq'->H' r=some (.lst [.ref a,.ref b])->WAt H' a xs ls->WAt H' b ys ms->ls.length<=240->ms.length<=240->Q (.ref r) H'
def v_:Sp:=λvs H Q _=>Exists (Ex3 (BV vs H Q))
section
theorem gh:bS ["_law_pot_here","_law_most","_law_triples","_law_found","_law_k","_law_sides_here","_law_new","_law_gone","_law_left"] ["_law_pot_here","_law_most"] (bu lE):=by walk_at"sc"
theorem Cr {f f1 f2 f3 f4 f5 f6 f7 f8:Addr} {fd d1 d2 d3 d4 d5 d6 d7 d8:FuncData} (U:Fun K "_law_words" "_law_words" lE f fd) (T:di mg) (TM:jb mg) (mS:mg "sorted" = none)
  (GD:Use P w K mg base 1 "_law_digit" ["_law_pot_here","_law_base"] lr f1 d1) (GO:Use P w K mg base 6 "_law_word" ["_law_pot_here","_law_most"] xq f2 d2)
  (GS:Use P w K mg base 3 "_law_split" ["_law_triples"] wg f3 d3) (GG:Use P w K mg base 3 "_law_grown" ["_law_pot_here","_law_most"] wm f4 d4)
  (GT:Use P w K mg base 1 "_law_thirds" ["_law_triples"] K15.spThirds f5 d5) (GW:Use P w K mg base 5 "_law_wound" ["_law_triples","_law_side"] qR f6 d6)
  (GC:Use P w K mg base 2 "_law_corners" ["_law_triples"] nX f7 d7) (GI:Use P w K mg base 1 "_law_sides" ["_law_triple"] qS f8 d8) :
  FnOk P w K mg base CX0 7 f fd ["_law_pot_here","_law_most"] v_:=by
 refine U.ok gh (λvs H Q E h=>?_) (λcdv A outer s H vs Q E hr h=>?_)
 .obtain⟨p,pq,m,rfl,_⟩:=h;rfl
 .obtain⟨p,pq,m,rfl,hp,hpq,hm,q⟩:=h;have hr1:=hr.mono (show 1<=6 by decide);have hr2:=hr.mono (show 2<=6 by decide);have hr3:=hr.mono (show 3<=6 by decide);have hr5:=hr.mono (show 5<=6 by decide);refine⟨_,ak (bL (aL du (aP GD.g hr1 rfl GD.m GD.k GD.b .nil pass0 (aa (pv 0) (aa ag ae))) ag (nomark _)) (au (bj (br (aa (aP GO.g hr rfl GO.m GO.k GO.b .nil pass0 (aa (pv 0) (aa (pv 1) ae))) (aa (aP GO.g hr rfl GO.m GO.k GO.b .nil pass0 (aa (pv 0) (aa (pv 1) ae))) ae))))) bJ)
   (ak (aA (i:=2) gh.nd rfl (.inl rfl) (aP GS.g hr3 rfl GS.m GS.k GS.b .nil pass0 (aa (aP GG.g hr3 rfl GG.m GG.k GG.b .nil pass0 (aa (pv 0) (aa (pv 1) ae))) ae)))
   (ak (bL (aL (iq hr.units) (pv 2) (br ae) (nomark _)) (au (aA (i:=2) gh.nd rfl (.inl rfl) (br (aa (aN (aa ag (aa ag (aa ag ae)))) ae)))) bJ)
   (ak (aA (i:=3) gh.nd rfl (.inl rfl) (br ae))
   (ak (dh cD rfl (iO rfl T.range (aa ag ae)) (aK (i:=4) gh.nd rfl (.inl rfl))
    (ak (aA (i:=5) gh.nd rfl (.inl rfl) (a9 (nM rfl) (by rfl) mS kj (aa (aP GT.g hr1 rfl GT.m GT.k GT.b .nil pass0 (aa (pv 2) ae)) ae)))
    (ak (cy (cK cM da de cN (pv 3) (aa (aq cB (aP GW.g hr5 rfl GW.m GW.k GW.b .nil pass0 (aa (pv 2) (aa (aq aI (pv 5) (aP GD.g hr1 rfl GD.m GD.k GD.b .nil pass0 (aa (pv 0) (aa (a9 cu (by rfl) T.len cF (aa (pv 5) ae)) ae))) (λ_ _=>rfl)) ae))) ag (λ_ _=>rfl)) ae)))
    (au (bL (aL du (aP GD.g hr1 rfl GD.m GD.k GD.b .nil pass0 (aa (pv 0) (aa ag ae))) ag (nomark _))
     (ak (aA (i:=6) gh.nd rfl (.inr rfl) (aD cb (a9 (uo rfl) (by rfl) TM.max zB (aa (aP GC.g hr2 rfl GC.m GC.k GC.b .nil pass0 (aa (pv 2) ae)) ae)) ag))
     (ak (aA (i:=7) gh.nd rfl (.inr rfl) (aq aI (pv 2) (aP GD.g hr1 rfl GD.m GD.k GD.b .nil pass0 (aa (pv 0) (aa (a9 cu (by rfl) T.len cF (aa (pv 2) ae)) ae))) (λ_ _=>rfl)))
     (ak (lO (i:=8) (N:=["_law_triple","_law_gone"]) (fr:=[none,some 7]) (tt:=i6 (tOp (sP [] true) (eh 0) (eh 1))) (eR (by decide +kernel) rfl rfl (by decide +kernel) (by decide +kernel) (by walk_at"cs") (by walk_at"ct")) rfl (dr (pv 2))
     (λC' s' H' fp pins=>⟨aK (i:=0) (show (["_law_triple","_law_gone"]:List Str).Nodup by decide +kernel) rfl (.inl rfl) (.inr rfl),gM (aL (gO hr.units) (pv 0) (pv 1) (nomark _)),pv 0⟩) gh.nd rfl (.inl rfl))
     (au (aA (i:=2) gh.nd rfl (.inl rfl) (aD dI (pv 8) (gj (N:=["_law_p","_law_q","_law_new"]) (fr:=[none,none,some 6]) (g:=mW [] 2 (gR (dZ 0) (gR (dZ 1) mX))) (eR (by decide +kernel) rfl rfl (by decide +kernel) (by decide +kernel) (by walk_at"cs") (by walk_at"ct")) rfl (dr (aP GI.g hr1 rfl GI.m GI.k GI.b .nil pass0 (aa (pv 7) ae)))
     (λC' s' H' fp pins=>⟨dX rfl (bB (aK (i:=0) (show (["_law_p","_law_q","_law_new"]:List Str).Nodup by decide +kernel) rfl (.inl rfl) (.inr rfl)) (bB (aK (i:=1) (show (["_law_p","_law_q","_law_new"]:List Str).Nodup by decide +kernel) rfl (.inl rfl) (.inr rfl)) dt)),jD,aN (aa (pv 0) (aa (pv 1) (aa (pv 2) ae)))⟩)))))))) bJ)))))
   (au (bj (pv 3))))))),?_⟩
  have hline:=line5000;refine⟨_,rfl,p,pq,3,rfl,hp,hpq,by decide,fZ (by decide) (by decide),λH1 k1 y1=>?_⟩;have hpq1:=fm (b:=3) hpq;generalize nxt pq 3=pq1 at hpq1 y1 |-;have b1:But p H H1:=λb o n e=>(k1 b n).trans e;refine⟨rfl,_,rfl,?_⟩;cases decide (V.int (digO pq 3)=V.int 0) with
  |true=>
   refine aJ ⟨_,rfl,_,rfl,p,pq1,m,rfl,y1,hpq1,hm,λr1 v1 l1 pq2 H2 b2 n2 rp2 hp2 hpq2 yr1 la1 ok1 ln1=>?_⟩;have w1:WAt H2 r1 v1 l1:=⟨yr1,la1,ok1,by lia⟩;refine⟨_,rfl,_,rfl,p,pq2,m,rfl,hp2,hpq2,hm,λr2 v2 l2 pq3 H3 b3 n3 rp3 hp3 hpq3 yr2 la2 ok2 ln2=>?_⟩;refine⟨lit2,λr H4 hr' s4 y4=>?_⟩;exact q r r1 r2 v1 v2 l1 l2 pq3 H4 (λb o n e=>s4 _ _ (b3 b o n (b2 b o n (b1 b o n e)))) (s4 _ _ hp3) hpq3 y4 ((w1.but hp2 b3 rp2).same s4) ((⟨yr2,la2,ok2,by lia⟩:WAt H3 r2 v2 l2).same s4) ln1 ln2
  |false=>
   refine av ⟨_,rfl,_,rfl,p,pq1,m,rfl,y1,hpq1,by lia,λR vr ts pq2 H2 nR b2 hp2 hpq2 yR tr lts g=>?_⟩;refine⟨R,vr,ts,rfl,yR,tr,by lia,g,λS vs ts' H3 s3 yS tr' len' g' one'=>?_⟩;have b3:But p H H3:=λb o n e=>s3 _ _ (b2 b o n (b1 b o n e));have hp3:=s3 _ _ hp2;dsimp only [mB,dZ];refine iS (λZ H4=>∃S vs ts,Z=[some (.ref p),some (.int (m:Int)),some (.ref S),none,none,none,none,none,none]/\But p H H4/\H4 p=some (.lst (cG pq2))/\H4 S=some (.lst vs)/\bh H4 vs ts/\ts.length<=12/\ts≠[]/\Good ts/\∀c,Co ts c->One (En ts) c) (λNX hOut=>?_) ?_
   .refine⟨_,rfl,aT _,λpe H4 hpe s4 y4=>?_⟩;refine⟨_,_,.lst (SqL.of (s4 _ _ yS)) (wQ (tr'.same s4)),.lst (SqL.of y4) .nil,?_,_,rfl,?_⟩
    .have:=wV ts';simp only[PyData.depth];lia
    rw[K2 (by decide),jw];cases ts' with
    |nil=>
     refine aJ ⟨lit3,λt5 H5 h5 s5 y5=>?_⟩;refine⟨lit1,λS6 H6 h6 s6 y6=>?_⟩;have s36:=(s4.trans s5).trans s6;exact hOut _ _ ⟨S6,_,[(0,1,2)],rfl,λb o n e=>s36 _ _ (b3 b o n e),s36 _ _ hp3,y6,.cons ⟨t5,rfl,s6 _ _ y5⟩ .nil,by simp,by simp,one012⟩
    |cons t0 ts'=>exact av (hOut _ _ ⟨S,vs,t0::ts',rfl,λb o n e=>s4 _ _ (b3 b o n e),s4 _ _ hp3,s4 _ _ yS,tr'.same s4,by lia,by simp,g',one'⟩)
   rintro Z H4 ⟨S,vs,ts,rfl,b4,hp4,yS4,tr4,lt4,ne4,g4,one4⟩;clear yR tr nR b2 yS tr' g' one' len' s3 b3 hp3 g lts;refine⟨aT _,λF H5 hF s5 y5=>?_⟩;have pF:p≠F:=ax hp4 hF;have nF:H F=none:=by
    cases e:H F with
    |none=>rfl
    |some o=>rw[b4 F o (aF pF) e] at hF;cases hF
   refine⟨_,rfl,by lia,by lia,jq (lo:=0) (n:=((2:Int)).toNat) (λk Z H'=>∃o4 o5 o6 o7 o8 S vs ts vf ws pq',Z=[some (.ref p),some (.int (m:Int)),some (.ref S),some (.ref F),o4,o5,o6,o7,o8]/\But p H H'/\H' p=some (.lst (cG pq'))/\cY pq'/\H' F=some (.lst vf)/\iA H' p F vf ws/\ws.length=k/\H' S=some (.lst vs)/\bh H' vs ts/\ts.length<=12+2*k/\ts≠[]/\Good ts/\∀c,Co ts c->One (En ts) c)
    ⟨none,none,none,none,none,S,vs,ts,[],[],pq2,rfl,λb o n e=>s5 _ _ (b4 b o n e),s5 _ _ hp4,hpq2,y5,.nil,rfl,s5 _ _ yS4,tr4.same s5,by lia,ne4,g4,one4⟩ ?_ ?_⟩
   .clear yS4 tr4 lt4 ne4 g4 one4;rintro k Z H6 hk ⟨o4,o5,o6,o7,o8,S,vs,ts,vf,ws,pq3,rfl,b6,hp6,hpq3,hF6,wsA,lws,yS,tr,lts,tne,g,one⟩;have hk2:k<2:=hk;have Sp:=Dk hp6 yS tr;have SF:S≠F:=λz=>by
     rw[z,hF6] at yS;injection yS with e;injection e with e;subst e;cases tr with
     |nil=>exact tne rfl
     |cons h _=>
      obtain⟨b,e1,h2⟩:=h;cases wsA with
      |cons h' _=>
       obtain⟨a,xs,e2,w,_⟩:=h';rw[e2] at e1;cases e1;rw[w.l] at h2;cases h2
    refine⟨_,rfl,S,vs,ts,rfl,yS,tr,by lia,g.nd,λD H7 hD0 s7 hD=>?_⟩;refine⟨D,rfl,.inr ⟨_,hD⟩,λks vs' hk'=>.inr ⟨_,qC (gI (K:=[]) hD hk'),?_,λpS ix hpS pm _=>?_⟩⟩
    .rw[aU (gI (K:=[]) hD hk'),aQ,K15.ents_len];lia
    have sd0:=gI (K:=[]) hD hk';have lk:=aU sd0;walk_at"H7 pS hpS H8 s8 y8";have ixb:∀i∈ix,i<ks.length:=λi hi=>gF.mp (pm.mem_iff.mp hi);have sdz:=oh (Paired.imp' (λ_ _ ⟨a,e,h⟩=>⟨a,e,s8 _ _ h⟩) sd0:SdsAt H8 ks ((ents ts).map (·.1))) ix ixb;have pss:(ix.map λi=>((ents ts).map (·.1)).getD i (0,0)).Perm ((ents ts).map (·.1)):=ql (by rw[<-lk];exact pm);generalize (ix.map λi=>((ents ts).map (·.1)).getD i (0,0))=ss at sdz pss;generalize (ix.map λi=>ks.getD i .non)=zs at sdz y8;have lz:=aU sdz;have lss:ss.length=3*ts.length:=by rw[pss.length_eq,aQ,K15.ents_len]
    have hts0:0<ts.length:=iE.mpr tne;have s68:=s7.trans s8;have hF8:=s68 _ _ hF6;have hp8:=s68 _ _ hp6;refine⟨_,rfl,.inl ⟨rfl,_,SqL.of hF8⟩,_,rfl,_,rfl,_,rfl,_,rfl,pS,_,rfl,.inl (SqL.of y8),p,pq3,_,rfl,hp8,hpq3,by lia,fZ (by lia) (by lia),λH9 k9 y9=>?_⟩;have hd:=gK (q:=pq3) (b:=(zs.length:Int)) (by lia);have hpq4:=fm (b:=(zs.length:Int)) hpq3;obtain⟨d,ed⟩:=Int.eq_ofNat_of_zero_le hd.1;rw[ed] at hd |-;generalize nxt pq3 (zs.length:Int)=pq4 at hpq4 y9 |-;have pSp:=E5 hp8 y8 sdz;have b89:But p H8 H9:=λb o n e=>(k9 b n).trans e;have hdz:d<zs.length:=by lia
    have hzd:zs[d]?=some zs[d]:=aX hdz;obtain⟨⟨x,y⟩,hxy,sd,esd,hsd⟩:=dG sdz hzd;rw[esd] at hzd;have hsd9:=b89 _ _ (bM hsd hp8 (by intro z;cases z)) hsd;obtain⟨⟨⟨x',y'⟩,c⟩,hin,exy⟩:=aw.mp (pss.mem_iff.mp (a7 hxy));have exy:(x',y')=(x,y):=exy;cases exy;obtain⟨N,hN⟩:=bounded ts;have yS9:=b89 _ _ Sp (s68 _ _ yS);have tr9:=bh.but (tr.same s68) hp8 b89;have hF9:=b89 _ _ (aF pF) hF8;have ws9:=(wsA.same s68).but hp8 b89 (.inl rfl);refine⟨pS,_,(d:Int),.ref sd,rfl,rfl,SqL.of (b89 _ _ pSp y8),cA hzd,S,sd,vs,ts,x,y,c,N,rfl,yS9,tr9,by lia,g,one,hN,hsd9,hin,λr' W vw lw o1 o2 Ha hr' hW sa yr' yW lw' hlw llw=>?_⟩;have hFa:=sa _ _ hF9;have lvf:=aU wsA;refine⟨r',_,0,.ref W,rfl,rfl,SqT.of yr',rfl,F,_,_,rfl,rfl,hFa,by lia,λHb kb yb=>?_⟩;have bab:But F Ha Hb:=λb o n e=>(kb b n).trans e;have Wp:W≠p:=λz=>by rw[z,y9] at hW;cases hW
    have WF:W≠F:=λz=>by rw[z,hF9] at hW;cases hW
    have wW:WAt Ha W vw lw:=⟨yW,lw',hlw,by lia⟩;have wsb:iA Hb p F (vf++[.ref W]) (ws++[lw]):=cX ((ws9.same sa).but hFa bab (.inr rfl)) (.cons ⟨W,vw,rfl,wW.but hFa bab WF,Wp,WF,llw⟩ .nil);have hpb:=bab _ _ pF (sa _ _ y9);have yb':Hb F=some (.lst (vf++[.ref W])):=yb;have ySb:=bab _ _ SF (sa _ _ yS9);have trb:=bh.but (tr9.same sa) hFa bab;have bb:But p H Hb:=λb o n e=>(kb b (ax e nF)).trans (sa _ _ (b89 b o n (s68 _ _ (b6 b o n e))));refine⟨_,rfl,p,pq4,2,rfl,hpb,hpq4,by decide,fZ (by decide) (by decide),λHc kc' yc=>?_⟩;have hpq5:=fm (b:=2) hpq4;generalize nxt pq4 2=pq5 at hpq5 yc |-;have bbc:But p Hb Hc:=λb o n e=>(kc' b n).trans e;have ySc:=bbc _ _ Sp ySb;have trc:=bh.but trb hpb bbc;have hFc:=bbc _ _ (aF pF) yb';have wsc:=wsb.but hpb bbc (.inl rfl);have bc:But p H Hc:=λb o n e=>bbc b o n (bb b o n e);have lw1:(ws++[lw]).length=k+1:=by rw[ar,bg];lia
    refine⟨rfl,_,rfl,?_⟩;cases decide (V.int (digO pq4 2)=V.int 1) with
    |false=>exact av ⟨_,_,_,_,_,S,vs,ts,_,_,pq5,rfl,bc,yc,hpq5,hFc,wsc,lw1,ySc,trc,by lia,tne,g,one⟩
    |true=>
     refine aJ ⟨_,rfl,S,vs,ts,rfl,ySc,trc,by lia,λrc cs2 Hd hrc sd' y6 hcs2 hcl2=>?_⟩;have ev:nV cs2=(cs2.map (λc:Nat=>(c:Int))).map V.int:=by rw[c9];rfl
     have hco:∀u,Co ts u->u∈cs2:=λu hu=>by
      rw[hcs2.2];obtain⟨t,htm,hu⟩:=gq.mp hu;exact iH.mpr ⟨t,htm,by simpa using hu⟩
     refine⟨rc,_,rfl,SqL.of (by rw[y6,ev]),λz=>?_,λmx hm' hmax=>⟨_,_,rfl,rfl,?_⟩⟩
     .have:=hco x ⟨_,_,hin⟩;rw[IR.mp z] at this;cases this
     obtain⟨n0,hn0,rfl⟩:=aw.mp hm';have hfr:∀u v,¬En ts (n0+1) u v:=λu v hu=>by
      have:=hmax ((n0+1:Nat):Int) (aw.mpr ⟨n0+1,hco _ ⟨_,_,hu⟩,rfl⟩);lia
     have hpd:=sd' _ _ yc;have ySd:=sd' _ _ ySc;have lvs:=aU tr;refine⟨_,rfl,_,rfl,_,rfl,S,_,rfl,.inl (SqL.of ySd),p,pq5,_,rfl,hpd,hpq5,by lia,fZ (by lia) (by lia),λHe ke ye=>?_⟩;have hd2:=gK (q:=pq5) (b:=(vs.length:Int)) (by lia);have hpq6:=fm (b:=(vs.length:Int)) hpq5;obtain⟨d2,ed2⟩:=Int.eq_ofNat_of_zero_le hd2.1;rw[ed2] at hd2 |-;generalize nxt pq5 (vs.length:Int)=pq6 at hpq6 ye |-;have bde:But p Hd He:=λb o n e=>(ke b n).trans e;have ySe:=bde _ _ Sp ySd;have tre:=bh.but (trc.same sd') hpd bde;have hd2v:vs[d2]?=some vs[d2]:=aX (by lia);obtain⟨⟨ga,gb,gc⟩,hgt,gt,egt,hgt'⟩:=dG tre hd2v;rw[egt] at hd2v;have hgm:(ga,gb,gc)∈ts:=a7 hgt;refine⟨S,_,(d2:Int),.ref gt,rfl,rfl,SqL.of ySe,cA hd2v,?_⟩;obtain⟨gg,go,gl⟩:=CP g one hgm hfr;have hFe:=bde _ _ (aF pF) (sd' _ _ hFc);have wse:=(wsc.same sd').but hpd bde (.inl rfl);have be:But p H He:=λb o n e=>bde b o n (sd' _ _ (bc b o n e));refine⟨_,rfl,S,rfl,⟨_,SqL.of ySe⟩,λZ_ hZ=>fg (K:=[]) (a:=S) (xs:=vs) (λi Z ys H'=>∃o,Z=[o,some (.ref gt)]/\Same He H'/\H' Z_=some (.lst ys)/\bh H' ys ((ts.take i).filter λt=>decide (t≠(ga,gb,gc)))) ⟨none,rfl,dD hZ,cx,.nil⟩ (λi Z ys H' _ ⟨_,_,e,_⟩=>SqL.of (e _ _ ySe)) ?_ ?_⟩
     .rintro i v Z ys H' hi ⟨o,rfl,sm,hz,ty⟩;obtain⟨t,ht,b,rfl,hb⟩:=dG tre hi;have et:ts.take (i+1)=ts.take i++[t]:=by rw[cU,ht];rfl
      have lty:=aU ty;have lfl:=iD (λt=>decide (t≠(ga,gb,gc))) (ts.take i);rw[bG] at lfl;refine⟨_,rfl,_,rfl,_,_,sf ⟨b,rfl,sm _ _ hb⟩,sf (t:=(ga,gb,gc)) ⟨gt,rfl,sm _ _ hgt'⟩,(by simp[trD,PyData.depth,PyData.depthAll]),_,rfl,?_⟩;rw[K3 rfl,F6];by_cases e:t=(ga,gb,gc)
      .rw[K4 e];refine av ⟨_,rfl,sm,hz,?_⟩;rw[et,jd,ID (by simp[e]),m9,cZ];exact ty
      .rw[K5 e];refine aJ ⟨_,rfl,hz,by lia,λH3 k3 y3=>⟨_,rfl,λc o ec=>(k3 c (ax ec hZ)).trans (sm _ _ ec),y3,?_⟩⟩;rw[et,jd,List.filter_cons_of_pos (by simp[e]),m9];have mv:∀t xs,H' t=some (.tup xs)->H3 t=some (.tup xs):=λt xs e=>(k3 t (bM e hz (by intro z;cases z))).trans e;exact cX (eD.move (φ:=nat) mv ty) (.cons ⟨b,rfl,mv _ _ (sm _ _ hb)⟩ .nil)
     .rintro Z ys Hf ⟨o,rfl,sm,hz,ty⟩;rw[lvs,fY] at ty;refine⟨_,rfl,_,rfl,gt,(ga,gb,gc),rfl,sm _ _ hgt',λrs zs2 Hg hrs sg yg sds=>?_⟩;refine⟨rs,rfl,⟨_,SqL.of yg⟩,λZ2 hZ2=>fg (K:=[]) (a:=rs) (xs:=zs2) (λi Z ys H'=>∃o1 o2,Z=[o1,o2,some (.int ((n0:Int)+1))]/\Same Hg H'/\H' Z2=some (.lst ys)/\bh H' ys (((dU (ga,gb,gc)).take i).map λs=>((s.1,s.2,n0+1):Tri))) ⟨none,none,rfl,dD hZ2,cx,.nil⟩ (λi Z ys H' _ ⟨_,_,_,e,_⟩=>SqL.of (e _ _ yg)) ?_ ?_⟩
      .rintro i v Z ys' H' hi ⟨o1,o2,rfl,sm2,hz2,ty2⟩;obtain⟨⟨u1,u2⟩,hs,b,rfl,hb⟩:=dG sds hi;have et:(dU (ga,gb,gc)).take (i+1)=(dU (ga,gb,gc)).take i++[(u1,u2)]:=by rw[cU,hs];rfl
       have lty:=aU ty2;rw[aQ,bG] at lty;have l3:(dU (ga,gb,gc)).length=3:=rfl;refine⟨b,_,rfl,SqT.of (sm2 _ _ hb),rfl,_,_,rfl,_,_,rfl,rfl,?_⟩;refine⟨_,rfl,_,rfl,_,rfl,lit3,λt9 H9' h9 s9' y9'=>?_⟩;have hz9:=s9' _ _ hz2;refine⟨hz9,by lia,λH3 k3 y3=>⟨_,_,rfl,λc o ec=>(k3 c (ax ec hZ2)).trans (s9' _ _ (sm2 _ _ ec)),y3,?_⟩⟩;rw[et,bI];have mv:∀t xs,H9' t=some (.tup xs)->H3 t=some (.tup xs):=λt xs e=>(k3 t (bM e hz9 (by intro z;cases z))).trans e;exact cX (eD.move (φ:=nat) mv (ty2.same s9')) (.cons ⟨t9,rfl,mv _ _ y9'⟩ .nil)
      .rintro Z ys2 Hh ⟨o1,o2,rfl,sm2,hz2,ty2⟩;have l3:=aU sds;have l3':zs2.length=3:=l3;rw[l3',show (dU (ga,gb,gc)).take 3=dU (ga,gb,gc) from rfl] at ty2;have sfh:=sg.trans sm2;have ly:=aU ty;have ly2:=aU ty2;have lfl:=iD (λt=>decide (t≠(ga,gb,gc))) ts;have ly2':ys2.length=3:=ly2;refine⟨Z_,Z2,_,_,rfl,rfl,sfh _ _ hz,hz2,by lia,λSn Hi hSn si yi=>?_⟩;have sei:=(sm.trans sfh).trans si;refine⟨_,_,_,_,_,Sn,_,ts.filter (λt=>decide (t≠(ga,gb,gc)))++news (ga,gb,gc) (n0+1),_,_,pq6,rfl,λb o n e=>sei _ _ (be b o n e),sei _ _ ye,hpq6,sei _ _ hFe,wse.same sei,lw1,yi,cX ((ty.same sfh).same si) (ty2.same si),by lia,?_,gg,go⟩;intro z;rw[z] at gl;simp at gl
   .rintro Z H6 ⟨o4,o5,o6,o7,o8,S,vs,ts,vf,ws,pq3,rfl,b6,hp6,hpq3,hF6,wsA,lws,yS,tr,lts,tne,g,one⟩;have lws:ws.length=2:=lws
    match ws,lws,wsA with
    | [l1,l2],_,.cons ⟨a1,x1,e1,w1,_,_,n1⟩ (.cons ⟨a2,x2,e2,w2,_,_,n2⟩ .nil)=>
     subst e1 e2;exact⟨_,rfl,q F a1 a2 x1 x2 l1 l2 pq3 H6 b6 hp6 hpq3 hF6 w1 w2 n1 n2⟩
end
def E2 (K:W.Frag) (vs:List V) (H:Hp) (Q:VK) (a:Addr) (ns:List Int):Prop:=vs=[.ref a]/\SqL [] H a (ns.map V.int)/\ns.length<=63/\∀H',Q (.bl true) H'
def mE (K:W.Frag):Sp:=λvs H Q _=>Exists (Ex2 (E2 K vs H Q))
section
theorem mG:bS ["_law_script","_law_pot_here","_law_k","_law_one","_law_other"] ["_law_script"] (bu gU):=by walk_at"sc"
theorem Fy {f f1 f2 f3 f4:Addr} {d d1 d2 d3 d4:FuncData} (U:Fun K "law" "law" gU f d) (T:di mg) (TM:jb mg)
  (GP:Use P w K mg base 2 "_law_pot" ["_law_script","_law_k"] (xY K) f1 d1) (GD:Use P w K mg base 1 "_law_digit" ["_law_pot_here","_law_base"] lr f2 d2)
  (GW:Use P w K mg base 7 "_law_words" ["_law_pot_here","_law_most"] v_ f3 d3) (GR:Use P w K mg base 3 "_law_right" ["_law_one","_law_other"] wj f4 d4) :
  FnOk P w K mg base CX0 8 f d ["_law_script"] (mE K):=by
 refine U.ok mG (λvs H Q E h=>?_) (λcdv A outer s H vs Q E hr h=>?_)
 .obtain⟨a,ns,rfl,_⟩:=h;rfl
 .obtain⟨a,ns,rfl,hns,hnl,q⟩:=h;have hr1:=hr.mono (show 1<=7 by decide);have hr2:=hr.mono (show 2<=7 by decide);have hr3:=hr.mono (show 3<=7 by decide);have hline:=line5000;refine⟨_,ak (aA (i:=1) mG.nd rfl (.inl rfl) (aP GP.g hr2 rfl GP.m GP.k GP.b .nil pass0 (aa (pv 0) (aa ag ae))))
   (ak (dh cD rfl (iO rfl T.range (aa (a9 (qq rfl) (by rfl) TM.min zC (aa (aD cb ag (aP GD.g hr1 rfl GD.m GD.k GD.b .nil pass0 (aa (pv 1) (aa ag ae)))) (aa (aD cb ag (aD jO ag (a9 cu (by rfl) T.len cF (aa (pv 0) ae)))) ae))) ae)) (aK (i:=2) mG.nd rfl (.inl rfl))
    (ak (eV (aP GW.g hr rfl GW.m GW.k GW.b .nil pass0 (aa (pv 1) (aa (a9 (qq rfl) (by rfl) TM.min zC (aa ag (aa (aD cb ag (aD jO ag (a9 cu (by rfl) T.len cF (aa (pv 0) ae)))) ae))) ae))) (oN rfl (bB (aK (i:=3) mG.nd rfl (.inl rfl)) (bB (aK (i:=4) mG.nd rfl (.inl rfl)) dt))))
    (au (bL (PW.pt (i8 (rL (mh (aP GR.g hr3 rfl GR.m GR.k GR.b .nil pass0 (aa (pv 3) (aa (pv 4) ae))))) (i8 (rL (mh (aP GR.g hr3 rfl GR.m GR.k GR.b .nil pass0 (aa (pv 4) (aa (pv 3) ae))))) (jM (rL (mh (aP GR.g hr3 rfl GR.m GR.k GR.b .nil pass0 (aa (pv 3) (aa (ff iM (by rfl) T.list j_ (aa (pv 3) ae)) ae))))))))) n6 bJ))))
   (au (bj yj))),?_⟩
  refine⟨_,rfl,a,ns,1,rfl,hns,by decide,by decide,λp H1 hp s1 y1=>?_⟩;have hl:(ns.map V.int).length=ns.length:=aQ ..;have stay:∀{H':Hp},But p H1 H'->SqL [] H' a (ns.map V.int):=λ{H'} b=>by
   have go:∀{o:HO},H a=some o->H' a=some o:=λe=>b _ _ (ax e hp) (s1 _ _ e);rcases hns with (e|⟨o,e⟩)|h
   .exact .inl (.inl (go e))
   .exact .inl (.inr ⟨o,go e⟩)
   .exact .inr h
  obtain⟨pq0,y1,pok⟩:∃pq0,H1 p=some (.lst (cG pq0))/\cY pq0:=⟨_,y1,CI ns (by decide) (by decide)⟩;refine⟨_,rfl,p,pq0,8,rfl,y1,pok,by decide,fZ (by decide) (by decide),λH2 k2 y2=>?_⟩;have hd:=gK (q:=pq0) (b:=8) (by decide);have hpq1:=fm (b:=8) pok;generalize digO pq0 8=dg at hd;generalize nxt pq0 8=pq1 at hpq1 y2 |-;have b2:But p H1 H2:=λb o n e=>(k2 b n).trans e;refine⟨_,_,rfl,rfl,_,rfl,a,_,rfl,.inl (stay b2),_,_,rfl,rfl,.inl ⟨by decide,by decide⟩,_,_,rfl,rfl,_,_,rfl,?_⟩;generalize hn:(if 1+4*((ns.map V.int).length:Int)<1+dg then 1+4*((ns.map V.int).length:Int) else 1+dg)=n;have hnb:0<=n/\n<=8:=by rw[<-hn];split<;>lia
  refine⟨n,rfl,by lia,by lia,jq (lo:=0) (n:=n.toNat) (λi Z H'=>∃o2 o3 o4 pq',Z=[some (.ref a),some (.ref p),o2,o3,o4]/\But p H1 H'/\H' p=some (.lst (cG pq'))/\cY pq')
   ⟨none,none,none,pq1,rfl,b2,y2,hpq1⟩ ?_ ?_⟩
  .rintro i Z H3 hi ⟨o2,o3,o4,pq2,rfl,b3,hp3,hpq2⟩;refine⟨_,rfl,_,rfl,a,_,rfl,.inl (stay b3),_,_,rfl,rfl,.inl ⟨by decide,by decide⟩,_,_,rfl,rfl,_,_,rfl,?_⟩;generalize hm:(if 1+3*((ns.map V.int).length:Int)<12 then 1+3*((ns.map V.int).length:Int) else 12)=m;have hmb:0<=m/\m<=12:=by rw[<-hm];split<;>lia
   obtain⟨m',em⟩:=Int.eq_ofNat_of_zero_le hmb.1;subst em;refine⟨p,pq2,m',rfl,hp3,hpq2,by lia,λr u v xs ys ls ms pq3 H4 b4 hp4 hpq3 yr wu wv ll lm=>?_⟩;refine⟨r,_,rfl,SqL.of yr,rfl,_,_,rfl,_,_,rfl,rfl,?_⟩;have b14:But p H1 H4:=λb o n e=>b4 b o n (b3 b o n e);refine⟨_,rfl,_,rfl,u,v,xs,ys,ls,ms,rfl,wu,wv,by lia,by lia,λH5 s5=>⟨true,rfl,?_⟩⟩;dsimp only [oV,pf,yI];refine av ⟨_,rfl,_,rfl,v,u,ys,xs,ms,ls,rfl,wv.same s5,wu.same s5,by lia,by lia,λH6 s6=>⟨true,rfl,?_⟩⟩;have s46:=s5.trans s6;have wu6:=wu.same s46;dsimp only [oV,pf,yI];refine av ⟨_,rfl,_,rfl,u,_,rfl,.inl (SqL.of wu6.l),λc H7 hc s7 y7=>?_⟩;have wu7:=wu6.same s7;refine⟨u,c,xs,xs,ls,ls,rfl,wu7,⟨y7,wu7.p,wu7.ok,wu7.len⟩,by lia,by lia,λH8 s8=>⟨true,rfl,?_⟩⟩;have s48:=(s46.trans s7).trans s8;dsimp only [oV,pf,yI];exact av ⟨_,_,_,pq3,rfl,λb o n e=>s48 _ _ (b14 b o n e),s48 _ _ hp4,hpq3⟩
  .rintro Z H3 ⟨o2,o3,o4,pq2,rfl,b3,hp3,hpq2⟩;exact q H3
end
theorem len1 (h:us.length=1):∃a,us=[a]:=List.length_eq_one_iff.mp h
theorem len2 (h:us.length=2):∃a b,us=[a,b]:=by obtain⟨a,r,rfl⟩:=yX h;obtain⟨b,rfl⟩:=len1 (zr h);exact⟨a,b,rfl⟩
theorem len3 (h:us.length=3):∃a b c,us=[a,b,c]:=by obtain⟨a,r,rfl⟩:=yX h;obtain⟨b,c,rfl⟩:=len2 (zr h);exact⟨a,b,c,rfl⟩
theorem len4 (h:us.length=4):∃a b c d,us=[a,b,c,d]:=by obtain⟨a,r,rfl⟩:=yX h;obtain⟨b,c,d,rfl⟩:=len3 (zr h);exact⟨a,b,c,d,rfl⟩
structure Top (K:W.Frag) (mg:Str->Option Value) (x:Str) (st:Stmt) (f:Addr) (fd:FuncData):Prop where
 u:Fun K x x st f fd
 m:mg x=some (.ref f)
theorem xo {h:Heap} {x:Str} {st:Stmt} {f:Addr} {oc:Value} {od an:Option Addr} {osl:Array (Option Value)} {kV doc pm cdv ct:Value} (X:K.In h) (G:h.Ns mainGlobals mg)
  (a:W.nsIn K mainGlobals x=some (some (.ref f))) (l:K.lookup f=some ⟨oc,od,.func (W.fnOf x x (gk st) (fS st) (bu st) .none kV doc pm an cdv ct),osl⟩) (c:W.codeIn K cdv x=true) (k:W.keepIn K (.ref f)=true) :
  Top K mg x st f (W.fnOf x x (gk st) (fS st) (bu st) .none kV doc pm an cdv ct):=⟨F5 (st:=st) l c k,Jy X G a⟩
def bW (K:W.Frag) (x:Str) (st:Stmt):Prop:=∃(f:Addr) (oc:Value) (od an:Option Addr) (sl:Array (Option Value)) (kV dc pm cd ct:Value),W.nsIn K mainGlobals x=some (some (.ref f))/\K.lookup f=some ⟨oc,od,.func (W.fnOf x x (gk st) (fS st) (bu st) .none kV dc pm an cd ct),sl⟩/\W.codeIn K cd x=true/\W.keepIn K (.ref f)=true
theorem top_in {x:Str} {st:Stmt} {f:Addr} {oc:Value} {od an:Option Addr} {sl:Array (Option Value)} {kV dc pm cd ct:Value} (a:W.nsIn K mainGlobals x=some (some (.ref f))) (l:K.lookup f=some ⟨oc,od,.func (W.fnOf x x (gk st) (fS st) (bu st) .none kV dc pm an cd ct),sl⟩) (c:W.codeIn K cd x=true) (k:W.keepIn K (.ref f)=true):bW K x st:=⟨f,oc,od,an,sl,kV,dc,pm,cd,ct,a,l,c,k⟩
theorem cp {h:Heap} {x:Str} {st:Stmt} (X:K.In h) (G:h.Ns mainGlobals mg) (t:bW K x st):∃f d,Top K mg x st f d:=by obtain⟨f,oc,od,an,sl,kV,dc,pm,cd,ct,a,l,c,k⟩:=t;exact⟨_,_,xo (st:=st) X G a l c k⟩
section
theorem all_ok {f1 f2 f3 f4 f5 f6 f7 f8 f9 f10 f11 f12 f13 f14 f15 f16 f17 f18 f19 f20 f21 f22 f23 f24 f25 f26 f27 f28 f29 f30 f31:Addr} {d1 d2 d3 d4 d5 d6 d7 d8 d9 d10 d11 d12 d13 d14 d15 d16 d17 d18 d19 d20 d21 d22 d23 d24 d25 d26 d27 d28 d29 d30 d31:FuncData} (T:di mg) (mSo:mg "sorted" = none) (mMi:mg "min" = none) (mMa:mg "max" = none) (mDi:mg "dict" = none) (mAn:mg "any" = none) (mRe:mg "repr" = none) (mZi:mg "zip" = none)
  (U1:Top K mg "many_alike" ko f1 d1)
  (U2:Top K mg "stretch" kQ f2 d2)
  (U3:Top K mg "with_stretch" ki f3 d3)
  (U4:Top K mg "_law_at" sAt f4 d4)
  (U5:Top K mg "_law_pot" mU f5 d5)
  (U6:Top K mg "_law_digit" me f6 d6)
  (U7:Top K mg "_law_sides" l8 f7 d7)
  (U8:Top K mg "_law_thirds" lC f8 d8)
  (U9:Top K mg "_law_free" mJ f9 d9)
  (U10:Top K mg "_law_corners" kX f10 d10)
  (U11:Top K mg "_law_fans" mK f11 d11)
  (U12:Top K mg "_law_split" l6 f12 d12)
  (U13:Top K mg "_law_rim_sides" kq f13 d13)
  (U14:Top K mg "_law_grown" lI f14 d14)
  (U15:Top K mg "_law_rims" ma f15 d15)
  (U16:Top K mg "_law_capped" kW f16 d16)
  (U17:Top K mg "_law_wanted" kS f17 d17)
  (U18:Top K mg "_law_step" l_ f18 d18)
  (U19:Top K mg "_law_letter" kU f19 d19)
  (U20:Top K mg "_law_wound" lD f20 d20)
  (U21:Top K mg "_law_third" lF f21 d21)
  (U22:Top K mg "_law_can" mI f22 d22)
  (U23:Top K mg "_law_put" mH f23 d23)
  (U24:Top K mg "_law_partings" ku f24 d24)
  (U25:Top K mg "_law_begun" lJ f25 d25)
  (U26:Top K mg "_law_closing" kI f26 d26)
  (U27:Top K mg "_law_word" l9 f27 d27)
  (U28:Top K mg "_law_least" lH f28 d28)
  (U29:Top K mg "_law_words" lE f29 d29)
  (U30:Top K mg "_law_right" lG f30 d30)
  (U31:Top K mg "law" gU f31 d31)
  : FnOk P w K mg base CX0 8 f31 d31 ["_law_script"] (mE K):=by
 have b1:=U1.u.binds (ps:=["one","other"]) λ_ _ _ _ _ _ us hl=>by obtain⟨a,b,rfl⟩:=len2 hl;rfl
 have b2:=U2.u.binds (ps:=["one","other"]) λ_ _ _ _ _ _ us hl=>by obtain⟨a,b,rfl⟩:=len2 hl;rfl
 have b3:=U3.u.binds (ps:=["word","told"]) λ_ _ _ _ _ _ us hl=>by obtain⟨a,b,rfl⟩:=len2 hl;rfl
 have b4:=U4.u.binds (ps:=["_law_script","_law_k"]) λ_ _ _ _ _ _ us hl=>by obtain⟨a,b,rfl⟩:=len2 hl;rfl
 have b5:=U5.u.binds (ps:=["_law_script","_law_k"]) λ_ _ _ _ _ _ us hl=>by obtain⟨a,b,rfl⟩:=len2 hl;rfl
 have b6:=U6.u.binds (ps:=["_law_pot_here","_law_base"]) λ_ _ _ _ _ _ us hl=>by obtain⟨a,b,rfl⟩:=len2 hl;rfl
 have b7:=U7.u.binds (ps:=["_law_triple"]) λ_ _ _ _ _ _ us hl=>by obtain⟨a,rfl⟩:=len1 hl;rfl
 have b8:=U8.u.binds (ps:=["_law_triples"]) λ_ _ _ _ _ _ us hl=>by obtain⟨a,rfl⟩:=len1 hl;rfl
 have b9:=U9.u.binds (ps:=["_law_thirds_here","_law_triple"]) λ_ _ _ _ _ _ us hl=>by obtain⟨a,b,rfl⟩:=len2 hl;rfl
 have b10:=U10.u.binds (ps:=["_law_triples"]) λ_ _ _ _ _ _ us hl=>by obtain⟨a,rfl⟩:=len1 hl;rfl
 have b11:=U11.u.binds (ps:=["_law_triples","_law_corner"]) λ_ _ _ _ _ _ us hl=>by obtain⟨a,b,rfl⟩:=len2 hl;rfl
 have b12:=U12.u.binds (ps:=["_law_triples"]) λ_ _ _ _ _ _ us hl=>by obtain⟨a,rfl⟩:=len1 hl;rfl
 have b13:=U13.u.binds (ps:=["_law_triples"]) λ_ _ _ _ _ _ us hl=>by obtain⟨a,rfl⟩:=len1 hl;rfl
 have b14:=U14.u.binds (ps:=["_law_pot_here","_law_most"]) λ_ _ _ _ _ _ us hl=>by obtain⟨a,b,rfl⟩:=len2 hl;rfl
 have b15:=U15.u.binds (ps:=["_law_triples"]) λ_ _ _ _ _ _ us hl=>by obtain⟨a,rfl⟩:=len1 hl;rfl
 have b16:=U16.u.binds (ps:=["_law_triples"]) λ_ _ _ _ _ _ us hl=>by obtain⟨a,rfl⟩:=len1 hl;rfl
 have b17:=U17.u.binds (ps:=["_law_loops"]) λ_ _ _ _ _ _ us hl=>by obtain⟨a,rfl⟩:=len1 hl;rfl
 have b18:=U18.u.binds (ps:=["_law_loops","_law_letter_here","_law_x"]) λ_ _ _ _ _ _ us hl=>by obtain⟨a,b,c,rfl⟩:=len3 hl;rfl
 have b19:=U19.u.binds (ps:=["_law_loops","_law_thirds_here","_law_come","_law_x"]) λ_ _ _ _ _ _ us hl=>by obtain⟨a,b,c,d,rfl⟩:=len4 hl;rfl
 have b20:=U20.u.binds (ps:=["_law_triples","_law_side"]) λ_ _ _ _ _ _ us hl=>by obtain⟨a,b,rfl⟩:=len2 hl;rfl
 have b21:=U21.u.binds (ps:=["_law_front","_law_letter_here"]) λ_ _ _ _ _ _ us hl=>by obtain⟨a,b,rfl⟩:=len2 hl;rfl
 have b22:=U22.u.binds (ps:=["_law_front","_law_letter_here"]) λ_ _ _ _ _ _ us hl=>by obtain⟨a,b,rfl⟩:=len2 hl;rfl
 have b23:=U23.u.binds (ps:=["_law_front","_law_letter_here"]) λ_ _ _ _ _ _ us hl=>by obtain⟨a,b,rfl⟩:=len2 hl;rfl
 have b24:=U24.u.binds (ps:=["_law_front"]) λ_ _ _ _ _ _ us hl=>by obtain⟨a,rfl⟩:=len1 hl;rfl
 have b25:=U25.u.binds (ps:=["_law_pot_here","_law_most"]) λ_ _ _ _ _ _ us hl=>by obtain⟨a,b,rfl⟩:=len2 hl;rfl
 have b26:=U26.u.binds (ps:=["_law_front"]) λ_ _ _ _ _ _ us hl=>by obtain⟨a,rfl⟩:=len1 hl;rfl
 have b27:=U27.u.binds (ps:=["_law_pot_here","_law_most"]) λ_ _ _ _ _ _ us hl=>by obtain⟨a,b,rfl⟩:=len2 hl;rfl
 have b28:=U28.u.binds (ps:=["_law_one","_law_other"]) λ_ _ _ _ _ _ us hl=>by obtain⟨a,b,rfl⟩:=len2 hl;rfl
 have b29:=U29.u.binds (ps:=["_law_pot_here","_law_most"]) λ_ _ _ _ _ _ us hl=>by obtain⟨a,b,rfl⟩:=len2 hl;rfl
 have b30:=U30.u.binds (ps:=["_law_one","_law_other"]) λ_ _ _ _ _ _ us hl=>by obtain⟨a,b,rfl⟩:=len2 hl;rfl
 have TM:jb mg:=⟨mAn,mMa,mMi,mRe⟩;have g1:FnOk P w K mg base CX0 _ _ _ _ _:=Ae U1.u mZi;have g2:FnOk P w K mg base CX0 _ _ _ _ _:=AZ U2.u T ⟨g1,b1,U1.m,U1.u.kp⟩;have g3:FnOk P w K mg base CX0 _ _ _ _ _:=DT U3.u;have g5:FnOk P w K mg base CX0 _ _ _ _ _:=Fx U5.u U4.u b4 U4.m U4.u.kp T;have g6:FnOk P w K mg base CX0 _ _ _ _ _:=CC U6.u;have g7:FnOk P w K mg base CX0 _ _ _ _ _:=Cw U7.u;have x8:FnOk P w K mg base CX0 1 f8 d8 ["_law_triples"] (spX kG):=FnOk.ex λφ h=>AY (λ{a b} e=>h a b e) U8.u;have g8:FnOk P w K mg base CX0 1 f8 d8 ["_law_triples"] K15.spThirds:=x8.imp λ_ _ _ _ z=>BO z;have g9:FnOk P w K mg base CX0 _ _ _ _ _:=DV U9.u T g7 b7 U7.m U7.u.kp;have g10:FnOk P w K mg base CX0 _ _ _ _ _:=A0 U10.u mSo;have g11:FnOk P w K mg base CX0 _ _ _ _ _:=DW U11.u mSo g8 b8 U8.m U8.u.kp;have g12:FnOk P w K mg base CX0 _ _ _ _ _:=Cv U12.u T mMa (g10.mono (by decide)) b10 U10.m U10.u.kp g11 b11 U11.m U11.u.kp;have g13:FnOk P w K mg base CX0 _ _ _ _ _:=Fw U13.u mSo g8 b8 U8.m U8.u.kp;have g14:FnOk P w K mg base CX0 _ _ _ _ _:=CB U14.u T (g6.mono (by decide)) b6 U6.m U6.u.kp (g8.mono (by decide)) b8 U8.m U8.u.kp g9 b9 U9.m U9.u.kp g13 b13 U13.m U13.u.kp (g10.mono (by decide)) b10 U10.m U10.u.kp;have g15:FnOk P w K mg base CX0 _ _ _ _ _:=Cz U15.u mSo mDi mMi ⟨g13,b13,U13.m,U13.u.kp⟩;have g16:FnOk P w K mg base CX0 4 f16 d16 ["_law_triples"] (spN qB):=FnOk.ex λN _=>Bo U16.u T mZi ⟨g15,b15,U15.m,U15.u.kp⟩;have g17:FnOk P w K mg base CX0 1 f17 d17 ["_law_loops"] (spX nU):=FnOk.ex λφ h=>AX (λ{a b} e=>h a b e) U17.u T;have g18:FnOk P w K mg base CX0 1 f18 d18 ["_law_loops","_law_letter_here","_law_x"] (spX oq):=FnOk.ex λφ h=>Cu U18.u T;have g19:FnOk P w K mg base CX0 2 f19 d19 ["_law_loops","_law_thirds_here","_law_come","_law_x"] (spX qA):=FnOk.ex λφ h=>Bn (λ{a b} e=>h a b e) U19.u ⟨g17.imp λ_ _ _ _ z=>⟨φ,h,z⟩,b17,U17.m,U17.u.kp⟩;have g20:FnOk P w K mg base CX0 _ _ _ _ _:=Cq U20.u T ⟨x8,b8,U8.m,U8.u.kp⟩ ⟨g16,b16,U16.m,U16.u.kp⟩ ⟨g19,b19,U19.m,U19.u.kp⟩ ⟨g18,b18,U18.m,U18.u.kp⟩;have g21:FnOk P w K mg base CX0 _ _ _ _ _:=Ct U21.u T;have g22:FnOk P w K mg base CX0 _ _ _ _ _:=FA U22.u T TM ⟨g21,b21,U21.m,U21.u.kp⟩ ⟨g17.imp λ_ _ _ _ z=>BJ z,b17,U17.m,U17.u.kp⟩ ⟨x8.imp λ_ _ _ _ z=>BN z,b8,U8.m,U8.u.kp⟩;have g23:FnOk P w K mg base CX0 _ _ _ _ _:=DU U23.u TM ⟨g22,b22,U22.m,U22.u.kp⟩ ⟨g18.imp λ_ _ _ _ z=>EY z,b18,U18.m,U18.u.kp⟩;have g24:FnOk P w K mg base CX0 _ _ _ _ _:=Ar U24.u T ⟨g22,b22,U22.m,U22.u.kp⟩;have g25:FnOk P w K mg base CX0 _ _ _ _ _:=CD U25.u T ⟨g22,b22,U22.m,U22.u.kp⟩ ⟨g6,b6,U6.m,U6.u.kp⟩ ⟨g24,b24,U24.m,U24.u.kp⟩ ⟨g23,b23,U23.m,U23.u.kp⟩;have g26:FnOk P w K mg base CX0 _ _ _ _ _:=A1 U26.u T;have g27:FnOk P w K mg base CX0 _ _ _ _ _:=DS U27.u ⟨g25,b25,U25.m,U25.u.kp⟩ ⟨g20,b20,U20.m,U20.u.kp⟩ ⟨g26,b26,U26.m,U26.u.kp⟩;have g28:FnOk P w K mg base CX0 _ _ _ _ _:=CA U28.u T TM;have g29:FnOk P w K mg base CX0 _ _ _ _ _:=Cr U29.u T TM mSo ⟨g6,b6,U6.m,U6.u.kp⟩ ⟨g27,b27,U27.m,U27.u.kp⟩ ⟨g12,b12,U12.m,U12.u.kp⟩ ⟨g14,b14,U14.m,U14.u.kp⟩ ⟨g8,b8,U8.m,U8.u.kp⟩ ⟨g20,b20,U20.m,U20.u.kp⟩ ⟨g10.mono (by decide),b10,U10.m,U10.u.kp⟩ ⟨g7,b7,U7.m,U7.u.kp⟩;have g30:FnOk P w K mg base CX0 _ _ _ _ _:=Cy U30.u T TM ⟨g28,b28,U28.m,U28.u.kp⟩ ⟨g2,b2,U2.m,U2.u.kp⟩ ⟨g3,b3,U3.m,U3.u.kp⟩;exact Fy U31.u T TM ⟨g5,b5,U5.m,U5.u.kp⟩ ⟨g6,b6,U6.m,U6.u.kp⟩ ⟨g29,b29,U29.m,U29.u.kp⟩ ⟨g30,b30,U30.m,U30.u.kp⟩
end
theorem all_mk {l:W.OpenLaw} {h:Heap} {fa:Addr} (X:K.In h) (G:h.Ns mainGlobals mg) (hfa:mg "law" = some (.ref fa))
  (h1:bW K "many_alike" ko)
  (h2:bW K "stretch" kQ)
  (h3:bW K "with_stretch" ki)
  (h4:bW K "_law_at" sAt)
  (h5:bW K "_law_pot" mU)
  (h6:bW K "_law_digit" me)
  (h7:bW K "_law_sides" l8)
  (h8:bW K "_law_thirds" lC)
  (h9:bW K "_law_free" mJ)
  (h10:bW K "_law_corners" kX)
  (h11:bW K "_law_fans" mK)
  (h12:bW K "_law_split" l6)
  (h13:bW K "_law_rim_sides" kq)
  (h14:bW K "_law_grown" lI)
  (h15:bW K "_law_rims" ma)
  (h16:bW K "_law_capped" kW)
  (h17:bW K "_law_wanted" kS)
  (h18:bW K "_law_step" l_)
  (h19:bW K "_law_letter" kU)
  (h20:bW K "_law_wound" lD)
  (h21:bW K "_law_third" lF)
  (h22:bW K "_law_can" mI)
  (h23:bW K "_law_put" mH)
  (h24:bW K "_law_partings" ku)
  (h25:bW K "_law_begun" lJ)
  (h26:bW K "_law_closing" kI)
  (h27:bW K "_law_word" l9)
  (h28:bW K "_law_least" lH)
  (h29:bW K "_law_words" lE)
  (h30:bW K "_law_right" lG)
  (h31:bW K "law" gU)
  (z_len:W.nsIn K mainGlobals "len" = some none)
  (z_int:W.nsIn K mainGlobals "int" = some none)
  (z_str:W.nsIn K mainGlobals "str" = some none)
  (z_isinstance:W.nsIn K mainGlobals "isinstance" = some none)
  (z_range:W.nsIn K mainGlobals "range" = some none)
  (z_list:W.nsIn K mainGlobals "list" = some none)
  (z_tuple:W.nsIn K mainGlobals "tuple" = some none)
  (z_bool:W.nsIn K mainGlobals "bool" = some none)
  (z_all:W.nsIn K mainGlobals "all" = some none)
  (z_ValueError:W.nsIn K mainGlobals "ValueError" = some none)
  (z_reversed:W.nsIn K mainGlobals "reversed" = some none)
  (z_enumerate:W.nsIn K mainGlobals "enumerate" = some none)
  (z_sorted:W.nsIn K mainGlobals "sorted" = some none)
  (z_min:W.nsIn K mainGlobals "min" = some none)
  (z_max:W.nsIn K mainGlobals "max" = some none)
  (z_dict:W.nsIn K mainGlobals "dict" = some none)
  (z_any:W.nsIn K mainGlobals "any" = some none)
  (z_repr:W.nsIn K mainGlobals "repr" = some none)
  (z_zip:W.nsIn K mainGlobals "zip" = some none)
  : ∃fd:FuncData,(∀(s:Shared) (v:Value),BindsTo s fd ⟨[v],[]⟩ [("_law_script",v)])/\∀base:Heap,K.In base->base.Ns mainGlobals mg->FnOk l.prog w K mg base CX0 8 fa fd ["_law_script"] (mE K):=by
 obtain⟨f31,oc,od,an,sl,kV,dc,pm,cd,ct,a,l,c,k⟩:=h31;have e:=hfa.symm.trans (Jy X G a);cases e;have T:di mg:=⟨dM X G z_len,dM X G z_int,dM X G z_str,dM X G z_isinstance,dM X G z_range,dM X G z_list,dM X G z_tuple,dM X G z_bool,dM X G z_all,dM X G z_ValueError,dM X G z_reversed,dM X G z_enumerate⟩;obtain⟨_,_,U1⟩:=cp X G h1;obtain⟨_,_,U2⟩:=cp X G h2;obtain⟨_,_,U3⟩:=cp X G h3;obtain⟨_,_,U4⟩:=cp X G h4;obtain⟨_,_,U5⟩:=cp X G h5;obtain⟨_,_,U6⟩:=cp X G h6;obtain⟨_,_,U7⟩:=cp X G h7;obtain⟨_,_,U8⟩:=cp X G h8;obtain⟨_,_,U9⟩:=cp X G h9;obtain⟨_,_,U10⟩:=cp X G h10;obtain⟨_,_,U11⟩:=cp X G h11;obtain⟨_,_,U12⟩:=cp X G h12;obtain⟨_,_,U13⟩:=cp X G h13;obtain⟨_,_,U14⟩:=cp X G h14;obtain⟨_,_,U15⟩:=cp X G h15;obtain⟨_,_,U16⟩:=cp X G h16;obtain⟨_,_,U17⟩:=cp X G h17;obtain⟨_,_,U18⟩:=cp X G h18;obtain⟨_,_,U19⟩:=cp X G h19;obtain⟨_,_,U20⟩:=cp X G h20;obtain⟨_,_,U21⟩:=cp X G h21;obtain⟨_,_,U22⟩:=cp X G h22;obtain⟨_,_,U23⟩:=cp X G h23;obtain⟨_,_,U24⟩:=cp X G h24;obtain⟨_,_,U25⟩:=cp X G h25;obtain⟨_,_,U26⟩:=cp X G h26;obtain⟨_,_,U27⟩:=cp X G h27;obtain⟨_,_,U28⟩:=cp X G h28;obtain⟨_,_,U29⟩:=cp X G h29;obtain⟨_,_,U30⟩:=cp X G h30;exact⟨W.fnOf "law" "law" (gk gU) (fS gU) (bu gU) .none kV dc pm an cd ct,λs v=>.of_eq rfl,λbase _ _=>all_ok T (dM X G z_sorted) (dM X G z_min) (dM X G z_max) (dM X G z_dict) (dM X G z_any) (dM X G z_repr) (dM X G z_zip) U1 U2 U3 U4 U5 U6 U7 U8 U9 U10 U11 U12 U13 U14 U15 U16 U17 U18 U19 U20 U21 U22 U23 U24 U25 U26 U27 U28 U29 U30 (xo (st:=gU) X G a l c k)⟩
theorem walk {l:W.OpenLaw} {q:Program} {loose:List Str} {XP:(Str->Option Value)->Heap->Prop} {YP:World->Heap->Prop} {d:DefRec} {K:Params->W.Frag} (hn:l.most=some 63) (hdf:d.params.defaults=[])
  (hY:∀(w:World) (h:Heap),YP w h->(K w.params).In h) (hL:∀(w:World) (a:Addr) (o:Obj),(K w.params).lookup a=some o->o.cls≠.type "list")
  (F:∀(w:World) (mg:Str->Option Value) (fa:Addr) (h:Heap),(K w.params).In h->h.Ns mainGlobals mg->mg d.name=some (.ref fa)->
   ∃fd:FuncData,(∀(s:Shared) (u:Value),BindsTo s fd ⟨[u],[]⟩ [("_law_script",u)])/\∀base:Heap,(K w.params).In base->base.Ns mainGlobals mg->FnOk l.prog w (K w.params) mg base CX0 8 fa fd ["_law_script"] (mE (K w.params))) :
  W.WalkO q loose XP YP l.row.toRowW d [] (λf vs=>PySem.call f vs):=
 L2.walk_of (n:=63) (k:=8) (x:="_law_script") (CX:=λ_=>CX0) (sp:=λw=>mE (K w.params)) hn (by decide) hdf ⟨rfl,by decide,by decide,rfl⟩ hY F hL (λ_ _ a ns hl _ hS=>⟨a,ns,rfl,hS,hl,λ_=>rfl⟩) λ_ _ _ _ _ z=>z
end K71
end
namespace K15
open PySem L2 PySem.W K51
theorem kf_nl (P:Params) (a:Addr) (o:Obj) (h:(kf P).lookup a=some o):o.cls≠.type "list":=yk (show _=true by kernel_rfl) h
end K15
def PySem.W.Fast.tw7610682515441724197:PySem.Program:=PySem.Challenge.pw_shapestring_k71_whole_stretches
theorem PySem.W.Fast.te7610682515441724197:PySem.Challenge.pw_shapestring_k71_whole_stretches=PySem.W.Fast.tw7610682515441724197:=rfl
open PySem PySem.W PyProof.Rows
set_option maxRecDepth 100000 in
set_option maxHeartbeats 0 in
theorem PySem.Challenge.cw_shapestring_k71_whole_stretches_holds : PySem.Challenge.rw_shapestring_k71_whole_stretches.Holds := by
 w_on;o_law
 refine W.holds_open (q:=K15.view) (loose:=[]) (Xt:=λs=>xlAt K15.view [] s&&recOk [] s) (XP:=XL K15.view []) (Yf:=Hook.obs (kHook K15.kf K15.ads (λ_=>by kernel_rfl))) (Ya:=Hook.val (kHook K15.kf K15.ads (λ_=>by kernel_rfl))) (YP:=Hook.says (kHook K15.kf K15.ads (λ_=>by kernel_rfl))) (N:=2070) K15.left (Hook.of _) (Hook.keeps _)
  (λs e=>xl_of s (Im.mp e).1) XL.keeps (by rfl) (by rfl) (by rfl) (λs e=>recFacts_of (Im.mp e).2) (by rfl) (by assumption) (by decide +kernel) ⟨rfl,rfl,rfl,rfl,rfl,by decide +kernel⟩ ?hw ?hc
 case hw=>w_witness2
 k_fill
 refine K71.walk (l:=PySem.Challenge.rw_shapestring_k71_whole_stretches) rfl rfl (λw h Y=>W.kIn_of Y) (λw=>K15.kf_nl w.params) ?F
 case F=>
  intro w mg fa h KX G hmg
  refine' K71.all_mk KX G hmg ?_ ?_ ?_ ?_ ?_ ?_ ?_ ?_ ?_ ?_ ?_ ?_ ?_ ?_ ?_ ?_ ?_ ?_ ?_ ?_ ?_ ?_ ?_ ?_ ?_ ?_ ?_ ?_ ?_ ?_ ?_ ?_ ?_ ?_ ?_ ?_ ?_ ?_ ?_ ?_ ?_ ?_ ?_ ?_ ?_ ?_ ?_ ?_ ?_ ?_
  all_goals first|k_is|(refine' K71.top_in ?a ?l ?c ?k;(case a=>k_is);(case l=>k_is);(case c=>k_is);(case k=>k_is))
#print axioms PySem.Challenge.cw_shapestring_k71_whole_stretches_holds

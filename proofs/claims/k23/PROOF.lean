import PyProof.Rows.All
import Wide.All
import OpenK.AllK
import Wide.FinOn
import Lean
import PyProof.EqAt
import PyProof.EqKinds
import PyProof.TupleCall
import PyProof.NeData
import PyProof.P3In
import PyProof.DictItems
import KE.KPairComp
import PyProof.DictCompW
import PyProof.AttrMissHeap
import PyProof.DictUpdate
import PyProof.MeetsSeq3
import KE.KEqDict
import Open.Pieces
import KE.KRevIter
import KE.KRevSl
import PyProof.Draws
import PyProof.EnumMake
import KE.KItemsList
import PyProof.Rows.Chain
import PyProof.ReprRoads
import KE.KTryMore
import PySem.Challenge.RW_shapestring_k23_pieces_counted
set_option Elab.async false
set_option linter.all false
set_option maxRecDepth 100000
set_option maxHeartbeats 0
open Array renaming getElem?_toList->eV,length_toList->eX,toList_push->eY,toList_inj->ko,toList_extract->oU,toList_map->oV,getElem?_eq_getElem->uT,getElem?_eq_none->Fg,perm_iff_toList_perm->Fh,size_setIfInBounds->Fi,toList_append->Fj,toList_reverse->Fk
open Array.Perm renaming refl->Ff
open Bool renaming false_ne_true->a8,and_eq_true->eZ,eq_iff_iff->gO,false_eq_true->iL,not_eq_true'->uU,and_eq_true_iff->Fl
open Classical renaming byContradiction->iN
open Iff renaming rfl->uY
open Int renaming toNat_natCast->e8,toNat_of_nonneg->e_,emod_lt_of_pos->ml,emod_nonneg->mn,le_trans->uZ,fdiv_eq_ediv_of_nonneg->Fp,natCast_mul->Fq
open Nat renaming le_refl->ai,zero_le->aD,ne_of_lt->aU,lt_of_lt_of_le->bL,le_trans->bQ,lt_irrefl->cT,lt_succ_self->eg,lt_succ_of_lt->fc,le_antisymm->fQ,le_succ->iP,zero_add->iQ,le_of_lt->kq,ne_of_gt->mq,add_le_add_left->oY,add_sub_cancel->oZ,le_add_right->o_,le_of_eq->pb,le_succ_of_le->pd,lt_of_le_of_lt->pf,max_eq_right->ph,min_eq_left->pj,mod_lt->pk,add_sub_cancel_left->u4,add_zero->u5,le_of_not_lt->u6,sub_self->u7,add_assoc->Fs,add_comm->Ft,add_lt_add_left->Fu,le_of_lt_succ->Fv,log2_lt->Fw,lt_of_not_le->Fx,lt_or_eq_of_le->Fy,lt_trans->FA,mod_eq_of_lt->FB,mul_le_mul->FC,mul_pos->FD,not_lt_zero->FE,pow_le_pow_right->FF,sub_zero->FG
open Ne renaming symm->aF
open Option renaming map_eq_some_iff->aY,map_some->kr,getD_some->u9,isSome_iff_exists->u_,isSome_map->va,getD_none->FI
open Option.some renaming inj->cq,injEq->GQ
open Prod renaming ext->iS
open Prod.mk renaming inj->gP,injEq->gQ
open PyProof.Rows renaming wpS_bind->aq,wpS_pure->av,wpS_forRange->cV,wpS_mono->c_,wpS_get->fg,wpS_modify->fV,boot_list->gR,boot_isinstance->iT,boot_tuple->iU,boot_int->mw,reverseSlice'_eq->pE,boot_max->vg,callWith_type1->vk,Subscript_->vA,args_list_sort->vB,entry_list_sort->vC,listItems_at->vD,listUpdate_at->vE,slot_list_sort->vH,sortedAll_at->vI,sortedAll_old->vJ,boot_bool->FK,boot_dict->FL,get?_update_seq->Ge,subscriptTail_builtinR->Gh,boot_range->GU,callWith_builtin1->GV,floordiv_int->GX,lt_int->GY
open PySem renaming wpAny_bind->aa,wpAny_pure->aj,wpAny_mono->bT,sizeLine_eq->cu,wpAny_holding->c9,wpAny_newObj_type->ff,call_meetsIn->fR,codeAny_builtin->fS,wpAny_call_entry->fT,wpAny_truthy_bool->fU,plainId_quiet->gU,wpAny_fieldsOf->gW,wpAny_dictEntries->iX,wpAny_passesOwn->iY,mem_of_lookup->kB,tupleKind_room_in1->kC,wpAny_dictEpoch->kD,wpAny_letGo->kE,call_meets->mz,wpAny_attempt->mB,wpAny_callSpecial?_slot->mC,wpAny_setField_rec->mE,wpAny_standAt->mG,wpAny_tryCatch->mH,boot_len->pB,call_meets->pC,codeAny_mono->pD,wpAny_Call_Name_kw->pF,wpAny_execs_nil->pG,wpAny_field->pH,wpAny_isOneOf_itemiter->pI,wpAny_newList->pJ,wpAny_pyIter_list->pK,wpAny_typeNameOfWhole_itemiter->pL,wpAny_typeNameOfWhole_keyiter->pM,wpAny_typeNameOf_itemiter->pN,wpAny_typeNameOf_keyiter->pO,wpAny_typeOf->pP,seqIndex_neg->vF,seqIndex_of->vG,wpAny_Call_method->vK,wpAny_Name->vL,wpAny_comprehension_free->vM,wpAny_eqBool_int->vN,wpAny_isOneOf_keyiter->vO,wpAny_load->vP,wpAny_loadPart'->vQ,wpAny_notOrdered_dict->vR,wpAny_of_eq->vS,wpAny_seqItems->vT,wpAny_setField->vU,wpAny_updateSeq->vV,evalArgs_none->F9,fitsIndex_both->Gd,isSubtype_stop->Gf,slot_list_getitem->Gg,wpAny_Call_method0_late->Gi,wpAny_Call_method_late->Gj,wpAny_Compare1->Gk,wpAny_Dict_empty->Gm,wpAny_assign_Name->Gn,wpAny_execs_cons->Gp,wpAny_forIn_list->Gq,wpAny_isInstance->Gr,wpAny_isTrue_Compare1->Gs,wpAny_newFunctionEnv->Gu,wpAny_newTuple->Gv,wpAny_pyIter_enum->Gw,wpAny_pyIter_keyiter->Gx,wpAny_pyIter_slot->Gy,wpAny_pyNext_list_end->Gz,wpAny_pyNext_list_item->GE
open PySem.Around renaming under_plainId->iK
open PySem.AutoSeq1 renaming wpAny_loadPart'->dn,list_insert_list_int_val_1->GZ,wpAny_loadPart'->G0
open PySem.Calls renaming callWith_builtin->iM,evalArgs_plain->l_,spliced_cons->ma,spliced_nil->oW,call_function_entry->uV,Name_function_global->Fm
open PySem.EqMixed renaming eq_bool_str->G6,eq_int_str->G7,eq_str_bool->G8,eq_str_int->G9,ne_bool_str->G_,ne_int_str->Hq,ne_str_bool->Hr,ne_str_int->Hs
open PySem.EqNone renaming eq_bool_none->Ht,eq_int_none->Hu,eq_none_bool->Hv,eq_none_int->Hw,eq_none_none->Hy,eq_none_str->Hz,eq_str_none->HA,ne_bool_none->HB,ne_int_none->HC,ne_none_bool->HD,ne_none_int->HE,ne_none_none->HF,ne_none_str->HG,ne_str_none->HH
open PySem.F renaming plainAttrs_list->bR,slot_list_append->cM,type_list_append->cN,plainAttrs_dict->iV,plain_min_loop->iW,slot_dict_get->ku,slot_dict_itemiterator_next->mx,slot_dict_keyiterator_next->my,entry_dict_get->pq,slot_list_insert->px,entry_min_loop->vn,slot_dict_update->vp,slot_list_getattribute->vq,slot_list_pop->vv,type_list_insert->vw,type_list_pop->vy,args_dict_get_2->FM,args_dict_get_3->FN,args_dict_itemiterator_next_1->FO,args_dict_keyiterator_next_1->FP,entry_dict_itemiterator_next->FQ,entry_dict_keyiterator_next->FR,slot_dict_items->FS,slot_dict_items_iter->FT,slot_dict_iter->FU,slot_dict_pop->FV,slot_dict_setdefault->FW,slot_dict_values->FX,slot_list_lt->FY,slot_tuple_index->FZ,type_dict_get->F2,type_dict_update->F3
open PySem.Heap renaming get?_push_of_some->aE,lt_size->aH,get?_push_size->a9,size_push->iO,get?_update_ne->me,get?_update_other->mh,get?_update_self->oX,get?_none_of_le->uX,size_update->Fn
open PySem.Heap.DictOf renaming new->GI
open PySem.Heap.IsSliceOf renaming new->GJ
open PySem.Heap.SameBut renaming update->uW
open PySem.MeetsSeq3 renaming plain_eq_loop->pz,entry_eq_loop->F4
open PySem.Obj renaming data_mapFields->FH
open PySem.Paired renaming length->iR,snoc->FJ
open PySem.PassesOwn renaming never->aZ
open PySem.SeqAt renaming compareEq_reads->HK,compareNe_reads->HL,eqAt_reads->HM,in_list_reads->HN,in_tuple_reads->HP
open PySem.SeqAt.EqAt renaming int_int->F_,int_str->Ga,str_int->Gb,bool_bool->HS,bool_int->HU,bool_none->HV,bool_str->HW,int_bool->HX,int_none->HY,none_bool->HZ,none_int->H_,none_str->Ia,same->Ib,str_bool->Ic,str_none->Ie,str_str->Ig
open PySem.SeqAt.ReadsAll renaming length->HJ
open PySem.W renaming mg_none_of->cU,kia_one->eu,mg_of->pA,plainGet_of->vz,callWith_K->F5,cellsFrom_some->F6,kitx_dict->F7,kitx_list->F8
open PySem.W.Looks renaming here->HQ
open PySem.Walks renaming list->Gc
open PySem.Within renaming cons->HR
open Std.Legacy.Range renaming forIn_eq_forIn_range'->Ih
open Sum.inl renaming inj->fe
theorem Ii.{u}{c : Prop}[h : Decidable c](b : ¬c){α : Sort u}{t e : α} : (if c then t else e)=e := if_neg b
theorem Ij.{u}{c : Prop}[h : Decidable c](b : c){α : Sort u}{t e : α} : (if c then t else e)=t := if_pos b
theorem Ik{p : Prop}[h : Decidable p](b : p) : decide p=true := decide_eq_true b
theorem Il{p : Prop}[h : Decidable p](b : ¬p) : decide p=false := decide_eq_false b
theorem Im{p : Prop}[h : Decidable p](b : decide p=true) : p := of_decide_eq_true b
variable {Io:List (PySem.Addr×PySem.Obj)}{s:PySem.Shared}{P:PySem.Program}{w:PySem.World}{A:PySem.Around}{mg:PySem.Str->Option PySem.Value}{base:PySem.Heap}{us:List PySem.Value}{E:PySem.Value->PySem.Shared->Prop}{fd:PySem.FuncData}{K:PySem.W.Frag}{scope:PySem.Scope}
section
namespace L2
open PySem
def bZ(s:Stmt):Arguments:=match s with
 |.FunctionDef _ a _ _ _ _ _ _ _ _=>a
 |_=>{posonlyargs:=[],args:=[],vararg:=none,kwonlyargs:=[],kw_defaults:=[],kwarg:=none,defaults:=[]}
def bU(s:Stmt):List Stmt:=match s with
 |.FunctionDef _ _ b _ _ _ _ _ _ _=>b
 |_=>[]
def ax(s:Stmt):Scope:=match s with
 |.FunctionDef _ _ _ _ _ _ sc _ _ _=>sc
 |_=>{kind:=.function,names:=[],isGenerator:=false,isCoroutine:=false}
end L2
namespace K51
open PySem L2
def EX:Nat:=29
def aA(i:Nat):Stmt:=PySem.Challenge.pw_shapestring_k23_pieces_counted.main.body.getD i (.Pass ⟨0,0,0,0⟩)
def top(i:Nat):Stmt:=aA (EX+i)
def jE(c j:Nat):Stmt:=match aA c with
 |.ClassDef _ _ _ body _ _ _ _ _ _ _=>body.getD j (.Pass ⟨0,0,0,0⟩)
 |_=>.Pass ⟨0,0,0,0⟩
abbrev jS:Stmt:=aA 1
abbrev jt:Stmt:=aA 2
abbrev i9:Stmt:=aA 4
abbrev j8:Stmt:=aA 5
abbrev je:Stmt:=aA 7
abbrev jv:Stmt:=aA 8
abbrev i6:Stmt:=aA 9
abbrev jh:Stmt:=aA 10
abbrev nK:Stmt:=jE 14 0
abbrev jI:Stmt:=aA 16
abbrev ja:Stmt:=aA 17
abbrev i_:Stmt:=aA 20
abbrev jj:Stmt:=aA 21
abbrev jA:Stmt:=aA 22
abbrev jJ:Stmt:=aA 23
abbrev j9:Stmt:=aA 24
abbrev jN:Stmt:=aA 25
abbrev jV:Stmt:=aA 26
abbrev d_:Stmt:=jE 27 0
abbrev fY:Stmt:=jE 27 1
abbrev fZ:Stmt:=jE 27 2
abbrev om:Stmt:=jE 27 3
abbrev sAt:Stmt:=top 0
abbrev ki:Stmt:=top 1
abbrev jU:Stmt:=top 2
abbrev jL:Stmt:=top 3
abbrev ju:Stmt:=top 4
abbrev j_:Stmt:=top 5
abbrev ji:Stmt:=top 6
abbrev ke:Stmt:=top 7
abbrev jK:Stmt:=top 8
abbrev jT:Stmt:=top 9
abbrev i7:Stmt:=top 10
abbrev jx:Stmt:=top 11
abbrev jQ:Stmt:=top 12
abbrev jg:Stmt:=top 13
abbrev jP:Stmt:=top 14
abbrev jM:Stmt:=top 15
abbrev jz:Stmt:=top 16
abbrev jR:Stmt:=top 17
abbrev jf:Stmt:=top 18
abbrev jw:Stmt:=top 19
abbrev jO:Stmt:=top 20
abbrev eQ:Stmt:=top 21
end K51
end
section
namespace K15
open PySem L2 PySem.W K51
noncomputable def cO(x:Str)(t l n a b:Nat):Obj:=⟨.type "code",none,.fields #[.str x t,.str x (t+1),.str "/claim/cut.py" (t+2),.int l 0,.int n 0,.int 0 0,.int 0 0,.int 3 0,.ref a,.bool true,.int 181 0,.ref (a+1),.none,.ref (a+2),.ref (a+3),.ref (a+4),.int b 0,.int l 0,.str "/claim/cut.py" (b+1)],#[]⟩
noncomputable def fO(x:Str)(s:Stmt)(m:Str)(t c:Nat):Obj:=⟨.type "function",none,.func (fnOf x x (bZ s) (bU s) (ax s) .none .none .none (.str m t) none (.ref c) .none),#[]⟩
noncomputable def dE(P:Params)(x:Str)(t:Nat)(v:Value):DictEntry:=PySem.DictEntry.mk (PySem.PyData.keyHash P x) (.str x t) v
noncomputable def fL(x:Str)(s:Stmt)(c:Nat):Obj:=fO x s "law_shapestring_k23_pieces_counted" 467 c
noncomputable def kf:Params->Frag:=λP=>
 (nat_lit 2,⟨.none,none,(.dict #[] 0),#[]⟩) ::
 (nat_lit 3,⟨(.type "dict"),none,(.dict #[(dE P "__name__" 165 (.str "law_shapestring_k23_pieces_counted" 467)),(dE P "__doc__" 166 .none),(dE P "__package__" 167 .none),(dE P "__loader__" 168 (.builtin "__main__.__loader__#opaque")),(dE P "__spec__" 169 .none),(dE P "__annotations__" 170 (.ref 6)),(dE P "__builtins__" 171 (.ref 4)),(dE P "__file__" 173 (.str "/claim/cut.py" 172)),(dE P "__cached__" 174 .none),(dE P "first_of" 194 (.ref 19)),(dE P "walked" 203 (.ref 26)),(dE P "rim_steps" 211 (.ref 31)),(dE P "rims" 217 (.ref 36)),(dE P "piece_of" 231 (.ref 43)),(dE P "pieces" 237 (.ref 48)),(dE P "many_sides" 243 (.ref 53)),(dE P "counted" 256 (.ref 60)),(dE P "ShapeError" 276 (.ref 70)),(dE P "TooMany" 292 (.ref 83)),(dE P "NoSkin" 317 (.ref 102)),(dE P "is_whole" 326 (.ref 111)),(dE P "is_corner" 333 (.ref 118)),(dE P "MOST_TRIPLES" 337 (.int 200 336)),(dE P "is_triple" 347 (.ref 125)),(dE P "checked_triples" 360 (.ref 132)),(dE P "thirds_by_side" 374 (.ref 139)),(dE P "steps_by_corner" 386 (.ref 146)),(dE P "hang_together" 395 (.ref 153)),(dE P "look_rounds_through" 403 (.ref 160)),(dE P "begun_least" 413 (.ref 167)),(dE P "Skin" 466 (.ref 203)),(dE P "_law_at" 476 (.ref 214)),(dE P "_law_pot" 487 (.ref 221)),(dE P "_law_digit" 496 (.ref 228)),(dE P "_law_sides" 506 (.ref 235)),(dE P "_law_thirds" 517 (.ref 242)),(dE P "_law_free" 523 (.ref 247)),(dE P "_law_corners" 533 (.ref 254)),(dE P "_law_fans" 539 (.ref 259)),(dE P "_law_split" 545 (.ref 264)),(dE P "_law_drawn" 551 (.ref 269)),(dE P "_law_rim_sides" 557 (.ref 274)),(dE P "_law_grown" 563 (.ref 279)),(dE P "_law_ring" 569 (.ref 284)),(dE P "_law_beside" 575 (.ref 289)),(dE P "_law_skin" 584 (.ref 296)),(dE P "_law_named" 590 (.ref 301)),(dE P "_law_handed" 603 (.ref 308)),(dE P "_law_rims" 614 (.ref 315)),(dE P "_law_pieces" 620 (.ref 320)),(dE P "_law_right" 626 (.ref 325)),(dE P "_law_wide" 632 (.ref 330)),(dE P "law" 645 (.ref 337))] 53),#[]⟩) ::
 (nat_lit 18,⟨(.type "code"),none,(.fields #[(.str "first_of" 189),(.str "first_of" 190),(.str "/claim/cut.py" 191),(.int 2 0),(.int 1 0),(.int 0 0),(.int 0 0),(.int 3 0),(.ref 15),(.bool Bool.true),(.int 181 0),(.ref 16),.none,.none,.none,(.ref 17),(.int 192 0),(.int 2 0),(.str "/claim/cut.py" 193)]),#[]⟩) ::
 (nat_lit 19,fO "first_of" jS "shapestring.rings" 187 18) ::
 (nat_lit 25,cO "walked" 195 6 2 20 201) ::
 (nat_lit 26,fO "walked" jt "shapestring.rings" 187 25) ::
 (nat_lit 30,⟨(.type "code"),none,(.fields #[(.str "rim_steps" 206),(.str "rim_steps" 207),(.str "/claim/cut.py" 208),(.int 12 0),(.int 1 0),(.int 0 0),(.int 0 0),(.int 3 0),(.ref 27),(.bool Bool.true),(.int 181 0),(.ref 28),.none,.none,.none,(.ref 29),(.int 209 0),(.int 12 0),(.str "/claim/cut.py" 210)]),#[]⟩) ::
 (nat_lit 31,fO "rim_steps" i9 "shapestring.rims" 204 30) ::
 (nat_lit 35,⟨(.type "code"),none,(.fields #[(.str "rims" 212),(.str "rims" 213),(.str "/claim/cut.py" 214),(.int 14 0),(.int 1 0),(.int 0 0),(.int 0 0),(.int 3 0),(.ref 32),(.bool Bool.true),(.int 181 0),(.ref 33),.none,.none,.none,(.ref 34),(.int 215 0),(.int 14 0),(.str "/claim/cut.py" 216)]),#[]⟩) ::
 (nat_lit 36,fO "rims" j8 "shapestring.rims" 204 35) ::
 (nat_lit 42,cO "piece_of" 220 25 2 37 229) ::
 (nat_lit 43,fO "piece_of" je "shapestring.pieces" 218 42) ::
 (nat_lit 47,⟨(.type "code"),none,(.fields #[(.str "pieces" 232),(.str "pieces" 233),(.str "/claim/cut.py" 234),(.int 35 0),(.int 1 0),(.int 0 0),(.int 0 0),(.int 3 0),(.ref 44),(.bool Bool.true),(.int 181 0),(.ref 45),.none,.none,.none,(.ref 46),(.int 235 0),(.int 35 0),(.str "/claim/cut.py" 236)]),#[]⟩) ::
 (nat_lit 48,fO "pieces" jv "shapestring.pieces" 218 47) ::
 (nat_lit 52,⟨(.type "code"),none,(.fields #[(.str "many_sides" 238),(.str "many_sides" 239),(.str "/claim/cut.py" 240),(.int 44 0),(.int 1 0),(.int 0 0),(.int 0 0),(.int 3 0),(.ref 49),(.bool Bool.true),(.int 181 0),(.ref 50),.none,.none,.none,(.ref 51),(.int 241 0),(.int 44 0),(.str "/claim/cut.py" 242)]),#[]⟩) ::
 (nat_lit 53,fO "many_sides" i6 "shapestring.pieces" 218 52) ::
 (nat_lit 59,cO "counted" 244 46 1 54 254) ::
 (nat_lit 60,fO "counted" jh "shapestring.pieces" 218 59) ::
 (nat_lit 98,⟨(.type "code"),none,(.fields #[(.str "__init__" 305),(.str "NoSkin.__init__" 306),(.str "/claim/cut.py" 307),(.int 61 0),(.int 2 0),(.int 0 0),(.int 0 0),(.int 3 0),(.ref 93),(.bool Bool.true),(.int 181 0),(.ref 94),.none,(.ref 95),(.ref 96),(.ref 97),(.int 310 0),(.int 61 0),(.str "/claim/cut.py" 311)]),#[]⟩) ::
 (nat_lit 99,⟨(.type "function"),none,(.func (fnOf "__init__" "NoSkin.__init__" (bZ nK) (bU nK) (ax nK) .none .none .none (.str "shapestring.errors" 257) none (.ref 98) .none)),#[]⟩) ::
 (nat_lit 110,cO "is_whole" 320 65 1 105 324) ::
 (nat_lit 111,fO "is_whole" jI "shapestring.kinds" 318 110) ::
 (nat_lit 117,cO "is_corner" 327 67 1 112 331) ::
 (nat_lit 118,fO "is_corner" ja "shapestring.kinds" 318 117) ::
 (nat_lit 124,cO "is_triple" 338 71 1 119 345) ::
 (nat_lit 125,fO "is_triple" i_ "shapestring.skins" 334 124) ::
 (nat_lit 131,cO "checked_triples" 348 78 1 126 358) ::
 (nat_lit 132,fO "checked_triples" jj "shapestring.skins" 334 131) ::
 (nat_lit 138,cO "thirds_by_side" 361 86 1 133 372) ::
 (nat_lit 139,fO "thirds_by_side" jA "shapestring.skins" 334 138) ::
 (nat_lit 145,cO "steps_by_corner" 375 94 1 140 384) ::
 (nat_lit 146,fO "steps_by_corner" jJ "shapestring.skins" 334 145) ::
 (nat_lit 152,cO "hang_together" 387 100 1 147 393) ::
 (nat_lit 153,fO "hang_together" j9 "shapestring.skins" 334 152) ::
 (nat_lit 159,cO "look_rounds_through" 396 106 1 154 401) ::
 (nat_lit 160,fO "look_rounds_through" jN "shapestring.skins" 334 159) ::
 (nat_lit 166,cO "begun_least" 404 110 1 161 411) ::
 (nat_lit 167,fO "begun_least" jV "shapestring.skins" 334 166) ::
 (nat_lit 178,⟨(.type "code"),none,(.fields #[(.str "__init__" 426),(.str "Skin.__init__" 427),(.str "/claim/cut.py" 428),(.int 115 0),(.int 2 0),(.int 0 0),(.int 0 0),(.int 3 0),(.ref 175),(.bool Bool.true),(.int 181 0),(.ref 176),.none,.none,.none,(.ref 177),(.int 429 0),(.int 115 0),(.str "/claim/cut.py" 430)]),#[]⟩) ::
 (nat_lit 179,⟨(.type "function"),none,(.func (fnOf "__init__" "Skin.__init__" (bZ d_) (bU d_) (ax d_) .none .none .none (.str "shapestring.skins" 334) none (.ref 178) .none)),#[]⟩) ::
 (nat_lit 185,⟨(.type "code"),none,(.fields #[(.str "triangles" 432),(.str "Skin.triangles" 433),(.str "/claim/cut.py" 434),(.int 127 0),(.int 1 0),(.int 0 0),(.int 0 0),(.int 3 0),(.ref 180),(.bool Bool.true),(.int 181 0),(.ref 181),.none,(.ref 182),(.ref 183),(.ref 184),(.int 436 0),(.int 127 0),(.str "/claim/cut.py" 437)]),#[]⟩) ::
 (nat_lit 186,⟨(.type "function"),none,(.func (fnOf "triangles" "Skin.triangles" (bZ fY) (bU fY) (ax fY) .none .none .none (.str "shapestring.skins" 334) none (.ref 185) .none)),#[]⟩) ::
 (nat_lit 192,⟨(.type "code"),none,(.fields #[(.str "corners" 439),(.str "Skin.corners" 440),(.str "/claim/cut.py" 441),(.int 130 0),(.int 1 0),(.int 0 0),(.int 0 0),(.int 3 0),(.ref 187),(.bool Bool.true),(.int 181 0),(.ref 188),.none,(.ref 189),(.ref 190),(.ref 191),(.int 443 0),(.int 130 0),(.str "/claim/cut.py" 444)]),#[]⟩) ::
 (nat_lit 193,⟨(.type "function"),none,(.func (fnOf "corners" "Skin.corners" (bZ fZ) (bU fZ) (ax fZ) .none .none .none (.str "shapestring.skins" 334) none (.ref 192) .none)),#[]⟩) ::
 (nat_lit 199,⟨(.type "code"),none,(.fields #[(.str "third" 446),(.str "Skin.third" 447),(.str "/claim/cut.py" 448),(.int 133 0),(.int 3 0),(.int 0 0),(.int 0 0),(.int 3 0),(.ref 194),(.bool Bool.true),(.int 181 0),(.ref 195),.none,(.ref 196),(.ref 197),(.ref 198),(.int 452 0),(.int 133 0),(.str "/claim/cut.py" 453)]),#[]⟩) ::
 (nat_lit 200,⟨(.type "function"),none,(.func (fnOf "third" "Skin.third" (bZ om) (bU om) (ax om) .none .none .none (.str "shapestring.skins" 334) none (.ref 199) .none)),#[]⟩) ::
 (nat_lit 202,⟨(.type "dict"),none,(.dict #[(dE P "__module__" 421 (.str "shapestring.skins" 334)),(dE P "__firstlineno__" 425 (.int 113 424)),(dE P "__init__" 431 (.ref 179)),(dE P "triangles" 438 (.ref 186)),(dE P "corners" 445 (.ref 193)),(dE P "third" 454 (.ref 200)),(dE P "__static_attributes__" 459 (.ref 201)),(dE P "__dict__" 461 (.ref 204)),(dE P "__weakref__" 463 (.ref 205)),(dE P "__doc__" 464 .none)] 4),#[]⟩) ::
 (nat_lit 203,⟨(.type "type"),none,(.cls (PySem.ClassData.mk "Skin" [(.type "object")] [(.ref 203),(.type "object")] 202 "Skin" Bool.true [] [] Bool.false none Bool.false)),#[none,none,(Option.some (.str "Skin" 414)),(Option.some (.str "Skin" 422)),(Option.some (.builtin "object.__new__")),(Option.some (.bool Bool.true))]⟩) ::
 (nat_lit 204,⟨(.type "getset_descriptor"),none,(.fields #[(.str "__dict__" 460),(.ref 203),(.builtin "function.__dict__"),(.builtin "function.__dict__#set")]),#[]⟩) ::
 (nat_lit 205,⟨(.type "getset_descriptor"),none,(.fields #[(.str "__weakref__" 462),(.ref 203),(.builtin "ExceptionGroup.__weakref__"),.none]),#[]⟩) ::
 (nat_lit 213,cO "_law_at" 469 136 2 208 474) ::
 (nat_lit 214,fL "_law_at" sAt 213) ::
 (nat_lit 220,cO "_law_pot" 477 140 2 215 485) ::
 (nat_lit 221,fL "_law_pot" ki 220) ::
 (nat_lit 227,cO "_law_digit" 488 148 2 222 494) ::
 (nat_lit 228,fL "_law_digit" jU 227) ::
 (nat_lit 234,cO "_law_sides" 497 155 1 229 504) ::
 (nat_lit 235,fL "_law_sides" jL 234) ::
 (nat_lit 241,cO "_law_thirds" 507 158 1 236 515) ::
 (nat_lit 242,fL "_law_thirds" ju 241) ::
 (nat_lit 246,⟨(.type "code"),none,(.fields #[(.str "_law_free" 518),(.str "_law_free" 519),(.str "/claim/cut.py" 520),(.int 165 0),(.int 2 0),(.int 0 0),(.int 0 0),(.int 3 0),(.ref 243),(.bool Bool.true),(.int 181 0),(.ref 244),.none,.none,.none,(.ref 245),(.int 521 0),(.int 165 0),(.str "/claim/cut.py" 522)]),#[]⟩) ::
 (nat_lit 247,fL "_law_free" j_ 246) ::
 (nat_lit 253,cO "_law_corners" 524 167 1 248 531) ::
 (nat_lit 254,fL "_law_corners" ji 253) ::
 (nat_lit 258,⟨(.type "code"),none,(.fields #[(.str "_law_fans" 534),(.str "_law_fans" 535),(.str "/claim/cut.py" 536),(.int 173 0),(.int 2 0),(.int 0 0),(.int 0 0),(.int 3 0),(.ref 255),(.bool Bool.true),(.int 181 0),(.ref 256),.none,.none,.none,(.ref 257),(.int 537 0),(.int 173 0),(.str "/claim/cut.py" 538)]),#[]⟩) ::
 (nat_lit 259,fL "_law_fans" ke 258) ::
 (nat_lit 263,⟨(.type "code"),none,(.fields #[(.str "_law_split" 540),(.str "_law_split" 541),(.str "/claim/cut.py" 542),(.int 186 0),(.int 1 0),(.int 0 0),(.int 0 0),(.int 3 0),(.ref 260),(.bool Bool.true),(.int 181 0),(.ref 261),.none,.none,.none,(.ref 262),(.int 543 0),(.int 186 0),(.str "/claim/cut.py" 544)]),#[]⟩) ::
 (nat_lit 264,fL "_law_split" jK 263) ::
 (nat_lit 268,⟨(.type "code"),none,(.fields #[(.str "_law_drawn" 546),(.str "_law_drawn" 547),(.str "/claim/cut.py" 548),(.int 200 0),(.int 2 0),(.int 0 0),(.int 0 0),(.int 3 0),(.ref 265),(.bool Bool.true),(.int 181 0),(.ref 266),.none,.none,.none,(.ref 267),(.int 549 0),(.int 200 0),(.str "/claim/cut.py" 550)]),#[]⟩) ::
 (nat_lit 269,fL "_law_drawn" jT 268) ::
 (nat_lit 273,⟨(.type "code"),none,(.fields #[(.str "_law_rim_sides" 552),(.str "_law_rim_sides" 553),(.str "/claim/cut.py" 554),(.int 210 0),(.int 1 0),(.int 0 0),(.int 0 0),(.int 3 0),(.ref 270),(.bool Bool.true),(.int 181 0),(.ref 271),.none,.none,.none,(.ref 272),(.int 555 0),(.int 210 0),(.str "/claim/cut.py" 556)]),#[]⟩) ::
 (nat_lit 274,fL "_law_rim_sides" i7 273) ::
 (nat_lit 278,⟨(.type "code"),none,(.fields #[(.str "_law_grown" 558),(.str "_law_grown" 559),(.str "/claim/cut.py" 560),(.int 213 0),(.int 2 0),(.int 0 0),(.int 0 0),(.int 3 0),(.ref 275),(.bool Bool.true),(.int 181 0),(.ref 276),.none,.none,.none,(.ref 277),(.int 561 0),(.int 213 0),(.str "/claim/cut.py" 562)]),#[]⟩) ::
 (nat_lit 279,fL "_law_grown" jx 278) ::
 (nat_lit 283,⟨(.type "code"),none,(.fields #[(.str "_law_ring" 564),(.str "_law_ring" 565),(.str "/claim/cut.py" 566),(.int 228 0),(.int 1 0),(.int 0 0),(.int 0 0),(.int 3 0),(.ref 280),(.bool Bool.true),(.int 181 0),(.ref 281),.none,.none,.none,(.ref 282),(.int 567 0),(.int 228 0),(.str "/claim/cut.py" 568)]),#[]⟩) ::
 (nat_lit 284,fL "_law_ring" jQ 283) ::
 (nat_lit 288,⟨(.type "code"),none,(.fields #[(.str "_law_beside" 570),(.str "_law_beside" 571),(.str "/claim/cut.py" 572),(.int 240 0),(.int 2 0),(.int 0 0),(.int 0 0),(.int 3 0),(.ref 285),(.bool Bool.true),(.int 181 0),(.ref 286),.none,.none,.none,(.ref 287),(.int 573 0),(.int 240 0),(.str "/claim/cut.py" 574)]),#[]⟩) ::
 (nat_lit 289,fL "_law_beside" jg 288) ::
 (nat_lit 295,cO "_law_skin" 576 243 2 290 582) ::
 (nat_lit 296,fL "_law_skin" jP 295) ::
 (nat_lit 300,⟨(.type "code"),none,(.fields #[(.str "_law_named" 585),(.str "_law_named" 586),(.str "/claim/cut.py" 587),(.int 252 0),(.int 2 0),(.int 0 0),(.int 0 0),(.int 3 0),(.ref 297),(.bool Bool.true),(.int 181 0),(.ref 298),.none,.none,.none,(.ref 299),(.int 588 0),(.int 252 0),(.str "/claim/cut.py" 589)]),#[]⟩) ::
 (nat_lit 301,fL "_law_named" jM 300) ::
 (nat_lit 307,cO "_law_handed" 591 262 2 302 601) ::
 (nat_lit 308,fL "_law_handed" jz 307) ::
 (nat_lit 314,cO "_law_rims" 604 268 1 309 612) ::
 (nat_lit 315,fL "_law_rims" jR 314) ::
 (nat_lit 319,⟨(.type "code"),none,(.fields #[(.str "_law_pieces" 615),(.str "_law_pieces" 616),(.str "/claim/cut.py" 617),(.int 279 0),(.int 1 0),(.int 0 0),(.int 0 0),(.int 3 0),(.ref 316),(.bool Bool.true),(.int 181 0),(.ref 317),.none,.none,.none,(.ref 318),(.int 618 0),(.int 279 0),(.str "/claim/cut.py" 619)]),#[]⟩) ::
 (nat_lit 320,fL "_law_pieces" jf 319) ::
 (nat_lit 324,⟨(.type "code"),none,(.fields #[(.str "_law_right" 621),(.str "_law_right" 622),(.str "/claim/cut.py" 623),(.int 293 0),(.int 2 0),(.int 0 0),(.int 0 0),(.int 3 0),(.ref 321),(.bool Bool.true),(.int 181 0),(.ref 322),.none,.none,.none,(.ref 323),(.int 624 0),(.int 293 0),(.str "/claim/cut.py" 625)]),#[]⟩) ::
 (nat_lit 325,fL "_law_right" jw 324) ::
 (nat_lit 329,⟨(.type "code"),none,(.fields #[(.str "_law_wide" 627),(.str "_law_wide" 628),(.str "/claim/cut.py" 629),(.int 316 0),(.int 1 0),(.int 0 0),(.int 0 0),(.int 3 0),(.ref 326),(.bool Bool.true),(.int 181 0),(.ref 327),.none,.none,.none,(.ref 328),(.int 630 0),(.int 316 0),(.str "/claim/cut.py" 631)]),#[]⟩) ::
 (nat_lit 330,fL "_law_wide" jO 329) ::
 (nat_lit 336,cO "law" 633 321 1 331 643) ::
 (nat_lit 337,fL "law" eQ 336)::[]
end K15
end
section
namespace L2
open PySem PySem.W PySem.Calls PyProof.Rows
def jo(tb:String->Option Builtin)(p:Program)(w:World)(n₀:Nat)(ann:Option Value):Nat->SharedT->Thread->Option SharedT
 |0,_,_=>none
 |n+1,s,t=>match through t with
  |true=>some s
  |false=>match stepOk n₀ ann t with
   |false=>none
   |true=>match stepT (denote tb) p w s t with
    |some (s',t')=>jo tb p w n₀ ann n s' t'
    |none=>none
theorem p9{tb:String->Option Builtin}{p:Program}{n₀:Nat}{ann:Option Value}:∀{n:Nat}{s s':SharedT}{t:Thread},jo tb p w n₀ ann n s t=some s'->topRun tb p w n₀ ann n s.abs t=some s'.abs
 |0,_,_,_,h=>by cases h
 |n+1,s,s',t,h=>by
  unfold jo at h;unfold topRun;cases c:through t with
  |true=>rw[c] at h;cases h;rfl
  |false=>
   rw[c] at h;cases d:stepOk n₀ ann t with
   |false=>rw[d] at h;cases h
   |true=>
    rw[d] at h;cases b:stepT (denote tb) p w s t with
    |none=>rw[b] at h;cases h
    |some r=>obtain⟨s₂,t₂⟩:=r;rw[b] at h;rw[stepT_spec b];exact p9 h
def tS:List Obj->Nat->BT->BT
 | [],_,t=>t
 |o::os,n,t=>tS os (n+1) (t.ins n o)
noncomputable def st0(w:World)(os:OsState):SharedT:=⟨tS (boot_heap w.params).objs.toList 0 .nil,(boot_heap w.params).objs.size,(boot_heap w.params).life,Array.mk [],boot_drawn,boot_toks,os⟩
theorem A7(w:World)(os:OsState):(st0 w os).abs=⟨boot_heap w.params,Array.mk [],boot_drawn,boot_toks,os⟩:=by kernel_rfl
theorem Ce(w:World):((boot_heap w.params).isNs mainGlobals&&(Array.mk []:Array GenState).size==0)=true:=by kernel_rfl
theorem D1(w:World):(boot_heap w.params).objs.size=11:=by kernel_rfl
theorem AU(w:World):(boot_heap w.params).nsMap mainGlobals "__annotations__" = some (.ref 6):=by kernel_rfl
noncomputable def nC(p:Program)(w:World)(s:Shared):Bool:=staticsOk (importedModules p.main.body) (boot_heap w.params) s.heap&&namesBound p s.heap&&gensDone s&&laidKept (boot_heap w.params) s.heap
theorem BX{p q:Program}{loose:List Str}{Xt:Shared->Bool}{α:Type}{Yf:Shared->α}{Ya:World->α}{N:Nat}{g:Bool}{run:World->OsState->Option SharedT}(n:∀w os,run w os=jo treeTable p w 11 (some (.ref 6)) N (st0 w os) (topStub p))(o:Nat.ble 600 N=true)
  (e:opening p=plainProg p.main.scope.names) (f:∀s,fenceModules? p s=some s)
  (a:∀(w:World)(os:OsState),(run w os).map (λs=>(openSeen q loose (importedModules p.main.body) Xt g s.abs).1)=some (openGood q loose).1)
  (c:∀(w:World)(os:OsState),(run w os).map (λs=>((openSeen q loose (importedModules p.main.body) Xt g s.abs).2.1,(openSeen q loose (importedModules p.main.body) Xt g s.abs).2.2.1))=some ((openGood q loose).2.1,(openGood q loose).2.2.1))
  (i:∀(w:World)(os:OsState),(run w os).map (λs=>(openSeen q loose (importedModules p.main.body) Xt g s.abs).2.2.2)=some (openGood q loose).2.2.2)
  (b:∀(w:World)(os:OsState),(run w os).map (λs=>(nC p w s.abs,Yf s.abs))=some (true,Ya w)):LeftO p q loose Xt Yf Ya N g:=λw=>by
 obtain⟨⟨h,u,d,k,os⟩,v,x⟩:=aY.mp (boot_open e o f w);obtain⟨rfl,rfl,rfl,rfl⟩:h=boot_heap w.params/\u=Array.mk []/\d=boot_drawn/\k=boot_toks:=by simpa using x
 obtain⟨s1,l,y⟩:=aY.mp (a w os);have c:=c w os;have i:=i w os;have b:=b w os;rw[l,kr] at c i b;have c:=gP (cq c);have i:=cq i;obtain⟨m,z⟩:=gP (cq b);have l2:openSeen q loose (importedModules p.main.body) Xt g s1.abs=openGood q loose:=iS y (iS c.1 (iS c.2 i));rw[n] at l;have r:=p9 l;rw[A7] at r;have t:topFrom treeTable p w N ⟨boot_heap w.params,Array.mk [],boot_drawn,boot_toks,os⟩=some s1.abs:=by unfold topFrom;dsimp only;rw[Ce,D1,AU,r];unfold nC at m;show (match staticsOk (importedModules p.main.body) (boot_heap w.params) s1.abs.heap&&namesBound p s1.abs.heap&&gensDone s1.abs&&laidKept (boot_heap w.params) s1.abs.heap with|true=>_|false=>_)=_;rw[m]
 unfold openEnds;rw[v];show (topFrom treeTable p w N _).map _=_;rw[t];exact congrArg some (iS l2 z)
end L2
end
section
namespace K15
open PySem L2 PySem.W K51
def ads:List Addr:=[2,3,18,19,25,26,30,31,35,36,42,43,47,48,52,53,59,60,98,99,110,111,117,118,124,125,131,132,138,139,145,146,152,153,159,160,166,167,178,179,185,186,192,193,199,200,202,203,204,205,213,214,220,221,227,228,234,235,241,242,246,247,253,254,258,259,263,264,268,269,273,274,278,279,283,284,288,289,295,296,300,301,307,308,314,315,319,320,324,325,329,330,336,337]
noncomputable def view:Program:={PySem.Challenge.pw_shapestring_k23_pieces_counted with main:={(PySem.Challenge.pw_shapestring_k23_pieces_counted).main with body:=[aA 1,aA 2,aA 4,aA 5,aA 7,aA 8,aA 9,aA 10,aA 12,aA 13,aA 14,aA 16,aA 17,aA 19,aA 20,aA 21,aA 22,aA 23,aA 24,aA 25,aA 26,aA 27,aA 29,aA 30,aA 31,aA 32,aA 33,aA 34,aA 35,aA 36,aA 37,aA 38,aA 39,aA 40,aA 41,aA 42,aA 43,aA 44,aA 45,aA 46,aA 47,aA 48,aA 49,aA 50]}}
noncomputable abbrev run(w:World)(os:OsState):Option SharedT:=jo treeTable PySem.Challenge.pw_shapestring_k23_pieces_counted w 11 (some (.ref 6)) 4500 (st0 w os) (topStub PySem.Challenge.pw_shapestring_k23_pieces_counted)
noncomputable abbrev seenAt(s:SharedT):=openSeen view [] (importedModules (PySem.Challenge.pw_shapestring_k23_pieces_counted).main.body) (λs=>xlAt view [] s&&recOk [] s) true s.abs
theorem leftA(w:World)(os:OsState):(run w os).map (λs=>(seenAt s).1)=some (openGood view []).1:=by kernel_rfl
theorem leftA2(w:World)(os:OsState):(run w os).map (λs=>((seenAt s).2.1,(seenAt s).2.2.1))=some ((openGood view []).2.1,(openGood view []).2.2.1):=by kernel_rfl
theorem leftA3(w:World)(os:OsState):(run w os).map (λs=>(seenAt s).2.2.2)=some (openGood view []).2.2.2:=by kernel_rfl
theorem leftB(w:World)(os:OsState):(run w os).map (λs=>(nC PySem.Challenge.pw_shapestring_k23_pieces_counted w s.abs,Hook.obs (kHook K15.kf K15.ads (λ_=>by kernel_rfl)) s.abs))=some (true,Hook.val (kHook K15.kf K15.ads (λ_=>by kernel_rfl)) w):=by kernel_rfl
theorem left:LeftO PySem.Challenge.pw_shapestring_k23_pieces_counted view [] (λs=>xlAt view [] s&&recOk [] s) (Hook.obs (kHook K15.kf K15.ads (λ_=>by kernel_rfl))) (Hook.val (kHook K15.kf K15.ads (λ_=>by kernel_rfl))) 4500:=
 BX (run:=run) (λ_ _=>rfl) (by decide) (by kernel_rfl) (λs=>by kernel_rfl) leftA leftA2 leftA3 leftB
end K15
end
section
namespace L2
open PySem PySem.Spec PyProof.Rows
abbrev Key:=Sum Int Str
def iF:Key->Value->Bool
 |.inl k,v=>Value.isInt k v
 |.inr x,v=>Value.isStrOf x v
def keyH(w:World):Key->Int
 |.inl k=>hashInt k
 |.inr x=>hashStr w x
theorem dA:∀{k:Key}{v:Value},iF k v=true->(∃i t,k=Sum.inl i/\v=Value.int i t)\/(∃x t,k=Sum.inr x/\v=Value.str x t)
 |.inl i,v,h=>by
  obtain⟨t,e⟩:=Value.isInt_shape (k:=i) (v:=v) h;exact .inl ⟨i,t,rfl,e⟩
 |.inr x,v,h=>by
  obtain⟨t,e⟩:=Value.isStrOf_shape (x:=x) (v:=v) h;exact .inr ⟨x,t,rfl,e⟩
theorem yH(i:Int)(t:Tok):iF (.inl i) (.int i t)=true:=by simp[iF,Value.isInt]
theorem yF(x:Str)(t:Tok):iF (.inr x) (.str x t)=true:=by simp[iF,Value.isStrOf]
theorem DA(a b:Int):decide ((Sum.inl a:Key)=Sum.inl b)=(a==b):=by
 by_cases e:a=b
 .subst e;simp
 have h:¬(Sum.inl a:Key)=Sum.inl b:=λq=>e (fe q);rw[Il h];exact (beq_eq_false_iff_ne.mpr e).symm
theorem Dx(a b:Str):decide ((Sum.inr a:Key)=Sum.inr b)=decide (a=b):=by
 by_cases e:a=b
 .subst e;simp
 have h:¬(Sum.inr a:Key)=Sum.inr b:=λq=>e (Sum.inr.inj q);rw[Il h,Il e]
theorem Dz(a:Int)(b:Str):decide ((Sum.inl a:Key)=Sum.inr b)=false:=Il (λq=>nomatch q)
theorem Dy(a:Str)(b:Int):decide ((Sum.inr a:Key)=Sum.inl b)=false:=Il (λq=>nomatch q)
def bz(prog:Program)(w:World):PySem.KeyKind prog w Key where
 is:=iF
 hash:=keyH w
 inj:=λv a b ha f=>by
  rcases dA ha with ⟨i,t,rfl,rfl⟩|⟨x,t,rfl,rfl⟩
  .rcases dA f with ⟨j,u,rfl,e⟩|⟨y,u,rfl,e⟩
   .injection e with c _;rw[c]
   exact nomatch e
  rcases dA f with ⟨j,u,rfl,e⟩|⟨y,u,rfl,e⟩
  .exact nomatch e
  injection e with c _;rw[c]
 byValue:=λk v h=>by
  rcases dA h with ⟨i,t,rfl,rfl⟩|⟨x,t,rfl,rfl⟩<;>rfl
 pyHash:=λd h=>by
  rcases dA d with ⟨i,t,rfl,rfl⟩|⟨x,t,rfl,rfl⟩
  .exact wpAny_pyHash_int h
  exact wpAny_pyHash_str h
 eqBool:=λg d h=>by
  rcases dA g with ⟨i,t,rfl,rfl⟩|⟨x,t,rfl,rfl⟩
  .rcases dA d with ⟨j,u,rfl,rfl⟩|⟨y,u,rfl,rfl⟩
   .rw[DA] at h;exact vN h
   rw[Dz] at h;exact Ga i t y u _ _ _ _ h
  rcases dA d with ⟨j,u,rfl,rfl⟩|⟨y,u,rfl,rfl⟩
  .rw[Dy] at h;exact Gb x t j u _ _ _ _ h
  rw[Dx] at h;exact wpAny_eqBool_str h
 «strs»:=λk x t v h=>by
  rcases dA h with ⟨i,u,rfl,e⟩|⟨y,u,rfl,e⟩
  .exact nomatch e
  injection e with c _;subst c;cases v<;>rfl
theorem wU(prog:Program)(w:World)(i:Int)(t:Tok):(bz prog w).is (.inl i) (.int i t)=true:=yH i t
theorem wR(prog:Program)(w:World)(x:Str)(t:Tok):(bz prog w).is (.inr x) (.str x t)=true:=yF x t
end L2
namespace L2
open PySem PySem.Spec PyProof.Rows
inductive V where
 |non|bl (b:Bool)|int (i:Int)|str (x:Str)|byt (b:Array UInt8)|flt (b:UInt64)|ref (a:Addr)|ty (n:String)
 deriving DecidableEq
def ar:V->Value->Prop
 |.non,u=>u=Value.none
 |.bl b,u=>u=Value.bool b
 |.int i,u=>∃t,u=Value.int i t
 |.str x,u=>∃t,u=Value.str x t
 |.byt b,u=>∃t,u=Value.bytes b t
 |.flt b,u=>∃t,u=Value.float b t
 |.ref a,u=>u=Value.ref a
 |.ty n,u=>u=Value.type n
abbrev Vals:List V->List Value->Prop:=Paired ar
theorem Vals.length{xs:List V}(r:Vals xs us):xs.length=us.length:=iR r
theorem Vals.get:∀{xs:List V}{us:List Value}{i:Nat}{x:V},Vals xs us->xs[i]?=some x->∃u,us[i]?=some u/\ar x u
 |_,_,_,_,.nil,e=>by simp at e
 |_,_,0,_,.cons r _,e=>by simp at e;subst e;exact⟨_,rfl,r⟩
 |_,_,i+1,x,.cons _ t,e=>by
  obtain⟨u,h1,h2⟩:=Vals.get (i:=i) (x:=x) t (by simpa using e);exact⟨u,by simpa using h1,h2⟩
theorem Vals.set{x:V}{u:Value}(r:ar x u):∀{xs:List V}{us:List Value}(i:Nat),Vals xs us->Vals (xs.set i x) (us.set i u)
 |_,_,_,.nil=>.nil
 |_,_,0,.cons _ t=>.cons r t
 |_,_,i+1,.cons q t=>.cons q (Vals.set r i t)
theorem Vals.append{xs ys:List V}{us ws:List Value}(h:Vals xs us)(s:Vals ys ws):Vals (xs++ys) (us++ws):=by
 induction h with
 |nil=>exact s
 |cons r t b=>exact .cons r b
theorem Vals.take:∀{xs:List V}{us:List Value}(n:Nat),Vals xs us->Vals (xs.take n) (us.take n)
 |_,_,0,_=>.nil
 |_,_,_+1,.nil=>.nil
 |_,_,n+1,.cons r t=>.cons r (Vals.take n t)
theorem Vals.drop:∀{xs:List V}{us:List Value}(n:Nat),Vals xs us->Vals (xs.drop n) (us.drop n)
 |_,_,0,r=>r
 |_,_,_+1,.nil=>.nil
 |_,_,n+1,.cons _ t=>Vals.drop n t
def ck:Option V->Option Value->Prop
 |some v,some u=>ar v u
 |none,none=>True
 |_,_=>False
def KV{κ:Type}:List (κ×V)->List (κ×Value)->Prop:=Paired λ(p:κ×V)(q:κ×Value)=>p.1=q.1/\ar p.2 q.2
def kV:Key->V
 |.inl i=>.int i
 |.inr x=>.str x
inductive HO where
 |lst (xs:List V)
 |tup (xs:List V)
 |dK (kvs:List (Key×V))|dT (kvs:List (List Key×V))
 |set (S:Int->Bool) (n:Nat)
 |ins (C dx:Addr) (fs:List (Str×V))
 |own (x:Addr)
 |xd (fs:List (Str×V))
 |met (f x:Addr)
 |rng (lo hi:Int)
 |frz (o:Obj) (u:HO)
 |tbl (ps:Array Value)
 |ext (φ:Heap->Prop)
abbrev Hp:=Addr->Option HO
def upd(H:Hp)(a:Addr)(o:HO):Hp:=λb=>if b=a then some o else H b
theorem aG{H:Hp}{a:Addr}{o:HO}:upd H a o a=some o:=by unfold upd;rw[Ij rfl]
theorem aB{H:Hp}{a b:Addr}{o:HO}(h:b≠a):upd H a o b=H b:=by unfold upd;rw[Ii h]
theorem kU{H:Hp}{a:Addr}{o u:HO}:upd (upd H a o) a u=upd H a u:=by funext b;unfold upd;split<;>rfl
theorem bC{H:Hp}{a b:Addr}{o u:HO}(h:H a=some o)(h':H b=some u)(d:o≠u):a≠b:=by intro e;subst e;rw[h] at h';exact d (cq h')
theorem ah{H:Hp}{a b:Addr}{o:HO}(h:H a=some o)(h':H b=none):a≠b:=by intro e;subst e;rw[h] at h';cases h'
section
variable (P:Program)(w:World)
def a6(H:Hp)(h:Heap)(a:Addr):HO->Prop
 |.lst xs=>xs.length<=sizeLine/\∃(b:List Value)(n:Nat),Vals xs b/\h.get? a=some {cls:=.type "list",data:=.seq b.toArray n}
 |.tup xs=>(xs.length<=sizeLine/\∃o,h.get? a=some o/\o.dict=none)/\∃b:List Value,Vals xs b/\IsTup h a b.toArray
 |.dK kvs=>kvs.length<=sizeLine/\(a==sysModules)=false/\∃vs,KV kvs vs/\h.DictOf (bz P w) a vs
 |.dT kvs=>kvs.length<=sizeLine/\(a==sysModules)=false/\∃xs:List (List Key×Addr×Value),
   Paired (λ(p:List Key×V)(q:List Key×Addr×Value)=>p.1=q.1/\H q.2.1=some (.tup (p.1.map kV))/\ar p.2 q.2.2) kvs xs/\
   ∃o es ep,h.get? a=some o/\o.ExactDict/\o.data=.dict es ep/\es.toList=xs.map (entryOfKey (tupleKind (bz P w)))/\(xs.map (·.1)).Nodup
 |.set S n=>h.SetOf (intKind P w) a S n
 |.ins C dx fs=>H dx=some (.own a)/\fs.length<=1000/\dx≠a/\h.get? a=some (W.instObj C dx)/\
   ∃mA,h.Ns1 dx mA/\(∀f,ck (fs.lookup f) (mA f))/\PySem.Within mA (fs.map (·.1))
 |.own _=>∃o,h.get? a=some o
 |.xd fs=>∃mA,h.Ns1 a mA/\∀f,ck (fs.lookup f) (mA f)
 |.rng lo hi=>∃t u v,h.get? a=some {cls:=.type "range",data:=.fields #[.int lo t,.int hi u,.int 1 v]}
 |.frz o u=>h.get? a=some o/\a6 H h a u
 |.tbl ps=>h.get? a=some {cls:=.none,data:=.fields ps}
 |.met f x=>h.get? a=some (W.methodObj (.ref f) (.ref x))
 |.ext φ=>φ h/\(∃o,h.get? a=some o)/\∀h1 h2:Heap,φ h1->(∀o,h1.get? a=some o->h2.get? a=some o)->φ h2
def HOk(H:Hp)(h:Heap):Prop:=∀a o,H a=some o->a6 P w H h a o
end
section
variable {H H':Hp}{h h':Heap}{a:Addr}{o:HO}
theorem a6.lt(x:a6 P w H h a o):a<h.objs.size:=by
 cases o with
 |lst xs=>obtain⟨_,_,_,_,e⟩:=x;exact aH e
 |tup xs=>obtain⟨_,_,_,p⟩:=x;exact p.lt
 |dK kvs=>obtain⟨_,_,_,_,o,_,_,e,_⟩:=x;exact aH e
 |dT kvs=>obtain⟨_,_,_,_,o,_,_,e,_⟩:=x;exact aH e
 |set S n=>obtain⟨o,_,_,_,e,_⟩:=x;exact aH e
 |ins C dx fs=>obtain⟨_,_,_,e,_⟩:=x;exact aH e
 |own y=>obtain⟨_,e⟩:=x;exact aH e
 |xd fs=>obtain⟨_,⟨_,_,_,e,_⟩,_⟩:=x;exact aH e
 |rng lo hi=>obtain⟨_,_,_,e⟩:=x;exact aH e
 |frz ob u=>obtain⟨e,_⟩:=x;exact aH e
 |tbl ps=>exact aH (show h.get? a=some _ from x)
 |met f y=>exact aH (show h.get? a=some _ from x)
 |ext φ=>obtain⟨_,⟨_,e⟩,_⟩:=x;exact aH e
theorem Paired.mapP{α β:Type}{F G:α->β->Prop}:∀{l₁:List α}{l₂:List β},Paired F l₁ l₂->(∀a b,F a b->G a b)->Paired G l₁ l₂
 |_,_,.nil,_=>.nil
 |_,_,.cons r t,f=>.cons (f _ _ r) (Paired.mapP t f)
theorem Paired.imp'{α β:Type}{F G:α->β->Prop}(f:∀a b,F a b->G a b){l₁:List α}{l₂:List β}(r:Paired F l₁ l₂):Paired G l₁ l₂:=Paired.mapP r f
theorem a6.stay(x:a6 P w H h a o)(k:∀b u,(b=a\/H b=some (.own a))->h.get? b=some u->h'.get? b=some u)
  (i:∀b,H b=some (.own a)->H' b=some (.own a)) (l:∀b xs,H b=some (.tup xs)->H' b=some (.tup xs)):a6 P w H' h' a o:=by
 induction o with
 |lst xs=>obtain⟨z,g,n,r,e⟩:=x;exact⟨z,g,n,r,k _ _ (.inl rfl) e⟩
 |tup xs=>obtain⟨⟨z,o',m,d'⟩,g,r,ob,e,c⟩:=x;exact⟨⟨z,o',k _ _ (.inl rfl) m,d'⟩,g,r,ob,k _ _ (.inl rfl) e,c⟩
 |dK kvs=>obtain⟨z,y,vs,r,ob,es,ep,e,c⟩:=x;exact⟨z,y,vs,r,ob,es,ep,k _ _ (.inl rfl) e,c⟩
 |dT kvs=>
  obtain⟨z,y,xs,r,ob,es,ep,e,c⟩:=x;exact⟨z,y,xs,Paired.mapP r λp q z=>⟨z.1,l _ _ z.2.1,z.2.2⟩,ob,es,ep,k _ _ (.inl rfl) e,c⟩
 |set S n=>obtain⟨ob,es,ep,t,e,c⟩:=x;exact⟨ob,es,ep,t,k _ _ (.inl rfl) e,c⟩
 |ins C dx fs=>
  obtain⟨d,z,ne,e,mA,⟨od,es,ep,s,c⟩,r⟩:=x;exact⟨i _ d,z,ne,k _ _ (.inl rfl) e,mA,⟨od,es,ep,k _ _ (.inr d) s,c⟩,r⟩
 |own y=>obtain⟨ob,e⟩:=x;exact⟨ob,k _ _ (.inl rfl) e⟩
 |xd fs=>obtain⟨mA,⟨od,es,ep,e,c⟩,r⟩:=x;exact⟨mA,⟨od,es,ep,k _ _ (.inl rfl) e,c⟩,r⟩
 |rng lo hi=>obtain⟨t,u,v,e⟩:=x;exact⟨t,u,v,k _ _ (.inl rfl) e⟩
 |frz ob u A=>obtain⟨e,q⟩:=x;exact⟨k _ _ (.inl rfl) e,A q⟩
 |tbl ps=>
  have e:h.get? a=some {cls:=.none,data:=.fields ps}:=x;show h'.get? a=some {cls:=.none,data:=.fields ps};exact k a _ (.inl rfl) e
 |met f y=>
  have e:h.get? a=some (W.methodObj (.ref f) (.ref y)):=x;show h'.get? a=some (W.methodObj (.ref f) (.ref y));exact k a _ (.inl rfl) e
 |ext φ=>obtain⟨p,⟨o,e⟩,st⟩:=x;exact⟨st _ _ p λo q=>k _ _ (.inl rfl) q,⟨o,k _ _ (.inl rfl) e⟩,st⟩
theorem HOk.lt(x:HOk P w H h)(e:H a=some o):a<h.objs.size:=(x a o e).lt
theorem HOk.fresh(x:HOk P w H h)(e:h.objs.size<=a):H a=none:=by
 cases q:H a with
 |none=>rfl
 |some u=>exact absurd (bL (x.lt q) e) (cT _)
theorem HOk.kept(x:HOk P w H h)(k:∀b u,h.get? b=some u->h'.get? b=some u):HOk P w H h':=λa o e=>
 (x a o e).stay (λb u _ q=>k b u q) (λ_ q=>q) λ_ _ q=>q
theorem HOk.laid(x:HOk P w H h)(k:∀b u,h.get? b=some u->h'.get? b=some u)(g:h.objs.size<=a)(new:a6 P w (upd H a o) h' a o):HOk P w (upd H a o) h':=λb u e=>by
 have d:=x.fresh g;by_cases f:b=a
 .subst f;rw[aG] at e;cases e;exact new
 rw[aB f] at e;exact (x b u e).stay (λc v _ q=>k c v q) (λc q=>by rw[aB (ah q d)];exact q) λc xs q=>by rw[aB (ah q d)];exact q
end
def Rd(H:Hp)(a:Addr)(u:HO):Prop:=H a=some u\/∃o,H a=some (.frz o u)
theorem Rd.ok{H:Hp}{h:Heap}{a:Addr}{u:HO}(r:Rd H a u)(x:HOk P w H h):a6 P w H h a u:=by
 rcases r with r|⟨o,r⟩
 .exact x a u r
 obtain⟨_,q⟩:=x a _ r;exact q
def Mut:Option HO->Prop
 |some (.lst _)=>True
 |some (.dK _)=>True
 |some (.dT _)=>True
 |some (.set _ _)=>True
 |some (.ins _ _ _)=>True
 |some (.ext _)=>True
 |_=>False
section
variable {H:Hp}{h h':Heap}{x e:Addr}{o':HO}
theorem HOk.write(ok:HOk P w H h)(d:Mut (H x))(he:e=x\/H e=some (.own x))(k:∀b u,b≠e->h.get? b=some u->h'.get? b=some u)(n:∃u,h'.get? e=some u)
  (new:a6 P w (upd H x o') h' x o'):HOk P w (upd H x o') h':=λb u q=>by
 have l:∀c y,H c=some (.own y)->c≠x:=λc y r z=>by subst z;rw[r] at d;exact d
 have o:∀c xs,H c=some (.tup xs)->c≠x:=λc xs r z=>by subst z;rw[r] at d;exact d
 by_cases f:b=x
 .subst f;rw[aG] at q;cases q;exact new
 rw[aB f] at q;by_cases g:b=e
 .have m:H b=some (.own x):=by
   rcases he with z|z
   .exact absurd (g.trans z) f
   rw[g];exact z
  rw[q] at m;cases m;obtain⟨v,p⟩:=n;exact⟨v,by rw[g];exact p⟩
 refine (ok b u q).stay (λc v i r=>k c v ?_ r) (λc r=>by rw[aB (l c b r)];exact r) λc xs r=>by rw[aB (o c xs r)];exact r
 rcases i with rfl|i
 .exact g
 rintro rfl;rcases he with z|z
 .exact l c b i z
 rw[i] at z;cases z;exact f rfl
end
structure Un(fs ex:List Addr)(H H':Hp)(h h':Heap):Prop where
 keep:∀b o,h.get? b=some o->H b=none->b∉fs->b∉ex->h'.get? b=some o
 slot:∀b o,h.get? b=some o->H b=none->b∈fs->b∉ex->∃sl,h'.get? b=some {o with slots:=sl}
 free:∀b o,h.get? b=some o->H b=none->b∉ex->H' b=none
 there:∀b o,h.get? b=some o->b∉ex->∃o',h'.get? b=some o'
 tups:∀b xs,H b=some (.tup xs)->H' b=some (.tup xs)
 frzs:∀b o u,H b=some (.frz o u)->H' b=some (.frz o u)
 tbls:∀b ps,H b=some (.tbl ps)->∃more,H' b=some (.tbl (ps++more))
section
variable {fs fs' ex ex':List Addr}{H H1 H2:Hp}{h h1 h2 h':Heap}{a x e:Addr}{o:HO}
theorem Un.any(u:Un fs ex H H1 h h1){b:Addr}{ob:Obj}(q:h.get? b=some ob)(n:H b=none)(c:b∉ex):∃e,h1.get? b=some {ob with slots:=e}:=by
 by_cases d:b∈fs
 .exact u.slot b ob q n d c
 exact⟨ob.slots,u.keep b ob q n d c⟩
theorem Un.kept(k:∀b u,h.get? b=some u->h'.get? b=some u):Un fs ex H H h h':=
 ⟨λb ob q _ _ _=>k b ob q,λb ob q _ _ _=>⟨ob.slots,k b ob q⟩,λ_ _ _ n _=>n,λb ob q _=>⟨ob,k b ob q⟩,λ_ _ q=>q,λ_ _ _ q=>q,λ_ ps q=>⟨#[],by rw[q];simp⟩⟩
theorem Un.refl:Un fs ex H H h h:=Un.kept λ_ _ q=>q
theorem Un.laid(k:∀b u,h.get? b=some u->h'.get? b=some u)(d:h.objs.size<=a)(c:H a=none):Un fs ex H (upd H a o) h h' where
 keep:=λb u q _ _ _=>k b u q
 slot:=λb u q _ _ _=>⟨u.slots,k b u q⟩
 free:=λb u q n _=>by rw[aB (aU (bL (aH q) d))];exact n
 there:=λb u q _=>⟨u,k b u q⟩
 tups:=λb xs q=>by rw[aB (ah q c)];exact q
 frzs:=λb u xs q=>by rw[aB (ah q c)];exact q
 tbls:=λb ps q=>⟨#[],by rw[aB (ah q c),q];simp⟩
theorem Un.write(c:Mut (H x))(he:e=x\/H e=some (.own x))(k:∀b u,b≠e->h.get? b=some u->h'.get? b=some u)(i:∃u,h'.get? e=some u):Un fs ex H (upd H x o) h h':=by
 have d:∀b,H b=none->b≠x:=λb n z=>by subst z;rw[n] at c;exact c
 have f:∀b,H b=none->b≠e:=λb n z=>by
  subst z;rcases he with r|r
  .exact d b n r
  rw[n] at r;cases r
 have hm:∀b u,H b=some u->¬Mut (some u)->b≠x:=λb u q nm z=>by subst z;rw[q] at c;exact nm c
 refine⟨λb u q n _ _=>k b u (f b n) q,λb u q n _ _=>⟨u.slots,k b u (f b n) q⟩,λb u q n _=>by rw[aB (d b n)];exact n,λb u q _=>?_,
  λb xs q=>by rw[aB (hm b _ q λz=>z)];exact q,λb u xs q=>by rw[aB (hm b _ q λz=>z)];exact q,λb ps q=>⟨#[],by rw[aB (hm b _ q λz=>z),q];simp⟩⟩
 by_cases g:b=e
 .subst g;exact i
 exact⟨u,k b u g q⟩
end
def trk(h:Heap)(H:Hp):List Addr:=(List.range h.objs.size).filter λa=>(H a).isSome
def eS(h:Heap)(H:Hp):Heap:=W.hideAll h (trk h H)
theorem yK(h:Heap)(H:Hp):(eS h H).objs.size=h.objs.size:=W.hideAll_size _ _
theorem Ar{h:Heap}{H:Hp}{b:Addr}{o:Obj}(e:h.get? b=some o)(n:H b=none):(eS h H).get? b=some o:=
 W.hideAll_get _ e λhm=>by
  have q:(H b).isSome=true:=(List.mem_filter.mp hm).2;rw[n] at q;simp at q
theorem BL{h:Heap}{H:Hp}{b:Addr}{o:Obj}(e:(eS h H).get? b=some o):h.get? b=some o/\H b=none:=by
 have c:h.get? b=some o:=W.of_hideAll (trk h H) e;refine⟨c,?_⟩;cases q:H b with
 |none=>rfl
 |some x=>
  have hm:b∈trk h H:=List.mem_filter.mpr ⟨List.mem_range.mpr (aH c),by simp[q]⟩;have z:(eS h H).get? b=none:=W.hideAll_none (trk h H) hm;rw[z] at e;cases e
def lg(g h:Heap)(L:Addr):List (Addr×Obj):=(List.range h.objs.size).filterMap λa=>if a=L\/(g.get? a).isSome=true then none else (h.get? a).map λo=>(a,o)
theorem mL{g h:Heap}{L a:Addr}{o:Obj}(h1:a≠L)(h2:g.get? a=none)(b:h.get? a=some o):(a,o)∈lg g h L:=
 List.mem_filterMap.mpr ⟨a,List.mem_range.mpr (aH b),by simp[h1,h2,b]⟩
theorem v_{g h:Heap}{L:Addr}{p:Addr×Obj}(d:p∈lg g h L):p.1≠L/\g.get? p.1=none/\h.get? p.1=some p.2:=by
 obtain⟨b,_,e⟩:=List.mem_filterMap.mp d
 split at e
 .cases e
 rename_i c;cases q:h.get? b with
 |none=>rw[q] at e;simp at e
 |some u=>
  rw[q] at e;simp only[kr,GQ] at e;subst e;refine⟨λz=>c (.inl z),?_,q⟩;show g.get? b=none;cases r:g.get? b with
  |none=>rfl
  |some v=>exact (c (.inr (by simp[r]))).elim
theorem kO{g h:Heap}{L:Addr}:News g L h (lg g h L):=λp d=>let ⟨a,b,c⟩:=v_ d;⟨c,a,b⟩
end L2
namespace L2
open PySem PySem.Spec PyProof.Rows
structure Mod(K:W.Frag)(mg:Str->Option Value)(base:Heap):Prop where
 kin:K.In base
 glob:base.Ns mainGlobals mg
 blt:∃mb,base.Ns builtinsNs mb/\∀x:Str,x≠"__name__"->mb x=bootBuiltins x
 nolimit:base.NoLimit
structure Cx where
 prog:Program
 w:World
 K:W.Frag
 mg:Str->Option Value
 base:Heap
 A:Around
 N:List Str
 s₀:Shared
 H₀:Hp
 env:Env
 outer:List Env
 stack:List Env
 ex:List Addr
 fn:Str->Bool
 calm:Bool
 pn:List (Addr×Obj)
 xe:Value->Shared->Prop
def frs(l:List Env):List Addr:=l.filterMap (·.frame)
abbrev Cx.fs(X:Cx):List Addr:=frs X.outer
def Vis(sc:Scope)(x:Str):Prop:=sc.names.lookup x=some .local\/sc.names.lookup x=some .cell\/sc.names.lookup x=some .free
def Loc(sc:Scope)(x:Str):Prop:=sc.names.lookup x=some .local\/sc.names.lookup x=some .cell
def Look(env:Env)(h:Heap)(m:Str->Option Value)(x:Str)(u:Value):Prop:=
 (env.kindOf x=some .local/\m x=some u)\/((env.kindOf x=some .cell\/env.kindOf x=some .free)/\∃c,env.cells.lookup x=some c/\h.IsCell c (some u))
structure Cx.Ok(X:Cx):Prop where
 mod:Mod X.K X.mg X.base
 kind:X.env.scope.kind=.function
 glob:X.env.globals=mainGlobals
 blt:X.env.builtins=builtinsNs
 above:X.s₀.heap.objs.size<=X.env.locals
 inj:∀x y c,X.env.cells.lookup x=some c->X.env.cells.lookup y=some c->x=y
 has:∀x,(X.env.kindOf x=some .cell\/X.env.kindOf x=some .free)->∃c,X.env.cells.lookup x=some c
 cab:∀x c,X.fn x=true->X.env.cells.lookup x=some c->X.s₀.heap.objs.size<=c
 hd:X.calm=true->X.A.handled=none
 frames:X.A.frames=some X.stack
 stk:X.stack=X.outer\/(X.stack=X.env::X.outer/\X.env.frame=some X.env.locals)
 exf:∀b∈X.ex,b≠X.env.locals/\∀x c,X.env.cells.lookup x=some c->c≠b
 bs:∀b o,X.base.get? b=some o->X.s₀.heap.get? b=some o/\X.H₀ b=none
 bsz:X.base.objs.size<=X.s₀.heap.objs.size
 noex:∀b o,X.base.get? b=some o->b∉X.ex
 exfs:∀b∈X.ex,b∉X.fs
 funs:X.s₀.heap.FunFrames X.base X.outer
 frf:∀b∈X.fs,X.H₀ b=none
structure Inv(X:Cx)(Io:List (Addr×Obj))(Z:List (Option V))(H:Hp)(s:Shared):Prop where
 ok:X.Ok
 os:s.os=X.s₀.os
 bare:AllBare s.gens
 base:Un X.fs X.ex X.H₀ H X.s₀.heap s.heap
 loc:∃m,s.heap.Ns X.env.locals m/\∀(i:Nat)(x:Str)(v:V),X.N[i]?=some x->Z[i]?=some (some v)->Vis X.env.scope x->∃u,ar v u/\Look X.env s.heap m x u
 cell:∀x c,X.env.cells.lookup x=some c->∃v,s.heap.IsCell c v
 free:H X.env.locals=none
 freeC:∀x c,X.env.cells.lookup x=some c->H c=none
 pin:∀p∈X.pn++Io,s.heap.get? p.1=some p.2/\H p.1=none/\p.1≠X.env.locals/\p.1∉X.fs/\∀v,p.2.data≠.cell v
 hok:HOk X.prog X.w H s.heap
 len:Z.length=X.N.length
section
variable {X:Cx}{Z:List (Option V)}{H H':Hp}{h':Heap}
theorem Cx.Ok.nofr(ok:X.Ok){b:Addr}{o:Obj}(e:X.base.get? b=some o):b∉X.fs:=λc=>by
 have:=(ok.funs.mem c).1;rw[e] at this;cases this
theorem Inv.bs(I:Inv X Io Z H s):∀b o,X.base.get? b=some o->s.heap.get? b=some o/\H b=none:=λb o e=>
 ⟨I.base.keep b o (I.ok.bs b o e).1 (I.ok.bs b o e).2 (I.ok.nofr e) (I.ok.noex b o e),I.base.free b o (I.ok.bs b o e).1 (I.ok.bs b o e).2 (I.ok.noex b o e)⟩
theorem Inv.bk(I:Inv X Io Z H s):∀b o,X.base.get? b=some o->s.heap.get? b=some o:=λb o e=>(I.bs b o e).1
theorem Inv.mod(I:Inv X Io Z H s):Mod X.K X.mg X.base:=I.ok.mod
theorem Inv.kIn(I:Inv X Io Z H s):X.K.In s.heap:=I.ok.mod.kin.keeps I.bk
theorem Inv.fr(I:Inv X Io Z H s):∃m,Fr X.base X.env.locals s.heap m:=
 let ⟨m,b,_⟩:=I.loc
 ⟨m,b,I.bk,bQ I.ok.bsz I.ok.above⟩
theorem Inv.lt(I:Inv X Io Z H s):X.env.locals<s.heap.objs.size:=let ⟨_,b,_⟩:=I.loc;b.lt
theorem Inv.sz(I:Inv X Io Z H s):X.s₀.heap.objs.size<=s.heap.objs.size:=bQ I.ok.above (kq I.lt)
theorem Inv.nofs(I:Inv X Io Z H s){a:Addr}(h:s.heap.objs.size<=a):a∉X.fs:=λb=>by
 obtain⟨_,o,c,_⟩:=I.ok.funs.mem b;exact absurd (bL (aH c) (bQ I.sz h)) (cT _)
theorem Inv.cne(I:Inv X Io Z H s):∀x c,X.env.cells.lookup x=some c->c≠X.env.locals:=λx c e z=>by
 obtain⟨v,o,b,hd⟩:=I.cell x c e;obtain⟨m,⟨o',es,ep,d,f,_⟩,_⟩:=I.loc;rw[z,d] at b;cases b;rw[f] at hd;cases hd
theorem Inv.funs(I:Inv X Io Z H s):s.heap.FunFrames X.base X.outer:=by
 have all:∀(l:List Env),(∀b∈frs l,b∈X.fs)->X.s₀.heap.FunFrames X.base l->s.heap.FunFrames X.base l:=by
  intro l;induction l with
  |nil=>intro _ _;trivial
  |cons env r g=>
   intro f h;obtain⟨i,⟨L,o,hf,m,n,hd⟩,p⟩:=h;have c:L∈X.fs:=f L (by unfold frs;rw[List.filterMap_cons,hf];exact List.mem_cons_self);obtain⟨q,e⟩:=I.base.slot L o n (I.ok.frf L c) c λz=>I.ok.exfs L z c;exact⟨i,⟨L,_,hf,m,e,hd⟩,g (λb d=>f b (by unfold frs;rw[List.filterMap_cons,hf];exact List.mem_cons_of_mem _ d)) p⟩
 exact all X.outer (λ_ d=>d) I.ok.funs
theorem Inv.stack(I:Inv X Io Z H s):s.heap.FunFrames X.base X.stack:=by
 rcases I.ok.stk with e|⟨e,hf⟩
 .rw[e];exact I.funs
 rw[e];obtain⟨m,b,_⟩:=I.loc;refine .cons (by rw[I.ok.kind];decide) hf b ?_ I.funs;exact uX (bQ I.ok.bsz I.ok.above)
theorem Inv.stkSub(I:Inv X Io Z H s):∀b∈frs X.stack,b∈X.env.locals::X.fs:=λb c=>by
 rcases I.ok.stk with e|⟨e,hf⟩
 .rw[e] at c;exact List.mem_cons_of_mem _ c
 rw[e] at c;unfold frs at c;rw[List.filterMap_cons,hf] at c;exact c
theorem Inv.stkFree(I:Inv X Io Z H s):∀b∈frs X.stack,H b=none:=λb c=>by
 rcases List.mem_cons.mp (I.stkSub b c) with e|c
 .rw[e];exact I.free
 obtain⟨_,o,d,_⟩:=I.ok.funs.mem c;exact I.base.free b o d (I.ok.frf b c) λz=>I.ok.exfs b z c
theorem Inv.step{g':Array GenState}{t':Nat}{d':Drawn}{ch:List Addr}(I:Inv X Io Z H s)
  (A:∀b∈ch,(b∈X.ex\/X.s₀.heap.objs.size<=b)/\b≠X.env.locals/\(∀x c,X.env.cells.lookup x=some c->c≠b)/\∀p∈X.pn++Io,p.1≠b)
  (keep:∀b o,b≠X.env.locals->b∉X.fs->b∉ch->s.heap.get? b=some o->H b=none->h'.get? b=some o)
  (slot:∀b o,b≠X.env.locals->b∈X.fs->b∉ch->s.heap.get? b=some o->H b=none->∃E,h'.get? b=some {o with slots:=E}) (free:∀b o,b∉ch->s.heap.get? b=some o->H b=none->H' b=none)
  (there:∀b o,b∉ch->s.heap.get? b=some o->∃o',h'.get? b=some o')
  (tups:∀b xs,H b=some (.tup xs)->H' b=some (.tup xs)) (frzs:∀b o u,H b=some (.frz o u)->H' b=some (.frz o u)) (tbls:∀b ps,H b=some (.tbl ps)->∃more,H' b=some (.tbl (ps++more)))
  (ns:∀m,s.heap.Ns X.env.locals m->h'.Ns X.env.locals m) (hok:HOk X.prog X.w H' h') (O:AllBare g') :
  Inv X Io Z H' {s with heap:=h',gens:=g',drawn:=d',toks:=t'}:=by
 have K:∀b o,X.s₀.heap.get? b=some o->b≠X.env.locals:=λb o e=>aU (bL (aH e) I.ok.above);have D:∀b o,X.s₀.heap.get? b=some o->b∉X.ex->b∉ch:=λb o e f h=>by
  rcases (A b h).1 with z|z
  .exact f z
  exact absurd (bL (aH e) z) (cT _)
 have cellK:∀x c,X.env.cells.lookup x=some c->∀v,s.heap.IsCell c v->h'.IsCell c v:=λx c e v ⟨o,y,hd⟩=>by
  have B:c∉ch:=λz=>(A c z).2.2.1 x c e rfl;by_cases L:c∈X.fs
  .obtain⟨E,q⟩:=slot c o (I.cne x c e) L B y (I.freeC x c e);exact⟨_,q,hd⟩
  exact⟨o,keep c o (I.cne x c e) L B y (I.freeC x c e),hd⟩
 refine⟨I.ok,I.os,O,⟨λb o e n h f=>?_,λb o e n h f=>?_,λb o e n f=>?_,λb o e f=>?_,λb xs e=>tups b xs (I.base.tups b xs e),λb o xs e=>frzs b o xs (I.base.frzs b o xs e),λb ps e=>?_⟩,?_,λx c e=>?_,?_,λx c e=>?_,λp M=>?_,hok,I.len⟩
 .exact keep b o (K b o e) h (D b o e f) (I.base.keep b o e n h f) (I.base.free b o e n f)
 .obtain⟨E,g⟩:=I.base.slot b o e n h f;obtain⟨P,C⟩:=slot b _ (K b o e) h (D b o e f) g (I.base.free b o e n f);exact⟨P,C⟩
 .obtain⟨o',g⟩:=I.base.there b o e f;exact free b o' (D b o e f) g (I.base.free b o e n f)
 .obtain⟨o',g⟩:=I.base.there b o e f;exact there b o' (D b o e f) g
 .obtain⟨Q,g⟩:=I.base.tbls b ps e;obtain⟨R,C⟩:=tbls b _ g;exact⟨Q++R,by rw[C,Array.append_assoc]⟩
 .obtain⟨m,S,T⟩:=I.loc;refine⟨m,ns m S,λi x v g C U=>?_⟩;obtain⟨u,r,l⟩:=T i x v g C U;refine⟨u,r,?_⟩;rcases l with l|⟨k,c,e,z⟩
  .exact .inl l
  exact .inr ⟨k,c,e,cellK x c e _ z⟩
 .obtain⟨v,z⟩:=I.cell x c e;exact⟨v,cellK x c e v z⟩
 .obtain⟨m,⟨o,_,_,y,_⟩,_⟩:=I.loc;exact free _ o (λz=>(A _ z).2.1 rfl) y I.free
 .obtain⟨v,o,y,hd⟩:=I.cell x c e;exact free c o (λz=>(A c z).2.2.1 x c e rfl) y (I.freeC x c e)
 obtain⟨e,n,ne,N,d⟩:=I.pin p M;have B:p.1∉ch:=λz=>(A p.1 z).2.2.2 p M rfl;exact⟨keep p.1 p.2 ne N B e n,free p.1 p.2 B e n,ne,N,d⟩
theorem Inv.un{t':Nat}(I:Inv X Io Z H s)(u:Un X.fs [] H H' s.heap h')(hok:HOk X.prog X.w H' h'):Inv X Io Z H' {s with heap:=h',toks:=t'}:=by
 obtain⟨m,⟨o,es,ep,d,r⟩,_⟩:=id I.loc;obtain⟨p,g⟩:=u.any d I.free (by simp);exact I.step (g':=s.gens) (d':=s.drawn) (ch:=[]) (λ_ z=>nomatch z) (λb o _ c _ e n=>u.keep b o e n c (by simp)) (λb o _ c _ e n=>u.slot b o e n c (by simp)) (λb o _ e n=>u.free b o e n (by simp)) (λb o _ e=>u.there b o e (by simp)) u.tups u.frzs u.tbls (λq hm=>by
  obtain⟨o',h,i,f,l⟩:=hm;rw[d] at f;cases f;exact⟨_,h,i,g,l⟩) hok I.bare
theorem Inv.call{g':Array GenState}{t':Nat}{d':Drawn}{ch:List Addr}(I:Inv X Io Z H s)(u:Un (frs X.stack) ch H H' s.heap h')(hok:HOk X.prog X.w H' h')(l:AllBare g')
  (g:∀b∈ch,(b∈X.ex\/X.s₀.heap.objs.size<=b)/\b≠X.env.locals/\(∀x c,X.env.cells.lookup x=some c->c≠b)/\∀p∈X.pn++Io,p.1≠b) :
  Inv X Io Z H' {s with heap:=h',gens:=g',drawn:=d',toks:=t'}:=by
 obtain⟨m,⟨o,es,ep,h,r⟩,_⟩:=id I.loc;obtain⟨B,f⟩:=u.any h I.free λz=>(g _ z).2.1 rfl;exact I.step (ch:=ch) g (λb o f q d e n=>u.keep b o e n (λz=>(List.mem_cons.mp (I.stkSub b z)).elim f q) d) (λb o _ _ d e n=>u.any e n d) (λb o d e n=>u.free b o e n d) (λb o d e=>u.there b o e d) u.tups u.frzs u.tbls (λC hm=>by
  obtain⟨o',v,y,i,A⟩:=hm;rw[h] at i;cases i;exact⟨_,v,y,f,A⟩) hok l
theorem Inv.turned{t':Nat}{it:Addr}(I:Inv X Io Z H s)(k:∀b o,b≠it->s.heap.get? b=some o->h'.get? b=some o)(h:H it=none)(f:it≠X.env.locals)
  (h1:it∈X.ex\/X.s₀.heap.objs.size<=it) (h2:∀x c,X.env.cells.lookup x=some c->c≠it) (i:∀p∈X.pn++Io,p.1≠it):Inv X Io Z H {s with heap:=h',toks:=t'}:=by
 have g:∀b u,H b=some u->b≠it:=λb u e z=>by rw[z,h] at e;cases e
 refine I.step (g':=s.gens) (d':=s.drawn) (ch:=[it]) (λb l=>?_) (λb o _ _ d e _=>k b o (λz=>d (by simp[z])) e) (λb o _ _ d e _=>⟨o.slots,k b o (λz=>d (by simp[z])) e⟩) (λ_ _ _ _ n=>n)
  (λb o d e=>⟨o,k b o (λz=>d (by simp[z])) e⟩) (λ_ _ e=>e) (λ_ _ _ e=>e) (λb ps e=>⟨#[],by rw[e];simp⟩) (λm hm=>?_) (λb u e=>?_) I.bare
 .have e:b=it:=by simpa using l
  subst e;exact⟨h1,f,h2,i⟩
 .obtain⟨o,es,ep,w,r⟩:=hm;exact⟨o,es,ep,k _ o (aF f) w,r⟩
 refine (I.hok b u e).stay (λc v d q=>k c v ?_ q) (λ_ q=>q) λ_ _ q=>q;rcases d with z|z
 .rw[z];exact g b u e
 exact g c _ z
theorem Inv.tok(I:Inv X Io Z H s)(t:Nat):Inv X Io Z H {s with toks:=t}:=I.un (h':=s.heap) (t':=t) Un.refl I.hok
theorem Inv.kept{t':Nat}(I:Inv X Io Z H s)(k:∀b u,s.heap.get? b=some u->h'.get? b=some u):Inv X Io Z H {s with heap:=h',toks:=t'}:=I.un (Un.kept k) (I.hok.kept k)
theorem Inv.laid{a:Addr}{o:HO}{t':Nat}(I:Inv X Io Z H s)(k:∀b u,s.heap.get? b=some u->h'.get? b=some u)(c:s.heap.objs.size<=a)(new:a6 X.prog X.w (upd H a o) h' a o) :
  Inv X Io Z (upd H a o) {s with heap:=h',toks:=t'}:=I.un (Un.laid k c (I.hok.fresh c)) (I.hok.laid k c new)
theorem Inv.write{x e:Addr}{o:HO}{t':Nat}(I:Inv X Io Z H s)(c:Mut (H x))(he:e=x\/H e=some (.own x))(k:∀b u,b≠e->s.heap.get? b=some u->h'.get? b=some u)(d:∃u,h'.get? e=some u)
  (new:a6 X.prog X.w (upd H x o) h' x o):Inv X Io Z (upd H x o) {s with heap:=h',toks:=t'}:=I.un (Un.write c he k d) (I.hok.write c he k d new)
theorem Inv.pins_of{pins':List (Addr×Obj)}(I:Inv X Io Z H s)(h:∀p∈pins',s.heap.get? p.1=some p.2/\H p.1=none/\p.1≠X.env.locals/\p.1∉X.fs/\∀v,p.2.data≠.cell v):Inv X pins' Z H s:=
 ⟨I.ok,I.os,I.bare,I.base,I.loc,I.cell,I.free,I.freeC,λp b=>(List.mem_append.mp b).elim (λz=>I.pin p (List.mem_append_left _ z)) (h p),I.hok,I.len⟩
theorem rm{N:List Str}(c:N.Nodup){i j:Nat}{x:Str}(a:N[i]?=some x)(b:N[j]?=some x):i=j:=by obtain⟨h1,d⟩:=List.getElem?_eq_some_iff.mp a;obtain⟨h2,e⟩:=List.getElem?_eq_some_iff.mp b;exact (List.getElem_inj c).mp (d.trans e.symm)
theorem qq{M:Model}{i:Nat}{x:Str}{v:V}{u:Value}{Q:Unit->Shared->Prop}(I:Inv X Io Z H s)(hN:X.N.Nodup)(hi:X.N[i]?=some x)(B:Loc X.env.scope x)(r:ar v u)
  (h:∀s',Inv X Io (Z.set i (some v)) H s'->(∃a,Heap.SameBut a s.heap s'.heap/\(a=X.env.locals\/X.env.cells.lookup x=some a))->Q () s') (hf:X.fn x=true\/X.env.scope.names.lookup x=some .local:=by first|exact .inl rfl|exact .inr rfl|assumption):wpAny M A (storeName X.env x u) Q E s:=by
 obtain⟨m,R,hl⟩:=id I.loc;have ap:(X.env.scope.kind==.class||(X.env.scope.kind==.module&&X.env.locals != X.env.globals))=false:=by rw[I.ok.kind];rfl
 have hiσ:i<Z.length:=by rw[I.len];exact (List.getElem?_eq_some_iff.mp hi).1
 have cne:=I.cne;have tracked:∀{a:Addr}{h':Heap},(∃o,s.heap.get? a=some o/\H a=none)->Heap.SameBut a s.heap h'->HOk X.prog X.w H h':=λ{a h'} ha f b ob e=>by
  obtain⟨_,_,ad⟩:=ha;refine (I.hok b ob e).stay (λc O l q=>(f.2 c ?_).trans q) (λ_ q=>q) λ_ _ q=>q;rintro rfl;rcases l with rfl|l
  .rw[ad] at e;cases e
  rw[ad] at l;cases l
 rcases B with D|D
 .refine wpAny_storeName_local D R (λh' aM f=>?_) ap;obtain⟨oL,_,_,a0,_⟩:=id R;refine h _ ⟨I.ok,I.os,I.bare,⟨λb o e n K B=>?_,λb o e n K B=>?_,I.base.free,λb o e B=>?_,I.base.tups,I.base.frzs,I.base.tbls⟩,⟨_,aM,λj y S g C T=>?_⟩,λy c e=>?_,I.free,I.freeC,λp U=>?_,tracked ⟨oL,a0,I.free⟩ f,by simpa using I.len⟩ ⟨_,f,.inl rfl⟩
  .exact (f.2 b (aU (bL (aH e) I.ok.above))).trans (I.base.keep b o e n K B)
  .obtain⟨Y,g⟩:=I.base.slot b o e n K B;exact⟨Y,(f.2 b (aU (bL (aH e) I.ok.above))).trans g⟩
  .obtain⟨o',g⟩:=I.base.there b o e B;exact⟨o',(f.2 b (aU (bL (aH e) I.ok.above))).trans g⟩
  .by_cases L:j=i
   .subst L;rw[hi] at g;cases g;rw[List.getElem?_set_self hiσ] at C;cases C;exact⟨u,r,.inl ⟨D,by simp⟩⟩
   rw[List.getElem?_set_ne (aF L)] at C;obtain⟨u',r',q⟩:=hl j y S g C T;refine⟨u',r',?_⟩;rcases q with ⟨k,e⟩|⟨k,c,e,z⟩
   .refine .inl ⟨k,?_⟩;have:y≠x:=λe=>L (rm hN g (e ▸ hi));simp[this,e]
   exact .inr ⟨k,c,e,z.sameBut f (cne y c e)⟩
  .obtain⟨O,z⟩:=I.cell y c e;exact⟨O,z.sameBut f (cne y c e)⟩
  obtain⟨e,n,ne,nf,d⟩:=I.pin p U;exact⟨(f.2 p.1 ne).trans e,n,ne,nf,d⟩
 have ab:X.fn x=true:=by
  rcases hf with z|z
  .exact z
  rw[z] at D;cases D
 obtain⟨c,l⟩:=I.ok.has x (.inl D);obtain⟨O,z⟩:=I.cell x c l;refine wpAny_storeName_cell I.ok.kind D l z (λh' al f=>?_);obtain⟨oc,am,a1⟩:=id z;refine h {s with heap:=h'} ⟨I.ok,I.os,I.bare,⟨λb o e n K B=>?_,λb o e n K B=>?_,I.base.free,λb o e B=>?_,I.base.tups,I.base.frzs,I.base.tbls⟩,⟨m,R.sameBut f (aF (cne x c l)),λj y S g C T=>?_⟩,λy P e=>?_,I.free,I.freeC,λp U=>?_,tracked ⟨oc,am,I.freeC x c l⟩ f,by simpa using I.len⟩ ⟨c,f,.inr l⟩
 .exact (f.2 b (aU (bL (aH e) (I.ok.cab x c ab l)))).trans (I.base.keep b o e n K B)
 .obtain⟨Y,g⟩:=I.base.slot b o e n K B;exact⟨Y,(f.2 b (aU (bL (aH e) (I.ok.cab x c ab l)))).trans g⟩
 .obtain⟨o',g⟩:=I.base.there b o e B;exact⟨o',(f.2 b (aU (bL (aH e) (I.ok.cab x c ab l)))).trans g⟩
 .by_cases L:j=i
  .subst L;rw[hi] at g;cases g;rw[List.getElem?_set_self hiσ] at C;cases C;exact⟨u,r,.inr ⟨.inl D,c,l,al⟩⟩
  rw[List.getElem?_set_ne (aF L)] at C;obtain⟨u',r',q⟩:=hl j y S g C T;refine⟨u',r',?_⟩;rcases q with q|⟨k,P,e,z'⟩
  .exact .inl q
  refine .inr ⟨k,P,e,z'.sameBut f ?_⟩;rintro rfl;exact L (rm hN g (I.ok.inj _ _ _ e l ▸ hi))
 .by_cases an:P=c
  .subst an;exact⟨_,al⟩
  obtain⟨w2,z2⟩:=I.cell y P e;exact⟨w2,z2.sameBut f an⟩
 obtain⟨e,n,ne,nf,d⟩:=I.pin p U;refine⟨(f.2 p.1 ?_).trans e,n,ne,nf,d⟩;intro q;rw[q,am] at e;have q':oc=p.2:=cq e;exact d O (by rw[<-q'];exact a1)
theorem qT{M:Model}{i:Nat}{x:Str}{v:V}{u:Value}{Q:Unit->Shared->Prop}(I:Inv X Io Z H s)(b:X.N.Nodup)(hi:X.N[i]?=some x)(c:Loc X.env.scope x)(r:ar v u)
  (h:∀s',Inv X Io (Z.set i (some v)) H s'->Q () s') (hf:X.fn x=true\/X.env.scope.names.lookup x=some .local:=by first|exact .inl rfl|exact .inr rfl|assumption):wpAny M A (storeName X.env x u) Q E s:=
 qq I b hi c r (λs' d _=>h s' d) hf
theorem Inv.call'{s':Shared}{ch:List Addr}(I:Inv X Io Z H s)(d:s'.os=s.os)(u:Un (frs X.stack) ch H H' s.heap s'.heap)(hok:HOk X.prog X.w H' s'.heap)(f:AllBare s'.gens)
  (g:∀b∈ch,(b∈X.ex\/X.s₀.heap.objs.size<=b)/\b≠X.env.locals/\(∀x c,X.env.cells.lookup x=some c->c≠b)/\∀p∈X.pn++Io,p.1≠b):Inv X Io Z H' s':=by
 obtain⟨h',g',d',t',o'⟩:=s';have e:o'=s.os:=d;subst e;exact I.call (g':=g') (t':=t') (d':=d') u hok f g
end
abbrev XK:=Value->Option Addr->Hp->Prop
abbrev St:=List (Option V)
abbrev VK:=V->Hp->Prop
abbrev TE:=St->Hp->VK->Prop
abbrev TT:=St->Hp->(Bool->Hp->Prop)->Prop
abbrev TA:=St->Hp->(List V->Hp->Prop)->Prop
structure Ends where
 nx:St->Hp->Prop
 rt:VK
 bk:St->Hp->Prop:=λ_ _=>False
 ct:St->Hp->Prop:=λ_ _=>False
abbrev TS:=Ends->St->Hp->Prop
def EP(X:Cx)(Io:List (Addr×Obj))(Z:St)(Q:VK)(u:Value)(s':Shared):Prop:=∃v H',Inv X Io Z H' s'/\ar v u/\Q v H'
def TP(X:Cx)(Io:List (Addr×Obj))(Z:St)(Q:Bool->Hp->Prop)(b:Bool)(s':Shared):Prop:=∃H',Inv X Io Z H' s'/\Q b H'
def AP(X:Cx)(Io:List (Addr×Obj))(Z:St)(Q:List V->Hp->Prop)(us:List Value)(s':Shared):Prop:=∃vs H',Inv X Io Z H' s'/\Vals vs us/\Q vs H'
def SP(X:Cx)(Io:List (Addr×Obj))(D:Ends)(f:Flow)(s':Shared):Prop:=
 match f with
 |.next=>∃Z' H',Inv X Io Z' H' s'/\D.nx Z' H'
 |.brk=>∃Z' H',Inv X Io Z' H' s'/\D.bk Z' H'
 |.cont=>∃Z' H',Inv X Io Z' H' s'/\D.ct Z' H'
 |.ret u=>∃v Z' H',Inv X Io Z' H' s'/\ar v u/\D.rt v H'
def PE(X:Cx)(e:Expr)(t:TE):Prop:=
 ∀(Io:List (Addr×Obj))(s:Shared)(Z:St)(H:Hp)(Q:VK),Inv X Io Z H s->t Z H Q->wpAny (model X.prog X.w) X.A (eval e X.env) (EP X Io Z Q) X.xe s
def PT(X:Cx)(e:Expr)(t:TT):Prop:=
 ∀(Io:List (Addr×Obj))(s:Shared)(Z:St)(H:Hp)(Q:Bool->Hp->Prop),Inv X Io Z H s->t Z H Q->wpAny (model X.prog X.w) X.A (isTrue e X.env (eval e X.env)) (TP X Io Z Q) X.xe s
def PW(X:Cx)(e:Expr)(t:TT):Prop:=
 ∀(whole:Sem Value)(Io:List (Addr×Obj))(s:Shared)(Z:St)(H:Hp)(Q:Bool->Hp->Prop),Inv X Io Z H s->t Z H Q->wpAny (model X.prog X.w) X.A (isTrue e X.env whole) (TP X Io Z Q) X.xe s
theorem PW.pt{X:Cx}{e:Expr}{t:TT}(h:PW X e t):PT X e t:=h _
def PA(X:Cx)(es:List Expr)(t:TA):Prop:=
 ∀(pos:Pos)(Io:List (Addr×Obj))(s:Shared)(Z:St)(H:Hp)(Q:List V->Hp->Prop),Inv X Io Z H s->t Z H Q->wpAny (model X.prog X.w) X.A (spliced (backTo pos (starEach es X.env))) (AP X Io Z Q) X.xe s
def PS(X:Cx)(st:Stmt)(t:TS):Prop:=
 ∀(Io:List (Addr×Obj))(s:Shared)(Z:St)(H:Hp)(D:Ends),Inv X Io Z H s->t D Z H->wpAny (model X.prog X.w) X.A (exec st X.env) (SP X Io D) X.xe s
def PSs(X:Cx)(st:List Stmt)(t:TS):Prop:=
 ∀(Io:List (Addr×Obj))(s:Shared)(Z:St)(H:Hp)(D:Ends),Inv X Io Z H s->t D Z H->wpAny (model X.prog X.w) X.A (execs st X.env) (SP X Io D) X.xe s
theorem thn{α:Type}{t:Sem α}{Q b:α->Shared->Prop}{M:Model}(h:wpAny M A t Q E s)(c:∀a s,Q a s->b a s):wpAny M A t b E s:=bT h c λ_ _ x=>x
end L2
variable {H:L2.Hp}{Z:L2.St}{X:L2.Cx}{xs:List L2.V}{vs:List L2.V}{H':L2.Hp}
namespace L2
open PySem PySem.Spec PyProof.Rows
section
def Ex2{α β:Type}(P:α->β->Prop)(a:α):Prop:=Exists (P a)
def Ex3{α β γ:Type}(P:α->β->γ->Prop)(a:α):Prop:=Exists (Ex2 (P a))
def Ex4{α β γ δ:Type}(P:α->β->γ->δ->Prop)(a:α):Prop:=Exists (Ex3 (P a))
def Ex5{α β γ δ ε:Type}(P:α->β->γ->δ->ε->Prop)(a:α):Prop:=Exists (Ex4 (P a))
def Ex6{α β γ δ ε ζ:Type}(P:α->β->γ->δ->ε->ζ->Prop)(a:α):Prop:=Exists (Ex5 (P a))
def Same(H H':Hp):Prop:=∀b o,H b=some o->H' b=some o
def dP(H:Hp)(o:HO)(Q:VK):Prop:=∀p H',H p=none->Same H H'->H' p=some o->Q (.ref p) H'
theorem dP.at{o:HO}{Q:VK}{p:Addr}(q:dP H o Q)(h:H p=none):Q (.ref p) (upd H p o):=q p _ h (λb u e=>(aB (λz=>by rw[z,h] at e;cases e)).trans e) aG
def WrO(H:Hp)(l:Addr)(o:HO)(k:Hp->Prop):Prop:=∀H',(∀b,b≠l->H' b=H b)->H' l=some o->k H'
theorem WrO.at{l:Addr}{o:HO}{k:Hp->Prop}(q:WrO H l o k):k (upd H l o):=q _ (λ_ h=>aB h) aG
def D9(i:Nat)(Z:St)(H:Hp)(Q:VK)(v:V):Prop:=Z[i]?=some (some v)/\Q v H
def aV(i:Nat):TE:=λZ H Q=>Exists (D9 i Z H Q)
def tC(v:V):TE:=λ_ H Q=>Q v H
theorem Dg{i:Nat}{x:Str}{pos:Pos}(g:X.N[i]?=some x)(n:Vis X.env.scope x)(hd:(x==("__debug__" : Str))=false:=by decide)(o:(x==("__classdict__" : Str))=false:=by decide):PE X (.Name x pos) (aV i):=by
 intro Io s Z H Q I h;obtain⟨v,e,h⟩:=h;obtain⟨m,p,q⟩:=I.loc;obtain⟨u,r,l⟩:=q i x v g e n;have fin:EP X Io Z Q u s:=⟨v,H,I,r,h⟩;rcases l with ⟨b,hm⟩|⟨b,c,d,f⟩
 .exact vL (wpAny_loadName_local I.ok.kind b p hm fin) hd
 rcases b with b|b
 .exact vL (wpAny_loadName_cell I.ok.kind b d f fin) hd
 exact vL (wpAny_loadName_free I.ok.kind b d f fin o) hd
theorem ag{i j pos}:PE X (.Constant (.int i) j pos) (tC (.int i)):=λ_ _ _ H _ I h=>wpAny_Constant_int ⟨.int i,H,I.tok _,⟨_,rfl⟩,h⟩
theorem eK{b j pos}:PE X (.Constant (.bool b) j pos) (tC (.bl b)):=λ_ _ _ H _ I h=>Constant_bool ⟨.bl b,H,I,rfl,h⟩
def Gl(X:Cx)(x:Str):Prop:=X.env.kindOf x=some .globalImplicit
theorem nX{x:Str}{u:Value}{pos:Pos}{Q:Value->Shared->Prop}(I:Inv X Io Z H s)(b:Gl X x)(hm:X.mg x=some u)(h:Q u s)
  (hd:(x==("__debug__" : Str))=false:=by decide):wpAny (model X.prog X.w) X.A (eval (.Name x pos) X.env) Q E s:=
 Fm I.ok.kind b (Calls.loadGlobal_global (by rw[I.ok.glob];exact I.mod.glob.keeps I.bk) hm h) hd
theorem jZ{x:Str}{u:Value}{pos:Pos}{Q:Value->Shared->Prop}(I:Inv X Io Z H s)(b:Gl X x)(hm:X.mg x=none)(c:bootBuiltins x=some u)(h:Q u s)
  (d:x≠"__name__":=by decide) (hd:(x==("__debug__" : Str))=false:=by decide):wpAny (model X.prog X.w) X.A (eval (.Name x pos) X.env) Q E s:=by
 obtain⟨mb,h1,h2⟩:=I.mod.blt;exact Fm I.ok.kind b (Calls.loadGlobal_builtin (by rw[I.ok.glob];exact I.mod.glob.keeps I.bk) hm (by rw[I.ok.blt];exact h1.keeps I.bk) ((h2 x d).trans c) h) hd
theorem BA{x:Str}{v:V}{u:Value}{pos:Pos}(b:Gl X x)(hm:X.mg x=some u)(r:ar v u)(hd:(x==("__debug__" : Str))=false:=by decide):PE X (.Name x pos) (tC v):=
 λ_ _ _ H _ I h=>nX I b hm ⟨v,H,I,r,h⟩ hd
theorem gp{x:Str}{v:V}{u:Value}{pos:Pos}(b:Gl X x)(hm:X.mg x=none)(c:bootBuiltins x=some u)(r:ar v u)(d:x≠"__name__":=by decide)(hd:(x==("__debug__" : Str))=false:=by decide):PE X (.Name x pos) (tC v):=
 λ_ _ _ H _ I h=>jZ I b hm c ⟨v,H,I,r,h⟩ d hd
variable {a b:Expr}{ta tb:TE}{pos:Pos}
def PC(X:Cx)(op:CmpOp)(a b:Expr)(t:TE):Prop:=
 ∀(Io:List (Addr×Obj))(s:Shared)(Z:St)(H:Hp)(Q:VK),Inv X Io Z H s->t Z H Q->
  wpAny (model X.prog X.w) X.A (eval a X.env) (λv s₁=>wpAny (model X.prog X.w) X.A (eval b X.env) (λu s₂=>wpAny (model X.prog X.w) X.A (compareOp op v u) (EP X Io Z Q) X.xe s₂) X.xe s₁) X.xe s
def tBB(Q:Bool->Hp->Prop)(x:V)(H1:Hp)(c:Bool):Prop:=x=.bl c/\Q c H1
def tBK(Q:Bool->Hp->Prop):VK:=λx H1=>Exists (tBB Q x H1)
def tB(t:TE):TT:=λZ H Q=>t Z H (tBK Q)
theorem Di{op:CmpOp}{t:TE}(h:PC X op a b t)(h1:behindInMarks op b=false:=by first|exact nobehind _ (by decide) (by decide)|rfl):PE X (.Compare a [op] [b] pos) t:=λIo s Z H Q I hw=>Gk (h Io s Z H Q I hw) h1
theorem eG{op:CmpOp}{t:TE}(h:PC X op a b t)(h1:behindInMarks op b=false:=by first|exact nobehind _ (by decide) (by decide)|rfl):PT X (.Compare a [op] [b] pos) (tB t):=by intro Io s Z H Q I hw;refine Gs (thn (h Io s Z H _ I hw) λv s1 h1=>thn h1 λu s2 h2=>thn h2 λc i ⟨x,H1,e,f,g⟩=>?_) h1;obtain⟨d,rfl,q⟩:=g;cases f;exact fU ⟨H1,e,q⟩
theorem dz{e:Expr}{t:TE}(h:PE X e t)(he:∀whole,isTrue e X.env whole=(do let v <-whole;standAt e.pos;holding [v] (truthy v)):=by intro _;rfl):PT X e (tB t):=by intro Io s Z H Q I hw;refine isTrue_plain (thn (h Io s Z H _ I hw) λv s1 ⟨x,H1,I1,r1,q1⟩=>?_) (he _);obtain⟨d,rfl,q⟩:=q1;cases r1;exact fU ⟨H1,I1,q⟩
variable {tA tB':TT}{rest:List Expr}
def EC(u:TT)(Z:St)(Q:Bool->Hp->Prop):Bool->Hp->Prop:=λc H1=>if c=true then u Z H1 Q else Q false H1
def tAnd(t u:TT):TT:=λZ H Q=>t Z H (EC u Z Q)
def tOrK(u:TT)(Z:St)(Q:Bool->Hp->Prop):Bool->Hp->Prop:=λc H1=>if c=true then Q true H1 else u Z H1 Q
def tOr(t u:TT):TT:=λZ H Q=>t Z H (tOrK u Z Q)
def lP(Q:Bool->Hp->Prop):Bool->Hp->Prop:=λc H1=>Q (!c) H1
def tNot(t:TT):TT:=λZ H Q=>t Z H (lP Q)
theorem jC(ha:PT X a tA):PW X (.BoolOp .And [a] pos) tA:=by
 intro b Io s Z H Q I h;refine isTrue_and (thn (ha Io s Z H Q I h) λc s1 e=>?_);cases c with
 |true=>exact isTrue_and_nil e
 |false=>exact e
theorem gA(ha:PT X a tA):PW X (.BoolOp .Or [a] pos) tA:=by
 intro b Io s Z H Q I h;refine isTrue_or (thn (ha Io s Z H Q I h) λc s1 e=>?_);cases c with
 |false=>exact isTrue_or_nil e
 |true=>exact e
theorem jW(ha:PT X a tA)(f:PW X (.BoolOp .And (b::rest) pos) tB'):PW X (.BoolOp .And (a::b::rest) pos) (tAnd tA tB'):=by
 intro g Io s Z H Q I h;refine isTrue_and (thn (ha Io s Z H _ I h) λc s1 ⟨H1,d,e⟩=>?_);cases c with
 |true=>exact f g Io s1 Z H1 Q d e
 |false=>exact⟨H1,d,e⟩
theorem eJ(ha:PT X a tA)(f:PW X (.BoolOp .Or (b::rest) pos) tB'):PW X (.BoolOp .Or (a::b::rest) pos) (tOr tA tB'):=by
 intro g Io s Z H Q I h;refine isTrue_or (thn (ha Io s Z H _ I h) λc s1 ⟨H1,d,e⟩=>?_);cases c with
 |true=>exact⟨H1,d,e⟩
 |false=>exact f g Io s1 Z H1 Q d e
theorem dU(ha:PT X a tA):PT X (.UnaryOp .Not a pos) (tNot tA):=by intro Io s Z H Q I h;exact isTrue_not (ha Io s Z H (λc H1=>Q (!c) H1) I h)
def EB(ta tb:TE):TE:=λZ H Q=>ta Z H λx H1=>∃c,x=.bl c/\if c=true then tb Z H1 Q else Q (.bl false) H1
def Eb(ta:TE):TE:=λZ H Q=>ta Z H λx H1=>∃c,x=.bl c/\Q (.bl (!c)) H1
theorem lD{op}{t:TE}(h:PE X a t):PE X (.BoolOp op [a] pos) t:=λIo s Z H Q I hw=>BoolOp_one (h Io s Z H Q I hw)
theorem iz(ha:PE X a ta)(f:PE X (.BoolOp .And (b::rest) pos) tb):PE X (.BoolOp .And (a::b::rest) pos) (EB ta tb):=by
 intro Io s Z H Q I h;refine BoolOp_and (thn (ha Io s Z H _ I h) λv s1 ⟨x,H1,e,g,d⟩=>?_);obtain⟨c,rfl,d⟩:=d;cases g;refine fU ?_;cases c with
 |true=>exact f Io s1 Z H1 Q e d
 |false=>exact⟨.bl false,H1,e,rfl,d⟩
theorem Dh(ha:PE X a ta):PE X (.UnaryOp .Not a pos) (Eb ta):=by intro Io s Z H Q I h;refine UnaryOp_ (thn (ha Io s Z H _ I h) λv s1 ⟨x,H1,d,e,b⟩=>?_);obtain⟨c,rfl,b⟩:=b;cases e;exact not_of (fU ⟨.bl (!c),H1,d,rfl,b⟩)
def tIf(t:TT)(ta tb:TE):TE:=λZ H Q=>t Z H λc H1=>if c=true then ta Z H1 Q else tb Z H1 Q
theorem zR{c:Expr}(g:PT X c tA)(ha:PE X a ta)(i:PE X b tb):PE X (.IfExp c a b pos) (tIf tA ta tb):=by
 intro Io s Z H Q I h;refine wpAny_IfExp (thn (g Io s Z H _ I h) λd s1 ⟨H1,e,f⟩=>?_);cases d with
 |true=>exact ha Io s1 Z H1 Q e f
 |false=>exact i Io s1 Z H1 Q e f
end
end L2
namespace L2
open PySem PySem.Spec PyProof.Rows
def SqL(K:W.Frag)(H:Hp)(a:Addr)(xs:List V):Prop:=
 Rd H a (.lst xs) \/
  ∃(o:Obj)(b:Array Value)(n:Nat),K.lookup a=some o/\o.cls=.type "list"/\o.dict=none/\o.data=.seq b n/\b.size<=sizeLine/\Vals xs b.toList
def SqT(K:W.Frag)(H:Hp)(a:Addr)(xs:List V):Prop:=
 Rd H a (.tup xs) \/
  ∃(o:Obj)(b:Array Value)(n:Nat),K.lookup a=some o/\o.cls=.type "tuple"/\o.data=.seq b n/\b.size<=sizeLine/\Vals xs b.toList
def absV:Value->Option V
 |.none=>some .non
 |.bool b=>some (.bl b)
 |.int i _=>some (.int i)
 |.str x _=>some (.str x)
 |.bytes b _=>some (.byt b)
 |.float b _=>some (.flt b)
 |.ref a=>some (.ref a)
 |.type n=>some (.ty n)
 |_=>none
theorem ar.abs{x:V}{u:Value}(r:ar x u):absV u=some x:=by
 cases x with
 |non=>cases r;rfl
 |bl _=>cases r;rfl
 |int _=>obtain⟨t,rfl⟩:=r;rfl
 |str _=>obtain⟨t,rfl⟩:=r;rfl
 |byt _=>obtain⟨t,rfl⟩:=r;rfl
 |flt _=>obtain⟨t,rfl⟩:=r;rfl
 |ref _=>cases r;rfl
 |ty _=>cases r;rfl
theorem ar.inj{x y:V}{u:Value}(r:ar x u)(q:ar y u):x=y:=cq (r.abs.symm.trans q.abs)
theorem Vals.inj{xs ys:List V}(h:Vals xs us)(h':Vals ys us):xs=ys:=by
 induction h generalizing ys with
 |nil=>cases h';rfl
 |cons r t b=>cases h' with
  |cons c t'=>rw[r.inj c,b t']
section
variable {a:Addr}{xs ys:List V}
theorem SqL.of(h:H a=some (.lst xs)):SqL K H a xs:=.inl (.inl h)
theorem SqT.of(h:H a=some (.tup xs)):SqT K H a xs:=.inl (.inl h)
theorem Inv.list(I:Inv X Io Z H s)(h:SqL [] H a xs):∃b:List Value,Vals xs b/\PlainL s.heap a b.toArray/\xs.length<=sizeLine:=by
 rcases h with h|⟨o,b,n,c,d,hd,f,g,r⟩
 .obtain⟨z,b,n,r,e⟩:=h.ok I.hok;exact⟨b,r,⟨_,n,e,rfl,rfl,rfl⟩,z⟩
 cases c
theorem Inv.tuple(I:Inv X Io Z H s)(h:SqT [] H a xs):∃b:List Value,Vals xs b/\IsTup s.heap a b.toArray/\xs.length<=sizeLine:=by
 rcases h with h|⟨o,b,n,c,d,e,f,r⟩
 .obtain⟨⟨z,_⟩,b,r,p⟩:=h.ok I.hok;exact⟨b,r,p,z⟩
 cases c
theorem Inv.list_inj(I:Inv X Io Z H s)(h:SqL [] H a xs)(h':SqL [] H a ys):xs=ys:=by
 obtain⟨c,r,⟨o,n,e,_,_,d⟩,_⟩:=I.list h;obtain⟨its',f,⟨o',g,b,_,_,d'⟩,_⟩:=I.list h';rw[e] at b;cases b;rw[d] at d';injection d' with d1 _;have:c=its':=by simpa using congrArg Array.toList d1
 subst this;exact r.inj f
theorem Inv.tuple_inj(I:Inv X Io Z H s)(h:SqT [] H a xs)(h':SqT [] H a ys):xs=ys:=by
 obtain⟨c,r,⟨o,e,_,n,d⟩,_⟩:=I.tuple h;obtain⟨its',f,⟨o',b,_,g,d'⟩,_⟩:=I.tuple h';rw[e] at b;cases b;rw[d] at d';injection d' with d1 _;have:c=its':=by simpa using congrArg Array.toList d1
 subst this;exact r.inj f
end
abbrev Cx.wish(X:Cx)(E:Value->Shared->Prop):Cx:={X with xe:=E}
abbrev Cx.nox(X:Cx):Cx:=X.wish λ_ _=>False
theorem Cx.Ok.wish(ok:X.Ok)(E:Value->Shared->Prop):(X.wish E).Ok:=
 ⟨ok.mod,ok.kind,ok.glob,ok.blt,ok.above,ok.inj,ok.has,ok.cab,ok.hd,ok.frames,ok.stk,ok.exf,ok.bs,ok.bsz,ok.noex,ok.exfs,ok.funs,ok.frf⟩
theorem Cx.Ok.unwish(ok:(X.wish E).Ok):X.Ok:=
 ⟨ok.mod,ok.kind,ok.glob,ok.blt,ok.above,ok.inj,ok.has,ok.cab,ok.hd,ok.frames,ok.stk,ok.exf,ok.bs,ok.bsz,ok.noex,ok.exfs,ok.funs,ok.frf⟩
section
theorem Inv.wish(I:Inv X Io Z H s)(E:Value->Shared->Prop):Inv (X.wish E) Io Z H s:=⟨I.ok.wish E,I.os,I.bare,I.base,I.loc,I.cell,I.free,I.freeC,I.pin,I.hok,I.len⟩
theorem Inv.unwish(I:Inv (X.wish E) Io Z H s):Inv X Io Z H s:=⟨I.ok.unwish,I.os,I.bare,I.base,I.loc,I.cell,I.free,I.freeC,I.pin,I.hok,I.len⟩
theorem SP.unwish{D:Ends}{f:Flow}{s':Shared}(h:SP (X.wish E) Io D f s'):SP X Io D f s':=by
 cases f with
 |next=>obtain⟨Z',H',I,q⟩:=h;exact⟨Z',H',I.unwish,q⟩
 |brk=>obtain⟨Z',H',I,q⟩:=h;exact⟨Z',H',I.unwish,q⟩
 |cont=>obtain⟨Z',H',I,q⟩:=h;exact⟨Z',H',I.unwish,q⟩
 |ret u=>obtain⟨v,Z',H',I,r,q⟩:=h;exact⟨v,Z',H',I.unwish,r,q⟩
theorem PSs.nox{st:List Stmt}{t:TS}(h:PSs X.nox st t):PSs X st t:=λIo s Z H D I hw=>
 bT (h Io s Z H D (I.wish _) hw) (λ_ _ q=>q.unwish) λ_ _ z=>False.elim z
end
section
variable {st:Stmt}{rest:List Stmt}{t u:TS}{e:Expr}{te:TE}{pos:Pos}
def Ec:TS:=λD Z H=>D.nx Z H
def oJ(t u:TS):TS:=λD Z H=>t {D with nx:=u D} Z H
theorem bu:PSs X [] Ec:=λ_ _ Z H _ I h=>pG ⟨Z,H,I,h⟩
theorem ae(h1:PS X st t)(h2:PSs X rest u):PSs X (st::rest) (oJ t u):=by
 intro Io s Z H D I h;refine Gp (thn (h1 Io s Z H {D with nx:=u D} I h) λf s1 q=>?_);cases f with
 |next=>
  obtain⟨Z',H',b,q⟩:=q;exact h2 Io s1 Z' H' D b q
 |ret v=>exact q
 |brk=>exact q
 |cont=>exact q
theorem ao(h1:PS X st t):PSs X [st] t:=by
 intro Io s Z H D I h;refine Gp (thn (h1 Io s Z H D I h) λf s1 q=>?_);cases f with
 |next=>exact pG q
 |ret v=>exact q
 |brk=>exact q
 |cont=>exact q
def Ez:TS:=λD Z H=>D.ct Z H
theorem wM:PS X (.Continue pos) Ez:=λ_ _ Z H _ I h=>wpAny_Continue ⟨Z,H,I,h⟩
theorem Inv.quiet(I:Inv X Io Z H s):interactive X.env=false:=by simp[interactive,I.ok.kind]
def CD(D:Ends)(Z:St):VK:=λ_ H1=>D.nx Z H1
def Ej(te:TE):TS:=λD Z H=>te Z H (CD D Z)
theorem bF(he:PE X e te)(b:swapsWith e none pos.line X.env=pure false:=by rfl):PS X (.Expr e pos) (Ej te):=by intro Io s Z H D I h;exact wpAny_Expr_any (thn (he Io s Z H _ I h) λv s1 ⟨x,H1,c,f,d⟩=>⟨Z,H1,c,d⟩) I.quiet b
def tRet(te:TE):TS:=λD Z H=>te Z H D.rt
theorem aJ(he:PE X e te):PS X (.Return (some e) pos) (tRet te):=by intro Io s Z H D I h;exact wpAny_Return_some (thn (he Io s Z H _ I h) λv s1 ⟨x,H1,b,c,d⟩=>⟨x,Z,H1,b,c,d⟩)
def oK(t u:TS)(D:Ends)(Z:St):Bool->Hp->Prop:=λb H1=>if b=true then t D Z H1 else u D Z H1
def tIfS(c:TT)(t u:TS):TS:=λD Z H=>c Z H (oK t u D Z)
theorem bB{c:Expr}{a b:List Stmt}{tc:TT}(g:PT X c tc)(ha:PSs X a t)(i:PSs X b u):PS X (.If c a b pos) (tIfS tc t u):=by
 intro Io s Z H D I h;refine wpAny_If (thn (g Io s Z H _ I h) λd s1 ⟨H1,e,f⟩=>?_);cases d with
 |true=>exact ha Io s1 Z H1 D e f
 |false=>exact i Io s1 Z H1 D e f
def CC:TS:=λ_ _ _=>False
theorem fk{b:List Stmt}:PSs X b CC:=λ_ _ _ _ _ _ h=>h.elim
end
abbrev TG:=V->St->Hp->(St->Hp->Prop)->Prop
abbrev TGs:=List V->St->Hp->(St->Hp->Prop)->Prop
def PG(X:Cx)(target:Expr)(t:TG):Prop:=
 ∀(Io:List (Addr×Obj))(s:Shared)(Z:St)(H:Hp)(v:V)(u:Value)(Q:St->Hp->Prop),Inv X Io Z H s->ar v u->t v Z H Q->
  wpAny (model X.prog X.w) X.A (assign target X.env u) (λ_ s'=>∃Z' H',Inv X Io Z' H' s'/\Q Z' H') X.xe s
def PGs(X:Cx)(ts:List Expr)(t:TGs):Prop:=
 ∀(Io:List (Addr×Obj))(s:Shared)(Z:St)(H:Hp)(vs:List V)(us:List Value)(Q:St->Hp->Prop),Inv X Io Z H s->Vals vs us->t vs Z H Q->
  wpAny (model X.prog X.w) X.A (assignInOrder ((assignEach ts X.env).map (·.2)) us) (λ_ s'=>∃Z' H',Inv X Io Z' H' s'/\Q Z' H') X.xe s
abbrev TSet:=V->V->V->Hp->(Hp->Prop)->Prop
def PSet(X:Cx)(t:TSet):Prop:=
 ∀(Io:List (Addr×Obj))(s:Shared)(Z:St)(H:Hp)(o i v:V)(b c u:Value)(Q:Hp->Prop),Inv X Io Z H s->ar o b->ar i c->ar v u->t o i v H Q->
  wpAny (model X.prog X.w) X.A (setItem b c u) (λ_ s'=>∃H',Inv X Io Z H' s'/\Q H') X.xe s
section
variable {pos:Pos}
def bO(i:Nat):TG:=λv Z H Q=>Q (Z.set i (some v)) H
theorem tj{i:Nat}{x:Str}(b:X.N.Nodup)(hi:X.N[i]?=some x)(c:Loc X.env.scope x)(hf:X.fn x=true\/X.env.scope.names.lookup x=some .local:=by first|exact .inl rfl|exact .inr rfl|assumption):PG X (.Name x pos) (bO i):=by intro Io s Z H v u Q I r h;exact Gn (qT I b hi c r (λs' d=>⟨_,H,d,h⟩) hf)
theorem gx(i:Nat){x:Str}(b:X.N.Nodup)(hi:X.N[i]?=some x:=by rfl)(c:Loc X.env.scope x:=by first|exact .inl rfl|exact .inr rfl)(hf:X.fn x=true\/X.env.scope.names.lookup x=some .local:=by first|exact .inl rfl|exact .inr rfl|assumption):PG X (.Name x pos) (bO i):=tj b hi c hf
def iI:TGs:=λvs Z H Q=>vs=[]/\Q Z H
def DN(u:TGs)(r:List V)(Q:St->Hp->Prop):St->Hp->Prop:=λZ' H'=>u r Z' H' Q
def DO(t:TG)(u:TGs)(vs:List V)(Z:St)(H:Hp)(Q:St->Hp->Prop)(v:V)(r:List V):Prop:=vs=v::r/\t v Z H (DN u r Q)
def dO(t:TG)(u:TGs):TGs:=λvs Z H Q=>Exists (Ex2 (DO t u vs Z H Q))
theorem bX:PGs X [] iI:=by intro Io s Z H vs us Q I r h;obtain⟨e,h⟩:=h;subst e;cases r;exact assignInOrder_nil ⟨Z,H,I,h⟩
theorem aO{e:Expr}{es:List Expr}{t:TG}{u:TGs}(h1:PG X e t)(h2:PGs X es u)
  (b:(assignEach (e::es) X.env).map (·.2)=assign e X.env::(assignEach es X.env).map (·.2):=by rfl):PGs X (e::es) (dO t u):=by
 intro Io s Z H vs us Q I r h;obtain⟨v,l,c,h⟩:=h;subst c;cases r with
 |cons r d=>
  rw[b];refine assignInOrder_cons (thn (h1 Io s Z H _ _ _ I r h) λ_ s1 ⟨f,H1,g,i⟩=>?_);exact h2 Io s1 f H1 _ _ Q g d i
def E6(K:W.Frag)(n:Nat)(t:TGs)(v:V)(Z:St)(H:Hp)(Q:St->Hp->Prop)(a:Addr)(xs:List V):Prop:=v=.ref a/\SqT K H a xs/\xs.length=n/\t xs Z H Q
def iH(K:W.Frag)(n:Nat)(t:TGs):TG:=λv Z H Q=>Exists (Ex2 (E6 K n t v Z H Q))
theorem b_{es:List Expr}{k:Nat}{t:TGs}(d:X.calm=true)(h:PGs X es t)
  (f:(assignEach es X.env).length=es.length:=by rfl) (g:(assignEach es X.env).findIdx? (·.1)=none:=by rfl):PG X (.Tuple es k pos) (iH [] es.length t):=by
 intro Io s Z H v u Q I r hw;obtain⟨a,xs,i,l,m,hw⟩:=hw;subst i;cases r;obtain⟨w,c,n,x⟩:=I.tuple l;refine assign_Tuple_tuple (I.ok.hd d) n (by simp[f,<-m,c.length]) g λh' p=>?_;have q:Inv X Io Z H {s with heap:=h'}:=I.kept (t':=s.toks) λb o e=>p b o (aU (aH e)) e;exact h Io _ Z H xs _ Q q (by simpa using c) hw
def E7(t:TSet)(o v:V)(Z:St)(Q:St->Hp->Prop):VK:=λi H2=>t o i v H2 (Q Z)
def E8(b:TE)(t:TSet)(v:V)(Z:St)(Q:St->Hp->Prop):VK:=λo H1=>b Z H1 (E7 t o v Z Q)
def gSub(to b:TE)(t:TSet):TG:=λv Z H Q=>to Z H (E8 b t v Z Q)
theorem ow{o i:Expr}{to ti:TE}{t:TSet}(ho:PE X o to)(hi:PE X i ti)(hs:PSet X t)
  (ha:∀v,assign (.Subscript o i pos) X.env v=(do
   let ov <-holding [v] (eval o X.env)
   let iv <-holding [v,ov] (eval i X.env)
   standAt pos
   holding [v,ov,iv] (setItem ov iv v)
   release [v,ov,iv] []):=by intro _;rfl):PG X (.Subscript o i pos) (gSub to ti t):=by
 intro Io s Z H v u Q I r h;rw[ha];refine aa (c9 (thn (ho Io s Z H _ I h) λov s1 ⟨x,H1,I1,r1,q1⟩=>?_));refine aa (c9 (thn (hi Io s1 Z H1 _ I1 q1) λiv s2 ⟨y,H2,I2,r2,q2⟩=>?_));refine aa (mG (aa (c9 (thn (hs Io s2 Z H2 x y v ov iv u _ I2 r1 r2 r q2) λ_ s3 ⟨H3,I3,q3⟩=>?_))));exact wpAny_release ⟨Z,H3,I3,q3⟩
def uE(g:TG)(D:Ends)(Z:St):VK:=λx H1=>g x Z H1 D.nx
def kh(te:TE)(g:TG):TS:=λD Z H=>te Z H (uE g D Z)
theorem fI{tg e:Expr}{te:TE}{g:TG}(he:PE X e te)(b:PG X tg g)(c:swapsWithSole [tg] e pos.line X.env=pure false:=by rfl)(hw:swappedStores [tg] e X.env=pure none:=by rfl)
  (h1:(assignEach [tg] X.env).map (·.2)=[assign tg X.env]:=by rfl):PS X (.Assign [tg] e pos) (kh te g):=by
 intro Io s Z H D I h;refine wpAny_Assign_stores (thn (he Io s Z H _ I h) λv s1 ⟨x,H1,d,f,i⟩=>?_) c hw;rw[h1];exact thn (b Io s1 Z H1 x v _ d f i) λ_ s2 q=>q
theorem lB{i:Nat}{x:Str}{e:Expr}{te:TE}{pos':Pos}(b:X.N.Nodup)(hi:X.N[i]?=some x)(c:Loc X.env.scope x)(he:PE X e te)(d:swapsWith e (some (.Name x pos')) pos.line X.env=pure false:=by rfl)(hf:X.fn x=true\/X.env.scope.names.lookup x=some .local:=by first|exact .inl rfl|exact .inr rfl|assumption) :
  PS X (.Assign [.Name x pos'] e pos) (kh te (bO i)):=by
 intro Io s Z H D I h;refine wpAny_Assign_Name (thn (he Io s Z H _ I h) λv s1 ⟨y,H1,f,g,l⟩=>?_) d;exact qT f b hi c g (λs2 m=>⟨_,H1,m,l⟩) hf
theorem sx(i:Nat){x:Str}{e:Expr}{te:TE}{pos':Pos}(b:X.N.Nodup)(he:PE X e te)(hi:X.N[i]?=some x:=by rfl)(c:Loc X.env.scope x:=by first|exact .inl rfl|exact .inr rfl)(d:swapsWith e (some (.Name x pos')) pos.line X.env=pure false:=by rfl)(hf:X.fn x=true\/X.env.scope.names.lookup x=some .local:=by first|exact .inl rfl|exact .inr rfl|assumption):PS X (.Assign [.Name x pos'] e pos) (kh te (bO i)):=lB b hi c he d hf
end
section
variable {pos:Pos}
def tWhN(tb:TS)(D:Ends)(W:Nat->St->Hp->Prop)(m:Nat)(Z:St)(H1:Hp)(N:St->Hp->Prop):Prop:=(∀Z' H',N Z' H'->∃b,b<m/\W b Z' H')/\tb {D with nx:=N,ct:=N,bk:=D.nx} Z H1
def tWhK(tb:TS)(D:Ends)(W:Nat->St->Hp->Prop)(m:Nat)(Z:St):Bool->Hp->Prop:=λb H1=>if b=true then Exists (tWhN tb D W m Z H1) else D.nx Z H1
def tWhB(c:TT)(tb:TS)(D:Ends)(Z:St)(H:Hp)(W:Nat->St->Hp->Prop):Prop:=(∃m,W m Z H)/\∀m Z H,W m Z H->c Z H (tWhK tb D W m Z)
def og(c:TT)(tb:TS):TS:=λD Z H=>Exists (tWhB c tb D Z H)
theorem fB{c:Expr}{body:List Stmt}{tc:TT}{tb:TS}(r:PassesOwn (model X.prog X.w) X.A X.env X.xe)(y:PT X c tc)(z:PSs X body tb):PS X (.While c body [] pos) (og tc tb):=by
 intro Io s Z H D I h;obtain⟨W,⟨B,C⟩,turn⟩:=h;refine wpAny_While (codeAny_whileLoop (λn s'=>∃Z' H',Inv X Io Z' H' s'/\W n Z' H') ?_ B ⟨Z,H,I,C⟩);rintro n s1 ⟨g,H1,E,K⟩;refine iY r (thn (y Io s1 g H1 _ E (turn n g H1 K)) λb s2 ⟨H2,u,i⟩=>?_);cases b with
 |true=>
  obtain⟨N,x,i⟩:=i;rw[Ij rfl];refine iY r (thn (z Io s2 g H2 _ u i) λf L l=>?_);cases f with
  |next=>
   obtain⟨d,e,m,o⟩:=l;obtain⟨p,hm,q⟩:=x d e o;exact⟨p,hm,d,e,m,q⟩
  |cont=>
   obtain⟨d,e,m,o⟩:=l;obtain⟨p,hm,q⟩:=x d e o;exact⟨p,hm,d,e,m,q⟩
  |brk=>exact l
  |ret v=>exact l
 |false=>
  rw[Ii a8];exact pG ⟨g,H2,u,i⟩
end
structure It where
 go:Nat->Hp->Prop
 yld:Nat->Hp->V->Hp->Prop
 stop:Nat->Hp->Prop
def bS(X:Cx)(Io:List (Addr×Obj))(H:Hp)(b:Addr):Prop:=
 H b=none/\b≠X.env.locals/\b∉X.fs/\(b∈X.ex\/X.s₀.heap.objs.size<=b)/\(∀x c,X.env.cells.lookup x=some c->c≠b)/\∀p∈X.pn++Io,p.1≠b
theorem Inv.fpOk{b:Addr}(I:Inv X Io Z H s)(d:s.heap.objs.size<=b)(f:H' b=none):bS X Io H' b:=by
 refine⟨f,mq (bL I.lt d),I.nofs d,.inr (bQ I.sz d),λx c e z=>?_,λp g z=>?_⟩
 .obtain⟨v,q⟩:=I.cell x c e;exact absurd (bL q.lt (by rw[z];exact d)) (cT _)
 exact absurd (bL (aH (I.pin p g).1) (by rw[z];exact d)) (cT _)
structure Turn(P:Program)(w:World)(K:W.Frag)(tg:Expr)(J:It)(fp:List Addr)(it:Addr)(tn:Nat->Heap->Prop):Prop where
 mem:it∈fp
 obj:∀i h,tn i h->∀b∈fp,∃o,h.get? b=some o/\∀v,o.data≠.cell v
 keep:∀i h h',tn i h->(∀b∈fp,∀o,h.get? b=some o->h'.get? b=some o)->tn i h'
 item:∀(X:Cx),X.prog=P->X.w=w->X.K=K->X.calm=true->∀(i:Nat)(Io:List (Addr×Obj))(s:Shared)(Z:St)(H:Hp)(E:Value->Shared->Prop),Inv X Io Z H s->(∀b∈fp,bS X Io H b)->tn i s.heap->J.go i H->
  wpAny (model P w) X.A (pyNext (.ref it)) (λr s1=>∃u,r=some u/\
   wpAny (model P w) X.A (letOwnedTupleGo tg (.ref it) u) (λ_ s2=>∃x H',Inv X Io Z H' s2/\ar x u/\J.yld i H x H'/\tn (i+1) s2.heap/\∀b∈fp,H' b=none) E s1) E s
 done:∀(X:Cx),X.prog=P->X.w=w->X.K=K->X.calm=true->∀(i:Nat)(Io:List (Addr×Obj))(s:Shared)(Z:St)(H:Hp)(E:Value->Shared->Prop),Inv X Io Z H s->(∀b∈fp,bS X Io H b)->tn i s.heap->J.stop i H->
  wpAny (model P w) X.A (pyNext (.ref it)) (λr s1=>r=none/\Inv X Io Z H s1) E s
 self:∀(A:Around)(i:Nat)(s:Shared)(Q:Value->Shared->Prop)(E:Value->Shared->Prop),tn i s.heap->Q (.ref it) s->wpAny (model P w) A (pyIter (.ref it)) Q E s
abbrev TI:=St->Hp->(It->Hp->Prop)->Prop
def PIE(X:Cx)(Io:List (Addr×Obj))(Z:St)(tg:Expr)(R:It->Hp->Prop)(d:Value)(s2:Shared):Prop:=
 ∃(it:Addr)(fp:List Addr)(c:Nat->Heap->Prop)(J:It)(H':Hp),d=.ref it/\Inv X Io Z H' s2/\Turn X.prog X.w X.K tg J fp it c/\c 0 s2.heap/\(∀b∈fp,bS X Io H' b)/\R J H'
def PI(X:Cx)(tg iter:Expr)(wi:TI):Prop:=
 ∀(Io:List (Addr×Obj))(s:Shared)(Z:St)(H:Hp)(R:It->Hp->Prop),Inv X Io Z H s->wi Z H R->
  wpAny (model X.prog X.w) X.A (eval iter X.env) (λv s1=>wpAny (model X.prog X.w) X.A (pyIter v) (PIE X Io Z tg R) X.xe s1) X.xe s
theorem lV{M:Model}{tg:Expr}{it:Addr}{u:Value}{o:Obj}{n:String}{vs:Array Value}{Q:Unit->Shared->Prop}(c:s.heap.get? it=some o)(d:o.cls=.type n)(hd:o.data=.fields vs)
  (e:["enumerate","zip","dict_itemiterator","dict_reverseitemiterator","odict_iterator","itertools.zip_longest","itertools.pairwise"].contains n=false) (b:Q () s):wpAny M A (letOwnedTupleGo tg (.ref it) u) Q E s:=by
 unfold letOwnedTupleGo;cases tg<;>first
  |exact aj b
  |(cases u<;>first
    |exact aj b
    |(refine aa (vP c ?_)
      rw[d,hd];show wpAny M A (if (["enumerate","zip","dict_itemiterator","dict_reverseitemiterator","odict_iterator","itertools.zip_longest","itertools.pairwise"].contains n&&vs[0]?==some (rawInt _))=true then _ else _) Q E s;rw[Ii (by intro h;rw[e,Bool.false_and] at h;cases h)];exact aj b))
def Itl(K:W.Frag)(a:Addr):It:=
 ⟨λi H=>∃xs x,SqL K H a xs/\xs[i]?=some x,λi H x H'=>H'=H/\∀xs,SqL K H a xs->xs[i]?=some x,λi H=>∃xs,SqL K H a xs/\xs.length<=i⟩
def Itt(K:W.Frag)(a:Addr):It:=
 ⟨λi H=>∃xs x,SqT K H a xs/\xs[i]?=some x,λi H x H'=>H'=H/\∀xs,SqT K H a xs->xs[i]?=some x,λi H=>∃xs,SqT K H a xs/\xs.length<=i⟩
def Itr(lo:Int)(n:Nat):It:=⟨λi _=>i<n,λi H x H'=>H'=H/\x=.int (lo+i),λi _=>n<=i⟩
theorem xN{tg:Expr}(a it:Addr):Turn P w K tg (Itl [] a) [it] it (λi h=>h.IsListIter it a i) where
 mem:=by simp
 obj:=λi h st b f=>by
  have e:b=it:=by simpa using f
  subst e;obtain⟨o,e,c,d⟩:=st;exact⟨o,e,λv z=>by rw[d] at z;cases z⟩
 keep:=λi h h' st k=>st.at λo e=>k it (by simp) o e
 item:=by intro X l hw m L i Io s Z H E I hf st n;subst l hw m;obtain⟨xs,x,g,q⟩:=n;obtain⟨N,r,p,O⟩:=I.list g;obtain⟨u,Q,R⟩:=r.get q;obtain⟨y,A,S,B,C,D⟩:=hf it (by simp);refine GE st p.isList (x:=u) (by simpa using Q) λh' M sb=>?_;have T:Inv X Io Z H {s with heap:=h'}:=I.turned (t':=s.toks) (λb o f e=>(sb.2 b f).trans e) y A B C D;obtain⟨o,e,c,d⟩:=id M;exact⟨u,rfl,lV (s:={s with heap:=h'}) e c d (by decide) ⟨x,H,T,R,⟨rfl,λys U=>by rw[I.list_inj U g];exact q⟩,M,λb f=>(hf b f).1⟩⟩
 done:=by intro X l hw m L i Io s Z H E I hf st n;subst l hw m;obtain⟨xs,g,q⟩:=n;obtain⟨N,r,p,O⟩:=I.list g;obtain⟨y,A,S,B,C,D⟩:=hf it (by simp);have hl:=r.length;exact Gz (I.ok.hd L) st p.isList (by simp;lia) λh' Y=>⟨rfl,I.turned (t':=s.toks) (λb o f e=>Y b o f e) y A B C D⟩
 self:=λ_ _ _ _ _ st h=>wpAny_pyIter_listiter st h
theorem w8{tg:Expr}(a it:Addr):Turn P w K tg (Itt [] a) [it] it (λi h=>h.IsTupleIter it a i) where
 mem:=by simp
 obj:=λi h st b f=>by
  have e:b=it:=by simpa using f
  subst e;obtain⟨o,e,c,d⟩:=st;exact⟨o,e,λv z=>by rw[d] at z;cases z⟩
 keep:=λi h h' st k=>st.at λo e=>k it (by simp) o e
 item:=by intro X l hw m M i Io s Z H E I hf st n;subst l hw m;obtain⟨xs,x,g,q⟩:=n;obtain⟨r,y,p,O⟩:=I.tuple g;obtain⟨u,Q,R⟩:=y.get q;obtain⟨A,B,S,C,D,L⟩:=hf it (by simp);refine wpAny_pyNext_tuple_item st (show s.heap.IsTuple a r.toArray from p) (x:=u) (by simpa using Q) λh' N sb=>?_;have T:Inv X Io Z H {s with heap:=h'}:=I.turned (t':=s.toks) (λb o f e=>(sb.2 b f).trans e) A B C D L;obtain⟨o,e,c,d⟩:=id N;exact⟨u,rfl,lV (s:={s with heap:=h'}) e c d (by decide) ⟨x,H,T,R,⟨rfl,λys U=>by rw[I.tuple_inj U g];exact q⟩,N,λb f=>(hf b f).1⟩⟩
 done:=by intro X l hw m M i Io s Z H E I hf st n;subst l hw m;obtain⟨xs,g,q⟩:=n;obtain⟨r,y,p,O⟩:=I.tuple g;obtain⟨A,B,S,C,D,L⟩:=hf it (by simp);have hl:=y.length;exact wpAny_pyNext_tuple_end (I.ok.hd M) st (show s.heap.IsTuple a r.toArray from p) (by simp;lia) λh' Y=>⟨rfl,I.turned (t':=s.toks) (λb o f e=>Y b o f e) A B C D L⟩
 self:=λ_ _ _ _ _ st h=>wpAny_pyIter_tupleiter st h
theorem w9{tg:Expr}(it:Addr)(lo:Int)(n:Nat):Turn P w K tg (Itr lo n) [it] it (λi h=>IsRangeIter h it (lo+(i:Nat)*1) ((n:Int)-(i:Nat)) 1) where
 mem:=by simp
 obj:=λi h st b c=>by
  have e:b=it:=by simpa using c
  subst e;exact⟨_,st,λv z=>by
   have y:Data.fields _=Data.cell v:=z;cases y⟩
 keep:=λi h h' st k=>k it (by simp) _ st
 item:=by intro X d hw f g i Io s Z H E I hf st l;subst d hw f;obtain⟨m,p,A,q,r,u⟩:=hf it (by simp);have W:=Walks.range (prog:=X.prog) (w:=X.w) (I.ok.hd g) it lo 1 n;refine W.item i s _ _ l st λv h' tk B x C=>?_;obtain⟨t,rfl⟩:=B;have D:Inv X Io Z H {s with heap:=h',toks:=tk}:=I.turned (λb o c e=>C b o (by simpa using c) e) m p q r u;refine⟨_,rfl,lV (s:={s with heap:=h',toks:=tk}) (n:="range_iterator") x rfl rfl (by decide) ⟨.int (lo+i),H,D,⟨t,?_⟩,⟨rfl,rfl⟩,x,λb c=>(hf b c).1⟩⟩;rw[Int.mul_one]
 done:=by intro X d hw f g i Io s Z H E I hf st l;subst d hw f;obtain⟨m,p,A,q,r,u⟩:=hf it (by simp);exact wpAny_pyNext_range_end (I.ok.hd g) st (by have:n<=i:=l;lia) λh' L=>⟨rfl,I.turned (t':=s.toks) (λb o c e=>L b o c e) m p q r u⟩
 self:=λ_ _ _ _ _ st h=>wpAny_pyIter_rangeiter st h
end L2
namespace L2
open PySem PySem.Spec PyProof.Rows
section
variable {tg:Expr}
def DH(K:W.Frag)(R:It->Hp->Prop)(x:V)(H1:Hp)(a:Addr):Prop:=x=.ref a/\(∃xs,SqL K H1 a xs)/\R (Itl K a) H1
def DG(K:W.Frag)(R:It->Hp->Prop):VK:=λx H1=>Exists (DH K R x H1)
def E2(K:W.Frag)(tl:TE):TI:=λZ H R=>tl Z H (DG K R)
def EZ(K:W.Frag)(R:It->Hp->Prop)(x:V)(H1:Hp)(a:Addr):Prop:=x=.ref a/\(∃xs,SqT K H1 a xs)/\R (Itt K a) H1
def EY(K:W.Frag)(R:It->Hp->Prop):VK:=λx H1=>Exists (EZ K R x H1)
def oQ(K:W.Frag)(tl:TE):TI:=λZ H R=>tl Z H (EY K R)
theorem ba{l:Expr}{tl:TE}(d:PE X l tl):PI X tg l (E2 [] tl):=by
 intro Io s Z H R I h;refine thn (d Io s Z H _ I h) λv s1 ⟨x,H1,c,f,g⟩=>?_;obtain⟨a,e,⟨xs,i⟩,q⟩:=g;subst e;cases f;obtain⟨n,r,p,u⟩:=c.list i;refine pK p.isList ?_;refine⟨s1.heap.objs.size,[s1.heap.objs.size],_,_,H1,rfl,c.kept (t':=s1.toks) λb o e=>aE _ e,xN a _,⟨_,a9 _ rfl,rfl,rfl⟩,λb m=>?_,q⟩;have e:b=s1.heap.objs.size:=by simpa using m
 subst e;exact c.fpOk (ai _) (c.hok.fresh (ai _))
theorem gB{l:Expr}{tl:TE}(d:PE X l tl):PI X tg l (oQ [] tl):=by
 intro Io s Z H R I h;refine thn (d Io s Z H _ I h) λv s1 ⟨x,H1,c,f,g⟩=>?_;obtain⟨a,e,⟨xs,i⟩,q⟩:=g;subst e;cases f;obtain⟨m,r,p,u⟩:=c.tuple i;refine wpAny_pyIter_tuple (show s1.heap.IsTuple a m.toArray from p) ?_;refine⟨s1.heap.objs.size,[s1.heap.objs.size],_,_,H1,rfl,c.kept (t':=s1.toks) λb o e=>aE _ e,w8 a _,⟨_,a9 _ rfl,rfl,rfl⟩,λb n=>?_,q⟩;have e:b=s1.heap.objs.size:=by simpa using n
 subst e;exact c.fpOk (ai _) (c.hok.fresh (ai _))
theorem zJ{R:It->Hp->Prop}{lo hi:Int}{t u v:Tok}{tk:Nat}(I:Inv X Io Z H s)(h1:-(2 ^ 62)<=lo)(h2:lo<2 ^ 62)(d:-(2 ^ 62)<=hi)(f:hi<2 ^ 62)
  (q:R (Itr lo (hi-lo).toNat) H):wpAny (model X.prog X.w) X.A (pyIter (.ref s.heap.objs.size)) (PIE X Io Z tg R) E {s with heap:=s.heap.push {cls:=.type "range",data:=.fields #[.int lo t,.int hi u,.int 1 v]},toks:=tk}:=by
 refine wpAny_pyIter_range (IsRange.new ..) (small_one h1 h2 d f) ?_;have c:Inv X Io Z H {s with heap:=s.heap.push {cls:=.type "range",data:=.fields #[.int lo t,.int hi u,.int 1 v]},toks:=tk}:=I.kept λb o e=>aE _ e;refine⟨(s.heap.push {cls:=.type "range",data:=.fields #[.int lo t,.int hi u,.int 1 v]}).objs.size,[(s.heap.push {cls:=.type "range",data:=.fields #[.int lo t,.int hi u,.int 1 v]}).objs.size],_,_,H,rfl,
  c.kept (t':=tk) λb o e=>aE _ e,w9 _ lo (hi-lo).toNat,?_,λb g=>?_,q⟩
 .have h:lo+((0:Nat):Int)*1=lo:=by simp
  have i:(((hi-lo).toNat:Nat):Int)-((0:Nat):Int)=Builtin.Range.rangeSize lo hi 1:=by rw[rangeSize_one];split<;>lia
  show IsRangeIter _ _ (lo+((0:Nat):Int)*1) ((((hi-lo).toNat:Nat):Int)-((0:Nat):Int)) 1;rw[h,i];exact a9 _ rfl
 have e:b=(s.heap.push {cls:=.type "range",data:=.fields #[.int lo t,.int hi u,.int 1 v]}).objs.size:=by simpa using g
 subst e;exact c.fpOk (ai _) (c.hok.fresh (ai _))
def DF(R:It->Hp->Prop)(vs:List V)(H1:Hp)(j:Int):Prop:=vs=[.int j]/\-(2 ^ 62)<=j/\j<2 ^ 62/\R (Itr 0 j.toNat) H1
def DE(R:It->Hp->Prop):List V->Hp->Prop:=λvs H1=>Exists (DF R vs H1)
def E1(ta:TA):TI:=λZ H R=>ta Z H (DE R)
theorem fm{a:Expr}{ta:TA}{p pos:Pos}(c:Gl X "range")(hm:X.mg "range" = none)(ha:PA X [a] ta)(d:starEach [a] X.env=[(false,eval a X.env)]:=by rfl):PI X tg (.Call (.Name "range" p) [a] [] pos) (E1 ta):=by
 intro Io s Z H R I h;refine Call_ (jZ I c hm boot_range (vk (thn (ha pos Io s Z H _ I h) λus s1 ⟨vs,H1,f,g,b⟩=>?_) d rfl));obtain⟨j,e,b,i,q⟩:=b;subst e;cases g with
 |cons r l=>
  cases l;obtain⟨t,rfl⟩:=r;exact call_range_1 (zJ f (by lia) (by lia) b i (by simpa using q))
def Eg(J:It)(g:TG)(tb:TS)(D:Ends)(W:Nat->Nat->St->Hp->Prop)(i m:Nat)(Z:St)(H:Hp)(N:St->Hp->Prop):Prop:=(∀Z' H',N Z' H'->∃b,b<m/\W (i+1) b Z' H')/\∀x H',J.yld i H x H'->g x Z H' (tb {D with nx:=N,ct:=N,bk:=D.nx})
def Ei(g:TG)(tb:TS)(D:Ends)(Z:St)(J:It)(H1:Hp)(W:Nat->Nat->St->Hp->Prop):Prop:=(∃m,W 0 m Z H1)/\∀i m Z H,W i m Z H->(J.stop i H/\D.nx Z H)\/(J.go i H/\Exists (Eg J g tb D W i m Z H))
def Eh(g:TG)(tb:TS)(D:Ends)(Z:St):It->Hp->Prop:=λJ H1=>Exists (Ei g tb D Z J H1)
def tFor(wi:TI)(g:TG)(tb:TS):TS:=λD Z H=>wi Z H (Eh g tb D Z)
def iy(fp:List Addr)(h:Heap):List (Addr×Obj):=fp.filterMap λb=>(h.get? b).map λo=>(b,o)
theorem f_{fp:List Addr}{h:Heap}{b:Addr}{o:Obj}(c:b∈fp)(e:h.get? b=some o):(b,o)∈iy fp h:=List.mem_filterMap.mpr ⟨b,c,by rw[e];rfl⟩
theorem yu{fp:List Addr}{h:Heap}{p:Addr×Obj}(c:p∈iy fp h):p.1∈fp/\h.get? p.1=some p.2:=by
 obtain⟨b,d,e⟩:=List.mem_filterMap.mp c;cases q:h.get? b with
 |none=>rw[q] at e;cases e
 |some o=>
  rw[q] at e;have f:(b,o)=p:=cq e;subst f;exact⟨d,q⟩
theorem Inv.pinned{fp:List Addr}(I:Inv X Io Z H s)(hf:∀b∈fp,bS X Io H b)(g:∀b∈fp,∃o,s.heap.get? b=some o/\∀v,o.data≠.cell v):Inv X (Io++iy fp s.heap) Z H s:=
 I.pins_of λp h=>(List.mem_append.mp h).elim (λz=>I.pin p (List.mem_append_right _ z)) λz=>by
  obtain⟨c,e⟩:=yu z;obtain⟨i,l,m,_⟩:=hf p.1 c;obtain⟨o,f,d⟩:=g p.1 c;rw[e] at f;cases f;exact⟨e,i,l,m,d⟩
theorem Inv.unpinned{Io pl:List (Addr×Obj)}(I:Inv X (Io++pl) Z H s):Inv X Io Z H s:=I.pins_of λp b=>I.pin p (List.mem_append_right _ (List.mem_append_left _ b))
theorem bh{iter:Expr}{body:List Stmt}{wi:TI}{g:TG}{tb:TS}{pos:Pos}(z:PassesOwn (model X.prog X.w) X.A X.env X.xe)(P:X.calm=true)(hi:PI X tg iter wi)(hg:PG X tg g)(c:PSs X body tb)
  (hs:∀x,foldedSetIterable iter X.env x=pure x:=by intro _;rfl):PS X (.For tg iter body [] pos) (tFor wi g tb):=by
 intro Io s Z H D I h;refine wpAny_For (thn (hi Io s Z H _ I h) λv s1 h1=>thn h1 λan s2 h2=>?_) hs;obtain⟨it,fp,Q,J,H2,e,I2,T,ad,R,W,⟨m0,w0⟩,turn⟩:=h2;subst e;have K:∀{H':Hp},(∀b∈fp,H' b=none)->∀b∈fp,bS X Io H' b:=λhn b c=>⟨hn b c,(R b c).2⟩;refine codeAny_forLoop_any (λn s'=>∃i Z' H',Inv X Io Z' H' s'/\Q i s'.heap/\(∀b∈fp,H' b=none)/\W i n Z' H') ?_ m0 ⟨0,Z,H2,I2,ad,λb c=>(R b c).1,w0⟩;rintro n S ⟨i,B,E,U,Y,ab,w3⟩;rcases turn i n B E w3 with ⟨stop,qn⟩|⟨go,N,hN,step⟩
 .refine iY z (thn (T.done X rfl rfl rfl P i Io S B E X.xe U (K ab) Y stop) λr s4 ⟨L,I4⟩=>?_);subst L;exact pG ⟨B,E,I4,qn⟩
 refine iY z (thn (T.item X rfl rfl rfl P i Io S B E X.xe U (K ab) Y go) λr s4 ⟨u,L,h4⟩=>?_);subst L;refine iY z (thn h4 λ_ s5 ⟨x,H5,I5,r5,y5,M,al⟩=>?_);have am:=I5.pinned (K al) (T.obj _ _ M);refine iY z (thn (hg _ s5 B H5 x u _ am r5 (step x H5 y5)) λ_ s6 ⟨Z6,H6,I6,q6⟩=>?_);refine iY z (thn (c _ s6 Z6 H6 _ I6 q6) λf O y=>?_);have again:∀{l:St}{p:Hp},Inv X (Io++iy fp s5.heap) l p O->N l p->∃m,m<n/\∃i Z' H',Inv X Io Z' H' O/\Q i O.heap/\(∀b∈fp,H' b=none)/\W i m Z' H':=λ{l p} q C=>by
  obtain⟨m',hm,w7⟩:=hN l p C;refine⟨m',hm,i+1,l,p,q.unpinned,T.keep _ _ _ M λb c o e=>(q.pin (b,o) (List.mem_append_right _ (List.mem_append_right _ (f_ c e)))).1,λb c=>?_,w7⟩;obtain⟨o,e,d⟩:=T.obj _ _ M b c;exact (q.pin (b,o) (List.mem_append_right _ (List.mem_append_right _ (f_ c e)))).2.1
 cases f with
 |next=>obtain⟨l,p,q,C⟩:=y;exact again q C
 |cont=>obtain⟨l,p,q,C⟩:=y;exact again q C
 |brk=>obtain⟨l,p,q,y⟩:=y;exact⟨l,p,q.unpinned,y⟩
 |ret v=>obtain⟨x7,l,p,q,r7,y⟩:=y;exact⟨x7,l,p,q.unpinned,r7,y⟩
end
theorem cA{a:Addr}{g:TG}{tb:TS}{D:Ends}(Pv:Nat->St->Hp->Prop)(d:Pv 0 Z H)(f:∀i Z H,i<=xs.length->Pv i Z H->SqL K H a xs)
  (h:∀i x Z H,xs[i]?=some x->Pv i Z H->g x Z H λσ2 H2=>tb {D with nx:=Pv (i+1),ct:=Pv (i+1),bk:=D.nx} σ2 H2) (hd:∀Z H,Pv xs.length Z H->D.nx Z H) :
  ∃W:Nat->Nat->St->Hp->Prop,(∃m,W 0 m Z H)/\∀i m Z H,W i m Z H->
   ((Itl K a).stop i H/\D.nx Z H)\/((Itl K a).go i H/\∃N:St->Hp->Prop,(∀Z' H',N Z' H'->∃b,b<m/\W (i+1) b Z' H')/\∀x H',(Itl K a).yld i H x H'->g x Z H' λσ2 H2=>tb {D with nx:=N,ct:=N,bk:=D.nx} σ2 H2):=by
 refine⟨λi m Z H=>m=xs.length-i/\i<=xs.length/\Pv i Z H,⟨xs.length,by simp,aD _,d⟩,?_⟩;rintro i m Z H ⟨rfl,hi,p⟩;have q:=f i Z H hi p;by_cases c:i<xs.length
 .refine .inr ⟨⟨xs,xs[i],q,by simp[c]⟩,Pv (i+1),λZ' H' l=>⟨xs.length-(i+1),by lia,rfl,c,l⟩,λx H' y=>?_⟩;obtain⟨e,y⟩:=y;subst e;exact h i x Z _ (y xs q) p
 have e:i=xs.length:=by lia
 subst e;exact .inl ⟨⟨xs,q,ai _⟩,hd Z H p⟩
theorem tE{a:Addr}{g:TG}{tb:TS}{D:Ends}(Pv:Nat->St->Hp->Prop)(d:Pv 0 Z H)(f:∀i Z H,i<=xs.length->Pv i Z H->SqT K H a xs)
  (h:∀i x Z H,xs[i]?=some x->Pv i Z H->g x Z H λσ2 H2=>tb {D with nx:=Pv (i+1),ct:=Pv (i+1),bk:=D.nx} σ2 H2) (hd:∀Z H,Pv xs.length Z H->D.nx Z H) :
  ∃W:Nat->Nat->St->Hp->Prop,(∃m,W 0 m Z H)/\∀i m Z H,W i m Z H->
   ((Itt K a).stop i H/\D.nx Z H)\/((Itt K a).go i H/\∃N:St->Hp->Prop,(∀Z' H',N Z' H'->∃b,b<m/\W (i+1) b Z' H')/\∀x H',(Itt K a).yld i H x H'->g x Z H' λσ2 H2=>tb {D with nx:=N,ct:=N,bk:=D.nx} σ2 H2):=by
 refine⟨λi m Z H=>m=xs.length-i/\i<=xs.length/\Pv i Z H,⟨xs.length,by simp,aD _,d⟩,?_⟩;rintro i m Z H ⟨rfl,hi,p⟩;have q:=f i Z H hi p;by_cases c:i<xs.length
 .refine .inr ⟨⟨xs,xs[i],q,by simp[c]⟩,Pv (i+1),λZ' H' l=>⟨xs.length-(i+1),by lia,rfl,c,l⟩,λx H' y=>?_⟩;obtain⟨e,y⟩:=y;subst e;exact h i x Z _ (y xs q) p
 have e:i=xs.length:=by lia
 subst e;exact .inl ⟨⟨xs,q,ai _⟩,hd Z H p⟩
theorem hV{lo:Int}{n:Nat}{g:TG}{tb:TS}{D:Ends}(Pv:Nat->St->Hp->Prop)(d:Pv 0 Z H)
  (f:∀i Z H,i<n->Pv i Z H->g (.int (lo+i)) Z H λσ2 H2=>tb {D with nx:=Pv (i+1),ct:=Pv (i+1),bk:=D.nx} σ2 H2) (hd:∀Z H,Pv n Z H->D.nx Z H) :
  ∃W:Nat->Nat->St->Hp->Prop,(∃m,W 0 m Z H)/\∀i m Z H,W i m Z H->
   ((Itr lo n).stop i H/\D.nx Z H)\/((Itr lo n).go i H/\∃N:St->Hp->Prop,(∀Z' H',N Z' H'->∃c,c<m/\W (i+1) c Z' H')/\∀x H',(Itr lo n).yld i H x H'->g x Z H' λσ2 H2=>tb {D with nx:=N,ct:=N,bk:=D.nx} σ2 H2):=by
 refine⟨λi m Z H=>m=n-i/\i<=n/\Pv i Z H,⟨n,by simp,aD _,d⟩,?_⟩;rintro i m Z H ⟨rfl,hi,p⟩;by_cases b:i<n
 .refine .inr ⟨b,Pv (i+1),λZ' H' h=>⟨n-(i+1),by lia,rfl,b,h⟩,λx H' y=>?_⟩;obtain⟨e,y⟩:=y;subst e y;exact f i Z _ b p
 have e:i=n:=by lia
 subst e;exact .inl ⟨ai _,hd Z H p⟩
end L2
namespace L2
open PySem PySem.Spec PyProof.Rows
abbrev R2:=V->V->Hp->VK->Prop
def OpR(X:Cx)(f:Value->Value->Sem Value)(r:R2):Prop:=
 ∀(Io:List (Addr×Obj))(s:Shared)(Z:St)(H:Hp)(x y:V)(v u:Value)(Q:VK),Inv X Io Z H s->ar x v->ar y u->r x y H Q->
  wpAny (model X.prog X.w) X.A (f v u) (EP X Io Z Q) X.xe s
def UnR(X:Cx)(f:Value->Sem Value)(r:V->Hp->VK->Prop):Prop:=
 ∀(Io:List (Addr×Obj))(s:Shared)(Z:St)(H:Hp)(x:V)(v:Value)(Q:VK),Inv X Io Z H s->ar x v->r x H Q->
  wpAny (model X.prog X.w) X.A (f v) (EP X Io Z Q) X.xe s
def bJ(X:Cx)(f:Value)(r:List V->Hp->VK->Prop):Prop:=
 ∀(Io:List (Addr×Obj))(s:Shared)(Z:St)(H:Hp)(xs:List V)(us:List Value)(Q:VK),Inv X Io Z H s->Vals xs us->r xs H Q->
  wpAny (model X.prog X.w) X.A (call f us) (EP X Io Z Q) X.xe s
def TruR(X:Cx)(r:V->Hp->(Bool->Hp->Prop)->Prop):Prop:=
 ∀(Io:List (Addr×Obj))(s:Shared)(Z:St)(H:Hp)(x:V)(v:Value)(Q:Bool->Hp->Prop),Inv X Io Z H s->ar x v->r x H Q->
  wpAny (model X.prog X.w) X.A (truthy v) (TP X Io Z Q) X.xe s
def tOp2(r:R2)(x:V)(Q:VK):VK:=λy H2=>r x y H2 Q
def tOp1(r:R2)(tb:TE)(Z:St)(Q:VK):VK:=λx H1=>tb Z H1 (tOp2 r x Q)
def tOp(r:R2)(ta tb:TE):TE:=λZ H Q=>ta Z H (tOp1 r tb Z Q)
def tUnK(r:V->Hp->VK->Prop)(Q:VK):VK:=λx H1=>r x H1 Q
def tUn(r:V->Hp->VK->Prop)(ta:TE):TE:=λZ H Q=>ta Z H (tUnK r Q)
def rIB(C:Int->Int->Prop)(g:Int->Int->V)(x y:V)(H:Hp)(Q:VK)(i j:Int):Prop:=x=.int i/\y=.int j/\C i j/\Q (g i j) H
def rI(C:Int->Int->Prop)(g:Int->Int->V):R2:=λx y H Q=>Exists (Ex2 (rIB C g x y H Q))
def rI0B(g:Int->Int->V)(x y:V)(H:Hp)(Q:VK)(i j:Int):Prop:=x=.int i/\y=.int j/\Q (g i j) H
def rI0(g:Int->Int->V):R2:=λx y H Q=>Exists (Ex2 (rI0B g x y H Q))
def rUB(g:Int->V)(x:V)(H:Hp)(Q:VK)(i:Int):Prop:=x=.int i/\Q (g i) H
def rU(g:Int->V):V->Hp->VK->Prop:=λx H Q=>Exists (rUB g x H Q)
section
variable {a b c:Expr}{ta tb tc:TE}{pos:Pos}
theorem oS(ha:PE X a ta)(c:PE X b tb){R:V->V->Hp->Prop}(I:Inv X Io Z H s)
  (h:ta Z H λx H1=>tb Z H1 λy H2=>R x y H2) {Q:Value->Shared->Prop} {f:Value->Value->Sem Value}
  (hf:∀v u s2 x y H2,Inv X Io Z H2 s2->ar x v->ar y u->R x y H2->wpAny (model X.prog X.w) X.A (f v u) Q X.xe s2) :
  wpAny (model X.prog X.w) X.A (eval a X.env) (λv s₁=>wpAny (model X.prog X.w) X.A (eval b X.env) (λu s₂=>wpAny (model X.prog X.w) X.A (f v u) Q X.xe s₂) X.xe s₁) X.xe s:=by
 refine thn (ha Io s Z H _ I h) λv s1 ⟨x,H1,d,e,g⟩=>?_;refine thn (c Io s1 Z H1 _ d g) λu s2 ⟨y,H2,i,l,m⟩=>?_;exact hf v u s2 x y H2 i e l m
theorem au{op:Operator}{r:R2}(c:OpR X (binaryOp op) r)(ha:PE X a ta)(d:PE X b tb):PE X (.BinOp a op b pos) (tOp r ta tb):=by intro Io s Z H Q I h;exact wpAny_BinOp (oS ha d I h λv u s2 x y H2 e f g q=>c Io s2 Z H2 x y v u Q e f g q)
theorem fM{op:UnaryOp}{r:V->Hp->VK->Prop}(b:UnR X (unaryOp op) r)(ha:PE X a ta):PE X (.UnaryOp op a pos) (tUn r ta):=by intro Io s Z H Q I h;exact UnaryOp_ (thn (ha Io s Z H _ I h) λv s1 ⟨x,H1,c,d,e⟩=>b Io s1 Z H1 x v Q c d e)
theorem opI{f:Value->Value->Sem Value}{C:Int->Int->Prop}{g:Int->Int->Int}
  (rule:∀(i j:Int)(t u:Tok)(s:Shared)(Q:Value->Shared->Prop)(E:Value->Shared->Prop),C i j->Q (.int (g i j) s.toks) {s with toks:=s.toks+1}->wpAny (model X.prog X.w) X.A (f (.int i t) (.int j u)) Q E s) :
  OpR X f (rI C λi j=>.int (g i j)):=by
 intro Io s Z H x y v u Q I b c h;obtain⟨i,j,rfl,rfl,d,q⟩:=h;obtain⟨t,rfl⟩:=b;obtain⟨t',rfl⟩:=c;exact rule i j t t' s _ _ d ⟨.int (g i j),H,I.tok _,⟨_,rfl⟩,q⟩
theorem opI0{f:Value->Value->Sem Value}{g:Int->Int->Int}
  (rule:∀(i j:Int)(t u:Tok)(s:Shared)(Q:Value->Shared->Prop)(E:Value->Shared->Prop),Q (.int (g i j) s.toks) {s with toks:=s.toks+1}->wpAny (model X.prog X.w) X.A (f (.int i t) (.int j u)) Q E s) :
  OpR X f (rI0 λi j=>.int (g i j)):=by
 intro Io s Z H x y v u Q I b c h;obtain⟨i,j,rfl,rfl,q⟩:=h;obtain⟨t,rfl⟩:=b;obtain⟨t',rfl⟩:=c;exact rule i j t t' s _ _ ⟨.int (g i j),H,I.tok _,⟨_,rfl⟩,q⟩
theorem oP{f:Value->Value->Sem Value}{g:Int->Int->Bool}
  (rule:∀(i j:Int)(t u:Tok)(s:Shared)(Q:Value->Shared->Prop)(E:Value->Shared->Prop),Q (.bool (g i j)) s->wpAny (model X.prog X.w) X.A (f (.int i t) (.int j u)) Q E s) :
  OpR X f (rI0 λi j=>.bl (g i j)):=by
 intro Io s Z H x y v u Q I b c h;obtain⟨i,j,rfl,rfl,q⟩:=h;obtain⟨t,rfl⟩:=b;obtain⟨t',rfl⟩:=c;exact rule i j t t' s _ _ ⟨.bl (g i j),H,I,rfl,q⟩
def CDiv(i j:Int):Prop:=0<j/\j<1073741824
def CPow(i j:Int):Prop:=0<=j/\j<=1000000/\i.natAbs<2 ^ 64
def CMul(i j:Int):Prop:=(-(2 ^ 64)<i/\i<2 ^ 64)\/(-(2 ^ 64)<j/\j<2 ^ 64)
theorem CMul.ok{i j:Int}(h:CMul i j):IntMulOk i j:=by
 rcases h with ⟨h1,h2⟩|⟨h1,h2⟩
 .exact .of_left (intBits_le_64 h1 h2)
 exact .of_right (intBits_le_64 h1 h2)
theorem bp:OpR X (binaryOp .Add) (rI0 λi j=>.int (i+j)):=opI0 λ_ _ _ _ _ _ _ q=>add_int q
theorem di:OpR X (binaryOp .Sub) (rI0 λi j=>.int (i-j)):=opI0 λ_ _ _ _ _ _ _ q=>sub_int q
theorem dW:OpR X (binaryOp .Mult) (rI CMul λi j=>.int (i*j)):=opI λ_ _ _ _ _ _ _ b q=>mul_int q b.ok
theorem tq:OpR X (binaryOp .FloorDiv) (rI CDiv λi j=>.int (i/j)):=opI λi j _ _ _ _ _ b q=>by
 have h1:(0:Int)<j:=b.1;have h2:j<1073741824:=b.2;exact floordiv_int (by lia) (by rw[Fp i (by lia)];exact q) (.inl (PyProof.noPylong_small (by lia)))
theorem cX:OpR X (binaryOp .Mod) (rI (λ_ j=>0<j) λi j=>.int (i%j)):=opI λi j _ _ _ _ _ b q=>by
 have h1:(0:Int)<j:=b;exact mod_int' (by lia) (by rw[Int.fmod_eq_emod_of_nonneg i (by lia)];exact q)
theorem lE:OpR X (binaryOp .Pow) (rI CPow λi j=>.int (i ^ j.toNat)):=opI λ_ _ _ _ _ _ _ b q=>pow_int_small b.1 b.2.1 b.2.2 q
theorem unI{f:Value->Sem Value}{g:Int->Int}
  (rule:∀(i:Int)(t:Tok)(s:Shared)(Q:Value->Shared->Prop)(E:Value->Shared->Prop),Q (.int (g i) s.toks) {s with toks:=s.toks+1}->wpAny (model X.prog X.w) X.A (f (.int i t)) Q E s) :
  UnR X f (rU λi=>.int (g i)):=by
 intro Io s Z H x v Q I b h;obtain⟨i,rfl,q⟩:=h;obtain⟨t,rfl⟩:=b;exact rule i t s _ _ ⟨.int (g i),H,I.tok _,⟨_,rfl⟩,q⟩
theorem fE:UnR X (unaryOp .USub) (rU λi=>.int (-i)):=unI λ_ _ _ _ _ q=>neg_int q
end
def scal:V->V->Bool
 |.non,.non=>true | .non,.int _=>true | .int _,.non=>true | .non,.bl _=>true | .bl _,.non=>true | .non,.str _=>true | .str _,.non=>true
 |.int _,.int _=>true | .bl _,.bl _=>true | .str _,.str _=>true | .byt _,.byt _=>true
 |.int _,.str _=>true | .str _,.int _=>true | .bl _,.str _=>true | .str _,.bl _=>true
 |_,_=>false
def rEq:R2:=λx y H Q=>scal x y=true/\Q (.bl (decide (x=y))) H
def rNe:R2:=λx y H Q=>scal x y=true/\Q (.bl (!decide (x=y))) H
theorem tG{i j:Int}:decide (V.int i=V.int j)=(i==j):=by rw[gO];simp
theorem uu{i j:Bool}:decide (V.bl i=V.bl j)=(i==j):=by rw[gO];simp
theorem tF{i j:Str}:decide (V.str i=V.str j)=(i==j):=by rw[gO];simp
theorem tH{i j:Array UInt8}:decide (V.byt i=V.byt j)=(i.toList==j.toList):=by rw[gO];cases i;cases j;simp
section
variable {a b c:Expr}{ta tb tc:TE}{pos:Pos}
theorem bo{Q:VK}{k b:Bool}(I:Inv X Io Z H s)(q:Q (.bl k) H)(e:k=b):EP X Io Z Q (.bool b) s:=by subst e;exact⟨.bl k,H,I,rfl,q⟩
theorem dM:OpR X (compareOp .Eq) rEq:=by
 intro Io s Z H x y v u Q I d b h;obtain⟨c,q⟩:=h;cases x with
 |non=>
  cases d;cases y with
  |non=>cases b;exact Hy (bo I q (by simp))
  |bl j=>cases b;exact Hv (bo I q (by simp))
  |int j=>obtain⟨t',rfl⟩:=b;exact Hw (bo I q (by simp))
  |str j=>obtain⟨t',rfl⟩:=b;exact Hz (bo I q (by simp))
  |_=>exact absurd (show false=true from c) a8
 |bl i=>
  cases d;cases y with
  |non=>cases b;exact Ht (bo I q (by simp))
  |bl j=>cases b;exact eq_bool (bo I q uu)
  |str j=>obtain⟨t',rfl⟩:=b;exact G6 (bo I q (by simp))
  |_=>exact absurd (show false=true from c) a8
 |int i=>
  obtain⟨t,rfl⟩:=d;cases y with
  |non=>cases b;exact Hu (bo I q (by simp))
  |int j=>obtain⟨t',rfl⟩:=b;exact eq_int (bo I q tG)
  |str j=>obtain⟨t',rfl⟩:=b;exact G7 (bo I q (by simp))
  |_=>exact absurd (show false=true from c) a8
 |str i=>
  obtain⟨t,rfl⟩:=d;cases y with
  |non=>cases b;exact HA (bo I q (by simp))
  |bl j=>cases b;exact G8 (bo I q (by simp))
  |int j=>obtain⟨t',rfl⟩:=b;exact G9 (bo I q (by simp))
  |str j=>obtain⟨t',rfl⟩:=b;exact eq_str (bo I q tF)
  |_=>exact absurd (show false=true from c) a8
 |byt i=>
  obtain⟨t,rfl⟩:=d;cases y with
  |byt j=>obtain⟨t',rfl⟩:=b;exact W.eq_bytes (bo I q tH)
  |_=>exact absurd (show false=true from c) a8
 |_=>cases y<;>exact absurd (show false=true from c) a8
theorem gF:OpR X (compareOp .NotEq) rNe:=by
 intro Io s Z H x y v u Q I d b h;obtain⟨c,q⟩:=h;cases x with
 |non=>
  cases d;cases y with
  |non=>cases b;exact HF (bo I q (by simp))
  |bl j=>cases b;exact HD (bo I q (by simp))
  |int j=>obtain⟨t',rfl⟩:=b;exact HE (bo I q (by simp))
  |str j=>obtain⟨t',rfl⟩:=b;exact HG (bo I q (by simp))
  |_=>exact absurd (show false=true from c) a8
 |bl i=>
  cases d;cases y with
  |non=>cases b;exact HB (bo I q (by simp))
  |bl j=>cases b;exact ne_bool (bo I q (congrArg not uu))
  |str j=>obtain⟨t',rfl⟩:=b;exact G_ (bo I q (by simp))
  |_=>exact absurd (show false=true from c) a8
 |int i=>
  obtain⟨t,rfl⟩:=d;cases y with
  |non=>cases b;exact HC (bo I q (by simp))
  |int j=>obtain⟨t',rfl⟩:=b;exact ne_int (bo I q (congrArg not tG))
  |str j=>obtain⟨t',rfl⟩:=b;exact Hq (bo I q (by simp))
  |_=>exact absurd (show false=true from c) a8
 |str i=>
  obtain⟨t,rfl⟩:=d;cases y with
  |non=>cases b;exact HH (bo I q (by simp))
  |bl j=>cases b;exact Hr (bo I q (by simp))
  |int j=>obtain⟨t',rfl⟩:=b;exact Hs (bo I q (by simp))
  |str j=>obtain⟨t',rfl⟩:=b;exact ne_str (bo I q (congrArg not tF))
  |_=>exact absurd (show false=true from c) a8
 |byt i=>
  obtain⟨t,rfl⟩:=d;cases y with
  |byt j=>obtain⟨t',rfl⟩:=b;exact W.ne_bytes (bo I q (congrArg not tH))
  |_=>exact absurd (show false=true from c) a8
 |_=>cases y<;>exact absurd (show false=true from c) a8
theorem iE:OpR X (compareOp .Lt) (rI0 λi j=>.bl (decide (i<j))):=oP λ_ _ _ _ _ _ _ q=>lt_int q
theorem uL:OpR X (compareOp .Gt) (rI0 λi j=>.bl (decide (j<i))):=oP λ_ _ _ _ _ _ _ q=>gt_int q
theorem EV:OpR X (compareOp .GtE) (rI0 λi j=>.bl (decide (j<=i))):=oP λ_ _ _ _ _ _ _ q=>ge_int q
theorem nomark(b:Expr){op:CmpOp}(h:op≠.In:=by decide)(h2:op≠.NotIn:=by decide):behindInMarks op b=false:=by
 have c:(op==CmpOp.In)=false:=by cases op<;>first|rfl|exact absurd rfl h
 have d:(op==CmpOp.NotIn)=false:=by cases op<;>first|rfl|exact absurd rfl h2
 cases b<;>simp[behindInMarks,c,d]
theorem gk{op:CmpOp}{r:R2}(c:OpR X (compareOp op) r)(ha:PE X a ta)(d:PE X b tb)(hm:behindInMarks op b=false):PE X (.Compare a [op] [b] pos) (tOp r ta tb):=by intro Io s Z H Q I h;exact Gk (oS ha d I h λv u s2 x y H2 e f g q=>c Io s2 Z H2 x y v u Q e f g q) hm
def j5(t:TE):TT:=λZ H Q=>t Z H (tBK Q)
theorem a7{op:CmpOp}{r:R2}(d:OpR X (compareOp op) r)(ha:PE X a ta)(f:PE X b tb)(hm:behindInMarks op b=false):PT X (.Compare a [op] [b] pos) (j5 (tOp r ta tb)):=by
 intro Io s Z H Q I h;refine Gs (thn (ha Io s Z H _ I h) λv s1 ⟨x,H1,g,i,l⟩=>thn (f Io s1 Z H1 _ g l) λu s2 ⟨y,H2,m,n,o⟩=>
  thn (d Io s2 Z H2 x y v u _ m i n o) λc B ⟨z,p,q,w,k,e,A⟩=>?_) hm
 subst e;cases w;exact fU ⟨p,q,A⟩
def TruV(K:W.Frag)(x:V)(H:Hp)(k:Bool):Prop:=
 match x with
 |.non=>k=false
 |.bl b=>k=b
 |.int i=>k=(i != 0)
 |.str y=>y.length<=sizeLine/\k=((y.length:Int) != 0)
 |.byt y=>y.size<=sizeLine/\k=((y.size:Int) != 0)
 |.ref p=>(∃xs,SqL K H p xs/\k=!xs.isEmpty)\/(∃xs,SqT K H p xs/\k=!xs.isEmpty)\/∃kvs,H p=some (.dK kvs)/\k=!kvs.isEmpty
 |_=>False
theorem xD{κ:Type}{kvs:List (κ×V)}{vs:List (κ×Value)}(r:KV kvs vs):(!vs.isEmpty)=!kvs.isEmpty:=by cases r<;>rfl
theorem qe{b:List Value}(r:Vals xs b):(!b.toArray.isEmpty)=!xs.isEmpty:=by cases r<;>simp
theorem line63:(sizeLine:Nat)<2 ^ 63:=by rw[cu];decide
theorem Cy:TruR X (λx H Q=>∃k,TruV [] x H k/\Q k H):=by
 intro Io s Z H x v Q I d h;obtain⟨k,e,q⟩:=h;have u:=line63;have z:sizeLine=16777216:=cu;cases x with
 |non=>
  cases d;have c:k=false:=e;subst c;exact truthy_none ⟨H,I,q⟩
 |bl b=>
  cases d;have c:k=b:=e;subst c;exact fU ⟨H,I,q⟩
 |int i=>
  obtain⟨t,rfl⟩:=d;have c:k=(i != 0):=e;subst c;exact PySem.P.truthy_int ⟨H,I,q⟩
 |str y=>
  obtain⟨t,rfl⟩:=d;obtain⟨l,c⟩:y.length<=sizeLine/\k=((y.length:Int) != 0):=e;subst c;exact PySem.P.truthy_str (by lia) ⟨H,I.tok _,q⟩
 |byt y=>
  obtain⟨t,rfl⟩:=d;obtain⟨l,c⟩:y.size<=sizeLine/\k=((y.size:Int) != 0):=e;subst c;exact W.truthy_bytes (by lia) ⟨H,I.tok _,q⟩
 |ref p=>
  cases d;have c:(∃xs,SqL [] H p xs/\k=!xs.isEmpty)\/(∃xs,SqT [] H p xs/\k=!xs.isEmpty)\/∃kvs,H p=some (.dK kvs)/\k=!kvs.isEmpty:=e;rcases c with ⟨xs,f,c⟩|⟨xs,f,c⟩|⟨kvs,f,c⟩
  .subst c;obtain⟨n,r,pl,g⟩:=I.list f;have hlen:=r.length;exact wpAny_truthy_list pl.isList (by simp only[List.size_toArray];lia) ⟨H,I.tok _,by rw[qe r];exact q⟩
  .subst c;obtain⟨n,r,pl,g⟩:=I.tuple f;have hlen:=r.length;exact truthy_tuple pl (by simp only[List.size_toArray];lia) ⟨H,I.tok _,by rw[qe r];exact q⟩
  subst c;obtain⟨g,o,vs,r,m⟩:kvs.length<=sizeLine/\(p==sysModules)=false/\∃vs,KV kvs vs/\s.heap.DictOf (bz X.prog X.w) p vs:=I.hok p _ f;have hlen:kvs.length=vs.length:=iR r;exact wpAny_truthy_dict o m (by lia) ⟨H,I.tok _,by rw[xD r];exact q⟩
 |_=>exact (show False from e).elim
theorem m8(ha:PE X a ta)(he:∀whole,isTrue a X.env whole=(do let v <-whole;standAt a.pos;holding [v] (truthy v))) :
  PT X a (λZ H Q=>ta Z H λx H'=>∃k,TruV [] x H' k/\Q k H'):=by
 intro Io s Z H Q I h;exact isTrue_plain (thn (ha Io s Z H _ I h) λv s1 ⟨x,H1,I1,r1,q1⟩=>Cy Io s1 Z H1 x v Q I1 r1 q1) (he _)
theorem vals1{x:V}(r:Vals [x] us):∃u,us=[u]/\ar x u:=by
 cases r with
 |cons b c=>cases c;exact⟨_,rfl,b⟩
theorem vals2{x y:V}(r:Vals [x,y] us):∃u b,us=[u,b]/\ar x u/\ar y b:=by
 cases r with
 |cons c d=>
  cases d with
  |cons e f=>cases f;exact⟨_,_,rfl,c,e⟩
theorem kL:bJ X (.type "int") (λxs H Q=>(∃i,xs=[.int i]/\Q (.int i) H)\/∃k,xs=[.bl k]/\Q (.int (if k then 1 else 0)) H):=by
 intro Io s Z H xs us Q I r h;rcases h with ⟨i,rfl,q⟩|⟨k,rfl,q⟩
 .obtain⟨u,rfl,t,rfl⟩:=vals1 r;exact call_int_int ⟨.int i,H,I,⟨_,rfl⟩,q⟩
 obtain⟨u,rfl,b⟩:=vals1 r;cases b;exact call_int_bool ⟨.int (if k then 1 else 0),H,I.tok _,⟨_,rfl⟩,q⟩
end
end L2
namespace L2
open PySem PySem.Spec PyProof.Rows
structure gJ(h:Heap)(x dx C:Addr)(mA:Str->Option Value):Prop where
 obj:h.get? x=some (W.instObj C dx)
 ns:h.Ns1 dx mA
 ne:dx≠x
theorem yy{h:Heap}{dx:Addr}{mA:Str->Option Value}(n:h.Ns1 dx mA):∃od,h.get? dx=some od/\∀name,W.lookIn name od=some (mA name):=by
 obtain⟨o,es,ep,b,hd,c,_,hm⟩:=n;refine⟨o,b,λname=>?_⟩;have e:=hm name;unfold nsFind findBy at e;rw[<-Array.find?_toList] at e;unfold W.lookIn;rw[hd];dsimp only
 split
 .rename_i y q;rw[q] at e;exact congrArg some e
 rename_i q;rw[q] at e;have a:es.toList.any (·.refKey)=false:=by rw[List.any_eq_false];intro y d;obtain⟨z,t,f⟩:=c y (Array.mem_toList_iff.mp d);simp[DictEntry.refKey,f]
 have g:¬es.toList.any (·.refKey)=true:=by rw[a];exact a8
 rw[Ii g];exact congrArg some e
theorem gJ.look{h:Heap}{x dx C:Addr}{mA:Str->Option Value}(I:gJ h x dx C mA):∃od,W.InstAt h x (W.instObj C dx) C (some od)/\∀name,W.lookIn name od=some (mA name):=
 let ⟨od,b,c⟩:=yy I.ns
 ⟨od,⟨I.obj,rfl,rfl,b⟩,c⟩
section
variable {prog:Program}{x dx C f:Addr}{mA:Str->Option Value}{name:Str}{v:Value}
theorem B6{expr:Bool}{Q:Value->Shared->Prop}(X:K.In s.heap)(I:gJ s.heap x dx C mA)(b:W.plainGet K C name=true)(c:W.hasDictIn K C=true)
  (ha:W.findIn K (.ref C) name=some none) (d:mA name=some v) (e:W.handedIn v=true) (h:Q v {s with toks:=s.toks+1}) :
  wpAny (model prog w) A (getAttr (.ref x) name expr) Q E s:=by
 obtain⟨od,J,f⟩:=I.look;exact W.get_value X J (vz b).1 (W.findObj_own c ha rfl (by rw[f,d])) e h
theorem Ax{pl:Sem Bool}{Q:Value×List Value->Shared->Prop}(X:K.In s.heap)(I:gJ s.heap x dx C mA)(b:W.plainGet K C name=true)
  (hf:W.findIn K (.ref C) name=some (some (.ref f))) (c:W.isFn K (.ref f)=true) (d:mA name=none) (h:Q (.ref f,[.ref x]) s) :
  wpAny (model prog w) A (getMethod (.ref x) name pl) Q E s:=by
 obtain⟨od,J,e⟩:=I.look;exact W.method_fn X J (vz b).1 (vz b).2 hf (beq_iff_eq.mp c) (by show (W.lookIn name od).map (·.isSome)=some false;rw[e,d];rfl) h
theorem Bf{ns:List Str}{Q:Unit->Shared->Prop}(X:K.In s.heap)(I:gJ s.heap x dx C mA)
  (e:W.findIn K (.ref C) "__setattr__" = some (some (.builtin "object.__setattr__"))) (f:W.plainOver K C=true) (g:W.takerIn K C name=some none) (i:W.hasDictIn K C=true)
  (hw:PySem.Within mA ns) (hsz:ns.length<=sizeLine)
  (h:∀h',gJ h' x dx C (λy=>if y=name then some v else mA y)->Heap.SameBut dx s.heap h'->Q () {s with heap:=h',toks:=s.toks+2}) :
  wpAny (model prog w) A (setAttr (.ref x) name v) Q E s:=by
 obtain⟨od,J,u⟩:=I.look;refine W.set_plain X J e (W.osa_open (s:={s with toks:=s.toks+1}) (r:=none) X J f g λb=>?_);obtain⟨cd,l,m⟩:=W.any_some i;have n:s.heap.get? x=some ⟨.ref C,some dx,.plain,#[]⟩:=I.obj;refine aa (aj (aa (aa (wpAny_loadPart n (aa (HQ (s:={s with toks:=s.toks+1}) (W.looks_clsIn X l) ?_))))));rw[m];refine aj (a:=some dx) (aa (aj (aa ?_)));refine wpAny_nsSet1 (s:={s with toks:=s.toks+1}) I.ns λh' c d=>?_;obtain⟨z,B,D,o,p,q⟩:=c.count (HR name v hw);refine aa (wpAny_lookBehind o (by rw[p];exact pastItsLine_dict (bQ q (by rw[List.length_cons];lia))) ?_);exact aj (h _ ⟨(d.2 _ (aF I.ne)).trans I.obj,c,I.ne⟩ d)
theorem Am{R:Result->Shared->Prop}{vs:List Value}{kw:List (Str×Value)}(X:K.In s.heap)(hm:W.makesIn K C=true)
  (hi:W.findIn K (.ref C) "__init__" = some (some (.ref f))) (hf:W.typeIn K (.ref f)=some (.type "function"))
  (h:codeAny (model prog w) (A.under (.builtin "type.__call__" ⟨.ref C::vs,kw⟩)) (.call (.ref f) ⟨.ref (s.heap.objs.size+1)::vs,kw⟩) (W.InitBack (s.heap.objs.size+1) R)
   {s with heap:=(s.heap.push W.emptyDict).push (W.instObj C s.heap.objs.size)}) :
  codeAny (model prog w) A (.call (.ref C) ⟨vs,kw⟩) R s:=by
 obtain⟨b,g,d,t,os⟩:=s;exact W.make_core (W.makes_of X hm) (W.looks_findIn X hi) (λself=>W.bind_fn X self hf) (.inl rfl) h
end
def cL(f:Str)(v:V):List (Str×V)->List (Str×V)
 | []=>[(f,v)]
 |(g,x)::r=>if g=f then (g,v)::r else (g,x)::cL f v r
theorem pY(f g:Str)(v:V):∀fs:List (Str×V),(cL f v fs).lookup g=if g=f then some v else fs.lookup g
 | []=>by
  show List.lookup g [(f,v)]=_;by_cases h:g=f
  .have b:(g==f)=true:=beq_iff_eq.mpr h;simp only[List.lookup,b,Ij h]
  have b:(g==f)=false:=beq_eq_false_iff_ne.mpr h;simp only[List.lookup,b,Ii h]
 |(k,x)::r=>by
  have d:=pY f g v r;rw[show cL f v ((k,x)::r)=(if k=f then (k,v)::r else (k,x)::cL f v r) from rfl];by_cases c:k=f
  .rw[Ij c];by_cases h:g=k
   .have b:(g==k)=true:=beq_iff_eq.mpr h;simp only[List.lookup,b,Ij (h.trans c)]
   have b:(g==k)=false:=beq_eq_false_iff_ne.mpr h;simp only[List.lookup,b,Ii (λe:g=f=>h (e.trans c.symm))]
  rw[Ii c];by_cases h:g=k
  .have b:(g==k)=true:=beq_iff_eq.mpr h;simp only[List.lookup,b,Ii (λe:g=f=>c (h.symm.trans e))]
  have b:(g==k)=false:=beq_eq_false_iff_ne.mpr h;simp only[List.lookup,b];exact d
theorem mV(f:Str)(v:V):∀fs:List (Str×V),f∈(cL f v fs).map (·.1)/\∀g,g∈fs.map (·.1)->g∈(cL f v fs).map (·.1)
 | []=>⟨by simp[cL],λg h=>by simp at h⟩
 |(k,x)::r=>by
  obtain⟨c,d⟩:=mV f v r;rw[show cL f v ((k,x)::r)=(if k=f then (k,v)::r else (k,x)::cL f v r) from rfl];by_cases b:k=f
  .rw[Ij b];subst b;exact⟨by simp,λg h=>by simpa using h⟩
  rw[Ii b];refine⟨?_,λg h=>?_⟩
  .rw[List.map_cons];exact List.mem_cons_of_mem _ c
  rw[List.map_cons] at h |-;rcases List.mem_cons.mp h with e|e
  .exact List.mem_cons.mpr (.inl e)
  exact List.mem_cons_of_mem _ (d g e)
theorem pZ(f:Str)(v:V):∀fs:List (Str×V),(cL f v fs).length<=fs.length+1
 | []=>by simp[cL]
 |(k,x)::r=>by
  have c:=pZ f v r;rw[show cL f v ((k,x)::r)=(if k=f then (k,v)::r else (k,x)::cL f v r) from rfl];by_cases b:k=f
  .rw[Ij b,List.length_cons,List.length_cons];lia
  rw[Ii b,List.length_cons,List.length_cons];lia
theorem ck.some_of{v:V}{o:Option Value}(r:ck (some v) o):∃u,o=some u/\ar v u:=by
 cases o with
 |none=>exact (show False from r).elim
 |some u=>exact⟨u,rfl,r⟩
theorem ck.none_of{o:Option Value}(r:ck none o):o=none:=by
 cases o with
 |none=>rfl
 |some u=>exact (show False from r).elim
theorem yN{v:V}{u:Value}(r:ar v u):W.handedIn u=true:=by
 cases v with
 |non=>cases (show u=Value.none from r);rfl
 |bl b=>cases (show u=Value.bool b from r);rfl
 |int i=>obtain⟨t,e⟩:=(show ∃t,u=Value.int i t from r);cases e;rfl
 |str x=>obtain⟨t,e⟩:=(show ∃t,u=Value.str x t from r);cases e;rfl
 |byt b=>obtain⟨t,e⟩:=(show ∃t,u=Value.bytes b t from r);cases e;rfl
 |flt b=>obtain⟨t,e⟩:=(show ∃t,u=Value.float b t from r);cases e;rfl
 |ref a=>cases (show u=Value.ref a from r);rfl
 |ty n=>cases (show u=Value.type n from r);rfl
section
variable {h h':Heap}{a C dx:Addr}{fs fs':List (Str×V)}
theorem k_(hok:HOk P w H h)(e:H a=some (.ins C dx fs)):∃mA,gJ h a dx C mA/\(∀f,ck (fs.lookup f) (mA f))/\PySem.Within mA (fs.map (·.1))/\fs.length<=1000/\H dx=some (.own a):=by obtain⟨d,z,ne,ob,mA,n,r,q⟩:=(show a6 P w H h a (.ins C dx fs) from hok a _ e);exact⟨mA,⟨ob,n,ne⟩,r,q,z,d⟩
end
structure Cls(K:W.Frag)(C:Addr):Prop where
 pg:W.plainGet K C Str.empty=true
 hd:W.hasDictIn K C=true
 po:W.plainOver K C=true
 sa:W.findIn K (.ref C) "__setattr__" = some (some (.builtin "object.__setattr__"))
theorem Cls.get{C:Addr}(c:Cls K C)(f:Str):W.plainGet K C f=true:=c.pg
def dY(K:W.Frag)(C:Addr)(f:Str):Prop:=W.findIn K (.ref C) f=some none
theorem dY.taker{C:Addr}{f:Str}(n:dY K C f):W.takerIn K C f=some none:=by unfold W.takerIn;rw[show W.findIn K (.ref C) f=some none from n];rfl
structure Meth(K:W.Frag)(C:Addr)(m:Str)(f:Addr):Prop where
 at_:W.findIn K (.ref C) m=some (some (.ref f))
 fn:W.isFn K (.ref f)=true
 kp:W.keepIn K (.ref f)=true
section
variable {a C dx:Addr}{fs:List (Str×V)}{f:Str}{v:V}
theorem xF{b:Bool}{Q:Value->Shared->Prop}(I:Inv X Io Z H s)(e:H a=some (.ins C dx fs))(c:Cls X.K C)(n:dY X.K C f)(l:fs.lookup f=some v)
  (h:∀u s',Inv X Io Z H s'->ar v u->Q u s'):wpAny (model X.prog X.w) A (getAttr (.ref a) f b) Q E s:=by
 obtain⟨mA,O,r,_,_,_⟩:=k_ I.hok e;obtain⟨u,g,d⟩:=ck.some_of (v:=v) (o:=mA f) (by rw[<-l];exact r f);exact B6 I.kIn O (c.get f) c.hd n g (yN d) (h u _ (I.tok _) d)
theorem xE{m:Str}{g:Addr}{pl:Sem Bool}{Q:Value×List Value->Shared->Prop}(I:Inv X Io Z H s)(e:H a=some (.ins C dx fs))(c:Cls X.K C)(k:Meth X.K C m g)(l:fs.lookup m=none)
  (h:Q (.ref g,[.ref a]) s):wpAny (model X.prog X.w) A (getMethod (.ref a) m pl) Q E s:=by
 obtain⟨mA,O,r,_,_,_⟩:=k_ I.hok e;have b:mA m=none:=ck.none_of (by rw[<-l];exact r m);exact Ax I.kIn O (c.get m) k.at_ k.fn b h
theorem xl{y:V}{u:Value}{Q:Unit->Shared->Prop}(I:Inv X Io Z H s)(e:H a=some (.ins C dx fs))(c:Cls X.K C)(n:dY X.K C f)(D:fs.length<1000)(l:ar y u)
  (h:∀s',Inv X Io Z (upd H a (.ins C dx (cL f y fs))) s'->Q () s'):wpAny (model X.prog X.w) A (setAttr (.ref a) f u) Q E s:=by
 obtain⟨mA,O,r,wi,_,i⟩:=k_ I.hok e;have m:(fs.map (·.1)).length<=sizeLine:=by rw[List.length_map,cu];lia
 refine Bf I.kIn O c.sa c.po n.taker c.hd wi m λh' d sb=>h _ ?_;have hd:∃o,h'.get? dx=some o:=let ⟨o,_,_,p,_⟩:=d.ns;⟨o,p⟩;refine I.write (x:=a) (e:=dx) (by rw[e];exact True.intro) (.inr i) (λb q v z=>(sb.2 b v).trans z) hd ?_;refine⟨by rw[aB O.ne];exact i,?_,O.ne,d.obj,_,d.ns,λg=>?_,λg B=>?_⟩
 .have:=pZ f y fs;lia
 .show ck ((cL f y fs).lookup g) (if g=f then some u else mA g);rw[pY];by_cases q:g=f
  .rw[Ij q,Ij q];exact l
  rw[Ii q,Ii q];exact r g
 by_cases q:g=f
 .rw[q];exact (mV f y fs).1
 refine (mV f y fs).2 g (wi g λz=>B ?_);show (if g=f then some u else mA g)=none;rw[Ii q];exact z
theorem Inv.made(I:Inv X Io Z H s):Inv X Io Z (upd (upd H s.heap.objs.size (.own (s.heap.objs.size+1))) (s.heap.objs.size+1) (.ins C s.heap.objs.size []))
  {s with heap:=(s.heap.push W.emptyDict).push (W.instObj C s.heap.objs.size)}:=by
 have c:(s.heap.push W.emptyDict).get? s.heap.objs.size=some W.emptyDict:=a9 s.heap rfl;have d:((s.heap.push W.emptyDict).push (W.instObj C s.heap.objs.size)).get? (s.heap.objs.size+1)=some (W.instObj C s.heap.objs.size):=by
  have:=a9 (s.heap.push W.emptyDict) (o:=W.instObj C s.heap.objs.size) rfl
  rwa [iO] at this
 have f:(s.heap.push W.emptyDict).Ns s.heap.objs.size (λ_=>none):=⟨W.emptyDict,#[],_,c,rfl,(λe he=>absurd he (by simp)),λ_=>rfl⟩;have g:=I.laid (a:=s.heap.objs.size) (o:=.own (s.heap.objs.size+1)) (h':=s.heap.push W.emptyDict) (t':=s.toks) (λb u q=>aE _ q) (ai _) ⟨_,c⟩;refine g.laid (a:=s.heap.objs.size+1) (o:=.ins C s.heap.objs.size []) (t':=s.toks) (λb u q=>aE _ q) (pb (iO _ _)) ?_;have ne:s.heap.objs.size≠s.heap.objs.size+1:=aU (eg _);refine⟨by rw[aB ne,aG],aD _,ne,d,λ_=>none,(Heap.Ns1.of_empty f).at λo q=>aE _ q,λ_=>True.intro,λy h=>absurd rfl h⟩
theorem Cj{prog:Program}{env:Env}{e:Expr}{f:Str}{pos:Pos}{Q:Value->Shared->Prop}(b:attributeBase e f env (eval e env)=eval e env)
  (h:wpAny (model prog w) A (eval e env) (λo s₁=>wpAny (model prog w) A (getAttr o f true) Q E s₁) E s):wpAny (model prog w) A (eval (.Attribute e f pos) env) Q E s:=
 Attribute_any_ h (by rw[arm_eval_Attribute,b])
end
def oM(K:W.Frag)(ta:TE)(f:Str):TE:=λZ H Q=>ta Z H λx H1=>∃a C dx fs v,x=.ref a/\H1 a=some (.ins C dx fs)/\Cls K C/\dY K C f/\fs.lookup f=some v/\Q v H1
def sFld(K:W.Frag)(ta tv:TE)(f:Str):TS:=λD Z H=>tv Z H λy H1=>ta Z H1 λx H2=>∃a C dx fs,x=.ref a/\H2 a=some (.ins C dx fs)/\Cls K C/\dY K C f/\fs.length<1000/\
 D.nx Z (upd H2 a (.ins C dx (cL f y fs)))
section
variable {o e value:Expr}{f:Str}{pos pos' tpos:Pos}{ta tv:TE}
theorem gC(he:PE X e ta)(b:attributeBase e f X.env (eval e X.env)=eval e X.env):PE X (.Attribute e f pos) (oM X.K ta f):=by intro Io s Z H Q I h;refine Cj b (thn (he Io s Z H _ I h) λu s1 ⟨x,H1,d,g,a,C,dx,fs,v,ex,i,c,n,l,q⟩=>?_);subst ex;obtain rfl:u=Value.ref a:=g;exact xF d i c n l λp s2 m o=>⟨v,H1,m,o,q⟩
theorem lC(ha:PE X o ta)(b:PE X value tv)(d:swapsWith value (some (.Attribute o f pos')) pos.line X.env=pure false):PS X (.Assign [.Attribute o f pos'] value pos) (sFld X.K ta tv f):=by intro Io s Z H D I h;refine plainObj_wpAny_Assign_Attribute (thn (b Io s Z H _ I h) λu s1 ⟨y,H1,e,g,q⟩=>thn (ha Io s1 Z H1 _ e q) λi s2 ⟨x,H2,m,p,a,C,dx,fs,ex,r,c,n,l,v⟩=>?_) d;subst ex;obtain rfl:i=Value.ref a:=p;exact xl m r c n l g λz w=>⟨Z,_,w,v⟩
end
section
variable {Q:Value->Shared->Prop}{c:Value}{b:Bool}
inductive cS (K:W.Frag) (H:Hp):V->Value->Prop where
 |non:cS K H .non (.type "NoneType")
 |bl (x:Bool):cS K H (.bl x) (.type "bool")
 |int (i:Int):cS K H (.int i) (.type "int")
 |str (x:Str):cS K H (.str x) (.type "str")
 |flt (x:UInt64):cS K H (.flt x) (.type "float")
 |lst {a:Addr} {xs:List V} (e:H a=some (.lst xs)):cS K H (.ref a) (.type "list")
 |frz {a:Addr} {o:Obj} {xs:List V} (e:H a=some (.frz o (.lst xs))):cS K H (.ref a) (.type "list")
 |tup {a:Addr} {xs:List V} (e:H a=some (.tup xs)):cS K H (.ref a) (.type "tuple")
 |dK {a:Addr} {kvs:List (Key×V)} (e:H a=some (.dK kvs)):cS K H (.ref a) (.type "dict")
 |dT {a:Addr} {kvs:List (List Key×V)} (e:H a=some (.dT kvs)):cS K H (.ref a) (.type "dict")
 |ins {a C dx:Addr} {fs:List (Str×V)} (e:H a=some (.ins C dx fs)) (cl:Cls K C) (ha:W.findIn K (.ref C) "__class__" = some (some (.builtin "object.__class__")))
   (hn:W.specialIn K (.builtin "object.__class__") "__get__" = some (some (.builtin "getset_descriptor.__get__"))) (htk:W.takesIn K (.builtin "object.__class__")=some true)
   (hm:W.mroIn K C (.type "object")=some true):cS K H (.ref a) (.ref C)
theorem yI{x:V}{u t:Value}(I:Inv X Io Z H s)(d:ar x u)(ty:cS X.K H x t)(e:W.kitOne X.K t c=some b)(h:∀tk,Q (.bool b) {s with toks:=tk}) :
  wpAny (model X.prog X.w) A (call (.builtin "isinstance") [u,c]) Q E s:=by
 cases ty with
 |non=>cases (show u=Value.none from d);exact eu W.kitx_none I.kIn True.intro e (λz=>nomatch z) h
 |bl y=>cases (show u=Value.bool y from d);exact eu W.kitx_bool I.kIn True.intro e (λz=>nomatch z) h
 |int i=>obtain⟨t,q⟩:=(show ∃t,u=Value.int i t from d);cases q;exact eu W.kitx_int I.kIn True.intro e (λz=>nomatch z) h
 |str y=>obtain⟨t,q⟩:=(show ∃t,u=Value.str y t from d);cases q;exact eu W.kitx_str I.kIn True.intro e (λz=>nomatch z) h
 |flt y=>obtain⟨t,q⟩:=(show ∃t,u=Value.float y t from d);cases q;exact eu W.kitx_float I.kIn True.intro e (λz=>nomatch z) h
 | @lst a xs f=>
  cases (show u=Value.ref a from d);obtain⟨_,_,n,_,h1⟩:=(show a6 X.prog X.w H s.heap a (.lst xs) from I.hok a _ f);exact eu F8 I.kIn ⟨_,h1,rfl⟩ e (λz=>nomatch z) h
 | @frz a ob xs f=>
  cases (show u=Value.ref a from d);obtain⟨_,_,_,n,_,h1⟩:=(show a6 X.prog X.w H s.heap a (.frz ob (.lst xs)) from I.hok a _ f);exact eu F8 I.kIn ⟨_,h1,rfl⟩ e (λz=>nomatch z) h
 | @tup a xs f=>
  cases (show u=Value.ref a from d);obtain⟨_,_,_,p⟩:=(show a6 X.prog X.w H s.heap a (.tup xs) from I.hok a _ f);obtain⟨o,h1,h2,_⟩:=p;exact eu W.kitx_tuple I.kIn ⟨o,h1,h2⟩ e (λz=>nomatch z) h
 | @dK a kvs f=>
  cases (show u=Value.ref a from d);obtain⟨_,_,vs,_,p⟩:=(show a6 X.prog X.w H s.heap a (.dK kvs) from I.hok a _ f);obtain⟨o,es,ep,h1,h2,_⟩:=p;exact eu F7 I.kIn ⟨o,h1,h2.1⟩ e (λz=>nomatch z) h
 | @dT a kvs f=>
  cases (show u=Value.ref a from d);obtain⟨_,_,xs,_,o,es,ep,h1,h2,_⟩:=(show a6 X.prog X.w H s.heap a (.dT kvs) from I.hok a _ f);exact eu F7 I.kIn ⟨o,h1,h2.1⟩ e (λz=>nomatch z) h
 | @ins a C dx fs f cl ha g l hm=>
  cases (show u=Value.ref a from d);obtain⟨mA,O,_⟩:=k_ I.hok f;obtain⟨od,J,_⟩:=O.look;exact eu (W.kitx_own (cl.get _) cl.hd ha g l hm) I.kIn J e (λz=>nomatch z) h
end
end L2
namespace L2
open PySem PySem.Spec PyProof.Rows
structure Room(k:Nat)(A:Around):Prop where
 hd:A.handled=none
 dp:A.depth+3*k+5<recursionLimit
 un:A.units+16*k+200<cLine
 gu:A.guards=some []
theorem Room.mono{j k:Nat}(r:Room k A)(h:j<=k):Room j A:=⟨r.hd,by have:=r.dp;lia,by have:=r.un;lia,r.gu⟩
theorem Room.deeper{k:Nat}(r:Room (k+1) A)(env:Env):Room k (A.deeper env):=
 ⟨r.hd,by have:=r.dp;show A.depth+1+3*k+5<_;lia,by have:=r.un;show A.units+3+16*k+200<_;lia,r.gu⟩
theorem xC{C:Addr}{kw:List (Str×Value)}:(A.under (.builtin "type.__call__" ⟨.ref C::us,kw⟩)).depth=A.depth+1:=by first|rfl|simp[Around.under,Code.weight,Code.isCreation,Code.isGuard,Code.isCaller,Code.frames,Code.isFrame,guardIds]
theorem xB{C:Addr}{kw:List (Str×Value)}:(A.under (.builtin "type.__call__" ⟨.ref C::us,kw⟩)).units=A.units+1:=by first|rfl|simp[Around.under,Code.cUnits,Code.frames,Code.isFrame]
theorem wW{C:Addr}{kw:List (Str×Value)}(h:A.guards=some []):(A.under (.builtin "type.__call__" ⟨.ref C::us,kw⟩)).guards=some []:=by first|exact h|simp[Around.under,Code.isGuard,guardIds,h]
theorem Room.make{k:Nat}(r:Room (k+1) A)(C:Addr)(us:List Value)(kw:List (Str×Value)):Room k (A.under (.builtin "type.__call__" ⟨.ref C::us,kw⟩)):=
 ⟨r.hd,by have:=r.dp;rw[xC];lia,by have:=r.un;rw[xB];lia,wW r.gu⟩
theorem Room.depth{k:Nat}(r:Room k A):A.depth<recursionLimit:=by have:=r.dp;lia
theorem Room.units{k:Nat}(r:Room k A):A.units+64<cLine:=by have:=r.un;lia
theorem Room.units0{k:Nat}(r:Room k A):A.units<cLine:=by have:=r.un;lia
def c7:TA:=λ_ H Q=>Q [] H
def CM(x:V)(Q:List V->Hp->Prop):List V->Hp->Prop:=λxs H2=>Q (x::xs) H2
def CN(tr:TA)(Z:St)(Q:List V->Hp->Prop):VK:=λx H1=>tr Z H1 (CM x Q)
def bV(ta:TE)(tr:TA):TA:=λZ H Q=>ta Z H (CN tr Z Q)
section
variable {e:Expr}{es:List Expr}{te:TE}{t:TA}{pos:Pos}
theorem cF:PA X [] c7:=λ_ _ _ _ H Q I h=>oW ⟨[],H,I,.nil,h⟩
theorem af(ha:PE X e te)(b:PA X es t)(c:starEach (e::es) X.env=(false,eval e X.env)::starEach es X.env:=by rfl):PA X (e::es) (bV te t):=by intro pos Io s Z H Q I h;rw[c];show wpAny _ _ (spliced ((false,eval e X.env)::backTo pos (starEach es X.env))) _ _ s;refine ma (thn (ha Io s Z H _ I h) λu s1 ⟨x,H1,d,f,g⟩=>?_);exact thn (b pos Io s1 Z H1 _ d g) λus s2 ⟨xs,H2,i,l,m⟩=>⟨x::xs,H2,i,.cons f l,m⟩
theorem pa1{e:Expr}{te:TE}(ha:PE X e te)(b:starEach [e] X.env=(false,eval e X.env)::starEach [] X.env:=by rfl):PA X [e] (bV te c7):=af ha cF b
def D_(Q:VK):List V->Hp->Prop:=λxs H1=>xs.length<=sizeLine/\dP H1 (.tup xs) Q
def lZ(t:TA):TE:=λZ H Q=>t Z H (D_ Q)
def Ef(Q:VK):List V->Hp->Prop:=λxs H1=>xs.length<=sizeLine/\dP H1 (.lst xs) Q
def tLst(t:TA):TE:=λZ H Q=>t Z H (Ef Q)
theorem aR{d}(h:PA X es t):PE X (.Tuple es d pos) (lZ t):=by intro Io s Z H Q I f;refine wpAny_Tuple_spliced (thn (h pos Io s Z H _ I f) λus s1 ⟨xs,H1,c,r,z,q⟩=>⟨by rw[<-r.length];exact z,?_⟩);have hf:H1 s1.heap.objs.size=none:=c.hok.fresh (ai _);refine⟨.ref s1.heap.objs.size,upd H1 s1.heap.objs.size (.tup xs),c.laid (t':=s1.toks) (λb u e=>aE _ e) (ai _) ?_,rfl,q.at hf⟩;exact⟨⟨z,_,a9 _ rfl,rfl⟩,us,r,⟨_,a9 _ rfl,rfl,_,rfl⟩⟩
theorem bj(h:PA X es t):PE X (.List es pos) (tLst t):=by intro Io s Z H Q I d;refine wpAny_List_spliced (thn (h pos Io s Z H _ I d) λus s1 ⟨xs,H1,c,r,z,q⟩=>⟨by rw[<-r.length];exact z,?_⟩);have hf:H1 s1.heap.objs.size=none:=c.hok.fresh (ai _);refine⟨.ref s1.heap.objs.size,upd H1 s1.heap.objs.size (.lst xs),c.laid (t':=s1.toks) (λb u e=>aE _ e) (ai _) ?_,rfl,q.at hf⟩;exact⟨z,us,0,r,a9 _ rfl⟩
end
abbrev Sp:=List V->Hp->VK->XK->Prop
abbrev CXT:=List Env->Hp->Shared->XK->Value->Shared->Prop
structure gL(P:Program)(w:World)(K:W.Frag)(mg:Str->Option Value)(base:Heap)(A:Around)(outer:List Env)(s:Shared)(H:Hp):Prop where
 frames:A.frames=some outer
 mod:Mod K mg base
 bs:∀b o,base.get? b=some o->s.heap.get? b=some o/\H b=none
 bsz:base.objs.size<=s.heap.objs.size
 funs:s.heap.FunFrames base outer
 frf:∀b∈frs outer,H b=none
 hok:HOk P w H s.heap
 bare:AllBare s.gens
def CE(outer:List Env)(P:Program)(w:World)(H:Hp)(s:Shared)(Q:VK)(u:Value)(s':Shared):Prop:=
 ∃v H',s'.os=s.os/\AllBare s'.gens/\Un (frs outer) [] H H' s.heap s'.heap/\HOk P w H' s'.heap/\ar v u/\Q v H'
def CR(CX:CXT)(outer:List Env)(P:Program)(w:World)(H:Hp)(s:Shared)(Q:VK)(E:XK)(r:Result)(s':Shared):Prop:=
 match r with
 |.ok (.ret u)=>CE outer P w H s Q u s'
 |.ok _=>False
 |.error e=>CX outer H s E e s'
structure ak(P:Program)(w:World)(K:W.Frag)(mg:Str->Option Value)(base:Heap)(CX:CXT)(k:Nat)(f:Addr)(fd:FuncData)(ps:List Str)(sp:Sp):Prop where
 len:∀vs H Q E,sp vs H Q E->vs.length=ps.length
 run:∀(A:Around)(outer:List Env)(s:Shared)(H:Hp)(args:Args)(us:List Value)(vs:List V)(Q:VK)(E:XK),Room k A->gL P w K mg base A outer s H->BindsTo s fd args (ps.zip us)->Vals vs us->sp vs H Q E->
  codeAny (model P w) A (.call (.ref f) args) (CR CX outer P w H s Q E) s
theorem ak.mono{CX:CXT}{j k:Nat}{f:Addr}{ps:List Str}{sp:Sp}(F:ak P w K mg base CX j f fd ps sp)(h:j<=k) :
  ak P w K mg base CX k f fd ps sp:=⟨F.len,λA outer s H args us vs Q E b=>F.run A outer s H args us vs Q E (b.mono h)⟩
theorem gL.make{outer:List Env}(e:gL P w K mg base A outer s H)(C:Addr)(us:List Value)(kw:List (Str×Value)) :
  gL P w K mg base (A.under (.builtin "type.__call__" ⟨.ref C::us,kw⟩)) outer s H:=⟨by first|exact e.frames|(simpa [Around.under,Code.envs,Code.isFrame,pushEnvs] using e.frames),e.mod,e.bs,e.bsz,e.funs,e.frf,e.hok,e.bare⟩
section
variable {s s':Shared}
theorem Inv.env0(I:Inv X Io Z H s):gL X.prog X.w X.K X.mg X.base X.A X.stack s H:=
 ⟨I.ok.frames,I.ok.mod,I.bs,bQ I.ok.bsz I.sz,I.stack,I.stkFree,I.hok,I.bare⟩
theorem Inv.after{Q:VK}{u:Value}(I:Inv X Io Z H s)(h:CE X.stack X.prog X.w H s Q u s'):EP X Io Z Q u s':=by obtain⟨v,H',os,bare,un,hok,r,q⟩:=h;obtain⟨c,g,d,t,e⟩:=s';obtain rfl:e=s.os:=os;exact⟨v,H',I.call (h':=c) (g':=g) (d':=d) (t':=t) (ch:=[]) un hok bare (λb z=>absurd z (by simp)),r,q⟩
end
def CP(sp:Sp)(dvs:List V)(E:XK)(Q:VK):List V->Hp->Prop:=λvs H1=>sp (vs++dvs) H1 Q E
def uD(sp:Sp)(dvs:List V)(E:XK)(t:TA):TE:=λZ H Q=>t Z H (CP sp dvs E Q)
def Ed(C:Addr)(m:Str)(sp:Sp)(dvs:List V)(E:XK)(ta:TE)(t:TA):TE:=λZ H Q=>ta Z H λx H1=>∃a dx fs,x=.ref a/\H1 a=some (.ins C dx fs)/\fs.lookup m=none/\
 t Z H1 λvs H2=>sp (x::(vs++dvs)) H2 Q E
def Ee(C:Addr)(sp:Sp)(dvs:List V)(E:XK)(t:TA):TE:=λZ H Q=>t Z H λvs H1=>∀x dx,H1 x=none->H1 dx=none->dx≠x->
 sp (.ref x::(vs++dvs)) (upd (upd H1 dx (.own x)) x (.ins C dx [])) (λv H2=>v=.non/\Q (.ref x) H2) E
def Binds(K:W.Frag)(fd:FuncData)(ps:List Str)(ds:List Value):Prop:=
 ∀(s:Shared)(us:List Value),K.In s.heap->(us++ds).length=ps.length->BindsTo s fd ⟨us,[]⟩ (ps.zip (us++ds))
theorem Binds.all{ps:List Str}(h:∀us:List Value,us.length=ps.length->bindArgs fd ⟨us,[]⟩=pure (ps.zip us)):Binds K fd ps []:=λs us _ b=>by
 rw[List.append_nil] at b |-;exact .of_eq (h us b)
def Passes(CX:CXT)(X:Cx)(E:XK):Prop:=∀(Io:List (Addr×Obj))(Z:St)(H:Hp)(s:Shared)(e:Value)(s':Shared),Inv X Io Z H s->CX X.stack H s E e s'->X.xe e s'
section
variable {CX:CXT}{k:Nat}{f C:Addr}{ps:List Str}{sp:Sp}{dvs:List V}{ds:List Value}{E:XK}{x m:Str}{p pos apos:Pos}{e o:Expr}{es:List Expr}{ta:TE}{t:TA}
theorem t5{Q:VK}(F:ak X.prog X.w X.K X.mg X.base CX k f fd ps sp)(d:Room k X.A)(g:Binds X.K fd ps ds)(hd:Vals dvs ds)(i:Passes CX X E)
  (I:Inv X Io Z H s) (r:Vals vs us) (h:sp (vs++dvs) H Q E):wpAny (model X.prog X.w) X.A (call (.ref f) us) (EP X Io Z Q) X.xe s:=by
 have c:Vals (vs++dvs) (us++ds):=r.append hd;have l:(us++ds).length=ps.length:=by rw[<-c.length];exact F.len _ _ _ _ h
 refine wpAny_call (pD (F.run X.A X.stack s H ⟨us,[]⟩ (us++ds) (vs++dvs) Q E d I.env0 (g s us I.kIn l) c h) λr s' b=>?_);cases r with
 |error e=>exact i Io Z H s e s' I b
 |ok fl=>
  cases fl with
  |ret u=>exact I.after b
  |next=>exact False.elim b
  |brk=>exact False.elim b
  |cont=>exact False.elim b
theorem tp(F:ak X.prog X.w X.K X.mg X.base CX k f fd ps sp)(c:Room k X.A)(d:Gl X x)(hm:X.mg x=some (.ref f))(g:W.keepIn X.K (.ref f)=true)(i:Binds X.K fd ps ds)(hd:Vals dvs ds)(l:Passes CX X E)
  (ha:PA X (e::es) t) (m:(x==("__debug__" : Str))=false:=by decide) (he:starEach (e::es) X.env=(false,eval e X.env)::starEach es X.env:=by rfl) (n:(backTo pos (starEach es X.env)).any (·.1)=false:=by rfl) :
  PE X (.Call (.Name x p) (e::es) [] pos) (uD sp dvs E t):=by
 intro Io s Z H Q I h;refine pF (nX I d hm ?_ m);refine F5 (h₀:=X.base) I.ok.mod.kin g (thn (ha pos Io s Z H _ I h) λus s1 ⟨vs,H1,b,r,q⟩=>⟨b.kIn,?_⟩) he n;exact t5 F c i hd l b r q
theorem m9{pl:Sem Bool}(he:PE X o ta)(c:Cls X.K C)(hm:Meth X.K C m f)(F:ak X.prog X.w X.K X.mg X.base CX k f fd ps sp)(hr:Room k X.A)(hb:Binds X.K fd ps ds)(hd:Vals dvs ds)(hx:Passes CX X E)
  (ht:eval (.Call (.Attribute o m apos) [] [] pos) X.env=(do
   let ov <-eval o X.env
   standAt apos.atName
   let (f,first) <-holding [ov] (getMethod ov m pl)
   callWith pos f first (backTo pos (starEach [] X.env)) (backToKw pos (keywordEach [] X.env))):=by rfl) :
  PE X (.Call (.Attribute o m apos) [] [] pos) (Ed C m sp dvs E ta c7):=by
 intro Io s Z H Q I h;refine W.methodCall_KW (pl:=pl) (thn (he Io s Z H _ I h) λu s1 ⟨x,H1,I1,rx,a,dx,fs,ex,ea,l,q⟩=>?_) ht;subst ex;obtain rfl:u=Value.ref a:=rx;refine xE I1 ea c hm l ?_;exact W.callWith_K0 (first:=[.ref a]) I1.kIn hm.kp (t5 (us:=[.ref a]) (vs:=[.ref a]) F hr hb hd hx I1 (.cons rfl .nil) q)
structure Mk(K:W.Frag)(C f:Addr):Prop where
 makes:W.makesIn K C=true
 init:W.findIn K (.ref C) "__init__" = some (some (.ref f))
 fn:W.isFn K (.ref f)=true
 kp:W.keepIn K (.ref C)=true
theorem zE{Q:VK}(M:Mk X.K C f)(F:ak X.prog X.w X.K X.mg X.base CX k f fd ps sp)(i:Room (k+1) X.A)(l:Binds X.K fd ps ds)(hd:Vals dvs ds)
  (m:Passes CX X E) (I:Inv X Io Z H s) (r:Vals vs us)
  (h:∀x dx,H x=none->H dx=none->dx≠x->sp (.ref x::(vs++dvs)) (upd (upd H dx (.own x)) x (.ins C dx [])) (λv H2=>v=.non/\Q (.ref x) H2) E) :
  wpAny (model X.prog X.w) X.A (call (.ref C) us) (EP X Io Z Q) X.xe s:=by
 have d:=h (s.heap.objs.size+1) s.heap.objs.size (I.hok.fresh (iP _)) (I.hok.fresh (ai _)) (aU (eg _));have c:=Inv.made (C:=C) I;have g:Vals (V.ref (s.heap.objs.size+1)::(vs++dvs)) (Value.ref (s.heap.objs.size+1)::(us++ds)):=.cons rfl (r.append hd);have n:(Value.ref (s.heap.objs.size+1)::us++ds).length=ps.length:=by have e:=g.length;rw[F.len _ _ _ _ d] at e;exact e.symm
 refine wpAny_call (Am (f:=f) I.kIn M.makes M.init (beq_iff_eq.mp M.fn) (pD (F.run _ X.stack _ _ ⟨Value.ref (s.heap.objs.size+1)::us,[]⟩ (Value.ref (s.heap.objs.size+1)::(us++ds)) _ _ E (i.make C us [])
  (c.env0.make C us []) (l _ (Value.ref (s.heap.objs.size+1)::us) c.kIn n) g d) λr s' b=>?_))
 cases r with
 |error e=>exact m Io Z _ _ e s' c b
 |ok fl=>
  cases fl with
  |ret u=>
   obtain⟨v,H',o,p,ev,q⟩:=c.after b;subst ev;exact⟨p,⟨V.ref (s.heap.objs.size+1),H',o,rfl,q⟩⟩
  |next=>exact False.elim b
  |brk=>exact False.elim b
  |cont=>exact False.elim b
theorem tm(M:Mk X.K C f)(F:ak X.prog X.w X.K X.mg X.base CX k f fd ps sp)(c:Room (k+1) X.A)(d:Gl X x)(hm:X.mg x=some (.ref C))(g:Binds X.K fd ps ds)(hd:Vals dvs ds)(i:Passes CX X E)
  (ha:PA X (e::es) t) (l:(x==("__debug__" : Str))=false:=by decide) (he:starEach (e::es) X.env=(false,eval e X.env)::starEach es X.env:=by rfl) (m:(backTo pos (starEach es X.env)).any (·.1)=false:=by rfl) :
  PE X (.Call (.Name x p) (e::es) [] pos) (Ee C sp dvs E t):=by
 intro Io s Z H Q I h;refine pF (nX I d hm ?_ l);refine F5 (h₀:=X.base) I.ok.mod.kin M.kp (thn (ha pos Io s Z H _ I h) λus s1 ⟨vs,H1,b,r,q⟩=>⟨b.kIn,?_⟩) he m;exact zE M F c g hd i b r q
end
section
variable {CX:CXT}{k:Nat}{f C:Addr}{ps ks:List Str}{sp:Sp}{E:XK}{x m:Str}{p pos apos kpos:Pos}{e o:Expr}{es:List Expr}{kws:List Keyword}{te ta:TE}{t tk:TA}{nm:Option Str}
variable {g:List Value->List Value->List Value}{gV:List V->List V->List V}
end
structure aP(N P:List Str)(sc:Scope):Prop where
 kind:sc.kind=.function
 co:sc.isCoroutine=false
 gen:sc.isGenerator=false
 nd:N.Nodup
 pre:N.take P.length=P
 par:∀x∈P,sc.names.lookup x=some .local\/sc.names.lookup x=some .cell
 nofree:∀y∈sc.names,y.2≠.free
theorem qM{kindOf:Str->Option NameKind}{x:Str}:∀{binds:List (Str×Value)}{m:Str->Option Value},(∀v,(x,v)∉binds)->bindL kindOf binds m x=m x
 | [],_,_=>rfl
 |(n,v)::r,m,h=>by
  unfold bindL;rw[qM λw hw=>h w (List.mem_cons_of_mem _ hw)]
  split
  .have:x≠n:=by rintro rfl;exact h v List.mem_cons_self
   simp[this]
  rfl
theorem qO{kindOf:Str->Option NameKind}{x:Str}:∀{binds:List (Str×Value)}{m:Str->Option Value},(∀v,(x,v)∉binds)->bindC kindOf binds m x=m x
 | [],_,_=>rfl
 |(n,v)::r,m,h=>by
  unfold bindC;rw[qO λw hw=>h w (List.mem_cons_of_mem _ hw)]
  split
  .rfl
  have:x≠n:=by rintro rfl;exact h v List.mem_cons_self
  simp[this]
theorem qN{kindOf:Str->Option NameKind}{x:Str}{v:Value}:∀{P:List Str}{vs:List Value}{i:Nat}{m:Str->Option Value},P.Nodup->P[i]?=some x->vs[i]?=some v->kindOf x=some .local->
  bindL kindOf (P.zip vs) m x=some v
 | [],_,_,_,_,h,_,_=>by simp at h
 |_::_,[],_,_,_,_,h,_=>by simp at h
 |p::P,w::vs,0,m,nd,h1,h2,b=>by
  simp at h1 h2;subst h1;subst h2;show bindL kindOf ((p,w)::P.zip vs) m p=_;unfold bindL;rw[qM λv c=>(List.nodup_cons.mp nd).1 (List.of_mem_zip c).1,Ij b];simp
 |p::P,w::vs,i+1,m,nd,h1,h2,b=>by
  show bindL kindOf ((p,w)::P.zip vs) m x=_;unfold bindL;exact qN (i:=i) (List.nodup_cons.mp nd).2 (by simpa using h1) (by simpa using h2) b
theorem qP{kindOf:Str->Option NameKind}{x:Str}{v:Value}:∀{P:List Str}{vs:List Value}{i:Nat}{m:Str->Option Value},P.Nodup->P[i]?=some x->vs[i]?=some v->kindOf x≠some .local->
  bindC kindOf (P.zip vs) m x=some v
 | [],_,_,_,_,h,_,_=>by simp at h
 |_::_,[],_,_,_,_,h,_=>by simp at h
 |p::P,w::vs,0,m,nd,h1,h2,b=>by
  simp at h1 h2;subst h1;subst h2;show bindC kindOf ((p,w)::P.zip vs) m p=_;unfold bindC;rw[qO λv c=>(List.nodup_cons.mp nd).1 (List.of_mem_zip c).1,Ii b];simp
 |p::P,w::vs,i+1,m,nd,h1,h2,b=>by
  show bindC kindOf ((p,w)::P.zip vs) m x=_;unfold bindC;exact qP (i:=i) (List.nodup_cons.mp nd).2 (by simpa using h1) (by simpa using h2) b
def start(N:List Str)(vs:List V):St:=vs.map some++List.replicate (N.length-vs.length) none
def iJ(CX:CXT)(P:Program)(w:World)(K:W.Frag)(mg:Str->Option Value)(base:Heap)(N:List Str)(qual:Str)(scope:Scope)(f:Addr)(cd:Value)(A:Around)(outer:List Env)(s:Shared)(H:Hp)(E:XK):Cx where
 prog:=P
 w:=w
 K:=K
 mg:=mg
 base:=base
 A:=A.deeper (envOfC qual scope s.heap.objs.size f cd)
 N:=N
 s₀:=s
 H₀:=H
 env:=envOfC qual scope s.heap.objs.size f cd
 outer:=outer
 stack:=envOfC qual scope s.heap.objs.size f cd::outer
 ex:=[]
 calm:=true
 fn:=λ_=>true
 pn:=[]
 xe:=λe s'=>wpAny (model P w) (A.deeper (envOfC qual scope s.heap.objs.size f cd)) (leaving (envOfC qual scope s.heap.objs.size f cd) e) (λ_ b=>CX outer H s E e b) (λc b=>CX outer H s E c b) s'
theorem rO{sc:Scope}{n:Nat}{x:Str}(h:sc.names.lookup x=some .cell):∃c,(cellsFrom n sc.names []).lookup x=some c:=by have q:=F6 sc.names n [] (.inl h);exact u_.mp q
theorem yJ{CX:CXT}{N ps:List Str}{qual:Str}{f:Addr}{cd:Value}{outer:List Env}{s s1:Shared}{E:XK}
  (S:aP N ps scope) (hd:A.handled=none) (d:gL P w K mg base A outer s H) (I:vs.length=ps.length) (r:Vals vs us)
  (x:InCallC s s.heap.objs.size (bindL (envOfC qual scope s.heap.objs.size f cd).kindOf (ps.zip us) λ_=>none) (cellsFrom (s.heap.objs.size+1) scope.names []) (bindC (envOfC qual scope s.heap.objs.size f cd).kindOf (ps.zip us) λ_=>none) s1) :
  Inv (iJ CX P w K mg base N qual scope f cd A outer s H E) [] (start N vs) H s1:=by
 have L:ps.length<=N.length:=by have:=congrArg List.length S.pre;rw[List.length_take] at this;lia
 obtain⟨h1,tk,rfl,o⟩:=x.done;have m:∀b:Addr,b∉(iJ CX P w K mg base N qual scope f cd A outer s H E).ex:=λb z=>absurd (show b∈([]:List Addr) from z) (by simp);refine⟨⟨d.mod,S.kind,rfl,rfl,ai _,λy z c h1 h2=>?_,λy g=>?_,λy c _ h=>?_,λ_=>hd,Around.frames_deeper d.frames,.inr ⟨rfl,rfl⟩,λb z=>absurd z (m b),d.bs,d.bsz,λb _ _=>m b,λb z=>absurd z (m b),d.funs,d.frf⟩,
  rfl,d.bare,Un.kept o,⟨_,x.toInCall.ns,λi y v h1 h2 M=>?_⟩,λy c h=>⟨_,x.cell y c h⟩,d.hok.fresh (ai _),λy c h=>?_,λp l=>absurd (show p∈([]:List (Addr×Obj)) from l) (by simp),d.hok.kept o,?_⟩
 .exact name_of_addr x.apart (kB h1) (kB h2)
 .have g:scope.names.lookup y=some .cell\/scope.names.lookup y=some .free:=g;rcases g with g|g
  .exact rO g
  exact absurd rfl (S.nofree _ (kB g))
 .exact kq (x.above y c (kB h))
 .have hi:i<vs.length:=by
   unfold start at h2;by_cases hi:i<vs.length
   .exact hi
   rw[List.getElem?_append_right (by simpa using hi)] at h2;rw[List.getElem?_replicate] at h2
   split at h2<;>cases h2
  have ha:vs[i]?=some v:=by
   unfold start at h2;rw[List.getElem?_append_left (by simpa using hi),List.getElem?_map] at h2;cases e:vs[i]? with
   |none=>rw[e] at h2;cases h2
   |some a=>rw[e] at h2;cases h2;rfl
  obtain⟨u,B,D⟩:=r.get ha;have l:ps[i]?=some y:=by rw[<-S.pre,List.getElem?_take_of_lt (by lia)];exact h1
  have C:ps.Nodup:=by rw[<-S.pre];exact S.nd.sublist (List.take_sublist _ _)
  refine⟨u,D,?_⟩;rcases S.par y (List.mem_of_getElem? l) with k|k
  .exact .inl ⟨k,qN C l B k⟩
  obtain⟨c,e⟩:=rO (n:=s.heap.objs.size+1) k;refine .inr ⟨.inl k,c,e,?_⟩;have q:=x.cell y c e;rw[qP C l B (by show scope.names.lookup y≠_;rw[k];decide)] at q;exact q
 .exact d.hok.fresh (kq (x.above y c (kB h)))
 unfold start;show _=N.length;rw[List.length_append,List.length_map,List.length_replicate];lia
theorem E9{CX:CXT}{k:Nat}{f:Addr}{name qual:Str}{params:Arguments}{body:List Stmt}{l kV doc pm c ct z:Value}{an od:Option Addr}
  {B:Array (Option Value)} {N ps:List Str} {sp:Sp} (lk:K.lookup f=some ⟨z,od,.func (W.fnOf name qual params body scope l kV doc pm an c ct),B⟩) (C:W.codeIn K c qual=true) (S:aP N ps scope)
  (len:∀vs H Q E,sp vs H Q E->vs.length=ps.length)
  (D:∀(A:Around)(outer:List Env)(s:Shared)(H:Hp)(vs:List V)(Q:VK)(E:XK),Room k (A.deeper (envOfC qual scope s.heap.objs.size f c))->sp vs H Q E->
   ∃t,PSs (iJ CX P w K mg base N qual scope f c A outer s H E) body t/\t {nx:=λ_ H'=>Q .non H',rt:=Q} (start N vs) H) :
  ak P w K mg base CX (k+1) f (W.fnOf name qual params body scope l kV doc pm an c ct) ps sp:=by
 refine⟨len,λA outer s H args us vs Q E h g L r m=>?_⟩;have M:=len _ _ _ _ m;have p:K.In s.heap:=g.mod.kin.keeps λb o e=>(g.bs b o e).1;have lim:s.heap.NoLimit:=g.mod.nolimit.keeps λb o e=>(g.bs b o e).1;have O:∀y∈ps.zip us,scope.names.lookup y.1=some .local\/(scope.names.lookup y.1=some .cell/\((cellsFrom (s.heap.objs.size+1) scope.names []).lookup y.1).isSome=true):=λ⟨n,v⟩ R=>by
  rcases S.par n (List.of_mem_zip R).1 with q|q
  .exact .inl q
  exact .inr ⟨q,F6 _ _ _ (.inl q)⟩
 refine codeAny_call_function h.depth (p _ _ lk) rfl S.co S.gen rfl (W.codeRec_of p C) (L _ _ _ _ ?_);refine wpAny_newFunctionEnv_cells S.kind O λenv he s1 x=>?_;subst he;refine⟨lim.keeps x.toInCall.keep,codeAny_func ?_⟩;obtain⟨t,T,U⟩:=D A outer s H vs Q E (h.deeper _) m;have I:Inv (iJ CX P w K mg base N qual scope f c A outer s H E) [] (start N vs) H s1:=yJ S h.hd g M r x;refine bT (T [] s1 (start N vs) H _ I U) (λfl s' d=>?_) λe s' d=>d;have fin:∀{Z':St}{H':Hp}{v:V}{u:Value},Inv (iJ CX P w K mg base N qual scope f c A outer s H E) [] Z' H' s'->ar v u->Q v H'->CE outer P w H s Q u s':=
  λ{Z' H' v u} J i q=>⟨v,H',J.os,J.bare,J.base,J.hok,i,q⟩
 cases fl with
 |ret u=>
  obtain⟨v,Z',H',J,i,q⟩:=d;exact fin J i q
 |next=>
  obtain⟨Z',H',J,q⟩:=d;exact fin (v:=V.non) (u:=Value.none) J rfl q
 |brk=>
  obtain⟨_,_,_,q⟩:=d;exact False.elim q
 |cont=>
  obtain⟨_,_,_,q⟩:=d;exact False.elim q
end L2
namespace L2
open PySem PySem.Spec PyProof.Rows
section
variable {x:Str}{p pos:Pos}{e:Expr}{es:List Expr}{t:TA}{id T:String}{r:List V->Hp->VK->Prop}
def tCBK(r:List V->Hp->VK->Prop)(Q:VK):List V->Hp->Prop:=λvs H1=>r vs H1 Q
def tCB(r:List V->Hp->VK->Prop)(t:TA):TE:=λZ H Q=>t Z H (tCBK r Q)
theorem a_(b:bJ X (.builtin id) r)(c:Gl X x)(hm:X.mg x=none)(d:bootBuiltins x=some (.builtin id))(ha:PA X (e::es) t)(f:x≠"__name__":=by decide)(g:(x==("__debug__" : Str))=false:=by decide)
  (he:starEach (e::es) X.env=(false,eval e X.env)::starEach es X.env:=by rfl) (i:(backTo pos (starEach es X.env)).any (·.1)=false:=by rfl):PE X (.Call (.Name x p) (e::es) [] pos) (tCB r t):=by
 intro Io s Z H Q I h;refine pF (jZ I c hm d ?_ f g);exact GV (thn (ha pos Io s Z H _ I h) λus s1 ⟨vs,H1,l,m,n⟩=>b Io s1 Z H1 vs us Q l m n) he i
theorem cy(b:bJ X (.type T) r)(c:Gl X x)(hm:X.mg x=none)(d:bootBuiltins x=some (.type T))(ha:PA X (e::es) t)(f:x≠"__name__":=by decide)(g:(x==("__debug__" : Str))=false:=by decide)
  (he:starEach (e::es) X.env=(false,eval e X.env)::starEach es X.env:=by rfl) (i:(backTo pos (starEach es X.env)).any (·.1)=false:=by rfl):PE X (.Call (.Name x p) (e::es) [] pos) (tCB r t):=by
 intro Io s Z H Q I h;refine pF (jZ I c hm d ?_ f g);exact vk (thn (ha pos Io s Z H _ I h) λus s1 ⟨vs,H1,l,m,n⟩=>b Io s1 Z H1 vs us Q l m n) he i
end
end L2
namespace HT
open PySem PyProof.Rows
def lexLt:List Int->List Int->Bool
 | [],[]=>false
 | [],_::_=>true
 |_::_,[]=>false
 |x::xs,y::ys=>if x=y then lexLt xs ys else decide (x<y)
theorem lexLt_cons(x y:Int)(xs ys:List Int):lexLt (x::xs) (y::ys)=if x=y then lexLt xs ys else decide (x<y):=rfl
theorem wq:lexLt [] []=false:=rfl
theorem wa(y:Int)(ys:List Int):lexLt [] (y::ys)=true:=rfl
theorem wc(x:Int)(xs:List Int):lexLt (x::xs) []=false:=rfl
theorem AD(A:Around)(s:Shared)(a:Int)(t:Tok)(c:Int)(u:Tok):∃e,SeqAt.EqAt A s (.int a t) (.int c u) e/\(e=true↔a=c):=
 ⟨(a==c),F_ a t c u,by simp⟩
theorem zI(A:Around)(s:Shared)(a:Int)(t:Tok)(c:Int)(u:Tok)(prog:Program)(w:World)(E:Value->Shared->Prop)(Q:Value->Shared->Prop)(h:Q (.bool (decide (a<c))) s) :
  wpAny (model prog w) A (richCompare .Lt (.int a t) (.int c u)) Q E s:=
 (GY h:wpAny (model prog w) A (compareOp .Lt (.int a t) (.int c u)) Q E s)
section
open PySem.SeqAt
open PySem.AutoSeq1 (wpAny_loadPart')
open PySem.MeetsSeq PySem.MeetsSeq2 PySem.MeetsSeq3
theorem wj(l b:Addr)(items m:Array Value)(n H:Nat)(dd I:Option Addr)(K L:Array (Option Value))(ns ms:List Int)(hi:IntsAre items.toList ns)(C:IntsAre m.toList ms) :
  Meets (Builtin.«tuple.__lt__» ⟨[.ref l,.ref b],[]⟩)
   (λ_ R s=>s.heap.get? l=some {cls:=.type "tuple",dict:=dd,data:=.seq items n,slots:=K}/\s.heap.get? b=some {cls:=.type "tuple",dict:=I,data:=.seq m H,slots:=L}/\
    R (.ok (.ret (.bool (lexLt ns ms)))) s):=
 .of_wp λprog w A R s h=>by
  obtain⟨r,g,d,tk,os⟩:=s;obtain⟨M,N,h⟩:=h;have Y:=AutoSeq1.sub_tuple_tuple;have Z:items.size=ns.length:=by rw[<-hi.length];simp
  have z2:m.size=ms.length:=by rw[<-C.length];simp
  wp_walk using vQ M,vQ N,Gq _ (λrest b s'=>b.1=none/\s'=⟨r,g,d,tk,os⟩/\∃(vs ws:List Value)(o p:List Int),rest=vs.zip ws/\
   IntsAre vs o/\IntsAre ws p/\o.length+m.size=p.length+items.size/\R (.ok (.ret (.bool (lexLt o p)))) ⟨r,g,d,tk,os⟩) _
  case turn=>
   rintro⟨y,x⟩ rest b s' ⟨z,rfl,vs,ws,o,p,f,B,v,hlen,i⟩;cases B with
   |nil=>rw[List.zip_nil_left] at f;cases f
   |cons a t O=>
    cases v with
    |nil=>rw[List.zip_nil_right] at f;cases f
    |cons c u P=>
     rw[List.zip_cons_cons] at f;injection f with Q S;injection Q with T U;subst T U;rw[lexLt_cons] at i;simp only[List.length_cons] at hlen;obtain⟨e,he,D⟩:=AD A.in1 ⟨r,g,d,tk,os⟩ a t c u;refine aa (he prog w _ _ ?_);cases e with
     |true=>
      rw[Ij (D.mp rfl)] at i
      wp_walk
      exact⟨rfl,rfl,_,_,_,_,S,O,P,by lia,i⟩
     |false=>
      rw[Ii (λq=>absurd (D.mpr q) a8)] at i;have X:=zI A.in1 ⟨r,g,d,tk,os⟩ a t c u prog w
      wp_walk using X
      exact⟨_,rfl,by simpa using i⟩
  case fin=>
   rintro⟨b1,b2⟩ s' ⟨z,rfl,vs,ws,o,p,f,B,v,hlen,i⟩;simp only at z;subst z;have E:lexLt o p=decide (items.size<m.size):=by
    cases B with
    |nil=>
     cases v with
     |nil=>
      simp only[List.length_nil] at hlen;rw[wq];exact (Il (by lia)).symm
     |cons c u hw=>
      simp only[List.length_nil,List.length_cons] at hlen;rw[wa];exact (Ik (by lia)).symm
    |cons a t E=>
     cases v with
     |nil=>
      simp only[List.length_nil,List.length_cons] at hlen;rw[wc];exact (Il (by lia)).symm
     |cons c u hw=>
      rw[List.zip_cons_cons] at f;cases f
   rw[E] at i
   wp_walk
   exact⟨_,rfl,by simpa [Builtin.Tuple.tupleCompareSizes] using i⟩
  case h=>
   exact⟨rfl,rfl,items.toList,m.toList,ns,ms,rfl,hi,C,by lia,h⟩
end
section
variable {prog:Program}
theorem lt_tupInts{l b:Addr}{items c:Array Value}{ns ms:List Int}{Q:Value->Shared->Prop}(m:IsTup s.heap l items)(o:IsTup s.heap b c)(hi:IntsAre items.toList ns)(p:IntsAre c.toList ms)
  (q:A.units<cLine) (h:Q (.bool (lexLt ns ms)) s):wpAny (model prog w) A (compareOp .Lt (.ref l) (.ref b)) Q E s:=by
 obtain⟨⟨cls,dd,data,r⟩,d,e,n,hd⟩:=id m;obtain⟨⟨z,u,data2,v⟩,f,g,y,i⟩:=id o;simp only at e hd g i;subst e hd g i;exact richCompare_meets_room (op:=.Lt) ⟨_,d,rfl⟩ ⟨_,f,rfl⟩ PySem.F.slot_tuple_lt PySem.F.entry_tuple_lt (PySem.F.args_tuple_lt_2 _ _) (wj l b items c n y dd u r v ns ms hi p)
  ⟨d,f,show Value.bool (lexLt ns ms)≠Value.notImplemented/\Q (.bool (lexLt ns ms)) s from ⟨(λx=>nomatch x),h⟩⟩ q
def sIx(n d:Nat):Option Int->Nat
 |none=>d
 |some v=>if v<0 then (v+(n:Int)).toNat else min v.toNat n
theorem sIx_none(n d:Nat):sIx n d none=d:=rfl
theorem sIx_nat(n d k:Nat):sIx n d (some (k:Int))=min k n:=by show (if (k:Int)<0 then ((k:Int)+(n:Int)).toNat else min (k:Int).toNat n)=min k n;rw[Ii (by lia),e8]
end
end HT
namespace L2
open PySem PySem.Spec PyProof.Rows
abbrev TO:=St->Hp->(Option Int->Hp->Prop)->Prop
def PO(X:Cx)(e:Option Expr)(t:TO):Prop:=
 ∀(Io:List (Addr×Obj))(s:Shared)(Z:St)(H:Hp)(Q:Option Int->Hp->Prop),Inv X Io Z H s->t Z H Q->
  wpAny (model X.prog X.w) X.A (evalPart e X.env) (λu s'=>∃o H',Inv X Io Z H' s'/\IsPart u o/\Q o H') X.xe s
def A4:TO:=λ_ H Q=>Q none H
def CB(Q:Option Int->Hp->Prop)(x:V)(H1:Hp)(i:Int):Prop:=x=.int i/\Q (some i) H1
def CA(Q:Option Int->Hp->Prop):VK:=λx H1=>Exists (CB Q x H1)
def Ea(t:TE):TO:=λZ H Q=>t Z H (CA Q)
theorem gZ{ns:List Int}:∀{us:List Value},Vals (ns.map V.int) us->IntsAre us ns:=by
 induction ns with
 |nil=>intro us r;rw[List.map_nil] at r;cases r;exact .nil
 |cons n ns b=>
  intro us r;rw[List.map_cons] at r;cases r with
  |cons c d=>
   obtain⟨t,e⟩:=c;subst e;exact .cons n t (b d)
section
variable {e:Expr}{te:TE}{lo hi:Option Expr}{tl th:TO}{pos p2:Pos}
theorem s_:PO X none A4:=by intro Io s Z H Q I h;rw[evalPart_none];exact aj ⟨none,H,I,.none,h⟩
theorem sX(h:PE X e te):PO X (some e) (Ea te):=by intro Io s Z H Q I hw;rw[evalPart_some];refine thn (h Io s Z H _ I hw) λu s1 ⟨x,H1,b,c,d⟩=>?_;obtain⟨i,rfl,q⟩:=d;obtain⟨t,rfl⟩:=c;exact⟨some i,H1,b,.int i t,q⟩
def SlR(X:Cx)(r:V->Option Int->Option Int->Hp->VK->Prop):Prop:=
 ∀(Io:List (Addr×Obj))(s:Shared)(Z:St)(H:Hp)(x:V)(v b c:Value)(lo hi:Option Int)(d:Addr)(Q:VK),Inv X Io Z H s->ar x v->s.heap.IsSliceOf d b c .none->IsPart b lo->IsPart c hi->r x lo hi H Q->
  ∃T id,typeLookup (.type T) "__getitem__" = pure (some (.builtin id))/\s.TypeIs v T/\wpAny (model X.prog X.w) X.A (getItem v (.ref d)) (EP X Io Z Q) X.xe s
def tSl3(r:V->Option Int->Option Int->Hp->VK->Prop)(x:V)(l:Option Int)(Q:VK):Option Int->Hp->Prop:=λu b=>r x l u b Q
def tSl2(r:V->Option Int->Option Int->Hp->VK->Prop)(th:TO)(Z:St)(x:V)(Q:VK):Option Int->Hp->Prop:=λl H2=>th Z H2 (tSl3 r x l Q)
def tSl1(r:V->Option Int->Option Int->Hp->VK->Prop)(tl th:TO)(Z:St)(Q:VK):VK:=λx H1=>tl Z H1 (tSl2 r th Z x Q)
def tSl(r:V->Option Int->Option Int->Hp->VK->Prop)(te:TE)(tl th:TO):TE:=λZ H Q=>te Z H (tSl1 r tl th Z Q)
theorem rh{r:V->Option Int->Option Int->Hp->VK->Prop}(i:SlR X r)(he:PE X e te)(m:PO X lo tl)(n:PO X hi th):PE X (.Subscript e (.Slice lo hi none p2) pos) (tSl r te tl th):=by intro Io s Z H Q I h;refine vA (thn (he Io s Z H _ I h) λv s1 ⟨x,H1,o,p,y⟩=>?_);refine wpAny_Slice (thn (m Io s1 Z H1 _ o y) λd s2 ⟨l,H2,z,pl,B⟩=>thn (n Io s2 Z H2 _ z B) λf c ⟨u,g,C,pu,D⟩=>?_);rw[evalPart_none];refine aj ?_;have E:Inv X Io Z g {c with heap:=c.heap.push {cls:=.type "slice",data:=.fields #[d,f,.none]}}:=C.kept (t':=c.toks) λb ob q=>aE _ q;obtain⟨T,id,K,L,M⟩:=i Io {c with heap:=c.heap.push {cls:=.type "slice",data:=.fields #[d,f,.none]}} Z g x v d f l u c.heap.objs.size Q E p (GJ ..) pl pu D;show wpAny (model X.prog X.w) X.A (subscriptTail e (.Slice lo hi none p2) v (.ref c.heap.objs.size)) (EP X Io Z Q) X.xe {c with heap:=c.heap.push {cls:=.type "slice",data:=.fields #[d,f,.none]}};exact tail_any (ops:=[.ref c.heap.objs.size,v]) L K M (by with_unfolding_all rfl)
def gI(xs:List V)(lo hi:Option Int):List V:=(xs.drop (HT.sIx xs.length 0 lo)).take (HT.sIx xs.length xs.length hi-HT.sIx xs.length 0 lo)
theorem wZ(xs:List V)(lo hi:Option Int):(gI xs lo hi).length<=xs.length:=by unfold gI;rw[List.length_take,List.length_drop];lia
end
end L2
namespace L2
open PySem PySem.Spec PyProof.Rows
def ixN(n:Nat)(i:Int):Option Nat:=if 0<=i then (if i<n then some i.toNat else none) else if -(n:Int)<=i then some (i+n).toNat else none
def atI{α:Type}(xs:List α)(i:Int):Option α:=(ixN xs.length i).bind λj=>xs[j]?
theorem nZ{n:Nat}{i:Int}{j:Nat}(h:ixN n i=some j):seqIndex? i n=some j/\j<n/\-(n:Int)<=i/\i<n:=by
 unfold ixN at h;by_cases b:0<=i
 .rw[Ij b] at h;by_cases h1:i<n
  .rw[Ij h1] at h;have e:i.toNat=j:=cq h;exact⟨by rw[vG b h1,e],by lia,by lia,h1⟩
  rw[Ii h1] at h;cases h
 rw[Ii b] at h;by_cases h1:-(n:Int)<=i
 .rw[Ij h1] at h;have e:(i+n).toNat=j:=cq h;exact⟨by rw[vF (by lia) h1,e],by lia,h1,by lia⟩
 rw[Ii h1] at h;cases h
theorem tN{α:Type}{xs:List α}{i:Int}{v:α}(h:atI xs i=some v):∃j,seqIndex? i xs.length=some j/\xs[j]?=some v/\j<xs.length/\-(xs.length:Int)<=i/\i<xs.length:=by
 unfold atI at h;cases e:ixN xs.length i with
 |none=>rw[e] at h;cases h
 |some j=>
  rw[e] at h;obtain⟨h1,h2,b,c⟩:=nZ e;exact⟨j,h1,h,h2,b,c⟩
theorem cQ{α:Type}{xs:List α}{j:Nat}{v:α}(h:xs[j]?=some v):atI xs (j:Int)=some v:=by
 have b:j<xs.length:=(List.getElem?_eq_some_iff.mp h).1;have e:ixN xs.length (j:Int)=some j:=by unfold ixN;rw[Ij (by lia),Ij (by lia)];simp
 unfold atI;rw[e];exact h
def tP(b:Expr):Prop:=∀o i,subscripted b false o i=operate [o,i] (getItem o i)
def IxR(X:Cx)(r:R2):Prop:=
 ∀(value slice:Expr)(Io:List (Addr×Obj))(s:Shared)(Z:St)(H:Hp)(x y:V)(v u:Value)(Q:VK),Inv X Io Z H s->ar x v->ar y u->r x y H Q->
  subscripted slice false v u=operate [v,u] (getItem v u)->wpAny (model X.prog X.w) X.A (subscriptTail value slice v u) (EP X Io Z Q) X.xe s
def MtR(X:Cx)(id:String)(r:V->List V->Hp->VK->Prop):Prop:=
 ∀(Io:List (Addr×Obj))(s:Shared)(Z:St)(H:Hp)(x:V)(xs:List V)(v:Value)(us:List Value)(Q:VK),Inv X Io Z H s->ar x v->Vals xs us->r x xs H Q->
  wpAny (model X.prog X.w) X.A (call (.builtin id) (v::us)) (EP X Io Z Q) X.xe s
section
variable {a b:Expr}{ta tb:TE}{pos:Pos}
theorem uK{r:R2}(c:IxR X r)(ha:PE X a ta)(d:PE X b tb)(e:tP b):PE X (.Subscript a b pos) (tOp r ta tb):=by intro Io s Z H Q I h;exact vA (oS ha d I h λv u s2 x y H2 f g i q=>c a b Io s2 Z H2 x y v u Q f g i q (e _ _))
theorem ixx{r:R2}(c:IxR X r)(ha:PE X a ta)(d:PE X b tb)(e:tP b:=by (intro _ _;rfl)):PE X (.Subscript a b pos) (tOp r ta tb):=uK c ha d e
def EO(K:W.Frag)(x y:V)(H:Hp)(Q:VK)(p:Addr)(xs:List V)(i:Int)(v:V):Prop:=x=.ref p/\y=.int i/\SqL K H p xs/\atI xs i=some v/\Q v H
def rIxL(K:W.Frag):R2:=λx y H Q=>Exists (Ex4 (EO K x y H Q))
def EN(K:W.Frag)(x y:V)(H:Hp)(Q:VK)(p:Addr)(xs:List V)(i:Int)(v:V):Prop:=x=.ref p/\y=.int i/\SqT K H p xs/\atI xs i=some v/\Q v H
def rIxT(K:W.Frag):R2:=λx y H Q=>Exists (Ex4 (EN K x y H Q))
theorem bG:IxR X (rIxL []):=by
 intro value slice Io s Z H x y v u Q I f g h c;obtain⟨p,xs,i,z,rfl,rfl,l,he,q⟩:=h;cases f;obtain⟨t,rfl⟩:=g;obtain⟨m,r,pl,C⟩:=I.list l;obtain⟨j,h1,h2,D,n,o⟩:=tN he;obtain⟨w,d,A⟩:=r.get h2;have B:=r.length;have E:=line63;have fin:EP X Io Z Q w s:=⟨z,H,I,A,q⟩;by_cases e:0<=i
 .have b:i.toNat=j:=by
   rw[vG e o] at h1;exact cq h1
  exact item_listR pl.isList e (by lia) (by rw[b];simpa using d) fin c
 have b:(i+(m.toArray.size:Int)).toNat=j:=by rw[vF (by lia) n] at h1;rw[List.size_toArray,<-B];exact cq h1
 exact Gh (x:=w) pl.isList.typeIs Gg.lookup
  (wpAny_getItem_list_neg (Q:=λr s'=>r=w/\EP X Io Z Q r s') pl.isList (by lia) (by rw[List.size_toArray]<;>lia) (by lia) (by rw[b];simpa using d) ⟨rfl,fin⟩) c
theorem DC:IxR X (rIxT []):=by
 intro value slice Io s Z H x y v u Q I b c h d;obtain⟨p,xs,i,z,rfl,rfl,e,he,q⟩:=h;cases b;obtain⟨t,rfl⟩:=c;obtain⟨m,r,pl,n⟩:=I.tuple e;obtain⟨j,h1,h2,o,A,B⟩:=tN he;obtain⟨w,f,g⟩:=r.get h2;have l:=r.length;have C:=line63;have fin:EP X Io Z Q w s:=⟨z,H,I,g,q⟩;exact Gh (x:=w) pl.typeIs slot_tuple_getitem.lookup
  (getItem_tuple (j:=j) (Q:=λr s'=>r=w/\EP X Io Z Q r s') pl (by lia) (by lia) (by rw[List.size_toArray,<-l];exact h1) (by simpa using f) ⟨rfl,fin⟩) d
theorem xA(b:List Value)(n j:Nat)(u:Value):Obj.mapSeq (·.setIfInBounds j u) {cls:=.type "list",data:=.seq b.toArray n}={cls:=.type "list",data:=.seq (b.set j u).toArray n}:=by simp[Obj.mapSeq]
theorem Inv.lst{p:Addr}(I:Inv X Io Z H s)(h:H p=some (.lst xs)) :
  ∃(b:List Value)(n:Nat),Vals xs b/\s.heap.get? p=some {cls:=.type "list",data:=.seq b.toArray n}/\xs.length<=sizeLine:=by
 obtain⟨z,b,n,r,e⟩:=I.hok p _ h;exact⟨b,n,r,e,z⟩
theorem Inv.lstUpd{p:Addr}{xs ys:List V}{d its':List Value}{n c:Nat}{f:Obj->Obj}(I:Inv X Io Z H s)(h:H p=some (.lst xs))
  (g:s.heap.get? p=some {cls:=.type "list",data:=.seq d.toArray n}) (hf:f {cls:=.type "list",data:=.seq d.toArray n}={cls:=.type "list",data:=.seq its'.toArray c}) (r:Vals ys its') (i:ys.length<=sizeLine) (t:Nat) :
  Inv X Io Z (upd H p (.lst ys)) {s with heap:=s.heap.update p f,toks:=t}:=by
 have e:(s.heap.update p f).get? p=some {cls:=.type "list",data:=.seq its'.toArray c}:=by rw[oX f g (by rw[hf]<;>rfl),hf]
 refine I.write (x:=p) (e:=p) (by rw[h];trivial) (.inl rfl) (λb u l q=>(mh _ _ (aF l)).trans q) ⟨_,e⟩ ?_;exact⟨i,its',c,r,e⟩
def C9(o i v:V)(H:Hp)(Q:Hp->Prop)(p:Addr)(xs:List V)(k:Int)(j:Nat):Prop:=o=.ref p/\i=.int k/\H p=some (.lst xs)/\ixN xs.length k=some j/\WrO H p (.lst (xs.set j v)) Q
def EI:V->V->V->Hp->(Hp->Prop)->Prop:=λo i v H Q=>Exists (Ex4 (C9 o i v H Q))
theorem m5:PSet X EI:=by
 intro Io s Z H o i v B C u Q I x ri y h;obtain⟨p,xs,k,j,rfl,rfl,e,z,q⟩:=h;replace q:=q.at;cases x;obtain⟨t,rfl⟩:=ri;obtain⟨f,n,r,b,A⟩:=I.lst e;obtain⟨h1,h2,g,l⟩:=nZ z;have c:=r.length;have D:=line63;have m:Inv X Io Z (upd H p (.lst (xs.set j v))) {s with heap:=s.heap.update p (Obj.mapSeq (·.setIfInBounds j u))}:=
  I.lstUpd e b (xA f n j u) (r.set y j) (by rw[List.length_set];exact A) s.toks
 by_cases w:0<=k
 .have d:k.toNat=j:=by
   rw[vG w l] at h1;exact cq h1
  exact W.ki_setAt b w (by lia) (by rw[List.size_toArray,<-c];exact l) (by rw[d];exact⟨_,m,q⟩)
 have d:(k+(f.toArray.size:Int)).toNat=j:=by rw[vF (by lia) g] at h1;rw[List.size_toArray,<-c];exact cq h1
 exact W.ki_setBack b (by lia) (by rw[List.size_toArray,<-c];exact g) (by lia) (by rw[d];exact⟨_,m,q⟩)
theorem wC(lo hi:Option Int)(n:Nat):(sliceBounds lo hi none n).1=((HT.sIx n 0 lo:Nat):Int)/\(sliceBounds lo hi none n).2.1=((HT.sIx n n hi:Nat):Int)/\(sliceBounds lo hi none n).2.2=1:=by
 refine⟨?_,?_,rfl⟩
 .cases lo with
  |none=>simp[sliceBounds,HT.sIx]
  |some i=>
   simp only[sliceBounds,HT.sIx,FI,show (1:Int)>0 by decide,if_true];by_cases h:i<0
   .simp only[h,if_true]<;>lia
   simp only[h,if_false]<;>lia
 cases hi with
 |none=>simp[sliceBounds,HT.sIx]
 |some i=>
  simp only[sliceBounds,HT.sIx,FI,show (1:Int)>0 by decide,if_true];by_cases h:i<0
  .simp only[h,if_true]<;>lia
  simp only[h,if_false]<;>lia
theorem wm(b:List Value)(lo hi:Option Int):slicePick b.toArray lo hi none=((b.drop (HT.sIx b.length 0 lo)).take (HT.sIx b.length b.length hi-HT.sIx b.length 0 lo)).toArray:=by obtain⟨h1,h2,c⟩:=wC lo hi b.toArray.size;unfold slicePick;rw[h1,h2,c];simp only[sliceRange_one,pick_run,List.size_toArray]<;>rfl
def EH(K:W.Frag)(x:V)(lo hi:Option Int)(H:Hp)(Q:VK)(a:Addr)(xs:List V):Prop:=x=.ref a/\SqL K H a xs/\dP H (.lst (gI xs lo hi)) Q
def rSlL(K:W.Frag):V->Option Int->Option Int->Hp->VK->Prop:=λx lo hi H Q=>Exists (Ex2 (EH K x lo hi H Q))
theorem sL:SlR X (rSlL []):=by intro Io s Z H x v i l lo hi m Q I d e pl pu h;obtain⟨a,xs,rfl,f,q⟩:=h;cases d;obtain⟨n,r,c,g⟩:=I.list f;have hlen:=r.length;refine⟨"list",_,Gg.lookup,c.isList.typeIs,?_⟩;refine wpAny_getItem_list_slice c.isList e pl pu .none (by simp) ?_ (by rw[List.size_toArray]<;>lia);rw[wm,<-hlen];refine⟨.ref s.heap.objs.size,_,I.laid (t':=s.toks) (o:=.lst (gI xs lo hi)) (λb ob q=>aE _ q) (ai _) ?_,rfl,q.at (I.hok.fresh (ai _))⟩;exact⟨bQ (wZ xs lo hi) g,_,0,(r.drop (HT.sIx xs.length 0 lo)).take (HT.sIx xs.length xs.length hi-HT.sIx xs.length 0 lo),a9 _ rfl⟩
def eL:V->Bool
 |.non=>true
 |.bl _=>true
 |.int _=>true
 |.str _=>true
 |_=>false
def eqV:V->V->Bool
 |.non,.non=>true
 |.bl a,.bl b=>a==b
 |.bl a,.int b=>(if a then 1 else 0)==b
 |.int a,.bl b=>a==(if b then 1 else 0)
 |.int a,.int b=>a==b
 |.str a,.str b=>a==b
 |_,_=>false
theorem DP{y x:V}{u v:Value}(d:ar y u)(c:ar x v)(f:eL y=true)(e:eL x=true):SeqAt.EqAt A s u v (eqV y x):=by
 cases y with
 |non=>
  cases d;cases x with
  |non=>cases c;exact Ib _
  |bl b=>cases c;exact HZ b
  |int b=>obtain⟨t,rfl⟩:=c;exact H_ b t
  |str b=>obtain⟨t,rfl⟩:=c;exact Ia b t
  |_=>exact absurd (show false=true from e) a8
 |bl a=>
  cases d;cases x with
  |non=>cases c;exact HV a
  |bl b=>cases c;exact HS a b
  |int b=>obtain⟨t,rfl⟩:=c;exact HU a b t
  |str b=>obtain⟨t,rfl⟩:=c;exact HW a b t
  |_=>exact absurd (show false=true from e) a8
 |int a=>
  obtain⟨t',rfl⟩:=d;cases x with
  |non=>cases c;exact HY a t'
  |bl b=>cases c;exact HX a t' b
  |int b=>obtain⟨t,rfl⟩:=c;exact F_ a t' b t
  |str b=>obtain⟨t,rfl⟩:=c;exact Ga a t' b t
  |_=>exact absurd (show false=true from e) a8
 |str a=>
  obtain⟨t',rfl⟩:=d;cases x with
  |non=>cases c;exact Ie a t'
  |bl b=>cases c;exact Ic a t' b
  |int b=>obtain⟨t,rfl⟩:=c;exact Gb a t' b t
  |str b=>obtain⟨t,rfl⟩:=c;exact Ig a t' b t
  |_=>exact absurd (show false=true from e) a8
 |_=>exact absurd (show false=true from f) a8
def eqU(x:V)(u:Value):Bool:=match u with
 |.none=>eqV .non x
 |.bool b=>eqV (.bl b) x
 |.int i _=>eqV (.int i) x
 |.str z _=>eqV (.str z) x
 |_=>false
theorem uo{x y:V}{u:Value}(r:ar y u)(f:eL y=true):eqU x u=eqV y x:=by
 cases y with
 |non=>cases r;rfl
 |bl b=>cases r;rfl
 |int i=>obtain⟨t,rfl⟩:=r;rfl
 |str z=>obtain⟨t,rfl⟩:=r;rfl
 |_=>exact absurd (show false=true from f) a8
theorem jH{x:V}:∀{xs:List V}{us:List Value},Vals xs us->xs.all eL=true->us.any (eqU x)=xs.any λy=>eqV y x
 |_,_,.nil,_=>rfl
 |y::xs,u::us,.cons r t,f=>by
  rw[List.all_cons,eZ] at f;rw[List.any_cons,List.any_cons,uo r f.1,jH t f.2]
theorem jk{x:V}{v:Value}(c:ar x v)(d:eL x=true):∀{xs:List V}{us:List Value},Vals xs us->xs.all eL=true->∀u∈us,SeqAt.EqAt A s u v (eqU x u)
 |_,_,.nil,_=>λu b=>by cases b
 |y::xs,u::us,.cons r t,f=>λe b=>by
  rw[List.all_cons,eZ] at f;rcases List.mem_cons.mp b with rfl|b
  .rw[uo r f.1];exact DP r c f.1 d
  exact jk c d t f.2 e b
def inV(x:V)(xs:List V):Bool:=xs.any λy=>eqV y x
def rInB(K:W.Frag)(neg:Bool)(x y:V)(H:Hp)(Q:VK)(p:Addr)(xs:List V):Prop:=y=.ref p/\(SqL K H p xs\/SqT K H p xs)/\eL x=true/\xs.all eL=true/\Q (.bl (if neg then !inV x xs else inV x xs)) H
def rIn(K:W.Frag)(neg:Bool):R2:=λx y H Q=>Exists (Ex2 (rInB K neg x y H Q))
theorem mR:OpR X (compareOp .In) (rIn [] false):=by
 intro Io s Z H x y v u Q I d f h;obtain⟨p,xs,rfl,b,e,fs,q⟩:=h;cases f;rcases b with b|b
 .obtain⟨c,r,pl,g⟩:=I.list b;refine SeqAt.in_listAt (eqU x) pl.isList (λw hw=>jk d e r fs w (by simpa using hw)) ⟨.bl _,H,I,rfl,?_⟩;rw[show c.toArray.any (eqU x)=c.any (eqU x) by simp,jH r fs];exact q
 obtain⟨c,r,pl,g⟩:=I.tuple b;refine SeqAt.in_tupleAt (eqU x) pl (λw hw=>jk d e r fs w (by simpa using hw)) ⟨.bl _,H,I,rfl,?_⟩;rw[show c.toArray.any (eqU x)=c.any (eqU x) by simp,jH r fs];exact q
theorem i5:OpR X (compareOp .NotIn) (rIn [] true):=by
 intro Io s Z H x y v u Q I d f h;obtain⟨p,xs,rfl,b,e,fs,q⟩:=h;cases f;rcases b with b|b
 .obtain⟨c,r,pl,g⟩:=I.list b;refine SeqAt.notIn_listAt (eqU x) pl.isList (λw hw=>jk d e r fs w (by simpa using hw)) ⟨.bl _,H,I,rfl,?_⟩;rw[show c.toArray.any (eqU x)=c.any (eqU x) by simp,jH r fs];exact q
 obtain⟨c,r,pl,g⟩:=I.tuple b;refine SeqAt.notIn_tupleAt (eqU x) pl (λw hw=>jk d e r fs w (by simpa using hw)) ⟨.bl _,H,I,rfl,?_⟩;rw[show c.toArray.any (eqU x)=c.any (eqU x) by simp,jH r fs];exact q
def Dc(K:W.Frag)(xs:List V)(H:Hp)(Q:VK)(p:Addr)(ys:List V):Prop:=xs=[.ref p]/\(SqL K H p ys\/SqT K H p ys)/\Q (.int ys.length) H
def uJ(K:W.Frag):List V->Hp->VK->Prop:=λxs H Q=>Exists (Ex2 (Dc K xs H Q))
theorem wG:bJ X (.builtin "len") (uJ []):=by
 intro Io s Z H xs us Q I r h;obtain⟨p,ys,rfl,b,q⟩:=h;obtain⟨u,rfl,d⟩:=vals1 r;cases d;have g:=line63;rcases b with b|b
 .obtain⟨e,c,pl,f⟩:=I.list b;have hlen:=c.length;exact Calls.call_len_list pl.isList (by simp only[List.size_toArray]<;>lia) ⟨.int ys.length,H,I.tok _,⟨s.toks+1,by rw[List.size_toArray,hlen]⟩,q⟩
 obtain⟨e,c,pl,f⟩:=I.tuple b;have hlen:=c.length;exact len_tuple pl (by simp only[List.size_toArray]<;>lia) ⟨.int ys.length,H,I.tok _,⟨s.toks+1,by rw[List.size_toArray,hlen]⟩,q⟩
theorem pln{e:Expr}{te:TE}{p pos:Pos}(hm:X.mg "len" = none)(he:PE X e te)(c:Gl X "len":=by rfl)(b:starEach [e] X.env=(false,eval e X.env)::starEach [] X.env:=by rfl)(d:(backTo pos (starEach ([]:List Expr) X.env)).any (·.1)=false:=by rfl):PE X (.Call (.Name "len" p) [e] [] pos) (tCB (uJ []) (bV te c7)):=a_ wG c hm pB (af he cF b) (by decide) (by decide) b d
def Bv(K:W.Frag)(xs:List V)(H:Hp)(Q:VK)(p:Addr)(ys:List V):Prop:=xs=[.ref p]/\(SqL K H p ys\/SqT K H p ys)/\dP H (.lst ys) Q
def Da(K:W.Frag):List V->Hp->VK->Prop:=λxs H Q=>Exists (Ex2 (Bv K xs H Q))
theorem kH:bJ X (.type "list") (Da []):=by
 intro Io s Z H xs us Q I r h;obtain⟨p,ys,rfl,g,q⟩:=h;obtain⟨u,rfl,v⟩:=vals1 r;cases v;have fin:∀(c:List Value),Vals ys c->ys.length<=sizeLine->∀(h':Heap)(d:Nat),(∀b o',s.heap.get? b=some o'->h'.get? b=some o')->
   h'.get? s.heap.objs.size=some {cls:=.type "list",dict:=none,data:=.seq c.toArray d,slots:=#[]}->EP X Io Z Q (.ref s.heap.objs.size) {s with heap:=h'}:=λc f i h' d kp e=>
  ⟨.ref s.heap.objs.size,_,I.laid (t':=s.toks) kp (ai _) (show a6 X.prog X.w _ h' _ (.lst ys) from ⟨i,c,d,f,e⟩),rfl,q.at (I.hok.fresh (ai _))⟩
 rcases g with g|g
 .obtain⟨c,f,pl,i⟩:=I.list g;have hlen:=f.length;obtain⟨o,l,m,n,hd⟩:=pl.isList;exact call_list_seq p (.inl rfl) l m hd (λh' d kp e=>fin c f i h' d kp e) (by simp only[List.size_toArray]<;>lia)
 obtain⟨c,f,pl,i⟩:=I.tuple g;have hlen:=f.length;obtain⟨o,l,m,n,hd⟩:=pl;exact call_list_seq p (.inr rfl) l m hd (λh' d kp e=>fin c f i h' d kp e) (by simp only[List.size_toArray]<;>lia)
theorem iZ:bJ X (.type "tuple") (λxs H Q=>∃p ys,xs=[.ref p]/\((SqL [] H p ys/\∀l,H l=none->Q (.ref l) (upd H l (.tup ys)))\/(SqT [] H p ys/\Q (.ref p) H))):=by
 intro Io s Z H xs us Q I r h;obtain⟨p,ys,rfl,h⟩:=h;obtain⟨u,rfl,m⟩:=vals1 r;cases m;rcases h with ⟨c,q⟩|⟨c,q⟩
 .obtain⟨d,f,pl,g⟩:=I.list c;have hlen:=f.length;refine call_tuple_list pl.isList (λh' kp=>?_) (by simp only[List.size_toArray]<;>lia);have i:Inv X Io Z H {s with heap:=h'}:=I.kept (t':=s.toks) kp;have n:Inv X Io Z (upd H h'.objs.size (.tup ys)) {s with heap:=h'.push {cls:=.type "tuple",data:=.seq d.toArray}}:=
   i.laid (t':=s.toks) (λb o e=>aE _ e) (ai _) (show a6 X.prog X.w _ _ _ (.tup ys) from ⟨⟨g,_,a9 _ rfl,rfl⟩,d,f,IsTup.new _ _⟩)
  exact⟨.ref h'.objs.size,_,n,rfl,q _ (i.hok.fresh (ai _))⟩
 obtain⟨d,f,pl,g⟩:=I.tuple c;exact call_tuple_same pl ⟨.ref p,H,I,rfl,q⟩
def tyV(K:W.Frag)(T:String)(x:V)(H:Hp):Prop:=match x with
 |.str _=>T = "str"
 |.int _=>T = "int"
 |.ref p=>(T = "list"/\∃xs,SqL K H p xs)\/(T = "tuple"/\∃o,K.lookup p=some o/\o.cls=.type "tuple"/\o.dict=none) \/
   (T = "dict"/\((∃kvs,H p=some (.dK kvs))\/∃kvs,H p=some (.dT kvs)))\/(T = "set"/\∃S n,H p=some (.set S n))
 |_=>False
theorem tR{T:String}{x:V}{v:Value}(I:Inv X Io Z H s)(r:ar x v)(ty:tyV [] T x H) :
  s.TypeIs v T/\∀a,v=.ref a->∃ob,s.heap.get? a=some ob/\ob.dict=none:=by
 cases x with
 |str z=>
  obtain⟨t,rfl⟩:=r;cases (show T = "str" from ty);exact⟨typeIs_str s z t,λ_ e=>nomatch e⟩
 |int i=>
  obtain⟨t,rfl⟩:=r;cases (show T = "int" from ty);exact⟨typeIs_int s i t,λ_ e=>nomatch e⟩
 |ref p=>
  cases r;rcases ty with ⟨rfl,xs,f⟩|⟨rfl,o,b,g,hd⟩|⟨rfl,b⟩|⟨rfl,S,n,b⟩
  .obtain⟨h,_,pl,_⟩:=I.list f;refine⟨pl.isList.typeIs,λa e=>?_⟩;cases e;obtain⟨o,n,e,c,hd,_⟩:=pl;exact⟨o,e,hd⟩
  .cases b
  .have z:∃o,s.heap.get? p=some o/\o.ExactDict:=by
    rcases b with ⟨kvs,b⟩|⟨kvs,b⟩
    .obtain⟨_,_,_,_,o,_,_,e,ex,_⟩:=I.hok p _ b;exact⟨o,e,ex⟩
    obtain⟨_,_,_,_,o,_,_,e,ex,_⟩:=I.hok p _ b;exact⟨o,e,ex⟩
   obtain⟨o,e,ex⟩:=z;refine⟨⟨o,e,ex.1⟩,λa d=>?_⟩;cases d;exact⟨o,e,ex.2.1⟩
  obtain⟨o,_,_,_,e,ex,_⟩:=I.hok p _ b;refine⟨⟨o,e,ex.1⟩,λa d=>?_⟩;cases d;exact⟨o,e,ex.2.1⟩
 |_=>exact False.elim ty
def EA(K:W.Frag)(T:String)(r:V->List V->Hp->VK->Prop)(Q:VK):VK:=λx H1=>tyV K T x H1/\r x [] H1 Q
def tBM0(K:W.Frag)(T:String)(r:V->List V->Hp->VK->Prop)(to:TE):TE:=λZ H Q=>to Z H (EA K T r Q)
def tBM2(r:V->List V->Hp->VK->Prop)(x:V)(Q:VK):List V->Hp->Prop:=λxs H2=>r x xs H2 Q
def tBM1(K:W.Frag)(T:String)(r:V->List V->Hp->VK->Prop)(t:TA)(Z:St)(Q:VK):VK:=λx H1=>tyV K T x H1/\t Z H1 (tBM2 r x Q)
def tBM(K:W.Frag)(T:String)(r:V->List V->Hp->VK->Prop)(to:TE)(t:TA):TE:=λZ H Q=>to Z H (tBM1 K T r t Z Q)
variable {o e:Expr}{es:List Expr}{to:TE}{t:TA}{name:Str}{apos cpos:Pos}{T id:String}{r:V->List V->Hp->VK->Prop}
theorem t9(d:PlainAttrs T)(slot:Slot T name id)(e:typeOf (.builtin id)=pure (.type "method_descriptor"))(hm:MtR X id r)(f:PE X o to)
  (g:attributeBase o name X.env (eval o X.env)=eval o X.env:=by rfl) (i:(apos.endLine==cpos.line)=true:=by rfl):PE X (.Call (.Attribute o name apos) [] [] cpos) (tBM0 [] T r to):=by
 intro Io s Z H Q I h;refine Gi g i (thn (f Io s Z H _ I h) λv s1 ⟨x,H1,b,c,ty,l⟩=>?_);obtain⟨h1,h2⟩:=tR b c ty;exact⟨T,id,d,slot,e,h1,h2,iM rfl (F9 (hm Io s1 Z H1 x [] v [] Q b c .nil l))⟩
theorem bH(f:PlainAttrs T)(slot:Slot T name id)(g:typeOf (.builtin id)=pure (.type "method_descriptor"))(hm:MtR X id r)(i:PE X o to)(ha:PA X (e::es) t)
  (l:attributeBase o name X.env (eval o X.env)=eval o X.env:=by rfl)
  (m:((backTo cpos (starEach (e::es) X.env)).all (λx=>!x.1)&&(backToKw cpos (keywordEach [] X.env)).all (λx=>x.1.isSome)
   && decide ((e::es).length+([]:List Keyword).length+(if ([]:List Keyword).isEmpty then 0 else 1)<30))=true:=by rfl)
  (n:(apos.endLine==cpos.line)=true:=by rfl) (p:starEach (e::es) X.env=(false,eval e X.env)::starEach es X.env:=by rfl) (q:(backTo cpos (starEach es X.env)).any (·.1)=false:=by rfl) :
  PE X (.Call (.Attribute o name apos) (e::es) [] cpos) (tBM [] T r to t):=by
 intro Io s Z H Q I h;refine Gj l m n rfl (thn (i Io s Z H _ I h) λv s1 ⟨x,H1,b,c,ty,u⟩=>?_);obtain⟨h1,h2⟩:=tR b c ty;refine⟨T,id,f,slot,g,h1,h2,?_⟩;have d:=ha cpos Io s1 Z H1 _ b u;rw[p] at d |-;refine iM (by show (false||(backTo cpos (starEach es X.env)).any (·.1))=false;rw[q]<;>rfl) (l_ ?_);exact thn d λus s2 ⟨vs,H2,w,y,z⟩=>hm Io s2 Z H2 x vs v us Q w c y z
end
end L2
namespace L2
open PySem PySem.Spec PyProof.Rows
def MtM(X:Cx)(id:String)(r:V->List V->Hp->VK->Prop):Prop:=
 ∀(Io:List (Addr×Obj))(s:Shared)(Z:St)(H:Hp)(x:V)(xs:List V)(v:Value)(us:List Value)(Q:VK),Inv X Io Z H s->ar x v->Vals xs us->r x xs H Q->
  wpAny (model X.prog X.w) X.A (call (.builtin id) (v::us)) (EP X Io Z Q) X.xe s
theorem Vals.one{x:V}(h:Vals [x] us):∃u,us=[u]/\ar x u:=by
 cases h with
 |cons r t=>cases t;exact⟨_,rfl,r⟩
theorem Vals.two{x y:V}(h:Vals [x,y] us):∃u v,us=[u,v]/\ar x u/\ar y v:=by
 cases h with
 |cons r t=>
  obtain⟨v,rfl,q⟩:=Vals.one t;exact⟨_,v,rfl,r,q⟩
theorem Vals.zero:∀{us:List Value},Vals [] us->us=[]
 |_,.nil=>rfl
theorem Vals.dropLast(h:Vals xs us):Vals xs.dropLast us.dropLast:=by
 induction h with
 |nil=>exact .nil
 |cons r t b=>
  cases t with
  |nil=>exact .nil
  |cons q t'=>exact .cons r b
theorem Vals.eraseIdx:∀{xs:List V}{us:List Value}(i:Nat),Vals xs us->Vals (xs.eraseIdx i) (us.eraseIdx i)
 |_,_,_,.nil=>.nil
 |_,_,0,.cons _ t=>t
 |_,_,i+1,.cons r t=>.cons r (Vals.eraseIdx i t)
theorem xH{α:Type}(l:List α):l.eraseIdx (l.length-1)=l.dropLast:=by
 induction l with
 |nil=>rfl
 |cons a r c=>
  cases r with
  |nil=>rfl
  |cons b r=>
   have e:(a::b::r).length-1=((b::r).length-1)+1:=by have h1:(a::b::r).length=r.length+2:=rfl;have h2:(b::r).length=r.length+1:=rfl;lia
   rw[e,List.eraseIdx_cons_succ,c]
   all_goals rfl
theorem qG{α:Type}:∀(l:List α)(i:Nat),(l.eraseIdx i).length<=l.length
 | [],_=>ai _
 |_::_,0=>iP _
 |_::r,i+1=>Nat.succ_le_succ (qG r i)
section
variable {l b:Addr}{xs ys zs:List V}
theorem Inv.lset{b its':List Value}{n:Nat}{f:Array Value->Array Value}{t':Nat}(I:Inv X Io Z H s)(c:H l=some (.lst xs))
  (e:s.heap.get? l=some {cls:=.type "list",data:=.seq b.toArray n}) (hf:f b.toArray=its'.toArray) (d:Vals ys its') (g:ys.length<=sizeLine) :
  Inv X Io Z (upd H l (.lst ys)) {s with heap:=s.heap.update l (Obj.mapSeq f),toks:=t'}:=by
 have q:=PySem.IsL.update e f;rw[hf] at q;refine I.write (x:=l) (e:=l) (by rw[c];exact trivial) (.inl rfl) (λm u h i=>(mh s.heap (Obj.mapSeq f) (aF h)).trans i) ⟨_,q⟩ ?_;exact⟨g,its',_,d,q⟩
theorem Inv.lnew{b:List Value}{t':Nat}(I:Inv X Io Z H s)(c:Vals ys b)(d:ys.length<=sizeLine) :
  Inv X Io Z (upd H s.heap.objs.size (.lst ys)) {s with heap:=s.heap.push {cls:=.type "list",data:=.seq b.toArray},toks:=t'}:=
 I.laid (λ_ _ q=>aE _ q) (ai _) ⟨d,b,0,c,a9 _ rfl⟩
theorem Inv.fresh(I:Inv X Io Z H s):H s.heap.objs.size=none:=I.hok.fresh (ai _)
theorem Inv.lstM(I:Inv X Io Z H s)(c:H l=some (.lst xs)):xs.length<=sizeLine/\∃(b:List Value)(n:Nat),Vals xs b/\xs.length=b.length/\s.heap.get? l=some {cls:=.type "list",data:=.seq b.toArray n}:=by obtain⟨z,b,n,r,e⟩:=I.hok l _ c;exact⟨z,b,n,r,r.length,e⟩
end
section
def zN(x:V)(vs:List V)(H:Hp)(Q:VK)(l:Addr)(xs:List V)(y:V):Prop:=x=.ref l/\vs=[y]/\H l=some (.lst xs)/\xs.length<sizeLine/\WrO H l (.lst (xs++[y])) (Q .non)
def By:V->List V->Hp->VK->Prop:=λx vs H Q=>Exists (Ex3 (zN x vs H Q))
theorem cz:MtM X "list.append" By:=by intro Io s Z H x vs v us Q I d f h;obtain⟨l,xs,y,rfl,rfl,b,i,q⟩:=h;cases d;obtain⟨u,rfl,g⟩:=f.one;obtain⟨z,c,n,r,m,e⟩:=I.lstM b;refine pC F.slot_list_append ⟨_,e,rfl⟩ F.entry_list_append (F.args_list_append_2 _ _) (PySem.list_append l c.toArray n u (by rw[List.size_toArray];lia)) ⟨e,?_⟩;refine⟨.non,_,I.lset (its':=c++[u]) b e (by simp) (r.append (.cons g .nil)) ?_,rfl,q.at⟩;rw[List.length_append,List.length_singleton];lia
def EJ(x:V)(vs:List V)(H:Hp)(Q:VK)(l:Addr)(xs:List V)(y:V):Prop:=x=.ref l/\vs=[]/\H l=some (.lst xs)/\xs[xs.length-1]?=some y/\WrO H l (.lst xs.dropLast) (Q y)
def rPop:V->List V->Hp->VK->Prop:=λx vs H Q=>Exists (Ex3 (EJ x vs H Q))
theorem Dq:MtM X "list.pop" rPop:=by
 intro Io s Z H x vs v us Q I d f h;obtain⟨l,xs,y,rfl,rfl,c,g,q⟩:=h;cases d;have i:=f.zero;subst i;obtain⟨z,b,n,r,m,e⟩:=I.lstM c;obtain⟨u,o,p⟩:=r.get g;have w:b.toArray[b.toArray.size-1]?=some u:=by show b.toArray[b.length-1]?=some u;rw[<-eV,<-m];exact o
 refine pC F.slot_list_pop ⟨_,e,rfl⟩ F.entry_list_pop (F.args_list_pop_1 _) (MeetsSeq.list_pop_last l b.toArray n u w (by rw[List.size_toArray];lia)) ⟨e,?_⟩;refine⟨y,_,I.lset (its':=b.dropLast) c e ?_ r.dropLast ?_,p,q.at⟩
 .show b.toArray.eraseIdxIfInBounds (b.toArray.size-1)=b.dropLast.toArray;rw[List.size_toArray,List.eraseIdxIfInBounds_toArray,xH]
 rw[List.length_dropLast];lia
def Bu(x:V)(vs:List V)(H:Hp)(Q:VK)(l:Addr)(xs:List V)(i:Int)(k:Nat)(y:V):Prop:=x=.ref l/\vs=[.int i]/\H l=some (.lst xs)/\-(2 ^ 63)<=i/\i<2 ^ 63/\seqIndex? i xs.length=some k/\xs[k]?=some y/\WrO H l (.lst (xs.eraseIdx k)) (Q y)
def t7:V->List V->Hp->VK->Prop:=λx vs H Q=>Exists (Ex5 (Bu x vs H Q))
theorem rB:MtM X "list.pop" t7:=by
 intro Io s Z H x vs v us Q I d f h;obtain⟨l,xs,i,k,y,rfl,rfl,c,h1,h2,g,m,q⟩:=h;cases d;obtain⟨u,rfl,o⟩:=f.one;obtain⟨t,rfl⟩:=o;obtain⟨z,b,n,r,p,e⟩:=I.lstM c;obtain⟨w,hw,A⟩:=r.get m;refine pC F.slot_list_pop ⟨_,e,rfl⟩ F.entry_list_pop (F.args_list_pop_2 _ _)
  (MeetsSeq.list_pop_at l b.toArray n i t k w (Gd h1 h2) (by rw[List.size_toArray,<-p];exact g) (by rw[<-eV];exact hw) (by rw[List.size_toArray];lia)) ⟨e,?_⟩
 refine⟨y,_,I.lset (its':=b.eraseIdx k) c e ?_ (r.eraseIdx k) ?_,A,q.at⟩
 .show b.toArray.eraseIdxIfInBounds k=(b.eraseIdx k).toArray;rw[List.eraseIdxIfInBounds_toArray]
 have:=qG xs k;lia
def De:V->List V->Hp->VK->Prop:=λx vs H Q=>∃l xs,x=.ref l/\vs=[]/\H l=some (.lst xs)/\Q .non (upd H l (.lst []))
theorem Ag:MtM X "list.clear" De:=by intro Io s Z H x vs v us Q I c d h;obtain⟨l,xs,rfl,rfl,b,q⟩:=h;cases c;have f:=d.zero;subst f;obtain⟨z,g,n,r,i,e⟩:=I.lstM b;refine pC F.slot_list_clear ⟨_,e,rfl⟩ F.entry_list_clear (F.args_list_clear_1 _) (AutoSeq1.list_clear_list_0 l g.toArray n (by rw[List.size_toArray];lia)) ⟨e,?_⟩;exact⟨.non,_,I.lset (its':=[]) (ys:=[]) b e rfl .nil (aD _),rfl,q⟩
def ET(x y:V)(H:Hp)(Q:VK)(l b:Addr)(xs zs:List V):Prop:=x=.ref l/\y=.ref b/\H l=some (.lst xs)/\H b=some (.lst zs)/\xs.length+zs.length<=sizeLine/\dP H (.lst (xs++zs)) Q
def rCat:R2:=λx y H Q=>Exists (Ex4 (ET x y H Q))
theorem jY:OpR X (binaryOp .Add) rCat:=by
 intro Io s Z H x y v u Q I f g h;obtain⟨l,b,xs,zs,rfl,rfl,i,m,A,q⟩:=h;cases f;cases g;obtain⟨z,c,n,r,B,e⟩:=I.lstM i;obtain⟨C,d,D,o,E,p⟩:=I.lstM m;refine PySem.P.add_list e p ?_ (by rw[List.size_toArray,List.size_toArray];lia);have w:c.toArray++d.toArray=(c++d).toArray:=by simp
 rw[w];exact⟨.ref _,_,I.lnew (t':=s.toks) (r.append o) (by rw[List.length_append];lia),rfl,q.at I.fresh⟩
end
section
variable {prog:Program}
set_option maxRecDepth 100000 in
end
section
end
end L2
namespace L2
open PySem PySem.Spec PyProof.Rows
section
variable {κ:Type}[DecidableEq κ]
def aI(kvs:List (κ×V))(k:κ):Option V:=(kvs.find? λb=>decide (b.1=k)).map (·.2)
def aW(kvs:List (κ×V))(k:κ)(v:V):List (κ×V):=
 if (kvs.any λb=>decide (b.1=k))=true then kvs.map (λb=>if b.1=k then (b.1,v) else b) else kvs++[(k,v)]
def eN(kvs:List (κ×V))(k:κ):List (κ×V):=kvs.filter λb=>decide (b.1≠k)
theorem eD{p:κ×V}{r:List (κ×V)}{k:κ}(e:p.1=k):aI (p::r) k=some p.2:=by simp[aI,List.find?_cons,e]
theorem du{p:κ×V}{r:List (κ×V)}{k:κ}(e:¬p.1=k):aI (p::r) k=aI r k:=by simp[aI,List.find?_cons,e]
theorem jb(k:κ):∀kvs:List (κ×V),(kvs.any λb=>decide (b.1=k))=(aI kvs k).isSome
 | []=>rfl
 |p::r=>by
  rw[List.any_cons];by_cases e:p.1=k
  .simp only[eD e,Ik e,Bool.true_or,Option.isSome_some]
  rw[du e,Il e,Bool.false_or];exact jb k r
theorem gX(kvs:List (κ×V))(k:κ)(v:V):(aW kvs k v).length<=kvs.length+1:=by
 unfold aW
 split
 .rw[List.length_map];lia
 rw[List.length_append,List.length_cons,List.length_nil];lia
theorem h_{kvs:List (κ×V)}{k:κ}(v:V)(h:aI kvs k=none):aW kvs k v=kvs++[(k,v)]:=by unfold aW;rw[jb,h];exact Ii (by decide)
theorem ck.isSome_eq{o:Option V}{u:Option Value}(r:ck o u):o.isSome=u.isSome:=by
 cases o with
 |none=>cases u with
  |none=>rfl
  |some _=>exact (show False from r).elim
 |some _=>cases u with
  |none=>exact (show False from r).elim
  |some _=>rfl
theorem ck.getD{o:Option V}{u:Option Value}{d:V}{d':Value}(r:ck o u)(rd:ar d d'):ar (o.getD d) (u.getD d'):=by
 cases o with
 |none=>cases u with
  |none=>exact rd
  |some _=>exact (show False from r).elim
 |some _=>cases u with
  |none=>exact (show False from r).elim
  |some _=>exact r
theorem KV.val{kvs:List (κ×V)}{vs:List (κ×Value)}(r:KV kvs vs)(k:κ):ck (aI kvs k) (valueAt vs k):=by
 unfold KV at r;induction r with
 |nil=>exact True.intro
 | @cons p q ps c h t f=>
  obtain⟨h1,h2⟩:=h;by_cases e:p.1=k
  .have d:q.1=k:=h1.symm.trans e;have b:valueAt (q::c) k=some q.2:=by simp[valueAt,List.find?_cons,d]
   rw[eD e,b];exact h2
  have d:¬q.1=k:=λz=>e (h1.trans z);have b:valueAt (q::c) k=valueAt c k:=by simp[valueAt,List.find?_cons,d]
  rw[du e,b];exact f
theorem KV.any{kvs:List (κ×V)}{vs:List (κ×Value)}(r:KV kvs vs)(k:κ):(kvs.any λb=>decide (b.1=k))=vs.any λb=>decide (b.1=k):=by
 unfold KV at r;induction r with
 |nil=>rfl
 |cons h t c=>rw[List.any_cons,List.any_cons,c,h.1]
theorem KV.repl{kvs:List (κ×V)}{vs:List (κ×Value)}(r:KV kvs vs)(k:κ){y:V}{u:Value}(c:ar y u) :
  KV (kvs.map λb=>if b.1=k then (b.1,y) else b) (vs.map λb=>if b.1=k then (b.1,u) else b):=by
 unfold KV at r |-;induction r with
 |nil=>exact .nil
 | @cons p q ps f h t d=>
  rw[List.map_cons,List.map_cons];refine .cons ?_ d;obtain⟨h1,h2⟩:=h;by_cases e:p.1=k
  .rw[Ij e,Ij (h1.symm.trans e)];exact⟨h1,c⟩
  rw[Ii e,Ii (λz=>e (h1.trans z))];exact⟨h1,h2⟩
theorem KV.put{kvs:List (κ×V)}{vs:List (κ×Value)}(r:KV kvs vs)(k:κ){y:V}{u:Value}(b:ar y u):KV (aW kvs k y) (stored vs k u):=by
 unfold aW stored;rw[r.any k];by_cases e:(vs.any λc=>decide (c.1=k))=true
 .rw[Ij e,Ij e];exact r.repl k b
 rw[Ii e,Ii e];exact FJ r ⟨rfl,b⟩
theorem KV.drop{kvs:List (κ×V)}{vs:List (κ×Value)}(r:KV kvs vs)(k:κ):KV (eN kvs k) (without vs k):=by
 unfold KV at r |-;unfold eN without;induction r with
 |nil=>exact .nil
 | @cons p q ps f h t c=>
  obtain⟨h1,h2⟩:=h;rw[List.filter_cons,List.filter_cons];by_cases e:p.1=k
  .have a:¬decide (p.1≠k)=true:=by simp[e]
   have b:¬decide (q.1≠k)=true:=by simp[h1.symm.trans e]
   rw[Ii a,Ii b];exact c
  have d:¬q.1=k:=λz=>e (h1.trans z);have a:decide (p.1≠k)=true:=by simp[e]
  have b:decide (q.1≠k)=true:=by simp[d]
  rw[Ij a,Ij b];exact .cons ⟨h1,h2⟩ c
theorem KV.length{kvs:List (κ×V)}{vs:List (κ×Value)}(r:KV kvs vs):kvs.length=vs.length:=iR r
theorem AI(kvs:List (κ×V))(k:κ):(eN kvs k).length<=kvs.length:=List.length_filter_le _ _
end
theorem dN{k:Key}{u:Value}(r:ar (kV k) u):(bz P w).is k u=true:=by
 cases k with
 |inl i=>obtain⟨t,e⟩:=(show ∃t,u=Value.int i t from r);subst e;exact wU P w i t
 |inr x=>obtain⟨t,e⟩:=(show ∃t,u=Value.str x t from r);subst e;exact wR P w x t
theorem qH:∀{ks:List Key}{us:List Value},Vals (ks.map kV) us->ItemsAre (bz P w) ks us
 | [],_,r=>by rw[List.map_nil] at r;cases r;exact .nil
 |k::ks,_,r=>by
  rw[List.map_cons] at r;cases r with
  |cons h t=>exact .cons (dN h) (qH t)
abbrev KT(H:Hp):List (List Key×V)->List (List Key×Addr×Value)->Prop:=Paired λp q=>p.1=q.1/\H q.2.1=some (.tup (p.1.map kV))/\ar p.2 q.2.2
theorem KT.val{kvs:List (List Key×V)}{xs:List (List Key×Addr×Value)}(r:KT H kvs xs)(k:List Key):ck (aI kvs k) ((atKey xs k).map (·.2)):=by
 induction r with
 |nil=>exact True.intro
 | @cons p q ps c h t f=>
  obtain⟨h1,_,h2⟩:=h;by_cases e:p.1=k
  .have d:q.1=k:=h1.symm.trans e;have b:atKey (q::c) k=some q.2:=by simp[atKey,List.find?_cons,d]
   rw[eD e,b];exact h2
  have d:¬q.1=k:=λz=>e (h1.trans z);have b:atKey (q::c) k=atKey c k:=by simp[atKey,List.find?_cons,d]
  rw[du e,b];exact f
theorem KT.repl{kvs:List (List Key×V)}{xs:List (List Key×Addr×Value)}(r:KT H kvs xs)(k:List Key){y:V}{u:Value}(c:ar y u) :
  KT H (kvs.map λb=>if b.1=k then (b.1,y) else b) (xs.map (putAt k u)):=by
 induction r with
 |nil=>exact .nil
 | @cons p q ps g h t d=>
  rw[List.map_cons,List.map_cons];refine .cons ?_ d;obtain⟨h1,h2,f⟩:=h;unfold putAt;by_cases e:p.1=k
  .rw[Ij e,Ij (h1.symm.trans e)];exact⟨h1,h2,c⟩
  rw[Ii e,Ii (λz=>e (h1.trans z))];exact⟨h1,h2,f⟩
theorem KT.put{kvs:List (List Key×V)}{xs:List (List Key×Addr×Value)}(r:KT H kvs xs)(k:List Key){b:Addr}{y:V}{u:Value}(d:H b=some (.tup (k.map kV)))(c:ar y u) :
  KT H (aW kvs k y) (storedH xs k b u):=by
 have e:(kvs.any λf=>decide (f.1=k))=(atKey xs k).isSome:=by rw[jb,(r.val k).isSome_eq,va]
 unfold aW storedH;rw[e];by_cases q:(atKey xs k).isSome=true
 .rw[Ij q,Ij q];exact r.repl k c
 rw[Ii q,Ii q];exact FJ r ⟨rfl,d,c⟩
theorem KT.keeps{kvs:List (List Key×V)}{xs:List (List Key×Addr×Value)}(r:KT H kvs xs)(c:∀b ys,H b=some (.tup ys)->H' b=some (.tup ys)):KT H' kvs xs:=
 Paired.mapP r λ_ _ z=>⟨z.1,c _ _ z.2.1,z.2.2⟩
section
variable {h:Heap}{a:Addr}
theorem uI{u:HO}(ok:HOk P w H h)(e:Rd H a u):a6 P w H h a u:=e.ok ok
theorem cK{kvs:List (Key×V)}(ok:HOk P w H h)(e:Rd H a (.dK kvs)):kvs.length<=sizeLine/\(a==sysModules)=false/\∃vs,KV kvs vs/\h.DictOf (bz P w) a vs:=
 show a6 P w H h a (.dK kvs) from uI ok e
theorem gG{kvs:List (Key×V)}(ok:HOk P w H h)(e:H a=some (.dK kvs)):kvs.length<=sizeLine/\(a==sysModules)=false/\∃vs,KV kvs vs/\h.DictOf (bz P w) a vs:=cK ok (.inl e)
theorem gD{ks:List Key}(ok:HOk P w H h)(e:H a=some (.tup (ks.map kV))):(tupleKind (bz P w)).is h ks a:=by obtain⟨_,b,r,o,h1,h2,n,c⟩:=(show a6 P w H h a (.tup (ks.map kV)) from ok a _ e);exact⟨o,b.toArray,n,h1,h2,c,by simpa using qH r⟩
theorem eM{kvs:List (List Key×V)}(ok:HOk P w H h)(e:Rd H a (.dT kvs)):kvs.length<=sizeLine/\(a==sysModules)=false/\
  ∃xs,KT H kvs xs/\h.DictOfH (tupleKind (bz P w)) a xs:=by
 obtain⟨z,y,xs,r,o,es,ep,h1,h2,d,f,g⟩:=(show a6 P w H h a (.dT kvs) from uI ok e);refine⟨z,y,xs,r,o,es,ep,h1,h2,d,f,λx b=>?_,g⟩;have all:∀{l:List (List Key×V)}{m:List (List Key×Addr×Value)},KT H l m->∀x∈m,(tupleKind (bz P w)).is h x.1 x.2.1:=by
  intro l m q;induction q with
  |nil=>intro x b;exact nomatch b
  | @cons p q ps n c t i=>
   intro x b;rcases List.mem_cons.mp b with e|b
   .subst e;exact gD ok (by rw[<-c.1];exact c.2.1)
   exact i x b
 exact all r x b
theorem oG{kvs:List (List Key×V)}(ok:HOk P w H h)(e:H a=some (.dT kvs)):kvs.length<=sizeLine/\(a==sysModules)=false/\
  ∃xs,KT H kvs xs/\h.DictOfH (tupleKind (bz P w)) a xs:=eM ok (.inl e)
end
def DGet(H:Hp)(a:Addr)(y:V)(r:Option V):Prop:=
 (∃kvs k,Rd H a (.dK kvs)/\y=kV k/\r=aI kvs k)\/∃kvs k b,Rd H a (.dT kvs)/\y=.ref b/\H b=some (.tup (k.map kV))/\r=aI kvs k
def DPut(H:Hp)(a:Addr)(y v:V)(H':Hp):Prop:=
 (∃kvs k,H a=some (.dK kvs)/\y=kV k/\kvs.length<sizeLine/\H'=upd H a (.dK (aW kvs k v))) \/
 ∃kvs k b,H a=some (.dT kvs)/\y=.ref b/\H b=some (.tup (k.map kV))/\kvs.length<sizeLine/\H'=upd H a (.dT (aW kvs k v))
theorem DGet.k{a:Addr}{kvs:List (Key×V)}{k:Key}(e:H a=some (.dK kvs)):DGet H a (kV k) (aI kvs k):=.inl ⟨kvs,k,.inl e,rfl,rfl⟩
theorem DGet.t{a b:Addr}{kvs:List (List Key×V)}{k:List Key}(e:H a=some (.dT kvs))(c:H b=some (.tup (k.map kV))):DGet H a (.ref b) (aI kvs k):=.inr ⟨kvs,k,b,.inl e,rfl,c,rfl⟩
theorem DPut.k{a:Addr}{kvs:List (Key×V)}{k:Key}{v:V}(e:H a=some (.dK kvs))(b:kvs.length<sizeLine):DPut H a (kV k) v (upd H a (.dK (aW kvs k v))):=.inl ⟨kvs,k,e,rfl,b,rfl⟩
theorem DPut.t{a b:Addr}{kvs:List (List Key×V)}{k:List Key}{v:V}(e:H a=some (.dT kvs))(c:H b=some (.tup (k.map kV)))(d:kvs.length<sizeLine) :
  DPut H a (.ref b) v (upd H a (.dT (aW kvs k v))):=.inr ⟨kvs,k,b,e,rfl,c,d,rfl⟩
section
variable {a:Addr}{y v:V}{u r:Value}{o:Option V}
theorem Inv.big(I:Inv X Io Z H s):sysModules<s.heap.objs.size:=by have h:mainGlobals<s.heap.objs.size:=(I.mod.glob.keeps I.bk).lt;exact FA (by decide) h
theorem yV{Q:Value->Shared->Prop}(m:A.units+1<cLine)(I:Inv X Io Z H s)(g:DGet H a y (some v))(i:ar y u)(h:∀c s',Inv X Io Z H s'->ar v c->Q c s') :
  wpAny (model X.prog X.w) A (getItem (.ref a) u) Q E s:=by
 rcases g with ⟨kvs,k,e,d,l⟩|⟨kvs,k,b,e,d,n,l⟩
 .subst d;obtain⟨z,hd,vs,rel,dd⟩:=cK I.hok e;obtain⟨c,hw,f⟩:=ck.some_of (v:=v) (o:=valueAt vs k) (by rw[l];exact rel.val k);exact wpAny_getItem_of (dN i) dd.mapOf hw (h c _ (I.tok _) f)
 subst d;cases (show u=Value.ref b from i);obtain⟨z,hd,xs,rel,dd⟩:=eM I.hok e;obtain⟨c,hw,f⟩:=ck.some_of (v:=v) (o:=(atKey xs k).map (·.2)) (by rw[l];exact rel.val k);obtain⟨p,q,r⟩:=aY.mp hw;refine wpAny_getItem_heap (kC m) (gD I.hok n) dd q ?_;rw[r];exact h c _ (I.tok _) f
theorem d_in{Q:Value->Shared->Prop}(f:A.units+1<cLine)(I:Inv X Io Z H s)(g:DGet H a y o)(d:ar y u)(h:∀s',Inv X Io Z H s'->Q (.bool o.isSome) s') :
  wpAny (model X.prog X.w) A (compareOp .In u (.ref a)) Q E s:=by
 rcases g with ⟨kvs,k,e,c,l⟩|⟨kvs,k,b,e,c,i,l⟩
 .subst c;obtain⟨z,hd,vs,rel,dd⟩:=cK I.hok e;refine wpAny_in_of (dN d) hd dd.mapOf ?_;rw[<-(rel.val k).isSome_eq,<-l];exact h _ (I.tok _)
 subst c;cases (show u=Value.ref b from d);obtain⟨z,hd,xs,rel,dd⟩:=eM I.hok e;refine wpAny_in_heap (kC f) (gD I.hok i) hd dd ?_;have q:=(rel.val k).isSome_eq;rw[va] at q;rw[<-q,<-l];exact h _ (I.tok _)
theorem B_{Q:Value->Shared->Prop}(f:A.units+1<cLine)(I:Inv X Io Z H s)(g:DGet H a y o)(d:ar y u)(h:∀s',Inv X Io Z H s'->Q (.bool (!o.isSome)) s') :
  wpAny (model X.prog X.w) A (compareOp .NotIn u (.ref a)) Q E s:=by
 rcases g with ⟨kvs,k,e,c,l⟩|⟨kvs,k,b,e,c,i,l⟩
 .subst c;obtain⟨z,hd,vs,rel,dd⟩:=cK I.hok e;refine wpAny_notIn_of (dN d) hd dd.mapOf ?_;rw[<-(rel.val k).isSome_eq,<-l];exact h _ (I.tok _)
 subst c;cases (show u=Value.ref b from d);obtain⟨z,hd,xs,rel,dd⟩:=eM I.hok e;refine wpAny_notIn_heap (kC f) (gD I.hok i) hd dd ?_;have q:=(rel.val k).isSome_eq;rw[va] at q;rw[<-q,<-l];exact h _ (I.tok _)
theorem gr{h':Heap}{t':Nat}{ob:HO}(I:Inv X Io Z H s)(c:Mut (H a))(d:Heap.SameBut a s.heap h')(he:∃q,h'.get? a=some q)(new:a6 X.prog X.w (upd H a ob) h' a ob) :
  Inv X Io Z (upd H a ob) {s with heap:=h',toks:=t'}:=
 I.write (x:=a) (e:=a) c (.inl rfl) (λb q f z=>(d.2 b f).trans z) he new
theorem gE{H':Hp}{h':Heap}{kvs:List (Key×V)}{vs:List (Key×Value)}(z:kvs.length<=sizeLine)(hd:(a==sysModules)=false)(rel:KV kvs vs)(dd:h'.DictOf (bz P w) a vs) :
  a6 P w H' h' a (.dK kvs):=⟨z,hd,vs,rel,dd⟩
theorem yT{H':Hp}{Q:Unit->Shared->Prop}(K:A.units+1<cLine)(I:Inv X Io Z H s)(g:DPut H a y v H')(x:ar y u)(B:ar v r)(h:∀s',Inv X Io Z H' s'->Q () s') :
  wpAny (model X.prog X.w) A (setItem (.ref a) u r) Q E s:=by
 rcases g with ⟨kvs,k,e,i,l,m⟩|⟨kvs,k,b,e,i,C,l,m⟩
 .subst i m;obtain⟨z,hd,vs,rel,dd⟩:=gG I.hok e;have n:vs.length<=sizeLine:=by rw[<-rel.length];exact z
  have o:(aW kvs k v).length<=sizeLine:=by have:=gX kvs k v;lia
  refine wpAny_setItem_pairs (hsz:=n) (dN x) dd λh' d p=>h _ ?_;have he:∃q,h'.get? a=some q:=let ⟨q,_,_,f,_⟩:=d;⟨q,f⟩;exact gr I (by rw[e];exact True.intro) p he (gE o hd (rel.put k B) d)
 subst i m;cases (show u=Value.ref b from x);obtain⟨z,hd,xs,rel,dd⟩:=oG I.hok e;have n:xs.length<=sizeLine:=by rw[<-iR rel];exact z
 have o:(aW kvs k v).length<=sizeLine:=by have:=gX kvs k v;lia
 refine wpAny_setItem_heap (hsz:=n) (kC K) (gD I.hok C) dd λh' d p=>h _ ?_;obtain⟨q,es,ep,f,h2,L,M,_,N⟩:=d;refine gr I (by rw[e];exact True.intro) p ⟨q,f⟩ ⟨o,hd,_,(rel.put k C B).keeps λc ys D=>?_,q,es,ep,f,h2,L,M,N⟩;rw[aB (bC D e (λz=>nomatch z))];exact D
end
section
variable {a:Addr}{kvs:List (Key×V)}{k:Key}{u:Value}
theorem Fc{v:V}{more:List Value}{Q:Value->Shared->Prop}(I:Inv X Io Z H s)(e:H a=some (.dK kvs))(c:ar (kV k) u)(l:aI kvs k=some v)(hm:more=[]\/∃x,more=[x])
  (h:∀b s',Inv X Io Z (upd H a (.dK (eN kvs k))) s'->ar v b->Q b s'):wpAny (model X.prog X.w) A (call (.builtin "dict.pop") (.ref a::u::more)) Q E s:=by
 obtain⟨z,hd,vs,rel,dd⟩:=gG I.hok e;obtain⟨b,hw,f⟩:=ck.some_of (v:=v) (o:=valueAt vs k) (by rw[<-l];exact rel.val k);have g:(keyPart u).isSome=true:=by
  cases k with
  |inl i=>obtain⟨t,q⟩:=(show ∃t,u=Value.int i t from c);subst q;rfl
  |inr x=>obtain⟨t,q⟩:=(show ∃t,u=Value.str x t from c);subst q;rfl
 have ha:argsOk "dict.pop" ⟨.ref a::u::more,[]⟩:=by
  rcases hm with q|⟨x,q⟩
  .subst q;exact PySem.F.args_dict_pop_2 _ _
  subst q;exact PySem.F.args_dict_pop_3 _ _ _
 refine fR FV dd.typeIs PySem.F.entry_dict_pop ha (meets_dict_pop_there (bz X.prog X.w) a (dN c) more hm g)
  ⟨vs,b,dd,by rw[<-rel.length];exact z,hw,λh' d m=>h b _ ?_ f⟩
 have he:∃q,h'.get? a=some q:=let ⟨q,_,_,n,_⟩:=d;⟨q,n⟩;exact gr I (by rw[e];exact True.intro) m he (gE (bQ (AI kvs k) z) hd (rel.drop k) d)
theorem Fe{Q:Value->Shared->Prop}(I:Inv X Io Z H s)(e:Rd H a (.dK kvs))(h:∀t s',Inv X Io Z H s'->Q (.int kvs.length t) s'):wpAny (model X.prog X.w) A (call (.builtin "len") [.ref a]) Q E s:=by obtain⟨z,hd,vs,rel,dd⟩:=cK I.hok e;refine call_len_dict hd dd (by rw[<-rel.length];rw[cu] at z;lia) ?_;rw[<-rel.length];exact h _ _ (I.tok _)
end
def NoSl(i:Expr):Prop:=∀b c,subscripted i false b c=operate [b,c] (getItem b c)
theorem A6{prog:Program}{env:Env}{value slice:Expr}{pos:Pos}{T id:String}{Q:Value->Shared->Prop}
  (c:typeLookup (.type T) "__getitem__" = pure (some (.builtin id))) (d:NoSl slice)
  (h:wpAny (model prog w) A (eval value env) (λo s₁=>wpAny (model prog w) A (eval slice env) (λi s₂=>s₂.TypeIs o T/\wpAny (model prog w) A (getItem o i) Q E s₂) E s₁) E s) :
  wpAny (model prog w) A (eval (.Subscript value slice pos) env) Q E s:=by
 refine vA (bT h (λo s₁ h₁=>bT h₁ (λi s₂ h₂=>?_) λ_ _ x=>x) λ_ _ x=>x);obtain⟨b,h₂⟩:=h₂;unfold subscriptTail;refine aa ?_;rw[getitemInPython_of_ne b.not_modules];refine aa (wpAny_specialOf b c ?_);have fin:wpAny (model prog w) A (subscripted slice false o i) (λr s₃=>wpAny (model prog w) A (letTemporaryGo value o r >>= λ_=>pure r) Q E s₃) E s₂:=by rw[d o i];exact wpAny_operating (bT h₂ (λr s₃ h₃=>aa (wpAny_letTemporaryGo (aj h₃))) λ_ _ x=>x)
 first
  |exact aj (aa fin)
  |exact aa (aj (aa fin))
  |exact aa fin
theorem wY{a:Addr}{y:V}{o:Option V}(I:Inv X Io Z H s)(g:DGet H a y o):s.TypeIs (.ref a) "dict":=by
 rcases g with ⟨kvs,k,e,_,_⟩|⟨kvs,k,b,e,_,_,_⟩
 .obtain⟨_,_,vs,_,dd⟩:=cK I.hok e;exact dd.typeIs
 obtain⟨_,_,xs,_,dd⟩:=eM I.hok e;exact dd.typeIs
def CJ(x y:V)(H2:Hp)(Q:VK)(a:Addr)(v:V):Prop:=x=.ref a/\DGet H2 a y (some v)/\Q v H2
def A5(x:V)(Q:VK):VK:=λy H2=>Exists (Ex2 (CJ x y H2 Q))
def CI(ty:TE)(Z:St)(Q:VK):VK:=λx H1=>ty Z H1 (A5 x Q)
def j6(td ty:TE):TE:=λZ H Q=>td Z H (CI ty Z Q)
def Er(x y:V)(H2:Hp)(Q:VK)(a:Addr)(o:Option V):Prop:=x=.ref a/\DGet H2 a y o/\Q (.bl o.isSome) H2
def Es(y:V)(Q:VK):VK:=λx H2=>Exists (Ex2 (Er x y H2 Q))
def Et(td:TE)(Z:St)(Q:VK):VK:=λy H1=>td Z H1 (Es y Q)
def tDIn(ty td:TE):TE:=λZ H Q=>ty Z H (Et td Z Q)
def ze(x y:V)(H2:Hp)(Q:VK)(a:Addr)(o:Option V):Prop:=x=.ref a/\DGet H2 a y o/\Q (.bl (!o.isSome)) H2
def zf(y:V)(Q:VK):VK:=λx H2=>Exists (Ex2 (ze x y H2 Q))
def zg(td:TE)(Z:St)(Q:VK):VK:=λy H1=>td Z H1 (zf y Q)
def nE(ty td:TE):TE:=λZ H Q=>ty Z H (zg td Z Q)
def CY(D:Ends)(Z:St)(v x y:V)(c:Hp)(a:Addr)(b:Hp):Prop:=x=.ref a/\DPut c a y v b/\D.nx Z b
def CZ(D:Ends)(Z:St)(v x:V):VK:=λy b=>Exists (Ex2 (CY D Z v x y b))
def C0(ty:TE)(D:Ends)(Z:St)(v:V):VK:=λx H2=>ty Z H2 (CZ D Z v x)
def C1(td ty:TE)(D:Ends)(Z:St):VK:=λv H1=>td Z H1 (C0 ty D Z v)
def EE(td ty tv:TE):TS:=λD Z H=>tv Z H (C1 td ty D Z)
section
variable {o i e value:Expr}{pos pos' tpos:Pos}{td ty tv:TE}
theorem dh(c:X.A.units+1<cLine)(d:PE X o td)(hi:PE X i ty)(e:NoSl i):PE X (.Subscript o i pos) (j6 td ty):=by intro Io s Z H Q I h;refine A6 PySem.F.slot_dict_getitem.lookup e (thn (d Io s Z H _ I h) λu s1 ⟨x,H1,f,l,m⟩=>thn (hi Io s1 Z H1 _ f m) λw s2 ⟨y,H2,b,n,a,v,ex,g,p⟩=>?_);subst ex;obtain rfl:u=Value.ref a:=l;exact⟨wY b g,yV c b g n λz B q r=>⟨v,H2,q,r,p⟩⟩
theorem oy(b:X.A.units+1<cLine)(hi:PE X i ty)(c:PE X o td):PC X .In i o (tDIn ty td):=by intro Io s Z H Q I h;refine thn (hi Io s Z H _ I h) λr s1 ⟨y,H1,d,e,f⟩=>thn (c Io s1 Z H1 _ d f) λu s2 ⟨x,H2,l,m,a,n,ex,g,p⟩=>?_;subst ex;obtain rfl:u=Value.ref a:=m;exact d_in b l g e λv q=>⟨.bl n.isSome,H2,q,rfl,p⟩
theorem gh(b:X.A.units+1<cLine)(hi:PE X i ty)(c:PE X o td):PC X .NotIn i o (nE ty td):=by intro Io s Z H Q I h;refine thn (hi Io s Z H _ I h) λr s1 ⟨y,H1,d,e,f⟩=>thn (c Io s1 Z H1 _ d f) λu s2 ⟨x,H2,l,m,a,n,ex,g,p⟩=>?_;subst ex;obtain rfl:u=Value.ref a:=m;exact B_ b l g e λv q=>⟨.bl (!n.isSome),H2,q,rfl,p⟩
theorem dI(b:X.A.units+1<cLine)(c:PE X o td)(hi:PE X i ty)(d:PE X value tv)(e:swapsWith value (some (.Subscript o i pos')) pos.line X.env=pure false) :
  PS X (.Assign [.Subscript o i pos'] value pos) (EE td ty tv):=by
 intro Io s Z H D I h;refine wpAny_Assign_Subscript (thn (d Io s Z H _ I h) λr s1 ⟨v,H1,f,l,m⟩=>thn (c Io s1 Z H1 _ f m) λu s2 ⟨x,H2,n,p,q⟩=>thn (hi Io s2 Z H2 _ n q) λK L ⟨y,M,w,z,a,B,ex,g,C⟩=>?_) e;subst ex;obtain rfl:u=Value.ref a:=p;exact yT b w g z l λN E=>⟨Z,B,E,C⟩
end
theorem kR(h:Heap)(b:sysModules<h.objs.size):a6 P w H (h.push {cls:=.type "dict",data:=.dict #[]}) h.objs.size (.dK []):=
 ⟨aD _,beq_eq_false_iff_ne.mpr (aF (aU b)),[],.nil,GI h⟩
theorem AG(h:Heap)(b:sysModules<h.objs.size):a6 P w H (h.push {cls:=.type "dict",data:=.dict #[]}) h.objs.size (.dT []):=
 ⟨aD _,beq_eq_false_iff_ne.mpr (aF (aU b)),[],.nil,_,#[],0,a9 _ rfl,⟨rfl,rfl,rfl⟩,rfl,rfl,List.nodup_nil⟩
def CH:TE:=λ_ H Q=>dP H (.dK []) Q
def CG:TE:=λ_ H Q=>dP H (.dT []) Q
section
variable {pos:Pos}
theorem fC:PE X (.Dict [] [] pos) CH:=λIo s Z H Q I h=>
 Gm ⟨.ref s.heap.objs.size,_,I.laid (a:=s.heap.objs.size) (o:=.dK []) (t':=s.toks) (λ_ _ q=>aE _ q) (ai _) (kR s.heap I.big),rfl,dP.at h (I.hok.fresh (ai _))⟩
theorem m_:PE X (.Dict [] [] pos) CG:=λIo s Z H Q I h=>
 Gm ⟨.ref s.heap.objs.size,_,I.laid (a:=s.heap.objs.size) (o:=.dT []) (t':=s.toks) (λ_ _ q=>aE _ q) (ai _) (AG s.heap I.big),rfl,dP.at h (I.hok.fresh (ai _))⟩
end
def oh:List (TE×TE)->St->Hp->(List (V×V)->Hp->Prop)->Prop
 | [],_,H,Q=>Q [] H
 |(tk,tv)::r,Z,H,Q=>tk Z H λx H1=>tv Z H1 λy H2=>oh r Z H2 λps b=>Q ((x,y)::ps) b
abbrev VV:List (V×V)->List (Value×Value)->Prop:=Paired λp q=>ar p.1 q.1/\ar p.2 q.2
def PPs(X:Cx)(pos:Pos)(keys:List (Option Expr))(values:List Expr)(b:List (TE×TE)):Prop:=
 ∀(Io:List (Addr×Obj))(s:Shared)(Z:St)(H:Hp)(Q:List (V×V)->Hp->Prop),Inv X Io Z H s->oh b Z H Q->
  wpAny (model X.prog X.w) X.A (evalPairs (pairTrees keys values X.env pos)) (λvs s'=>∃ps H',Inv X Io Z H' s'/\VV ps vs/\Q ps H') X.xe s
theorem Bz{pos:Pos}:PPs X pos [] [] []:=λIo s Z H Q I h=>pairTrees_nil_walk ⟨[],H,I,.nil,h⟩
theorem zP{pos:Pos}{k v:Expr}{ks:List (Option Expr)}{vs:List Expr}{tk tv:TE}{b:List (TE×TE)}(c:PE X k tk)(d:PE X v tv)(e:PPs X pos ks vs b) :
  PPs X pos (some k::ks) (v::vs) ((tk,tv)::b):=λIo s Z H Q I h=>
 pairTrees_cons_walk (thn (c Io s Z H _ I h) λu s1 ⟨x,H1,f,g,i⟩=>thn (d Io s1 Z H1 _ f i) λr s2 ⟨y,H2,l,m,n⟩=>
  thn (e Io s2 Z H2 _ l n) λws w ⟨ps,o,p,rel,q⟩=>⟨(x,y)::ps,o,p,.cons ⟨g,m⟩ rel,q⟩)
def fJ(kvs more:List (Key×V)):List (Key×V):=more.foldl (λacc b=>aW acc b.1 b.2) kvs
theorem KV.merge:∀{more:List (Key×V)}{rs:List (Key×Value)}{kvs:List (Key×V)}{vs:List (Key×Value)},KV more rs->KV kvs vs->KV (fJ kvs more) (merged vs rs):=by
 intro more rs kvs vs r;unfold KV at r;induction r generalizing kvs vs with
 |nil=>intro q;exact q
 | @cons p q ps d h t b=>
  intro c;have e:KV (aW kvs p.1 p.2) (stored vs q.1 q.2):=by have:=c.put p.1 h.2;rw[<-h.1];exact this
  exact b e
theorem mI:∀(more kvs:List (Key×V)),(fJ kvs more).length<=kvs.length+more.length
 | [],kvs=>by show kvs.length<=kvs.length+0;lia
 |p::r,kvs=>by
  have h1:=mI r (aW kvs p.1 p.2);have h2:=gX kvs p.1 p.2;show (fJ (aW kvs p.1 p.2) r).length<=_;rw[List.length_cons];lia
theorem ql{P:Program}:∀{kvs:List (Key×V)}{ws:List (Value×Value)},VV (kvs.map λd=>(kV d.1,d.2)) ws->∃rs,Carries (bz P w) ws rs/\KV kvs rs
 | [],_,r=>by rw[List.map_nil] at r;cases r;exact⟨[],True.intro,.nil⟩
 |p::kvs,_,r=>by
  rw[List.map_cons] at r;cases r with
  | @cons a b as bs h t=>
   obtain⟨rs,c,q⟩:=ql (P:=P) t;obtain⟨f,e⟩:=b;exact⟨(p.1,e)::rs,⟨dN h.1,rfl,c⟩,.cons ⟨rfl,h.2⟩ q⟩
def Ek(c:List (TE×TE)):TE:=λZ H Q=>∀p,H p=none->oh c Z (upd H p (.dK [])) λps H2=>H2 p=some (.dK [])/\∃kvs:List (Key×V),ps=kvs.map (λb=>(kV b.1,b.2))/\kvs.length<=15/\Q (.ref p) (upd H2 p (.dK (fJ [] kvs)))
theorem BB{pos:Pos}{keys:List (Option Expr)}{values:List Expr}{b:List (TE×TE)}(h:PPs X pos keys values b)(g:keys.all (·.isSome)=true)(i:keys.length=values.length)(l:keys≠[])
  (m:keys.length<=15):PE X (.Dict keys values pos) (Ek b):=by
 intro Io s Z H Q I q;have n:=I.hok.fresh (ai s.heap.objs.size);have p:=I.laid (a:=s.heap.objs.size) (o:=.dK []) (h':=s.heap.push {cls:=.type "dict",data:=.dict #[]}) (t':=s.toks) (λ_ _ q=>aE _ q) (ai _) (kR s.heap I.big);refine wpAny_Dict_walk (knd:=bz X.prog X.w) g i l m (thn (h Io _ Z _ _ p (q _ n)) λws s2 ⟨ps,H2,d,rel,e,kvs,ep,lk,r⟩=>?_);subst ep;obtain⟨rs,c,rk⟩:=ql (P:=X.prog) (w:=X.w) rel;obtain⟨z,hd,A,u,dd⟩:=gG d.hok e;cases u;refine⟨rs,c,dd,λh' f v=>⟨.ref s.heap.objs.size,_,?_,rfl,r⟩⟩;have x:(fJ [] kvs).length<=sizeLine:=by have h1:=mI kvs [];rw[List.length_nil] at h1;rw[cu];lia
 have he:∃q,h'.get? s.heap.objs.size=some q:=let ⟨q,_,_,y,_⟩:=f;⟨q,y⟩;exact gr d (by rw[e];exact True.intro) v he (gE x hd (rk.merge .nil) f)
structure M1(X:Cx)(o:Expr)(m:Str)(apos:Pos)(e:Expr)(cpos:Pos):Prop where
 base:attributeBase o m X.env (eval o X.env)=eval o X.env
 few:((backTo cpos (starEach [e] X.env)).all (λx=>!x.1)&&(backToKw cpos (keywordEach [] X.env)).all (λx=>x.1.isSome)
  && decide (([e]:List Expr).length+([]:List Keyword).length+(if ([]:List Keyword).isEmpty then 0 else 1)<30))=true
 line:(apos.endLine==cpos.line)=true
 trees:backTo cpos (starEach [e] X.env)=[(false,eval e X.env)]
structure M2(X:Cx)(o:Expr)(m:Str)(apos:Pos)(e f:Expr)(cpos:Pos):Prop where
 base:attributeBase o m X.env (eval o X.env)=eval o X.env
 few:((backTo cpos (starEach [e,f] X.env)).all (λx=>!x.1)&&(backToKw cpos (keywordEach [] X.env)).all (λx=>x.1.isSome)
  && decide (([e,f]:List Expr).length+([]:List Keyword).length+(if ([]:List Keyword).isEmpty then 0 else 1)<30))=true
 line:(apos.endLine==cpos.line)=true
 trees:backTo cpos (starEach [e,f] X.env)=[(false,eval e X.env),(false,eval f X.env)]
def IsD(H:Hp)(a:Addr):Prop:=(∃kvs,Rd H a (.dK kvs))\/∃kvs,Rd H a (.dT kvs)
theorem lK{a:Addr}(I:Inv X Io Z H s)(d:IsD H a) :
  s.TypeIs (.ref a) "dict"/\(∀b,Value.ref a=.ref b->∃ob,s.heap.get? b=some ob/\ob.dict=none)/\(a==sysModules)=false:=by
 rcases d with ⟨kvs,e⟩|⟨kvs,e⟩
 .obtain⟨_,hd,vs,_,dd⟩:=cK I.hok e;refine⟨dd.typeIs,λb q=>?_,hd⟩;cases q;obtain⟨ob,_,_,h1,h2,_⟩:=dd;exact⟨ob,h1,h2.2.1⟩
 obtain⟨_,hd,xs,_,dd⟩:=eM I.hok e;refine⟨dd.typeIs,λb q=>?_,hd⟩;cases q;obtain⟨ob,_,_,h1,h2,_⟩:=dd;exact⟨ob,h1,h2.2.1⟩
section
variable {a:Addr}{y d:V}{u r:Value}{o:Option V}
theorem DX{Q:Value->Shared->Prop}(i:A.units+1<cLine)(I:Inv X Io Z H s)(g:DGet H a y o)(d:ar y u)(h:∀f s',Inv X Io Z H s'->ar (o.getD .non) f->Q f s') :
  wpAny (model X.prog X.w) A (call (.builtin "dict.get") [.ref a,u]) Q E s:=by
 rcases g with ⟨kvs,k,e,c,l⟩|⟨kvs,k,b,e,c,m,l⟩
 .subst c;obtain⟨z,hd,vs,rel,dd⟩:=cK I.hok e;refine fR ku dd.typeIs pq (FM _ _) (meets_dict_get (bz X.prog X.w) a (dN d) hd) ⟨_,dd.mapOf,h _ _ (I.tok _) ?_⟩;rw[l];exact (rel.val k).getD rfl
 subst c;cases (show u=Value.ref b from d);obtain⟨z,hd,xs,rel,dd⟩:=eM I.hok e;refine fR ku dd.typeIs pq (FM _ _) (meetsH_dict_get (tupleKind (bz X.prog X.w)) a b hd) ⟨kC i,k,xs,gD I.hok m,dd,h _ _ (I.tok _) ?_⟩;rw[l];exact (rel.val k).getD rfl
theorem DW{Q:Value->Shared->Prop}(m:A.units+1<cLine)(I:Inv X Io Z H s)(g:DGet H a y o)(f:ar y u)(rd:ar d r)(h:∀i s',Inv X Io Z H s'->ar (o.getD d) i->Q i s') :
  wpAny (model X.prog X.w) A (call (.builtin "dict.get") [.ref a,u,r]) Q E s:=by
 rcases g with ⟨kvs,k,e,c,l⟩|⟨kvs,k,b,e,c,n,l⟩
 .subst c;obtain⟨z,hd,vs,rel,dd⟩:=cK I.hok e;refine fR ku dd.typeIs pq (FN _ _ _) (meets_dict_get_default (bz X.prog X.w) a (dN f) hd r) ⟨_,dd.mapOf,h _ _ (I.tok _) ?_⟩;rw[l];exact (rel.val k).getD rd
 subst c;cases (show u=Value.ref b from f);obtain⟨z,hd,xs,rel,dd⟩:=eM I.hok e;refine fR ku dd.typeIs pq (FN _ _ _) (meetsH_dict_get_default (tupleKind (bz X.prog X.w)) a b hd r) ⟨kC m,k,xs,gD I.hok n,dd,h _ _ (I.tok _) ?_⟩;rw[l];exact (rel.val k).getD rd
end
def Ex(a:Addr)(Q:VK)(y:V)(H2:Hp)(o:Option V):Prop:=DGet H2 a y o/\Q (o.getD .non) H2
def Eu(a:Addr)(Q:VK):VK:=λy H2=>Exists (Ex a Q y H2)
def Ey(ty:TE)(Z:St)(Q:VK)(x:V)(H1:Hp)(a:Addr):Prop:=x=.ref a/\IsD H1 a/\ty Z H1 (Eu a Q)
def Ew(ty:TE)(Z:St)(Q:VK):VK:=λx H1=>Exists (Ey ty Z Q x H1)
def CL(td ty:TE):TE:=λZ H Q=>td Z H (Ew ty Z Q)
def CK(td ty tx:TE):TE:=λZ H Q=>td Z H λx H1=>∃a,x=.ref a/\IsD H1 a/\ty Z H1 λy H2=>tx Z H2 λz b=>∃o,DGet b a y o/\Q (o.getD z) b
def Eo(a:Addr)(Q:VK)(y:V)(H2:Hp)(kvs:List (Key×V))(k:Key)(v:V):Prop:=H2 a=some (.dK kvs)/\y=kV k/\aI kvs k=some v/\WrO H2 a (.dK (eN kvs k)) (Q v)
def El(a:Addr)(Q:VK):VK:=λy H2=>Exists (Ex3 (Eo a Q y H2))
def Ep(ty:TE)(Z:St)(Q:VK)(x:V)(H1:Hp)(a:Addr):Prop:=x=.ref a/\IsD H1 a/\ty Z H1 (El a Q)
def Em(ty:TE)(Z:St)(Q:VK):VK:=λx H1=>Exists (Ep ty Z Q x H1)
def CF(td ty:TE):TE:=λZ H Q=>td Z H (Em ty Z Q)
section
variable {o e f:Expr}{apos cpos:Pos}{td ty tx:TE}
theorem zU(c:X.A.units+1<cLine)(f:PE X o td)(he:PE X e ty)(m:M1 X o "get" apos e cpos):PE X (.Call (.Attribute o "get" apos) [e] [] cpos) (CL td ty):=by intro Io s Z H Q I h;refine vK m.base m.few m.line iV ku F2 (thn (f Io s Z H _ I h) λu s1 ⟨x,H1,b,i,a,ex,d,l⟩=>?_);subst ex;obtain rfl:u=Value.ref a:=i;obtain⟨n,p,_⟩:=lK b d;refine⟨n,p,?_⟩;rw[m.trees];refine iM rfl (l_ (ma (thn (he Io s1 Z H1 _ b l) λB s2 ⟨y,H2,q,r,C,g,v⟩=>oW ?_)));exact DX c q g r λD E w z=>⟨_,H2,w,z,v⟩
theorem zT(c:X.A.units+1<cLine)(i:PE X o td)(he:PE X e ty)(hf:PE X f tx)(m:M2 X o "get" apos e f cpos):PE X (.Call (.Attribute o "get" apos) [e,f] [] cpos) (CK td ty tx):=by
 intro Io s Z H Q I h;refine vK m.base m.few m.line iV ku F2 (thn (i Io s Z H _ I h) λu s1 ⟨x,H1,b,l,a,ex,d,n⟩=>?_);subst ex;obtain rfl:u=Value.ref a:=l;obtain⟨p,q,_⟩:=lK b d;refine⟨p,q,?_⟩;rw[m.trees];refine iM rfl (l_ (ma (thn (he Io s1 Z H1 _ b n) λM s2 ⟨y,H2,r,v,w⟩=>
  ma (thn (hf Io s2 Z H2 _ r w) λN O ⟨z,B,C,D,P,g,E⟩=>oW ?_))))
 exact DW c C g v D λR S K L=>⟨_,B,K,L,E⟩
theorem rj(c:PE X o td)(he:PE X e ty)(m:M1 X o "pop" apos e cpos):PE X (.Call (.Attribute o "pop" apos) [e] [] cpos) (CF td ty):=by intro Io s Z H Q I h;refine vK m.base m.few m.line iV FV PySem.F.type_dict_pop (thn (c Io s Z H _ I h) λu s1 ⟨x,H1,b,f,a,ex,d,g⟩=>?_);subst ex;obtain rfl:u=Value.ref a:=f;obtain⟨i,n,_⟩:=lK b d;refine⟨i,n,?_⟩;rw[m.trees];refine iM rfl (l_ (ma (thn (he Io s1 Z H1 _ b g) λC s2 ⟨y,H2,p,q,kvs,k,v,r,w,l,z⟩=>oW ?_)));subst w;exact Fc p r q l (.inl rfl) λD E A B=>⟨v,_,A,B,WrO.at z⟩
end
section
variable {a:Addr}{kvs:List (Key×V)}
theorem AJ{Q:Value->Shared->Prop}(I:Inv X Io Z H s)(e:Rd H a (.dK kvs))(h:∀p s',H p=none->Inv X Io Z (upd H p (.dK kvs)) s'->Q (.ref p) s'):wpAny (model X.prog X.w) A (call (.type "dict") [.ref a]) Q E s:=by obtain⟨z,hd,vs,rel,dd⟩:=cK I.hok e;refine kt_call_dict hd dd (by rw[<-rel.length];exact z) λh' d f=>?_;refine h _ _ (I.hok.fresh (ai _)) (I.laid (a:=s.heap.objs.size) (o:=.dK kvs) (t':=s.toks) (λb q c=>?_) (ai _) (gE z (beq_eq_false_iff_ne.mpr (aF (aU I.big))) rel d));exact (f.2 b (aU (aH c))).trans (aE _ c)
end
section
variable {a:Addr}{y:V}{u:Value}
end
end L2
namespace Att
open PySem PySem.W PySem.Calls PyProof.Rows
theorem vZ{P:Params}{h:Heap}:∀(ns:List Int)(vs:List Value),WellAll P h vs (ns.map WData.int)->IntsAre vs ns:=by
 intro ns;induction ns with
 |nil=>
  intro vs w;rw[List.map_nil] at w;cases w;exact .nil
 |cons n ns c=>
  intro vs w;rw[List.map_cons] at w;cases w with
  |cons a b=>
   cases a;exact .cons _ _ (c _ b)
theorem xU{l:OpenLaw}{n:Nat}(g:l.most=some n){P:Params}{h:Heap}{args:List WData}{vals:List Value}
  (e:l.row.toRowW.claim.pre args=true) (i:WellAll P h vals args) :
  ∃a vs ns,vals=[Value.ref a]/\args=[WData.list (ns.map WData.int)]/\h.get? a=some {cls:=.type "list",data:=.seq vs.toArray}/\IntsAre vs ns/\ns.length<=n:=by
 have m:WShape.hasAll [] args [.list .int]=true:=(pre_splitW e).1;have f:l.pre.holds [] {args:=args}=true:=(pre_splitW e).2;obtain⟨d,r,rfl,h1,h2⟩:=hasAllW_cons m;obtain rfl:=hasAllW_nil h2;obtain⟨xs,rfl,o⟩:=hasW_list h1;obtain⟨ns,rfl⟩:=items_int o;have hlen:ns.length<=n:=by
  unfold OpenLaw.pre at f;have b:(WTm.not (.lt (.lit (.int (n:Int))) (.len (.arg 0)))).holds [] {args:=[.list (ns.map .int)]}=true:=by have b:=(holds_andW f).1;rw[g] at b;exact b
  have c:=condW_of b (w_not (w_lt w_lit (w_len_list (w_arg rfl))));rw[List.length_map] at c;refine u6 λq=>?_;have p:(n:Int)<((ns.length:Nat):Int):=by lia
  first
   |(rw[Ik p] at c;exact absurd c (by decide))
   |(simp at c;lia)
 cases i with
 |cons s u=>
  cases u;cases s with
  |list v w=>exact⟨_,_,ns,rfl,rfl,v,vZ ns _ w,hlen⟩
theorem xY(l:OpenLaw)(args:List WData):l.row.toRowW.claim.post args (.bool true) args=true:=
 postW_of (r:=l.row.toRowW) (X:=(true==true))
  (show WShape.has [] (.bool true) .bool=true by first|rfl|decide|simp[WShape.has,WShape.arms,WShape.armsAll])
  (show (WTm.eq .res (.lit (.bool true))).value [] {args:=args,res:=some (.bool true),after:=args}=some (.bool (true==true)) from w_eq_bool (w_res rfl) w_lit) rfl
theorem attach_call{l:OpenLaw}{n:Nat}{q:Program}{loose:List Str}{XP:(Str->Option Value)->Heap->Prop}{YP:World->Heap->Prop}{d:DefRec}
  (c:l.most=some n) (e:d.params.defaults=[])
  (call:∀(w:World)(s₀ s₁:Shared)(mg mb:Str->Option Value)(fa:Addr)(o:Obj)(pm cd doc:Value)(a:Addr)(vs:List Value)(ns:List Int),
   Ground q loose [] XP w s₀ mg mb s₁.heap->YP w s₁.heap->
   s₁.heap.get? fa=some o->o.data=.func (docDef d.name d.params d.body d.scope pm cd doc)->s₁.heap.CodeRec cd d.name->mg d.name=some (.ref fa)->
   s₁.heap.get? a=some {cls:=.type "list",data:=.seq vs.toArray}->IntsAre vs ns->ns.length<=n->s₁.gens=#[]->
   codeAny (model l.prog w) callerA (.call (.ref fa) ⟨[.ref a],[]⟩) (λr s'=>r=.ok (.ret (.bool true))/\OldK s₁.heap s'.heap/\s'.os=s₁.os/\AllBare s'.gens) s₁) :
  WalkO q loose XP YP l.row.toRowW d [] (λf vs=>PySem.call f vs):=by
 intro w s₀ s₁ mg mb G Y fa o pm cd doc g kV h hd i b m p args vals as u B C v D;obtain rfl:g=.none:=Dflts.none b e;obtain rfl:kV=.none:=Dflts.noKw b;obtain⟨a,vs,ns,rfl,rfl,x,hints,hlen⟩:=xU c u v;refine enter_call (pD (call w s₀ s₁ mg mb fa o pm cd doc a vs ns G Y h (fd_plain hd) i m x hints hlen p) λr s' y=>?_);obtain⟨rfl,h2,z,A⟩:=y;exact⟨.inl ⟨.bool true,.bool true,[],rfl,λ_=>rfl,.bool true,xY l _,λ_=>⟨List.Pairwise.nil,λ_ hm=>(nomatch hm)⟩⟩,h2,z,A⟩
section
variable {prog:Program}{K:Frag}
end
end Att
namespace L2
open PySem PySem.Spec PyProof.Rows
theorem qp:∀{vs:List Value}{ns:List Int},IntsAre vs ns->Vals (ns.map V.int) vs
 |_,_,.nil=>.nil
 |_,_,.cons n t h=>.cons ⟨t,rfl⟩ (qp h)
def Only(H:Hp):Prop:=∀b,H b=none\/∃o xs,H b=some (.frz o (.lst xs))
theorem Ap{P:Program}{w:World}{mg mb:Str->Option Value}{CX:CXT}{k:Nat}{fa a:Addr}{fd:FuncData}{x:Str}{sp:Sp}{s₁:Shared}{vs:List Value}{ns:List Int}
  (p:K.In s₁.heap) (y:s₁.heap.Ns mainGlobals mg) (c:s₁.heap.Ns builtinsNs mb) (I:∀x:Str,x≠"__name__"->mb x=bootBuiltins x) (L:s₁.heap.NoLimit) (M:s₁.gens=#[])
  (ha:s₁.heap.get? a=some {cls:=.type "list",data:=.seq vs.toArray}) (hi:IntsAre vs ns) (N:ns.length<=sizeLine) (O:Room k callerA)
  (F:∀base:Heap,K.In base->base.Ns mainGlobals mg->ak P w K mg base CX k fa fd [x] sp) (Q:∀(s:Shared)(u:Value),BindsTo s fd ⟨[u],[]⟩ [(x,u)])
  (R:∀o,K.lookup a=some o->o.cls≠.type "list") (S:∀H:Hp,Only H->SqL [] H a (ns.map V.int)->sp [.ref a] H (λv _=>v=.bl true) λ_ _ _=>False)
  (T:∀H e s',CX [] H s₁ (λ_ _ _=>False) e s'->False) :
  codeAny (model P w) callerA (.call (.ref fa) ⟨[.ref a],[]⟩) (λr s'=>r=.ok (.ret (.bool true))/\OldK s₁.heap s'.heap/\s'.os=s₁.os/\AllBare s'.gens) s₁:=by
 have U:=qp hi;have ad:=hi.length;have core:∀H:Hp,Only H->SqL [] H a (ns.map V.int)->HOk P w H s₁.heap->(∀b,H b≠none->b=a)->(H a≠none->K.lookup a=none)->
   codeAny (model P w) callerA (.call (.ref fa) ⟨[.ref a],[]⟩) (λr s'=>r=.ok (.ret (.bool true))/\OldK s₁.heap s'.heap/\s'.os=s₁.os/\AllBare s'.gens) s₁:=by
  intro H A X hok B Y;have C:∀{b:Addr}{o:Obj},s₁.heap.get? b=some o->H b=none->(eS s₁.heap H).get? b=some o:=λe n=>Ar e n;have Z:∀{b:Addr}{o:Obj}{es:Array DictEntry}{ep:Nat},s₁.heap.get? b=some o->o.data=.dict es ep->H b=none:=λ{b o es ep} e d=>by
   cases q:H b with
   |none=>rfl
   |some u=>
    have g:b=a:=B b (by rw[q];simp);subst g;rw[ha] at e;cases e;have d':Data.seq vs.toArray _=Data.dict es ep:=d;cases d'
  have f:∀{b:Addr}{m:Str->Option Value},s₁.heap.Ns b m->(eS s₁.heap H).Ns b m:=λ{b m} ⟨o,es,ep,e,d,r⟩=>⟨o,es,ep,C e (Z e d),d,r⟩;have D:K.In (eS s₁.heap H):=λb o e=>C (p b o e) (by
   cases q:H b with
   |none=>rfl
   |some u=>
    have g:b=a:=B b (by rw[q];simp);subst g;rw[Y (by rw[q];simp)] at e;cases e)
  have hM:Mod K mg (eS s₁.heap H):=⟨D,f y,⟨mb,f c,I⟩,let ⟨mc,h1,h2⟩:=L;⟨mc,f h1,h2⟩⟩;have e0:gL P w K mg (eS s₁.heap H) callerA [] s₁ H:=⟨rfl,hM,λb o e=>BL e,pb (yK _ _),trivial,λb c=>absurd (show b∈([]:List Addr) from c) (by simp),hok,.of_eq M⟩;refine pD ((F _ D (f y)).run callerA [] s₁ H ⟨[.ref a],[]⟩ [.ref a] [.ref a] _ _ O e0 (Q s₁ (.ref a)) (.cons rfl .nil) (S H A X)) λr s' h=>?_;cases r with
  |error e=>exact (T H e s' h).elim
  |ok fl=>
   cases fl with
   |next=>exact False.elim h
   |brk=>exact False.elim h
   |cont=>exact False.elim h
   |ret u=>
    obtain⟨v,H',os,bare,un,ab,r',q⟩:=h;have q':v=.bl true:=q;subst q';obtain rfl:u=Value.bool true:=r';refine⟨rfl,OldK.of_keep λb o e=>?_,os,bare⟩;cases q:H b with
    |none=>exact un.keep b o e q (by intro z;exact absurd (show b∈([]:List Addr) from z) (by simp)) (by simp)
    |some u=>
     rcases A b with z|⟨ob,xs,z⟩
     .rw[q] at z;cases z
     have z2:=un.frzs b ob _ z;obtain⟨E,_⟩:=hok b _ z;obtain⟨e2,_⟩:=ab b _ z2;rw[e] at E;cases E;exact e2
 cases i:K.lookup a with
 |some o=>
  have e:=p a o i;rw[ha] at e;cases e;exact absurd rfl (R _ i)
 |none=>
  refine core (λb=>if b=a then some (.frz {cls:=.type "list",data:=.seq vs.toArray} (.lst (ns.map V.int))) else none) (λb=>?_) (.inl (.inr ⟨{cls:=.type "list",data:=.seq vs.toArray},Ij rfl⟩)) (λb u z=>?_) (λb z=>?_) λ_=>i
  .by_cases c:b=a
   .exact .inr ⟨_,_,Ij c⟩
   exact .inl (Ii c)
  .by_cases c:b=a
   .have l:=(Ij c).symm.trans z;cases l;subst c;exact⟨ha,by rw[List.length_map];exact N,vs,_,U,ha⟩
   have l:=(Ii c).symm.trans z;cases l
  by_cases c:b=a
  .exact c
  exact absurd (Ii c) z
end L2
namespace L2
open PySem PySem.Spec PyProof.Rows
theorem walk_of{l:W.OpenLaw}{n k:Nat}{q:Program}{loose:List Str}{XP:(Str->Option Value)->Heap->Prop}{YP:World->Heap->Prop}{d:DefRec}{K:Params->W.Frag}{CX:World->CXT}{sp:World->Sp}{x:Str}
  (i:l.most=some n) (m:n<=sizeLine) (p:d.params.defaults=[]) (r:Room k callerA)
  (y:∀(w:World)(h:Heap),YP w h->(K w.params).In h)
  (F:∀(w:World)(mg:Str->Option Value)(fa:Addr)(h:Heap),(K w.params).In h->h.Ns mainGlobals mg->mg d.name=some (.ref fa)->
   ∃fd:FuncData,(∀(s:Shared)(u:Value),BindsTo s fd ⟨[u],[]⟩ [(x,u)])/\
    ∀base:Heap,(K w.params).In base->base.Ns mainGlobals mg->ak l.prog w (K w.params) mg base (CX w) k fa fd [x] (sp w))
  (z:∀(w:World)(a:Addr)(o:Obj),(K w.params).lookup a=some o->o.cls≠.type "list") (A:∀(w:World)(H:Hp)(a:Addr)(ns:List Int),ns.length<=n->Only H->SqL [] H a (ns.map V.int)->sp w [.ref a] H (λv _=>v=.bl true) λ_ _ _=>False)
  (B:∀(w:World)(H:Hp)(s:Shared)(e:Value)(s':Shared),CX w [] H s (λ_ _ _=>False) e s'->False) :
  W.WalkO q loose XP YP l.row.toRowW d [] (λf vs=>PySem.call f vs):=by
 refine Att.attach_call i p λw s₀ s₁ mg mb fa o pm cd doc a vs ns G Y N hd O C D hints hlen E=>?_;have c:=y w _ Y;obtain⟨fd,I,hF⟩:=F w mg fa _ c G.T.g C;exact Ap c G.T.g G.T.b G.T.builtins G.T.nolimit E D hints (bQ hlen m) r hF I (z w a) (λH L M=>A w H a ns hlen L M) λH e s'=>B w H s₁ e s'
def nlV:Value->Bool
 |.type s=>!(s=="list")
 |_=>true
theorem uM{a:Addr}{o:Obj}:∀{K:W.Frag},K.all (λx=>nlV x.2.cls)=true->K.lookup a=some o->o.cls≠.type "list"
 | [],_,h=>nomatch h
 |(b,u)::K,e,h=>by
  rw[List.all_cons,eZ] at e;rw[List.lookup_cons] at h
  split at h
  .cases h;intro z;have:=e.1;rw[z] at this;exact absurd this (by decide)
  exact uM e.2 h
end L2
namespace L2
open PySem PySem.Spec PyProof.Rows
abbrev CX0:CXT:=λ_ _ _ _ _ _=>False
abbrev E0:XK:=λ_ _ _=>False
theorem pass0:Passes CX0 X E0:=λ_ _ _ _ _ _ _ h=>h.elim
structure Use(P:Program)(w:World)(K:W.Frag)(mg:Str->Option Value)(base:Heap)(n:Nat)(x:Str)(ps:List Str)(sp:Sp)(f:Addr)(fd:FuncData):Prop where
 g:ak P w K mg base CX0 n f fd ps sp
 b:Binds K fd ps []
 m:mg x=some (.ref f)
 k:W.keepIn K (.ref f)=true
theorem uc{k:Nat}{x:Str}{ps:List Str}{sp:Sp}{f:Addr}{e:Expr}{es:List Expr}{t:TA}{p pos:Pos}(G:Use X.prog X.w X.K X.mg X.base k x ps sp f fd)(c:Room k X.A)(ha:PA X (e::es) t)(d:Gl X x:=by rfl)(h:(x==("__debug__" : Str))=false:=by decide)(he:starEach (e::es) X.env=(false,eval e X.env)::starEach es X.env:=by rfl)(i:(backTo pos (starEach es X.env)).any (·.1)=false:=by rfl):PE X (.Call (.Name x p) (e::es) [] pos) (uD sp [] E0 t):=tp G.g c d G.m G.k G.b .nil pass0 ha h he i
structure Fun(K:W.Frag)(x qual:Str)(st:Stmt)(f:Addr)(fd:FuncData):Prop where
 ex:∃(oc:Value)(od:Option Addr)(kV doc pm:Value)(an:Option Addr)(Ip ct:Value)(osl:Array (Option Value)),
  fd=W.fnOf x qual (bZ st) (bU st) (ax st) .none kV doc pm an Ip ct/\K.lookup f=some ⟨oc,od,.func fd,osl⟩/\W.codeIn K Ip qual=true
 kp:W.keepIn K (.ref f)=true
section
theorem Fun.ok{x qual:Str}{st:Stmt}{f:Addr}{N ps:List Str}{k:Nat}{sp:Sp}(F:Fun K x qual st f fd)(S:aP N ps (ax st))(len:∀vs H Q E,sp vs H Q E->vs.length=ps.length)
  (c:∀(b:Value)(A:Around)(outer:List Env)(s:Shared)(H:Hp)(vs:List V)(Q:VK)(E:XK),Room k (A.deeper (envOfC qual (ax st) s.heap.objs.size f b))->sp vs H Q E->
   ∃t,PSs (iJ CX0 P w K mg base N qual (ax st) f b A outer s H E).nox (bU st) t/\t {nx:=λ_ H'=>Q .non H',rt:=Q} (start N vs) H):ak P w K mg base CX0 (k+1) f fd ps sp:=by
 obtain⟨i,od,kV,doc,pm,an,b,ct,l,rfl,lk,d⟩:=F.ex;refine E9 lk d S len λA outer s H vs Q E e g=>?_;obtain⟨t,h,q⟩:=c b A outer s H vs Q E e g;exact⟨t,h.nox,q⟩
theorem Fun.binds{x qual:Str}{st:Stmt}{f:Addr}{ps:List Str}(F:Fun K x qual st f fd)
  (h:∀(kV doc pm:Value)(an:Option Addr)(b ct:Value)(us:List Value),us.length=ps.length->bindArgs (W.fnOf x qual (bZ st) (bU st) (ax st) .none kV doc pm an b ct) ⟨us,[]⟩=pure (ps.zip us)):Binds K fd ps []:=by
 obtain⟨c,od,kV,doc,pm,an,b,ct,d,rfl,lk,e⟩:=F.ex;exact .all (h kV doc pm an b ct)
theorem uk{x qual:Str}{st:Stmt}{f:Addr}{d:Value}{od an:Option Addr}{e:Array (Option Value)}{kV doc pm b ct:Value}(l:K.lookup f=some ⟨d,od,.func (W.fnOf x qual (bZ st) (bU st) (ax st) .none kV doc pm an b ct),e⟩)
  (c:W.codeIn K b qual=true) (k:W.keepIn K (.ref f)=true):Fun K x qual st f (W.fnOf x qual (bZ st) (bU st) (ax st) .none kV doc pm an b ct):=⟨⟨d,od,kV,doc,pm,an,b,ct,e,rfl,l,c⟩,k⟩
end
theorem bI{k:Nat}(b:Room k A):A.units+1<cLine:=pf (oY (by decide:1<=64) _) b.units
section
theorem pv(i:Nat){x:Str}{pos:Pos}(b:X.N[i]?=some x:=by rfl)(c:Vis X.env.scope x:=by first|exact Or.inl rfl|exact Or.inr (.inl rfl)|exact Or.inr (.inr rfl))(hd:(x==("__debug__" : Str))=false:=by decide)
  (d:(x==("__classdict__" : Str))=false:=by decide):PE X (.Name x pos) (aV i):=Dg b c hd d
theorem y0:bJ X (.builtin "len") (λxs H Q=>∃a kvs,xs=[V.ref a]/\H a=some (.dK kvs)/\Q (.int kvs.length) H):=by intro Io s Z H xs us Q I r h;obtain⟨a,kvs,rfl,ha,q⟩:=h;obtain⟨u,rfl,b⟩:=vals1 r;cases b;exact Fe I (.inl ha) λt s' c=>⟨.int kvs.length,H,c,⟨t,rfl⟩,q⟩
end
theorem aC{A B:Prop}(h:B):if false=true then A else B:=by rw[Ii a8];exact h
theorem aL{A B:Prop}(h:A):if true=true then A else B:=by rw[Ij rfl];exact h
theorem ite2{c A B:Prop}[Decidable c](h1:c->A)(h2:¬c->B):if c then A else B:=by
 by_cases h:c
 .rw[Ij h];exact h1 h
 rw[Ii h];exact h2 h
theorem Same.refl(H:Hp):Same H H:=λ_ _ h=>h
theorem Same.trans{H H1 H2:Hp}(a:Same H H1)(b:Same H1 H2):Same H H2:=λc o h=>b c o (a c o h)
theorem Same.free(e:Same H H'){l:Addr}(h:H' l=Option.none):H l=Option.none:=by
 cases q:H l with
 |none=>rfl
 |some o=>
  rw[e l o q] at h;cases h
theorem Same.seq{a:Addr}(e:Same H H')(h:SqL K H a xs):SqL K H' a xs:=by
 rcases h with (h|⟨o,h⟩)|h
 .exact .inl (.inl (e _ _ h))
 .exact .inl (.inr ⟨o,e _ _ h⟩)
 exact .inr h
section
variable {κ:Type}[DecidableEq κ]
theorem rW{kvs:List (κ×V)}{k:κ}{v:V}(h:aI kvs k=some v):k∈kvs.map (·.1):=by
 have q:(kvs.any λb=>decide (b.1=k))=true:=by
  rw[jb,h]
  all_goals rfl
 obtain⟨p,c,e⟩:=List.any_eq_true.mp q;exact List.mem_map.mpr ⟨p,c,Im e⟩
end
end L2
end
variable {H:L2.Hp}{Z:L2.St}{X:L2.Cx}{xs:List L2.V}{vs:List L2.V}{H':L2.Hp}
section
namespace L2
open PySem PySem.Spec PyProof.Rows
def cD(env:Env):List (Str×NameKind)->List (Str×Addr)->List (Str×Addr)
 | [],cs=>cs
 |(n,k)::r,cs=>cD env r (if k==.free then (n,(env.cells.lookup n).getD 0)::cs else cs)
theorem qk(env:Env):∀(names:List (Str×NameKind))(cs:List (Str×Addr)),(∀x∈names,x.2=.free->∃c,env.cells.lookup x.1=some c)->
  (forIn names cs (λ(x:Str×NameKind)(r:List (Str×Addr))=>(do
   if x.2==NameKind.free then
    let a <-cellOf env x.1
    pure (ForInStep.yield ((x.1,a)::r))
   else pure (ForInStep.yield r):Sem (ForInStep (List (Str×Addr))))))=pure (cD env names cs)
 | [],cs,_=>rfl
 |(n,k)::r,cs,h=>by
  have ih:=λcs=>qk env r cs λx hx=>h x (List.mem_cons_of_mem _ hx);rw[List.forIn_cons];by_cases hk:k=.free
  .subst hk;obtain⟨c,hc⟩:=h (n,.free) List.mem_cons_self rfl;have e:cellOf env n=pure c:=by
    have hc':env.cells.lookup n=some c:=hc;unfold cellOf;rw[hc']
    try rfl
   rw[Ij (show (((n,NameKind.free).2==NameKind.free)=true) from rfl),e];refine Eq.trans ?_ ((ih ((n,c)::cs)).trans ?_)
   .rfl
   have hc':env.cells.lookup n=some c:=hc;show pure (cD env r ((n,c)::cs))=pure (cD env r ((n,(env.cells.lookup n).getD 0)::cs));rw[hc'];rfl
  have hb:(k==NameKind.free)=false:=by simpa using hk
  rw[Ii (show ¬(((n,k).2==NameKind.free)=true) by rw[show ((n,k).2==NameKind.free)=false from hb];simp)];refine Eq.trans ?_ ((ih cs).trans ?_)
  .rfl
  show pure (cD env r cs)=pure (cD env r (if (k==NameKind.free)=true then _ else cs));rw[hb];rfl
theorem mQ{env:Env}(h:∀x∈scope.names,x.2=.free->∃c,env.cells.lookup x.1=some c):closureFor scope env=pure (cD env scope.names []):=by
 have e:=qk env scope.names [] h;unfold closureFor;simp only[bind_pure_comp,map_pure] at e |-
 first
  |(rw[e];rfl)
  |exact e
theorem tJ{env:Env}:∀{names:List (Str×NameKind)}{cs:List (Str×Addr)}{x:Str}{c:Addr},(∀y∈names,y.2=.free->∃c,env.cells.lookup y.1=some c)->
  (cD env names cs).lookup x=some c->env.cells.lookup x=some c\/cs.lookup x=some c
 | [],cs,x,c,_,h=>.inr h
 |(n,k)::r,cs,x,c,hf,h=>by
  have g:∀y∈r,y.2=.free->∃c,env.cells.lookup y.1=some c:=λy i=>hf y (List.mem_cons_of_mem _ i);rcases tJ (names:=r) g h with q|q
  .exact .inl q
  by_cases b:(k==NameKind.free)=true
  .rw[Ij b] at q;have l:k=.free:=by simpa using b
   obtain⟨f,e⟩:=hf (n,k) List.mem_cons_self l;have e:env.cells.lookup n=some f:=e;rw[List.lookup_cons] at q;cases d:x==n with
   |true=>
    rw[d] at q;have m:x=n:=by simpa using d
    subst m;rw[e] at q;have o:f=c:=by simpa using q
    exact .inl (o ▸ e)
   |false=>
    rw[d] at q;exact .inr q
  rw[Ii b] at q;exact .inr q
theorem nA{env:Env}:∀{names:List (Str×NameKind)}{cs:List (Str×Addr)}{x:Str},((x,NameKind.free)∈names\/(cs.lookup x).isSome=true)->((cD env names cs).lookup x).isSome=true
 | [],cs,x,h=>by
  rcases h with h|h
  .simp at h
  exact h
 |(n,k)::r,cs,x,h=>by
  refine nA (names:=r) ?_;rcases h with h|h
  .rcases List.mem_cons.mp h with e|e
   .cases e;refine .inr ?_;rw[Ij (by rfl),List.lookup_cons,beq_self_eq_true];rfl
   exact .inl e
  refine .inr ?_;by_cases b:(k==NameKind.free)=true
  .rw[Ij b,List.lookup_cons];cases c:x==n with
   |true=>rfl
   |false=>exact h
  rw[Ii b];exact h
theorem pR(env:Env):∀(names:List (Str×NameKind))(x:Str),
  (names.map λ(n,k)=>if (k==NameKind.free&&env.scope.kind==.function&&env.kindOf n==some .cell) then (n,NameKind.cell) else (n,k)).lookup x=(names.lookup x).map λk=>if (k==NameKind.free&&env.scope.kind==.function&&env.kindOf x==some .cell) then NameKind.cell else k
 | [],_=>rfl
 |(n,k)::r,x=>by
  have c:=pR env r x;rw[List.map_cons];dsimp only at c |-;by_cases b:(k==NameKind.free&&env.scope.kind==.function&&env.kindOf n==some .cell)=true
  .rw[Ij b,List.lookup_cons,List.lookup_cons];cases d:x==n with
   |true=>
    have e:x=n:=by simpa using d
    subst e;simp only[kr,b,if_true]
   |false=>exact c
  rw[Ii b,List.lookup_cons,List.lookup_cons];cases d:x==n with
  |true=>
   have e:x=n:=by simpa using d
   subst e;simp only[kr];rw[Ii b]
  |false=>exact c
def cY(X:Cx)(N:List Str)(scope:Scope)(C:Addr)(s:Shared)(H:Hp)(fp:List Addr)(Io:List (Addr×Obj)):Cx:=
 {X with N:=N,s₀:=s,H₀:=H,env:=compEnvC scope (cD X.env scope.names []) C X.env,outer:=X.stack,ex:=fp,fn:=λ_=>false,pn:=X.pn++Io,xe:=λ_ _=>False}
def eI(fr:List (Option Nat))(Z:St):St:=fr.map λo=>o.bind λi=>(Z[i]?).join
structure dt(X:Cx)(N:List Str)(fr:List (Option Nat))(scope:Scope):Prop where
 nd:N.Nodup
 len:fr.length=N.length
 kind:scope.kind=.function
 nocell:∀y∈scope.names,y.2≠.cell
 names:∀y∈scope.names,y.2=.local->scope.names.lookup y.1=some .local
 frees:∀y∈scope.names,y.2=.free->X.env.kindOf y.1=some .cell\/X.env.kindOf y.1=some .free
 fr:∀(j i:Nat)(x:Str),fr[j]?=some (some i)->N[j]?=some x->X.N[i]?=some x/\scope.names.lookup x=some .free
section
variable {N:List Str}{fr:List (Option Nat)}{fp:List Addr}
theorem dt.cells(S:dt X N fr scope)(ok:X.Ok):∀y∈scope.names,y.2=.free->∃c,X.env.cells.lookup y.1=some c:=λy b hf=>ok.has y.1 (S.frees y b hf)
theorem kF{names:List (Str×NameKind)}{x:Str}{k:NameKind}(h:names.lookup x=some k):(x,k)∈names:=kB h
theorem qJ{C:Addr}{x:Str}:(compEnvC scope (cD X.env scope.names []) C X.env).kindOf x=(scope.names.lookup x).map λk=>if (k==NameKind.free&&X.env.scope.kind==.function&&X.env.kindOf x==some .cell) then NameKind.cell else k:=pR X.env scope.names x
theorem dt.free_of(S:dt X N fr scope){C:Addr}{x:Str}(h:(compEnvC scope (cD X.env scope.names []) C X.env).kindOf x=some .cell\/(compEnvC scope (cD X.env scope.names []) C X.env).kindOf x=some .free):scope.names.lookup x=some .free:=by
 rw[qJ] at h;cases e:scope.names.lookup x with
 |none=>rw[e] at h;simp at h
 |some k=>
  rw[e] at h;have b:=S.nocell _ (kF e);cases k with
  |free=>rfl
  |cell=>exact absurd rfl b
  |_=>
   exfalso;rcases h with h|h<;>simp at h
theorem yY{C:Addr}{x:Str}(h:scope.names.lookup x=some .free):(compEnvC scope (cD X.env scope.names []) C X.env).kindOf x=some .cell\/(compEnvC scope (cD X.env scope.names []) C X.env).kindOf x=some .free:=by
 rw[qJ,h,kr];by_cases c:(NameKind.free==NameKind.free&&X.env.scope.kind==.function&&X.env.kindOf x==some .cell)=true
 .rw[Ij c];exact .inl rfl
 rw[Ii c];exact .inr rfl
end
end L2
end
section
namespace L2
open PySem PySem.Spec PyProof.Rows
section
variable {N:List Str}{fr:List (Option Nat)}{fp:List Addr}
theorem qg{C:Addr}{h1:Heap}{m:Str->Option Value}{t:Nat}(S:dt X N fr scope)(I:Inv X Io Z H s)(hf:∀b∈fp,bS X Io H b)(A:s.heap.objs.size<=C)(L:∀b∈fp,b≠C)
  (M:h1.Ns C m) (l:∀b o,s.heap.get? b=some o->h1.get? b=some o):Inv (cY X N scope C s H fp Io) [] (eI fr Z) H {s with heap:=h1,toks:=t}:=by
 have O:=S.cells I.ok;have sub:∀x c,(cD X.env scope.names []).lookup x=some c->X.env.cells.lookup x=some c:=λx c e=>by
  rcases tJ O e with q|q
  .exact q
  simp at q
 have ok:(cY X N scope C s H fp Io).Ok:=by
  refine⟨I.ok.mod,S.kind,I.ok.glob,I.ok.blt,A,λx y c h1 h2=>I.ok.inj x y c (sub x c h1) (sub y c h2),λx P=>?_,λx c e=>absurd e (by show ¬(false=true);decide),I.ok.hd,I.ok.frames,.inl rfl,λb g=>?_,λb o e=>I.bs b o e,bQ I.ok.bsz I.sz,λb o e g=>?_,λb g=>?_,I.stack,I.stkFree⟩
  .have e:=S.free_of P;exact u_.mp (nA (.inl (kF e)))
  .exact⟨L b g,λx c e=>(hf b g).2.2.2.2.1 x c (sub x c e)⟩
  .rcases (hf b g).2.2.2.1 with z|z
   .exact I.ok.noex b o e z
   exact absurd (bL (aH e) (bQ I.ok.bsz z)) (cT _)
  intro z;rcases List.mem_cons.mp (I.stkSub b z) with q|q
  .exact (hf b g).2.1 q
  exact (hf b g).2.2.1 q
 have Q:H C=none:=I.hok.fresh A;refine⟨ok,rfl,I.bare,Un.kept l,⟨m,M,λj x v R f e3=>?_⟩,λx c e=>?_,Q,λx c e=>I.freeC x c (sub x c e),λp w=>?_,I.hok.kept l,?_⟩
 .have f:(eI fr Z)[j]?=some (some v):=f;unfold eI at f;rw[List.getElem?_map] at f;cases q:fr[j]? with
  |none=>rw[q] at f;cases f
  |some o=>
   rw[q] at f;cases o with
   |none=>cases f
   |some i=>
    have f:(Z[i]?).join=some v:=cq f;obtain⟨hi,B⟩:=S.fr j i x q R;have hσ:Z[i]?=some (some v):=by
     cases z:Z[i]? with
     |none=>rw[z] at f;cases f
     |some y=>rw[z] at f;cases y with
      |none=>cases f
      |some T=>have f:some T=some v:=f;rw[f]
    obtain⟨m0,_,U⟩:=I.loc;have E:X.env.kindOf x=some .cell\/X.env.kindOf x=some .free:=S.frees (x,.free) (kF B) rfl;have Y:Vis X.env.scope x:=E.elim (λz=>.inr (.inl z)) λz=>.inr (.inr z);obtain⟨u,r,lk⟩:=U i x v hi hσ Y;rcases lk with ⟨z,_⟩|⟨_,c,ec,ab⟩
    .rcases E with y|y<;>(rw[y] at z;cases z)
    refine⟨u,r,.inr ⟨yY B,?_⟩⟩;obtain⟨c',K⟩:=u_.mp (nA (env:=X.env) (names:=scope.names) (cs:=[]) (.inl (kF B)));have:=sub x c' K;rw[ec] at this;cases this;obtain⟨o,D,hd⟩:=ab;exact⟨c,K,o,l c o D,hd⟩
 .obtain⟨v,o,D,hd⟩:=I.cell x c (sub x c e);exact⟨v,o,l c o D,hd⟩
 .have w:p∈(X.pn++Io)++[]:=w;rw[List.append_nil] at w;obtain⟨e,n,ne,nf,d⟩:=I.pin p w;refine⟨l _ _ e,n,λz=>?_,λz=>?_,d⟩
  .have z:p.1=C:=z;exact absurd (bL (aH e) A) (by rw[z];exact cT _)
  rcases List.mem_cons.mp (I.stkSub p.1 z) with q|q
  .exact ne q
  exact nf q
 show (eI fr Z).length=N.length;unfold eI;rw[List.length_map];exact S.len
theorem rN{C:Addr}{H2:Hp}{s':Shared}{Z':St}{d:List (Addr×Obj)}(I:Inv X Io Z H s)(hf:∀b∈fp,bS X Io H b)(e:s.heap.objs.size<=C)(J:Inv (cY X N scope C s H fp Io) d Z' H2 s') :
  Inv X Io Z H2 s'/\bS X Io H2 C:=by
 have f:Inv X Io Z H2 s':=I.call' J.os J.base J.hok J.bare λb c=>⟨(hf b c).2.2.2.1,(hf b c).2.1,(hf b c).2.2.2.2.1,(hf b c).2.2.2.2.2⟩;exact⟨f,I.fpOk e J.free⟩
end
end L2
end
section
namespace L2
open PySem PySem.Spec PyProof.Rows
def PIf(X:Cx)(ifs:List Expr)(t:TT):Prop:=
 ∀(Io:List (Addr×Obj))(s:Shared)(Z:St)(H:Hp)(Q:Bool->Hp->Prop),Inv X Io Z H s->t Z H Q->
  wpAny (model X.prog X.w) X.A (forIn ifs true λc r=>if r=true then do let ok <-isTrue c X.env (eval c X.env);pure (ForInStep.yield ok) else pure (ForInStep.yield r)) (TP X Io Z Q) X.xe s
theorem cP:PIf X [] (λ_ H Q=>Q true H):=λ_ _ _ H _ I h=>wpAny_tests_nil ⟨H,I,h⟩
theorem dS{c:Expr}{t:TT}(h:PT X c t):PIf X [c] t:=λIo s Z H Q I q=>wpAny_tests_one (h Io s Z H Q I q)
def tBlE(D:Addr)(ys:List V)(N:St->List V->Hp->Prop)(σ2:St):VK:=λy b=>b D=some (.lst ys)/\ys.length<sizeLine/\WrO b D (.lst (ys++[y])) (N σ2 (ys++[y]))
def oN(te:TE)(D:Addr)(ys:List V)(N:St->List V->Hp->Prop)(σ2:St):Bool->Hp->Prop:=λb c=>if b=true then te σ2 c (tBlE D ys N σ2) else N σ2 ys c
def kg(tt:TT)(te:TE)(D:Addr)(ys:List V)(N:St->List V->Hp->Prop):St->Hp->Prop:=λσ2 H2=>tt σ2 H2 (oN te D ys N σ2)
def tBlN(J:It)(g:TG)(tt:TT)(te:TE)(D:Addr)(W:Nat->Nat->St->List V->Hp->Prop)(i m:Nat)(Z:St)(ys:List V)(H:Hp)(N:St->List V->Hp->Prop):Prop:=(∀Z' b H',N Z' b H'->∃c,c<m/\W (i+1) c Z' b H')/\∀x H',J.yld i H x H'->g x Z H' (kg tt te D ys N)
def tBlB(J:It)(g:TG)(tt:TT)(te:TE)(D:Addr)(Z':St)(H1:Hp)(Q:Hp->Prop)(W:Nat->Nat->St->List V->Hp->Prop):Prop:=(∃m,W 0 m Z' [] (upd H1 D (.lst [])))/\∀i m Z ys H,W i m Z ys H->(J.stop i H/\Q H)\/(J.go i H/\Exists (tBlN J g tt te D W i m Z ys H))
def gz(J:It)(g:TG)(tt:TT)(te:TE)(D:Addr)(Z':St)(H1:Hp)(Q:Hp->Prop):Prop:=Exists (tBlB J g tt te D Z' H1 Q)
theorem yX{elt target iter:Expr}{ifs:List Expr}{scope:Scope}{pos:Pos}{it acc:Value}{env:Env}{R:Result->Shared->Prop}(I:Nat->Shared->Prop)
  (turn:∀n s,I n s->wpAny (model P w) A (pyNext it) (λr s1=>match r with
   |none=>R (.ok .next) s1
   |some v=>wpAny (model P w) A (letOwnedTupleGo target it v) (λ_ s1'=>wpAny (model P w) A (assign target env v) (λ_ s2=>
     wpAny (model P w) A (forIn ifs true λc r=>if r=true then do let ok <-isTrue c env (eval c env);pure (ForInStep.yield ok) else pure (ForInStep.yield r)) (λok s3=>
      if ok=true then wpAny (model P w) A (eval elt env) (λx s4=>
       wpAny (model P w) A (call (.builtin "list.append") [acc,x]) (λ_ s5=>∃m,m<n/\I m s5) (λ_ _=>False) s4) (λ_ _=>False) s3
      else ∃m,m<n/\I m s3) (λ_ _=>False) s2) (λ_ _=>False) s1') (λ_ _=>False) s1) (λ_ _=>False) s)
  (n:Nat) (h:I n s) :
  codeAny (model P w) A (.compLoop (.ListComp elt [⟨target,iter,ifs,0⟩] scope pos) 0 it acc env) R s:=by
 have no:∀(e:Value)(t:Shared),False->notedBy (model P w) A env (λe s'=>R (.error e) s') e t:=λ_ _ z=>z.elim;refine codeAny_loop rfl I (λn s hI=>?_) n h;refine wpAny_noted ?_;rw[compTurn_list];refine aa (mG (aa (bT (turn n s hI) (λr s1 h1=>?_) no)));cases r with
 |none=>exact aj h1
 |some v=>
  refine aa (bT h1 (λ_ s1' h1'=>?_) no);refine aa (bT h1' (λ_ s2 h2=>aa (bT h2 (λok s3 h3=>?_) no)) no);cases ok with
  |false=>exact aj ⟨rfl,h3⟩
  |true=>
   exact aa (aa (bT h3 (λx s4 h4=>aa (bT h4 (λ_ s5 h5=>aj (aj ⟨rfl,h5⟩)) no)) no))
section
variable {N:List Str}{fr:List (Option Nat)}{fp:List Addr}
theorem AR{elt target iter:Expr}{ifs:List Expr}{pos:Pos}{it D:Addr}{B:Nat->Heap->Prop}{J:It}{g:TG}{tt:TT}{te:TE}{R:Result->Shared->Prop}{s1:Shared}{N:St}{H1:Hp}{Q:Hp->Prop}
  {Y:Cx} (hY:Y.xe=λ_ _=>False) (X:Y.calm=true) (I:Inv Y [] N (upd H1 D (.lst [])) s1) (T:Turn Y.prog Y.w Y.K target J fp it B) (ht:B 0 s1.heap) (hf:∀b∈fp,bS Y [] (upd H1 D (.lst [])) b)
  (hg:PG Y target g) (hi:PIf Y ifs tt) (he:PE Y elt te) (h:gz J g tt te D N H1 Q) (hR:∀s' Z' H',Inv Y [] Z' H' s'->Q H'->R (.ok .next) s') :
  codeAny (model Y.prog Y.w) Y.A (.compLoop (.ListComp elt [⟨target,iter,ifs,0⟩] scope pos) 0 (.ref it) (.ref D) Y.env) R s1:=by
 obtain⟨W,⟨m0,w0⟩,turn⟩:=h;have O:∀{H':Hp},(∀b∈fp,H' b=none)->∀b∈fp,bS Y [] H' b:=λhn b c=>⟨hn b c,(hf b c).2⟩;refine yX (λn s'=>∃i Z' ys H',Inv Y [] Z' H' s'/\B i s'.heap/\(∀b∈fp,H' b=none)/\W i n Z' ys H') ?_ m0 ⟨0,N,[],_,I,ht,λb c=>(hf b c).1,w0⟩;rintro n Z ⟨i,z,ys,C,I3,ab,ad,w3⟩;have back:∀{α:Type}{t:Sem α}{Q:α->Shared->Prop}{s:Shared},wpAny (model Y.prog Y.w) Y.A t Q Y.xe s->wpAny (model Y.prog Y.w) Y.A t Q (λ_ _=>False) s:=λh=>by rw[hY] at h;exact h
 rcases turn i n z ys C w3 with ⟨stop,qn⟩|⟨go,N',al,step⟩
 .refine thn (T.done Y rfl rfl rfl X i [] Z z C _ I3 (O ad) ab stop) λr s4 ⟨P,I4⟩=>?_;subst P;exact hR s4 z C I4 qn
 refine thn (T.item Y rfl rfl rfl X i [] Z z C _ I3 (O ad) ab go) λr s4 ⟨u,P,h4⟩=>?_;subst P;refine thn h4 λ_ s5 ⟨x,H5,I5,r5,y5,S,an⟩=>?_;have am:=I5.pinned (O an) (T.obj _ _ S);rw[List.nil_append] at am;refine thn (back (hg _ s5 z H5 x u _ am r5 (step x H5 y5))) λ_ s6 ⟨E,H6,I6,q6⟩=>?_;refine thn (back (hi _ s6 E H6 _ I6 q6)) λb f ⟨l,q,H⟩=>?_;have again:∀{L:St}{l:Hp}{f:Shared}{U:List V},Inv Y (iy fp s5.heap) L l f->(∃M,M<n/\W (i+1) M L U l)->∃m,m<n/\∃i Z' ys H',Inv Y [] Z' H' f/\B i f.heap/\(∀b∈fp,H' b=none)/\W i m Z' ys H':=λ{L l f U} q ⟨M,hm,w7⟩=>by
  refine⟨M,hm,i+1,L,U,l,q.pins_of (λp hp=>by simp at hp),T.keep _ _ _ S λb c o e=>(q.pin (b,o) (List.mem_append_right _ (f_ c e))).1,λb c=>?_,w7⟩;obtain⟨o,e,d⟩:=T.obj _ _ S b c;exact (q.pin (b,o) (List.mem_append_right _ (f_ c e))).2.1
 cases b with
 |false=>
  rw[oN,Ii a8] at H;rw[Ii a8];exact again q (al _ _ _ H)
 |true=>
  rw[oN,Ij rfl] at H;rw[Ij rfl];refine thn (back (he _ f E l _ q H)) λv s8 ⟨y,H8,I8,r8,hD,hl,q8⟩=>?_;refine thn (back (cz _ s8 E H8 (.ref D) [y] (.ref D) [v] (λ_ H'=>N' E (ys++[y]) H') I8 rfl (.cons r8 .nil) ⟨D,ys,y,rfl,rfl,hD,hl,q8⟩)) λ_ s9 ⟨_,H9,I9,_,q9⟩=>?_;exact again I9 (al _ _ _ q9)
end
end L2
end
section
namespace L2
open PySem PySem.Spec PyProof.Rows
def tCoD(Q:VK)(D:Addr):Hp->Prop:=λH2=>Q (.ref D) H2
def tCoA(g:TG)(tt:TT)(te:TE)(fr:List (Option Nat))(Z:St)(Q:VK)(J:It)(H1:Hp):Prop:=∀D,H1 D=none->gz J g tt te D (eI fr Z) H1 (tCoD Q D)
def tCoK(g:TG)(tt:TT)(te:TE)(fr:List (Option Nat))(Z:St)(Q:VK):It->Hp->Prop:=λJ H1=>tCoA g tt te fr Z Q J H1
def lQ(wi:TI)(g:TG)(tt:TT)(te:TE)(fr:List (Option Nat)):TE:=λZ H Q=>wi Z H (tCoK g tt te fr Z Q)
section
variable {N:List Str}{fr:List (Option Nat)}{elt tg iter:Expr}{ifs:List Expr}{pos:Pos}{wi:TI}{g:TG}{tt:TT}{te:TE}
def PComp(X:Cx)(N:List Str)(scope:Scope)(tg:Expr)(ifs:List Expr)(elt:Expr)(g:TG)(tt:TT)(te:TE):Prop:=
 ∀(C:Addr)(s:Shared)(H:Hp)(fp:List Addr)(Io:List (Addr×Obj)),PG (cY X N scope C s H fp Io) tg g/\PIf (cY X N scope C s H fp Io) ifs tt/\PE (cY X N scope C s H fp Io) elt te
theorem qi{l:Value}{Z_:Value->Addr->Result->Shared->Prop}{QQ:Addr->Hp->Prop}(S:dt X N fr scope)(L:X.calm=true)
  (c:PComp X N scope tg ifs elt g tt te) (h2:PIE X Io Z tg (λJ H1=>∀D,H1 D=none->gz J g tt te D (eI fr Z) H1 (QQ D)) l s)
  (M:∀D C s' H',Inv X Io Z H' s'->bS X Io H' C->(∃m,s'.heap.Ns C m)->QQ D H'->Z_ (.ref D) C (.ok .next) s') :
  wpAny (model X.prog X.w) X.A (newList []) (λacc O=>wpAny (model X.prog X.w) X.A (newFunctionEnv scope X.env.globals (cD X.env scope.names []) [] X.env.qual none .none (some X.env)) (λn P=>
   codeAny (model X.prog X.w) X.A (.compStart (.ListComp elt [⟨tg,iter,ifs,0⟩] scope pos) 0 l acc {n with scope:=relabel scope X.env}) (Z_ acc n.locals) P) E O) E s:=by
 obtain⟨it,fp,Q,J,H1,e,r,T,v,x,q⟩:=h2;subst e;have U:H1 s.heap.objs.size=none:=r.hok.fresh (ai _);have old:∀b∈fp,b<s.heap.objs.size:=λb c=>by
  obtain⟨o,e,_⟩:=T.obj _ _ v b c;exact aH e
 refine ff (Gu S.nocell (by intro y hy;simp at hy) (λh1 z i=>?_) S.kind);dsimp only at z i |-;have B:Inv X Io Z (upd H1 s.heap.objs.size (.lst [])) {s with heap:=s.heap.push {cls:=.type "list",dict:=none,data:=.seq ([]:List Value).toArray}}:=by refine r.laid (t':=s.toks) (λb u e=>aE _ e) (ai _) ?_;exact⟨aD _,[],_,.nil,a9 _ rfl⟩
 have d:∀b∈fp,bS X Io (upd H1 s.heap.objs.size (.lst [])) b:=λb c=>⟨by rw[aB (aU (old b c))];exact (x b c).1,(x b c).2⟩;have hsz:(s.heap.push {cls:=.type "list",dict:=none,data:=.seq ([]:List Value).toArray}).objs.size=s.heap.objs.size+1:=iO ..;have f:=qg (C:=(s.heap.push {cls:=.type "list",dict:=none,data:=.seq ([]:List Value).toArray}).objs.size) (h1:=h1) (t:=s.toks+([]:List (Str×Value)).length) (fp:=fp) S B d (ai _)
  (λb c=>by rw[hsz];exact aU (fc (old b c))) z λb o e=>i.extBut b o (aU (aH e)) (aE _ e)
 have H:Q 0 h1:=T.keep _ _ _ v λb c o e=>by
  have I:=aE {cls:=.type "list",dict:=none,data:=.seq ([]:List Value).toArray} e;exact i.extBut b o (aU (aH I)) (aE _ I)
 have f4:∀b∈fp,bS (cY X N scope (s.heap.push {cls:=.type "list",dict:=none,data:=.seq ([]:List Value).toArray}).objs.size {s with heap:=s.heap.push {cls:=.type "list",dict:=none,data:=.seq ([]:List Value).toArray}} (upd H1 s.heap.objs.size (.lst [])) fp Io) [] (upd H1 s.heap.objs.size (.lst [])) b:=λb c=>by
  refine⟨(d b c).1,(f.ok.exf b c).1,f.ok.exfs b c,.inl c,(f.ok.exf b c).2,λp h=>?_⟩;have h:p∈(X.pn++Io)++[]:=h;rw[List.append_nil] at h;exact (d b c).2.2.2.2.2 p h
 obtain⟨b1,b2,b3⟩:=c (s.heap.push {cls:=.type "list",dict:=none,data:=.seq ([]:List Value).toArray}).objs.size {s with heap:=s.heap.push {cls:=.type "list",dict:=none,data:=.seq ([]:List Value).toArray}} (upd H1 s.heap.objs.size (.lst [])) fp Io;have run:=AR (Y:=cY X N scope (s.heap.push {cls:=.type "list",dict:=none,data:=.seq ([]:List Value).toArray}).objs.size {s with heap:=s.heap.push {cls:=.type "list",dict:=none,data:=.seq ([]:List Value).toArray}} (upd H1 s.heap.objs.size (.lst [])) fp Io) (elt:=elt) (iter:=iter) (pos:=pos) (scope:=scope) (R:=Z_ (.ref s.heap.objs.size) (s.heap.push {cls:=.type "list",dict:=none,data:=.seq ([]:List Value).toArray}).objs.size) rfl L f T H f4 b1 b2 b3 (q _ U) λs' Z' H' K q'=>by
  obtain⟨J1,F1⟩:=rN B d (ai _) K;obtain⟨m,hm,_⟩:=K.loc;exact M _ _ s' H' J1 F1 ⟨m,hm⟩ q'
 exact codeAny_compStart_list run (T.self _ 0 _ _ _ H run)
theorem bY(S:dt X N fr scope)(d:X.calm=true)(hi:PI X tg iter wi)(c:PComp X N scope tg ifs elt g tt te)
  (f:∀x,foldedSetIterable iter X.env x=pure x:=by intro _;rfl):PE X (.ListComp elt [⟨tg,iter,ifs,0⟩] scope pos) (lQ wi g tt te fr):=by
 intro Io s Z H Q I h;rw[eval_ListComp];refine vM (use:=none) rfl f (mQ (S.cells I.ok)) S.kind S.names (thn (hi Io s Z H _ I h) λv s1 h1=>thn h1 λl s2 h2=>?_);refine qi (QQ:=λD H2=>Q (.ref D) H2) (Z_:=λacc C=>compPost (model X.prog X.w) X.A X.xe none (EP X Io Z Q) acc C) S d c h2 λD C s' H' J F hm q=>?_;obtain⟨m,hm⟩:=hm;refine⟨m,hm,λh' i=>⟨.ref D,H',?_,rfl,q⟩⟩;exact J.turned (t':=s'.toks) (λb o c e=>i.extBut b o c e) F.1 F.2.1 F.2.2.2.1 F.2.2.2.2.1 F.2.2.2.2.2
theorem nQ{i:Nat}{x:Str}{pos' spos:Pos}(S:dt X N fr scope)(hc:X.calm=true)(hi:PI X tg iter wi)(hb:PComp X N scope tg ifs elt g tt te)(hN:X.N.Nodup)(hx:X.N[i]?=some x)(hl:Loc X.env.scope x)
  (hsw:swapsWith (.ListComp elt [⟨tg,iter,ifs,0⟩] scope pos) (some (.Name x pos')) spos.line X.env=pure true:=by rfl)
  (hf:X.fn x=true\/X.env.scope.names.lookup x=some .local:=by first|exact .inl rfl|exact .inr rfl|assumption)
  (hs:∀x,foldedSetIterable iter X.env x=pure x:=by intro _;rfl):PS X (.Assign [.Name x pos'] (.ListComp elt [⟨tg,iter,ifs,0⟩] scope pos) spos) (kh (lQ wi g tt te fr) (bO i)):=by
 intro Io s Z H D I h;rw[exec_Assign_Name_used _ _ _ _ hsw];refine aa (mG (aa ?_));show wpAny _ _ (do let _ <-comprehension (.ListComp elt [⟨tg,iter,ifs,0⟩] scope pos) scope X.env _ (newList []) false (eval iter X.env) (some (assign (.Name x pos') X.env))) _ _ s;refine aa (thn (vM (use:=some (assign (.Name x pos') X.env)) (Q:=λ_ s'=>SP X Io D .next s') rfl hs (mQ (S.cells I.ok)) S.kind S.names (thn (hi Io s Z H _ I h) λv s1 h1=>thn h1 λitv s2 h2=>?_)) λ_ s' hq=>aj (aj hq));refine qi (QQ:=λd H2=>D.nx (Z.set i (some (.ref d))) H2) (Z_:=λacc C=>compPost (model X.prog X.w) X.A X.xe (some (assign (.Name x pos') X.env)) (λ_ s'=>SP X Io D .next s') acc C) S hc hb h2 λd C s' H' J F hm q=>?_;obtain⟨m,hm⟩:=hm;show wpAny _ _ (assign (.Name x pos') X.env (.ref d)) _ _ s';refine Gn (qq J hN hx hl (v:=.ref d) rfl (λs2 I2 ⟨a,sb,ha⟩=>?_) hf);have hCa:C≠a:=by
  rcases ha with e|e
  .rw[e];exact F.2.1
  exact λz=>F.2.2.2.2.1 x a e z.symm
 refine⟨m,hm.sameBut sb hCa,λh' hs'=>⟨_,H',?_,q⟩⟩;exact I2.turned (t':=s2.toks) (λb o hb e=>hs'.extBut b o hb e) F.1 F.2.1 F.2.2.2.1 F.2.2.2.2.1 F.2.2.2.2.2
end
section
variable {a D:Addr}{g:TG}{tt:TT}{te:TE}{Z':St}{H1:Hp}{Q:Hp->Prop}
theorem de(Pv:Nat->St->List V->Hp->Prop)(c:Pv 0 Z' [] (upd H1 D (.lst [])))(d:∀i Z ys H,i<=xs.length->Pv i Z ys H->SqL K H a xs)
  (f:∀i x Z ys H,xs[i]?=some x->Pv i Z ys H->g x Z H (kg tt te D ys (Pv (i+1))))
  (hd:∀Z ys H,Pv xs.length Z ys H->Q H):gz (Itl K a) g tt te D Z' H1 Q:=by
 refine⟨λi m Z ys H=>m=xs.length-i/\i<=xs.length/\Pv i Z ys H,⟨xs.length,by simp,aD _,c⟩,?_⟩;rintro i m Z ys H ⟨rfl,hi,p⟩;have q:=d i Z ys H hi p;by_cases b:i<xs.length
 .refine .inr ⟨⟨xs,xs[i],q,by simp[b]⟩,Pv (i+1),λZ' l H' h=>⟨xs.length-(i+1),by lia,rfl,b,h⟩,λx H' y=>?_⟩;obtain⟨e,y⟩:=y;subst e;exact f i x Z ys _ (y xs q) p
 have e:i=xs.length:=by lia
 subst e;exact .inl ⟨⟨xs,q,ai _⟩,hd Z ys H p⟩
theorem jm(Pv:Nat->St->List V->Hp->Prop)(c:Pv 0 Z' [] (upd H1 D (.lst [])))(d:∀i Z ys H,i<=xs.length->Pv i Z ys H->SqT K H a xs)
  (f:∀i x Z ys H,xs[i]?=some x->Pv i Z ys H->g x Z H (kg tt te D ys (Pv (i+1))))
  (hd:∀Z ys H,Pv xs.length Z ys H->Q H):gz (Itt K a) g tt te D Z' H1 Q:=by
 refine⟨λi m Z ys H=>m=xs.length-i/\i<=xs.length/\Pv i Z ys H,⟨xs.length,by simp,aD _,c⟩,?_⟩;rintro i m Z ys H ⟨rfl,hi,p⟩;have q:=d i Z ys H hi p;by_cases b:i<xs.length
 .refine .inr ⟨⟨xs,xs[i],q,by simp[b]⟩,Pv (i+1),λZ' l H' h=>⟨xs.length-(i+1),by lia,rfl,b,h⟩,λx H' y=>?_⟩;obtain⟨e,y⟩:=y;subst e;exact f i x Z ys _ (y xs q) p
 have e:i=xs.length:=by lia
 subst e;exact .inl ⟨⟨xs,q,ai _⟩,hd Z ys H p⟩
theorem qh{lo:Int}{n:Nat}(Pv:Nat->St->List V->Hp->Prop)(c:Pv 0 Z' [] (upd H1 D (.lst [])))
  (d:∀i Z ys H,i<n->Pv i Z ys H->g (.int (lo+i)) Z H (kg tt te D ys (Pv (i+1))))
  (hd:∀Z ys H,Pv n Z ys H->Q H):gz (Itr lo n) g tt te D Z' H1 Q:=by
 refine⟨λi m Z ys H=>m=n-i/\i<=n/\Pv i Z ys H,⟨n,by simp,aD _,c⟩,?_⟩;rintro i m Z ys H ⟨rfl,hi,p⟩;by_cases b:i<n
 .refine .inr ⟨b,Pv (i+1),λZ' h H' f=>⟨n-(i+1),by lia,rfl,b,f⟩,λx H' y=>?_⟩;obtain⟨e,y⟩:=y;subst e y;exact d i Z ys _ b p
 have e:i=n:=by lia
 subst e;exact .inl ⟨ai _,hd Z ys H p⟩
end
end L2
end
section
namespace TimS
open PySem PySem.W PyProof.Rows
theorem half{u w:Nat}(h:¬u ≥ w):u<=(u+w)/2/\(u+w)/2<w:=by lia
theorem half'{u w:Nat}(h:¬u ≥ w):u<=u+(w-u)/2/\u+(w-u)/2<w:=by lia
theorem fewer{u w k t m:Nat}(h:w-u<=k-t)(h1:m<w)(h2:u<=m):m-u<=k-(t+1):=by lia
theorem fewer'{u w k t m:Nat}(h:w-u<=k-t)(h1:m<w)(h2:u<=m):w-(m+1)<=k-(t+1):=by lia
abbrev SM:=StateT SortSt Sem
def gal:Bool->Keyed->Array Keyed->Nat->Nat->Nat->SM (Option Nat):=sortPriv% PySem.Builtin.gallop
def mlo:Array Keyed->Array Keyed->SM (Array Keyed):=sortPriv% PySem.Builtin.mergeLo
def mhi:Array Keyed->Array Keyed->SM (Array Keyed):=sortPriv% PySem.Builtin.mergeHi
def smg:Nat->SM Unit:=sortPriv% PySem.Builtin.setMinGallop
def bey(l:Bool)(q:Keyed)(v:Array Keyed)(o i:Nat):SM (Option Bool):=do
 let x <-elem' v (o+i)
 if l then lt' x q else return (<-lt' q x).map (!·)
theorem DM(l:Bool)(q:Keyed)(v:Array Keyed)(o n h:Nat):gal l q v o n h=(do
 let mut z:=0
 let mut c:=1
 let mut u:=0
 let mut w:=0
 let some r <-bey l q v o h|return none
 if r then
  let m:=n-h
  for _ in [0:n] do
   if c ≥ m then break
   let some g <-bey l q v o (h+c)|return none
   if !g then break
   z:=c
   c:=2*c+1
  u:=h+z+1
  w:=h+min c m
 else
  let m:=h+1
  for _ in [0:n] do
   if c ≥ m then break
   let some g <-bey l q v o (h-c)|return none
   if g then break
   z:=c
   c:=2*c+1
  u:=h+1-min c m
  w:=h-z
 for _ in [0:n] do
  if u ≥ w then break
  let m:=u+(w-u)/2
  let some g <-bey l q v o m|return none
  if g then u:=m+1 else w:=m
 return some w):=rfl
theorem Dr(x y:Array Keyed):mlo x y=(do
 rule "list.sort.merge-lo"
 let T:=x.size+y.size
 let fa (v:Array Keyed) (i j:Nat):=v++x.extract i x.size++y.extract j y.size
 let fb (v:Array Keyed) (i j:Nat):=v++y.extract j y.size++x.extract i x.size
 let mut v:Array Keyed:=#[<-elem' y 0]
 let mut i:=0
 let mut j:=1
 if j==y.size then return fa v i j
 if i+1==x.size then return fb v i j
 let mut g:=gallopOf (<-get)
 for _ in [0:T] do
  let mut c:=0
  let mut d:=0
  for _ in [0:T] do
   let some b <-lt' (<-elem' y j) (<-elem' x i)|return fa v i j
   if b then
    v:=v.push (<-elem' y j);j:=j+1;d:=d+1;c:=0
    if j==y.size then return fa v i j
    if d ≥ g then break
   else
    v:=v.push (<-elem' x i);i:=i+1;c:=c+1;d:=0
    if i+1==x.size then return fb v i j
    if c ≥ g then break
  rule "list.sort.gallop"
  g:=g+1
  for _ in [0:T] do
   if g>1 then g:=g-1
   smg g
   let some k <-gal false (<-elem' y j) x i (x.size-i) 0|return fa v i j
   c:=k
   if k>0 then
    v:=v++x.extract i (i+k);i:=i+k
    if i+1==x.size then return fb v i j
    if i==x.size then return fa v i j
   v:=v.push (<-elem' y j);j:=j+1
   if j==y.size then return fa v i j
   let some k <-gal true (<-elem' x i) y j (y.size-j) 0|return fa v i j
   d:=k
   if k>0 then
    v:=v++y.extract j (j+k);j:=j+k
    if j==y.size then return fa v i j
   v:=v.push (<-elem' x i);i:=i+1
   if i+1==x.size then return fb v i j
   if c<7&&d<7 then break
  g:=g+1
  smg g
 unsupported "internal:list.sort.merge-bound"):=rfl
def G(a:Array Keyed)(i:Nat):Keyed:=a.getD i (Value.none,Value.none)
structure Cmp(M:Model)(A:Around)(E:Value->Shared->Prop)(s:Shared)(κ:SortKind)(N:Keyed->Prop)(lt:Keyed->Keyed->Bool):Prop where
 asym:∀x y,lt x y=true->lt y x=false
 tr:∀x y z,lt y x=false->lt z y=false->lt z x=false
 ask:∀{x y:Keyed}{st:SortSt}{Q:Option Bool->SortSt->Prop},N x->N y->kindOf st=κ->Q (some (lt x y)) st->wpS M A E s (lt' x y) Q st
section
variable {M:Model}{κ:SortKind}{N:Keyed->Prop}{lt:Keyed->Keyed->Bool}
theorem lY{a:Array Keyed}{i:Nat}(h:i<a.size):a[i]?=some (G a i):=by simp[G,Array.getD,h]
theorem aQ{α:Type}{c:Prop}[Decidable c]{t e:StateT SortSt Sem α}{Q:α->SortSt->Prop}{st:SortSt}(h:c)(q:wpS M A E s t Q st):wpS M A E s (if c then t else e) Q st:=by rw[Ij h];exact q
theorem aN{α:Type}{c:Prop}[Decidable c]{t e:StateT SortSt Sem α}{Q:α->SortSt->Prop}{st:SortSt}(h:¬c)(q:wpS M A E s e Q st):wpS M A E s (if c then t else e) Q st:=by rw[Ii h];exact q
theorem bP{a:Array Keyed}{i:Nat}{Q:Keyed->SortSt->Prop}{st:SortSt}(h:i<a.size)(q:Q (G a i) st):wpS M A E s (elem' a i) Q st:=by rw[elem'_eq,lY h];exact av q
theorem Cmp.refl(C:Cmp M A E s κ N lt)(x:Keyed):lt x x=false:=by
 cases h:lt x x with
 |false=>rfl
 |true=>have z:=C.asym x x h;rw[h] at z;cases z
theorem Cmp.ltle(C:Cmp M A E s κ N lt){x y z:Keyed}(h:lt x y=true)(h2:lt z y=false):lt x z=true:=by
 cases q:lt x z with
 |true=>rfl
 |false=>have:=C.tr _ _ _ h2 q;rw[h] at this;cases this
theorem Cmp.lelt(C:Cmp M A E s κ N lt){x y z:Keyed}(h:lt y x=false)(h2:lt y z=true):lt x z=true:=by
 cases q:lt x z with
 |true=>rfl
 |false=>have:=C.tr _ _ _ q h;rw[h2] at this;cases this
theorem ie{x:String}{Q:Unit->SortSt->Prop}{st:SortSt}(h:Q () st):wpS M A E s (liftM (rule x):SM Unit) Q st:=wpS_lift (wpAny_rule ⟨rfl,h⟩)
def bv(lt:Keyed->Keyed->Bool)(l:Bool)(q:Keyed)(v:Array Keyed)(o i:Nat):Bool:=if l then lt (G v (o+i)) q else !lt q (G v (o+i))
theorem iq(C:Cmp M A E s κ N lt){l:Bool}{q:Keyed}{v:Array Keyed}{o i:Nat}{st:SortSt}{Q:Option Bool->SortSt->Prop}(b:∀i,i<v.size->N (G v i))(c:N q)(hi:o+i<v.size)(d:kindOf st=κ)(h:Q (some (bv lt l q v o i)) st):wpS M A E s (bey l q v o i) Q st:=by
 unfold bey;refine aq (bP hi ?_);cases l with
 |true=>exact C.ask (b _ hi) c d h
 |false=>exact aq (C.ask c (b _ hi) d (av h))
theorem ip{l:Bool}{q:Keyed}{v:Array Keyed}{o n h:Nat}{st:SortSt}{Q:Option Nat->SortSt->Prop}(b:Nat->Bool)(hb:∀i,i<n->∀Q:Option Bool->SortSt->Prop,Q (some (b i)) st->wpS M A E s (bey l q v o i) Q st)
  (mo:∀i j,i<=j->j<n->b j=true->b i=true) (hh:h<n) (hQ:∀k,k<=n->(∀i,i<k->b i=true)->(∀i,k<=i->i<n->b i=false)->Q (some k) st):wpS M A E s (gal l q v o n h) Q st:=by
 have mf:∀i j,i<=j->j<n->b i=false->b j=false:=λi j a c d=>by
  cases e:b j with
  |false=>rfl
  |true=>rw[mo i j a c e] at d;cases d
 have tail:∀(u w:Nat),u<=w->w<=n->(∀i,i<u->b i=true)->(∀i,w<=i->i<n->b i=false)->wpS M A E s (do
   let mut u:=u
   let mut w:=w
   for _ in [0:n] do
    if u ≥ w then break
    let m:=u+(w-u)/2
    let some g <-bey l q v o m|return none
    if g then u:=m+1 else w:=m
   return some w) Q st:=by
  intro u w h1 h2 h3 h4;dsimp only;refine aq (c_ (cV (I:=λi x st'=>st'=st/\x.1=none/\x.2.1<=x.2.2/\x.2.2<=n/\x.2.2-x.2.1<=n-i/\(∀i,i<x.2.1->b i=true)/\(∀i,x.2.2<=i->i<n->b i=false)) (Q:=λx st'=>st'=st/\x.1=none/\x.2.1=x.2.2/\x.2.2<=n/\(∀i,i<x.2.1->b i=true)/\(∀i,x.2.2<=i->i<n->b i=false)) ?step ?fin ⟨rfl,rfl,h1,h2,by show w-u<=n-0;lia,h3,h4⟩) ?post)
  case fin=>
   rintro⟨r,u,w⟩ st' ⟨rfl,e,a1,a2,a3,a4,a5⟩;have a1:u<=w:=a1;have a3:w-u<=n-max 0 n:=a3;exact⟨rfl,e,by show u=w;lia,a2,a4,a5⟩
  case step=>
   rintro i ⟨r,u,w⟩ st' _ hi ⟨rfl,e,a1,a2,a3,a4,a5⟩;have a1:u<=w:=a1;have a2:w<=n:=a2;have a3:w-u<=n-i:=a3;have a4:∀i,i<u->b i=true:=a4;have a5:∀i,w<=i->i<n->b i=false:=a5;dsimp only;by_cases c:u ≥ w
   .refine aQ c ?_;exact av ⟨rfl,rfl,by show u=w;lia,a2,a4,a5⟩
   refine aN c ?_;obtain⟨m1,m2⟩:=half' c;generalize u+(w-u)/2=m at m1 m2 |-;refine aq (hb _ (bL m2 a2) _ ?_);dsimp only;cases hm:b m with
   |true=>
    refine aQ rfl ?_;exact av ⟨rfl,rfl,m2,a2,fewer' a3 m2 m1,λk hk=>mo k m (Fv hk) (bL m2 a2) hm,a5⟩
   |false=>
    refine aN (by decide) ?_;exact av ⟨rfl,rfl,m1,kq (bL m2 a2),fewer a3 m2 m1,a4,λk hk h'=>mf _ k hk h' hm⟩
  case post=>
   rintro⟨r,u,w⟩ st' ⟨rfl,e,a1,a2,a3,a4⟩;have e:r=none:=e;cases e;cases (show u=w from a1);exact av (hQ u a2 a3 a4)
 rw[DM];dsimp only;refine aq (hb h hh _ ?_);dsimp only;cases b0:b h with
 |true=>
  refine aQ rfl ?_;refine aq (c_ (cV (β:=Option (Option Nat)×Nat×Nat) (I:=λi x st'=>st'=st/\x.1=none/\b (h+x.2.1)=true/\h+x.2.1<n/\x.2.1<x.2.2/\i<x.2.2) (Q:=λx st'=>st'=st/\x.1=none/\b (h+x.2.1)=true/\h+x.2.1<n/\x.2.1<x.2.2/\(x.2.2 ≥ n-h\/b (h+x.2.2)=false)) ?s1 ?f1 ⟨rfl,rfl,b0,hh,eg 0,eg 0⟩) ?p1)
  case f1=>
   rintro⟨r,z,c⟩ st' ⟨rfl,e,a1,a2,a3,a4⟩;have a4:max 0 n<c:=a4;exact⟨rfl,e,a1,a2,a3,.inl (by show c ≥ n-h;lia)⟩
  case s1=>
   rintro i ⟨r,z,c⟩ st' _ hi ⟨rfl,e,a1,a2,a3,a4⟩;have a1:b (h+z)=true:=a1;have a2:h+z<n:=a2;have a3:z<c:=a3;have a4:i<c:=a4;dsimp only;by_cases c1:c ≥ n-h
   .exact aQ c1 (av ⟨rfl,rfl,a1,a2,a3,.inl c1⟩)
   refine aN c1 ?_;refine aq (hb _ (by lia) _ ?_);dsimp only;cases hm:b (h+c) with
   |true=>
    refine aN (by decide) ?_;exact av ⟨rfl,rfl,hm,by show h+c<n;lia,by show c<2*c+1;lia,by show i+1<2*c+1;lia⟩
   |false=>
    refine aQ (by decide) ?_;exact av ⟨rfl,rfl,a1,a2,a3,.inr hm⟩
  case p1=>
   rintro⟨r,z,c⟩ st' ⟨rfl,e,a1,a2,a3,a4⟩;have e:r=none:=e;subst e;have a1:b (h+z)=true:=a1;have a2:h+z<n:=a2;have a3:z<c:=a3;have a4:c ≥ n-h\/b (h+c)=false:=a4;dsimp only;refine tail (h+z+1) (h+min c (n-h)) (by lia) (by lia) (λi hi=>mo i (h+z) (by lia) a2 a1) (λi hi hn=>?_);rcases a4 with a4|a4
   .lia
   by_cases c1:c ≥ n-h
   .lia
   exact mf (h+c) i (by lia) hn a4
 |false=>
  refine aN (by decide) ?_;refine aq (c_ (cV (β:=Option (Option Nat)×Nat×Nat) (I:=λi x st'=>st'=st/\x.1=none/\b (h-x.2.1)=false/\x.2.1<=h/\x.2.1<x.2.2/\i<x.2.2) (Q:=λx st'=>st'=st/\x.1=none/\b (h-x.2.1)=false/\x.2.1<=h/\x.2.1<x.2.2/\(x.2.2 ≥ h+1\/b (h-x.2.2)=true)) ?s2 ?f2 ⟨rfl,rfl,b0,aD _,eg 0,eg 0⟩) ?p2)
  case f2=>
   rintro⟨r,z,c⟩ st' ⟨rfl,e,a1,a2,a3,a4⟩;have a4:max 0 n<c:=a4;exact⟨rfl,e,a1,a2,a3,.inl (by show c ≥ h+1;lia)⟩
  case s2=>
   rintro i ⟨r,z,c⟩ st' _ hi ⟨rfl,e,a1,a2,a3,a4⟩;have a1:b (h-z)=false:=a1;have a2:z<=h:=a2;have a3:z<c:=a3;have a4:i<c:=a4;dsimp only;by_cases c1:c ≥ h+1
   .exact aQ c1 (av ⟨rfl,rfl,a1,a2,a3,.inl c1⟩)
   refine aN c1 ?_;refine aq (hb _ (by lia) _ ?_);dsimp only;cases hm:b (h-c) with
   |true=>
    refine aQ rfl ?_;exact av ⟨rfl,rfl,a1,a2,a3,.inr hm⟩
   |false=>
    refine aN (by decide) ?_;exact av ⟨rfl,rfl,hm,by show c<=h;lia,by show c<2*c+1;lia,by show i+1<2*c+1;lia⟩
  case p2=>
   rintro⟨r,z,c⟩ st' ⟨rfl,e,a1,a2,a3,a4⟩;have e:r=none:=e;subst e;have a1:b (h-z)=false:=a1;have a2:z<=h:=a2;have a3:z<c:=a3;have a4:c ≥ h+1\/b (h-c)=true:=a4;dsimp only;refine tail (h+1-min c (h+1)) (h-z) (by lia) (by lia) (λi hi=>?_) (λi hi hn=>mf (h-z) i (by lia) hn a1);rcases a4 with a4|a4
   .lia
   by_cases c1:c ≥ h+1
   .lia
   exact mo i (h-c) (by lia) (by lia) a4
end
theorem Ds(x y:Array Keyed):mhi x y=(do
 rule "list.sort.merge-hi"
 let T:=x.size+y.size
 let fa (v:Array Keyed) (i j:Nat):=x.extract 0 i++y.extract 0 j++v.reverse
 let fb (v:Array Keyed) (i j:Nat):=y.extract 0 j++x.extract 0 i++v.reverse
 let mut i:=x.size-1
 let mut j:=y.size
 let mut v:Array Keyed:=#[<-elem' x i]
 if i==0 then return fa v i j
 if j==1 then return fb v i j
 let mut g:=gallopOf (<-get)
 for _ in [0:T] do
  let mut c:=0
  let mut d:=0
  for _ in [0:T] do
   let some b <-lt' (<-elem' y (j-1)) (<-elem' x (i-1))|return fa v i j
   if b then
    i:=i-1;v:=v.push (<-elem' x i);c:=c+1;d:=0
    if i==0 then return fa v i j
    if c ≥ g then break
   else
    j:=j-1;v:=v.push (<-elem' y j);d:=d+1;c:=0
    if j==1 then return fb v i j
    if d ≥ g then break
  rule "list.sort.gallop"
  g:=g+1
  for _ in [0:T] do
   if g>1 then g:=g-1
   smg g
   let some p <-gal false (<-elem' y (j-1)) x 0 i (i-1)|return fa v i j
   let k:=i-p
   c:=k
   if k>0 then
    v:=v++(x.extract p i).reverse;i:=p
    if i==0 then return fa v i j
   j:=j-1;v:=v.push (<-elem' y j)
   if j==1 then return fb v i j
   let some p <-gal true (<-elem' x (i-1)) y 0 j (j-1)|return fa v i j
   let k:=j-p
   d:=k
   if k>0 then
    v:=v++(y.extract p j).reverse;j:=p
    if j==1 then return fb v i j
    if j==0 then return fa v i j
   i:=i-1;v:=v.push (<-elem' x i)
   if i==0 then return fa v i j
   if c<7&&d<7 then break
  g:=g+1
  smg g
 unsupported "internal:list.sort.merge-bound"):=rfl
theorem CU(g:Nat):smg g=modify λs=>SortSt.mk' (kindOf s) (arrOf s) (pendingOf s) g (failedOf s):=rfl
theorem Dv(i:Nat):mergeAt' i=(do
 let s <-get
 let (some (p,m,e),some (q,n,_)):=((pendingOf s)[i]?,(pendingOf s)[i+1]?)|unsupported "internal:list.sort.pending"
 set (setPending s (((pendingOf s).setIfInBounds i (p,m+n,e)).eraseIdxIfInBounds (i+1)))
 let some k <-gal false (<-elem' (arrOf s) q) (arrOf s) p m 0|return false
 let (p,m):=(p+k,m-k)
 if m==0 then return true
 let some n <-gal true (<-elem' (arrOf s) (p+m-1)) (arrOf s) q n (n-1)|return false
 if n==0 then return true
 let x:=(arrOf s).extract p q
 let y:=(arrOf s).extract q (q+n)
 let r <-if m<=n then mlo x y else mhi x y
 modify λs=>setArr s (r.toList.zipIdx.foldl (λa (z,j)=>a.setIfInBounds (p+j) z) (arrOf s))
 return (failedOf (<-get)).isNone):=rfl
section
variable {M:Model}{κ:SortKind}{N:Keyed->Prop}{lt:Keyed->Keyed->Bool}
def Asc(lt:Keyed->Keyed->Bool)(x:Array Keyed):Prop:=∀i j,i<=j->j<x.size->lt (G x j) (G x i)=false
def Srt(lt:Keyed->Keyed->Bool)(l:List Keyed):Prop:=l.Pairwise λa b=>lt b a=false
structure MI(lt:Keyed->Keyed->Bool)(x y v:Array Keyed)(i j:Nat):Prop where
 ix:i<=x.size
 jy:j<=y.size
 pm:v.toList.Perm (x.toList.take i++y.toList.take j)
 so:Srt lt v.toList
 bx:∀a∈v.toList,∀k,i<=k->k<x.size->lt (G x k) a=false
 by_:∀a∈v.toList,∀k,j<=k->k<y.size->lt (G y k) a=false
def Good(lt:Keyed->Keyed->Bool)(x y v:Array Keyed):Prop:=v.toList.Perm (x.toList++y.toList)/\Srt lt v.toList
theorem MI.sw{x y v:Array Keyed}{i j:Nat}(h:MI lt x y v i j):MI lt y x v j i:=⟨h.jy,h.ix,h.pm.trans List.perm_append_comm,h.so,h.by_,h.bx⟩
theorem Cz{x:Array Keyed}{i:Nat}(h:i<x.size):x.toList.take (i+1)=x.toList.take i++[G x i]:=by rw[List.take_add_one,eV,lY h];rfl
theorem MI.push{x y v:Array Keyed}{i j:Nat}(c:Asc lt x)(h:MI lt x y v i j)(hi:i<x.size)(d:∀k,j<=k->k<y.size->lt (G y k) (G x i)=false):MI lt x y (v.push (G x i)) (i+1) j:=by
 refine⟨hi,h.jy,?_,?_,λa ha k h1 h2=>?_,λa ha k h1 h2=>?_⟩
 .rw[eY,Cz hi,List.append_assoc];refine (h.pm.append_right _).trans ?_;rw[List.append_assoc];exact List.Perm.append_left _ List.perm_append_comm
 .unfold Srt;rw[eY,List.pairwise_append];refine⟨h.so,List.pairwise_singleton _ _,λa ha b e=>?_⟩;rw[List.mem_singleton.mp e];exact h.bx a ha i (ai _) hi
 .rw[eY] at ha;rcases List.mem_append.mp ha with ha|ha
  .exact h.bx a ha k (by lia) h2
  rw[List.mem_singleton.mp ha];exact c i k (by lia) h2
 rw[eY] at ha;rcases List.mem_append.mp ha with ha|ha
 .exact h.by_ a ha k h1 h2
 rw[List.mem_singleton.mp ha];exact d k h1 h2
theorem uR{x v:Array Keyed}{i k:Nat}(h:i+k<x.size):v++x.extract i (i+(k+1))=(v++x.extract i (i+k)).push (G x (i+k)):=by
 apply ko.mp;rw[eY,Fj,Fj,oU,oU,List.extract_eq_take_drop,List.extract_eq_take_drop,List.append_assoc]
 congr 1
 rw[show i+(k+1)-i=k+1 by lia,show i+k-i=k by lia,List.take_add_one,List.getElem?_drop,eV,lY h];rfl
theorem MI.chunk{x y v:Array Keyed}{i j:Nat}(c:Asc lt x)(h:MI lt x y v i j):∀(k:Nat),i+k<=x.size->(∀m,m<k->∀b,j<=b->b<y.size->lt (G y b) (G x (i+m))=false)->MI lt x y (v++x.extract i (i+k)) (i+k) j
 |0,_,_=>by
  have e:v++x.extract i (i+0)=v:=by apply ko.mp;simp
  rw[e];exact h
 |k+1,d,hm=>by
  rw[uR (by lia)];exact (MI.chunk c h k (by lia) λm f=>hm m (by lia)).push c (by lia) (hm k (eg _))
theorem MI.fin{x y v:Array Keyed}(h:MI lt x y v x.size y.size):Good lt x y v:=by
 refine⟨?_,h.so⟩;have:=h.pm
 rwa [List.take_of_length_le (by simp),List.take_of_length_le (by simp)] at this
theorem MI.fa{x y v:Array Keyed}{i j:Nat}(d:Asc lt x)(e:Asc lt y)(h:MI lt x y v i j)(f:∀m,i<=m->m<x.size->∀k,j<=k->k<y.size->lt (G y k) (G x m)=false):Good lt x y (v++x.extract i x.size++y.extract j y.size):=by have hi:=h.ix;have g:=h.jy;have b:=MI.chunk d h (x.size-i) (by lia) λm hm k h1 h2=>f _ (by lia) (by lia) k h1 h2;rw[show i+(x.size-i)=x.size by lia] at b;have c:=MI.chunk e b.sw (y.size-j) (by lia) λm hm k h1 h2=>absurd h1 (by lia);rw[show j+(y.size-j)=y.size by lia] at c;exact c.sw.fin
theorem Good.sw{x y v:Array Keyed}(h:Good lt y x v):Good lt x y v:=⟨h.1.trans List.perm_append_comm,h.2⟩
def Fr(st b:SortSt):Prop:=kindOf b=kindOf st/\arrOf b=arrOf st/\pendingOf b=pendingOf st/\failedOf b=failedOf st
theorem lp{g:Nat}{st b:SortSt}{Q:Unit->SortSt->Prop}(f:Fr st b)(h:∀c,Fr st c->Q () c):wpS M A E s (smg g) Q b:=by rw[CU];exact fV (h _ f)
structure J(lt:Keyed->Keyed->Bool)(x y:Array Keyed)(st:SortSt)(lo:Nat)(r:Option (Array Keyed))(v:Array Keyed)(i j:Nat)(st':SortSt):Prop where
 f:Fr st st'
 yes:∀a,r=some a->Good lt x y a
 no:r=none->MI lt x y v i j/\i+1<x.size/\j<y.size/\lo<=i+j
theorem J.on{x y:Array Keyed}{st b:SortSt}{lo i j:Nat}{v:Array Keyed}(f:Fr st b)(h:MI lt x y v i j)(hi:i+1<x.size)(c:j<y.size)(d:lo<=i+j):J lt x y st lo none v i j b:=⟨f,λ_ z=>(nomatch z),λ_=>⟨h,hi,c,d⟩⟩
theorem J.end_{x y:Array Keyed}{st b:SortSt}{lo i j:Nat}{v a:Array Keyed}(f:Fr st b)(h:Good lt x y a):J lt x y st lo (some a) v i j b:=⟨f,λ_ z=>cq z ▸ h,λz=>(nomatch z)⟩
theorem Cp(C:Cmp M A E s κ N lt){x y:Array Keyed}{st:SortSt}{Q:Array Keyed->SortSt->Prop}(hk:kindOf st=κ)(Nx:∀i,i<x.size->N (G x i))(Ny:∀i,i<y.size->N (G y i))(H:Asc lt x)(K:Asc lt y)(h0:0<x.size)(h1:0<y.size)
  (hb:lt (G y 0) (G x 0)=true) (hl:∀j,j<y.size->lt (G y j) (G x (x.size-1))=true) (q:∀r l,Fr st l->Good lt x y r->Q r l):wpS M A E s (mlo x y) Q st:=by
 have m0:MI lt x y #[G y 0] 0 1:=by have z:MI lt y x #[] 0 0:=⟨aD _,aD _,by simp,List.Pairwise.nil,by simp,by simp⟩;exact (z.push K h1 λk _ ab=>C.tr _ _ _ (C.asym _ _ hb) (H 0 k (aD _) ab)).sw
 have fa:∀{v:Array Keyed}{i j:Nat},MI lt x y v i j->j=y.size\/i=x.size->Good lt x y (v++x.extract i x.size++y.extract j y.size):=λ{v i j} m e=>m.fa H K λa h2 u b h4 h5=>absurd e (by lia);have fb:∀{v:Array Keyed}{i j:Nat},MI lt x y v i j->i+1=x.size->Good lt x y (v++y.extract j y.size++x.extract i x.size):=λ{v i j} m e=>(m.sw.fa K H λa h2 u b h4 h5=>by
  rw[show b=x.size-1 by lia];exact C.asym _ _ (hl a u)).sw
 have L:∀{a b:Nat},(a==b)=true->a=b:=λh=>by simpa using h
 have O:∀{a b:Nat},¬(a==b)=true->a≠b:=λh=>by simpa using h
 rw[Dr];dsimp only;refine aq (ie (aq (bP h1 ?_)));by_cases e1:(1==y.size)=true
 .exact aQ e1 (av (q _ _ ⟨rfl,rfl,rfl,rfl⟩ (fa m0 (.inl (L e1)))))
 refine aN e1 ?_;by_cases e2:(0+1==x.size)=true
 .exact aQ e2 (av (q _ _ ⟨rfl,rfl,rfl,rfl⟩ (fb m0 (L e2))))
 refine aN e2 ?_;have e1:=O e1;have e2:=O e2;have j0:=J.on (lo:=0) (show Fr st st from ⟨rfl,rfl,rfl,rfl⟩) m0 (by lia) (by lia) (aD _);refine aq (fg (aq (c_ (cV (β:=Option (Array Keyed)×Array Keyed×Nat×Nat×Nat) (I:=λt z l=>z.1=none/\J lt x y st t none z.2.1 z.2.2.1 z.2.2.2.1 l) (Q:=λz l=>J lt x y st (x.size+y.size) z.1 z.2.1 z.2.2.1 z.2.2.2.1 l) ?step ?fin ⟨rfl,j0⟩) ?post)))
 case fin=>
  rintro⟨r,v,i,j,g⟩ l ⟨e,h⟩;have e:r=none:=e;subst e;exact⟨h.f,h.yes,λz=>by
   obtain⟨a1,w,n,B⟩:=h.no z;exact⟨a1,w,n,by rw[ph (aD _)] at B;exact B⟩⟩
 case post=>
  rintro⟨r,v,i,j,g⟩ l h;cases r with
  |some r=>exact av (q _ _ h.f (h.yes _ rfl))
  |none=>
   obtain⟨_,w,n,B⟩:=h.no rfl;have w:i+1<x.size:=w;have n:j<y.size:=n;have B:x.size+y.size<=i+j:=B;lia
 case step=>
  rintro t ⟨r,v,i,j,g⟩ bg _ ht ⟨e,h⟩;have e:r=none:=e;subst e;dsimp only at h |-;refine aq (c_ (cV (β:=Option (Array Keyed)×Array Keyed×Nat×Nat×Nat×Nat) (I:=λk z l=>z.1=none/\J lt x y st (t+k) none z.2.1 z.2.2.1 z.2.2.2.1 l) (Q:=λz l=>J lt x y st (t+1) z.1 z.2.1 z.2.2.1 z.2.2.2.1 l) ?s1 ?f1 ⟨rfl,h⟩) ?p1)
  case f1=>
   rintro⟨r,v,i,j,c,d⟩ l ⟨e,h⟩;have e:r=none:=e;subst e;exact⟨h.f,h.yes,λz=>by
    obtain⟨a1,w,n,B⟩:=h.no z;exact⟨a1,w,n,by rw[ph (aD _)] at B;lia⟩⟩
  case s1=>
   rintro k ⟨r,v,i,j,c,d⟩ l _ ab ⟨e,h⟩;obtain⟨m,w,n,B⟩:=h.no rfl;have f:=h.f;clear h e;dsimp only at m w n B |-;refine aq (bP n (aq (bP (by lia) (aq (C.ask (Ny _ n) (Nx _ (by lia)) (f.1.trans hk) ?_)))));dsimp only;cases hc:lt (G y j) (G x i) with
   |true=>
    refine aQ rfl ?_;have S:=(m.sw.push K n λk h2 u=>C.tr _ _ _ (C.asym _ _ hc) (H i k h2 u)).sw;refine aq (bP n ?_)
    split
    .rename_i e;exact av (J.end_ f (fa S (.inl (L e))))
    rename_i e;have e:=O e;have T:=J.on (lo:=t+1) f S w (by lia) (by lia);have Z:=J.on (lo:=t+(k+1)) f S w (by lia) (by lia)
    split
    .exact av T
    exact av ⟨rfl,Z⟩
   |false=>
    refine aN (by decide) ?_;have S:=m.push H (by lia) λk h2 u=>C.tr _ _ _ hc (K j k h2 u);refine aq (bP (by lia) ?_)
    split
    .rename_i e;exact av (J.end_ f (fb S (L e)))
    rename_i e;have e:=O e;have T:=J.on (lo:=t+1) f S (by lia) n (by lia);have Z:=J.on (lo:=t+(k+1)) f S (by lia) n (by lia)
    split
    .exact av T
    exact av ⟨rfl,Z⟩
  case p1=>
   rintro⟨r,v,i,j,c,d⟩ l h;cases r with
   |some r=>exact av ⟨h.f,h.yes,λz=>nomatch z⟩
   |none=>
   dsimp only at h |-;refine aq (ie (aq (c_ (cV (β:=Option (Array Keyed)×Array Keyed×Nat×Nat×Nat×Nat×Nat) (I:=λk z l=>z.1=none/\J lt x y st (t+1) none z.2.1 z.2.2.1 z.2.2.2.1 l) (Q:=λz l=>J lt x y st (t+1) z.1 z.2.1 z.2.2.1 z.2.2.2.1 l) ?s2 ?f2 ⟨rfl,h⟩) ?p2)))
   case f2=>
    rintro⟨r,v,i,j,g,c,d⟩ l ⟨e,h⟩;have e:r=none:=e;subst e;exact h
   case p2=>
    rintro⟨r,v,i,j,g,c,d⟩ l h;cases r with
    |some r=>exact av ⟨h.f,h.yes,λz=>nomatch z⟩
    |none=>exact aq (lp h.f λbi f'=>av ⟨rfl,f',λ_ z=>(nomatch z),h.no⟩)
   case s2=>
    rintro k ⟨r,v,i,j,g,c,d⟩ bl _ ab ⟨e,h⟩;obtain⟨m,w,n,B⟩:=h.no rfl;have f:=h.f;clear h e;dsimp only at m w n B |-;have tl:∀{o:Nat},bv lt false (G y j) x i o=true->lt (G y j) (G x (i+o))=false:=λh=>by simpa [bv] using h
    have fl:∀{o:Nat},bv lt false (G y j) x i o=false->lt (G y j) (G x (i+o))=true:=λh=>by simpa [bv] using h
    by_cases hg:g>1;refine aQ hg ?_
    rotate_left
    refine aN hg ?_
    all_goals
     refine aq (lp f λbm P=>aq (bP n (aq (ip (bv lt false (G y j) x i) (λo U Q' q'=>iq C Nx (Ny _ n) (by lia) (P.1.trans hk) q') (λo p U hp ad=>?_) (by lia) λk bn a5 bb=>?_))))
     .cases hc:lt (G y j) (G x (i+o)) with
      |false=>show (!lt _ _)=true;rw[hc];rfl
      |true=>have:=C.ltle hc (H (i+o) (i+p) (by lia) (by lia));rw[tl ad] at this;cases this
     dsimp only;have R:=m.chunk H k (by lia) λo U D h2 u=>C.tr _ _ _ (tl (a5 o U)) (K j D h2 u);have al:i+k<x.size->lt (G y j) (G x (i+k))=true:=λz=>fl (bb k (ai _) (by lia));have i0:t+1<=i+k+j:=by lia
     by_cases an:k>0;refine aQ an ?_;by_cases c1:(i+k+1==x.size)=true
     .exact aQ c1 (av (J.end_ P (fb R (L c1))))
     refine aN c1 ?_;by_cases c2:(i+k==x.size)=true
     .exact aQ c2 (av (J.end_ P (fa R (.inr (L c2)))))
     refine aN c2 ?_;have c1:=O c1;have c2:=O c2;have b2:i+k+1<x.size:=by lia
     have n1:=al (by lia);generalize i+k=X at R b2 n1 i0 |-;generalize v++x.extract i X=v1 at R |-
     rotate_left
     refine aN an ?_;have b2:=w;have n1:=al (by lia);have R:=m;have i0:=B;rw[show i+k=i by lia] at n1;clear al;generalize i=X at R b2 n1 i0 |-;generalize v=v1 at R |-
     all_goals
      have m2:=(R.sw.push K n λk h2 u=>C.tr _ _ _ (C.asym _ _ n1) (H X k h2 u)).sw;refine aq (bP n ?_);by_cases c3:(j+1==y.size)=true
      .exact aQ c3 (av (J.end_ P (fa m2 (.inl (L c3)))))
      refine aN c3 ?_;have c3:=O c3;refine aq (bP (by lia) (aq (ip (bv lt true (G x X) y (j+1)) (λo U Q' q'=>iq C Ny (Nx _ (by lia)) (by lia) (P.1.trans hk) q') (λo p U hp ad=>C.lelt (K _ _ (by lia) (by lia)) ad) (by lia) λD bd ap aM=>?_)));dsimp only;have Y:=(m2.sw.chunk K D (by lia) λo U be h2 u=>C.tr _ _ _ (C.asym _ _ (ap o U)) (H X be h2 u)).sw;have am:j+1+D<y.size->lt (G y (j+1+D)) (G x X)=false:=λz=>aM D (ai _) (by lia);have j0:j<=j+1+D:=by lia
      by_cases a0:D>0;refine aQ a0 ?_;by_cases c4:(j+1+D==y.size)=true
      .exact aQ c4 (av (J.end_ P (fa Y (.inl (L c4)))))
      refine aN c4 ?_;have c4:=O c4;have b3:j+1+D<y.size:=by lia
      have n2:=am b3;generalize j+1+D=T at Y b3 n2 j0 |-;generalize v1.push (G y j)++y.extract (j+1) T=v3 at Y |-
      rotate_left
      refine aN a0 ?_;have b3:j+1<y.size:=by lia
      have n2:=am (by lia);have Y:=m2;have j0:j<=j+1:=iP _;rw[show j+1+D=j+1 by lia] at n2;clear am bd ap aM c3;generalize j+1=T at Y b3 n2 j0 |-;generalize v1.push (G y j)=v3 at Y |-
      all_goals
       have m4:=Y.push H (by lia) λk h2 u=>C.tr _ _ _ n2 (K T k h2 u);refine aq (bP (by lia) ?_);by_cases c5:(X+1+1==x.size)=true
       .exact aQ c5 (av (J.end_ P (fb m4 (L c5))))
       refine aN c5 ?_;have c5:=O c5;have Z:=J.on (lo:=t+1) P m4 (by lia) b3 (by lia)
       split
       .exact av Z
       exact av ⟨rfl,Z⟩
end
section
variable {M:Model}{κ:SortKind}{N:Keyed->Prop}{lt:Keyed->Keyed->Bool}
structure HI(lt:Keyed->Keyed->Bool)(x y v:Array Keyed)(i j:Nat):Prop where
 ix:i<=x.size
 jy:j<=y.size
 pm:v.toList.Perm (x.toList.drop i++y.toList.drop j)
 so:v.toList.Pairwise λa b=>lt a b=false
 bx:∀a∈v.toList,∀k,k<i->lt a (G x k)=false
 by_:∀a∈v.toList,∀k,k<j->lt a (G y k)=false
theorem HI.sw{x y v:Array Keyed}{i j:Nat}(h:HI lt x y v i j):HI lt y x v j i:=⟨h.jy,h.ix,h.pm.trans List.perm_append_comm,h.so,h.by_,h.bx⟩
theorem DR{x:Array Keyed}{i:Nat}(h:i<x.size):x.toList.drop i=G x i::x.toList.drop (i+1):=by rw[List.drop_eq_getElem_cons (by simpa using h)];simp[G,h]
theorem HI.push{x y v:Array Keyed}{i j:Nat}(c:Asc lt x)(h:HI lt x y v (i+1) j)(d:∀k,k<j->lt (G x i) (G y k)=false):HI lt x y (v.push (G x i)) i j:=by
 have hi:=h.ix;refine⟨by lia,h.jy,?_,?_,λa ha k h1=>?_,λa ha k h1=>?_⟩
 .rw[eY,DR (show i<x.size by lia)];exact (List.perm_append_comm.trans (List.Perm.cons _ h.pm))
 .rw[eY,List.pairwise_append];refine⟨h.so,List.pairwise_singleton _ _,λa ha b e=>?_⟩;rw[List.mem_singleton.mp e];exact h.bx a ha i (eg _)
 .rw[eY] at ha;rcases List.mem_append.mp ha with ha|ha
  .exact h.bx a ha k (by lia)
  rw[List.mem_singleton.mp ha];exact c k i (by lia) (by lia)
 rw[eY] at ha;rcases List.mem_append.mp ha with ha|ha
 .exact h.by_ a ha k h1
 rw[List.mem_singleton.mp ha];exact d k h1
theorem EG{x v:Array Keyed}{p k:Nat}(h:p+k<x.size):v++(x.extract p (p+(k+1))).reverse=v.push (G x (p+k))++(x.extract p (p+k)).reverse:=by have e:=uR (v:=#[]) h;simp only[Array.empty_append] at e;rw[e];apply ko.mp;simp
theorem HI.chunk{x y:Array Keyed}{p j:Nat}(b:Asc lt x):∀(k:Nat){v:Array Keyed},HI lt x y v (p+k) j->(∀m,m<k->∀c,c<j->lt (G x (p+m)) (G y c)=false)->HI lt x y (v++(x.extract p (p+k)).reverse) p j
 |0,v,h,_=>by
  have e:v++(x.extract p (p+0)).reverse=v:=by apply ko.mp;simp
  rw[e];exact h
 |k+1,v,h,hm=>by
  have hi:=h.ix;rw[EG (by lia)];exact HI.chunk b k (h.push b (hm k (eg _))) λm d=>hm m (by lia)
theorem HI.fa{x y v:Array Keyed}{i j:Nat}(d:Asc lt x)(f:Asc lt y)(h:HI lt x y v i j)(g:∀m,m<j->∀k,k<i->lt (G y m) (G x k)=false):Good lt x y (x.extract 0 i++y.extract 0 j++v.reverse):=by
 have l:=HI.chunk (p:=0) f j (by rw[iQ];exact h.sw) λm hm k b=>by rw[iQ];exact g m hm k b
 have c:=HI.chunk (p:=0) d i (by rw[iQ];exact l.sw) λm hm k b=>absurd b (FE _);rw[iQ,iQ] at c;have e:(x.extract 0 i++y.extract 0 j++v.reverse)=(v++(y.extract 0 j).reverse++(x.extract 0 i).reverse).reverse:=by apply ko.mp;simp
 rw[e];refine⟨?_,?_⟩
 .rw[Fk];have:=c.pm;simp only[List.drop_zero] at this;exact (List.reverse_perm _).trans this
 unfold Srt;rw[Fk,List.pairwise_reverse];exact c.so
structure JH(lt:Keyed->Keyed->Bool)(x y:Array Keyed)(st:SortSt)(lo:Nat)(r:Option (Array Keyed))(v:Array Keyed)(i j:Nat)(st':SortSt):Prop where
 f:Fr st st'
 yes:∀a,r=some a->Good lt x y a
 no:r=none->HI lt x y v i j/\0<i/\1<j/\lo+(i+j)<=x.size+y.size
theorem JH.on{x y:Array Keyed}{st b:SortSt}{lo i j:Nat}{v:Array Keyed}(f:Fr st b)(h:HI lt x y v i j)(hi:0<i)(c:1<j)(d:lo+(i+j)<=x.size+y.size):JH lt x y st lo none v i j b:=⟨f,λ_ z=>(nomatch z),λ_=>⟨h,hi,c,d⟩⟩
theorem JH.end_{x y:Array Keyed}{st b:SortSt}{lo i j:Nat}{v a:Array Keyed}(f:Fr st b)(h:Good lt x y a):JH lt x y st lo (some a) v i j b:=⟨f,λ_ z=>cq z ▸ h,λz=>(nomatch z)⟩
theorem Cq(C:Cmp M A E s κ N lt){x y:Array Keyed}{st:SortSt}{Q:Array Keyed->SortSt->Prop}(hk:kindOf st=κ)(Nx:∀i,i<x.size->N (G x i))(Ny:∀i,i<y.size->N (G y i))(B:Asc lt x)(O:Asc lt y)(h0:0<x.size)(h1:0<y.size)
  (hb:lt (G y 0) (G x 0)=true) (hl:∀j,j<y.size->lt (G y j) (G x (x.size-1))=true) (q:∀r n,Fr st n->Good lt x y r->Q r n):wpS M A E s (mhi x y) Q st:=by
 have m0:HI lt x y #[G x (x.size-1)] (x.size-1) y.size:=by have z:HI lt x y #[] (x.size-1+1) y.size:=⟨by lia,ai _,by rw[show x.size-1+1=x.size by lia];simp,List.Pairwise.nil,by simp,by simp⟩;exact z.push B λk ad=>C.asym _ _ (hl k ad)
 have fa:∀{v:Array Keyed}{i j:Nat},HI lt x y v i j->i=0\/j=0->Good lt x y (x.extract 0 i++y.extract 0 j++v.reverse):=λ{v i j} m e=>m.fa B O λa h2 b h4=>absurd e (by lia);have fb:∀{v:Array Keyed}{i j:Nat},HI lt x y v i j->j=1->Good lt x y (y.extract 0 j++x.extract 0 i++v.reverse):=λ{v i j} m e=>(m.sw.fa O B λa h2 b h4=>by
  have:=m.ix;rw[show b=0 by lia];exact C.asym _ _ (C.ltle hb (B 0 a (aD _) (by lia)))).sw
 have H:∀{a b:Nat},(a==b)=true->a=b:=λh=>by simpa using h
 have K:∀{a b:Nat},¬(a==b)=true->a≠b:=λh=>by simpa using h
 rw[Ds];dsimp only;refine aq (ie (aq (bP (by lia) ?_)));by_cases Y:(x.size-1==0)=true
 .exact aQ Y (av (q _ _ ⟨rfl,rfl,rfl,rfl⟩ (fa m0 (.inl (H Y)))))
 refine aN Y ?_;by_cases Z:(y.size==1)=true
 .exact aQ Z (av (q _ _ ⟨rfl,rfl,rfl,rfl⟩ (fb m0 (H Z))))
 refine aN Z ?_;have Y:=K Y;have Z:=K Z;have j0:=JH.on (lo:=0) (show Fr st st from ⟨rfl,rfl,rfl,rfl⟩) m0 (by lia) (by lia) (by lia);refine aq (fg (aq (c_ (cV (β:=Option (Array Keyed)×Nat×Nat×Array Keyed×Nat) (I:=λt z n=>z.1=none/\JH lt x y st t none z.2.2.2.1 z.2.1 z.2.2.1 n) (Q:=λz n=>JH lt x y st (x.size+y.size) z.1 z.2.2.2.1 z.2.1 z.2.2.1 n) ?step ?fin ⟨rfl,j0⟩) ?post)))
 case fin=>
  rintro⟨r,i,j,v,g⟩ n ⟨e,h⟩;have e:r=none:=e;subst e;exact⟨h.f,h.yes,λz=>by
   obtain⟨a1,D,P,w⟩:=h.no z;exact⟨a1,D,P,by rw[ph (aD _)] at w;exact w⟩⟩
 case post=>
  rintro⟨r,i,j,v,g⟩ n h;cases r with
  |some r=>exact av (q _ _ h.f (h.yes _ rfl))
  |none=>
   obtain⟨_,D,P,w⟩:=h.no rfl;have D:0<i:=D;have w:x.size+y.size+(i+j)<=x.size+y.size:=w;lia
 case step=>
  rintro t ⟨r,i,j,v,g⟩ bl _ ht ⟨e,h⟩;have e:r=none:=e;subst e;dsimp only at h |-;refine aq (c_ (cV (β:=Option (Array Keyed)×Nat×Nat×Array Keyed×Nat×Nat) (I:=λk z n=>z.1=none/\JH lt x y st (t+k) none z.2.2.2.1 z.2.1 z.2.2.1 n) (Q:=λz n=>JH lt x y st (t+1) z.1 z.2.2.2.1 z.2.1 z.2.2.1 n) ?s1 ?f1 ⟨rfl,h⟩) ?p1)
  case f1=>
   rintro⟨r,i,j,v,c,d⟩ n ⟨e,h⟩;have e:r=none:=e;subst e;exact⟨h.f,h.yes,λz=>by
    obtain⟨a1,D,P,w⟩:=h.no z;exact⟨a1,D,P,by rw[ph (aD _)] at w;lia⟩⟩
  case s1=>
   rintro k ⟨r,i,j,v,c,d⟩ n _ ad ⟨e,h⟩;obtain⟨m,D,P,w⟩:=h.no rfl;have f:=h.f;clear h e;dsimp only at m D P w |-;have mi:=m.ix;have mj:=m.jy;obtain⟨i,rfl⟩:∃i',i=i' + 1:=⟨i-1,by lia⟩;obtain⟨j,rfl⟩:∃j',j=j' + 1:=⟨j-1,by lia⟩;simp only[oZ];refine aq (bP (by lia) (aq (bP (by lia) (aq (C.ask (Ny _ (by lia)) (Nx _ (by lia)) (f.1.trans hk) ?_)))));dsimp only;cases hc:lt (G y j) (G x i) with
   |true=>
    refine aQ rfl ?_;have T:=m.push B λk h2=>C.tr _ _ _ (O k j (by lia) (by lia)) (C.asym _ _ hc);refine aq (bP (by lia) ?_);by_cases u:(i==0)=true
    .exact aQ u (av (JH.end_ f (fa T (.inl (H u)))))
    refine aN u ?_;have u:=K u;have j1:=JH.on (lo:=t+1) f T (by lia) (by lia) (by lia);have X:=JH.on (lo:=t+(k+1)) f T (by lia) (by lia) (by lia)
    split
    .exact av j1
    exact av ⟨rfl,X⟩
   |false=>
    refine aN (by decide) ?_;have T:=(m.sw.push O λk h2=>C.tr _ _ _ (B k i (by lia) (by lia)) hc).sw;refine aq (bP (by lia) ?_);by_cases u:(j==1)=true
    .exact aQ u (av (JH.end_ f (fb T (H u))))
    refine aN u ?_;have u:=K u;have j1:=JH.on (lo:=t+1) f T (by lia) (by lia) (by lia);have X:=JH.on (lo:=t+(k+1)) f T (by lia) (by lia) (by lia)
    split
    .exact av j1
    exact av ⟨rfl,X⟩
  case p1=>
   rintro⟨r,i,j,v,c,d⟩ n h;cases r with
   |some r=>exact av ⟨h.f,h.yes,λz=>nomatch z⟩
   |none=>
   dsimp only at h |-;refine aq (ie (aq (c_ (cV (β:=Option (Array Keyed)×Nat×Nat×Array Keyed×Nat×Nat×Nat) (I:=λk z n=>z.1=none/\JH lt x y st (t+1) none z.2.2.2.1 z.2.1 z.2.2.1 n) (Q:=λz n=>JH lt x y st (t+1) z.1 z.2.2.2.1 z.2.1 z.2.2.1 n) ?s2 ?f2 ⟨rfl,h⟩) ?p2)))
   case f2=>
    rintro⟨r,i,j,v,g,c,d⟩ n ⟨e,h⟩;have e:r=none:=e;subst e;exact h
   case p2=>
    rintro⟨r,i,j,v,g,c,d⟩ n h;cases r with
    |some r=>exact av ⟨h.f,h.yes,λz=>nomatch z⟩
    |none=>exact aq (lp h.f λbm f'=>av ⟨rfl,f',λ_ z=>(nomatch z),h.no⟩)
   case s2=>
    rintro k ⟨r,i,j,v,g,c,d⟩ bn _ ad ⟨e,h⟩;obtain⟨m,D,P,w⟩:=h.no rfl;have f:=h.f;clear h e;dsimp only at m D P w |-;have mi:=m.ix;have mj:=m.jy;obtain⟨j,rfl⟩:∃j',j=j' + 1:=⟨j-1,by lia⟩;simp only[oZ];have tl:∀{o:Nat},bv lt false (G y j) x 0 o=true->lt (G y j) (G x o)=false:=λh=>by simpa [bv] using h
    have fl:∀{o:Nat},bv lt false (G y j) x 0 o=false->lt (G y j) (G x o)=true:=λh=>by simpa [bv] using h
    by_cases hg:g>1;refine aQ hg ?_
    rotate_left
    refine aN hg ?_
    all_goals
     refine aq (lp f λbt R=>aq (bP (by lia) (aq (ip (bv lt false (G y j) x 0) (λo L Q' q'=>iq C Nx (Ny _ (by lia)) (by lia) (R.1.trans hk) q') (λo p L hp al=>?_) (by lia) λp a0 am an=>?_))))
     .cases hc:lt (G y j) (G x o) with
      |false=>show (!lt _ (G x (0+o)))=true;rw[iQ,hc];rfl
      |true=>have:=C.ltle hc (B o p (by lia) (by lia));rw[tl al] at this;cases this
     dsimp only;have U:=HI.chunk (p:=p) (v:=v) (j:=j+1) B (i-p) (by rw[show p+(i-p)=i by lia];exact m) λo L k' h2=>C.tr _ _ _ (O k' j (by lia) (by lia)) (C.asym _ _ (fl (an (p+o) (by lia) (by lia))));rw[show p+(i-p)=i by lia] at U;have n1:∀o,o<p->lt (G y j) (G x o)=false:=λo L=>tl (am o L);have i0:t+1+(p+(j+1))<=x.size+y.size:=by lia
     have bw:p<=x.size:=by lia
     by_cases ab:i-p>0;refine aQ ab ?_;by_cases u:(p==0)=true
     .exact aQ u (av (JH.end_ R (fa U (.inl (H u)))))
     refine aN u ?_;have b2:0<p:=by have:=K u;lia
     generalize v++(x.extract p i).reverse=v1 at U |-;generalize ap:i-p=kk;clear a0 am an ab ap
     rotate_left
     refine aN ab ?_;have a5:i=p:=by lia
     have b2:0<p:=by lia
     have U:=m;rw[a5] at U |-;generalize v=v1 at U |-;generalize ap:p-p=kk;clear a0 am an ab ap a5
     all_goals
      obtain⟨p,rfl⟩:∃l,p=l + 1:=⟨p-1,by lia⟩;have m2:=(U.sw.push O n1).sw;refine aq (bP (by lia) ?_);by_cases c3:(j==1)=true
      .exact aQ c3 (av (JH.end_ R (fb m2 (H c3))))
      refine aN c3 ?_;have c3:=K c3;simp only[oZ];refine aq (bP (by lia) (aq (ip (bv lt true (G x p) y 0) (λo L Q' q'=>iq C Ny (Nx _ (by lia)) (by lia) (R.1.trans hk) q') (λo p L hp al=>C.lelt (O _ _ (by lia) (by lia)) al) (by lia) λl bx bd be=>?_)));have bb:∀{o:Nat},bv lt true (G x p) y 0 o=lt (G y o) (G x p):=λ{o}=>by simp[bv]
      dsimp only;have S:=(HI.chunk (p:=l) (v:=v1.push (G y j)) O (j-l) (by rw[show l + (j-l)=j by lia];exact m2.sw) λo L k' h2=>C.tr _ _ _ (B k' p (by lia) (by lia)) (bb ▸ be (l + o) (by lia) (by lia))).sw;rw[show l + (j-l)=j by lia] at S;have n2:∀o,o<l->lt (G x p) (G y o)=false:=λo L=>C.asym _ _ (bb ▸ bd o L);have j0:t+1+(p+1+l)<=x.size+y.size:=by lia
      by_cases aM:j-l>0;refine aQ aM ?_;by_cases c4:(l==1)=true
      .exact aQ c4 (av (JH.end_ R (fb S (H c4))))
      refine aN c4 ?_;by_cases c5:(l==0)=true
      .exact aQ c5 (av (JH.end_ R (fa S (.inr (H c5)))))
      refine aN c5 ?_;have b3:1<l:=by have:=K c4;have:=K c5;lia
      generalize v1.push (G y j)++(y.extract l j).reverse=v3 at S |-;generalize bg:j-l=bi;clear bg aM
      rotate_left
      refine aN aM ?_;have b3:1<l:=by lia
      have S:=m2;rw[show j=l by lia] at S |-;generalize v1.push (G y l)=v3 at S |-;generalize l-l=bi
      all_goals
       have m4:=S.push B n2;refine aq (bP (by lia) ?_);by_cases c6:(p==0)=true
       .exact aQ c6 (av (JH.end_ R (fa m4 (.inl (H c6)))))
       refine aN c6 ?_;have c6:=K c6;have X:=JH.on (lo:=t+1) R m4 (by lia) b3 (by lia)
       split
       .exact av X
       exact av ⟨rfl,X⟩
end
def Seg(lt:Keyed->Keyed->Bool)(a:Array Keyed)(lo hi:Nat):Prop:=∀i j,lo<=i->i<=j->j<hi->lt (G a j) (G a i)=false
def Dn(lt:Keyed->Keyed->Bool)(a:Array Keyed)(lo hi:Nat):Prop:=∀i j,lo<=i->i<=j->j<hi->lt (G a i) (G a j)=false
def Tl(lt:Keyed->Keyed->Bool)(a:Array Keyed)(hi q:Nat):Prop:=∀i j,hi<=i+(q+1)->i<hi->hi<=j+(q+1)->j<hi->lt (G a i) (G a j)=false
structure Cg(lo hi:Nat)(a a':Array Keyed):Prop where
 pm:a'.Perm a
 at_:∀k,k<lo\/hi<=k->G a' k=G a k
theorem Cg.size{lo hi:Nat}{a b:Array Keyed}(h:Cg lo hi a b):b.size=a.size:=h.pm.size_eq
theorem Cg.refl(lo hi:Nat)(a:Array Keyed):Cg lo hi a a:=⟨Ff _,λ_ _=>rfl⟩
theorem Cg.trans{lo hi:Nat}{a b c:Array Keyed}(h:Cg lo hi a b)(h2:Cg lo hi b c):Cg lo hi a c:=⟨h2.pm.trans h.pm,λk d=>(h2.at_ k d).trans (h.at_ k d)⟩
theorem Cg.mono{lo hi c d:Nat}{a b:Array Keyed}(h:Cg lo hi a b)(h1:c<=lo)(h2:hi<=d):Cg c d a b:=⟨h.pm,λk e=>h.at_ k (by lia)⟩
theorem gK{p q:Array Keyed}{i j:Nat}(h:p[i]?=q[j]?):G p i=G q j:=by
 have e:∀(a:Array Keyed)(k:Nat),G a k=(a[k]?).getD (Value.none,Value.none):=λa k=>by simp[G]
 rw[e,e,h]
theorem dJ{p:Array Keyed}{i j:Nat}(b:j<=p.size)(k:Nat):G (mirror p i j ((j-i)/2)) k=if i<=k/\k<j then G p (i+j-1-k) else G p k:=by
 have h:=getElem?_mirror_all (xs:=p) (i:=i) b k
 split
 .rename_i c;rw[Ij c] at h;exact gK h
 rename_i c;rw[Ii c] at h;exact gK h
theorem lH{p:Array Keyed}{i j:Nat}(b:j<=p.size):Cg i j p (mirror p i j ((j-i)/2)):=⟨mirror_perm _ _ _ _,λk c=>by rw[dJ b,Ii (by lia)]⟩
abbrev sa(st:SortSt)(a:Array Keyed):SortSt:=setArr st a
section
variable {M:Model}{κ:SortKind}{N:Keyed->Prop}{lt:Keyed->Keyed->Bool}
def Nm(N:Keyed->Prop)(a:Array Keyed):Prop:=∀x,x∈a->N x
theorem Nm.at{a:Array Keyed}(h:Nm N a){i:Nat}(hi:i<a.size):N (G a i):=h _ (Array.mem_of_getElem? (lY hi))
theorem Nm.perm{a b:Array Keyed}(h:Nm N a)(e:b.Perm a):Nm N b:=λx c=>h x (e.mem_iff.mp c)
theorem jn(C:Cmp M A E s κ N lt){st:SortSt}{a:Array Keyed}{i j:Nat}{Q:Option Bool->SortSt->Prop}(hk:kindOf st=κ)(hN:Nm N a)(hi:i<a.size)(hj:j<a.size)(h:Q (some (lt (G a i) (G a j))) (sa st a)):wpS M A E s (ltAt' i j) Q (sa st a):=by rw[ltAt'_eq];refine aq (fg ?_);show wpS _ _ _ _ (do let x <-elem' a i;let y <-elem' a j;lt' x y) Q _;exact aq (bP hi (aq (bP hj (C.ask (hN.at hi) (hN.at hj) hk h))))
theorem Bh(C:Cmp M A E s κ N lt){a:Array Keyed}{l:Nat}:Seg lt a l (l+1):=λi j h1 h2 b=>by
 have:i=j:=by lia
 subst this;exact C.refl _
theorem zC(C:Cmp M A E s κ N lt){a:Array Keyed}{l n:Nat}(h:Seg lt a l (l+n))(h1:1<=n)(b:lt (G a (l+n)) (G a (l+n-1))=false):Seg lt a l (l+(n+1)):=λi j hi c f=>by
 by_cases e:j=l+n
 .subst e;by_cases d:i=l+n
  .subst d;exact C.refl _
  exact C.tr _ (G a (l+n-1)) _ (h i (l+n-1) hi (by lia) (by lia)) b
 exact h i j hi c (by lia)
theorem jG(C:Cmp M A E s κ N lt){a:Array Keyed}{l n:Nat}(h:Dn lt a l (l+n))(h1:1<=n)(b:lt (G a (l+n-1)) (G a (l+n))=false):Dn lt a l (l+(n+1)):=λi j hi c f=>by
 by_cases e:j=l+n
 .subst e;by_cases d:i=l+n
  .subst d;exact C.refl _
  exact C.tr _ (G a (l+n-1)) _ b (h i (l+n-1) hi (by lia) (by lia))
 exact h i j hi c (by lia)
theorem za(C:Cmp M A E s κ N lt){st:SortSt}{a:Array Keyed}{l m:Nat}{Q:Option Nat->SortSt->Prop}(hk:kindOf st=κ)(hN:Nm N a)(h1:1<=m)(hs:l+m<=a.size)
  (q:∀n a',Cg l (l+m) a a'->1<=n->n<=m->Seg lt a' l (l+n)->Q (some n) (sa st a')):wpS M A E s (countRun' l m) Q (sa st a):=by
 have asc:∀(n:Nat)(a':Array Keyed)(Q':Option (Option Nat)×Nat->SortSt->Prop),Cg l (l+m) a a'->1<=n->n<=m->Seg lt a' l (l+n)->(∀n',n<=n'->n'<=m->Seg lt a' l (l+n')->(n'<m->lt (G a' (l+n')) (G a' (l+n'-1))=true)->Q' (none,n') (sa st a'))->
   wpS M A E s (forIn [n:m] ((none,n):Option (Option Nat)×Nat) λ_ x=>do
    let z <-ltAt' (l+x.2) (l+x.2-1)
    match z with
    |some z=>if z=true then pure (ForInStep.done (none,x.2)) else pure (ForInStep.yield (none,x.2+1))
    |_=>pure (ForInStep.done (some none,x.2))) Q' (sa st a'):=by
  intro n a' Q' cg n1 nm sg q';refine cV (β:=Option (Option Nat)×Nat) (I:=λt x st'=>st'=sa st a'/\x.1=none/\x.2=t/\n<=t/\t<=m/\Seg lt a' l (l+t)) (Q:=Q') ?_ ?_ ⟨rfl,rfl,rfl,ai _,nm,sg⟩
  .rintro t ⟨r,n'⟩ st' _ ht ⟨rfl,e1,e2,e3,e4,e5⟩;have e2:n'=t:=e2;subst e2;have hz:=cg.size;refine aq (jn C hk (hN.perm cg.pm) (by lia) (by lia) ?_);cases hc:lt (G a' (l+n')) (G a' (l+n'-1)) with
   |true=>exact av (q' n' e3 (by lia) e5 λ_=>hc)
   |false=>exact av ⟨rfl,rfl,rfl,by lia,by lia,zC C e5 (by lia) hc⟩
  rintro⟨r,n'⟩ st' ⟨rfl,e1,e2,e3,e4,e5⟩;have e1:r=none:=e1;have e2:n'=max n m:=e2;subst e1;have:n'=m:=by lia
  subst this;rw[show max n n'=n' by lia] at e5;exact q' n' nm (ai _) e5 λz=>absurd z (by lia)
 have rv:∀{a':Array Keyed}{n:Nat},Cg l (l+m) a a'->n<=m->Dn lt a' l (l+n)->Seg lt (mirror a' l (l+n) ((l+n-l)/2)) l (l+n):=λ{a' n} cg nm d i j hi hij hj=>by
  have hz:=cg.size;rw[dJ (by lia),dJ (by lia),Ij (by lia),Ij (by lia)];exact d _ _ (by lia) (by lia) (by lia)
 have rt:∀{a':Array Keyed}{n q:Nat},Cg l (l+m) a a'->n<=m->q<n->Dn lt a' l (l+n)->Tl lt a' (l+n) q->Dn lt (mirror a' (l+n-(q+1)) (l+n) ((l+n-(l+n-(q+1)))/2)) l (l+n):=λ{a' n q} cg nm hq d tl i j hi hij hj=>by
  have hz:=cg.size;rw[dJ (by lia),dJ (by lia)]
  split
  .split
   .exact tl _ _ (by lia) (by lia) (by lia) (by lia)
   lia
  split
  .exact d _ _ hi (by lia) (by lia)
  exact d _ _ hi hij hj
 have t0:∀{a':Array Keyed}{h:Nat},Tl lt a' h 0:=λ{a' h} i j h1 h2 h3 h4=>by
  have:i=j:=by lia
  subst this;exact C.refl _
 have dl:∀(n:Nat)(a':Array Keyed),Cg l (l+m) a a'->1<=n->n<=m->Dn lt a' l (l+n)->wpS M A E s (do
   rule "list.sort.descending-run"
   let mut n:=n
   let mut q:=0
   for _ in [n:m] do
    let some z <-ltAt' (l+n) (l+n-1)|return none
    if z then
     if q>0 then reverseSlice' (l+n-(q+1)) (l+n)
     q:=0
    else
     let some z <-ltAt' (l+n-1) (l+n)|return none
     if z then break
     q:=q+1
    n:=n+1
   if q>0 then reverseSlice' (l+n-(q+1)) (l+n)
   reverseSlice' l (l+n)
   for _ in [n:m] do
    let some z <-ltAt' (l+n) (l+n-1)|return none
    if z then break
    n:=n+1
   return some n) Q (sa st a'):=by
  intro n a1 cg n1 nm d;dsimp only;refine aq (ie (aq (c_ (cV (β:=Option (Option Nat)×Nat×Nat) (I:=λt x st'=>x.1=none/\x.2.1=t/\n<=t/\t<=m/\x.2.2<t/\∃a',st'=sa st a'/\Cg l (l+m) a a'/\Dn lt a' l (l+t)/\Tl lt a' (l+t) x.2.2)
   (Q:=λx st'=>x.1=none/\n<=x.2.1/\x.2.1<=m/\x.2.2<x.2.1/\∃a',st'=sa st a'/\Cg l (l+m) a a'/\Dn lt a' l (l+x.2.1)/\Tl lt a' (l+x.2.1) x.2.2) ?_ ?_ ⟨rfl,rfl,ai _,nm,n1,a1,rfl,cg,d,t0⟩) ?_)))
  .rintro t ⟨r,n',q'⟩ st' _ ht ⟨e1,e2,e3,e4,e5,a',rfl,cg',d',tl⟩;have e2:n'=t:=e2;subst e2;have e5:q'<n':=e5;have hz:=cg'.size;dsimp only at tl |-;refine aq (jn C hk (hN.perm cg'.pm) (by lia) (by lia) ?_);dsimp only;cases hc:lt (G a' (l+n')) (G a' (l+n'-1)) with
   |true=>
    refine aQ rfl ?_;by_cases hq:q'>0
    .rw[Ij hq,pE];refine aq (fV (av ⟨rfl,rfl,by lia,by lia,by show 0<n' + 1;lia,_,rfl,cg'.trans ((lH (by lia)).mono (by lia) (by lia)),?_,t0⟩));refine jG C (rt cg' (by lia) e5 d' tl) (by lia) ?_;rw[dJ (by show l+n'<=a'.size;lia),dJ (by show l+n'<=a'.size;lia),Ij (by lia),Ii (by lia)];exact C.tr _ (G a' (l+n'-1)) _ (C.asym _ _ hc) (d' _ _ (by lia) (by lia) (by lia))
    refine aN hq ?_;exact av ⟨rfl,rfl,by lia,by lia,by show 0<n' + 1;lia,a',rfl,cg',jG C d' (by lia) (C.asym _ _ hc),t0⟩
   |false=>
    refine aN (by decide) ?_;refine aq (jn C hk (hN.perm cg'.pm) (by lia) (by lia) ?_);dsimp only;cases hc2:lt (G a' (l+n'-1)) (G a' (l+n')) with
    |true=>
     refine aQ rfl ?_;exact av ⟨rfl,e3,e4,e5,a',rfl,cg',d',tl⟩
    |false=>
     refine aN (by decide) ?_;refine av ⟨rfl,rfl,by lia,by lia,by show q' + 1<n' + 1;lia,a',rfl,cg',jG C d' (by lia) hc2,λi j b1 b2 b3 b4=>?_⟩;have b1:l+(n' + 1)<=i+(q' + 1+1):=b1;have b3:l+(n' + 1)<=j+(q' + 1+1):=b3;by_cases ei:i=l+n'
     .by_cases ej:j=l+n'
      .subst ei;subst ej;exact C.refl _
      subst ei;exact C.tr _ (G a' (l+n'-1)) _ (tl _ _ (by lia) (by lia) (by lia) (by lia)) hc
     by_cases ej:j=l+n'
     .subst ej;exact C.tr _ (G a' (l+n'-1)) _ hc2 (tl _ _ (by lia) (by lia) (by lia) (by lia))
     exact tl _ _ (by lia) (by lia) (by lia) (by lia)
  .rintro⟨r,n',q'⟩ st' ⟨e1,e2,e3,e4,e5,a',rfl,cg',d',tl⟩;have e2:n'=max n m:=e2;have:n'=m:=by lia
   subst this;rw[show max n n'=n' by lia] at d' tl e5 e3;exact⟨e1,e3,ai _,e5,a',rfl,cg',d',tl⟩
  rintro⟨r,n',q'⟩ st' ⟨e1,e3,e4,e5,a',rfl,cg',d',tl⟩;cases e1;dsimp only at e3 e4 e5 d' tl |-;have hz:=cg'.size;by_cases hq:q'>0;rw[Ij hq,pE];refine aq (fV ?_);have cg2:=cg'.trans ((lH (i:=l+n'-(q' + 1)) (j:=l+n') (p:=a') (by lia)).mono (show l<=_ by lia) (show _<=l+m by lia));have d2:=rt cg' e4 e5 d' tl;show wpS _ _ _ _ _ _ (sa st (mirror a' (l+n'-(q' + 1)) (l+n') ((l+n'-(l+n'-(q' + 1)))/2)));generalize mirror a' (l+n'-(q' + 1)) (l+n') ((l+n'-(l+n'-(q' + 1)))/2)=a2 at cg2 d2 |-
  rotate_left
  refine aN hq ?_;have cg2:=cg';have d2:=d';generalize a'=a2 at cg2 d2 |-
  all_goals
   have hz2:=cg2.size;rw[pE];refine aq (fV ?_);have cg3:=cg2.trans ((lH (i:=l) (j:=l+n') (p:=a2) (by lia)).mono (ai _) (show _<=l+m by lia));refine aq (asc n' _ _ cg3 (by lia) e4 (rv cg2 e4 d2) λn'' b1 b2 b3 b4=>?_);exact av (q n'' _ cg3 (by lia) b2 b3)
 rw[countRun'_eq];dsimp only;refine aq (asc 1 a _ (Cg.refl _ _ _) (ai _) h1 (Bh C) λn b1 b2 b3 b4=>?_);dsimp only;by_cases c1:(n==m)=true
 .exact aQ c1 (av (q n a (Cg.refl _ _ _) b1 b2 b3))
 refine aN c1 ?_;have c1:n≠m:=by simpa using c1
 have hl:=b4 (by lia);by_cases c2:n>1
 .refine aQ c2 ?_;refine aq (jn C hk hN (by lia) (by lia) ?_);dsimp only;cases hc:lt (G a l) (G a (l+n-1)) with
  |true=>rw[Ij rfl];exact av (q n a (Cg.refl _ _ _) b1 b2 b3)
  |false=>
   rw[Ii (by decide),pE];refine aq (fV ?_);have cg:=(lH (i:=l) (j:=l+n) (p:=a) (by lia)).mono (ai _) (show l+n<=l+m by lia);show wpS _ _ _ _ _ _ (sa st (mirror a l (l+n) ((l+n-l)/2)));refine dl (n+1) _ cg (by lia) (by lia) (jG C (λi j hi hij hj=>?_) (by lia) ?_)
   .rw[dJ (by lia),dJ (by lia),Ij (by lia),Ij (by lia)];exact b3 _ _ (by lia) (by lia) (by lia)
   rw[dJ (by lia),dJ (by lia),Ij (by lia),Ii (by lia),show l+(l+n)-1-(l+n-1)=l by lia];exact C.tr _ (G a (l+n-1)) _ (C.asym _ _ hl) hc
 refine aN c2 ?_;have:n=1:=by lia
 subst this;refine dl 2 a (Cg.refl _ _ _) (by lia) (by lia) (jG C (λi j hi hij hj=>?_) (ai _) (C.asym _ _ hl));have:i=j:=by lia
 subst this;exact C.refl _
end
section
variable {M:Model}{κ:SortKind}{N:Keyed->Prop}{lt:Keyed->Keyed->Bool}
theorem oC{p:Array Keyed}{k z:Nat}(d:k<p.size)(f:z<=k)(i:Nat):G (bubble p k (k-z)) i=if i=z then G p k else if z<i/\i<=k then G p (i-1) else G p i:=by
 have h:=getElem?_bubble (xs:=p) (src:=k) d (k-z) (by lia) i;have e:k-(k-z)=z:=by lia
 rw[e] at h
 repeat' split at h
 .rename_i c;rw[Ij c];exact gK h
 .rename_i c b;rw[Ii c,Ij b];exact gK h
 rename_i c b;rw[Ii c,Ii b];exact gK h
theorem Cu(C:Cmp M A E s κ N lt){st:SortSt}{a:Array Keyed}{l n o:Nat}{Q:Bool->SortSt->Prop}(O:kindOf st=κ)(P:Nm N a)(h1:1<=o)(h2:o<=n)(X:l+n<=a.size)(sg:Seg lt a l (l+o))
  (q:∀b,Cg l (l+n) a b->Seg lt b l (l+n)->Q true (sa st b)):wpS M A E s (binarySort' l n o) Q (sa st a):=by
 rw[binarySort'_eq];dsimp only;refine aq (c_ (cV (I:=λk x c=>x.1=none/\1<=k/\k<=n/\∃b,c=sa st b/\Cg l (l+n) a b/\Seg lt b l (l+k)) (Q:=λx c=>x.1=none/\∃b,c=sa st b/\Cg l (l+n) a b/\Seg lt b l (l+n)) ?step ?fin ⟨rfl,by lia,by lia,a,rfl,Cg.refl _ _ _,by rw[show max o 1=o by lia];exact sg⟩) ?post)
 case fin=>
  rintro⟨r,u⟩ c ⟨e,R,S,b,rfl,p,f⟩;rw[show max (max o 1) n=n by lia] at f;exact⟨e,b,rfl,p,f⟩
 case post=>
  rintro⟨r,u⟩ c ⟨e,b,rfl,p,f⟩;cases e;exact av (q b p f)
 case step=>
  rintro k ⟨r,u⟩ c _ Y ⟨e,R,S,b,rfl,p,f⟩;have Z:=p.size;refine aq (c_ (cV (β:=Option Bool×Nat×Nat) (I:=λt x c=>c=sa st b/\x.1=none/\x.2.1<=x.2.2/\x.2.2<=k/\x.2.2-x.2.1<=k-t/\(∀i,i<x.2.1->lt (G b (l+k)) (G b (l+i))=false)/\(∀i,x.2.2<=i->i<k->lt (G b (l+i)) (G b (l+k))=false))
   (Q:=λx c=>c=sa st b/\x.1=none/\x.2.1<=k/\(∀i,i<x.2.1->lt (G b (l+k)) (G b (l+i))=false)/\(∀i,x.2.1<=i->i<k->lt (G b (l+i)) (G b (l+k))=false)) ?s8 ?f8 ⟨rfl,rfl,aD _,ai _,ai _,λi hi=>absurd hi (FE _),λi hi K=>absurd hi (Nat.not_le_of_lt K)⟩) ?p8)
  case f8=>
   rintro⟨r,u,w⟩ c ⟨rfl,e,B,d,v,g,h⟩;have B:u<=w:=B;have v:w-u<=k-max 0 k:=v;have:u=w:=by lia
   subst this;exact⟨rfl,e,d,g,h⟩
  case s8=>
   rintro t ⟨r,u,w⟩ c _ ht ⟨rfl,e,B,d,v,g,h⟩;have B:u<=w:=B;have d:w<=k:=d;have v:w-u<=k-t:=v;dsimp only at g h |-;by_cases H:u ≥ w
   .refine aQ H ?_;have:u=w:=by lia
    subst this;exact av ⟨rfl,rfl,d,g,h⟩
   refine aN H ?_;obtain⟨D,y⟩:=half H;generalize (u+w)/2=m at D y |-;refine aq (jn C O (P.perm p.pm) (by lia) (by lia) ?_);dsimp only;cases L:lt (G b (l+k)) (G b (l+m)) with
   |true=>
    refine aQ rfl ?_;refine av ⟨rfl,rfl,D,kq (bL y d),fewer v y D,g,λi hi T=>?_⟩;exact C.asym _ _ (C.ltle L (f _ _ (o_ _ _) (oY hi l) (Fu T l)))
   |false=>
    refine aN (by decide) ?_;refine av ⟨rfl,rfl,y,d,fewer' v y D,λi hi=>?_,h⟩;exact C.tr _ _ _ (f _ _ (o_ _ _) (oY (Fv hi) l) (Fu (bL y d) l)) L
  case p8=>
   rintro⟨r,u,w⟩ c ⟨rfl,e,d,g,h⟩;cases e;have d:u<=k:=d;dsimp only at g h |-;rw[moveDown'_eq];refine aq (fV (av ⟨rfl,by lia,by lia,bubble b (l+k) (l+k-(l+u)),rfl,p.trans ⟨bubble_perm _ _ _,λi hi=>?_⟩,λi j hi ab K=>?_⟩))
   .rw[oC (by lia) (by lia),Ii (by lia),Ii (by lia)]
   rw[oC (by lia) (by lia),oC (by lia) (by lia)]
   repeat' split
   .exact C.refl _
   all_goals first
    |lia
    |exact f _ _ (by lia) (by lia) (by lia)
    |(have z:=h (j-1-l) (by lia) (by lia);rw[show l+(j-1-l)=j-1 by lia] at z;exact (by
      rename_i h1 h2 h3;cases U:lt (G b (j-1)) (G b (l+k)) with
      |false=>rfl
      |true=>rw[U] at z;cases z))
    |(have z:=g (i-l) (by lia);rw[show l+(i-l)=i by lia] at z;exact z)
end
theorem uC(p:Nat):∀(l:List Keyed)(n:Nat)(a:Array Keyed),p+n+l.length<=a.size->
  ((l.zipIdx n).foldl (λa (z:Keyed×Nat)=>a.setIfInBounds (p+z.2) z.1) a).size=a.size/\∀m:Nat,((l.zipIdx n).foldl (λa (z:Keyed×Nat)=>a.setIfInBounds (p+z.2) z.1) a)[m]?=if p+n<=m/\m<p+n+l.length then l[m-(p+n)]? else a[m]?
 | [],n,a,h=>⟨rfl,λm=>by rw[Ii (by simp only[List.length_nil];lia)];rfl⟩
 |x::l,n,a,h=>by
  rw[List.length_cons] at h;obtain⟨h1,h2⟩:=uC p l (n+1) (a.setIfInBounds (p+n) x) (by rw[Fi];lia);rw[List.zipIdx_cons,List.foldl_cons];refine⟨h1.trans Fi,λm=>?_⟩;rw[h2 m,List.length_cons,Array.getElem?_setIfInBounds];by_cases c:m=p+n
  .subst c;rw[Ii (by lia),Ij rfl,Ij (by lia),Ij (by lia),u7];rfl
  by_cases b:p+(n+1)<=m/\m<p+(n+1)+l.length
  .rw[Ij b,Ij (by lia),show m-(p+n)=m-(p+(n+1))+1 by lia];rfl
  rw[Ii b,Ii (λz=>c z.symm),Ii (by lia)]
theorem l9{a:Array Keyed}{k:Nat}{x:Keyed}(h:a[k]?=some x):G a k=x:=by
 have e:G a k=(a[k]?).getD (Value.none,Value.none):=by simp[G]
 rw[e,h];rfl
theorem lM{a:Array Keyed}{p q k:Nat}(h:p+k<q)(b:q<=a.size):G (a.extract p q) k=G a (p+k):=by apply gK;rw[Array.getElem?_extract,Ij (by lia)]
theorem Aj{a:Array Keyed}{p q r:Nat}(h1:p<=q)(h2:q<=r)(d:r<=a.size):a.toList=a.toList.take p++((a.extract p q).toList++(a.extract q r).toList)++a.toList.drop r:=by
 rw[oU,oU,List.extract_eq_take_drop,List.extract_eq_take_drop];have b:(a.toList.drop p).take (q-p)++(a.toList.drop q).take (r-q)=(a.toList.drop p).take (r-p):=by rw[show r-p=(q-p)+(r-q) by lia,List.take_add,List.drop_drop,show p+(q-p)=q by lia]
 rw[b,List.append_assoc];have c:(a.toList.drop p).take (r-p)++a.toList.drop r=a.toList.drop p:=by
  conv=>rhs;rw[<-List.take_append_drop (r-p) (a.toList.drop p)]
  rw[List.drop_drop,show p+(r-p)=r by lia]
 rw[c,List.take_append_drop]
section
variable {M:Model}{κ:SortKind}{N:Keyed->Prop}{lt:Keyed->Keyed->Bool}
theorem qy{α:Type}(u v w:α)(l2:List α):∀b:List α,((b++u::w::l2).set b.length v).eraseIdx (b.length+1)=b++v::l2
 | []=>rfl
 |x::b=>by
  show x::((b++u::w::l2).set b.length v).eraseIdx (b.length+1)=_;rw[qy u v w l2 b];rfl
theorem ic{a:Array Keyed}{i j:Nat}(h:j<=a.size):(a.extract i j).size=j-i:=by rw[Array.size_extract,pj h]
theorem uN{a:Array Keyed}{x:Keyed}(h:x∈a.toList):∃k,k<a.size/\G a k=x:=by obtain⟨k,b⟩:=List.mem_iff_getElem?.mp h;rw[eV] at b;exact⟨k,(Array.getElem?_eq_some_iff.mp b).1,l9 b⟩
theorem zO(C:Cmp M A E s κ N lt){a r:Array Keyed}{p b q d z:Nat}(h1:p<=b)(h2:b<=q)(Q:q+d<=z)(R:z<=a.size)(g:Good lt (a.extract b q) (a.extract q (q+d)) r)
  (s1:Seg lt a p q) (s2:Seg lt a q z) (lo:∀k,p<=k->k<b->∀j,q<=j->j<z->lt (G a j) (G a k)=false) (hi:∀j,q+d<=j->j<z->∀k,p<=k->k<q->lt (G a j) (G a k)=false) :
  Cg p z a (r.toList.zipIdx.foldl (λa (z:Keyed×Nat)=>a.setIfInBounds (b+z.2) z.1) a)/\Seg lt (r.toList.zipIdx.foldl (λa (z:Keyed×Nat)=>a.setIfInBounds (b+z.2) z.1) a) p z:=by
 have x:q+d<=a.size:=bQ Q R;have y:q<=a.size:=bQ (o_ q d) x;have o:(a.toList.take b).length=b:=by rw[List.length_take,eX,pj (bQ h2 y)]
 have len:r.toList.length=q-b+d:=by rw[g.1.length_eq,List.length_append,eX,eX,ic y,ic x,u4]
 obtain⟨S,n⟩:=uC b r.toList 0 a (by lia);generalize (r.toList.zipIdx.foldl (λa (z:Keyed×Nat)=>a.setIfInBounds (b+z.2) z.1) a)=u at S n |-;rw[len] at n;simp only[u5] at n;have out:∀k,k<b\/q+d<=k->G u k=G a k:=λk T=>gK (by rw[n k,Ii (by lia)]);have L:∀k,b<=k->k<q+d->∃c,b<=c/\c<q+d/\G u k=G a c:=λk ab ad=>by
  have e:=n k;rw[Ij (by lia)] at e;have U:k-b<r.toList.length:=by lia
  rw[List.getElem?_eq_getElem U] at e;have e:=l9 e;have mem:r.toList[k-b]∈r.toList:=List.getElem_mem _;rcases List.mem_append.mp (g.1.mem_iff.mp mem) with h|h
  .obtain⟨c,f,l⟩:=uN h;rw[ic y] at f;exact⟨b+c,by lia,by lia,by rw[e,<-l,lM (by lia) (by lia)]⟩
  obtain⟨c,f,l⟩:=uN h;rw[ic x,u4] at f;exact⟨q+c,by lia,by lia,by rw[e,<-l,lM (by lia) (by lia)]⟩
 have X:∀i j,b<=i->i<=j->j<q+d->lt (G u j) (G u i)=false:=λi j i1 ij j1=>by
  have B:=n i;have D:=n j;rw[Ij (by lia)] at B D;have li:i-b<r.toList.length:=by lia
  have O:j-b<r.toList.length:=by lia
  rw[List.getElem?_eq_getElem li] at B;rw[List.getElem?_eq_getElem O] at D;rw[l9 B,l9 D];by_cases e:i=j
  .subst e;exact C.refl _
  exact List.pairwise_iff_getElem.mp g.2 (i-b) (j-b) li O (by lia)
 refine⟨⟨?_,λk T=>out k (by lia)⟩,λi j w P H=>?_⟩
 .rw[Fh];have e:u.toList=a.toList.take b++r.toList++a.toList.drop (q+d):=by
   apply List.ext_getElem?;intro m;rw[eV,n m];by_cases f:m<b
   .rw[Ii (by lia),List.append_assoc,List.getElem?_append_left (by rw[o];exact f),List.getElem?_take_of_lt f,eV]
   by_cases l:m<q+d
   .rw[Ij (by lia),List.append_assoc,List.getElem?_append_right (by rw[o];lia),List.getElem?_append_left (by rw[o];lia),o]
   rw[Ii (by lia),List.getElem?_append_right (by rw[List.length_append,o];lia),List.getElem?_drop,eV,List.length_append,o]
   congr 1
   lia
  rw[e];exact ((g.1.append_left _).append_right _).trans (List.Perm.of_eq (Aj (a:=a) h2 (o_ q d) (by lia)).symm)
 by_cases ci:i<b
 .rw[out i (.inl ci)];by_cases I:j<b
  .rw[out j (.inl I)];exact s1 i j w P (by lia)
  have v:∀c,b<=c->c<z->lt (G a c) (G a i)=false:=λc f l=>by
   by_cases K:c<q
   .exact s1 i c w (by lia) K
   exact lo i w ci c (by lia) l
  by_cases Y:j<q+d
  .obtain⟨c,f,l,e⟩:=L j (by lia) Y;rw[e];exact v c f (by lia)
  rw[out j (.inr (by lia))];exact v j (by lia) H
 by_cases I:j<q+d
 .exact X i j (by lia) P I
 rw[out j (.inr (by lia))];have v:∀c,p<=c->c<j->lt (G a j) (G a c)=false:=λc f l=>by
  by_cases K:c<q
  .exact hi j (by lia) H c f K
  exact s2 c j (by lia) (by lia) H
 by_cases Z:i<q+d
 .obtain⟨c,f,l,e⟩:=L i (by lia) Z;rw[e];exact v c (by lia) (by lia)
 rw[out i (.inr (by lia))];by_cases e:i=j
 .subst e;exact C.refl _
 exact v i w (by lia)
theorem Cn{st b:SortSt}{Q:PUnit->SortSt->Prop}(h:Q ⟨⟩ b):wpS M A E s (set b:SM PUnit) Q st:=by unfold wpS;rw[StateT.run_set];exact aj ⟨rfl,h⟩
theorem Ct(C:Cmp M A E s κ N lt){st:SortSt}{a:Array Keyed}{i p m e q n e':Nat}{l1 l2:List (Nat×Nat×Nat)}{Q:Bool->SortSt->Prop}(hk:kindOf st=κ)(hf:failedOf st=none)(hN:Nm N a)(hp:(pendingOf st).toList=l1++(p,m,e)::(q,n,e')::l2)(hi:l1.length=i)
  (hq:q=p+m) (hm:1<=m) (hn:1<=n) (hs:q+n<=a.size) (s1:Seg lt a p q) (s2:Seg lt a q (q+n))
  (h:∀(a':Array Keyed)(st':SortSt),PyProof.Rows.kindOf st'=κ->failedOf st'=none->arrOf st'=a'->(pendingOf st').toList=l1++(p,m+n,e)::l2->Cg p (q+n) a a'->Seg lt a' p (q+n)->Q true st'):wpS M A E s (mergeAt' i) Q (sa st a):=by
 have e1:(pendingOf st)[i]?=some (p,m,e):=by rw[<-eV,hp,<-hi];simp
 have e2:(pendingOf st)[i+1]?=some (q,n,e'):=by rw[<-eV,hp,<-hi];simp
 have e3:(((pendingOf st).setIfInBounds i (p,m+n,e)).eraseIdxIfInBounds (i+1)).toList=l1++(p,m+n,e)::l2:=by rw[Array.toList_eraseIdxIfInBounds,Array.toList_setIfInBounds,hp,<-hi];exact qy _ _ _ _ _
 have eqt:∀{a b:Nat},(a==b)=true->a=b:=λh=>by simpa using h
 have eqf:∀{a b:Nat},¬(a==b)=true->a≠b:=λh=>by simpa using h
 rw[Dv];refine aq (fg ?_);show wpS _ _ _ _ (match ((pendingOf st)[i]?,(pendingOf st)[i+1]?) with|(some (p,m,e),some (q,n,_))=>_|_=>_) _ _;rw[e1,e2];dsimp only;refine aq (Cn ?_);have tl:∀{o:Nat},bv lt false (G a q) a p o=true->lt (G a q) (G a (p+o))=false:=λh=>by simpa [bv] using h
 have fl:∀{o:Nat},bv lt false (G a q) a p o=false->lt (G a q) (G a (p+o))=true:=λh=>by simpa [bv] using h
 refine aq (bP (show q<a.size by lia) (aq (ip (bv lt false (G a q) a p) (λo ho Q' q'=>iq C (λ_ z=>hN.at z) (hN.at (by lia)) (show p+o<a.size by lia) hk q') (λo o' ho hp' hb'=>?_) (by lia) λk hk1 hk2 hk3=>?_)))
 .cases hc:lt (G a q) (G a (p+o)) with
  |false=>show (!lt _ _)=true;rw[hc];rfl
  |true=>have:=C.ltle hc (s1 (p+o) (p+o') (by lia) (by lia) (by lia));rw[tl hb'] at this;cases this
 dsimp only;have seg:(∀i,p<=i->i<q->∀j,q<=j->j<q+n->lt (G a j) (G a i)=false)->Seg lt a p (q+n):=λhh i j h1 h2 h3=>by
  by_cases c:j<q
  .exact s1 i j h1 h2 c
  by_cases c2:i<q
  .exact hh i h1 c2 j (by lia) h3
  exact s2 i j (by lia) h2 h3
 have low:∀i,p<=i->i<p+k->∀j,q<=j->j<q+n->lt (G a j) (G a i)=false:=λi h1 h2 j h3 h4=>by
  have z:=tl (hk2 (i-p) (by lia));rw[show p+(i-p)=i by lia] at z;exact C.tr _ _ _ z (s2 q j (ai _) h3 h4)
 by_cases c1:(m-k==0)=true
 .refine aQ c1 ?_;have c1:=eqt c1;exact av (h a _ hk hf rfl e3 (Cg.refl _ _ _) (seg λi h1 h2=>low i h1 (by lia)))
 refine aN c1 ?_;have c1:=eqf c1;rw[show p+k+(m-k)-1=q-1 by lia];refine aq (bP (show q-1<a.size by lia) (aq (ip (bv lt true (G a (q-1)) a q) (λo ho Q' q'=>iq C (λ_ z=>hN.at z) (hN.at (by lia)) (show q+o<a.size by lia) hk q') (λo o' ho hp' hb'=>C.lelt (s2 _ _ (by lia) (by lia) (by lia)) hb') (by lia) λn1 hn1 hn2 hn3=>?_)));dsimp only;have hig:∀j,q+n1<=j->j<q+n->∀i,p<=i->i<q->lt (G a j) (G a i)=false:=λj h1 h2 i h3 h4=>by
  have z:=hn3 (j-q) (by lia) (by lia);have z:lt (G a (q+(j-q))) (G a (q-1))=false:=z;rw[show q+(j-q)=j by lia] at z;exact C.tr _ _ _ (s1 i (q-1) h3 (by lia) (by lia)) z
 by_cases c2:(n1==0)=true
 .refine aQ c2 ?_;have c2:=eqt c2;exact av (h a _ hk hf rfl e3 (Cg.refl _ _ _) (seg λi h1 h2 j h3 h4=>hig j (by lia) h4 i h1 h2))
 refine aN c2 ?_;have c2:=eqf c2;have zx:(a.extract (p+k) q).size=q-(p+k):=ic (by lia);have zy:(a.extract q (q+n1)).size=n1:=by rw[ic (by lia),u4]
 have gx:∀i,i<(a.extract (p+k) q).size->G (a.extract (p+k) q) i=G a (p+k+i):=λi hi=>lM (by lia) (by lia);have gy:∀i,i<(a.extract q (q+n1)).size->G (a.extract q (q+n1)) i=G a (q+i):=λi hi=>lM (by lia) (by lia);have hx:Asc lt (a.extract (p+k) q):=λi j hij hj=>by rw[gx i (by lia),gx j hj];exact s1 _ _ (by lia) (by lia) (by lia)
 have hy:Asc lt (a.extract q (q+n1)):=λi j hij hj=>by rw[gy i (by lia),gy j hj];exact s2 _ _ (by lia) (by lia) (by lia)
 have Nx:∀i,i<(a.extract (p+k) q).size->N (G (a.extract (p+k) q) i):=λi hi=>by rw[gx i hi];exact hN.at (by lia)
 have Ny:∀i,i<(a.extract q (q+n1)).size->N (G (a.extract q (q+n1)) i):=λi hi=>by rw[gy i hi];exact hN.at (by lia)
 have hb:lt (G (a.extract q (q+n1)) 0) (G (a.extract (p+k) q) 0)=true:=by rw[gx 0 (by lia),gy 0 (by lia)];exact fl (hk3 k (ai _) (by lia))
 have hl:∀j,j<(a.extract q (q+n1)).size->lt (G (a.extract q (q+n1)) j) (G (a.extract (p+k) q) ((a.extract (p+k) q).size-1))=true:=λj hj=>by
  rw[gx _ (by lia),gy j hj,zx,show p+k+(q-(p+k)-1)=q-1 by lia];exact hn2 j (by lia)
 have fin:∀(r:Array Keyed)(st2:SortSt),Fr (SortSt.mk' (kindOf st) a (((pendingOf st).setIfInBounds i (p,m+n,e)).eraseIdxIfInBounds (i+1)) (gallopOf st) (failedOf st)) st2->Good lt (a.extract (p+k) q) (a.extract q (q+n1)) r->
   wpS M A E s (do
    modify λs=>setArr s (r.toList.zipIdx.foldl (λa (z,j)=>a.setIfInBounds (p+k+j) z) (arrOf s))
    return (failedOf (<-get)).isNone) Q st2:=λr st2 f g=>by
  obtain⟨f1,f2,f3,f4⟩:=f;have f2:arrOf st2=a:=f2;refine aq (fV (aq (fg ?_)));obtain⟨b1,b2⟩:=zO C (p:=p) (z:=q+n) (by lia) (by lia) (by lia) hs g s1 s2 low hig;have fn:failedOf st2=none:=f4.trans hf;have e9:(failedOf (setArr st2 (r.toList.zipIdx.foldl (λa (z:Keyed×Nat)=>a.setIfInBounds (p+k+z.2) z.1) (arrOf st2)))).isNone=true:=by show (failedOf st2).isNone=true;rw[fn];rfl
  show wpS _ _ _ _ (pure (failedOf (setArr st2 (r.toList.zipIdx.foldl (λa (z:Keyed×Nat)=>a.setIfInBounds (p+k+z.2) z.1) (arrOf st2)))).isNone) _ (setArr st2 (r.toList.zipIdx.foldl (λa (z:Keyed×Nat)=>a.setIfInBounds (p+k+z.2) z.1) (arrOf st2)));rw[e9];refine av (h _ _ (f1.trans hk) fn rfl ?_ ?_ ?_)
  .exact (congrArg Array.toList f3).trans e3
  .rw[f2];exact b1
  rw[f2];exact b2
 by_cases c3:m-k<=n1
 .refine aQ c3 ?_;exact aq (Cp C hk Nx Ny hx hy (show 0<(a.extract (p+k) q).size by lia) (show 0<(a.extract q (q+n1)).size by lia) hb hl λr st2 f g=>fin r st2 f g)
 refine aN c3 ?_;exact aq (Cq C hk Nx Ny hx hy (show 0<(a.extract (p+k) q).size by lia) (show 0<(a.extract q (q+n1)).size by lia) hb hl λr st2 f g=>fin r st2 f g)
end
def Runs(lt:Keyed->Keyed->Bool)(a:Array Keyed):List (Nat×Nat×Nat)->Nat->Nat->Prop
 | [],b,e=>b=e
 |x::l,b,e=>x.1=b/\1<=x.2.1/\Seg lt a b (b+x.2.1)/\Runs lt a l (b+x.2.1) e
section
variable {M:Model}{κ:SortKind}{N:Keyed->Prop}{lt:Keyed->Keyed->Bool}
theorem Runs.len{a:Array Keyed}:∀{l:List (Nat×Nat×Nat)}{b e:Nat},Runs lt a l b e->b+l.length<=e
 | [],_,_,h=>pb h
 |x::l,b,e,h=>by
  have:=Runs.len h.2.2.2;have:=h.2.1;rw[List.length_cons];lia
theorem Seg.congr{a c:Array Keyed}{b e:Nat}(h:∀k,b<=k->k<e->G c k=G a k)(r:Seg lt a b e):Seg lt c b e:=λi j h1 h2 d=>by
 rw[h i h1 (by lia),h j (by lia) d];exact r i j h1 h2 d
theorem Runs.congr{a c:Array Keyed}:∀{l:List (Nat×Nat×Nat)}{b e:Nat},(∀k,b<=k->k<e->G c k=G a k)->Runs lt a l b e->Runs lt c l b e
 | [],_,_,_,r=>r
 |x::l,b,e,h,r=>by
  have:=Runs.len r.2.2.2;exact⟨r.1,r.2.1,r.2.2.1.congr λk h1 h2=>h k h1 (by lia),Runs.congr (λk h1 h2=>h k (by lia) h2) r.2.2.2⟩
theorem Runs.app{a:Array Keyed}{l2:List (Nat×Nat×Nat)}:∀{c:List (Nat×Nat×Nat)}{b e:Nat},Runs lt a (c++l2) b e↔∃m,Runs lt a c b m/\Runs lt a l2 m e
 | [],b,e=>⟨λh=>⟨b,rfl,h⟩,λ⟨m,h1,h2⟩=>by cases h1;exact h2⟩
 |x::c,b,e=>by
  constructor
  .rintro⟨h1,h2,d,f⟩;obtain⟨m,g,i⟩:=Runs.app.mp f;exact⟨m,⟨h1,h2,d,g⟩,i⟩
  rintro⟨m,⟨h1,h2,d,f⟩,g⟩;exact⟨h1,h2,d,Runs.app.mpr ⟨m,f,g⟩⟩
structure RS(κ:SortKind)(N:Keyed->Prop)(lt:Keyed->Keyed->Bool)(a0:Array Keyed)(lo:Nat)(st:SortSt):Prop where
 k:PyProof.Rows.kindOf st=κ
 f:failedOf st=none
 pm:(arrOf st).Perm a0
 r:Runs lt (arrOf st) (pendingOf st).toList 0 lo
theorem tQ(C:Cmp M A E s κ N lt){g:Array Keyed}{lo i:Nat}{st:SortSt}{Q:Bool->SortSt->Prop}(O:Nm N g)(R:RS κ N lt g lo st)(ab:lo<=g.size)(hi:i+1<(pendingOf st).size)
  (q:∀c,RS κ N lt g lo c->(pendingOf c).size+1=(pendingOf st).size->(∀k,lo<=k->G (arrOf c) k=G (arrOf st) k)->Q true c):wpS M A E s (mergeAt' i) Q st:=by
 have hz:=R.pm.size_eq;have P:Nm N (arrOf st):=O.perm R.pm;obtain⟨l,x,y,l2,e,S⟩:∃l x y l2,(pendingOf st).toList=l++x::y::l2/\l.length=i:=by
  have h1:i<(pendingOf st).toList.length:=by rw[eX];lia
  have h2:i+1<(pendingOf st).toList.length:=by rw[eX];lia
  refine⟨(pendingOf st).toList.take i,(pendingOf st).toList[i],(pendingOf st).toList[i+1],(pendingOf st).toList.drop (i+1+1),?_,by rw[List.length_take];lia⟩;rw[<-List.drop_eq_getElem_cons h2,<-List.drop_eq_getElem_cons h1,List.take_append_drop]
 obtain⟨p,m,w⟩:=x;obtain⟨T,n,w'⟩:=y;have r:=R.r;rw[e] at r;obtain⟨b,v,h1,h2,z,d,B,D,o⟩:=Runs.app.mp r;have h1:p=b:=h1;subst h1;have d:T=p+m:=d;dsimp only at h2 z B D o;have le:=o.len;show wpS M A E s (mergeAt' i) Q (sa st (arrOf st));refine Ct C R.k R.f P e S d h2 B (by lia) (by rw[d];exact z) (by rw[d];exact D) λH c U X u I h K=>q c ⟨U,X,by rw[u];exact h.pm.trans R.pm,?_⟩ ?_ λk L=>by rw[u];exact h.at_ k (by lia)
 .rw[u,I];have ad:=v.len;refine Runs.app.mpr ⟨p,v.congr λk _ L=>h.at_ k (by lia),rfl,by show 1<=m+n;lia,?_,?_⟩
  .show Seg lt H p (p+(m+n));rw[d,Fs] at K;exact K
  show Runs lt H l2 (p+(m+n)) lo;rw[<-Fs];exact o.congr λk L _=>h.at_ k (by lia)
 have Y:=congrArg List.length e;have Z:=congrArg List.length I;simp only[eX,List.length_append,List.length_cons] at Y Z;lia
theorem rC{a:Array Keyed}{w:Nat}:∀{l:List (Nat×Nat×Nat)}{i b e:Nat},Runs lt a l b e->Runs lt a (l.modify i λx=>(x.1,x.2.1,w)) b e
 | [],i,_,_,h=>by
  simpa using h
 |x::l,0,_,_,h=>h
 |x::l,i+1,_,_,h=>⟨h.1,h.2.1,h.2.2.1,rC h.2.2.2⟩
theorem wp_runs(C:Cmp M A E s κ N lt){a0:Array Keyed}{st:SortSt}{Q:Unit->SortSt->Prop}(hN:Nm N a0)(hk:PyProof.Rows.kindOf st=κ)(hf:failedOf st=none)(ha:arrOf st=a0)(hp:pendingOf st=#[])(h2:2<=a0.size)
  (q:∀st',failedOf st'=none->(arrOf st').Perm a0->Seg lt (arrOf st') 0 a0.size->Q () st'):wpS M A E s sortRuns' Q st:=by
 rw[sortRuns'_eq];refine aq (fg ?_);dsimp only;rw[ha];generalize minRun' a0.size a0.size 0=mr;have R0:RS κ N lt a0 0 st:=⟨hk,hf,ha ▸ Ff _,by rw[hp];exact rfl⟩;refine aq (c_ (cV (I:=λt x st'=>x.1=none/\t<=x.2/\x.2<=a0.size/\RS κ N lt a0 x.2 st') (Q:=λx st'=>x.1=none/\x.2=a0.size/\RS κ N lt a0 x.2 st') ?step ?fin ⟨rfl,ai _,aD _,R0⟩) ?post)
 case fin=>
  rintro⟨r,lo⟩ st' ⟨e1,e2,e3,e4⟩;have e2:max 0 a0.size<=lo:=e2;have e3:lo<=a0.size:=e3;exact⟨e1,by show lo=_;lia,e4⟩
 case post=>
  rintro⟨r,lo⟩ st' ⟨e1,e2,R⟩;cases e1;have e2:lo=a0.size:=e2;subst e2;dsimp only at R |-;have l0:=R.r.len;rw[eX] at l0;refine aq (c_ (cV (I:=λt x st'=>x.1=none/\RS κ N lt a0 a0.size st'/\((pendingOf st').size+t<=a0.size\/(pendingOf st').size<=1)) (Q:=λx st'=>x.1=none/\RS κ N lt a0 a0.size st'/\(pendingOf st').size<=1) ?s2 ?f2 ⟨rfl,R,.inl (by lia)⟩) ?p2)
  case f2=>
   rintro⟨r,u⟩ st' ⟨e1,R,e2⟩;exact⟨e1,R,by lia⟩
  case p2=>
   rintro⟨r,u⟩ st' ⟨e1,R,e2⟩;cases e1;refine av (q st' R.f R.pm ?_);have r:=R.r;have z:(pendingOf st').toList.length<=1:=by rw[eX];exact e2
   match hh:(pendingOf st').toList,r,z with
   | [],r,_=>have:0=a0.size:=r;lia
   | [x],r,_=>
    have r3:=r.2.2.1;have e:0+x.2.1=a0.size:=r.2.2.2;rw[e] at r3;exact r3
   |x::y::l,r,z=>simp only[List.length_cons] at z;lia
  case s2=>
   rintro t ⟨r,u⟩ st' _ ht ⟨e1,R,e2⟩;refine aq (fg ?_);by_cases c:(pendingOf st').size<=1
   .exact aQ c (av ⟨rfl,R,c⟩)
   refine aN c ?_;refine aq (tQ C hN R (ai _) ?_ λst'' R' hz _=>av ⟨rfl,R',by lia⟩)
   repeat' split
   all_goals lia
 case step=>
  rintro t ⟨r,lo⟩ st' _ ht ⟨e1,e2,e3,R⟩;cases e1;dsimp only at e2 e3 R |-;by_cases c:lo ≥ a0.size
  .exact aQ c (av ⟨rfl,by show lo=_;lia,R⟩)
  refine aN c ?_;have hz:=R.pm.size_eq;show wpS M A E s _ _ (sa st' (arrOf st'));refine aq (za C R.k (hN.perm R.pm) (by lia) (by lia) λn a1 cg n1 n2 sg=>?_);dsimp only;have R1:RS κ N lt a0 lo (sa st' a1):=⟨R.k,R.f,cg.pm.trans R.pm,R.r.congr λk _ hk'=>cg.at_ k (.inl hk')⟩;have z1:=cg.size;by_cases c2:n<mr;refine aQ c2 ?_;refine aq (ie (aq (Cu C R.k (hN.perm R1.pm) (o:=n) n1 (by lia) (by lia) sg λa2 cg2 sg2=>?_)));refine aN (by decide) ?_;have R2:RS κ N lt a0 lo (sa st' a2):=⟨R.k,R.f,cg2.pm.trans R1.pm,R1.r.congr λk _ hk'=>cg2.at_ k (.inl hk')⟩;have n3:1<=min (a0.size-lo) mr:=by lia
  have n4:lo+min (a0.size-lo) mr<=a0.size:=by lia
  generalize min (a0.size-lo) mr=nn at sg2 n3 n4 |-
  rotate_left
  refine aN c2 ?_;have sg2:=sg;have R2:=R1;have n3:=n1;have n4:lo+n<=a0.size:=by lia
  clear n1 n2 sg c2;generalize n=nn at sg2 n3 n4 |-;generalize a1=a2 at sg2 R2 |-
  all_goals
   refine aq (fg ?_);have last:∀st3,RS κ N lt a0 lo st3->Seg lt (arrOf st3) lo (lo+nn)->wpS M A E s (do
     modify λs=>setPending s ((pendingOf s).push (lo,nn,0))
     pure (ForInStep.yield ((none:Option Unit),lo+nn))) (λ(r:ForInStep (Option Unit×Nat)) st'=>match r with | .done x=>x.1=none/\x.2=a0.size/\RS κ N lt a0 x.2 st' | .yield x=>x.1=none/\t+1<=x.2/\x.2<=a0.size/\RS κ N lt a0 x.2 st') st3:=λst3 R3 sg3=>by
    refine aq (fV (av ⟨rfl,by show t+1<=lo+nn;lia,n4,R3.k,R3.f,R3.pm,?_⟩));show Runs lt (arrOf st3) ((pendingOf st3).push (lo,nn,0)).toList 0 (lo+nn);rw[eY];exact Runs.app.mpr ⟨lo,R3.r,rfl,n3,sg3,rfl⟩
   cases hb:(pendingOf (sa st' a2)).back? with
   |none=>exact last _ R2 sg2
   |some y=>
    obtain⟨s1,n5,w⟩:=y;dsimp only;generalize power' _ _ _ _=pw;refine aq (c_ (cV (I:=λ_ x st3=>x.1=none/\RS κ N lt a0 lo st3/\Seg lt (arrOf st3) lo (lo+nn)) (Q:=λx st3=>x.1=none/\RS κ N lt a0 lo st3/\Seg lt (arrOf st3) lo (lo+nn)) ?_ (λ_ _ z=>z) ⟨rfl,R2,sg2⟩) ?_)
    .rintro t3 ⟨r,u⟩ st3 _ ht3 ⟨e1,R3,sg3⟩;refine aq (fg ?_);by_cases c3:(pendingOf st3).size>1
     .rw[Ij c3,uT (show (pendingOf st3).size-2<(pendingOf st3).size by lia)];dsimp only
      split
      .exact av ⟨rfl,R3,sg3⟩
      exact aq (tQ C hN R3 e3 (by lia) λst4 R4 _ k4=>av ⟨rfl,R4,sg3.congr λk hk1 _=>k4 k hk1⟩)
     rw[Ii c3];exact av ⟨rfl,R3,sg3⟩
    rintro⟨r,u⟩ st3 ⟨e1,R3,sg3⟩;cases e1;refine aq (fV (last _ ⟨R3.k,R3.f,R3.pm,?_⟩ sg3));show Runs lt (arrOf st3) ((pendingOf st3).modify _ _).toList 0 lo;rw[Array.toList_modify];exact rC R3.r
end
end TimS
end
section
namespace L2
open PySem PySem.Spec PyProof.Rows PySem.W
open HT (lexLt)
theorem rG:∀a b:List Int,lexLt a b=true->lexLt b a=false
 | [],[],h=>rfl
 | [],_::_,_=>rfl
 |_::_,[],h=>by cases h
 |x::xs,y::ys,h=>by
  rw[HT.lexLt_cons] at h |-;by_cases e:x=y
  .rw[Ij e] at h;rw[Ij e.symm];exact rG xs ys h
  rw[Ii e] at h;rw[Ii λz=>e z.symm];have:x<y:=Im h;exact Il (by lia)
theorem ue:∀a b c:List Int,lexLt b a=false->lexLt c b=false->lexLt c a=false
 | [],b,[],_,_=>rfl
 | [],[],_::_,_,h=>rfl
 | [],_::_,_::_,_,_=>rfl
 |_::_,[],_,h,_=>by cases h
 |_::_,_::_,[],_,h=>by cases h
 |x::xs,y::ys,z::zs,h1,h2=>by
  rw[HT.lexLt_cons] at h1 h2 |-;by_cases e:y=x
  .subst e;rw[Ij rfl] at h1;by_cases d:z=y
   .rw[Ij d] at h2 |-;exact ue xs ys zs h1 h2
   rw[Ii d] at h2 |-;exact h2
  rw[Ii e] at h1;have f:¬y<x:=of_decide_eq_false h1;by_cases d:z=y
  .subst d;rw[Ii e];exact h1
  rw[Ii d] at h2;have l2:¬z<y:=of_decide_eq_false h2;rw[Ii (by lia)];exact Il (by lia)
def Tups(K:Frag)(H:Hp)(ys:List V)(ks:List (List Int)):Prop:=Paired (λy k=>∃b,y=V.ref b/\SqT K H b (k.map V.int)/\k≠[]) ys ks
theorem Dp{h h':Heap}{a:Addr}{m b:Str->Option Value}(h1:h.Ns a m)(h2:h.Ns a b):m=b:=by obtain⟨o,es,ep,e,f,_,g⟩:=h1;obtain⟨o',l,n,c,d,_,i⟩:=h2;rw[e] at c;cases c;rw[f] at d;cases d;funext x;rw[<-g,<-i]
section
theorem Inv.newsKept{h':Heap}{m:Str->Option Value}{t':Nat}{more:List (Addr×Obj)}(I:Inv X Io Z H s)(F:Fr X.base X.env.locals s.heap m)(c:Fr X.base X.env.locals h' m)(N:News X.base X.env.locals h' (more++lg X.base s.heap X.env.locals)) :
  (∀b o,b≠X.env.locals->s.heap.get? b=some o->h'.get? b=some o)/\(∀m,s.heap.Ns X.env.locals m->h'.Ns X.env.locals m):=by
 refine⟨λb o f e=>?_,λg hm=>by rw[<-Dp (h':=h') F.ns hm];exact c.ns⟩;cases q:X.base.get? b with
 |some u=>
  have d:=I.bk b u q;rw[e] at d;cases d;exact c.keep b _ q
 |none=>exact (N (b,o) (List.mem_append_right _ (mL f q e))).1
theorem a6.there{h:Heap}{a:Addr}{o:HO}(x:a6 P w H h a o):∃ob,h.get? a=some ob:=by
 cases o with
 |lst xs=>obtain⟨_,_,_,_,e⟩:=x;exact⟨_,e⟩
 |tup xs=>obtain⟨_,_,_,ob,e,_⟩:=x;exact⟨_,e⟩
 |dK kvs=>obtain⟨_,_,_,_,o,_,_,e,_⟩:=x;exact⟨_,e⟩
 |dT kvs=>obtain⟨_,_,_,_,o,_,_,e,_⟩:=x;exact⟨_,e⟩
 |set S n=>obtain⟨o,_,_,_,e,_⟩:=x;exact⟨_,e⟩
 |ins C dx fs=>obtain⟨_,_,_,e,_⟩:=x;exact⟨_,e⟩
 |own y=>exact x
 |xd fs=>obtain⟨_,⟨_,_,_,e,_⟩,_⟩:=x;exact⟨_,e⟩
 |rng lo hi=>obtain⟨_,_,_,e⟩:=x;exact⟨_,e⟩
 |frz ob u=>obtain⟨e,_⟩:=x;exact⟨_,e⟩
 |tbl ps=>exact⟨_,(show h.get? a=some _ from x)⟩
 |met f y=>exact⟨_,(show h.get? a=some _ from x)⟩
 |ext φ=>obtain⟨_,e,_⟩:=x;exact e
theorem HOk.none_of{h:Heap}{a:Addr}(x:HOk P w H h)(e:h.get? a=none):H a=none:=by
 cases q:H a with
 |none=>rfl
 |some u=>
  obtain⟨o,z⟩:=(x a u q).there;rw[e] at z;cases z
theorem Inv.laidN{h':Heap}{t':Nat}{a:Addr}{o:HO}(I:Inv X Io Z H s)(k:∀b o,b≠X.env.locals->s.heap.get? b=some o->h'.get? b=some o)(g:∀m,s.heap.Ns X.env.locals m->h'.Ns X.env.locals m)
  (ha:s.heap.get? a=none) (new:∀H',a6 X.prog X.w H' h' a o) (p:∀y fs,o≠.ins y fs []):Inv X Io Z (upd H a o) {s with heap:=h',toks:=t'}:=by
 have f:H a=none:=I.hok.none_of ha;have h:∀b u,H b=some u->b≠X.env.locals:=λb u e z=>by rw[z,I.free] at e;cases e
 refine I.step (g':=s.gens) (d':=s.drawn) (ch:=[]) (λ_ z=>nomatch z) (λb o d _ _ e _=>k b o d e) (λb o d _ _ e _=>⟨o.slots,k b o d e⟩) (λb o _ e n=>?_) (λb o _ e=>?_) (λb xs e=>?_) (λb o u e=>?_) (λb ps e=>⟨#[],?_⟩) g (λb u e=>?_) I.bare
 .rw[aB (λz=>by rw[z,ha] at e;cases e)];exact n
 .by_cases d:b=X.env.locals
  .subst d;obtain⟨m,hm,_⟩:=I.loc;obtain⟨o',_,_,i,_⟩:=g m hm;exact⟨o',i⟩
  exact⟨o,k b o d e⟩
 .rw[aB (ah e f)];exact e
 .rw[aB (ah e f)];exact e
 .rw[aB (ah e f),e];simp
 by_cases d:b=a
 .subst d;rw[aG] at e;cases e;exact new _
 rw[aB d] at e;refine (I.hok b u e).stay (λc v l q=>k c v ?_ q) (λc q=>by rw[aB (ah q f)];exact q) λc xs q=>by rw[aB (ah q f)];exact q
 rcases l with z|z
 .rw[z];exact h b u e
 exact h c _ z
theorem Inv.keptN{h':Heap}{t':Nat}(I:Inv X Io Z H s)(k:∀b o,b≠X.env.locals->s.heap.get? b=some o->h'.get? b=some o)(f:∀m,s.heap.Ns X.env.locals m->h'.Ns X.env.locals m):Inv X Io Z H {s with heap:=h',toks:=t'}:=by
 have g:∀b u,H b=some u->b≠X.env.locals:=λb u e z=>by rw[z,I.free] at e;cases e
 refine I.step (g':=s.gens) (d':=s.drawn) (ch:=[]) (λ_ z=>nomatch z) (λb o d _ _ e _=>k b o d e) (λb o d _ _ e _=>⟨o.slots,k b o d e⟩) (λb o _ e n=>n) (λb o _ e=>?_) (λb xs e=>e) (λb o u e=>e) (λb ps e=>⟨#[],by rw[e];simp⟩) f (λb u e=>?_) I.bare
 .by_cases d:b=X.env.locals
  .subst d;obtain⟨m,hm,_⟩:=I.loc;obtain⟨o',_,_,h,_⟩:=f m hm;exact⟨o',h⟩
  exact⟨o,k b o d e⟩
 refine (I.hok b u e).stay (λc v i q=>k c v ?_ q) (λc q=>q) λc xs q=>q;rcases i with z|z
 .rw[z];exact g b u e
 exact g c _ z
end
def dw(h:Heap)(a:Addr)(vs:List Value):Heap:=((h.update a (Obj.mapSeq λ_=>#[])).push (seqObj "tuple" vs.toArray 0)).push (seqObj "list" #[] 0)
section
variable {prog:Program}{κ:SortKind}{rk:Value->List Int}
theorem mU{a:Addr}{vs:List Value}{n:Nat}{P:PySem.Fin->Shared->Prop}(ho:s.heap.get? a=some (seqObj "list" vs.toArray n))(hz:vs.length<=sizeLine)
  (hk:2<=vs.length->∀Q:SortKind->Shared->Prop,Q κ {s with heap:=dw s.heap a vs}->wpAny (model prog w) A (keyKind' vs.toArray) Q E {s with heap:=dw s.heap a vs})
  (hc:2<=vs.length->∀x∈vs,∀y∈vs,∀C:Bool->Shared->Prop,C (HT.lexLt (rk x) (rk y)) {s with heap:=dw s.heap a vs}->wpAny (model prog w) A (keyLt' κ x y) C (λ_ _=>False) {s with heap:=dw s.heap a vs})
  (h:∀out:List Value,out.Perm vs->out.Pairwise (λu v=>HT.lexLt (rk v) (rk u)=false)->P (.done (.ret .none)) {s with heap:=sortedHeap s.heap a vs out.toArray}):wpAny (model prog w) A (Builtin.«list.sort» ⟨[.ref a],[]⟩) P E s:=by
 have lt:a<s.heap.objs.size:=aH ho;obtain⟨e1,h1⟩:∃e1,(s.heap.update a (Obj.mapSeq λ_=>(#[]:Array Value))).get? a=some (seqObj "list" #[] e1):=⟨_,Ge ho λ_=>#[]⟩;have h3:(dw s.heap a vs).get? a=some (seqObj "list" #[] e1):=aE _ (aE _ h1);have zs:(vs.toArray.zip vs.toArray).map (·.2)=vs.toArray:=by apply ko.mp;simp only[oV,List.zip_toArray];exact List.map_snd_zip (ai _)
 rw[list_sort_plain];refine aa (vD ho rfl (aa (vE ho rfl (aa (seqEpoch_at h1 rfl (aa (Gv (aa (pJ (c9 ?_) (aD _))) hz)))) (by rw[List.size_toArray];lia) (aD _))));show wpAny _ _ _ _ _ {s with heap:=dw s.heap a vs};have fin:∀st:SortSt,failedOf st=none->((arrOf st).map (·.2)).toList.Perm vs->((arrOf st).map (·.2)).toList.Pairwise (λu v=>HT.lexLt (rk v) (rk u)=false)->∀s':Shared,s'={s with heap:=dw s.heap a vs}->wpAny (model prog w) A (do
   let touched:=(<-seqEpoch a) != e1
   Builtin.List.listUpdate (.ref a) λ_=>(arrOf st).map (·.2)
   if let some e:=failedOf st then rule "list.sort.comparison-raised";throw e
   if touched then rule "list.sort.modified";raiseError "ValueError" "list modified during sort"
   ret .none) P E s':=by
  rintro st hf hp hs _ rfl;refine aa (seqEpoch_at h3 rfl (aa (vE h3 rfl ?_ (aD _) (by have:=hp.length_eq;rw[eX] at this;lia))));rw[hf];simp only[bne_self_eq_false,iL,if_false];exact aj (by
   have z:=h _ hp hs
   rwa [Array.toArray_toList] at z)
 dsimp only;by_cases h2:vs.length<2
 .have hs2:vs.toArray.size<2:=by rw[List.size_toArray];exact h2
  rw[Ij hs2,Ij hs2];refine aa (aj ?_);rw[StateT.run_pure];refine aa (aj ?_);refine fin (SortSt.mk' general' (vs.toArray.zip vs.toArray) #[] 7 none) rfl ?_ ?_ _ rfl
  .show (((vs.toArray.zip vs.toArray).map (·.2)).toList).Perm vs;rw[zs]
  show (((vs.toArray.zip vs.toArray).map (·.2)).toList).Pairwise _;rw[zs];cases vs with
  |nil=>exact .nil
  |cons x l=>rw[List.eq_nil_of_length_eq_zero (show l.length=0 by rw[List.length_cons] at h2;lia)];exact List.pairwise_singleton _ _
 have nt:¬vs.toArray.size<2:=by rw[List.size_toArray];lia
 rw[Ii nt,Ii nt];refine aa (hk (by lia) _ ?_);have mem:∀x∈(vs.toArray.zip vs.toArray),x.1∈vs/\x.1=x.2:=λx hx=>by
  have hx:x∈vs.zip vs:=by simpa using hx
  obtain⟨i,hi⟩:=List.mem_iff_getElem?.mp hx;rw[List.getElem?_zip_eq_some] at hi;exact⟨List.mem_of_getElem? hi.1,cq (hi.1.symm.trans hi.2)⟩
 have C:TimS.Cmp (model prog w) A E {s with heap:=dw s.heap a vs} κ (λx=>x∈(vs.toArray.zip vs.toArray)) (λx y=>HT.lexLt (rk x.1) (rk y.1)):=by refine⟨λ_ _=>rG _ _,λ_ _ _=>ue _ _ _,λ{x y st Q} hx hy hk' q=>?_⟩;rw[lt'_eq];refine aq (fg ?_);rw[hk'];refine aq (wpS_lift (mB (bT (hc (by lia) _ (mem x hx).1 _ (mem y hy).1 (λb s'=>b=HT.lexLt (rk x.1) (rk y.1)/\s'={s with heap:=dw s.heap a vs}) ⟨rfl,rfl⟩) (λb s' ⟨e,e'⟩=>?_) λ_ _ z=>z.elim)));subst e e';exact⟨rfl,av q⟩
 have hzz:(vs.toArray.zip vs.toArray).size=vs.length:=by simp
 refine aa (bT (TimS.wp_runs C (st:=SortSt.mk' κ (vs.toArray.zip vs.toArray) #[] 7 none) (λx hx=>hx) rfl rfl rfl rfl (by rw[hzz];lia) (Q:=λ_ st=>failedOf st=none/\(arrOf st).Perm (vs.toArray.zip vs.toArray)/\TimS.Seg (λx y=>HT.lexLt (rk x.1) (rk y.1)) (arrOf st) 0 vs.length) λst' f p g=>⟨f,p,by rw[hzz] at g;exact g⟩) ?_ λ_ _ e=>e);rintro⟨⟨⟩,st'⟩ s' ⟨e,hf,hp,hg⟩;refine fin st' hf ?_ ?_ s' e
 .have:=(Fh.mp hp).map (·.2);rw[<-oV,<-oV,zs] at this;exact this
 rw[oV,List.pairwise_map];refine List.pairwise_iff_getElem.mpr λi j hi hj hij=>?_;have hz2:(arrOf st').size=vs.length:=hp.size_eq.trans hzz;have hi':i<(arrOf st').size:=by simpa using hi
 have hj':j<(arrOf st').size:=by simpa using hj
 have g:=hg i j (aD _) (by lia) (by lia);have e2:∀k (hk:k<(arrOf st').size),TimS.G (arrOf st') k=(arrOf st')[k]:=λk hk=>by simp[TimS.G,hk]
 have e3:∀k (hk:k<(arrOf st').size),((arrOf st')[k]).1=((arrOf st')[k]).2:=λk hk=>(mem _ (hp.mem_iff.mp (Array.getElem_mem hk))).2;have g:HT.lexLt (rk (TimS.G (arrOf st') j).1) (rk (TimS.G (arrOf st') i).1)=false:=g;rw[e2 i hi',e2 j hj',e3 i hi',e3 j hj'] at g;simpa using g
theorem qc{l:Addr}{vs:List Value}{Q:Value->Shared->Prop}(f:s.heap.IsList l vs.toArray)(z:vs.length+1<=sizeLine)
  (i:∀h':Heap,(∀b o,s.heap.get? b=some o->h'.get? b=some o)->2<=vs.length->∀Q:SortKind->Shared->Prop,Q κ {s with heap:=h'}->wpAny (model prog w) A.in1.in1 (keyKind' vs.toArray) Q E {s with heap:=h'})
  (n:∀h':Heap,(∀b o,s.heap.get? b=some o->h'.get? b=some o)->2<=vs.length->∀x∈vs,∀y∈vs,∀C:Bool->Shared->Prop,C (HT.lexLt (rk x) (rk y)) {s with heap:=h'}->wpAny (model prog w) A.in1.in1 (keyLt' κ x y) C (λ_ _=>False) {s with heap:=h'})
  (h:∀out:List Value,out.Perm vs->out.Pairwise (λu v=>HT.lexLt (rk v) (rk u)=false)->Q (.ref (s.heap.objs.size+1)) {s with heap:=sortedAll s.heap vs out.toArray}):wpAny (model prog w) A (call (.builtin "sorted") [.ref l]) Q E s:=by
 refine uV kind_sorted plain_sorted entry_sorted (args_sorted1 _) ?_;unfold Builtin.«sorted»;refine aa (m:=checkCount "sorted" 1 1 _) (aj (aa (collect_list f (aa (pJ ?_ (by lia))) (by lia))));generalize c:(s.heap.push (seqObj "list" #[] 0)).update s.heap.objs.size (Obj.mapSeq (·++vs.toArray))=G;have d:G.objs.size=s.heap.objs.size+1:=by rw[<-c,Fn,size_push']
 have e:(G.push (seqObj "list" vs.toArray 0)).get? (s.heap.objs.size+1)=some (seqObj "list" vs.toArray 0):=by rw[<-d];exact a9 _ rfl
 have p:∀out:List Value,sortedAll s.heap vs out.toArray=sortedHeap (G.push (seqObj "list" vs.toArray 0)) (s.heap.objs.size+1) vs out.toArray:=λout=>by rw[<-c];rfl
 have old:∀b o,s.heap.get? b=some o->(dw (G.push (seqObj "list" vs.toArray 0)) (s.heap.objs.size+1) vs).get? b=some o:=λb o q=>by
  have lt:=aH q;have g:G.get? b=some o:=by rw[<-c,me _ _ _ _ (aU lt)];exact aE _ q
  refine aE _ (aE _ ?_);rw[me _ _ _ _ (aU (fc lt))];exact aE _ g
 show wpAny _ _ _ _ _ {s with heap:=G.push (seqObj "list" vs.toArray 0)};rw[d];refine aa (c9 (fT vH ⟨_,e,rfl⟩ vC ?body (vB _)))
 case body=>
  refine mU (rk:=rk) (κ:=κ) (s:={s with heap:=G.push (seqObj "list" vs.toArray 0)}) e (by lia) (i _ old) (n _ old) λout r p2=>?_;exact⟨_,rfl,aj ⟨_,rfl,(p out) ▸ h out r p2⟩⟩
end
section
theorem xo(ys:List V):((List.range ys.length).map λi=>ys.getD i V.non)=ys:=by refine List.ext_getElem (by simp) λi h1 h2=>?_;simp[h2]
theorem Paired.getE{α β:Type}{F:α->β->Prop}:∀{b:List α}{l2:List β}{i:Nat}{x:α},Paired F b l2->b[i]?=some x->∃y,l2[i]?=some y/\F x y
 |_,_,_,_,.nil,e=>by simp at e
 |_,_,0,_,.cons r _,e=>by simp at e;subst e;exact⟨_,rfl,r⟩
 |_,_,i+1,x,.cons _ t,e=>by
  obtain⟨u,h1,h2⟩:=Paired.getE (i:=i) (x:=x) t (by simpa using e);exact⟨u,by simpa using h1,h2⟩
theorem qo{ys:List V}{b:List Value}(r:Vals ys b):∀(ix:List Nat),(∀i∈ix,i<ys.length)->Vals (ix.map λi=>ys.getD i .non) (ix.map λi=>b.getD i Value.none)
 | [],_=>.nil
 |i::ix,h=>by
  refine .cons ?_ (qo r ix λj c=>h j (List.mem_cons_of_mem _ c));have hi:=h i List.mem_cons_self;obtain⟨u,d,e⟩:=r.get (i:=i) (x:=ys[i]) (by simp[hi]);have f:ys.getD i .non=ys[i]:=by simp[List.getD,hi]
  have g:b.getD i Value.none=u:=by rw[List.getD,d];rfl
  show ar (ys.getD i .non) (b.getD i Value.none);rw[f,g];exact e
theorem Cm{prog:Program}(us ws:List Value)(ns ms:List Int)(i:Nat)(s:Shared){fin:Bool}{Q:Bool->Shared->Prop}(h1:IntsAre us ns)(h2:IntsAre ws ms)(e:fin=decide (ns.length<ms.length))(q:Q (HT.lexLt ns ms) s):KatLex prog w A true fin Q (us.zip ws) i s:=by
 induction h1 generalizing ws ms i with
 |nil=>
  subst e;cases h2 with
  |nil=>exact q
  |cons _ _ _=>exact kat_nil (by simpa [HT.lexLt] using q)
 |cons a t f c=>cases h2 with
  |nil=>subst e;exact kat_nil (by simpa [HT.lexLt] using q)
  |cons b u d=>
  rw[HT.lexLt_cons] at q;refine kat_cons (vN ?_);by_cases h:a=b
  .rw[Ij h] at q;rw[show (a==b)=true by simpa using h];refine kat_yes (c _ _ (i+1) d ?_ q);rw[e];simp
  rw[Ii h] at q;rw[show (a==b)=false by simpa using h];refine kat_no ?_;cases g:(true&&i==0) with
  |true=>exact oneLt_int q
  |false=>exact kat_one _ _ (lt_int q)
theorem xZ{α β:Type}{f:α->β}:∀{l c:List β},c.Perm l->∀ix:List α,l=ix.map f->∃b:List α,b.Perm ix/\c=b.map f:=by
 intro l c h;induction h with
 |nil=>exact λix e=>⟨ix,.refl _,e⟩
 |cons x _ d=>
  intro ix e;cases ix with
  |nil=>cases e
  |cons i ix=>
   rw[List.map_cons] at e;injection e with g m;obtain⟨b,p,q⟩:=d ix m;exact⟨i::b,p.cons i,by rw[List.map_cons,g,q]⟩
 |swap x y l=>
  intro ix e
  match ix,e with
  |i::j::ix,e=>
   simp only[List.map_cons,List.cons.injEq] at e;exact⟨j::i::ix,.swap _ _ _,by rw[List.map_cons,List.map_cons,e.1,e.2.1,e.2.2]⟩
 |trans _ _ n o=>
  intro ix e;obtain⟨r,p2,s⟩:=o ix e;obtain⟨u,v,w⟩:=n r s;exact⟨u,v.trans p2,w⟩
def Ky(K:Frag)(H:Hp)(ys:List V)(ks:List (List Int)):Prop:=Paired (λy k=>∃n,y=V.int n/\k=[n]) ys ks\/Tups K H ys ks
def rkV(h:Heap):Value->List Int
 |.int n _=>[n]
 |.ref b=>match h.get? b with
  |some o=>match o.data with
   |.seq xs _=>xs.toList.map λv=>match v with | .int n _=>n|_=>0
   |_=>[]
  |none=>[]
 |_=>[]
theorem nN:∀{us:List Value}{ns:List Int},IntsAre us ns->(us.map λv=>match v with | .int n _=>n|_=>0)=ns
 |_,_,.nil=>rfl
 |_,_,.cons n t r=>by rw[List.map_cons,nN r]
theorem oA(I:Inv X Io Z H s){ys:List V}{ks:List (List Int)}{c:List Value}(h:Ky [] H ys ks)(p:Vals ys c):∃κ:SortKind,(∀i,i<c.length->rkV s.heap (c.getD i Value.none)=ks.getD i [])/\
  ∀{A:Around}{E:Value->Shared->Prop}(h':Heap),(∀b o,s.heap.get? b=some o->o.cls=.type "tuple"->h'.get? b=some o)->2<=c.length->
   (∀Q:SortKind->Shared->Prop,Q κ {s with heap:=h'}->wpAny (model X.prog X.w) A (keyKind' c.toArray) Q E {s with heap:=h'})/\
   ∀x∈c,∀y∈c,∀C:Bool->Shared->Prop,C (HT.lexLt (rkV s.heap x) (rkV s.heap y)) {s with heap:=h'}->wpAny (model X.prog X.w) A (keyLt' κ x y) C (λ_ _=>False) {s with heap:=h'}:=by
 rcases h with h|h
 .obtain⟨ns,rfl,rfl⟩:∃ns:List Int,ys=ns.map V.int/\ks=ns.map λn=>[n]:=by
   clear p;induction h with
   |nil=>exact⟨[],rfl,rfl⟩
   |cons r _ B=>
    obtain⟨n,rfl,rfl⟩:=r;obtain⟨ns,rfl,rfl⟩:=B;exact⟨n::ns,rfl,rfl⟩
  have D:=gZ p;have g:∀{c:List Value}{ns:List Int},IntsAre c ns->∀x∈c,∃n t,x=Value.int n t:=λ{c ns} D x l=>by
   induction D with
   |nil=>cases l
   |cons n t _ B=>
    rcases List.mem_cons.mp l with rfl|l
    .exact⟨n,t,rfl⟩
    exact B l
  refine⟨oneType',λi hi=>?_,λ{A E} h' _ h2=>⟨λQ q=>?_,λx l y M C q=>?_⟩⟩
  .obtain⟨u,N,L⟩:=p.get (i:=i) (x:=(ns.map V.int)[i]'(by rw[p.length];exact hi)) (by simp);have ab:i<ns.length:=by have:=p.length;rw[List.length_map] at this;lia
   rw[List.getElem_map] at L;obtain⟨t,rfl⟩:=L;rw[List.getD,N,List.getD,List.getElem?_map,List.getElem?_eq_getElem ab];rfl
  .match c,h2,D with
   |v1::v2::rest,_,D=>rw[keyKind_ints D];exact aj q
  obtain⟨n,t,rfl⟩:=g D x l;obtain⟨m,u,rfl⟩:=g D y M;refine kat_lt_int ?_;have e:HT.lexLt (rkV s.heap (Value.int n t)) (rkV s.heap (Value.int m u))=decide (n<m):=by
   show HT.lexLt [n] [m]=_;rw[HT.lexLt_cons];by_cases z:n=m
   .rw[Ij z,Il (by lia)];rfl
   rw[Ii z]
  rw[<-e];exact q
 have at_:∀(ks:List (List Int))(ys:List V)(c:List Value),Tups [] H ys ks->Vals ys c->Paired (λv k=>k≠[]/\∃b us o n,v=Value.ref b/\IntsAre us k/\s.heap.get? b=some o/\o.cls=.type "tuple"/\o.data=.seq us.toArray n) c ks:=by
  intro ks;induction ks with
  |nil=>intro ys c a b;cases a;cases b;exact .nil
  |cons k ks B=>
   intro ys c a b;cases a with
   |cons hh tt=>
    obtain⟨bb,e0,hq,O⟩:=hh;subst e0;cases b with
    |cons r rr=>
     cases r;obtain⟨us,r5,⟨o,p1,p2,n,p3⟩,_⟩:=I.tuple hq;exact .cons ⟨O,bb,us,o,n,rfl,gZ r5,p1,p2,p3⟩ (B _ _ tt rr)
 have P:=at_ ks ys c h p;have R:∀{b:Addr}{us:List Value}{o:Obj}{n:Nat}{k:List Int},IntsAre us k->s.heap.get? b=some o->o.data=.seq us.toArray n->rkV s.heap (Value.ref b)=k:=λ{b us o n k} d f K=>by
  show (match s.heap.get? b with|some o=>_|none=>_)=_;rw[f];show (match o.data with | .seq xs _=>_|_=>_)=_;rw[K];exact nN d
 refine⟨tuples' (Value.type "int" != Value.type "tuple"),λi hi=>?_,λ{A E} h' old h2=>⟨λQ q=>?_,λx l y M C q=>?_⟩⟩
 .obtain⟨k,N,_,b,us,o,n,L,d,f,_,K⟩:=Paired.getE (i:=i) (x:=c[i]) P (by simp[hi]);rw[show c.getD i Value.none=c[i] by simp[List.getD,hi],L,R d f K,List.getD,N];rfl
 .obtain⟨fs,hk,an,ad⟩:∃fs,KatTups h' c fs/\fs.length=c.length/\∀v∈fs,∃n t,v=Value.int n t:=by
   clear p h2 h at_;induction P with
   |nil=>exact⟨[],.nil,rfl,λ_ h=>nomatch h⟩
   |cons r _ B=>
    obtain⟨O,b,us,o,n,rfl,d,f,S,K⟩:=r;obtain⟨fs,U,al,am⟩:=B;cases d with
    |nil=>exact absurd rfl O
    |cons z tk r2=>
     refine⟨Value.int z tk::fs,.cons (old _ _ f S) S K (by simp) U,by simp[al],λv g=>?_⟩;rcases List.mem_cons.mp g with rfl|g
     .exact⟨_,_,rfl⟩
     exact am v g
  refine kat_kind (T:=.type "int") hk (by lia) (λv g=>?_) (by decide) q;obtain⟨n,t,rfl⟩:=ad v g;exact Looks.of_pure rfl
 obtain⟨i,hi⟩:=List.mem_iff_getElem?.mp l;obtain⟨j,hj⟩:=List.mem_iff_getElem?.mp M;obtain⟨U,_,_,b1,u1,o1,n1,rfl,d,Y,c1,z1⟩:=Paired.getE P hi;obtain⟨k2,_,_,b2,u2,o2,n2,rfl,f,x2,c2,z2⟩:=Paired.getE P hj;rw[R d Y z1,R f x2 z2] at q;rw[show (Value.type "int" != Value.type "tuple")=true by decide];refine kat_lt (old _ _ Y c1) z1 (old _ _ x2 c2) z2 (Cm u1 u2 _ _ 0 _ d f ?_ q);rw[<-d.length,<-f.length];simp
theorem lI{ys:List V}{ks:List (List Int)}{c out:List Value}(d:Vals ys c)(g:∀i,i<c.length->rkV s.heap (c.getD i Value.none)=ks.getD i [])(p:out.Perm c)(l:out.Pairwise (λu v=>HT.lexLt (rkV s.heap v) (rkV s.heap u)=false)) :
  ∃ix:List Nat,ix.Perm (List.range ys.length)/\(ix.map λi=>ks.getD i []).Pairwise (λa b=>HT.lexLt b a=false)/\Vals (ix.map λi=>ys.getD i .non) out:=by
 have e:c=(List.range c.length).map λi=>c.getD i Value.none:=by refine List.ext_getElem (by simp) λi h1 h2=>?_;simp[h1]
 obtain⟨ix,p2,rfl⟩:=xZ p _ e;have f:∀i∈ix,i<c.length:=λi hi=>List.mem_range.mp (p2.mem_iff.mp hi);refine⟨ix,by rw[d.length];exact p2,?_,qo d ix λi hi=>by rw[d.length];exact f i hi⟩;rw[List.pairwise_map] at l |-;refine List.Pairwise.imp_of_mem (λ{a b} ha m h=>?_) l;rw[g _ (f a ha),g _ (f b m)] at h;exact h
def C8(K:Frag):List V->Hp->VK->Prop:=λxs H Q=>∃(a:Addr)(ys:List V)(ks:List (List Int)),xs=[.ref a]/\SqL K H a ys/\Ky K H ys ks/\ys.length<5000/\
 ∀p (ix:List Nat),H p=none->ix.Perm (List.range ys.length)->(ix.map λi=>ks.getD i []).Pairwise (λa b=>HT.lexLt b a=false)->Q (.ref p) (upd H p (.lst (ix.map λi=>ys.getD i .non)))
theorem v8:bJ X (.builtin "sorted") (C8 []):=by intro Io s Z H xs us Q I r h;obtain⟨a,ys,ks,rfl,g,l,z,q⟩:=h;obtain⟨u,rfl,m⟩:=Vals.one r;cases m;obtain⟨n,c,p,_⟩:=I.list g;have A:=c.length;obtain⟨κ,v,ask⟩:=oA I l c;refine qc (κ:=κ) (rk:=rkV s.heap) p.isList (by rw[cu];lia) (λh' old h2=>(ask h' (λb o e _=>old b o e) h2).1) (λh' old h2=>(ask (E:=λ_ _=>False) h' (λb o e _=>old b o e) h2).2) λout w p2=>?_;obtain⟨ix,d,x,y⟩:=lI c v w p2;obtain⟨e,he⟩:=vI s.heap n out.toArray;have f:s.heap.objs.size<=s.heap.objs.size+1:=iP _;exact⟨.ref (s.heap.objs.size+1),upd H (s.heap.objs.size+1) (.lst (ix.map λi=>ys.getD i .non)),I.laid (t':=s.toks) (λb o e=>vJ e) f ⟨by rw[List.length_map,d.length_eq,List.length_range,cu];lia,out,e,y,by rw[he]⟩,rfl,q _ ix (I.hok.fresh f) d x⟩
theorem uf{K:Frag}(ns:List Int):Ky K H (ns.map V.int) (ns.map λn=>[n]):=.inl (by
 induction ns with
 |nil=>exact .nil
 |cons n ns b=>exact .cons ⟨n,rfl,rfl⟩ b)
theorem uh{ns:List Int}{ix:List Nat}(p:ix.Perm (List.range (ns.map V.int).length))(w:(ix.map λi=>(ns.map λn=>[n]).getD i []).Pairwise (λa b=>HT.lexLt b a=false)) :
  ∃ms:List Int,ms.Perm ns/\ms.Pairwise (·<=·)/\(ix.map λi=>(ns.map V.int).getD i .non)=ms.map V.int:=by
 rw[List.length_map] at p;have c:∀i∈ix,i<ns.length:=λi hi=>List.mem_range.mp (p.mem_iff.mp hi);refine⟨ix.map λi=>ns.getD i 0,?_,?_,?_⟩
 .have:=p.map λi=>ns.getD i 0;refine this.trans (List.Perm.of_eq (List.ext_getElem (by simp) λi h1 h2=>?_));simp[h2]
 .rw[List.pairwise_map] at w |-;refine List.Pairwise.imp_of_mem (λ{a b} ha d h=>?_) w;have h1:=c a ha;have h2:=c b d;simp only[List.getD,List.getElem?_map,List.getElem?_eq_getElem h1,List.getElem?_eq_getElem h2,kr,u9] at h |-;rw[HT.lexLt_cons] at h;by_cases z:ns[b]=ns[a]
  .lia
  rw[Ii z] at h;have:=of_decide_eq_false h;lia
 rw[List.map_map];refine List.map_congr_left λi hi=>?_;have:=c i hi;simp[List.getD,this]
def C6(K:Frag):List V->Hp->VK->Prop:=λxs H Q=>∃(a:Addr)(ys:List V)(ks:List (List Int)),xs=[.ref a]/\SqL K H a ys/\Tups K H ys ks/\ys.length<5000/\
 ∀p (ix:List Nat),H p=none->ix.Perm (List.range ys.length)->(ix.map λi=>ks.getD i []).Pairwise (λa b=>HT.lexLt b a=false)->Q (.ref p) (upd H p (.lst (ix.map λi=>ys.getD i .non)))
theorem vX:bJ X (.builtin "sorted") (C6 []):=by intro Io s Z H xs us Q I r h;obtain⟨a,ys,ks,rfl,b,c,d,q⟩:=h;exact v8 Io s Z H _ us Q I r ⟨a,_,_,rfl,b,.inr c,d,q⟩
end
def DAt(h:Heap)(d:Addr)(es:Array DictEntry)(ep:Nat):Prop:=∃o,h.get? d=some o/\o.ExactDict/\o.data=.dict es ep
theorem DAt.lt{h:Heap}{d:Addr}{es:Array DictEntry}{ep:Nat}(x:DAt h d es ep):d<h.objs.size:=let ⟨_,e,_⟩:=x;aH e
theorem DAt.at{h h':Heap}{d:Addr}{es:Array DictEntry}{ep:Nat}(x:DAt h d es ep)(k:∀o,h.get? d=some o->h'.get? d=some o):DAt h' d es ep:=let ⟨o,e,r⟩:=x;⟨o,k o e,r⟩
theorem DAt.ty{d:Addr}{es:Array DictEntry}{ep:Nat}(x:DAt s.heap d es ep):s.TypeIs (.ref d) "dict":=let ⟨o,e,c,_⟩:=x;⟨o,e,c.1⟩
section
variable {prog:Program}{d it:Addr}{es:Array DictEntry}{ep i:Nat}
theorem oH{Q:Value->Shared->Prop}(lo:(d==sysModules)=false)(m:DAt s.heap d es ep)
  (q:Q (.ref s.heap.objs.size) {s with heap:=s.heap.push {cls:=.type "dict_keyiterator",data:=.fields #[.ref d,.int 0 0,.int es.size 0,.int ep 0]}}):wpAny (model prog w) A (pyIter (.ref d)) Q E s:=by
 obtain⟨o,b,_,c⟩:=id m;refine Gy m.ty FU (fT FU m.ty PySem.F.entry_dict_iter ?tree (PySem.F.args_dict_iter_1 _));unfold Builtin.«dict.__iter__» Builtin.Dict.dictSlotNone;refine aa (aa (vR m.ty ?_));refine aj (show wpAny _ _ (Builtin.Dict.showsAll d >>= _) _ _ s from ?_);unfold Builtin.Dict.showsAll;rw[Ii (show ¬(d==sysModules)=true by rw[lo];simp)];refine aa (aj (aa (iX b c (aa (kD b c ?_)))));refine aa (ff (aj ⟨_,rfl,"dict_keyiterator",_,⟨_,a9 _ rfl,rfl⟩,my.lookup,?_⟩));simpa [rawInt] using q
theorem uS{Q:Option Value->Shared->Prop}(hit:s.heap.IsKeyIter it d i es.size ep)(m:DAt s.heap d es ep)(hi:i<es.size)
  (q:∀h',h'.IsKeyIter it d (i+1) es.size ep->Heap.SameBut it s.heap h'->Q (some es[i].key) {s with heap:=h'}):wpAny (model prog w) A (pyNext (.ref it)) Q E s:=by
 obtain⟨o,b,f,hd⟩:=id hit;obtain⟨od,c,_,e⟩:=id m;unfold pyNext;refine aa (mB (mC (name:=Str.ofString "__next__") hit.typeIs my (fT my hit.typeIs FR ?tree (FP _))));refine aa (aj (aa (aa ?_)))
 first|refine aa (pM hit.typeIs (aj (aa (gW b hd ?_))))|refine aa (pO hit.typeIs (aj (aa (gW b hd ?_))))
 simp only[show Builtin.Dict_items.ownsTuple "dict_keyiterator" = false by decide,iL,if_false];refine (show wpAny _ _ (if (Value.ref d==Value.none)=true then _ else _) _ _ s from ?_);rw[Ii (show ¬(Value.ref d==Value.none)=true from a8)];refine aa (aj (aa (iX c e ?_)));rw[Ii (by simp)];refine aa (aj (aa (kD c e ?_)));rw[Ii (by simp)];refine aj ?_;simp only[show ¬((i:Int)<0) by lia,if_false,e8,uT hi];refine aa ?_
 first|refine aa (pM hit.typeIs (aj (aa (vO hit.typeIs ?_))))|refine aa (pO hit.typeIs (aj (aa (vO hit.typeIs ?_))))
 show wpAny _ _ (setField (.ref it) 1 (rawInt ((i:Int)+1)) >>= _) _ _ s;refine aa (vU b hd (by simp) ?_);have t':(s.heap.update it (Obj.mapFields (·.setIfInBounds 1 (rawInt ((i:Int)+1))))).IsKeyIter it d (i+1) es.size ep:=
  ⟨_,oX _ b (Obj.isFreed_of_fields (FH hd _)),(Obj.cls_mapFields ..).trans f,by rw[FH hd];simp[rawInt]⟩
 refine aa (c9 (aa (vO (s:={s with heap:=s.heap.update it (Obj.mapFields (·.setIfInBounds 1 (rawInt ((i:Int)+1))))}) t'.typeIs ?_)));show wpAny _ _ (pure es[i].key) _ _ _;exact aj (aj ⟨_,rfl,aj (q _ t' (uW ..))⟩)
theorem dEnd{Q:Option Value->Shared->Prop}(g:A.handled=none)(hit:s.heap.IsKeyIter it d i es.size ep)(m:DAt s.heap d es ep)(hi:es.size<=i)
  (q:∀h',Heap.ExtBut it s.heap h'->Q none {s with heap:=h'}):wpAny (model prog w) A (pyNext (.ref it)) Q E s:=by
 obtain⟨o,c,h,hd⟩:=id hit;obtain⟨od,e,_,f⟩:=id m;unfold pyNext;refine aa (mB (mC (name:=Str.ofString "__next__") hit.typeIs my (fT my hit.typeIs FR ?tree (FP _))));refine aa (aj (aa (aa ?_)))
 first|refine aa (pM hit.typeIs (aj (aa (gW c hd ?_))))|refine aa (pO hit.typeIs (aj (aa (gW c hd ?_))))
 simp only[show Builtin.Dict_items.ownsTuple "dict_keyiterator" = false by decide,iL,if_false];refine (show wpAny _ _ (if (Value.ref d==Value.none)=true then _ else _) _ _ s from ?_);rw[Ii (show ¬(Value.ref d==Value.none)=true from a8)];refine aa (aj (aa (iX e f ?_)));rw[Ii (by simp)];refine aa (aj (aa (kD e f ?_)));rw[Ii (by simp)];refine aj ?_;simp only[show ¬((i:Int)<0) by lia,if_false,e8,Fg hi];refine aa ?_
 first|refine aa (pM hit.typeIs (aj ?_))|refine aa (pO hit.typeIs (aj ?_))
 refine (show wpAny _ _ (setField (.ref it) 0 .none >>= _) _ _ s from aa (vU c hd (by simp) ?_));show wpAny _ _ (newExc (.type "StopIteration") [] >>= _) _ _ _;refine aa ?_;simp only[newExc,newTuple];refine aa (ff (aa (m:=firstArgMember _ _) (vS (a:=Value.none) (by first|rfl|(simp only[firstArgMember];rfl)) (ff ?_ (by size_fits)))) (by size_fits));simp only[raiseNew];refine aa (wpAny_handled ?_);rw[show A.in1.handled=none from g];refine aa (aj (wpAny_throw ?_));refine aa (Gr (b:=true) (T:="StopIteration") ⟨_,a9 _ rfl,rfl⟩ Gf ?_);exact aj (q _ (((uW ..).extBut.push _).push _))
theorem uw(l:A.handled=none)(I:Addr)(m:d≠I):Walks prog w A I [I,d] [I] es.size (λi v=>∃(h:i<es.size),v=es[i].key) (λi h=>h.IsKeyIter I d i es.size ep/\DAt h d es ep) where
 sub:=λb c=>by simp at c;simp[c]
 frame:=λ_ _ _ st g=>⟨st.1.at λo e=>g I (by simp) o e,st.2.at λo e=>g d (by simp) o e⟩
 item:=λi s Q E hi st f=>uS st.1 st.2 hi λh' t' sb=>f _ h' s.toks ⟨hi,rfl⟩ ⟨t',st.2.at λo e=>(sb.2 d m).trans e⟩ λb o c e=>sb.extBut b o (λh=>c (by simp[h])) e
 done:=λs Q E st f=>dEnd l st.1 st.2 (ai _) λh' x=>f h' s.toks λb o c e=>x b o (λh=>c (by simp[h])) e
 self:=λ_ _ _ _ st f=>Gx st.1 f
theorem dSrc(lo:(d==sysModules)=false):KdlSrc prog w "dict" d d es.size (λi v=>∃(h:i<es.size),v=es[i].key) (λh=>DAt h d es ep) where
 type:=λ_ m=>m.ty
 there:=λ_ m=>⟨m.lt,m.lt⟩
 keep:=λ_ _ m c=>m.at λo e=>c d (.inl rfl) o e
 notList:=by decide
 notTuple:=by decide
 hint:=λ_ _ _ _ m b=>kdl_hint_dict m.ty b
 iter:=λ_ _ f m=>⟨_,_,(λ_ _ b=>oH lo m b),uw f _ (aU m.lt),⟨⟨_,a9 _ rfl,rfl,rfl⟩,m.at λo e=>aE _ e⟩⟩
end
end L2
end
section
namespace L2
open PySem PySem.Spec PyProof.Rows PySem.W
def DKeys(H:Hp)(d:Addr)(ks vs:List V):Prop:=
 (∃kvs,H d=some (.dK kvs)/\ks=kvs.map (λp=>kV p.1)/\vs=kvs.map (·.2)) \/
 ∃kvs as,H d=some (.dT kvs)/\Paired (λ(p:List Key×V) a=>H a=some (.tup (p.1.map kV))) kvs as/\ks=as.map V.ref/\vs=kvs.map (·.2)
def DIs(H:Hp)(d:Addr):Prop:=(∃kvs,H d=some (.dK kvs))\/∃kvs,H d=some (.dT kvs)
theorem dview{d:Addr}(I:Inv X Io Z H s)(hd:DIs H d) :
  (d==sysModules)=false/\∃ks vs es ep,DKeys H d ks vs/\ks.length<=sizeLine/\DAt s.heap d es ep/\Vals ks (es.toList.map (·.key))/\Vals vs (es.toList.map (·.val)):=by
 rcases hd with ⟨kvs,e⟩|⟨kvs,e⟩
 .obtain⟨z,lo,us,rel,o,es,ep,h1,h2,f,_,q,_⟩:=gG I.hok e;refine⟨lo,_,_,es,ep,.inl ⟨kvs,e,rfl,rfl⟩,by rw[List.length_map];exact z,⟨o,h1,h2,f⟩,?_⟩;generalize es.toList=l at q;have go:∀{kvs:List (Key×V)}{us:List (Key×Value)}{l:List DictEntry},KV kvs us->Pairs (bz X.prog X.w) l us->Vals (kvs.map λp=>kV p.1) (l.map (·.key))/\Vals (kvs.map (·.2)) (l.map (·.val)):=by
   intro kvs us l r;induction r generalizing l with
   |nil=>intro p;cases p;exact⟨.nil,.nil⟩
   | @cons a b E l2 h1 h2 c=>
    intro p;cases p with
    |cons y p2 A=>
     obtain⟨B,C⟩:=c A;refine⟨.cons ?_ B,.cons ?_ C⟩
     .dsimp only;rw[h1.1];rcases dA y with ⟨i,t,g,h⟩|⟨x,t,g,h⟩
      .rw[g,h];exact⟨t,rfl⟩
      rw[g,h];exact⟨t,rfl⟩
     dsimp only;rw[p2];exact h1.2
  exact go rel q
 obtain⟨z,lo,xs,rel,o,es,ep,h1,h2,f,m,D⟩:=oG I.hok e;clear D;have go:∀{kvs:List (List Key×V)}{xs:List (List Key×Addr×Value)},KT H kvs xs->Paired (λ(p:List Key×V) a=>H a=some (.tup (p.1.map kV))) kvs (xs.map (·.2.1))/\Vals (kvs.map (·.2)) (xs.map (·.2.2)):=by
  intro kvs xs r;induction r with
  |nil=>exact⟨.nil,.nil⟩
  |cons h1 h2 c=>exact⟨.cons h1.2.1 c.1,.cons h1.2.2 c.2⟩
 obtain⟨n,u⟩:=go rel;have v:=iR n;refine⟨lo,_,_,es,ep,.inr ⟨kvs,_,e,n,rfl,rfl⟩,by rw[List.length_map,<-v];exact z,⟨o,h1,h2,f⟩,?_,?_⟩
 .rw[m,List.map_map,List.map_map];clear m rel n u v;induction xs with
  |nil=>exact .nil
  |cons x r c=>exact .cons rfl c
 rw[m,List.map_map];exact u
abbrev lX(X:Cx):Cx:={X with A:=X.A.in1}
section
theorem Inv.toIn1(I:Inv X Io Z H s):Inv (lX X) Io Z H s:=
 ⟨⟨I.ok.mod,I.ok.kind,I.ok.glob,I.ok.blt,I.ok.above,I.ok.inj,I.ok.has,I.ok.cab,I.ok.hd,I.ok.frames,I.ok.stk,I.ok.exf,I.ok.bs,I.ok.bsz,I.ok.noex,I.ok.exfs,I.ok.funs,I.ok.frf⟩,I.os,I.bare,I.base,I.loc,I.cell,I.free,I.freeC,I.pin,I.hok,I.len⟩
theorem Inv.ofIn1(I:Inv (lX X) Io Z H s):Inv X Io Z H s:=
 ⟨⟨I.ok.mod,I.ok.kind,I.ok.glob,I.ok.blt,I.ok.above,I.ok.inj,I.ok.has,I.ok.cab,I.ok.hd,I.ok.frames,I.ok.stk,I.ok.exf,I.ok.bs,I.ok.bsz,I.ok.noex,I.ok.exfs,I.ok.funs,I.ok.frf⟩,I.os,I.bare,I.base,I.loc,I.cell,I.free,I.freeC,I.pin,I.hok,I.len⟩
end
section
def sS(K:Frag):V->List V->Hp->VK->Prop:=λx vs H Q=>∃(l:Addr)(ys:List V)(ks:List (List Int)),x=.ref l/\vs=[]/\H l=some (.lst ys)/\Ky K H ys ks/\ys.length<5000/\
 ∀(ix:List Nat),ix.Perm (List.range ys.length)->(ix.map λi=>ks.getD i []).Pairwise (λa b=>HT.lexLt b a=false)->Q .non (upd H l (.lst (ix.map λi=>ys.getD i .non)))
theorem pX:MtM X "list.sort" (sS []):=by
 intro Io s Z H x vs v us Q I g m h;obtain⟨l,ys,ks,rfl,rfl,d,p,M,q⟩:=h;cases g;cases m;obtain⟨z,w,n,r,hlen,e⟩:=I.lstM d;have N:=r.length;obtain⟨κ,A,ask⟩:=oA I p r;have old:∀b o,s.heap.get? b=some o->o.cls=.type "tuple"->(dw s.heap l w).get? b=some o:=λb o c B=>by
  refine aE _ (aE _ ?_);rw[me _ _ _ _ (λy=>by rw[y,e] at c;cases c;exact absurd (show Value.type "list" = Value.type "tuple" from B) (by decide))];exact c
 refine fT vH ⟨_,e,rfl⟩ vC (mU (κ:=κ) (rk:=rkV s.heap) e (by rw[cu];lia) (λh2=>(ask _ old h2).1) (λh2=>(ask (E:=λ_ _=>False) _ old h2).2) λout C p2=>⟨_,rfl,?_⟩) (vB _);obtain⟨ix,f,D,K⟩:=lI r A C p2;obtain⟨L,he⟩:=sortedHeap_at (out:=out.toArray) e;exact⟨.non,_,I.write (x:=l) (e:=l) (o:=.lst (ix.map λi=>ys.getD i .non)) (t':=s.toks) (by rw[d];exact True.intro) (.inl rfl) (λb u c q=>(sortedHeap_old c (aH q)).trans q) ⟨_,he⟩ ⟨by rw[List.length_map,f.length_eq,List.length_range,cu];lia,out,L,K,by rw[he]⟩,rfl,q ix f D⟩
end
theorem Tups.mono{K:Frag}{ys:List V}{ks:List (List Int)}(h:Tups K H ys ks)(k:∀a xs,H a=some (.tup xs)->H' a=some (.tup xs))(kf:∀a o xs,H a=some (.frz o (.tup xs))->H' a=some (.frz o (.tup xs))):Tups K H' ys ks:=by
 refine Paired.mapP h λy z ⟨b,e,q,n⟩=>⟨b,e,?_,n⟩;rcases q with (q|⟨o,q⟩)|q
 .exact .inl (.inl (k _ _ q))
 .exact .inl (.inr ⟨o,kf _ _ _ q⟩)
 exact .inr q
theorem qW{K:Frag}{D:Addr}{ks:List V}{Q:V->Hp->Prop}(c:H D=none)
  (k:(∃ns:List Int,ks=ns.map V.int/\ns.length<5000/\∀(p:Addr)(ms:List Int),H p=none->ms.Perm ns->ms.Pairwise (·<=·)->Q (.ref p) (upd H p (.lst (ms.map V.int)))) \/
   ∃d:List (List Int),Tups K H ks d/\ks.length<5000/\∀(p:Addr)(ix:List Nat),H p=none->ix.Perm (List.range ks.length)->(ix.map λi=>d.getD i []).Pairwise (λa b=>HT.lexLt b a=false)->Q (.ref p) (upd H p (.lst (ix.map λi=>ks.getD i .non)))) :
  sS K (.ref D) [] (upd H D (.lst ks)) λ_ H'=>Q (.ref D) H':=by
 rcases k with ⟨ns,g,f,q⟩|⟨d,h,f,q⟩
 .subst g;refine⟨D,_,_,rfl,rfl,aG,uf ns,by rw[List.length_map];exact f,λix h1 h2=>?_⟩;obtain⟨ms,l,m,n⟩:=uh h1 h2;rw[kU,n];exact q D ms c l m
 refine⟨D,ks,d,rfl,rfl,aG,.inr (h.mono (λb xs e=>by rw[aB (ah e c)];exact e) λb o xs e=>by rw[aB (ah e c)];exact e),f,λix h1 h2=>?_⟩;rw[kU];exact q D ix c h1 h2
section
def t6(K:Frag):List V->Hp->VK->Prop:=λxs H Q=>∃a:Addr,xs=[.ref a]/\DIs H a/\∀ks vs,DKeys H a ks vs->
 (∃ns:List Int,ks=ns.map V.int/\ns.length<5000/\∀(p:Addr)(ms:List Int),H p=none->ms.Perm ns->ms.Pairwise (·<=·)->Q (.ref p) (upd H p (.lst (ms.map V.int)))) \/
 ∃c:List (List Int),Tups K H ks c/\ks.length<5000/\∀(p:Addr)(ix:List Nat),H p=none->ix.Perm (List.range ks.length)->(ix.map λi=>c.getD i []).Pairwise (λa b=>HT.lexLt b a=false)->Q (.ref p) (upd H p (.lst (ix.map λi=>ks.getD i .non)))
theorem qd{α:Type}{l m:List α}(b:l.length=m.length)(h:∀(j:Nat)(v:α),l[j]?=some v->m[j]?=some v):l=m:=by
 refine List.ext_getElem? λi=>?_;cases e:l[i]? with
 |some v=>rw[h i v e]
 |none=>
  have:l.length<=i:=List.getElem?_eq_none_iff.mp e;exact (List.getElem?_eq_none_iff.mpr (by lia)).symm
theorem fW(n:X.calm=true):bJ X (.builtin "sorted") (t6 []):=by
 intro Io s Z H xs us Q I r h;obtain⟨a,rfl,hd,k⟩:=h;obtain⟨u,rfl,p⟩:=Vals.one r;cases p;obtain⟨lo,ks,vs,es,ep,q,d,w,f,P⟩:=dview I hd;obtain⟨m,F⟩:=I.fr;have x:ks.length=es.size:=by have:=f.length;simpa using this
 refine kdu_sorted (dSrc (es:=es) (ep:=ep) lo) (I.ok.hd n) F (kO (g:=X.base) (L:=X.env.locals)) w (by rw[<-x];exact d) λD h' tk b y i A B C=>?_;obtain⟨E,K⟩:=I.newsKept (t':=s.toks) (more:=[(D,listOf b.toArray 0)]) F y i;have c:=i (D,listOf b.toArray 0) (.head _);have l:s.heap.get? D=none:=by
  cases e:s.heap.get? D with
  |none=>rfl
  |some o=>exact absurd (A (D,o) (mL c.2.1 c.2.2 e)) (cT _)
 have ev:b=es.toList.map (·.key):=by refine qd (by rw[B];simp) λj v e=>?_;obtain⟨M,rfl⟩:=C j v e;rw[List.getElem?_map];simp[M]
 have N:Inv X Io Z (upd H D (.lst ks)) {s with heap:=h',toks:=tk}:=I.laidN (t':=tk) E K l (λH'=>⟨d,b,0,by rw[ev];exact f,c.1⟩) (λ_ _ z=>by cases z);have z:=pX (X:=lX X) Io _ Z _ (.ref D) [] (.ref D) [] (λ_ H'=>Q (.ref D) H') N.toIn1 rfl .nil (qW (I.hok.none_of l) (k ks vs q));exact thn z λ_ s' ⟨_,H',J,_,O⟩=>⟨.ref D,H',J.ofIn1,rfl,O⟩
end
section
def zL(x:V)(vs:List V)(H:Hp)(Q:VK)(l:Addr)(xs:List V)(i:Nat)(y:V):Prop:=x=.ref l/\vs=[.int i,y]/\H l=some (.lst xs)/\i<=xs.length/\xs.length<sizeLine/\WrO H l (.lst (xs.take i++y::xs.drop i)) (Q .non)
def Bw:V->List V->Hp->VK->Prop:=λx vs H Q=>Exists (Ex4 (zL x vs H Q))
theorem B8{i n:Nat}(hi:i<=n)(b:n<sizeLine):¬(!Builtin.List.listFitsIndex (i:Int))=true:=by rw[cu] at b;have f:=Gd (k:=(i:Int)) (by lia) (by lia);intro y;rw[f] at y;cases y
theorem Aq{prog:Program}{w:World}{A:Around}{E:Value->Shared->Prop}{Q:Value->Shared->Prop}{l:Addr}{b:Array Value}{n:Nat}{i:Int}{t:Tok}{c:Value}(d:s.TypeIs (Value.ref l) "list")(f:¬(!Builtin.List.listFitsIndex i)=true)(hsz:b.size<=sizeLine)
  (e:s.heap.get? l=some {cls:=.type "list",data:=.seq b n})
  (h:Q .none {s with heap:=s.heap.update l (Obj.mapSeq λxs=>(xs.extract 0 (if i<0 then (i+(xs.size:Int)).toNat else min i.toNat xs.size)).push c++xs.extract (if i<0 then (i+(xs.size:Int)).toNat else min i.toNat xs.size))}) :
  wpAny (model prog w) A (call (Value.builtin "list.insert") [Value.ref l,Value.int i t,c]) Q E s:=
 mz px d PySem.F.entry_list_insert (PySem.F.args_list_insert_3 _ _ _) (GZ l b n i t c f hsz) ⟨e,h⟩
theorem mT:MtM X "list.insert" Bw:=by
 intro Io s Z H x vs v us Q I f g h;obtain⟨l,xs,i,y,rfl,rfl,c,hi,m,q⟩:=h;cases f;obtain⟨B,d,rfl,o,p⟩:=g.two;obtain⟨t,rfl⟩:=o;obtain⟨z,b,n,r,u,e⟩:=I.lstM c;have w:=B8 hi m;have hsz:b.toArray.size<=sizeLine:=by rw[List.size_toArray,<-u];exact z
 refine Aq (s:=s) ⟨_,e,rfl⟩ w hsz e ?_;refine⟨.non,_,I.lset (its':=b.take i++d::b.drop i) c e ?_ (Vals.append (r.take i) (.cons p (r.drop i))) ?_,rfl,q.at⟩
 .have A:(if (i:Int)<0 then ((i:Int)+(b.toArray.size:Int)).toNat else min (i:Int).toNat b.toArray.size)=i:=by
   rw[Ii (by lia),e8,List.size_toArray];lia
  show ((b.toArray.extract 0 _).push d++b.toArray.extract _)=_;rw[A];have hd:(b.drop i).take (b.length-i)=b.drop i:=List.take_of_length_le (by rw[List.length_drop];exact ai _);simp[List.extract_eq_drop_take,hd]
 rw[List.length_append,List.length_cons,List.length_take,List.length_drop];lia
def EM(K:Frag):List V->Hp->VK->Prop:=λxs H Q=>∃(a:Addr)(ns:List Int),xs=[.ref a]/\SqL K H a (ns.map V.int)/\ns≠[]/\∀m,m∈ns->(∀n∈ns,n<=m)->Q (.int m) H
theorem kT(r:Vals xs us){i:Nat}{v:Value}(e:us[i]?=some v):∃x,xs[i]?=some x/\ar x v:=by
 have d:=r.length;have hi:i<xs.length:=by have:=(List.getElem?_eq_some_iff.mp e).1;lia
 obtain⟨u,b,c⟩:=r.get (i:=i) (x:=xs[i]) (by simp[hi]);rw[e] at b;cases b;exact⟨_,by simp[hi],c⟩
theorem ui{ns:List Int}(r:Vals (ns.map V.int) us)(i:Nat)(v:Value)(e:us.toArray[i]?=some v):∃t,v=.int (ns.getD i 0) t:=by obtain⟨x,b,c⟩:=kT r (i:=i) (v:=v) (by simpa using e);rw[List.getElem?_map] at b;obtain⟨n,d,rfl⟩:=aY.mp b;obtain⟨t,rfl⟩:=c;exact⟨t,by rw[List.getD,d];rfl⟩
theorem mJ(b:X.calm=true):bJ X (.builtin "max") (EM []):=by intro Io s Z H xs us Q I r h;obtain⟨a,ns,rfl,c,d,q⟩:=h;obtain⟨u,rfl,e⟩:=Vals.one r;cases e;obtain⟨v,f,p,w⟩:=I.list c;obtain⟨m,F⟩:=I.fr;refine max_list_N (I.ok.hd b) F (kO (g:=X.base) (L:=X.env.locals)) p.isList (gZ f) (List.length_pos_iff.mpr d) λh' M t tk i l h1 h2=>?_;obtain⟨n,o⟩:=I.newsKept (t':=tk) (more:=[]) F i l;exact⟨.int M,H,I.keptN (t':=tk) n o,⟨t,rfl⟩,q M h1 h2⟩
theorem AV(ns:List Int)(c:ns≠[]):(ns.getD (argBest (λi j=>decide (ns.getD i 0<ns.getD j 0)) (ns.length-1)) 0)∈ns/\∀n∈ns,ns.getD (argBest (λi j=>decide (ns.getD i 0<ns.getD j 0)) (ns.length-1)) 0<=n:=by
 obtain⟨h1,h2⟩:=argBest_lt (λi=>ns.getD i 0) (ns.length-1);have g:=List.length_pos_iff.mpr c;refine⟨?_,λn d=>?_⟩
 .have b:argBest (λi j=>decide (ns.getD i 0<ns.getD j 0)) (ns.length-1)<ns.length:=by lia
  rw[List.getD,List.getElem?_eq_getElem b];exact List.getElem_mem b
 obtain⟨j,f,rfl⟩:=List.getElem_of_mem d;have:=h2 j (by lia);have e:ns.getD j 0=ns[j]:=by simp[List.getD,f]
 rw[e] at this;exact this
end
end L2
end
section
namespace L2
open PySem PySem.Spec PyProof.Rows
section
def Bt:List V->Hp->VK->Prop:=λxs H Q=>∃j:Int,xs=[.int j]/\∀r,H r=none->Q (.ref r) (upd H r (.rng 0 j))
theorem wd:bJ X (.type "range") Bt:=by intro Io s Z H xs us Q I r h;obtain⟨j,rfl,q⟩:=h;obtain⟨u,rfl,t,rfl⟩:=Vals.one r;refine call_range_1 ⟨.ref s.heap.objs.size,upd H s.heap.objs.size (.rng 0 j),I.laid (t':=s.toks+1+1) (λb o e=>aE _ e) (ai _) ⟨_,_,_,a9 _ rfl⟩,rfl,q _ (I.hok.fresh (ai _))⟩
def zK:List V->Hp->VK->Prop:=λxs H Q=>∃(a:Addr)(n:Nat),xs=[.ref a]/\H a=some (.rng 0 (n:Int))/\n<=1000/\∀l,H l=none->Q (.ref l) (upd H l (.lst ((List.range n).map λ(i:Nat)=>V.int (i:Int))))
theorem p7(b:us.length=xs.length)(h:∀(j:Nat)(v:Value),us[j]?=some v->∃x,xs[j]?=some x/\ar x v):Vals xs us:=by
 induction xs generalizing us with
 |nil=>cases us with
  |nil=>exact .nil
  |cons _ _=>simp at b
 |cons x xs c=>cases us with
  |nil=>simp at b
  |cons u us=>
   obtain⟨y,e,r⟩:=h 0 u rfl;cases e;exact .cons r (c (by simpa using b) λj v e=>by simpa using h (j+1) v (by simpa using e))
theorem wx(f:X.calm=true):bJ X (.type "list") zK:=by
 intro Io s Z H xs us Q I r h;obtain⟨a,n,rfl,ha,A,q⟩:=h;obtain⟨u,rfl,g⟩:=Vals.one r;cases g;obtain⟨l,m,o,e⟩:=(show a6 X.prog X.w H s.heap a (.rng 0 (n:Int)) from I.hok a _ ha);have p:IsRange s.heap a 0 (n:Int) 1 l m o:=e;have hsz:Builtin.Range.rangeSize 0 (n:Int) 1=(n:Nat):=by rw[rangeSize_one];split<;>lia
 refine call_list_range (I.ok.hd f) p (small_one (by lia) (by lia) (by lia) (by lia)) hsz (by lia) λh' tk acc c kp x it=>?_;have b:s.heap.objs.size<=s.heap.objs.size:=ai _;refine⟨.ref s.heap.objs.size,upd H s.heap.objs.size (.lst ((List.range n).map λ(i:Nat)=>V.int (i:Int))),I.laid (t':=tk) kp b ⟨by simp;rw[cu];lia,acc.toList,c,p7 (by simp[it.1]) λj v d=>?_,by rw[x]⟩,rfl,q _ (I.hok.fresh b)⟩;obtain⟨tv,y⟩:=it.2 j v (by simpa using d);have z:j<n:=by have:=(List.getElem?_eq_some_iff.mp d).1;rw[eX,it.1] at this;exact this
 refine⟨.int (j:Int),by simp[z],tv,?_⟩;rw[y];simp
def rAll(K:W.Frag):List V->Hp->VK->Prop:=λxs H Q=>∃(a:Addr)(bs:List Bool),xs=[.ref a]/\SqL K H a (bs.map V.bl)/\Q (.bl (bs.all id)) H
theorem pU(w:X.calm=true):bJ X (.builtin "all") (rAll []):=by
 intro Io s Z H xs us Q I r h;obtain⟨a,bs,rfl,y,q⟩:=h;obtain⟨u,rfl,B⟩:=Vals.one r;cases B;obtain⟨g,l,p,L⟩:=I.list y;have m:=l.length;rw[List.length_map] at m;have c:=p.isList;have C:a<s.heap.objs.size:=by obtain⟨_,e,_⟩:=c;exact aH e
 refine call_all_walk (pK c ?_);refine⟨s.heap.objs.size,_,_,_,_,_,(λi=>bs.getD i false),rfl,Gc (A:=X.A.in1) (I.ok.hd w) _ a (aU C) g.toArray,⟨⟨_,a9 _ rfl,rfl,rfl⟩,c.push _⟩,λi v s' M N D d=>?_,λh' tk E=>?_⟩
 .obtain⟨x,n,f⟩:=kT l (i:=i) (v:=v) (by simpa using D);rw[List.getElem?_map] at n;obtain⟨b,K,rfl⟩:=aY.mp n;cases f;have:bs.getD i false=b:=by rw[List.getD,K];rfl
  dsimp only at d;rw[this] at d;exact fU d
 have e:(List.range g.toArray.size).all (λi=>bs.getD i false)=bs.all id:=by
  rw[List.size_toArray,<-m];have f:bs=(List.range bs.length).map λi=>bs.getD i false:=by refine List.ext_getElem (by simp) λi h1 h2=>?_;simp[h1]
  conv=>rhs;rw[f,List.all_map]
  rfl
 rw[e];exact⟨.bl _,H,I.kept (t':=tk) λb o e=>E b o (λz=>by rw[List.mem_singleton.mp z] at e;exact absurd (aH e) (cT _)) (aE _ e),rfl,q⟩
def xX:List V->Hp->VK->Prop:=λxs H Q=>∃(a:Addr)(kvs:List (Key×V)),xs=[.ref a]/\Rd H a (.dK kvs)/\∀p,H p=none->Q (.ref p) (upd H p (.dK kvs))
theorem wg:bJ X (.type "dict") xX:=by intro Io s Z H xs us Q I r h;obtain⟨a,kvs,rfl,ha,q⟩:=h;obtain⟨u,rfl,b⟩:=Vals.one r;cases b;exact AJ I ha λp s' c d=>⟨.ref p,_,d,rfl,q p c⟩
end
mutual
inductive Dt (K:W.Frag) (H:Hp):V->PyData->Prop
 |non:Dt K H .non .none
 |bl (b:Bool):Dt K H (.bl b) (.bool b)
 |int (i:Int):Dt K H (.int i) (.int i)
 |str (x:Str) (h:(PyData.str x).canLay0=true):Dt K H (.str x) (.str x)
 |lst {a:Addr} {xs:List V} {ds:List PyData} (h:SqL K H a xs) (r:Dts K H xs ds):Dt K H (.ref a) (.list ds)
 |tup {a:Addr} {xs:List V} {ds:List PyData} (h:SqT K H a xs) (r:Dts K H xs ds):Dt K H (.ref a) (.tuple ds)
inductive Dts (K:W.Frag) (H:Hp):List V->List PyData->Prop
 |nil:Dts K H [] []
 |cons {x:V} {d:PyData} {xs:List V} {ds:List PyData} (h:Dt K H x d) (r:Dts K H xs ds):Dts K H (x::xs) (d::ds)
end
section
theorem Dts.reads(I:Inv X Io Z H s)(ds:List PyData)(xs:List V)(us:List Value)(h:Dts [] H xs ds)(r:Vals xs us):∃as,ReadsAll s.heap us ds as:=
 Dts.rec (motive_1:=λv d _=>∀u,ar v u->∃as,Reads s.heap u d as) (motive_2:=λxs ds _=>∀us,Vals xs us->∃as,ReadsAll s.heap us ds as)
  (λu r=>by cases r;exact⟨_,.none⟩) (λb u r=>by cases r;exact⟨_,.bool b⟩) (λi u r=>by obtain⟨t,rfl⟩:=r;exact⟨_,.int i t⟩) (λx _ u r=>by obtain⟨t,rfl⟩:=r;exact⟨_,.str x t⟩)
  (λh _ f u r=>by
   cases r;obtain⟨l,g,⟨o,n,e,c,_,dd⟩,_⟩:=I.list h;obtain⟨as,q⟩:=f _ g;exact⟨_,.list e c dd (by simpa using q)⟩)
  (λh _ f u r=>by
   cases r;obtain⟨l,g,⟨o,e,c,n,dd⟩,_⟩:=I.tuple h;obtain⟨as,q⟩:=f _ g;exact⟨_,.tuple e c dd (by simpa using q)⟩)
  (λu r=>by cases r;exact⟨_,.nil⟩)
  (λ_ _ f m us r=>by
   cases r with
   |cons r rs=>
    obtain⟨as,q⟩:=f _ r;obtain⟨bs,p⟩:=m _ rs;exact⟨_,.cons q p⟩) h us r
theorem Dt.reads(I:Inv X Io Z H s)(d:PyData)(v:V)(u:Value)(h:Dt [] H v d)(r:ar v u):∃as,Reads s.heap u d as:=by
 obtain⟨as,q⟩:=Dts.reads I _ _ _ (.cons h .nil) (.cons r .nil);cases q with
 |cons q _=>exact⟨_,q⟩
theorem Dts.can(ds:List PyData)(xs:List V)(h:Dts K H xs ds):PyData.canLayAll0 ds=true:=
 Dts.rec (motive_1:=λv d _=>d.canLay0=true) (motive_2:=λxs ds _=>PyData.canLayAll0 ds=true) rfl (λ_=>rfl) (λ_=>rfl) (λ_ h=>h) (λ_ _ b=>b) (λ_ _ b=>b) rfl
  (λ_ _ b c=>by rw[PyData.canLayAll0,b,c];rfl) h
theorem Dt.can(d:PyData)(v:V)(h:Dt K H v d):d.canLay0=true:=by
 have:=Dts.can _ _ (.cons h .nil)
 rwa [PyData.canLayAll0,PyData.canLayAll0,Bool.and_true] at this
mutual
def fP:PyData->Bool
 |.bool _=>false
 |.list ds=>cW ds
 |.tuple ds=>cW ds
 |.dict _=>false
 |_=>true
def cW:List PyData->Bool
 | []=>true
 |d::ds=>fP d&&cW ds
end
mutual
theorem n9:∀(d e:PyData),fP d=true->fP e=true->(PyData.eqv d e=true↔d=e)
 |.none,e,_,h=>by cases e<;>simp[PyData.eqv]
 |.bool b,_,h,_=>nomatch h
 |.int i,e,_,h=>by
  cases e with
  |bool _=>exact nomatch h
  |_=>simp[PyData.eqv]
 |.str i,e,_,h=>by
  cases e with
  |bool _=>exact nomatch h
  |_=>simp[PyData.eqv]
 |.list xs,e,h1,h=>by
  cases e with
  |list ys=>rw[PyData.eqv,mP xs ys h1 h];simp
  |_=>simp[PyData.eqv]
 |.tuple xs,e,h1,h=>by
  cases e with
  |tuple ys=>rw[PyData.eqv,mP xs ys h1 h];simp
  |_=>simp[PyData.eqv]
 |.dict _,_,h,_=>nomatch h
theorem mP:∀(ds es:List PyData),cW ds=true->cW es=true->(PyData.eqvAll ds es=true↔ds=es)
 | [],[],_,_=>by simp[PyData.eqvAll]
 | [],_::_,_,_=>by simp[PyData.eqvAll]
 |_::_,[],_,_=>by simp[PyData.eqvAll]
 |d::ds,e::es,h1,h2=>by
  have b:fP d=true/\cW ds=true:=by simpa [cW] using h1
  have c:fP e=true/\cW es=true:=by simpa [cW] using h2
  rw[PyData.eqvAll,eZ,n9 d e b.1 c.1,mP ds es b.2 c.2];simp
end
def ES(K:W.Frag)(neg:Bool)(x y:V)(H:Hp)(Q:VK)(d e:PyData):Prop:=Dt K H x d/\Dt K H y e/\d.depth<=60/\Q (.bl (if neg then !PyData.eqv d e else PyData.eqv d e)) H
def rEqD(K:W.Frag)(neg:Bool):R2:=λx y H Q=>Exists (Ex2 (ES K neg x y H Q))
theorem min60{u a b:Nat}(h:u+64<cLine)(h':a<=60):u+min a b<cLine:=by have:min a b<=a:=Nat.min_le_left _ _;lia
theorem Dk(b:X.A.units+64<cLine):OpR X (compareOp .Eq) (rEqD [] false):=by intro Io s Z H x y v u Q I c f h;obtain⟨d,e,hd,he,g,q⟩:=h;obtain⟨as,i⟩:=Dt.reads I d x v hd c;obtain⟨bs,l⟩:=Dt.reads I e y u he f;exact HK i l (Dt.can d x hd) (Dt.can e y he) (min60 b g) ⟨.bl _,H,I,rfl,q⟩
theorem lF(b:X.A.units+64<cLine):OpR X (compareOp .NotEq) (rEqD [] true):=by intro Io s Z H x y v u Q I c f h;obtain⟨d,e,hd,he,g,q⟩:=h;obtain⟨as,i⟩:=Dt.reads I d x v hd c;obtain⟨bs,l⟩:=Dt.reads I e y u he f;exact HL i l (Dt.can d x hd) (Dt.can e y he) (min60 b g) ⟨.bl _,H,I,rfl,q⟩
def ER(K:W.Frag)(neg:Bool)(x y:V)(H:Hp)(Q:VK)(d:PyData)(a:Addr)(xs:List V)(ds:List PyData):Prop:=Dt K H x d/\y=.ref a/\(SqL K H a xs\/SqT K H a xs)/\Dts K H xs ds/\d.depth<=60/\
 Q (.bl (if neg then !(ds.any λz=>PyData.eqv z d) else ds.any λz=>PyData.eqv z d)) H
def oO(K:W.Frag)(neg:Bool):R2:=λx y H Q=>Exists (Ex4 (ER K neg x y H Q))
theorem min61{u a b:Nat}(h:u+64<cLine)(h':b<=60):u+1+min a b<cLine:=by have:min a b<=b:=Nat.min_le_right _ _;lia
theorem t_(f:X.A.units+64<cLine):OpR X (compareOp .In) (oO [] false):=by
 intro Io s Z H x y v u Q I l m h;obtain⟨d,a,xs,ds,hd,rfl,b,c,g,q⟩:=h;cases m;obtain⟨as,i⟩:=Dt.reads I d x v hd l;rcases b with b|b
 .obtain⟨bs,e⟩:=Dt.reads I (.list ds) (.ref a) _ (.lst b c) rfl;exact HN e i (Dts.can ds _ c) (Dt.can d x hd) (min61 f g) ⟨.bl _,H,I,rfl,q⟩
 obtain⟨bs,e⟩:=Dt.reads I (.tuple ds) (.ref a) _ (.tup b c) rfl;exact HP e i (Dts.can ds _ c) (Dt.can d x hd) (min61 f g) ⟨.bl _,H,I,rfl,q⟩
end
end L2
end
section
namespace L2
open PySem PySem.Spec PyProof.Rows
section
theorem Inv.turnLaid{h':Heap}{t':Nat}{a:Addr}{o:HO}{ch:List Addr}(I:Inv X Io Z H s)(h:∀b∈ch,bS X Io H b)(k:∀b o,b∉ch->s.heap.get? b=some o->h'.get? b=some o)
  (ha:s.heap.get? a=none) (new:∀H',a6 X.prog X.w H' h' a o):Inv X Io Z (upd H a o) {s with heap:=h',toks:=t'}:=by
 have f:H a=none:=I.hok.none_of ha;have i:∀b u,H b=some u->b∉ch:=λb u e z=>by
  have:=(h b z).1;rw[this] at e;cases e
 refine I.step (g':=s.gens) (d':=s.drawn) (ch:=ch) (λb g=>?_) (λb o _ _ d e _=>k b o d e) (λb o _ _ d e _=>⟨o.slots,k b o d e⟩) (λb o _ e n=>?_) (λb o d e=>⟨o,k b o d e⟩) (λb xs e=>?_) (λb o u e=>?_) (λb ps e=>⟨#[],?_⟩) (λm hm=>?_) (λb u e=>?_) I.bare
 .obtain⟨_,l,_,p,x,y⟩:=h b g;exact⟨p,l,x,y⟩
 .rw[aB (λz=>by rw[z,ha] at e;cases e)];exact n
 .rw[aB (ah e f)];exact e
 .rw[aB (ah e f)];exact e
 .rw[aB (ah e f),e];simp
 .obtain⟨o,es,ep,A,r⟩:=hm;exact⟨o,es,ep,k _ o (λz=>(h _ z).2.1 rfl) A,r⟩
 by_cases g:b=a
 .subst g;rw[aG] at e;cases e;exact new _
 rw[aB g] at e;refine (I.hok b u e).stay (λc v d q=>k c v ?_ q) (λc q=>by rw[aB (ah q f)];exact q) λc xs q=>by rw[aB (ah q f)];exact q
 rcases d with z|z
 .rw[z];exact i b u e
 exact i c _ z
end
def Ite(K:W.Frag)(a:Addr):It:=
 ⟨λi H=>∃xs x,SqL K H a xs/\xs[i]?=some x,
  λi H v H'=>∃p x,H p=none/\v=.ref p/\H'=upd H p (.tup [.int (i:Int),x])/\∀xs,SqL K H a xs->xs[i]?=some x,
  λi H=>∃xs,SqL K H a xs/\xs.length<=i⟩
theorem xP{elts:List Expr}{Q}{pos:Pos}(a it e:Addr)(D:e≠it) :
  Turn P w K (.Tuple elts Q pos) (Ite [] a) [e,it] e (λi h=>(∃old,IsEnum h e it (i:Int) old)/\h.IsListIter it a i) where
 mem:=by simp
 obj:=λi h st b g=>by
  obtain⟨⟨old,f⟩,o,R,c,d⟩:=st;rcases List.mem_cons.mp g with z|z
  .subst z;exact⟨_,f,λv z=>by
    have S:Data.fields _=Data.cell v:=z;cases S⟩
  have z:b=it:=by simpa using z
  subst z;exact⟨o,R,λv z=>by rw[d] at z;cases z⟩
 keep:=λi h h' st k=>by
  obtain⟨⟨old,f⟩,l⟩:=st;exact⟨⟨old,k e (by simp) _ f⟩,l.at λo q=>k it (by simp) o q⟩
 item:=by
  intro X r hw y L i Io s Z H E I hf st A;subst r hw y;obtain⟨xs,x,n,B⟩:=A;obtain⟨⟨old,f⟩,l⟩:=st;obtain⟨T,C,p,U⟩:=I.list n;obtain⟨u,Y,ru⟩:=C.get B;refine wpAny_pyNext_enum_item f l p.isList (x:=u) (by simpa using Y) D λh1 ab ad al a1 am=>?_;refine⟨_,rfl,?_⟩;refine wpAny_letOwnedTupleGo_enum ab λh2 an m=>?_;replace m:Heap.SameBut e h1 h2:=m;have ap:s.heap.get? s.heap.objs.size=none:=uX (ai _);have M:e<s.heap.objs.size:=aH f;have aM:it<s.heap.objs.size:=by obtain⟨_,q,_⟩:=l;exact aH q
  have hn:H s.heap.objs.size=none:=I.hok.fresh (ai _);have N:h2.get? s.heap.objs.size=some {cls:=.type "tuple",data:=.seq #[.int i s.toks,u]}:=(m.2 _ (mq M)).trans al;have I2:Inv X Io Z (upd H s.heap.objs.size (.tup [.int (i:Int),x])) {s with heap:=h2,toks:=s.toks+1}:=by
   refine I.turnLaid (ch:=[e,it]) hf (λb o g q=>?_) ap λH'=>?_
   .have O:b≠e:=λz=>g (by simp[z]);have a0:b≠it:=λz=>g (by simp[z]);exact (m.2 b O).trans (am b o O a0 q)
   exact⟨⟨by simp;rw[cu];lia,_,N,rfl⟩,[.int i s.toks,u],.cons ⟨_,rfl⟩ (.cons ru .nil),⟨_,N,rfl,_,rfl⟩⟩
  refine⟨.ref s.heap.objs.size,_,I2,rfl,⟨s.heap.objs.size,x,hn,rfl,rfl,λys hy=>by rw[I.list_inj hy n];exact B⟩,⟨⟨_,an⟩,?_⟩,λb g=>?_⟩
  .obtain⟨o,q1,q2⟩:=ad;exact⟨o,(m.2 it (aF D)).trans q1,q2⟩
  have:b≠s.heap.objs.size:=by
   rcases List.mem_cons.mp g with z|z
   .rw[z];exact aU M
   rw[(by simpa using z:b=it)];exact aU aM
  rw[aB this];exact (hf b g).1
 done:=by intro X r hw y L i Io s Z H E I hf st A;subst r hw y;obtain⟨xs,n,B⟩:=A;obtain⟨⟨old,f⟩,l⟩:=st;obtain⟨T,C,p,U⟩:=I.list n;obtain⟨f0,f1,f2,f3,f4,f5⟩:=hf it (by simp);have hl:=C.length;exact wpAny_pyNext_enum_end (I.ok.hd L) f l p.isList (by simp;lia) λh' eb=>⟨rfl,I.turned (t':=s.toks) (λb o g q=>eb b o g q) f0 f1 f3 f4 f5⟩
 self:=λ_ _ _ _ _ st h=>by
  obtain⟨⟨old,f⟩,_⟩:=st;exact Gw f h
section
def DK(K:W.Frag)(R:It->Hp->Prop)(vs:List V)(H1:Hp)(a:Addr)(xs:List V):Prop:=vs=[.ref a]/\SqL K H1 a xs/\R (Ite K a) H1
def DJ(K:W.Frag)(R:It->Hp->Prop):List V->Hp->Prop:=λvs H1=>Exists (Ex2 (DK K R vs H1))
def E3(K:W.Frag)(ta:TA):TI:=λZ H R=>ta Z H (DJ K R)
theorem nU{elts:List Expr}{f}{tpos:Pos}{a:Expr}{ta:TA}{p pos:Pos}(g:Gl X "enumerate")(hm:X.mg "enumerate" = none)(ha:PA X [a] ta)(i:starEach [a] X.env=[(false,eval a X.env)]:=by rfl) :
  PI X (.Tuple elts f tpos) (.Call (.Name "enumerate" p) [a] [] pos) (E3 [] ta):=by
 intro Io s Z H R I h;refine Call_ (jZ I g hm boot_enumerate (vk (thn (ha pos Io s Z H _ I h) λus s1 ⟨vs,H1,c,l,m⟩=>?_) i rfl));obtain⟨a,xs,e,n,q⟩:=m;subst e;obtain⟨u,rfl,o⟩:=Vals.one l;cases o;obtain⟨x,y,pl,A⟩:=c.list n;refine call_enumerate_list pl.isList λh' he hi hsz r=>?_;refine Gw he ?_;have v:Inv X Io Z H1 {s1 with heap:=h'}:=c.kept (t':=s1.toks) r;refine⟨_,[s1.heap.objs.size+1,s1.heap.objs.size],_,_,H1,rfl,v,xP a _ _ (Nat.succ_ne_self _),⟨⟨.none,he⟩,hi⟩,λb w=>?_,q⟩;have d:s1.heap.objs.size<=b:=by
  rcases List.mem_cons.mp w with z|z
  .rw[z];exact iP _
  have:b=s1.heap.objs.size:=by simpa using z
  exact pb this.symm
 exact c.fpOk d (c.hok.fresh d)
end
end L2
end
section
namespace L2
open PySem PySem.Spec PyProof.Rows PySem.W
section
variable {prog:Program}{d it v:Addr}{es:Array DictEntry}{ep i:Nat}
theorem DT{Q:Value->Shared->Prop}(b:s.heap.IsItemsView v d)(m:DAt s.heap d es ep)
  (q:Q (.ref s.heap.objs.size) {s with heap:=s.heap.push {cls:=.type "dict_itemiterator",data:=.fields #[.none,.bool false,.ref d,.int 0 0,.int es.size 0,.int ep 0,.none,.none]}}):wpAny (model prog w) A (pyIter (.ref v)) Q E s:=by
 obtain⟨g,f,_,d1⟩:=id b;obtain⟨o,c,_,e⟩:=id m;refine Gy b.typeIs FT (fT FT b.typeIs PySem.F.entry_dict_items_iter ?_ (PySem.F.args_dict_items_iter_1 _));unfold Builtin.«dict_items.__iter__» Builtin.Dict_items.dictOf Builtin.Dict_items.newIterator;refine aa (aj (aa (aa (pH f d1 (x:=.ref d) rfl (aj (aa (aa (iX c e (aa (kD c e ?_))))))))));simp only[show Builtin.Dict_items.ownsTuple "dict_itemiterator" = true by decide,if_true];refine ff (aj ⟨_,rfl,"dict_itemiterator",_,⟨_,a9 _ rfl,rfl⟩,mx.lookup,by simpa [rawInt,Builtin.Dict_items.ownedTupleFields] using q⟩)
  (by simp only[sizeOk,Builtin.Dict_items.ownedTupleFields,List.size_toArray,List.length_append,List.length_cons,List.length_nil];rw[cu];lia)
theorem DS{x y:Value}{Q:Option Value->Shared->Prop}(hit:IsItemIter s.heap it d i es.size ep x y)(m:DAt s.heap d es ep)(hi:i<es.size)
  (q:∀h',IsItemIterOut h' it d (i+1) es.size ep es[i].key es[i].val s.heap.objs.size->h'.get? s.heap.objs.size=some {cls:=.type "tuple",data:=.seq #[es[i].key,es[i].val]}->
   (∀b o,b≠it->s.heap.get? b=some o->h'.get? b=some o)->Q (some (.ref s.heap.objs.size)) {s with heap:=h'}):wpAny (model prog w) A (pyNext (.ref it)) Q E s:=by
 obtain⟨c,g,h,tk,os⟩:=s;obtain⟨od,N,_,O⟩:=id m;have ty:Shared.TypeIs ⟨c,g,h,tk,os⟩ (.ref it) "dict_itemiterator":=⟨_,hit,rfl⟩;unfold pyNext;refine aa (mB (mC (name:=Str.ofString "__next__") ty mx (fT mx ty FQ ?tree (FO _))));refine aa (aj (aa (aa ?_)))
 first|refine aa (pL ty (aj (aa (gW hit rfl ?_))))|refine aa (pN ty (aj (aa (gW hit rfl ?_))))
 simp only[show Builtin.Dict_items.ownsTuple "dict_itemiterator" = true by decide,if_true];refine (show wpAny _ _ (if (Value.ref d==Value.none)=true then _ else _) _ _ _ from ?_);rw[Ii (show ¬(Value.ref d==Value.none)=true from a8)];refine aa (aj (aa (iX N O ?_)));rw[Ii (by simp)];refine aa (aj (aa (kD N O ?_)));rw[Ii (by simp)];refine aj ?_;simp only[show ¬((i:Int)<0) by lia,if_false,e8,uT hi];refine aa ?_
 first|refine aa (pL ty (aj (aa (pI ty ?_))))|refine aa (pN ty (aj (aa (pI ty ?_))))
 refine (show wpAny _ _ (setField (.ref it) 3 (rawInt ((i:Int)+1)) >>= _) _ _ ⟨c,g,h,tk,os⟩ from aa (mE hit (by simp) λh1 l n=>?_));replace n:Heap.SameBut it c h1:=n;replace l:IsItemIter h1 it d (i+1) es.size ep x y:=by unfold IsItemIter;rw[show ((i+1:Nat):Int)=(i:Int)+1 by lia];simpa [rawInt] using l
 have P:Shared.TypeIs ⟨h1,g,h,tk,os⟩ (.ref it) "dict_itemiterator":=⟨_,l,rfl⟩;refine aa (c9 (aa (pI P (aa (pI P ?_)))));refine (show wpAny _ _ (Builtin.Dict_items.pairFromOwner (.ref it) 6 es[i].key es[i].val) _ _ ⟨h1,g,h,tk,os⟩ from ?_);unfold Builtin.Dict_items.pairFromOwner;refine aa (Gv ?_);have R:h1.objs.size=c.objs.size:=n.1;have lt:it<c.objs.size:=aH hit;have ne:c.objs.size≠it:=mq lt;obtain⟨h2,p,S,T,U⟩:∃h2:Heap,IsItemIter h2 it d (i+1) es.size ep x y/\h2.get? c.objs.size=some {cls:=.type "tuple",data:=.seq #[es[i].key,es[i].val]}/\(∀b o,b≠it->c.get? b=some o->h2.get? b=some o)/\
   h1.push {cls:=.type "tuple",data:=.seq #[es[i].key,es[i].val]}=h2:=
  ⟨_,aE _ l,by rw[<-R];exact a9 _ rfl,λb o f e=>aE _ (n.extBut b o f e),rfl⟩
 refine (show wpAny _ _ (Builtin.Dict_items.ownedTupleIsFree (.ref it) >>= _) _ _ ⟨h1.push {cls:=.type "tuple",data:=.seq #[es[i].key,es[i].val]},g,h,tk,os⟩ from ?_);rw[R,U];unfold Builtin.Dict_items.ownedTupleIsFree;refine aa (aa (pH p rfl (x:=.none) rfl (aj ?_)));simp only[if_true];refine aa (pH p rfl (x:=x) rfl (aa (pH p rfl (x:=y) rfl (aa (mE p (by simp) λu v z=>?_)))));replace z:Heap.SameBut it h2 u:=z;replace v:IsItemIter u it d (i+1) es.size ep es[i].key y:=v;refine aa (mE v (by simp) λB C D=>?_);replace D:Heap.SameBut it u B:=D;replace C:IsItemIter B it d (i+1) es.size ep es[i].key es[i].val:=C;refine aa (mE C (by simp) λH I K=>?_);replace K:Heap.SameBut it B H:=K;replace I:IsItemIterOut H it d (i+1) es.size ep es[i].key es[i].val c.objs.size:=I;refine aa (mE I (by simp) λr L M=>?_);replace M:Heap.SameBut it H r:=M;replace L:IsItemIterOut r it d (i+1) es.size ep es[i].key es[i].val c.objs.size:=L;have up:∀b o,b≠it->h2.get? b=some o->r.get? b=some o:=λb o f e=>M.extBut b o f (K.extBut b o f (D.extBut b o f (z.extBut b o f e)));exact aa (kE (aj (aj ⟨_,rfl,aj (q r L (up _ _ ne S) λb o f e=>up b o f (T b o f e))⟩)))
theorem Fb{x y:Value}{Q:Option Value->Shared->Prop}(f:A.handled=none)(hit:IsItemIter s.heap it d i es.size ep x y)(m:DAt s.heap d es ep)(hi:es.size<=i)
  (q:∀h',Heap.ExtBut it s.heap h'->Q none {s with heap:=h'}):wpAny (model prog w) A (pyNext (.ref it)) Q E s:=by
 obtain⟨od,c,_,e⟩:=id m;have ty:s.TypeIs (.ref it) "dict_itemiterator":=⟨_,hit,rfl⟩;unfold pyNext;refine aa (mB (mC (name:=Str.ofString "__next__") ty mx (fT mx ty FQ ?tree (FO _))));refine aa (aj (aa (aa ?_)))
 first|refine aa (pL ty (aj (aa (gW hit rfl ?_))))|refine aa (pN ty (aj (aa (gW hit rfl ?_))))
 simp only[show Builtin.Dict_items.ownsTuple "dict_itemiterator" = true by decide,if_true];refine (show wpAny _ _ (if (Value.ref d==Value.none)=true then _ else _) _ _ s from ?_);rw[Ii (show ¬(Value.ref d==Value.none)=true from a8)];refine aa (aj (aa (iX c e ?_)));rw[Ii (by simp)];refine aa (aj (aa (kD c e ?_)));rw[Ii (by simp)];refine aj ?_;simp only[show ¬((i:Int)<0) by lia,if_false,e8,Fg hi];refine aa ?_
 first|refine aa (pL ty (aj ?_))|refine aa (pN ty (aj ?_))
 refine (show wpAny _ _ (setField (.ref it) 2 .none >>= _) _ _ s from aa (vU hit rfl (by simp) ?_));refine (show wpAny _ _ (newExc (.type "StopIteration") [] >>= _) _ _ _ from aa ?_);simp only[newExc,newTuple];refine aa (ff (aa (m:=firstArgMember _ _) (vS (a:=Value.none) (by first|rfl|(simp only[firstArgMember];rfl)) (ff ?_ (by size_fits)))) (by size_fits));simp only[raiseNew];refine aa (wpAny_handled ?_);rw[show A.in1.handled=none from f];refine aa (aj (wpAny_throw ?_));refine aa (Gr (b:=true) (T:="StopIteration") ⟨_,a9 _ rfl,rfl⟩ Gf ?_);exact aj (q _ (((uW ..).extBut.push _).push _))
end
section
variable {d:Addr}{u:HO}
def cH:HO->Prop
 |.dK _=>True
 |.dT _=>True
 |_=>False
theorem cH.notT{u:HO}(h:cH u):(∀xs,u≠.tup xs)/\(∀o v,u≠.frz o v)/\(∀ps,u≠.tbl ps)/\∀y,u≠.own y:=by cases u<;>first|exact False.elim h|exact⟨λ_ z=>(nomatch z),λ_ _ z=>(nomatch z),λ_ z=>(nomatch z),λ_ z=>(nomatch z)⟩
theorem Inv.freeze(I:Inv X Io Z H s)(hd:H d=some u)(h:cH u){o:Obj}(i:s.heap.get? d=some o):Inv X Io Z (upd H d (.frz o u)) s:=by
 obtain⟨f,l,p,r⟩:=h.notT;have ne:∀{b v},H b=some v->v≠u->b≠d:=λe z y=>z (by rw[y,hd] at e;exact (cq e).symm);refine I.step (h':=s.heap) (g':=s.gens) (d':=s.drawn) (t':=s.toks) (ch:=[]) (λ_ z=>nomatch z) (λb o _ _ _ e _=>e) (λb o _ _ _ e _=>⟨o.slots,e⟩) (λb o _ _ n=>?_) (λb o _ e=>⟨o,e⟩) (λb xs e=>?_) (λb o v e=>?_) (λb ps e=>⟨#[],?_⟩) (λ_ m=>m) (λb v e=>?_) I.bare
 .rw[aB (λz=>by rw[z,hd] at n;cases n)];exact n
 .rw[aB (ne e λz=>f xs z.symm)];exact e
 .rw[aB (ne e λz=>l o v z.symm)];exact e
 .rw[aB (ne e λz=>p ps z.symm),e];simp
 have st:∀{b v},a6 X.prog X.w H s.heap b v->a6 X.prog X.w (upd H d (.frz o u)) s.heap b v:=λx=>
  x.stay (λ_ _ _ q=>q) (λc q=>by rw[aB (ne q λz=>r _ z.symm)];exact q) λc xs q=>by rw[aB (ne q λz=>f xs z.symm)];exact q
 by_cases g:b=d
 .subst g;rw[aG] at e;cases e;exact⟨i,st (I.hok _ _ hd)⟩
 rw[aB g] at e;exact st (I.hok b v e)
def Fz(H H2:Hp)(d:Addr)(o:Obj)(u:HO):Prop:=(H d=some u\/H d=some (.frz o u))/\cH u/\H2=upd H d (.frz o u)
theorem Fz.at{H2:Hp}{o:Obj}(f:Fz H H2 d o u):H2 d=some (.frz o u):=by rw[f.2.2,aG]
theorem Fz.ne{H2:Hp}{o:Obj}{b:Addr}(f:Fz H H2 d o u)(h:b≠d):H2 b=H b:=by rw[f.2.2,aB h]
theorem Inv.fz(I:Inv X Io Z H s)(hd:Rd H d u)(c:cH u):∃o,s.heap.get? d=some o/\Fz H (upd H d (.frz o u)) d o u/\Inv X Io Z (upd H d (.frz o u)) s:=by
 rcases hd with hd|⟨o,hd⟩
 .obtain⟨o,f⟩:=(I.hok d u hd).there;exact⟨o,f,⟨.inl hd,c,rfl⟩,I.freeze hd c f⟩
 have e:upd H d (.frz o u)=H:=by
  funext b;unfold upd;split
  .rename_i z;rw[z,hd]
  rfl
 exact⟨o,(I.hok d _ hd).1,⟨.inr hd,c,rfl⟩,by rw[e];exact I⟩
def DKV(H:Hp)(u:HO)(ks vs:List V):Prop:=
 (∃kvs,u=.dK kvs/\ks=kvs.map (λp=>kV p.1)/\vs=kvs.map (·.2)) \/
 ∃kvs as,u=.dT kvs/\Paired (λ(p:List Key×V) a=>H a=some (.tup (p.1.map kV))) kvs as/\ks=as.map V.ref/\vs=kvs.map (·.2)
theorem j4(I:Inv X Io Z H s)(hd:Rd H d u)(y:cH u) :
  (d==sysModules)=false/\∃ks vs es ep,DKV H u ks vs/\ks.length<=sizeLine/\DAt s.heap d es ep/\Vals ks (es.toList.map (·.key))/\Vals vs (es.toList.map (·.val)):=by
 cases u<;>first|exact False.elim y|skip
 case dK kvs=>
  obtain⟨z,lo,us,rel,o,es,ep,h1,h2,e,_,n,_⟩:=cK I.hok hd;refine⟨lo,_,_,es,ep,.inl ⟨kvs,rfl,rfl,rfl⟩,by rw[List.length_map];exact z,⟨o,h1,h2,e⟩,?_⟩;generalize es.toList=l at n;have go:∀{kvs:List (Key×V)}{us:List (Key×Value)}{l:List DictEntry},KV kvs us->Pairs (bz X.prog X.w) l us->Vals (kvs.map λp=>kV p.1) (l.map (·.key))/\Vals (kvs.map (·.2)) (l.map (·.val)):=by
   intro kvs us l r;induction r generalizing l with
   |nil=>intro p;cases p;exact⟨.nil,.nil⟩
   | @cons a b K l2 h1 h2 c=>
    intro p;cases p with
    |cons A p2 B=>
     obtain⟨C,D⟩:=c B;refine⟨.cons ?_ C,.cons ?_ D⟩
     .dsimp only;rw[h1.1];rcases dA A with ⟨i,t,f,g⟩|⟨x,t,f,g⟩
      .rw[f,g];exact⟨t,rfl⟩
      rw[f,g];exact⟨t,rfl⟩
     dsimp only;rw[p2];exact h1.2
  exact go rel n
 case dT kvs=>
  obtain⟨z,lo,xs,rel,o,es,ep,h1,h2,e,h,E⟩:=eM I.hok hd;clear E;have go:∀{kvs:List (List Key×V)}{xs:List (List Key×Addr×Value)},KT H kvs xs->Paired (λ(p:List Key×V) a=>H a=some (.tup (p.1.map kV))) kvs (xs.map (·.2.1))/\Vals (kvs.map (·.2)) (xs.map (·.2.2)):=by
   intro kvs xs r;induction r with
   |nil=>exact⟨.nil,.nil⟩
   |cons h1 h2 c=>exact⟨.cons h1.2.1 c.1,.cons h1.2.2 c.2⟩
  obtain⟨m,q⟩:=go rel;have v:=iR m;refine⟨lo,_,_,es,ep,.inr ⟨kvs,_,rfl,m,rfl,rfl⟩,by rw[List.length_map,<-v];exact z,⟨o,h1,h2,e⟩,?_,?_⟩
  .rw[h,List.map_map,List.map_map];clear h rel m q v;induction xs with
   |nil=>exact .nil
   |cons x r c=>exact .cons rfl c
  rw[h,List.map_map];exact q
end
end L2
end
section
namespace L2
open PySem PySem.Spec PyProof.Rows PySem.W
def Itk(d:Addr)(o:Obj)(ks:List V):It:=
 ⟨λi H=>i<ks.length/\∃u,H d=some (.frz o u),λi H x H'=>H'=H/\ks[i]?=some x,λi H=>ks.length<=i/\∃u,H d=some (.frz o u)⟩
theorem lb{d:Addr}{o:Obj}{u:HO}{es:Array DictEntry}{ep:Nat}(I:Inv X Io Z H s)(h:H d=some (.frz o u))(x:o.ExactDict)(e:o.data=.dict es ep):DAt s.heap d es ep:=
 ⟨o,(I.hok d _ h).1,x,e⟩
theorem xO{tg:Expr}{d it:Addr}{o:Obj}{es:Array DictEntry}{ep:Nat}{ks:List V}(x:o.ExactDict)(e:o.data=.dict es ep)(r:Vals ks (es.toList.map (·.key))) :
  Turn P w K tg (Itk d o ks) [it] it (λi h=>h.IsKeyIter it d i es.size ep) where
 mem:=by simp
 obj:=λi h st b f=>by
  have e:b=it:=by simpa using f
  subst e;obtain⟨o,e,c,d⟩:=st;exact⟨o,e,λv z=>by rw[d] at z;cases z⟩
 keep:=λi h h' st k=>st.at λo e=>k it (by simp) o e
 item:=by
  intro X g hw l L i Io s Z H E I hf st m;subst g hw l;obtain⟨hi,u,n⟩:=m;have Q:ks.length=es.size:=by have:=r.length;simpa using this
  obtain⟨y,M⟩:∃y,ks[i]?=some y:=⟨ks[i],by simp[hi]⟩;obtain⟨z,p,R⟩:=r.get M;have N:i<es.size:=by lia
  have S:z=es[i].key:=by rw[List.getElem?_map] at p;simp[N] at p;exact p.symm
  obtain⟨q,A,T,B,C,D⟩:=hf it (by simp);refine uS st (lb I n x e) N λh' O sb=>?_;have U:Inv X Io Z H {s with heap:=h'}:=I.turned (t':=s.toks) (λb o f e=>(sb.2 b f).trans e) q A B C D;obtain⟨o',Y,c',d'⟩:=id O;exact⟨_,rfl,lV (s:={s with heap:=h'}) Y c' d' (by decide) ⟨y,H,U,by rw[<-S];exact R,⟨rfl,M⟩,O,λb f=>(hf b f).1⟩⟩
 done:=by
  intro X g hw l L i Io s Z H E I hf st m;subst g hw l;obtain⟨hi,u,n⟩:=m;have Q:ks.length=es.size:=by have:=r.length;simpa using this
  obtain⟨q,A,T,B,C,D⟩:=hf it (by simp);exact dEnd (I.ok.hd L) st (lb I n x e) (by lia) λh' eb=>⟨rfl,I.turned (t':=s.toks) (λb o f e=>eb b o f e) q A B C D⟩
 self:=λ_ _ _ _ _ st h=>Gx st h
section
variable {tg:Expr}
def E4(td:TE):TI:=λZ H R=>td Z H λx H1=>∃(d:Addr)(u:HO),x=.ref d/\Rd H1 d u/\cH u/\∀ks vs o H2,DKV H1 u ks vs->Fz H1 H2 d o u->R (Itk d o ks) H2
theorem uv{h:Heap}{d:Addr}{es:Array DictEntry}{ep:Nat}{o:Obj}(m:DAt h d es ep)(e:h.get? d=some o):o.ExactDict/\o.data=.dict es ep:=by obtain⟨o',b,x⟩:=m;rw[e] at b;cases b;exact x
theorem jD{l:Expr}{td:TE}(m:PE X l td):PI X tg l (E4 td):=by
 intro Io s Z H R I h;refine thn (m Io s Z H _ I h) λv s1 ⟨x,H1,f,n,p⟩=>?_;obtain⟨d,u,e,hd,g,q⟩:=p;subst e;cases n;obtain⟨lo,ks,vs,es,ep,r,A,i,rk,B⟩:=j4 f hd g;obtain⟨o,w,fz,c⟩:=f.fz hd g;obtain⟨ex,y⟩:=uv i w;refine oH lo i ?_;refine⟨s1.heap.objs.size,[s1.heap.objs.size],_,_,_,rfl,c.kept (t':=s1.toks) λb o e=>aE _ e,xO (d:=d) (o:=o) ex y rk,⟨_,a9 _ rfl,rfl,rfl⟩,λb z=>?_,q ks vs o _ r fz⟩;have e:b=s1.heap.objs.size:=by simpa using z
 subst e;exact c.fpOk (ai _) (c.hok.fresh (ai _))
end
def lJ(v d:Addr):HO:=.ext λh=>h.IsItemsView v d
def Iti(d:Addr)(o:Obj)(ks vs:List V):It:=
 ⟨λi H=>i<ks.length/\∃u,H d=some (.frz o u),
  λi H v H'=>∃p x y,H p=none/\v=.ref p/\H'=upd H p (.tup [x,y])/\ks[i]?=some x/\vs[i]?=some y,λi H=>ks.length<=i/\∃u,H d=some (.frz o u)⟩
theorem w_{elts:List Expr}{S}{pos:Pos}{d it:Addr}{o:Obj}{es:Array DictEntry}{ep:Nat}{ks vs:List V}(x:o.ExactDict)(e:o.data=.dict es ep)(r:Vals ks (es.toList.map (·.key)))(D:Vals vs (es.toList.map (·.val))) :
  Turn P w K (.Tuple elts S pos) (Iti d o ks vs) [it] it (λi h=>∃a b,IsItemIter h it d i es.size ep a b) where
 mem:=by simp
 obj:=λi h st b c=>by
  have e:b=it:=by simpa using c
  subst e;obtain⟨_,_,st⟩:=st;exact⟨_,st,λv z=>by
   have f:Data.fields _=Data.cell v:=z;cases f⟩
 keep:=λi h h' st k=>let ⟨a,b,st⟩:=st;⟨a,b,k it (by simp) _ st⟩
 item:=by
  intro X g hw l L i Io s Z H E I hf st m;subst g hw l;obtain⟨hi,u,n⟩:=m;obtain⟨_,_,st⟩:=st;have T:ks.length=es.size:=by have:=r.length;simpa using this
  have ap:vs.length=es.size:=by have:=D.length;simpa using this
  obtain⟨y,M⟩:∃y,ks[i]?=some y:=⟨ks[i],by simp[hi]⟩;obtain⟨N,O⟩:∃y,vs[i]?=some y:=⟨vs[i]'(by lia),by simp⟩;obtain⟨z,p,U⟩:=r.get M;obtain⟨f,A,Y⟩:=D.get O;have B:i<es.size:=by lia
  have ez:z=es[i].key:=by rw[List.getElem?_map] at p;simp[B] at p;exact p.symm
  have ab:f=es[i].val:=by rw[List.getElem?_map] at A;simp[B] at A;exact A.symm
  refine DS st (lb I n x e) B λh1 ad Q k1=>?_;refine⟨_,rfl,wpAny_letOwnedTupleGo_items ad λh2 al sb=>?_⟩;replace sb:Heap.SameBut it h1 h2:=sb;have C:it<s.heap.objs.size:=aH st;have am:s.heap.get? s.heap.objs.size=none:=uX (ai _);have hn:H s.heap.objs.size=none:=I.hok.fresh (ai _);have I2:Inv X Io Z (upd H s.heap.objs.size (.tup [y,N])) {s with heap:=h2}:=by
   refine I.turnLaid (t':=s.toks) (ch:=[it]) hf (λb o c q=>?_) am λH'=>?_
   .have R:b≠it:=λz=>c (by simp[z]);exact (sb.2 b R).trans (k1 b o R q)
   exact⟨⟨by simp;rw[cu];lia,_,(sb.2 _ (mq C)).trans Q,rfl⟩,[es[i].key,es[i].val],.cons (by rw[<-ez];exact U) (.cons (by rw[<-ab];exact Y) .nil),⟨_,(sb.2 _ (mq C)).trans Q,rfl,_,rfl⟩⟩
  refine⟨.ref s.heap.objs.size,_,I2,rfl,⟨s.heap.objs.size,y,N,hn,rfl,rfl,M,O⟩,⟨_,_,al⟩,λb c=>?_⟩;have an:b=it:=by simpa using c
  rw[an,aB (aU C)];exact (hf it (by simp)).1
 done:=by
  intro X g hw l L i Io s Z H E I hf st m;subst g hw l;obtain⟨hi,u,n⟩:=m;obtain⟨_,_,st⟩:=st;have T:ks.length=es.size:=by have:=r.length;simpa using this
  obtain⟨f0,f1,f2,f3,f4,f5⟩:=hf it (by simp);exact Fb (I.ok.hd L) st (lb I n x e) (by lia) λh' eb=>⟨rfl,I.turned (t':=s.toks) (λb o c e=>eb b o c e) f0 f1 f3 f4 f5⟩
 self:=λ_ _ _ _ _ st h=>by
  obtain⟨_,_,st⟩:=st;exact kcp_self st h
section
def Dd:V->List V->Hp->VK->Prop:=λx xs H Q=>∃(d:Addr)(u:HO),x=.ref d/\xs=[]/\Rd H d u/\cH u/\∀v,H v=none->Q (.ref v) (upd H v (lJ v d))
theorem Af:MtM X "dict.items" Dd:=by
 intro Io s Z H x xs v us Q I g rs h;obtain⟨d,u,rfl,rfl,hd,i,q⟩:=h;cases g;cases rs;obtain⟨lo,ks,vs,es,ep,l,m,f,rk,n⟩:=j4 I hd i;refine mz FS f.ty PySem.F.entry_dict_items (PySem.F.args_dict_items_1 _) (S:=λA R s=>(∃es ep,DAt s.heap d es ep)/\R (.ok (.ret (.ref s.heap.objs.size))) {s with heap:=s.heap.push {cls:=.type "dict_items",data:=.fields #[.ref d]}}) (.of_wp λprog w A R s h=>?_) ⟨⟨es,ep,f⟩,?_⟩
 .obtain⟨⟨es,ep,f⟩,h⟩:=h;unfold Builtin.«dict.items» Builtin.Dict.noArgs;refine aa (aa (vR f.ty ?_));refine (show wpAny _ _ (pure d) _ _ s from aj ?_);refine (show wpAny _ _ (Builtin.Dict.showsAll d >>= _) _ _ s from ?_);unfold Builtin.Dict.showsAll;rw[Ii (show ¬(d==sysModules)=true by rw[lo];simp)];exact aa (aj (aa (ff (aj ⟨_,rfl,h⟩))))
 refine⟨.ref s.heap.objs.size,_,I.laid (a:=s.heap.objs.size) (o:=lJ s.heap.objs.size d) (t':=s.toks) (λb o e=>aE _ e) (ai _) ⟨⟨_,a9 _ rfl,rfl,rfl⟩,⟨_,a9 _ rfl⟩,λh1 h2 p k=>?_⟩,rfl,q _ (I.hok.fresh (ai _))⟩;obtain⟨o,e,c⟩:=p;exact⟨o,k o e,c⟩
def DI(td:TE):TI:=λZ H R=>td Z H λx H1=>∃(v d:Addr)(u:HO),x=.ref v/\H1 v=some (lJ v d)/\Rd H1 d u/\cH u/\∀ks vs o H2,DKV H1 u ks vs->Fz H1 H2 d o u->R (Iti d o ks vs) H2
theorem zQ{l:Expr}{td:TE}{elts:List Expr}{m}{pos:Pos}(n:PE X l td):PI X (.Tuple elts m pos) l (DI td):=by
 intro Io s Z H R I h;refine thn (n Io s Z H _ I h) λv s1 ⟨x,H1,c,p,r⟩=>?_;obtain⟨v,d,u,e,y,hd,g,q⟩:=r;subst e;cases p;have z:s1.heap.IsItemsView v d:=(show a6 X.prog X.w H1 s1.heap v (lJ v d) from c.hok v _ y).1;obtain⟨lo,ks,vs,es,ep,A,K,i,rk,B⟩:=j4 c hd g;obtain⟨o,C,fz,f⟩:=c.fz hd g;obtain⟨ex,D⟩:=uv i C;refine DT z i ?_;refine⟨s1.heap.objs.size,[s1.heap.objs.size],_,_,_,rfl,f.kept (t':=s1.toks) λb o e=>aE _ e,w_ (d:=d) (o:=o) ex D rk B,⟨_,_,a9 _ rfl⟩,λb E=>?_,q ks vs o _ A fz⟩;have e:b=s1.heap.objs.size:=by simpa using E
 subst e;exact f.fpOk (ai _) (f.hok.fresh (ai _))
end
section
def kS(v d:Addr):HO:=.ext λh=>h.IsValuesView v d
def Bp:V->List V->Hp->VK->Prop:=λx xs H Q=>∃(d:Addr)(kvs:List (Key×V)),x=.ref d/\xs=[]/\Rd H d (.dK kvs)/\∀v,H v=none->Q (.ref v) (upd H v (kS v d))
theorem yv:MtM X "dict.values" Bp:=by intro Io s Z H x xs v us Q I f rs h;obtain⟨d,kvs,rfl,rfl,hd,q⟩:=h;cases f;cases rs;obtain⟨z,lo,vs,rel,dd⟩:=cK I.hok hd;refine fR FX dd.typeIs PySem.F.entry_dict_values (PySem.F.args_dict_values_1 _) (meets_dict_values (bz X.prog X.w) d lo) ⟨⟨_,dd⟩,?_⟩;refine⟨.ref s.heap.objs.size,_,I.laid (a:=s.heap.objs.size) (o:=kS s.heap.objs.size d) (t':=s.toks) (λb o e=>aE _ e) (ai _) ⟨⟨_,a9 _ rfl,rfl,rfl⟩,⟨_,a9 _ rfl⟩,λh1 h2 p k=>?_⟩,rfl,q _ (I.hok.fresh (ai _))⟩;obtain⟨o,e,c⟩:=p;exact⟨o,k o e,c⟩
def xW:List V->Hp->VK->Prop:=λxs H Q=>∃(v d:Addr)(kvs:List (Key×V)),xs=[.ref v]/\H v=some (kS v d)/\Rd H d (.dK kvs)/\∀l,H l=none->Q (.ref l) (upd H l (.lst (kvs.map (·.2))))
theorem we(x:X.calm=true):bJ X (.type "list") xW:=by
 intro Io s Z H xs us Q I r h;obtain⟨v,d,kvs,rfl,A,hd,q⟩:=h;obtain⟨u,rfl,B⟩:=Vals.one r;cases B;have C:s.heap.IsValuesView v d:=(show a6 X.prog X.w H s.heap v (kS v d) from I.hok v _ A).1;obtain⟨z,lo,vs,rel,dd⟩:=cK I.hok hd;have D:kvs.length=vs.length:=rel.length;obtain⟨ep,E⟩:=dd.dictAt;refine kdl_call (kdl_values (knd:=bz X.prog X.w) (r:=v) (d:=d) (kvs:=vs) (ep:=ep)) (I.ok.hd x) ⟨C,E⟩ (by lia) λh' tk acc c kp e it=>?_;have g:s.heap.objs.size<=s.heap.objs.size:=ai _;refine⟨.ref s.heap.objs.size,_,I.laid (t':=tk) (o:=.lst (kvs.map (·.2))) kp g ⟨by rw[List.length_map];exact z,acc.toList,c,p7 (by rw[List.length_map,D];simp[it.1]) λj y K=>?_,by rw[e]⟩,rfl,q _ (I.hok.fresh g)⟩;obtain⟨k,i⟩:=it.2 j y (by simpa using K);have n:j<kvs.length:=by have:=(List.getElem?_eq_some_iff.mp i).1;lia
 refine⟨kvs[j].2,by simp[n],?_⟩;have at_:∀{l:List (Key×V)}{m:List (Key×Value)}{j:Nat}{p:Key×V}{q:Key×Value},KV l m->l[j]?=some p->m[j]?=some q->ar p.2 q.2:=by
  intro l m j p q r;induction r generalizing j with
  |nil=>intro e;simp at e
  |cons h1 h2 L=>
   intro b f;cases j with
   |zero=>simp at b f;subst b f;exact h1.2
   |succ j=>exact L (by simpa using b) (by simpa using f)
 exact at_ rel (by simp[n]:kvs[j]?=some kvs[j]) i
def Bs:V->List V->Hp->VK->Prop:=λx xs H Q=>∃(d:Addr)(kvs:List (Key×V))(k:Key)(z:V),x=.ref d/\xs=[kV k,z]/\H d=some (.dK kvs)/\kvs.length<sizeLine/\
 (∀v,aI kvs k=some v->Q v H)/\(aI kvs k=none->Q z (upd H d (.dK (aW kvs k z))))
theorem wo:MtM X "dict.setdefault" Bs:=by
 intro Io s Z H x xs v us Q I g rs h;obtain⟨d,kvs,k,z,rfl,rfl,hd,B,i,l⟩:=h;cases g;obtain⟨C,m,rfl,n,c⟩:=rs.two;obtain⟨D,lo,vs,rel,dd⟩:=gG I.hok hd;have E:kvs.length=vs.length:=rel.length;have b:=rel.val k;refine fR FW dd.typeIs PySem.F.entry_dict_setdefault (PySem.F.args_dict_setdefault_3 _ _ _) (kt_meets_setdefault (bz X.prog X.w) d (dN n) lo m) ⟨vs,dd,by lia,λv o=>?_,λp h' f r=>?_⟩
 .rw[o] at b;cases e:aI kvs k with
  |none=>rw[e] at b;exact False.elim b
  |some y=>
   rw[e] at b;exact⟨y,H,I.tok _,b,i y e⟩
 rw[p] at b;cases e:aI kvs k with
 |some y=>rw[e] at b;exact False.elim b
 |none=>
  have u:(aW kvs k z).length<=sizeLine:=by have:=gX kvs k z;lia
  have he:∃q,h'.get? d=some q:=let ⟨q,_,_,A,_⟩:=f;⟨q,A⟩;exact⟨z,_,gr I (by rw[hd];exact True.intro) r he (gE u lo (rel.put k c) f),c,l e⟩
end
section
def EL:List V->Hp->VK->Prop:=λxs H Q=>∃(d:Addr)(kvs:List (Key×V))(ns:List Int),xs=[.ref d]/\Rd H d (.dK kvs)/\kvs.map (λp=>kV p.1)=ns.map V.int/\ns≠[]/\∀m,m∈ns->(∀n∈ns,m<=n)->Q (.int m) H
theorem DB(es:Array DictEntry){i:Nat}(hi:i<es.size):(es.toList.map (·.key)).toArray[i]?=some es[i].key:=by simp[hi]
theorem pT(m:X.calm=true):bJ X (.builtin "min") EL:=by
 intro Io s Z H xs us Q I r h;obtain⟨d,kvs,ns,rfl,hd,n,g,q⟩:=h;obtain⟨u,rfl,p⟩:=Vals.one r;cases p;obtain⟨lo,ks,vs,es,ep,w,L,c,rk,M⟩:=j4 I hd (u:=.dK kvs) trivial;have x:ks=ns.map V.int:=by
  rcases w with ⟨N,e,y,_⟩|⟨_,_,e,_⟩
  .cases e;rw[y,n]
  cases e
 subst x;have l:ns.length=es.size:=by have:=rk.length;simpa using this
 refine call_min_walk (oH lo c ?_);refine⟨s.heap.objs.size,_,_,_,_,_,_,rfl,uw (A:=X.A.in1) (es:=es) (ep:=ep) (d:=d) (I.ok.hd m) _ (aU c.lt),⟨⟨_,a9 _ rfl,rfl,rfl⟩,c.at λo e=>aE _ e⟩,λb f=>?_,?_,CmpOf.ints_lt (λi=>ns.getD i 0) (λi v e=>?_),λv h' tk B C=>?_⟩
 .show b<(s.heap.push _).objs.size;rw[iO];rcases List.mem_cons.mp f with rfl|f
  .exact eg _
  rw[List.mem_singleton.mp f];exact fc c.lt
 .rw[<-l];exact List.length_pos_iff.mpr g
 .obtain⟨hi,rfl⟩:=e;exact ui rk i _ (by simp[hi])
 obtain⟨hi,rfl⟩:=B;obtain⟨t,D⟩:=ui rk _ _ (DB es hi);obtain⟨E,K⟩:=AV ns g;have e:es.size-1=ns.length-1:=by rw[l]
 refine⟨.int _,H,I.kept (t':=tk) λb o e=>C b o (λz=>by rw[List.mem_singleton.mp z] at e;exact absurd (aH e) (cT _)) (aE _ e),⟨t,D⟩,?_⟩;rw[e];exact q _ E K
end
open PySem.SeqAt in
theorem v9(l:Addr)(items:Array Value)(n:Nat)(dd:Option Addr)(o:Array (Option Value))(x:Value)(e:Nat->Bool)(j:Nat)(C:j<items.size)(hit:e j=true)(p:∀m,m<j->e m=false) :
  Meets (Builtin.«tuple.index» ⟨[.ref l,x],[]⟩)
   (λA R s=>s.heap.get? l=some {cls:=.type "tuple",dict:=dd,data:=.seq items n,slots:=o}/\(∀m (h:m<items.size),EqAt A.in1 s items[m] x (e m))/\R (.ok (.ret (.int j s.toks))) {s with toks:=s.toks+1}):=
 .of_wp λprog w A R s h=>by
  obtain⟨q,g,d,tk,os⟩:=s;obtain⟨r,he,h⟩:=h;unfold Builtin.«tuple.index»;simp only[Ih]
  wp_walk using G0 r,Gq _ (λrest b s'=>b.1=none/\s'=⟨q,g,d,tk,os⟩/\∃i,i<=j/\rest=List.range' i (items.size-i)) _
  case turn=>
   rintro y rest b s' ⟨D,rfl,i,u,c⟩;have v:items.size-i=(items.size-(i+1))+1:=by lia
   rw[v,List.range'_succ] at c;injection c with h1 h2;subst h1;have f:y<items.size:=by lia
   have B:items[y]?=some items[y]:=by simp[f]
   rw[B];refine aa (he y f prog w _ _ ?_);by_cases z:y=j
   .subst z;rw[hit]
    wp_walk
    exact⟨_,rfl,h⟩
   rw[p y (by lia)]
   wp_walk
   exact⟨rfl,rfl,y+1,by lia,h2⟩
  case fin=>
   rintro b s' ⟨_,_,i,u,c⟩;have:=congrArg List.length c;simp at this;lia
  case h=>
   exact⟨rfl,rfl,0,aD _,by simp[Std.Legacy.Range.size]⟩
section
def Bx(K:Frag):V->List V->Hp->VK->Prop:=λx vs H Q=>∃(a:Addr)(xs:List V)(ds:List PyData)(y:V)(d:PyData)(j:Nat),x=.ref a/\vs=[y]/\SqT K H a xs/\Dts K H xs ds/\Dt K H y d/\d.depth<=60/\
 j<ds.length/\PyData.eqv (ds.getD j .none) d=true/\(∀m,m<j->PyData.eqv (ds.getD m .none) d=false)/\Q (.int (j:Int)) H
theorem yw(z:X.A.units+64<cLine):MtM X "tuple.index" (Bx []):=by
 intro Io s Z H x vs v us Q I B C h;obtain⟨a,xs,ds,y,d,j,rfl,rfl,D,f,hd,E,Y,K,L,q⟩:=h;cases B;obtain⟨u,rfl,M⟩:=C.one;obtain⟨b,rs,p,hsz⟩:=I.tuple D;obtain⟨as,g⟩:=Dts.reads I ds xs b f rs;obtain⟨bs,N⟩:=Dt.reads I d y u hd M;have hl:b.length=ds.length:=HJ _ _ _ g;obtain⟨⟨cls,dd,data,O⟩,i,l,n,o⟩:=id p;simp only at l o;subst l o;refine mz FZ ⟨_,i,rfl⟩ PySem.F.entry_tuple_index (PySem.F.args_tuple_index_2 _ _) (v9 a b.toArray n dd O u (λm=>PyData.eqv (ds.getD m .none) d) j (by simp;lia) K L) ⟨i,λm hm=>?_,?_⟩
 .have ab:m<ds.length:=by rw[List.size_toArray] at hm;lia
  obtain⟨e,cs,P,R,hle⟩:∃e cs,PySem.Reads s.heap b.toArray[m] e cs/\e.canLay0=true/\e=ds.getD m .none:=by
   have go:∀(ds:List PyData)(b:List Value)(as:List Addr)(m:Nat)(h:m<b.length),ReadsAll s.heap b ds as->PyData.canLayAll0 ds=true->∃cs,PySem.Reads s.heap b[m] (ds.getD m .none) cs/\(ds.getD m .none).canLay0=true:=by
    intro ds;induction ds with
    |nil=>intro b as m h r _;cases r;simp at h
    |cons d ds S=>
     intro b as m h r c;have w:d.canLay0=true/\PyData.canLayAll0 ds=true:=by simpa [PyData.canLayAll0] using c
     cases r with
     |cons T U=>
      cases m with
      |zero=>exact⟨_,T,w.1⟩
      |succ m=>exact S _ _ m (by simpa using h) U w.2
   obtain⟨cs,h1,h2⟩:=go ds b as m (by simpa using hm) g (Dts.can ds _ f);exact⟨_,cs,by simpa using h1,h2,rfl⟩
  rw[<-hle];refine HM e d X.A.in1 s _ _ _ _ P N R (Dt.can d y hd) ?_;show X.A.units+1+min _ _<cLine;exact min61 z E
 exact⟨.int (j:Int),H,I.tok _,⟨_,rfl⟩,q⟩
end
section
variable {prog:Program}{R:Result->Shared->Prop}{I:Addr}{fp wr:List Addr}{n:Nat}{P:Nat->Value->Prop}{St:Nat->Heap->Prop}{OK:Heap->Prop}
def oI(prog:Program)(w:World)(A:Around)(OK:Heap->Prop)(P:Nat->Value->Prop)(d:Nat->Nat->Bool):Prop:=
 ∀i j b c (s:Shared) (Q:Value->Shared->Prop) (E:Value->Shared->Prop),OK s.heap->P i b->P j c->Q (.bool (d i j)) s->wpAny (model prog w) A (richCompare .Lt b c) Q E s
theorem xy(W:Walks prog w A.in1 I fp wr n P St)(l:Nat->Nat->Bool)(O:oI prog w A.in1 OK P l)(S:Addr)(H:S∉fp)
  (ok:∀h h':Heap,OK h->(∀b o,b∉wr->b≠S->h.get? b=some o->h'.get? b=some o)->OK h') :
  ∀(k j:Nat)(s:Shared)(f:Value)(c:Nat),n-(j+1)=k->j+1<=n->OK s.heap->St (j+1) s.heap->P (argBest l j) f->
  s.heap.get? S=some {cls:=.type "list",dict:=none,data:=.seq #[f,f] c,slots:=#[]}->
  (∀v h' tk,P (argBest l (n-1)) v->(∀b o,b∉wr->b≠S->s.heap.get? b=some o->h'.get? b=some o)->R (.ok (.ret v)) {s with heap:=h',toks:=tk})->
  codeAny (model prog w) A (.builtin "min.loop" ⟨[.ref I,.none,.ref S],[]⟩) R s:=by
 have nw:S∉wr:=λh=>H (W.sub _ h);have nm:(toString "min"++toString ".loop" : String) = "min.loop":=by decide
 intro k;induction k with
 |zero=>
  intro j s f c Q T K u p m q;have z:j+1=n:=by lia
  refine fS vn ?_;rw[iK iW _];refine (show wpAny _ A.in1 (seqItems? (.ref S) >>= _) _ _ s from aa (vT m rfl ?_));refine (show wpAny _ A.in1 (tryCatch (pyNext (.ref I)) _ >>= _) _ _ s from aa (mH (W.done s _ _ (z ▸ u) λh' tk g=>?_)));refine (show wpAny _ A.in1 (updateSeq S (λ_=>#[]) >>= _) _ _ _ from aa (vV (g S _ nw m) rfl (aa (kE (aj ?_)))));exact q f _ tk (by rw[<-z];exact p) λb o i d e=>(mh _ _ (aF d)).trans (g b o i e)
 |succ k L=>
  intro j s f c Q T K u p m q;have lt:j+1<n:=by lia
  refine fS vn ?_;rw[iK iW _];refine (show wpAny _ A.in1 (seqItems? (.ref S) >>= _) _ _ s from aa (vT m rfl ?_));refine (show wpAny _ A.in1 (tryCatch (pyNext (.ref I)) _ >>= _) _ _ s from aa (mH (W.item (j+1) s _ _ lt u λv h' tk M N g=>?_)));have x:=g S _ nw m;have h1:OK h':=ok _ _ K λb o r _ e=>g b o r e;refine (show wpAny _ A.in1 (tryCatch (holding [v,v] (richCompare .Lt v f >>= _)) _ >>= _) _ _ _ from aa (mH (c9 (aa (O (j+1) (argBest l j) v f _ _ _ h1 M p ?_)))));refine aa (c9 (fU (aa (kE (aj ?_)))));cases r:l (j+1) (argBest l j) with
  |true=>
   simp only[if_true];refine aa (vV x rfl (aa (kE ?_)));rw[nm];have up:∀b o,b≠S->h'.get? b=some o->(h'.update S (Obj.mapSeq λ_=>#[v,v])).get? b=some o:=λb o d e=>(mh _ _ (aF d)).trans e;exact aj ⟨gU iW _,L (j+1) _ v _ (by lia) lt (ok _ _ h1 λb o _ d e=>up b o d e) (W.frame _ _ _ N λb U o e=>up b o (λh=>H (by rw[<-h];exact U)) e) (by simp only[argBest,r,if_true];exact M) (oX _ x rfl)
    λy B C D E=>q y B C D λb o i d e=>E b o i d (up b o d (g b o i e))⟩
  |false=>
   simp only[iL,if_false];refine aa (kE ?_);rw[nm];exact aj ⟨gU iW _,L (j+1) _ f c (by lia) lt h1 N (by simp only[argBest,r,iL,if_false];exact p) x λy B C D E=>q y B C D λb o i d e=>E b o i d (g b o i e)⟩
theorem wV(W:Walks prog w A.in1 I fp wr n P St)(f:Nat->Nat->Bool)(r:oI prog w A.in1 OK P f)(S:Addr)(g:S∉fp)(ok:∀h h':Heap,OK h->(∀b o,b∉wr->b≠S->h.get? b=some o->h'.get? b=some o)->OK h')(l:0<n){c:Nat}(u:OK s.heap)(x:St 0 s.heap)
  (m:s.heap.get? S=some {cls:=.type "list",dict:=none,data:=.seq #[] c,slots:=#[]})
  (y:∀v h' tk,P (argBest f (n-1)) v->(∀b o,b∉wr->b≠S->s.heap.get? b=some o->h'.get? b=some o)->R (.ok (.ret v)) {s with heap:=h',toks:=tk}) :
  codeAny (model prog w) A (.builtin "min.loop" ⟨[.ref I,.none,.ref S],[]⟩) R s:=by
 have nw:S∉wr:=λh=>g (W.sub _ h);have nm:(toString "min"++toString ".loop" : String) = "min.loop":=by decide
 refine fS vn ?_;rw[iK iW _];refine (show wpAny _ A.in1 (seqItems? (.ref S) >>= _) _ _ s from aa (vT m rfl ?_));refine (show wpAny _ A.in1 (tryCatch (pyNext (.ref I)) _ >>= _) _ _ s from aa (mH (W.item 0 s _ _ l x λv h' tk z B i=>?_)));have p:=i S _ nw m;have h1:OK h':=ok _ _ u λb o C _ e=>i b o C e;refine (show wpAny _ A.in1 (updateSeq S (λ_=>#[v,v]) >>= _) _ _ _ from aa (vV p rfl ?_));rw[nm];have up:∀b o,b≠S->h'.get? b=some o->(h'.update S (Obj.mapSeq λ_=>#[v,v])).get? b=some o:=λb o d e=>(mh _ _ (aF d)).trans e;exact aj ⟨gU iW _,xy W f r S g ok _ 0 _ v _ rfl l (ok _ _ h1 λb o _ d e=>up b o d e) (W.frame _ _ _ B λb D o e=>up b o (λh=>g (by rw[<-h];exact D)) e) z (oX _ p rfl)
  λE H K L M=>y E H K L λb o q d e=>M b o q d (up b o d (i b o q e))⟩
end
section
variable {prog:Program}
theorem xK{x:Value}{Q:Value->Shared->Prop}{OK:Heap->Prop}
  (h:wpAny (model prog w) A.in1 (pyIter x) (λit s₂=>∃I fp wr n P St c,it=.ref I/\Walks prog w A.in1 I fp wr n P St/\St 0 s₂.heap/\OK s₂.heap/\(∀S,s₂.heap.objs.size<=S->∀h h':Heap,OK h->(∀b o,b∉wr->b≠S->h.get? b=some o->h'.get? b=some o)->OK h')/\(∀b∈fp,b<s₂.heap.objs.size)/\0<n/\oI prog w A.in1 OK P c/\
   ∀v h' tk,P (argBest c (n-1)) v->(∀b o,b∉wr->s₂.heap.get? b=some o->h'.get? b=some o)->Q v {s₂ with heap:=h',toks:=tk}) E s) :
  wpAny (model prog w) A (call (.builtin "min") [x]) Q E s:=by
 have nm:(toString "min"++toString ".loop" : String) = "min.loop":=by decide
 refine call_function_tree PySem.F.kind_min PySem.F.plain_min PySem.F.entry_min (PySem.F.args_min1 _) ?_;refine (show wpAny _ A.in1 (Builtin.Builtins.bindParams "min" ["key","default"] 0 ⟨[],[]⟩ >>= _) _ _ s from aa (vS (show Builtin.Builtins.bindParams "min" ["key","default"] 0 ⟨[],[]⟩=pure [none,none] from rfl) (aa (aj ?_))));refine aa (bT h (λit s2 h2=>?_) λ_ _ e=>e);obtain⟨I,fp,wr,n,P,St,c,rfl,W,d,f,ok,g,i,l,m⟩:=h2;have p:s2.heap.objs.size∉fp:=λhm=>cT _ (g _ hm);refine aa (ff ?_);rw[nm];have pu:∀b o,s2.heap.get? b=some o->(s2.heap.push {cls:=.type "list",data:=.seq #[]}).get? b=some o:=λb o e=>aE _ e;refine aj ⟨gU iW _,wV W c l s2.heap.objs.size p (ok _ (ai _)) i (ok _ (ai _) _ _ f λb o _ _ e=>pu b o e) (W.frame _ _ _ d λb _ o e=>pu b o e) (a9 _ rfl) λv h' tk q r=>?_⟩;exact m v h' tk q λb o u e=>r b o u (aU (aH e)) (pu b o e)
end
end L2
end
section
namespace L2
open PySem PySem.Spec PyProof.Rows PySem.W
theorem qF:∀a:List Int,HT.lexLt a a=false
 | []=>rfl
 |x::r=>by
  unfold HT.lexLt;simp[qF r]
theorem rH:∀a b c:List Int,HT.lexLt a b=true->HT.lexLt b c=true->HT.lexLt a c=true
 | [],[],_,h,_=>nomatch h
 | [],_::_,[],_,h=>nomatch h
 | [],_::_,_::_,_,_=>rfl
 |_::_,[],_,h,_=>nomatch h
 |_::_,_::_,[],_,h=>nomatch h
 |x::r,y::t,z::u,h1,h2=>by
  unfold HT.lexLt at h1 h2 |-;have d:=rH r t u;by_cases e:x=y<;>by_cases f:y=z<;>by_cases g:x=z<;>simp_all<;>lia
theorem tK(b:Nat->Nat->Bool)(d:∀i,b i i=false)(tr:∀i j k,b i j=true->b j k=true->b i k=true):∀m,argBest b m<=m/\∀j,j<=m->b j (argBest b m)=false
 |0=>⟨ai _,λj f=>by
  have:j=0:=by lia
  subst this;exact d 0⟩
 |m+1=>by
  obtain⟨h1,h2⟩:=tK b d tr m;cases c:b (m+1) (argBest b m) with
  |true=>
   have e:argBest b (m+1)=m+1:=by simp only[argBest,c,if_true]
   rw[e];refine⟨ai _,λj f=>?_⟩;by_cases z:j=m+1
   .rw[z];exact d _
   cases q:b j (m+1) with
   |false=>rfl
   |true=>
    have:=tr _ _ _ q c;rw[h2 j (by lia)] at this;cases this
  |false=>
   have e:argBest b (m+1)=argBest b m:=by simp only[argBest,c,iL,if_false]
   rw[e];refine⟨by lia,λj f=>?_⟩;by_cases z:j=m+1
   .rw[z];exact c
   exact h2 j (by lia)
section
def C_(K:Frag):List V->Hp->VK->Prop:=λxs H Q=>∃(a:Addr)(ys:List V)(b:List (List Int)),xs=[.ref a]/\SqL K H a ys/\Tups K H ys b/\ys≠[]/\
 ∀i y,ys[i]?=some y->(∀j,j<ys.length->HT.lexLt (b.getD j []) (b.getD i [])=false)->Q y H
theorem wt(N:X.calm=true)(hu:X.A.units+64<cLine):bJ X (.builtin "min") (C_ []):=by
 intro Io s Z H xs us Q I r h;obtain⟨a,ys,d,rfl,O,P,R,q⟩:=h;obtain⟨u,rfl,T⟩:=Vals.one r;cases T;obtain⟨m,w,p,hz⟩:=I.list O;have U:=w.length;have x:=p.isList;have L:a<s.heap.objs.size:=by obtain⟨_,e,_⟩:=x;exact aH e
 have get:∀(i:Nat)(v:Value),m[i]?=some v->∃(b:Addr)(c:List Value),v=.ref b/\b<s.heap.objs.size/\IsTup s.heap b c.toArray/\IntsAre c (d.getD i []):=by
  intro i v e;obtain⟨y,B,C⟩:=kT w e;have go:∀{ys:List V}{d:List (List Int)}{i:Nat}{y:V},Tups [] H ys d->ys[i]?=some y->∃b,y=V.ref b/\SqT [] H b ((d.getD i []).map V.int):=by
   intro ys d i y t;induction t generalizing i with
   |nil=>intro e;simp at e
   |cons h1 h2 Y=>
    intro e;cases i with
    |zero=>simp at e;subst e;obtain⟨b,l,f,_⟩:=h1;exact⟨b,l,f⟩
    |succ i=>exact Y (by simpa using e)
  obtain⟨b,rfl,g⟩:=go P B;cases C;obtain⟨c,r1,n,_⟩:=I.tuple g;exact⟨b,c,rfl,n.lt,n,gZ r1⟩
 refine xK (OK:=λh=>∀(i:Nat)(v:Value),m.toArray[i]?=some v->∃(b:Addr)(c:List Value),v=.ref b/\b<s.heap.objs.size/\IsTup h b c.toArray/\IntsAre c (d.getD i [])) (pK x ?_);refine⟨s.heap.objs.size,_,_,_,_,_,(λi j=>HT.lexLt (d.getD i []) (d.getD j [])),rfl,Gc (A:=X.A.in1) (I.ok.hd N) _ a (aU L) m.toArray,⟨⟨_,a9 _ rfl,rfl,rfl⟩,x.push _⟩,λi v e=>?_,λS hS h h' ok k i v e=>?_,λb g=>?_,?_,λi j vi vj s' Q' E' ok hi M hQ=>?_,λv h' tk hP hk=>?_⟩
 .obtain⟨b,c,l,f,⟨o,D,E⟩,K⟩:=get i v (by simpa using e);exact⟨b,c,l,f,⟨o,aE _ D,E⟩,K⟩
 .obtain⟨b,c,l,f,⟨o,D,E⟩,K⟩:=ok i v e;have ab:s.heap.objs.size+1<=S:=by rw[<-iO];exact hS
  exact⟨b,c,l,f,⟨o,k b o (λz=>by rw[List.mem_singleton.mp z] at f;exact cT _ f) (λz=>by rw[z] at f;exact absurd (FA f ab) (cT _)) D,E⟩,K⟩
 .show b<(s.heap.push _).objs.size;rw[iO];rcases List.mem_cons.mp g with rfl|g
  .exact eg _
  rw[List.mem_singleton.mp g];exact fc L
 .rw[List.size_toArray,<-U];exact List.length_pos_iff.mpr R
 .obtain⟨b,c,rfl,_,n,i1⟩:=ok i vi hi;obtain⟨b',ad,rfl,_,p2,i2⟩:=ok j vj M;exact HT.lt_tupInts (A:=X.A.in1) n p2 (by simpa using i1) (by simpa using i2) (by show X.A.units+1<cLine;lia) hQ
 obtain⟨y,B,C⟩:=kT w (by simpa using hP);have g:=tK (λi j=>HT.lexLt (d.getD i []) (d.getD j [])) (λi=>qF _) (λi j k=>rH _ _ _) (m.toArray.size-1);refine⟨y,H,I.kept (t':=tk) λb o e=>hk b o (λz=>by rw[List.mem_singleton.mp z] at e;exact absurd (aH e) (cT _)) (aE _ e),C,q _ y B λj M=>g.2 j ?_⟩;rw[List.size_toArray];lia
end
end L2
end
section
namespace L2
open PySem PySem.Spec PyProof.Rows
section
def l6{α:Type}(xs:List α)(lo hi:Option Int):List α:=(xs.drop (HT.sIx xs.length 0 lo)).take (HT.sIx xs.length xs.length hi-HT.sIx xs.length 0 lo)
end
end L2
end
section
namespace L2
open PySem PySem.Spec PyProof.Rows PySem.W
section
variable {prog:Program}{x D:Addr}{ox:Obj}
end
section
theorem gi{c:String}:bJ X (.builtin "isinstance") (λxs H Q=>∃(x:V)(ty:Value)(b:Bool),xs=[x,.ty c]/\cS X.K H x ty/\W.kitOne X.K ty (.type c)=some b/\Q (.bl b) H):=by intro Io s Z H xs us Q I r h;obtain⟨x,ty,b,rfl,d,e,q⟩:=h;obtain⟨u,f,rfl,g,i⟩:=vals2 r;cases (show f=Value.type c from i);exact yI I g d e λtk=>⟨.bl b,H,I.tok _,rfl,q⟩
end
end L2
end
section
namespace K51
open PySem L2
structure bD(mg:Str->Option Value):Prop where
 len:mg "len" = none
 int:mg "int" = none
 str:mg "str" = none
 isi:mg "isinstance" = none
 range:mg "range" = none
 list:mg "list" = none
 tuple:mg "tuple" = none
 bool:mg "bool" = none
 all:mg "all" = none
 ve:mg "ValueError" = none
 rev:mg "reversed" = none
 enum:mg "enumerate" = none
theorem Ca{α:Type}(l:List α)(a b:Nat):l6 l (some (a:Int)) (some (b:Int))=(l.drop a).take (b-a):=by
 unfold l6;rw[HT.sIx_nat,HT.sIx_nat];by_cases h:a<=l.length
 .rw[pj h];by_cases c:b<=l.length
  .rw[pj c]
  rw[Nat.min_eq_right (by lia),List.take_of_length_le (by rw[List.length_drop];lia),List.take_of_length_le (by rw[List.length_drop];lia)]
 rw[List.drop_of_length_le (show l.length<=a by lia),List.drop_of_length_le (show l.length<=min a l.length by lia)];simp
theorem AK{α:Type}(l:List α)(a:Nat):l6 l (some (a:Int)) none=l.drop a:=by have h:=Ca l a l.length;rw[List.take_of_length_le (by rw[List.length_drop];lia)] at h;rw[<-h];unfold l6;rw[HT.sIx_none,HT.sIx_nat,HT.sIx_nat,Nat.min_self]
theorem line5000:5010<=sizeLine:=by rw[cu];decide
theorem bf{t:Addr}{o:HO}(h:H t=none):Same H (upd H t o):=λb u e=>by rw[aB (ah e h)];exact e
theorem g_{N:List Str}(nd:N.Nodup)(kind:scope.kind=.function)(c:scope.names.all (λy=>y.2 != .cell&&y.2 != .free)=true)
  (nm:scope.names.all (λy=>y.2 != .local||scope.names.lookup y.1==some .local)=true):dt X N (N.map λ_=>none) scope:=by
 have h1:∀y∈scope.names,y.2≠.cell/\y.2≠.free:=λy b=>by
  have:=List.all_eq_true.mp c y b;simpa using this
 refine⟨nd,by simp,kind,λy b=>(h1 y b).1,λy b e=>?_,λy b e=>absurd e (h1 y b).2,λj i x e _=>?_⟩
 .have:=List.all_eq_true.mp nm y b;rw[e] at this;simpa using this
 rw[List.getElem?_map] at e;cases q:N[j]? with
 |none=>rw[q] at e;cases e
 |some z=>rw[q] at e;cases e
theorem eT(a b:Int):decide (V.int a=V.int b)=decide (a=b):=by rw[gO];simp
end K51
end
section
namespace K31
open K51
abbrev Side:=Nat×Nat
abbrev Lps:=List (List Nat)
end K31
end
section
namespace L2
open PySem PySem.Spec PyProof.Rows
section
end
theorem nv{a:Addr}{g:TG}{tb:TS}{D:Ends}(Pv:Nat->St->Hp->Prop)(f:Pv 0 Z H)(h:∀i Z H,i<=xs.length->Pv i Z H->SqL K H a xs)
  (l:∀i x p Z H,xs[i]?=some x->Pv i Z H->H p=none->g (.ref p) Z (upd H p (.tup [.int (i:Int),x])) λσ2 H2=>tb {D with nx:=Pv (i+1),ct:=Pv (i+1),bk:=D.nx} σ2 H2) (hd:∀Z H,Pv xs.length Z H->D.nx Z H) :
  ∃W:Nat->Nat->St->Hp->Prop,(∃m,W 0 m Z H)/\∀i m Z H,W i m Z H->
   ((Ite K a).stop i H/\D.nx Z H)\/((Ite K a).go i H/\∃N:St->Hp->Prop,(∀Z' H',N Z' H'->∃c,c<m/\W (i+1) c Z' H')/\∀x H',(Ite K a).yld i H x H'->g x Z H' λσ2 H2=>tb {D with nx:=N,ct:=N,bk:=D.nx} σ2 H2):=by
 refine⟨λi m Z H=>m=xs.length-i/\i<=xs.length/\Pv i Z H,⟨xs.length,by simp,aD _,f⟩,?_⟩;rintro i m Z H ⟨rfl,hi,p⟩;have q:=h i Z H hi p;by_cases d:i<xs.length
 .refine .inr ⟨⟨xs,xs[i],q,List.getElem?_eq_getElem d⟩,Pv (i+1),λZ' H' n=>⟨xs.length-(i+1),by lia,rfl,d,n⟩,λx H' y=>?_⟩;obtain⟨b,v,o,rfl,rfl,y⟩:=y;exact l i v b Z H (y xs q) p o
 have e:i=xs.length:=by lia
 subst e;exact .inl ⟨⟨xs,q,ai _⟩,hd Z H p⟩
end L2
end
section
namespace K15
abbrev Tri:=Nat×Nat×Nat
abbrev Ent:=(Nat×Nat)×Nat
def ents(ts:List Tri):List Ent:=ts.flatMap λt=>[((t.1,t.2.1),t.2.2),((t.2.1,t.2.2),t.1),((t.2.2,t.1),t.2.1)]
theorem cE{ts:List Tri}{a b c:Nat}:((a,b),c)∈ents ts↔(a,b,c)∈ts\/(c,a,b)∈ts\/(b,c,a)∈ts:=by
 unfold ents;rw[List.mem_flatMap];constructor
 .rintro⟨⟨x,y,z⟩,d,h⟩;simp only[List.mem_cons,List.not_mem_nil,or_false,gQ] at h;rcases h with ⟨⟨rfl,rfl⟩,rfl⟩|⟨⟨rfl,rfl⟩,rfl⟩|⟨⟨rfl,rfl⟩,rfl⟩
  .exact .inl d
  .exact .inr (.inl d)
  exact .inr (.inr d)
 rintro (h|h|h)
 .exact⟨_,h,by simp⟩
 .exact⟨_,h,by simp⟩
 exact⟨_,h,by simp⟩
structure Sk(E:Nat->Nat->Nat->Prop):Prop where
 rot:∀{a b c},E a b c->E b c a
 one:∀{a b c d},E a b c->E a b d->c=d
 ne:∀{a b c},E a b c->a≠b
def En(ts:List Tri)(a b c:Nat):Prop:=((a,b),c)∈ents ts
structure Good(ts:List Tri):Prop where
 ne:∀t∈ts,t.1≠t.2.1/\t.2.1≠t.2.2/\t.2.2≠t.1
 nd:((ents ts).map (·.1)).Nodup
theorem qD{α β:Type}{l:List (α×β)}(h:(l.map (·.1)).Nodup){a:α}{b c:β}(g:(a,b)∈l)(i:(a,c)∈l):b=c:=by
 induction l with
 |nil=>cases g
 |cons x l n=>
  rw[List.map_cons,List.nodup_cons] at h;rcases List.mem_cons.mp g with e|m
  .rcases List.mem_cons.mp i with d | f
   .rw[<-e] at d;exact (gP d).2.symm
   exact (h.1 (List.mem_map.mpr ⟨_,f,by rw[<-e]⟩)).elim
  rcases List.mem_cons.mp i with d | f
  .exact (h.1 (List.mem_map.mpr ⟨_,m,by rw[<-d]⟩)).elim
  exact n h.2 m f
theorem fq{l:List Nat}(h:l.Nodup):∀{i j x:Nat},l[i]?=some x->l[j]?=some x->i=j:=by
 induction l with
 |nil=>intro i j x h1;simp at h1
 |cons a l b=>
  intro i j x h1 h2;rw[List.nodup_cons] at h;cases i with
  |zero=>
   cases j with
   |zero=>rfl
   |succ j=>
    simp at h1 h2;subst h1;exact (h.1 (List.mem_of_getElem? h2)).elim
  |succ i=>
   cases j with
   |zero=>
    simp at h1 h2;subst h2;exact (h.1 (List.mem_of_getElem? h1)).elim
   |succ j=>
    simp at h1 h2;rw[b h.2 h1 h2]
theorem Good.sk{ts:List Tri}(g:Good ts):Sk (En ts):=by
 refine⟨λ{a b c} h=>?_,λ{a b c d} h1 h2=>qD g.nd h1 h2,λ{a b c} h=>?_⟩
 .unfold En at *;rw[cE] at *;rcases h with h|h|h
  .exact .inr (.inl h)
  .exact .inr (.inr h)
  exact .inl h
 unfold En at h;rw[cE] at h;rcases h with h|h|h
 .exact (g.ne _ h).1
 .exact (g.ne _ h).2.1
 exact (g.ne _ h).2.2
section
variable {E:Nat->Nat->Nat->Prop}
theorem Sk.inj(k:Sk E){v p b q:Nat}(h:E v p q)(h':E v b q):p=b:=k.one (k.rot (k.rot h)) (k.rot (k.rot h'))
structure Fan(E:Nat->Nat->Nat->Prop)(v:Nat)(F:List Nat):Prop where
 ne:F≠[]
 nd:F.Nodup
 ch:∀i p q,F[i]?=some p->F[i+1]?=some q->E v p q
 key:∀p∈F,∃q,E v p q
 clF:∀p∈F,∀q,E v p q->(∃r,E v q r)->q∈F
 clB:∀p∈F,∀o,E v o p->o∈F
def One(E:Nat->Nat->Nat->Prop)(v:Nat):Prop:=∃F,Fan E v F/\∀p,(∃q,E v p q)->p∈F
theorem As(k:Sk E){v:Nat}{L:List Nat}{at_:Nat}(C:L≠[])(nd:L.Nodup)(u:∀p∈L,∃q,E v p q)(ch:∀i p q,L[i]?=some p->L[i+1]?=some q->E v p q)
  (D:∀p,L.getLast?=some p->E v p at_) (H:(∃q,E v at_ q)->at_∈L) {s:Nat} (w:L.head?=some s) (I:(∀o,¬E v o s)\/∀p,(∃q,E v p q)->∃o,E v o p) :
  (∀p,(∃q,E v p q)->p∈L)↔One E v:=by
 constructor
 .intro c;exact⟨L,⟨C,nd,ch,u,λp _ q _ K=>c q K,λp _ o f=>c o ⟨p,f⟩⟩,c⟩
 rintro⟨F,hF,c⟩;have n:s∈L:=by cases L with|nil=>cases w|cons a l=>cases w;simp
 have z:∀x∈L,∀y,E v x y->(∃r,E v y r)->y∈L:=by
  intro x M y b A;obtain⟨i,hi⟩:=List.getElem?_of_mem M;have N:=(List.getElem?_eq_some_iff.mp hi).1;by_cases h:i+1<L.length
  .have h1:L[i+1]?=some L[i+1]:=List.getElem?_eq_getElem h;have:=k.one b (ch i _ _ hi h1);rw[this];exact List.mem_of_getElem? h1
  have e:L.getLast?=some x:=by rw[List.getLast?_eq_getElem?,show L.length-1=i by lia];exact hi
  have:=k.one b (D x e);rw[this] at A |-;exact H A
 have O:s∈F:=c s (u s n);obtain⟨j,g⟩:=List.getElem?_of_mem O;have B:∀d:Nat,(∀y,F[d]?=some y->y∈L)->∀(m:Nat)(y:Nat),F[d+m]?=some y->y∈L:=by
  intro d P m;induction m with
  |zero=>intro y b;exact P y b
  |succ m Q=>
   intro y b;have R:d+m<F.length:=by have:=(List.getElem?_eq_some_iff.mp b).1;lia
   have h1:F[d+m]?=some F[d+m]:=List.getElem?_eq_getElem R;exact z _ (Q _ h1) y (hF.ch _ _ _ h1 b) (hF.key y (List.mem_of_getElem? b))
 have S:=B j (λy b=>by rw[g] at b;cases b;exact n);have zero:∀y,F[0]?=some y->y∈L:=by
  intro y b;by_cases T:j=0
  .subst T;rw[g] at b;cases b;exact n
  have ab:=(List.getElem?_eq_some_iff.mp g).1;have h1:F[j-1]?=some F[j-1]:=List.getElem?_eq_getElem (by lia);have U:=hF.ch (j-1) _ _ h1 (by rw[show j-1+1=j by lia];exact g);rcases I with h|h
  .exact (h _ U).elim
  obtain⟨o,f⟩:=h y (hF.key y (List.mem_of_getElem? b));have X:=hF.clB y (List.mem_of_getElem? b) o f;obtain⟨i,hi⟩:=List.getElem?_of_mem X;have N:=(List.getElem?_eq_some_iff.mp hi).1;by_cases Y:i+1<F.length
  .have h2:F[i+1]?=some F[i+1]:=List.getElem?_eq_getElem Y;have e:=k.one (hF.ch i _ _ hi h2) f;rw[e] at h2;have:=fq hF.nd h2 b;lia
  have:o∈L:=S (i-j) o (by rw[show j+(i-j)=i by lia];exact hi);exact z o this y f (hF.key y (List.mem_of_getElem? b))
 intro p Z;obtain⟨i,hi⟩:=List.getElem?_of_mem (c p Z);exact B 0 zero i p (by rw[iQ];exact hi)
theorem AS{v:Nat}{F G:List Nat}(ch:∀i p q,F[i]?=some p->F[i+1]?=some q->E v p q)(key:∀p∈F,∃q,E v p q)(g:Fan E v G){x:Nat}(n:x∈F)(l:x∈G):∀y∈F,y∈G:=by
 obtain⟨j,c⟩:=List.getElem?_of_mem n;have o:∀(m:Nat)(y:Nat),F[j+m]?=some y->y∈G:=by
  intro m;induction m with
  |zero=>intro y b;rw[u5,c] at b;cases b;exact l
  |succ m d=>
   intro y b;have f:j+m<F.length:=by have:=(List.getElem?_eq_some_iff.mp b).1;lia
   have h1:F[j+m]?=some F[j+m]:=List.getElem?_eq_getElem f;exact g.clF _ (d _ h1) y (ch (j+m) _ _ h1 b) (key y (List.mem_of_getElem? b))
 have r:∀m:Nat,m<=j->∀y:Nat,F[j-m]?=some y->y∈G:=by
  intro m;induction m with
  |zero=>intro _ y b;rw[FG,c] at b;cases b;exact l
  |succ m d=>
   intro hm y b;have f:j-m<F.length:=by have:=(List.getElem?_eq_some_iff.mp c).1;lia
   have h1:F[j-m]?=some F[j-m]:=List.getElem?_eq_getElem f;have e:j-(m+1)+1=j-m:=by lia
   exact g.clB _ (d (by lia) _ h1) y (ch (j-(m+1)) _ _ b (by rw[e];exact h1))
 intro y b;obtain⟨i,hi⟩:=List.getElem?_of_mem b;by_cases h:j<=i
 .exact o (i-j) y (by rw[show j+(i-j)=i by lia];exact hi)
 exact r (j-i) (by lia) y (by rw[show j-(j-i)=i by lia];exact hi)
theorem Az(k:Sk E){v:Nat}{fs:List (List Nat)}{left F:List Nat}{x0:Nat}(g:∀G∈fs,Fan E v G)(m:∀p,(∃q,E v p q)->p∈left\/∃G∈fs,p∈G)(n:∀p∈left,∀G∈fs,p∉G)
  (nd:F.Nodup) (key:∀p∈F,∃q,E v p q) (ch:∀i p q,F[i]?=some p->F[i+1]?=some q->E v p q) (d:x0∈F) (r:x0∈left)
  (s:∀p,F.getLast?=some p->∀q,E v p q->q∈left->q∈F) (u:∀p,F.head?=some p->∀o,E v o p->o∈F):Fan E v F/\∀p∈F,∀G∈fs,p∉G:=by
 have dis:∀p∈F,∀G∈fs,p∉G:=λp b G c w=>n x0 r G c (AS ch key (g G c) b w x0 d);refine⟨⟨λz=>(by rw[z] at d;cases d),nd,ch,key,λp b q f x=>?_,λp b o l=>?_⟩,dis⟩
 .obtain⟨i,hi⟩:=List.getElem?_of_mem b;have y:=(List.getElem?_eq_some_iff.mp hi).1;by_cases h:i+1<F.length
  .have h1:F[i+1]?=some F[i+1]:=List.getElem?_eq_getElem h;rw[k.one f (ch i _ _ hi h1)];exact List.mem_of_getElem? h1
  have e:F.getLast?=some p:=by rw[List.getLast?_eq_getElem?,show F.length-1=i by lia];exact hi
  rcases m q x with z|⟨G,c,A⟩
  .exact s p e q f z
  exact (dis p b G c ((g G c).clB q A p f)).elim
 obtain⟨i,hi⟩:=List.getElem?_of_mem b;cases i with
 |zero=>exact u p (by rw[List.head?_eq_getElem?];exact hi) o l
 |succ i=>
  have y:=(List.getElem?_eq_some_iff.mp hi).1;have h1:F[i]?=some F[i]:=List.getElem?_eq_getElem (by lia);rw[k.inj l (ch i _ _ h1 hi)];exact List.mem_of_getElem? h1
structure Fans(E:Nat->Nat->Nat->Prop)(v:Nat)(fs:List (List Nat)):Prop where
 fan:∀F∈fs,Fan E v F
 all:∀p,(∃q,E v p q)->∃F∈fs,p∈F
 dis:fs.Pairwise λF G=>∀p∈F,p∉G
def rn(v n:Nat)(F:List Nat)(a b:Nat):Nat:=if a=v/\b∈F then n else a
def ren(v n:Nat)(F:List Nat)(t:Tri):Tri:=(rn v n F t.1 t.2.1,rn v n F t.2.1 t.2.2,rn v n F t.2.2 t.1)
def Rn(E:Nat->Nat->Nat->Prop)(v n:Nat)(F:List Nat)(x y z:Nat):Prop:=∃a b c,E a b c/\x=rn v n F a b/\y=rn v n F b c/\z=rn v n F c a
theorem DQ{ts:List Tri}{v n:Nat}{F:List Nat}{x y z:Nat}:En (ts.map (ren v n F)) x y z↔Rn (En ts) v n F x y z:=by
 unfold En Rn;rw[cE];constructor
 .intro h;have key:∀p q r,(p,q,r)∈ts.map (ren v n F)->∃a b c,(a,b,c)∈ts/\p=rn v n F a b/\q=rn v n F b c/\r=rn v n F c a:=by
   intro p q r l;obtain⟨⟨a,b,c⟩,d,e⟩:=List.mem_map.mp l;unfold ren at e;simp only[gQ] at e;exact⟨a,b,c,d,e.1.symm,e.2.1.symm,e.2.2.symm⟩
  rcases h with h|h|h
  .obtain⟨a,b,c,d,f,g,i⟩:=key _ _ _ h;exact⟨a,b,c,cE.mpr (.inl d),f,g,i⟩
  .obtain⟨a,b,c,d,f,g,i⟩:=key _ _ _ h;exact⟨b,c,a,cE.mpr (.inr (.inl d)),g,i,f⟩
  obtain⟨a,b,c,d,f,g,i⟩:=key _ _ _ h;exact⟨c,a,b,cE.mpr (.inr (.inr d)),i,f,g⟩
 rintro⟨a,b,c,h,rfl,rfl,rfl⟩;rcases cE.mp h with h|h|h
 .exact .inl (List.mem_map.mpr ⟨_,h,rfl⟩)
 .exact .inr (.inl (List.mem_map.mpr ⟨_,h,rfl⟩))
 exact .inr (.inr (List.mem_map.mpr ⟨_,h,rfl⟩))
theorem dC{v n:Nat}{F:List Nat}{a b:Nat}(h:a≠v):rn v n F a b=a:=by unfold rn;rw[Ii λz=>h z.1]
theorem lR{v n:Nat}{F:List Nat}{b:Nat}(h:b∈F):rn v n F v b=n:=by unfold rn;rw[Ij ⟨rfl,h⟩]
theorem oq{v n:Nat}{F:List Nat}{b:Nat}(h:b∉F):rn v n F v b=v:=by unfold rn;rw[Ii λz=>h z.2]
section
variable {v n:Nat}{F:List Nat}
theorem eR{a b:Nat}(ha:a≠n)(h:rn v n F a b=n):a=v/\b∈F:=by
 unfold rn at h
 split at h
 .assumption
 exact (ha h).elim
theorem dH{a b:Nat}(h:rn v n F a b≠n):rn v n F a b=a:=by
 unfold rn at h |-
 split
 .rename_i z;rw[Ij z] at h;exact (h rfl).elim
 rfl
variable (k:Sk E)(fr:∀a b c,E a b c->a≠n)(hF:Fan E v F)
include k fr
theorem jB{p q:Nat}:Rn E v n F n p q↔E v p q/\p∈F:=by
 constructor
 .rintro⟨a,b,c,h,d,rfl,rfl⟩;obtain⟨rfl,e⟩:=eR (fr _ _ _ h) d.symm;rw[dC (aF (k.ne h)),dC (k.ne (k.rot (k.rot h)))];exact⟨h,e⟩
 rintro⟨h,f⟩;exact⟨v,p,q,h,(lR f).symm,(dC (aF (k.ne h))).symm,(dC (k.ne (k.rot (k.rot h)))).symm⟩
theorem ik(e:v≠n){p q:Nat}:Rn E v n F v p q↔E v p q/\p∉F:=by
 constructor
 .rintro⟨a,b,c,h,d,rfl,rfl⟩;have:a=v:=by
   have f:=dH (v:=v) (n:=n) (F:=F) (a:=a) (b:=b) (by rw[<-d];exact e);rw[d,f]
  subst this;have g:b∉F:=λz=>by rw[lR z] at d;exact e d
  rw[dC (aF (k.ne h)),dC (k.ne (k.rot (k.rot h)))];exact⟨h,g⟩
 rintro⟨h,i⟩;exact⟨v,p,q,h,(oq i).symm,(dC (aF (k.ne h))).symm,(dC (k.ne (k.rot (k.rot h)))).symm⟩
theorem EF:Sk (Rn E v n F):=by
 refine⟨?_,?_,?_⟩
 .rintro x y z ⟨a,b,c,h,f,g,m⟩;exact⟨b,c,a,k.rot h,g,m,f⟩
 .rintro x y z H ⟨a,b,c,h,f,g,m⟩ ⟨o,i,u,h',p,q,w⟩;have fa:a≠n:=fr _ _ _ h;have A:o≠n:=fr _ _ _ h';have r:b≠n:=fr _ _ _ (k.rot h);have B:i≠n:=fr _ _ _ (k.rot h');have C:a=o:=by
   by_cases d:x=n
   .rw[(eR fa (f.symm.trans d)).1,(eR A (p.symm.trans d)).1]
   rw[<-dH (v:=v) (n:=n) (F:=F) (a:=a) (b:=b) (by rw[<-f];exact d),<-dH (v:=v) (n:=n) (F:=F) (a:=o) (b:=i) (by rw[<-p];exact d),<-f,<-p]
  have D:b=i:=by
   by_cases l:y=n
   .rw[(eR r (g.symm.trans l)).1,(eR B (q.symm.trans l)).1]
   rw[<-dH (v:=v) (n:=n) (F:=F) (a:=b) (b:=c) (by rw[<-g];exact l),<-dH (v:=v) (n:=n) (F:=F) (a:=i) (b:=u) (by rw[<-q];exact l),<-g,<-q]
  subst C D;rw[m,w,k.one h h']
 rintro x y z ⟨a,b,c,h,rfl,rfl,_⟩;have fa:a≠n:=fr _ _ _ h;have r:b≠n:=fr _ _ _ (k.rot h);have s:=k.ne h;intro e;by_cases d:rn v n F a b=n
 .have h1:=(eR fa d).1;have h2:=(eR r (e.symm.trans d)).1;exact s (h1.trans h2.symm)
 have h1:=dH d;have h2:=dH (v:=v) (n:=n) (F:=F) (a:=b) (b:=c) (by rw[<-e];exact d);exact s (by rw[<-h1,e,h2])
include hF
theorem zW:One (Rn E v n F) n:=by
 refine⟨F,⟨hF.ne,hF.nd,λi p q b c=>(jB k fr).mpr ⟨hF.ch i p q b c,List.mem_of_getElem? b⟩,λp b=>?_,λp b q c d=>?_,λp b o e=>((jB k fr).mp e).2⟩,λp ⟨q,c⟩=>((jB k fr).mp c).2⟩
 .obtain⟨q,c⟩:=hF.key p b;exact⟨q,(jB k fr).mpr ⟨c,b⟩⟩
 obtain⟨r,d⟩:=d;exact ((jB k fr).mp d).2
omit hF in
theorem Ay(d:v≠n){G:List Nat}(c:Fan E v G)(hd:∀p∈F,p∉G):Fan (Rn E v n F) v G:=by
 have out:∀p∈G,p∉F:=λp b z=>hd p z b;refine⟨c.ne,c.nd,λi p q b e=>(ik k fr d).mpr ⟨c.ch i p q b e,out p (List.mem_of_getElem? b)⟩,λp b=>?_,λp b q e f=>?_,λp b o g=>c.clB p b o ((ik k fr d).mp g).1⟩
 .obtain⟨q,e⟩:=c.key p b;exact⟨q,(ik k fr d).mpr ⟨e,out p b⟩⟩
 obtain⟨r,f⟩:=f;exact c.clF p b q ((ik k fr d).mp e).1 ⟨r,((ik k fr d).mp f).1⟩
theorem x_(Y:v≠n){u:Nat}(Q:u≠v)(R:u≠n)(h:One E u):One (Rn E v n F) u:=by
 obtain⟨G,w,S⟩:=h
 let cond:Prop:=(∃q∈F,E u v q)\/((∃p,E u p v)/\u∈F)
 have dec:=Classical.propDecidable cond
 let ρ:Nat->Nat:=λx=>if x=v then (if cond then n else v) else x
 have ρo:∀x,x≠v->ρ x=x:=λx d=>Ii d;have ρv:ρ v=if cond then n else v:=Ij rfl
 have N:∀p q,E u p q->rn v n F p q=ρ p:=by
  intro p q h;by_cases A:p=v
  .subst A;by_cases f:q∈F
   .rw[lR f,ρv,Ij (.inl ⟨q,f,h⟩)]
   rw[oq f,ρv,Ii];rintro (⟨C,D,h'⟩|⟨⟨g,s⟩,K⟩)
   .exact f (by rw[k.one h h'];exact D)
   exact f (hF.clB u K q (k.rot h))
  rw[dC A,ρo p A]
 have O:∀p q,E u p q->rn v n F q u=ρ q:=by
  intro p q h;by_cases f:q=v
  .subst f;by_cases H:u∈F
   .rw[lR H,ρv,Ij (.inr ⟨⟨p,h⟩,H⟩)]
   rw[oq H,ρv,Ii];rintro (⟨C,D,h'⟩|⟨_,K⟩)
   .exact H (hF.clF C D u (k.rot h') ⟨p,k.rot (k.rot h)⟩)
   exact H K
  rw[dC f,ρo q f]
 have T:∀b,rn v n F u b=u:=λb=>dC Q;have to:∀p q,E u p q->Rn E v n F u (ρ p) (ρ q):=λp q h=>⟨u,p,q,h,(T p).symm,(N p q h).symm,(O p q h).symm⟩;have back:∀x y,Rn E v n F u x y->∃p q,E u p q/\x=ρ p/\y=ρ q:=by
  rintro x y ⟨a,b,c,h,B,L,U⟩;have ha:a=u:=by
   by_cases d:rn v n F a b=n
   .exact (R (B.trans d)).elim
   rw[B,dH d]
  subst ha;exact⟨b,c,h,L.trans (N b c h),U.trans (O b c h)⟩
 have fresh:∀p q,E u p q->p≠n/\q≠n:=λp q h=>⟨fr _ _ _ (k.rot h),fr _ _ _ (k.rot (k.rot h))⟩;have inj:∀x y,x≠n->y≠n->ρ x=ρ y->x=y:=by
  intro x y d m e;by_cases h1:x=v
  .by_cases h2:y=v
   .rw[h1,h2]
   rw[h1,ρo y h2,ρv] at e
   split at e
   .exact (m e.symm).elim
   exact (h2 e.symm).elim
  by_cases h2:y=v
  .rw[h2,ρo x h1,ρv] at e
   split at e
   .exact (d e).elim
   exact (h1 e).elim
  rw[ρo x h1,ρo y h2] at e;exact e
 have I:∀x∈G,x≠n:=λx d=>by
  obtain⟨q,f⟩:=w.key x d;exact (fresh x q f).1
 have Z:∀x,x≠n->ρ x∈G.map ρ->x∈G:=λx d h=>by
  obtain⟨y,m,e⟩:=List.mem_map.mp h;rw[<-inj y x (I y m) d e];exact m
 have get:∀(i:Nat)(x:Nat),(G.map ρ)[i]?=some x->∃p,G[i]?=some p/\x=ρ p:=λi x h=>by
  rw[List.getElem?_map] at h;cases e:G[i]? with
  |none=>rw[e] at h;cases h
  |some p=>rw[e] at h;cases h;exact⟨p,rfl,rfl⟩
 refine⟨G.map ρ,⟨by simpa using w.ne,?_,λi p q A f=>?_,λp A=>?_,λx d y m M=>?_,λx d y m=>?_⟩,?_⟩
 .have:∀l:List Nat,(∀x∈l,x≠n)->l.Nodup->(l.map ρ).Nodup:=by
   intro l;induction l with
   |nil=>intro _ _;exact List.nodup_nil
   |cons a l X=>
    intro h1 h2;rw[List.nodup_cons] at h2;rw[List.map_cons,List.nodup_cons];refine⟨λz=>?_,X (λx d=>h1 x (List.mem_cons_of_mem _ d)) h2.2⟩;obtain⟨y,m,e⟩:=List.mem_map.mp z;have:=inj y a (h1 y (List.mem_cons_of_mem _ m)) (h1 a (by simp)) e;exact h2.1 (this ▸ m)
  exact this G I w.nd
 .obtain⟨g,s,rfl⟩:=get i p A;obtain⟨C,D,rfl⟩:=get (i+1) q f;exact to g C (w.ch i g C s D)
 .obtain⟨g,s,rfl⟩:=List.mem_map.mp A;obtain⟨q,f⟩:=w.key g s;exact⟨_,to g q f⟩
 .obtain⟨g,s,rfl⟩:=List.mem_map.mp d;obtain⟨p,q,h1,B,rfl⟩:=back _ _ m;have ep:=inj g p (I g s) (fresh p q h1).1 B;subst ep;obtain⟨r,M⟩:=M;obtain⟨p2,P,h2,L,_⟩:=back _ _ M;have eq:=inj q p2 (fresh g q h1).2 (fresh p2 P h2).1 L;subst eq;exact List.mem_map.mpr ⟨q,w.clF g s q h1 ⟨P,h2⟩,rfl⟩
 .obtain⟨g,s,rfl⟩:=List.mem_map.mp d;obtain⟨p,q,h1,rfl,B⟩:=back _ _ m;have eq:=inj g q (I g s) (fresh p q h1).2 B;subst eq;exact List.mem_map.mpr ⟨p,w.clB g s p h1,rfl⟩
 rintro x ⟨y,m⟩;obtain⟨p,q,h1,rfl,_⟩:=back _ _ m;exact List.mem_map.mpr ⟨p,S p ⟨q,h1⟩,rfl⟩
end
end
end K15
end
section
namespace K31
open PySem L2 K51
theorem same_of{H H1:Hp}{p:Addr}{o:HO}(g:H p=none)(e:upd H p o=H1):Same H H1:=by rw[<-e];exact bf g
theorem at_of{H H1:Hp}{p:Addr}{o:HO}(e:upd H p o=H1):H1 p=some o:=by rw[<-e];exact aG
def nV(l:List Nat):List V:=l.map λn:Nat=>V.int (n:Int)
def km(H:Hp)(v:V)(l:List Nat):Prop:=∃a,v=.ref a/\H a=some (.lst (nV l))
abbrev eP(H:Hp):List V->Lps->Prop:=Paired (km H)
def l7(H:Hp)(v:V)(t:Nat×Nat×Nat):Prop:=∃a,v=.ref a/\H a=some (.tup [.int (t.1:Int),.int (t.2.1:Int),.int (t.2.2:Int)])
abbrev aw(H:Hp):List V->List (Nat×Nat×Nat)->Prop:=Paired (l7 H)
theorem km.same{v:V}{l:List Nat}(s:Same H H')(h:km H v l):km H' v l:=by obtain⟨a,e,h⟩:=h;exact⟨a,e,s a _ h⟩
theorem eP.same{ls:Lps}(s:Same H H')(h:eP H vs ls):eP H' vs ls:=Paired.imp' (λ_ _ q=>q.same s) h
theorem l7.same{v:V}{t:Nat×Nat×Nat}(s:Same H H')(h:l7 H v t):l7 H' v t:=by obtain⟨a,e,h⟩:=h;exact⟨a,e,s a _ h⟩
theorem aw.same{ls:List (Nat×Nat×Nat)}(s:Same H H')(h:aw H vs ls):aw H' vs ls:=Paired.imp' (λ_ _ q=>q.same s) h
section
variable {α β:Type}{F:α->β->Prop}
theorem az:∀{xs:List α}{ys:List β},Paired F xs ys->xs.length=ys.length
 |_,_,.nil=>rfl
 |_,_,.cons _ t=>by rw[List.length_cons,List.length_cons,az t]
theorem cB:∀{xs:List α}{ys:List β}{b:List α}{c:List β},Paired F xs ys->Paired F b c->Paired F (xs++b) (ys++c)
 |_,_,_,_,.nil,h=>h
 |_,_,_,_,.cons a t,h=>.cons a (cB t h)
theorem sV:∀{xs:List α}{ys:List β}(k:Nat),Paired F xs ys->Paired F (xs.take k) (ys.take k)
 |_,_,0,_=>by simp only[List.take_zero];exact .nil
 |_,_,_+1,.nil=>by simp only[List.take_nil];exact .nil
 |_,_,k+1,.cons a t=>.cons a (sV k t)
theorem ou:∀{xs:List α}{ys:List β}{i:Nat}{y:β},Paired F xs ys->ys[i]?=some y->∃x,xs[i]?=some x/\F x y
 |_,_,_,_,.nil,h=>by simp at h
 |_,_,0,_,.cons a t,h=>by
  simp at h;subst h;exact⟨_,rfl,a⟩
 |_,_,i+1,_,.cons a t,h=>by simpa using ou (i:=i) t (by simpa using h)
theorem bM:∀{xs:List α}{ys:List β}{i:Nat}{x:α},Paired F xs ys->xs[i]?=some x->∃y,ys[i]?=some y/\F x y
 |_,_,_,_,.nil,h=>by simp at h
 |_,_,0,_,.cons a t,h=>by
  simp at h;subst h;exact⟨_,rfl,a⟩
 |_,_,i+1,_,.cons a t,h=>by simpa using bM (i:=i) t (by simpa using h)
end
theorem aK(l:List Nat):(nV l).length=l.length:=List.length_map ..
theorem cR(l r:List Nat):nV l++nV r=nV (l++r):=(List.map_append ..).symm
theorem iA(n:Nat):[V.int (n:Int)]=nV [n]:=rfl
theorem lG{l:List Nat}{i n:Nat}(h:l[i]?=some n):(nV l)[i]?=some (.int (n:Int)):=by unfold nV;rw[List.getElem?_map,h];rfl
theorem wr_of{H H1:Hp}{p:Addr}{o:HO}(e:upd H p o=H1):∀b,b≠p->H1 b=H b:=λb c=>by rw[<-e,aB c]
def ky(p q:Nat):List Key:=[Sum.inl (p:Int),Sum.inl (q:Int)]
theorem j3{p q b c:Nat}:ky p q=ky b c↔(p,q)=(b,c):=by
 unfold ky;constructor
 .intro h;injection h with h1 h2;injection h2 with h2 _;injection h1 with h1;injection h2 with h2;have:p=b:=by lia
  have:q=c:=by lia
  simp[*]
 intro h;injection h with h1 h2;rw[h1,h2]
def SdAt(H:Hp)(v:V)(s:Side):Prop:=∃a,v=.ref a/\H a=some (.tup ((ky s.1 s.2).map kV))
abbrev SdsAt(H:Hp):List V->List Side->Prop:=Paired (SdAt H)
theorem lit1:1<=sizeLine:=by show 1<=sizeLine;decide
theorem lit2:2<=sizeLine:=by show 2<=sizeLine;decide
theorem lit3:3<=sizeLine:=by show 3<=sizeLine;decide
theorem bW{N:List Str}{fr:List (Option Nat)}(nd:N.Nodup)(len:fr.length=N.length)(kind:scope.kind=.function)(c:scope.names.all (λy=>y.2 != .cell)=true)
  (nm:scope.names.all (λy=>y.2 != .local||scope.names.lookup y.1==some .local)=true)
  (d:∀y∈scope.names,y.2=.free->X.env.kindOf y.1=some .cell\/X.env.kindOf y.1=some .free)
  (f:∀(j i:Nat)(x:Str),fr[j]?=some (some i)->N[j]?=some x->X.N[i]?=some x/\scope.names.lookup x=some .free):dt X N fr scope:=by
 refine⟨nd,len,kind,λy b=>?_,λy b e=>?_,d,f⟩
 .have:=List.all_eq_true.mp c y b;simpa using this
 have:=List.all_eq_true.mp nm y b;rw[e] at this;simpa using this
end K31
end
local macro_rules | `(tactic| walk_at $s:str) => let i := fun (x : String) => Lean.mkIdent (Lean.Name.mkSimple x); match s.getString.splitOn " " with | [h, p, g, h1, t, y] => `(tactic| (generalize hq : L2.upd $(i h) $(i p) _ = $(i h1); have $(i t) := K31.same_of $(i g) hq; have $(i y) := K31.at_of hq; clear hq)) | [h, p, h1, k, y] => `(tactic| (generalize hq : L2.upd $(i h) $(i p) _ = $(i h1); have $(i k) := K31.wr_of hq; have $(i y) := K31.at_of hq; clear hq)) | ["cs"] => `(tactic| ((intro y hy e; simp only [List.mem_cons, List.not_mem_nil, or_false] at hy; repeat' first | subst hy | rcases hy with hy | hy) <;> first | (cases e; done) | exact .inl rfl | exact .inr rfl)) | ["ct"] => `(tactic| (intro j i y e1 e2; rcases j with _ | _ | _ | _ | _ | _ | j <;> first | (simp at e1; done) | (simp at e1 e2; subst e1 e2; exact ⟨rfl, rfl⟩))) | ["sc"] => `(tactic| exact ⟨rfl, rfl, rfl, by decide +kernel, rfl, by decide +kernel, by decide +kernel⟩) | _ => Lean.Macro.throwUnsupported
section
namespace K51
open PySem L2
def mixed(ns:List Int)(k:Int):Int:=(ns.take 40).foldl (λs c=>(s*48271+c)%2147483647) (7+1009*k)
def iC(ns:List Int)(k:Int):Int:=if k<(ns.length:Int) then ns.getD k.toNat 0 else 0
def oF(ns:List Int)(k:Int):Int×Int:=(if iC ns k<1000000000000000000 then 0 else iC ns k,mixed ns k)
def refill(p:Int×Int):Int×Int:=if p.1=0 then (((p.2*16807+11)%2147483647)*((p.2*16807+11)%2147483647)%2147483629,(p.2*16807+11)%2147483647) else p
def digO(p:Int×Int)(b:Int):Int:=(refill p).1%b
def nxt(p:Int×Int)(b:Int):Int×Int:=((refill p).1/b,(refill p).2)
def bc(p:Int×Int):List V:=[.int p.1,.int p.2]
def bq(p:Int×Int):Prop:=-(2 ^ 60)<p.2/\p.2<2 ^ 60
theorem xV{p:Int×Int}(h:bq p):bq (refill p):=by
 unfold refill
 split
 .have:=ml (p.2*16807+11) (show (0:Int)<2147483647 by decide);have:=mn (p.2*16807+11) (show (2147483647:Int)≠0 by decide);unfold bq;constructor<;>(show _<_;lia)
 exact h
theorem br{p:Int×Int}{b:Int}(h:bq p):bq (nxt p b):=xV h
theorem kP(ns:List Int){k:Int}(d:0<=k)(h1:k<1000):-(2 ^ 60)<mixed ns k/\mixed ns k<2 ^ 60:=by
 unfold mixed;have:∀(l:List Int)(s:Int),(-(2 ^ 60)<s/\s<2 ^ 60)->(-(2 ^ 60)<l.foldl (λs c=>(s*48271+c)%2147483647) s/\l.foldl (λs c=>(s*48271+c)%2147483647) s<2 ^ 60):=by
  intro l;induction l with
  |nil=>intro s h;exact h
  |cons c r b=>
   intro s h;rw[List.foldl_cons];refine b _ ?_;have:=ml (s*48271+c) (show (0:Int)<2147483647 by decide);have:=mn (s*48271+c) (show (2147483647:Int)≠0 by decide);constructor<;>lia
 exact this _ _ (by constructor<;>lia)
theorem ia:OpR X (binaryOp .FloorDiv) (rI (λ_ j=>0<j/\j.natAbs.log2<9000) λi j=>.int (i/j)):=opI λi j _ _ _ _ _ b q=>by
 have e:i.fdiv j=i/j:=by rw[Fp _ (Int.le_of_lt b.1)]
 rw[<-e] at q;exact GX (by lia) q (.inl (PyProof.noPylong_of_log2 b.2))
def ED(K:W.Frag)(vs:List V)(H:Hp)(Q:VK)(a:Addr)(ns:List Int)(k:Int):Prop:=vs=[.ref a,.int k]/\SqL [] H a (ns.map V.int)/\0<=k/\Q (.int (iC ns k)) H
def spAt(K:W.Frag):Sp:=λvs H Q _=>Exists (Ex3 (ED K vs H Q))
def CS(K:W.Frag)(vs:List V)(H:Hp)(Q:VK)(a:Addr)(ns:List Int)(k:Int):Prop:=vs=[.ref a,.int k]/\SqL [] H a (ns.map V.int)/\0<=k/\k<1000/\
 ∀(p:Addr)(H':Hp),H p=none->Same H H'->H' p=some (.lst (bc (oF ns k)))->Q (.ref p) H'
def uF(K:W.Frag):Sp:=λvs H Q _=>Exists (Ex3 (CS K vs H Q))
def zA(vs:List V)(H:Hp)(Q:VK)(p:Addr)(q:Int×Int)(b:Int):Prop:=vs=[.ref p,.int b]/\H p=some (.lst (bc q))/\bq q/\0<b/\b.natAbs.log2<9000/\WrO H p (.lst (bc (nxt q b))) (Q (.int (digO q b)))
def eF:Sp:=λvs H Q _=>Exists (Ex3 (zA vs H Q))
section
theorem scAt:aP ["_law_script","_law_k"] ["_law_script","_law_k"] (ax sAt):=by walk_at"sc"
theorem EW{f:Addr}(U:Fun K "_law_at" "_law_at" sAt f fd)(T:bD mg):ak P w K mg base CX0 1 f fd ["_law_script","_law_k"] (spAt K):=by
 refine U.ok scAt (by rintro _ _ _ _ ⟨_,_,_,rfl,_⟩;rfl) λi A outer s H vs Q E l h=>?_
 obtain⟨a,ns,k,rfl,b,m,q⟩:=h;refine⟨_,ae (bB (a7 iE (pv 1) (pln T.len (pv 0)) (nomark _)) (ao (aJ (ixx bG (pv 0) (pv 1)))) bu) (ao (aJ ag)),?_⟩;refine⟨_,rfl,_,rfl,a,_,rfl,.inl b,_,_,rfl,rfl,_,rfl,?_⟩;unfold iC at q;rw[List.length_map];refine ite2 (λc=>?_) (λc=>?_)
 .have c:k<(ns.length:Int):=Im c;rw[Ij c] at q;have d:k.toNat<ns.length:=by lia
  refine⟨_,rfl,_,rfl,a,_,k,.int (ns.getD k.toNat 0),rfl,rfl,b,?_,q⟩;have e:((k.toNat:Nat):Int)=k:=by lia
  rw[<-e];refine cQ ?_;have g:ns[k.toNat]?=some (ns.getD k.toNat 0):=by simp[List.getD,d]
  rw[List.getElem?_map,g];rfl
 have c:¬k<(ns.length:Int):=λz=>c (Ik z);rw[Ii c] at q;exact q
theorem sQ:aP ["_law_pot_here","_law_base","_law_digit_here"] ["_law_pot_here","_law_base"] (ax jU):=by walk_at"sc"
theorem Ad{f:Addr}(U:Fun K "_law_digit" "_law_digit" jU f fd):ak P w K mg base CX0 1 f fd ["_law_pot_here","_law_base"] eF:=by
 refine U.ok sQ (by rintro _ _ _ _ ⟨_,_,_,rfl,_⟩;rfl) λO A outer s H vs Q E R h=>?_
 obtain⟨p,⟨n,z⟩,b,rfl,d,hok,i,C,q⟩:=h;refine⟨_,ae (bB (a7 dM (ixx bG (pv 0) ag) ag (nomark _))
   (ae (fI (au cX (au bp (au dW (ixx bG (pv 0) ag) ag) ag) ag) (ow (pv 0) ag m5))
    (ao (fI (au cX (au dW (ixx bG (pv 0) ag) (ixx bG (pv 0) ag)) ag) (ow (pv 0) ag m5)))) bu)
  (ae (sx 2 sQ.nd (au cX (ixx bG (pv 0) ag) (pv 1)))
  (ae (fI (au ia (ixx bG (pv 0) ag) (pv 1)) (ow (pv 0) ag m5))
  (ao (aJ (pv 2))))),?_⟩
 have g:∀(x y:Int),atI [V.int x,V.int y] 0=some (V.int x):=λ_ _=>rfl;have l:∀(x y:Int),atI [V.int x,V.int y] 1=some (V.int y):=λ_ _=>rfl;have m:∀(x y:V),ixN [x,y].length 0=some 0:=λ_ _=>rfl;have L:∀(x y:V),ixN [x,y].length 1=some 1:=λ_ _=>rfl;have D:=hok.1;have I:=hok.2;refine⟨_,rfl,p,_,0,_,rfl,rfl,SqL.of d,g _ _,rfl,_,rfl,?_⟩;have D:-(2 ^ 60)<z:=D;have I:z<2 ^ 60:=I;refine ite2 (λc=>?_) (λc=>?_)
 .have c:n=0:=by
   have:=Im c;injection this
  have S:=ml (z*16807+11) (show (0:Int)<2147483647 by decide);have T:=mn (z*16807+11) (show (2147483647:Int)≠0 by decide);refine⟨_,rfl,p,_,1,_,rfl,rfl,SqL.of d,l _ _,_,_,rfl,rfl,.inl ⟨by lia,by lia⟩,_,_,rfl,rfl,_,_,rfl,rfl,(show (0:Int)<2147483647 by decide),_,rfl,p,_,_,_,rfl,rfl,d,L _ _,λH1 M o=>?_⟩;refine⟨_,rfl,p,_,1,_,rfl,rfl,SqL.of o,l _ _,_,rfl,p,_,1,_,rfl,rfl,SqL.of o,l _ _,_,_,rfl,rfl,.inl ⟨by lia,by lia⟩,_,_,rfl,rfl,(show (0:Int)<2147483629 by decide),_,rfl,p,_,_,_,rfl,rfl,o,m _ _,λH2 N r=>?_⟩;refine⟨_,rfl,p,_,0,_,rfl,rfl,SqL.of r,g _ _,_,rfl,_,_,rfl,rfl,i,?_⟩;refine⟨_,rfl,p,_,0,_,rfl,rfl,SqL.of r,g _ _,_,rfl,_,_,rfl,rfl,⟨i,C⟩,_,rfl,p,_,_,_,rfl,rfl,r,m _ _,λu v B=>?_⟩;refine⟨_,rfl,?_⟩;have e:refill (n,z)=((z*16807+11)%2147483647*((z*16807+11)%2147483647)%2147483629,(z*16807+11)%2147483647):=by unfold refill;rw[Ij c]
  unfold digO nxt bc at q;rw[e] at q;exact q u (λb h=>(v b h).trans ((N b h).trans (M b h))) B
 have c:¬n=0:=λy=>c (by rw[y];exact Ik rfl);refine⟨_,rfl,p,_,0,_,rfl,rfl,SqL.of d,g _ _,_,rfl,_,_,rfl,rfl,i,?_⟩;refine⟨_,rfl,p,_,0,_,rfl,rfl,SqL.of d,g _ _,_,rfl,_,_,rfl,rfl,⟨i,C⟩,_,rfl,p,_,_,_,rfl,rfl,d,m _ _,λu v B=>?_⟩;refine⟨_,rfl,?_⟩;have e:refill (n,z)=(n,z):=by unfold refill;rw[Ii c]
 unfold digO nxt bc at q;rw[e] at q;exact q u v B
theorem iD:aP ["_law_script","_law_k","_law_seed","_law_cell","_law_number"] ["_law_script","_law_k"] (ax ki):=by walk_at"sc"
theorem zd(ns:List Int):gI (ns.map V.int) none (some 40)=(ns.take 40).map V.int:=by
 unfold gI;have b:HT.sIx (ns.map V.int).length 0 none=0:=rfl;have c:HT.sIx (ns.map V.int).length (ns.map V.int).length (some 40)=min 40 ns.length:=by rw[List.length_map];have:=HT.sIx_nat ns.length ns.length 40;simpa using this
 rw[b,c,List.drop_zero,<-List.map_take,FG]
 congr 1
 rw[List.take_eq_take_iff];lia
theorem Dm{f d:Addr}{fd g:FuncData}(U:Fun K "_law_pot" "_law_pot" ki f fd)(o:Fun K "_law_at" "_law_at" sAt d g)(p:Binds K g ["_law_script","_law_k"] [])(mA:mg "_law_at" = some (.ref d))(u:W.keepIn K (.ref d)=true)(T:bD mg) :
  ak P w K mg base CX0 2 f fd ["_law_script","_law_k"] (uF K):=by
 have x:ak P w K mg base CX0 1 d g ["_law_script","_law_k"] (spAt K):=EW o T;refine U.ok iD (by rintro _ _ _ _ ⟨_,_,_,rfl,_⟩;rfl) λL A outer s H vs Q E z h=>?_
 obtain⟨a,ns,k,rfl,n,B,h1,q⟩:=h;refine⟨_,ae (sx 2 iD.nd (au bp ag (au dW ag (pv 1))))
  (ae (bh aZ rfl (ba (rh sL (pv 0) s_ (sX ag))) (gx 3 iD.nd)
   (ao (sx 2 iD.nd (au cX (au bp (au dW (pv 2) ag) (pv 3)) ag))))
  (ae (sx 4 iD.nd (tp x z rfl mA u p .nil pass0 (af (pv 0) (pa1 (pv 1)))))
  (ae (bB (a7 iE (pv 4) (au lE ag ag) (nomark _)) (ao (sx 4 iD.nd ag)) bu)
  (ao (aJ (bj (af (pv 4) (pa1 (pv 2))))))))),?_⟩
 refine⟨_,rfl,_,_,rfl,rfl,.inl ⟨by lia,by lia⟩,_,_,rfl,rfl,?_⟩;refine⟨_,rfl,40,rfl,a,_,rfl,n,λl H1 M sm m=>?_⟩;rw[zd] at m;refine⟨l,rfl,⟨_,SqL.of m⟩,cA (K:=[]) (a:=l) (xs:=(ns.take 40).map V.int) (λi Z H2=>∃v,Z=[some (.ref a),some (.int k),some (.int (((ns.take 40).take i).foldl (λs c=>(s*48271+c)%2147483647) (7+1009*k))),v,none]/\H2=H1/\
  (-(2 ^ 60)<(((ns.take 40).take i).foldl (λs c=>(s*48271+c)%2147483647) (7+1009*k))/\(((ns.take 40).take i).foldl (λs c=>(s*48271+c)%2147483647) (7+1009*k))<2 ^ 60))
  ⟨none,rfl,rfl,by simp only[List.take_zero,List.foldl_nil];constructor<;>lia⟩ (λi Z H2 _ ⟨_,_,e,_⟩=>by rw[e];exact SqL.of m) ?_ ?_⟩
 .rintro i y Z H2 hi ⟨v,rfl,rfl,N,O⟩;obtain⟨c,C,rfl⟩:∃c,(ns.take 40)[i]?=some c/\V.int c=y:=by
   rw[List.getElem?_map] at hi;exact aY.mp hi
  have e:(ns.take 40).take (i+1)=(ns.take 40).take i++[c]:=by rw[List.take_add_one,C];rfl
  refine⟨_,rfl,_,_,rfl,rfl,.inl ⟨by lia,by lia⟩,_,rfl,_,_,rfl,rfl,_,_,rfl,rfl,(show (0:Int)<2147483647 by decide),?_⟩;refine⟨some (.int c),?_,rfl,?_⟩
  .rw[e,List.foldl_append];rfl
  rw[e,List.foldl_append];have R:=ml ((((ns.take 40).take i).foldl (λs c=>(s*48271+c)%2147483647) (7+1009*k))*48271+c) (show (0:Int)<2147483647 by decide);have S:=mn ((((ns.take 40).take i).foldl (λs c=>(s*48271+c)%2147483647) (7+1009*k))*48271+c) (show (2147483647:Int)≠0 by decide);simp only[List.foldl_cons,List.foldl_nil];constructor<;>lia
 rintro Z H2 ⟨v,rfl,rfl,_,_⟩;rw[List.length_map,List.take_length];refine⟨_,rfl,_,rfl,a,ns,k,rfl,sm.seq n,B,?_⟩;refine⟨_,rfl,_,_,rfl,rfl,⟨by decide,by decide,by decide⟩,_,_,rfl,rfl,_,rfl,?_⟩;have fin:∀(r:Addr)(b:Hp),H2 r=none->Same H2 b->b r=some (.lst (bc (oF ns k)))->Q (.ref r) b:=λr b D s2 I=>q r b (sm.free D) (sm.trans s2) I;unfold oF at fin;refine ite2 (λc=>?_) (λc=>?_)
 .have c:iC ns k<1000000000000000000:=Im c;rw[Ij c] at fin;exact⟨_,rfl,_,rfl,(show 2<=sizeLine by decide),fin⟩
 have c:¬iC ns k<1000000000000000000:=λy=>c (Ik y);rw[Ii c] at fin;exact⟨_,rfl,_,rfl,(show 2<=sizeLine by decide),fin⟩
end
theorem cJ{q:Int×Int}{b:Int}(c:0<b):0<=digO q b/\digO q b<b:=⟨mn _ (by lia),ml _ c⟩
theorem hJ{b:Int}(c:0<b)(h:b<=10 ^ 60):b.natAbs.log2<9000:=by
 have h1:b.natAbs≠0:=by lia
 refine (Fw h1).mpr ?_;have h2:b.natAbs<=10 ^ 60:=by lia
 exact pf h2 (bL (show 10 ^ 60<2 ^ 200 by decide) (FF (by decide) (by decide)))
end K51
end
section
namespace K15
open PySem L2 K51 K31
def aS(e:Ent):List Key×V:=(ky e.1.1 e.1.2,V.int (e.2:Int))
theorem dB{l:List Ent}{p q:Nat}:aI (l.map aS) (ky p q)=none↔(p,q)∉l.map (·.1):=by
 induction l with
 |nil=>simp[aI]
 |cons e l b=>
  rw[List.map_cons,List.map_cons,List.mem_cons];by_cases h:(aS e).1=ky p q
  .rw[eD h];have:e.1=(p,q):=j3.mp h;simp[this]
  rw[du h,b];have:(p,q)≠e.1:=λz=>h (j3.mpr (by rw[z]));simp[this]
theorem zb{l:List Ent}(nd:(l.map (·.1)).Nodup){p q c:Nat}:aI (l.map aS) (ky p q)=some (V.int (c:Int))↔((p,q),c)∈l:=by
 induction l with
 |nil=>simp[aI]
 |cons e l d=>
  rw[List.map_cons,List.nodup_cons] at nd;rw[List.map_cons,List.mem_cons];by_cases h:(aS e).1=ky p q
  .rw[eD h];have b:e.1=(p,q):=j3.mp h;constructor
   .intro z;injection z with z;injection z with z;left;have:e.2=c:=by lia
    rw[<-b,<-this]
   rintro (z|z)
   .rw[<-z];rfl
   exact (nd.1 (List.mem_map.mpr ⟨_,z,b.symm⟩)).elim
  rw[du h,d nd.2];constructor
  .exact .inr
  rintro (z|z)
  .exact (h (j3.mpr (by rw[<-z]))).elim
  exact z
theorem AZ{l:List Ent}{p q:Nat}{v:V}(h:aI (l.map aS) (ky p q)=some v):∃c:Nat,v=V.int (c:Int):=by
 induction l with
 |nil=>cases h
 |cons e l b=>
  rw[List.map_cons] at h;by_cases h1:(aS e).1=ky p q
  .rw[eD h1] at h;injection h with h;exact⟨e.2,h.symm⟩
  rw[du h1] at h;exact b h
theorem rV{ts:List Tri}(g:Good ts)(p q:Nat):(∃c,En ts p q c/\aI ((ents ts).map aS) (ky p q)=some (V.int (c:Int)))\/((∀c,¬En ts p q c)/\aI ((ents ts).map aS) (ky p q)=none):=by
 cases h:aI ((ents ts).map aS) (ky p q) with
 |none=>
  refine .inr ⟨λc b=>?_,rfl⟩;exact dB.mp h (List.mem_map.mpr ⟨_,b,rfl⟩)
 |some v=>
  obtain⟨c,rfl⟩:=AZ h;exact .inl ⟨c,(zb g.nd).mp h,rfl⟩
theorem dQ(a b:List Tri):ents (a++b)=ents a++ents b:=by simp[ents]
theorem df(ts:List Tri):(ents ts).length=3*ts.length:=by
 induction ts with
 |nil=>rfl
 |cons t ts b=>
  rw[show t::ts=[t]++ts from rfl,dQ,List.length_append,b,List.length_append];show 3+_=3*(1+_);lia
theorem kW{l:List Ent}{a b c:Nat}(h:((l++[((a,b),c)]).map (·.1)).Nodup):(l.map (·.1)).Nodup/\(a,b)∉l.map (·.1):=by rw[List.map_append,List.nodup_append] at h;refine⟨h.1,λz=>?_⟩;exact h.2.2 _ z (a,b) (by simp) rfl
theorem k0{l:List Ent}{a b c:Nat}(h:(a,b)∉l.map (·.1)):aW (l.map aS) (ky a b) (V.int (c:Int))=(l++[((a,b),c)]).map aS:=by rw[h_ _ (dB.mpr h),List.map_append];rfl
def dv(t:Tri):List (Nat×Nat):=[(t.1,t.2.1),(t.2.1,t.2.2),(t.2.2,t.1)]
def zl(vs:List V)(H:Hp)(Q:VK)(t:Addr)(x:Tri):Prop:=vs=[.ref t]/\H t=some (.tup [.int (x.1:Int),.int (x.2.1:Int),.int (x.2.2:Int)])/\
 ∀r zs H',H r=none->Same H H'->H' r=some (.lst zs)->SdsAt H' zs (dv x)->Q (.ref r) H'
def nH:Sp:=λvs H Q _=>Exists (Ex2 (zl vs H Q))
def xQ(vs:List V)(H:Hp)(Q:VK)(T:Addr)(b:List V)(ts:List Tri):Prop:=vs=[.ref T]/\H T=some (.lst b)/\aw H b ts/\ts.length<=400/\((ents ts).map (·.1)).Nodup/\
 ∀D H',H D=none->Same H H'->H' D=some (.dT ((ents ts).map aS))->Q (.ref D) H'
def ft:Sp:=λvs H Q _=>Exists (Ex3 (xQ vs H Q))
def fN(ts:List Tri)(x:Tri):Bool:=(dv x).all λs=>decide (s∉(ents ts).map (·.1))
def Bc(vs:List V)(H:Hp)(Q:VK)(D t:Addr)(ts:List Tri)(x:Tri):Prop:=vs=[.ref D,.ref t]/\H D=some (.dT ((ents ts).map aS))/\H t=some (.tup [.int (x.1:Int),.int (x.2.1:Int),.int (x.2.2:Int)])/\
 ∀H',Same H H'->Q (.bl (fN ts x)) H'
def oi:Sp:=λvs H Q _=>Exists (Ex4 (Bc vs H Q))
section
theorem kX:aP ["_law_triple","_law_a","_law_b","_law_c"] ["_law_triple"] (ax jL):=by walk_at"sc"
theorem z7{f:Addr}(U:Fun K "_law_sides" "_law_sides" jL f fd):ak P w K mg base CX0 1 f fd ["_law_triple"] nH:=by
 refine U.ok kX (by rintro _ _ _ _ ⟨_,_,rfl,_⟩;rfl) λv A outer s H vs Q E y h=>?_
 obtain⟨t,x,rfl,d,q⟩:=h;refine⟨_,ae (fI (pv 0) (b_ rfl (aO (gx 1 kX.nd) (aO (gx 2 kX.nd) (aO (gx 3 kX.nd) bX)))))
  (ao (aJ (bj (af (aR (af (pv 1) (pa1 (pv 2)))) (af (aR (af (pv 2) (pa1 (pv 3)))) (pa1 (aR (af (pv 3) (pa1 (pv 1)))))))))),?_⟩
 refine⟨_,rfl,t,_,rfl,SqT.of d,rfl,_,_,rfl,_,_,rfl,_,_,rfl,rfl,?_⟩;refine⟨_,rfl,_,rfl,lit2,λe H1 h1 s1 g=>?_⟩;refine⟨_,rfl,_,rfl,lit2,λi H2 h2 s2 l=>?_⟩;refine⟨_,rfl,_,rfl,lit2,λm z B b n=>?_⟩;refine⟨lit3,λr o p c u=>?_⟩;exact q r _ o (((s1.trans s2).trans b).free p) (((s1.trans s2).trans b).trans c) u (.cons ⟨e,rfl,((s2.trans b).trans c) _ _ g⟩ (.cons ⟨i,rfl,(b.trans c) _ _ l⟩ (.cons ⟨m,rfl,c _ _ n⟩ .nil)))
theorem jc:aP ["_law_triples","_law_thirds_here","_law_a","_law_b","_law_c"] ["_law_triples"] (ax ju):=by walk_at"sc"
theorem ye{f:Addr}(U:Fun K "_law_thirds" "_law_thirds" ju f fd):ak P w K mg base CX0 1 f fd ["_law_triples"] ft:=by
 refine U.ok jc (by rintro _ _ _ _ ⟨_,_,_,rfl,_⟩;rfl) λIp A outer s H vs Q E N h=>?_
 obtain⟨T,O,ts,rfl,u,v,hl,y,q⟩:=h;have g:=bI N;refine⟨_,ae (sx 1 jc.nd m_)
  (ae (bh aZ rfl (ba (pv 0)) (b_ rfl (aO (gx 2 jc.nd) (aO (gx 3 jc.nd) (aO (gx 4 jc.nd) bX))))
   (ae (dI g (pv 1) (aR (af (pv 2) (pa1 (pv 3)))) (pv 4) rfl)
   (ae (dI g (pv 1) (aR (af (pv 3) (pa1 (pv 4)))) (pv 2) rfl)
   (ao (dI g (pv 1) (aR (af (pv 4) (pa1 (pv 2)))) (pv 3) rfl)))))
  (ao (aJ (pv 1)))),?_⟩
 have ad:=line5000;have hlen:=az v;refine λD H1 h1 s1 R=>?_;refine⟨_,rfl,T,rfl,⟨_,SqL.of (s1 _ _ u)⟩,cA (K:=[]) (a:=T) (xs:=O) (λi Z H2=>∃l m n,Z=[some (.ref T),some (.ref D),l,m,n]/\Same H H2/\H2 D=some (.dT ((ents (ts.take i)).map aS)))
  ⟨none,none,none,rfl,s1,R⟩ (by rintro i Z H2 _ ⟨_,_,_,_,e,_⟩;exact SqL.of (e _ _ u)) ?_ ?_⟩
 .rintro i x Z H2 hi ⟨l,m,n,rfl,sm,d⟩;obtain⟨⟨a,b,c⟩,z,t,rfl,p⟩:=bM v hi;have p:H t=some (.tup [.int (a:Int),.int (b:Int),.int (c:Int)]):=p;have al:i<ts.length:=(List.getElem?_eq_some_iff.mp z).1;have S:ts.take (i+1)=ts.take i++[(a,b,c)]:=by rw[List.take_add_one,z];rfl
  have B:((ents (ts.take (i+1))).map (·.1)).Nodup:=by rw[<-List.take_append_drop (i+1) ts,dQ,List.map_append,List.nodup_append] at y;exact y.1
  have C:ents (ts.take (i+1))=((ents (ts.take i)++[((a,b),c)])++[((b,c),a)])++[((c,a),b)]:=by rw[S,dQ];simp[ents]
  rw[C] at B;obtain⟨X,Y⟩:=kW B;obtain⟨ab,n2⟩:=kW X;obtain⟨_,n1⟩:=kW ab;have l0:=df (ts.take i);rw[List.length_take] at l0;refine⟨t,_,rfl,SqT.of (sm _ _ p),rfl,_,_,rfl,_,_,rfl,_,_,rfl,rfl,?_⟩;refine⟨_,rfl,_,rfl,_,rfl,_,rfl,lit2,λt1 H3 g1 I y3=>?_⟩;refine⟨D,_,rfl,DPut.t (k:=ky a b) (I _ _ d) y3 (by rw[List.length_map];lia),?_⟩;rw[k0 n1];walk_at"H3 D H4 k4 y4";refine⟨_,rfl,_,rfl,_,rfl,_,rfl,lit2,λt2 H5 g2 L y5=>?_⟩;refine⟨D,_,rfl,DPut.t (k:=ky b c) (L _ _ y4) y5 (by rw[List.length_map,List.length_append,List.length_singleton];lia),?_⟩;rw[k0 n2];walk_at"H5 D H6 k6 y6";refine⟨_,rfl,_,rfl,_,rfl,_,rfl,lit2,λt3 H7 g3 M y7=>?_⟩;refine⟨D,_,rfl,DPut.t (k:=ky c a) (M _ _ y6) y7 (by rw[List.length_map,List.length_append,List.length_append,List.length_singleton,List.length_singleton];lia),?_⟩;rw[k0 Y];walk_at"H7 D H8 k8 y8";refine⟨_,_,_,rfl,λr o e=>?_,by rw[y8,C]⟩;have nb:=ah e h1;exact (k8 r nb).trans (M _ _ ((k6 r nb).trans (L _ _ ((k4 r nb).trans (I _ _ (sm _ _ e))))))
 rintro Z H2 ⟨l,m,n,rfl,sm,d⟩;rw[hlen,List.take_length] at d;exact⟨_,rfl,q D H2 h1 sm d⟩
end
theorem rP:bootBuiltins "all" = some (.builtin "all"):=by decide +kernel
theorem dq:bootBuiltins "sorted" = some (.builtin "sorted"):=by decide +kernel
def flat(ts:List Tri):List Nat:=ts.flatMap λt=>[t.1,t.2.1,t.2.2]
def kb(c:Nat):Key×V:=(Sum.inl (c:Int),V.bl true)
theorem ug{c d:Nat}:(kb c).1=(Sum.inl (d:Int):Key)↔c=d:=by
 unfold kb;constructor
 .intro h;injection h with h;lia
 rintro rfl;rfl
theorem jX(dd:List Nat)(c:Nat):aW (dd.map kb) (Sum.inl (c:Int)) (V.bl true)=(if c∈dd then dd else dd++[c]).map kb:=by
 by_cases h:c∈dd
 .rw[Ij h];have ha:((dd.map kb).any λb=>decide (b.1=(Sum.inl (c:Int):Key)))=true:=List.any_eq_true.mpr ⟨kb c,List.mem_map.mpr ⟨c,h,rfl⟩,Ik rfl⟩;unfold aW;rw[Ij ha,List.map_map];refine List.map_congr_left λx _=>?_;show (if (kb x).1=(Sum.inl (c:Int):Key) then ((kb x).1,V.bl true) else kb x)=kb x
  split<;>rfl
 rw[Ii h,h_,List.map_append]
 .rfl
 cases e:aI (dd.map kb) (Sum.inl (c:Int)) with
 |none=>rfl
 |some v=>
  have:=rW e;rw[List.map_map] at this;obtain⟨x,d,ex⟩:=List.mem_map.mp this;exact (h (ug.mp ex ▸ d)).elim
def Cs(ts:List Tri)(cs:List Nat):Prop:=cs.Pairwise (· < ·)/\∀c,c∈cs↔c∈flat ts
theorem fX{dd:List Nat}{ms:List Int}(nd:dd.Nodup)(f:ms.Perm (dd.map λc:Nat=>(c:Int)))(d:ms.Pairwise (·<=·)):∃cs:List Nat,ms=cs.map (λc:Nat=>(c:Int))/\cs.Pairwise (· < ·)/\cs.Perm dd:=by
 have e:ms=(ms.map Int.toNat).map (λc:Nat=>(c:Int)):=by
  rw[List.map_map];have:∀x∈ms,((λc:Nat=>(c:Int)) ∘ Int.toNat) x=id x:=by intro x g;obtain⟨c,_,rfl⟩:=List.mem_map.mp (f.mem_iff.mp g);simp
  rw[List.map_congr_left this,List.map_id]
 have pm:(ms.map Int.toNat).Perm dd:=by
  have:=f.map Int.toNat;rw[List.map_map] at this;have i:dd.map (Int.toNat ∘ λc:Nat=>(c:Int))=dd:=by
   have:∀x∈dd,(Int.toNat ∘ λc:Nat=>(c:Int)) x=id x:=λx _=>by simp
   rw[List.map_congr_left this,List.map_id]
  rw[i] at this;exact this
 refine⟨ms.map Int.toNat,e,?_,pm⟩;have l:(ms.map Int.toNat).Nodup:=pm.nodup_iff.mpr nd;rw[e] at d;rw[List.pairwise_map] at d;have:=d.and l;refine this.imp λ{a b} h=>?_;have h1:=h.1;have h2:=h.2;lia
def xi(vs:List V)(H:Hp)(Q:VK)(T:Addr)(b:List V)(ts:List Tri):Prop:=vs=[.ref T]/\H T=some (.lst b)/\aw H b ts/\ts.length<=200/\
 ∀r cs H',H r=none->Same H H'->H' r=some (.lst (nV cs))->Cs ts cs->cs.length<=3*ts.length->Q (.ref r) H'
def fh:Sp:=λvs H Q _=>Exists (Ex3 (xi vs H Q))
section
theorem CW:aP ["_law_thirds_here","_law_triple"] ["_law_thirds_here","_law_triple"] (ax j_):=by walk_at"sc"
theorem BJ{f C:Addr}{fd d1:FuncData}(U:Fun K "_law_free" "_law_free" j_ f fd)(T:bD mg)(G:Use P w K mg base 1 "_law_sides" ["_law_triple"] nH C d1) :
  ak P w K mg base CX0 2 f fd ["_law_thirds_here","_law_triple"] oi:=by
 refine U.ok CW (by rintro _ _ _ _ ⟨_,_,_,_,rfl,_⟩;rfl) λY A outer s H vs Q E m h=>?_
 obtain⟨D,t,ts,x,rfl,I,L,q⟩:=h;have M:=bI m;refine⟨_,ao (aJ (a_ (pU rfl) (by rfl) T.all rP (pa1 (bY (N:=["_law_side","_law_thirds_here"]) (fr:=[none,some 0]) (bW (by decide +kernel) rfl rfl (by decide +kernel) (by decide +kernel) (by walk_at"cs") (by walk_at"ct")) rfl (ba (uc G m (pa1 (pv 1))))
    (λC' s' H' fp Io=>⟨gx 0 (by decide:(["_law_side","_law_thirds_here"]:List Str).Nodup),cP,Di (gh M (pv 0) (pv 1))⟩))))),?_⟩
 have ab:=line5000;refine⟨_,rfl,t,x,rfl,L,λr zs H1 ad s1 n p=>?_⟩;have O:=az p;refine⟨r,rfl,⟨_,SqL.of n⟩,λZ_ u=>de (K:=[]) (a:=r) (xs:=zs) (λi Z ys H'=>∃o,Z=[o,some (.ref D)]/\ys=(((dv x).take i).map λs=>decide (s∉(ents ts).map (·.1))).map V.bl/\Same H1 H'/\H' Z_=some (.lst ys)) ⟨none,rfl,rfl,bf u,aG⟩ (by rintro i Z ys H' _ ⟨_,_,_,e,_⟩;exact SqL.of (e _ _ n)) ?_ ?_⟩
 .rintro i y Z ys H' hi ⟨o,rfl,rfl,d,g⟩;obtain⟨⟨a,b⟩,B,c,rfl,R⟩:=bM p hi;have al:=(List.getElem?_eq_some_iff.mp B).1;refine⟨_,rfl,_,rfl,D,_,rfl,DGet.t (k:=ky a b) (d _ _ (s1 _ _ I)) (d _ _ R),g,?_,λH3 S X=>⟨_,rfl,?_,λb o e=>(S b (ah e u)).trans (d _ _ e),X⟩⟩
  .rw[List.length_map,List.length_map,List.length_take];have:(dv x).length=3:=rfl;lia
  rw[List.take_add_one,B];show _=((((dv x).take i)++[(a,b)]).map _).map _;rw[List.map_append,List.map_append]
  congr 1
  show [V.bl _]=[V.bl _]
  congr 2
  cases l:aI ((ents ts).map aS) (ky a b) with
  |none=>exact (Ik (dB.mp l)).symm
  |some v=>exact (Il λz=>by rw[dB.mpr z] at l;cases l).symm
 rintro Z ys H' ⟨o,rfl,rfl,d,g⟩;refine⟨Z_,(dv x).map λs=>decide (s∉(ents ts).map (·.1)),rfl,SqL.of ?_,?_⟩
 .rw[g,O,List.take_length]
 rw[List.all_map];exact q _ (s1.trans d)
theorem kJ:aP ["_law_triples","_law_found","_law_triple","_law_corner"] ["_law_triples"] (ax ji):=by walk_at"sc"
theorem xw{f:Addr}(U:Fun K "_law_corners" "_law_corners" ji f fd)(X:mg "sorted" = none):ak P w K mg base CX0 1 f fd ["_law_triples"] fh:=by
 refine U.ok kJ (by rintro _ _ _ _ ⟨_,_,_,rfl,_⟩;rfl) λIp A outer s H vs Q E Y h=>?_
 obtain⟨T,vt,ts,rfl,L,M,hl,q⟩:=h;have hu:=bI Y;refine⟨_,ae (sx 1 kJ.nd fC)
  (ae (bh aZ rfl (ba (pv 0)) (gx 2 kJ.nd)
   (ao (bh aZ rfl (gB (pv 2)) (gx 3 kJ.nd) (ao (dI hu (pv 1) (pv 3) eK rfl)))))
  (ao (aJ (a_ (fW rfl) (by rfl) X dq (pa1 (pv 1)))))),?_⟩
 have ad:=line5000;have hlen:=az M;refine λD H1 h1 s1 y1=>?_;refine⟨_,rfl,T,rfl,⟨_,SqL.of (s1 _ _ L)⟩,cA (K:=[]) (a:=T) (xs:=vt) (λi Z H2=>∃v g dd,Z=[some (.ref T),some (.ref D),v,g]/\Same H H2/\H2 D=some (.dK (dd.map kb))/\dd.Nodup/\(∀c,c∈dd↔c∈flat (ts.take i))/\dd.length<=3*i)
  ⟨none,none,[],rfl,s1,y1,List.nodup_nil,by simp[flat],aD _⟩ (by rintro i Z H2 _ ⟨_,_,_,_,e,_⟩;exact SqL.of (e _ _ L)) ?_ ?_⟩
 .rintro i x Z H2 hi ⟨v,g,dd,rfl,sm,m,nd,hm,N⟩;obtain⟨⟨a,b,c⟩,O,t,rfl,r⟩:=bM M hi;have r:H t=some (.tup [.int (a:Int),.int (b:Int),.int (c:Int)]):=r;have al:i<ts.length:=(List.getElem?_eq_some_iff.mp O).1;have et:flat (ts.take (i+1))=flat (ts.take i)++[a,b,c]:=by rw[List.take_add_one,O];simp[flat]
  refine⟨_,rfl,t,rfl,⟨_,SqT.of (sm _ _ r)⟩,tE (K:=[]) (a:=t) (xs:=[.int (a:Int),.int (b:Int),.int (c:Int)]) (λj Z l=>∃g dd,Z=[some (.ref T),some (.ref D),some (.ref t),g]/\Same H l/\l D=some (.dK (dd.map kb))/\dd.Nodup/\(∀z,z∈dd↔z∈flat (ts.take i)++[a,b,c].take j)/\dd.length<=3*i+j)
   ⟨_,dd,rfl,sm,m,nd,by simpa using hm,N⟩ (by rintro j Z l _ ⟨_,_,_,e,_⟩;exact SqT.of (e _ _ r)) ?_ ?_⟩
  .rintro j y Z l d ⟨g,dd,rfl,B,C,u,I,ab⟩;obtain⟨n,R,rfl⟩:∃n:Nat,[a,b,c][j]?=some n/\y=.int (n:Int):=by
    match j,d with
    |0,d=>simp at d;exact⟨a,rfl,d.symm⟩
    |1,d=>simp at d;exact⟨b,rfl,d.symm⟩
    |2,d=>simp at d;exact⟨c,rfl,d.symm⟩
    |j+3,d=>simp at d
   have am:j<3:=(List.getElem?_eq_some_iff.mp R).1;refine⟨_,rfl,_,rfl,D,_,rfl,DPut.k (k:=Sum.inl (n:Int)) C (by rw[List.length_map];lia),?_⟩;rw[jX];walk_at"l D H4 k4 y4";refine⟨_,_,rfl,λb' o e=>(k4 b' (ah e h1)).trans (B _ _ e),y4,?_,λz=>?_,?_⟩
   .split
    .exact u
    rename_i h;exact List.nodup_append.mpr ⟨u,by simp,λx hx y hy=>by rw[List.mem_singleton.mp hy];rintro rfl;exact h hx⟩
   .rw[List.take_add_one,R,<-List.append_assoc];show _↔z∈(flat (ts.take i)++[a,b,c].take j)++[n];rw[List.mem_append,<-I z]
    split
    .rename_i h;constructor
     .exact .inl
     rintro (h' | h')
     .exact h'
     rw[List.mem_singleton.mp h'];exact h
    rw[List.mem_append]
   split
   .lia
   rw[List.length_append,List.length_singleton];lia
  rintro Z l ⟨g,dd,rfl,B,C,u,I,ab⟩;refine⟨_,_,dd,rfl,B,C,u,λz=>?_,?_⟩
  .rw[et];exact I z
  have:([V.int (a:Int),.int (b:Int),.int (c:Int)]:List V).length=3:=rfl;lia
 rintro Z H2 ⟨v,g,dd,rfl,sm,m,nd,hm,N⟩;rw[hlen,List.take_length] at hm;refine⟨_,rfl,D,rfl,.inl ⟨_,m⟩,λks vs hk=>.inl ⟨dd.map (λc:Nat=>(c:Int)),?_,by rw[List.length_map];lia,λp ms S pm ps=>?_⟩⟩
 .rcases hk with ⟨kvs,e,rfl,_⟩|⟨kvs,as,e,_⟩
  .rw[m] at e;cases e;rw[List.map_map,List.map_map];rfl
  rw[m] at e;cases e
 obtain⟨cs,rfl,pl,pc⟩:=fX nd pm ps;have an:=pc.length_eq;have e:(cs.map (λc:Nat=>(c:Int))).map V.int=nV cs:=by rw[List.map_map];rfl
 rw[e];exact q p cs _ (sm.free S) (sm.trans (bf S)) aG ⟨pl,λc=>by rw[pc.mem_iff];exact hm c⟩ (by lia)
end
theorem gq(l:List Nat):(nV l).all eL=true:=by rw[List.all_eq_true];intro v b;obtain⟨n,_,rfl⟩:=List.mem_map.mp b;rfl
theorem fK(c:Nat)(l:List Nat):inV (V.int (c:Int)) (nV l)=decide (c∈l):=by
 unfold inV nV;rw[List.any_map,gO,decide_eq_true_eq,List.any_eq_true];constructor
 .rintro⟨x,b,e⟩;have:(x:Int)=(c:Int):=by simpa [eqV] using e
  have:x=c:=by lia
  rw[<-this];exact b
 intro h;exact⟨c,h,by simp[eqV]⟩
theorem B0(l:List Nat):inV V.non (nV l)=false:=by unfold inV nV;rw[List.any_map,List.any_eq_false];intro x _;simp[eqV]
theorem eC{l m:List Nat}(h:l.Nodup)(b:∀x∈l,x∈m):l.length<=m.length:=by
 induction l generalizing m with
 |nil=>exact aD _
 |cons a l d=>
  rw[List.nodup_cons] at h;have ha:=b a (by simp);have:=d (m:=m.erase a) h.2 λx c=>by
   have e:x≠a:=λz=>h.1 (z ▸ c);exact (List.mem_erase_of_ne e).mpr (b x (List.mem_cons_of_mem _ c))
  rw[List.length_erase_of_mem ha] at this;have f:0<m.length:=List.length_pos_of_mem ha;rw[List.length_cons];lia
theorem gY{K:W.Frag}{D:Addr}{l:List Ent}{ks vs:List V}(b:H D=some (.dT (l.map aS)))(d:DKeys H D ks vs):SdsAt H ks (l.map (·.1)):=by
 rcases d with ⟨kvs,e,_⟩|⟨kvs,as,e,c,rfl,_⟩
 .rw[b] at e;cases e
 rw[b] at e;cases e;rename_i f;clear b f;induction l generalizing as with
 |nil=>cases c;exact .nil
 |cons x l g=>
  cases c with
  |cons h t=>exact .cons ⟨_,rfl,h⟩ (g _ t)
theorem qX{ks:List V}{ss:List (Nat×Nat)}(h:SdsAt H ks ss):Tups K H ks (ss.map λs=>[(s.1:Int),(s.2:Int)]):=by
 induction h with
 |nil=>exact .nil
 |cons q _ b=>
  obtain⟨a,rfl,ha⟩:=q;exact .cons ⟨a,rfl,SqT.of ha,by simp⟩ b
theorem m6{ks:List V}{ss:List (Nat×Nat)}(h:SdsAt H ks ss):∀ix:List Nat,(∀i∈ix,i<ks.length)->SdsAt H (ix.map λi=>ks.getD i .non) (ix.map λi=>ss.getD i (0,0))
 | [],_=>.nil
 |i::ix,hi=>by
  have b:=hi i (by simp);have h1:ks[i]?=some ks[i]:=List.getElem?_eq_getElem b;obtain⟨y,c,hf⟩:=bM h h1;refine .cons ?_ (m6 h ix λj d=>hi j (List.mem_cons_of_mem _ d));simp only[List.getD,h1,c,u9];exact hf
theorem qA{ss:List (Nat×Nat)}{ix:List Nat}(h:ix.Perm (List.range ss.length)):(ix.map λi=>ss.getD i (0,0)).Perm ss:=by
 have:=h.map λi=>ss.getD i (0,0);refine this.trans (List.Perm.of_eq ?_);refine List.ext_getElem? λi=>?_;rw[List.getElem?_map];by_cases hi:i<ss.length
 .rw[List.getElem?_range hi];simp[List.getD,List.getElem?_eq_getElem hi]
 rw[List.getElem?_eq_none (by simpa using hi),List.getElem?_eq_none (by lia)];rfl
theorem lN(l:List Nat):Dts K H (nV l) (l.map λn:Nat=>PyData.int (n:Int)):=by
 induction l with
 |nil=>exact .nil
 |cons a l b=>exact .cons (.int _) b
theorem oB(l:List Nat):(PyData.list (l.map λn:Nat=>PyData.int (n:Int))).depth<=3:=by
 have:PyData.depthAll (l.map λn:Nat=>PyData.int (n:Int))<=1:=by
  induction l with
  |nil=>simp[PyData.depthAll]
  |cons a l b=>simp only[List.map_cons,PyData.depthAll,PyData.depth];lia
 simp only[PyData.depth];lia
theorem AC(ds:List PyData):PyData.eqv (.list ds) (.list [])=ds.isEmpty:=by cases ds<;>simp[PyData.eqv,PyData.eqvAll]
structure Run(ts:List Tri)(v x0:Nat)(F:List Nat):Prop where
 nd:F.Nodup
 key:∀p∈F,∃q,En ts v p q
 ch:∀i p q,F[i]?=some p->F[i+1]?=some q->En ts v p q
 x1:x0∈F
section
variable {ts:List Tri}{v x0 p c o:Nat}{F:List Nat}
theorem Bj(h:∃q,En ts v x0 q):Run ts v x0 [x0]:=⟨by simp,λp b=>by rw[List.mem_singleton.mp b];exact h,λi p q _ h2=>by simp at h2,by simp⟩
theorem Bl(r:Run ts v x0 F)(d:F.getLast?=some p)(e:En ts v p c)(g:∃q,En ts v c q)(l:c∉F):Run ts v x0 (F++[c]):=by
 refine⟨List.nodup_append.mpr ⟨r.nd,by simp,λx m y n=>by rw[List.mem_singleton.mp n];rintro rfl;exact l m⟩,λq o=>?_,λi a b h1 h2=>?_,List.mem_append_left _ r.x1⟩
 .rcases List.mem_append.mp o with h|h
  .exact r.key q h
  rw[List.mem_singleton.mp h];exact g
 by_cases hi:i+1<F.length
 .rw[List.getElem?_append_left hi] at h2;rw[List.getElem?_append_left (by lia)] at h1;exact r.ch i a b h1 h2
 have s:=(List.getElem?_eq_some_iff.mp h2).1;rw[List.length_append,List.length_singleton] at s;have f:i+1=F.length:=by lia
 rw[List.getLast?_eq_getElem?,<-f,oZ] at d;rw[List.getElem?_append_left (by lia),d] at h1;rw[f,List.getElem?_append_right (ai _),u7] at h2;cases h1;cases h2;exact e
theorem Bk(r:Run ts v x0 F)(c:F.head?=some p)(e:En ts v o p)(d:o∉F):Run ts v x0 (o::F):=by
 refine⟨List.nodup_cons.mpr ⟨d,r.nd⟩,λq f=>?_,λi a b h1 h2=>?_,List.mem_cons_of_mem _ r.x1⟩
 .rcases List.mem_cons.mp f with rfl|h
  .exact⟨p,e⟩
  exact r.key q h
 cases i with
 |zero=>
  rw[List.getElem?_cons_succ,<-List.head?_eq_getElem?,c] at h2;cases h1;cases h2;exact e
 |succ i=>
  rw[List.getElem?_cons_succ] at h1 h2;exact r.ch i a b h1 h2
theorem nL(r:Run ts v x0 F)(d:ts.length<=20):F.length<=60:=by
 have:=eC (m:=(ents ts).map (·.1.2)) r.nd λx b=>by
  obtain⟨q,c⟩:=r.key x b;exact List.mem_map.mpr ⟨_,c,rfl⟩
 rw[List.length_map,df] at this;lia
theorem oo(r:Run ts v x0 F):F≠[]:=λz=>by have:=r.x1;rw[z] at this;cases this
theorem tw(h:F≠[]):∃p,F.getLast?=some p:=⟨_,List.getLast?_eq_some_getLast h⟩
theorem B3(h:F≠[]):∃p,F.head?=some p:=by
 cases F with
 |nil=>exact (h rfl).elim
 |cons a l=>exact⟨a,rfl⟩
theorem D3{α:Type}{l:List α}{x:α}(h:l[l.length-1]?=some x):atI l (-1)=some x:=by have b:=(List.getElem?_eq_some_iff.mp h).1;unfold atI ixN;rw[Ii (by decide),Ij (by lia)];rw[show ((-1:Int)+(l.length:Int)).toNat=l.length-1 by lia];exact h
theorem Ck(h:F.getLast?=some p):atI (nV F) (-1)=some (V.int (p:Int)):=by refine D3 ?_;rw[aK,nV,List.getElem?_map,<-List.getLast?_eq_getElem?,h];rfl
theorem tL(h:F.head?=some p):atI (nV F) 0=some (V.int (p:Int)):=by
 have:(nV F)[0]?=some (V.int (p:Int)):=by rw[nV,List.getElem?_map,<-List.head?_eq_getElem?,h];rfl
 exact cQ this
end
theorem qm{c:TT}{tb:TS}{D:Ends}(R:St->Hp->Prop)(h:∀b:St->Hp->Prop,(∀Z H,R Z H->b Z H)->og c tb {D with nx:=b} Z H)(out:∀Z H,R Z H->D.nx Z H):og c tb D Z H:=h D.nx out
theorem xp{α β:Type}{F G:α->β->Prop}{xs:List α}{ys:List β}(h:∀x y,x∈xs->F x y->G x y)(p:Paired F xs ys):Paired G xs ys:=by
 induction p with
 |nil=>exact .nil
 |cons a _ b=>exact .cons (h _ _ (by simp) a) (b λx y c=>h x y (List.mem_cons_of_mem _ c))
def Bd(vs:List V)(H:Hp)(Q:VK)(T:Addr)(b:List V)(ts:List Tri)(v:Nat):Prop:=vs=[.ref T,.int (v:Int)]/\H T=some (.lst b)/\aw H b ts/\ts.length<=20/\Good ts/\
 ∀r c fs H',H r=none->Same H H'->H' r=some (.lst c)->eP H' c fs->Fans (En ts) v fs->fs.length<=60->Q (.ref r) H'
def tZ:Sp:=λvs H Q _=>Exists (Ex4 (Bd vs H Q))
section
theorem iu:aP ["_law_triples","_law_corner","_law_thirds_here","_law_left","_law_found","_law_fan"] ["_law_triples","_law_corner"] (ax ke):=by walk_at"sc"
theorem BK{f f1:Addr}{fd d1:FuncData}(U:Fun K "_law_fans" "_law_fans" ke f fd)(mS:mg "sorted" = none)(G:Use P w K mg base 1 "_law_thirds" ["_law_triples"] ft f1 d1) :
  ak P w K mg base CX0 2 f fd ["_law_triples","_law_corner"] tZ:=by
 refine U.ok iu (by rintro _ _ _ _ ⟨_,_,_,_,rfl,_⟩;rfl) λIp A outer s H vs Q E hr h=>?_
 obtain⟨T,vt,ts,v,rfl,hT,ht,hl,g,q⟩:=h;have hu:=bI hr;refine⟨_,ae (sx 2 iu.nd (uc G hr (pa1 (pv 0))))
  (ae (nQ (i:=3) (N:=["_law_a","_law_p","_law_corner"]) (fr:=[none,none,some 1]) (g:=iH [] 2 (dO (bO 0) (dO (bO 1) iI))) (bW (by decide +kernel) rfl rfl (by decide +kernel) (by decide +kernel) (by walk_at"cs") (by walk_at"ct")) rfl (ba (a_ (fW rfl) (by rfl) mS dq (pa1 (pv 2))))
    (λC' s' H' fp Io=>⟨b_ rfl (aO (gx 0 (by decide:(["_law_a","_law_p","_law_corner"]:List Str).Nodup)) (aO (gx 1 (by decide:(["_law_a","_law_p","_law_corner"]:List Str).Nodup)) bX)),dS (a7 dM (pv 0) (pv 2) (nomark _)),pv 1⟩) iu.nd rfl (.inl rfl))
  (ae (sx 4 iu.nd (bj cF))
  (ae (fB aZ (a7 (lF hr.units) (pv 3) (bj cF) (nomark _)) (ae (sx 5 iu.nd (bj (pa1 (ixx bG (pv 3) ag))))
   (ae (fB aZ (PW.pt (jW (a7 mR (zU hu (pv 2) (aR (af (pv 1) (pa1 (ixx bG (pv 5) (fM fE ag))))) ⟨rfl,rfl,rfl,rfl⟩) (pv 3) rfl) (jC (a7 i5 (dh hu (pv 2) (aR (af (pv 1) (pa1 (ixx bG (pv 5) (fM fE ag))))) (λ_ _=>rfl)) (pv 5) rfl)))) (ao (bF (bH bR cM cN cz (pv 5) (pa1 (dh hu (pv 2) (aR (af (pv 1) (pa1 (ixx bG (pv 5) (fM fE ag))))) (λ_ _=>rfl)))))))
   (ae (fB aZ (PW.pt (jW (eG (oy hu (aR (af (ixx bG (pv 5) ag) (pa1 (pv 1)))) (pv 2))) (jC (a7 i5 (dh hu (pv 2) (aR (af (ixx bG (pv 5) ag) (pa1 (pv 1)))) (λ_ _=>rfl)) (pv 5) rfl)))) (ao (bF (bH bR px vw mT (pv 5) (af ag (pa1 (dh hu (pv 2) (aR (af (ixx bG (pv 5) ag) (pa1 (pv 1)))) (λ_ _=>rfl))))))))
   (ae (nQ (i:=3) (N:=["_law_p","_law_fan"]) (fr:=[none,some 5]) (tt:=j5 (tOp (rIn [] true) (aV 0) (aV 1))) (bW (by decide +kernel) rfl rfl (by decide +kernel) (by decide +kernel) (by walk_at"cs") (by walk_at"ct")) rfl (ba (pv 3))
    (λC' s' H' fp Io=>⟨gx 0 (by decide:(["_law_p","_law_fan"]:List Str).Nodup),dS (a7 i5 (pv 0) (pv 1) rfl),pv 0⟩) iu.nd rfl (.inl rfl))
   (ao (bF (bH bR cM cN cz (pv 4) (pa1 (pv 5))))))))))
  (ao (aJ (pv 4)))))),?_⟩
 have db:=line5000;have k:=g.sk;refine⟨_,rfl,T,vt,ts,rfl,hT,ht,by lia,g.nd,λD H1 dc s1 hD=>?_⟩;refine⟨_,rfl,D,rfl,.inr ⟨_,hD⟩,λks vs hk=>.inr ⟨_,qX (gY (K:=[]) hD hk),?_,λp ix R pm _=>?_⟩⟩
 .rw[az (gY (K:=[]) hD hk),List.length_map,df];lia
 have b2:=gY (K:=[]) hD hk;have lk:=az b2;walk_at"H1 p R H2 s2 y2";have ci:∀i∈ix,i<ks.length:=λi hi=>List.mem_range.mp (pm.mem_iff.mp hi);have a4:=m6 (Paired.imp' (λ_ _ ⟨a,e,h⟩=>⟨a,e,s2 _ _ h⟩) b2:SdsAt H2 ks ((ents ts).map (·.1))) ix ci;have an:(ix.map λi=>((ents ts).map (·.1)).getD i (0,0)).Perm ((ents ts).map (·.1)):=qA (by rw[<-lk];exact pm);generalize (ix.map λi=>((ents ts).map (·.1)).getD i (0,0))=ss at a4 an;generalize (ix.map λi=>ks.getD i .non)=zs at a4 y2;have lz:=az a4;have cj:ss.length<=60:=by rw[an.length_eq,List.length_map,df];lia
 refine⟨p,rfl,⟨_,SqL.of y2⟩,λZ_ hZ=>de (K:=[]) (a:=p) (xs:=zs) (λi Z ys H'=>∃o1 o2,Z=[o1,o2,some (.int (v:Int))]/\ys=nV (((ss.take i).filter λs=>decide (s.1=v)).map (·.2))/\Same H2 H'/\H' Z_=some (.lst ys)) ⟨none,none,rfl,rfl,bf hZ,aG⟩ (by rintro i Z ys H' _ ⟨_,_,_,_,e,_⟩;exact SqL.of (e _ _ y2)) ?_ ?_⟩
 .rintro i y Z ys H' hi ⟨o1,o2,rfl,rfl,M,S⟩;obtain⟨⟨a,b⟩,hs,c,rfl,L⟩:=bM a4 hi;have et:ss.take (i+1)=ss.take i++[(a,b)]:=by rw[List.take_add_one,hs];rfl
  refine⟨c,_,rfl,SqT.of (M _ _ L),rfl,_,_,rfl,_,_,rfl,rfl,?_⟩;refine⟨_,rfl,_,rfl,rfl,_,rfl,?_⟩;show if decide (V.int (a:Int)=V.int (v:Int))=true then _ else _
  rw[eT];by_cases bg:a=v
  .rw[Ik (by rw[bg])];refine aL ⟨_,rfl,S,?_,λH3 k3 y3=>⟨_,_,rfl,?_,λb o e=>(k3 b (ah e hZ)).trans (M _ _ e),y3⟩⟩
   .rw[aK,List.length_map];have h1:=List.length_filter_le (λs:Nat×Nat=>decide (s.1=v)) (ss.take i);rw[List.length_take] at h1;lia
   rw[et,List.filter_append,List.filter_cons,Ij (Ik bg),List.filter_nil,List.map_append,<-cR];rfl
  rw[Il (by lia)];refine aC ⟨_,_,rfl,?_,M,S⟩;rw[et,List.filter_append,List.filter_cons,Ii (by simp[bg]),List.filter_nil,List.append_nil]
 rintro Z ys H3 ⟨o1,o2,rfl,rfl,M,S⟩;rw[lz,List.take_length] at S;have bi:∀x,x∈((ss.filter λs=>decide (s.1=v)).map (·.2))↔∃q,En ts v x q:=by
  intro x;rw[List.mem_map];constructor
  .rintro⟨⟨a,b⟩,hm,rfl⟩;rw[List.mem_filter,an.mem_iff] at hm;obtain⟨hm,ha⟩:=hm;have ha:a=v:=Im ha;obtain⟨⟨e1,c⟩,he,e2⟩:=List.mem_map.mp hm;have e2:e1=(a,b):=e2;subst e2 ha;exact⟨c,he⟩
  rintro⟨c,L⟩;exact⟨(v,x),List.mem_filter.mpr ⟨an.mem_iff.mpr (List.mem_map.mpr ⟨_,L,rfl⟩),Ik rfl⟩,rfl⟩
 have b3:((ss.filter λs=>decide (s.1=v)).map (·.2)).Nodup:=by
  have cl:ss.Nodup:=an.nodup_iff.mpr g.nd;have:∀l:List (Nat×Nat),l.Nodup->((l.filter λs=>decide (s.1=v)).map (·.2)).Nodup:=by
   intro l;induction l with
   |nil=>intro _;exact List.nodup_nil
   |cons x l ih=>
    intro h;rw[List.nodup_cons] at h;rw[List.filter_cons]
    split
    .rename_i C;rw[List.map_cons,List.nodup_cons];refine⟨λz=>?_,ih h.2⟩;obtain⟨y,hy,e⟩:=List.mem_map.mp z;rw[List.mem_filter] at hy;have h1:y.1=v:=Im hy.2;have h2:x.1=v:=Im C;have:y=x:=iS (h1.trans h2.symm) e;exact h.1 (this ▸ hy.1)
    exact ih h.2
  exact this ss cl
 have b4:((ss.filter λs=>decide (s.1=v)).map (·.2)).length<=60:=by rw[List.length_map];exact bQ (List.length_filter_le _ _) cj
 generalize ((ss.filter λs=>decide (s.1=v)).map (·.2))=cm at bi b3 b4 S;have q3:=(s1.trans s2).trans M;refine⟨aD _,λFd H4 cn s4 y4=>?_⟩;have q4:=q3.trans s4;have cr:=((s2.trans M).trans s4) _ _ hD;refine⟨λm Z H'=>∃v5 X lf Fd gs fs,Z=[some (V.ref T),some (.int (v:Int)),some (.ref D),some (.ref X),some (.ref Fd),v5]/\m=lf.length/\H Fd=none/\Same H H'/\H' D=some (.dT ((ents ts).map aS))/\H' X=some (.lst (nV lf))/\H' Fd=some (.lst gs)/\eP H' gs fs/\lf.Nodup/\
   (∀x∈lf,∃q,En ts v x q)/\(∀F∈fs,Fan (En ts) v F)/\(∀x,(∃q,En ts v x q)->x∈lf\/∃F∈fs,x∈F)/\(∀x∈lf,∀F∈fs,x∉F)/\(fs.Pairwise λF G=>∀x∈F,x∉G)/\fs.length+lf.length<=60/\V.ref Fd∉gs,
  ⟨_,none,Z_,cm,Fd,[],[],rfl,rfl,q3.free cn,q4,cr,s4 _ _ S,y4,.nil,b3,λx C=>(bi x).mp C,by simp,λx C=>.inl ((bi x).mpr C),by simp,List.Pairwise.nil,by simpa using b4,by simp⟩,?_⟩
 rintro m Z H5 ⟨v5,X,lf,Fd,gs,fs,rfl,rfl,bl,sm,cv,bm,b5,bn,cw,bt,bw,bx,b6,b7,hsz,b8⟩;refine⟨_,rfl,aD _,λpe H6 dd s6 y6=>?_⟩;refine⟨_,_,.lst (SqL.of (s6 _ _ bm)) (lN lf),.lst (SqL.of y6) .nil,bQ (oB lf) (by decide),_,rfl,?_⟩;rw[Ij rfl,AC];cases lf with
 |nil=>
  refine aC ?_;refine⟨_,rfl,q Fd gs fs H6 bl (sm.trans s6) (s6 _ _ b5) (bn.same s6) ⟨bw,λx C=>?_,b7⟩ (by simp at hsz;lia)⟩;exact (bx x C).resolve_left (by simp)
 |cons x0 lf=>
  refine aL ?_;have cx:=bt x0 (by simp);refine⟨_,λZ' H' h=>h,?_⟩;refine⟨_,rfl,X,_,0,V.int (x0:Int),rfl,rfl,SqL.of (s6 _ _ bm),tL rfl,lit1,λfa H7 c0 s7 y7=>?_⟩;have nD:∀{b:Addr}{ob:HO},H6 b=some ob->b≠fa:=λe=>ah e c0;have Y:=s6 _ _ cv;have bA:=s6 _ _ bm;refine qm (λZ H'=>∃F,Z=[some (V.ref T),some (.int (v:Int)),some (.ref D),some (.ref X),some (.ref Fd),some (.ref fa)]/\Same H6 H'/\H' fa=some (.lst (nV F))/\Run ts v x0 F/\∀p,F.getLast?=some p->∀q,En ts v p q->q∈x0::lf->q∈F) (λNX z=>?_) ?_
  .refine⟨λm Z H'=>∃F,Z=[some (V.ref T),some (.int (v:Int)),some (.ref D),some (.ref X),some (.ref Fd),some (.ref fa)]/\m=100-F.length/\Same H6 H'/\H' fa=some (.lst (nV F))/\Run ts v x0 F,⟨_,[x0],rfl,rfl,s7,y7,Bj cx⟩,?_⟩;rintro m Z H8 ⟨F,rfl,rfl,ab,d,rn⟩;have b9:=nL rn hl;obtain⟨p,R⟩:=tw (oo rn);have ap:=Ck R;refine⟨_,rfl,D,rfl,.inr ⟨_,.inl (ab _ _ Y)⟩,_,rfl,_,rfl,_,rfl,fa,_,_,_,rfl,rfl,SqL.of d,ap,lit2,λk1 H9 g1 r y9=>?_⟩;have B:=ab.trans r;rcases rV g v p with ⟨c,L,e⟩|⟨L,e⟩
   .refine⟨_,e ▸ DGet.t (k:=ky v p) (B _ _ Y) y9,_,rfl,X,_,rfl,.inl (SqL.of (B _ _ bA)),rfl,gq _,_,rfl,?_⟩;show if (if false=true then _ else inV (V.int (c:Int)) (nV (x0::lf)))=true then _ else _
    rw[Ii a8,fK];by_cases a5:c∈x0::lf
    .rw[Ik a5];refine aL ?_;refine⟨_,rfl,_,rfl,_,rfl,_,rfl,fa,_,_,_,rfl,rfl,SqL.of (r _ _ d),ap,lit2,λk2 ca g2 O aM=>?_⟩;have am:=B.trans O;refine⟨D,V.int (c:Int),rfl,e ▸ DGet.t (k:=ky v p) (am _ _ Y) aM,_,rfl,fa,_,rfl,.inl (SqL.of (O _ _ (r _ _ d))),rfl,gq _,_,rfl,?_⟩;show if (if true=true then !inV (V.int (c:Int)) (nV F) else _)=true then _ else _
     rw[Ij rfl,fK];by_cases ad:c∈F
     .rw[Ik ad];refine aC (z _ _ ⟨F,rfl,am,O _ _ (r _ _ d),rn,λp' I q hq _=>?_⟩);rw[R] at I;cases I;rw[k.one hq L];exact ad
     rw[Il ad];refine aL ⟨_,λZ' H' h=>h,?_⟩;refine⟨_,rfl,.inl ⟨rfl,_,SqL.of (O _ _ (r _ _ d))⟩,_,rfl,_,rfl,_,rfl,_,rfl,fa,_,_,_,rfl,rfl,SqL.of (O _ _ (r _ _ d)),ap,lit2,λk3 c1 g3 a0 bK=>?_⟩;have a1:=am.trans a0;refine⟨D,V.int (c:Int),rfl,e ▸ DGet.t (k:=ky v p) (a1 _ _ Y) bK,fa,_,_,rfl,rfl,a0 _ _ (O _ _ (r _ _ d)),by rw[aK];lia,λc2 b0 b1=>?_⟩;refine⟨_,?_,F++[c],rfl,rfl,λb' o e=>(b0 b' (nD e)).trans (a1 _ _ e),?_,Bl rn R L (bt c a5) ad⟩
     .rw[List.length_append,List.length_singleton];lia
     rw[b1];simp[nV]
    rw[Il a5];refine aC (aC (z _ _ ⟨F,rfl,B,r _ _ d,rn,λp' I q hq cb=>?_⟩));rw[R] at I;cases I;rw[k.one hq L] at cb;exact (a5 cb).elim
   refine⟨_,e ▸ DGet.t (k:=ky v p) (B _ _ Y) y9,_,rfl,X,_,rfl,.inl (SqL.of (B _ _ bA)),rfl,gq _,_,rfl,?_⟩;show if (if false=true then _ else inV V.non (nV (x0::lf)))=true then _ else _
   rw[Ii a8,B0];refine aC (aC (z _ _ ⟨F,rfl,B,r _ _ d,rn,λp' I q hq _=>?_⟩));rw[R] at I;cases I;exact (L q hq).elim
  rintro Z H8 ⟨F,rfl,ab,d,rn,al⟩;clear y7 s7 H7;refine qm (λZ H'=>∃F,Z=[some (V.ref T),some (.int (v:Int)),some (.ref D),some (.ref X),some (.ref Fd),some (.ref fa)]/\Same H6 H'/\H' fa=some (.lst (nV F))/\Run ts v x0 F/\(∀p,F.getLast?=some p->∀q,En ts v p q->q∈x0::lf->q∈F)/\∀p,F.head?=some p->∀o,En ts v o p->o∈F) (λNX z=>?_) ?_
  .refine⟨λm Z H'=>∃F,Z=[some (V.ref T),some (.int (v:Int)),some (.ref D),some (.ref X),some (.ref Fd),some (.ref fa)]/\m=100-F.length/\Same H6 H'/\H' fa=some (.lst (nV F))/\Run ts v x0 F/\∀p,F.getLast?=some p->∀q,En ts v p q->q∈x0::lf->q∈F,⟨_,F,rfl,rfl,ab,d,rn,al⟩,?_⟩;clear al rn d ab;clear F H8;rintro m Z H8 ⟨F,rfl,rfl,ab,d,rn,al⟩;have b9:=nL rn hl;obtain⟨p,R⟩:=B3 (oo rn);have ap:=tL R;refine⟨_,rfl,fa,_,_,_,rfl,rfl,SqL.of d,ap,_,rfl,lit2,λk1 H9 g1 r y9=>?_⟩;have B:=ab.trans r;rcases rV g p v with ⟨c,L,e⟩|⟨L,e⟩
   .refine⟨_,rfl,D,_,rfl,e ▸ DGet.t (k:=ky p v) (B _ _ Y) y9,_,rfl,?_⟩;refine aL ?_;refine⟨_,rfl,_,rfl,fa,_,_,_,rfl,rfl,SqL.of (r _ _ d),ap,_,rfl,lit2,λk2 ca g2 O aM=>?_⟩;have am:=B.trans O;refine⟨D,V.int (c:Int),rfl,e ▸ DGet.t (k:=ky p v) (am _ _ Y) aM,_,rfl,fa,_,rfl,.inl (SqL.of (O _ _ (r _ _ d))),rfl,gq _,_,rfl,?_⟩;show if (if true=true then !inV (V.int (c:Int)) (nV F) else _)=true then _ else _
    rw[Ij rfl,fK];by_cases ad:c∈F
    .rw[Ik ad];refine aC (z _ _ ⟨F,rfl,am,O _ _ (r _ _ d),rn,al,λp' I o ho=>?_⟩);rw[R] at I;cases I;rw[k.one (k.rot (k.rot ho)) L];exact ad
    rw[Il ad];refine aL ⟨_,λZ' H' h=>h,?_⟩;refine⟨_,rfl,.inl ⟨rfl,_,SqL.of (O _ _ (r _ _ d))⟩,_,rfl,_,rfl,fa,_,_,_,rfl,rfl,SqL.of (O _ _ (r _ _ d)),ap,_,rfl,lit2,λk3 c1 g3 a0 bK=>?_⟩;have a1:=am.trans a0;refine⟨D,V.int (c:Int),rfl,e ▸ DGet.t (k:=ky p v) (a1 _ _ Y) bK,fa,_,0,_,rfl,rfl,a0 _ _ (O _ _ (r _ _ d)),aD _,by rw[aK];lia,λc2 b0 b1=>?_⟩;refine⟨_,?_,c::F,rfl,rfl,λb' o e=>(b0 b' (nD e)).trans (a1 _ _ e),?_,Bk rn R (k.rot L) ad,λp' I q hq c3=>?_⟩
    .rw[List.length_cons];lia
    .rw[b1];simp[nV]
    refine List.mem_cons_of_mem _ (al p' ?_ q hq c3);rw[<-I];obtain⟨z,hz⟩:=tw (oo rn);rw[List.getLast?_cons,hz];rfl
   refine⟨_,rfl,D,_,rfl,e ▸ DGet.t (k:=ky p v) (B _ _ Y) y9,_,rfl,?_⟩;refine aC (aC (z _ _ ⟨F,rfl,B,r _ _ d,rn,al,λp' I o ho=>?_⟩));rw[R] at I;cases I;exact (L _ (k.rot (k.rot ho))).elim
  clear al rn d ab;clear F H8;rintro Z H8 ⟨F,rfl,ab,d,rn,al,c4⟩;have b9:=nL rn hl;obtain⟨fF,dF⟩:=Az k bw bx b6 rn.nd rn.key rn.ch rn.x1 (by simp) al c4;have cc:=ab _ _ bA;refine⟨_,rfl,X,rfl,⟨_,SqL.of cc⟩,λZ_ hZ=>de (K:=[]) (a:=X) (xs:=nV (x0::lf)) (λi Z ys H'=>∃o,Z=[o,some (.ref fa)]/\ys=nV (((x0::lf).take i).filter λp=>decide (p∉F))/\Same H8 H'/\H' Z_=some (.lst ys)) ⟨none,rfl,rfl,bf hZ,aG⟩ (by rintro i Z ys H' _ ⟨_,_,_,e,_⟩;exact SqL.of (e _ _ cc)) ?_ ?_⟩
  .rintro i y Z ys H' hi ⟨o,rfl,rfl,M,S⟩;rw[nV,List.getElem?_map] at hi;obtain⟨n,hn,rfl⟩:=aY.mp hi;have et:(x0::lf).take (i+1)=(x0::lf).take i++[n]:=by rw[List.take_add_one,hn];rfl
   refine⟨_,rfl,_,rfl,fa,_,rfl,.inl (SqL.of (M _ _ d)),rfl,gq _,_,rfl,?_⟩;show if (if true=true then !inV (V.int (n:Int)) (nV F) else _)=true then _ else _
   rw[Ij rfl,fK];by_cases bb:n∈F
   .rw[Ik bb];refine aC ⟨_,rfl,?_,M,S⟩;rw[et,List.filter_append,List.filter_cons,Ii (by simp[bb]),List.filter_nil,List.append_nil]
   rw[Il bb];refine aL ⟨_,rfl,S,?_,λH3 k3 y3=>⟨_,rfl,?_,λb o e=>(k3 b (ah e hZ)).trans (M _ _ e),y3⟩⟩
   .rw[aK];have h1:=List.length_filter_le (λp=>decide (p∉F)) ((x0::lf).take i);rw[List.length_take] at h1;rw[List.length_cons] at hsz h1;lia
   rw[et,List.filter_append,List.filter_cons,Ij (by simp[bb]),List.filter_nil,<-cR];rfl
  rintro Z ys H9 ⟨o,rfl,rfl,M,S⟩;rw[aK,List.take_length] at S;have e0:((x0::lf).filter λp=>decide (p∉F))=lf.filter λp=>decide (p∉F):=by rw[List.filter_cons,Ii (by simp[rn.x1])]
  have l0:=List.length_filter_le (λp=>decide (p∉F)) lf;rw[<-e0] at l0;have bd:∀x,x∈((x0::lf).filter λp=>decide (p∉F))↔x∈x0::lf/\x∉F:=λx=>by rw[List.mem_filter,decide_eq_true_eq]
  have c5:((x0::lf).filter λp=>decide (p∉F)).Nodup:=cw.filter _;generalize ((x0::lf).filter λp=>decide (p∉F))=cd at *;have B:=ab.trans M;have be:=s6 _ _ b5;have ce:=B _ _ be;have hg:=az bn;rw[List.length_cons] at hsz;refine⟨_,rfl,.inl ⟨rfl,_,SqL.of ce⟩,_,rfl,Fd,gs,_,rfl,rfl,ce,by rw[hg];lia,λca a2 aM=>?_⟩;have cg:Fd≠fa:=nD be;have c6:D≠Fd:=λz=>by rw[z,be] at Y;cases Y
  have c8:Z_≠Fd:=λz=>by rw[z,ab _ _ be] at hZ;cases hZ
  have sH:Same H H9:=(sm.trans s6).trans B;refine⟨cd.length,by rw[List.length_cons];lia,_,Z_,cd,Fd,gs++[V.ref fa],fs++[F],rfl,rfl,bl,λb' o e=>(a2 b' (ah e bl)).trans (sH _ _ e),(a2 D c6).trans (B _ _ Y),(a2 Z_ c8).trans S,aM,?_,c5,λx C=>bt x ((bd x).mp C).1,?_,?_,?_,?_,?_,?_⟩
  .refine cB ?_ (.cons ⟨fa,rfl,(a2 fa (aF cg)).trans (M _ _ d)⟩ .nil);refine xp (λu l hu ⟨a,e1,e2⟩=>⟨a,e1,(a2 a λz=>b8 (by rw[<-z,<-e1];exact hu)).trans (B _ _ (s6 _ _ e2))⟩) bn
  .intro G hG;rcases List.mem_append.mp hG with h|h
   .exact bw G h
   rw[List.mem_singleton.mp h];exact fF
  .intro x C;rcases bx x C with h|⟨G,hG,h⟩
   .by_cases a3:x∈F
    .exact .inr ⟨F,by simp,a3⟩
    exact .inl ((bd x).mpr ⟨h,a3⟩)
   exact .inr ⟨G,List.mem_append_left _ hG,h⟩
  .intro x C G hG;rcases List.mem_append.mp hG with h|h
   .exact b6 x ((bd x).mp C).1 G h
   rw[List.mem_singleton.mp h];exact ((bd x).mp C).2
  .refine List.pairwise_append.mpr ⟨b7,List.pairwise_singleton _ _,λG hG F' da x C a3=>?_⟩;rw[List.mem_singleton.mp da] at a3;exact dF x a3 G hG C
  .rw[List.length_append,List.length_singleton];lia
  intro z;rcases List.mem_append.mp z with h|h
  .exact b8 h
  have:=List.mem_singleton.mp h;cases this;exact cg rfl
end
end K15
end
section
namespace K15
def reE(v n:Nat)(F:List Nat)(e:Ent):Ent:=((rn v n F e.1.1 e.1.2,rn v n F e.1.2 e.2),rn v n F e.2 e.1.1)
theorem AF{ts:List Tri}{v n:Nat}{F:List Nat}:ents (ts.map (ren v n F))=(ents ts).map (reE v n F):=by
 induction ts with
 |nil=>rfl
 |cons t ts b=>
  have h1:ents ((t::ts).map (ren v n F))=ents [ren v n F t]++ents (ts.map (ren v n F)):=by simp[ents]
  have h2:ents (t::ts)=ents [t]++ents ts:=by simp[ents]
  rw[h1,h2,List.map_append,b];rfl
def Co(ts:List Tri)(u:Nat):Prop:=∃p q,En ts u p q
theorem Au{ts:List Tri}{v n:Nat}{F:List Nat}(g:Good ts)(fr:∀a b c,En ts a b c->a≠n):Good (ts.map (ren v n F)):=by
 have k:=g.sk;have ks:=EF (v:=v) (F:=F) k fr;refine⟨λt A=>?_,?_⟩
 .obtain⟨⟨a,b,c⟩,h,rfl⟩:=List.mem_map.mp A;have o:En ts a b c:=cE.mpr (.inl h);have r:=k.rot o;have B:=k.rot r;exact⟨ks.ne (c:=rn v n F c a) ⟨a,b,c,o,rfl,rfl,rfl⟩,ks.ne (c:=rn v n F a b) ⟨b,c,a,r,rfl,rfl,rfl⟩,ks.ne (c:=rn v n F b c) ⟨c,a,b,B,rfl,rfl,rfl⟩⟩
 rw[AF,List.map_map];have nd:=g.nd;have mem:∀e∈ents ts,En ts e.1.1 e.1.2 e.2:=λe he=>he;rw[List.Nodup,List.pairwise_map] at nd |-;refine nd.imp_of_mem λ{x y} d C h z=>h ?_;have z:=gP z;obtain⟨⟨a,b⟩,c⟩:=x;obtain⟨⟨l,f⟩,s⟩:=y;have e:En ts a b c:=mem _ d;have u:En ts l f s:=mem _ C;have D:rn v n F a b=rn v n F l f:=z.1;have E:rn v n F b c=rn v n F f s:=z.2;have key:∀{p q i w},p≠n->i≠n->rn v n F p q=rn v n F i w->p=i:=by
  intro p q i w h1 h2 m;by_cases d:rn v n F p q=n
  .rw[(eR h1 d).1,(eR h2 (m ▸ d)).1]
  rw[<-dH d,m,dH (m ▸ d)]
 show (a,b)=(l,f);rw[key (fr _ _ _ e) (fr _ _ _ u) D,key (fr _ _ _ (k.rot e)) (fr _ _ _ (k.rot u)) E]
structure Mid(ts:List Tri)(v:Nat)(F0:List Nat)(fs:List (List Nat))(rest:List Nat):Prop where
 good:Good ts
 fans:Fans (En ts) v (F0::fs)
 oth:∀u,Co ts u->u=v\/u∈rest\/One (En ts) u
theorem BD{E d:Nat->Nat->Nat->Prop}(h:∀a b c,E a b c↔d a b c):E=d:=by funext a b c;exact propext (h a b c)
theorem Ah{ts:List Tri}{v n:Nat}{g F:List Nat}{fs:List (List Nat)}{rest:List Nat}(m:Mid ts v g (F::fs) rest)(fr:∀u,Co ts u->u≠n):Mid (ts.map (ren v n F)) v g fs rest:=by
 have f:∀a b c,En ts a b c->a≠n:=λa b c h=>fr a ⟨b,c,h⟩;have k:=m.good.sk;have r:En (ts.map (ren v n F))=Rn (En ts) v n F:=BD λ_ _ _=>DQ;have hF:=m.fans.fan F (by simp);have i:v≠n:=by obtain⟨p,d⟩:=List.exists_mem_of_ne_nil _ hF.ne;obtain⟨q,l⟩:=hF.key p d;exact f _ _ _ l
 have dis:=m.fans.dis;rw[List.pairwise_cons,List.pairwise_cons] at dis;obtain⟨s,d1,d2⟩:=dis;have z:∀G∈g::fs,∀p∈F,p∉G:=by
  intro G e p d w;rcases List.mem_cons.mp e with rfl|h
  .exact s F (by simp) p w d
  exact d1 G h p d w
 refine⟨Au m.good f,?_,?_⟩
 .rw[r];refine⟨λG e=>?_,λp ⟨q,l⟩=>?_,?_⟩
  .refine Ay k f i (m.fans.fan G ?_) (z G e);rcases List.mem_cons.mp e with rfl|h
   .simp
   exact List.mem_cons_of_mem _ (List.mem_cons_of_mem _ h)
  .obtain⟨h1,h2⟩:=(ik k f i).mp l;obtain⟨G,e,d⟩:=m.fans.all p ⟨q,h1⟩;rcases List.mem_cons.mp e with rfl|h
   .exact⟨G,by simp,d⟩
   rcases List.mem_cons.mp h with rfl|h
   .exact (h2 d).elim
   exact⟨G,List.mem_cons_of_mem _ h,d⟩
  rw[List.pairwise_cons];exact⟨λG e=>s G (List.mem_cons_of_mem _ e),d2⟩
 rintro u ⟨p,q,h⟩;rw[r] at h |-;by_cases o:u=n
 .subst o;exact .inr (.inr (zW k f hF))
 obtain⟨a,b,c,h,x,_,_⟩:=h;have A:u=a:=by rw[x];exact dH (by rw[<-x];exact o)
 subst A;rcases m.oth u ⟨b,c,h⟩ with h1|h1|h1
 .exact .inl h1
 .exact .inr (.inl h1)
 by_cases y:u=v
 .exact .inl y
 exact .inr (.inr (x_ k f hF i y o h1))
theorem BP{ts:List Tri}{v:Nat}{b:List Nat}{rest:List Nat}(m:Mid ts v b [] rest)(u:Nat)(c:Co ts u):u∈rest\/One (En ts) u:=by
 rcases m.oth u c with rfl|h
 .refine .inr ⟨b,m.fans.fan b (by simp),λp d=>?_⟩;obtain⟨G,e,h⟩:=m.fans.all p d;rw[List.mem_singleton.mp e] at h;exact h
 exact h
theorem yx{ts:List Tri}{v:Nat}{b:List Nat}{fs:List (List Nat)}{rest:List Nat}(g:Good ts)(h:Fans (En ts) v (b::fs))(o:∀u,Co ts u->u∈v::rest\/One (En ts) u):Mid ts v b fs rest:=
 ⟨g,h,λu c=>(o u c).elim (λz=>(List.mem_cons.mp z).elim .inl λz=>.inr (.inl z)) λz=>.inr (.inr z)⟩
theorem Ai{ts:List Tri}{v:Nat}{rest:List Nat}(h:Fans (En ts) v [])(o:∀u,Co ts u->u∈v::rest\/One (En ts) u)(u:Nat)(b:Co ts u):u∈rest\/One (En ts) u:=by
 rcases o u b with z|z
 .rcases List.mem_cons.mp z with rfl|z
  .obtain⟨p,q,c⟩:=b;obtain⟨G,d,_⟩:=h.all p ⟨q,c⟩;cases d
  exact .inl z
 exact .inr z
theorem bN{ts:List Tri}{u:Nat}:Co ts u↔∃t∈ts,u=t.1\/u=t.2.1\/u=t.2.2:=by
 constructor
 .rintro⟨p,q,h⟩;rcases cE.mp h with h|h|h
  .exact⟨_,h,.inl rfl⟩
  .exact⟨_,h,.inr (.inl rfl)⟩
  exact⟨_,h,.inr (.inr rfl)⟩
 rintro⟨⟨a,b,c⟩,h,rfl|rfl|rfl⟩
 .exact⟨b,c,cE.mpr (.inl h)⟩
 .exact⟨c,a,cE.mpr (.inr (.inl h))⟩
 exact⟨a,b,cE.mpr (.inr (.inr h))⟩
end K15
end
section
namespace L2
open PySem PySem.Spec PyProof.Rows
section
theorem Inv.bareTup{a:Addr}(I:Inv X Io Z H s)(h:Rd H a (.tup xs)) :
  s.TypeIs (.ref a) "tuple"/\∃ob,s.heap.get? a=some ob/\ob.dict=none:=by
 obtain⟨⟨_,b⟩,c,r,p⟩:=h.ok I.hok;exact⟨p.typeIs,b⟩
def tTM2(r:V->List V->Hp->VK->Prop)(x:V)(Q:VK):List V->Hp->Prop:=λvs H2=>r x vs H2 Q
def tTM1(r:V->List V->Hp->VK->Prop)(t:TA)(Z:St)(Q:VK):VK:=λx H1=>(∃a xs,x=.ref a/\Rd H1 a (.tup xs))/\t Z H1 (tTM2 r x Q)
def tTM(r:V->List V->Hp->VK->Prop)(to:TE)(t:TA):TE:=λZ H Q=>to Z H (tTM1 r t Z Q)
theorem EU{o e:Expr}{es:List Expr}{to:TE}{t:TA}{name:Str}{apos cpos:Pos}{id:String}{r:V->List V->Hp->VK->Prop}(f:PlainAttrs "tuple")(slot:Slot "tuple" name id)(g:typeOf (.builtin id)=pure (.type "method_descriptor"))(hm:MtM X id r)(i:PE X o to)(ha:PA X (e::es) t)
  (l:attributeBase o name X.env (eval o X.env)=eval o X.env:=by rfl)
  (m:((backTo cpos (starEach (e::es) X.env)).all (λx=>!x.1)&&(backToKw cpos (keywordEach [] X.env)).all (λx=>x.1.isSome)
   && decide ((e::es).length+([]:List Keyword).length+(if ([]:List Keyword).isEmpty then 0 else 1)<30))=true:=by rfl)
  (n:(apos.endLine==cpos.line)=true:=by rfl) (p:starEach (e::es) X.env=(false,eval e X.env)::starEach es X.env:=by rfl) (q:(backTo cpos (starEach es X.env)).any (·.1)=false:=by rfl) :
  PE X (.Call (.Attribute o name apos) (e::es) [] cpos) (tTM r to t):=by
 intro Io s Z H Q I h;refine Gj l m n rfl (thn (i Io s Z H _ I h) λv s1 ⟨x,H1,c,u,⟨a,xs,ex,w⟩,y⟩=>?_);subst ex;obtain rfl:v=Value.ref a:=u;obtain⟨h1,h2⟩:=c.bareTup w;refine⟨"tuple",id,f,slot,g,h1,λb e=>by cases e;exact h2,?_⟩;have d:=ha cpos Io s1 Z H1 _ c y;rw[p] at d |-;refine iM (by show (false||(backTo cpos (starEach es X.env)).any (·.1))=false;rw[q]<;>rfl) (l_ ?_);exact thn d λus s2 ⟨vs,H2,z,A,B⟩=>hm Io s2 Z H2 (.ref a) vs (.ref a) us Q z rfl A B
end
end L2
end
section
namespace K15
open PySem L2 K51 K31
theorem nI{A B:TS}{D:Ends}(R:St->Hp->Prop)(c:∀b:St->Hp->Prop,(∀Z H,R Z H->b Z H)->A {D with nx:=b} Z H)(d:∀Z H,R Z H->B D Z H):oJ A B D Z H:=c (B D) d
theorem AX{x:V}{i:Nat}{B:TS}{D:Ends}(h:B D (Z.set i (some x)) H):oJ (kh (tC x) (bO i)) B D Z H:=h
theorem Bm{v n a b c:Nat}{F:List Nat}(h1:a=v->b∉F)(h2:b=v->c∉F)(d:c=v->a∉F):rn v n F a b=a/\rn v n F b c=b/\rn v n F c a=c:=by unfold rn;exact⟨Ii λz=>h1 z.1 z.2,Ii λz=>h2 z.1 z.2,Ii λz=>d z.1 z.2⟩
theorem C4{v n a b c:Nat}{F:List Nat}(h:a=v/\b∈F\/b=v/\c∈F\/c=v/\a∈F)(d:a≠b)(e:b≠c)(f:c≠a) :
  rn v n F a b=(if a=v then n else a)/\rn v n F b c=(if b=v then n else b)/\rn v n F c a=if c=v then n else c:=by
 unfold rn;rcases h with ⟨rfl,h⟩|⟨rfl,h⟩|⟨rfl,h⟩
 .exact⟨by rw[Ij ⟨rfl,h⟩,Ij rfl],by rw[Ii λz=>d z.1.symm,Ii λz=>d z.symm],by rw[Ii λz=>f z.1,Ii f]⟩
 .exact⟨by rw[Ii λz=>d z.1,Ii d],by rw[Ij ⟨rfl,h⟩,Ij rfl],by rw[Ii λz=>e z.1.symm,Ii λz=>e z.symm]⟩
 exact⟨by rw[Ii λz=>f z.1.symm,Ii λz=>f z.symm],by rw[Ii λz=>e z.1,Ii e],by rw[Ij ⟨rfl,h⟩,Ij rfl]⟩
def zj(vs:List V)(H:Hp)(Q:VK)(T:Addr)(c:List V)(ts:List Tri):Prop:=vs=[.ref T]/\H T=some (.lst c)/\aw H c ts/\ts.length<=20/\Good ts/\
 ∀r d b H',Same H H'->H' r=some (.lst d)->aw H' d b->b.length=ts.length->Good b->(∀u,Co b u->One (En b) u)->Q (.ref r) H'
def nG:Sp:=λvs H Q _=>Exists (Ex3 (zj vs H Q))
section
theorem dR:aP ["_law_triples","_law_corner","_law_fan","_law_new","_law_made","_law_triple","_law_at_here"] ["_law_triples"] (ax jK):=by walk_at"sc"
theorem zZ{f f1 f2:Addr}{fd d1 d2:FuncData}(U:Fun K "_law_split" "_law_split" jK f fd)(T:bD mg)(mM:mg "max" = none)
  (G1:Use P w K mg base 2 "_law_corners" ["_law_triples"] fh f1 d1)
  (G2:Use P w K mg base 2 "_law_fans" ["_law_triples","_law_corner"] tZ f2 d2) :
  ak P w K mg base CX0 3 f fd ["_law_triples"] nG:=by
 refine U.ok dR (by rintro _ _ _ _ ⟨_,_,_,rfl,_⟩;rfl) λIp A outer s H vs Q E hr h=>?_
 obtain⟨T0,vt,ts,rfl,hT,ht,hl,g,q⟩:=h;have D:=bI hr;refine⟨_,(ae (bh aZ rfl (ba (uc G1 hr (pa1 (pv 0)))) (gx 1 dR.nd) (ao (bh aZ rfl (ba (rh sL (uc G2 hr (af (pv 0) (pa1 (pv 1)))) (sX ag) s_)) (gx 2 dR.nd) (ae (sx 3 dR.nd (au bp (a_ (mJ rfl) (by rfl) mM vg (pa1 (uc G1 hr (pa1 (pv 0))))) ag))
  (ae (sx 4 dR.nd (bj cF))
  (ae (bh aZ rfl (ba (pv 0)) (gx 5 dR.nd) (ae (sx 6 dR.nd ag)
  (ae (bB (a7 mR (pv 1) (pv 5) rfl) (ao (sx 6 dR.nd (EU PySem.F.plainAttrs_tuple FZ PySem.F.type_tuple_index (yw hr.units) (pv 5) (pa1 (pv 1))))) bu)
  (ae (bB (PW.pt (jW (a7 iE (pv 6) ag (nomark _)) (jC (a7 mR (ixx DC (pv 5) (au cX (au bp (pv 6) ag) ag)) (pv 2) rfl)))) (ao (sx 5 dR.nd (cy iZ (by rfl) T.tuple iU (pa1 (bY (N:=["_law_one","_law_new","_law_corner"]) (fr:=[none,some 3,some 1]) (te:=tOp (rIxL []) (tLst (bV (aV 0) (bV (aV 1) c7))) (tCB (λxs H Q=>(∃i,xs=[.int i]/\Q (.int i) H)\/∃k,xs=[.bl k]/\Q (.int (if k then 1 else 0)) H) (bV (tOp rEq (aV 0) (aV 2)) c7))) (bW (by decide +kernel) rfl rfl (by decide +kernel) (by decide +kernel) (by walk_at"cs") (by walk_at"ct")) rfl (gB (pv 5))
    (λC' s' H' fp Io=>⟨gx 0 (by decide:(["_law_one","_law_new","_law_corner"]:List Str).Nodup),cP,uK bG (bj (af (pv 0) (pa1 (pv 1)))) (cy kL (by rfl) T.int mw (pa1 (gk dM (pv 0) (pv 2) (nomark _)))) (λ_ _=>rfl)⟩)))))) bu)
  (ao (bF (bH bR cM cN cz (pv 4) (pa1 (pv 5)))))))))
  (ao (sx 0 dR.nd (pv 4)))))))))
  (ao (aJ (pv 0)))),?_⟩
 have cn:=line5000;refine⟨_,rfl,T0,vt,ts,rfl,hT,ht,by lia,λr0 cs H1 cr s1 y1 b6 cv=>?_⟩;refine⟨r0,rfl,⟨_,SqL.of y1⟩,cA (K:=[]) (a:=r0) (xs:=nV cs) (λi Z H'=>∃v1 M O R B C d l tc,Z=[some (V.ref d),v1,M,O,R,B,C]/\Same H1 H'/\H' d=some (.lst l)/\aw H' l tc/\tc.length=ts.length/\Good tc/\∀u,Co tc u->u∈cs.drop i\/One (En tc) u)
  ⟨none,none,none,none,none,none,T0,vt,ts,rfl,Same.refl _,s1 _ _ hT,ht.same s1,rfl,g,λu D=>.inl ?_⟩ (by rintro i Z H' _ ⟨_,_,_,_,_,_,_,_,_,_,e,_⟩;exact SqL.of (e _ _ y1)) ?_ ?_⟩
 .rw[List.drop_zero,b6.2];obtain⟨t,a2,D⟩:=bN.mp D;exact List.mem_flatMap.mpr ⟨t,a2,by simpa using D⟩
 .rintro i x Z H2 hi ⟨v1,M,O,R,B,C,d,l,tc,rfl,a3,L,I,Y,gc,oc⟩;rw[nV,List.getElem?_map] at hi;obtain⟨v,hv,rfl⟩:=aY.mp hi;have bm:=(List.getElem?_eq_some_iff.mp hv).1;have b7:cs.drop i=v::cs.drop (i+1):=by
   rw[List.drop_eq_getElem_cons bm,(List.getElem?_eq_some_iff.mp hv).2]
  rw[b7] at oc;refine⟨_,rfl,_,rfl,d,l,tc,v,rfl,L,I,by lia,gc,λr gs fs H3 cw s3 y3 bn bt cx=>?_⟩;refine⟨1,rfl,r,gs,rfl,SqL.of y3,λp H4 hp s4 y4=>?_⟩;rw[show gI gs (some 1) none=gs.drop 1 from AK gs 1] at y4;have bw:=(a3.trans s3).trans s4;cases fs with
  |nil=>
   cases bn;refine⟨p,rfl,⟨_,SqL.of y4⟩,cA (K:=[]) (a:=p) (xs:=[]) (λj Z H'=>Z=[some (V.ref d),some (.int (v:Int)),M,O,R,B,C]/\H'=H4) ⟨rfl,rfl⟩ (λj Z H' _ ⟨_,e⟩=>by rw[e];exact SqL.of y4) (λj x Z H' h=>by simp at h) ?_⟩;rintro Z H' ⟨rfl,rfl⟩;exact⟨_,_,_,_,_,_,d,l,tc,rfl,bw,s4 _ _ (s3 _ _ L),(I.same s3).same s4,Y,gc,Ai bt oc⟩
  |cons F0 fs=>
   obtain⟨g0,gs,rfl,c0,bx⟩:∃g0 bA,gs=g0::bA/\km H3 g0 F0/\eP H3 bA fs:=by
    cases bn with
    |cons a b=>exact⟨_,_,rfl,a,b⟩
   refine⟨p,rfl,⟨_,SqL.of y4⟩,cA (K:=[]) (a:=p) (xs:=gs) (λj Z H'=>∃M O R B C d l tc,Z=[some (V.ref d),some (.int (v:Int)),M,O,R,B,C]/\Same H4 H'/\H' d=some (.lst l)/\aw H' l tc/\tc.length=ts.length/\Mid tc v F0 (fs.drop j) (cs.drop (i+1)))
    ⟨M,O,R,B,C,d,l,tc,rfl,Same.refl _,s4 _ _ (s3 _ _ L),(I.same s3).same s4,Y,yx gc bt oc⟩ (by rintro j Z H' _ ⟨_,_,_,_,_,_,_,_,_,e,_⟩;exact SqL.of (e _ _ y4)) ?_ ?_⟩
   .rintro j x Z H5 hj ⟨M,O,R,B,C,d,l,tc,rfl,an,L,I,Y,md⟩;obtain⟨F,hF,fa,rfl,b8⟩:=bM bx hj;have b9:=(List.getElem?_eq_some_iff.mp hF).1;have ca:fs.drop j=F::fs.drop (j+1):=by
     rw[List.drop_eq_getElem_cons b9,(List.getElem?_eq_some_iff.mp hF).2]
    rw[ca] at md;have cb:=an _ _ (s4 _ _ b8);refine⟨_,rfl,d,l,tc,rfl,L,I,by lia,λrc a4 H6 c1 s6 y6 cc c2=>?_⟩;have ev:nV a4=(a4.map (λc:Nat=>(c:Int))).map V.int:=by rw[List.map_map];rfl
    have bK:∀u,Co tc u->u∈a4:=λu D=>by
     rw[cc.2];obtain⟨t,a2,D⟩:=bN.mp D;exact List.mem_flatMap.mpr ⟨t,a2,by simpa using D⟩
    have b0:Co tc v:=by have fF:=md.fans.fan F (by simp);obtain⟨p,hp⟩:=List.exists_mem_of_ne_nil _ fF.ne;obtain⟨q,hq⟩:=fF.key p hp;exact⟨p,q,hq⟩
    refine⟨rc,_,rfl,SqL.of (by rw[y6,ev]),λz=>?_,λm hm cd=>⟨_,_,rfl,rfl,?_⟩⟩
    .have:=bK v b0;rw[List.map_eq_nil_iff.mp z] at this;cases this
    obtain⟨n0,c3,rfl⟩:=List.mem_map.mp hm;have a5:∀u,Co tc u->u≠n0+1:=λu D z=>by
     have:=cd (u:Int) (List.mem_map.mpr ⟨u,bK u D,rfl⟩);lia
    have en:V.int ((n0:Int)+1)=V.int ((n0+1:Nat):Int):=rfl;have b1:=Ah md a5;have ce:=a5 v b0;generalize n0+1=n at a5 en b1 ce;refine⟨aD _,λmo H7 cg s7 y7=>?_⟩;have ch:=s7 _ _ (s6 _ _ L);have c4:=(I.same s6).same s7;refine⟨_,rfl,d,rfl,⟨_,SqL.of ch⟩,cA (K:=[]) (a:=d) (xs:=l) (λk Z H'=>∃B C vm,Z=[some (V.ref d),some (.int (v:Int)),some (.ref fa),some (.int (n:Int)),some (.ref mo),B,C]/\Same H6 H'/\H' mo=some (.lst vm)/\aw H' vm ((tc.take k).map (ren v n F)))
     ⟨B,C,[],by rw[<-en];rfl,s7,y7,.nil⟩ (by rintro k Z H' _ ⟨_,_,_,_,e,_⟩;exact SqL.of (e _ _ (s6 _ _ L))) ?_ ?_⟩
    .rintro k x Z H8 hk ⟨B,C,vm,rfl,ad,bb,al⟩;obtain⟨⟨a,b,c⟩,hs,t,rfl,hb⟩:=bM I hk;have hb:H5 t=some (.tup [.int (a:Int),.int (b:Int),.int (c:Int)]):=hb;have S:=ad _ _ (s6 _ _ hb);have ci:=ad _ _ (s6 _ _ cb);obtain⟨n1,n2,n3⟩:a≠b/\b≠c/\c≠a:=md.good.ne (a,b,c) (List.mem_of_getElem? hs);have et:(tc.take (k+1)).map (ren v n F)=(tc.take k).map (ren v n F)++[(rn v n F a b,rn v n F b c,rn v n F c a)]:=by rw[List.take_add_one,hs,List.map_append];rfl
     have c5:vm.length<=20:=by rw[az al,List.length_map,List.length_take];lia
     refine AX ?_;refine nI (λZ H'=>∃j:Nat,Z=[some (V.ref d),some (.int (v:Int)),some (.ref fa),some (.int (n:Int)),some (.ref mo),some (.ref t),some (.int (j:Int))]/\H'=H8/\(j=3/\a≠v/\b≠v/\c≠v\/j=0/\a=v\/j=1/\b=v\/j=2/\c=v)) (λNX z=>?_) ?_
     .refine⟨_,rfl,_,rfl,t,_,rfl,.inr (SqT.of S),rfl,rfl,_,rfl,?_⟩;show if (if false=true then _ else inV (V.int (v:Int)) (nV [a,b,c]))=true then _ else _
      rw[Ii a8,fK];by_cases ab:v∈[a,b,c]
      .rw[Ik ab];refine aL ⟨_,rfl,⟨t,_,rfl,.inl S⟩,_,rfl,?_⟩;have dts:Dts [] H8 [V.int (a:Int),.int (b:Int),.int (c:Int)] [.int (a:Int),.int (b:Int),.int (c:Int)]:=.cons (.int _) (.cons (.int _) (.cons (.int _) .nil));have am:∀x y:Nat,PyData.eqv (.int (x:Int)) (.int (y:Int))=decide (x=y):=λx y=>by
        rw[gO];simp[PyData.eqv];lia
       have dd:(PyData.int (v:Int)).depth<=60:=by simp[PyData.depth]
       by_cases ha:a=v
       .exact⟨t,_,_,_,_,0,rfl,rfl,SqT.of S,dts,.int _,dd,by simp,by show PyData.eqv (.int (a:Int)) _=true;rw[am];exact Ik ha,λm hm=>by lia,z _ _ ⟨0,rfl,rfl,.inr (.inl ⟨rfl,ha⟩)⟩⟩
       have f0:PyData.eqv (.int (a:Int)) (.int (v:Int))=false:=by rw[am];exact Il ha
       by_cases ap:b=v
       .refine⟨t,_,_,_,_,1,rfl,rfl,SqT.of S,dts,.int _,dd,by simp,by show PyData.eqv (.int (b:Int)) _=true;rw[am];exact Ik ap,λm hm=>?_,z _ _ ⟨1,rfl,rfl,.inr (.inr (.inl ⟨rfl,ap⟩))⟩⟩;obtain rfl:m=0:=by lia
        exact f0
       have f1:PyData.eqv (.int (b:Int)) (.int (v:Int))=false:=by rw[am];exact Il ap
       have b2:c=v:=by
        simp only[List.mem_cons,List.not_mem_nil,or_false] at ab;rcases ab with h|h|h
        .exact (ha h.symm).elim
        .exact (ap h.symm).elim
        exact h.symm
       refine⟨t,_,_,_,_,2,rfl,rfl,SqT.of S,dts,.int _,dd,by simp,by show PyData.eqv (.int (c:Int)) _=true;rw[am];exact Ik b2,λm hm=>?_,z _ _ ⟨2,rfl,rfl,.inr (.inr (.inr ⟨rfl,b2⟩))⟩⟩;obtain rfl|rfl:m=0\/m=1:=by lia
       .exact f0
       exact f1
      rw[Il ab];simp only[List.mem_cons,List.not_mem_nil,or_false,not_or] at ab;exact aC (z _ _ ⟨3,rfl,rfl,.inl ⟨rfl,aF ab.1,aF ab.2.1,aF ab.2.2⟩⟩)
     rintro Z H9 ⟨j,rfl,rfl,b3⟩;refine nI (λZ H'=>∃t' w6,Z=[some (V.ref d),some (.int (v:Int)),some (.ref fa),some (.int (n:Int)),some (.ref mo),some (.ref t'),w6]/\Same H9 H'/\H' t'=some (.tup [.int (rn v n F a b:Int),.int (rn v n F b c:Int),.int (rn v n F c a:Int)])) (λNX z=>?_) ?_
     .obtain⟨y,hy,b4⟩:∃y:Nat,(j<3->atI [V.int (a:Int),.int (b:Int),.int (c:Int)] (((j:Int)+1)%3)=some (V.int (y:Int)))/\(j<3->(y∈F->a=v/\b∈F\/b=v/\c∈F\/c=v/\a∈F)/\(y∉F->(a=v->b∉F)/\(b=v->c∉F)/\(c=v->a∉F))):=by
       rcases b3 with ⟨rfl,_⟩|⟨rfl,h⟩|⟨rfl,h⟩|⟨rfl,h⟩
       .exact⟨0,λz=>by lia,λz=>by lia⟩
       .exact⟨b,λ_=>cQ (j:=1) rfl,λ_=>⟨λz=>.inl ⟨h,z⟩,λz=>⟨λ_=>z,λe=>(n1 (h.trans e.symm)).elim,λe=>(n3 (e.trans h.symm)).elim⟩⟩⟩
       .exact⟨c,λ_=>cQ (j:=2) rfl,λ_=>⟨λz=>.inr (.inl ⟨h,z⟩),λz=>⟨λe=>(n1 (e.trans h.symm)).elim,λ_=>z,λe=>(n2 (h.trans e.symm)).elim⟩⟩⟩
       exact⟨a,λ_=>cQ (j:=0) rfl,λ_=>⟨λz=>.inr (.inr ⟨h,z⟩),λz=>⟨λe=>(n3 (h.trans e.symm)).elim,λe=>(n2 (e.trans h.symm)).elim,λ_=>z⟩⟩⟩
      have same:(a=v->b∉F)/\(b=v->c∉F)/\(c=v->a∉F)->NX [some (V.ref d),some (.int (v:Int)),some (.ref fa),some (.int (n:Int)),some (.ref mo),some (.ref t),some (.int (j:Int))] H9:=λh=>by
       obtain⟨e1,e2,e3⟩:=Bm (n:=n) h.1 h.2.1 h.2.2;exact z _ _ ⟨t,_,rfl,Same.refl _,by rw[e1,e2,e3];exact S⟩
      refine⟨_,rfl,_,_,rfl,rfl,_,rfl,?_⟩;show if decide ((j:Int)<3)=true then _ else _
      by_cases hj:j<3
      .rw[Ik (show (j:Int)<3 by lia)];refine aL ?_;refine⟨_,rfl,_,rfl,_,_,rfl,rfl,_,_,rfl,rfl,by lia,t,_,_,_,rfl,rfl,SqT.of S,hy hj,_,rfl,fa,_,rfl,.inl (SqL.of ci),rfl,gq _,_,rfl,?_⟩;show if (if false=true then _ else inV (V.int (y:Int)) (nV F))=true then _ else _
       rw[Ii a8,fK];by_cases aM:y∈F
       .rw[Ik aM];refine aL ?_;obtain⟨e1,e2,e3⟩:=C4 (n:=n) ((b4 hj).1 aM) n1 n2 n3;have fv:∀z:Nat,atI [V.int (z:Int),V.int (n:Int)] (if decide ((z:Int)=(v:Int))=true then 1 else 0)=some (V.int ((if z=v then n else z:Nat):Int)):=λz=>by
         by_cases h:z=v
         .rw[Ij (Ik (by lia)),Ij h];exact cQ (j:=1) rfl
         rw[Ii (by simp;lia),Ii h];exact cQ (j:=0) rfl
        refine⟨_,rfl,t,rfl,⟨_,SqT.of S⟩,λZ_ hZ=>jm (K:=[]) (a:=t) (xs:=nV [a,b,c]) (λi Z ys H'=>∃o,Z=[o,some (.int (n:Int)),some (.int (v:Int))]/\ys=nV (([a,b,c].take i).map λz=>if z=v then n else z)/\Same H9 H'/\H' Z_=some (.lst ys)) ⟨none,rfl,rfl,bf hZ,aG⟩ (by rintro i Z ys H' _ ⟨_,_,_,e,_⟩;exact SqT.of (e _ _ S)) ?_ ?_⟩
        .rintro i x Z ys H' hi ⟨o,rfl,rfl,bd,be⟩;rw[nV,List.getElem?_map] at hi;obtain⟨z,hz,rfl⟩:=aY.mp hi;have bm:i<3:=(List.getElem?_eq_some_iff.mp hz).1;refine⟨_,rfl,_,rfl,lit2,λl2 c6 c8 b5 cj=>?_⟩;refine⟨_,rfl,_,rfl,rfl,.inr ⟨_,rfl,l2,_,_,V.int ((if z=v then n else z:Nat):Int),rfl,rfl,SqL.of cj,?_,b5 _ _ be,?_,λH3 k3 y3=>⟨_,rfl,?_,λX o e=>(k3 X (λq=>by rw[q] at e;rw[e] at hZ;cases hZ)).trans (b5 _ _ (bd _ _ e)),y3⟩⟩⟩
         .rw[eT];exact fv z
         .rw[aK,List.length_map,List.length_take];simp;lia
         rw[List.take_add_one,hz,List.map_append,<-cR];rfl
        rintro Z ys H' ⟨o,rfl,rfl,bd,be⟩;refine⟨Z_,_,rfl,.inl ⟨SqL.of be,λt' a0=>?_⟩⟩;exact z _ _ ⟨t',_,rfl,bd.trans (bf a0),by rw[aG,e1,e2,e3];rfl⟩
       rw[Il aM];exact aC (same ((b4 hj).2 aM))
      rw[Il (show ¬(j:Int)<3 by lia)];refine aC (aC (same ?_));rcases b3 with ⟨_,h1,h2,h3⟩|⟨h,_⟩|⟨h,_⟩|⟨h,_⟩
      .exact⟨λz=>(h1 z).elim,λz=>(h2 z).elim,λz=>(h3 z).elim⟩
      all_goals lia
     rintro Z cl ⟨t',w6,rfl,a1,a0⟩;have bg:=a1 _ _ bb;refine⟨_,rfl,.inl ⟨rfl,_,SqL.of bg⟩,_,rfl,mo,vm,_,rfl,rfl,bg,by lia,λda bi cm=>?_⟩;refine⟨_,_,_,rfl,λX o e=>(bi X (ah e cg)).trans ((ad.trans a1) _ _ e),cm,?_⟩;rw[et];have tn:∀{X:Addr}{xs:List V},cl X=some (.tup xs)->X≠mo:=λe=>bC e bg (by simp);refine cB (Paired.imp' (λ_ _ ⟨X,e1,e2⟩=>⟨X,e1,(bi X (tn (a1 _ _ e2))).trans (a1 _ _ e2)⟩) al) (.cons ⟨t',rfl,(bi t' (tn a0)).trans a0⟩ .nil)
    rintro Z H8 ⟨B,C,vm,rfl,ad,bb,al⟩;rw[az I,List.take_length] at al;exact⟨_,rfl,_,_,_,_,_,mo,vm,_,rfl,(an.trans s6).trans ad,bb,al,by rw[List.length_map];exact Y,b1⟩
   rintro Z H5 ⟨M,O,R,B,C,d,l,tc,rfl,an,L,I,Y,md⟩;rw[az bx,List.drop_length] at md;exact⟨_,_,_,_,_,_,d,l,tc,rfl,bw.trans an,L,I,Y,md.good,BP md⟩
 rintro Z H2 ⟨v1,M,O,R,B,C,d,l,tc,rfl,a3,L,I,Y,gc,oc⟩;rw[aK,List.drop_length] at oc;exact⟨_,rfl,q d l tc H2 (s1.trans a3) L I Y gc λu D=>(oc u D).resolve_left (by simp)⟩
end
def Rim(ts:List Tri)(s:Nat×Nat):Prop:=s∈(ents ts).map (·.1)/\(s.2,s.1)∉(ents ts).map (·.1)
theorem _root_.K31.SdsAt.same{ls:List (Nat×Nat)}(s:Same H H')(h:SdsAt H vs ls):SdsAt H' vs ls:=Paired.imp' (λ_ _ ⟨a,e,q⟩=>⟨a,e,s _ _ q⟩) h
def CQ(vs:List V)(H:Hp)(Q:VK)(T:Addr)(b:List V)(ts:List Tri):Prop:=vs=[.ref T]/\H T=some (.lst b)/\aw H b ts/\ts.length<=200/\((ents ts).map (·.1)).Nodup/\
 ∀r zs rs H',H r=none->Same H H'->H' r=some (.lst zs)->SdsAt H' zs rs->(∀s∈rs,Rim ts s)->rs.length<=600->rs.Nodup/\(∀s,Rim ts s->s∈rs)->Q (.ref r) H'
def oE:Sp:=λvs H Q _=>Exists (Ex3 (CQ vs H Q))
section
theorem uG:aP ["_law_triples","_law_thirds_here"] ["_law_triples"] (ax i7):=by walk_at"sc"
theorem Dl{f f1:Addr}{fd d1:FuncData}(U:Fun K "_law_rim_sides" "_law_rim_sides" i7 f fd)(mS:mg "sorted" = none)(G:Use P w K mg base 1 "_law_thirds" ["_law_triples"] ft f1 d1) :
  ak P w K mg base CX0 2 f fd ["_law_triples"] oE:=by
 refine U.ok uG (by rintro _ _ _ _ ⟨_,_,_,rfl,_⟩;rfl) λIp A outer s H vs Q E hr h=>?_
 obtain⟨T,vt,ts,rfl,hT,ht,hl,ab,q⟩:=h;have hu:=bI hr;refine⟨_,ae (sx 1 uG.nd (uc G hr (pa1 (pv 0))))
  (ao (aJ (bY (N:=["_law_a","_law_b","_law_thirds_here"]) (fr:=[none,none,some 1]) (g:=iH [] 2 (dO (bO 0) (dO (bO 1) iI))) (bW (by decide +kernel) rfl rfl (by decide +kernel) (by decide +kernel) (by walk_at"cs") (by walk_at"ct")) rfl (ba (a_ (fW rfl) (by rfl) mS dq (pa1 (pv 1))))
    (λC' s' H' fp Io=>⟨b_ rfl (aO (gx 0 (by decide:(["_law_a","_law_b","_law_thirds_here"]:List Str).Nodup)) (aO (gx 1 (by decide:(["_law_a","_law_b","_law_thirds_here"]:List Str).Nodup)) bX)),
     dS (eG (gh hu (aR (af (pv 1) (pa1 (pv 0)))) (pv 2))),aR (af (pv 0) (pa1 (pv 1)))⟩)))),?_⟩
 have aM:=line5000;refine⟨_,rfl,T,vt,ts,rfl,hT,ht,by lia,ab,λD H1 a0 s1 n=>?_⟩;refine⟨_,rfl,D,rfl,.inr ⟨_,n⟩,λks vs Y=>.inr ⟨_,qX (gY (K:=[]) n Y),?_,λp ix hp pm _=>?_⟩⟩
 .rw[az (gY (K:=[]) n Y),List.length_map,df];lia
 have ad:=gY (K:=[]) n Y;have lk:=az ad;walk_at"H1 p hp H2 s2 y2";have am:∀i∈ix,i<ks.length:=λi hi=>List.mem_range.mp (pm.mem_iff.mp hi);have L:=m6 (Paired.imp' (λ_ _ ⟨a,e,h⟩=>⟨a,e,s2 _ _ h⟩) ad:SdsAt H2 ks ((ents ts).map (·.1))) ix am;have r:(ix.map λi=>((ents ts).map (·.1)).getD i (0,0)).Perm ((ents ts).map (·.1)):=qA (by rw[<-lk];exact pm);generalize (ix.map λi=>((ents ts).map (·.1)).getD i (0,0))=ss at L r;generalize (ix.map λi=>ks.getD i .non)=zs at L y2;have lz:=az L;have an:ss.Nodup:=r.nodup_iff.mpr ab;have a1:ss.length<=600:=by rw[r.length_eq,List.length_map,df];lia
 refine⟨p,rfl,⟨_,SqL.of y2⟩,λZ_ hZ=>de (K:=[]) (a:=p) (xs:=zs) (λi Z ys H'=>∃o1 o2 rs,Z=[o1,o2,some (.ref D)]/\Same H2 H'/\H' Z_=some (.lst ys)/\SdsAt H' ys rs/\(∀s∈rs,Rim ts s)/\rs.length<=i/\rs.Nodup/\(∀s∈rs,s∈ss.take i)/\∀s∈ss.take i,Rim ts s->s∈rs) ⟨none,none,[],rfl,bf hZ,aG,.nil,by simp,ai _,.nil,by simp,by simp⟩ (by rintro i Z ys H' _ ⟨_,_,_,_,e,_⟩;exact SqL.of (e _ _ y2)) ?_ ?_⟩
 .rintro i y Z ys H' hi ⟨o1,o2,rs,rfl,sm,M,u,O,ap,R,inr,S⟩;obtain⟨⟨a,b⟩,m,c,rfl,hc⟩:=bM L hi;have a2:i<ss.length:=(List.getElem?_eq_some_iff.mp m).1;have hm:(a,b)∈(ents ts).map (·.1):=r.mem_iff.mp (List.mem_of_getElem? m);have B:ss.take (i+1)=ss.take i++[(a,b)]:=by rw[List.take_add_one,m];rfl
  refine⟨c,_,rfl,SqT.of (sm _ _ hc),rfl,_,_,rfl,_,_,rfl,rfl,?_⟩;refine⟨_,rfl,_,rfl,lit2,λt1 H3 g1 l y3=>?_⟩;have a3:ys.length<=600:=by rw[az u];lia
  refine⟨_,rfl,D,_,rfl,DGet.t (k:=ky b a) (l _ _ (sm _ _ (s2 _ _ n))) y3,?_⟩;by_cases X:(b,a)∈(ents ts).map (·.1)
  .have hv:(aI ((ents ts).map aS) (ky b a)).isSome=true:=by
    cases e:aI ((ents ts).map aS) (ky b a) with
    |none=>exact (dB.mp e X).elim
    |some v=>rfl
   refine⟨false,by rw[hv];rfl,aC ⟨_,_,rs,rfl,sm.trans l,l _ _ M,K31.SdsAt.same l u,O,by lia,R,λs d=>by rw[B];exact List.mem_append_left _ (inr s d),λs d C=>by
    rw[B] at d;rcases List.mem_append.mp d with h|h
    .exact S s h C
    rw[List.mem_singleton.mp h] at C;exact (C.2 X).elim⟩⟩
  refine⟨true,by rw[dB.mpr X];rfl,aL ⟨_,rfl,_,rfl,lit2,λt2 H4 g2 s4 y4=>?_⟩⟩;have al:=s4 _ _ (l _ _ M);have tn:∀{I:Addr}{xs:List V},H4 I=some (.tup xs)->I≠Z_:=λe=>bC e al (by simp);refine⟨al,by lia,λH5 k5 y5=>⟨_,_,rs++[(a,b)],rfl,λI o e=>(k5 _ (ah e hZ)).trans (s4 _ _ (l _ _ (sm _ _ e))),y5,?_,?_,by rw[List.length_append,List.length_singleton];lia,?_,λs d=>?_,λs d C=>?_⟩⟩
  .exact cB (Paired.imp' (λ_ _ ⟨I,e1,e2⟩=>⟨I,e1,by have e3:=s4 _ _ (l _ _ e2);exact (k5 _ (tn e3)).trans e3⟩) u) (.cons ⟨t2,rfl,(k5 _ (tn y4)).trans y4⟩ .nil)
  .intro s d;rcases List.mem_append.mp d with h|h
   .exact O s h
   rw[List.mem_singleton.mp h];exact⟨hm,X⟩
  .rw[List.nodup_append];refine⟨R,by simp,λx hx z hz e=>?_⟩;rw[List.mem_singleton.mp hz] at e;rw[e] at hx;have nd:=an;rw[<-List.take_append_drop (i+1) ss,B,List.nodup_append,List.nodup_append] at nd;exact nd.1.2.2 _ (inr _ hx) _ (by simp) rfl
  .rw[B];rcases List.mem_append.mp d with h|h
   .exact List.mem_append_left _ (inr s h)
   exact List.mem_append_right _ h
  rw[B] at d;rcases List.mem_append.mp d with h|h
  .exact List.mem_append_left _ (S s h C)
  exact List.mem_append_right _ h
 rintro Z ys H' ⟨o1,o2,rs,rfl,sm,M,u,O,ap,R,inr,S⟩;refine q Z_ ys rs H' ?_ ((s1.trans s2).trans sm) M u O (by lia) ⟨R,λs m=>S s (by rw[List.take_of_length_le (by lia)];exact r.mem_iff.mpr m.1) m⟩;exact (s1.trans s2).free hZ
end
def But(p:Addr)(H H':Hp):Prop:=∀b o,b≠p->H b=some o->H' b=some o
theorem But.refl{p:Addr}:But p H H:=λ_ _ _ e=>e
theorem But.same{p:Addr}{H H' c:Hp}(h:But p H H')(s:Same H' c):But p H c:=λb o n e=>s _ _ (h b o n e)
theorem mW{ts d:List Tri}(g:Good ts)(h:(ents d).Perm (ents ts)):Good d:=by refine⟨λt f=>?_,(h.map _).nodup_iff.mpr g.nd⟩;have k:=g.sk;obtain⟨a,b,c⟩:=t;have e:En ts a b c:=h.mem_iff.mp (cE.mpr (.inl f));exact⟨k.ne e,k.ne (k.rot e),k.ne (k.rot (k.rot e))⟩
theorem lg20{n:Nat}(h:n<=1000):((n:Int)+1).natAbs.log2<9000:=by
 have e:((n:Int)+1).natAbs=n+1:=by lia
 rw[e];have:=Fw (n:=n+1) (k:=9000) (by lia);rw[this];exact bL (show n+1<2 ^ 10 by lia) (FF (by decide) (by decide))
theorem kK{ts:List Tri}{x:Tri}(g:Good ts)(e:x.1≠x.2.1/\x.2.1≠x.2.2/\x.2.2≠x.1)(hf:fN ts x=true):Good (ts++[x]):=by
 refine⟨λt m=>?_,?_⟩
 .rcases List.mem_append.mp m with h|h
  .exact g.ne t h
  rw[List.mem_singleton.mp h];exact e
 rw[dQ,List.map_append,List.nodup_append];obtain⟨a,b,c⟩:=x;obtain⟨f,i,l⟩:a≠b/\b≠c/\c≠a:=e;have n:∀s∈dv (a,b,c),s∉(ents ts).map (·.1):=by intro s d;unfold fN at hf;exact Im (List.all_eq_true.mp hf s d)
 have o:(ents [(a,b,c)]).map (·.1)=[(a,b),(b,c),(c,a)]:=rfl;rw[o];refine⟨g.nd,?_,λs d s' p z=>n s' p (z ▸ d)⟩;simp[f,i,l,aF f,aF i,aF l]
theorem E5{g:TG}{x:V}{tb:TS}{rt:VK}{bk P:St->Hp->Prop}(h:∀N:St->Hp->Prop,(∀Z' H',P Z' H'->N Z' H')->g x Z H (tb ⟨N,rt,bk,N⟩)):g x Z H λσ2 H2=>tb ⟨P,rt,bk,P⟩ σ2 H2:=h P λ_ _ z=>z
def zt(vs:List V)(H:Hp)(Q:VK)(p:Addr)(q:Int×Int)(m:Nat):Prop:=vs=[.ref p,.int (m:Int)]/\H p=some (.lst (bc q))/\bq q/\m<=16/\
 ∀r b ts c H',H r=none->But p H H'->H' p=some (.lst (bc c))->bq c->H' r=some (.lst b)->aw H' b ts->ts.length<=m->Good ts->Q (.ref r) H'
def sv:Sp:=λvs H Q _=>Exists (Ex3 (zt vs H Q))
def Cov(ts:List Tri)(n:Nat):Prop:=∀c,Co ts c↔c<n
theorem DZ{ts:List Tri}{cs:List Nat}{n:Nat}(h:Cs ts cs)(b:Cov ts n):cs.length=n:=by
 have nd:cs.Nodup:=h.1.imp λc=>aU c;have:cs.Perm (List.range n):=(List.perm_ext_iff_of_nodup nd List.nodup_range).mpr λa=>by
  rw[List.mem_range,h.2 a];refine Iff.trans ?_ (b a);rw[bN];unfold flat;rw[List.mem_flatMap];constructor
  .rintro⟨t,h1,h2⟩;exact⟨t,h1,by simpa using h2⟩
  rintro⟨t,h1,h2⟩;exact⟨t,h1,by simpa using h2⟩
 rw[this.length_eq,List.length_range]
theorem AN{ts:List Tri}{n a b x:Nat}(d:Cov ts n)(ha:a<n)(e:b<n)(f:x<n\/x=n):Cov (ts++[(b,a,x)]) (if x=n then n+1 else n):=λc=>by
 have:Co (ts++[(b,a,x)]) c↔Co ts c\/c=b\/c=a\/c=x:=by
  rw[bN,bN];constructor
  .rintro⟨t,h1,h2⟩;rcases List.mem_append.mp h1 with h|h
   .exact .inl ⟨t,h,h2⟩
   rw[List.mem_singleton] at h;subst h;exact .inr h2
  rintro (⟨t,h1,h2⟩|h)
  .exact⟨t,List.mem_append_left _ h1,h2⟩
  exact⟨(b,a,x),by simp,h⟩
 rw[this,d c]
 split<;>lia
theorem Cd{ts:List Tri}{n:Nat}(b:Cov ts n):Cov (ts++[(n,n+1,n+2)]) (n+3):=λc=>by
 have:Co (ts++[(n,n+1,n+2)]) c↔Co ts c\/c=n\/c=n+1\/c=n+2:=by
  rw[bN,bN];constructor
  .rintro⟨t,h1,h2⟩;rcases List.mem_append.mp h1 with h|h
   .exact .inl ⟨t,h,h2⟩
   rw[List.mem_singleton] at h;subst h;exact .inr h2
  rintro (⟨t,h1,h2⟩|h)
  .exact⟨t,List.mem_append_left _ h1,h2⟩
  exact⟨(n,n+1,n+2),by simp,h⟩
 rw[this,b c];lia
def sdD(s:Nat×Nat):PyData:=.tuple [.int (s.1:Int),.int (s.2:Int)]
theorem oj{ss:List (Nat×Nat)}(h:SdsAt H vs ss):Dts K H vs (ss.map sdD):=by
 induction h with
 |nil=>exact .nil
 |cons q _ b=>
  obtain⟨a,rfl,ha⟩:=q;exact .cons (.tup (SqT.of ha) (.cons (.int _) (.cons (.int _) .nil))) b
theorem zD(ss:List (Nat×Nat)):(PyData.list (ss.map sdD)).depth<=60:=by
 have:PyData.depthAll (ss.map sdD)<=1:=by
  induction ss with
  |nil=>exact aD _
  |cons u us b=>
   rw[List.map_cons];show max (sdD u).depth _<=1;have:(sdD u).depth=1:=by simp[sdD,PyData.depth,PyData.depthAll]
   lia
 show PyData.depthAll _+1<=60;lia
theorem B9(ds:List PyData):PyData.eqv (.list ds) (.list [])=ds.isEmpty:=by cases ds<;>simp[PyData.eqv,PyData.eqvAll]
theorem free_of{ts:List Tri}(g:Good ts){x:Tri}(h:∀s∈dv x,∀c,¬En ts s.1 s.2 c):fN ts x=true:=by unfold fN;rw[List.all_eq_true];intro s d;refine Ik λz=>?_;obtain⟨⟨⟨a,b⟩,c⟩,h1,rfl⟩:=List.mem_map.mp z;exact h (a,b) d c h1
section
theorem dG:aP ["_law_pot_here","_law_most","_law_triples","_law_k","_law_rim","_law_come","_law_new","_law_a","_law_b","_law_thirds_here","_law_some","_law_near"] ["_law_pot_here","_law_most"] (ax jx):=by walk_at"sc"
theorem Aa{f f1 f2 f3 f4 f5:Addr}{fd d1 d2 d3 d4 d5:FuncData}(U:Fun K "_law_grown" "_law_grown" jx f fd)(T:bD mg)
  (GD:Use P w K mg base 2 "_law_digit" ["_law_pot_here","_law_base"] eF f1 d1)
  (GT:Use P w K mg base 2 "_law_thirds" ["_law_triples"] ft f2 d2)
  (GF:Use P w K mg base 2 "_law_free" ["_law_thirds_here","_law_triple"] oi f3 d3)
  (GR:Use P w K mg base 2 "_law_rim_sides" ["_law_triples"] oE f4 d4)
  (GC:Use P w K mg base 2 "_law_corners" ["_law_triples"] fh f5 d5) :
  ak P w K mg base CX0 3 f fd ["_law_pot_here","_law_most"] sv:=by
 refine U.ok dG (by rintro _ _ _ _ ⟨_,_,_,rfl,_⟩;rfl) λIp A outer s H vs Q E I h=>?_
 obtain⟨p,q,m,rfl,hp,bK,hm,Qq⟩:=h;have hu:=bI I;refine⟨_,(ae (sx 2 dG.nd (bj cF))
  (ae (bh aZ rfl (fm rfl T.range (pa1 (uc GD I (af (pv 0) (pa1 (au bp (pv 1) ag)))))) (gx 3 dG.nd)
   (ae (sx 4 dG.nd (uc GR I (pa1 (pv 2))))
  (ae (sx 5 dG.nd (uc GC I (pa1 (pv 2))))
  (ae (sx 6 dG.nd (pln T.len (pv 5)))
  (ae (bB (a7 (Dk I.units) (pv 4) (bj cF) (nomark _)) (ae (bF (bH bR cM cN cz (pv 2) (pa1 (aR (af (pv 6) (af (au bp (pv 6) ag) (pa1 (au bp (pv 6) ag))))))))
  (ao wM)) bu)
  (ae (fI (ixx bG (pv 4) (uc GD I (af (pv 0) (pa1 (pln T.len (pv 4)))))) (b_ rfl (aO (gx 7 dG.nd) (aO (gx 8 dG.nd) bX))))
  (ae (sx 9 dG.nd (uc GT I (pa1 (pv 2))))
  (ae (lB (i:=10) dG.nd rfl (.inl rfl) (au jY (bY (N:=["_law_x","_law_a","_law_b","_law_thirds_here"]) (fr:=[none,some 7,some 8,some 9])  (bW (by decide +kernel) rfl rfl (by decide +kernel) (by decide +kernel) (by walk_at"cs") (by walk_at"ct")) rfl (ba (pv 5))
    (λC' s' H' fp Io=>⟨(gx 0 (by decide:(["_law_x","_law_a","_law_b","_law_thirds_here"]:List Str).Nodup)),dS (PW.pt (jW (a7 (show OpR _ (compareOp .NotIn) (rIn [] true) from i5) (pv 0) (aR (af (pv 1) (pa1 (pv 2)))) rfl) (jC (dz (uc GF I (af (pv 3) (pa1 (aR (af (pv 2) (af (pv 1) (pa1 (pv 0)))))))))))),(pv 0)⟩)) (bj (pa1 (pv 6)))))
  (ae (lB (i:=11) dG.nd rfl (.inl rfl) (au jY (bY (N:=["_law_x","_law_a","_law_b","_law_rim"]) (fr:=[none,some 7,some 8,some 4])  (bW (by decide +kernel) rfl rfl (by decide +kernel) (by decide +kernel) (by walk_at"cs") (by walk_at"ct")) rfl (ba (pv 10))
    (λC' s' H' fp Io=>⟨(gx 0 (by decide:(["_law_x","_law_a","_law_b","_law_rim"]:List Str).Nodup)),dS (PW.pt (eJ (a7 (show OpR _ (compareOp .In) (oO [] false) from t_ I.units) (aR (af (pv 2) (pa1 (pv 0)))) (pv 3) rfl) (gA (a7 (show OpR _ (compareOp .In) (oO [] false) from t_ I.units) (aR (af (pv 0) (pa1 (pv 1)))) (pv 3) rfl)))),(pv 0)⟩)) (pv 10)))
  (ao (bF (bH bR cM cN cz (pv 2) (pa1 (aR (af (pv 8) (af (pv 7) (pa1 (ixx bG (pv 11) (uc GD I (af (pv 0) (pa1 (pln T.len (pv 11)))))))))))))))))))))))
  (ao (aJ (pv 2))))),?_⟩
 have dT:=line5000;refine⟨aD _,λr H1 a5 s1 y1=>?_⟩;obtain⟨d3,d4⟩:=cJ (q:=q) (b:=(m:Int)+1) (by lia);refine⟨_,rfl,_,rfl,_,_,rfl,rfl,p,q,_,rfl,s1 _ _ hp,bK,by lia,lg20 (by lia),λH2 k2 y2=>⟨_,rfl,by lia,by lia,?_⟩⟩;have bb:r≠p:=λz=>by rw[z,hp] at a5;cases a5
 have hN:(digO q ((m:Int)+1)).toNat<=m:=by lia
 generalize (digO q ((m:Int)+1)).toNat=N at hN;refine hV (lo:=0) (n:=N) (λi Z H'=>∃o3 o4 o5 o6 o7 o8 o9 oa ob B g q' n,Z=[some (V.ref p),some (.int (m:Int)),some (.ref r),o3,o4,o5,o6,o7,o8,o9,oa,ob]/\But p H H'/\H' p=some (.lst (bc q'))/\bq q'/\H' r=some (.lst B)/\aw H' B g/\g.length<=i/\Good g/\Cov g n)
  ⟨none,none,none,none,none,none,none,none,none,[],[],_,0,rfl,λd o nb e=>(k2 d nb).trans (s1 _ _ e),y2,br bK,(k2 r bb).trans y1,.nil,ai _,⟨by simp,by simp[ents]⟩,λc=>by simp[bN]⟩ ?_ ?_
 .rintro i Z H4 hi ⟨o3,o4,o5,o6,o7,o8,o9,oa,ob,B,g,S,n,rfl,sm,ad,aM,ab,al,cw,M,am⟩;refine E5 λNX hN=>?_;have dV:g.length<=16:=by lia
  have d0:=az al;have fin:∀(t:Addr)(u:Tri)(v:Hp)(q8:Int×Int)(n':Nat)(x3 x4 x5 x6 x7 x8 x9 xa xb:Option V),But p H v->v p=some (.lst (bc q8))->bq q8->v r=some (.lst B)->aw v B g->v t=some (.tup [.int (u.1:Int),.int (u.2.1:Int),.int (u.2.2:Int)])->Good (g++[u])->Cov (g++[u]) n'->∀C:Hp,(∀d,d≠r->C d=v d)->C r=some (.lst (B++[V.ref t]))->
    ∃o3 o4 o5 o6 o7 o8 o9 oa ob b0 bd q' n',[some (V.ref p),some (.int (m:Int)),some (.ref r),x3,x4,x5,x6,x7,x8,x9,xa,xb]=[some (V.ref p),some (.int (m:Int)),some (.ref r),o3,o4,o5,o6,o7,o8,o9,oa,ob]/\But p H C/\C p=some (.lst (bc q'))/\bq q'/\C r=some (.lst b0)/\aw C b0 bd/\bd.length<=i+1/\Good bd/\Cov bd n':=by
   intro t u v q8 n' x3 x4 x5 x6 x7 x8 x9 xa xb b8 p8 k8 f8 be ht g8 c8 C k9 y9;have tn:∀{d:Addr}{xs:List V},v d=some (.tup xs)->d≠r:=λe=>bC e f8 (by simp);refine⟨_,_,_,_,_,_,_,_,_,_,g++[u],q8,n',rfl,λd o nb e=>(k9 d (ah e a5)).trans (b8 d o nb e),(k9 p (aF bb)).trans p8,k8,y9,?_,by rw[List.length_append,List.length_singleton];lia,g8,c8⟩;exact cB (Paired.imp' (λ_ _ ⟨d,X,e2⟩=>⟨d,X,(k9 _ (tn e2)).trans e2⟩) be) (.cons ⟨t,rfl,(k9 _ (tn ht)).trans ht⟩ .nil)
  have bm:∀{a b c:Nat},En g a b c->a<n/\b<n:=λ{a b c} e=>⟨(am a).mp ⟨b,c,e⟩,(am b).mp ⟨c,a,M.sk.rot e⟩⟩;refine⟨_,rfl,r,B,g,rfl,ab,al,by lia,M.nd,λRm zs rs H5 cx s5 y5 sd c0 d6 _=>?_⟩;refine⟨_,rfl,r,B,g,rfl,s5 _ _ ab,al.same s5,by lia,λL cs H6 b3 s6 y6 b4 lcs=>?_⟩;have b5:=DZ b4 am;refine⟨_,rfl,L,_,rfl,.inl (SqL.of y6),?_⟩;rw[aK,b5];have c1:=s5.trans s6;refine⟨_,rfl,aD _,λz H7 hz s7 y7=>?_⟩;have an:=c1.trans s7;refine⟨.list (rs.map sdD),.list [],.lst (SqL.of (s7 _ _ (s6 _ _ y5))) (oj (K31.SdsAt.same s7 (K31.SdsAt.same s6 sd))),.lst (SqL.of y7) .nil,zD rs,_,rfl,?_⟩;rw[Ii a8,B9];cases rs with
  |nil=>
   refine aL ⟨_,rfl,.inl ⟨rfl,_,SqL.of (an _ _ ab)⟩,_,rfl,_,rfl,_,_,rfl,rfl,_,rfl,_,_,rfl,rfl,lit3,λt v ht s8 y8=>?_⟩;have a0:=an.trans s8;refine⟨r,B,_,rfl,rfl,a0 _ _ ab,by lia,λC k9 y9=>hN _ _ ?_⟩;refine fin t (n,n+1,n+2) v S (n+3) _ _ _ _ _ _ _ _ _ (sm.same a0) (a0 _ _ ad) aM (a0 _ _ ab) (al.same a0) y8 (kK M ⟨by show n≠n+1;lia,by show n+1≠n+2;lia,by show n+2≠n;lia⟩ (free_of M λs hs c e=>?_)) (Cd am) C k9 y9;have:=bm e;simp only[dv,List.mem_cons,List.not_mem_nil,or_false] at hs;rcases hs with rfl|rfl|rfl<;>simp only at this<;>lia
  |cons r0 rs=>
   refine aC ?_;generalize c2:r0::rs=rl at *;have d7:0<rl.length:=by rw[<-c2];simp
   have d8:=az sd;obtain⟨X,e2⟩:=cJ (q:=S) (b:=(zs.length:Int)) (by lia);obtain⟨k,hk⟩:∃k:Nat,digO S (zs.length:Int)=(k:Int):=⟨_,(e_ X).symm⟩;have c3:k<rl.length:=by lia
   obtain⟨⟨a,b⟩,b6⟩:∃s,rl[k]?=some s:=⟨_,List.getElem?_eq_getElem c3⟩;obtain⟨zv,c4,tt,rfl,c5⟩:=ou sd b6;obtain⟨b7,c6⟩:=c0 (a,b) (List.mem_of_getElem? b6);refine⟨_,rfl,_,rfl,_,rfl,Rm,_,rfl,.inl (SqL.of (s7 _ _ (s6 _ _ y5))),p,S,_,rfl,an _ _ ad,aM,by lia,hJ (by lia) (by lia),λv k8 y8=>?_⟩;rw[hk];have da:∀{d:Addr}{o:HO},H4 d=none->H7 d=some o->d≠p:=λh0 h1 z=>by rw[z,ad] at h0;cases h0
   have ap:∀d o,d≠p->H7 d=some o->v d=some o:=λd o nb e=>(k8 d nb).trans e;have b9:H7 Rm=some (.lst zs):=s7 _ _ (s6 _ _ y5);have ca:=ap _ _ (da cx b9) b9;have cb:H7 tt=some (.tup [.int (a:Int),.int (b:Int)]):=s7 _ _ (s6 _ _ c5);have bn:=an _ _ ad;have db:=ap _ _ (bC cb bn (by simp)) cb;have dc:SdsAt v zs rl:=Paired.imp' (λ_ _ ⟨d,X,e2⟩=>⟨d,X,by have O:=s7 _ _ (s6 _ _ e2);exact ap _ _ (bC O bn (by simp)) O⟩) sd;have bt:=ap _ _ bb (an _ _ ab);have be:aw v B g:=Paired.imp' (λ_ _ ⟨d,X,e2⟩=>⟨d,X,by have O:=an _ _ e2;exact ap _ _ (bC O bn (by simp)) O⟩) al;have dd:H7 L=some (.lst (nV cs)):=s7 _ _ y6;have dj:L≠p:=λzz=>by rw[zz,s5 _ _ ad] at b3;cases b3
   have cc:=ap _ _ dj dd;have dk:But p H v:=λd o nb e=>ap _ _ nb (an _ _ (sm d o nb e));obtain⟨dl,dm⟩:a<n/\b<n:=by obtain⟨⟨⟨x,y⟩,c⟩,h1,h2⟩:=List.mem_map.mp b7;cases h2;exact bm h1
   have cd:a≠b:=by obtain⟨⟨⟨x,y⟩,c⟩,h1,h2⟩:=List.mem_map.mp b7;cases h2;exact M.sk.ne h1
   refine⟨Rm,zs,(k:Int),_,rfl,rfl,SqL.of ca,cQ c4,tt,_,rfl,SqT.of db,rfl,_,_,rfl,_,_,rfl,rfl,?_⟩;refine⟨_,rfl,r,B,g,rfl,bt,be,by lia,M.nd,λD C d9 s9 y9=>?_⟩;refine⟨_,rfl,L,rfl,⟨_,SqL.of (s9 _ _ cc)⟩,λZ_ hZ=>de (K:=[]) (a:=L) (xs:=nV cs) (λi Z ys H'=>∃o l,Z=[o,some (.int (a:Int)),some (.int (b:Int)),some (.ref D)]/\Same C H'/\H' Z_=some (.lst ys)/\ys=nV l/\(∀x∈l,x<n/\x≠a/\x≠b/\fN g (b,a,x)=true)/\l.length<=i)
    ⟨none,[],rfl,bf hZ,aG,rfl,by simp,ai _⟩ (by rintro i Z ys H' _ ⟨_,_,_,e,_⟩;exact SqL.of (e _ _ (s9 _ _ cc))) ?_ ?_⟩
   .rintro j y Z ys H' hj ⟨o,l,rfl,sj,ce,rfl,a1,cg⟩;rw[nV,List.getElem?_map] at hj;obtain⟨x,hx,rfl⟩:=aY.mp hj;have ch:=(List.getElem?_eq_some_iff.mp hx).1;have dp:x<n:=by
     refine (am x).mp ?_;have:=(b4.2 x).mp (List.mem_of_getElem? hx);rw[bN];unfold flat at this;rw[List.mem_flatMap] at this;obtain⟨t,h1,h2⟩:=this;exact⟨t,h1,by simpa using h2⟩
    refine⟨_,rfl,_,rfl,_,rfl,lit2,λt1 Ha g1 sA yA=>?_⟩;refine⟨t1,_,rfl,.inr (SqT.of yA),rfl,rfl,_,rfl,?_⟩;show if (if true=true then !inV (V.int (x:Int)) (nV [a,b]) else _)=true then _ else _
    rw[Ij rfl,fK];by_cases a2:x∈[a,b]
    .rw[Ik a2];exact aC (aC ⟨_,l,rfl,sj.trans sA,sA _ _ ce,rfl,a1,by lia⟩)
    rw[Il a2];refine aL ⟨_,rfl,_,rfl,_,rfl,_,rfl,lit3,λt2 Hb g2 sB yB=>?_⟩;refine⟨D,t2,g,(b,a,x),rfl,sB _ _ (sA _ _ (sj _ _ y9)),yB,λHc sC=>?_⟩;have ci:=((sj.trans sA).trans sB).trans sC;have cj:=sC _ _ (sB _ _ (sA _ _ ce));refine⟨_,rfl,?_⟩;by_cases bw:fN g (b,a,x)=true
    .rw[bw];refine aL ⟨_,rfl,cj,by rw[aK];lia,λH3 k3 y3=>⟨_,l++[x],rfl,λd o e=>(k3 d (ah e hZ)).trans (ci _ _ e),y3,by rw[iA,cR],λy hy=>?_,by rw[List.length_append,List.length_singleton];lia⟩⟩
     .rcases List.mem_append.mp hy with h|h
      .exact a1 y h
      rw[List.mem_singleton.mp h];simp at a2;exact⟨dp,a2.1,a2.2,bw⟩
    rw[Bool.eq_false_iff.mpr bw];exact aC ⟨_,l,rfl,ci,cj,rfl,a1,by lia⟩
   rintro Z ys Ha ⟨o,l,rfl,sA,dr,rfl,a1,cg⟩;rw[aK,b5] at cg;refine⟨_,rfl,lit1,λl1 Hb g1 sB yB=>?_⟩;refine⟨Z_,l1,_,_,rfl,rfl,sB _ _ dr,yB,by rw[aK];simp only[List.length_singleton];lia,λSo Hc g2 sC yC=>?_⟩;rw[iA,cR] at yC;have bg:=(sA.trans sB).trans sC;refine⟨_,rfl,So,rfl,⟨_,SqL.of yC⟩,λY hY=>de (K:=[]) (a:=So) (xs:=nV (l++[n])) (λi Z ys H'=>∃o nl,Z=[o,some (.int (a:Int)),some (.int (b:Int)),some (.ref Rm)]/\Same Hc H'/\H' Y=some (.lst ys)/\ys=nV nl/\(∀x∈nl,x∈l++[n])/\nl.length<=i)
    ⟨none,[],rfl,bf hY,aG,rfl,by simp,ai _⟩ (by rintro i Z ys H' _ ⟨_,_,_,e,_⟩;exact SqL.of (e _ _ yC)) ?_ ?_⟩
   .rintro j y Z ys H' hj ⟨o,nl,rfl,sj,cl,rfl,bi,cm⟩;rw[nV,List.getElem?_map] at hj;obtain⟨x,hx,rfl⟩:=aY.mp hj;have ch:=(List.getElem?_eq_some_iff.mp hx).1;rw[List.length_append,List.length_singleton] at ch;have ds:=List.mem_of_getElem? hx;have cn:∀{Hx:Hp},Same H' Hx->Hx Rm=some (.lst zs)/\SdsAt Hx zs rl:=λsx=>⟨sx _ _ (sj _ _ (bg _ _ (s9 _ _ ca))),K31.SdsAt.same (((s9.trans bg).trans sj).trans sx) dc⟩;have take:∀Hx:Hp,Same H' Hx->Hx Y=some (.lst (nV nl))/\(nV nl).length<sizeLine/\∀H3:Hp,(∀d,d≠Y->H3 d=Hx d)->H3 Y=some (.lst (nV nl++[V.int (x:Int)]))->∃o bx,[some (V.int (x:Int)),some (.int (a:Int)),some (.int (b:Int)),some (.ref Rm)]=[o,some (.int (a:Int)),some (.int (b:Int)),some (.ref Rm)]/\Same Hc H3/\H3 Y=some (.lst (nV nl++[V.int (x:Int)]))/\nV nl++[V.int (x:Int)]=nV bx/\(∀y∈bx,y∈l++[n])/\bx.length<=j+1:=λHx sx=>by
     refine⟨sx _ _ cl,by rw[aK];lia,λH3 k3 y3=>⟨_,nl++[x],rfl,λd o e=>(k3 d (ah e hY)).trans (sx _ _ (sj _ _ e)),y3,by rw[iA,cR],λy hy=>?_,by rw[List.length_append,List.length_singleton];lia⟩⟩
     rcases List.mem_append.mp hy with h|h
     .exact bi y h
     rw[List.mem_singleton.mp h];exact ds
    refine⟨_,rfl,_,rfl,lit2,λt1 Hd g1 R yD=>?_⟩;obtain⟨r1,r2⟩:=cn R;refine⟨_,rfl,sdD (b,x),Rm,zs,_,.tup (SqT.of yD) (.cons (.int _) (.cons (.int _) .nil)),rfl,.inl (SqL.of r1),oj r2,by show max 0 (max 0 0)+1<=60;decide,_,rfl,?_⟩;rw[Ii a8];generalize (rl.map sdD).any _=b1;cases b1 with
    |true=>exact aL (aL ⟨_,rfl,take Hd R⟩)
    |false=>
     refine aC ⟨_,rfl,_,rfl,lit2,λt2 He g2 sE yE=>?_⟩;obtain⟨r1,r2⟩:=cn (R.trans sE);refine⟨_,rfl,sdD (x,a),Rm,zs,_,.tup (SqT.of yE) (.cons (.int _) (.cons (.int _) .nil)),rfl,.inl (SqL.of r1),oj r2,by show max 0 (max 0 0)+1<=60;decide,_,rfl,?_⟩;rw[Ii a8];generalize (rl.map sdD).any _=b2;cases b2 with
     |true=>exact aL ⟨_,rfl,take He (R.trans sE)⟩
     |false=>exact aC ⟨_,nl,rfl,sj.trans (R.trans sE),sE _ _ (R _ _ cl),rfl,bi,by lia⟩
   rintro Z ys Hd ⟨o,nl,rfl,R,dx,rfl,bi,cm⟩;rw[aK,List.length_append,List.length_singleton] at cm;refine⟨_,rfl,Y,So,_,_,rfl,rfl,dx,R _ _ yC,by rw[aK,aK,List.length_append,List.length_singleton];lia,λNr He g3 sE yE=>?_⟩;rw[cR] at yE;have a3:Same v He:=((s9.trans bg).trans R).trans sE;have cr:He p=some (.lst (bc (nxt S (zs.length:Int)))):=a3 _ _ y8;obtain⟨O,e4⟩:=cJ (q:=nxt S (zs.length:Int)) (b:=((nV (nl++(l++[n]))).length:Int)) (by rw[aK];simp only[List.length_append,List.length_singleton];lia);obtain⟨a4,dy⟩:∃k:Nat,digO (nxt S (zs.length:Int)) ((nV (nl++(l++[n]))).length:Int)=(k:Int):=⟨_,(e_ O).symm⟩;have ea:(nV (nl++(l++[n]))).length=nl.length+(l.length+1):=by rw[aK];simp
   have dF:a4<(nl++(l++[n])).length:=by have l2:=aK (nl++(l++[n]));lia
   have bA:(nl++(l++[n]))[a4]?=some (nl++(l++[n]))[a4]:=List.getElem?_eq_getElem dF;generalize (nl++(l++[n]))[a4]=x at bA;have dK:x∈l++[n]:=by
    rcases List.mem_append.mp (List.mem_of_getElem? bA) with h|h
    .exact bi x h
    exact h
   refine⟨_,rfl,.inl ⟨rfl,_,SqL.of (a3 _ _ bt)⟩,_,rfl,_,rfl,_,rfl,_,rfl,_,rfl,Nr,_,rfl,.inl (SqL.of yE),p,_,_,rfl,cr,br aM,by lia,hJ (by lia) (by lia),λHf kf yf=>?_⟩;rw[dy];have bl:∀d o,d≠p->He d=some o->Hf d=some o:=λd o nb e=>(kf d nb).trans e;have dL:Nr≠p:=λzz=>by rw[zz,R _ _ (bg _ _ (s9 _ _ y8))] at g3;cases g3
   refine⟨Nr,_,(a4:Int),_,rfl,rfl,SqL.of (bl _ _ dL yE),cQ (lG bA),lit3,λt Hg ht sG yG=>?_⟩;have cv:=sG _ _ (bl _ _ bb (a3 _ _ bt));refine⟨r,B,_,rfl,rfl,cv,by lia,λC k9 y9=>hN _ _ ?_⟩;have good:Good (g++[(b,a,x)])/\(x<n\/x=n):=by
    rcases List.mem_append.mp dK with h|h
    .obtain⟨h1,h2,h3,h4⟩:=a1 x h;exact⟨kK M ⟨aF cd,aF h2,h3⟩ h4,.inl h1⟩
    rw[List.mem_singleton.mp h];refine⟨kK M ⟨aF cd,by show a≠n;lia,by show n≠b;lia⟩ (free_of M λs hs c e=>?_),.inr rfl⟩;have hn:=bm e;simp only[dv,List.mem_cons,List.not_mem_nil,or_false] at hs;rcases hs with rfl|rfl|rfl
    .exact c6 (List.mem_map.mpr ⟨_,e,rfl⟩)
    .simp only at hn;lia
    simp only at hn;lia
   exact fin t (b,a,x) Hg _ _ _ _ _ _ _ _ _ _ _ (λd o nb e=>sG _ _ (bl _ _ nb (a3 _ _ (dk d o nb e)))) (sG _ _ yf) (br (br aM)) cv (Paired.imp' (λ_ _ ⟨d,X,e2⟩=>⟨d,X,by have O:=a3 _ _ e2;exact sG _ _ (bl _ _ (bC O cr (by simp)) O)⟩) be) yG good.1 (AN am dl dm good.2) C k9 y9
 rintro Z H4 ⟨o3,o4,o5,o6,o7,o8,o9,oa,ob,B,g,S,n,rfl,sm,ad,aM,ab,al,cw,M,am⟩;exact⟨_,rfl,Qq r B g S H4 a5 sm ad aM ab al (by lia) M⟩
end
end K15
end
section
namespace K15
def nam(f:Nat->Nat)(t:Tri):Tri:=(f t.1,f t.2.1,f t.2.2)
def naE(f:Nat->Nat)(e:Ent):Ent:=((f e.1.1,f e.1.2),f e.2)
theorem ny{f:Nat->Nat}{ts:List Tri}:ents (ts.map (nam f))=(ents ts).map (naE f):=by
 induction ts with
 |nil=>rfl
 |cons t ts b=>
  have h1:ents ((t::ts).map (nam f))=ents [nam f t]++ents (ts.map (nam f)):=by simp[ents]
  have h2:ents (t::ts)=ents [t]++ents ts:=by simp[ents]
  rw[h1,h2,List.map_append,b];rfl
theorem rJ{f:Nat->Nat}{ts:List Tri}(g:Good ts)(inj:∀a b,Co ts a->Co ts b->f a=f b->a=b):Good (ts.map (nam f)):=by
 have k:=g.sk;refine⟨λt p=>?_,?_⟩
 .obtain⟨⟨a,b,c⟩,h,rfl⟩:=List.mem_map.mp p;have ca:Co ts a:=bN.mpr ⟨_,h,.inl rfl⟩;have m:Co ts b:=bN.mpr ⟨_,h,.inr (.inl rfl)⟩;have n:Co ts c:=bN.mpr ⟨_,h,.inr (.inr rfl)⟩;obtain⟨q,r,s⟩:a≠b/\b≠c/\c≠a:=g.ne _ h;exact⟨λz=>q (inj _ _ ca m z),λz=>r (inj _ _ m n z),λz=>s (inj _ _ n ca z)⟩
 rw[ny,List.map_map];have nd:=g.nd;rw[List.Nodup,List.pairwise_map] at nd |-;refine nd.imp_of_mem λ{x y} u v h z=>h ?_;obtain⟨⟨a,b⟩,c⟩:=x;obtain⟨⟨d,i⟩,l⟩:=y;have z:=gP z;have e:En ts a b c:=u;have o:En ts d i l:=v;have w:f a=f d:=z.1;have A:f b=f i:=z.2;show (a,b)=(d,i);rw[inj a d ⟨b,c,e⟩ ⟨i,l,o⟩ w,inj b i ⟨c,a,k.rot e⟩ ⟨l,d,k.rot o⟩ A]
theorem uy{f:Nat->Nat}{ts:List Tri}{u:Nat}(h:Co (ts.map (nam f)) u):∃a,Co ts a/\u=f a:=by
 obtain⟨t,d,e⟩:=bN.mp h;obtain⟨⟨a,b,c⟩,hm,rfl⟩:=List.mem_map.mp d;rcases e with rfl|rfl|rfl
 .exact⟨a,bN.mpr ⟨_,hm,.inl rfl⟩,rfl⟩
 .exact⟨b,bN.mpr ⟨_,hm,.inr (.inl rfl)⟩,rfl⟩
 exact⟨c,bN.mpr ⟨_,hm,.inr (.inr rfl)⟩,rfl⟩
def Win(w j x:Nat):Prop:=w=0/\x=j\/w=1/\7*j<=x/\x<7*j+7\/w=2/\x+(j+1)*10 ^ 9+1<=10 ^ 60/\10 ^ 60<x+(j+2)*10 ^ 9+1
theorem AY{w i j x:Nat}(h:Win w i x)(h':Win w j x):i=j:=by
 rcases h with ⟨rfl,h⟩|⟨rfl,h1,h2⟩|⟨rfl,h1,h2⟩
 .rcases h' with ⟨_,h'⟩|⟨z,_⟩|⟨z,_⟩
  .lia
  .cases z
  cases z
 .rcases h' with ⟨z,_⟩|⟨_,b,c⟩|⟨z,_⟩
  .cases z
  .lia
  cases z
 rcases h' with ⟨z,_⟩|⟨z,_⟩|⟨_,b,c⟩
 .cases z
 .cases z
 lia
theorem Cv{w j x:Nat}(b:j<=1000)(h:Win w j x):x<10 ^ 60:=by
 rcases h with ⟨_,h⟩|⟨_,_,h⟩|⟨_,h,_⟩
 .lia
 .lia
 lia
end K15
end
section
namespace K15
open PySem L2 K51 K31
theorem pW{l:List Nat}(nd:l.Nodup){i a:Nat}(h:l[i]?=some a):a∉l.eraseIdx i/\(l.eraseIdx i).Nodup/\(∀x∈l.eraseIdx i,x∈l)/\(l.eraseIdx i).length=l.length-1:=by
 have hi:=(List.getElem?_eq_some_iff.mp h).1;refine⟨λz=>?_,nd.sublist (List.eraseIdx_sublist l i),λx c=>(List.eraseIdx_sublist l i).subset c,List.length_eraseIdx_of_lt hi⟩;obtain⟨j,b⟩:=List.getElem?_of_mem z;rw[List.getElem?_eraseIdx] at b
 split at b
 .have:=fq nd h b;lia
 have:=fq nd h b;lia
theorem pops3{n s0 s1 s2:Nat}(h:s0<n)(h1:s1<n-1)(h2:s2<n-2):∃a b c,(List.range n)[s0]?=some a/\((List.range n).eraseIdx s0)[s1]?=some b/\(((List.range n).eraseIdx s0).eraseIdx s1)[s2]?=some c/\a≠b/\b≠c/\c≠a:=by
 have f:s0<(List.range n).length:=by rw[List.length_range];exact h
 obtain⟨g,i,p,l⟩:=pW (List.nodup_range (n:=n)) (List.getElem?_eq_getElem f);rw[List.length_range] at l;have d:s1<((List.range n).eraseIdx s0).length:=by lia
 obtain⟨m,q,o,r⟩:=pW i (List.getElem?_eq_getElem d);have e:s2<(((List.range n).eraseIdx s0).eraseIdx s1).length:=by lia
 refine⟨_,_,_,List.getElem?_eq_getElem f,List.getElem?_eq_getElem d,List.getElem?_eq_getElem e,λz=>g ?_,λz=>m ?_,λz=>g ?_⟩
 .rw[z];exact List.getElem_mem d
 .rw[z];exact List.getElem_mem e
 rw[<-z];exact o _ (List.getElem_mem e)
theorem AB(l:List Nat)(k:Nat):(nV l).eraseIdx k=nV (l.eraseIdx k):=by
 induction l generalizing k with
 |nil=>rfl
 |cons a l b=>
  cases k with
  |zero=>rfl
  |succ k=>
   show _::(nV l).eraseIdx k=_;rw[b];rfl
theorem sM{n k:Nat}(h:k<n):seqIndex? (k:Int) n=some k:=by refine (nZ ?_).1;unfold ixN;rw[Ij (by lia),Ij (by lia)];simp
theorem Ci{n:Nat}(h:3<=n):(n:Int)*((n:Int)-1)*((n:Int)-2)=((n*(n-1)*(n-2):Nat):Int):=by
 have b:(n:Int)-1=((n-1:Nat):Int):=by lia
 have c:(n:Int)-2=((n-2:Nat):Int):=by lia
 rw[b,c,Fq,Fq]
theorem AW{n:Nat}(h:3<=n):0<n*(n-1)*(n-2):=FD (FD (by lia) (by lia)) (by lia)
theorem Cf{n:Nat}(h:n<=9):n*(n-1)*(n-2)<=504:=FC (FC h (show n-1<=8 by lia)) (show n-2<=7 by lia)
theorem qS{n m:Nat}(h:3<=n)(hm:m<n*(n-1)*(n-2)):m/n/(n-1)<n-2:=by rw[Nat.div_div_eq_div_mul];exact Nat.div_lt_of_lt_mul hm
def zw(vs:List V)(H:Hp)(Q:VK)(p:Addr)(q:Int×Int)(m:Nat):Prop:=vs=[.ref p,.int (m:Int)]/\H p=some (.lst (bc q))/\bq q/\m<=16/\
 ∀r b ts c H',H r=none->But p H H'->H' p=some (.lst (bc c))->bq c->H' r=some (.lst b)->aw H' b ts->ts.length<=m->Good ts->Q (.ref r) H'
def sF:Sp:=λvs H Q _=>Exists (Ex3 (zw vs H Q))
section
theorem gj:aP ["_law_pot_here","_law_most","_law_n","_law_triples","_law_k","_law_number","_law_left","_law_triple"] ["_law_pot_here","_law_most"] (ax jT):=by walk_at"sc"
theorem Ac{f f1 f2 f3:Addr}{fd d1 d2 d3:FuncData}(U:Fun K "_law_drawn" "_law_drawn" jT f fd)(T:bD mg)
  (GD:Use P w K mg base 2 "_law_digit" ["_law_pot_here","_law_base"] eF f1 d1)
  (GT:Use P w K mg base 2 "_law_thirds" ["_law_triples"] ft f2 d2)
  (GF:Use P w K mg base 2 "_law_free" ["_law_thirds_here","_law_triple"] oi f3 d3) :
  ak P w K mg base CX0 3 f fd ["_law_pot_here","_law_most"] sF:=by
 refine U.ok gj (by rintro _ _ _ _ ⟨_,_,_,rfl,_⟩;rfl) λIp A outer s H vs Q E z h=>?_
 obtain⟨p,q,m,rfl,hp,an,hm,Qq⟩:=h;have hu:=bI z;refine⟨_,(ae (sx 2 gj.nd (au bp ag (uc GD z (af (pv 0) (pa1 ag)))))
  (ae (sx 3 gj.nd (bj cF))
  (ae (bh aZ rfl (fm rfl T.range (pa1 (uc GD z (af (pv 0) (pa1 (au bp (pv 1) ag)))))) (gx 4 gj.nd) (ae (sx 5 gj.nd (uc GD z (af (pv 0) (pa1 (au dW (au dW (pv 2) (au di (pv 2) ag)) (au di (pv 2) ag))))))
  (ae (sx 6 gj.nd (cy (wx rfl) (by rfl) T.list gR (pa1 (cy wd (by rfl) T.range GU (pa1 (pv 2))))))
  (ae (sx 7 gj.nd (cy iZ (by rfl) T.tuple iU (pa1 (bY (N:=["_law_spot","_law_left"]) (fr:=[none,some 6]) (te:=tBM [] "list" t7 (aV 1) (bV (aV 0) c7)) (bW (by decide +kernel) rfl rfl (by decide +kernel) (by decide +kernel) (by walk_at"cs") (by walk_at"ct")) rfl (ba (bj (af (au cX (pv 5) (pv 2)) (af (au cX (au ia (pv 5) (pv 2)) (au di (pv 2) ag)) (pa1 (au ia (au ia (pv 5) (pv 2)) (au di (pv 2) ag)))))))
    (λC' s' H' fp Io=>⟨gx 0 (by decide:(["_law_spot","_law_left"]:List Str).Nodup),cP,bH bR vv vy rB (pv 1) (pa1 (pv 0))⟩)))))
  (ao (bB (dz (uc GF z (af (uc GT z (pa1 (pv 3))) (pa1 (pv 7))))) (ao (bF (bH bR cM cN cz (pv 3) (pa1 (pv 7))))) bu))))))
  (ao (aJ (pv 3)))))),?_⟩
 have cg:=line5000;obtain⟨d1,d2⟩:=cJ (q:=q) (b:=7) (by decide);refine⟨_,rfl,p,q,7,rfl,hp,an,by decide,by decide +kernel,λH1 k1 y1=>⟨_,_,rfl,rfl,?_⟩⟩;obtain⟨n,en,X,b0⟩:∃n:Nat,3+digO q 7=(n:Int)/\3<=n/\n<=9:=⟨(3+digO q 7).toNat,by lia,by lia,by lia⟩;show bO 2 (V.int (3+digO q 7)) _ _ _;rw[en];refine⟨aD _,λg H2 bb s2 y2=>?_⟩;have Y:p≠g:=ah y1 bb;have bd:H g=none:=(k1 g (aF Y)).symm.trans bb;obtain⟨d3,d4⟩:=cJ (q:=nxt q 7) (b:=(m:Int)+1) (by lia);refine⟨_,rfl,_,rfl,_,_,rfl,rfl,p,nxt q 7,_,rfl,s2 _ _ y1,br an,by lia,lg20 (by lia),λH3 B y3=>⟨_,rfl,by lia,by lia,?_⟩⟩;have hN:(digO (nxt q 7) ((m:Int)+1)).toNat<=m:=by lia
 generalize (digO (nxt q 7) ((m:Int)+1)).toNat=N at hN;refine hV (lo:=0) (n:=N) (λi Z H'=>∃o4 o5 o6 o7 u r q',Z=[some (V.ref p),some (.int (m:Int)),some (.int (n:Int)),some (.ref g),o4,o5,o6,o7]/\But p H H'/\H' p=some (.lst (bc q'))/\bq q'/\H' g=some (.lst u)/\aw H' u r/\r.length<=i/\Good r)
  ⟨none,none,none,none,[],[],_,rfl,λd o nb e=>(B d nb).trans (s2 _ _ ((k1 d nb).trans e)),y3,br (br an),(B g (aF Y)).trans y2,.nil,ai _,⟨by simp,by simp[ents]⟩⟩ ?_ ?_
 .rintro i Z H4 hi ⟨o4,o5,o6,o7,u,r,C,rfl,sm,ab,I,ap,ad,b1,L⟩;have M:=Ci X;have ch:=AW X;have ci:=Cf b0;refine⟨_,rfl,_,rfl,_,rfl,_,_,rfl,rfl,_,_,rfl,rfl,.inl ⟨by lia,by lia⟩,_,rfl,_,_,rfl,rfl,_,_,rfl,rfl,.inr ⟨by lia,by lia⟩,p,C,_,rfl,ab,I,by rw[M];lia,hJ (by rw[M];lia) (by rw[M];exact uZ (show ((n*(n-1)*(n-2):Nat):Int)<=504 by lia) (by decide)),λH5 k5 y5=>?_⟩;obtain⟨d5,d6⟩:=cJ (q:=C) (b:=(n:Int)*((n:Int)-1)*((n:Int)-2)) (by rw[M];lia);obtain⟨num,enum⟩:∃num:Nat,digO C ((n:Int)*((n:Int)-1)*((n:Int)-2))=(num:Int):=⟨_,(e_ d5).symm⟩;rw[enum] at d6 |-;rw[M] at d6;have be:num<n*(n-1)*(n-2):=by lia
  clear d6 d5;refine⟨_,rfl,_,rfl,λra b2=>?_⟩;walk_at"H5 ra b2 O s6 y6";refine⟨ra,n,rfl,y6,by lia,λv bg=>?_⟩;walk_at"O v bg H7 s7 y7";have y7:H7 v=some (.lst (nV (List.range n))):=y7;have bi:(n:Int).natAbs.log2<9000:=hJ (by lia) (uZ (show (n:Int)<=9 by lia) (by decide));have b3:((n:Int)-1).natAbs.log2<9000:=hJ (by lia) (uZ (show (n:Int)-1<=9 by lia) (by decide));refine⟨_,rfl,_,rfl,_,_,rfl,rfl,by lia,_,rfl,_,rfl,_,_,rfl,rfl,⟨by lia,bi⟩,_,rfl,_,_,rfl,rfl,_,_,rfl,rfl,by lia,_,rfl,_,rfl,_,_,rfl,rfl,⟨by lia,bi⟩,_,rfl,_,_,rfl,rfl,_,_,rfl,rfl,⟨by lia,b3⟩,lit3,λdl H8 b4 s8 y8=>?_⟩;have ed:([V.int ((num:Int)%(n:Int)),V.int ((num:Int)/(n:Int)%((n:Int)-1)),V.int ((num:Int)/(n:Int)/((n:Int)-1))]:List V)=nV [num%n,num/n%(n-1),num/n/(n-1)]:=by
   have R:(n:Int)-1=((n-1:Nat):Int):=by lia
   rw[R];rfl
  rw[ed] at y8;obtain⟨a,b,c,ha,hb,hc,n1,n2,n3⟩:=pops3 (n:=n) (s0:=num%n) (s1:=num/n%(n-1)) (s2:=num/n/(n-1)) (pk _ (by lia)) (pk _ (by lia)) (qS X be);have yL:=s8 _ _ y7;have b5:dl≠v:=aF (ah y7 b4);refine⟨dl,rfl,⟨_,SqL.of y8⟩,λZ_ hZ=>?_⟩;have bl:v≠Z_:=ah yL hZ;have b6:num%n<100:=bL (pk _ (by lia)) (by lia);have b7:num/n%(n-1)<100:=bL (pk _ (by lia)) (by lia);have b8:num/n/(n-1)<100:=bL (qS X be) (by lia);have bm:But p H O:=λd o nb e=>s6 _ _ ((k5 d nb).trans (sm _ _ nb e));have aM:O g=some (.lst u):=s6 _ _ ((k5 g (aF Y)).trans ap);have bn:=s6 _ _ y5;have a0:aw O u r:=Paired.imp' (λ_ _ ⟨d,R,S⟩=>⟨d,R,s6 _ _ ((k5 d (bC S ab (by simp))).trans S)⟩) ad;generalize num%n=s0 at *;generalize num/n%(n-1)=s1 at *;generalize num/n/(n-1)=bw at *;refine de (K:=[]) (a:=dl) (xs:=nV [s0,s1,bw]) (λi Z ys H'=>∃o l,Z=[o,some (V.ref v)]/\(i=0/\l=List.range n/\ys=[]\/i=1/\l=(List.range n).eraseIdx s0/\ys=nV [a]\/i=2/\l=((List.range n).eraseIdx s0).eraseIdx s1/\ys=nV [a,b]\/i=3/\ys=nV [a,b,c])/\But v H8 H'/\H' v=some (.lst (nV l))/\H' Z_=some (.lst ys))
   ⟨none,_,rfl,.inl ⟨rfl,rfl,rfl⟩,But.refl.same (bf hZ),bf hZ _ _ yL,aG⟩ (by rintro i Z ys H' _ ⟨_,_,_,_,e,_⟩;exact SqL.of (e _ _ b5 y8)) ?_ ?_
  .rintro i x Z ys H' hi ⟨o,l,rfl,al,bt,a1,a2⟩;rw[nV,List.getElem?_map] at hi;obtain⟨s,hs,rfl⟩:=aY.mp hi;obtain⟨y,hy,cj,cl,b9⟩:∃y:Nat,l[s]?=some y/\s<100/\ys.length<=3/\(i+1=0/\l.eraseIdx s=List.range n/\ys++[V.int (y:Int)]=[]\/i+1=1/\l.eraseIdx s=(List.range n).eraseIdx s0/\ys++[V.int (y:Int)]=nV [a]\/i+1=2/\l.eraseIdx s=((List.range n).eraseIdx s0).eraseIdx s1/\ys++[V.int (y:Int)]=nV [a,b]\/i+1=3/\ys++[V.int (y:Int)]=nV [a,b,c]):=by
    rcases al with ⟨rfl,rfl,rfl⟩|⟨rfl,rfl,rfl⟩|⟨rfl,rfl,rfl⟩|⟨rfl,rfl⟩
    .cases hs;exact⟨a,ha,b6,by simp,.inr (.inl ⟨rfl,rfl,rfl⟩)⟩
    .cases hs;exact⟨b,hb,b7,by simp[nV],.inr (.inr (.inl ⟨rfl,rfl,rfl⟩))⟩
    .cases hs;exact⟨c,hc,b8,by simp[nV],.inr (.inr (.inr ⟨rfl,rfl⟩))⟩
    cases hs
   have ca:=(List.getElem?_eq_some_iff.mp hy).1;refine⟨_,rfl,.inl ⟨rfl,_,SqL.of a1⟩,_,rfl,v,nV l,(s:Int),s,V.int (y:Int),rfl,rfl,a1,by lia,by lia,sM (by rw[aK];exact ca),by rw[nV,List.getElem?_map,hy];rfl,λcm bx cb=>?_⟩;exact⟨(bx Z_ (aF bl)).trans a2,by lia,λH3 B y3=>⟨_,_,rfl,b9,λd o nb e=>(B d (ah e hZ)).trans ((bx d nb).trans (bt _ _ nb e)),(B v bl).trans (by rw[cb,AB]),y3⟩⟩
  rintro Z ys H' ⟨o,l,rfl,al,bt,a1,a2⟩;obtain rfl:ys=nV [a,b,c]:=by
   have e3:(nV [s0,s1,bw]).length=3:=rfl;rw[e3] at al;rcases al with ⟨h,_⟩|⟨h,_⟩|⟨h,_⟩|⟨_,h⟩
   .cases h
   .cases h
   .cases h
   exact h
  refine⟨Z_,_,rfl,.inl ⟨SqL.of a2,λt ht=>?_⟩⟩;walk_at"H' t ht H9 s9 y9";have a3:Same O H9:=λd o e=>s9 _ _ (bt _ _ (ah e bg) (s8 _ _ (s7 _ _ e)));refine⟨_,rfl,g,u,r,rfl,a3 _ _ aM,a0.same a3,by lia,L.nd,λD cn cr a4 hD=>?_⟩;refine⟨_,rfl,D,t,r,(a,b,c),rfl,hD,a4 _ _ y9,λcc bA=>?_⟩;have st:=(a3.trans a4).trans bA;have bK:=bA _ _ (a4 _ _ y9);refine⟨_,rfl,?_⟩;cases cd:fN r (a,b,c) with
  |false=>
   exact aC ⟨_,_,_,_,u,r,_,rfl,λd o nb e=>st _ _ (bm _ _ nb e),st _ _ bn,br I,st _ _ aM,a0.same st,by lia,L⟩
  |true=>
   have a5:=st _ _ aM;refine aL ⟨_,rfl,.inl ⟨rfl,_,SqL.of a5⟩,_,rfl,g,u,_,rfl,rfl,a5,by rw[az ad];lia,λcv am ce=>?_⟩;have tn:∀{d:Addr}{xs:List V},cc d=some (.tup xs)->d≠g:=λe=>bC e a5 (by simp);refine⟨_,_,_,_,_,r++[(a,b,c)],_,rfl,λd o nb e=>(am d (ah e bd)).trans (st _ _ (bm _ _ nb e)),(am p Y).trans (st _ _ bn),br I,ce,?_,by rw[List.length_append,List.length_singleton];lia,kK L ⟨n1,n2,n3⟩ cd⟩;exact cB (Paired.imp' (λ_ _ ⟨d,R,S⟩=>⟨d,R,(am d (tn (st _ _ S))).trans (st _ _ S)⟩) a0) (.cons ⟨t,rfl,(am t (tn bK)).trans bK⟩ .nil)
 rintro Z H4 ⟨o4,o5,o6,o7,u,r,C,rfl,sm,ab,I,ap,ad,b1,L⟩;exact⟨_,rfl,Qq g u r C H4 bd sm ab I ap ad (by lia) L⟩
end
end K15
end
section
namespace K15
theorem uq{f:Nat->Nat}{ts:List Tri}(g:Good ts)(inj:∀a b,Co ts a->Co ts b->f a=f b->a=b){a b c:Nat}(h:En (ts.map (nam f)) a b c):∃d e i,En ts d e i/\a=f d/\b=f e/\c=f i:=by unfold En at h;rw[ny] at h;obtain⟨⟨⟨d,e⟩,i⟩,h1,h2⟩:=List.mem_map.mp h;have h2:=gP h2;have l:=gP h2.1;exact⟨d,e,i,h1,l.1.symm,l.2.symm,h2.2.symm⟩
theorem ud{f:Nat->Nat}{ts:List Tri}{a b c:Nat}(h:En ts a b c):En (ts.map (nam f)) (f a) (f b) (f c):=by unfold En;rw[ny];exact List.mem_map.mpr ⟨_,h,rfl⟩
theorem BC{f:Nat->Nat}{ts:List Tri}(g:Good ts)(inj:∀a b,Co ts a->Co ts b->f a=f b->a=b){v:Nat}(I:Co ts v)(h:One (En ts) v):One (En (ts.map (nam f))) (f v):=by
 obtain⟨F,hF,K⟩:=h;have k:=g.sk;have key:∀p∈F,Co ts p:=λp d=>by
  obtain⟨q,l⟩:=hF.key p d;exact⟨q,v,k.rot l⟩
 have nx:∀{x y z:Nat},En ts x y z->Co ts y:=λ{x y z} e=>⟨z,x,k.rot e⟩;have w:∀{x y z:Nat},En ts x y z->Co ts z:=λ{x y z} e=>⟨x,y,k.rot (k.rot e)⟩;have back:∀{p q:Nat},En (ts.map (nam f)) (f v) p q->∃c n,En ts v c n/\p=f c/\q=f n:=λ{p q} e=>by
  obtain⟨A,B,C,h1,h2,s,L⟩:=uq g inj e;have:v=A:=inj v A I ⟨B,C,h1⟩ h2;subst this;exact⟨B,C,h1,s,L⟩
 refine⟨F.map f,⟨λz=>hF.ne (List.map_eq_nil_iff.mp z),?_,λi p q d l=>?_,λp d=>?_,λp d q l u=>?_,λp d o M=>?_⟩,λp ⟨q,l⟩=>?_⟩
 .have:=hF.nd;rw[List.Nodup] at this |-;rw[List.pairwise_map];exact this.imp_of_mem λ{x y} N O P z=>P (inj x y (key x N) (key y O) z)
 .rw[List.getElem?_map] at d l;obtain⟨c,h1,rfl⟩:=aY.mp d;obtain⟨n,h2,rfl⟩:=aY.mp l;exact ud (hF.ch i c n h1 h2)
 .obtain⟨c,h1,rfl⟩:=List.mem_map.mp d;obtain⟨q,l⟩:=hF.key c h1;exact⟨f q,ud l⟩
 .obtain⟨c,h1,rfl⟩:=List.mem_map.mp d;obtain⟨p2,m,e,h2,rfl⟩:=back l;have:c=p2:=inj c p2 (key c h1) (nx e) h2;subst this;obtain⟨r,u⟩:=u;obtain⟨D,Q,E,s,_⟩:=back u;have:m=D:=inj m D (w e) (nx E) s;subst this;exact List.mem_map.mpr ⟨m,hF.clF c h1 m e ⟨Q,E⟩,rfl⟩
 .obtain⟨c,h1,rfl⟩:=List.mem_map.mp d;obtain⟨H,p2,e,rfl,h2⟩:=back M;have:c=p2:=inj c p2 (key c h1) (w e) h2;subst this;exact List.mem_map.mpr ⟨H,hF.clB c h1 H e,rfl⟩
 obtain⟨p2,m,e,rfl,rfl⟩:=back l;exact List.mem_map.mpr ⟨p2,K p2 ⟨m,e⟩,rfl⟩
theorem qC{E d:Nat->Nat->Nat->Prop}(h:∀a b c,E a b c↔d a b c)(v:Nat):One E v↔One d v:=by
 have:E=d:=by funext a b c;exact propext (h a b c)
 rw[this]
theorem mX(a:Tri)(l:List Tri):ents (a::l)=ents [a]++ents l:=by simp[ents]
theorem AE{ts c:List Tri}(h:c.Sublist ts):(ents c).Sublist (ents ts):=by
 induction h with
 |slnil=>exact List.Sublist.refl _
 |cons a _ b=>rw[mX a];exact b.trans (List.sublist_append_right _ _)
 |cons_cons a _ b=>rw[mX a,mX a];exact List.Sublist.append (List.Sublist.refl _) b
theorem kQ{ts b:List Tri}(g:Good ts)(h:b.Sublist ts):Good b:=by refine⟨λt c=>g.ne t (h.subset c),g.nd.sublist (List.Sublist.map _ ?_)⟩;exact AE h
theorem Av{as bs:List Tri}(g:Good as)(g':Good bs)(h:∀a,Co as a->¬Co bs a):Good (as++bs):=by
 have e:ents (as++bs)=ents as++ents bs:=by simp[ents]
 refine⟨λt l=>(List.mem_append.mp l).elim (g.ne t) (g'.ne t),?_⟩;rw[e,List.map_append,List.nodup_append];refine⟨g.nd,g'.nd,λs m s' n z=>?_⟩;obtain⟨⟨⟨a,b⟩,c⟩,h1,h2⟩:=List.mem_map.mp m;obtain⟨⟨⟨f,i⟩,o⟩,p,d⟩:=List.mem_map.mp n;have h2:(a,b)=s:=h2;have d:(f,i)=s':=d;have:(a,b)=(f,i):=by rw[h2,d,z]
 cases this;exact h a ⟨b,c,h1⟩ ⟨b,o,p⟩
theorem yO{l:List Tri}{a b c n:Nat}(g:Good (l++[(a,b,c)]))(f:¬Co (l++[(a,b,c)]) n):Good (l++[(a,b,n),(b,c,n),(c,a,n)]):=by
 have e:∀m,ents (l++m)=ents l++ents m:=λm=>by simp[ents]
 have gl:Good l:=kQ g (by simp);have nd:=g.nd;rw[e,List.map_append,List.nodup_append] at nd;obtain⟨o,r,v⟩:a≠b/\b≠c/\c≠a:=g.ne (a,b,c) (by simp);have co:∀x,x=a\/x=b\/x=c->Co (l++[(a,b,c)]) x:=λx C=>bN.mpr ⟨(a,b,c),by simp,C⟩;have na:n≠a:=λz=>f (co n (.inl z));have nb:n≠b:=λz=>f (co n (.inr (.inl z)));have i:n≠c:=λz=>f (co n (.inr (.inr z)));have nl:∀s∈(ents l).map (·.1),s.1≠n/\s.2≠n:=λs d=>by
  obtain⟨⟨⟨x,y⟩,z⟩,h1,rfl⟩:=List.mem_map.mp d;have h1:En l x y z:=h1;have A:∀u,Co l u->Co (l++[(a,b,c)]) u:=λu ⟨p,q,D⟩=>⟨p,q,by unfold En at *;rw[e];exact List.mem_append_left _ D⟩;exact⟨λw=>f (w ▸ A x ⟨y,z,h1⟩),λw=>f (w ▸ A y ⟨z,x,gl.sk.rot h1⟩)⟩
 have E:∀s∈(ents l).map (·.1),s≠(a,b)/\s≠(b,c)/\s≠(c,a):=λs d=>by
  have h:=nd.2.2 s d;exact⟨h (a,b) (by simp[ents]),h (b,c) (by simp[ents]),h (c,a) (by simp[ents])⟩
 refine⟨λt H=>?_,?_⟩
 .rcases List.mem_append.mp H with h|h
  .exact gl.ne t h
  simp only[List.mem_cons,List.not_mem_nil,or_false] at h;rcases h with rfl|rfl|rfl
  .exact⟨o,aF nb,na⟩
  .exact⟨r,aF i,nb⟩
  exact⟨v,aF na,i⟩
 rw[e,List.map_append,List.nodup_append];refine⟨gl.nd,?_,λs d s' B z=>?_⟩
 .simp[ents,o,r,v,na,nb,i,aF o,aF r,aF v,aF na,aF nb,aF i]
 subst z;obtain⟨I,K⟩:=nl s d;obtain⟨d1,d2,L⟩:=E s d;simp[ents] at B;rcases B with rfl|rfl|rfl|rfl|rfl|rfl|rfl|rfl|rfl
 all_goals first|exact d1 rfl|exact d2 rfl|exact L rfl|exact I rfl|exact K rfl
end K15
end
section
namespace K15
open PySem L2 K51 K31
def rtF(i:Nat):List Tri:=[(i,(i+1)%7,(i+3)%7),(i,(i+3)%7,(i+2)%7)]
def rt:List Tri:=(List.range 7).flatMap rtF
theorem nM:Good rt:=⟨by decide +kernel,by decide +kernel⟩
theorem C3:∀i:Fin 14,∀j:Fin 13,∃t∈(rt.eraseIdx i).eraseIdx j,6=t.1\/6=t.2.1\/6=t.2.2:=by decide +kernel
theorem uH:∀t∈rt,t.1<7/\t.2.1<7/\t.2.2<7:=by decide +kernel
theorem mO{α:Type}:∀{l:List α}{i:Nat}{x:α},l[i]?=some x->(l.eraseIdx i++[x]).Perm l
 | [],i,x,h=>by simp at h
 |a::l,0,x,h=>by
  simp at h;subst h;exact (List.perm_append_comm (l₁:=l) (l₂:=[a]))
 |a::l,i+1,x,h=>(mO (l:=l) (i:=i) (by simpa using h)).cons a
theorem yS{as bs:List Tri}(h:as.Perm bs):(ents as).Perm (ents bs):=h.flatMap_right _
theorem kM{H H1:Hp}{d t:Addr}{f:List V}{g:List Tri}{u:Tri}(hf:H d=some (.lst f))(k:∀b,b≠d->H1 b=H b)(tr:aw H f g)(h:H t=some (.tup [.int (u.1:Int),.int (u.2.1:Int),.int (u.2.2:Int)])) :
  aw H1 (f++[V.ref t]) (g++[u]):=by
 have i:∀{c:Addr}{xs:List V},H c=some (.tup xs)->c≠d:=λe=>bC e hf (by simp);exact cB (Paired.imp' (λ_ _ ⟨c,m,l⟩=>⟨c,m,(k _ (i l)).trans l⟩) tr) (.cons ⟨t,rfl,(k _ (i h)).trans h⟩ .nil)
theorem A3{p:Addr}{c pv:List V}{d:List Tri}(b:But p H H')(f:H p=some (.lst pv))(h:aw H c d):aw H' c d:=
 Paired.imp' (λ_ _ ⟨g,i,e⟩=>⟨g,i,b _ _ (bC e f (by simp)) e⟩) h
theorem rg{α β:Type}{F:α->β->Prop}:∀{xs:List α}{ys:List β}(k:Nat),Paired F xs ys->Paired F (xs.eraseIdx k) (ys.eraseIdx k)
 |_,_,_,.nil=>.nil
 |_,_,0,.cons _ t=>t
 |_,_,k+1,.cons h t=>.cons h (rg k t)
def A9(vs:List V)(H:Hp)(Q:VK)(p:Addr)(q:Int×Int):Prop:=vs=[.ref p]/\H p=some (.lst (bc q))/\bq q/\
 ∀r b ts c H',H r=none->But p H H'->H' p=some (.lst (bc c))->bq c->H' r=some (.lst b)->aw H' b ts->ts.length<=16->Good ts->Q (.ref r) H'
def tV:Sp:=λvs H Q _=>Exists (Ex2 (A9 vs H Q))
section
theorem fG:aP ["_law_pot_here","_law_triples","_law_i","_law_way","_law_k","_law_gone","_law_new"] ["_law_pot_here"] (ax jQ):=by walk_at"sc"
theorem BF{f f1 f2 f3:Addr}{fd d1 d2 d3:FuncData}(U:Fun K "_law_ring" "_law_ring" jQ f fd)(T:bD mg)(mM:mg "max" = none)
  (GD:Use P w K mg base 2 "_law_digit" ["_law_pot_here","_law_base"] eF f1 d1)
  (GC:Use P w K mg base 2 "_law_corners" ["_law_triples"] fh f2 d2)
  (GS:Use P w K mg base 2 "_law_sides" ["_law_triple"] nH f3 d3) :
  ak P w K mg base CX0 3 f fd ["_law_pot_here"] tV:=by
 refine U.ok fG (by rintro _ _ _ _ ⟨_,_,rfl,_⟩;rfl) λIp A outer s H vs Q E hr h=>?_
 obtain⟨p,q,rfl,hp,bd,Qq⟩:=h;have hu:=bI hr;refine⟨_,(ae (sx 1 fG.nd (bj cF))
  (ae (bh aZ rfl (fm rfl T.range (pa1 ag)) (gx 2 fG.nd)
   (ae (bF (bH bR cM cN cz (pv 1) (pa1 (aR (af (pv 2) (af (au cX (au bp (pv 2) ag) ag) (pa1 (au cX (au bp (pv 2) ag) ag))))))))
  (ao (bF (bH bR cM cN cz (pv 1) (pa1 (aR (af (pv 2) (af (au cX (au bp (pv 2) ag) ag) (pa1 (au cX (au bp (pv 2) ag) ag)))))))))))
  (ae (sx 3 fG.nd (uc GD hr (af (pv 0) (pa1 ag))))
  (ae (bh aZ rfl (fm rfl T.range (pa1 (au cX (pv 3) ag))) (gx 4 fG.nd)
   (ae (sx 5 fG.nd (bH bR vv vy rB (pv 1) (pa1 (uc GD hr (af (pv 0) (pa1 (pln T.len (pv 1))))))))
  (ao (bB (a7 dM (pv 4) ag (nomark _)) (ae (sx 6 fG.nd (au bp (a_ (mJ rfl) (by rfl) mM vg (pa1 (uc GC hr (pa1 (pv 1))))) ag))
  (ao (sx 1 fG.nd (au jY (pv 1) (bY (N:=["_law_p","_law_q","_law_new"]) (fr:=[none,none,some 6]) (g:=iH [] 2 (dO (bO 0) (dO (bO 1) iI))) (te:=lZ (bV (aV 0) (bV (aV 1) (bV (aV 2) c7)))) (bW (by decide +kernel) rfl rfl (by decide +kernel) (by decide +kernel) (by walk_at"cs") (by walk_at"ct")) rfl (ba (uc GS hr (pa1 (pv 5))))
    (λC' s' H' fp Io=>⟨(b_ rfl (aO (gx 0 (by decide:(["_law_p","_law_q","_law_new"]:List Str).Nodup)) (aO (gx 1 (by decide:(["_law_p","_law_q","_law_new"]:List Str).Nodup)) bX))),cP,(aR (af (pv 0) (af (pv 1) (pa1 (pv 2)))))⟩)))))) bu))))
  (ao (aJ (pv 1))))))),?_⟩
 have ch:=line5000;refine⟨aD _,λD H1 al s1 y1=>?_⟩;have bx:D≠p:=λz=>by rw[z,hp] at al;cases al
 refine⟨_,rfl,by decide,by decide,?_⟩;refine hV (lo:=0) (n:=7) (λi Z H'=>∃v B,Z=[some (V.ref p),some (.ref D),v,none,none,none,none]/\Same H H'/\H' D=some (.lst B)/\aw H' B ((List.range i).flatMap rtF))
  ⟨none,[],rfl,s1,y1,.nil⟩ ?_ ?_
 .rintro i Z H2 hi ⟨v,B,rfl,sm,aM,O⟩;have ci:B.length<=100:=by
   rw[az O,List.length_flatMap];have:((List.range i).map λa=>(rtF a).length).sum=2*i:=by
    have e:(List.range i).map (λa=>(rtF a).length)=List.replicate i 2:=by rw[List.eq_replicate_iff];exact⟨by simp,λb hb=>by obtain⟨x,_,rfl⟩:=List.mem_map.mp hb;rfl⟩
    rw[e];clear e;have:∀n:Nat,(List.replicate n 2).sum=2*n:=λn=>by
     induction n with
     |zero=>rfl
     |succ n ih=>rw[List.replicate_succ,List.sum_cons,ih];lia
    exact this i
   lia
  refine⟨_,rfl,.inl ⟨rfl,_,SqL.of aM⟩,_,rfl,_,rfl,_,_,rfl,rfl,_,_,rfl,rfl,(show (0:Int)<7 by decide),_,rfl,_,_,rfl,rfl,_,_,rfl,rfl,(show (0:Int)<7 by decide),lit3,λt H3 ht s3 y3=>?_⟩;have bA:H3 t=some (.tup [.int (i:Int),.int (((i+1)%7:Nat):Int),.int (((i+3)%7:Nat):Int)]):=by rw[show (0+(i:Int))=(i:Int) by lia] at y3;exact y3
  have be:=s3 _ _ aM;refine⟨D,B,_,rfl,rfl,be,by lia,λH4 k4 y4=>?_⟩;have I:=kM (u:=(i,(i+1)%7,(i+3)%7)) be k4 (O.same s3) bA;have bK:Same H H4:=λd o e=>(k4 d (ah e al)).trans (s3 _ _ (sm _ _ e));refine⟨_,rfl,.inl ⟨rfl,_,SqL.of y4⟩,_,rfl,_,rfl,_,_,rfl,rfl,_,_,rfl,rfl,(show (0:Int)<7 by decide),_,rfl,_,_,rfl,rfl,_,_,rfl,rfl,(show (0:Int)<7 by decide),lit3,λt2 H5 cj s5 y5=>?_⟩;have b0:H5 t2=some (.tup [.int (i:Int),.int (((i+3)%7:Nat):Int),.int (((i+2)%7:Nat):Int)]):=by rw[show (0+(i:Int))=(i:Int) by lia] at y5;exact y5
  have bg:=s5 _ _ y4;refine⟨D,_,_,rfl,rfl,bg,by rw[List.length_append,List.length_singleton];lia,λH6 L y6=>?_⟩;have S:=kM (u:=(i,(i+3)%7,(i+2)%7)) bg L (I.same s5) b0;refine⟨_,_,rfl,λd o e=>(L d (ah e al)).trans (s5 _ _ (bK _ _ e)),y6,?_⟩;rw[List.range_succ,List.flatMap_append];simpa [rtF] using S
 rintro Z H2 ⟨v,B,rfl,sm,aM,O⟩;have O:aw H2 B rt:=O;obtain⟨d1,d2⟩:=cJ (q:=q) (b:=4) (by decide);obtain⟨wy,ew⟩:∃wy:Nat,digO q 4=(wy:Int):=⟨_,(e_ d1).symm⟩;refine⟨_,rfl,p,q,4,rfl,sm _ _ hp,bd,by decide,by decide +kernel,λH3 k3 y3=>?_⟩;rw[ew] at d2 |-;refine⟨_,rfl,_,_,rfl,rfl,(show (0:Int)<3 by decide),_,rfl,by lia,by lia,?_⟩;have hw:((wy:Int)%3).toNat<=2:=by lia
 generalize ((wy:Int)%3).toNat=W at hw;have b3:But p H H3:=λd o n e=>(k3 d n).trans (sm _ _ e);refine hV (lo:=0) (n:=W) (λi Z H'=>∃v o4 o5 o6 l r tc q',Z=[some (V.ref p),some (.ref l),v,some (.int (wy:Int)),o4,o5,o6]/\But p H H'/\H' p=some (.lst (bc q'))/\bq q'/\H l=none/\H' l=some (.lst r)/\aw H' r tc/\(i=0/\tc=rt\/(i=1/\∃j:Fin 14,tc=rt.eraseIdx j)\/i=2/\tc.length<=16/\Good tc))
  ⟨_,none,none,none,D,B,rt,_,rfl,b3,y3,br bd,al,(k3 D bx).trans aM,Paired.imp' (λ_ _ ⟨d,M,y⟩=>⟨d,M,(k3 d (bC y (sm _ _ hp) (by simp))).trans y⟩) O,.inl ⟨rfl,rfl⟩⟩ ?_ ?_
 .rintro i Z H4 hi ⟨v,o4,o5,o6,l,r,tc,X,rfl,b4,am,an,ab,ap,I,ad⟩;have ad:i=0/\tc=rt\/(i=1/\∃j:Fin 14,tc=rt.eraseIdx j):=ad.imp_right λh=>h.resolve_right λ⟨z,_⟩=>by lia
  have cl:13<=tc.length/\tc.length<=14:=by
   rcases ad with ⟨_,rfl⟩|⟨_,j,rfl⟩
   .decide
   rw[List.length_eraseIdx_of_lt (show (j:Nat)<rt.length from j.2)];decide
  have cm:=az I;obtain⟨M,y⟩:=cJ (q:=X) (b:=(r.length:Int)) (by lia);obtain⟨k,hk⟩:∃k:Nat,digO X (r.length:Int)=(k:Int):=⟨_,(e_ M).symm⟩;have a2:k<tc.length:=by lia
  obtain⟨⟨a,b,c⟩,a3⟩:∃s,tc[k]?=some s:=⟨_,List.getElem?_eq_getElem a2⟩;obtain⟨zv,b1,tt,rfl,bi⟩:=ou I a3;have bl:l≠p:=λz=>by rw[z,hp] at ab;cases ab
  refine⟨_,rfl,.inl ⟨rfl,_,SqL.of ap⟩,_,rfl,_,rfl,l,_,rfl,.inl (SqL.of ap),p,X,_,rfl,am,an,by lia,hJ (by lia) (by lia),λH5 k5 y5=>?_⟩;rw[hk];have a4:=(k5 l bl).trans ap;refine⟨l,r,(k:Int),k,_,rfl,rfl,a4,by lia,by lia,sM (by lia),b1,λH6 L y6=>?_⟩;have b5:But p H H5:=λd o n e=>(k5 d n).trans (b4 _ _ n e);have b2:aw H5 r tc:=Paired.imp' (λ_ _ ⟨d,M,y⟩=>⟨d,M,(k5 d (bC y am (by simp))).trans y⟩) I;have bm:H5 tt=some (.tup [.int (a:Int),.int (b:Int),.int (c:Int)]):=(k5 tt (bC bi am (by simp))).trans bi;have b6:But p H H6:=λd o n e=>(L d (ah e ab)).trans (b5 _ _ n e);have a5:H6 p=some (.lst (bc (nxt X (r.length:Int)))):=(L p (aF bl)).trans y5;have S:aw H6 (r.eraseIdx k) (tc.eraseIdx k):=Paired.imp' (λ_ _ ⟨d,M,y⟩=>⟨d,M,(L d (bC y a4 (by simp))).trans y⟩) (rg k b2);have b7:=(L tt (bC bm a4 (by simp))).trans bm;refine⟨_,rfl,rfl,_,rfl,?_⟩;rcases ad with ⟨rfl,rfl⟩|⟨rfl,j,rfl⟩
  .exact aC ⟨_,_,_,_,l,_,_,_,rfl,b6,a5,br an,ab,y6,S,.inr (.inl ⟨rfl,⟨k,a2⟩,rfl⟩)⟩
  refine aL ?_;have b8:(rt.eraseIdx j).length=13:=by rw[List.length_eraseIdx_of_lt (show (j:Nat)<rt.length from j.2)];rfl
  have b9:((rt.eraseIdx j).eraseIdx k).length=12:=by rw[List.length_eraseIdx_of_lt a2,b8]
  have cn:=az S;refine⟨_,rfl,l,_,_,rfl,y6,S,by lia,λrc cs H7 cr s7 y7 bn lcs=>?_⟩;have six:6∈cs:=by rw[bn.2];obtain⟨t,h1,h2⟩:=C3 j ⟨k,by lia⟩;exact List.mem_flatMap.mpr ⟨t,h1,by simpa using h2⟩
  have hle:∀x∈cs,x<7:=λx hx=>by
   rw[bn.2] at hx;obtain⟨t,h1,h2⟩:=List.mem_flatMap.mp hx;have h3:=uH t ((List.eraseIdx_sublist _ _).subset ((List.eraseIdx_sublist _ _).subset h1));have h2:x=t.1\/x=t.2.1\/x=t.2.2:=by simpa using h2
   lia
  refine⟨rc,cs.map (λc:Nat=>(c:Int)),rfl,SqL.of (by rw[y7];simp[nV]),λz=>?_,λm hm ca=>⟨_,_,rfl,rfl,?_⟩⟩
  .rw[List.map_eq_nil_iff.mp z] at six;cases six
  have em:m=6:=by obtain⟨x,hx,rfl⟩:=List.mem_map.mp hm;have:=ca 6 (List.mem_map.mpr ⟨6,six,rfl⟩);have:=hle x hx;lia
  subst em;refine⟨_,rfl,_,rfl,tt,(a,b,c),rfl,s7 _ _ b7,λZ_ zs H8 cv s8 y8 sd=>?_⟩;have cb:=s7.trans s8;refine⟨Z_,rfl,⟨_,SqL.of y8⟩,λY hY=>de (K:=[]) (a:=Z_) (xs:=zs) (λi Z ys H'=>∃o1 v,Z=[o1,v,some (.int 7)]/\Same H8 H'/\H' Y=some (.lst ys)/\aw H' ys (((dv (a,b,c)).take i).map λs=>(s.1,s.2,7)))
   ⟨none,none,rfl,bf hY,aG,.nil⟩ (by rintro i Z ys H' _ ⟨_,_,_,e,_⟩;exact SqL.of (e _ _ y8)) ?_ ?_⟩
  .rintro i x Z ys H' hi ⟨o1,cc,rfl,a0,bb,C⟩;obtain⟨⟨x1,x2⟩,hs,c',rfl,cd⟩:=bM sd hi;refine⟨c',_,rfl,SqT.of (a0 _ _ cd),rfl,_,_,rfl,_,_,rfl,rfl,?_⟩;refine⟨_,rfl,_,rfl,_,rfl,lit3,λt H9 ht s9 y9=>?_⟩;have bt:=s9 _ _ bb;refine⟨bt,?_,λHn kn yn=>⟨_,_,rfl,λd o e=>(kn d (ah e hY)).trans (s9 _ _ (a0 _ _ e)),yn,?_⟩⟩
   .rw[az C,List.length_map,List.length_take];simp[dv];lia
   rw[List.take_add_one,hs,List.map_append];exact kM (u:=(x1,x2,7)) bt kn (C.same s9) y9
  rintro Z ys H9 ⟨o1,cc,rfl,a0,bb,C⟩;have l3:zs.length=3:=az sd;rw[l3] at C;have C:aw H9 ys [(a,b,7),(b,c,7),(c,a,7)]:=C;have a1:=cb.trans a0;refine⟨l,Y,_,_,rfl,rfl,a1 _ _ y6,bb,by have:=az C;simp at this;lia,λR cw hR bw ce=>?_⟩;have st:=a1.trans bw;have cg:H R=none:=by
   cases e:H R with
   |none=>rfl
   |some o=>
    by_cases ep:R=p
    .rw[ep,a1 _ _ a5] at hR;cases hR
    rw[a1 _ _ (b6 _ _ ep e)] at hR;cases hR
  refine⟨_,_,_,_,R,_,_,_,rfl,λd o n e=>st _ _ (b6 _ _ n e),st _ _ a5,br an,cg,ce,cB (S.same st) (C.same bw),.inr (.inr ⟨rfl,?_,?_⟩)⟩
  .rw[List.length_append,b9];exact (show 12+3<=16 by decide)
  refine yO (mW (kQ nM (List.eraseIdx_sublist rt j)) (yS (mO a3))) λz=>?_;obtain⟨t,h1,h2⟩:=bN.mp z;have h3:=uH t ((List.eraseIdx_sublist _ _).subset ((mO a3).mem_iff.mp h1));lia
 rintro Z H4 ⟨v,o4,o5,o6,l,r,tc,X,rfl,b4,am,an,ab,ap,I,ad⟩;have hh:tc.length<=16/\Good tc:=by
  rcases ad with ⟨_,rfl⟩|⟨_,j,rfl⟩|⟨_,h⟩
  .exact⟨by decide,nM⟩
  .exact⟨bQ (List.eraseIdx_sublist rt j).length_le (by decide),kQ nM (List.eraseIdx_sublist rt j)⟩
  exact h
 exact⟨_,rfl,Qq l r tc X H4 ab b4 am an ap I hh.1 hh.2⟩
end
def xT(vs:List V)(H:Hp)(Q:VK)(S T:Addr)(b c:List V)(ss ts:List Tri):Prop:=vs=[.ref S,.ref T]/\H S=some (.lst b)/\aw H b ss/\ss.length<=10/\Good ss/\H T=some (.lst c)/\aw H c ts/\ts.length<=10/\Good ts/\
 ∀r d rs H',H r=none->Same H H'->H' r=some (.lst d)->aw H' d rs->rs.length<=20->Good rs->Q (.ref r) H'
def qV:Sp:=λvs H Q _=>Exists (Ex6 (xT vs H Q))
section
theorem qZ:aP ["_law_one","_law_other","_law_more"] ["_law_one","_law_other"] (ax jg):=by walk_at"sc"
theorem yq{f f2:Addr}{fd d2:FuncData}(U:Fun K "_law_beside" "_law_beside" jg f fd)(T:bD mg)(mM:mg "max" = none)
  (GC:Use P w K mg base 2 "_law_corners" ["_law_triples"] fh f2 d2) :
  ak P w K mg base CX0 3 f fd ["_law_one","_law_other"] qV:=by
 refine U.ok qZ (by rintro _ _ _ _ ⟨_,_,_,_,_,_,rfl,_⟩;rfl) λIp A outer s H vs Q E hr h=>?_
 obtain⟨S,T0,an,vt,ss,ts,rfl,hS,B,lS,gS,hT,ap,lT,gT,Qq⟩:=h;have hu:=bI hr;refine⟨_,(ae (sx 2 qZ.nd (au bp (a_ (mJ rfl) (by rfl) mM vg (pa1 (au jY (uc GC hr (pa1 (pv 0))) (bj (pa1 (fM fE ag)))))) ag))
  (ao (aJ (au jY (pv 0) (bY (N:=["_law_triple","_law_more"]) (fr:=[none,some 2]) (te:=tCB (λxs H Q=>∃p ys,xs=[.ref p]/\((SqL [] H p ys/\∀l,H l=none->Q (.ref l) (upd H l (.tup ys)))\/(SqT [] H p ys/\Q (.ref p) H))) (bV (lQ (oQ [] (aV 0)) (bO 0) (λ_ H Q=>Q true H) (tOp (rI0 λi j=>.int (i+j)) (aV 0) (aV 1)) [none,some 1]) c7)) (bW (by decide +kernel) rfl rfl (by decide +kernel) (by decide +kernel) (by walk_at"cs") (by walk_at"ct")) rfl (ba (pv 1))
    (λC' s' H' fp Io=>⟨(gx 0 (by decide:(["_law_triple","_law_more"]:List Str).Nodup)),cP,(cy iZ (by rfl) T.tuple iU (pa1 (bY (N:=["_law_corner","_law_more"]) (fr:=[none,some 1]) (te:=tOp (rI0 λi j=>.int (i+j)) (aV 0) (aV 1)) (bW (by decide +kernel) rfl rfl (by decide +kernel) (by decide +kernel) (by walk_at"cs") (by walk_at"ct")) rfl (gB (pv 0))
    (λC' s' H' fp Io=>⟨(gx 0 (by decide:(["_law_corner","_law_more"]:List Str).Nodup)),cP,(au bp (pv 0) (pv 1))⟩))))⟩)))))),?_⟩
 have a2:=line5000;refine⟨_,rfl,S,an,ss,rfl,hS,B,by lia,λL cs H1 a3 s1 y1 aM lcs=>?_⟩;refine⟨_,rfl,lit1,λl1 H2 g1 s2 y2=>?_⟩;refine⟨L,l1,_,_,rfl,rfl,s2 _ _ y1,y2,by rw[aK];simp only[List.length_singleton];lia,λl2 H3 g2 s3 y3=>?_⟩;refine⟨l2,cs.map (λc:Nat=>(c:Int))++[-1],rfl,SqL.of (by rw[y3];simp[nV]),by simp,λm hm ab=>⟨_,_,rfl,rfl,?_⟩⟩;obtain⟨n,hn⟩:∃n:Nat,m+1=(n:Int):=by have:=ab (-1) (by simp);exact⟨(m+1).toNat,by lia⟩
 have a0:∀c,Co ss c->c<n:=λc hc=>by
  have:c∈cs:=by rw[aM.2];obtain⟨t,h1,h2⟩:=bN.mp hc;exact List.mem_flatMap.mpr ⟨t,h1,by simpa using h2⟩
  have:=ab (c:Int) (List.mem_append_left _ (List.mem_map.mpr ⟨c,this,rfl⟩));lia
 show bO 2 (V.int (m+1)) _ _ _;rw[hn];have C:=(s1.trans s2).trans s3;have ad:=C _ _ hT;have al:=ap.same C;have gN:Good (ts.map (nam (· + n))):=rJ gT (λa b _ _ h=>by simpa using h);refine⟨_,rfl,_,rfl,T0,rfl,⟨_,SqL.of ad⟩,λZ_ hZ=>de (K:=[]) (a:=T0) (xs:=vt) (λi Z ys H'=>∃o,Z=[o,some (.int (n:Int))]/\Same H3 H'/\H' Z_=some (.lst ys)/\aw H' ys ((ts.take i).map (nam (· + n))))
  ⟨none,rfl,bf hZ,aG,.nil⟩ (by rintro i Z ys H' _ ⟨_,_,e,_⟩;exact SqL.of (e _ _ ad)) ?_ ?_⟩
 .rintro i x Z ys H' hi ⟨o,rfl,sm,D,d⟩;obtain⟨⟨a,b,c⟩,hs,t,rfl,g⟩:=bM al hi;have g:H3 t=some (.tup [.int (a:Int),.int (b:Int),.int (c:Int)]):=g;have a4:=(List.getElem?_eq_some_iff.mp hs).1;refine⟨_,rfl,t,rfl,⟨_,SqT.of (sm _ _ g)⟩,λY hY=>jm (K:=[]) (a:=t) (xs:=nV [a,b,c]) (λi Z ys I=>∃o,Z=[o,some (.int (n:Int))]/\ys=nV (([a,b,c].take i).map (· + n))/\Same H' I/\I Y=some (.lst ys)) ⟨none,rfl,rfl,bf hY,aG⟩ (by rintro i Z ys I _ ⟨_,_,_,e,_⟩;exact SqT.of (e _ _ (sm _ _ g))) ?_ ?_⟩
  .rintro j x Z zs M hj ⟨o,rfl,rfl,O,X⟩;rw[nV,List.getElem?_map] at hj;obtain⟨z,hz,rfl⟩:=aY.mp hj;have a5:j<3:=(List.getElem?_eq_some_iff.mp hz).1;refine⟨_,rfl,_,rfl,_,_,rfl,rfl,X,?_,λHn r yn=>⟨_,rfl,?_,λv o e=>(r v (ah e hY)).trans (O _ _ e),yn⟩⟩
   .rw[aK,List.length_map,List.length_take];simp;lia
   rw[List.take_add_one,hz,List.map_append,<-cR];rfl
  rintro Z zs M ⟨o,rfl,rfl,O,X⟩;refine⟨Y,_,rfl,.inl ⟨SqL.of X,λt' a1=>?_⟩⟩;walk_at"M t' a1 H5 q y5";have st:=O.trans q;have am:=st _ _ D;refine⟨am,?_,λHn r yn=>⟨_,rfl,λv o e=>(r v (ah e hZ)).trans (st _ _ (sm _ _ e)),yn,?_⟩⟩
  .rw[az d,List.length_map,List.length_take];lia
  rw[List.take_add_one,hs,List.map_append];exact kM (u:=(a+n,b+n,c+n)) am r (d.same st) y5
 rintro Z ys M ⟨o,rfl,sm,D,d⟩;rw[az al,List.take_length] at d;have lz:=az d;rw[List.length_map] at lz;have lv:=az B;have y:=C.trans sm;refine⟨S,Z_,_,_,rfl,rfl,y _ _ hS,D,by lia,λR H5 hR q y5=>?_⟩;refine Qq R _ _ H5 (y.free hR) (y.trans q) y5 (cB (B.same (y.trans q)) (d.same q)) ?_ ?_
 .rw[List.length_append,List.length_map];lia
 refine Av gS gN λa ha g=>?_;have:=a0 a ha;obtain⟨b,c,e⟩:=g;obtain⟨a',v,c',_,h2,_⟩:=uq gT (λa b _ _ h=>by simpa using h) e;have h2:a=a' + n:=h2;lia
end
theorem A0{r p:Addr}{c:List V}{ts:List Tri}{q:Int×Int}(d:H r=some (.lst c))(tr:aw H c ts)(f:H p=some (.lst (bc q))):r≠p:=λz=>by
 rw[z,f] at d;cases d;cases tr with
 |cons h _=>
  obtain⟨b,e,_⟩:=h;cases e
def zq(vs:List V)(H:Hp)(Q:VK)(p:Addr)(q:Int×Int):Prop:=vs=[.ref p,.int 16]/\H p=some (.lst (bc q))/\bq q/\
 ∀r b ts d H',r≠p->But p H H'->H' p=some (.lst (bc d))->bq d->H' r=some (.lst b)->aw H' b ts->ts.length<=20->Good ts->(∀c,Co ts c->One (En ts) c)->Q (.ref r) H'
def su:Sp:=λvs H Q _=>Exists (Ex2 (zq vs H Q))
section
theorem sP:aP ["_law_pot_here","_law_most","_law_way"] ["_law_pot_here","_law_most"] (ax jP):=by walk_at"sc"
theorem z_{f f1 f2 f3 f4 f5 f6:Addr}{fd d1 d2 d3 d4 d5 d6:FuncData}(U:Fun K "_law_skin" "_law_skin" jP f fd)
  (GD:Use P w K mg base 3 "_law_digit" ["_law_pot_here","_law_base"] eF f1 d1)
  (GR:Use P w K mg base 3 "_law_ring" ["_law_pot_here"] tV f2 d2)
  (L:Use P w K mg base 3 "_law_split" ["_law_triples"] nG f3 d3)
  (GB:Use P w K mg base 3 "_law_beside" ["_law_one","_law_other"] qV f4 d4)
  (T:Use P w K mg base 3 "_law_grown" ["_law_pot_here","_law_most"] sv f5 d5)
  (X:Use P w K mg base 3 "_law_drawn" ["_law_pot_here","_law_most"] sF f6 d6) :
  ak P w K mg base CX0 4 f fd ["_law_pot_here","_law_most"] su:=by
 refine U.ok sP (by rintro _ _ _ _ ⟨_,_,rfl,_⟩;rfl) λIp A outer s H vs Q E d h=>?_
 obtain⟨p,q,rfl,hp,B,Qq⟩:=h;refine⟨_,(ae (sx 2 sP.nd (uc GD d (af (pv 0) (pa1 ag))))
  (ae (bB (PW.pt (jW (a7 dM (pv 2) ag (nomark _)) (jC (a7 uL (pv 1) ag (nomark _))))) (ao (aJ (uc L d (pa1 (uc GR d (pa1 (pv 0))))))) bu)
  (ae (bB (a7 dM (pv 2) ag (nomark _)) (ao (aJ (uc L d (pa1 (uc GB d (af (uc T d (af (pv 0) (pa1 (au ia (pv 1) ag)))) (pa1 (uc X d (af (pv 0) (pa1 (au ia (pv 1) ag))))))))))) bu)
  (ae (bB (a7 iE (pv 2) ag (nomark _)) (ao (aJ (uc L d (pa1 (uc X d (af (pv 0) (pa1 (pv 1)))))))) bu)
  (ao (aJ (uc L d (pa1 (uc T d (af (pv 0) (pa1 (pv 1)))))))))))),?_⟩
 obtain⟨d1,d2⟩:=cJ (q:=q) (b:=8) (by decide);refine⟨_,rfl,p,q,8,rfl,hp,B,by decide,by decide +kernel,λH1 k1 C=>?_⟩;have b1:But p H H1:=λv o n e=>(k1 v n).trans e;have end_:∀(R:Addr)(c:List V)(ts:List Tri)(M:Int×Int)(H2:Hp),But p H1 H2->H2 p=some (.lst (bc M))->bq M->H2 R=some (.lst c)->aw H2 c ts->ts.length<=20->Good ts->nG [.ref R] H2 Q E:=by intro R c ts M H2 i g l m tr D u;refine⟨R,c,ts,rfl,m,tr,D,u,λr ab ad Y O Z N l3 g3 o3=>?_⟩;exact Qq r ab ad M Y (A0 Z N (O _ _ g)) (λv o n e=>O _ _ (i v o n (b1 v o n e))) (O _ _ g) l Z N (by lia) g3 o3
 refine⟨_,rfl,rfl,_,rfl,?_⟩;generalize digO q 8=x at *;by_cases h0:x=0
 .subst h0;refine aL ⟨_,rfl,_,_,rfl,rfl,_,rfl,aL ?_⟩;refine⟨_,rfl,p,_,rfl,C,br B,λR c ts y H2 I i g l m tr D u=>?_⟩;exact end_ R c ts y H2 i g l m tr (by lia) u
 rw[show decide (V.int x=V.int 0)=false from Il λz=>h0 (V.int.inj z)];refine aC (aC ⟨_,rfl,rfl,_,rfl,?_⟩);by_cases h1:x=1
 .subst h1;refine aL ?_;refine⟨_,rfl,_,rfl,_,_,rfl,rfl,⟨by decide,by decide +kernel⟩,p,_,8,rfl,C,br B,by decide,λR c ts y H2 I i g l m tr D u=>?_⟩;refine⟨_,rfl,_,rfl,_,_,rfl,rfl,⟨by decide,by decide +kernel⟩,p,_,8,rfl,g,l,by decide,λR3 al am q3 Y bd S an ap aM N be a0=>?_⟩;have a1:R≠p:=λz=>by rw[z,C] at I;cases I
  refine⟨R,R3,c,al,ts,am,rfl,S _ _ a1 m,A3 S g tr,by lia,u,aM,N,by lia,a0,λR4 a2 a3 H4 bg s4 a4 a5 bi bb=>?_⟩;exact end_ R4 a2 a3 q3 H4 (λv o n e=>s4 _ _ (S v o n (i v o n e))) (s4 _ _ an) ap a4 a5 (by lia) bb
 rw[show decide (V.int x=V.int 1)=false from Il λz=>h1 (V.int.inj z)];refine aC ⟨_,rfl,_,_,rfl,rfl,_,rfl,?_⟩;show if decide (x<5)=true then _ else _
 by_cases h5:x<5
 .rw[Ik h5];refine aL ?_;refine⟨_,rfl,_,rfl,p,_,16,rfl,C,br B,by decide,λR c ts y H2 I i g l m tr D u=>?_⟩;exact end_ R c ts y H2 i g l m tr (by lia) u
 rw[Il h5];refine aC ?_;refine⟨_,rfl,_,rfl,p,_,16,rfl,C,br B,by decide,λR c ts y H2 I i g l m tr D u=>?_⟩;exact end_ R c ts y H2 i g l m tr (by lia) u
end
theorem DD(cl:List Nat)(d v:Nat):(nV cl).take d++V.int (v:Int)::(nV cl).drop d=nV (cl.take d++v::cl.drop d):=by unfold nV;rw[List.map_append,List.map_cons,List.map_take,List.map_drop]
def nmV(x:Nat×Nat):Key×V:=(Sum.inl (x.1:Int),V.int (x.2:Int))
theorem val_nm{nm:List (Nat×Nat)}{c:Nat}(h:c∉nm.map (·.1)):aI (nm.map nmV) (Sum.inl (c:Int):Key)=none:=by
 induction nm with
 |nil=>simp[aI]
 |cons x nm b=>
  rw[List.map_cons,List.mem_cons,not_or] at h;rw[List.map_cons,du (λz=>h.1 ?_)]
  .exact b h.2
  have:(x.1:Int)=(c:Int):=fe z;lia
theorem put_nm{nm:List (Nat×Nat)}{c x:Nat}(h:c∉nm.map (·.1)):aW (nm.map nmV) (Sum.inl (c:Int):Key) (V.int (x:Int))=(nm++[(c,x)]).map nmV:=by rw[h_ _ (val_nm h),List.map_append];rfl
def nmF(nm:List (Nat×Nat))(c:Nat):Nat:=(nm.lookup c).getD 0
theorem nm_val{nm:List (Nat×Nat)}{c:Nat}(h:c∈nm.map (·.1)):∃k x:Nat,nm[k]?=some (c,x)/\aI (nm.map nmV) (Sum.inl (c:Int):Key)=some (V.int (x:Int))/\nmF nm c=x:=by
 induction nm with
 |nil=>cases h
 |cons y nm f=>
  obtain⟨b,x⟩:=y;by_cases e:b=c
  .subst e;exact⟨0,x,rfl,eD (p:=nmV (b,x)) (r:=nm.map nmV) rfl,by simp[nmF]⟩
  rw[List.map_cons] at h;obtain⟨k,g,h1,h2,d⟩:=f ((List.mem_cons.mp h).resolve_left λz=>e z.symm);refine⟨k+1,g,h1,?_,?_⟩
  .rw[List.map_cons,du (λz=>e ?_)]
   .exact h2
   have:(b:Int)=(c:Int):=fe z;lia
  have:(c==b)=false:=by simpa using λz:c=b=>e z.symm
  unfold nmF at d |-;rw[List.lookup_cons,this];exact d
def zo(vs:List V)(H:Hp)(Q:VK)(p T:Addr)(q:Int×Int)(d:List V)(ts:List Tri):Prop:=vs=[.ref p,.ref T]/\H p=some (.lst (bc q))/\bq q/\H T=some (.lst d)/\T≠p/\aw H d ts/\ts.length<=200/\Good ts/\
 ∀r e b f H',H r=none->But p H H'->H' p=some (.lst (bc f))->bq f->H' r=some (.lst e)->aw H' e b->b.length=ts.length->Good b->(∀u,Co b u->u<10 ^ 60)->((∀c,Co ts c->One (En ts) c)->∀c,Co b c->One (En b) c)->Q (.ref r) H'
def se:Sp:=λvs H Q _=>Exists (Ex5 (zo vs H Q))
section
theorem fD:aP ["_law_pot_here","_law_triples","_law_way","_law_corners_here","_law_corner","_law_names","_law_i","_law_far"] ["_law_pot_here","_law_triples"] (ax jM):=by walk_at"sc"
theorem z9{f f1 f2:Addr}{fd d1 d2:FuncData}(U:Fun K "_law_named" "_law_named" jM f fd)(T:bD mg)
  (GD:Use P w K mg base 1 "_law_digit" ["_law_pot_here","_law_base"] eF f1 d1)
  (GC:Use P w K mg base 1 "_law_corners" ["_law_triples"] fh f2 d2) :
  ak P w K mg base CX0 2 f fd ["_law_pot_here","_law_triples"] se:=by
 refine U.ok fD (by rintro _ _ _ _ ⟨_,_,_,_,_,rfl,_⟩;rfl) λIp A outer s H vs Q E X h=>?_
 obtain⟨p,T0,q,vt,ts,rfl,hp,bK,hT,b0,ht,hl,g,Qq⟩:=h;have hu:=bI X;refine⟨_,(ae (sx 2 fD.nd (uc GD X (af (pv 0) (pa1 ag))))
  (ae (sx 3 fD.nd (bj cF))
  (ae (bh aZ rfl (ba (uc GC X (pa1 (pv 1)))) (gx 4 fD.nd) (ao (bF (bH bR px vw mT (pv 3) (af (uc GD X (af (pv 0) (pa1 (au bp (pln T.len (pv 3)) ag)))) (pa1 (pv 4)))))))
  (ae (sx 5 fD.nd fC)
  (ae (bh aZ rfl (nU rfl T.enum (pa1 (pv 3))) (b_ rfl (aO (gx 6 fD.nd) (aO (gx 4 fD.nd) bX))) (ae (sx 7 fD.nd (au di (au di (au di (au lE ag ag) ag) (au dW (au bp (pv 6) ag) (au lE ag ag))) (uc GD X (af (pv 0) (pa1 (au lE ag ag))))))
  (ao (dI hu (pv 5) (pv 4) (ixx bG (bj (af (pv 6) (af (au bp (au dW ag (pv 6)) (uc GD X (af (pv 0) (pa1 ag)))) (pa1 (pv 7))))) (pv 2)) rfl))))
  (ao (aJ (bY (N:=["_law_triple","_law_names"]) (fr:=[none,some 5]) (te:=tCB (λxs H Q=>∃p ys,xs=[.ref p]/\((SqL [] H p ys/\∀l,H l=none->Q (.ref l) (upd H l (.tup ys)))\/(SqT [] H p ys/\Q (.ref p) H))) (bV (lQ (oQ [] (aV 0)) (bO 0) (λ_ H Q=>Q true H) (j6 (aV 1) (aV 0)) [none,some 1]) c7)) (bW (by decide +kernel) rfl rfl (by decide +kernel) (by decide +kernel) (by walk_at"cs") (by walk_at"ct")) rfl (ba (pv 1))
    (λC' s' H' fp Io=>⟨gx 0 (by decide:(["_law_triple","_law_names"]:List Str).Nodup),cP,cy iZ (by rfl) T.tuple iU (pa1 (bY (N:=["_law_corner","_law_names"]) (fr:=[none,some 1]) (te:=j6 (aV 1) (aV 0)) (bW (by decide +kernel) rfl rfl (by decide +kernel) (by decide +kernel) (by walk_at"cs") (by walk_at"ct")) rfl (gB (pv 0))
    (λC2 s2 H2 dj dk=>⟨gx 0 (by decide:(["_law_corner","_law_names"]:List Str).Nodup),cP,dh hu (pv 1) (pv 0) (λ_ _=>rfl)⟩)))⟩))))))))),?_⟩
 have dl:=line5000;obtain⟨d1,d2⟩:=cJ (q:=q) (b:=3) (by decide);obtain⟨r,ew⟩:∃r:Nat,digO q 3=(r:Int):=⟨_,(e_ d1).symm⟩;refine⟨_,rfl,p,q,3,rfl,hp,bK,by decide,by decide +kernel,λH1 k1 y1=>?_⟩;rw[ew] at d2 |-;have dm:r<3:=by lia
 refine⟨aD _,λch H2 b1 s2 y2=>?_⟩;have a0:p≠ch:=ah y1 b1;have cc:H ch=none:=(k1 ch (aF a0)).symm.trans b1;have cd:=s2 _ _ ((k1 T0 b0).trans hT);have ce:aw H2 vt ts:=Paired.imp' (λ_ _ ⟨m,D,I⟩=>⟨m,D,s2 _ _ ((k1 m (bC I hp (by simp))).trans I)⟩) ht;refine⟨_,rfl,T0,vt,ts,rfl,cd,ce,hl,λr0 cs H3 b2 s3 y3 b3 dp=>?_⟩;have cg:r0≠p:=aF (ah (s2 _ _ y1) b2);have ci:r0≠ch:=aF (ah y2 b2);refine⟨r0,rfl,⟨_,SqL.of y3⟩,cA (K:=[]) (a:=r0) (xs:=nV cs) (λi Z H'=>∃L cl q',Z=[some (V.ref p),some (.ref T0),some (.int (r:Int)),some (.ref ch),L,none,none,none]/\(∀b o,b≠p->b≠ch->H3 b=some o->H' b=some o)/\H' p=some (.lst (bc q'))/\bq q'/\H' ch=some (.lst (nV cl))/\cl.Perm (cs.take i))
  ⟨none,[],_,rfl,λ_ _ _ _ e=>e,s3 _ _ (s2 _ _ y1),br bK,s3 _ _ y2,List.Perm.refl _⟩ (λi Z H' _ ⟨_,_,_,_,e,_⟩=>SqL.of (e _ _ cg ci y3)) ?_ ?_⟩
 .rintro i x Z H4 hi ⟨L,cl,q4,rfl,sm,a1,a2,ab,M⟩;rw[nV,List.getElem?_map] at hi;obtain⟨v,hv,rfl⟩:=aY.mp hi;have cj:=(List.getElem?_eq_some_iff.mp hv).1;have b4:(nV cl).length=i:=by
   rw[aK,M.length_eq,List.length_take];lia
  refine⟨_,rfl,.inl ⟨rfl,_,SqL.of ab⟩,_,rfl,_,rfl,ch,nV cl,rfl,.inl (SqL.of ab),_,_,rfl,rfl,p,q4,_,rfl,a1,a2,by lia,by rw[b4];exact lg20 (by lia),λH5 k5 y5=>?_⟩;obtain⟨cm,cn⟩:=cJ (q:=q4) (b:=((nV cl).length:Int)+1) (by lia);obtain⟨d,hd⟩:∃d:Nat,digO q4 (((nV cl).length:Int)+1)=(d:Int):=⟨_,(e_ cm).symm⟩;rw[hd] at cn |-;have a3:=(k5 ch (aF a0)).trans ab;refine⟨_,rfl,ch,nV cl,d,_,rfl,rfl,a3,by lia,by lia,λO k6 y6=>?_⟩;refine⟨_,cl.take d++v::cl.drop d,_,rfl,λm o n1 n2 e=>(k6 m n2).trans ((k5 m n1).trans (sm _ _ n1 n2 e)),(k6 p a0).trans y5,br a2,by rw[y6,DD],?_⟩;have D:cs.take (i+1)=cs.take i++[v]:=by rw[List.take_add_one,hv];rfl
  rw[D];refine List.Perm.trans List.perm_middle ?_;rw[List.take_append_drop];exact (List.Perm.cons v M).trans (List.perm_append_comm (l₁:=[v]) (l₂:=cs.take i))
 rintro Z H4 ⟨L,cl,q4,rfl,sm,a1,a2,ab,M⟩;rw[aK,List.take_length] at M;refine λn H5 bd s5 y5=>?_;have b4:cl.length<=600:=by rw[M.length_eq];lia
 have cr:cl.Nodup:=M.nodup_iff.mpr (b3.1.imp λh=>aU h);have be:p≠n:=ah a1 bd;have a3:=s5 _ _ ab;have cv:ch≠n:=ah ab bd;refine⟨_,rfl,ch,nV cl,rfl,SqL.of a3,nv (K:=[]) (a:=ch) (xs:=nV cl) (λj Z H'=>∃L o6 o7 nm q',Z=[some (V.ref p),some (.ref T0),some (.int (r:Int)),some (.ref ch),L,some (.ref n),o6,o7]/\(∀b o,b≠p->b≠n->H5 b=some o->H' b=some o)/\H' p=some (.lst (bc q'))/\bq q'/\H' n=some (.dK (nm.map nmV))/\nm.map (·.1)=cl.take j/\∀k c x,nm[k]?=some (c,x)->Win r k x)
  ⟨_,none,none,[],_,rfl,λ_ _ _ _ e=>e,s5 _ _ a1,a2,y5,rfl,λk c x h=>by simp at h⟩ (λj Z H' _ ⟨_,_,_,_,_,_,e,_⟩=>SqL.of (e _ _ (aF a0) cv a3)) ?_ ?_⟩
 .rintro j x pt Z O hj ⟨L,o6,o7,nm,y,rfl,bg,a4,am,bi,R,an⟩ cw;rw[nV,List.getElem?_map] at hj;obtain⟨c,S,rfl⟩:=aY.mp hj;have dr:=(List.getElem?_eq_some_iff.mp S).1;walk_at"O pt cw H7 s7 y7";refine⟨pt,_,rfl,SqT.of y7,rfl,_,_,rfl,_,_,rfl,rfl,?_⟩;have cp:∀k:Int,0<=k->k<=100->CPow 10 k:=λk h1 h2=>⟨h1,by lia,by decide⟩;have cx:=s7 _ _ a4;refine⟨_,_,rfl,rfl,cp _ (by decide) (by decide),_,_,rfl,rfl,_,rfl,_,_,rfl,rfl,_,_,rfl,rfl,cp _ (by decide) (by decide),_,_,rfl,rfl,.inl ⟨by lia,by lia⟩,_,_,rfl,rfl,_,rfl,_,_,rfl,rfl,cp _ (by decide) (by decide),p,y,(10:Int) ^ 9,rfl,cx,am,by decide,by decide +kernel,λH8 k8 y8=>⟨_,_,rfl,rfl,?_⟩⟩;obtain⟨f1,f2⟩:=cJ (q:=y) (b:=(10:Int) ^ 9) (by decide);obtain⟨C,e9⟩:∃C:Nat,digO y ((10:Int) ^ 9)=(C:Int):=⟨_,(e_ f1).symm⟩;rw[e9] at f2;have ds:C<10 ^ 9:=by lia
  show bO 7 (V.int (10 ^ 60-1-((j:Int)+1)*10 ^ 9-digO y ((10:Int) ^ 9))) _ _ _;rw[e9];have c0:(10:Int) ^ 60-1-((j:Int)+1)*10 ^ 9-(C:Int)=((10 ^ 60-1-(j+1)*10 ^ 9-C:Nat):Int):=by lia
  rw[c0];refine⟨_,rfl,_,rfl,_,_,rfl,rfl,.inl ⟨by decide,by decide⟩,_,rfl,p,_,7,rfl,y8,br am,by decide,by decide +kernel,λH9 k9 y9=>⟨_,_,rfl,rfl,?_⟩⟩;obtain⟨f3,f4⟩:=cJ (q:=nxt y ((10:Int) ^ 9)) (b:=7) (by decide);obtain⟨d7,e7⟩:∃d7:Nat,digO (nxt y ((10:Int) ^ 9)) 7=(d7:Int):=⟨_,(e_ f3).symm⟩;rw[e7] at f4;refine⟨_,rfl,lit3,λl bl dx bm a5=>?_⟩;rw[show ([V.int (j:Int),(λi j=>V.int (i+j)) (7*(j:Int)) (digO (nxt y ((10:Int) ^ 9)) 7),V.int ((10 ^ 60-1-(j+1)*10 ^ 9-C:Nat):Int)]:List V)=nV [j,7*j+d7,10 ^ 60-1-(j+1)*10 ^ 9-C] by rw[e7];rfl] at a5;obtain⟨x,hx,hw⟩:∃x:Nat,[j,7*j+d7,10 ^ 60-1-(j+1)*10 ^ 9-C][r]?=some x/\Win r j x:=by
   obtain rfl|rfl|rfl:r=0\/r=1\/r=2:=by lia
   .exact⟨_,rfl,.inl ⟨rfl,rfl⟩⟩
   .exact⟨_,rfl,.inr (.inl ⟨rfl,by lia,by lia⟩)⟩
   exact⟨_,rfl,.inr (.inr ⟨rfl,by lia,by lia⟩)⟩
  have c1:bl n=some (.dK (nm.map nmV)):=bm _ _ ((k9 n (aF be)).trans ((k8 n (aF be)).trans (s7 _ _ bi)));have b5:nm.length=j:=by have:=congrArg List.length R;rw[List.length_map,List.length_take] at this;lia
  have c2:c∉nm.map (·.1):=by rw[R];intro z;obtain⟨k,B⟩:=List.getElem?_of_mem z;have b6:=(List.getElem?_eq_some_iff.mp B).1;rw[List.length_take] at b6;rw[List.getElem?_take_of_lt (by lia)] at B;have:=fq cr B S;lia
  refine⟨_,rfl,l,_,_,V.int (x:Int),rfl,rfl,SqL.of a5,cQ (by rw[nV,List.getElem?_map,hx];rfl),_,rfl,_,rfl,n,_,rfl,DPut.k (k:=Sum.inl (c:Int)) c1 (by rw[List.length_map];lia),?_⟩;rw[put_nm c2];walk_at"bl n dy b7 c3";refine⟨_,_,_,nm++[(c,x)],_,rfl,λm o n1 n2 e=>?_,(b7 p be).trans (bm _ _ y9),br (br am),c3,?_,λk c' x' h=>?_⟩
  .exact (b7 m n2).trans (bm _ _ ((k9 m n1).trans ((k8 m n1).trans (s7 _ _ (bg _ _ n1 n2 e)))))
  .rw[List.map_append,R,List.take_add_one,S];rfl
  by_cases B:k<nm.length
  .rw[List.getElem?_append_left B] at h;exact an k c' x' h
  have c4:=(List.getElem?_eq_some_iff.mp h).1;rw[List.length_append,List.length_singleton] at c4;have ek:k=nm.length:=by lia
  rw[ek,List.getElem?_append_right (ai _),u7] at h;cases h;rw[ek,b5];exact hw
 rintro Z O ⟨L,o6,o7,nm,y,rfl,bg,a4,am,bi,R,an⟩;rw[aK,List.take_length] at R;have st:But p H O:=λm o nb e=>by
  have e3:H3 m=some o:=s3 _ _ (s2 _ _ ((k1 m nb).trans e));have e4:H4 m=some o:=sm _ _ nb (ah e cc) e3;exact bg _ _ nb (ah e4 bd) (s5 _ _ e4)
 have b8:=st _ _ b0 hT;have b9:aw O vt ts:=Paired.imp' (λ_ _ ⟨m,D,I⟩=>⟨m,D,st _ _ (bC I hp (by simp)) I⟩) ht;have bb:∀c,Co ts c->c∈nm.map (·.1):=λc S=>by
  rw[R,M.mem_iff,b3.2];obtain⟨t,bn,hu⟩:=bN.mp S;exact List.mem_flatMap.mpr ⟨t,bn,by simpa using hu⟩
 have b5:nm.length<=600:=by have:=congrArg List.length R;rw[List.length_map] at this;lia
 have inj:∀a b,Co ts a->Co ts b->nmF nm a=nmF nm b->a=b:=λa b ha hb e=>by
  obtain⟨k,x,h1,_,h3⟩:=nm_val (bb a ha);obtain⟨k',x',bt,_,c5⟩:=nm_val (bb b hb);have ex:x=x':=by rw[<-h3,<-c5,e]
  subst ex;have ek:=AY (an _ _ _ h1) (an _ _ _ bt);subst ek;rw[h1] at bt;exact (gP (cq bt)).1
 have c6:∀a,Co ts a->nmF nm a<10 ^ 60:=λa ha=>by
  obtain⟨k,x,h1,_,h3⟩:=nm_val (bb a ha);have B:=(List.getElem?_eq_some_iff.mp h1).1;rw[h3];exact Cv (by lia) (an _ _ _ h1)
 refine⟨_,rfl,T0,rfl,⟨_,SqL.of b8⟩,λZ_ hZ=>de (K:=[]) (a:=T0) (xs:=vt) (λi Z ys H'=>∃o,Z=[o,some (V.ref n)]/\aw H' ys ((ts.take i).map (nam (nmF nm)))/\Same O H'/\H' Z_=some (.lst ys)) ⟨none,rfl,.nil,bf hZ,aG⟩ (λi Z ys H' _ ⟨_,_,_,e,_⟩=>SqL.of (e _ _ b8)) ?_ ?_⟩
 .rintro i x Z ys H' hi ⟨o,rfl,ap,ad,bw⟩;obtain⟨⟨a,b,c⟩,hs,t,rfl,hb⟩:=bM b9 hi;have hb:O t=some (.tup (nV [a,b,c])):=hb;have ca:=ad _ _ hb;have bn:=List.mem_of_getElem? hs;have cj:=(List.getElem?_eq_some_iff.mp hs).1;have dF:ys.length<=200:=by rw[az ap,List.length_map,List.length_take];lia
  have c8:∀z∈[a,b,c],Co ts z:=λz hz=>by
   refine bN.mpr ⟨_,bn,?_⟩;simpa using hz
  refine⟨_,rfl,t,rfl,⟨_,SqT.of ca⟩,λY hY=>jm (K:=[]) (a:=t) (xs:=nV [a,b,c]) (λk Z aM al=>∃o,Z=[o,some (V.ref n)]/\aM=nV (([a,b,c].take k).map (nmF nm))/\Same H' al/\al Y=some (.lst aM)) ⟨none,rfl,rfl,bf hY,aG⟩ (by rintro k Z aM al _ ⟨_,_,_,e,_⟩;exact SqT.of (e _ _ ca)) ?_ ?_⟩
  .rintro k x Z aM al B ⟨o,rfl,rfl,sY,bx⟩;rw[nV,List.getElem?_map] at B;obtain⟨z,hz,rfl⟩:=aY.mp B;have b6:k<3:=(List.getElem?_eq_some_iff.mp hz).1;obtain⟨_,x',_,h2,h3⟩:=nm_val (bb z (c8 z (List.mem_of_getElem? hz)));subst h3;refine⟨_,rfl,_,rfl,n,V.int (nmF nm z:Int),rfl,h2 ▸ DGet.k (k:=Sum.inl (z:Int)) (sY _ _ (ad _ _ bi)),bx,?_,λHn kn yn=>⟨_,rfl,?_,λm o e=>(kn m (ah e hY)).trans (sY _ _ e),yn⟩⟩
   .rw[aK,List.length_map,List.length_take];have:([a,b,c]:List Nat).length=3:=rfl;lia
   rw[List.take_add_one,hz,List.map_append,<-cR];rfl
  rintro Z aM al ⟨o,rfl,rfl,sY,bx⟩;refine⟨Y,_,rfl,.inl ⟨SqL.of bx,λt' da=>?_⟩⟩;walk_at"al t' da H9 s9 y9";have cb:=s9 _ _ (sY _ _ bw);have tn:∀{m:Addr}{xs:List V},H9 m=some (.tup xs)->m≠Z_:=λe=>bC e cb (by simp);have et:(ts.take (i+1)).map (nam (nmF nm))=(ts.take i).map (nam (nmF nm))++[nam (nmF nm) (a,b,c)]:=by rw[List.take_add_one,hs,List.map_append];rfl
  refine⟨cb,by lia,λbl bA a5=>⟨_,rfl,?_,λm o e=>?_,a5⟩⟩
  .rw[et];refine cB (Paired.imp' (λ_ _ ⟨m,D,I⟩=>⟨m,D,by have e3:=s9 _ _ (sY _ _ I);exact (bA _ (tn e3)).trans e3⟩) ap) (.cons ⟨t',rfl,(bA _ (tn y9)).trans y9⟩ .nil)
  exact (bA _ (ah e hZ)).trans (s9 _ _ (sY _ _ (ad _ _ e)))
 rintro Z ys H' ⟨o,rfl,ap,ad,bw⟩;rw[az b9,List.take_length] at ap;have db:H Z_=none:=by
  cases e:H Z_ with
  |none=>rfl
  |some o=>
   have dc:Z_≠p:=λz=>by rw[z,a4] at hZ;cases hZ
   rw[st _ _ dc e] at hZ;cases hZ
 exact Qq Z_ ys _ y H' db (st.same ad) (ad _ _ a4) am bw ap (List.length_map ..) (rJ g inj) (λu hu=>by
  obtain⟨a,ha,rfl⟩:=uy hu;exact c6 a ha) λdd c S=>by
  obtain⟨a,ha,rfl⟩:=uy S;exact BC g inj ha (dd a ha)
end
structure oT(P:Program)(w:World)(K:W.Frag)(mg:Str->Option Value)(base:Heap)(C:Addr)(n:Nat)(x:Str)(ps:List Str)(sp:Sp)(f:Addr)(fd:FuncData):Prop where
 g:ak P w K mg base CX0 n f fd ps sp
 b:Binds K fd ps []
 m:Meth K C x f
theorem iG{u:TT}{Q:Bool->Hp->Prop}(h:u Z H Q):lP (tOrK u Z Q) true H:=aC (A:=Q true H) h
theorem l5{t u:TS}{D:Ends}(h:u D Z H):lP (oK t u D Z) true H:=aC (A:=t D Z H) h
theorem D6{t u:TS}{D:Ends}(h:t D Z H):lP (oK t u D Z) false H:=aL (B:=u D Z H) h
structure l8(K:W.Frag):Prop where
 t:W.kitOne K (.type "tuple") (.type "tuple")=some true
 i:W.kitOne K (.type "int") (.type "int")=some true
 b:W.kitOne K (.type "int") (.type "bool")=some false
def zh(vs:List V)(H:Hp)(Q:VK)(n:Int):Prop:=vs=[.int n]/\Q (.bl true) H
def rX:Sp:=λvs H Q _=>Exists (zh vs H Q)
def wJ(vs:List V)(H:Hp)(Q:VK)(n:Nat):Prop:=vs=[.int (n:Int)]/\Q (.bl true) H
def qb:Sp:=λvs H Q _=>Exists (wJ vs H Q)
section
theorem Bi:aP ["thing"] ["thing"] (ax jI):=by walk_at"sc"
theorem zX{f:Addr}(U:Fun K "is_whole" "is_whole" jI f fd)(T:bD mg)(F:l8 K):ak P w K mg base CX0 1 f fd ["thing"] rX:=by
 refine U.ok Bi (by rintro _ _ _ _ ⟨_,rfl,_⟩;rfl) λd A outer s H vs Q E e h=>?_
 obtain⟨n,rfl,q⟩:=h;refine⟨_,ao (aJ (iz (a_ (gi (c:="int")) (by rfl) T.isi iT (af (pv 0) (pa1 (gp (v:=.ty "int") rfl T.int mw rfl))))
  (lD (Dh (a_ (gi (c:="bool")) (by rfl) T.isi iT (af (pv 0) (pa1 (gp (v:=.ty "bool") rfl T.bool FK rfl)))))))),?_⟩
 exact⟨_,rfl,_,_,true,rfl,.int n,F.i,true,rfl,aL ⟨_,rfl,_,_,false,rfl,.int n,F.b,false,rfl,q⟩⟩
theorem xn:aP ["thing"] ["thing"] (ax ja):=by walk_at"sc"
theorem wQ{f b:Addr}{fd d1:FuncData}(U:Fun K "is_corner" "is_corner" ja f fd)(G:Use P w K mg base 1 "is_whole" ["thing"] rX b d1) :
  ak P w K mg base CX0 2 f fd ["thing"] qb:=by
 refine U.ok xn (by rintro _ _ _ _ ⟨_,rfl,_⟩;rfl) λd A outer s H vs Q E c h=>?_
 obtain⟨n,rfl,q⟩:=h;refine⟨_,ao (aJ (iz (uc G c (pa1 (pv 0))) (lD (gk EV (pv 0) ag (nomark _))))),?_⟩;refine⟨_,rfl,(n:Int),rfl,true,rfl,aL ⟨_,rfl,_,_,rfl,rfl,?_⟩⟩;show Q (.bl (decide ((n:Int) ≥ 0))) H;rw[Ik (by lia)];exact q
end
def wI(vs:List V)(H:Hp)(Q:VK)(t:Addr)(x:Tri):Prop:=vs=[.ref t]/\H t=some (.tup [.int (x.1:Int),.int (x.2.1:Int),.int (x.2.2:Int)])/\(x.1≠x.2.1/\x.2.1≠x.2.2/\x.2.2≠x.1)/\Q (.bl true) H
def qa:Sp:=λvs H Q _=>Exists (Ex2 (wI vs H Q))
section
theorem kI:aP ["thing","a","b","c"] ["thing"] (ax i_):=by walk_at"sc"
theorem wO{f m:Addr}{fd d1:FuncData}(U:Fun K "is_triple" "is_triple" i_ f fd)(T:bD mg)(F:l8 K)(G:Use P w K mg base 2 "is_corner" ["thing"] qb m d1) :
  ak P w K mg base CX0 3 f fd ["thing"] qa:=by
 refine U.ok kI (by rintro _ _ _ _ ⟨_,_,rfl,_⟩;rfl) λn A outer s H vs Q E e h=>?_
 obtain⟨t,⟨a,b,c⟩,rfl,d,⟨g,i,l⟩,q⟩:=h;have d:H t=some (.tup [.int (a:Int),.int (b:Int),.int (c:Int)]):=d;have g:a≠b:=g;have i:b≠c:=i;have l:c≠a:=l;refine⟨_,ae (bB (PW.pt (eJ (dU (dz (a_ (gi (c:="tuple")) (by rfl) T.isi iT (af (pv 0) (pa1 (gp (v:=.ty "tuple") rfl T.tuple iU rfl))))))
    (gA (a7 gF (pln T.len (pv 0)) ag (nomark _))))) (ao (aJ eK)) bu)
  (ae (fI (pv 0) (b_ rfl (aO (gx 1 kI.nd) (aO (gx 2 kI.nd) (aO (gx 3 kI.nd) bX)))))
  (ae (bB (PW.pt (eJ (dU (dz (uc G e (pa1 (pv 1))))) (eJ (dU (dz (uc G e (pa1 (pv 2))))) (gA (dU (dz (uc G e (pa1 (pv 3))))))))) (ao (aJ eK)) bu)
  (ao (aJ (iz (gk gF (pv 1) (pv 2) (nomark _)) (iz (gk gF (pv 2) (pv 3) (nomark _)) (lD (gk gF (pv 3) (pv 1) (nomark _))))))))),?_⟩
 refine⟨_,rfl,_,_,true,rfl,.tup d,F.t,_,rfl,iG ?_⟩;refine⟨_,rfl,t,_,rfl,.inr (SqT.of d),rfl,_,rfl,?_⟩;refine aC ⟨_,rfl,t,_,rfl,SqT.of d,rfl,_,_,rfl,_,_,rfl,_,_,rfl,rfl,?_⟩;have ne:∀{x y:Nat},x≠y->(!decide (V.int (x:Int)=V.int (y:Int)))=true:=λh=>by
  rw[eT,Il (by lia)];rfl
 refine⟨_,rfl,a,rfl,_,rfl,iG ⟨_,rfl,b,rfl,_,rfl,iG ⟨_,rfl,c,rfl,_,rfl,l5 ?_⟩⟩⟩;refine⟨_,rfl,_,rfl,rfl,_,rfl,?_⟩;rw[ne g];refine aL ⟨_,rfl,_,rfl,rfl,_,rfl,?_⟩;rw[ne i];refine aL ⟨_,rfl,_,rfl,rfl,?_⟩;rw[ne l];exact q
end
theorem mY:bootBuiltins "min" = some (.builtin "min"):=by decide +kernel
def Bg(t u:Tri):Prop:=(u=t\/u=(t.2.1,t.2.2,t.1)\/u=(t.2.2,t.1,t.2.1))/\u.1<=u.2.1/\u.1<=u.2.2
def kyT(u:Tri):List Int:=[(u.1:Int),(u.2.1:Int),(u.2.2:Int)]
theorem qR{us:List Tri}(h:aw H vs us):Tups K H vs (us.map kyT):=by
 induction h with
 |nil=>exact .nil
 |cons q _ b=>
  obtain⟨a,rfl,ha⟩:=q;exact .cons ⟨a,rfl,SqT.of ha,by simp[kyT]⟩ b
def zB(vs:List V)(H:Hp)(Q:VK)(t:Addr)(x:Tri):Prop:=vs=[.ref t]/\H t=some (.tup [.int (x.1:Int),.int (x.2.1:Int),.int (x.2.2:Int)])/\
 ∀r u H',Same H H'->H' r=some (.tup [.int (u.1:Int),.int (u.2.1:Int),.int (u.2.2:Int)])->Bg x u->Q (.ref r) H'
def sI:Sp:=λvs H Q _=>Exists (Ex2 (zB vs H Q))
theorem ib{a b:Int}{xs ys:List Int}(h:HT.lexLt (b::ys) (a::xs)=false):a<=b:=by
 unfold HT.lexLt at h
 split at h
 .lia
 have:=of_decide_eq_false h;lia
section
theorem kY:aP ["triple","a","b","c"] ["triple"] (ax jV):=by walk_at"sc"
theorem Ae{f:Addr}(U:Fun K "begun_least" "begun_least" jV f fd)(L:mg "min" = none):ak P w K mg base CX0 1 f fd ["triple"] sI:=by
 refine U.ok kY (by rintro _ _ _ _ ⟨_,_,rfl,_⟩;rfl) λT A outer s H vs Q E M h=>?_
 obtain⟨t,⟨a,b,c⟩,rfl,m,q⟩:=h;have m:H t=some (.tup [.int (a:Int),.int (b:Int),.int (c:Int)]):=m;refine⟨_,ae (fI (pv 0) (b_ rfl (aO (gx 1 kY.nd) (aO (gx 2 kY.nd) (aO (gx 3 kY.nd) bX)))))
  (ao (aJ (a_ (wt rfl M.units) (by rfl) L mY (pa1 (bj (af (aR (af (pv 1) (af (pv 2) (pa1 (pv 3))))) (af (aR (af (pv 2) (af (pv 3) (pa1 (pv 1))))) (pa1 (aR (af (pv 3) (af (pv 1) (pa1 (pv 2))))))))))))),?_⟩
 refine⟨_,rfl,t,_,rfl,SqT.of m,rfl,_,_,rfl,_,_,rfl,_,_,rfl,rfl,?_⟩;refine⟨_,rfl,_,rfl,_,rfl,lit3,λn H1 X s1 N=>?_⟩;refine⟨_,rfl,_,rfl,_,rfl,lit3,λo H2 Y s2 O=>?_⟩;refine⟨_,rfl,_,rfl,_,rfl,lit3,λp Z g3 r R=>?_⟩;refine⟨lit3,λl e g4 g S=>?_⟩;have x:=((s2.trans r).trans g) _ _ N;have z:=(r.trans g) _ _ O;have B:=g _ _ R;have u:=((s1.trans s2).trans r).trans g;have tr:aw e [V.ref n,.ref o,.ref p] [(a,b,c),(b,c,a),(c,a,b)]:=.cons ⟨n,rfl,x⟩ (.cons ⟨o,rfl,z⟩ (.cons ⟨p,rfl,B⟩ .nil));refine⟨l,_,_,rfl,SqL.of S,qR tr,by simp,λi y d v=>?_⟩;have C:=v 0 (by simp);have D:=v 1 (by simp);have I:=v 2 (by simp)
 match i,d with
 |0,d=>
  cases d;have h1:(a:Int)<=b:=ib D;have h2:(a:Int)<=c:=ib I;exact q n (a,b,c) e u x ⟨.inl rfl,by show a<=b;lia,by show a<=c;lia⟩
 |1,d=>
  cases d;have h1:(b:Int)<=a:=ib C;have h2:(b:Int)<=c:=ib I;exact q o (b,c,a) e u z ⟨.inr (.inl rfl),by show b<=c;lia,by show b<=a;lia⟩
 |2,d=>
  cases d;have h1:(c:Int)<=a:=ib C;have h2:(c:Int)<=b:=ib D;exact q p (c,a,b) e u B ⟨.inr (.inr rfl),by show c<=a;lia,by show c<=b;lia⟩
 |i+3,d=>simp at d
end
end K15
end
section
namespace L2
open PySem PySem.Spec PyProof.Rows
section
def tDM0(r:V->List V->Hp->VK->Prop)(to:TE):TE:=λZ H Q=>to Z H λx H1=>(∃a,x=.ref a/\IsD H1 a)/\r x [] H1 Q
theorem t8{o:Expr}{to:TE}{name:Str}{apos cpos:Pos}{id:String}{r:V->List V->Hp->VK->Prop}(slot:Slot "dict" name id)(c:typeOf (.builtin id)=pure (.type "method_descriptor"))(hm:MtM X id r)(d:PE X o to)
  (e:attributeBase o name X.env (eval o X.env)=eval o X.env:=by rfl) (f:(apos.endLine==cpos.line)=true:=by rfl):PE X (.Call (.Attribute o name apos) [] [] cpos) (tDM0 r to):=by
 intro Io s Z H Q I h;refine Gi e f (thn (d Io s Z H _ I h) λv s1 ⟨x,H1,b,g,⟨a,ex,hd⟩,i⟩=>?_);subst ex;obtain rfl:v=Value.ref a:=g;obtain⟨l,m,_⟩:=lK b hd;exact⟨"dict",id,iV,slot,c,l,m,iM rfl (F9 (hm Io s1 Z H1 (.ref a) [] (.ref a) [] Q b rfl .nil i))⟩
end
section
open PySem.W in
def Br(K:W.Frag):List V->Hp->VK->Prop:=λxs H Q=>∃(a:Addr)(u:HO),xs=[.ref a]/\Rd H a u/\cH u/\∀ks vs,DKV H u ks vs->
 (∃ns:List Int,ks=ns.map V.int/\ns.length<5000/\∀(p:Addr)(ms:List Int),H p=none->ms.Perm ns->ms.Pairwise (·<=·)->Q (.ref p) (upd H p (.lst (ms.map V.int)))) \/
 ∃c:List (List Int),Tups K H ks c/\ks.length<5000/\∀(p:Addr)(ix:List Nat),H p=none->ix.Perm (List.range ks.length)->(ix.map λi=>c.getD i []).Pairwise (λa b=>HT.lexLt b a=false)->Q (.ref p) (upd H p (.lst (ix.map λi=>ks.getD i .non)))
open PySem.W in
theorem pQ(n:X.calm=true):bJ X (.builtin "sorted") (Br []):=by
 intro Io s Z H xs us Q I r h;obtain⟨a,R,rfl,hd,p,k⟩:=h;obtain⟨u,rfl,q⟩:=Vals.one r;cases q;obtain⟨lo,ks,vs,es,ep,w,d,x,f,S⟩:=j4 I hd p;obtain⟨m,F⟩:=I.fr;have y:ks.length=es.size:=by have:=f.length;simpa using this
 refine kdu_sorted (dSrc (es:=es) (ep:=ep) lo) (I.ok.hd n) F (kO (g:=X.base) (L:=X.env.locals)) x (by rw[<-y];exact d) λD h' tk b A i B C E=>?_;obtain⟨K,M⟩:=I.newsKept (t':=s.toks) (more:=[(D,listOf b.toArray 0)]) F A i;have c:=i (D,listOf b.toArray 0) (.head _);have l:s.heap.get? D=none:=by
  cases e:s.heap.get? D with
  |none=>rfl
  |some o=>exact absurd (B (D,o) (mL c.2.1 c.2.2 e)) (cT _)
 have ev:b=es.toList.map (·.key):=by refine qd (by rw[C];simp) λj v e=>?_;obtain⟨N,rfl⟩:=E j v e;rw[List.getElem?_map];simp[N]
 have O:Inv X Io Z (upd H D (.lst ks)) {s with heap:=h',toks:=tk}:=I.laidN (t':=tk) K M l (λH'=>⟨d,b,0,by rw[ev];exact f,c.1⟩) (λ_ _ z=>by cases z);have z:=pX (X:=lX X) Io _ Z _ (.ref D) [] (.ref D) [] (λ_ H'=>Q (.ref D) H') O.toIn1 rfl .nil (qW (I.hok.none_of l) (k ks vs w));exact thn z λ_ s' ⟨_,H',J,_,P⟩=>⟨.ref D,H',J.ofIn1,rfl,P⟩
end
def Sm(H H':Hp):Prop:=∀b o,H b=some o->H' b=some o\/(cH o/\∃ob,H' b=some (.frz ob o))
theorem Sm.refl(H:Hp):Sm H H:=λ_ _ e=>.inl e
theorem Sm.of(s:Same H H'):Sm H H':=λb o e=>.inl (s b o e)
theorem Sm.trans{H H1 H2:Hp}(a:Sm H H1)(b:Sm H1 H2):Sm H H2:=λc o e=>by
 rcases a c o e with d|⟨hd,ob,d⟩
 .exact b c o d
 rcases b c _ d with f|⟨g,_⟩
 .exact .inr ⟨hd,ob,f⟩
 exact False.elim g
theorem Sm.free(s:Sm H H'){l:Addr}(h:H' l=none):H l=none:=by
 cases q:H l with
 |none=>rfl
 |some o=>rcases s l o q with e|⟨_,_,e⟩<;>(rw[h] at e;cases e)
theorem Sm.keep(s:Sm H H'){b:Addr}{o:HO}(e:H b=some o)(c:¬cH o):H' b=some o:=(s b o e).elim id λz=>(c z.1).elim
theorem Sm.rd(s:Sm H H'){b:Addr}{o:HO}(e:Rd H b o):Rd H' b o:=by
 rcases e with e|⟨ob,e⟩
 .rcases s b o e with z|⟨_,ob,z⟩
  .exact .inl z
  exact .inr ⟨ob,z⟩
 exact .inr ⟨ob,s.keep e (λz=>z)⟩
theorem Fz.sm{H H2:Hp}{d:Addr}{o:Obj}{u:HO}(f:Fz H H2 d o u):Sm H H2:=λb w e=>by
 by_cases c:b=d
 .subst c;rcases f.1 with z|z
  .rw[z] at e;cases e;exact .inr ⟨f.2.1,o,f.at⟩
  rw[z] at e;cases e;exact .inl f.at
 exact .inl ((f.ne c).trans e)
section
variable {d D:Addr}{o:Obj}{u:HO}{ks vs:List V}{g:TG}{tt:TT}{te:TE}{Z':St}{H1:Hp}{Q:Hp->Prop}
theorem qK(Pv:Nat->St->List V->Hp->Prop)(c:Pv 0 Z' [] (upd H1 D (.lst [])))(f:∀i Z ys H,i<=ks.length->Pv i Z ys H->H d=some (.frz o u))
  (h:∀i x Z ys H,ks[i]?=some x->Pv i Z ys H->g x Z H (kg tt te D ys (Pv (i+1))))
  (hd:∀Z ys H,Pv ks.length Z ys H->Q H):gz (Itk d o ks) g tt te D Z' H1 Q:=by
 refine⟨λi m Z ys H=>m=ks.length-i/\i<=ks.length/\Pv i Z ys H,⟨ks.length,by simp,aD _,c⟩,?_⟩;rintro i m Z ys H ⟨rfl,hi,p⟩;have q:=f i Z ys H hi p;by_cases b:i<ks.length
 .refine .inr ⟨⟨b,u,q⟩,Pv (i+1),λZ' n H' l=>⟨ks.length-(i+1),by lia,rfl,b,l⟩,λx H' y=>?_⟩;obtain⟨e,y⟩:=y;subst e;exact h i x Z ys _ y p
 have e:i=ks.length:=by lia
 subst e;exact .inl ⟨⟨ai _,u,q⟩,hd Z ys H p⟩
theorem yQ{tb:TS}{D:Ends}(Pv:Nat->St->Hp->Prop)(h:Pv 0 Z H)(l:∀i Z H,i<=ks.length->Pv i Z H->H d=some (.frz o u))
  (n:∀i x y p Z H,ks[i]?=some x->vs[i]?=some y->Pv i Z H->H p=none->g (.ref p) Z (upd H p (.tup [x,y])) λσ2 H2=>tb {D with nx:=Pv (i+1),ct:=Pv (i+1),bk:=D.nx} σ2 H2) (hd:∀Z H,Pv ks.length Z H->D.nx Z H) :
  ∃W:Nat->Nat->St->Hp->Prop,(∃m,W 0 m Z H)/\∀i m Z H,W i m Z H->
   ((Iti d o ks vs).stop i H/\D.nx Z H)\/((Iti d o ks vs).go i H/\∃N:St->Hp->Prop,(∀Z' H',N Z' H'->∃c,c<m/\W (i+1) c Z' H')/\∀x H',(Iti d o ks vs).yld i H x H'->g x Z H' λσ2 H2=>tb {D with nx:=N,ct:=N,bk:=D.nx} σ2 H2):=by
 refine⟨λi m Z H=>m=ks.length-i/\i<=ks.length/\Pv i Z H,⟨ks.length,by simp,aD _,h⟩,?_⟩;rintro i m Z H ⟨rfl,hi,p⟩;have q:=l i Z H hi p;by_cases f:i<ks.length
 .refine .inr ⟨⟨f,u,q⟩,Pv (i+1),λZ' H' r=>⟨ks.length-(i+1),by lia,rfl,f,r⟩,λx H' y=>?_⟩;obtain⟨b,k,v,s,rfl,rfl,w,z⟩:=y;exact n i k v b Z H w z p s
 have e:i=ks.length:=by lia
 subst e;exact .inl ⟨⟨ai _,u,q⟩,hd Z H p⟩
end
end L2
end
section
namespace K15
open PySem L2 K51 K31
def zu(vs:List V)(H:Hp)(Q:VK)(d:Addr)(l:List (Nat×Nat)):Prop:=vs=[.ref d]/\Rd H d (.dK (l.map nmV))/\l≠[]/\l.length<=1000/\
 ∀(s:Nat) H',Sm H H'->s∈l.map (·.1)->((∀o,(o,s)∉l)\/∀p,p∈l.map (·.1)->∃o,(o,p)∈l)->Q (.int (s:Int)) H'
def sy:Sp:=λvs H Q _=>Exists (Ex2 (zu vs H Q))
theorem nm_keys(l:List (Nat×Nat)):(l.map nmV).map (λp=>kV p.1)=nV (l.map (·.1)):=by rw[List.map_map];unfold nV;rw[List.map_map];rfl
theorem BO(l:List (Nat×Nat)):(l.map nmV).map (·.2)=nV (l.map (·.2)):=by rw[List.map_map];unfold nV;rw[List.map_map];rfl
section
theorem nJ:aP ["onward","reached","begins"] ["onward"] (ax jS):=by walk_at"sc"
theorem Ab{f:Addr}(U:Fun K "first_of" "first_of" jS f fd)(T:bD mg)(mN:mg "min" = none):ak P w K mg base CX0 1 f fd ["onward"] sy:=by
 refine U.ok nJ (by rintro _ _ _ _ ⟨_,_,rfl,_⟩;rfl) λIp A outer s H vs Q E hr h=>?_
 obtain⟨d,l,rfl,hd,ad,hl,q⟩:=h;refine⟨_,ae (sx 1 nJ.nd (cy (we rfl) (by rfl) T.list gR (pa1 (t8 FX PySem.F.type_dict_values yv (pv 0)))))
  (ae (nQ (i:=2) (N:=["p","reached"]) (fr:=[none,some 1]) (tt:=j5 (tOp (rIn [] true) (aV 0) (aV 1))) (bW (by decide +kernel) rfl rfl (by decide +kernel) (by decide +kernel) (by walk_at"cs") (by walk_at"ct")) rfl (jD (pv 0))
    (λC' s' H' fp Io=>⟨gx 0 (by decide:(["p","reached"]:List Str).Nodup),dS (a7 i5 (pv 0) (pv 1) rfl),pv 0⟩) nJ.nd rfl (.inl rfl))
  (ao (aJ (zR (m8 (pv 2) (λ_=>rfl)) (ixx bG (pv 2) ag) (a_ (pT rfl) (by rfl) mN mY (pa1 (pv 0))))))),?_⟩
 have ap:=line5000;refine⟨_,rfl,⟨d,rfl,.inl ⟨_,hd⟩⟩,d,_,rfl,rfl,hd,λv hv=>?_⟩;walk_at"H v hv H1 s1 y1";have O:=(Sm.of s1).rd hd;refine⟨v,d,_,rfl,y1,O,λr al=>?_⟩;walk_at"H1 r al H2 s2 R";have am:=(Sm.of s2).rd O;rw[BO] at R;refine⟨_,rfl,d,_,rfl,am,True.intro,λks vs o S hk g=>?_⟩;have ek:ks=nV (l.map (·.1)):=by
  rcases hk with ⟨kvs,e,e1,_⟩|⟨kvs,as,e,_⟩
  .cases e;rw[e1,nm_keys]
  cases e
 subst ek;have y3:S r=some (.lst (nV (l.map (·.2)))):=g.sm.keep R (λz=>z);refine λZ_ X=>qK (d:=d) (o:=o) (u:=.dK (l.map nmV)) (ks:=nV (l.map (·.1))) (λi Z ys H'=>∃o,Z=[o,some (.ref r)]/\ys=nV (((l.map (·.1)).take i).filter λp=>decide (p∉l.map (·.2)))/\Same S H'/\H' Z_=some (.lst ys)) ⟨none,rfl,rfl,bf X,aG⟩ (by rintro i Z ys H' _ ⟨_,_,_,e,_⟩;exact e _ _ g.at) ?_ ?_
 .rintro i y Z ys H' hi ⟨o,rfl,rfl,c,Y⟩;rw[nV,List.getElem?_map] at hi;obtain⟨n,D,rfl⟩:=aY.mp hi;have et:(l.map (·.1)).take (i+1)=(l.map (·.1)).take i++[n]:=by rw[List.take_add_one,D];rfl
  refine⟨_,rfl,_,rfl,r,_,rfl,.inl (SqL.of (c _ _ y3)),rfl,gq _,_,rfl,?_⟩;show if (if true=true then !inV (V.int (n:Int)) (nV (l.map (·.2))) else _)=true then _ else _
  rw[Ij rfl,fK];by_cases B:n∈l.map (·.2)
  .rw[Ik B];refine aC ⟨_,rfl,?_,c,Y⟩;rw[et,List.filter_append,List.filter_cons,Ii (by simpa using B),List.filter_nil,List.append_nil]
  rw[Il B];refine aL ⟨_,rfl,Y,?_,λHn kn yn=>⟨_,rfl,?_,λb o e=>(kn b (ah e X)).trans (c _ _ e),yn⟩⟩
  .rw[aK];have h1:=List.length_filter_le (λp=>decide (p∉l.map (·.2))) ((l.map (·.1)).take i);rw[List.length_take,List.length_map] at h1;lia
  rw[et,List.filter_append,List.filter_cons,Ij (by simpa using B),List.filter_nil,<-cR];rfl
 rintro Z ys I ⟨o',rfl,rfl,c,C⟩;rw[aK,List.take_length] at C;have ab:Sm H I:=((Sm.of (s1.trans s2)).trans g.sm).trans (Sm.of c);have L:∀x,x∈((l.map (·.1)).filter λp=>decide (p∉l.map (·.2)))↔x∈l.map (·.1)/\x∉l.map (·.2):=λx=>by rw[List.mem_filter,decide_eq_true_eq]
 have an:∀x,x∉l.map (·.2)->∀o,(o,x)∉l:=λx hx o M=>hx (List.mem_map.mpr ⟨_,M,rfl⟩);generalize ((l.map (·.1)).filter λp=>decide (p∉l.map (·.2)))=bs at L C;refine⟨_,rfl,_,.inl ⟨_,SqL.of C,rfl⟩,?_⟩;cases bs with
 |cons b bs=>
  refine aL ⟨_,rfl,Z_,_,_,_,rfl,rfl,SqL.of C,cQ (j:=0) rfl,?_⟩;obtain⟨h1,h2⟩:=(L b).mp (by simp);exact q b I ab h1 (.inl (an b h2))
 |nil=>
  refine aC ⟨_,rfl,d,_,(l.map (·.1)).map (λn:Nat=>(n:Int)),rfl,(Sm.of c).rd (.inr ⟨_,g.at⟩),by rw[nm_keys,List.map_map];rfl,?_,λm hm aM=>?_⟩
  .cases l with
   |nil=>exact absurd rfl ad
   |cons a l=>simp
  obtain⟨n,D,rfl⟩:=List.mem_map.mp hm;refine q n I ab D (.inr λp hp=>?_);have:p∈l.map (·.2):=iN λz=>by
   have:=(L p).mpr ⟨hp,z⟩;cases this
  obtain⟨⟨o,p'⟩,M,rfl⟩:=List.mem_map.mp this;exact⟨o,M⟩
end
structure Abt(E:Nat->Nat->Nat->Prop)(v:Nat)(l:List (Nat×Nat)):Prop where
 nd:(l.map (·.1)).Nodup
 mem:∀p q,(p,q)∈l↔E v p q
def Bb(vs:List V)(H:Hp)(Q:VK)(d:Addr)(l:List (Nat×Nat))(E:Nat->Nat->Nat->Prop)(v:Nat):Prop:=vs=[.ref d]/\Rd H d (.dK (l.map nmV))/\l≠[]/\l.length<=1000/\Sk E/\Abt E v l/\
 ∀(b:Bool) H',Sm H H'->(b=true↔One E v)->Q (.bl b) H'
def tY:Sp:=λvs H Q _=>Exists (Ex4 (Bb vs H Q))
theorem drop_nm(l:List (Nat×Nat))(c:Nat):eN (l.map nmV) (Sum.inl (c:Int):Key)=(l.filter λx=>decide (x.1≠c)).map nmV:=by
 unfold eN;rw[List.filter_map]
 congr 1
 apply List.filter_congr;intro x _;show decide ((Sum.inl (x.1:Int):Key)≠Sum.inl (c:Int))=decide (x.1≠c);by_cases h:x.1=c
 .simp[h]
 have z:¬(Sum.inl (x.1:Int):Key)=Sum.inl (c:Int):=λz=>h (by have:(x.1:Int)=(c:Int):=fe z;lia);simp only[ne_eq,h,z,not_false_eq_true]
theorem filter_lt{α:Type}(l:List α)(f:α->Bool){x:α}(b:x∈l)(hf:f x=false):(l.filter f).length<l.length:=by
 induction l with
 |nil=>cases b
 |cons a l c=>
  rw[List.filter_cons];have:=List.length_filter_le f l;rcases List.mem_cons.mp b with e|h
  .subst e;rw[Ii (by rw[hf];decide),List.length_cons];lia
  have:=c h
  split<;>simp only[List.length_cons]<;>lia
section
theorem lA:aP ["about","at","left"] ["about"] (ax j9):=by walk_at"sc"
theorem BI{f f1:Addr}{fd d1:FuncData}(U:Fun K "hang_together" "hang_together" j9 f fd)(T:bD mg)(mD:mg "dict" = none)(G:Use P w K mg base 1 "first_of" ["onward"] sy f1 d1) :
  ak P w K mg base CX0 2 f fd ["about"] tY:=by
 refine U.ok lA (by rintro _ _ _ _ ⟨_,_,_,_,rfl,_⟩;rfl) λIp A outer s H vs Q E X h=>?_
 obtain⟨d,l,E,v,rfl,hd,am,Y,k,ab,q⟩:=h;have hu:=bI X;refine⟨_,ae (sx 1 lA.nd (uc G X (pa1 (pv 0))))
  (ae (sx 2 lA.nd (cy wg (by rfl) mD FL (pa1 (pv 0))))
  (ae (fB aZ (eG (oy hu (pv 1) (pv 2))) (ao (sx 1 lA.nd (rj (pv 2) (pv 1) ⟨rfl,rfl,rfl,rfl⟩))))
  (ao (aJ (gk dM (a_ y0 (by rfl) T.len pB (pa1 (pv 2))) ag (nomark _)))))),?_⟩
 refine⟨_,rfl,d,l,rfl,hd,am,Y,λs1 H1 M an ap=>?_⟩;refine⟨_,rfl,d,_,rfl,M.rd hd,λp g=>?_⟩;walk_at"H1 p g H2 s2 y2";have aM:(∀o,¬E v o s1)\/∀p,(∃q,E v p q)->∃o,E v o p:=by
  rcases ap with h|h
  .exact .inl λo N=>h o ((ab.mem _ _).mpr N)
  refine .inr λp ⟨q,n⟩=>?_;obtain⟨o,N⟩:=h p (List.mem_map.mpr ⟨_,(ab.mem _ _).mpr n,rfl⟩);exact⟨o,(ab.mem _ _).mp N⟩
 refine⟨λm Z H'=>∃(L:List Nat)(at_:Nat)(lf:List (Nat×Nat)),Z=[some (.ref d),some (.int (at_:Int)),some (.ref p)]/\m=lf.length/\Sm H H'/\H' p=some (.dK (lf.map nmV))/\lf.length<=1000/\(lf.map (·.1)).Nodup/\(∀x,x∈lf↔x∈l/\x.1∉L)/\
  L.Nodup/\(∀p∈L,∃q,E v p q)/\(∀i p q,L[i]?=some p->L[i+1]?=some q->E v p q)/\(L=[]/\at_=s1\/L.head?=some s1/\∀p,L.getLast?=some p->E v p at_),
  ⟨_,[],s1,l,rfl,rfl,M.trans (Sm.of s2),y2,Y,ab.nd,by simp,List.nodup_nil,by simp,by simp,.inl ⟨rfl,rfl⟩⟩,?_⟩
 rintro m Z H' ⟨L,at_,lf,rfl,rfl,sm,C,bd,nd,mem,ad,key,ch,D⟩;refine⟨_,rfl,_,rfl,p,_,rfl,DGet.k (k:=Sum.inl (at_:Int)) C,?_⟩;by_cases I:at_∈lf.map (·.1)
 .obtain⟨i,x,h1,h2,_⟩:=nm_val I;have hx:(at_,x)∈lf:=List.mem_of_getElem? h1;obtain⟨a0,a1⟩:=(mem _).mp hx;have hE:E v at_ x:=(ab.mem _ _).mp a0;refine⟨true,by rw[h2];rfl,?_⟩;refine aL ⟨λZ' O=>∃(L:List Nat)(B:Nat)(u:List (Nat×Nat)),Z'=[some (.ref d),some (.int (B:Int)),some (.ref p)]/\u.length<lf.length/\Sm H O/\O p=some (.dK (u.map nmV))/\u.length<=1000/\(u.map (·.1)).Nodup/\(∀x,x∈u↔x∈l/\x.1∉L)/\
   L.Nodup/\(∀p∈L,∃q,E v p q)/\(∀i p q,L[i]?=some p->L[i+1]?=some q->E v p q)/\(L=[]/\B=s1\/L.head?=some s1/\∀p,L.getLast?=some p->E v p B),
   λZ' O ⟨L,B,u,e,R,r⟩=>⟨_,R,L,B,u,e,rfl,r⟩,?_⟩
  refine⟨_,rfl,p,rfl,.inl ⟨_,.inl C⟩,_,rfl,_,Sum.inl (at_:Int),_,C,rfl,h2,?_⟩;rw[drop_nm];have a2:H p=none:=(M.free g);have R:=filter_lt lf (λy=>decide (y.1≠at_)) hx (by simp);refine λH3 k3 y3=>⟨L++[at_],x,lf.filter λy=>decide (y.1≠at_),rfl,R,λb o e=>?_,y3,by lia,?_,λy=>?_,?_,λy hy=>?_,λi p q g n=>?_,.inr ⟨?_,λp g=>?_⟩⟩
  .rw[k3 _ (ah e a2)];exact sm b o e
  .exact nd.sublist (List.Sublist.map _ List.filter_sublist)
  .rw[List.mem_filter,mem y,List.mem_append,List.mem_singleton,decide_eq_true_eq];constructor
   .rintro⟨⟨a,b⟩,c⟩;exact⟨a,λz=>z.elim b c⟩
   rintro⟨a,b⟩;exact⟨⟨a,λz=>b (.inl z)⟩,λz=>b (.inr z)⟩
  .rw[List.nodup_append];exact⟨ad,by simp,λa ha b hb=>by rw[List.mem_singleton] at hb;rintro rfl;rw[hb] at ha;exact a1 ha⟩
  .rcases List.mem_append.mp hy with h|h
   .exact key y h
   rw[List.mem_singleton.mp h];exact⟨x,hE⟩
  .by_cases hi:i+1<L.length
   .rw[List.getElem?_append_left (by lia)] at g;rw[List.getElem?_append_left hi] at n;exact ch i p q g n
   by_cases a3:i+1=L.length
   .rw[List.getElem?_append_left (by lia)] at g;rw[List.getElem?_append_right (by lia)] at n;have:i+1-L.length=0:=by lia
    rw[this] at n;simp at n;subst n;rcases D with ⟨rfl,_⟩|⟨_,h⟩
    .simp at a3
    exact h p (by rw[List.getLast?_eq_getElem?,show L.length-1=i by lia];exact g)
   rw[List.getElem?_append_right (by lia)] at n;have:=(List.getElem?_eq_some_iff.mp n).1;rw[List.length_singleton] at this;lia
  .rcases D with ⟨rfl,rfl⟩|⟨h,_⟩
   .rfl
   cases L with
   |nil=>cases h
   |cons a L=>exact h
  rw[List.getLast?_append] at g;simp at g;subst g;exact hE
 refine⟨false,by rw[val_nm I];rfl,aC ?_⟩;have al:L≠[]:=by
  rintro rfl;rcases D with ⟨_,rfl⟩|⟨h,_⟩
  .obtain⟨⟨a,b⟩,h1,rfl⟩:=List.mem_map.mp an;exact I (List.mem_map.mpr ⟨_,(mem _).mpr ⟨h1,by simp⟩,rfl⟩)
  cases h
 obtain⟨hh,a4⟩:L.head?=some s1/\∀p,L.getLast?=some p->E v p at_:=D.resolve_left λz=>al z.1;have a5:=As k al ad key ch a4 (λ⟨r,S⟩=>iN λz=>I (List.mem_map.mpr ⟨_,(mem (at_,r)).mpr ⟨(ab.mem _ _).mpr S,z⟩,rfl⟩)) hh aM;refine⟨_,rfl,p,_,rfl,C,rfl,?_⟩;rw[List.length_map];refine q _ H' sm ?_;rw[eT,decide_eq_true_eq,<-a5];constructor
 .intro h0 p ⟨r,S⟩;have:lf=[]:=List.length_eq_zero_iff.mp (by lia);refine iN λz=>?_;have:=(mem (p,r)).mpr ⟨(ab.mem _ _).mpr S,z⟩;rw[‹lf=[]›] at this;cases this
 intro bb;have:lf=[]:=by
  cases lf with
  |nil=>rfl
  |cons y lf=>
   obtain⟨h1,h2⟩:=(mem y).mp (by simp);obtain⟨a,b⟩:=y;exact absurd (bb a ⟨b,(ab.mem _ _).mp h1⟩) h2
 rw[this];rfl
end
def xj(vs:List V)(H:Hp)(Q:VK)(T:Addr)(b:List V)(ts:List Tri):Prop:=vs=[.ref T]/\H T=some (.lst b)/\aw H b ts/\ts.length<=400/\(∀t∈ts,t.1≠t.2.1/\t.2.1≠t.2.2/\t.2.2≠t.1)/\
 ∀r c H',H r=none->Same H H'->H' r=some (.lst c)->aw H' c ts->Q (.ref r) H'
def qw:Sp:=λvs H Q _=>Exists (Ex3 (xj vs H Q))
def EnAt(H:Hp)(v:V)(e:Ent):Prop:=∃u s,v=.ref u/\H u=some (.tup [.ref s,.int (e.2:Int)])/\H s=some (.tup ((ky e.1.1 e.1.2).map kV))
section
theorem gg:aP ["things","triples","k","thing","a","b","c"] ["things"] (ax jj):=by walk_at"sc"
theorem xx{f f1:Addr}{fd d1:FuncData}(U:Fun K "checked_triples" "checked_triples" jj f fd)(T:bD mg)(G:Use P w K mg base 3 "is_triple" ["thing"] qa f1 d1) :
  ak P w K mg base CX0 4 f fd ["things"] qw:=by
 refine U.ok gg (by rintro _ _ _ _ ⟨_,_,_,rfl,_⟩;rfl) λIp A outer s H vs Q E hr h=>?_
 obtain⟨u,O,ts,rfl,R,S,hl,ab,q⟩:=h;refine⟨_,ae (sx 1 gg.nd (bj cF))
  (ae (bh aZ rfl (nU rfl T.enum (pa1 (pv 0))) (b_ rfl (aO (gx 2 gg.nd) (aO (gx 3 gg.nd) bX)))
   (ae (bB (dU (dz (uc G hr (pa1 (pv 3))))) fk bu)
   (ae (fI (pv 3) (b_ rfl (aO (gx 4 gg.nd) (aO (gx 5 gg.nd) (aO (gx 6 gg.nd) bX)))))
   (ao (bF (bH bR cM cN cz (pv 1) (pa1 (aR (af (cy kL (by rfl) T.int mw (pa1 (pv 4))) (af (cy kL (by rfl) T.int mw (pa1 (pv 5))) (pa1 (cy kL (by rfl) T.int mw (pa1 (pv 6))))))))))))))
  (ao (aJ (pv 1)))),?_⟩
 have al:=line5000;have hlen:=az S;refine⟨aD _,λr H1 X s1 y1=>?_⟩;refine⟨_,rfl,u,O,rfl,SqL.of (s1 _ _ R),nv (K:=[]) (a:=u) (xs:=O) (λi Z H'=>∃v y B C D l,Z=[some (V.ref u),some (.ref r),v,y,B,C,D]/\Same H H'/\H' r=some (.lst l)/\aw H' l (ts.take i))
  ⟨none,none,none,none,none,[],rfl,s1,y1,.nil⟩ (λi Z H' _ ⟨_,_,_,_,_,_,_,e,_⟩=>SqL.of (e _ _ R)) ?_ ?_⟩
 .rintro i x p Z H2 hi ⟨v,y,B,C,D,l,rfl,sm,m,tr⟩ hp;obtain⟨⟨a,b,c⟩,Y,t,rfl,n⟩:=bM S hi;have n:H t=some (.tup [.int (a:Int),.int (b:Int),.int (c:Int)]):=n;have et:ts.take (i+1)=ts.take i++[(a,b,c)]:=by rw[List.take_add_one,Y];rfl
  walk_at"H2 p hp H3 d y3";refine⟨p,_,rfl,SqT.of y3,rfl,_,_,rfl,_,_,rfl,rfl,?_⟩;refine⟨_,rfl,t,(a,b,c),rfl,d _ _ (sm _ _ n),ab _ (List.mem_of_getElem? Y),_,rfl,l5 ?_⟩;refine⟨_,rfl,t,_,rfl,SqT.of (d _ _ (sm _ _ n)),rfl,_,_,rfl,_,_,rfl,_,_,rfl,rfl,?_⟩;refine⟨_,rfl,.inl ⟨rfl,_,SqL.of (d _ _ m)⟩,_,rfl,.inl ⟨_,rfl,_,rfl,.inl ⟨_,rfl,_,rfl,.inl ⟨_,rfl,lit3,λt1 H4 g1 I y4=>?_⟩⟩⟩⟩;have L:=I _ _ (d _ _ m);have l1:=az tr;rw[List.length_take] at l1;refine⟨r,_,_,rfl,rfl,L,by lia,λH5 M y5=>?_⟩;have ad:H r=none:=X;have n1:∀g o,H g=some o->g≠r:=λg o e=>ah e ad;refine⟨_,_,_,_,_,_,rfl,λg o e=>(M g (n1 g o e)).trans (I _ _ (d _ _ (sm _ _ e))),y5,?_⟩;rw[et];exact cB (Paired.imp' (λv' t' ⟨a',e,N⟩=>⟨a',e,(M a' (λz=>by rw[z,m] at N;cases N)).trans (I _ _ (d _ _ N))⟩) tr) (.cons ⟨t1,rfl,(M t1 (λz=>by rw[<-z,y4] at L;cases L)).trans y4⟩ .nil)
 rintro Z H2 ⟨v,y,B,C,D,l,rfl,sm,m,tr⟩;rw[hlen,List.take_length] at tr;exact⟨_,rfl,q r l H2 X sm m tr⟩
theorem fu:aP ["triples","thirds","k","a","b","c","side","third"] ["triples"] (ax jA):=by walk_at"sc"
theorem yp{f:Addr}(U:Fun K "thirds_by_side" "thirds_by_side" jA f fd)(T:bD mg):ak P w K mg base CX0 1 f fd ["triples"] ft:=by
 refine U.ok fu (by rintro _ _ _ _ ⟨_,_,_,rfl,_⟩;rfl) λIp A outer s H vs Q E hr h=>?_
 obtain⟨C,vt,ts,rfl,hT,ht,hl,ad,q⟩:=h;have hu:=bI hr;refine⟨_,ae (sx 1 fu.nd m_)
  (ae (bh aZ rfl (nU rfl T.enum (pa1 (pv 0))) (b_ rfl (aO (gx 2 fu.nd) (aO (b_ rfl (aO (gx 3 fu.nd) (aO (gx 4 fu.nd) (aO (gx 5 fu.nd) bX)))) bX)))
   (ao (bh aZ rfl (ba (bj (af (aR (af (aR (af (pv 3) (pa1 (pv 4)))) (pa1 (pv 5)))) (af (aR (af (aR (af (pv 4) (pa1 (pv 5)))) (pa1 (pv 3)))) (pa1 (aR (af (aR (af (pv 5) (pa1 (pv 3)))) (pa1 (pv 4))))))))) (b_ rfl (aO (gx 6 fu.nd) (aO (gx 7 fu.nd) bX)))
    (ae (bB (eG (oy hu (pv 6) (pv 1))) fk bu)
    (ao (dI hu (pv 1) (pv 6) (pv 7) rfl))))))
  (ao (aJ (pv 1)))),?_⟩
 have a2:=line5000;have hlen:=az ht;refine λD H1 h1 s1 y1=>?_;refine⟨_,rfl,C,vt,rfl,SqL.of (s1 _ _ hT),nv (K:=[]) (a:=C) (xs:=vt) (λi Z H2=>∃v2 v3 v4 v5 I L,Z=[some (.ref C),some (.ref D),v2,v3,v4,v5,I,L]/\Same H H2/\H2 D=some (.dT ((ents (ts.take i)).map aS)))
  ⟨none,none,none,none,none,none,rfl,s1,y1⟩ (λi Z H2 _ ⟨_,_,_,_,_,_,_,e,_⟩=>SqL.of (e _ _ hT)) ?_ ?_⟩
 .rintro i x p Z H2 hi ⟨v2,v3,v4,v5,I,L,rfl,sm,N⟩ hp;obtain⟨⟨a,b,c⟩,hs,t,rfl,hb⟩:=bM ht hi;have hb:H t=some (.tup [.int (a:Int),.int (b:Int),.int (c:Int)]):=hb;have et:ts.take (i+1)=ts.take i++[(a,b,c)]:=by rw[List.take_add_one,hs];rfl
  walk_at"H2 p hp H3 s3 y3";refine⟨p,_,rfl,SqT.of y3,rfl,_,_,rfl,_,_,rfl,t,_,rfl,SqT.of (s3 _ _ (sm _ _ hb)),rfl,_,_,rfl,_,_,rfl,_,_,rfl,rfl,rfl,?_⟩;refine⟨_,rfl,_,rfl,lit2,λsa H4 ga s4 y4=>?_⟩;refine⟨_,rfl,lit2,λO H5 a3 s5 y5=>?_⟩;refine⟨_,rfl,_,rfl,lit2,λsb H6 gb s6 y6=>?_⟩;refine⟨_,rfl,lit2,λR H7 a4 S y7=>?_⟩;refine⟨_,rfl,_,rfl,lit2,λsc H8 gc s8 y8=>?_⟩;refine⟨_,rfl,lit2,λuc H9 a5 s9 y9=>?_⟩;refine⟨lit3,λM g gM sA X=>?_⟩;have an:Same H3 H7:=((s4.trans s5).trans s6).trans S;have v:Same H7 g:=(s8.trans s9).trans sA;have al:Same H3 g:=an.trans v;have en:Paired (EnAt g) [V.ref O,.ref R,.ref uc] [((a,b),c),((b,c),a),((c,a),b)]:=
   .cons ⟨O,sa,rfl,v _ _ (S _ _ (s6 _ _ y5)),v _ _ (S _ _ (s6 _ _ (s5 _ _ y4)))⟩ (.cons ⟨R,sb,rfl,v _ _ y7,v _ _ (S _ _ y6)⟩ (.cons ⟨uc,sc,rfl,sA _ _ y9,sA _ _ (s9 _ _ y8)⟩ .nil))
  have Y:g D=some (.dT ((ents (ts.take i)).map aS)):=al _ _ (s3 _ _ N);have ab:((ents (ts.take (i+1))).map (·.1)).Nodup:=by rw[<-List.take_append_drop (i+1) ts,dQ,List.map_append,List.nodup_append] at ad;exact ad.1
  have ee:ents (ts.take (i+1))=ents (ts.take i)++[((a,b),c),((b,c),a),((c,a),b)]:=by rw[et,dQ];simp[ents]
  rw[ee] at ab;have l0:=df (ts.take i);rw[List.length_take] at l0;have ap:Same H g:=(sm.trans s3).trans al;generalize aM:[((a,b),c),((b,c),a),((c,a),b)]=d at en ab ee;have a0:d.length=3:=by rw[<-aM];rfl
  have a1:M≠D:=λz=>by rw[z,Y] at X;cases X
  refine⟨M,rfl,⟨_,SqL.of X⟩,cA (K:=[]) (a:=M) (xs:=[V.ref O,.ref R,.ref uc]) (λj Z H'=>∃w6 w7,Z=[some (.ref C),some (.ref D),some (.int (i:Int)),some (.int (a:Int)),some (.int (b:Int)),some (.int (c:Int)),w6,w7]/\(∀l o,l≠D->g l=some o->H' l=some o)/\H' D=some (.dT ((ents (ts.take i)++d.take j).map aS)))
   ⟨I,L,rfl,λ_ _ _ e=>e,by rw[List.take_zero,List.append_nil];exact Y⟩ (λj Z H' _ ⟨_,_,_,e,_⟩=>SqL.of (e _ _ a1 X)) ?_ ?_⟩
  .rintro j x Z H' hj ⟨w6,w7,rfl,but,y⟩;obtain⟨⟨⟨m,n⟩,o⟩,ho,u,sd,rfl,B,r⟩:=bM en hj;have B:g u=some (.tup [.ref sd,.int (o:Int)]):=B;have r:g sd=some (.tup ((ky m n).map kV)):=r;have ej:d.take (j+1)=d.take j++[((m,n),o)]:=by rw[List.take_add_one,ho];rfl
   have bb:j<d.length:=(List.getElem?_eq_some_iff.mp ho).1;have am:(m,n)∉(ents (ts.take i)++d.take j).map (·.1):=by rw[<-List.take_append_drop (j+1) d,ej,List.append_assoc,<-List.append_assoc,List.map_append,List.nodup_append] at ab;exact λz=>ab.2.2 _ z (m,n) (by simp) rfl
   have nu:u≠D:=λz=>by rw[z,Y] at B;cases B
   have ns:sd≠D:=λz=>by rw[z,Y] at r;cases r
   refine⟨u,_,rfl,SqT.of (but _ _ nu B),rfl,_,_,rfl,_,_,rfl,rfl,?_⟩;refine⟨_,rfl,_,rfl,D,_,rfl,DGet.t (k:=ky m n) y (but _ _ ns r),false,by rw[dB.mpr am];rfl,aC ?_⟩;refine⟨_,rfl,_,rfl,_,rfl,D,_,rfl,DPut.t (k:=ky m n) y (but _ _ ns r) (by rw[List.length_map,List.length_append,List.length_take];lia),?_⟩;rw[k0 am];walk_at"H' D Hb kb yb";exact⟨_,_,rfl,λl o e1 e2=>(kb l e1).trans (but l o e1 e2),by rw[yb,ej,List.append_assoc]⟩
  rintro Z H' ⟨w6,w7,rfl,but,y⟩;have:d.take [V.ref O,.ref R,.ref uc].length=d:=List.take_of_length_le (by rw[a0];exact ai 3);rw[this] at y;exact⟨_,_,_,_,_,_,rfl,λl o e=>but l o (ah e h1) (ap _ _ e),by rw[y,ee]⟩
 rintro Z H2 ⟨v2,v3,v4,v5,I,L,rfl,sm,N⟩;rw[hlen,List.take_length] at N;exact⟨_,rfl,q D H2 h1 sm N⟩
end
def stV(x:Nat×Addr):Key×V:=(Sum.inl (x.1:Int),V.ref x.2)
theorem Cw{L:List (Nat×Addr)}{c:Nat}(h:c∉L.map (·.1)):aI (L.map stV) (Sum.inl (c:Int):Key)=none:=by
 induction L with
 |nil=>simp[aI]
 |cons x L b=>
  rw[List.map_cons,List.mem_cons,not_or] at h;rw[List.map_cons,du (λz=>h.1 ?_)]
  .exact b h.2
  have:(x.1:Int)=(c:Int):=fe z;lia
theorem lq{L:List (Nat×Addr)}{c:Nat}(h:c∈L.map (·.1)):∃a,(c,a)∈L/\aI (L.map stV) (Sum.inl (c:Int):Key)=some (V.ref a):=by
 induction L with
 |nil=>cases h
 |cons y L d=>
  obtain⟨b,x⟩:=y;by_cases e:b=c
  .subst e;exact⟨x,by simp,eD (p:=stV (b,x)) (r:=L.map stV) rfl⟩
  rw[List.map_cons] at h;obtain⟨a,h1,h2⟩:=d ((List.mem_cons.mp h).resolve_left λz=>e z.symm);refine⟨a,List.mem_cons_of_mem _ h1,?_⟩;rw[List.map_cons,du (λz=>e ?_)]
  .exact h2
  have:(b:Int)=(c:Int):=fe z;lia
def abt(es:List Ent)(c:Nat):List (Nat×Nat):=(es.filter λe=>decide (e.1.1=c)).map λe=>(e.1.2,e.2)
theorem il{es:List Ent}{c p q:Nat}:(p,q)∈abt es c↔((c,p),q)∈es:=by
 unfold abt;rw[List.mem_map];constructor
 .rintro⟨⟨⟨a,b⟩,d⟩,h1,h2⟩;rw[List.mem_filter,decide_eq_true_eq] at h1;obtain⟨h1,rfl⟩:=h1;cases h2;exact h1
 intro h;exact⟨_,List.mem_filter.mpr ⟨h,Ik rfl⟩,rfl⟩
theorem tO(es:List Ent)(c:Nat):(abt es c).length<=es.length:=by unfold abt;rw[List.length_map];exact List.length_filter_le _ _
theorem rQ{es:List Ent}{c p:Nat}(h:p∈(abt es c).map (·.1)):(c,p)∈es.map (·.1):=by obtain⟨⟨b,q⟩,h1,rfl⟩:=List.mem_map.mp h;exact List.mem_map.mpr ⟨_,il.mp h1,rfl⟩
theorem D5{es:List Ent}(h:(es.map (·.1)).Nodup)(c:Nat):((abt es c).map (·.1)).Nodup:=by
 induction es with
 |nil=>simp[abt]
 |cons e es d=>
  rw[List.map_cons,List.nodup_cons] at h;by_cases he:e.1.1=c
  .have b:abt (e::es) c=(e.1.2,e.2)::abt es c:=by unfold abt;rw[List.filter_cons,Ij (Ik he)];rfl
   rw[b,List.map_cons,List.nodup_cons];refine⟨λz=>h.1 ?_,d h.2⟩;have:=rQ z;rw[<-he] at this;exact this
  have b:abt (e::es) c=abt es c:=by unfold abt;rw[List.filter_cons,Ii (by simpa using he)]
  rw[b];exact d h.2
theorem nB(es:List Ent)(c p q b:Nat):abt (es++[((c,p),q)]) b=if c=b then abt es b++[(p,q)] else abt es b:=by
 unfold abt;rw[List.filter_append,List.map_append,List.filter_cons];by_cases h:c=b
 .rw[Ij h,Ij (Ik h)];rfl
 rw[Ii h,Ii (by simpa using h)];simp
structure StAt(H0 H:Hp)(S:Addr)(es:List Ent)(L:List (Nat×Addr)):Prop where
 at_:H S=some (.dK (L.map stV))
 len:L.length<=es.length
 nk:(L.map (·.1)).Nodup
 na:(L.map (·.2)).Nodup
 fr:∀x∈L,H0 x.2=none/\x.2≠S
 ab:∀x∈L,H x.2=some (.dK ((abt es x.1).map nmV))
 key:∀c,c∈L.map (·.1)↔∃p q,((c,p),q)∈es
def zi(vs:List V)(H:Hp)(Q:VK)(D:Addr)(es:List Ent):Prop:=vs=[.ref D]/\H D=some (.dT (es.map aS))/\(es.map (·.1)).Nodup/\es.length<=1200/\
 ∀S L H',H S=none->Sm H H'->StAt H H' S es L->Q (.ref S) H'
def rY:Sp:=λvs H Q _=>Exists (Ex2 (zi vs H Q))
theorem BQ{L:List (Nat×Addr)}(nk:(L.map (·.1)).Nodup)(na:(L.map (·.2)).Nodup){c d:Nat}{a:Addr}(h:(c,a)∈L)(h':(d,a)∈L):c=d:=by
 induction L with
 |nil=>cases h
 |cons x L f=>
  rw[List.map_cons,List.nodup_cons] at nk na;rcases List.mem_cons.mp h with e|h
  .rcases List.mem_cons.mp h' with b | h'
   .rw[<-e] at b;cases b;rfl
   exact (na.1 (List.mem_map.mpr ⟨_,h',by rw[<-e]⟩)).elim
  rcases List.mem_cons.mp h' with b | h'
  .exact (na.1 (List.mem_map.mpr ⟨_,h,by rw[<-b]⟩)).elim
  exact f nk.2 na.2 h h'
section
theorem ig:aP ["thirds","steps","c","p","q","about"] ["thirds"] (ax jJ):=by walk_at"sc"
theorem zY{f:Addr}(U:Fun K "steps_by_corner" "steps_by_corner" jJ f fd):ak P w K mg base CX0 1 f fd ["thirds"] rY:=by
 refine U.ok ig (by rintro _ _ _ _ ⟨_,_,rfl,_⟩;rfl) λIp A outer s H vs Q E hr h=>?_
 obtain⟨D,es,rfl,I,a4,hl,q⟩:=h;have hu:=bI hr;refine⟨_,ae (sx 1 ig.nd fC)
  (ae (bh aZ rfl (zQ (t8 FS PySem.F.type_dict_items Af (pv 0))) (b_ rfl (aO (b_ rfl (aO (gx 2 ig.nd) (aO (gx 3 ig.nd) bX))) (aO (gx 4 ig.nd) bX)))
   (ae (sx 5 ig.nd (bH iV FW PySem.F.type_dict_setdefault wo (pv 1) (af (pv 2) (pa1 fC))))
   (ao (dI hu (pv 5) (pv 3) (pv 4) rfl))))
  (ao (aJ (pv 1)))),?_⟩
 have b7:=line5000;refine λS H1 T s1 y1=>?_;have al:=s1 _ _ I;refine⟨_,rfl,⟨D,rfl,.inr ⟨_,.inl al⟩⟩,D,_,rfl,rfl,.inl al,True.intro,λv hv=>?_⟩;walk_at"H1 v hv H2 s2 y2";have bi:=s2 _ _ al;refine⟨v,D,_,rfl,y2,.inl bi,True.intro,λks vs o H3 hk hz=>?_⟩;obtain⟨as,pa,rfl,rfl⟩:∃as,Paired (λ(p:List Key×V) a=>H2 a=some (.tup (p.1.map kV))) (es.map aS) as/\ks=as.map V.ref/\vs=(es.map aS).map (·.2):=by
  rcases hk with ⟨kvs,e,_⟩|⟨kvs,as,e,h1,h2,h3⟩
  .cases e
  cases e;exact⟨as,h1,h2,h3⟩
 have lk:as.length=es.length:=by rw[<-az pa,List.length_map]
 have bl:Sm H H3:=(Sm.of (s1.trans s2)).trans hz.sm;have bm:H3 S=some (.dK (([]:List (Nat×Addr)).map stV)):=by rw[hz.ne (λz=>by rw[z,al] at y1;cases y1)];exact s2 _ _ y1
 refine yQ (d:=D) (o:=o) (u:=.dT (es.map aS)) (ks:=as.map V.ref) (vs:=(es.map aS).map (·.2)) (λi Z H'=>∃v2 v3 v4 v5 L,Z=[some (.ref D),some (.ref S),v2,v3,v4,v5]/\Sm H H'/\H' D=some (.frz o (.dT (es.map aS)))/\(∀a xs,H2 a=some (.tup xs)->H' a=some (.tup xs))/\StAt H H' S (es.take i) L)
  ⟨none,none,none,none,[],rfl,bl,hz.at,λa xs e=>hz.sm.keep e (λz=>z),⟨bm,aD _,List.nodup_nil,List.nodup_nil,by simp,by simp,by simp⟩⟩ (λi Z H' _ ⟨_,_,_,_,_,_,_,e,_⟩=>e) ?_ ?_
 .rintro i x y pr Z H' hx hy ⟨v2,v3,v4,v5,L,rfl,sm,ap,am,st⟩ bn;rw[List.getElem?_map] at hx hy;obtain⟨a,ha,rfl⟩:=aY.mp hx;rw[List.getElem?_map] at hy;obtain⟨kv,bt,rfl⟩:=aY.mp hy;obtain⟨⟨⟨c,p⟩,X⟩,he,rfl⟩:=aY.mp bt;have bw:H2 a=some (.tup [.int (c:Int),.int (p:Int)]):=by
   obtain⟨b8,h1,h2⟩:=bM pa (show (es.map aS)[i]?=some (aS ((c,p),X)) by rw[List.getElem?_map,he];rfl);rw[ha] at h1;cases h1;exact h2
  have B:es.take (i+1)=es.take i++[((c,p),X)]:=by rw[List.take_add_one,he];rfl
  have b9:i<es.length:=(List.getElem?_eq_some_iff.mp he).1;have a5:((es.take (i+1)).map (·.1)).Nodup:=by rw[<-List.take_append_drop (i+1) es,List.map_append,List.nodup_append] at a4;exact a4.1
  rw[B] at a5;obtain⟨ca,bx⟩:=kW a5;have bA:p∉(abt (es.take i) c).map (·.1):=λz=>bx (rQ z);rw[show (aS ((c,p),X)).2=V.int (X:Int) from rfl];walk_at"H' pr bn H4 O y4";refine⟨pr,_,rfl,SqT.of y4,rfl,_,_,rfl,a,_,rfl,SqT.of (O _ _ (am _ _ bw)),rfl,_,_,rfl,_,_,rfl,rfl,_,_,rfl,rfl,?_⟩;have aM:=O _ _ st.at_;have lt:(es.take i).length<=1200:=by rw[List.length_take];lia
  refine⟨_,rfl,.inr (.inr (.inl ⟨rfl,.inl ⟨_,aM⟩⟩)),_,rfl,λz H5 Y s5 y5=>?_⟩;have bb:=s5 _ _ aM;have bd:Sm H H5:=(sm.trans (Sm.of O)).trans (Sm.of s5);have zH:H z=none:=(sm.trans (Sm.of O)).free Y;have a2:H' z=none:=O.free Y;have M:=O.trans s5;have la:=tO (es.take i) c;refine⟨S,_,Sum.inl (c:Int),.ref z,rfl,rfl,bb,by rw[List.length_map];have:=st.len;lia,λu an=>?_,λhn=>?_⟩
  .have R:c∈L.map (·.1):=iN λg=>by rw[Cw g] at an;cases an
   obtain⟨ad,hL,bK⟩:=lq R;rw[bK] at an;cases an;have be:H5 ad=some (.dK ((abt (es.take i) c).map nmV)):=M _ _ (st.ab _ hL);obtain⟨bg,b0⟩:H ad=none/\ad≠S:=st.fr _ hL;refine⟨_,rfl,_,rfl,_,rfl,ad,_,rfl,DPut.k (k:=Sum.inl (p:Int)) be (by rw[List.length_map];lia),?_⟩;rw[put_nm bA];walk_at"H5 ad H6 l y6";refine⟨_,_,_,_,L,rfl,λb o e=>?_,?_,λb xs e=>?_,⟨(l S b0.symm).trans bb,?_,st.nk,st.na,st.fr,λx N=>?_,λc'=>?_⟩⟩
   .rw[l b (ah e bg)];exact bd b o e
   .rw[l D (λg=>by rw[g,bg] at I;cases I)];exact M _ _ ap
   .have C:=M _ _ (am b xs e);rw[l b (λg=>by rw[g,be] at C;cases C)];exact C
   .rw[B,List.length_append];have:=st.len;lia
   .obtain⟨c',b⟩:=x;rw[B,nB];by_cases a3:c=c'
    .subst a3;rw[Ij rfl];have:b=ad:=qD st.nk N hL;subst this;exact y6
    rw[Ii a3];have nb:b≠ad:=λg=>a3 (by subst g;exact BQ st.nk st.na hL N);rw[l b nb];exact M _ _ (st.ab _ N)
   rw[st.key c',B];constructor
   .rintro⟨m,n,h1⟩;exact⟨m,n,List.mem_append_left _ h1⟩
   rintro⟨m,n,h1⟩;rcases List.mem_append.mp h1 with h1|h1
   .exact⟨m,n,h1⟩
   rw[List.mem_singleton] at h1;cases h1;exact (st.key _).mp R
  have R:c∉L.map (·.1):=λg=>by
   obtain⟨_,_,h⟩:=lq g;rw[hn] at h;cases h
  have b2:aW (L.map stV) (Sum.inl (c:Int):Key) (V.ref z)=(L++[(c,z)]).map stV:=by rw[h_ _ hn,List.map_append];rfl
  rw[b2];have zS:z≠S:=λg=>by rw[g,T] at zH;rw[g] at Y;rw[aM] at Y;cases Y
  walk_at"H5 S H6 l y6";have a0:abt (es.take i) c=[]:=by
   cases e:abt (es.take i) c with
   |nil=>rfl
   |cons x r=>
    obtain⟨m,n⟩:=x;have:(m,n)∈abt (es.take i) c:=by rw[e];simp
    exact (R ((st.key c).mpr ⟨m,n,il.mp this⟩)).elim
  have b3:H6 z=some (.dK (([]:List (Nat×Nat)).map nmV)):=(l z zS).trans y5;refine⟨_,rfl,_,rfl,_,rfl,z,_,rfl,DPut.k (k:=Sum.inl (p:Int)) b3 (by simp;lia),?_⟩;rw[put_nm (by simp)];walk_at"H6 z H7 k7 y7";have cb:∀b,H b≠none->b≠S:=λb h g=>h (by rw[g];exact T);refine⟨_,_,_,_,L++[(c,z)],rfl,λb o e=>?_,?_,λb xs e=>?_,⟨(k7 S zS.symm).trans y6,?_,?_,?_,λx N=>?_,λx N=>?_,λc'=>?_⟩⟩
  .rw[k7 b (ah e zH),l b (ah e T)];exact bd b o e
  .have e1:=M _ _ ap;rw[k7 D (λg=>by rw[g,zH] at I;cases I),l D (λg=>by rw[g,T] at I;cases I)];exact e1
  .have C:=am b xs e;rw[k7 b (ah C a2),l b (λg=>by rw[g,st.at_] at C;cases C)];exact M _ _ C
  .rw[B,List.length_append,List.length_append];have:=st.len;simp only[List.length_singleton];lia
  .rw[List.map_append,List.nodup_append];refine⟨st.nk,by simp,λa1 h1 b1 h2=>?_⟩;simp at h2;subst h2;rintro rfl;exact R h1
  .rw[List.map_append,List.nodup_append];refine⟨st.na,by simp,λa1 h1 b1 h2=>?_⟩;simp at h2;subst h2;rintro rfl;obtain⟨x,b4,b5⟩:=List.mem_map.mp h1;have:=st.ab x b4;rw[b5,a2] at this;cases this
  .rcases List.mem_append.mp N with h|h
   .exact st.fr x h
   rw[List.mem_singleton.mp h];exact⟨zH,zS⟩
  .rcases List.mem_append.mp N with h|h
   .have b6:x.1≠c:=λg=>R (List.mem_map.mpr ⟨x,h,g⟩);rw[B,nB,Ii (λg=>b6 g.symm)];have e1:=st.ab x h;rw[k7 x.2 (ah e1 a2),l x.2 (st.fr x h).2];exact M _ _ e1
   rw[List.mem_singleton.mp h,B,nB,Ij rfl,a0];exact y7
  rw[List.map_append,List.mem_append,st.key c',B];constructor
  .rintro (⟨m,n,h1⟩|h1)
   .exact⟨m,n,List.mem_append_left _ h1⟩
   simp at h1;subst h1;exact⟨p,X,by simp⟩
  rintro⟨m,n,h1⟩;rcases List.mem_append.mp h1 with h1|h1
  .exact .inl ⟨m,n,h1⟩
  rw[List.mem_singleton] at h1;cases h1;exact .inr (by simp)
 rintro Z H' ⟨v2,v3,v4,v5,L,rfl,sm,ap,am,st⟩;rw[List.length_map,lk,List.take_length] at st;exact⟨_,rfl,q S L H' T sm st⟩
end
def zp(vs:List V)(H:Hp)(Q:VK)(S:Addr)(ts:List Tri)(L:List (Nat×Addr)):Prop:=vs=[.ref S]/\H S=some (.dK (L.map stV))/\(L.map (·.1)).Nodup/\(∀x∈L,Rd H x.2 (.dK ((abt (ents ts) x.1).map nmV)))/\
 (∀c,c∈L.map (·.1)↔Co ts c)/\L.length<5000/\ts.length<=200/\Good ts/\(∀c,Co ts c->One (En ts) c)/\∀H',Sm H H'->Q .non H'
def sr:Sp:=λvs H Q _=>Exists (Ex3 (zp vs H Q))
theorem D4{ts:List Tri}(g:Good ts)(c:Nat):Abt (En ts) c (abt (ents ts) c):=⟨D5 g.nd c,λ_ _=>il⟩
section
theorem sO:aP ["steps","corner"] ["steps"] (ax jN):=by walk_at"sc"
theorem ym{f u:Addr}{fd d1:FuncData}(U:Fun K "look_rounds_through" "look_rounds_through" jN f fd)(v:mg "sorted" = none)(G:Use P w K mg base 2 "hang_together" ["about"] tY u d1) :
  ak P w K mg base CX0 3 f fd ["steps"] sr:=by
 refine U.ok sO (by rintro _ _ _ _ ⟨_,_,_,rfl,_⟩;rfl) λIp A outer s H vs Q E m h=>?_
 obtain⟨S,ts,L,rfl,d,nk,y,B,C,hl,g,D,I⟩:=h;have M:=bI m;refine⟨_,ao (bh aZ rfl (ba (a_ (fW rfl) (by rfl) v dq (pa1 (pv 0)))) (gx 1 sO.nd)
  (ao (bB (dU (dz (uc G m (pa1 (dh M (pv 0) (pv 1) (λ_ _=>rfl)))))) fk bu))),?_⟩
 have ad:=line5000;refine⟨_,rfl,S,rfl,.inl ⟨_,d⟩,λks vs N=>.inl ⟨(L.map (·.1)).map (λc:Nat=>(c:Int)),?_,by rw[List.length_map,List.length_map];exact C,λp ms O pm ps=>?_⟩⟩
 .rcases N with ⟨kvs,e,rfl,_⟩|⟨kvs,as,e,_⟩
  .rw[d] at e;cases e;rw[List.map_map,List.map_map,List.map_map];rfl
  rw[d] at e;cases e
 obtain⟨cs,rfl,pl,pc⟩:=fX nk pm ps;have e:(cs.map (λc:Nat=>(c:Int))).map V.int=nV cs:=by rw[List.map_map];rfl
 rw[e];walk_at"H p O H1 s1 n";refine⟨p,rfl,⟨_,SqL.of n⟩,cA (K:=[]) (a:=p) (xs:=nV cs) (λi Z H'=>∃l,Z=[some (.ref S),l]/\Sm H1 H') ⟨none,rfl,Sm.refl _⟩ (λi Z H' _ ⟨_,_,e⟩=>SqL.of (e.keep n (λz=>z))) ?_ ?_⟩
 .rintro i x Z H2 hi ⟨l,rfl,sm⟩;rw[nV,List.getElem?_map] at hi;obtain⟨c,R,rfl⟩:=aY.mp hi;have o:c∈L.map (·.1):=pc.mem_iff.mp (List.mem_of_getElem? R);have q:Co ts c:=(B c).mp o;obtain⟨a,ha,T⟩:=lq o;have r:Sm H H2:=(Sm.of s1).trans sm;have X:=r.rd (y _ ha);have Y:abt (ents ts) c≠[]:=λz=>by
   obtain⟨p',q',h⟩:=q;have:=il.mpr h;rw[z] at this;cases this
  have hlen:(abt (ents ts) c).length<=1000:=by have:=tO (ents ts) c;rw[df] at this;lia
  refine⟨_,rfl,_,rfl,S,_,rfl,.inl ⟨_,Sum.inl (c:Int),r.rd (.inl d),rfl,T.symm⟩,a,_,En ts,c,rfl,X,Y,hlen,g.sk,D4 g c,λb H3 ab hb=>?_⟩;refine⟨_,rfl,?_⟩;rw[hb.mpr (D c q)];exact l5 ⟨_,rfl,sm.trans ab⟩
 rintro Z H2 ⟨l,rfl,sm⟩;exact I H2 ((Sm.of s1).trans sm)
end
structure SCls(K:W.Frag)(C:Addr):Prop where
 cl:Cls K C
 ordered:dY K C "ordered"
 rising:dY K C "rising"
 thirds:dY K C "thirds"
 steps:dY K C "steps"
def sflds(O R D S:Addr):List (Str×V):=[("ordered",.ref O),("rising",.ref R),("thirds",.ref D),("steps",.ref S)]
structure kj(C:Addr)(H:Hp)(x:Addr)(ts:List Tri)(dx O R D S:Addr)(vo:List V)(cs:List Nat)(L:List (Nat×Addr)):Prop where
 ob:H x=some (.ins C dx (sflds O R D S))
 od:H O=some (.lst vo)
 ol:vo.length=ts.length
 ri:H R=some (.lst (nV cs))
 up:cs.Pairwise (· < ·)
 co:∀c,c∈cs↔Co ts c
 cl:cs.length<=600
 th:Rd H D (.dT ((ents ts).map aS))
 st:Rd H S (.dK (L.map stV))
 nk:(L.map (·.1)).Nodup
 ky:∀c,c∈L.map (·.1)↔Co ts c
 ab:∀z∈L,Rd H z.2 (.dK ((abt (ents ts) z.1).map nmV))
def eU(C:Addr)(H:Hp)(x:Addr)(ts:List Tri):Prop:=∃(dx O R D S:Addr)(b:List V)(cs:List Nat)(L:List (Nat×Addr)),kj C H x ts dx O R D S b cs L
theorem kj.sm{C:Addr}{x dx O R D S:Addr}{ts:List Tri}{b:List V}{cs:List Nat}{L:List (Nat×Addr)}(s:Sm H H')(h:kj C H x ts dx O R D S b cs L):kj C H' x ts dx O R D S b cs L:=
 ⟨s.keep h.ob (λz=>z),s.keep h.od (λz=>z),h.ol,s.keep h.ri (λz=>z),h.up,h.co,h.cl,s.rd h.th,s.rd h.st,h.nk,h.ky,λz c=>s.rd (h.ab z c)⟩
theorem eU.sm{C:Addr}{x:Addr}{ts:List Tri}(s:Sm H H')(h:eU C H x ts):eU C H' x ts:=by obtain⟨dx,O,R,D,S,b,cs,L,h⟩:=h;exact⟨dx,O,R,D,S,b,cs,L,h.sm s⟩
def SmB(x:Addr)(H H':Hp):Prop:=∀b o,b≠x->H b=some o->H' b=some o\/(cH o/\∃ob,H' b=some (.frz ob o))
def zk(Cs:Addr)(vs:List V)(H:Hp)(Q:VK)(x dx T:Addr)(b:List V)(ts:List Tri):Prop:=vs=[.ref x,.ref T]/\H x=some (.ins Cs dx [])/\H T=some (.lst b)/\aw H b ts/\ts.length<=200/\Good ts/\(∀c,Co ts c->One (En ts) c)/\
 ∀H',SmB x H H'->eU Cs H' x ts->Q .non H'
def rZ(Cs:Addr):Sp:=λvs H Q _=>Exists (Ex5 (zk Cs vs H Q))
section
theorem lx:aP ["self","triples","checked","thirds","steps"] ["self","triples"] (ax d_):=by walk_at"sc"
theorem z6{f f1 f2 f3 f4 f5 Cs:Addr}{fd d1 d2 d3 d4 d5:FuncData}(U:Fun K "__init__" "Skin.__init__" d_ f fd)(T:bD mg)(mS:mg "sorted" = none){tM:Tok}(mM:mg "MOST_TRIPLES" = some (.int 200 tM))(X:SCls K Cs)
  (G1:Use P w K mg base 4 "checked_triples" ["things"] qw f1 d1)
  (G2:Use P w K mg base 1 "thirds_by_side" ["triples"] ft f2 d2)
  (G3:Use P w K mg base 1 "steps_by_corner" ["thirds"] rY f3 d3)
  (G4:Use P w K mg base 3 "look_rounds_through" ["steps"] sr f4 d4)
  (G5:Use P w K mg base 1 "begun_least" ["triple"] sI f5 d5) :
  ak P w K mg base CX0 5 f fd ["self","triples"] (rZ Cs):=by
 refine U.ok lx (by rintro _ _ _ _ ⟨_,_,_,_,_,rfl,_⟩;rfl) λIp A outer s H vs Q E hr h=>?_
 obtain⟨x,dx,T0,vt,ts,rfl,hx,hT,ht,hl,g,bn,q1⟩:=h;have ad:Room 1 (A.deeper (PyProof.Rows.envOfC "Skin.__init__" (ax d_) s.heap.objs.size f Ip)):=hr.mono (by decide);have bt:Room 3 (A.deeper (PyProof.Rows.envOfC "Skin.__init__" (ax d_) s.heap.objs.size f Ip)):=hr.mono (by decide);refine⟨_,ae (bB (a7 uL (pln T.len (pv 1)) (BA (v:=.int 200) rfl mM ⟨_,rfl⟩) (nomark _)) fk bu)
  (ae (sx 2 lx.nd (uc G1 hr (pa1 (pv 1))))
  (ae (sx 3 lx.nd (uc G2 ad (pa1 (pv 2))))
  (ae (sx 4 lx.nd (uc G3 ad (pa1 (pv 3))))
  (ae (bF (uc G4 bt (pa1 (pv 4))))
  (ae (lC (pv 0) (a_ vX (by rfl) mS dq (pa1 (bY (N:=["triple"]) (fr:=[none]) (g_ (by decide +kernel) rfl (by decide +kernel) (by decide +kernel)) rfl (ba (pv 2))
    (λC s H fp Io=>⟨gx 0 (by decide:(["triple"]:List Str).Nodup),cP,uc G5 ad (pa1 (pv 0))⟩)))) rfl)
  (ae (lC (pv 0) (a_ (pQ rfl) (by rfl) mS dq (pa1 (pv 4))) rfl)
  (ae (lC (pv 0) (pv 3) rfl)
  (ao (lC (pv 0) (pv 4) rfl))))))))),?_⟩
 have b1:=line5000;have hlen:=az ht;refine⟨_,rfl,T0,_,rfl,.inl (SqL.of hT),_,_,rfl,rfl,_,rfl,?_⟩;rw[Il (by show ¬((200:Int)<(vt.length:Int));lia)];refine aC ⟨_,rfl,T0,vt,ts,rfl,hT,ht,by lia,g.ne,λr I H1 b2 s1 y1 ap=>?_⟩;refine⟨_,rfl,r,I,ts,rfl,y1,ap,by lia,g.nd,λD H2 b3 s2 y2=>?_⟩;refine⟨_,rfl,D,ents ts,rfl,y2,g.nd,by rw[df];lia,λS L H3 b4 aM st=>?_⟩;have lL:L.length<5000:=by have:=st.len;rw[df] at this;lia
 refine⟨_,rfl,S,ts,L,rfl,st.at_,st.nk,λz hz=>.inl (st.ab z hz),st.key,lL,by lia,g,bn,λm M=>?_⟩
 have a0:Sm H m:=((Sm.of (s1.trans s2)).trans aM).trans M;have a1:m x=some (.ins Cs dx []):=a0.keep hx (λz=>z);have al:Sm H2 m:=aM.trans M;have a2:m r=some (.lst I):=al.keep (s2 _ _ y1) (λz=>z);have a3:aw m I ts:=Paired.imp' (λv' t' ⟨a',e,hh⟩=>⟨a',e,al.keep (s2 _ _ hh) (λz=>z)⟩) ap;have bw:=az a3;refine⟨_,rfl,r,rfl,⟨_,SqL.of a2⟩,λZ_ hZ=>de (K:=[]) (a:=r) (xs:=I) (λi Z ys H'=>∃o us,Z=[o]/\Same m H'/\H' Z_=some (.lst ys)/\aw H' ys us/\us.length=i) ⟨none,[],rfl,bf hZ,aG,.nil,rfl⟩
  (λi Z ys H' _ ⟨_,_,_,e,_⟩=>SqL.of (e _ _ a2)) ?_ ?_⟩
 .rintro i v Z ys H' hi ⟨o,us,rfl,sm,a4,tr,bg⟩;obtain⟨t3,hs,t,rfl,d⟩:=bM a3 hi;have b5:i<ts.length:=(List.getElem?_eq_some_iff.mp hs).1;have ly:ys.length<=200:=by rw[az tr];lia
  refine⟨_,rfl,t,t3,rfl,sm _ _ d,λr' u H5 q y5 b6=>⟨q _ _ a4,by lia,λHn kn yn=>⟨some (.ref t),us++[u],rfl,λb o e=>(kn b (ah e hZ)).trans (q _ _ (sm _ _ e)),yn,?_,by rw[List.length_append,bg];rfl⟩⟩⟩;have bx:=q _ _ a4;have tn:∀{Y:Addr}{xs:List V},H5 Y=some (.tup xs)->Y≠Z_:=λe=>bC e bx (by simp);exact cB (Paired.imp' (λ_ _ ⟨Y,e1,e2⟩=>⟨Y,e1,by have e3:=q _ _ e2;exact (kn _ (tn e3)).trans e3⟩) tr) (.cons ⟨r',rfl,(kn _ (tn y5)).trans y5⟩ .nil)
 rintro Z ys H5 ⟨o,ws,rfl,q,bA,a5,bg⟩;have bK:ys.length=ts.length:=by rw[az a5,bg,bw]
 have ly:ys.length<=200:=by lia
 refine⟨Z_,ys,ws.map kyT,rfl,SqL.of bA,qR a5,by lia,λO ix hO pm ps=>?_⟩;have bb:(ix.map λi=>ys.getD i .non).length=ts.length:=by rw[List.length_map,pm.length_eq,List.length_range,bK]
 generalize (ix.map λi=>ys.getD i .non)=vo at bb |-;walk_at"H5 O hO l s6 y6";have p:Same m l:=q.trans s6;refine⟨_,rfl,x,Cs,dx,_,rfl,p _ _ a1,X.cl,X.ordered,(by show 0<1000;decide),?_⟩;have bd:Rd l S (.dK (L.map stV)):=(Sm.of p).rd (M.rd (.inl st.at_));have am:=p _ _ a1;walk_at"l x H7 k7 y7";have be:∀{b:Addr}{u:HO},cH u->Rd l b u->b≠x:=λ{b u} y d z=>by
  subst z;rcases d with e|⟨ob,e⟩
  .rw[am] at e;cases e;exact y
  rw[am] at e;cases e
 have bi:∀{b:Addr}{u:HO},cH u->Rd l b u->Rd H7 b u:=λ{b u} y d=>by
  have n:=be y d;rcases d with e|⟨ob,e⟩
  .exact .inl ((k7 b n).trans e)
  exact .inr ⟨ob,(k7 b n).trans e⟩
 have b0:=bi (u:=.dK (L.map stV)) True.intro bd;have bl:Rd l D (.dT ((ents ts).map aS)):=(Sm.of p).rd (al.rd (.inl y2));have b7:=bi (u:=.dT ((ents ts).map aS)) True.intro bl;refine⟨_,rfl,S,_,rfl,b0,True.intro,λks vs hk=>.inl ⟨(L.map (·.1)).map (λc:Nat=>(c:Int)),?_,by rw[List.length_map,List.length_map];exact lL,λR ms hR pm ps=>?_⟩⟩
 .rcases hk with ⟨kvs,e,rfl,_⟩|⟨kvs,as,e,_⟩
  .cases e;rw[List.map_map,List.map_map,List.map_map];rfl
  cases e
 obtain⟨cs,rfl,pl,pc⟩:=fX st.nk pm ps;have e:(cs.map (λc:Nat=>(c:Int))).map V.int=nV cs:=by rw[List.map_map];rfl
 rw[e];walk_at"H7 R hR H8 s8 y8";refine⟨_,rfl,x,Cs,dx,_,rfl,s8 _ _ y7,X.cl,X.rising,(by show 1<1000;decide),?_⟩;walk_at"H8 x H9 k9 y9";refine⟨_,rfl,_,rfl,x,Cs,dx,_,rfl,y9,X.cl,X.thirds,(by show 2<1000;decide),?_⟩;walk_at"H9 x Ha ka ya";refine⟨_,rfl,_,rfl,x,Cs,dx,_,rfl,ya,X.cl,X.steps,(by show 3<1000;decide),?_⟩;walk_at"Ha x Hb kb yb";have bm:∀b,b≠x->Hb b=H8 b:=λb n=>(kb b n).trans ((ka b n).trans (k9 b n));have B:∀b o,b≠x->l b=some o->Hb b=some o:=λb o n e=>(bm b n).trans (s8 _ _ ((k7 b n).trans e));have nO:O≠x:=λz=>by rw[z,am] at y6;cases y6
 have nR:R≠x:=λz=>by rw[z,y7] at hR;cases hR
 have z1:=B O _ nO y6;have z3:=(bm R nR).trans y8;have z4:∀c,c∈cs↔Co ts c:=λc=>by rw[pc.mem_iff];exact st.key c
 have z5:cs.length<=600:=by rw[pc.length_eq,List.length_map];have:=st.len;rw[df] at this;lia
 have an:∀{b:Addr}{u:HO},cH u->Rd l b u->Rd Hb b u:=λ{b u} y d=>by
  have n:=be y d;rcases d with e|⟨ob,e⟩
  .exact .inl (B b _ n e)
  exact .inr ⟨ob,B b _ n e⟩
 refine q1 Hb (λb o n e=>?_) ⟨dx,O,R,D,S,vo,cs,L,yb,z1,bb,z3,pl,z4,z5,an True.intro bl,an True.intro bd,st.nk,st.key,λz hz=>an True.intro ((Sm.of p).rd (M.rd (.inl (st.ab z hz))))⟩;rcases a0 b o e with z|⟨z1,ob,z⟩
 .exact .inl (B b _ n (p _ _ z))
 exact .inr ⟨z1,ob,B b _ n (p _ _ z)⟩
end
def SmL(A:List Addr)(H H':Hp):Prop:=∀b o,H b=some o->H' b=some o\/(cH o/\b∈A/\∃ob,H' b=some (.frz ob o))
section
variable {A:List Addr}{H H' H1 H2:Hp}
theorem SmL.sm(s:SmL A H H'):Sm H H':=λb o e=>(s b o e).imp id λ⟨h,_,z⟩=>⟨h,z⟩
theorem SmL.of(s:Same H H'):SmL A H H':=λb o e=>.inl (s b o e)
theorem SmL.trans(a:SmL A H H1)(b:SmL A H1 H2):SmL A H H2:=λc o e=>by
 rcases a c o e with d|⟨hd,f,ob,d⟩
 .exact b c o d
 rcases b c _ d with g|⟨h,_⟩
 .exact .inr ⟨hd,f,ob,g⟩
 exact False.elim h
theorem SmL.new(s:SmL A H H'){b:Addr}{o:HO}(c:b∉A)(e:H b=some o):H' b=some o:=(s b o e).elim id λz=>(c z.2.1).elim
theorem _root_.L2.Fz.smL{d:Addr}{o:Obj}{u:HO}(f:Fz H H2 d o u)(hd:d∈A):SmL A H H2:=λb w e=>by
 by_cases c:b=d
 .rcases f.sm b w e with z|⟨g,h⟩
  .exact .inl z
  exact .inr ⟨g,c ▸ hd,h⟩
 exact .inl ((f.ne c).trans e)
end
def SkA(C:Addr)(H:Hp)(x:Addr)(ts:List Tri)(A:List Addr):Prop:=∃(dx O R D S:Addr)(b:List V)(cs:List Nat)(L:List (Nat×Addr)),kj C H x ts dx O R D S b cs L/\A=D::S::L.map (·.2)
theorem SkA.sm{C:Addr}{x:Addr}{ts:List Tri}{A:List Addr}(s:Sm H H')(h:SkA C H x ts A):SkA C H' x ts A:=by obtain⟨dx,O,R,D,S,b,cs,L,h,e⟩:=h;exact⟨dx,O,R,D,S,b,cs,L,h.sm s,e⟩
theorem SkA.at{C:Addr}{x:Addr}{ts:List Tri}{A:List Addr}(h:SkA C H x ts A):eU C H x ts:=by obtain⟨dx,O,R,D,S,b,cs,L,h,e⟩:=h;exact⟨dx,O,R,D,S,b,cs,L,h⟩
theorem SkA.dom{C:Addr}{x:Addr}{ts:List Tri}{A:List Addr}(h:SkA C H x ts A){b:Addr}(c:H b=none):b∉A:=λhm=>by
 obtain⟨dx,O,R,D,S,g,cs,L,h,rfl⟩:=h;have k:∀{u:HO},¬Rd H b u:=λd=>by rcases d with e|⟨ob,e⟩<;>(rw[c] at e;cases e)
 rcases List.mem_cons.mp hm with rfl|hm
 .exact k h.th
 rcases List.mem_cons.mp hm with rfl|hm
 .exact k h.st
 obtain⟨z,f,rfl⟩:=List.mem_map.mp hm;exact k (h.ab z f)
theorem eU.a{C:Addr}{x:Addr}{ts:List Tri}(h:eU C H x ts):∃A,SkA C H x ts A:=by obtain⟨dx,O,R,D,S,b,cs,L,h⟩:=h;exact⟨_,dx,O,R,D,S,b,cs,L,h,rfl⟩
def wA(C:Addr)(vs:List V)(H:Hp)(Q:VK)(x:Addr)(ts:List Tri):Prop:=vs=[.ref x]/\eU C H x ts/\∀l b H',H l=none->Same H H'->H' l=some (.lst b)->b.length=ts.length->Q (.ref l) H'
def pV(C:Addr):Sp:=λvs H Q _=>Exists (Ex2 (wA C vs H Q))
def wB(C:Addr)(vs:List V)(H:Hp)(Q:VK)(x:Addr)(ts:List Tri):Prop:=vs=[.ref x]/\eU C H x ts/\
 ∀l cs H',H l=none->Same H H'->H' l=some (.lst (nV cs))->cs.Pairwise (· < ·)->(∀c,c∈cs↔Co ts c)->cs.length<=600->Q (.ref l) H'
def mK(C:Addr):Sp:=λvs H Q _=>Exists (Ex2 (wB C vs H Q))
section
theorem wK:aP ["self"] ["self"] (ax fY):=by walk_at"sc"
theorem wD{f C:Addr}(U:Fun K "triangles" "Skin.triangles" fY f fd)(X:SCls K C)(T:bD mg):ak P w K mg base CX0 1 f fd ["self"] (pV C):=by
 refine U.ok wK (by rintro _ _ _ _ ⟨_,_,rfl,_⟩;rfl) λd A outer s H vs Q E e h=>?_
 obtain⟨x,ts,rfl,⟨dx,O,R,D,S,g,cs,L,sk⟩,q⟩:=h;refine⟨_,ao (aJ (cy kH (by rfl) T.list gR (pa1 (gC (pv 0) rfl)))),?_⟩;exact⟨_,rfl,x,C,dx,_,_,rfl,sk.ob,X.cl,X.ordered,rfl,O,_,rfl,.inl (SqL.of sk.od),λl H1 b s1 c=>q l _ _ b s1 c sk.ol⟩
theorem wL:aP ["self"] ["self"] (ax fZ):=by walk_at"sc"
theorem wF{f C:Addr}(U:Fun K "corners" "Skin.corners" fZ f fd)(X:SCls K C)(T:bD mg):ak P w K mg base CX0 1 f fd ["self"] (mK C):=by
 refine U.ok wL (by rintro _ _ _ _ ⟨_,_,rfl,_⟩;rfl) λd A outer s H vs Q E e h=>?_
 obtain⟨x,ts,rfl,⟨dx,O,R,D,S,g,cs,L,sk⟩,q⟩:=h;refine⟨_,ao (aJ (cy kH (by rfl) T.list gR (pa1 (gC (pv 0) rfl)))),?_⟩;exact⟨_,rfl,x,C,dx,_,_,rfl,sk.ob,X.cl,X.rising,rfl,R,_,rfl,.inl (SqL.of sk.ri),λl H1 b s1 c=>q l cs _ b s1 c sk.up sk.co sk.cl⟩
end
section
theorem sJ{x dx:Addr}{Cs:Addr}(h1:H x=none)(h2:H dx=none)(s:SmB x (upd (upd H dx (.own x)) x (.ins Cs dx [])) H'):Sm H H':=λb o e=>by
 have c:=ah e h1;have d:=ah e h2;exact s b o c (by rw[aB c,aB d];exact e)
theorem qz{x dx:Addr}{Cs:Addr}(h1:H x=none)(h2:H dx=none):Same H (upd (upd H dx (.own x)) x (.ins Cs dx [])):=λb o e=>by
 rw[aB (ah e h1),aB (ah e h2)];exact e
end
end K15
end
section
namespace K15
variable {E:Nat->Nat->Nat->Prop}
def ay(E:Nat->Nat->Nat->Prop)(a b:Nat):Prop:=(∃q,E a b q)/\¬∃r,E b a r
theorem sR(k:Sk E){a b:Nat}{F:List Nat}(hF:Fan E a F)(all:∀p,(∃q,E a p q)->p∈F)(h:ay E a b):F[0]?=some b:=by
 obtain⟨i,hi⟩:=List.mem_iff_getElem?.mp (all b h.1);cases i with
 |zero=>exact hi
 |succ i=>
  obtain⟨d,_⟩:=List.getElem?_eq_some_iff.mp hi;have c:F[i]?=some (F[i]'(by lia)):=List.getElem?_eq_getElem _;exact (h.2 ⟨_,k.rot (k.rot (hF.ch i _ _ c hi))⟩).elim
theorem kZ(k:Sk E){a b c:Nat}(o:One E a)(h:ay E a b)(h':ay E a c):b=c:=by obtain⟨F,hF,all⟩:=o;exact cq ((sR k hF all h).symm.trans (sR k hF all h'))
theorem m7(k:Sk E){a z:Nat}{F:List Nat}(hF:Fan E a F)(all:∀p,(∃q,E a p q)->p∈F)(h:ay E z a):∃l,F[F.length-1]?=some l/\E a l z:=by
 obtain⟨⟨q,b⟩,no⟩:=h;have b:=k.rot b;obtain⟨i,hi⟩:=List.mem_iff_getElem?.mp (all q ⟨z,b⟩);obtain⟨f,_⟩:=List.getElem?_eq_some_iff.mp hi;by_cases c:i+1<F.length
 .have d:F[i+1]?=some (F[i+1]):=List.getElem?_eq_getElem c;have e:z=F[i+1]:=k.one b (hF.ch i _ _ hi d);exact (no (by rw[e];exact hF.key _ (List.getElem_mem c))).elim
 exact⟨q,by rw[show F.length-1=i by lia];exact hi,b⟩
theorem nP(k:Sk E){a z b:Nat}(o:One E a)(h:ay E z a)(h':ay E b a):z=b:=by obtain⟨F,hF,all⟩:=o;obtain⟨l,h1,h2⟩:=m7 k hF all h;obtain⟨e,c,d⟩:=m7 k hF all h';cases h1.symm.trans c;exact k.one h2 d
theorem q5(k:Sk E){a z:Nat}(o:One E a)(h:ay E z a):∃b,ay E a b:=by
 obtain⟨F,hF,all⟩:=o;obtain⟨l,h1,h2⟩:=m7 k hF all h;have m:0<F.length:=by
  cases n:F with
  |nil=>exact absurd n hF.ne
  |cons x xs=>simp
 have f:F[0]?=some (F[0]'m):=List.getElem?_eq_getElem _;generalize F[0]'m=b at f;refine⟨b,hF.key b (List.mem_of_getElem? f),λ⟨r,d⟩=>?_⟩;have d:=k.rot d;obtain⟨i,hi⟩:=List.mem_iff_getElem?.mp (all r ⟨b,d⟩);obtain⟨p,_⟩:=List.getElem?_eq_some_iff.mp hi;by_cases c:i+1<F.length
 .have g:F[i+1]?=some (F[i+1]):=List.getElem?_eq_getElem c;have e:=k.one d (hF.ch i _ _ hi g);rw[<-e] at g;have:=fq hF.nd g f;lia
 rw[show F.length-1=i by lia] at h1;cases hi.symm.trans h1;have e:=k.one d h2;exact h.2 (by rw[<-e];exact hF.key b (List.mem_of_getElem? f))
section
variable {R:Nat->Nat->Prop}
structure Path(R:Nat->Nat->Prop)(l:List Nat):Prop where
 ne:l≠[]
 nd:l.Nodup
 ch:∀i p q,l[i]?=some p->l[i+1]?=some q->R p q
structure Cyc(R:Nat->Nat->Prop)(l:List Nat):Prop extends Path R l where
 back:∀p q,l[l.length-1]?=some p->l[0]?=some q->R p q
theorem Path.one(R:Nat->Nat->Prop)(a:Nat):Path R [a]:=⟨by simp,by simp,λi p q h1 h2=>by simp at h2⟩
theorem Path.home(inj:∀a b c,R a c->R b c->a=b){l:List Nat}(h:Path R l){p z:Nat}(g:l[l.length-1]?=some p)(i:R p z)(hm:z∈l):l[0]?=some z:=by
 obtain⟨j,d⟩:=List.mem_iff_getElem?.mp hm;cases j with
 |zero=>exact d
 |succ j=>
  obtain⟨m,_⟩:=List.getElem?_eq_some_iff.mp d;have f:l[j]?=some (l[j]'(by lia)):=List.getElem?_eq_getElem _;have e:=inj _ _ _ i (h.ch j _ _ f d);rw[<-e] at f;have:=fq h.nd g f;lia
theorem Path.snoc{l:List Nat}(h:Path R l){p z:Nat}(f:l[l.length-1]?=some p)(g:R p z)(hm:z∉l):Path R (l++[z]):=by
 have n:0<l.length:=List.length_pos_iff.mpr h.ne;refine⟨by simp,List.nodup_append.mpr ⟨h.nd,by simp,λa ha b m e=>hm (by rw[<-List.mem_singleton.mp m,<-e];exact ha)⟩,λi x y h1 h2=>?_⟩;by_cases c:i+1<l.length
 .rw[List.getElem?_append_left c] at h2;rw[List.getElem?_append_left (by lia)] at h1;exact h.ch i x y h1 h2
 by_cases d:i+1=l.length
 .rw[List.getElem?_append_right (by lia),show i+1-l.length=0 by lia] at h2;rw[List.getElem?_append_left (by lia),show i=l.length-1 by lia] at h1;cases f.symm.trans h1;cases (show some z=some y from h2);exact g
 rw[List.getElem?_append_right (by lia)] at h2;have:[z][i+1-l.length]?=none:=List.getElem?_eq_none (by simp;lia);rw[this] at h2;cases h2
theorem Cyc.step{l:List Nat}(h:Cyc R l){p:Nat}(d:p∈l):∃q∈l,R p q:=by
 obtain⟨i,hi⟩:=List.mem_iff_getElem?.mp d;obtain⟨e,_⟩:=List.getElem?_eq_some_iff.mp hi;by_cases c:i+1<l.length
 .exact⟨l[i+1],List.getElem_mem c,h.ch i _ _ hi (List.getElem?_eq_getElem c)⟩
 rw[show i=l.length-1 by lia] at hi;have b:l[0]?=some (l[0]'(by lia)):=List.getElem?_eq_getElem _;exact⟨_,List.mem_of_getElem? b,h.back _ _ hi b⟩
theorem Cyc.closed(one:∀a b c,R a b->R a c->b=c){l:List Nat}(h:Cyc R l){p q:Nat}(d:p∈l)(e:R p q):q∈l:=by obtain⟨f,h1,h2⟩:=h.step d;rw[one _ _ _ e h2];exact h1
theorem Cyc.same(one:∀a b c,R a b->R a c->b=c)(inj:∀a b c,R a c->R b c->a=b){l m:List Nat}(h:Cyc R l)(hm:Cyc R m){x:Nat}(d:l[0]?=some x)(f:m[0]?=some x):l=m:=by
 have key:∀i,i<l.length->i<m.length->l[i]?=m[i]?:=by
  intro i;induction i with
  |zero=>intro _ _;rw[d,f]
  |succ i r=>
   intro h1 h2;have e:=r (by lia) (by lia);have o:l[i]?=some (l[i]'(by lia)):=List.getElem?_eq_getElem _;have g:l[i+1]?=some l[i+1]:=List.getElem?_eq_getElem h1;have p:m[i+1]?=some m[i+1]:=List.getElem?_eq_getElem h2;rw[g,p,one _ _ _ (h.ch i _ _ o g) (hm.ch i _ _ (e ▸ o) p)]
 have len:∀{l m:List Nat},Cyc R l->Cyc R m->l[0]?=some x->m[0]?=some x->(∀i,i<l.length->i<m.length->l[i]?=m[i]?)->¬l.length<m.length:=by intro l m h hm d f key c;have g:0<l.length:=List.length_pos_iff.mpr h.ne;have q:l[l.length-1]?=some (l[l.length-1]'(by lia)):=List.getElem?_eq_getElem _;have s:=(key (l.length-1) (by lia) (by lia)).symm.trans q;have n:m[l.length]?=some m[l.length]:=List.getElem?_eq_getElem c;have e:=one _ _ _ (h.back _ _ q d) (hm.ch (l.length-1) _ _ s (by rw[show l.length-1+1=l.length by lia];exact n));rw[<-e] at n;have:=fq hm.nd n f;lia
 have e:l.length=m.length:=by have h1:=len h hm d f key;have h2:=len hm h f d λi a b=>(key i b a).symm;lia
 apply List.ext_getElem?;intro i;by_cases c:i<l.length
 .exact key i c (by lia)
 rw[List.getElem?_eq_none (by lia),List.getElem?_eq_none (by lia)]
theorem Cyc.before(inj:∀a b c,R a c->R b c->a=b){l:List Nat}(h:Cyc R l){p q:Nat}(f:q∈l)(e:R p q):p∈l:=by
 obtain⟨i,hi⟩:=List.mem_iff_getElem?.mp f;obtain⟨g,_⟩:=List.getElem?_eq_some_iff.mp hi;cases i with
 |zero=>
  have d:l[l.length-1]?=some (l[l.length-1]'(by lia)):=List.getElem?_eq_getElem _;rw[inj _ _ _ e (h.back _ _ d hi)];exact List.mem_of_getElem? d
 |succ i=>
  have d:l[i]?=some (l[i]'(by lia)):=List.getElem?_eq_getElem _;rw[inj _ _ _ e (h.ch i _ _ d hi)];exact List.mem_of_getElem? d
theorem Path.from(inj:∀a b c,R a c->R b c->a=b){l m:List Nat}(h:Path R m)(g:Cyc R l){x:Nat}(n:x∈m)(o:x∈l){y:Nat}(q:m[0]?=some y):y∈l:=by
 have key:∀(i p:Nat),m[i]?=some p->p∈l->y∈l:=by
  intro i;induction i with
  |zero=>intro p d e;cases q.symm.trans d;exact e
  |succ i r=>
   intro p d e;obtain⟨hm,_⟩:=List.getElem?_eq_some_iff.mp d;have f:m[i]?=some (m[i]'(by lia)):=List.getElem?_eq_getElem _;exact r _ f (g.before inj e (h.ch i _ _ f d))
 obtain⟨i,hi⟩:=List.mem_iff_getElem?.mp n;exact key i x hi o
structure Rims(R:Nat->Nat->Prop)(ls:List (List Nat)):Prop where
 cyc:∀l∈ls,Cyc R l
 least:∀l∈ls,∀x,l[0]?=some x->∀p∈l,x<=p
 all:∀p,(∃q,R p q)->∃l∈ls,p∈l
 rise:ls.Pairwise λl m=>∀x y,l[0]?=some x->m[0]?=some y->x<y
theorem Path.begin{l:List Nat}(h:Path R l):∃x,l[0]?=some x/\x∈l:=by have b:0<l.length:=List.length_pos_iff.mpr h.ne;exact⟨l[0],List.getElem?_eq_getElem _,List.getElem_mem _⟩
theorem Rims.sub(one:∀a b c,R a b->R a c->b=c)(inj:∀a b c,R a c->R b c->a=b){ls ms:List (List Nat)}(h:Rims R ls)(h':Rims R ms):∀l∈ls,l∈ms:=by intro l d;obtain⟨x,g,i⟩:=(h.cyc l d).toPath.begin;obtain⟨q,_,o⟩:=(h.cyc l d).step i;obtain⟨m,hm,n⟩:=h'.all x ⟨q,o⟩;obtain⟨y,f,p⟩:=(h'.cyc m hm).toPath.begin;have h1:=h'.least m hm y f x n;have h2:=h.least l d x g y ((h'.cyc m hm).toPath.from inj (h.cyc l d) n i f);have e:x=y:=fQ h2 h1;subst e;rw[(h.cyc l d).same one inj (h'.cyc m hm) g f];exact hm
theorem Rims.nodup{ls:List (List Nat)}(h:Rims R ls):ls.Nodup:=by refine List.Pairwise.imp_of_mem ?_ h.rise;intro l m c hm d e;subst e;obtain⟨x,b,_⟩:=(h.cyc l c).toPath.begin;exact cT _ (d x x b b)
theorem Rims.uniq(one:∀a b c,R a b->R a c->b=c)(inj:∀a b c,R a c->R b c->a=b){ls ms:List (List Nat)}(h:Rims R ls)(h':Rims R ms):ls=ms:=by have p:ls.Perm ms:=(List.perm_ext_iff_of_nodup h.nodup h'.nodup).mpr λl=>⟨h.sub one inj h' l,h'.sub one inj h l⟩;refine List.Perm.eq_of_pairwise (λl m f hm h1 h2=>?_) h.rise h'.rise p;obtain⟨x,d,_⟩:=(h.cyc l f).toPath.begin;obtain⟨y,e,_⟩:=(h'.cyc m hm).toPath.begin;exact absurd (h1 x y d e) (Nat.lt_asymm (h2 y x e d))
end
end K15
end
section
namespace L2
open PySem PySem.Spec PyProof.Rows
def jq(J:It)(g:TG)(tt:TT)(tk tv:TE)(D:Addr)(Z':St)(H1:Hp)(Q:Hp->Prop):Prop:=
 ∃W:Nat->Nat->St->Hp->Prop,(∃m,W 0 m Z' (upd H1 D (.dK [])))/\∀i m Z H,W i m Z H->
  (J.stop i H/\Q H)\/(J.go i H/\∃N:St->Hp->Prop,(∀Z' H',N Z' H'->∃c,c<m/\W (i+1) c Z' H')/\∀x H',J.yld i H x H'->g x Z H' λσ2 H2=>tt σ2 H2 λb d=>
   if b=true then tk σ2 d λk h=>tv σ2 h λy e=>∃kvs f,e D=some (.dK kvs)/\k=kV f/\kvs.length<sizeLine/\N σ2 (upd e D (.dK (aW kvs f y))) else N σ2 d)
def CO(wi:TI)(g:TG)(tt:TT)(tk tv:TE)(fr:List (Option Nat)):TE:=λZ H Q=>wi Z H λJ H1=>∀D,H1 D=none->jq J g tt tk tv D (eI fr Z) H1 λH2=>Q (.ref D) H2
theorem xI{kx vx target iter:Expr}{ifs:List Expr}{scope:Scope}{pos:Pos}{it:Value}{D:Addr}{env:Env}{R:Result->Shared->Prop}(I:Nat->Shared->Prop)
  (turn:∀n s,I n s->wpAny (model P w) A (pyNext it) (λr s1=>match r with
   |none=>R (.ok .next) s1
   |some v=>wpAny (model P w) A (letOwnedTupleGo target it v) (λ_ s1'=>wpAny (model P w) A (assign target env v) (λ_ s2=>
     wpAny (model P w) A (forIn ifs true λc r=>if r=true then do let ok <-isTrue c env (eval c env);pure (ForInStep.yield ok) else pure (ForInStep.yield r)) (λok s3=>
      if ok=true then wpAny (model P w) A (eval kx env) (λk s4=>wpAny (model P w) A (eval vx env) (λx s5=>
       wpAny (model P w) A (dictSet D k x) (λ_ s6=>∃m,m<n/\I m s6) (λ_ _=>False) s5) (λ_ _=>False) s4) (λ_ _=>False) s3
      else ∃m,m<n/\I m s3) (λ_ _=>False) s2) (λ_ _=>False) s1') (λ_ _=>False) s1) (λ_ _=>False) s)
  (n:Nat) (h:I n s) :
  codeAny (model P w) A (.compLoop (.DictComp kx vx [⟨target,iter,ifs,0⟩] scope pos) 0 it (.ref D) env) R s:=by
 have no:∀(e:Value)(t:Shared),False->notedBy (model P w) A env (λe s'=>R (.error e) s') e t:=λ_ _ z=>z.elim;refine codeAny_loop rfl I (λn s hI=>?_) n h;refine wpAny_noted ?_;rw[compTurn_dict];refine aa (mG (aa (bT (turn n s hI) (λr s1 h1=>?_) no)));cases r with
 |none=>exact aj h1
 |some v=>
  refine aa (bT h1 (λ_ s1' h1'=>?_) no);refine aa (bT h1' (λ_ s2 h2=>aa (bT h2 (λok s3 h3=>?_) no)) no);cases ok with
  |false=>exact aj ⟨rfl,h3⟩
  |true=>
   exact aa (aa (bT h3 (λk s4 h4=>aa (c9 (bT h4 (λx s5 h5=>aa (mG (c9 (bT h5 (λ_ s6 h6=>aj ⟨rfl,h6⟩) no)))) no))) no))
theorem qI{d:Addr}{kvs:List (Key×V)}{k:Key}{v:V}{u r:Value}{Q:Unit->Shared->Prop}(I:Inv X Io Z H s)(e:H d=some (.dK kvs))(c:ar (kV k) u)(l:kvs.length<sizeLine)(f:ar v r)
  (h:∀s',Inv X Io Z (upd H d (.dK (aW kvs k v))) s'->Q () s'):wpAny (model X.prog X.w) A (dictSet d u r) Q E s:=by
 obtain⟨z,hd,vs,rel,dd⟩:=gG I.hok e;have g:vs.length<=sizeLine:=by rw[<-rel.length];exact z
 have i:(aW kvs k v).length<=sizeLine:=by have:=gX kvs k v;lia
 refine wpAny_dictSet_pairs (hsz:=g) (dN c) dd λh' b m=>h _ ?_;have he:∃q,h'.get? d=some q:=let ⟨q,_,_,n,_⟩:=b;⟨q,n⟩;exact gr I (by rw[e];exact True.intro) m he (gE i hd (rel.put k f) b)
section
variable {N:List Str}{fr:List (Option Nat)}{fp:List Addr}
theorem yW{kx vx target iter:Expr}{ifs:List Expr}{pos:Pos}{it D:Addr}{B:Nat->Heap->Prop}{J:It}{g:TG}{tt:TT}{tk tv:TE}{R:Result->Shared->Prop}{s1:Shared}{M:St}{H1:Hp}{Q:Hp->Prop}
  {Y:Cx} (hY:Y.xe=λ_ _=>False) (U:Y.calm=true) (I:Inv Y [] M (upd H1 D (.dK [])) s1) (T:Turn Y.prog Y.w Y.K target J fp it B) (ht:B 0 s1.heap) (hf:∀b∈fp,bS Y [] (upd H1 D (.dK [])) b)
  (hg:PG Y target g) (hi:PIf Y ifs tt) (hk:PE Y kx tk) (hv:PE Y vx tv) (h:jq J g tt tk tv D M H1 Q) (hR:∀s' Z' H',Inv Y [] Z' H' s'->Q H'->R (.ok .next) s') :
  codeAny (model Y.prog Y.w) Y.A (.compLoop (.DictComp kx vx [⟨target,iter,ifs,0⟩] scope pos) 0 (.ref it) (.ref D) Y.env) R s1:=by
 obtain⟨W,⟨m0,w0⟩,turn⟩:=h;have N:∀{H':Hp},(∀b∈fp,H' b=none)->∀b∈fp,bS Y [] H' b:=λhn b c=>⟨hn b c,(hf b c).2⟩;refine xI (λn s'=>∃i Z' H',Inv Y [] Z' H' s'/\B i s'.heap/\(∀b∈fp,H' b=none)/\W i n Z' H') ?_ m0 ⟨0,M,_,I,ht,λb c=>(hf b c).1,w0⟩;rintro n X ⟨i,z,C,Z,ab,ad,w3⟩;have back:∀{α:Type}{t:Sem α}{Q:α->Shared->Prop}{s:Shared},wpAny (model Y.prog Y.w) Y.A t Q Y.xe s->wpAny (model Y.prog Y.w) Y.A t Q (λ_ _=>False) s:=λh=>by rw[hY] at h;exact h
 rcases turn i n z C w3 with ⟨stop,qn⟩|⟨go,N',al,step⟩
 .refine thn (T.done Y rfl rfl rfl U i [] X z C _ Z (N ad) ab stop) λr s4 ⟨O,I4⟩=>?_;subst O;exact hR s4 z C I4 qn
 refine thn (T.item Y rfl rfl rfl U i [] X z C _ Z (N ad) ab go) λr s4 ⟨u,O,h4⟩=>?_;subst O;refine thn h4 λ_ s5 ⟨x,H5,I5,r5,y5,P,an⟩=>?_;have am:=I5.pinned (N an) (T.obj _ _ P);rw[List.nil_append] at am;refine thn (back (hg _ s5 z H5 x u _ am r5 (step x H5 y5))) λ_ s6 ⟨S,H6,I6,q6⟩=>?_;refine thn (back (hi _ s6 S H6 _ I6 q6)) λb f ⟨l,q,E⟩=>?_;have again:∀{H:St}{l:Hp}{f:Shared},Inv Y (iy fp s5.heap) H l f->(∃L,L<n/\W (i+1) L H l)->∃m,m<n/\∃i Z' H',Inv Y [] Z' H' f/\B i f.heap/\(∀b∈fp,H' b=none)/\W i m Z' H':=λ{H l f} q ⟨L,hm,w7⟩=>by
  refine⟨L,hm,i+1,H,l,q.pins_of (λp hp=>by simp at hp),T.keep _ _ _ P λb c o e=>(q.pin (b,o) (List.mem_append_right _ (f_ c e))).1,λb c=>?_,w7⟩;obtain⟨o,e,d⟩:=T.obj _ _ P b c;exact (q.pin (b,o) (List.mem_append_right _ (f_ c e))).2.1
 cases b with
 |false=>
  rw[Ii a8] at E;rw[Ii a8];exact again q (al _ _ E)
 |true=>
  rw[Ij rfl] at E;rw[Ij rfl];refine thn (back (hk _ f S l _ q E)) λk s8 ⟨yk,H8,I8,r8,q8⟩=>?_;refine thn (back (hv _ s8 S H8 _ I8 q8)) λv s9 ⟨y,H9,I9,r9,kvs,kk,hD,ek,hl,q9⟩=>?_;subst ek;exact back (qI I9 hD r8 hl r9 λs' I'=>again I' (al _ _ q9))
end
section
variable {N:List Str}{fr:List (Option Nat)}{kx vx tg iter:Expr}{ifs:List Expr}{pos:Pos}{wi:TI}{g:TG}{tt:TT}{tk tv:TE}
def uB(X:Cx)(N:List Str)(scope:Scope)(tg:Expr)(ifs:List Expr)(kx vx:Expr)(g:TG)(tt:TT)(tk tv:TE):Prop:=
 ∀(C:Addr)(s:Shared)(H:Hp)(fp:List Addr)(Io:List (Addr×Obj)),PG (cY X N scope C s H fp Io) tg g/\PIf (cY X N scope C s H fp Io) ifs tt/\PE (cY X N scope C s H fp Io) kx tk/\PE (cY X N scope C s H fp Io) vx tv
theorem w4{n:Value}{Z_:Value->Addr->Result->Shared->Prop}{QQ:Addr->Hp->Prop}(S:dt X N fr scope)(L:X.calm=true)
  (c:uB X N scope tg ifs kx vx g tt tk tv) (h2:PIE X Io Z tg (λJ H1=>∀D,H1 D=none->jq J g tt tk tv D (eI fr Z) H1 (QQ D)) n s)
  (M:∀D C s' H',Inv X Io Z H' s'->bS X Io H' C->(∃m,s'.heap.Ns C m)->QQ D H'->Z_ (.ref D) C (.ok .next) s') :
  wpAny (model X.prog X.w) X.A newDict (λacc O=>wpAny (model X.prog X.w) X.A (newFunctionEnv scope X.env.globals (cD X.env scope.names []) [] X.env.qual none .none (some X.env)) (λr P=>
   codeAny (model X.prog X.w) X.A (.compStart (.DictComp kx vx [⟨tg,iter,ifs,0⟩] scope pos) 0 n acc {r with scope:=relabel scope X.env}) (Z_ acc r.locals) P) E O) E s:=by
 obtain⟨it,fp,Q,J,H1,e,i,T,v,x,q⟩:=h2;subst e;have U:H1 s.heap.objs.size=none:=i.hok.fresh (ai _);have old:∀b∈fp,b<s.heap.objs.size:=λb c=>by
  obtain⟨o,e,_⟩:=T.obj _ _ v b c;exact aH e
 refine ff (Gu S.nocell (by intro y hy;simp at hy) (λh1 z l=>?_) S.kind);dsimp only at z l |-;have B:Inv X Io Z (upd H1 s.heap.objs.size (.dK [])) {s with heap:=s.heap.push {cls:=.type "dict",data:=.dict #[]}}:=by refine i.laid (t':=s.toks) (λb u e=>aE _ e) (ai _) ?_;exact kR s.heap i.big
 have d:∀b∈fp,bS X Io (upd H1 s.heap.objs.size (.dK [])) b:=λb c=>⟨by rw[aB (aU (old b c))];exact (x b c).1,(x b c).2⟩;have hsz:(s.heap.push {cls:=.type "dict",data:=.dict #[]}).objs.size=s.heap.objs.size+1:=iO ..;have f:=qg (C:=(s.heap.push {cls:=.type "dict",data:=.dict #[]}).objs.size) (h1:=h1) (t:=s.toks+([]:List (Str×Value)).length) (fp:=fp) S B d (ai _)
  (λb c=>by rw[hsz];exact aU (fc (old b c))) z λb o e=>l.extBut b o (aU (aH e)) (aE _ e)
 have H:Q 0 h1:=T.keep _ _ _ v λb c o e=>by
  have I:=aE {cls:=.type "dict",data:=.dict #[]} e;exact l.extBut b o (aU (aH I)) (aE _ I)
 have f4:∀b∈fp,bS (cY X N scope (s.heap.push {cls:=.type "dict",data:=.dict #[]}).objs.size {s with heap:=s.heap.push {cls:=.type "dict",data:=.dict #[]}} (upd H1 s.heap.objs.size (.dK [])) fp Io) [] (upd H1 s.heap.objs.size (.dK [])) b:=λb c=>by
  refine⟨(d b c).1,(f.ok.exf b c).1,f.ok.exfs b c,.inl c,(f.ok.exf b c).2,λp h=>?_⟩;have h:p∈(X.pn++Io)++[]:=h;rw[List.append_nil] at h;exact (d b c).2.2.2.2.2 p h
 obtain⟨b1,b2,b3,b4⟩:=c (s.heap.push {cls:=.type "dict",data:=.dict #[]}).objs.size {s with heap:=s.heap.push {cls:=.type "dict",data:=.dict #[]}} (upd H1 s.heap.objs.size (.dK [])) fp Io;have run:=yW (Y:=cY X N scope (s.heap.push {cls:=.type "dict",data:=.dict #[]}).objs.size {s with heap:=s.heap.push {cls:=.type "dict",data:=.dict #[]}} (upd H1 s.heap.objs.size (.dK [])) fp Io) (kx:=kx) (vx:=vx) (iter:=iter) (pos:=pos) (scope:=scope) (R:=Z_ (.ref s.heap.objs.size) (s.heap.push {cls:=.type "dict",data:=.dict #[]}).objs.size) rfl L f T H f4 b1 b2 b3 b4 (q _ U) λs' Z' H' K q'=>by
  obtain⟨J1,F1⟩:=rN B d (ai _) K;obtain⟨m,hm,_⟩:=K.loc;exact M _ _ s' H' J1 F1 ⟨m,hm⟩ q'
 exact codeAny_compStart_dict run (T.self _ 0 _ _ _ H run)
theorem ng(S:dt X N fr scope)(d:X.calm=true)(hi:PI X tg iter wi)(c:uB X N scope tg ifs kx vx g tt tk tv)
  (f:∀x,foldedSetIterable iter X.env x=pure x:=by intro _;rfl):PE X (.DictComp kx vx [⟨tg,iter,ifs,0⟩] scope pos) (CO wi g tt tk tv fr):=by
 intro Io s Z H Q I h;rw[arm_eval_DictComp];refine vM (use:=none) rfl f (mQ (S.cells I.ok)) S.kind S.names (thn (hi Io s Z H _ I h) λv s1 h1=>thn h1 λl s2 h2=>?_);refine w4 (QQ:=λD H2=>Q (.ref D) H2) (Z_:=λacc C=>compPost (model X.prog X.w) X.A X.xe none (EP X Io Z Q) acc C) S d c h2 λD C s' H' J F hm q=>?_;obtain⟨m,hm⟩:=hm;refine⟨m,hm,λh' i=>⟨.ref D,H',?_,rfl,q⟩⟩;exact J.turned (t':=s'.toks) (λb o c e=>i.extBut b o c e) F.1 F.2.1 F.2.2.2.1 F.2.2.2.2.1 F.2.2.2.2.2
end
section
variable {a D:Addr}{g:TG}{tt:TT}{tk tv:TE}{Z':St}{H1:Hp}{Q:Hp->Prop}
theorem qj(Pv:Nat->St->Hp->Prop)(l:Pv 0 Z' (upd H1 D (.dK [])))(n:∀i Z H,i<=xs.length->Pv i Z H->SqL K H a xs)
  (o:∀i x Z H,xs[i]?=some x->Pv i Z H->g x Z H λσ2 H2=>tt σ2 H2 λb c=>
   if b=true then tk σ2 c λk r=>tv σ2 r λy d=>∃kvs f,d D=some (.dK kvs)/\k=kV f/\kvs.length<sizeLine/\Pv (i+1) σ2 (upd d D (.dK (aW kvs f y))) else Pv (i+1) σ2 c)
  (hd:∀Z H,Pv xs.length Z H->Q H):jq (Itl K a) g tt tk tv D Z' H1 Q:=by
 refine⟨λi m Z H=>m=xs.length-i/\i<=xs.length/\Pv i Z H,⟨xs.length,by simp,aD _,l⟩,?_⟩;rintro i m Z H ⟨rfl,hi,p⟩;have q:=n i Z H hi p;by_cases h:i<xs.length
 .refine .inr ⟨⟨xs,xs[i],q,by simp[h]⟩,Pv (i+1),λZ' H' s=>⟨xs.length-(i+1),by lia,rfl,h,s⟩,λx H' y=>?_⟩;obtain⟨e,y⟩:=y;subst e;exact o i x Z _ (y xs q) p
 have e:i=xs.length:=by lia
 subst e;exact .inl ⟨⟨xs,q,ai _⟩,hd Z H p⟩
end
section
variable {d D:Addr}{o:Obj}{u:HO}{ks vs:List V}{g:TG}{tt:TT}{tk tv:TE}{Z':St}{H1:Hp}{Q:Hp->Prop}
theorem xJ(Pv:Nat->St->Hp->Prop)(n:Pv 0 Z' (upd H1 D (.dK [])))(r:∀i Z H,i<=ks.length->Pv i Z H->H d=some (.frz o u))
  (s:∀i x Z H,ks[i]?=some x->Pv i Z H->g x Z H λσ2 H2=>tt σ2 H2 λb c=>
   if b=true then tk σ2 c λk v=>tv σ2 v λy f=>∃kvs h,f D=some (.dK kvs)/\k=kV h/\kvs.length<sizeLine/\Pv (i+1) σ2 (upd f D (.dK (aW kvs h y))) else Pv (i+1) σ2 c)
  (hd:∀Z H,Pv ks.length Z H->Q H):jq (Itk d o ks) g tt tk tv D Z' H1 Q:=by
 refine⟨λi m Z H=>m=ks.length-i/\i<=ks.length/\Pv i Z H,⟨ks.length,by simp,aD _,n⟩,?_⟩;rintro i m Z H ⟨rfl,hi,p⟩;have q:=r i Z H hi p;by_cases l:i<ks.length
 .refine .inr ⟨⟨l,u,q⟩,Pv (i+1),λZ' H' w=>⟨ks.length-(i+1),by lia,rfl,l,w⟩,λx H' y=>?_⟩;obtain⟨e,y⟩:=y;subst e;exact s i x Z _ y p
 have e:i=ks.length:=by lia
 subst e;exact .inl ⟨⟨ai _,u,q⟩,hd Z H p⟩
end
end L2
end
section
namespace L2
open PySem PySem.Spec PyProof.Rows
theorem wX:typeLookup (.type "list") "keys" = pure none:=am_miss_of_fast (by kernel_rfl)
theorem BN{prog:Program}{w:World}{E:Value->Shared->Prop}{a:Addr}{xs:Array Value}{k:Nat}{c:Array (Option Value)}{Q:Option Value->Shared->Prop}
  (f:s.heap.get? a=some {cls:=.type "list",dict:=none,data:=.seq xs k,slots:=c}) (i:A.handled=none)
  (q:∀h' tk,(∀b ob,s.heap.get? b=some ob->h'.get? b=some ob)->Q none {s with heap:=h',toks:=tk}):wpAny (model prog w) A (getAttr? (.ref a) "keys") Q E s:=by
 obtain⟨l,g,d,tk,os⟩:=s;have ty:∀h,(⟨l,g,d,h,os⟩:Shared).TypeIs (.ref a) "list":=λ_=>⟨_,f,rfl⟩;have m:=sub_AttributeError;have n:=vq.lookup;have o:=vq.bind (.ref a);have p:=am_list_getattr_none;unfold getAttr? getAttrBy? getAttrBy
 repeat (any_goals (first|assumption|exact ty _|((with_reducible show wpAny _ _ (call (Value.builtin "list.__getattribute__") _ _) _ _ _);refine mz vq (ty _) am_entry_list_getattribute (PySem.F.args_list_getattribute_2 _ _) (meets_getattribute_miss_list a xs k c "keys" _ wX (by decide +kernel)) ⟨f,i,λh' h e ne=>?_⟩)|wp_step))
 obtain⟨t',r,u⟩:=ne.there;show wpAny _ _ (getattributeRaised _ _ _ _ _ _ _) _ _ _;unfold getattributeRaised
 repeat (any_goals (first|assumption|wp_step))
 exact q _ _ ne.keeps
theorem pS:entryFor table "dict.update.loop" = some Builtin.«dict.update.loop»:=entryFor_of_tree (by kernel_rfl)
theorem kG:plainId "dict.update.loop" = true:=by decide +kernel
section
def eO(H:Hp)(ys:List V)(ps:List (Key×V)):Prop:=Paired (λy p=>∃b,y=V.ref b/\H b=some (.tup [kV p.1,p.2])) ys ps
theorem eO.get:∀{ys:List V}{ps:List (Key×V)}{i:Nat}{p:Key×V},eO H ys ps->ps[i]?=some p->∃b,ys[i]?=some (.ref b)/\H b=some (.tup [kV p.1,p.2])
 |_,_,_,_,.nil,e=>by simp at e
 |_,_,0,_,.cons ⟨b,c,d⟩ _,e=>by simp at e;subst e c;exact⟨b,rfl,d⟩
 |_,_,i+1,p,.cons _ t,e=>by
  obtain⟨b,h1,h2⟩:=eO.get (i:=i) (p:=p) t (by simpa using e);exact⟨b,by simpa using h1,h2⟩
theorem eO.len:∀{ys:List V}{ps:List (Key×V)},eO H ys ps->ys.length=ps.length
 |_,_,.nil=>rfl
 |_,_,.cons _ t=>by simp[eO.len t]
def fH(kvs:List (Key×V))(ps:List (Key×V)):List (Key×V):=ps.foldl (λd p=>aW d p.1 p.2) kvs
theorem xq{a D it:Addr}{ys:List V}{ps:List (Key×V)}(hc:A.handled=none)(K:H D=none)(L:SqL [] H a ys)(T:eO H ys ps)(hz:ps.length<sizeLine)
  {R:Result->Shared->Prop} (hR:∀s',Inv X Io Z (upd H D (.dK (fH [] ps))) s'->R (.ok (.ret .none)) s') :
  ∀(k i:Nat)(kvs:List (Key×V))(s:Shared),ps.length-i=k->i<=ps.length->kvs.length<=i->fH kvs (ps.drop i)=fH [] ps->Inv X Io Z (upd H D (.dK kvs)) s->s.heap.IsListIter it a i->bS X Io (upd H D (.dK kvs)) it->
   codeAny (model X.prog X.w) A (.builtin "dict.update.loop" ⟨[.ref D,.ref it,rawInt i,.none],[]⟩) R s:=by
 have U:∀kvs,SqL [] (upd H D (.dK kvs)) a ys:=λkvs=>by
  rcases L with (e|⟨o,e⟩)|h
  .exact .inl (.inl (by rw[aB (ah e K)];exact e))
  .exact .inl (.inr ⟨o,by rw[aB (ah e K)];exact e⟩)
  exact .inr h
 intro k;induction k with
 |zero=>
  intro i kvs s hk hi _ g I st hf;have am:i=ps.length:=by lia
  subst am;refine fS pS ?_;rw[iK kG _];obtain⟨an,M,p,ap⟩:=I.list (U kvs);obtain⟨f,r,Y,y,B,C⟩:=hf;have hl:=M.length;have a5:=T.len;show wpAny _ A.in1 (pyNext (.ref it) >>= _) _ _ s;refine aa (Gz hc st p.isList (by simp;lia) λh' eb=>?_);rw[List.drop_length] at g;have g:kvs=fH [] ps:=g;subst g;show wpAny _ A.in1 (Builtin.Dict.addKeywords D [] >>= _) _ _ _;exact aa (aj (aj (hR _ (I.turned (t':=s.toks) (λb o N e=>eb b o N e) f r y B C))))
 |succ k ih=>
  intro i kvs s hk hi bb g I st hf;have ab:i<ps.length:=by lia
  refine fS pS ?_;rw[iK kG _];obtain⟨an,M,p,ap⟩:=I.list (U kvs);obtain⟨b,aM,ad⟩:=T.get (i:=i) (p:=ps[i]) (by simp[ab]);obtain⟨u,hu,ru⟩:=M.get aM;cases ru;obtain⟨f,r,Y,y,B,C⟩:=id hf;show wpAny _ A.in1 (pyNext (.ref it) >>= _) _ _ s;refine aa (GE st p.isList (x:=.ref b) (by simpa using hu) λh' al sb=>?_);have I1:Inv X Io Z (upd H D (.dK kvs)) {s with heap:=h'}:=I.turned (t':=s.toks) (λb o N e=>(sb.2 b N).trans e) f r y B C;have a0:upd H D (.dK kvs) b=some (.tup [kV (ps[i]).1,(ps[i]).2]):=by rw[aB (ah ad K)];exact ad
  obtain⟨vs,a1,⟨ot,p1,p2,n,p3⟩,_⟩:=I1.tuple (SqT.of a0);have a2:∃l m,vs=[l,m]/\ar (kV (ps[i]).1) l/\ar (ps[i]).2 m:=by
   cases a1 with
   |cons O P=>cases P with
    |cons Q P=>cases P;exact⟨_,_,rfl,O,Q⟩
  obtain⟨l,m,rfl,O,Q⟩:=a2;refine aa (c9 (aa ?_));refine mH ?_;unfold Builtin.Dict.pairItems;refine aa (pP ⟨_,p1,p2⟩ ?_);rw[Ij (by decide)];unfold seqItems?;refine aa (aa (vP p1 ?_));rw[p3];refine aj (aj ?_);show wpAny _ _ (holding [l,m] (dictSet D l m)) _ _ _;have ob:∀c∈[it],∃o,h'.get? c=some o/\∀v,o.data≠.cell v:=λc S=>by
   have e:c=it:=by simpa using S
   subst e;obtain⟨o,e,c1,d⟩:=al;exact⟨o,e,λv z=>by rw[d] at z;cases z⟩
  have I2:=I1.pinned (fp:=[it]) (λc S=>by rw[List.mem_singleton.mp S];exact hf) ob;refine c9 (qI I2 aG O (by lia) Q λs' E=>?_);rw[kU] at E;have J:=E.pins_of (pins':=Io) λq L=>E.pin q (List.mem_append_right _ (List.mem_append_left _ L));have a3:s'.heap.IsListIter it a (i+1):=al.at λo e=>(E.pin (it,o) (List.mem_append_right _ (List.mem_append_right _ (f_ (by simp) e)))).1;have hl:=gX kvs (ps[i]).1 (ps[i]).2;have a4:((i:Int)+1)=((i+1:Nat):Int):=by push_cast;rfl
  refine aj ⟨gU kG _,?_⟩;rw[a4];refine ih (i+1) _ s' (by lia) (by lia) (by lia) ?_ J a3 ⟨?_,r,Y,y,B,C⟩
  .rw[<-g,List.drop_eq_getElem_cons ab];rfl
  have:it≠D:=λz=>by rw[z,aG] at f;cases f
  rw[aB this] at f |-;exact f
def zM(K:W.Frag):List V->Hp->VK->Prop:=λxs H Q=>∃(a:Addr)(ys:List V)(ps:List (Key×V)),xs=[.ref a]/\H a=some (.lst ys)/\eO H ys ps/\ps.length<sizeLine/\∀p,H p=none->Q (.ref p) (upd H p (.dK (fH [] ps)))
theorem wz(g:X.A.handled=none):bJ X (.type "dict") (zM []):=by
 intro Io s Z H xs us Q I r h;obtain⟨a,ys,ps,rfl,ha,p,v,q⟩:=h;obtain⟨u,rfl,w⟩:=Vals.one r;cases w;obtain⟨z,L,n,M,x⟩:=I.hok _ _ ha;have d:H s.heap.objs.size=none:=I.hok.fresh (ai _);refine callType_codes (Q₁:=λobj s₁=>obj=.ref s.heap.objs.size/\s₁={s with heap:=s.heap.push {cls:=.type "dict",data:=.dict #[]}}) PySem.F.kt_called_dict (PySem.F.kt_typeCall_dict_1 _) PySem.F.entry_dict_init (kt_code_dict_new _ ⟨rfl,rfl⟩) ?_;rintro obj s₁ ⟨rfl,rfl⟩;have y:Inv X Io Z (upd H s.heap.objs.size (.dK [])) {s with heap:=s.heap.push {cls:=.type "dict",data:=.dict #[]}}:=by refine I.laid (t':=s.toks) (λb u e=>aE _ e) (ai _) ?_;exact kR s.heap I.big
 have i:({s with heap:=s.heap.push {cls:=.type "dict",data:=.dict #[]}}:Shared).TypeIs (.ref s.heap.objs.size) "dict":=⟨_,a9 _ rfl,rfl⟩;have m:=aE ({cls:=.type "dict",data:=.dict #[]}:Obj) x;refine⟨i,PySem.F.args_dict_init_2 _ _,?_⟩;unfold Builtin.«dict.__init__» Builtin.Dict.selfAndRest;refine aa (aa (vR i ?_));show wpAny _ _ (pure (s.heap.objs.size,[Value.ref a])) _ _ _;refine aj ?_;show wpAny _ _ (Builtin.Dict.updateFrom "dict.__init__" s.heap.objs.size (.ref a) [] .none) _ _ _;unfold Builtin.Dict.updateFrom;refine aa (pP ⟨_,m,rfl⟩ ?_);rw[Ij (by decide)];refine aa (BN m g λh2 f B=>?_);have c:Inv X Io Z (upd H s.heap.objs.size (.dK [])) {s with heap:=h2,toks:=f}:=y.kept B;obtain⟨N,O,C,P,D⟩:=c.hok _ _ (show upd H s.heap.objs.size (.dK []) a=some (.lst ys) by rw[aB (ah ha d)];exact ha);simp only[Option.isNone_none,if_true];refine aa (wpAny_rule ?_);refine aa (pK (l:=a) ⟨_,D,rfl,C,rfl⟩ ?_);have E:Inv X Io Z (upd H s.heap.objs.size (.dK [])) {s with heap:=h2.push {cls:=.type "list_iterator",data:=.fields #[.ref a,rawInt 0]},toks:=f}:=c.kept (t':=f) λb o e=>aE _ e;refine aj ⟨gU kG _,?_⟩;refine xq (X:=X) (A:=X.A.in1) (R:=wants (λr s₂=>r=.none/\EP X Io Z Q (.ref s.heap.objs.size) s₂) X.xe) g d (.inl (.inl ha)) p v (λs' K=>⟨rfl,.ref s.heap.objs.size,_,K,rfl,q _ d⟩) _ 0 [] _ rfl (aD _) (ai _) rfl E ⟨_,a9 _ rfl,rfl,rfl⟩ ?_;exact c.fpOk (ai _) (c.hok.fresh (ai _))
end
section
def Bq:V->List V->Hp->VK->Prop:=λx xs H Q=>∃(d o:Addr)(kvs more:List (Key×V)),x=.ref d/\xs=[.ref o]/\d≠o/\H d=some (.dK kvs)/\Rd H o (.dK more)/\kvs.length+more.length<=sizeLine/\Q .non (upd H d (.dK (fJ kvs more)))
theorem qE:MtM X "dict.update" Bq:=by intro Io s Z H x xs v us Q I f rs h;obtain⟨d,o,kvs,more,rfl,rfl,g,hd,i,b,q⟩:=h;cases f;obtain⟨u,rfl,l⟩:=rs.one;cases l;obtain⟨y,lo,vs,rel,dd⟩:=gG I.hok hd;obtain⟨z,m,ms,c,n⟩:=cK I.hok i;refine fR vp dd.typeIs PySem.F.entry_dict_update (PySem.F.args_dict_update_2 _ _) (meets_dict_update (bz X.prog X.w) d o g m) ⟨vs,ms,dd,n,by rw[<-rel.length,<-c.length];exact b,λh' e _ p=>?_⟩;have he:∃q,h'.get? d=some q:=let ⟨q,_,_,r,_⟩:=e;⟨q,r⟩;exact⟨.non,_,gr I (by rw[hd];exact True.intro) p he (gE (bQ (mI _ _) b) lo (KV.merge c rel) e),rfl,q⟩
end
end L2
end
section
namespace K15
open PySem L2 K51 K31
theorem last_at{ps:List Nat}{p:Nat}(h:ps[ps.length-1]?=some p):atI (nV ps) (-1)=some (V.int (p:Int)):=by have b:=(List.getElem?_eq_some_iff.mp h).1;unfold atI ixN;rw[aK,Ii (by decide),Ij (by lia)];show (nV ps)[_]?=_;rw[show (-1+(ps.length:Int)).toNat=ps.length-1 by lia];exact lG h
theorem nq{l:List Ent}{ks vs:List V}(c:DKV H (.dT (l.map aS)) ks vs):SdsAt H ks (l.map (·.1)):=by
 rcases c with ⟨kvs,e,_⟩|⟨kvs,as,e,b,rfl,_⟩
 .cases e
 cases e;rename_i d;clear d;induction l generalizing as with
 |nil=>cases b;exact .nil
 |cons x l f=>
  cases b with
  |cons h t=>exact .cons ⟨_,rfl,h⟩ (f _ t)
theorem rD{ts:List Tri}{c:Nat}:c∈flat ts↔Co ts c:=by
 rw[bN];unfold flat;rw[List.mem_flatMap];constructor
 .rintro⟨t,h1,h2⟩;simp only[List.mem_cons,List.not_mem_nil,or_false] at h2;exact⟨t,h1,h2⟩
 rintro⟨t,h1,h2⟩;exact⟨t,h1,by simp only[List.mem_cons,List.not_mem_nil,or_false];exact h2⟩
theorem tI{ts b:List Tri}(h:(ents b).Perm (ents ts))(c:Nat):Co b c↔Co ts c:=by
 unfold Co En;constructor
 .rintro⟨p,q,h1⟩;exact⟨p,q,h.mem_iff.mp h1⟩
 rintro⟨p,q,h1⟩;exact⟨p,q,h.mem_iff.mpr h1⟩
structure lO(R:Nat->Nat->Prop)(l:List (Nat×Nat)):Prop where
 nd:(l.map (·.1)).Nodup
 mem:∀p q,(p,q)∈l↔R p q
theorem lO.key{R:Nat->Nat->Prop}{l:List (Nat×Nat)}(h:lO R l)(p:Nat):p∈l.map (·.1)↔∃q,R p q:=by
 constructor
 .intro z;obtain⟨⟨a,b⟩,h1,rfl⟩:=List.mem_map.mp z;exact⟨b,(h.mem _ _).mp h1⟩
 rintro⟨q,c⟩;exact List.mem_map.mpr ⟨_,(h.mem _ _).mpr c,rfl⟩
def xc(vs:List V)(H:Hp)(Q:VK)(d:Addr)(l:List (Nat×Nat))(R:Nat->Nat->Prop)(s:Nat):Prop:=vs=[.ref d,.int (s:Int)]/\Rd H d (.dK (l.map nmV))/\l.length<=1000/\(∀a b c,R a c->R b c->a=b)/\lO R l/\s∈l.map (·.1)/\
 ∀r ps H',H r=none->Same H H'->H' r=some (.lst (nV ps))->ps.length<=1001->Path R ps->ps[0]?=some s->(∀z,ps[ps.length-1]?=some z->(∀q,¬R z q)\/R z s)->Q (.ref r) H'
def qr:Sp:=λvs H Q _=>Exists (Ex4 (xc vs H Q))
def cf(ts:List Tri)(es:List Ent):List (Nat×Nat):=(es.map (·.1)).filter λs=>decide ((s.2,s.1)∉(ents ts).map (·.1))
theorem key_en{ts:List Tri}{a b:Nat}:(a,b)∈(ents ts).map (·.1)↔∃c,En ts a b c:=by
 constructor
 .intro h;obtain⟨⟨⟨x,y⟩,c⟩,h1,h2⟩:=List.mem_map.mp h;cases h2;exact⟨c,h1⟩
 rintro⟨c,h⟩;exact List.mem_map.mpr ⟨_,h,rfl⟩
theorem rim_iff{ts:List Tri}{a b:Nat}:ay (En ts) a b↔Rim ts (a,b):=by unfold ay Rim;rw[key_en,key_en]
theorem q_{ts:List Tri}{a b:Nat}:(a,b)∈cf ts (ents ts)↔ay (En ts) a b:=by unfold cf;rw[rim_iff,List.mem_filter,decide_eq_true_eq];rfl
theorem zG{ts:List Tri}{es:List Ent}{a b:Nat}(c:∀e∈es,e∈ents ts)(h:(a,b)∈cf ts es):ay (En ts) a b:=by unfold cf at h;obtain⟨h1,h2⟩:=List.mem_filter.mp h;obtain⟨e,he,d⟩:=List.mem_map.mp h1;exact rim_iff.mpr ⟨List.mem_map.mpr ⟨e,c e he,d⟩,Im h2⟩
theorem nd_keys{R:Nat->Nat->Prop}(one:∀a b c,R a b->R a c->b=c){l:List (Nat×Nat)}(nd:l.Nodup)(h:∀p∈l,R p.1 p.2):(l.map (·.1)).Nodup:=by
 induction l with
 |nil=>exact List.nodup_nil
 |cons x l f=>
  rw[List.nodup_cons] at nd;rw[List.map_cons,List.nodup_cons];refine⟨λz=>?_,f nd.2 λp g=>h p (List.mem_cons_of_mem _ g)⟩;obtain⟨y,d,e⟩:=List.mem_map.mp z;have h1:=h x List.mem_cons_self;have h2:=h y (List.mem_cons_of_mem _ d);rw[e] at h2;have:y=x:=iS e (one _ _ _ h2 h1);rw[this] at d;exact nd.1 d
theorem steps_rim{ts:List Tri}(g:Good ts)(o:∀c,Co ts c->One (En ts) c):(∀a b c,ay (En ts) a b->ay (En ts) a c->b=c)/\(∀a b c,ay (En ts) a c->ay (En ts) b c->a=b)/\(∀a b,ay (En ts) a b->∃c,ay (En ts) b c):=by have f:∀{a b},ay (En ts) a b->Co ts a:=λ⟨⟨q,d⟩,_⟩=>⟨_,q,d⟩;have e:∀{a b},ay (En ts) a b->Co ts b:=λ⟨⟨q,d⟩,_⟩=>⟨q,_,g.sk.rot d⟩;exact⟨λa b c h1 h2=>kZ g.sk (o a (f h1)) h1 h2,λa b c h1 h2=>nP g.sk (o c (e h1)) h1 h2,λa b h=>q5 g.sk (o b (e h)) h⟩
theorem Bo{ts:List Tri}(g:Good ts)(o:∀c,Co ts c->One (En ts) c):lO (ay (En ts)) (cf ts (ents ts)):=
 ⟨nd_keys (steps_rim g o).1 (g.nd.filter _) λp b=>q_.mp b,λ_ _=>q_⟩
theorem rf(ts:List Tri)(es:List Ent):(cf ts es).length<=es.length:=by unfold cf;have:=List.length_filter_le (λs:Nat×Nat=>decide ((s.2,s.1)∉(ents ts).map (·.1))) (es.map (·.1));rw[List.length_map] at this;exact this
def wH(Cs:Addr)(vs:List V)(H:Hp)(Q:VK)(x:Addr)(ts:List Tri)(A:List Addr):Prop:=vs=[.ref x]/\SkA Cs H x ts A/\Good ts/\(∀c,Co ts c->One (En ts) c)/\ts.length<=200/\
 ∀D H',H D=none->SmL A H H'->H' D=some (.dK ((cf ts (ents ts)).map nmV))->Q (.ref D) H'
def p_(Cs:Addr):Sp:=λvs H Q _=>Exists (Ex3 (wH Cs vs H Q))
section
theorem qY:aP ["onward","begin","row"] ["onward","begin"] (ax jt):=by walk_at"sc"
theorem xr{f:Addr}(U:Fun K "walked" "walked" jt f fd):ak P w K mg base CX0 1 f fd ["onward","begin"] qr:=by
 refine U.ok qY (by rintro _ _ _ _ ⟨_,_,_,_,rfl,_⟩;rfl) λIp A outer s0 H vs Q E0 hr h=>?_
 obtain⟨d,l,R,s,rfl,hd,hl,inj,ab,hs,q⟩:=h;have O:=bI hr;refine⟨_,ae (sx 2 qY.nd (bj (pa1 (pv 1))))
  (ae (fB aZ (a7 gF (zT O (pv 0) (ixx bG (pv 2) (fM fE ag)) (pv 1) ⟨rfl,rfl,rfl,rfl⟩) (pv 1) (nomark _))
   (ao (bF (bH bR cM cN cz (pv 2) (pa1 (dh O (pv 0) (ixx bG (pv 2) (fM fE ag)) (λ_ _=>rfl)))))))
  (ao (aJ (pv 2)))),?_⟩
 have a0:=line5000;have key:∀p,p∈l.map (·.1)↔∃q,R p q:=λp=>by
  constructor
  .intro h;obtain⟨⟨a,b⟩,h1,rfl⟩:=List.mem_map.mp h;exact⟨b,(ab.mem _ _).mp h1⟩
  rintro⟨q,g⟩;exact List.mem_map.mpr ⟨_,(ab.mem _ _).mpr g,rfl⟩
 refine⟨_,rfl,lit1,λr H1 ad s1 y1=>?_⟩;refine⟨λm Z H'=>∃ps:List Nat,Z=[some (.ref d),some (.int (s:Int)),some (.ref r)]/\m=l.length+1-ps.length/\Same H H'/\H' r=some (.lst (nV ps))/\ps.length<=l.length+1/\ps.Nodup/\ps[0]?=some s/\(∀i p q,ps[i]?=some p->ps[i+1]?=some q->R p q),
  ⟨_,[s],rfl,rfl,s1,y1,by simp,by simp,rfl,λi p q h1 h2=>by simp at h2⟩,?_⟩
 rintro m Z H' ⟨ps,rfl,rfl,sm,n,a1,nd,y,ch⟩;have B:=(List.getElem?_eq_some_iff.mp y).1;obtain⟨z,u⟩:∃z,ps[ps.length-1]?=some z:=⟨_,List.getElem?_eq_getElem (by lia)⟩;have E:Rd H' d (.dK (l.map nmV)):=(Sm.of sm).rd hd;have S:=last_at u;have I:H r=none:=ad;refine⟨_,rfl,d,rfl,.inl ⟨_,E⟩,_,rfl,_,rfl,r,_,_,_,rfl,rfl,SqL.of n,S,_,rfl,_,.inl ⟨_,Sum.inl (z:Int),E,rfl,rfl⟩,?_⟩;by_cases D:z∈l.map (·.1)
 .obtain⟨i,x,h1,h2,_⟩:=nm_val D;have hx:(z,x)∈l:=List.mem_of_getElem? h1;have L:R z x:=(ab.mem _ _).mp hx;rw[h2];refine⟨_,rfl,rfl,_,rfl,?_⟩;show if (!decide (V.int (x:Int)=V.int (s:Int)))=true then _ else _
  rw[eT];by_cases T:x=s
  .subst T;rw[Ik rfl];exact aC ⟨_,rfl,q r ps H' I sm n (by lia) ⟨λz=>by rw[z] at B;simp at B,nd,ch⟩ y λz' C=>.inr (by rw[u] at C;cases C;exact L)⟩
  rw[Il (by lia)];have al:∀p∈ps,p∈l.map (·.1):=λp v=>by
   obtain⟨i,hi⟩:=List.getElem?_of_mem v;have am:=(List.getElem?_eq_some_iff.mp hi).1;by_cases an:i+1<ps.length
   .exact (key p).mpr ⟨_,ch i p _ hi (List.getElem?_eq_getElem an)⟩
   rw[show i=ps.length-1 by lia,u] at hi;cases hi;exact D
  have hlen:=eC nd al;rw[List.length_map] at hlen;refine aL ⟨λZ' M=>∃c:List Nat,Z'=[some (.ref d),some (.int (s:Int)),some (.ref r)]/\c.length=ps.length+1/\Same H M/\M r=some (.lst (nV c))/\c.Nodup/\c[0]?=some s/\(∀i p q,c[i]?=some p->c[i+1]?=some q->R p q),
   λZ' M ⟨c,e,h1,h2,h3,h4,h5,h6⟩=>⟨l.length+1-c.length,by lia,c,e,rfl,h2,h3,by lia,h4,h5,h6⟩,?_⟩
  refine⟨_,rfl,.inl ⟨rfl,_,SqL.of n⟩,_,rfl,_,rfl,_,rfl,r,_,_,_,rfl,rfl,SqL.of n,S,d,V.int (x:Int),rfl,.inl ⟨_,Sum.inl (z:Int),E,rfl,h2.symm⟩,r,_,_,rfl,rfl,n,by rw[aK];lia,λH2 k2 y2=>?_⟩;refine⟨ps++[x],rfl,by rw[List.length_append,List.length_singleton],λb' o e=>?_,by rw[y2,iA,cR],?_,?_,λi p N v g=>?_⟩
  .rw[k2 _ (ah e I)];exact sm _ _ e
  .rw[List.nodup_append];refine⟨nd,by simp,λa ha b X=>?_⟩;rw[List.mem_singleton] at X;rintro rfl;subst X;obtain⟨i,hi⟩:=List.getElem?_of_mem ha;cases i with
   |zero=>rw[y] at hi;cases hi;exact T rfl
   |succ i=>
    have am:=(List.getElem?_eq_some_iff.mp hi).1;obtain⟨o,Y⟩:∃o,ps[i]?=some o:=⟨_,List.getElem?_eq_getElem (by lia)⟩;have:=inj _ _ _ (ch i o a Y hi) L;subst this;have:=fq nd Y u;lia
  .rw[List.getElem?_append_left B];exact y
  by_cases hi:i+1<ps.length
  .rw[List.getElem?_append_left (by lia)] at v;rw[List.getElem?_append_left hi] at g;exact ch i p N v g
  have ap:=(List.getElem?_eq_some_iff.mp g).1;rw[List.length_append,List.length_singleton] at ap;rw[List.getElem?_append_left (by lia),show i=ps.length-1 by lia,u] at v;rw[List.getElem?_append_right (by lia),show i+1-ps.length=0 by lia] at g;cases v;cases g;exact L
 rw[val_nm D];refine⟨_,rfl,rfl,_,rfl,?_⟩;show if (!decide (V.int (s:Int)=V.int (s:Int)))=true then _ else _
 rw[eT,Ik rfl];exact aC ⟨_,rfl,q r ps H' I sm n (by lia) ⟨λz=>by rw[z] at B;simp at B,nd,ch⟩ y λz' C=>.inl λN aM=>D ((key z).mpr ⟨N,by rw[u] at C;cases C;exact aM⟩)⟩
theorem xm:aP ["skin"] ["skin"] (ax i9):=by walk_at"sc"
theorem wN{f Cs:Addr}(U:Fun K "rim_steps" "rim_steps" i9 f fd)(X:SCls K Cs):ak P w K mg base CX0 1 f fd ["skin"] (p_ Cs):=by
 refine U.ok xm (by rintro _ _ _ _ ⟨_,_,_,rfl,_⟩;rfl) λIp A outer s H vs Q E hr h=>?_
 obtain⟨x,ts,A',rfl,sk,g,ad,hl,q⟩:=h;obtain⟨dx,O,R,p,S,vo,cs,L,sk,eA⟩:=sk;have Y:=sk.ob;have hD:=sk.th;have hu:=bI hr;have an:=line5000;refine⟨_,ao (aJ (ng (N:=["a","b","skin"]) (fr:=[none,none,some 0]) (g:=iH [] 2 (dO (bO 0) (dO (bO 1) iI))) (tt:=tB (nE (lZ (bV (aV 1) (bV (aV 0) c7))) (oM K (aV 2) "thirds"))) (bW (by decide +kernel) rfl rfl (by decide +kernel) (by decide +kernel) (by walk_at"cs") (by walk_at"ct")) rfl (jD (gC (pv 0) rfl))
    (λC' s' H' fp Io=>⟨b_ rfl (aO (gx 0 (by decide:(["a","b","skin"]:List Str).Nodup)) (aO (gx 1 (by decide:(["a","b","skin"]:List Str).Nodup)) bX)),
     dS (eG (gh hu (aR (af (pv 1) (pa1 (pv 0)))) (gC (pv 2) rfl))),pv 0,pv 1⟩))),?_⟩
 refine⟨_,rfl,x,Cs,dx,_,_,rfl,Y,X.cl,X.thirds,rfl,p,_,rfl,hD,True.intro,λks vs o H2 hk fz=>?_⟩;have sd:=nq hk;have lk:=az sd;have r:Sm H H2:=fz.sm;have al:=r.keep Y (λz=>z);have ab:=fz.at;have am:SdsAt H2 ks ((ents ts).map (·.1)):=Paired.imp' (λ_ _ ⟨a,e,h⟩=>⟨a,e,r.keep h (λz=>z)⟩) sd;intro D B;refine xJ (d:=p) (o:=o) (u:=.dT ((ents ts).map aS)) (ks:=ks) (λi Z H'=>∃C I,Z=[C,I,some (.ref x)]/\Same H2 H'/\H' D=some (.dK ((cf ts ((ents ts).take i)).map nmV))) ⟨none,none,rfl,bf B,aG⟩ (λi Z H' _ ⟨_,_,_,e,_⟩=>e _ _ ab) ?_ ?_
 .rintro i y Z H' hi ⟨C,I,rfl,sm,n⟩;obtain⟨⟨a,b⟩,hs,c,rfl,hc⟩:=bM am hi;rw[List.getElem?_map] at hs;obtain⟨⟨⟨a',b'⟩,w'⟩,he,hh⟩:=aY.mp hs;cases hh;have M:(ents ts).take (i+1)=(ents ts).take i++[((a,b),w')]:=by rw[List.take_add_one,he];rfl
  refine⟨c,_,rfl,SqT.of (sm _ _ hc),rfl,_,_,rfl,_,_,rfl,rfl,?_⟩;refine⟨_,rfl,_,rfl,lit2,λt1 H3 g1 l y3=>?_⟩;refine⟨_,rfl,x,Cs,dx,_,_,rfl,l _ _ (sm _ _ al),X.cl,X.thirds,rfl,p,_,rfl,.inr ⟨_,ky b a,t1,.inr ⟨o,l _ _ (sm _ _ ab)⟩,rfl,y3,rfl⟩,?_⟩;have ll:=rf ts ((ents ts).take i);have lt:((ents ts).take i).length<=600:=by rw[List.length_take,df];lia
  by_cases m:(b,a)∈(ents ts).map (·.1)
  .have hv:(aI ((ents ts).map aS) (ky b a)).isSome=true:=by
    cases e:aI ((ents ts).map aS) (ky b a) with
    |none=>exact (dB.mp e m).elim
    |some v=>rfl
   have T:cf ts ((ents ts).take (i+1))=cf ts ((ents ts).take i):=by rw[M];unfold cf;rw[List.map_append,List.filter_append];show _++List.filter _ [(a,b)]=_;rw[List.filter_cons_of_neg (by simpa using m)];simp
   refine⟨false,by rw[hv];rfl,aC ⟨_,_,rfl,sm.trans l,by rw[T];exact l _ _ n⟩⟩
  have T:cf ts ((ents ts).take (i+1))=cf ts ((ents ts).take i)++[(a,b)]:=by rw[M];unfold cf;rw[List.map_append,List.filter_append];show _++List.filter _ [(a,b)]=_;rw[List.filter_cons_of_pos (by simpa using m)];rfl
  have hn:a∉(cf ts ((ents ts).take i)).map (·.1):=λz=>by
   obtain⟨⟨a2,b2⟩,h1,h2⟩:=List.mem_map.mp z;have h2:a2=a:=h2;subst h2;have r1:=zG (λe he=>List.mem_of_mem_take he) h1;have r2:ay (En ts) a2 b:=rim_iff.mpr ⟨List.mem_map.mpr ⟨_,List.mem_of_getElem? he,rfl⟩,m⟩;have eb:=(steps_rim g ad).1 _ _ _ r1 r2;subst eb;unfold cf at h1;have h3:=(List.mem_filter.mp h1).1;have nd:=g.nd;rw[<-List.take_append_drop (i+1) (ents ts),M,List.map_append,List.map_append,List.nodup_append,List.nodup_append] at nd;exact nd.1.2.2 _ h3 _ (by simp) rfl
  refine⟨true,by rw[dB.mpr m];rfl,aL ⟨_,rfl,_,rfl,_,Sum.inl (a:Int),l _ _ n,rfl,by rw[List.length_map];lia,_,_,rfl,λb' o' e=>?_,?_⟩⟩
  .rw[aB (ah e B)];exact l _ _ (sm _ _ e)
  rw[aG];show some (HO.dK (aW _ (Sum.inl (a:Int)) (V.int (b:Int))))=_;rw[put_nm hn,T]
 rintro Z H' ⟨C,I,rfl,sm,n⟩;refine q D H' (r.free B) ((fz.smL (by rw[eA];exact List.mem_cons_self)).trans (SmL.of sm)) ?_;rw[n,List.take_of_length_le (by rw[lk,List.length_map];exact ai _)]
end
end K15
end
section
namespace K15
section
variable {R:Nat->Nat->Prop}
theorem DY(g:∀a b,R a b->∃c,R b c){ps:List Nat}{s:Nat}(h:Path R ps)(f:ps[0]?=some s)(i:∃q,R s q)(l:∀z,ps[ps.length-1]?=some z->(∀q,¬R z q)\/R z s):Cyc R ps:=by
 refine⟨h,λp q d e=>?_⟩;cases f.symm.trans e;have go:∃q,R p q:=by
  have n:=(List.getElem?_eq_some_iff.mp d).1;by_cases c:ps.length-1=0
  .rw[c] at d;cases f.symm.trans d;exact i
  have m:ps[ps.length-2]?=some (ps[ps.length-2]'(by lia)):=List.getElem?_eq_getElem _;exact g _ _ (h.ch (ps.length-2) _ _ m (by rw[show ps.length-2+1=ps.length-1 by lia];exact d))
 obtain⟨q,e⟩:=go;exact (l p d).elim (λz=>(z q e).elim) id
structure cZ(R:Nat->Nat->Prop)(ls:List (List Nat)):Prop where
 cyc:∀l∈ls,Cyc R l
 least:∀l∈ls,∀x,l[0]?=some x->∀p∈l,x<=p
 rise:ls.Pairwise λl m=>∀x y,l[0]?=some x->m[0]?=some y->x<y
 nd:ls.flatten.Nodup
theorem cZ.nil:cZ R []:=⟨by simp,by simp,.nil,by simp⟩
theorem cZ.step(inj:∀a b c,R a c->R b c->a=b){ls:List (List Nat)}{l:List Nat}{c:Nat}(h:cZ R ls)(f:Cyc R l)(i:l[0]?=some c)(w:∀m∈ls,c∉m)
  (low:∀p,(∃q,R p q)->p<c->∃m∈ls,p∈m) (up:∀m∈ls,∀x,m[0]?=some x->x<c):cZ R (ls++[l])/\∀x∈l,x∉ls.flatten:=by
 have r:∀x∈l,∀m∈ls,x∉m:=λx d m hm n=>w m hm (f.toPath.from inj (h.cyc m hm) d n i);have s:∀x∈l,x∉ls.flatten:=λx d z=>by
  obtain⟨m,hm,n⟩:=List.mem_flatten.mp z;exact r x d m hm n
 refine⟨⟨λm hm=>?_,λm hm x d p g=>?_,?_,?_⟩,s⟩
 .rcases List.mem_append.mp hm with z|z
  .exact h.cyc m z
  rw[List.mem_singleton.mp z];exact f
 .rcases List.mem_append.mp hm with z|z
  .exact h.least m z x d p g
  rw[List.mem_singleton.mp z] at d g;cases i.symm.trans d;refine u6 λlt=>?_;obtain⟨q,_,A⟩:=f.step g;obtain⟨u,o,B⟩:=low p ⟨q,A⟩ lt;exact r p g u o B
 .rw[List.pairwise_append];refine⟨h.rise,List.pairwise_singleton _ _,λm hm u o x y d v=>?_⟩;rw[List.mem_singleton.mp o] at v;cases i.symm.trans v;exact up m hm x d
 rw[List.flatten_append,List.nodup_append];refine⟨h.nd,by simpa using f.nd,λa ha b C e=>?_⟩;subst e;exact s a (by simpa using C) ha
theorem cZ.done{ls:List (List Nat)}(h:cZ R ls)(all:∀p,(∃q,R p q)->∃l∈ls,p∈l):Rims R ls:=⟨h.cyc,h.least,all,h.rise⟩
theorem cZ.in{ls:List (List Nat)}(h:cZ R ls){p:Nat}(b:p∈ls.flatten):∃q,R p q:=by obtain⟨m,hm,c⟩:=List.mem_flatten.mp b;obtain⟨q,_,d⟩:=(h.cyc m hm).step c;exact⟨q,d⟩
end
end K15
end
section
namespace K15
open PySem L2 K51 K31
theorem nh:∀(b dd:List Nat),(∀x∈b,x∉dd)->b.Nodup->fJ (dd.map kb) (b.map kb)=(dd++b).map kb
 | [],dd,_,_=>by rw[List.append_nil];rfl
 |x::b,dd,h,nd=>by
  have d:=h x List.mem_cons_self;rw[List.nodup_cons] at nd;show fJ (aW (dd.map kb) (Sum.inl (x:Int)) (V.bl true)) (b.map kb)=_;rw[jX,Ii d,nh b (dd++[x]) (λy c z=>?_) nd.2,List.append_assoc]
  .rfl
  rcases List.mem_append.mp z with z|z
  .exact h y (List.mem_cons_of_mem _ c) z
  rw[List.mem_singleton.mp z] at c;exact nd.1 c
theorem oe{dd:List Nat}{c:Nat}:(aI (dd.map kb) (Sum.inl (c:Int):Key)).isSome=decide (c∈dd):=by
 rw[<-jb];induction dd with
 |nil=>rfl
 |cons x dd b=>
  rw[List.map_cons,List.any_cons,b];by_cases e:c=x
  .subst e;simp[kb]
  have:decide ((kb x).1=(Sum.inl (c:Int):Key))=false:=Il λz=>e (ug.mp z).symm;rw[this];simp[e]
def NewL(H H':Hp)(T:Addr)(v:V)(l:List Nat):Prop:=∃a,v=.ref a/\H a=none/\a≠T/\H' a=some (.lst (nV l))
def A_(Cs:Addr)(vs:List V)(H:Hp)(Q:VK)(x:Addr)(ts:List Tri)(A:List Addr):Prop:=vs=[.ref x]/\SkA Cs H x ts A/\Good ts/\(∀c,Co ts c->One (En ts) c)/\ts.length<=200/\
 ∀T vs ls H',H T=none->SmL A H H'->H' T=some (.lst vs)->Paired (NewL H H' T) vs ls->Rims (ay (En ts)) ls->ls.length<=600->(∀l∈ls,l.length<=600)->Q (.ref T) H'
def tW(Cs:Addr):Sp:=λvs H Q _=>Exists (Ex3 (A_ Cs vs H Q))
theorem cyc_pos{ls:List (List Nat)}(h:∀l∈ls,l≠[]):ls.length<=ls.flatten.length:=by
 induction ls with
 |nil=>simp
 |cons l ls b=>
  have h1:=b λm hm=>h m (List.mem_cons_of_mem _ hm);have h2:0<l.length:=List.length_pos_iff.mpr (h l List.mem_cons_self);rw[List.flatten_cons,List.length_append,List.length_cons];lia
theorem B7{ls:List (List Nat)}{l:List Nat}(h:l∈ls):l.length<=ls.flatten.length:=by
 induction ls with
 |nil=>cases h
 |cons m ls b=>
  rw[List.flatten_cons,List.length_append];rcases List.mem_cons.mp h with rfl|h
  .lia
  have:=b h;lia
section
theorem ir:aP ["skin","onward","told","seen","corner","rim"] ["skin"] (ax j8):=by walk_at"sc"
theorem BG{f f1 f2 Cs:Addr}{fd d1 d2:FuncData}(U:Fun K "rims" "rims" j8 f fd)(mS:mg "sorted" = none)
  (GS:Use P w K mg base 1 "rim_steps" ["skin"] (p_ Cs) f1 d1) (GW:Use P w K mg base 1 "walked" ["onward","begin"] qr f2 d2) :
  ak P w K mg base CX0 2 f fd ["skin"] (tW Cs):=by
 refine U.ok ir (by rintro _ _ _ _ ⟨_,_,_,rfl,_⟩;rfl) λIp A outer s H vs Q E hr h=>?_
 obtain⟨x,ts,A',rfl,sk,g,al,hl,q⟩:=h;have hu:=bI hr;have b7:=line5000;refine⟨_,ae (sx 1 ir.nd (uc GS hr (pa1 (pv 0))))
  (ae (sx 2 ir.nd (bj cF))
  (ae (sx 3 ir.nd fC)
  (ae (bh aZ rfl (ba (a_ (pQ rfl) (by rfl) mS dq (pa1 (pv 1)))) (gx 4 ir.nd)
   (ao (bB (eG (gh hu (pv 4) (pv 3)))
    (ae (sx 5 ir.nd (uc GW hr (af (pv 1) (pa1 (pv 4)))))
    (ae (bF (bH bR cM cN cz (pv 2) (pa1 (pv 5))))
    (ao (bF (bH iV vp F3 qE (pv 3) (pa1 (ng (N:=["each"]) (fr:=[none]) (g_ (by decide +kernel) rfl (by decide +kernel) (by decide +kernel)) rfl (ba (pv 5))
     (λC s H fp Io=>⟨gx 0 (by decide:(["each"]:List Str).Nodup),cP,pv 0,eK⟩)))))))) bu)))
  (ao (aJ (pv 2)))))),?_⟩
 obtain⟨b8,a5,bt⟩:=steps_rim g al;have ri:=Bo g al;have rl:(cf ts (ents ts)).length<=600:=by have:=rf ts (ents ts);rw[df] at this;lia
 refine⟨_,rfl,x,ts,A',rfl,sk,g,al,hl,λD H1 b9 am hD=>?_⟩;generalize ca:cf ts (ents ts)=l at hD ri rl;refine⟨by decide,λT H2 hT s2 y2=>?_⟩;refine λS H3 hS s3 y3=>?_;have bb:=s3 _ _ (s2 _ _ hD);have an:=s3 _ _ y2;refine⟨_,rfl,D,_,rfl,.inl bb,True.intro,λks vs hk=>.inl ?_⟩;have ek:ks=(l.map (·.1) |>.map λn:Nat=>(n:Int)).map V.int:=by
  rcases hk with ⟨kvs,e,e2,_⟩|⟨kvs,as,e,_⟩
  .cases e;rw[e2,nm_keys];simp[nV]
  cases e
 refine⟨_,ek,by rw[List.length_map,List.length_map];lia,λp ms B pm ps=>?_⟩;obtain⟨cs,rfl,bd,ap⟩:=fX ri.nd pm ps;rw[List.map_map];walk_at"H3 p B H4 O y4";have y4:H4 p=some (.lst (nV cs)):=y4;have lcs:cs.length=l.length:=by rw[ap.length_eq,List.length_map]
 have L:∀c,c∈cs↔∃q,ay (En ts) c q:=λc=>by rw[ap.mem_iff,ri.key]
 have be:T≠S:=λz=>by rw[z,hS] at y2;cases y2
 have bw:T≠p:=λz=>by rw[z,B] at an;cases an
 have bx:S≠p:=λz=>by rw[z,B] at y3;cases y3
 refine⟨p,rfl,⟨_,SqL.of y4⟩,cA (K:=[]) (a:=p) (xs:=nV cs) (λi Z H'=>∃o4 o5 vs ls,Z=[some (.ref x),some (.ref D),some (.ref T),some (.ref S),o4,o5]/\(∀b o,b≠T->b≠S->H4 b=some o->H' b=some o)/\H' T=some (.lst vs)/\Paired (NewL H H' T) vs ls/\H' S=some (.dK (ls.flatten.map kb))/\
   cZ (ay (En ts)) ls/\(∀c∈cs.take i,∃m∈ls,c∈m)/\(∀m∈ls,∀c,m[0]?=some c->c∈cs.take i))
  ⟨none,none,[],[],rfl,λb o _ _ e=>e,O _ _ an,.nil,O _ _ y3,cZ.nil,by simp,by simp⟩ (λi Z H' _ ⟨_,_,_,_,_,e,_⟩=>SqL.of (e _ _ bw.symm bx.symm y4)) ?_ ?_⟩
 .rintro i y Z H' hi ⟨o4,o5,aM,ls,rfl,kp,R,pr,X,v,M,ab⟩;rw[nV,List.getElem?_map] at hi;obtain⟨c,I,rfl⟩:=aY.mp hi;have bg:=(List.getElem?_eq_some_iff.mp I).1;have et:cs.take (i+1)=cs.take i++[c]:=by rw[List.take_add_one,I];rfl
  have bA:ls.flatten.length<=600:=by have:=eC v.nd (m:=cs) λz d=>(L z).mpr (v.in d);lia
  refine⟨_,rfl,_,rfl,S,_,rfl,DGet.k (k:=Sum.inl (c:Int)) X,?_⟩;rw[oe];by_cases ad:c∈ls.flatten
  .refine⟨false,by rw[Ik ad];rfl,aC ⟨_,_,aM,ls,rfl,kp,R,pr,X,v,λz d=>?_,λm hm z d=>?_⟩⟩
   .rw[et] at d;rcases List.mem_append.mp d with d|d
    .exact M z d
    rw[List.mem_singleton.mp d];obtain⟨m,hm,h⟩:=List.mem_flatten.mp ad;exact⟨m,hm,h⟩
   rw[et];exact List.mem_append_left _ (ab m hm z d)
  refine⟨true,by rw[Il ad];rfl,aL ?_⟩;have bK:c∈l.map (·.1):=ap.mem_iff.mp (List.mem_of_getElem? I);have b0:H' D=some (.dK (l.map nmV)):=kp _ _ (ah hD hT) (ah (s2 _ _ hD) hS) (O _ _ bb);refine⟨_,rfl,_,rfl,D,l,ay (En ts),c,rfl,.inl b0,by lia,a5,ri,bK,λr ps H5 Y s5 y5 cb path h0 en=>?_⟩;have cyc:=DY bt path h0 ((L c).mp (List.mem_of_getElem? I)) en;have b1:∀p,(∃q,ay (En ts) p q)->p<c->∃m∈ls,p∈m:=λp B cc=>by
   obtain⟨j,u⟩:=List.mem_iff_getElem?.mp ((L p).mpr B);have a0:=(List.getElem?_eq_some_iff.mp u).1;refine M p (List.mem_iff_getElem?.mpr ⟨j,?_⟩);rw[List.getElem?_take_of_lt,u];refine Fx λhle=>?_;rcases Fy hle with h|h
   .have:=List.pairwise_iff_getElem.mp bd i j bg a0 h;rw[(List.getElem?_eq_some_iff.mp I).2,(List.getElem?_eq_some_iff.mp u).2] at this;lia
   subst h;rw[I] at u;cases u;lia
  have b2:∀m∈ls,∀z,m[0]?=some z->z<c:=λm hm z d=>by
   obtain⟨j,u⟩:=List.mem_iff_getElem?.mp (ab m hm z d);have a0:=(List.getElem?_eq_some_iff.mp u).1;rw[List.length_take] at a0;rw[List.getElem?_take_of_lt (by lia)] at u;have:=List.pairwise_iff_getElem.mp bd j i (by lia) bg (by lia);rw[(List.getElem?_eq_some_iff.mp I).2,(List.getElem?_eq_some_iff.mp u).2] at this;exact this
  obtain⟨b3,dj⟩:=v.step a5 cyc h0 (λm hm z=>ad (List.mem_flatten.mpr ⟨m,hm,z⟩)) b1 b2;have cd:ps.length<=600:=by have:=eC path.nd (m:=cs) λz d=>(L z).mpr (by obtain⟨q',_,h⟩:=cyc.step d;exact⟨q',h⟩);lia
  have b4:ls.length<=600:=by have:=cyc_pos λm hm=>(v.cyc m hm).ne;lia
  have bi:=s5 _ _ R;have bl:=s5 _ _ X;have rT:r≠T:=λz=>by rw[z,R] at Y;cases Y
  have rS:r≠S:=λz=>by rw[z,X] at Y;cases Y
  have b5:H r=none:=by
   cases e:H r with
   |none=>rfl
   |some o=>
    exfalso;have a1:H1 r≠none:=λz=>by have:=am.sm.free z;rw[e] at this;cases this
    obtain⟨o',a1⟩:=Option.ne_none_iff_exists'.mp a1;have:=kp _ _ rT rS (O _ _ (s3 _ _ (s2 _ _ a1)));rw[Y] at this;cases this
  refine⟨_,rfl,.inl ⟨rfl,_,SqL.of bi⟩,_,rfl,T,_,_,rfl,rfl,bi,by rw[az pr];lia,λH6 k6 y6=>?_⟩;have a2:H6 S=some (.dK (ls.flatten.map kb)):=(k6 S be.symm).trans bl;have bm:H6 r=some (.lst (nV ps)):=(k6 r rT).trans y5;refine⟨_,rfl,.inr (.inr (.inl ⟨rfl,.inl ⟨_,a2⟩⟩)),_,rfl,r,rfl,⟨_,SqL.of bm⟩,λD2 a3=>?_⟩;refine qj (K:=[]) (a:=r) (xs:=nV ps) (λi Z H'=>Same H6 H'/\H' D2=some (.dK ((ps.take i).map kb))/\∃o,Z=[o]) ⟨bf a3,aG,none,rfl⟩ (λi Z H' _ ⟨e,_⟩=>SqL.of (e _ _ bm)) ?_ ?_
  .rintro j y Z H7 u ⟨s7,y7,o,rfl⟩;rw[nV,List.getElem?_map] at u;obtain⟨z,d,rfl⟩:=aY.mp u;have bn:ps.take (j+1)=ps.take j++[z]:=by rw[List.take_add_one,d];rfl
   have nz:z∉ps.take j:=λh=>by
    have nd:=path.nd;rw[<-List.take_append_drop (j+1) ps,bn,List.nodup_append,List.nodup_append] at nd;exact nd.1.2.2 z h z (by simp) rfl
   refine⟨_,rfl,_,Sum.inl (z:Int),y7,rfl,by rw[List.length_map,List.length_take];lia,λb o' e=>?_,?_,_,rfl⟩
   .rw[aB (ah e a3)];exact s7 _ _ e
   rw[aG,jX,Ii nz,bn]
  rintro Z H7 ⟨s7,y7,o,rfl⟩;rw[aK,List.take_length] at y7;have b6:=s7 _ _ a2;refine⟨S,D2,_,_,rfl,rfl,(ah a2 a3),b6,.inl y7,by rw[List.length_map,List.length_map];lia,?_⟩;walk_at"H7 S H8 k8 y8";rw[nh ps _ dj path.nd] at y8;have a4:∀b o,b≠S->b≠T->H5 b=some o->H8 b=some o:=λb o n n' e=>by rw[k8 b n];exact s7 _ _ ((k6 b n').trans e)
  refine⟨_,_,_,ls++[ps],rfl,λb o n1 n2 e=>a4 b o n2 n1 (s5 _ _ (kp b o n1 n2 e)),(k8 T be).trans (s7 _ _ y6),?_,?_,b3,λz d=>?_,λm hm z d=>?_⟩
  .refine cB (Paired.imp' (λ_ _ ⟨a,e1,e2,e3,e4⟩=>⟨a,e1,e2,e3,a4 a _ (bC (s5 _ _ e4) bl (by intro z;cases z)) e3 (s5 _ _ e4)⟩) pr) (.cons ⟨r,rfl,b5,rT,a4 r _ rS rT y5⟩ .nil)
  .rw[y8,List.flatten_append];simp
  .rw[et] at d;rcases List.mem_append.mp d with d|d
   .obtain⟨m,hm,h⟩:=M z d;exact⟨m,List.mem_append_left _ hm,h⟩
   rw[List.mem_singleton.mp d];exact⟨ps,by simp,List.mem_of_getElem? h0⟩
  rw[et];rcases List.mem_append.mp hm with hm|hm
  .exact List.mem_append_left _ (ab m hm z d)
  rw[List.mem_singleton.mp hm,h0] at d;cases d;simp
 rintro Z H' ⟨o4,o5,aM,ls,rfl,kp,R,pr,X,v,M,ab⟩;have ht:cs.take (nV cs).length=cs:=by rw[aK,List.take_length]
 rw[ht] at M;have bA:ls.flatten.length<=600:=by have:=eC v.nd (m:=cs) λz d=>(L z).mpr (v.in d);lia
 have b4:=cyc_pos λm hm=>(v.cyc m hm).ne;refine⟨_,rfl,q T aM ls H' (am.sm.free hT) (am.trans λb o e=>.inl ?_) R pr (v.done λp B=>M p ((L p).mpr B)) (by lia) λm hm=>by have:=B7 hm;lia⟩;exact kp b o (ah e hT) (ah (s2 _ _ e) hS) (O _ _ (s3 _ _ (s2 _ _ e)))
end
end K15
end
section
namespace K15
section
variable {α:Type}
def lk(a:α):List α->α->List (α×α)
 | [],z=>[(a,z)]
 |b::r,z=>(a,b)::lk b r z
def cp:List α->List (α×α)
 | []=>[]
 |x::r=>lk x r x
theorem oz(r:List α)(b:α)(s:List α)(z:α):∀a:α,lk a (r++b::s) z=lk a r b++lk b s z:=by
 induction r with
 |nil=>intro a;rfl
 |cons c r d=>intro a;show (a,c)::lk c (r++b::s) z=_;rw[d];rfl
theorem uO{r:List α}{w x y:α}(z:α):∀{a:α},(x,y)∈lk a r w->(y=w/\(x,z)∈lk a r z)\/(y∈r/\(x,y)∈lk a r z):=by
 induction r with
 |nil=>
  intro a h;cases List.mem_singleton.mp h;exact .inl ⟨rfl,List.mem_singleton.mpr rfl⟩
 |cons b r c=>
  intro a h;rcases List.mem_cons.mp h with h|h
  .cases h;exact .inr ⟨List.mem_cons_self,List.mem_cons_self⟩
  rcases c h with ⟨h1,h2⟩|⟨h1,h2⟩
  .exact .inl ⟨h1,List.mem_cons_of_mem _ h2⟩
  exact .inr ⟨List.mem_cons_of_mem _ h1,List.mem_cons_of_mem _ h2⟩
theorem Cb(d:α)(s r:List α)(p:α×α)(h:p∈cp (d::(s++r))):p∈cp (r++d::s):=by
 cases r with
 |nil=>simpa using h
 |cons a r=>
  have h:p∈lk d (s++a::r) d:=h;show p∈lk a (r++d::s) a;rw[oz] at h |-;exact List.mem_append.mpr (List.mem_append.mp h).symm
theorem qQ{x d:α}{s r:List α}:x∈d::(s++r)↔x∈r++d::s:=by rw[List.mem_append,List.mem_cons,List.mem_cons,List.mem_append];exact⟨λh=>h.elim (λh=>.inr (.inl h)) λh=>h.elim (λh=>.inr (.inr h)) .inl,λh=>h.elim (λh=>.inr (.inr h)) λh=>h.elim .inl λh=>.inr (.inl h)⟩
def Al(G:List (α×α))(x y:α):Prop:=(x,y)∈G\/(y,x)∈G\/(x=y/\∀p∈G,p.1≠x/\p.2≠x)
structure Gl(P:α->α->Prop)(f:α->Nat)(cs:List (Nat×List α))(ids:List Nat)(G:List (α×α))(n g:Nat):Prop where
 nd:(cs.map (·.2)).flatten.Nodup
 ne:∀c∈cs,c.2≠[]
 idn:ids.Nodup
 id:∀i,i∈ids↔∃c∈cs,c.1=i
 ok:∀c∈cs,∀x y,(x,y)∈cp c.2->∃z,P x z/\Al G z y
 con:∀c∈cs,∀c'∈cs,c.1=c'.1->∀x∈c.2,∀y∈c'.2,f x=f y
 cl:∀c∈cs,∀x∈c.2,∀z,P x z->∃c'∈cs,c'.1=c.1/\z∈c'.2
 cnt:2*ids.length+G.length=n+cs.length+2*g
variable {P:α->α->Prop}{f:α->Nat}{cs cs':List (Nat×List α)}{ids:List Nat}{G:List (α×α)}{n g:Nat}
theorem Gl.to(h:Gl P f cs ids G n g)(nd:(cs'.map (·.2)).flatten.Nodup)(v:cs'.length=cs.length)
  (h1:∀l∈cs',∃c∈cs,c.1=l.1/\(∀x,x∈l.2↔x∈c.2)/\∀p∈cp l.2,p∈cp c.2) (h2:∀c∈cs,∃l∈cs',l.1=c.1/\∀x,x∈l.2↔x∈c.2):Gl P f cs' ids G n g:=by
 refine⟨nd,λc b e=>?_,h.idn,λi=>(h.id i).trans ⟨?_,?_⟩,λc b x y w=>?_,λc b l o e x m y A=>?_,λc b x m z B=>?_,by rw[v];exact h.cnt⟩
 .obtain⟨d,hd,_,hm,_⟩:=h1 c b;refine h.ne d hd (List.eq_nil_iff_forall_not_mem.mpr λx m=>?_);rw[<-hm,e] at m;cases m
 .rintro⟨c,b,rfl⟩;obtain⟨d,hd,e,_⟩:=h2 c b;exact⟨d,hd,e⟩
 .rintro⟨c,b,rfl⟩;obtain⟨d,hd,e,_⟩:=h1 c b;exact⟨d,hd,e⟩
 .obtain⟨d,hd,_,_,C⟩:=h1 c b;exact h.ok d hd x y (C _ w)
 .obtain⟨d,hd,q,hm,_⟩:=h1 c b;obtain⟨d',r,s,u,_⟩:=h1 l o;exact h.con d hd d' r (by rw[q,s,e]) x ((hm x).mp m) y ((u y).mp A)
 obtain⟨d,hd,q,hm,_⟩:=h1 c b;obtain⟨d',r,s,D⟩:=h.cl d hd x ((hm x).mp m) z B;obtain⟨l,o,E,u⟩:=h2 d' r;exact⟨l,o,by rw[E,s,q],(u z).mpr D⟩
abbrev fl(cs:List (Nat×List α)):List α:=(cs.map (·.2)).flatten
theorem cG{x:α}:x∈fl cs↔∃c∈cs,x∈c.2:=by
 rw[fl,List.mem_flatten];constructor
 .rintro⟨l,e,b⟩;obtain⟨c,d,rfl⟩:=List.mem_map.mp e;exact⟨c,d,b⟩
 rintro⟨c,d,b⟩;exact⟨_,List.mem_map.mpr ⟨c,d,rfl⟩,b⟩
theorem Gl.norm{A B:List (Nat×List α)}{i:Nat}{r s:List α}{d:α}(h:Gl P f (A++(i,r++d::s)::B) ids G n g):Gl P f ((i,d::(s++r))::(A++B)) ids G n g/\(fl (A++(i,r++d::s)::B)).Perm (fl ((i,d::(s++r))::(A++B))):=by
 have pm:(fl (A++(i,r++d::s)::B)).Perm (fl ((i,d::(s++r))::(A++B))):=by simp only[fl,List.map_append,List.map_cons,List.flatten_append,List.flatten_cons];exact (List.perm_append_comm_assoc _ _ _).trans (List.Perm.append_right _ (List.perm_append_comm (l₁:=r)))
 refine⟨h.to (pm.nodup_iff.mp h.nd) (by simp only[List.length_cons,List.length_append];lia) (λc b=>?_) λc b=>?_,pm⟩
 .rcases List.mem_cons.mp b with rfl|b
  .exact⟨_,List.mem_append_right _ List.mem_cons_self,rfl,λx=>qQ,λp e=>Cb d s r p e⟩
  exact⟨c,(List.mem_append.mp b).elim (List.mem_append_left _) λh=>List.mem_append_right _ (List.mem_cons_of_mem _ h),rfl,λ_=>uY,λ_ e=>e⟩
 rcases List.mem_append.mp b with b|b
 .exact⟨c,List.mem_cons_of_mem _ (List.mem_append_left _ b),rfl,λ_=>uY⟩
 rcases List.mem_cons.mp b with rfl|b
 .exact⟨_,List.mem_cons_self,rfl,λx=>qQ⟩
 exact⟨c,List.mem_cons_of_mem _ (List.mem_append_right _ b),rfl,λ_=>uY⟩
theorem Gl.pick(h:Gl P f cs ids G n g){d:α}(hd:d∈fl cs):∃i u A,Gl P f ((i,d::u)::A) ids G n g/\(fl cs).Perm (fl ((i,d::u)::A)):=by obtain⟨⟨i,l⟩,b,c⟩:=cG.mp hd;obtain⟨A,B,rfl⟩:=List.append_of_mem b;obtain⟨r,s,rfl⟩:=List.append_of_mem (show d∈l from c);exact⟨i,s++r,A++B,h.norm⟩
theorem uz{z y d1 d2:α}(h:Al G z y)(h1:y≠d1)(h2:y≠d2):Al ((d1,d2)::G) z y:=by
 rcases h with h|h|⟨rfl,h⟩
 .exact .inl (List.mem_cons_of_mem _ h)
 .exact .inr (.inl (List.mem_cons_of_mem _ h))
 refine .inr (.inr ⟨rfl,λp b=>?_⟩);rcases List.mem_cons.mp b with rfl|b
 .exact⟨λe=>h1 e.symm,λe=>h2 e.symm⟩
 exact h p b
theorem al_free{z d:α}(b:∀p∈G,p.1≠d/\p.2≠d)(h:Al G z d):z=d:=by
 rcases h with h|h|⟨e,_⟩
 .exact ((b _ h).2 rfl).elim
 .exact ((b _ h).1 rfl).elim
 exact e
theorem lU{a d1 d2 u w:α}{r:List α}(c:∀y∈r,y≠d1/\y≠d2)(d:∀x y,(x,y)∈lk a r u->∃z,P x z/\Al G z y)(f:∀z,Al G z u->Al ((d1,d2)::G) z w) :
  ∀x y,(x,y)∈lk a r w->∃z,P x z/\Al ((d1,d2)::G) z y:=λx y h=>by
 rcases uO u h with ⟨e,h'⟩|⟨h1,h'⟩
 .obtain⟨z,b,ha⟩:=d _ _ h';exact⟨z,b,e ▸ f z ha⟩
 obtain⟨z,b,ha⟩:=d _ _ h';exact⟨z,b,uz ha (c y h1).1 (c y h1).2⟩
theorem Dw{r:List α}{z x y:α}:∀{a:α},(x,y)∈lk a r z->y=z\/y∈r:=λ{a} h=>(uO z h).elim (λh=>.inl h.1) λh=>.inr h.1
theorem ux{l:List α}{x y:α}(h:(x,y)∈cp l):y∈l:=by
 cases l with
 |nil=>cases h
 |cons a r=>exact (Dw h).elim (λe=>e ▸ List.mem_cons_self) (List.mem_cons_of_mem _)
theorem Gl.mk'{o:List Nat}{p:List (α×α)}{g':Nat}(h:Gl P f cs ids G n g)(ρ:Nat->Nat)(nd:(cs'.map (·.2)).flatten.Nodup)(ne:∀c∈cs',c.2≠[])(idn:o.Nodup)(id:∀i,i∈o↔∃c∈cs',c.1=i)
  (ok:∀c∈cs',∀x y,(x,y)∈cp c.2->∃z,P x z/\Al p z y) (down:∀b∈cs',∀x∈b.2,∃c∈cs,ρ c.1=b.1/\x∈c.2) (up:∀c∈cs,∀x∈c.2,∃b∈cs',b.1=ρ c.1/\x∈b.2)
  (fρ:∀c∈cs,∀b∈cs,ρ c.1=ρ b.1->∀x∈c.2,∀y∈b.2,f x=f y) (cnt:2*o.length+p.length=n+cs'.length+2*g'):Gl P f cs' o p n g':=by
 refine⟨nd,ne,idn,id,ok,λc q b r e x l y s=>?_,λc q x l z m=>?_,cnt⟩
 .obtain⟨d,hd,u,l⟩:=down c q x l;obtain⟨d',v,w,s⟩:=down b r y s;exact fρ d hd d' v (by rw[u,w,e]) x l y s
 obtain⟨d,hd,u,l⟩:=down c q x l;obtain⟨d',v,w,m⟩:=h.cl d hd x l z m;obtain⟨b,r,A,m⟩:=up d' v z m;exact⟨b,r,by rw[A,w,u],m⟩
theorem Gl.step(h:Gl P f cs ids G n g){d1 d2:α}(a1:d1≠d2)(m1:d1∈fl cs)(m2:d2∈fl cs)(n1:∀p∈G,p.1≠d1/\p.2≠d1)(n2:∀p∈G,p.1≠d2/\p.2≠d2)(hf:f d1=f d2) :
  ∃cs' K g',Gl P f cs' K ((d1,d2)::G) n g'/\(fl cs).Perm (fl cs'):=by
 obtain⟨i,u,A,h1,R⟩:=h.pick m1;have q1:∀z,Al G z d1->Al ((d1,d2)::G) z d2:=λz O=>by cases al_free n1 O;exact .inl List.mem_cons_self
 have q2:∀z,Al G z d2->Al ((d1,d2)::G) z d1:=λz O=>by cases al_free n2 O;exact .inr (.inl List.mem_cons_self)
 have old:∀{ad:List (Nat×List α)},Gl P f ad ids G n g->∀c∈ad,d1∉c.2->d2∉c.2->∀x y,(x,y)∈cp c.2->∃z,P x z/\Al ((d1,d2)::G) z y:=λh0 c o E H x y w=>by
  obtain⟨z,O,ha⟩:=h0.ok c o x y w;have:=ux w;exact⟨z,O,uz ha (λe=>E (e ▸ this)) λe=>H (e ▸ this)⟩
 have dis:∀{j:Nat}{l:List α}{B:List (Nat×List α)},(fl ((j,l)::B)).Nodup->l.Nodup/\(∀x∈l,∀c∈B,x∉c.2)/\(fl B).Nodup:=λnd=>by
  simp only[fl,List.map_cons,List.flatten_cons] at nd;obtain⟨a,b,d⟩:=List.nodup_append.mp nd;exact⟨a,λx q c o a2=>d x q x (cG.mpr ⟨c,o,a2⟩) rfl,b⟩
 obtain⟨al,Y,a3⟩:=dis h1.nd;obtain⟨c2,S,Q⟩:=cG.mp (R.mem_iff.mp m2);rcases List.mem_cons.mp S with rfl|S
 .have Q:d2∈u:=(List.mem_cons.mp Q).resolve_left λe=>a1 e.symm;obtain⟨L,M,rfl⟩:=List.append_of_mem Q;have am:=al;rw[List.nodup_cons,List.nodup_append,List.nodup_cons] at am;obtain⟨E,H,⟨e3,e4⟩,e5⟩:=am;have an:∀x y,(x,y)∈lk d1 L d2++lk d2 M d1->∃z,P x z/\Al G z y:=λx y w=>h1.ok _ List.mem_cons_self x y (by show _∈lk d1 (L++d2::M) d1;rw[oz];exact w);have N:fl ((i,d1::(L++d2::M))::A)=fl ((i,d1::L)::(i,d2::M)::A):=by simp[fl]
  refine⟨(i,d1::L)::(i,d2::M)::A,ids,g,h1.mk' _root_.id (by have:=h1.nd;rw[show (List.map (·.2) ((i,d1::(L++d2::M))::A)).flatten=_ from N] at this;exact this) (λc o=>?_) h1.idn (λk=>(h1.id k).trans ⟨?_,?_⟩) (λc o=>?_) (λc o x q=>?_) (λc o x q=>?_) h1.con ?_,N ▸ R⟩
  .rcases List.mem_cons.mp o with rfl|o
   .simp
   rcases List.mem_cons.mp o with rfl|o
   .simp
   exact h1.ne c (List.mem_cons_of_mem _ o)
  .rintro⟨c,o,rfl⟩;rcases List.mem_cons.mp o with rfl|o
   .exact⟨_,List.mem_cons_self,rfl⟩
   exact⟨c,List.mem_cons_of_mem _ (List.mem_cons_of_mem _ o),rfl⟩
  .rintro⟨c,o,rfl⟩;rcases List.mem_cons.mp o with rfl|o
   .exact⟨_,List.mem_cons_self,rfl⟩
   rcases List.mem_cons.mp o with rfl|o
   .exact⟨_,List.mem_cons_self,rfl⟩
   exact⟨c,List.mem_cons_of_mem _ o,rfl⟩
  .rcases List.mem_cons.mp o with rfl|o
   .exact lU (λy C=>⟨λe=>E (e ▸ List.mem_append_left _ C),λe=>e5 y C d2 List.mem_cons_self e⟩) (λx y w=>an x y (List.mem_append_left _ w)) q2
   rcases List.mem_cons.mp o with rfl|o
   .exact lU (λy C=>⟨λe=>E (e ▸ List.mem_append_right _ (List.mem_cons_of_mem _ C)),λe=>e3 (e ▸ C)⟩) (λx y w=>an x y (List.mem_append_right _ w)) q1
   exact old h1 c (List.mem_cons_of_mem _ o) (Y _ List.mem_cons_self c o) (Y _ (List.mem_cons_of_mem _ Q) c o)
  .rcases List.mem_cons.mp o with rfl|o
   .exact⟨_,List.mem_cons_self,rfl,(List.mem_cons.mp q).elim (λe=>e ▸ List.mem_cons_self) λh=>List.mem_cons_of_mem _ (List.mem_append_left _ h)⟩
   rcases List.mem_cons.mp o with rfl|o
   .exact⟨_,List.mem_cons_self,rfl,List.mem_cons_of_mem _ (List.mem_append_right _ q)⟩
   exact⟨c,List.mem_cons_of_mem _ o,rfl,q⟩
  .rcases List.mem_cons.mp o with rfl|o
   .rcases List.mem_cons.mp q with rfl|q
    .exact⟨_,List.mem_cons_self,rfl,List.mem_cons_self⟩
    rcases List.mem_append.mp q with q|q
    .exact⟨_,List.mem_cons_self,rfl,List.mem_cons_of_mem _ q⟩
    exact⟨_,List.mem_cons_of_mem _ List.mem_cons_self,rfl,q⟩
   exact⟨c,List.mem_cons_of_mem _ (List.mem_cons_of_mem _ o),rfl,q⟩
  have:=h1.cnt;simp only[List.length_cons] at this |-;lia
 obtain⟨T,Z,rfl⟩:=List.append_of_mem S;obtain⟨j,l2⟩:=c2;obtain⟨r,s,rfl⟩:=List.append_of_mem (show d2∈l2 from Q);obtain⟨h2,ap⟩:=Gl.norm (A:=(i,d1::u)::T) h1;have pm:=R.trans ap;clear R ap h1 Y S a3;generalize s++r=v at h2 pm;replace h2:Gl P f ((j,d2::v)::(i,d1::u)::(T++Z)) ids G n g:=h2;replace pm:(fl cs).Perm (fl ((j,d2::v)::(i,d1::u)::(T++Z))):=pm;generalize T++Z=B at h2 pm;obtain⟨a4,ab,a5⟩:=dis h2.nd;obtain⟨_,bb,_⟩:=dis a5;have N:(fl ((j,d2::v)::(i,d1::u)::B)).Perm (fl ((i,d1::(u++d2::v))::B.map λc=>((if c.1=j then i else c.1),c.2))):=by simp only[fl,List.map_cons,List.map_map,List.flatten_cons,Function.comp_def,<-List.append_assoc,<-List.cons_append];exact List.Perm.append_right _ List.perm_append_comm
 have U:(i,d1::u)∈(j,d2::v)::(i,d1::u)::B:=List.mem_cons_of_mem _ List.mem_cons_self;have bd:∀k,(∃c∈(i,d1::(u++d2::v))::B.map λc=>((if c.1=j then i else c.1),c.2),c.1=k)↔∃c∈(j,d2::v)::(i,d1::u)::B,(if c.1=j then i else c.1)=k:=λk=>by
  constructor
  .rintro⟨c,o,rfl⟩;rcases List.mem_cons.mp o with rfl|o
   .exact⟨_,List.mem_cons_self,Ij rfl⟩
   obtain⟨c,D,rfl⟩:=List.mem_map.mp o;exact⟨c,List.mem_cons_of_mem _ (List.mem_cons_of_mem _ D),rfl⟩
  rintro⟨c,o,rfl⟩;rcases List.mem_cons.mp o with rfl|o
  .exact⟨_,List.mem_cons_self,(Ij rfl).symm⟩
  rcases List.mem_cons.mp o with rfl|o
  .exact⟨_,List.mem_cons_self,by show i=if i=j then i else i;split<;>rfl⟩
  exact⟨_,List.mem_cons_of_mem _ (List.mem_map.mpr ⟨c,o,rfl⟩),rfl⟩
 have mk:∀K g',K.Nodup->(∀k,k∈K↔∃c∈(j,d2::v)::(i,d1::u)::B,(if c.1=j then i else c.1)=k)->2*K.length+(G.length+1)=n+(B.length+1)+2*g'->
   Gl P f ((i,d1::(u++d2::v))::B.map λc=>((if c.1=j then i else c.1),c.2)) K ((d1,d2)::G) n g':=λK g' idn id cnt=>by
  refine h2.mk' (λk=>if k=j then i else k) (N.nodup_iff.mp h2.nd) (λc o=>?_) idn (λk=>(id k).trans (bd k).symm) (λc o=>?_) (λc o x q=>?_) (λc o x q=>?_) (λc o I D e x q y C=>?_) (by simp only[List.length_cons,List.length_map];exact cnt)
  .rcases List.mem_cons.mp o with rfl|o
   .simp
   obtain⟨c,D,rfl⟩:=List.mem_map.mp o;exact h2.ne c (List.mem_cons_of_mem _ (List.mem_cons_of_mem _ D))
  .rcases List.mem_cons.mp o with rfl|o
   .intro x y w;have w:(x,y)∈lk d1 (u++d2::v) d1:=w;rw[oz] at w;rcases List.mem_append.mp w with w|w
    .exact lU (d1:=d1) (d2:=d2) (λy C=>⟨λe=>(List.nodup_cons.mp al).1 (e ▸ C),λe=>ab d2 List.mem_cons_self _ List.mem_cons_self (e ▸ List.mem_cons_of_mem _ C)⟩) (λx y w=>h2.ok _ U x y w) q1 x y w
    exact lU (d1:=d1) (d2:=d2) (λy C=>⟨λe=>ab d1 (e ▸ List.mem_cons_of_mem _ C) _ List.mem_cons_self List.mem_cons_self,λe=>(List.nodup_cons.mp a4).1 (e ▸ C)⟩) (λx y w=>h2.ok _ List.mem_cons_self x y w) q2 x y w
   obtain⟨c,D,rfl⟩:=List.mem_map.mp o;exact old h2 c (List.mem_cons_of_mem _ (List.mem_cons_of_mem _ D)) (bb _ List.mem_cons_self c D) (ab _ List.mem_cons_self c (List.mem_cons_of_mem _ D))
  .rcases List.mem_cons.mp o with rfl|o
   .rcases List.mem_append.mp (show x∈(d1::u)++d2::v from q) with q|q
    .exact⟨_,U,by show (if i=j then i else i)=i;split<;>rfl,q⟩
    exact⟨_,List.mem_cons_self,Ij rfl,q⟩
   obtain⟨c,D,rfl⟩:=List.mem_map.mp o;exact⟨c,List.mem_cons_of_mem _ (List.mem_cons_of_mem _ D),rfl,q⟩
  .rcases List.mem_cons.mp o with rfl|o
   .exact⟨_,List.mem_cons_self,(Ij rfl).symm,List.mem_append_right (d1::u) q⟩
   rcases List.mem_cons.mp o with rfl|o
   .exact⟨_,List.mem_cons_self,by show i=if i=j then i else i;split<;>rfl,List.mem_append_left (d2::v) q⟩
   exact⟨_,List.mem_cons_of_mem _ (List.mem_map.mpr ⟨c,o,rfl⟩),rfl,q⟩
  have e:(if c.1=j then i else c.1)=if I.1=j then i else I.1:=e
  have X:∀c∈(j,d2::v)::(i,d1::u)::B,c.1=j->∀x∈c.2,f x=f d1:=λc o e x q=>(h2.con c o _ List.mem_cons_self e x q d2 List.mem_cons_self).trans hf.symm;have fi:∀c∈(j,d2::v)::(i,d1::u)::B,c.1=i->∀x∈c.2,f x=f d1:=λc o e x q=>h2.con c o _ U e x q d1 List.mem_cons_self;by_cases E:c.1=j
  .by_cases H:I.1=j
   .rw[X c o E x q,X I D H y C]
   rw[Ij E,Ii H] at e;rw[X c o E x q,fi I D e.symm y C]
  by_cases H:I.1=j
  .rw[Ii E,Ij H] at e;rw[fi c o e x q,X I D H y C]
  rw[Ii E,Ii H] at e;exact h2.con c o I D e x q y C
 have cn:=h2.cnt;simp only[List.length_cons] at cn;by_cases aM:i=j
 .refine⟨_,ids,g+1,mk ids (g+1) h2.idn (λk=>(h2.id k).trans ?_) (by lia),pm.trans N⟩;have:∀m,(if m=j then i else m)=m:=λm=>by
   split
   .rw[aM];exact (‹m=j›).symm
   rfl
  simp only[this]
 have a0:=(h2.id j).mpr ⟨_,List.mem_cons_self,rfl⟩;have be:=(h2.id i).mpr ⟨_,U,rfl⟩;have:=List.length_erase_of_mem a0;have:=List.length_pos_of_mem a0;refine⟨_,ids.erase j,g,mk _ g (h2.idn.erase j) (λk=>h2.idn.mem_erase_iff.trans ⟨?_,?_⟩) (by lia),pm.trans N⟩
 .rintro⟨hk,hm⟩;obtain⟨c,o,rfl⟩:=(h2.id k).mp hm;exact⟨c,o,Ii hk⟩
 rintro⟨c,o,rfl⟩
 split
 .exact⟨aM,be⟩
 exact⟨‹_›,(h2.id _).mpr ⟨c,o,rfl⟩⟩
end
end K15
end
section
namespace K15
theorem dg{α β:Type}{R:α->β->Prop}{c:List α}:∀{l2:List β},c.Nodup->(∀x∈c,∃y∈l2,R x y)->(∀x∈c,∀d∈c,∀y,R x y->R d y->x=d)->c.length<=l2.length:=by
 induction c with
 |nil=>intro l2 _ _ _;exact aD _
 |cons x c g=>
  intro l2 nd tot inj;obtain⟨y,i,l⟩:=tot x List.mem_cons_self;obtain⟨A,B,rfl⟩:=List.append_of_mem i;obtain⟨h1,h2⟩:=List.nodup_cons.mp nd;have:=g (l2:=A++B) h2 (λd e=>by
   obtain⟨m,n,f⟩:=tot d (List.mem_cons_of_mem _ e);refine⟨m,?_,f⟩;rcases List.mem_append.mp n with h|h
   .exact List.mem_append_left _ h
   rcases List.mem_cons.mp h with rfl|h
   .exact (h1 (inj x List.mem_cons_self d (List.mem_cons_of_mem _ e) _ l f ▸ e)).elim
   exact List.mem_append_right _ h) λa ha b o=>inj a (List.mem_cons_of_mem _ ha) b (List.mem_cons_of_mem _ o)
  simp only[List.length_append,List.length_cons] at this |-;lia
abbrev keys(ts:List Tri):List (Nat×Nat):=(ents ts).map (·.1)
theorem bE{ts:List Tri}{a b:Nat}:(a,b)∈keys ts↔∃c,En ts a b c:=by
 constructor
 .intro h;obtain⟨⟨p,c⟩,d,e⟩:=List.mem_map.mp h;cases e;exact⟨c,d⟩
 rintro⟨c,h⟩;exact List.mem_map.mpr ⟨_,h,rfl⟩
def Pv(ts:List Tri)(x z:Nat×Nat):Prop:=En ts x.1 x.2 z.1/\z.2=x.1
def gls(ts:List Tri):List ((Nat×Nat)×(Nat×Nat)):=((keys ts).filter λd=>decide (d.2<d.1)&&decide ((d.2,d.1)∈keys ts)).map λd=>(d,(d.2,d.1))
theorem jF{ts:List Tri}{x y:Nat×Nat}:(x,y)∈gls ts↔x∈keys ts/\x.2<x.1/\(x.2,x.1)∈keys ts/\y=(x.2,x.1):=by
 simp only[gls,List.mem_map,List.mem_filter,eZ,decide_eq_true_eq,gQ];constructor
 .rintro⟨d,⟨h1,h2,b⟩,rfl,rfl⟩;exact⟨h1,h2,b,rfl⟩
 rintro⟨h1,h2,b,rfl⟩;exact⟨x,⟨h1,h2,b⟩,rfl,rfl⟩
section
variable {ts:List Tri}{lot:Nat->Nat}
theorem B5(g:Good ts)(s:∀a b c,En ts a b c->lot a=lot b):∀us:List Tri,(∀t∈us,t∈ts)->(keys us).Nodup->∃cs ids,Gl (Pv ts) (λd=>lot d.1) cs ids [] us.length 0/\(fl cs).Perm (keys us)/\∀i∈ids,i<us.length:=by
 intro us;induction us with
 |nil=>intro _ _;exact⟨[],[],⟨by simp,by simp,by simp,by simp,by simp,by simp,by simp,rfl⟩,List.Perm.refl _,by simp⟩
 |cons t us C=>
  intro u nd;obtain⟨a,b,c⟩:=t;have o:En ts a b c:=cE.mpr (.inl (u _ List.mem_cons_self));have p:=g.sk.rot o;have q:=g.sk.rot p;have r:keys ((a,b,c)::us)=(a,b)::(b,c)::(c,a)::keys us:=rfl;rw[r] at nd;obtain⟨cs,ids,h,pm,hi⟩:=C (λt D=>u t (List.mem_cons_of_mem _ D)) (List.nodup_cons.mp (List.nodup_cons.mp (List.nodup_cons.mp nd).2).2).2;have v:(fl ((us.length,[(a,b),(c,a),(b,c)])::cs)).Perm (keys ((a,b,c)::us)):=by rw[r];show ((a,b)::(c,a)::(b,c)::fl cs).Perm _;exact List.Perm.cons _ ((List.Perm.swap _ _ _).trans (List.Perm.cons _ (List.Perm.cons _ pm)))
  have w:∀c∈cs,c.1≠us.length:=λc E e=>by
   have:=hi _ ((h.id _).mpr ⟨c,E,rfl⟩);lia
  have H:∀z:Nat×Nat,∀x∈[(a,b),(c,a),(b,c)],Pv ts x z->z∈[(a,b),(c,a),(b,c)]:=λz x f l=>by
   obtain⟨K,L⟩:=z;obtain⟨l,e⟩:=l;simp only[List.mem_cons,List.not_mem_nil,or_false] at f;rcases f with rfl|rfl|rfl
   .cases g.sk.one l o;cases e;simp
   .cases g.sk.one l q;cases e;simp
   cases g.sk.one l p;cases e;simp
  have A:∀x∈[(a,b),(c,a),(b,c)],lot x.1=lot a:=λx f=>by
   simp only[List.mem_cons,List.not_mem_nil,or_false] at f;rcases f with rfl|rfl|rfl
   .rfl
   .exact s _ _ _ q
   exact (s _ _ _ o).symm
  refine⟨(us.length,[(a,b),(c,a),(b,c)])::cs,us.length::ids,⟨v.nodup_iff.mpr (r ▸ nd),λd hd=>?_,List.nodup_cons.mpr ⟨λI=>?_,h.idn⟩,λi=>?_,λd hd x y n=>?_,λd hd d' m e x f y B=>?_,λd hd x f z l=>?_,?_⟩,v,λi hm=>?_⟩
  .rcases List.mem_cons.mp hd with rfl|hd
   .simp
   exact h.ne d hd
  .have:=hi _ I;lia
  .rw[List.mem_cons,h.id];constructor
   .rintro (rfl|⟨d,hd,rfl⟩)
    .exact⟨_,List.mem_cons_self,rfl⟩
    exact⟨d,List.mem_cons_of_mem _ hd,rfl⟩
   rintro⟨d,hd,rfl⟩;rcases List.mem_cons.mp hd with rfl|hd
   .exact .inl rfl
   exact .inr ⟨d,hd,rfl⟩
  .rcases List.mem_cons.mp hd with rfl|hd
   .have n:(x,y)∈[((a,b),(c,a)),((c,a),(b,c)),((b,c),(a,b))]:=n;simp only[List.mem_cons,List.not_mem_nil,or_false,gQ] at n;refine⟨y,?_,.inr (.inr ⟨rfl,by simp⟩)⟩;rcases n with ⟨rfl,rfl⟩|⟨rfl,rfl⟩|⟨rfl,rfl⟩
    .exact⟨o,rfl⟩
    .exact⟨q,rfl⟩
    exact⟨p,rfl⟩
   exact h.ok d hd x y n
  .rcases List.mem_cons.mp hd with rfl|hd
   .rcases List.mem_cons.mp m with rfl|m
    .exact (A x f).trans (A y B).symm
    exact (w _ m e.symm).elim
   rcases List.mem_cons.mp m with rfl|m
   .exact (w _ hd e).elim
   exact h.con d hd d' m e x f y B
  .rcases List.mem_cons.mp hd with rfl|hd
   .exact⟨_,List.mem_cons_self,rfl,H z x f l⟩
   obtain⟨d',m,e,l⟩:=h.cl d hd x f z l;exact⟨d',List.mem_cons_of_mem _ m,e,l⟩
  .have:=h.cnt;simp only[List.length_cons] at this |-;lia
  simp only[List.length_cons];rcases List.mem_cons.mp hm with rfl|hm
  .lia
  have:=hi i hm;lia
theorem DL{α:Type}{P:α->α->Prop}{f:α->Nat}{cs:List (Nat×List α)}{ids:List Nat}{n:Nat}(h:Gl P f cs ids [] n 0):∀L:List (α×α),L.Pairwise (λp q=>q.1≠p.1/\q.2≠p.1/\q.1≠p.2/\q.2≠p.2)->(∀p∈L,p.1≠p.2/\p.1∈fl cs/\p.2∈fl cs/\f p.1=f p.2)->
  ∃cs' c g',Gl P f cs' c L n g'/\(fl cs).Perm (fl cs'):=by
 intro L;induction L with
 |nil=>intro _ _;exact⟨cs,ids,0,h,List.Perm.refl _⟩
 |cons p L e=>
  intro g d;obtain⟨h1,h2⟩:=List.pairwise_cons.mp g;obtain⟨cs',c,g',h',pm⟩:=e h2 λq b=>d q (List.mem_cons_of_mem _ b);obtain⟨i,l,m,o⟩:=d p List.mem_cons_self;obtain⟨r,s,u,h2,v⟩:=h'.step i (pm.mem_iff.mp l) (pm.mem_iff.mp m) (λq b=>⟨(h1 q b).1,(h1 q b).2.1⟩) (λq b=>(h1 q b).2.2) o;exact⟨r,s,u,h2,pm.trans v⟩
theorem B4(g:Good ts)(i:∀a b c,En ts a b c->lot a=lot b):∃cs ids h,Gl (Pv ts) (λd=>lot d.1) cs ids (gls ts) ts.length h/\(keys ts).Perm (fl cs):=by
 obtain⟨cs,ids,h,pm,_⟩:=B5 g i ts (λ_ h=>h) g.nd;obtain⟨cs',l,g',h',m⟩:=DL h (gls ts) (by
  rw[gls,List.pairwise_map];refine List.Pairwise.imp_of_mem ?_ (List.Pairwise.filter _ g.nd);rintro⟨a,b⟩ ⟨c,d⟩ h1 h2 f;simp only[List.mem_filter,eZ,decide_eq_true_eq] at h1 h2;simp only[ne_eq,gQ] at f |-;refine⟨λe=>f ⟨e.1.symm,e.2.symm⟩,λe=>?_,λe=>?_,λe=>f ⟨e.2.symm,e.1.symm⟩⟩
  .lia
  .lia) (by
  rintro⟨⟨a,b⟩,y⟩ n;obtain⟨h1,h2,o,rfl⟩:=jF.mp n;obtain⟨c,p⟩:=bE.mp h1;refine⟨λe=>?_,pm.mem_iff.mpr h1,pm.mem_iff.mpr o,i _ _ _ p⟩;have:=congrArg Prod.fst e;dsimp only at this h2;lia)
 exact⟨cs',l,g',h',pm.symm.trans m⟩
end
end K15
end
section
namespace K15
section
variable {α:Type}
theorem Ao{F:α->Nat}{r:List α}{z:α}:∀{a:α},(∀x y,(x,y)∈lk a r z->F x=F y)->∀y∈r,F y=F a:=by
 induction r with
 |nil=>intro a _ y c;cases c
 |cons b r d=>
  intro a h y c;have e:=h a b List.mem_cons_self;rcases List.mem_cons.mp c with rfl|c
  .exact e.symm
  exact (d (λx y f=>h x y (List.mem_cons_of_mem _ f)) y c).trans e.symm
theorem AM{F:α->Nat}{l:List α}(h:∀x y,(x,y)∈cp l->F x=F y):∀x∈l,∀y∈l,F x=F y:=by
 cases l with
 |nil=>intro x b;cases b
 |cons a r=>
  have k:∀y∈a::r,F y=F a:=λy c=>(List.mem_cons.mp c).elim (λe=>e ▸ rfl) (Ao h y);exact λx b y c=>(k x b).trans (k y c).symm
theorem BV{r:List α}{z x:α}:∀{a:α},x∈a::r->∃y,(x,y)∈lk a r z:=by
 induction r with
 |nil=>intro a h;cases List.mem_singleton.mp h;exact⟨z,List.mem_cons_self⟩
 |cons b r c=>
  intro a h;rcases List.mem_cons.mp h with rfl|h
  .exact⟨b,List.mem_cons_self⟩
  obtain⟨y,d⟩:=c h;exact⟨y,List.mem_cons_of_mem _ d⟩
theorem Cc{l:List α}{x:α}(h:x∈l):∃y∈l,(x,y)∈cp l:=by
 cases l with
 |nil=>cases h
 |cons a r=>
  obtain⟨y,b⟩:=BV (z:=a) h;exact⟨y,ux (l:=a::r) b,b⟩
theorem fl_uniq{c b:Nat×List α}{x:α}:∀{cs:List (Nat×List α)},(fl cs).Nodup->c∈cs->b∈cs->x∈c.2->x∈b.2->c=b:=by
 intro cs;induction cs with
 |nil=>intro _ h;cases h
 |cons d cs m=>
  intro nd h h' f g;obtain⟨_,n,l⟩:=List.nodup_append.mp (show (d.2++fl cs).Nodup from nd);rcases List.mem_cons.mp h with e|h1
  .rcases List.mem_cons.mp h' with i | h2
   .rw[e,i]
   exact (l x (e ▸ f) x (cG.mpr ⟨_,h2,g⟩) rfl).elim
  rcases List.mem_cons.mp h' with i | h2
  .exact (l x (i ▸ g) x (cG.mpr ⟨_,h1,f⟩) rfl).elim
  exact m n h1 h2 f g
theorem AL:∀{cs:List (Nat×List α)},(fl cs).Nodup->(∀c∈cs,c.2≠[])->cs.Nodup:=by
 intro cs;induction cs with
 |nil=>intro _ _;exact .nil
 |cons d cs e=>
  intro nd ne;obtain⟨_,f,g⟩:=List.nodup_append.mp (show (d.2++fl cs).Nodup from nd);refine List.nodup_cons.mpr ⟨λh=>?_,e f λc i=>ne c (List.mem_cons_of_mem _ i)⟩;obtain⟨x,b⟩:=List.exists_mem_of_ne_nil _ (ne d List.mem_cons_self);exact g x b x (cG.mpr ⟨d,h,b⟩) rfl
end
def Conn(ts:List Tri)(a b:Nat):Prop:=∀S:Nat->Prop,(∀x y z,En ts x y z->(S x↔S y))->S a->S b
theorem uA{ts:List Tri}(g:Good ts){z y:Nat×Nat}(d:z∈keys ts)(h:Al (gls ts) z y):y=(z.2,z.1)\/(y=z/\(z.2,z.1)∉keys ts):=by
 rcases h with h|h|⟨rfl,h⟩
 .exact .inl (jF.mp h).2.2.2
 .rw[(jF.mp h).2.2.2];exact .inl rfl
 refine .inr ⟨rfl,λf=>?_⟩;obtain⟨a,b⟩:=z;obtain⟨c,i⟩:=bE.mp d;rcases Nat.lt_or_gt_of_ne (g.sk.ne i) with e|e
 .exact (h _ (jF.mpr ⟨f,e,d,rfl⟩)).2 rfl
 exact (h _ (jF.mpr ⟨d,e,f,rfl⟩)).1 rfl
section
variable {ts:List Tri}{lot:Nat->Nat}{cs:List (Nat×List (Nat×Nat))}{ids:List Nat}{n h:Nat}
theorem uQ(g:Good ts)(G:Gl (Pv ts) (λd=>lot d.1) cs ids (gls ts) n h)(pm:(keys ts).Perm (fl cs)){c:Nat×List (Nat×Nat)}(l:c∈cs){a b t:Nat}(m:(a,b)∈c.2)(he:En ts a b t) :
  ((a,t)∈keys ts->(a,t)∈c.2)/\((a,t)∉keys ts->(t,a)∈c.2):=by
 obtain⟨y,f,o⟩:=Cc m;obtain⟨⟨r,s⟩,⟨p,e⟩,ha⟩:=G.ok c l _ _ o;cases g.sk.one he p;cases e;rcases uA g (bE.mpr ⟨_,g.sk.rot (g.sk.rot he)⟩) ha with rfl|⟨rfl,i⟩
 .refine⟨λ_=>f,λi=>?_⟩;exact (i (pm.mem_iff.mpr (cG.mpr ⟨c,l,f⟩))).elim
 exact⟨λq=>(i q).elim,λ_=>f⟩
theorem iB(g:Good ts)(G:Gl (Pv ts) (λd=>lot d.1) cs ids (gls ts) n h)(pm:(keys ts).Perm (fl cs)){a:Nat}(o:One (En ts) a):∃c∈cs,∀p,(∃q,En ts a p q)->(a,p)∈c.2:=by
 obtain⟨F,hF,all⟩:=o;obtain⟨m,f⟩:∃p,F[0]?=some p:=⟨F[0]'(List.length_pos_iff.mpr hF.ne),List.getElem?_eq_getElem _⟩;obtain⟨c,l,r⟩:=cG.mp (pm.mem_iff.mp (bE.mpr (hF.key m (List.mem_of_getElem? f))));have k:∀(i p:Nat),F[i]?=some p->(a,p)∈c.2:=by
  intro i;induction i with
  |zero=>intro p b;rw[f] at b;cases b;exact r
  |succ i s=>
   intro p b;have hi:i<F.length:=by have:=(List.getElem?_eq_some_iff.mp b).1;lia
   have e:F[i]?=some F[i]:=List.getElem?_eq_getElem hi;exact (uQ g G pm l (s _ e) (hF.ch i _ _ e b)).1 (bE.mpr (hF.key p (List.mem_of_getElem? b)))
 exact⟨c,l,λp b=>by
  obtain⟨i,hi⟩:=List.getElem?_of_mem (all p b);exact k i p hi⟩
theorem Aw(g:Good ts)(o:∀c,Co ts c->One (En ts) c)(G:Gl (Pv ts) (λd=>lot d.1) cs ids (gls ts) n h)(pm:(keys ts).Perm (fl cs)){lab:Nat->Nat}{L:List Nat}(nd:L.Nodup)(I:∀x,x∈L↔Co ts x/\lab x=x)
  (Q:∀a c,ay (En ts) c a->lab c=lab a) (K:∀a,Co ts a->lab a∈L) (T:∀a,Co ts a->∀S:Nat->Prop,(∀x y,ay (En ts) x y->(S x↔S y))->S a->S (lab a)):cs.length=L.length:=by
 have lc:∀c∈cs,∀x∈c.2,∀y∈c.2,lab x.1=lab y.1:=λc f=>AM (F:=λd:Nat×Nat=>lab d.1) λx y l=>by
  obtain⟨a,b⟩:=x;obtain⟨⟨U,z2⟩,⟨X,e⟩,ha⟩:=G.ok c f _ _ l;cases e;have M:=g.sk.rot (g.sk.rot X);rcases uA g (bE.mpr ⟨_,M⟩) ha with rfl|⟨rfl,u⟩
  .rfl
  exact (Q a U ⟨⟨_,M⟩,λz=>u (bE.mpr z)⟩).symm
 have co:∀c∈cs,∀x∈c.2,Co ts x.1:=λc f x i=>by
  obtain⟨q,Y⟩:=bE.mp (pm.mem_iff.mpr (cG.mpr ⟨c,f,i⟩));exact⟨_,q,Y⟩
 have fan:∀c∈cs,∀x∈c.2,∀p q,En ts (lab x.1) p q->(lab x.1,p)∈c.2:=λc f x i=>by
  have N:=co c f x i;refine T x.1 N (λv=>∀p q,En ts v p q->(v,p)∈c.2) (λv w z=>?_) λp q l=>?_
  .obtain⟨⟨b,r⟩,u⟩:=z;obtain⟨Z,A,B⟩:=iB g G pm (o v ⟨_,_,r⟩);obtain⟨cw,O,C⟩:=iB g G pm (o w ⟨_,_,g.sk.rot r⟩);have h1:=(uQ g G pm O (C _ ⟨_,g.sk.rot r⟩) (g.sk.rot r)).2 λhk=>u (bE.mp hk);have e:Z=cw:=fl_uniq G.nd A O (B _ ⟨_,r⟩) h1;subst e;constructor
   .intro D p q l;cases fl_uniq G.nd f A (D _ _ r) (B _ ⟨_,r⟩);exact C p ⟨q,l⟩
   intro D p q l;cases fl_uniq G.nd f A (D _ _ (g.sk.rot r)) (C _ ⟨_,g.sk.rot r⟩);exact B p ⟨q,l⟩
  obtain⟨ca,ab,fa⟩:=iB g G pm (o _ N);obtain⟨q',ad⟩:=bE.mp (pm.mem_iff.mpr (cG.mpr ⟨c,f,i⟩));cases fl_uniq G.nd f ab i (fa _ ⟨q',ad⟩);exact fa p ⟨q,l⟩
 refine fQ (dg (R:=λc m=>∃x∈c.2,lab x.1=m) (AL G.nd G.ne) (λc f=>?_) λc f c' P m ⟨x,i,e⟩ ⟨E,H,s⟩=>?_)
  (dg (R:=λm c=>c∈cs/\∃x∈c.2,lab x.1=m) nd (λm hm=>?_) λm _ m' _ c ⟨f,x,i,e⟩ ⟨_,E,H,s⟩=>?_)
 .obtain⟨x,i⟩:=List.exists_mem_of_ne_nil _ (G.ne c f);exact⟨_,K _ (co c f x i),x,i,rfl⟩
 .subst e;obtain⟨p,q,l⟩:=((I _).mp (K _ (co c f x i))).1;have h1:=fan c f x i p q l;have h2:=fan c' P E H p q (s ▸ l);rw[s] at h2;exact fl_uniq G.nd f P h1 h2
 .obtain⟨⟨p,q,l⟩,e⟩:=(I m).mp hm;obtain⟨c,f,i⟩:=cG.mp (pm.mem_iff.mp (bE.mpr ⟨q,l⟩));exact⟨c,f,f,_,i,e⟩
 rw[<-e,<-s,lc c f x i E H]
theorem yP(g:Good ts)(o:∀c,Co ts c->One (En ts) c)(G:Gl (Pv ts) (λd=>lot d.1) cs ids (gls ts) n h)(pm:(keys ts).Perm (fl cs)){L:List Nat}(nd:L.Nodup)(N:∀x,x∈L↔Co ts x/\lot x=x)
  (O:∀a,Co ts a->lot a∈L) (P:∀a b,Co ts a->Co ts b->lot a=lot b->Conn ts a b):ids.length=L.length:=by
 have co:∀c∈cs,∀x∈c.2,Co ts x.1:=λc f x l=>by
  obtain⟨q,Q⟩:=bE.mp (pm.mem_iff.mpr (cG.mpr ⟨c,f,l⟩));exact⟨_,q,Q⟩
 have same:∀c∈cs,∀s∈cs,∀x∈c.2,∀u∈s.2,lot x.1=lot u.1->s.1=c.1:=λc f s w x l u y e=>by
  refine P x.1 u.1 (co c f x l) (co s w u y) e (λv=>∀d∈cs,∀p,(v,p)∈d.2->d.1=c.1) (λa b t he=>?_) (λd hd p r=>?_) s w u.2 y
  .have B:=g.sk.rot he;obtain⟨ca,z,fa⟩:=iB g G pm (o a ⟨_,_,he⟩);obtain⟨M,C,D⟩:=iB g G pm (o b ⟨_,_,B⟩);obtain⟨d,hd,A,S⟩:=G.cl M C (b,t) (D _ ⟨_,B⟩) (a,b) ⟨B,rfl⟩;cases fl_uniq G.nd hd z S (fa _ ⟨_,he⟩);have T:∀d∈cs,∀p,(a,p)∈d.2->d=ca:=λd hd p r=>fl_uniq G.nd hd z r (fa p (bE.mp (pm.mem_iff.mpr (cG.mpr ⟨d,hd,r⟩))));have U:∀d∈cs,∀p,(b,p)∈d.2->d=M:=λd hd p r=>fl_uniq G.nd hd C r (D p (bE.mp (pm.mem_iff.mpr (cG.mpr ⟨d,hd,r⟩))));constructor
   .intro E d hd p r;rw[U d hd p r,<-A];exact E _ z _ (fa _ ⟨_,he⟩)
   intro E d hd p r;rw[T d hd p r,A];exact E _ C _ (D _ ⟨_,B⟩)
  obtain⟨ca,z,fa⟩:=iB g G pm (o _ (co c f x l));rw[fl_uniq G.nd hd z r (fa p (bE.mp (pm.mem_iff.mpr (cG.mpr ⟨d,hd,r⟩)))),fl_uniq G.nd f z l (fa _ (bE.mp (pm.mem_iff.mpr (cG.mpr ⟨c,f,l⟩))))]
 refine fQ (dg (R:=λi m=>∃c∈cs,c.1=i/\∃x∈c.2,lot x.1=m) G.idn (λi hi=>?_) λi _ X _ m ⟨c,f,A,x,l,H⟩ ⟨s,w,I,u,y,K⟩=>?_)
  (dg (R:=λm i=>∃c∈cs,c.1=i/\∃x∈c.2,lot x.1=m) nd (λm hm=>?_) λm _ Y _ i ⟨c,f,A,x,l,H⟩ ⟨s,w,I,u,y,K⟩=>?_)
 .obtain⟨c,f,rfl⟩:=(G.id i).mp hi;obtain⟨x,l⟩:=List.exists_mem_of_ne_nil _ (G.ne c f);exact⟨_,O _ (co c f x l),c,f,rfl,x,l,rfl⟩
 .rw[<-A,<-I,same c f s w x l u y (H.trans K.symm)]
 .obtain⟨⟨p,q,r⟩,e⟩:=(N m).mp hm;obtain⟨c,f,l⟩:=cG.mp (pm.mem_iff.mp (bE.mpr ⟨q,r⟩));exact⟨c.1,(G.id _).mpr ⟨c,f,rfl⟩,c,f,rfl,_,l,e⟩
 rw[<-H,<-K];exact G.con c f s w (A.trans I.symm) x l u y
end
end K15
end
section
namespace K15
theorem zF{R:Nat->Nat->Prop}(inj:∀a b c,R a c->R b c->a=b){ls:List (List Nat)}(h:Rims R ls):ls.flatten.Nodup:=by rw[List.Nodup,List.pairwise_flatten];refine⟨λl d=>(h.cyc l d).nd,?_⟩;refine List.Pairwise.imp_of_mem (λ{l m} d hm o=>?_) h.rise;intro c i p n e;subst e;obtain⟨x,f,q⟩:=(h.cyc l d).toPath.begin;obtain⟨y,g,r⟩:=(h.cyc m hm).toPath.begin;have h1:=h.least l d x f y ((h.cyc m hm).toPath.from inj (h.cyc l d) n i g);have h2:=h.least m hm y g x ((h.cyc l d).toPath.from inj (h.cyc m hm) i n f);have:=o x y f g;lia
theorem q0{α:Type}{l m:List α}(h1:l.Nodup)(h2:m.Nodup)(h:∀x,x∈l↔x∈m):l.length=m.length:=
 fQ (dg (R:=Eq) h1 (λx b=>⟨x,(h x).mp b,rfl⟩) λ_ _ _ _ _ e c=>e.trans c.symm) (dg (R:=Eq) h2 (λx b=>⟨x,(h x).mpr b,rfl⟩) λ_ _ _ _ _ e c=>e.trans c.symm)
def lab(rl:List (List Nat))(a:Nat):Nat:=((rl.find? λl=>decide (a∈l)).bind List.head?).getD a
section
variable {ts:List Tri}{rl:List (List Nat)}
theorem dX(nd:rl.flatten.Nodup){l:List Nat}(b:l∈rl){a x:Nat}(ha:a∈l)(d:l[0]?=some x):lab rl a=x:=by
 cases e:rl.find? λl=>decide (a∈l) with
 |none=>exact (by simpa using List.find?_eq_none.mp e l b:a∉l) ha |>.elim
 |some m=>
  have hm:a∈m:=by simpa using List.find?_some e
  have f:=List.mem_of_find?_eq_some e;have:m=l:=by
   clear e d;induction rl with
   |nil=>cases b
   |cons r rl i=>
    obtain⟨_,n,g⟩:=List.nodup_append.mp (show (r++rl.flatten).Nodup from nd);rcases List.mem_cons.mp b with h|h1
    .rcases List.mem_cons.mp f with c|h2
     .rw[h,c]
     exact (g a (h ▸ ha) a (List.mem_flatten.mpr ⟨m,h2,hm⟩) rfl).elim
    rcases List.mem_cons.mp f with c|h2
    .exact (g a (c ▸ hm) a (List.mem_flatten.mpr ⟨l,h1,ha⟩) rfl).elim
    exact i n h1 h2
  subst this;rw[lab,e];cases m with
  |nil=>cases hm
  |cons y m=>cases d;rfl
theorem nY{a:Nat}(h:a∉rl.flatten):lab rl a=a:=by
 have:(rl.find? λl=>decide (a∈l))=none:=List.find?_eq_none.mpr λl b=>by
  simpa using λha=>h (List.mem_flatten.mpr ⟨l,b,ha⟩)
 rw[lab,this];rfl
theorem jl:∀ts:List Tri,(keys ts).length=3*ts.length
 | []=>rfl
 |t::ts=>by
  show (keys ts).length+1+1+1=3*(ts.length+1);rw[jl ts];lia
theorem kN{α:Type}(p:α->Bool):∀l:List α,(l.filter p).length+(l.filter λx=>!p x).length=l.length
 | []=>rfl
 |a::l=>by
  have:=kN p l;cases e:p a<;>simp only[List.filter_cons,e,Bool.not_true,Bool.not_false,if_true,iL,if_false,List.length_cons]<;>lia
theorem n8(ts:List Tri):(gls ts).length=((keys ts).filter λd=>decide (d.2<d.1)&&decide ((d.2,d.1)∈keys ts)).length:=List.length_map ..
theorem Ak(g:Good ts):((keys ts).filter λd=>decide (d.1<d.2)||!decide ((d.2,d.1)∈keys ts)).length+(gls ts).length=3*ts.length:=by
 rw[<-jl,n8,<-kN (λd=>decide (d.1<d.2)||!decide ((d.2,d.1)∈keys ts)) (keys ts)]
 congr 2
 refine List.filter_congr λd hd=>?_;obtain⟨c,b⟩:=bE.mp hd;have:=g.sk.ne b;rw[Bool.not_or,Bool.not_not]
 congr 1
 rw[<-decide_not];exact decide_eq_decide.mpr (by lia)
theorem Bn(g:Good ts)(o:∀c,Co ts c->One (En ts) c)(n:Rims (ay (En ts)) rl)(nd:rl.flatten.Nodup):rl.flatten.length+2*(gls ts).length=3*ts.length:=by
 have one:∀a b c,ay (En ts) a b->ay (En ts) a c->b=c:=λa b c h h'=>kZ g.sk (o a (by obtain⟨⟨q,p⟩,_⟩:=h;exact⟨_,q,p⟩)) h h';have w:((keys ts).filter λd=>!decide ((d.2,d.1)∈keys ts)).length=rl.flatten.length:=by
  refine fQ (dg (R:=λd a=>ay (En ts) d.1 d.2/\d.1=a) (List.Pairwise.filter _ g.nd) (λd hd=>?_) ?_) (dg (R:=λ(a:Nat)(d:Nat×Nat)=>d.1=a) nd (λa ha=>?_) λa _ b _ d (e:d.1=a) (f:d.1=b)=>e.symm.trans f)
  .obtain⟨h1,h2⟩:=List.mem_filter.mp hd;have h2:¬(d.2,d.1)∈keys ts:=by simpa using h2
   have h:ay (En ts) d.1 d.2:=⟨bE.mp h1,λh=>h2 (bE.mpr h)⟩;obtain⟨l,i,hd⟩:=n.all d.1 ⟨_,h⟩;exact⟨d.1,List.mem_flatten.mpr ⟨l,i,hd⟩,h,rfl⟩
  .rintro⟨a,b⟩ _ ⟨c,d⟩ _ y ⟨h,e⟩ ⟨h',f⟩;cases e;cases f;cases one _ _ _ h h';rfl
  obtain⟨l,i,r⟩:=List.mem_flatten.mp ha;obtain⟨b,_,h⟩:=(n.cyc l i).step r;exact⟨(a,b),List.mem_filter.mpr ⟨bE.mpr h.1,by simpa using λs=>h.2 (bE.mp s)⟩,rfl⟩
 have z:=kN (λd:Nat×Nat=>decide ((d.2,d.1)∈keys ts)) (keys ts);have u:=kN (λd:Nat×Nat=>decide (d.2<d.1)) ((keys ts).filter λd=>decide ((d.2,d.1)∈keys ts));rw[List.filter_filter,List.filter_filter] at u;have A:((keys ts).filter λd=>(!decide (d.2<d.1))&&decide ((d.2,d.1)∈keys ts)).length=(gls ts).length:=by
  rw[n8];refine fQ (dg (R:=λx y=>x.1=y.2/\x.2=y.1) (List.Pairwise.filter _ g.nd) (λx m=>?_) ?_) (dg (R:=λx y=>x.1=y.2/\x.2=y.1) (List.Pairwise.filter _ g.nd) (λx m=>?_) ?_)
  .obtain⟨h1,h2⟩:=List.mem_filter.mp m;obtain⟨c,v⟩:=bE.mp h1;have:=g.sk.ne v;simp only[eZ,uU,decide_eq_false_iff_not,decide_eq_true_eq] at h2;exact⟨(x.2,x.1),List.mem_filter.mpr ⟨h2.2,by simp only[eZ,decide_eq_true_eq];exact⟨by lia,h1⟩⟩,rfl,rfl⟩
  .rintro⟨a,b⟩ _ ⟨c,d⟩ _ y ⟨h,e⟩ ⟨h',f⟩;dsimp only at h e h' f;rw[h,e,h',f]
  .obtain⟨h1,h2⟩:=List.mem_filter.mp m;simp only[eZ,decide_eq_true_eq] at h2;exact⟨(x.2,x.1),List.mem_filter.mpr ⟨h2.2,by simp only[eZ,uU,decide_eq_false_iff_not,decide_eq_true_eq];exact⟨by lia,h1⟩⟩,rfl,rfl⟩
  rintro⟨a,b⟩ _ ⟨c,d⟩ _ y ⟨h,e⟩ ⟨h',f⟩;dsimp only at h e h' f;rw[h,e,h',f]
 have B:=n8 ts;have C:=jl ts;lia
theorem euler(g:Good ts)(o:∀c,Co ts c->One (En ts) c)(n:Rims (ay (En ts)) rl){C L:List Nat}{lot:Nat->Nat}(u:C.Nodup)(v:∀x,x∈C↔Co ts x)(d:∀a b c,En ts a b c->lot a=lot b)(nd:L.Nodup)(M:∀x,x∈L↔Co ts x/\lot x=x)
  (N:∀a,Co ts a->lot a∈L) (O:∀a b,Co ts a->Co ts b->lot a=lot b->Conn ts a b):∃h,2*L.length+2*ts.length=rl.length+C.length+(gls ts).length+2*h:=by
 have inj:∀a b c,ay (En ts) a c->ay (En ts) b c->a=b:=λa b c h h'=>nP g.sk (o c (by obtain⟨⟨q,w⟩,_⟩:=h;exact⟨_,_,g.sk.rot w⟩)) h h';have one:∀a b c,ay (En ts) a b->ay (En ts) a c->b=c:=λa b c h h'=>kZ g.sk (o a (by obtain⟨⟨q,w⟩,_⟩:=h;exact⟨_,q,w⟩)) h h';have r:=zF inj n;have A:∀a∈rl.flatten,Co ts a:=λa ha=>by
  obtain⟨l,d,s⟩:=List.mem_flatten.mp ha;obtain⟨b,_,h⟩:=(n.cyc l d).step s;obtain⟨⟨q,w⟩,_⟩:=h;exact⟨_,q,w⟩
 obtain⟨cs,ids,h,G,pm⟩:=B4 g d;have Z:=yP g o G pm nd M N O;have P:∀a,Co ts a->lab rl a∈C.filter λa=>decide (lab rl a=a):=λa ha=>by
  by_cases hf:a∈rl.flatten
  .obtain⟨l,d,s⟩:=List.mem_flatten.mp hf;obtain⟨x,f,B⟩:=(n.cyc l d).toPath.begin;rw[dX r d s f];exact List.mem_filter.mpr ⟨(v x).mpr (A x (List.mem_flatten.mpr ⟨l,d,B⟩)),Ik (dX r d B f)⟩
  have:=nY hf;rw[this];exact List.mem_filter.mpr ⟨(v a).mpr ha,Ik this⟩
 have ec:=Aw g o G pm (lab:=lab rl) (L:=C.filter λa=>decide (lab rl a=a)) (List.Pairwise.filter _ u) (λx=>by rw[List.mem_filter,v,decide_eq_true_eq]) (λa c I=>by
   obtain⟨l,d,K⟩:=n.all c ⟨a,I⟩;obtain⟨x,f,_⟩:=(n.cyc l d).toPath.begin;rw[dX r d K f,dX r d ((n.cyc l d).closed one K I) f]) P λa ha S Q D=>by
  by_cases hf:a∈rl.flatten
  .obtain⟨l,d,s⟩:=List.mem_flatten.mp hf;obtain⟨x,f,B⟩:=(n.cyc l d).toPath.begin;rw[dX r d s f];obtain⟨i,hi⟩:=List.getElem?_of_mem s;clear hf s ha;induction i generalizing a with
   |zero=>rw[f] at hi;cases hi;exact D
   |succ i R=>
    have T:i<l.length:=by have:=(List.getElem?_eq_some_iff.mp hi).1;lia
    have e:l[i]?=some l[i]:=List.getElem?_eq_getElem T;exact R _ ((Q _ _ ((n.cyc l d).toPath.ch i _ _ e hi)).mpr D) e
  rw[nY hf];exact D
 have el:=Bn g o n r;have U:(rl.map λl=>l.headD 0).Nodup:=by
  rw[List.Nodup,List.pairwise_map];refine List.Pairwise.imp_of_mem (λ{l m} d hm h=>?_) n.rise;obtain⟨x,f,_⟩:=(n.cyc l d).toPath.begin;obtain⟨y,p,_⟩:=(n.cyc m hm).toPath.begin;have:=h x y f p;cases l with
  |nil=>cases f
  |cons a l=>
   cases m with
   |nil=>cases p
   |cons b m=>
    cases f;cases p;simp only[List.headD_cons];lia
 have E:∀l∈rl,∀x,l[0]?=some x->l.headD 0=x:=λl _ x f=>by
  cases l with
  |nil=>cases f
  |cons a l=>cases f;rfl
 have X:(C.filter λa=>decide (lab rl a=a)).length=(C.filter (λa=>!decide (a∈rl.flatten))++rl.map λl=>l.headD 0).length:=by
  refine q0 (List.Pairwise.filter _ u) (List.nodup_append.mpr ⟨List.Pairwise.filter _ u,U,λa ha b H e=>?_⟩) λx=>?_
  .subst e;obtain⟨l,d,e⟩:=List.mem_map.mp H;obtain⟨y,p,z⟩:=(n.cyc l d).toPath.begin;have:¬a∈rl.flatten:=by simpa using (List.mem_filter.mp ha).2
   rw[E l d y p] at e;exact this (e ▸ List.mem_flatten.mpr ⟨l,d,z⟩)
  rw[List.mem_append,List.mem_filter,List.mem_filter,List.mem_map,decide_eq_true_eq];constructor
  .rintro⟨h1,h2⟩;by_cases hf:x∈rl.flatten
   .obtain⟨l,d,s⟩:=List.mem_flatten.mp hf;obtain⟨y,p,_⟩:=(n.cyc l d).toPath.begin;exact .inr ⟨l,d,by rw[E l d y p,<-dX r d s p,h2]⟩
   exact .inl ⟨h1,by simpa using hf⟩
  rintro (⟨h1,h2⟩|⟨l,d,e⟩)
  .exact⟨h1,nY (by simpa using h2)⟩
  obtain⟨y,p,z⟩:=(n.cyc l d).toPath.begin;rw[E l d y p] at e;subst e;exact⟨(v _).mpr (A _ (List.mem_flatten.mpr ⟨l,d,z⟩)),dX r d z p⟩
 have Y:C.length=(C.filter (λa=>!decide (a∈rl.flatten))++rl.flatten).length:=by
  refine q0 u (List.nodup_append.mpr ⟨List.Pairwise.filter _ u,r,λa ha b H e=>?_⟩) λx=>?_
  .subst e;have:¬a∈rl.flatten:=by simpa using (List.mem_filter.mp ha).2
   exact this H
  rw[List.mem_append,List.mem_filter];constructor
  .intro f;by_cases hf:x∈rl.flatten
   .exact .inr hf
   exact .inl ⟨f,by simpa using hf⟩
  rintro (⟨h1,_⟩|hf)
  .exact h1
  exact (v x).mpr (A x hf)
 rw[List.length_append,List.length_map] at X;rw[List.length_append] at Y;have:=G.cnt;exact⟨h,by lia⟩
end
end K15
end
section
namespace K15
theorem iw{α:Type}{R:α->α->Prop}(d:∀a b,R a b->R b a->False):∀{l m:List α},l.Pairwise R->m.Pairwise R->(∀x,x∈l↔x∈m)->l=m:=by
 intro l;induction l with
 |nil=>
  intro m _ _ h;cases m with
  |nil=>rfl
  |cons b m=>cases (h b).mpr List.mem_cons_self
 |cons a l n=>
  intro m h1 h2 h;obtain⟨f,o⟩:=List.pairwise_cons.mp h1;cases m with
  |nil=>cases (h a).mp List.mem_cons_self
  |cons b m=>
   obtain⟨g,p⟩:=List.pairwise_cons.mp h2;have e:a=b:=by
    rcases List.mem_cons.mp ((h a).mp List.mem_cons_self) with e|e
    .exact e
    rcases List.mem_cons.mp ((h b).mpr List.mem_cons_self) with i | i
    .exact i.symm
    exact (d _ _ (g a e) (f b i)).elim
   subst e;rw[n o p λx=>⟨λc=>?_,λc=>?_⟩]
   .exact (List.mem_cons.mp ((h x).mp (List.mem_cons_of_mem _ c))).resolve_left λe=>d a a (e ▸ f x c) (e ▸ f x c)
   exact (List.mem_cons.mp ((h x).mpr (List.mem_cons_of_mem _ c))).resolve_left λe=>d a a (e ▸ g x c) (e ▸ g x c)
section
variable {ts:List Tri}
theorem Conn.refl(a:Nat):Conn ts a a:=λ_ _ h=>h
theorem Conn.trans{a b c:Nat}(h:Conn ts a b)(h':Conn ts b c):Conn ts a c:=λS d e=>h' S d (h S d e)
theorem Conn.symm{a b:Nat}(h:Conn ts a b):Conn ts b a:=λS c d=>iN λf=>h (λx=>¬S x) (λx y z e=>not_congr (c x y z e)) f d
theorem Conn.of{a b c:Nat}(h:En ts a b c):Conn ts a b:=λS d e=>(d _ _ _ h).mp e
theorem Conn.co{a b:Nat}(g:Good ts)(h:Conn ts a b)(ha:Co ts a):Co ts b:=h (Co ts) (λx y z e=>⟨λ_=>⟨_,_,g.sk.rot e⟩,λ_=>⟨_,_,e⟩⟩) ha
theorem AQ{K:List Nat}{a:Nat}(g:Good ts)(b:a∈K)(h1:∀k∈K,Conn ts a k)(h2:∀k∈K,∀p q,En ts k p q->p∈K)(x:Nat):x∈K↔Conn ts a x:=
 ⟨h1 x,λh=>h (·∈K) (λx y z e=>⟨λc=>h2 x c _ _ e,λd=>h2 z (h2 y d _ _ (g.sk.rot e)) _ _ (g.sk.rot (g.sk.rot e))⟩) b⟩
structure Pcs(ts:List Tri)(ls:List (List Nat)):Prop where
 up:∀l∈ls,l.Pairwise (· < ·)
 co:∀l∈ls,∃a,l[0]?=some a/\Co ts a/\∀x,x∈l↔Conn ts a x
 rise:ls.Pairwise λl m=>∀x y,l[0]?=some x->m[0]?=some y->x<y
theorem n6{l:List Nat}(h:l.Pairwise (· < ·)){a:Nat}(c:l[0]?=some a):∀x∈l,a<=x:=by
 cases l with
 |nil=>cases c
 |cons b l=>
  cases c;intro x d;rcases List.mem_cons.mp d with e|e
  .lia
  exact kq ((List.pairwise_cons.mp h).1 x e)
theorem Pcs.uniq{ls ms:List (List Nat)}(h:Pcs ts ls)(h':Pcs ts ms)(al:∀x,Co ts x->∃l∈ls,x∈l)(r:∀x,Co ts x->∃l∈ms,x∈l):ls=ms:=by
 have sub:∀{ls ms:List (List Nat)},Pcs ts ls->Pcs ts ms->(∀x,Co ts x->∃l∈ms,x∈l)->∀l∈ls,l∈ms:=λ{ls ms} h h' al l c=>by
  obtain⟨a,d,s,hm⟩:=h.co l c;obtain⟨m,f,u⟩:=al a s;obtain⟨b,_,_,n⟩:=h'.co m f;have o:=(n a).mp u;have e:l=m:=iw (R:=(· < ·)) (λa b h h'=>by lia) (h.up l c) (h'.up m f) λx=>by
   rw[hm,n];exact⟨λg=>o.trans g,λg=>o.symm.trans g⟩
  exact e ▸ f
 refine iw (R:=λl m:List Nat=>∃x y,l[0]?=some x/\m[0]?=some y/\x<y) (λl m h1 h2=>?_) (List.Pairwise.imp_of_mem (λ{l m} c hm i=>?_) h.rise) (List.Pairwise.imp_of_mem (λ{l m} c hm i=>?_) h'.rise) λl=>⟨sub h h' r l,sub h' h al l⟩
 .obtain⟨x,y,v,w,z⟩:=h1;obtain⟨A,B,p,q,C⟩:=h2;rw[v] at q;rw[w] at p;cases q;cases p;lia
 .obtain⟨a,d,_⟩:=h.co l c;obtain⟨b,h1,_⟩:=h.co m hm;exact⟨a,b,d,h1,i a b d h1⟩
 obtain⟨a,d,_⟩:=h'.co l c;obtain⟨b,h1,_⟩:=h'.co m hm;exact⟨a,b,d,h1,i a b d h1⟩
theorem Pcs.dis{ls:List (List Nat)}(h:Pcs ts ls):ls.flatten.Nodup:=by rw[List.Nodup,List.pairwise_flatten];refine⟨λl d=>(h.up l d).imp λf=>aU f,List.Pairwise.imp_of_mem (λ{l m} d hm i=>?_) h.rise⟩;intro c n q o e;subst e;obtain⟨a,p,_,ha⟩:=h.co l d;obtain⟨b,h1,_,g⟩:=h.co m hm;have f:=((ha c).mp n).trans ((g c).mp o).symm;have:=n6 (h.up m hm) h1 a ((g a).mpr f.symm);have:=i a b p h1;lia
theorem yR(g:Good ts)(o:∀c,Co ts c->One (En ts) c){rl:List (List Nat)}(r:Rims (ay (En ts)) rl){C:List Nat}{ls:List (List Nat)}(y:C.Nodup)(z:∀x,x∈C↔Co ts x)(h:Pcs ts ls)(al:∀x,Co ts x->∃l∈ls,x∈l) :
  ∃k,2*ls.length+2*ts.length=rl.length+C.length+(gls ts).length+2*k:=by
 have nd:=h.dis;have hd:∀l∈ls,∀x,l[0]?=some x->l.headD 0=x:=λl _ x n=>by
  cases l with
  |nil=>cases n
  |cons a l=>cases n;rfl
 have i:∀a,Co ts a->∃l∈ls,∃b,l[0]?=some b/\Co ts b/\a∈l/\b∈l/\Conn ts b a/\lab ls a=b:=λa ha=>by
  obtain⟨l,d,p⟩:=al a ha;obtain⟨b,f,q,hm⟩:=h.co l d;exact⟨l,d,b,f,q,p,(hm b).mpr (Conn.refl b),(hm a).mp p,dX nd d p f⟩
 have same:∀a b,Co ts a->Conn ts a b->lab ls a=lab ls b:=λa b ha A=>by
  obtain⟨l,d,c,f,q,p,K,s,e⟩:=i a ha;obtain⟨B,u,_,hm⟩:=h.co l d;rw[f] at u;cases u;rw[e,dX nd d ((hm b).mpr (s.trans A)) f]
 obtain⟨k,w⟩:=euler g o r (lot:=lab ls) (L:=ls.map λl=>l.headD 0) y z (λa b c e=>same a b ⟨_,_,e⟩ (Conn.of e)) (by
   rw[List.Nodup,List.pairwise_map];refine List.Pairwise.imp_of_mem (λ{l m} d hm r=>?_) h.rise;obtain⟨a,f,_⟩:=h.co l d;obtain⟨b,h1,_⟩:=h.co m hm;have:=r a b f h1;rw[hd l d a f,hd m hm b h1];lia) (λx=>by
   rw[List.mem_map];constructor
   .rintro⟨l,d,e⟩;obtain⟨a,f,q,hm⟩:=h.co l d;rw[hd l d a f] at e;subst e;exact⟨q,dX nd d ((hm _).mpr (Conn.refl _)) f⟩
   .rintro⟨n,e⟩;obtain⟨l,d,b,f,_,_,_,_,v⟩:=i x n;exact⟨l,d,by rw[hd l d b f,<-v,e]⟩) (λa ha=>by
   obtain⟨l,d,b,f,_,_,_,_,v⟩:=i a ha;exact List.mem_map.mpr ⟨l,d,by rw[hd l d b f,v]⟩) λa b ha D e=>by
  obtain⟨l,d,c,f,_,_,_,s,E⟩:=i a ha;obtain⟨m,hm,B,u,_,_,_,H,I⟩:=i b D;rw[E,I] at e;subst e;exact s.symm.trans H
 rw[List.length_map] at w;exact⟨k,w⟩
def InT(x:Nat)(t:Tri):Prop:=x=t.1\/x=t.2.1\/x=t.2.2
def Pth:List Tri->Nat->Nat->Prop
 | [],x,y=>x=y
 |t::us,x,y=>∃z,InT x t/\InT z t/\Pth us z y
theorem E_{a b c:Nat}(h:En ts a b c):∃t∈ts,InT a t/\InT b t:=by
 rcases cE.mp h with h|h|h
 .exact⟨_,h,.inl rfl,.inr (.inl rfl)⟩
 .exact⟨_,h,.inr (.inl rfl),.inr (.inr rfl)⟩
 exact⟨_,h,.inr (.inr rfl),.inl rfl⟩
theorem BZ{x y:Nat}{t:Tri}(g:Good ts)(f:t∈ts)(h:InT x t)(i:InT y t):Conn ts x y:=by
 obtain⟨a,b,c⟩:=t;have d:En ts a b c:=cE.mpr (.inl f);have e:=Conn.of d;have l:=Conn.of (g.sk.rot d);have k:∀z,InT z (a,b,c)->Conn ts a z:=by
  rintro z (rfl|rfl|rfl)
  .exact Conn.refl _
  .exact e
  exact e.trans l
 exact (k x h).symm.trans (k y i)
theorem sU:∀{us vs:List Tri}{x y:Nat},Pth (us++vs) x y->∃z,Pth us x z/\Pth vs z y
 | [],_,x,_,h=>⟨x,rfl,h⟩
 |_::us,_,_,_,⟨z,h1,h2,b⟩=>by
  obtain⟨w,c,d⟩:=sU b;exact⟨w,⟨z,h1,h2,c⟩,d⟩
theorem AO{a b:Nat}(h:Conn ts a b):∃us:List Tri,us.Nodup/\(∀t∈us,t∈ts)/\Pth us b a:=by
 have add:∀{x y:Nat}{t:Tri},t∈ts->InT x t->InT y t->(∃us:List Tri,us.Nodup/\(∀t∈us,t∈ts)/\Pth us x a)->∃us:List Tri,us.Nodup/\(∀t∈us,t∈ts)/\Pth us y a:=by
  rintro x y t c l f ⟨us,nd,g,i⟩;by_cases hm:t∈us
  .obtain⟨A,B,rfl⟩:=List.append_of_mem hm;obtain⟨w,_,z,_,h2,m⟩:=sU i;refine⟨t::B,(List.nodup_append.mp nd).2.1,λt c=>g t (List.mem_append_right _ c),z,f,h2,m⟩
  refine⟨t::us,List.nodup_cons.mpr ⟨hm,nd⟩,λs d=>?_,x,f,l,i⟩;rcases List.mem_cons.mp d with rfl|d
  .exact c
  exact g s d
 refine h (λx=>∃us:List Tri,us.Nodup/\(∀t∈us,t∈ts)/\Pth us x a) (λx y z e=>?_) ⟨[],.nil,by simp,rfl⟩;obtain⟨t,c,h1,h2⟩:=E_ e;exact⟨add c h1 h2,add c h2 h1⟩
structure LI(ts:List Tri)(n:Nat)(lo:Nat->Nat):Prop where
 le:∀us:List Tri,(∀t∈us,t∈ts)->us.length<=n->∀x y,Pth us y x->lo y<=x
 co:∀y,Co ts y->Conn ts y (lo y)
def gH(t:Tri)(m:Nat)(lo:Nat->Nat)(x:Nat):Nat:=if x=t.1\/x=t.2.1\/x=t.2.2 then m else lo x
structure LJ(ts:List Tri)(n i:Nat)(lo:Nat->Nat):Prop extends LI ts n lo where
 nx:∀t∈ts.take i,∀us:List Tri,(∀t∈us,t∈ts)->us.length<=n->∀x y z,InT y t->InT z t->Pth us z x->lo y<=x
theorem LI.begin(ts:List Tri):LI ts 0 (λx=>x):=⟨λus _ b x y h=>by
 cases us with
 |nil=>cases h;exact ai _
 |cons t us=>simp at b,λy _=>Conn.refl y⟩
theorem LI.j{n:Nat}{lo:Nat->Nat}(h:LI ts n lo):LJ ts n 0 lo:=⟨h,by simp⟩
theorem LJ.step(g:Good ts){n i m:Nat}{lo:Nat->Nat}{t:Tri}(h:LJ ts n i lo)(p:ts[i]?=some t)(hm:m=lo t.1\/m=lo t.2.1\/m=lo t.2.2)(hle:m<=lo t.1/\m<=lo t.2.1/\m<=lo t.2.2):LJ ts n (i+1) (gH t m lo):=by
 have u:=List.mem_of_getElem? p;have q:∀z,InT z t->m<=lo z:=by
  rintro z (rfl|rfl|rfl)
  .exact hle.1
  .exact hle.2.1
  exact hle.2.2
 have mono:∀y,gH t m lo y<=lo y:=λy=>by
  unfold gH
  split
  .exact q y ‹_›
  exact ai _
 obtain⟨v,w,A⟩:∃z,InT z t/\m=lo z:=by
  rcases hm with e|e|e
  .exact⟨_,.inl rfl,e⟩
  .exact⟨_,.inr (.inl rfl),e⟩
  exact⟨_,.inr (.inr rfl),e⟩
 refine⟨⟨λus f l x y o=>bQ (mono y) (h.le us f l x y o),λy d=>?_⟩,λs b us f l x y z d r o=>?_⟩
 .unfold gH
  split
  .rename_i B;have c:=BZ g u B w;rw[A];exact c.trans (h.co v (c.co g d))
  exact h.co y d
 rw[List.take_add_one,p] at b;rcases List.mem_append.mp b with b|b
 .exact bQ (mono y) (h.nx s b us f l x y z d r o)
 have e:s=t:=by simpa using b
 subst e;have:gH s m lo y=m:=if_pos d;rw[this];exact bQ (q z r) (h.le us f l x z o)
theorem LJ.done{n:Nat}{lo:Nat->Nat}(h:LJ ts n ts.length lo):LI ts (n+1) lo:=by
 refine⟨λus b d x y c=>?_,h.co⟩;cases us with
 |nil=>exact h.le [] (by simp) (aD _) x y c
 |cons t us=>
  obtain⟨z,h1,h2,e⟩:=c;exact h.nx t (by rw[List.take_length];exact b t List.mem_cons_self) us (λs f=>b s (List.mem_cons_of_mem _ f)) (by simpa using d) x y z h1 h2 e
theorem LI.least{lo:Nat->Nat}(h:LI ts ts.length lo){x y:Nat}(c:Conn ts x y):lo y<=x:=by obtain⟨us,nd,b,d⟩:=AO c;exact h.le us b (dg (R:=Eq) nd (λt f=>⟨t,b t f,rfl⟩) λ_ _ _ _ _ e g=>e.trans g.symm) x y d
theorem An(g:Good ts){lo:Nat->Nat}(h:LI ts ts.length lo){cs:List Nat}(up:cs.Pairwise (· < ·))(i:∀c,c∈cs↔Co ts c) :
  Pcs ts ((cs.filter λc=>decide (lo c=c)).map λf=>cs.filter λc=>decide (lo c=f))/\∀x,Co ts x->∃l∈(cs.filter λc=>decide (lo c=c)).map (λf=>cs.filter λc=>decide (lo c=f)),x∈l:=by
 have same:∀x y,Co ts x->Conn ts x y->lo x=lo y:=λx y b o=>by
  have n:=o.co g b;have m:=h.co x b;have s:=h.co y n;exact fQ (h.least ((o.trans s).symm)) (h.least (o.symm.trans m).symm)
 have key:∀f,Co ts f->lo f=f->∀x,x∈cs.filter (λc=>decide (lo c=f))↔Conn ts f x:=λf hf e x=>by
  rw[List.mem_filter,i,decide_eq_true_eq];constructor
  .rintro⟨b,ex⟩;exact (ex ▸ h.co x b).symm
  intro b;exact⟨b.co g hf,by rw[<-same f x hf b,e]⟩
 have hd:∀f,Co ts f->lo f=f->(cs.filter λc=>decide (lo c=f))[0]?=some f:=λf hf e=>by
  have hm:=(key f hf e f).mpr (Conn.refl f);have q:(cs.filter λc=>decide (lo c=f)).Pairwise (· < ·):=List.Pairwise.filter _ up;cases p:cs.filter λc=>decide (lo c=f) with
  |nil=>rw[p] at hm;cases hm
  |cons a l=>
   have ha:=(key f hf e a).mp (by rw[p];exact List.mem_cons_self);have h1:=h.least ha.symm;rw[e] at h1;rw[p] at q hm;have h2:=n6 q rfl f hm;have:a=f:=by lia
   rw[this];rfl
 refine⟨⟨λl d=>?_,λl d=>?_,?_⟩,λx b=>?_⟩
 .obtain⟨f,_,rfl⟩:=List.mem_map.mp d;exact List.Pairwise.filter _ up
 .obtain⟨f,hf,rfl⟩:=List.mem_map.mp d;obtain⟨h1,h2⟩:=List.mem_filter.mp hf;have h2:=Im h2;have h1:=(i f).mp h1;exact⟨f,hd f h1 h2,h1,key f h1 h2⟩
 .rw[List.pairwise_map];refine List.Pairwise.imp_of_mem (λ{f r} hf u v=>?_) (List.Pairwise.filter _ up);obtain⟨h1,h2⟩:=List.mem_filter.mp hf;obtain⟨w,z⟩:=List.mem_filter.mp u;intro x y b n;rw[hd f ((i f).mp h1) (Im h2)] at b;rw[hd r ((i r).mp w) (Im z)] at n;cases b;cases n;exact v
 have m:=h.co x b;have d:=m.co g b;have e:lo (lo x)=lo x:=(same x (lo x) b m).symm;exact⟨_,List.mem_map.mpr ⟨lo x,List.mem_filter.mpr ⟨(i _).mpr d,Ik e⟩,rfl⟩,(key (lo x) d e x).mpr m.symm⟩
end
end K15
end
section
namespace K15
open PySem L2 K51 K31
theorem rK{d:Addr}{o:Obj}{u:HO}{ks:List V}{g:TG}{tb:TS}{D:Ends}(Pv:Nat->St->Hp->Prop)(f:Pv 0 Z H)(h:∀i Z H,i<=ks.length->Pv i Z H->H d=some (.frz o u))
  (l:∀i x Z H,ks[i]?=some x->Pv i Z H->g x Z H λσ2 H2=>tb {D with nx:=Pv (i+1),ct:=Pv (i+1),bk:=D.nx} σ2 H2) (hd:∀Z H,Pv ks.length Z H->D.nx Z H) :
  ∃W:Nat->Nat->St->Hp->Prop,(∃m,W 0 m Z H)/\∀i m Z H,W i m Z H->
   ((Itk d o ks).stop i H/\D.nx Z H)\/((Itk d o ks).go i H/\∃N:St->Hp->Prop,(∀Z' H',N Z' H'->∃b,b<m/\W (i+1) b Z' H')/\∀x H',(Itk d o ks).yld i H x H'->g x Z H' λσ2 H2=>tb {D with nx:=N,ct:=N,bk:=D.nx} σ2 H2):=by
 refine⟨λi m Z H=>m=ks.length-i/\i<=ks.length/\Pv i Z H,⟨ks.length,by simp,aD _,f⟩,?_⟩;rintro i m Z H ⟨rfl,hi,p⟩;have q:=h i Z H hi p;by_cases c:i<ks.length
 .refine .inr ⟨⟨c,u,q⟩,Pv (i+1),λZ' H' n=>⟨ks.length-(i+1),by lia,rfl,c,n⟩,λx H' y=>?_⟩;obtain⟨rfl,y⟩:=y;exact l i x Z _ y p
 have e:i=ks.length:=by lia
 subst e;exact .inl ⟨⟨ai _,u,q⟩,hd Z H p⟩
structure Fd(ts:List Tri)(c:Nat)(K W:List Nat):Prop where
 nd:K.Nodup
 c0:c∈K
 cn:∀k∈K,Conn ts c k
 wk:∀w∈W,w∈K
def xf(Cs:Addr)(vs:List V)(H:Hp)(Q:VK)(x:Addr)(ts:List Tri)(A:List Addr)(c:Nat):Prop:=vs=[.ref x,.int (c:Int)]/\SkA Cs H x ts A/\Good ts/\ts.length<=200/\Co ts c/\
 ∀r l H',H r=none->SmL A H H'->H' r=some (.lst (nV l))->l.Pairwise (· < ·)->(∀x,x∈l↔Conn ts c x)->l.length<=600->Q (.ref r) H'
def qt(Cs:Addr):Sp:=λvs H Q _=>Exists (Ex4 (xf Cs vs H Q))
section
theorem i8:aP ["skin","corner","found","waiting","here","beside"] ["skin","corner"] (ax je):=by walk_at"sc"
theorem xt{f Cs:Addr}(U:Fun K "piece_of" "piece_of" je f fd)(mS:mg "sorted" = none)(X:SCls K Cs):ak P w K mg base CX0 1 f fd ["skin","corner"] (qt Cs):=by
 refine U.ok i8 (by rintro _ _ _ _ ⟨_,_,_,_,rfl,_⟩;rfl) λIp A outer s H vs Q E hr h=>?_
 obtain⟨x,ts,A',c,rfl,⟨dx,O,R,D,S,vo,cs,L,sk,eA⟩,g,hl,hc,q⟩:=h;have hu:=bI hr;have b8:=line5000;refine⟨_,ae (sx 2 i8.nd (BB (zP (pv 1) eK Bz) rfl rfl (by simp) (by decide)))
  (ae (sx 3 i8.nd (bj (pa1 (pv 1))))
  (ae (fB aZ (m8 (pv 3) (λ_=>rfl))
   (ae (sx 4 i8.nd (t9 bR vv vy Dq (pv 3)))
   (ao (bh aZ rfl (jD (dh hu (gC (pv 0) rfl) (pv 4) (λ_ _=>rfl))) (gx 5 i8.nd)
    (ao (bB (eG (gh hu (pv 5) (pv 2)))
     (ae (dI hu (pv 2) (pv 5) eK rfl)
     (ao (bF (bH bR cM cN cz (pv 3) (pa1 (pv 5))))))
     bu))))))
  (ao (aJ (a_ (fW rfl) (by rfl) mS dq (pa1 (pv 2))))))),?_⟩
 have few:∀r:List Nat,r.Nodup->(∀k∈r,Conn ts c k)->r.length<=600:=λr nd h=>by
  have:=eC nd (m:=cs) λk v=>(sk.co k).mpr ((h k v).co g hc);have:=sk.cl;lia
 refine λF hF=>⟨_,rfl,aG,[kb c],rfl,by simp,?_⟩;rw[kU];walk_at"H F hF H1 s1 y1";refine⟨_,rfl,lit1,λM H2 hW s2 y2=>?_⟩;have bb:F≠M:=ah y1 hW;have bd:H M=none:=s1.free hW;refine⟨λm Z H'=>∃o4 N K W,Z=[some (.ref x),some (.int (c:Int)),some (.ref F),some (.ref M),o4,N]/\m=2*(600-K.length)+W.length/\2*(600-K.length)+W.length<=1200/\SmL A' H H'/\H' F=some (.dK (K.map kb))/\H' M=some (.lst (nV W))/\Fd ts c K W/\∀k∈K,k∉W->∀p q,En ts k p q->p∈K,
  ⟨_,none,none,[c],[c],rfl,rfl,by simp,SmL.of (s1.trans s2),s2 _ _ y1,y2,⟨by simp,by simp,by intro k v;rw[List.mem_singleton.mp v];exact Conn.refl c,λ_ h=>h⟩,λk v Y=>(Y v).elim⟩,?_⟩
 rintro m Z H3 ⟨o4,N,K,W,rfl,rfl,bK,sm,ap,aM,C,cl⟩;rcases List.eq_nil_or_concat W with rfl|⟨W,h,eW⟩
 .refine⟨_,rfl,false,.inl ⟨_,SqL.of aM,rfl⟩,?_⟩;refine aC ⟨_,rfl,F,rfl,.inl ⟨_,ap⟩,λks vs v=>.inl ⟨K.map (λc:Nat=>(c:Int)),?_,by rw[List.length_map];have:=few K C.nd C.cn;lia,λp ms hp pm ps=>?_⟩⟩
  .rcases v with ⟨kvs,e,rfl,_⟩|⟨kvs,as,e,_⟩
   .rw[ap] at e;cases e;rw[List.map_map,List.map_map];rfl
   rw[ap] at e;cases e
  obtain⟨l,rfl,pl,pc⟩:=fX C.nd pm ps;have e:(l.map (λc:Nat=>(c:Int))).map V.int=nV l:=by rw[List.map_map];rfl
  rw[e];have:=few K C.nd C.cn;exact q p l _ (sm.sm.free hp) (sm.trans (SmL.of (bf hp))) aG pl (λx=>by rw[pc.mem_iff];exact AQ g C.c0 C.cn (λk v=>cl k v (by simp)) x) (by rw[pc.length_eq];exact this)
 rw[List.concat_eq_append] at eW;subst eW;refine⟨_,rfl,true,.inl ⟨_,SqL.of aM,by simp[nV]⟩,?_⟩;have e1:(nV (W++[h]))[(nV (W++[h])).length-1]?=some (V.int (h:Int)):=by simp[nV]
 have e2:(nV (W++[h])).dropLast=nV W:=by simp[nV]
 have b0:Co ts h:=(C.cn h (C.wk h (by simp))).co g hc;refine aL ⟨λZ' H'=>∃o4 N r B,Z'=[some (.ref x),some (.int (c:Int)),some (.ref F),some (.ref M),o4,N]/\2*(600-r.length)+B.length<2*(600-K.length)+(W++[h]).length/\SmL A' H H'/\H' F=some (.dK (r.map kb))/\H' M=some (.lst (nV B))/\Fd ts c r B/\∀k∈r,k∉B->∀p q,En ts k p q->p∈r,
  λZ' H' ⟨o4,N,r,B,a1,a2,a3⟩=>⟨_,a2,o4,N,r,B,a1,rfl,by lia,a3⟩,?_⟩
 refine⟨_,rfl,.inl ⟨rfl,_,SqL.of aM⟩,M,_,_,rfl,rfl,aM,e1,λH4 k4 y4=>?_⟩;rw[e2] at y4;have b1:=(k4 F bb).trans ap;have bl:SmL A' H H4:=λb o e=>by
  have n:=ah e bd;rw[k4 b n];exact sm b o e
 have be:=sk.sm bl.sm;obtain⟨ad,hL,b2⟩:=lq ((sk.ky h).mpr b0);refine⟨_,rfl,x,Cs,dx,_,_,rfl,be.ob,X.cl,X.steps,rfl,_,rfl,S,_,rfl,.inl ⟨_,Sum.inl (h:Int),be.st,rfl,b2.symm⟩,ad,_,rfl,be.ab _ hL,True.intro,λks vs o H5 v fz=>?_⟩;have ek:ks=nV ((abt (ents ts) h).map (·.1)):=by
  rcases v with ⟨kvs,e,e1,_⟩|⟨kvs,as,e,_⟩
  .cases e;rw[e1,nm_keys]
  cases e
 subst ek;have bm:ad≠F:=λz=>by
  rcases sk.ab _ hL with e|⟨ob,e⟩<;>(have e:H ad=_:=e;rw[z,hF] at e;cases e)
 have bn:ad≠M:=λz=>by
  rcases sk.ab _ hL with e|⟨ob,e⟩<;>(have e:H ad=_:=e;rw[z,bd] at e;cases e)
 have b3:H5 F=some (.dK (K.map kb)):=by rw[fz.ne bm.symm];exact b1
 have b4:H5 M=some (.lst (nV W)):=by rw[fz.ne bn.symm];exact y4
 have b5:Conn ts c h:=C.cn h (C.wk h (by simp));have lW:(W++[h]).length=W.length+1:=by simp
 rw[lW] at bK |-;refine rK (d:=ad) (o:=o) (u:=.dK ((abt (ents ts) h).map nmV)) (ks:=nV ((abt (ents ts) h).map (·.1))) (λi Z H'=>∃N r B,Z=[some (.ref x),some (.int (c:Int)),some (.ref F),some (.ref M),some (.int (h:Int)),N]/\2*(600-r.length)+B.length<=2*(600-K.length)+W.length/\SmL A' H H'/\H' ad=some (.frz o (.dK ((abt (ents ts) h).map nmV)))/\H' F=some (.dK (r.map kb))/\H' M=some (.lst (nV B))/\Fd ts c r B/\(∀k∈r,k∉B->k≠h->∀p q,En ts k p q->p∈r)/\∀p∈((abt (ents ts) h).map (·.1)).take i,p∈r)
  ⟨N,K,W,rfl,ai _,bl.trans (fz.smL (by rw[eA];exact List.mem_cons_of_mem _ (List.mem_cons_of_mem _ (List.mem_map.mpr ⟨_,hL,rfl⟩)))),fz.at,b3,b4,⟨C.nd,C.c0,C.cn,λw hw=>C.wk w (List.mem_append_left _ hw)⟩,λk v Y bg=>cl k v (by simp[Y,bg]),by simp⟩ (by rintro i Z H' _ ⟨_,_,_,_,_,_,e,_⟩;exact e) ?_ ?_
 .rintro i y Z H' hi ⟨N,r,B,rfl,ms,a0,bi,am,a4,T,a5,al⟩;rw[nV,List.getElem?_map] at hi;obtain⟨p,hp,rfl⟩:=aY.mp hi;have et:((abt (ents ts) h).map (·.1)).take (i+1)=((abt (ents ts) h).map (·.1)).take i++[p]:=by rw[List.take_add_one,hp];rfl
  have fw:=few r T.nd T.cn;refine⟨_,rfl,_,rfl,F,_,rfl,DGet.k (k:=Sum.inl (p:Int)) am,?_⟩;rw[oe];by_cases an:p∈r
  .refine⟨false,by rw[Ik an];rfl,aC ⟨_,r,B,rfl,ms,a0,bi,am,a4,T,a5,λz I=>?_⟩⟩;rw[et] at I;rcases List.mem_append.mp I with I|I
   .exact al z I
   rw[List.mem_singleton.mp I];exact an
  obtain⟨z,I,ez⟩:=List.mem_map.mp (List.mem_of_getElem? hp);obtain⟨p',q'⟩:=z;cases ez;have hE:En ts h p' q':=il.mp I;have b6:Conn ts c p':=b5.trans (Conn.of hE);have bt:(r++[p']).Nodup:=List.nodup_append.mpr ⟨T.nd,by simp,λa ha b hb e=>by rw[List.mem_singleton] at hb;subst e;subst hb;exact an ha⟩;have bw:∀k∈r++[p'],Conn ts c k:=λk v=>(List.mem_append.mp v).elim (T.cn k) λh=>List.mem_singleton.mp h ▸ b6;have b7:=few (r++[p']) bt bw;rw[List.length_append,List.length_singleton] at b7;refine⟨true,by rw[Il an];rfl,aL ⟨_,rfl,_,rfl,F,_,rfl,DPut.k (k:=Sum.inl (p':Int)) am (by rw[List.length_map];lia),?_⟩⟩;rw[jX,Ii an];walk_at"H' F H7 k7 y7";have bx:=(k7 M bb.symm).trans a4;refine⟨_,rfl,.inl ⟨rfl,_,SqL.of bx⟩,_,rfl,M,_,_,rfl,rfl,bx,by rw[aK];lia,λH8 k8 y8=>?_⟩;refine⟨_,r++[p'],B++[p'],rfl,by simp only[List.length_append,List.length_singleton];lia,λb o e=>?_,?_,?_,by rw[y8,iA,cR],⟨bt,List.mem_append_left _ T.c0,bw,λw hw=>?_⟩,λk v Y bg p1 q1 he=>?_,λz I=>?_⟩
  .rw[k8 b (ah e bd),k7 b (ah e hF)];exact a0 b o e
  .rw[k8 ad bn,k7 ad bm];exact bi
  .rw[k8 F bb];exact y7
  .rcases List.mem_append.mp hw with hw|hw
   .exact List.mem_append_left _ (T.wk w hw)
   exact List.mem_append_right _ hw
  .rcases List.mem_append.mp v with v|v
   .exact List.mem_append_left _ (a5 k v (λz=>Y (List.mem_append_left _ z)) bg p1 q1 he)
   exact (Y (List.mem_append_right _ v)).elim
  rw[et] at I;rcases List.mem_append.mp I with I|I
  .exact List.mem_append_left _ (al z I)
  exact List.mem_append_right _ I
 rintro Z H' ⟨N,r,B,rfl,ms,a0,bi,am,a4,T,a5,al⟩;rw[aK,List.take_length] at al;refine⟨_,_,r,B,rfl,by lia,a0,am,a4,T,λk v Y p1 q1 he=>?_⟩;by_cases bA:k=h
 .subst bA;exact al p1 (List.mem_map.mpr ⟨_,il.mpr he,rfl⟩)
 exact a5 k v Y bA p1 q1 he
end
theorem Pcs.step{ts:List Tri}(g:Good ts){ls:List (List Nat)}{cs l:List Nat}{i c:Nat}(h:Pcs ts ls)(up:cs.Pairwise (· < ·))(r:∀c,c∈cs↔Co ts c)(hi:cs[i]?=some c)(al:∀x∈cs.take i,∃m∈ls,x∈m)(fst:∀m∈ls,∀x,m[0]?=some x->x∈cs.take i)
  (C:c∉ls.flatten) (s:l.Pairwise (· < ·)) (hm:∀x,x∈l↔Conn ts c x):Pcs ts (ls++[l])/\l[0]?=some c/\∀x∈l,x∉ls.flatten:=by
 have u:Co ts c:=(r c).mp (List.mem_of_getElem? hi);have v:=(List.getElem?_eq_some_iff.mp hi).1;have low:∀x,x∈cs.take i↔x∈cs/\x<c:=λx=>by
  constructor
  .intro f;obtain⟨j,d⟩:=List.mem_iff_getElem?.mp f;have p:=(List.getElem?_eq_some_iff.mp d).1;rw[List.length_take] at p;rw[List.getElem?_take_of_lt (by lia)] at d;have:=List.pairwise_iff_getElem.mp up j i (by lia) v (by lia);rw[(List.getElem?_eq_some_iff.mp hi).2,(List.getElem?_eq_some_iff.mp d).2] at this;exact⟨List.mem_of_getElem? d,this⟩
  rintro⟨f,I⟩;obtain⟨j,d⟩:=List.mem_iff_getElem?.mp f;have p:=(List.getElem?_eq_some_iff.mp d).1;refine List.mem_iff_getElem?.mpr ⟨j,?_⟩;rw[List.getElem?_take_of_lt,d];refine Fx λhle=>?_;rcases Fy hle with h|h
  .have:=List.pairwise_iff_getElem.mp up i j v p h;rw[(List.getElem?_eq_some_iff.mp hi).2,(List.getElem?_eq_some_iff.mp d).2] at this;lia
  subst h;rw[hi] at d;cases d;lia
 have w:∀x∈l,x∉ls.flatten:=λx f hf=>by
  obtain⟨m,o,D⟩:=List.mem_flatten.mp hf;obtain⟨b,_,_,z⟩:=h.co m o;exact C (List.mem_flatten.mpr ⟨m,o,(z c).mpr (((z x).mp D).trans ((hm x).mp f).symm)⟩)
 have A:c∈l:=(hm c).mpr (Conn.refl c);have q:l[0]?=some c:=by
  cases l with
  |nil=>cases A
  |cons a l=>
   have ha:=(hm a).mp List.mem_cons_self;have h1:=n6 s rfl c A;by_cases e:a=c
   .rw[e];rfl
   obtain⟨m,o,E⟩:=al a ((low a).mpr ⟨(r a).mpr (ha.co g u),by lia⟩);exact (w a List.mem_cons_self (List.mem_flatten.mpr ⟨m,o,E⟩)).elim
 refine⟨⟨λm n=>?_,λm n=>?_,?_⟩,q,w⟩
 .rcases List.mem_append.mp n with h' | h'
  .exact h.up m h'
  rw[List.mem_singleton.mp h'];exact s
 .rcases List.mem_append.mp n with h' | h'
  .exact h.co m h'
  rw[List.mem_singleton.mp h'];exact⟨c,q,u,hm⟩
 refine List.pairwise_append.mpr ⟨h.rise,List.pairwise_singleton _ _,λm n K H x y f B=>?_⟩;rw[List.mem_singleton.mp H,q] at B;cases B;exact ((low x).mp (fst m n x f)).2
def xR(Cs:Addr)(vs:List V)(H:Hp)(Q:VK)(x:Addr)(ts:List Tri)(A:List Addr):Prop:=vs=[.ref x]/\SkA Cs H x ts A/\Good ts/\ts.length<=200/\
 ∀T vs ls H',H T=none->SmL A H H'->H' T=some (.lst vs)->Paired (NewL H H' T) vs ls->Pcs ts ls->(∀x,Co ts x->∃l∈ls,x∈l)->ls.length<=600->Q (.ref T) H'
def mZ(Cs:Addr):Sp:=λvs H Q _=>Exists (Ex3 (xR Cs vs H Q))
section
theorem jd:aP ["skin","told","seen","corner","piece"] ["skin"] (ax jv):=by walk_at"sc"
theorem yj{f f1 f2 Cs:Addr}{fd d1 d2:FuncData}(U:Fun K "pieces" "pieces" jv f fd)(X:SCls K Cs)(MC:oT P w K mg base Cs 1 "corners" ["self"] (mK Cs) f1 d1)
  (GO:Use P w K mg base 1 "piece_of" ["skin","corner"] (qt Cs) f2 d2):ak P w K mg base CX0 2 f fd ["skin"] (mZ Cs):=by
 refine U.ok jd (by rintro _ _ _ _ ⟨_,_,_,rfl,_⟩;rfl) λIp A outer s H vs Q E hr h=>?_
 obtain⟨x,ts,A',rfl,sk,g,hl,q⟩:=h;have hu:=bI hr;have b3:=line5000;refine⟨_,ae (sx 1 jd.nd (bj cF))
  (ae (sx 2 jd.nd fC)
  (ae (bh aZ rfl (ba (m9 (pv 0) X.cl MC.m MC.g hr MC.b .nil pass0)) (gx 3 jd.nd)
   (ao (bB (eG (gh hu (pv 3) (pv 2)))
    (ae (sx 4 jd.nd (uc GO hr (af (pv 0) (pa1 (pv 3)))))
    (ae (bF (bH bR cM cN cz (pv 1) (pa1 (pv 4))))
    (ao (bF (bH iV vp F3 qE (pv 2) (pa1 (ng (N:=["each"]) (fr:=[none]) (g_ (by decide +kernel) rfl (by decide +kernel) (by decide +kernel)) rfl (ba (pv 4))
     (λC s H fp Io=>⟨gx 0 (by decide:(["each"]:List Str).Nodup),cP,pv 0,eK⟩)))))))) bu)))
  (ao (aJ (pv 1))))),?_⟩
 refine⟨by decide,λT H1 hT s1 y1=>?_⟩;refine λS H2 hS s2 y2=>?_;have a2:T≠S:=ah y1 hS;have a3:H S=none:=s1.free hS;have sA:=sk.dom a3;have a4:=sk.sm (Sm.of (s1.trans s2));obtain⟨dx,O,R,D,S0,vo,b4,L0,bl,eA⟩:=id a4;refine⟨_,rfl,x,dx,_,rfl,bl.ob,rfl,x,ts,rfl,a4.at,λp cs H3 hp s3 y3 up ad lcs=>?_⟩;have bm:=(s1.trans s2).trans s3;have b5:H p=none:=(s1.trans s2).free hp;have bn:T≠p:=ah (s2 _ _ y1) hp;have bt:S≠p:=ah y2 hp;refine⟨p,rfl,⟨_,SqL.of y3⟩,cA (K:=[]) (a:=p) (xs:=nV cs) (λi Z H'=>∃o3 o4 vs ls,Z=[some (.ref x),some (.ref T),some (.ref S),o3,o4]/\SmL A' H H'/\H' p=some (.lst (nV cs))/\H' T=some (.lst vs)/\Paired (NewL H H' T) vs ls/\H' S=some (.dK (ls.flatten.map kb))/\
   Pcs ts ls/\(∀c∈cs.take i,∃m∈ls,c∈m)/\(∀m∈ls,∀c,m[0]?=some c->c∈cs.take i)/\ls.length<=i)
  ⟨none,none,[],[],rfl,SmL.of bm,y3,s3 _ _ (s2 _ _ y1),.nil,s3 _ _ y2,⟨by simp,by simp,.nil⟩,by simp,by simp,ai _⟩ (by rintro i Z H' _ ⟨_,_,_,_,_,_,e,_⟩;exact SqL.of e) ?_ ?_⟩
 .rintro i y Z H' hi ⟨o3,o4,al,ls,rfl,sm,am,L,pr,v,B,I,an,a5⟩;rw[nV,List.getElem?_map] at hi;obtain⟨c,hc,rfl⟩:=aY.mp hi;have b6:=(List.getElem?_eq_some_iff.mp hc).1;have et:cs.take (i+1)=cs.take i++[c]:=by rw[List.take_add_one,hc];rfl
  have b7:ls.flatten.length<=600:=by
   have:=eC B.dis (m:=cs) λz d=>by
    obtain⟨m,hm,bw⟩:=List.mem_flatten.mp d;obtain⟨a,_,ha,hh⟩:=B.co m hm;exact (ad z).mpr (((hh z).mp bw).co g ha)
   lia
  refine⟨_,rfl,_,rfl,S,_,rfl,DGet.k (k:=Sum.inl (c:Int)) v,?_⟩;rw[oe];by_cases ap:c∈ls.flatten
  .refine⟨false,by rw[Ik ap];rfl,aC ⟨_,_,al,ls,rfl,sm,am,L,pr,v,B,λz d=>?_,λm hm z d=>?_,by lia⟩⟩
   .rw[et] at d;rcases List.mem_append.mp d with d|d
    .exact I z d
    rw[List.mem_singleton.mp d];obtain⟨m,hm,h⟩:=List.mem_flatten.mp ap;exact⟨m,hm,h⟩
   rw[et];exact List.mem_append_left _ (an m hm z d)
  refine⟨true,by rw[Il ap];rfl,aL ?_⟩;have bx:Co ts c:=(ad c).mp (List.mem_of_getElem? hc);refine⟨_,rfl,_,rfl,x,ts,A',c,rfl,sk.sm sm.sm,g,hl,bx,λr l H5 u M y5 bb hm ll=>?_⟩;obtain⟨bA,h0,dj⟩:=B.step g up ad hc I an ap bb hm;have bd:l.Nodup:=bb.imp λh=>aU h;have be:H5 T=some (.lst al):=M.sm.keep L (λz=>z);have bK:=M.new sA v;have b0:H5 p=some (.lst (nV cs)):=M.sm.keep am (λz=>z);have rT:r≠T:=λz=>by rw[z,L] at u;cases u
  have rS:r≠S:=λz=>by rw[z,v] at u;cases u
  have rp:r≠p:=λz=>by rw[z,am] at u;cases u
  have b1:H r=none:=sm.sm.free u;refine⟨_,rfl,.inl ⟨rfl,_,SqL.of be⟩,_,rfl,T,_,_,rfl,rfl,be,by rw[az pr];lia,λH6 k6 y6=>?_⟩;have aM:H6 S=some (.dK (ls.flatten.map kb)):=(k6 S a2.symm).trans bK;have bg:H6 r=some (.lst (nV l)):=(k6 r rT).trans y5;refine⟨_,rfl,.inr (.inr (.inl ⟨rfl,.inl ⟨_,aM⟩⟩)),_,rfl,r,rfl,⟨_,SqL.of bg⟩,λD2 a0=>?_⟩;refine qj (K:=[]) (a:=r) (xs:=nV l) (λi Z H'=>Same H6 H'/\H' D2=some (.dK ((l.take i).map kb))/\∃o,Z=[o]) ⟨bf a0,aG,none,rfl⟩ (λi Z H' _ ⟨e,_⟩=>SqL.of (e _ _ bg)) ?_ ?_
  .rintro j y Z H7 hj ⟨Y,y7,o,rfl⟩;rw[nV,List.getElem?_map] at hj;obtain⟨z,d,rfl⟩:=aY.mp hj;have bi:l.take (j+1)=l.take j++[z]:=by rw[List.take_add_one,d];rfl
   have nz:z∉l.take j:=λh=>by
    have nd:=bd;rw[<-List.take_append_drop (j+1) l,bi,List.nodup_append,List.nodup_append] at nd;exact nd.1.2.2 z h z (by simp) rfl
   refine⟨_,rfl,_,Sum.inl (z:Int),y7,rfl,by rw[List.length_map,List.length_take];lia,λb o' e=>?_,?_,_,rfl⟩
   .rw[aB (ah e a0)];exact Y _ _ e
   rw[aG,jX,Ii nz,bi]
  rintro Z H7 ⟨Y,y7,o,rfl⟩;rw[aK,List.take_length] at y7;have b2:=Y _ _ aM;refine⟨S,D2,_,_,rfl,rfl,(ah aM a0),b2,.inl y7,by rw[List.length_map,List.length_map];lia,?_⟩;walk_at"H7 S H8 k8 y8";rw[nh l _ dj bd] at y8;have ab:∀b o,b≠S->b≠T->H5 b=some o->H8 b=some o:=λb o n n' e=>by rw[k8 b n];exact Y _ _ ((k6 b n').trans e)
  refine⟨_,_,_,ls++[l],rfl,λb o e=>?_,ab p _ bt.symm bn.symm b0,(k8 T a2).trans (Y _ _ y6),?_,by rw[y8,List.flatten_append,List.flatten_singleton],bA,λz d=>?_,λm a1 z d=>?_,by rw[List.length_append,List.length_singleton];lia⟩
  .have nS:=ah e a3;have nT:=ah e hT;rcases (sm.trans M) b o e with e1|⟨z1,z2,ob,e1⟩
   .exact .inl (ab b _ nS nT e1)
   exact .inr ⟨z1,z2,ob,ab b _ nS nT e1⟩
  .refine cB (Paired.imp' (λ_ _ ⟨a,e1,e2,e3,e4⟩=>⟨a,e1,e2,e3,ab a _ (λz=>by rw[z,v] at e4;cases e4) e3 (M.sm.keep e4 (λz=>z))⟩) pr) (.cons ⟨r,rfl,b1,rT,ab r _ rS rT y5⟩ .nil)
  .rw[et] at d;rcases List.mem_append.mp d with d|d
   .obtain⟨m,a1,h⟩:=I z d;exact⟨m,List.mem_append_left _ a1,h⟩
   rw[List.mem_singleton.mp d];exact⟨l,by simp,(hm c).mpr (Conn.refl c)⟩
  rw[et];rcases List.mem_append.mp a1 with h' | h'
  .exact List.mem_append_left _ (an m h' z d)
  rw[List.mem_singleton.mp h',h0] at d;cases d;simp
 rintro Z H' ⟨o3,o4,al,ls,rfl,sm,am,L,pr,v,B,I,an,a5⟩;rw[aK] at a5;rw[aK,List.take_length] at I;exact⟨_,rfl,q T al ls H' hT sm L pr B (λx hx=>I x ((ad x).mpr hx)) (by lia)⟩
end
def mny(ts:List Tri)(es:List (Nat×Nat)):List (Nat×Nat):=es.filter λd=>decide (d.1<d.2)||!decide ((d.2,d.1)∈keys ts)
def Ba(Cs:Addr)(vs:List V)(H:Hp)(Q:VK)(x:Addr)(ts:List Tri)(A:List Addr):Prop:=vs=[.ref x]/\SkA Cs H x ts A/\ts.length<=200/\∀H',SmL A H H'->Q (.int ((mny ts (keys ts)).length:Int)) H'
def tX(Cs:Addr):Sp:=λvs H Q _=>Exists (Ex3 (Ba Cs vs H Q))
def oR(ts:List Tri)(c p r:Nat):List V:=[.int (c:Int),.int ((mny ts (keys ts)).length:Int),.int (ts.length:Int),.int (p:Int),.int ((2*(p:Int)-r-c+(mny ts (keys ts)).length-ts.length)/2),.int (r:Int)]
def xh(Cs:Addr)(vs:List V)(H:Hp)(Q:VK)(x:Addr)(ts:List Tri)(A:List Addr):Prop:=vs=[.ref x]/\SkA Cs H x ts A/\Good ts/\(∀c,Co ts c->One (En ts) c)/\ts.length<=200/\
 ∀T (cs:List Nat) (ls rl:List (List Nat)) H',H T=none->SmL A H H'->cs.Pairwise (· < ·)->(∀c,c∈cs↔Co ts c)->Pcs ts ls->(∀x,Co ts x->∃l∈ls,x∈l)->Rims (ay (En ts)) rl->H' T=some (.tup (oR ts cs.length ls.length rl.length))->Q (.ref T) H'
def qv(Cs:Addr):Sp:=λvs H Q _=>Exists (Ex3 (xh Cs vs H Q))
section
theorem CV:aP ["skin"] ["skin"] (ax i6):=by walk_at"sc"
theorem BH{f Cs:Addr}(U:Fun K "many_sides" "many_sides" i6 f fd)(T:bD mg)(X:SCls K Cs):ak P w K mg base CX0 1 f fd ["skin"] (tX Cs):=by
 refine U.ok CV (by rintro _ _ _ _ ⟨_,_,_,rfl,_⟩;rfl) λIp A outer s H vs Q E hr h=>?_
 obtain⟨x,ts,A',rfl,⟨dx,O,R,r,S,vo,cs,L,sk,eA⟩,hl,q⟩:=h;have hu:=bI hr;have ap:=line5000;refine⟨_,ao (aJ (pln T.len (bY (N:=["a","b","skin"]) (fr:=[none,none,some 0]) (g:=iH [] 2 (dO (bO 0) (dO (bO 1) iI))) (tt:=tOr (j5 (tOp (rI0 λi j=>.bl (decide (i<j))) (aV 0) (aV 1))) (tB (nE (lZ (bV (aV 1) (bV (aV 0) c7))) (oM K (aV 2) "thirds")))) (bW (by decide +kernel) rfl rfl (by decide +kernel) (by decide +kernel) (by walk_at"cs") (by walk_at"ct")) rfl (jD (gC (pv 0) rfl))
    (λC' s' H' fp Io=>⟨b_ rfl (aO (gx 0 (by decide:(["a","b","skin"]:List Str).Nodup)) (aO (gx 1 (by decide:(["a","b","skin"]:List Str).Nodup)) bX)),
     dS (PW.pt (eJ (a7 iE (pv 0) (pv 1) (nomark _)) (gA (eG (gh hu (aR (af (pv 1) (pa1 (pv 0)))) (gC (pv 2) rfl)))))),ag⟩)))),?_⟩
 refine⟨_,rfl,x,Cs,dx,_,_,rfl,sk.ob,X.cl,X.thirds,rfl,r,_,rfl,sk.th,True.intro,λks vs o H2 hk fz=>?_⟩;have sd:=nq hk;have lk:=az sd;have ab:Sm H H2:=fz.sm;have am:=ab.keep sk.ob (λz=>z);have ad:=fz.at;have an:SdsAt H2 ks (keys ts):=Paired.imp' (λ_ _ ⟨a,e,h⟩=>⟨a,e,ab.keep h (λz=>z)⟩) sd;refine λZ_ B=>qK (d:=r) (o:=o) (u:=.dT ((ents ts).map aS)) (ks:=ks) (λi Z ys H'=>∃C D,Z=[C,D,some (.ref x)]/\Same H2 H'/\H' Z_=some (.lst ys)/\ys.length=(mny ts ((keys ts).take i)).length) ⟨none,none,rfl,bf B,aG,rfl⟩ (by rintro i Z ys H' _ ⟨_,_,_,e,_⟩;exact e _ _ ad) ?_ ?_
 .rintro i y Z ys H' hi ⟨C,D,rfl,sm,n,l⟩;obtain⟨⟨a,b⟩,hs,c,rfl,hc⟩:=bM an hi;have et:(keys ts).take (i+1)=(keys ts).take i++[(a,b)]:=by rw[List.take_add_one,hs];rfl
  have lt:ys.length<=600:=by rw[l];have:=List.length_filter_le (λd:Nat×Nat=>decide (d.1<d.2)||!decide ((d.2,d.1)∈keys ts)) ((keys ts).take i);rw[List.length_take,jl] at this;unfold mny;lia
  have yes:(decide (a<b)||!decide ((b,a)∈keys ts))=true->mny ts ((keys ts).take (i+1))=mny ts ((keys ts).take i)++[(a,b)]:=λh=>by
   unfold mny;rw[et,List.filter_append,List.filter_cons_of_pos (by exact h)];rfl
  refine⟨c,_,rfl,SqT.of (sm _ _ hc),rfl,_,_,rfl,_,_,rfl,rfl,?_⟩;refine⟨_,rfl,_,rfl,_,_,rfl,rfl,_,rfl,?_⟩;by_cases al:a<b
  .rw[Ik (by show (a:Int)<b;lia)];refine aL (aL ⟨n,by lia,λHn I M=>⟨_,_,rfl,λY o' e=>(I Y (ah e B)).trans (sm _ _ e),M,?_⟩⟩);rw[yes (by rw[Ik al];rfl),List.length_append,List.length_append,l];rfl
  rw[Il (by show ¬(a:Int)<b;lia)];refine aC ⟨_,rfl,_,rfl,lit2,λt1 H3 g1 m y3=>?_⟩;refine⟨_,rfl,x,Cs,dx,_,_,rfl,m _ _ (sm _ _ am),X.cl,X.thirds,rfl,r,_,rfl,.inr ⟨_,ky b a,t1,.inr ⟨o,m _ _ (sm _ _ ad)⟩,rfl,y3,rfl⟩,?_⟩;by_cases p:(b,a)∈keys ts
  .have hv:(aI ((ents ts).map aS) (ky b a)).isSome=true:=by
    cases e:aI ((ents ts).map aS) (ky b a) with
    |none=>exact (dB.mp e p).elim
    |some v=>rfl
   refine⟨false,by rw[hv];rfl,aC ⟨_,_,rfl,sm.trans m,m _ _ n,?_⟩⟩;unfold mny at l |-;rw[et,List.filter_append,List.filter_cons_of_neg (by simp[al,p]),List.filter_nil,List.append_nil];exact l
  refine⟨true,by rw[dB.mpr p];rfl,aL ⟨m _ _ n,by lia,λHn I M=>⟨_,_,rfl,λY o' e=>(I Y (ah e B)).trans (m _ _ (sm _ _ e)),M,?_⟩⟩⟩;rw[yes (by simp[p]),List.length_append,List.length_append,l];rfl
 rintro Z ys H' ⟨C,D,rfl,sm,n,l⟩;rw[show ks.length=(keys ts).length from lk,List.take_length] at l;refine⟨Z_,ys,rfl,.inl (SqL.of n),?_⟩;rw[l];exact q H' ((fz.smL (by rw[eA];exact List.mem_cons_self)).trans (SmL.of sm))
theorem gd:aP ["skin","corners","sides","triangles","parts","edges","handles"] ["skin"] (ax jh):=by walk_at"sc"
theorem xv{f M N S Y Z Cs:Addr}{fd d1 d2 d3 d4 d5:FuncData}(U:Fun K "counted" "counted" jh f fd)(T:bD mg)(X:SCls K Cs)(d:oT P w K mg base Cs 1 "corners" ["self"] (mK Cs) M d1)(e:oT P w K mg base Cs 1 "triangles" ["self"] (pV Cs) N d2)
  (GM:Use P w K mg base 1 "many_sides" ["skin"] (tX Cs) S d3) (GP:Use P w K mg base 2 "pieces" ["skin"] (mZ Cs) Y d4) (GR:Use P w K mg base 2 "rims" ["skin"] (tW Cs) Z d5):ak P w K mg base CX0 3 f fd ["skin"] (qv Cs):=by
 refine U.ok gd (by rintro _ _ _ _ ⟨_,_,_,rfl,_⟩;rfl) λIp A outer s H vs Q E u h=>?_
 obtain⟨x,ts,c,rfl,sk,g,ab,i,q⟩:=h;have n:=u.mono (show 1<=2 by decide);have v:=u.mono (show 2<=2 by decide);refine⟨_,ae (sx 1 gd.nd (pln T.len (m9 (pv 0) X.cl d.m d.g n d.b .nil pass0)))
  (ae (sx 2 gd.nd (uc GM n (pa1 (pv 0))))
  (ae (sx 3 gd.nd (pln T.len (m9 (pv 0) X.cl e.m e.g n e.b .nil pass0)))
  (ae (sx 4 gd.nd (pln T.len (uc GP v (pa1 (pv 0)))))
  (ae (sx 5 gd.nd (pln T.len (uc GR v (pa1 (pv 0)))))
  (ae (sx 6 gd.nd (au tq (au di (au bp (au di (au di (au dW ag (pv 4)) (pv 5)) (pv 1)) (pv 2)) (pv 3)) ag))
  (ao (aJ (aR (af (pv 1) (af (pv 2) (af (pv 3) (af (pv 4) (af (pv 6) (pa1 (pv 5))))))))))))))),?_⟩
 obtain⟨dx,O,R,D,S0,vo,bb,L0,y,eA⟩:=id sk;refine⟨_,rfl,x,dx,_,rfl,y.ob,rfl,x,ts,rfl,sk.at,λp cs H1 hp s1 y1 up ad lcs=>?_⟩;refine⟨p,_,rfl,.inl (SqL.of y1),?_⟩;have B:SmL c H H1:=SmL.of s1;refine⟨_,rfl,x,ts,c,rfl,sk.sm B.sm,i,λH2 am=>?_⟩;have o:=B.trans am;have an:=o.sm.keep y.ob (λz=>z);refine⟨_,rfl,x,dx,_,rfl,an,rfl,x,ts,rfl,(sk.sm o.sm).at,λl bd H3 be s3 y3 ap=>?_⟩;refine⟨l,_,rfl,.inl (SqL.of y3),?_⟩;have C:=o.trans (SmL.of s3);refine⟨_,rfl,x,ts,c,rfl,sk.sm C.sm,g,i,λT4 bg ls H4 bi aM y4 a0 a1 al bl=>?_⟩;refine⟨T4,_,rfl,.inl (SqL.of y4),?_⟩;have I:=C.trans aM;refine⟨_,rfl,x,ts,c,rfl,sk.sm I.sm,g,ab,i,λT5 bm rl H5 bn a2 y5 a3 a4 bt lr=>?_⟩;refine⟨T5,_,rfl,.inl (SqL.of y5),?_⟩;have L:=I.trans a2;rw[aK,ap,az a0,az a3];refine⟨_,rfl,_,_,rfl,rfl,.inl ⟨by decide,by lia⟩,_,rfl,_,_,rfl,rfl,_,rfl,_,_,rfl,rfl,_,rfl,_,_,rfl,rfl,_,rfl,_,_,rfl,rfl,_,_,rfl,rfl,⟨by decide,by decide⟩,?_⟩;refine⟨_,rfl,_,rfl,_,rfl,_,rfl,_,rfl,_,rfl,by show 6<=sizeLine;decide,λr H6 a5 s6 y6=>?_⟩;exact q r cs ls rl H6 (L.sm.free a5) (L.trans (SmL.of s6)) up ad a1 al a4 y6
end
end K15
end
section
namespace L2
open PySem PySem.Spec PyProof.Rows PySem.W
section
def EK(K:Frag):List V->Hp->VK->Prop:=λxs H Q=>∃(a:Addr)(ns:List Int),xs=[.ref a]/\SqL K H a (ns.map V.int)/\ns≠[]/\∀m,m∈ns->(∀n∈ns,m<=n)->Q (.int m) H
theorem wu(b:X.calm=true):bJ X (.builtin "min") (EK []):=by intro Io s Z H xs us Q I r h;obtain⟨a,ns,rfl,c,d,q⟩:=h;obtain⟨u,rfl,e⟩:=Vals.one r;cases e;obtain⟨v,f,p,w⟩:=I.list c;obtain⟨m,F⟩:=I.fr;refine min_list_N (I.ok.hd b) F (kO (g:=X.base) (L:=X.env.locals)) p.isList (gZ f) (List.length_pos_iff.mpr d) λh' M t tk i l h1 h2=>?_;obtain⟨n,o⟩:=I.newsKept (t':=tk) (more:=[]) F i l;exact⟨.int M,H,I.keptN (t':=tk) n o,⟨t,rfl⟩,q M h1 h2⟩
end
end L2
end
section
namespace K15
open PySem L2 K51 K31
def cC(cs:List Nat)(lo:Nat->Nat):List (Nat×Nat):=cs.map λc=>(c,lo c)
theorem nj(cs:List Nat)(lo:Nat->Nat):(cC cs lo).map (·.1)=cs:=by rw[cC,List.map_map];exact List.map_id _
theorem nW{cs:List Nat}{lo:Nat->Nat}{c:Nat}(h:c∈cs):aI ((cC cs lo).map nmV) (Sum.inl (c:Int):Key)=some (V.int (lo c:Int)):=by obtain⟨k,x,h1,h2,_⟩:=nm_val (nm:=cC cs lo) (c:=c) (by rw[nj];exact h);rw[h2];rw[cC,List.getElem?_map] at h1;obtain⟨d,_,e⟩:=aY.mp h1;cases e;rfl
theorem BU{cs:List Nat}{lo:Nat->Nat}{c m:Nat}(h:c∈cs):aW ((cC cs lo).map nmV) (Sum.inl (c:Int):Key) (V.int (m:Int))=(cC cs λx=>if x=c then m else lo x).map nmV:=by
 have b:∀x:Nat,(Sum.inl (x:Int):Key)=Sum.inl (c:Int)↔x=c:=λx=>⟨λe=>by have:=fe e;lia,λe=>by rw[e]⟩;unfold aW cC;rw[Ij (List.any_eq_true.mpr ⟨nmV (c,lo c),List.mem_map.mpr ⟨_,List.mem_map.mpr ⟨c,h,rfl⟩,rfl⟩,Ik rfl⟩),List.map_map,List.map_map,List.map_map];refine List.map_congr_left λx _=>?_;show (if (Sum.inl (x:Int):Key)=Sum.inl (c:Int) then ((Sum.inl (x:Int):Key),V.int (m:Int)) else (Sum.inl (x:Int),V.int (lo x:Int)))=(Sum.inl (x:Int),V.int (((if x=c then m else lo x):Nat):Int));by_cases e:x=c
 .rw[Ij ((b x).mpr e),Ij e]
 rw[Ii λz=>e ((b x).mp z),Ii e]
theorem qx{Lt:Addr}{cs:List Nat}{lo:Nat->Nat}{Q:VK}(d:H Lt=some (.dK ((cC cs lo).map nmV)))(up:cs.Pairwise (· < ·))(m:cs.length<=600)(q:∀p H',H p=none->Same H H'->H' p=some (.lst (nV cs))->Q (.ref p) H'):t6 [] [.ref Lt] H Q:=by
 have nd:cs.Nodup:=up.imp λh=>aU h;refine⟨Lt,rfl,.inl ⟨_,d⟩,λks vs g=>.inl ⟨cs.map (λc:Nat=>(c:Int)),?_,by rw[List.length_map];lia,λp ms f pm ps=>?_⟩⟩
 .rcases g with ⟨kvs,e,rfl,_⟩|⟨kvs,as,e,_⟩
  .rw[d] at e;cases e;rw[nm_keys,nj,List.map_map];rfl
  rw[d] at e;cases e
 obtain⟨l,rfl,pl,pc⟩:=fX nd pm ps;have i:l=cs:=iw (R:=(· < ·)) (λa b h h'=>by lia) pl up λx=>pc.mem_iff;subst i;have e:(l.map (λc:Nat=>(c:Int))).map V.int=nV l:=by rw[List.map_map];rfl
 rw[e];exact q p _ f (bf f) aG
def xg(vs:List V)(H:Hp)(Q:VK)(T:Addr)(b:List V)(ts:List Tri):Prop:=vs=[.ref T]/\H T=some (.lst b)/\aw H b ts/\ts.length<=200/\Good ts/\
 ∀r vs ls H',H r=none->Same H H'->H' r=some (.lst vs)->Paired (NewL H H' r) vs ls->Pcs ts ls->(∀x,Co ts x->∃l∈ls,x∈l)->ls.length<=600->(∀l∈ls,l.length<=600)->Q (.ref r) H'
def qu:Sp:=λvs H Q _=>Exists (Ex3 (xg vs H Q))
section
theorem eB:aP ["_law_triples","_law_lots","_law_corner","_law_k","_law_triple","_law_first","_law_found"] ["_law_triples"] (ax jf):=by walk_at"sc"
theorem xu{f f1:Addr}{fd d1:FuncData}(U:Fun K "_law_pieces" "_law_pieces" jf f fd)(T:bD mg)(mS:mg "sorted" = none)(mN:mg "min" = none)(GC:Use P w K mg base 1 "_law_corners" ["_law_triples"] fh f1 d1) :
  ak P w K mg base CX0 2 f fd ["_law_triples"] qu:=by
 refine U.ok eB (by rintro _ _ _ _ ⟨_,_,_,rfl,_⟩;rfl) λIp A outer s H vs Q E hr h=>?_
 obtain⟨u,vt,ts,rfl,hT,ht,hl,g,q⟩:=h;have hu:=bI hr;have cn:=line5000;refine⟨_,ae (sx 1 eB.nd fC)
  (ae (bh aZ rfl (ba (uc GC hr (pa1 (pv 0)))) (gx 2 eB.nd) (ao (dI hu (pv 1) (pv 2) (pv 2) rfl)))
  (ae (bh aZ rfl (fm rfl T.range (pa1 (pln T.len (pv 0)))) (gx 3 eB.nd)
   (ao (bh aZ rfl (ba (pv 0)) (gx 4 eB.nd)
    (ae (sx 5 eB.nd (a_ (wu rfl) (by rfl) mN mY (pa1 (bY (N:=["_law_corner","_law_lots"]) (fr:=[none,some 1]) (te:=j6 (aV 1) (aV 0)) (bW (by decide +kernel) rfl rfl (by decide +kernel) (by decide +kernel) (by walk_at"cs") (by walk_at"ct")) rfl (gB (pv 4))
    (λC2 s2 H2 b3 b4=>⟨gx 0 (by decide:(["_law_corner","_law_lots"]:List Str).Nodup),cP,dh hu (pv 1) (pv 0) (λ_ _=>rfl)⟩)))))
    (ao (bh aZ rfl (gB (pv 4)) (gx 2 eB.nd) (ao (dI hu (pv 1) (pv 2) (pv 5) rfl))))))))
  (ae (sx 6 eB.nd (bj cF))
  (ae (bh aZ rfl (ba (a_ (fW rfl) (by rfl) mS dq (pa1 (pv 1)))) (gx 5 eB.nd)
   (ao (bB (a7 dM (dh hu (pv 1) (pv 5) (λ_ _=>rfl)) (pv 5) (nomark _))
    (ao (bF (bH bR cM cN cz (pv 6) (pa1 (bY (N:=["_law_corner","_law_lots","_law_first"]) (fr:=[none,some 1,some 5]) (tt:=j5 (tOp rEq (j6 (aV 1) (aV 0)) (aV 2))) (bW (by decide +kernel) rfl rfl (by decide +kernel) (by decide +kernel) (by walk_at"cs") (by walk_at"ct")) rfl (ba (a_ (fW rfl) (by rfl) mS dq (pa1 (pv 1))))
    (λC2 s2 H2 b3 b4=>⟨gx 0 (by decide:(["_law_corner","_law_lots","_law_first"]:List Str).Nodup),dS (a7 dM (dh hu (pv 1) (pv 0) (λ_ _=>rfl)) (pv 2) (nomark _)),pv 0⟩))))))
    bu)))
  (ao (aJ (pv 6))))))),?_⟩
 refine λLt H1 aM s1 y1=>?_;refine⟨_,rfl,u,vt,ts,rfl,s1 _ _ hT,ht.same s1,hl,λr0 cs H2 b5 s2 y2 ab cr=>?_⟩;have bl:∀c,c∈cs↔Co ts c:=λc=>(ab.2 c).trans rD;have b6:cs.Nodup:=ab.1.imp λh=>aU h;have b7:r0≠Lt:=(ah y1 b5).symm;have b8:=s2 _ _ (s1 _ _ hT);have a2:u≠Lt:=ah hT aM;have lcs:cs.length<=600:=by lia
 refine⟨r0,rfl,⟨_,SqL.of y2⟩,cA (K:=[]) (a:=r0) (xs:=nV cs) (λi Z H'=>∃B,Z=[some (.ref u),some (.ref Lt),B,none,none,none,none]/\But Lt H2 H'/\H' Lt=some (.dK ((cC (cs.take i) λx=>x).map nmV)))
  ⟨none,rfl,λ_ _ _ e=>e,s2 _ _ y1⟩ (by rintro i Z H' _ ⟨_,_,e,_⟩;exact SqL.of (e _ _ b7 y2)) ?_ ?_⟩
 .rintro i y Z H3 hi ⟨B,rfl,bt,ad⟩;rw[nV,List.getElem?_map] at hi;obtain⟨c,hc,rfl⟩:=aY.mp hi;have et:cs.take (i+1)=cs.take i++[c]:=by rw[List.take_add_one,hc];rfl
  have hn:c∉(cC (cs.take i) λx=>x).map (·.1):=by rw[nj];intro h;have nd:=b6;rw[<-List.take_append_drop (i+1) cs,et,List.nodup_append,List.nodup_append] at nd;exact nd.1.2.2 c h c (by simp) rfl
  refine⟨_,rfl,_,rfl,_,rfl,Lt,_,rfl,DPut.k (k:=Sum.inl (c:Int)) ad (by rw[List.length_map,cC,List.length_map,List.length_take];lia),?_⟩;rw[put_nm hn];walk_at"H3 Lt H4 k4 y4";refine⟨_,rfl,λb o n e=>(k4 b n).trans (bt b o n e),?_⟩;rw[y4,et,cC,cC,List.map_append (l₁:=cs.take i)];rfl
 rintro Z H3 ⟨B,rfl,bt,ad⟩;rw[aK,List.take_length] at ad;have a3:=bt _ _ a2 b8;have bm:aw H3 vt ts:=Paired.imp' (λ_ _ ⟨a,e1,e2⟩=>⟨a,e1,bt _ _ (λz=>by rw[z,aM] at e2;cases e2) (s2 _ _ (s1 _ _ e2))⟩) ht;have bn:=az bm;refine⟨_,rfl,u,_,rfl,.inl (SqL.of a3),?_⟩;rw[bn];have b9:∀{t:Tri},t∈ts->∀{x:Nat},InT x t->x∈cs:=λ{t} a4 {x} hx=>(bl _).mpr (bN.mpr ⟨_,a4,hx⟩);refine⟨_,rfl,by lia,by lia,hV (lo:=0) (n:=ts.length) (λi Z H'=>∃B o3 o4 O lo,Z=[some (.ref u),some (.ref Lt),B,o3,o4,O,none]/\But Lt H3 H'/\H' Lt=some (.dK ((cC cs lo).map nmV))/\LI ts i lo)
  ⟨_,_,_,_,_,rfl,λ_ _ _ e=>e,ad,LI.begin ts⟩ ?_ ?_⟩
 .rintro i Z H4 hi ⟨B,o3,o4,O,lo,rfl,am,a0,li⟩;have ca:=am _ _ a2 a3;refine⟨_,rfl,u,rfl,⟨_,SqL.of ca⟩,cA (K:=[]) (a:=u) (xs:=vt) (λj Z H'=>∃B o3 o4 O lo,Z=[some (.ref u),some (.ref Lt),B,o3,o4,O,none]/\But Lt H3 H'/\H' Lt=some (.dK ((cC cs lo).map nmV))/\LJ ts i j lo)
   ⟨_,_,_,_,lo,rfl,am,a0,li.j⟩ (by rintro j Z H' _ ⟨_,_,_,_,_,_,e,_⟩;exact SqL.of (e _ _ a2 a3)) ?_ ?_⟩
  .rintro j v Z H5 hj ⟨p2,p3,p4,p5,lo,rfl,a1,R,lj⟩;obtain⟨⟨a,b,c⟩,hs,t,rfl,hb⟩:=bM bm hj;have hb:H3 t=some (.tup (nV [a,b,c])):=hb;have a4:=List.mem_of_getElem? hs;have bw:t≠Lt:=λz=>by rw[z,ad] at hb;cases hb
   have a5:=a1 _ _ bw hb;have bx:∀z∈[a,b,c],z∈cs:=λz C=>b9 a4 (by simpa [InT] using C);refine⟨_,rfl,t,rfl,⟨_,SqT.of a5⟩,λY hY=>jm (K:=[]) (a:=t) (xs:=nV [a,b,c]) (λk Z ys H'=>∃o,Z=[o,some (V.ref Lt)]/\ys=nV (([a,b,c].take k).map lo)/\Same H5 H'/\H' Y=some (.lst ys)) ⟨none,rfl,rfl,bf hY,aG⟩ (by rintro k Z ys H' _ ⟨_,_,_,e,_⟩;exact SqT.of (e _ _ a5)) ?_ ?_⟩
   .rintro k x Z ys H' I ⟨o,rfl,rfl,sY,cb⟩;rw[nV,List.getElem?_map] at I;obtain⟨z,C,rfl⟩:=aY.mp I;refine⟨_,rfl,_,rfl,Lt,V.int (lo z:Int),rfl,nW (bx z (List.mem_of_getElem? C)) ▸ DGet.k (k:=Sum.inl (z:Int)) (sY _ _ R),cb,?_,λHn S yn=>⟨_,rfl,?_,λb' o e=>(S b' (ah e hY)).trans (sY _ _ e),yn⟩⟩
    .rw[aK,List.length_map,List.length_take];have:([a,b,c]:List Nat).length=3:=rfl;lia
    rw[List.take_add_one,C,List.map_append,<-cR];rfl
   rintro Z ys H6 ⟨o,rfl,rfl,L,y6⟩;refine⟨Y,[(lo a:Int),(lo b:Int),(lo c:Int)],rfl,SqL.of y6,by simp,λm hm bb=>?_⟩;obtain⟨r,em,cc⟩:∃r:Nat,m=(r:Int)/\(r=lo a\/r=lo b\/r=lo c):=by
    simp only[List.mem_cons,List.not_mem_nil,or_false] at hm;rcases hm with e|e|e
    .exact⟨_,e,.inl rfl⟩
    .exact⟨_,e,.inr (.inl rfl)⟩
    exact⟨_,e,.inr (.inr rfl)⟩
   subst em;have h1:=bb (lo a) (by simp);have h2:=bb (lo b) (by simp);have h3:=bb (lo c) (by simp);have cd:=lj.step g hs cc ⟨by show r<=lo a;lia,by show r<=lo b;lia,by show r<=lo c;lia⟩;have bA:=L _ _ a5;refine⟨_,rfl,t,rfl,⟨_,SqT.of bA⟩,tE (K:=[]) (a:=t) (xs:=nV [a,b,c]) (λk Z H'=>∃p2 an,Z=[some (.ref u),some (.ref Lt),p2,p3,some (.ref t),some (.int (r:Int)),none]/\But Lt H6 H'/\H' Lt=some (.dK ((cC cs an).map nmV))/\∀x,an x=if x∈[a,b,c].take k then r else lo x)
    ⟨_,lo,rfl,λ_ _ _ e=>e,L _ _ R,by simp⟩ (by rintro k Z H' _ ⟨_,_,_,e,_⟩;exact SqT.of (e _ _ bw bA)) ?_ ?_⟩
   .rintro k v Z H7 I ⟨p2,an,rfl,D,X,el⟩;rw[nV,List.getElem?_map] at I;obtain⟨z,C,rfl⟩:=aY.mp I;refine⟨_,rfl,_,rfl,_,rfl,Lt,_,rfl,DPut.k (k:=Sum.inl (z:Int)) X (by rw[List.length_map,cC,List.length_map];lia),?_⟩;rw[BU (bx z (List.mem_of_getElem? C))];walk_at"H7 Lt H8 k8 y8";refine⟨_,_,rfl,λb o n e=>(k8 b n).trans (D b o n e),y8,λx=>?_⟩;rw[List.take_add_one,C];by_cases e:x=z
    .rw[Ij e,Ij (by simp[e])]
    rw[Ii e,el x];simp[e]
   rintro Z H7 ⟨p2,an,rfl,D,X,el⟩;have ce:an=gH (a,b,c) r lo:=funext λx=>by
    rw[el x];unfold gH;have:x∈[a,b,c].take (nV [a,b,c]).length↔(x=a\/x=b\/x=c):=by show x∈[a,b,c]↔_;simp
    simp only[this]
   subst ce;exact⟨_,_,_,_,_,rfl,λb o n e=>D b o n (L _ _ (a1 b o n e)),X,cd⟩
  rintro Z H5 ⟨p2,p3,p4,p5,lo,rfl,a1,R,lj⟩;rw[bn] at lj;exact⟨_,_,_,_,_,rfl,a1,R,lj.done⟩
 rintro Z H4 ⟨B,o3,o4,O,lo,rfl,am,a0,li⟩;refine⟨by decide,λd H5 bK s5 y5=>?_⟩;have R:=s5 _ _ a0;have bd:d≠Lt:=(ah a0 bK).symm;have old:∀b o,H b=some o->H5 b=some o:=λb o e=>s5 _ _ (am b o (ah e aM) (bt b o (ah e aM) (s2 _ _ (s1 _ _ e))));have b0:H d=none:=by
  cases e:H d with
  |none=>rfl
  |some o=>
   have:=am d o bd (bt d o bd (s2 _ _ (s1 _ _ e)));rw[bK] at this;cases this
 obtain⟨cg,al⟩:=An g li ab.1 bl;refine⟨_,rfl,qx R ab.1 lcs λp H6 hp L y6=>?_⟩;have ch:p≠d:=(ah y5 hp).symm;refine⟨p,rfl,⟨_,SqL.of y6⟩,cA (K:=[]) (a:=p) (xs:=nV cs) (λi Z H'=>∃O M,Z=[some (.ref u),some (.ref Lt),B,o3,o4,O,some (.ref d)]/\But d H6 H'/\H' d=some (.lst M)/\Paired (NewL H H' d) M (((cs.take i).filter λc=>decide (lo c=c)).map λf=>cs.filter λc=>decide (lo c=f)))
  ⟨_,[],rfl,λ_ _ _ e=>e,L _ _ y5,.nil⟩ (by rintro i Z H' _ ⟨_,_,_,e,_⟩;exact SqL.of (e _ _ ch y6)) ?_ ?_⟩
 .rintro i y Z H7 hi ⟨p5,M,rfl,D,ap,pr⟩;rw[nV,List.getElem?_map] at hi;obtain⟨c,hc,rfl⟩:=aY.mp hi;have ci:=List.mem_of_getElem? hc;have et:cs.take (i+1)=cs.take i++[c]:=by rw[List.take_add_one,hc];rfl
  have X:=D _ _ bd.symm (L _ _ R);have cv:M.length<=600:=by rw[az pr,List.length_map];have:=List.length_filter_le (λc=>decide (lo c=c)) (cs.take i);rw[List.length_take] at this;lia
  refine⟨_,rfl,_,rfl,Lt,V.int (lo c:Int),rfl,nW ci ▸ DGet.k (k:=Sum.inl (c:Int)) X,_,rfl,rfl,_,rfl,?_⟩;show if decide (V.int (lo c:Int)=V.int (c:Int))=true then _ else _
  rw[eT];by_cases be:lo c=c
  .rw[Ik (by rw[be])];have ef:((cs.take (i+1)).filter λc=>decide (lo c=c))=((cs.take i).filter λc=>decide (lo c=c))++[c]:=by rw[et,List.filter_append,List.filter_cons_of_pos (by simpa using be)];rfl
   refine aL ⟨_,rfl,.inl ⟨rfl,_,SqL.of ap⟩,_,rfl,qx X ab.1 lcs λp2 H8 cw s8 y8=>?_⟩;have b1:=s8 _ _ ap;have cj:=s8 _ _ X;refine⟨p2,rfl,⟨_,SqL.of y8⟩,λZ_ hZ=>de (K:=[]) (a:=p2) (xs:=nV cs) (λk Z ys H'=>∃o,Z=[o,some (V.ref Lt),some (.int (c:Int))]/\ys=nV ((cs.take k).filter λx=>decide (lo x=c))/\Same H8 H'/\H' Z_=some (.lst ys)) ⟨none,rfl,rfl,bf hZ,aG⟩ (by rintro k Z ys H' _ ⟨_,_,_,e,_⟩;exact SqL.of (e _ _ y8)) ?_ ?_⟩
   .rintro k v Z ys H' I ⟨o,rfl,rfl,sZ,b2⟩;rw[nV,List.getElem?_map] at I;obtain⟨z,C,rfl⟩:=aY.mp I;have ek:cs.take (k+1)=cs.take k++[z]:=by rw[List.take_add_one,C];rfl
    refine⟨_,rfl,_,rfl,Lt,V.int (lo z:Int),rfl,nW (List.mem_of_getElem? C) ▸ DGet.k (k:=Sum.inl (z:Int)) (sZ _ _ cj),_,rfl,rfl,_,rfl,?_⟩;show if decide (V.int (lo z:Int)=V.int (c:Int))=true then _ else _
    rw[eT];by_cases bg:lo z=c
    .rw[Ik (by rw[bg])];refine aL ⟨_,rfl,b2,?_,λHn S yn=>⟨_,rfl,?_,λb' o e=>(S b' (ah e hZ)).trans (sZ _ _ e),yn⟩⟩
     .rw[aK];have:=List.length_filter_le (λx=>decide (lo x=c)) (cs.take k);rw[List.length_take] at this;lia
     rw[ek,List.filter_append,List.filter_cons_of_pos (by simpa using bg),List.filter_nil,<-cR];rfl
    rw[Il (by lia)];refine aC ⟨_,rfl,?_,sZ,b2⟩;rw[ek,List.filter_append,List.filter_cons_of_neg (by simpa using bg),List.filter_nil,List.append_nil]
   rintro Z ys H9 ⟨o,rfl,rfl,s9,y9⟩;rw[aK,List.take_length] at y9;have cl:=s9 _ _ b1;have bi:Z_≠d:=(ah b1 hZ).symm;have cm:H Z_=none:=by
    cases e:H Z_ with
    |none=>rfl
    |some o=>
     have:=s8 _ _ (D Z_ o bi (L _ _ (old Z_ o e)));rw[hZ] at this;cases this
   refine⟨d,_,_,rfl,rfl,cl,by lia,λHn S yn=>⟨_,M++[.ref Z_],rfl,λb o n e=>(S b n).trans (s9 _ _ (s8 _ _ (D b o n e))),yn,?_⟩⟩;rw[ef,List.map_append];exact cB (Paired.imp' (λ_ _ ⟨a,e1,e2,e3,e4⟩=>⟨a,e1,e2,e3,(S a e3).trans (s9 _ _ (s8 _ _ e4))⟩) pr) (.cons ⟨Z_,rfl,cm,bi,(S Z_ bi).trans y9⟩ .nil)
  rw[Il (by lia)];refine aC ⟨_,M,rfl,D,ap,?_⟩;rw[et,List.filter_append,List.filter_cons_of_neg (by simpa using be),List.filter_nil,List.append_nil];exact pr
 rintro Z H7 ⟨p5,M,rfl,D,ap,pr⟩;rw[aK,List.take_length] at pr;refine⟨_,rfl,q d M _ H7 b0 (λb o e=>D b o (ah e b0) (L _ _ (old b o e))) ap pr cg al ?_ λl hl=>?_⟩
 .rw[List.length_map];have:=List.length_filter_le (λc=>decide (lo c=c)) cs;lia
 obtain⟨f,_,rfl⟩:=List.mem_map.mp hl;have:=List.length_filter_le (λc=>decide (lo c=f)) cs;lia
end
end K15
end
section
namespace L2
open PySem PySem.Spec PyProof.Rows PySem.W
theorem nr:∀{us:List Value}{ns:List Int}{i:Nat},IntsAre us ns->i<us.length->∃t,us[i]?=some (Value.int (ns.getD i 0) t)
 |_,_,_,.nil,h=>by simp at h
 |_,_,0,.cons n t _,_=>⟨t,rfl⟩
 |_,_,i+1,.cons n t r,h=>by
  obtain⟨t',e⟩:=nr (i:=i) r (by simpa using h);exact⟨t',by simpa using e⟩
theorem AH{ns ms:List Int}{i:Nat}(h1:i<ns.length)(h2:i<ms.length):HT.lexLt (ns.drop i) (ms.drop i)=if ns.getD i 0=ms.getD i 0 then HT.lexLt (ns.drop (i+1)) (ms.drop (i+1)) else decide (ns.getD i 0<ms.getD i 0):=by rw[List.drop_eq_getElem_cons h1,List.drop_eq_getElem_cons h2,HT.lexLt_cons];simp[List.getD,h1,h2]
theorem BR(l b:Addr)(us ws:List Value)(ns ms:List Int)(n p:Nat)(q:IntsAre us ns)(hw:IntsAre ws ms)(k:Nat) :
  ∀i:Nat,us.length-i=k->i<=us.length->i<=ws.length->Meets (Builtin.«list.__eq__.loop» ⟨[.ref l,.ref b,rawInt i,rawInt 0],[]⟩)
   (λ_ R s=>s.heap.get? l=some (seqObj "list" us.toArray n)/\s.heap.get? b=some (seqObj "list" ws.toArray p)/\R (.ok (.ret (.bool (HT.lexLt (ns.drop i) (ms.drop i))))) s):=by
 have H:=q.length;have lw:=hw.length;have stop:∀i:Nat,i<=us.length->i<=ws.length->(us.length<=i\/ws.length<=i)->Meets (Builtin.«list.__eq__.loop» ⟨[.ref l,.ref b,rawInt i,rawInt 0],[]⟩)
   (λ_ R s=>s.heap.get? l=some (seqObj "list" us.toArray n)/\s.heap.get? b=some (seqObj "list" ws.toArray p)/\R (.ok (.ret (.bool (HT.lexLt (ns.drop i) (ms.drop i))))) s):=by
  intro i h1 h2 o prog w A R s h;obtain⟨y,g,d,tk,os⟩:=s;obtain⟨f,m,h⟩:=h
  wp_walk using dn f,dn m
  have e:HT.lexLt (ns.drop i) (ms.drop i)=decide (us.length<ws.length):=by
   by_cases c:us.length<=i
   .rw[List.drop_eq_nil_of_le (by lia)];by_cases I:ws.length<=i
    .rw[List.drop_eq_nil_of_le (by lia),Il (by lia)];rfl
    rw[List.drop_eq_getElem_cons (by lia),Ik (by lia)];rfl
   have:ws.length<=i:=by lia
   rw[List.drop_eq_nil_of_le (as:=ms) (by lia),List.drop_eq_getElem_cons (by lia),Il (by lia)];rfl
  rw[e] at h;rcases o with o|o
  .rw[show us.toArray[((i:Nat):Int).toNat]?=none by simp;lia]
   wp_walk using dn f,dn m
   show R (.ok (.ret (.bool (decide (us.toArray.size<ws.toArray.size))))) _;simpa using h
  by_cases c:us.length<=i
  .rw[show us.toArray[((i:Nat):Int).toNat]?=none by simp;lia]
   wp_walk using dn f,dn m
   show R (.ok (.ret (.bool (decide (us.toArray.size<ws.toArray.size))))) _;simpa using h
  rw[show us.toArray[((i:Nat):Int).toNat]?=some (us[i]'(by lia)) by simp,show ws.toArray[((i:Nat):Int).toNat]?=none by simp;lia]
  wp_walk using dn f,dn m
  show R (.ok (.ret (.bool (decide (us.toArray.size<ws.toArray.size))))) _;simpa using h
 induction k with
 |zero=>
  intro i z h1 h2;exact stop i h1 h2 (.inl (by lia))
 |succ k B=>
  intro i z h1 h2;by_cases c:ws.length<=i
  .exact stop i h1 h2 (.inr c)
  intro prog w A R s h;obtain⟨y,g,d,tk,os⟩:=s;obtain⟨f,m,h⟩:=h
  wp_walk using dn f,dn m
  obtain⟨r,C⟩:=nr (i:=i) q (by lia);obtain⟨u,D⟩:=nr (i:=i) hw (by lia);have v:us.toArray[((i:Nat):Int).toNat]?=some (Value.int (ns.getD i 0) r):=by simpa using C
  have x:ws.toArray[((i:Nat):Int).toNat]?=some (Value.int (ms.getD i 0) u):=by simpa using D
  have E:((i:Int)+1)=((i+1:Nat):Int):=by push_cast;rfl
  rw[AH (by lia) (by lia)] at h;rw[v,x];refine aa (vN ?_);by_cases e:ns.getD i 0=ms.getD i 0
  .rw[Ij e] at h;rw[show (ns.getD i 0==ms.getD i 0)=true by simpa using e]
   wp_walk
   rw[E];exact⟨gU pz _,fS F4 (by
    rw[iK pz _];exact B (i+1) (by lia) (by lia) (by lia) prog w A R _ ⟨f,m,h⟩)⟩
  rw[Ii e] at h;rw[show (ns.getD i 0==ms.getD i 0)=false by simpa using e]
  wp_walk using dn f,dn m
  rw[v,x];refine aa ?_;refine (show wpAny (model prog w) _ (compareOp .Lt (.int (ns.getD i 0) r) (.int (ms.getD i 0) u)) _ _ _ from lt_int ?_)
  wp_walk
  exact h
theorem BW(l b:Addr)(us ws:List Value)(ns ms:List Int)(n c:Nat)(i:IntsAre us ns)(hw:IntsAre ws ms) :
  Meets (Builtin.«list.__lt__» ⟨[.ref l,.ref b],[]⟩)
   (λ_ R s=>s.heap.get? l=some (seqObj "list" us.toArray n)/\s.heap.get? b=some (seqObj "list" ws.toArray c)/\R (.ok (.ret (.bool (HT.lexLt ns ms)))) s):=by
 intro prog w A R s h;obtain⟨m,g,d,tk,os⟩:=s;obtain⟨e,f,h⟩:=h;have o:=AutoSeq1.sub_list_list
 wp_walk using dn e,dn f
 exact⟨gU pz _,fS F4 (by
  rw[iK pz _];exact BR l b us ws ns ms n c i hw _ 0 rfl (aD _) (aD _) prog w A R _ ⟨e,f,h⟩)⟩
section
variable {prog:Program}
theorem zV{a b:Addr}{us ws:List Value}{ns ms:List Int}{n c:Nat}{C:Bool->Shared->Prop}(d:A.units<cLine)(h1:s.heap.get? a=some (seqObj "list" us.toArray n))(h2:s.heap.get? b=some (seqObj "list" ws.toArray c))(e:IntsAre us ns)(hw:IntsAre ws ms)(q:C (HT.lexLt ns ms) s) :
  wpAny (model prog w) A (keyLt' oneType' (.ref a) (.ref b)) C E s:=by
 rw[keyLt'_oneType,oneLt'_eq];simp only[if_true];refine aa (wpAny_cRoomFor d ?_);refine aa (wpAny_callSpecialIfBound?_slot ⟨_,h1,rfl⟩ FY ?_);refine mz FY ⟨_,h1,rfl⟩ PySem.F.entry_list_lt (PySem.F.args_list_lt_2 _ _) (BW a b us ws ns ms n c e hw) ⟨h1,h2,?_⟩;exact fU q
end
def Lsts(K:Frag)(H:Hp)(ys:List V)(ks:List (List Int)):Prop:=Paired (λy k=>∃b,y=V.ref b/\H b=some (.lst (k.map V.int))) ys ks
section
def C7(K:Frag):List V->Hp->VK->Prop:=λxs H Q=>∃(a:Addr)(ys:List V)(ks:List (List Int)),xs=[.ref a]/\SqL K H a ys/\Lsts K H ys ks/\ys.length<5000/\
 ∀p (ix:List Nat),H p=none->ix.Perm (List.range ys.length)->(ix.map λi=>ks.getD i []).Pairwise (λa b=>HT.lexLt b a=false)->Q (.ref p) (upd H p (.lst (ix.map λi=>ys.getD i .non)))
theorem vW(hr:X.A.units+2<cLine):bJ X (.builtin "sorted") (C7 []):=by
 intro Io s Z H xs us Q I r h;obtain⟨a,ys,ks,rfl,m,w,hz,q⟩:=h;obtain⟨u,rfl,M⟩:=Vals.one r;cases M;obtain⟨c,B,p,_⟩:=I.list m;have hl:=B.length;have at_:∀(ks:List (List Int))(ys:List V)(c:List Value),Lsts [] H ys ks->Vals ys c->Paired (λv k=>∃b us n,v=Value.ref b/\IntsAre us k/\s.heap.get? b=some (seqObj "list" us.toArray n)) c ks:=by
  intro ks;induction ks with
  |nil=>intro ys c a b;cases a;cases b;exact .nil
  |cons k ks N=>
   intro ys c a b;cases a with
   |cons O tt=>
    obtain⟨R,S,m⟩:=O;subst S;cases b with
    |cons r U=>
     cases r;obtain⟨z,us,n,Y,p6⟩:=I.hok _ _ m;exact .cons ⟨R,us,n,rfl,gZ Y,p6⟩ (N _ _ tt U)
 have P:=at_ ks ys c w B;have D:∀{b:Addr}{us:List Value}{n:Nat}{k:List Int},IntsAre us k->s.heap.get? b=some (seqObj "list" us.toArray n)->rkV s.heap (Value.ref b)=k:=λ{b us n k} f d=>by
  show (match s.heap.get? b with|some o=>_|none=>_)=_;rw[d];exact nN f
 have hk:∀i,i<c.length->rkV s.heap (c.getD i Value.none)=ks.getD i []:=λi hi=>by
  obtain⟨k,K,b,us,n,e2,f,d⟩:=Paired.getE (i:=i) (x:=c[i]) P (by simp[hi]);rw[show c.getD i Value.none=c[i] by simp[List.getD,hi],e2,D f d,List.getD,K];rfl
 refine qc (κ:=oneType') (rk:=rkV s.heap) p.isList (by rw[cu];lia) (λh' old h2 Q q=>?_) (λh' old h2 x hx y w C q=>?_) λout p1 p2=>?_
 .refine kas_kind (T:=.type "list") h2 (λv hv=>?_) (by decide) (by decide) q;obtain⟨i,hi⟩:=List.mem_iff_getElem?.mp hv;obtain⟨k,K,b,us,n,rfl,f,d⟩:=Paired.getE P hi;intro A Q E s' k' q';have:=k' _ _ (old _ _ d);exact pP ⟨_,this,rfl⟩ q'
 .obtain⟨i,hi⟩:=List.mem_iff_getElem?.mp hx;obtain⟨j,hj⟩:=List.mem_iff_getElem?.mp w;obtain⟨k1,_,b1,u1,n1,rfl,f,g⟩:=Paired.getE P hi;obtain⟨k2,_,b2,u2,n2,rfl,d,l⟩:=Paired.getE P hj;rw[D f g,D d l] at q;exact zV (by show X.A.units+1+1<_;lia) (old _ _ g) (old _ _ l) f d q
 obtain⟨ix,g,l,x3⟩:=lI B hk p1 p2;obtain⟨e,he⟩:=vI s.heap c out.toArray;have L:s.heap.objs.size<=s.heap.objs.size+1:=iP _;exact⟨.ref (s.heap.objs.size+1),upd H (s.heap.objs.size+1) (.lst (ix.map λi=>ys.getD i .non)),I.laid (t':=s.toks) (λb o e=>vJ e) L ⟨by rw[List.length_map,g.length_eq,List.length_range,cu];lia,out,e,x3,by rw[he]⟩,rfl,q _ ix (I.hok.fresh L) g l⟩
end
end L2
end
section
namespace L2
open PySem PySem.Spec PyProof.Rows
def rNeE:R2:=λx y H Q=>∃(a b:Addr)(kvs:List (Key×V)),x=.ref a/\y=.ref b/\Rd H a (.dK kvs)/\Rd H b (.dK [])/\Q (.bl (!kvs.isEmpty)) H
theorem Dj(c:X.A.units<cLine):OpR X (compareOp .NotEq) rNeE:=by
 intro Io s Z H x y v u Q I d f h;obtain⟨a,b,kvs,rfl,rfl,ha,g,q⟩:=h;cases d;cases f;obtain⟨o,lo,vs,rel,dd⟩:=cK I.hok ha;obtain⟨w,i,ms,l,m⟩:=cK I.hok g;have n:ms=[]:=by have:=l.length;exact List.length_eq_zero_iff.mp this.symm
 subst n;refine W.keq_ne (r:=true) lo i dd m c (λe=>?_) ⟨.bl _,H,I,?_,q⟩
 .have e:vs=[]:=List.length_eq_zero_iff.mp e;subst e;exact .nil
 show Value.bool _=Value.bool _;have:=rel.length;cases kvs with
 |nil=>cases vs with
  |nil=>rfl
  |cons p r=>simp at this
 |cons p r=>cases vs with
  |nil=>simp at this
  |cons z B=>rfl
end L2
end
section
namespace K71
open PySem L2 K51 K31 K15
theorem last_at{ps:List Nat}{p:Nat}(h:ps[ps.length-1]?=some p):atI (nV ps) (-1)=some (V.int (p:Int)):=by have b:=(List.getElem?_eq_some_iff.mp h).1;unfold atI ixN;rw[aK,Ii (by decide),Ij (by lia)];show (nV ps)[_]?=_;rw[show (-1+(ps.length:Int)).toNat=ps.length-1 by lia];exact lG h
theorem key_en{ts:List Tri}{a b:Nat}:(a,b)∈(ents ts).map (·.1)↔∃c,En ts a b c:=by
 constructor
 .intro h;obtain⟨⟨⟨x,y⟩,c⟩,h1,h2⟩:=List.mem_map.mp h;cases h2;exact⟨c,h1⟩
 rintro⟨c,h⟩;exact List.mem_map.mpr ⟨_,h,rfl⟩
theorem rim_iff{ts:List Tri}{a b:Nat}:ay (En ts) a b↔Rim ts (a,b):=by unfold ay Rim;rw[key_en,key_en]
theorem nd_keys{R:Nat->Nat->Prop}(one:∀a b c,R a b->R a c->b=c){l:List (Nat×Nat)}(nd:l.Nodup)(h:∀p∈l,R p.1 p.2):(l.map (·.1)).Nodup:=by
 induction l with
 |nil=>exact List.nodup_nil
 |cons x l f=>
  rw[List.nodup_cons] at nd;rw[List.map_cons,List.nodup_cons];refine⟨λz=>?_,f nd.2 λp g=>h p (List.mem_cons_of_mem _ g)⟩;obtain⟨y,d,e⟩:=List.mem_map.mp z;have h1:=h x List.mem_cons_self;have h2:=h y (List.mem_cons_of_mem _ d);rw[e] at h2;have:y=x:=iS e (one _ _ _ h2 h1);rw[this] at d;exact nd.1 d
theorem steps_rim{ts:List Tri}(g:Good ts)(o:∀c,Co ts c->One (En ts) c):(∀a b c,ay (En ts) a b->ay (En ts) a c->b=c)/\(∀a b c,ay (En ts) a c->ay (En ts) b c->a=b)/\(∀a b,ay (En ts) a b->∃c,ay (En ts) b c):=by have f:∀{a b},ay (En ts) a b->Co ts a:=λ⟨⟨q,d⟩,_⟩=>⟨_,q,d⟩;have e:∀{a b},ay (En ts) a b->Co ts b:=λ⟨⟨q,d⟩,_⟩=>⟨q,_,g.sk.rot d⟩;exact⟨λa b c h1 h2=>kZ g.sk (o a (f h1)) h1 h2,λa b c h1 h2=>nP g.sk (o c (e h1)) h1 h2,λa b h=>q5 g.sk (o b (e h)) h⟩
def NewL(H H':Hp)(T:Addr)(v:V)(l:List Nat):Prop:=∃a,v=.ref a/\H a=none/\a≠T/\H' a=some (.lst (nV l))
theorem cyc_pos{ls:List (List Nat)}(h:∀l∈ls,l≠[]):ls.length<=ls.flatten.length:=by
 induction ls with
 |nil=>simp
 |cons l ls b=>
  have h1:=b λm hm=>h m (List.mem_cons_of_mem _ hm);have h2:0<l.length:=List.length_pos_iff.mpr (h l List.mem_cons_self);rw[List.flatten_cons,List.length_append,List.length_cons];lia
def nmV(x:Nat×Nat):Key×V:=(Sum.inl (x.1:Int),V.int (x.2:Int))
theorem val_nm{nm:List (Nat×Nat)}{c:Nat}(h:c∉nm.map (·.1)):aI (nm.map nmV) (Sum.inl (c:Int):Key)=none:=by
 induction nm with
 |nil=>simp[aI]
 |cons x nm b=>
  rw[List.map_cons,List.mem_cons,not_or] at h;rw[List.map_cons,du (λz=>h.1 ?_)]
  .exact b h.2
  have:(x.1:Int)=(c:Int):=fe z;lia
theorem put_nm{nm:List (Nat×Nat)}{c x:Nat}(h:c∉nm.map (·.1)):aW (nm.map nmV) (Sum.inl (c:Int):Key) (V.int (x:Int))=(nm++[(c,x)]).map nmV:=by rw[h_ _ (val_nm h),List.map_append];rfl
def nmF(nm:List (Nat×Nat))(c:Nat):Nat:=(nm.lookup c).getD 0
theorem nm_val{nm:List (Nat×Nat)}{c:Nat}(h:c∈nm.map (·.1)):∃k x:Nat,nm[k]?=some (c,x)/\aI (nm.map nmV) (Sum.inl (c:Int):Key)=some (V.int (x:Int))/\nmF nm c=x:=by
 induction nm with
 |nil=>cases h
 |cons y nm f=>
  obtain⟨b,x⟩:=y;by_cases e:b=c
  .subst e;exact⟨0,x,rfl,eD (p:=nmV (b,x)) (r:=nm.map nmV) rfl,by simp[nmF]⟩
  rw[List.map_cons] at h;obtain⟨k,g,h1,h2,d⟩:=f ((List.mem_cons.mp h).resolve_left λz=>e z.symm);refine⟨k+1,g,h1,?_,?_⟩
  .rw[List.map_cons,du (λz=>e ?_)]
   .exact h2
   have:(b:Int)=(c:Int):=fe z;lia
  have:(c==b)=false:=by simpa using λz:c=b=>e z.symm
  unfold nmF at d |-;rw[List.lookup_cons,this];exact d
theorem filter_lt{α:Type}(l:List α)(f:α->Bool){x:α}(b:x∈l)(hf:f x=false):(l.filter f).length<l.length:=by
 induction l with
 |nil=>cases b
 |cons a l c=>
  rw[List.filter_cons];have:=List.length_filter_le f l;rcases List.mem_cons.mp b with e|h
  .subst e;rw[Ii (by rw[hf];decide),List.length_cons];lia
  have:=c h
  split<;>simp only[List.length_cons]<;>lia
theorem nm_keys(l:List (Nat×Nat)):(l.map nmV).map (λp=>kV p.1)=nV (l.map (·.1)):=by rw[List.map_map];unfold nV;rw[List.map_map];rfl
theorem drop_nm(l:List (Nat×Nat))(c:Nat):eN (l.map nmV) (Sum.inl (c:Int):Key)=(l.filter λx=>decide (x.1≠c)).map nmV:=by
 unfold eN;rw[List.filter_map]
 congr 1
 apply List.filter_congr;intro x _;show decide ((Sum.inl (x.1:Int):Key)≠Sum.inl (c:Int))=decide (x.1≠c);by_cases h:x.1=c
 .simp[h]
 have z:¬(Sum.inl (x.1:Int):Key)=Sum.inl (c:Int):=λz=>h (by have:(x.1:Int)=(c:Int):=fe z;lia);simp only[ne_eq,h,z,not_false_eq_true]
theorem sT:∀(rs l:List (Nat×Nat)),((l++rs).map (·.1)).Nodup->fH (l.map nmV) (rs.map nmV)=(l++rs).map nmV
 | [],l,_=>by rw[List.append_nil];rfl
 |x::rs,l,nd=>by
  have b:x.1∉l.map (·.1):=λz=>by
   rw[List.map_append,List.nodup_append] at nd;exact nd.2.2 _ z _ (by simp) rfl
  show fH (aW (l.map nmV) (Sum.inl (x.1:Int)) (V.int (x.2:Int))) (rs.map nmV)=_;rw[put_nm b,sT rs (l++[(x.1,x.2)]) (by rw[List.append_assoc];exact nd),List.append_assoc];rfl
theorem sN:∀{vs:List V}{rs:List (Nat×Nat)},SdsAt H vs rs->eO H vs (rs.map nmV)
 |_,_,.nil=>.nil
 |_,_,.cons ⟨a,b,c⟩ t=>.cons ⟨a,b,c⟩ (sN t)
def cI(l:List Nat):List Int:=l.map λn:Nat=>(n:Int)
theorem cI_V(l:List Nat):(cI l).map V.int=nV l:=by unfold cI nV;rw[List.map_map];rfl
theorem rE{K:W.Frag}:∀{vs:List V}{ls:List (List Nat)},eP H vs ls->Lsts K H vs (ls.map cI)
 |_,_,.nil=>.nil
 |_,_,.cons ⟨a,b,c⟩ t=>.cons ⟨a,b,by rw[cI_V];exact c⟩ (rE (K:=K) t)
theorem yz{l m:List Nat}{x y:Nat}(h1:l[0]?=some x)(h2:m[0]?=some y)(h:x<y):HT.lexLt (cI l) (cI m)=true:=by
 cases l with
 |nil=>cases h1
 |cons a l=>cases m with
  |nil=>cases h2
  |cons b m=>
   cases h1;cases h2;show HT.lexLt ((x:Int)::cI l) ((y:Int)::cI m)=true;rw[HT.lexLt_cons,Ii (by lia),Ik (by lia)]
theorem BY{ks:List (List Int)}{ix:List Nat}(pm:ix.Perm (List.range ks.length))(f:ks.Pairwise λa b=>HT.lexLt a b=true)(d:(ix.map λi=>ks.getD i []).Pairwise (λa b=>HT.lexLt b a=false)):ix=List.range ks.length:=by
 rw[List.pairwise_map] at d;have c:∀i∈ix,i<ks.length:=λi hi=>List.mem_range.mp (pm.mem_iff.mp hi);have h1:ix.Pairwise (·<=·):=List.Pairwise.imp_of_mem (λ{i j} hi e h=>by
  refine u6 λlt=>?_;have:=List.pairwise_iff_getElem.mp f j i (c j e) (c i hi) lt;simp only[List.getD,List.getElem?_eq_getElem (c i hi),List.getElem?_eq_getElem (c j e),u9] at h;rw[this] at h;cases h) d
 exact List.Perm.eq_of_pairwise (λa b _ _ h1 h2=>fQ h1 h2) h1 (List.pairwise_le_range) pm
def zr(vs:List V)(H:Hp)(Q:VK)(T:Addr)(b:List V)(ts:List Tri):Prop:=vs=[.ref T]/\H T=some (.lst b)/\aw H b ts/\ts.length<=200/\Good ts/\(∀c,Co ts c->One (En ts) c)/\
 ∀p vs ls H',H p=none->Same H H'->H' p=some (.lst vs)->eP H' vs ls->Rims (ay (En ts)) ls->Q (.ref p) H'
def spLRims:Sp:=λvs H Q _=>Exists (Ex3 (zr vs H Q))
theorem y_:bootBuiltins "min" = some (.builtin "min"):=by decide +kernel
section
theorem jr:aP ["_law_triples","_law_ahead","_law_found","_law_rim","_law_corner"] ["_law_triples"] (ax jR):=by walk_at"sc"
theorem ok_lrims{f f1:Addr}{fd d1:FuncData}(U:Fun K "_law_rims" "_law_rims" jR f fd)(mS:mg "sorted" = none)(mD:mg "dict" = none)(mN:mg "min" = none)
  (GR:Use P w K mg base 2 "_law_rim_sides" ["_law_triples"] oE f1 d1) :
  ak P w K mg base CX0 3 f fd ["_law_triples"] spLRims:=by
 refine U.ok jr (by rintro _ _ _ _ ⟨_,_,_,rfl,_⟩;rfl) λIp A outer s H vs Q E X h=>?_
 obtain⟨T,vt,ts,rfl,hT,tr,hl,g,b1,q⟩:=h;have hu:=bI X;have cw:=line5000;refine⟨_,ae (sx 1 jr.nd (cy (wz X.hd) (by rfl) mD FL (pa1 (uc GR X (pa1 (pv 0))))))
  (ae (sx 2 jr.nd (bj cF))
  (ae (fB aZ (a7 (Dj X.units0) (pv 1) fC (nomark _))
   (ae (sx 3 jr.nd (bj (pa1 (a_ (pT rfl) (by rfl) mN y_ (pa1 (pv 1))))))
   (ae (fB aZ (a7 gF (dh hu (pv 1) (ixx bG (pv 3) (fM fE ag)) (λ_ _=>rfl)) (ixx bG (pv 3) ag) (nomark _))
    (ao (bF (bH bR cM cN cz (pv 3) (pa1 (dh hu (pv 1) (ixx bG (pv 3) (fM fE ag)) (λ_ _=>rfl)))))))
   (ae (bh aZ rfl (ba (pv 3)) (gx 4 jr.nd) (ao (bF (rj (pv 1) (pv 4) ⟨rfl,rfl,rfl,rfl⟩))))
   (ao (bF (bH bR cM cN cz (pv 2) (pa1 (pv 3)))))))))
  (ao (aJ (a_ (vW (pf (oY (show 2<=64 by decide) _) X.units)) (by rfl) mS dq (pa1 (pv 2))))))),?_⟩
 obtain⟨b2,a0,b3⟩:=steps_rim g b1;refine⟨_,rfl,T,vt,ts,rfl,hT,tr,hl,g.nd,λr zs rs H1 cx s1 y1 sd a4 b4 ⟨b5,b6⟩=>?_⟩;have a5:(rs.map (·.1)).Nodup:=nd_keys b2 b5 λp d=>rim_iff.mpr (a4 p d);have bb:∀x:Nat×Nat,x∈rs↔ay (En ts) x.1 x.2:=λx=>⟨λh=>rim_iff.mpr (a4 x h),λh=>b6 x (rim_iff.mp h)⟩;refine⟨r,zs,_,rfl,y1,sN sd,by rw[List.length_map];lia,λu hA=>?_⟩;have b7:fH [] (rs.map nmV)=rs.map nmV:=sT rs [] a5;rw[b7];walk_at"H1 u hA H2 s2 y2";refine⟨by decide,λF H3 hF s3 y3=>?_⟩;have b8:=s3 _ _ y2;have bd:u≠F:=ah y2 hF;have b9:=(s1.trans s2).trans s3;have ca:H F=none:=(s1.trans s2).free hF;have cb:H u=none:=s1.free hA;refine⟨λm Z H'=>∃o3 N vs ls lf,Z=[some (.ref T),some (.ref u),some (.ref F),o3,N]/\m=lf.length/\Same H H'/\H' u=some (.dK (lf.map nmV))/\H' F=some (.lst vs)/\Paired (NewL H H' F) vs ls/\cZ (ay (En ts)) ls/\
   (∀x:Nat×Nat,x∈lf↔ay (En ts) x.1 x.2/\x.1∉ls.flatten)/\(lf.map (·.1)).Nodup/\lf.length<=600/\(∀m∈ls,∀c,m[0]?=some c->∀p∈lf.map (·.1),c<p),
  ⟨_,none,none,[],[],rs,rfl,rfl,b9,b8,y3,.nil,cZ.nil,λx=>by rw[bb x];simp,a5,b4,by simp⟩,?_⟩
 rintro m Z H' ⟨o3,N,ad,ls,lf,rfl,rfl,sm,be,bg,pr,O,mem,nd,cc,low⟩;refine⟨_,rfl,λe H4 he I y4=>?_⟩;refine⟨u,e,_,rfl,rfl,.inl (I _ _ be),.inl y4,_,rfl,?_⟩;have c0:ls.length<=600:=by
  have h1:=cyc_pos λm hm=>(O.cyc m hm).ne;have h2:=eC O.nd (m:=rs.map (·.1)) λz L=>by
   obtain⟨R,cd⟩:=O.in L;exact List.mem_map.mpr ⟨(z,R),(bb _).mpr cd,rfl⟩
  rw[List.length_map] at h2;lia
 cases an:lf with
 |nil=>
  refine aC ⟨_,rfl,F,ad,ls.map cI,rfl,SqL.of (I _ _ bg),rE (Paired.imp' (λ_ _ ⟨a,e1,_,_,e4⟩=>⟨a,e1,I _ _ e4⟩) pr),by rw[az pr];lia,λp ix d pm pw=>?_⟩;have ce:Rims (ay (En ts)) ls:=O.done λp ⟨R,d⟩=>iN λz=>by
   have:(p,R)∈lf:=(mem (p,R)).mpr ⟨d,λh=>z (List.mem_flatten.mp h)⟩;rw[an] at this;cases this
  have er:ix=List.range (ls.map cI).length:=BY (by rw[List.length_map,<-az pr];exact pm) (by
   rw[List.pairwise_map];refine List.Pairwise.imp_of_mem (λ{l m} hl hm h=>?_) O.rise;obtain⟨x,hx,_⟩:=(O.cyc l hl).toPath.begin;obtain⟨y,M,_⟩:=(O.cyc m hm).toPath.begin;exact yz hx M (h x y hx M)) pw
  have ev:(ix.map λi=>ad.getD i .non)=ad:=by rw[er,List.length_map,<-az pr];exact xo ad
  rw[ev];walk_at"H4 p d H5 s5 y5";have bi:=I.trans s5;exact q p ad ls H5 ((sm.trans I).free d) (sm.trans bi) y5 (Paired.imp' (λ_ _ ⟨a,e1,_,_,e4⟩=>⟨a,e1,bi _ _ e4⟩) pr) ce
 |cons x0 c1=>
  have bl:lf≠[]:=by rw[an];simp
  rw[<-an];clear an;rw[show (!(lf.map nmV).isEmpty)=true by cases lf with
   |nil=>exact absurd rfl bl
   |cons a b=>rfl]
  have ap:=I _ _ be;have bm:=I _ _ bg;refine aL ⟨λZ' B=>∃o3 N vs ls Y,Z'=[some (.ref T),some (.ref u),some (.ref F),o3,N]/\Y.length<lf.length/\Same H B/\B u=some (.dK (Y.map nmV))/\B F=some (.lst vs)/\Paired (NewL H B F) vs ls/\cZ (ay (En ts)) ls/\
    (∀x:Nat×Nat,x∈Y↔ay (En ts) x.1 x.2/\x.1∉ls.flatten)/\(Y.map (·.1)).Nodup/\Y.length<=600/\(∀m∈ls,∀c,m[0]?=some c->∀p∈Y.map (·.1),c<p),
   λZ' B ⟨o3,N,vs,ls,Y,e,bn,r⟩=>⟨_,bn,o3,N,vs,ls,Y,e,rfl,r⟩,?_⟩
  refine⟨_,rfl,u,_,cI (lf.map (·.1)),rfl,.inl ap,by rw[nm_keys,cI_V],by simpa [cI] using bl,λmi cg ch=>⟨lit1,λC H5 al s5 y5=>?_⟩⟩;obtain⟨c,hc,rfl⟩:=List.mem_map.mp cg;have bt:∀p∈lf.map (·.1),c<=p:=λp d=>by
   have:=ch (p:Int) (List.mem_map.mpr ⟨p,d,rfl⟩);lia
  have key:∀p,p∈lf.map (·.1)↔(∃q,ay (En ts) p q)/\p∉ls.flatten:=λp=>by
   constructor
   .intro h;obtain⟨⟨a,b⟩,h1,rfl⟩:=List.mem_map.mp h;exact⟨⟨b,((mem _).mp h1).1⟩,((mem _).mp h1).2⟩
   rintro⟨⟨R,h⟩,n⟩;exact List.mem_map.mpr ⟨(p,R),(mem _).mpr ⟨h,n⟩,rfl⟩
  have ci:∀p q,p∈lf.map (·.1)->ay (En ts) p q->q∈lf.map (·.1):=λp R d X=>(key R).mpr ⟨b3 _ _ X,λz=>by
   obtain⟨m,hm,L⟩:=List.mem_flatten.mp z;exact ((key p).mp d).2 (List.mem_flatten.mpr ⟨m,hm,(O.cyc m hm).before a0 L X⟩)⟩
  have rF:C≠F:=λz=>by rw[z,bm] at al;cases al
  have rA:C≠u:=λz=>by rw[z,ap] at al;cases al
  have cj:H C=none:=(sm.trans I).free al;refine⟨λm Z B=>∃ps:List Nat,Z=[some (.ref T),some (.ref u),some (.ref F),some (.ref C),N]/\m=lf.length+1-ps.length/\Same H4 B/\B C=some (.lst (nV ps))/\Path (ay (En ts)) ps/\ps[0]?=some c/\(∀p∈ps,p∈lf.map (·.1)),
   ⟨_,[c],rfl,rfl,s5,y5,Path.one _ c,rfl,λp d=>by rw[List.mem_singleton.mp d];exact hc⟩,?_⟩
  rintro m Z H6 ⟨ps,rfl,rfl,s6,y6,path,S,pin⟩;have cl:=(List.getElem?_eq_some_iff.mp S).1;have c2:ps.length<=lf.length:=by have:=eC path.nd pin;rw[List.length_map] at this;exact this
  obtain⟨z,L⟩:∃z,ps[ps.length-1]?=some z:=⟨_,List.getElem?_eq_getElem (by lia)⟩;obtain⟨i,x,h1,h2,_⟩:=nm_val (pin z (List.mem_of_getElem? L));have aM:ay (En ts) z x:=((mem (z,x)).mp (List.mem_of_getElem? h1)).1;have a1:=s6 _ _ ap;have bw:=last_at L;have cm:atI (nV ps) 0=some (V.int (c:Int)):=cQ (j:=0) (lG S);refine⟨_,rfl,_,rfl,_,rfl,C,_,_,_,rfl,rfl,SqL.of y6,bw,u,V.int (x:Int),rfl,.inl ⟨_,Sum.inl (z:Int),.inl a1,rfl,h2.symm⟩,_,rfl,C,_,_,_,rfl,rfl,SqL.of y6,cm,rfl,_,rfl,?_⟩;show if (!decide (V.int (x:Int)=V.int (c:Int)))=true then _ else _
  rw[eT];by_cases bx:x=c
  .subst bx;rw[Ik rfl];have cyc:Cyc (ay (En ts)) ps:=⟨path,λp R d hq=>by rw[L] at d;rw[S] at hq;cases d;cases hq;exact aM⟩;obtain⟨cn,dj⟩:=O.step a0 cyc S (λm hm D=>((key x).mp hc).2 (List.mem_flatten.mpr ⟨m,hm,D⟩)) (λp d bn=>iN λD=>by
    have:=bt p ((key p).mpr ⟨d,λh=>D (List.mem_flatten.mp h)⟩);lia) (λm hm y M=>low m hm y M x hc)
   refine aC ⟨_,rfl,C,rfl,⟨_,SqL.of y6⟩,cA (K:=[]) (a:=C) (xs:=nV ps) (λi Z B=>∃a2,Z=[some (.ref T),some (.ref u),some (.ref F),some (.ref C),a2]/\(∀b o,b≠u->H6 b=some o->B b=some o)/\B u=some (.dK ((lf.filter λy=>decide (y.1∉ps.take i)).map nmV)))
    ⟨N,rfl,λb o _ e=>e,by rw[a1,List.filter_eq_self.mpr (by simp)]⟩ (by rintro i Z B _ ⟨_,_,e,_⟩;exact SqL.of (e _ _ rA y6)) ?_ ?_⟩
   .rintro j y Z H7 hj ⟨a2,rfl,k7,am⟩;rw[nV,List.getElem?_map] at hj;obtain⟨w',hw,rfl⟩:=aY.mp hj;have bA:ps.take (j+1)=ps.take j++[w']:=by rw[List.take_add_one,hw];rfl
    have nz:w'∉ps.take j:=λh=>by
     have nd:=path.nd;rw[<-List.take_append_drop (j+1) ps,bA,List.nodup_append,List.nodup_append] at nd;exact nd.1.2.2 w' h w' (by simp) rfl
    have cr:w'∈(lf.filter λy=>decide (y.1∉ps.take j)).map (·.1):=by obtain⟨y,M,rfl⟩:=List.mem_map.mp (pin w' (List.mem_of_getElem? hw));exact List.mem_map.mpr ⟨y,List.mem_filter.mpr ⟨M,Ik nz⟩,rfl⟩
    obtain⟨_,v,_,hv,_⟩:=nm_val cr;refine⟨_,rfl,u,rfl,.inl ⟨_,.inl am⟩,_,rfl,_,Sum.inl (w':Int),_,am,rfl,hv,λH8 k8 y8=>?_⟩;rw[drop_nm] at y8;refine⟨_,rfl,λb o n e=>(k8 b n).trans (k7 b o n e),?_⟩;rw[y8,List.filter_filter,bA]
    congr 3
    refine List.filter_congr λy _=>?_;rw[gO];simp;exact And.comm
   rintro Z H7 ⟨a2,rfl,k7,am⟩;rw[aK,List.take_length] at am;have bK:H7 F=some (.lst ad):=k7 _ _ bd.symm (s6 _ _ bm);refine⟨_,rfl,.inl ⟨rfl,_,SqL.of bK⟩,_,rfl,F,_,_,rfl,rfl,bK,by rw[az pr];lia,λH8 k8 y8=>?_⟩;have up:∀b o,b≠u->b≠F->H4 b=some o->H8 b=some o:=λb o n n' e=>by rw[k8 b n'];exact k7 _ _ n (s6 _ _ e)
   refine⟨_,_,_,ls++[ps],lf.filter λy=>decide (y.1∉ps),rfl,?_,λb o e=>up b o (ah e cb) (ah e ca) (I _ _ (sm _ _ e)),(k8 _ bd).trans am,y8,?_,cn,λy=>?_,nd.sublist (List.Sublist.map _ List.filter_sublist),?_,λm hm c' a3 p d=>?_⟩
   .obtain⟨y,M,cs⟩:=List.mem_map.mp hc;refine filter_lt lf _ M ?_;rw[cs];exact Il λD=>D (List.mem_of_getElem? S)
   .refine cB (Paired.imp' (λ_ _ ⟨a,e1,e2,e3,e4⟩=>⟨a,e1,e2,e3,up a _ (bC (I _ _ e4) ap (by intro D;cases D)) e3 (I _ _ e4)⟩) pr) (.cons ⟨C,rfl,cj,rF,?_⟩ .nil);rw[k8 C rF];exact k7 _ _ rA y6
   .rw[List.mem_filter,mem y,decide_eq_true_eq,List.flatten_append,List.mem_append];constructor
    .rintro⟨⟨a,b⟩,c'⟩;exact⟨a,λD=>D.elim b λz2=>c' (by simpa using z2)⟩
    rintro⟨a,b⟩;exact⟨⟨a,λD=>b (.inl D)⟩,λD=>b (.inr (by simpa using D))⟩
   .exact bQ (List.length_filter_le _ _) cc
   obtain⟨y,M,rfl⟩:=List.mem_map.mp d;obtain⟨ct,cv⟩:=List.mem_filter.mp M;have b0:y.1∈lf.map (·.1):=List.mem_map.mpr ⟨y,ct,rfl⟩;rcases List.mem_append.mp hm with hm|hm
   .exact low m hm c' a3 _ b0
   rw[List.mem_singleton.mp hm,S] at a3;cases a3;have h3:=bt _ b0;have h4:y.1≠x:=λD=>Im cv (by rw[D];exact List.mem_of_getElem? S);lia
  rw[Il (by lia)];refine aL ⟨λZ' B=>∃ab:List Nat,Z'=[some (.ref T),some (.ref u),some (.ref F),some (.ref C),N]/\ab.length=ps.length+1/\Same H4 B/\B C=some (.lst (nV ab))/\Path (ay (En ts)) ab/\ab[0]?=some c/\(∀p∈ab,p∈lf.map (·.1)),
   λZ' B ⟨ab,e,h1,h2,h3,h4,h5,h6⟩=>⟨lf.length+1-ab.length,by lia,ab,e,rfl,h2,h3,h4,h5,h6⟩,?_⟩
  have hx:x∉ps:=λh=>by
   have:=path.home a0 L aM h;rw[S] at this;cases this;exact bx rfl
  refine⟨_,rfl,.inl ⟨rfl,_,SqL.of y6⟩,_,rfl,_,rfl,_,rfl,C,_,_,_,rfl,rfl,SqL.of y6,bw,u,V.int (x:Int),rfl,.inl ⟨_,Sum.inl (z:Int),.inl a1,rfl,h2.symm⟩,C,_,_,rfl,rfl,y6,by rw[aK];lia,λH7 k7 y7=>?_⟩;refine⟨ps++[x],rfl,by simp,λb' o e=>(k7 b' (ah e al)).trans (s6 _ _ e),by rw[y7,iA,cR],path.snoc L aM hx,by rw[List.getElem?_append_left cl];exact S,λp d=>?_⟩
  rcases List.mem_append.mp d with h|h
  .exact pin p h
  rw[List.mem_singleton.mp h];exact ci z x (pin z (List.mem_of_getElem? L)) aM
end
end K71
end
section
namespace L2
open PySem PySem.Spec PyProof.Rows PySem.W
section
variable {prog:Program}
theorem xG{a:Addr}{Q:List Value->Shared->Prop}(ht:IsTup s.heap a us.toArray)(hz:us.length<=sizeLine)(q:Q us {s with heap:=(s.heap.push (seqObj "list" #[] 0)).update s.heap.objs.size (Obj.mapSeq (·++us.toArray))}):wpAny (model prog w) A (collect (.ref a)) Q E s:=by obtain⟨o,eo,ec,n,ed⟩:=id ht;have eo':(s.heap.push (seqObj "list" #[] 0)).get? a=some o:=aE _ eo;have en:(s.heap.push (seqObj "list" #[] 0)).get? s.heap.objs.size=some (seqObj "list" #[] 0):=a9 _ rfl;unfold collect;refine aa (wpAny_runValue (fS entry_proto_collect' (show wpAny _ _ (do again (.builtin "list.__iadd__" ⟨[<-newList [],.ref a],[]⟩)) _ _ s from aa (pJ (aj ⟨Code.quiet_builtin _ (by decide +kernel),fS entry_list_iadd' ?_⟩)))));show wpAny _ _ (Builtin.List.listExtendWith (.ref s.heap.objs.size) (.ref a) (.ref s.heap.objs.size)) _ _ {s with heap:=s.heap.push (seqObj "list" #[] 0)};unfold Builtin.List.listExtendWith;refine aa (pP (T:="tuple") ⟨o,eo',ec⟩ ?_);rw[Ij (by rw[show (Value.type "tuple"==Value.type "tuple")=true from rfl,Bool.or_true])];refine aa (vD eo' ed (aa (vD en rfl ?_)));rw[Ii (by simp)];refine aa (vE en rfl (aj ?_) (aD _) (by simp only[Array.size_append,List.size_toArray,List.length_nil];exact pd (by simpa using hz)));refine aa (vP (Ge en _) ?_);show wpAny _ _ (pure ((#[]:Array Value)++us.toArray).toList) Q E _;rw[show ((#[]:Array Value)++us.toArray).toList=us by simp];exact aj q
theorem xk{κ:SortKind}{rk:Value->List Int}{l:Addr}{vs:List Value}{Q:Value->Shared->Prop}(f:IsTup s.heap l vs.toArray)(z:vs.length+1<=sizeLine)
  (i:∀h':Heap,(∀b o,s.heap.get? b=some o->h'.get? b=some o)->2<=vs.length->∀Q:SortKind->Shared->Prop,Q κ {s with heap:=h'}->wpAny (model prog w) A.in1.in1 (keyKind' vs.toArray) Q E {s with heap:=h'})
  (n:∀h':Heap,(∀b o,s.heap.get? b=some o->h'.get? b=some o)->2<=vs.length->∀x∈vs,∀y∈vs,∀C:Bool->Shared->Prop,C (HT.lexLt (rk x) (rk y)) {s with heap:=h'}->wpAny (model prog w) A.in1.in1 (keyLt' κ x y) C (λ_ _=>False) {s with heap:=h'})
  (h:∀out:List Value,out.Perm vs->out.Pairwise (λu v=>HT.lexLt (rk v) (rk u)=false)->Q (.ref (s.heap.objs.size+1)) {s with heap:=sortedAll s.heap vs out.toArray}):wpAny (model prog w) A (call (.builtin "sorted") [.ref l]) Q E s:=by
 refine uV kind_sorted plain_sorted entry_sorted (args_sorted1 _) ?_;unfold Builtin.«sorted»;refine aa (m:=checkCount "sorted" 1 1 _) (aj (aa (xG f (by lia) (aa (pJ ?_ (by lia))))));generalize c:(s.heap.push (seqObj "list" #[] 0)).update s.heap.objs.size (Obj.mapSeq (·++vs.toArray))=G;have d:G.objs.size=s.heap.objs.size+1:=by rw[<-c,Fn,size_push']
 have e:(G.push (seqObj "list" vs.toArray 0)).get? (s.heap.objs.size+1)=some (seqObj "list" vs.toArray 0):=by rw[<-d];exact a9 _ rfl
 have p:∀out:List Value,sortedAll s.heap vs out.toArray=sortedHeap (G.push (seqObj "list" vs.toArray 0)) (s.heap.objs.size+1) vs out.toArray:=λout=>by rw[<-c];rfl
 have old:∀b o,s.heap.get? b=some o->(dw (G.push (seqObj "list" vs.toArray 0)) (s.heap.objs.size+1) vs).get? b=some o:=λb o q=>by
  have lt:=aH q;have g:G.get? b=some o:=by rw[<-c,me _ _ _ _ (aU lt)];exact aE _ q
  refine aE _ (aE _ ?_);rw[me _ _ _ _ (aU (fc lt))];exact aE _ g
 show wpAny _ _ _ _ _ {s with heap:=G.push (seqObj "list" vs.toArray 0)};rw[d];refine aa (c9 (fT vH ⟨_,e,rfl⟩ vC ?body (vB _)))
 case body=>
  refine mU (rk:=rk) (κ:=κ) (s:={s with heap:=G.push (seqObj "list" vs.toArray 0)}) e (by lia) (i _ old) (n _ old) λout r p2=>?_;exact⟨_,rfl,aj ⟨_,rfl,(p out) ▸ h out r p2⟩⟩
theorem Be{κ:Type}[DecidableEq κ]{knd:HeapKind prog w κ}{d:Addr}{xs:List (κ×Addr×Value)}{Q:Value->Shared->Prop}(hd:(d==sysModules)=false)(hm:s.heap.DictOfH knd d xs)(b:xs.length<=sizeLine)(q:∀t s',s'={s with toks:=s'.toks}->Q (.int xs.length t) s'):wpAny (model prog w) A (call (.builtin "len") [.ref d]) Q E s:=by
 obtain⟨o,es,ep,c,i,f,he,_⟩:=id hm;have g:es.size=xs.length:=size_of_entries he;have l:(xs.length:Int)<2 ^ 63:=by rw[cu] at b;lia
 have one:MeetsIn prog w (Builtin.«dict.__len__» ⟨[.ref d],[]⟩) (λ_ R s'=>s'=s/\R (.ok (.ret (.int xs.length s'.toks))) {s' with toks:=s'.toks+1}):=.of_wp λA R s' ⟨e,h⟩=>by
  subst e;show wpAny _ _ (dictSize d >>= _) _ _ s';unfold dictSize;refine aa (aa (iX c f (aj ?_)));refine aa (m:=Builtin.Dict.pendingCount d) (wpAny_pendingCount_other hd (wpAny_ret_mkInt ?_));rw[u5,g];exact h
 refine uV kind_len plain_len entry_len (args_len1 _) ?_;unfold Builtin.«len»;refine aa (m:=oneArg "len" _) (aj (aa (m:=callSpecial? (.ref d) (Str.ofString "__len__")) (mC (name:=Str.ofString "__len__") hm.typeIs F.slot_dict_len (fR F.slot_dict_len hm.typeIs F.entry_dict_len (F.args_dict_len_1 _) one ⟨rfl,?_⟩))));show wpAny _ _ _ _ _ {s with toks:=s.toks+1};refine aa (c9 (aj (aa (kE ?_))));show wpAny _ _ (if ((xs.length:Nat):Int)<0 then _ else _) _ _ _;rw[Ii (by lia)];show wpAny _ _ (if ((xs.length:Nat):Int) ≥ 2 ^ 63 then _ else _) _ _ _;rw[Ii (by lia)];exact aa (wpAny_mkInt (aj ⟨_,rfl,q _ _ rfl⟩))
end
section
theorem qL:bJ X (.builtin "len") (λxs H Q=>∃a kvs,xs=[V.ref a]/\H a=some (.dT kvs)/\Q (.int kvs.length) H):=by intro Io s Z H xs us Q I r h;obtain⟨a,kvs,rfl,ha,q⟩:=h;obtain⟨u,rfl,b⟩:=vals1 r;cases b;obtain⟨z,hd,xs,rel,dd⟩:=oG I.hok ha;have e:=iR rel;refine Be hd dd (by lia) λt s' es=>?_;rw[es];exact⟨.int kvs.length,H,I.tok _,⟨t,by rw[e]⟩,q⟩
def C5:List V->Hp->VK->Prop:=λxs H Q=>∃(a:Addr)(ns:List Int),xs=[.ref a]/\SqT [] H a (ns.map V.int)/\ns.length<5000/\∀(p:Addr)(ms:List Int),H p=none->ms.Perm ns->ms.Pairwise (·<=·)->Q (.ref p) (upd H p (.lst (ms.map V.int)))
theorem vY:bJ X (.builtin "sorted") C5:=by intro Io s Z H xs us Q I r h;obtain⟨a,ns,rfl,i,B,q⟩:=h;obtain⟨u,rfl,l⟩:=Vals.one r;cases l;obtain⟨m,c,p,_⟩:=I.tuple i;have n:=c.length;rw[List.length_map] at n;obtain⟨κ,v,ask⟩:=oA I (uf ns) c;refine xk (κ:=κ) (rk:=rkV s.heap) p (by rw[cu];lia) (λh' old h2=>(ask h' (λb o e _=>old b o e) h2).1) (λh' old h2=>(ask (E:=λ_ _=>False) h' (λb o e _=>old b o e) h2).2) λout w p2=>?_;obtain⟨ix,x,y,d⟩:=lI c v w p2;obtain⟨ms,f,z,A⟩:=uh x y;rw[A] at d;obtain⟨e,he⟩:=vI s.heap m out.toArray;have g:s.heap.objs.size<=s.heap.objs.size+1:=iP _;exact⟨.ref (s.heap.objs.size+1),upd H (s.heap.objs.size+1) (.lst (ms.map V.int)),I.laid (t':=s.toks) (λb o e=>vJ e) g ⟨by rw[List.length_map,f.length_eq,cu];lia,out,e,d,by rw[he]⟩,rfl,q _ ms (I.hok.fresh g) f z⟩
end
end L2
end
section
namespace K15
open PySem L2 K51 K31
def nsd(d:Nat×Nat):Nat×Nat:=if d.1<d.2 then d else (d.2,d.1)
def ksV(s:Nat×Nat):List Key×V:=(ky s.1 s.2,.bl true)
theorem Df(ns:List (Nat×Nat))(s:Nat×Nat):aW (ns.map ksV) (ky s.1 s.2) (V.bl true)=(if s∈ns then ns else ns++[s]).map ksV:=by
 by_cases h:s∈ns
 .rw[Ij h];unfold aW;rw[Ij (List.any_eq_true.mpr ⟨ksV s,List.mem_map.mpr ⟨s,h,rfl⟩,Ik rfl⟩),List.map_map];refine List.map_congr_left λx _=>?_;show (if (ksV x).1=ky s.1 s.2 then ((ksV x).1,V.bl true) else ksV x)=ksV x
  split<;>rfl
 rw[Ii h,h_,List.map_append]
 .rfl
 cases e:aI (ns.map ksV) (ky s.1 s.2) with
 |none=>rfl
 |some v=>
  have:=rW e;rw[List.map_map] at this;obtain⟨x,b,ex⟩:=List.mem_map.mp this;have ex:ky x.1 x.2=ky s.1 s.2:=ex;have:x=s:=j3.mp ex;exact (h (this ▸ b)).elim
theorem BM{ts:List Tri}(g:Good ts){ns:List (Nat×Nat)}(nd:ns.Nodup)(hm:∀s,s∈ns↔∃d∈keys ts,s=nsd d):ns.length=(mny ts (keys ts)).length:=by
 have m:∀{d:Nat×Nat},d∈keys ts->d.1≠d.2:=λ{d} hd=>by
  obtain⟨c,v⟩:=bE.mp (show (d.1,d.2)∈keys ts from hd);exact g.sk.ne v
 have i:∀d,d∈mny ts (keys ts)↔d∈keys ts/\(d.1<d.2\/(d.2,d.1)∉keys ts):=λd=>by
  unfold mny;rw[List.mem_filter,Bool.or_eq_true,decide_eq_true_eq,uU,decide_eq_false_iff_not]
 refine fQ (dg (R:=λs d=>s=nsd d) nd (λs w=>?_) λs _ s' _ d e f=>e.trans f.symm) (dg (R:=λd s=>d∈mny ts (keys ts)/\s=nsd d) (List.Pairwise.filter _ g.nd) (λd hd=>⟨nsd d,(hm _).mpr ⟨d,((i d).mp hd).1,rfl⟩,hd,rfl⟩) ?_)
 .obtain⟨d,hd,rfl⟩:=(hm s).mp w;have:=m hd;by_cases h:d.1<d.2
  .exact⟨d,(i d).mpr ⟨hd,.inl h⟩,rfl⟩
  by_cases o:(d.2,d.1)∈keys ts
  .refine⟨(d.2,d.1),(i _).mpr ⟨o,.inl (by show d.2<d.1;lia)⟩,?_⟩;unfold nsd;rw[Ii h,Ij (by show d.2<d.1;lia)]
  exact⟨d,(i d).mpr ⟨hd,.inr o⟩,rfl⟩
 rintro⟨a,b⟩ _ ⟨c,d⟩ _ s ⟨h,e⟩ ⟨h',f⟩;obtain⟨p,q⟩:=(i _).mp h;obtain⟨r,u⟩:=(i _).mp h';have x:=m p;have y:=m r;dsimp only at x y q u;rw[e] at f;unfold nsd at f;dsimp only at f;by_cases n:a<b
 .rw[Ij n] at f;by_cases l:c<d
  .rw[Ij l] at f;exact f
  rw[Ii l] at f;cases f;exact (u.resolve_left l p).elim
 rw[Ii n] at f;by_cases l:c<d
 .rw[Ij l] at f;cases f;exact (q.resolve_left n r).elim
 rw[Ii l] at f;cases f;rfl
def lsD(ls:List (List Nat)):List PyData:=ls.map λl=>PyData.list (l.map λn:Nat=>PyData.int (n:Int))
theorem ur{ls:List (List Nat)}(h:eP H vs ls):Dts K H vs (lsD ls):=by
 induction h with
 |nil=>exact .nil
 |cons q _ b=>
  obtain⟨a,rfl,e⟩:=q;exact .cons (.lst (SqL.of e) (lN _)) b
theorem DV(ls:List (List Nat)):(PyData.list (lsD ls)).depth<=60:=by
 have:PyData.depthAll (lsD ls)<=3:=by
  induction ls with
  |nil=>simp[lsD,PyData.depthAll]
  |cons a l b=>
   have:=oB a;unfold lsD at b |-;simp only[List.map_cons,PyData.depthAll];lia
 simp only[PyData.depth];lia
theorem tu(l:List Nat):cW (l.map λn:Nat=>PyData.int (n:Int))=true:=by
 induction l with
 |nil=>rfl
 |cons a l b=>rw[List.map_cons];show (fP _&&cW _)=true;rw[b];rfl
theorem BS(ls:List (List Nat)):PyData.eqv (.list (lsD ls)) (.list (lsD ls))=true:=by
 have nb:fP (.list (lsD ls))=true:=by
  show cW (lsD ls)=true;induction ls with
  |nil=>rfl
  |cons a l b=>
   show (cW (a.map λn:Nat=>PyData.int (n:Int))&&cW (lsD l))=true;rw[b,tu];rfl
 exact (n9 _ _ nb nb).mpr rfl
structure KitL(K:W.Frag):Prop where
 l:W.kitOne K (.type "list") (.type "list")=some true
end K15
end
section
namespace K15
open PySem L2 K51 K31 K71
theorem w5{a b:Nat}(h:a≠b){ms:List Int}(pm:ms.Perm [(a:Int),(b:Int)])(ps:ms.Pairwise (·<=·)):ms=[((nsd (a,b)).1:Int),((nsd (a,b)).2:Int)]:=by
 obtain⟨cs,rfl,pl,pc⟩:=fX (dd:=[a,b]) (by simpa using h) pm ps;have e:cs=[(nsd (a,b)).1,(nsd (a,b)).2]:=by
  unfold nsd
  split
  .rename_i c;exact iw (R:=(· < ·)) (λa b h h'=>by lia) pl (by simpa using c) λx=>pc.mem_iff
  rename_i c;dsimp only at c;exact iw (R:=(· < ·)) (λa b h h'=>by lia) pl (by simp;lia) λx=>by rw[pc.mem_iff];simp[or_comm]
 rw[e];rfl
theorem zc(l:List Nat):PyData.eqv (.tuple (l.map λn:Nat=>PyData.int (n:Int))) (.tuple (l.map λn:Nat=>PyData.int (n:Int)))=true:=
 have nb:fP (.tuple (l.map λn:Nat=>PyData.int (n:Int)))=true:=tu l
 (n9 _ _ nb nb).mpr rfl
theorem DU(l:List Nat):(PyData.tuple (l.map λn:Nat=>PyData.int (n:Int))).depth<=60:=by have:=oB l;simp only[PyData.depth] at this |-;lia
def zm(Cs:Addr)(vs:List V)(H:Hp)(Q:VK)(x T:Addr)(b:List V)(ts:List Tri)(A:List Addr):Prop:=vs=[.ref x,.ref T]/\SkA Cs H x ts A/\H T=some (.lst b)/\aw H b ts/\ts.length<=200/\Good ts/\(∀c,Co ts c->One (En ts) c)/\∀H',SmL A H H'->Q (.bl true) H'
def r_(Cs:Addr):Sp:=λvs H Q _=>Exists (Ex5 (zm Cs vs H Q))
def D7(K:W.Frag):TE:=tCB (λxs H Q=>∃(x:V)(ty:Value)(b:Bool),xs=[x,.ty "list"]/\cS K H x ty/\W.kitOne K ty (.type "list")=some b/\Q (.bl b) H) (bV (aV 0) (bV (tC (.ty "list")) c7))
def D8(K:W.Frag):TE:=tCB (λxs H Q=>∃(x:V)(ty:Value)(b:Bool),xs=[x,.ty "bool"]/\cS K H x ty/\W.kitOne K ty (.type "bool")=some b/\Q (.bl b) H) (bV (aV 0) (bV (tC (.ty "bool")) c7))
section
theorem dD:aP ["_law_skin_here","_law_triples","_law_sides_here","_law_side","_law_due","_law_corners_here","_law_holes","_law_twice","_law_k","_law_found","_law_piece","_law_told"] ["_law_skin_here","_law_triples"] (ax jw):=by walk_at"sc"
theorem z8{f f1 f2 f3 f4 f5 f6 Cs:Addr}{fd d1 d2 d3 d4 d5 d6:FuncData}(U:Fun K "_law_right" "_law_right" jw f fd)(T:bD mg)(mS:mg "sorted" = none)(F:l8 K)(F':KitL K)
  (GT:Use P w K mg base 1 "_law_thirds" ["_law_triples"] ft f1 d1) (GP:Use P w K mg base 2 "_law_pieces" ["_law_triples"] qu f2 d2) (GC:Use P w K mg base 1 "_law_corners" ["_law_triples"] fh f3 d3) (GR:Use P w K mg base 3 "_law_rims" ["_law_triples"] spLRims f4 d4)
  (GO:Use P w K mg base 2 "pieces" ["skin"] (mZ Cs) f5 d5) (GN:Use P w K mg base 3 "counted" ["skin"] (qv Cs) f6 d6):ak P w K mg base CX0 4 f fd ["_law_skin_here","_law_triples"] (r_ Cs):=by
 refine U.ok dD (by rintro _ _ _ _ ⟨_,_,_,_,_,rfl,_⟩;rfl) λIp A outer s H vs Q E I h=>?_
 obtain⟨x,r,vt,ts,L,rfl,sk,M,tr,X,g,ap,q⟩:=h;have hu:=bI I;have dp:=line5000;have bA:=I.mono (show 1<=3 by decide);have bK:=I.mono (show 2<=3 by decide);refine⟨_,ae (sx 2 dD.nd m_)
  (ae (bh aZ rfl (jD (uc GT bA (pa1 (pv 1)))) (gx 3 dD.nd)
   (ao (dI hu (pv 2) (cy iZ (by rfl) T.tuple iU (pa1 (a_ vY (by rfl) mS dq (pa1 (pv 3))))) eK rfl)))
  (ae (sx 4 dD.nd (uc GP bK (pa1 (pv 1))))
  (ae (sx 5 dD.nd (pln T.len (uc GC bA (pa1 (pv 1)))))
  (ae (sx 6 dD.nd (pln T.len (uc GR I (pa1 (pv 1)))))
  (ae (sx 7 dD.nd (au di (au bp (au di (au di (au dW ag (pln T.len (pv 4))) (pv 6)) (pv 5)) (a_ qL (by rfl) T.len pB (pa1 (pv 2)))) (pln T.len (pv 1))))
  (ae (bB (PW.pt (eJ (a7 gF (au cX (pv 7) ag) ag (nomark _)) (gA (a7 iE (pv 7) ag (nomark _))))) fk bu)
  (ae (bh aZ rfl (fm rfl T.range (pa1 ag)) (gx 8 dD.nd)
   (ae (sx 9 dD.nd (uc GO bK (pa1 (pv 0))))
   (ae (bB (PW.pt (eJ (dU (dz (a_ (gi (c:="list")) (by rfl) T.isi iT (af (pv 9) (pa1 (gp (v:=.ty "list") rfl T.list gR rfl))))))
     (eJ (dU (dz (a_ (pU rfl) (by rfl) T.all rP (pa1 (bY (N:=["_law_piece"]) (fr:=[none]) (te:=D7 K) (g_ (by decide +kernel) rfl (by decide +kernel) (by decide +kernel)) rfl (ba (pv 9))
      (λC s H fp Io=>⟨gx 0 (by decide:(["_law_piece"]:List Str).Nodup),cP,a_ (gi (c:="list")) (by rfl) T.isi iT (af (pv 0) (pa1 (gp (v:=.ty "list") rfl T.list gR rfl)))⟩))))))
     (gA (a7 (lF I.units) (pv 9) (pv 4) (nomark _)))))) fk bu)
   (ae (bh aZ rfl (ba (pv 9)) (tj (i:=10) dD.nd rfl (.inl rfl)) (ao (bF (t9 bR PySem.F.slot_list_clear PySem.F.type_list_clear Ag (pv 10)))))
   (ae (bF (bH bR cM cN cz (pv 9) (pa1 (bj (pa1 ag)))))
   (ae (lB (i:=11) dD.nd rfl (.inl rfl) (uc GN I (pa1 (pv 0))))
   (ae (bB (PW.pt (eJ (dU (dz (a_ (gi (c:="tuple")) (by rfl) T.isi iT (af (pv 11) (pa1 (gp (v:=.ty "tuple") rfl T.tuple iU rfl))))))
     (gA (a7 (lF I.units) (bY (N:=["_law_one"]) (fr:=[none]) (tt:=tB (D8 K)) (g_ (by decide +kernel) rfl (by decide +kernel) (by decide +kernel)) rfl (gB (pv 11))
      (λC s H fp Io=>⟨gx 0 (by decide:(["_law_one"]:List Str).Nodup),dS (dz (a_ (gi (c:="bool")) (by rfl) T.isi iT (af (pv 0) (pa1 (gp (v:=.ty "bool") rfl T.bool FK rfl))))),pv 0⟩)) (bj cF) (nomark _))))) fk bu)
   (ao (bB (a7 (lF I.units) (pv 11) (aR (af (pv 5) (af (a_ qL (by rfl) T.len pB (pa1 (pv 2))) (af (pln T.len (pv 1)) (af (pln T.len (pv 4)) (af (au tq (pv 7) ag) (pa1 (pv 6)))))))) (nomark _)) fk bu)))))))))
  (ao (aJ eK))))))))),?_⟩
 refine λm H1 b0 s1 y1=>?_;refine⟨_,rfl,r,vt,ts,rfl,s1 _ _ M,tr.same s1,by lia,g.nd,λD H2 hD s2 y2=>?_⟩;refine⟨D,_,rfl,.inl y2,True.intro,λks vs o H3 hk fz=>?_⟩;have sd:=nq hk;have lk:ks.length=(keys ts).length:=az sd;have b1:m≠D:=ah y1 hD;have b3:H3 m=some (.dT (([]:List (Nat×Nat)).map ksV)):=(fz.ne b1).trans (s2 _ _ y1);have cg:H D=none:=s1.free hD;have ch:SdsAt H3 ks (keys ts):=Paired.imp' (λ_ _ ⟨a,e,h⟩=>⟨a,e,fz.sm.keep h (λz=>z)⟩) sd;refine rK (d:=D) (o:=o) (u:=.dT ((ents ts).map aS)) (ks:=ks) (λi Z H'=>∃Y ns,Z=[some (.ref x),some (.ref r),some (.ref m),Y,none,none,none,none,none,none,none,none]/\But m H3 H'/\H' m=some (.dT (ns.map ksV))/\ns.Nodup/\(∀s,s∈ns↔∃d∈(keys ts).take i,s=nsd d)/\ns.length<=i)
  ⟨none,[],rfl,λ_ _ _ e=>e,b3,.nil,by simp,ai _⟩ (by rintro i Z H' _ ⟨_,_,_,e,_⟩;exact e _ _ b1.symm fz.at) ?_ ?_
 .rintro i y Z H' hi ⟨Y,ns,rfl,bt,ci,nd,hm,ln⟩;obtain⟨⟨a,b⟩,hs,c,rfl,hc⟩:=bM ch hi;have et:(keys ts).take (i+1)=(keys ts).take i++[(a,b)]:=by rw[List.take_add_one,hs];rfl
  have dr:=(List.getElem?_eq_some_iff.mp hs).1;have kl:=jl ts;have aM:a≠b:=by obtain⟨z,hz⟩:=bE.mp (List.mem_of_getElem? hs);exact g.sk.ne hz
  have cj:H' c=some (.tup ([(a:Int),(b:Int)].map V.int)):=bt _ _ (λz=>by rw[z,b3] at hc;cases hc) hc;refine⟨_,rfl,_,rfl,c,[(a:Int),(b:Int)],rfl,SqT.of cj,by simp,λp ms hp pm ps=>?_⟩;rw[w5 aM pm ps];walk_at"H' p hp H4 s4 y4";refine⟨p,_,rfl,.inl ⟨SqL.of y4,λt ht=>?_⟩⟩;walk_at"H4 t ht H5 s5 y5";have cl:=s5 _ _ (s4 _ _ ci);refine⟨m,_,rfl,DPut.t (k:=ky (nsd (a,b)).1 (nsd (a,b)).2) cl y5 (by rw[List.length_map];lia),?_⟩;rw[Df];walk_at"H5 m H6 k6 y6";refine⟨_,_,rfl,λb' o n e=>(k6 b' n).trans (s5 _ _ (s4 _ _ (bt b' o n e))),y6,?_,λs=>?_,?_⟩
  .split
   .exact nd
   rename_i h;exact List.nodup_append.mpr ⟨nd,by simp,λu hu v O e=>by rw[List.mem_singleton] at O;subst e;subst O;exact h hu⟩
  .rw[et];have:s∈(if nsd (a,b)∈ns then ns else ns++[nsd (a,b)])↔s∈ns\/s=nsd (a,b):=by
    split
    .rename_i h;exact⟨.inl,λz=>z.elim id λe=>e ▸ h⟩
    rw[List.mem_append,List.mem_singleton]
   rw[this,hm];constructor
   .rintro (⟨d,hd,e⟩|e)
    .exact⟨d,List.mem_append_left _ hd,e⟩
    exact⟨(a,b),by simp,e⟩
   rintro⟨d,hd,e⟩;rcases List.mem_append.mp hd with hd|hd
   .exact .inl ⟨d,hd,e⟩
   rw[List.mem_singleton.mp hd] at e;exact .inr e
  split
  .lia
  rw[List.length_append,List.length_singleton];lia
 rintro Z H4 ⟨Y,ns,rfl,bt,cm,nd,hm,_⟩;rw[lk,List.take_length] at hm;have b4:=BM g nd hm;have a4:Same H H4:=λb o e=>bt b o (ah e b0) ((fz.ne (ah e cg)).trans (s2 _ _ (s1 _ _ e)));refine⟨_,rfl,r,vt,ts,rfl,a4 _ _ M,tr.same a4,X,g,λDu vd ld H5 ds s5 y5 a5 bb bd dx dy=>?_⟩;have be:=a4.trans s5;refine⟨_,rfl,r,vt,ts,rfl,be _ _ M,tr.same be,X,λCr cs H6 dF s6 y6 bg dK=>?_⟩;refine⟨Cr,_,rfl,.inl (SqL.of y6),?_⟩;have bi:=be.trans s6;refine⟨_,rfl,r,vt,ts,rfl,bi _ _ M,tr.same bi,X,g,ap,λHo vh lh H7 dL s7 y7 cn b5=>?_⟩;refine⟨Ho,_,rfl,.inl (SqL.of y7),?_⟩;have a0:=bi.trans s7;have b6:=s7 _ _ (s6 _ _ (s5 _ _ cm));have bm:=s7 _ _ (s6 _ _ y5);have b7:∀c,c∈cs↔Co ts c:=λc=>(bg.2 c).trans rD;have cr:cs.Nodup:=bg.1.imp λh=>aU h;obtain⟨k,dV⟩:=yR g ap b5 cr b7 bb bd;have b8:=Ak g;have b8:(mny ts (keys ts)).length+(gls ts).length=3*ts.length:=b8;refine⟨_,rfl,Du,_,rfl,.inl (SqL.of bm),_,_,rfl,rfl,.inl ⟨by decide,by decide⟩,_,rfl,_,_,rfl,rfl,_,rfl,_,_,rfl,rfl,_,rfl,m,_,rfl,b6,_,_,rfl,rfl,_,rfl,r,_,rfl,.inl (SqL.of (a0 _ _ M)),_,_,rfl,rfl,?_⟩;rw[az a5,az cn,aK,List.length_map,b4,az tr];have b9:(2:Int)*(ld.length:Int)-(lh.length:Int)-(cs.length:Int)+((mny ts (keys ts)).length:Int)-(ts.length:Int)=2*(k:Int):=by lia
 show bO 7 (V.int ((2:Int)*(ld.length:Int)-(lh.length:Int)-(cs.length:Int)+((mny ts (keys ts)).length:Int)-(ts.length:Int))) _ _ _;rw[b9];refine⟨_,rfl,_,_,rfl,rfl,(by show (0:Int)<2;decide),rfl,_,rfl,?_⟩;show if (!decide (V.int (2*(k:Int)%2)=V.int 0))=true then _ else _
 rw[show (2*(k:Int)%2)=0 by lia,Ik rfl];refine aC ⟨_,rfl,_,_,rfl,rfl,_,rfl,?_⟩;rw[Il (by show ¬(2*(k:Int)<0);lia)];refine aC ?_;have sA:=sk.dom b0;have ca:=sk.sm (Sm.of a0);obtain⟨ct,cv,d0⟩:=steps_rim g ap;refine⟨2,rfl,by decide,by decide,hV (lo:=0) (n:=2) (λi Z H'=>∃o8 o9 oa ob,Z=[some (.ref x),some (.ref r),some (.ref m),Y,some (.ref Du),some (.int (cs.length:Int)),some (.int (lh.length:Int)),some (.int (2*(k:Int))),o8,o9,oa,ob]/\SmL L H7 H') ⟨_,_,_,_,rfl,SmL.of (Same.refl _)⟩ ?_ ?_⟩
 .rintro i Z H8 hi ⟨o8,o9,oa,ob,rfl,ab⟩;refine⟨_,rfl,x,ts,L,rfl,ca.sm ab.sm,g,X,λt S ls H9 cw cb yt pr cx al d7=>?_⟩;have el:ls=ld:=cx.uniq bb al bd;subst el;have c0:=ab.trans cb;refine⟨_,rfl,_,_,true,rfl,.lst yt,F'.l,_,rfl,iG ?_⟩;refine⟨_,rfl,t,rfl,⟨_,SqL.of yt⟩,λZ_ hZ=>de (K:=[]) (a:=t) (xs:=S) (λi Z ys H'=>∃o,Z=[o]/\ys=(List.replicate i true).map V.bl/\Same H9 H'/\H' Z_=some (.lst ys)) ⟨none,rfl,rfl,bf hZ,aG⟩ (by rintro i Z ys H' _ ⟨_,_,_,e,_⟩;exact SqL.of (e _ _ yt)) ?_ ?_⟩
  .rintro j y Z ys H' B ⟨o,rfl,rfl,sZ,bn⟩;have c1:=(List.getElem?_eq_some_iff.mp B).1;rw[az pr] at c1;obtain⟨l,_,a,rfl,_,_,ha⟩:=bM pr B;refine⟨_,rfl,_,_,true,rfl,.lst (sZ _ _ ha),F'.l,bn,by rw[List.length_map,List.length_replicate];lia,λHn kn yn=>⟨_,rfl,?_,λb o e=>(kn b (ah e hZ)).trans (sZ _ _ e),yn⟩⟩;rw[List.replicate_succ',List.map_append];rfl
  rintro Z ys Ha ⟨o,rfl,rfl,sa,ya⟩;refine⟨Z_,List.replicate S.length true,rfl,SqL.of ya,?_⟩;rw[show (List.replicate S.length true).all id=true by simp];have bw:=sa _ _ yt;have cc:=c0.trans (SmL.of sa);refine⟨_,rfl,iG ⟨_,rfl,_,rfl,_,_,.lst (SqL.of bw) (ur (ls:=ls) (Paired.imp' (λ_ _ ⟨a,e1,_,_,e4⟩=>⟨a,e1,sa _ _ e4⟩) pr)),.lst (SqL.of (cc.sm.keep bm (λz=>z))) (ur (ls:=ls) (Paired.imp' (λ_ _ ⟨a,e1,_,_,e4⟩=>⟨a,e1,cc.sm.keep (s7 _ _ (s6 _ _ e4)) (λz=>z)⟩) a5)),DV _,_,rfl,?_⟩⟩;rw[Ij rfl,BS];have c2:SmL L H8 Ha:=cb.trans (SmL.of sa);refine aC ⟨_,rfl,t,rfl,⟨_,SqL.of bw⟩,cA (K:=[]) (a:=t) (xs:=S) (λj Z H'=>∃oa,Z=[some (.ref x),some (.ref r),some (.ref m),Y,some (.ref Du),some (.int (cs.length:Int)),some (.int (lh.length:Int)),some (.int (2*(k:Int))),some (.int (0+(i:Int))),some (.ref t),oa,ob]/\SmL L H8 H'/\H' t=some (.lst S)/\∀v∈S,∃a xs,v=V.ref a/\H8 a=none/\a≠t/\H' a=some (.lst xs))
   ⟨_,rfl,c2,bw,λv O=>?_⟩ (by rintro j Z H' _ ⟨_,_,_,e,_⟩;exact SqL.of e) ?_ ?_⟩
  .obtain⟨j,B⟩:=List.mem_iff_getElem?.mp O;obtain⟨l,d8,a,rfl,e2,e3,ha⟩:=bM pr B;exact⟨a,_,rfl,e2,e3,sa _ _ ha⟩
  .rintro j v Z Hb B ⟨ox,rfl,bx,a1,each⟩;obtain⟨a,xs,rfl,a2,at_,yb⟩:=each v (List.mem_of_getElem? B);refine⟨_,rfl,.inl ⟨rfl,_,SqL.of yb⟩,a,xs,rfl,rfl,yb,?_⟩;walk_at"Hb a Hc kc yc";refine⟨_,rfl,λb o e=>?_,(kc t at_.symm).trans a1,λv O=>?_⟩
   .rw[kc b (ah e a2)];exact bx b o e
   obtain⟨b,ws,rfl,b2,cd,c3⟩:=each v O;by_cases aM:b=a
   .subst aM;exact⟨b,_,rfl,b2,cd,yc⟩
   exact⟨b,ws,rfl,b2,cd,(kc b aM).trans c3⟩
  rintro Z Hb ⟨ox,rfl,bx,a1,each⟩;refine⟨_,rfl,.inl ⟨rfl,_,SqL.of a1⟩,lit1,λl1 Hc g1 sc yc=>?_⟩;refine⟨t,_,_,rfl,rfl,sc _ _ a1,by rw[az pr];lia,λHd kd yd=>?_⟩;have c4:SmL L H8 Hd:=λb o e=>by
   rw[kd b (ah e cw)];exact (bx.trans (SmL.of sc)) b o e
  have ce:=ab.trans c4;refine⟨_,rfl,x,ts,L,rfl,ca.sm ce.sm,g,ap,X,λU ad am an He hU c5 c6 c8 da db dc yU=>?_⟩;have ec:ad=cs:=iw (R:=(· < ·)) (λa b h h'=>by lia) c6 bg.1 λc=>(c8 c).trans (b7 c).symm;have dd:am=ls:=da.uniq bb db bd;have er:an=lh:=dc.uniq ct cv b5;subst ec dd er;have dj:oR ts ad.length am.length an.length=nV [ad.length,(mny ts (keys ts)).length,ts.length,am.length,k,an.length]:=by unfold oR nV;rw[b9,show (2*(k:Int))/2=(k:Int) by lia];rfl
  rw[dj] at yU;have dk:=ce.trans c5;refine⟨_,rfl,_,_,true,rfl,.tup yU,F.t,_,rfl,iG ?_⟩;refine⟨_,rfl,U,rfl,⟨_,SqT.of yU⟩,λZ2 dl=>jm (K:=[]) (a:=U) (xs:=nV [ad.length,(mny ts (keys ts)).length,ts.length,am.length,k,an.length]) (λi Z ys H'=>∃o,Z=[o]/\ys=[]/\Same He H'/\H' Z2=some (.lst ys)) ⟨none,rfl,rfl,bf dl,aG⟩ (by rintro i Z ys H' _ ⟨_,_,_,e,_⟩;exact SqT.of (e _ _ yU)) ?_ ?_⟩
  .rintro j y Z ys H' B ⟨o,rfl,rfl,sZ,bn⟩;rw[nV,List.getElem?_map] at B;obtain⟨z,hz,rfl⟩:=aY.mp B;exact⟨_,rfl,_,_,false,rfl,.int _,F.b,false,rfl,aC ⟨_,rfl,rfl,sZ,bn⟩⟩
  rintro Z ys Hf ⟨o,rfl,rfl,sf,yf⟩;refine⟨aD _,λl2 Hg g2 sg yg=>?_⟩;refine⟨.list [],.list [],.lst (SqL.of (sg _ _ yf)) .nil,.lst (SqL.of yg) .nil,by decide,false,rfl,aC ?_⟩;have a3:=dk.trans (SmL.of (sf.trans sg));have dm:=(sf.trans sg) _ _ yU;refine⟨_,rfl,_,rfl,_,rfl,m,_,rfl,a3.new sA b6,_,rfl,r,_,rfl,.inl (SqL.of (a3.sm.keep (a0 _ _ M) (λz=>z))),_,rfl,Du,_,rfl,.inl (SqL.of (a3.sm.keep bm (λz=>z))),_,rfl,_,_,rfl,rfl,⟨by decide,by decide⟩,_,rfl,(by show 6<=sizeLine;decide),λV1 Hh gv sh yh=>?_⟩;have yh:Hh V1=some (.tup (nV [ad.length,(mny ts (keys ts)).length,ts.length,am.length,k,an.length])):=by rw[yh,List.length_map,b4,az tr,az a5];dsimp only;rw[show (2*(k:Int))/2=(k:Int) by lia];rfl
  refine⟨_,_,.tup (SqT.of (sh _ _ dm)) (lN _),.tup (SqT.of yh) (lN _),DU _,_,rfl,?_⟩;rw[Ij rfl,zc];exact aC ⟨_,_,_,_,rfl,a3.trans (SmL.of sh)⟩
 rintro Z H8 ⟨o8,o9,oa,ob,rfl,ab⟩;exact q _ ((SmL.of a0).trans ab)
end
end K15
end
section
namespace K15
def wnx(n k:Nat):Nat:=(k+1)%n
def wtri(n k:Nat):Tri:=(0,1+k,1+wnx n k)
def wheel(n:Nat)(S:List Nat):List Tri:=S.map (wtri n)
theorem md{x n:Nat}(h:x<2*n):x%n=if x<n then x else x-n:=by
 split
 .exact FB ‹_›
 rw[Nat.mod_eq_sub_mod (by lia),FB (by lia)]
theorem gw{n k:Nat}(h:k<n):wnx n k=if k+1<n then k+1 else k+1-n:=md (by lia)
theorem rR{n k m:Nat}(h:k<n)(h':m<n)(e:wnx n k=wnx n m):k=m:=by
 rw[gw h,gw h'] at e
 split at e<;>split at e<;>lia
theorem rM{n:Nat}{S:List Nat}{a b c:Nat}:En (wheel n S) a b c↔∃k∈S,(a=0/\b=1+k/\c=1+wnx n k)\/(a=1+k/\b=1+wnx n k/\c=0)\/(a=1+wnx n k/\b=0/\c=1+k):=by
 unfold En;rw[cE];unfold wheel wtri;simp only[List.mem_map,gQ];constructor
 .rintro (⟨k,d,h1,h2,e⟩|⟨k,d,h1,h2,e⟩|⟨k,d,h1,h2,e⟩)
  .exact⟨k,d,.inl ⟨h1.symm,h2.symm,e.symm⟩⟩
  .exact⟨k,d,.inr (.inl ⟨h2.symm,e.symm,h1.symm⟩)⟩
  exact⟨k,d,.inr (.inr ⟨e.symm,h1.symm,h2.symm⟩)⟩
 rintro⟨k,d,⟨rfl,rfl,rfl⟩|⟨rfl,rfl,rfl⟩|⟨rfl,rfl,rfl⟩⟩
 .exact .inl ⟨k,d,rfl,rfl,rfl⟩
 .exact .inr (.inl ⟨k,d,rfl,rfl,rfl⟩)
 exact .inr (.inr ⟨k,d,rfl,rfl,rfl⟩)
theorem qf{n:Nat}(i:3<=n):Good (wheel n (List.range n)):=by
 refine⟨λt h=>?_,?_⟩
 .obtain⟨k,c,rfl⟩:=List.mem_map.mp h;have c:=List.mem_range.mp c;have e:=gw c;refine⟨by show 0≠1+k;lia,?_,by show 1+wnx n k≠0;lia⟩;show 1+k≠1+wnx n k;rw[e];split<;>lia
 unfold ents wheel;rw[List.map_flatMap,List.flatMap_map,List.Nodup,List.pairwise_flatMap];refine⟨λk c=>?_,List.pairwise_lt_range.imp_of_mem λ{a b} ha d l x f y g=>?_⟩
 .have c:=List.mem_range.mp c;have e:=gw c;simp only[wtri,List.map_cons,List.map_nil,List.pairwise_cons,List.mem_cons,List.not_mem_nil,or_false,ne_eq,forall_eq_or_imp,forall_eq,gQ,List.Pairwise.nil,and_true,false_implies,implies_true];lia
 have ha:=List.mem_range.mp ha;have d:=List.mem_range.mp d;simp only[wtri,List.map_cons,List.map_nil,List.mem_cons,List.not_mem_nil,or_false] at f g;have m:wnx n a≠wnx n b:=λz=>by have:=rR ha d z;lia
 rcases f with rfl|rfl|rfl<;>rcases g with rfl|rfl|rfl<;>simp only[ne_eq,gQ]<;>lia
theorem qB{n:Nat}{S:List Nat}(w:∀k∈S,k<n)(C:3<=n)(z:One (En (wheel n S)) 0)(c:Nat):One (En (wheel n S)) c\/¬Co (wheel n S) c:=by
 by_cases x:Co (wheel n S) c
 .left;by_cases y:c=0
  .subst y;exact z
  have st:∀p q,En (wheel n S) c p q↔(∃k∈S,c=1+k/\p=1+wnx n k/\q=0)\/(∃k∈S,c=1+wnx n k/\p=0/\q=1+k):=λp q=>by
   rw[rM];constructor
   .rintro⟨k,d,h|h|h⟩
    .exact (y h.1).elim
    .exact .inl ⟨k,d,h⟩
    exact .inr ⟨k,d,h⟩
   rintro (⟨k,d,h⟩|⟨k,d,h⟩)
   .exact⟨k,d,.inr (.inl h)⟩
   exact⟨k,d,.inr (.inr h)⟩
  have D:∀{k m},k∈S->m∈S->c=1+wnx n k->c=1+wnx n m->k=m:=λd hm e f=>rR (w _ d) (w _ hm) (by lia);by_cases A:∃k∈S,c=1+k<;>by_cases B:∃k∈S,c=1+wnx n k
  .obtain⟨a,ha,s⟩:=A;obtain⟨b,u,v⟩:=B;have key:∀p,(∃q,En (wheel n S) c p q)->p∈[1+wnx n a,0]:=λp ⟨q,h⟩=>by
    rcases (st p q).mp h with ⟨k,d,e,f,_⟩|⟨k,d,e,f,_⟩
    .rw[show k=a by lia] at f;rw[f];simp
    rw[f];simp
   refine⟨[1+wnx n a,0],⟨by simp,by simp,λi p q h1 h2=>?_,λp g=>?_,λp _ q _ l=>key q l,λp _ o r=>key o ⟨p,r⟩⟩,key⟩
   .match i with
    |0=>simp at h1 h2;exact (st p q).mpr (.inl ⟨a,ha,s,h1.symm,h2.symm⟩)
    |i+1=>simp at h2
   simp only[List.mem_cons,List.not_mem_nil,or_false] at g;rcases g with rfl|rfl
   .exact⟨0,(st _ _).mpr (.inl ⟨a,ha,s,rfl,rfl⟩)⟩
   exact⟨1+b,(st _ _).mpr (.inr ⟨b,u,v,rfl,rfl⟩)⟩
  .obtain⟨a,ha,s⟩:=A;have key:∀p,(∃q,En (wheel n S) c p q)->p∈[1+wnx n a]:=λp ⟨q,h⟩=>by
    rcases (st p q).mp h with ⟨k,d,e,f,_⟩|⟨k,d,e,_⟩
    .rw[show k=a by lia] at f;rw[f];simp
    exact (B ⟨k,d,e⟩).elim
   refine⟨[1+wnx n a],⟨by simp,by simp,λi p q h1 h2=>by simp at h2,λp g=>?_,λp _ q _ l=>key q l,λp _ o r=>key o ⟨p,r⟩⟩,key⟩;rw[List.mem_singleton.mp g];exact⟨0,(st _ _).mpr (.inl ⟨a,ha,s,rfl,rfl⟩)⟩
  .obtain⟨b,u,v⟩:=B;have key:∀p,(∃q,En (wheel n S) c p q)->p∈[0]:=λp ⟨q,h⟩=>by
    rcases (st p q).mp h with ⟨k,d,e,_⟩|⟨k,d,_,f,_⟩
    .exact (A ⟨k,d,e⟩).elim
    rw[f];simp
   refine⟨[0],⟨by simp,by simp,λi p q h1 h2=>by simp at h2,λp g=>?_,λp _ q _ l=>key q l,λp _ o r=>key o ⟨p,r⟩⟩,key⟩;rw[List.mem_singleton.mp g];exact⟨1+b,(st _ _).mpr (.inr ⟨b,u,v,rfl,rfl⟩)⟩
  obtain⟨p,q,h⟩:=x;rcases (st p q).mp h with ⟨k,d,e,_⟩|⟨k,d,e,_⟩
  .exact (A ⟨k,d,e⟩).elim
  exact (B ⟨k,d,e⟩).elim
 exact .inr x
theorem n_{n:Nat}{S:List Nat}{p q:Nat}:En (wheel n S) 0 p q↔∃k∈S,p=1+k/\q=1+wnx n k:=by
 rw[rM];constructor
 .rintro⟨k,b,⟨_,h⟩|⟨h,_⟩|⟨h,_⟩⟩
  .exact⟨k,b,h⟩
  .lia
  lia
 rintro⟨k,b,h⟩;exact⟨k,b,.inl ⟨rfl,h⟩⟩
theorem rL{n m:Nat}{S:List Nat}{w:Nat->Nat}(hm:1<=m)(hw:∀i,i<m->w i∈S)(f:∀k∈S,∃i,i<m/\w i=k)(inj:∀i j,i<m->j<m->w i=w j->i=j)(ch:∀i,i+1<m->w (i+1)=wnx n (w i)) :
  Fan (En (wheel n S)) 0 ((List.range m).map λi=>1+w i)/\∀p,(∃q,En (wheel n S) 0 p q)->p∈(List.range m).map λi=>1+w i:=by
 have all:∀p,(∃q,En (wheel n S) 0 p q)->p∈(List.range m).map λi=>1+w i:=λp ⟨q,h⟩=>by
  obtain⟨k,g,rfl,_⟩:=n_.mp h;obtain⟨i,hi,rfl⟩:=f k g;exact List.mem_map.mpr ⟨i,List.mem_range.mpr hi,rfl⟩
 refine⟨⟨λz=>?_,?_,λi p q h1 h2=>?_,λp l=>?_,λp _ q _ r=>all q r,λp _ o s=>all o ⟨p,s⟩⟩,all⟩
 .have:=congrArg List.length z;simp at this;lia
 .rw[List.Nodup,List.pairwise_map];refine List.pairwise_lt_range.imp_of_mem λ{a b} ha u v z=>?_;have:=inj a b (List.mem_range.mp ha) (List.mem_range.mp u) (by lia);lia
 .rw[List.getElem?_map] at h1 h2;obtain⟨x,c,rfl⟩:=aY.mp h1;obtain⟨y,d,rfl⟩:=aY.mp h2;obtain⟨e,c⟩:=List.getElem?_eq_some_iff.mp c;obtain⟨l2,d⟩:=List.getElem?_eq_some_iff.mp d;rw[List.length_range] at e l2;rw[List.getElem_range] at c d;subst c d;exact n_.mpr ⟨w i,hw i e,rfl,by rw[ch i l2]⟩
 obtain⟨i,hi,rfl⟩:=List.mem_map.mp l;exact⟨_,n_.mpr ⟨w i,hw i (List.mem_range.mp hi),rfl,rfl⟩⟩
theorem xM{n:Nat}(d:3<=n):∀c,Co (wheel n (List.range n)) c->One (En (wheel n (List.range n))) c:=by obtain⟨fan,all⟩:=rL (n:=n) (m:=n) (S:=List.range n) (w:=λi=>i) (by lia) (λi hi=>List.mem_range.mpr hi) (λk b=>⟨k,List.mem_range.mp b,rfl⟩) (λ_ _ _ _ e=>e) (λi hi=>by rw[gw (by lia),Ij hi]);have f:One (En (wheel n (List.range n))) 0:=⟨_,fan,all⟩;exact λc g=>(qB (λk b=>List.mem_range.mp b) d f c).resolve_right λz=>z g
theorem um(m:Nat):((List.range m).map λk=>((0,k+1,k+2):Tri))=wheel (m+1) (List.range m):=by unfold wheel;refine List.map_congr_left λk b=>?_;have b:=List.mem_range.mp b;show _=(0,1+k,1+wnx (m+1) k);rw[gw (fc b),Ij (Nat.succ_lt_succ b),Ft 1 k,Ft 1 (k+1)]
theorem AA{m:Nat}(hm:3<=m)(l:m<=201):Good ((List.range m).map λk=>((0,k+1,k+2):Tri))/\(∀c,Co ((List.range m).map λk=>((0,k+1,k+2):Tri)) c->One (En ((List.range m).map λk=>((0,k+1,k+2):Tri))) c)/\∀c,Co ((List.range m).map λk=>((0,k+1,k+2):Tri)) c->c<10 ^ 60:=by
 have f:∀k∈List.range m,k<m+1:=λk b=>fc (List.mem_range.mp b);refine⟨?_,?_,λc d=>?_⟩
 .rw[um];exact kQ (qf (pd hm)) (List.Sublist.map _ (by rw[List.range_succ];exact List.sublist_append_left _ _))
 .rw[um];obtain⟨fan,all⟩:=rL (n:=m+1) (m:=m) (S:=List.range m) (w:=λi=>i) (Nat.le_of_succ_le_succ (pd hm) |> λh=>bQ (by decide) h) (λi hi=>List.mem_range.mpr hi) (λk b=>⟨k,List.mem_range.mp b,rfl⟩) (λ_ _ _ _ e=>e) (λi hi=>by rw[gw (fc (Nat.lt_of_succ_lt hi)),Ij (fc hi)]);exact λc d=>(qB f (pd hm) ⟨_,fan,all⟩ c).resolve_right λz=>z d
 obtain⟨t,g,h⟩:=bN.mp d;obtain⟨k,b,rfl⟩:=List.mem_map.mp g;have b:=List.mem_range.mp b;simp only at h;have:c<=203:=by lia
 exact pf this (by decide)
end K15
end
section
namespace K15
open PySem L2 K51 K31
def A8(vs:List V)(H:Hp)(Q:VK)(p:Addr)(q:Int×Int):Prop:=vs=[.ref p]/\H p=some (.lst (bc q))/\bq q/\
 ∀r b ts d H',r≠p->But p H H'->H' p=some (.lst (bc d))->bq d->H' r=some (.lst b)->aw H' b ts->ts.length<=200->Good ts->(∀c,Co ts c->One (En ts) c)->Q (.ref r) H'
def tU:Sp:=λvs H Q _=>Exists (Ex2 (A8 vs H Q))
section
theorem t4:aP ["_law_pot_here","_law_n"] ["_law_pot_here"] (ax jO):=by walk_at"sc"
theorem BE{f f1:Addr}{fd d1:FuncData}(U:Fun K "_law_wide" "_law_wide" jO f fd)(T:bD mg)(Y:Use P w K mg base 1 "_law_digit" ["_law_pot_here","_law_base"] eF f1 d1):ak P w K mg base CX0 2 f fd ["_law_pot_here"] tU:=by
 refine U.ok t4 (by rintro _ _ _ _ ⟨_,_,rfl,_⟩;rfl) λIp A outer s H vs Q E hr h=>?_
 obtain⟨p,q,rfl,hp,I,Qq⟩:=h;have am:=line5000;refine⟨_,ae (sx 1 t4.nd (au bp ag (uc Y hr (af (pv 0) (pa1 ag)))))
  (ae (bB (a7 dM (uc Y hr (af (pv 0) (pa1 ag))) ag (nomark _))
   (ao (aJ (bY (N:=["_law_k"]) (fr:=[none]) (g_ (by decide +kernel) rfl (by decide +kernel) (by decide +kernel)) rfl (fm rfl T.range (pa1 (pv 1)))
    (λC' s' H' fp Io=>⟨gx 0 (by decide:(["_law_k"]:List Str).Nodup),cP,aR (af ag (af (au bp ag (pv 0)) (pa1 (au bp ag (pv 0)))))⟩)))) bu)
  (ao (aJ (bY (N:=["_law_k","_law_n"]) (fr:=[none,some 1]) (bW (by decide +kernel) rfl rfl (by decide +kernel) (by decide +kernel) (by walk_at"cs") (by walk_at"ct")) rfl (fm rfl T.range (pa1 (pv 1)))
    (λC' s' H' fp Io=>⟨(gx 0 (by decide:(["_law_k","_law_n"]:List Str).Nodup)),cP,(aR (af ag (af (au bp ag (pv 0)) (pa1 (au bp ag (au cX (au bp (pv 0) ag) (pv 1)))))))⟩))))),?_⟩
 obtain⟨e1,e2⟩:=cJ (q:=q) (b:=184) (by decide);obtain⟨B,ab⟩:∃m:Nat,digO q 184=(m:Int):=⟨(digO q 184).toNat,by lia⟩;refine⟨_,rfl,p,q,184,rfl,hp,I,by decide,by decide +kernel,λH1 k1 y1=>⟨_,_,rfl,rfl,?_⟩⟩;rw[ab];show bO 1 (V.int ((17:Int)+(B:Int))) _ H1 _;rw[show ((17:Int)+(B:Int))=((17+B:Nat):Int) by lia];have C:3<=17+B:=by lia
 have ad:17+B<=200:=by lia
 generalize 17+B=n at C ad;refine⟨_,rfl,p,_,2,rfl,y1,br I,by decide,by decide +kernel,λH2 k2 y2=>⟨rfl,_,rfl,?_⟩⟩;have bt:But p H H2:=λb o nb e=>(k2 b nb).trans ((k1 b nb).trans e);have fin:∀{ts:List Tri}{D:Addr}{ys:List V}{d:Hp},H2 D=none->Same H2 d->d D=some (.lst ys)->aw d ys ts->ts.length<=200->Good ts->(∀c,Co ts c->One (En ts) c)->Q (.ref D) d:=λr sa v tr l g o=>Qq _ _ _ _ _ (λz=>by rw[z,y2] at r;cases r) (λb o nb e=>sa _ _ (bt b o nb e)) (sa _ _ y2) (br (br I)) v tr l g o;have each:∀{Z:St}{D tt:Addr}{ys:List V}{H' d x:Hp}{us:List Tri}{u:Tri},H2 D=none->Same H2 H'->H' D=some (.lst ys)->aw H' ys us->Same H' d->d tt=some (.tup [.int (u.1:Int),.int (u.2.1:Int),.int (u.2.2:Int)])->(∀b,b≠D->x b=d b)->Same H2 x/\aw x (ys++[.ref tt]) (us++[u]):=λ{Z D tt ys H' d x us u} r sk y i sa v kb=>by
  have al:=sa _ _ y;have mv:∀t xs,d t=some (.tup xs)->x t=some (.tup xs):=λt xs e=>(kb t (bC e al (by intro z;cases z))).trans e;exact⟨λL o' e=>(kb L (ah e r)).trans (sa _ _ (sk _ _ e)),cB (Paired.imp' (λ_ _ ⟨L,e1,e2⟩=>⟨L,e1,mv _ _ (sa _ _ e2)⟩) i) (.cons ⟨tt,rfl,mv _ _ v⟩ .nil)⟩
 cases hb:decide (V.int (digO (K51.nxt q 184) 2)=V.int 0) with
 |true=>
  refine aL ⟨_,rfl,(n:Int),rfl,by lia,by lia,λD r=>qh (lo:=0) (n:=((n:Nat):Int).toNat) (λk Z ys H'=>∃o,Z=[o]/\Same H2 H'/\H' D=some (.lst ys)/\aw H' ys ((List.range k).map λk=>((0,k+1,k+2):Tri)))
   ⟨none,rfl,bf r,aG,.nil⟩ ?_ ?_⟩
  .rintro k Z ys H' M ⟨o,rfl,sk,y,i⟩;rw[e8] at M;have O:=az i;rw[List.length_map,List.length_range] at O;refine⟨_,rfl,_,_,rfl,rfl,_,rfl,_,_,rfl,rfl,lit3,λtt d gt sa v=>?_⟩;refine⟨sa _ _ y,by lia,λx kb R=>?_⟩;obtain⟨S,X⟩:=each (Z:=[]) (u:=(0,k+1,k+2)) r sk y i sa (by
    rw[v];show some (HO.tup [V.int 0,V.int (1+(0+(k:Int))),V.int (2+(0+(k:Int)))])=some (HO.tup [V.int ((0:Nat):Int),V.int ((k+1:Nat):Int),V.int ((k+2:Nat):Int)]);rw[show (1+(0+(k:Int)))=((k+1:Nat):Int) by lia,show (2+(0+(k:Int)))=((k+2:Nat):Int) by lia];rfl) kb
   exact⟨_,rfl,S,R,by rw[List.range_succ,List.map_append];exact X⟩
  rintro Z ys d ⟨o,rfl,sa,v,i⟩;rw[e8] at i;obtain⟨g1,g2,_⟩:=AA C (by lia);exact fin r sa v i (by rw[List.length_map,List.length_range];lia) g1 g2
 |false=>
  refine aC ⟨_,rfl,(n:Int),rfl,by lia,by lia,λD r=>qh (lo:=0) (n:=((n:Nat):Int).toNat) (λk Z ys H'=>∃o,Z=[o,some (.int (n:Int))]/\Same H2 H'/\H' D=some (.lst ys)/\aw H' ys (wheel n (List.range k)))
   ⟨none,rfl,bf r,aG,.nil⟩ ?_ ?_⟩
  .rintro k Z ys H' M ⟨o,rfl,sk,y,i⟩;rw[e8] at M;have O:=az i;rw[wheel,List.length_map,List.length_range] at O;refine⟨_,rfl,_,_,rfl,rfl,_,rfl,_,_,rfl,rfl,_,rfl,_,_,rfl,rfl,(by show (0:Int)<(n:Int);lia),_,_,rfl,rfl,lit3,λtt d gt sa v=>?_⟩;refine⟨sa _ _ y,by lia,λx kb R=>?_⟩;obtain⟨S,X⟩:=each (Z:=[]) (u:=wtri n k) r sk y i sa (by
    rw[v];show some (HO.tup [V.int 0,V.int (1+(0+(k:Int))),V.int (1+(0+(k:Int)+1)%(n:Int))])=some (HO.tup [V.int ((0:Nat):Int),V.int ((1+k:Nat):Int),V.int ((1+wnx n k:Nat):Int)]);unfold wnx;rw[show (1+(0+(k:Int)))=((1+k:Nat):Int) by lia,show (1+(0+(k:Int)+1)%(n:Int))=((1+(k+1)%n:Nat):Int) by rw[Int.zero_add];push_cast;rfl];rfl) kb
   exact⟨_,rfl,S,R,by rw[wheel,List.range_succ,List.map_append];exact X⟩
  rintro Z ys d ⟨o,rfl,sa,v,i⟩;rw[e8] at i;exact fin r sa v i (by rw[wheel,List.length_map,List.length_range];lia) (qf C) (xM C)
end
theorem sW{α β:Type}{F:α->β->Prop}:∀{xs:List α}{ys:List β}(k:Nat),Paired F xs ys->Paired F (xs.drop k) (ys.drop k)
 |_,_,0,h=>h
 |_,_,_+1,.nil=>.nil
 |_,_,k+1,.cons _ t=>sW k t
def xS(vs:List V)(H:Hp)(Q:VK)(p T:Addr)(q:Int×Int)(c:List V)(ts:List Tri):Prop:=vs=[.ref p,.ref T]/\H p=some (.lst (bc q))/\bq q/\H T=some (.lst c)/\T≠p/\aw H c ts/\ts.length<=200/\
 ∀r d b e H',H r=none->But p H H'->H' p=some (.lst (bc e))->bq e->H' r=some (.lst d)->aw H' d b->b.length=ts.length->(ents b).Perm (ents ts)->Q (.ref r) H'
def qU:Sp:=λvs H Q _=>Exists (Ex5 (xS vs H Q))
section
theorem hX:aP ["_law_pot_here","_law_triples","_law_found","_law_a","_law_b","_law_c","_law_triple"] ["_law_pot_here","_law_triples"] (ax jz):=by walk_at"sc"
theorem yo{f f1:Addr}{fd d1:FuncData}(U:Fun K "_law_handed" "_law_handed" jz f fd)(T:bD mg)
  (GD:Use P w K mg base 1 "_law_digit" ["_law_pot_here","_law_base"] eF f1 d1) :
  ak P w K mg base CX0 2 f fd ["_law_pot_here","_law_triples"] qU:=by
 refine U.ok hX (by rintro _ _ _ _ ⟨_,_,_,_,_,rfl,_⟩;rfl) λIp A outer s H vs Q E Y h=>?_
 obtain⟨p,T0,q,vt,ts,rfl,hp,an,hT,ap,ht,hl,Qq⟩:=h;have hu:=bI Y;refine⟨_,(ae (sx 2 hX.nd (bj cF))
  (ae (bh aZ rfl (ba (pv 1)) (b_ rfl (aO (gx 3 hX.nd) (aO (gx 4 hX.nd) (aO (gx 5 hX.nd) bX)))) (ae (sx 6 hX.nd (ixx bG (bj (af (aR (af (pv 3) (af (pv 4) (pa1 (pv 5))))) (af (aR (af (pv 4) (af (pv 5) (pa1 (pv 3))))) (pa1 (aR (af (pv 5) (af (pv 3) (pa1 (pv 4))))))))) (uc GD Y (af (pv 0) (pa1 ag)))))
  (ao (bF (bH bR px vw mT (pv 2) (af (uc GD Y (af (pv 0) (pa1 (au bp (pln T.len (pv 2)) ag)))) (pa1 (pv 6))))))))
  (ao (aJ (pv 2))))),?_⟩
 have bd:=line5000;refine⟨aD _,λv H1 ab s1 y1=>?_⟩;have ad:p≠v:=ah hp ab;refine⟨_,rfl,T0,rfl,⟨_,SqL.of (s1 _ _ hT)⟩,cA (K:=[]) (a:=T0) (xs:=vt) (λi Z H'=>∃oa ob oc ot m g q',Z=[some (V.ref p),some (.ref T0),some (.ref v),oa,ob,oc,ot]/\But p H H'/\H' p=some (.lst (bc q'))/\bq q'/\H' v=some (.lst m)/\aw H' m g/\g.length=i/\(ents g).Perm (ents (ts.take i)))
  ⟨none,none,none,none,[],[],q,rfl,But.refl.same s1,s1 _ _ hp,an,y1,.nil,rfl,by simp[ents]⟩ (λi Z H' _ ⟨_,_,_,_,_,_,_,_,e,_⟩=>SqL.of (e _ _ ap hT)) ?_ ?_⟩
 .rintro i x Z H2 hi ⟨oa,ob,oc,ot,m,g,r,rfl,sm,D,y,I,L,M,N⟩;obtain⟨⟨a,b,c⟩,hs,t,rfl,O⟩:=bM ht hi;have O:H t=some (.tup [.int (a:Int),.int (b:Int),.int (c:Int)]):=O;have be:i<ts.length:=(List.getElem?_eq_some_iff.mp hs).1;have aM:=sm _ _ (bC O hp (by simp)) O;refine⟨t,_,rfl,SqT.of aM,rfl,_,_,rfl,_,_,rfl,_,_,rfl,rfl,?_⟩;refine⟨_,rfl,_,rfl,_,rfl,lit3,λt1 H3 g1 s3 y3=>?_⟩;refine⟨_,rfl,_,rfl,_,rfl,lit3,λt2 H4 g2 s4 y4=>?_⟩;refine⟨_,rfl,_,rfl,_,rfl,lit3,λt3 H5 g3 R y5=>?_⟩;refine⟨lit3,λl H6 g4 S y6=>?_⟩;have B:=((s3.trans s4).trans R).trans S;have am:=B _ _ D;have z1:=((s4.trans R).trans S) _ _ y3;have z2:=(R.trans S) _ _ y4;have z3:=S _ _ y5;refine⟨_,rfl,p,r,3,rfl,am,y,by decide,by decide +kernel,λH7 X y7=>?_⟩;have nl:l≠p:=λz=>by rw[z,((s3.trans s4).trans R) _ _ D] at g4;cases g4
  have tn:∀{u:Addr}{xs:List V},H6 u=some (.tup xs)->u≠p:=λe=>bC e am (by simp);obtain⟨bg,bi⟩:=cJ (q:=r) (b:=3) (by decide);obtain⟨tr,x,a0,a1,a2⟩:∃(tr:Addr)(x:Tri),atI [V.ref t1,.ref t2,.ref t3] (digO r 3)=some (.ref tr)/\H6 tr=some (.tup [.int (x.1:Int),.int (x.2.1:Int),.int (x.2.2:Int)])/\(ents [x]).Perm (ents [(a,b,c)]):=by
   obtain h|h|h:digO r 3=(0:Nat)\/digO r 3=(1:Nat)\/digO r 3=(2:Nat):=by lia
   .rw[h];exact⟨t1,(a,b,c),cQ rfl,z1,List.Perm.refl _⟩
   .rw[h];refine⟨t2,(b,c,a),cQ rfl,z2,?_⟩;show List.Perm [((b,c),a),((c,a),b),((a,b),c)] [((a,b),c),((b,c),a),((c,a),b)];exact List.perm_append_comm (l₁:=[((b,c),a),((c,a),b)]) (l₂:=[((a,b),c)])
   rw[h];refine⟨t3,(c,a,b),cQ rfl,z3,?_⟩;show List.Perm [((c,a),b),((a,b),c),((b,c),a)] [((a,b),c),((b,c),a),((c,a),b)];exact List.perm_append_comm (l₁:=[((c,a),b)]) (l₂:=[((a,b),c),((b,c),a)])
  refine⟨l,_,_,_,rfl,rfl,SqL.of ((X l nl).trans y6),a0,?_⟩;have al:=(X v (aF ad)).trans (B _ _ I);have a3:m.length=i:=by rw[az L];exact M
  refine⟨_,rfl,.inl ⟨rfl,_,SqL.of al⟩,_,rfl,_,rfl,v,m,rfl,.inl (SqL.of al),_,_,rfl,rfl,p,nxt r 3,_,rfl,y7,br y,by lia,by rw[a3];exact lg20 (by lia),λH8 k8 y8=>?_⟩;obtain⟨a4,a5⟩:=cJ (q:=nxt r 3) (b:=(m.length:Int)+1) (by lia);obtain⟨d,hd⟩:∃d:Nat,digO (nxt r 3) ((m.length:Int)+1)=(d:Int):=⟨_,(e_ a4).symm⟩;rw[hd] at a5 |-;have bb:=(k8 v (aF ad)).trans al;refine⟨_,rfl,v,m,d,_,rfl,rfl,bb,by lia,by lia,λH9 k9 y9=>?_⟩;have keep:∀{u:Addr}{xs:List V},H6 u=some (.tup xs)->H9 u=some (.tup xs):=λe=>(k9 _ (bC e (B _ _ I) (by simp))).trans ((k8 _ (tn e)).trans ((X _ (tn e)).trans e));refine⟨_,_,_,_,_,g.take d++x::g.drop d,_,rfl,λu o n e=>?_,(k9 p ad).trans y8,br (br y),y9,?_,?_,?_⟩
  .have C:=B _ _ (sm _ _ n e);exact (k9 u (ah e ab)).trans ((k8 u n).trans ((X u n).trans C))
  .have h1:aw H9 m g:=Paired.imp' (λ_ _ ⟨u,e1,C⟩=>⟨u,e1,keep (B _ _ C)⟩) L;exact cB (sV d h1) (.cons ⟨tr,rfl,keep a1⟩ (sW d h1))
  .rw[List.length_append,List.length_cons,List.length_take,List.length_drop];lia
  have e1:ts.take (i+1)=ts.take i++[(a,b,c)]:=by rw[List.take_add_one,hs];rfl
  rw[e1,dQ,dQ];have C:ents (x::g.drop d)=ents [x]++ents (g.drop d):=dQ [x] _;rw[C];have e3:(ents g)=ents (g.take d)++ents (g.drop d):=by rw[<-dQ,List.take_append_drop]
  refine List.Perm.trans ?_ (N.append a2);rw[e3,List.append_assoc];exact List.Perm.append_left _ List.perm_append_comm
 rintro Z H2 ⟨oa,ob,oc,ot,m,g,r,rfl,sm,D,y,I,L,M,N⟩;rw[az ht,List.take_length] at N;rw[az ht] at M;exact⟨_,rfl,Qq v m g r H2 ab sm D y I L M N⟩
end
def CT(K:W.Frag)(vs:List V)(H:Hp)(Q:VK)(a:Addr)(ns:List Int):Prop:=vs=[.ref a]/\SqL [] H a (ns.map V.int)/\ns.length<=63/\∀H',Q (.bl true) H'
def j7(K:W.Frag):Sp:=λvs H Q _=>Exists (Ex2 (CT K vs H Q))
theorem nF{a p:Addr}(c:H p=none)(h:SqL [] H a xs)(k:∀b o,b≠p->H b=some o->H' b=some o):SqL [] H' a xs:=by
 have go:∀{o:HO},H a=some o->H' a=some o:=λe=>k _ _ (ah e c) e;rcases h with (e|⟨o,e⟩)|h
 .exact .inl (.inl (go e))
 .exact .inl (.inr ⟨o,go e⟩)
 exact .inr h
section
theorem dZ:aP ["_law_script","_law_pot_here","_law_wide_here","_law_triples","_law_seconds","_law_skin_here","_law_other"] ["_law_script"] (ax eQ):=by walk_at"sc"
theorem Do{f f1 f2 f3 f4 f5 f6 f7 fa Cs:Addr}{d d1 d2 d3 d4 d5 d6 d7 da:FuncData}(U:Fun K "law" "law" eQ f d)(T:bD mg)(M:Mk K Cs fa)(bA:mg "Skin" = some (.ref Cs))
  (GP:Use P w K mg base 2 "_law_pot" ["_law_script","_law_k"] (uF K) f1 d1) (GH:Use P w K mg base 2 "_law_handed" ["_law_pot_here","_law_triples"] qU f2 d2) (GN:Use P w K mg base 2 "_law_named" ["_law_pot_here","_law_triples"] se f3 d3)
  (GL:Use P w K mg base 4 "_law_skin" ["_law_pot_here","_law_most"] su f4 d4) (GD:Use P w K mg base 1 "_law_digit" ["_law_pot_here","_law_base"] eF f5 d5) (GW:Use P w K mg base 2 "_law_wide" ["_law_pot_here"] tU f6 d6)
  (GR:Use P w K mg base 4 "_law_right" ["_law_skin_here","_law_triples"] (r_ Cs) f7 d7) (GK:ak P w K mg base CX0 5 fa da ["self","triples"] (rZ Cs)) (bK:Binds K da ["self","triples"] []) :
  ak P w K mg base CX0 7 f d ["_law_script"] (j7 K):=by
 refine U.ok dZ (by rintro _ _ _ _ ⟨_,_,rfl,_⟩;rfl) λIp A outer s H vs Q E hr h=>?_
 obtain⟨a,ns,rfl,b0,dk,q⟩:=h;have ct:=hr.mono (show 1<=6 by decide);have l:=hr.mono (show 2<=6 by decide);have X:=hr.mono (show 4<=6 by decide);have b1:=hr;have dl:=line5000;refine⟨_,(ae (sx 1 dZ.nd (uc GP l (af (pv 0) (pa1 ag))))
  (ae (sx 2 dZ.nd (gk dM (uc GD ct (af (pv 1) (pa1 ag))) ag (nomark _)))
  (ae (sx 3 dZ.nd (uc GN l (af (pv 1) (pa1 (uc GW l (pa1 (pv 1)))))))
  (ae (sx 1 dZ.nd (uc GP l (af (pv 0) (pa1 ag))))
  (ae (bB (dU (m8 (pv 2) (λ_=>rfl))) (ao (sx 3 dZ.nd (uc GH l (af (pv 1) (pa1 (uc GN l (af (pv 1) (pa1 (uc GL X (af (pv 1) (pa1 ag))))))))))) bu)
  (ae (sx 1 dZ.nd (uc GP l (af (pv 0) (pa1 ag))))
  (ae (sx 4 dZ.nd (uc GH l (af (pv 1) (pa1 (uc GN l (af (pv 1) (pa1 (uc GL X (af (pv 1) (pa1 ag))))))))))
  (ae (sx 5 dZ.nd (tm M GK b1 rfl bA bK .nil pass0 (pa1 (cy kH (by rfl) T.list gR (pa1 (pv 3))))))
  (ae (sx 6 dZ.nd (tm M GK b1 rfl bA bK .nil pass0 (pa1 (cy kH (by rfl) T.list gR (pa1 (pv 4))))))
  (ao (aJ (iz (uc GR X (af (pv 5) (pa1 (pv 3)))) (iz (uc GR X (af (pv 6) (pa1 (pv 4)))) (lD (uc GR X (af (pv 5) (pa1 (pv 3)))))))))))))))))),?_⟩
 refine⟨_,rfl,a,ns,2,rfl,b0,by decide,by decide,λp H1 hp s1 y1=>?_⟩;refine⟨_,rfl,p,_,8,rfl,y1,kP ns (by decide) (by decide),by decide,by decide +kernel,λH2 k2 y2=>⟨rfl,?_⟩⟩;generalize decide (V.int _=V.int 5)=wb;refine⟨_,rfl,_,rfl,p,_,rfl,y2,br (kP ns (by decide) (by decide)),λr Y ts q1 H3 C b2 D I L tr al g one=>?_⟩;refine⟨p,r,_,Y,ts,rfl,D,I,L,C,tr,al,g,λR i us q2 H4 cv b3 a5 bb hT ht bd gu cw b4=>?_⟩;have ab:=b4 one;have lu:us.length<=200:=by lia
 have be:SqL [] H4 a (ns.map V.int):=nF hp b0 λb o n e=>b3 _ _ n (b2 _ _ n ((k2 b n).trans (s1 _ _ e)));clear b4 cw bd tr L C one al cv bb a5 b3 b2 D I y2 k2 y1 s1 g;refine⟨_,rfl,a,ns,0,rfl,be,by decide,by decide,λm H5 am s5 y5=>?_⟩;dsimp only [uE,bO];refine nI (λZ H'=>∃o1 R i us,Z=[some (.ref a),o1,some (.bl wb),some (.ref R),none,none,none]/\SqL [] H' a (ns.map V.int)/\H' R=some (.lst i)/\aw H' i us/\us.length<=200/\Good us/\∀c,Co us c->One (En us) c) ?_ ?_
 .intro NX tl;have bg:SqL [] H5 a (ns.map V.int):=nF am be λb o _ e=>s5 _ _ e;refine⟨_,rfl,wb,rfl,?_⟩;cases wb with
  |true=>exact l5 (tl _ _ ⟨_,R,i,us,rfl,bg,s5 _ _ hT,ht.same s5,lu,gu,ab⟩)
  |false=>
   refine D6 ?_;refine⟨_,rfl,_,rfl,_,rfl,m,_,rfl,y5,kP ns (by decide) (by decide),λr Y ts q1 H6 C an N ap L tr al g one=>?_⟩;refine⟨m,r,_,Y,ts,rfl,N,ap,L,C,tr,by lia,g,λr2 bi bm q2 H7 O aM D I a0 a1 cx g3 b5 a2=>?_⟩;have a3:r2≠m:=λz=>by rw[z,N] at O;cases O
   refine⟨m,r2,q2,bi,bm,rfl,D,I,a0,a3,a1,by lia,λR' S u q3 H8 b6 a4 a5 bb c0 c1 bd B=>?_⟩;exact tl _ _ ⟨_,R',S,u,rfl,nF am be λb o n e=>a4 _ _ n (aM _ _ n (an _ _ n (s5 _ _ e))),c0,c1,by lia,mW g3 B,λc hc=>(qC (λ_ _ _=>B.mem_iff) c).mpr (a2 one c ((tI B c).mp hc))⟩
 rintro Z H5 ⟨o1,R,i,us,rfl,bg,hT,ht,lu,gu,ab⟩;refine⟨_,rfl,a,ns,1,rfl,bg,by decide,by decide,λm H6 am s6 y6=>?_⟩;refine⟨_,rfl,_,rfl,_,rfl,m,_,rfl,y6,kP ns (by decide) (by decide),λr Y ts q1 H7 C an N ap L tr al g one=>?_⟩;refine⟨m,r,_,Y,ts,rfl,N,ap,L,C,tr,by lia,g,λr2 bi bm q2 H8 O aM D I a0 a1 cx g3 b5 a2=>?_⟩;have a3:r2≠m:=λz=>by rw[z,N] at O;cases O
 refine⟨m,r2,q2,bi,bm,rfl,D,I,a0,a3,a1,by lia,λR' S u q3 Hf b6 a4 a5 bb c2 c3 bd B=>?_⟩;have b7:Good u:=mW g3 B;have dm:u.length<=20:=by lia
 have b8:∀c,Co u c->One (En u) c:=λc hc=>(qC (λ_ _ _=>B.mem_iff) c).mpr (a2 one c ((tI B c).mp hc));have bn:∀b o,H5 b=some o->Hf b=some o:=λb o e=>by
  have n:=ah e am;exact a4 _ _ n (aM _ _ n (an _ _ n (s6 _ _ e)))
 have b9:=bn _ _ hT;have ca:aw Hf i us:=Paired.imp' (λ_ _ ⟨v,x,y⟩=>⟨v,x,bn _ _ y⟩) ht;clear B b6 a1 a0 a3 D I O tr L C N ap an aM a4 a2 one g3 b5 g bn hT ht;refine⟨_,rfl,R,i,rfl,.inl (SqL.of b9),λl3 Hg dp sg yg=>?_⟩;refine λx1 c4 cb cc dr=>?_;have cd:=qz (Cs:=Cs) cb cc;refine⟨x1,c4,l3,i,us,rfl,aG,cd _ _ yg,(ca.same sg).same cd,lu,gu,ab,λHh c5 c6=>⟨rfl,?_⟩⟩;have bt:Sm Hf Hh:=(Sm.of sg).trans (sJ cb cc c5);have ce:=bt.keep c2 (λz=>z);have cg:aw Hh S u:=Paired.imp' (λ_ _ ⟨v,x,y⟩=>⟨v,x,bt.keep y (λz=>z)⟩) c3;refine⟨_,rfl,R',S,rfl,.inl (SqL.of ce),λl4 Hi ds si yi=>?_⟩;refine λx2 c8 ch ci dx=>?_;have cj:=qz (Cs:=Cs) ch ci;refine⟨x2,c8,l4,S,u,rfl,aG,cj _ _ yi,(cg.same si).same cj,by lia,b7,b8,λHj db dc=>⟨rfl,?_⟩⟩;have bw:Sm Hh Hj:=(Sm.of si).trans (sJ ch ci db);have cl:=bt.trans bw;have cm:=cl.keep b9 (λz=>z);have cn:aw Hj i us:=Paired.imp' (λ_ _ ⟨v,x,y⟩=>⟨v,x,cl.keep y (λz=>z)⟩) ca;obtain⟨A1,cr⟩:=(c6.sm bw).a;obtain⟨A2,dd⟩:=dc.a;refine⟨_,rfl,_,rfl,x1,R,i,us,A1,rfl,cr,cm,cn,lu,gu,ab,λHk ad=>⟨true,rfl,aL ?_⟩⟩;have ad:=ad.sm;have cs:=bw.trans ad;refine⟨_,rfl,_,rfl,x2,R',S,u,A2,rfl,dd.sm ad,cs.keep ce (λz=>z),Paired.imp' (λ_ _ ⟨v,x,y⟩=>⟨v,x,cs.keep y (λz=>z)⟩) cg,by lia,b7,b8,λHl dj=>⟨true,rfl,aL ?_⟩⟩;have bx:=ad.trans dj.sm;exact⟨_,rfl,_,rfl,x1,R,i,us,A1,rfl,cr.sm bx,bx.keep cm (λz=>z),Paired.imp' (λ_ _ ⟨v,x,y⟩=>⟨v,x,bx.keep y (λz=>z)⟩) cn,lu,gu,ab,λHm dy=>q Hm⟩
end
end K15
end
section
namespace K15
open PySem L2 K51 K31 K71
theorem len1(h:us.length=1):∃a,us=[a]:=List.length_eq_one_iff.mp h
theorem len2(h:us.length=2):∃a b,us=[a,b]:=by obtain⟨a,r,rfl⟩:=List.exists_cons_of_length_eq_add_one h;obtain⟨b,rfl⟩:=len1 (Nat.succ.inj h);exact⟨a,b,rfl⟩
structure Top(K:W.Frag)(mg:Str->Option Value)(x:Str)(st:Stmt)(f:Addr)(fd:FuncData):Prop where
 u:Fun K x x st f fd
 m:mg x=some (.ref f)
structure InC(K:W.Frag)(C:Addr)(x q:Str)(st:Stmt)(f:Addr)(fd:FuncData):Prop where
 u:Fun K x q st f fd
 m:Meth K C x f
theorem tT{h:Heap}{x:Str}{st:Stmt}{f:Addr}{d:Value}{od an:Option Addr}{e:Array (Option Value)}{kV doc pm b ct:Value}(X:K.In h)(G:h.Ns mainGlobals mg)
  (a:W.nsIn K mainGlobals x=some (some (.ref f))) (l:K.lookup f=some ⟨d,od,.func (W.fnOf x x (bZ st) (bU st) (ax st) .none kV doc pm an b ct),e⟩) (c:W.codeIn K b x=true) (k:W.keepIn K (.ref f)=true) :
  Top K mg x st f (W.fnOf x x (bZ st) (bU st) (ax st) .none kV doc pm an b ct):=⟨uk (st:=st) l c k,pA X G a⟩
theorem uj{C:Addr}{x q:Str}{st:Stmt}{f:Addr}{d:Value}{od an:Option Addr}{e:Array (Option Value)}{kV doc pm b ct:Value}
  (a:W.findIn K (.ref C) x=some (some (.ref f))) (i:W.isFn K (.ref f)=true) (l:K.lookup f=some ⟨d,od,.func (W.fnOf x q (bZ st) (bU st) (ax st) .none kV doc pm an b ct),e⟩) (c:W.codeIn K b q=true) (k:W.keepIn K (.ref f)=true) :
  InC K C x q st f (W.fnOf x q (bZ st) (bU st) (ax st) .none kV doc pm an b ct):=⟨uk (st:=st) l c k,⟨a,i,k⟩⟩
def aT(K:W.Frag)(x:Str)(st:Stmt):Prop:=∃(f:Addr)(b:Value)(od an:Option Addr)(c:Array (Option Value))(kV d pm cd ct:Value),W.nsIn K mainGlobals x=some (some (.ref f))/\K.lookup f=some ⟨b,od,.func (W.fnOf x x (bZ st) (bU st) (ax st) .none kV d pm an cd ct),c⟩/\W.codeIn K cd x=true/\W.keepIn K (.ref f)=true
theorem top_in{x:Str}{st:Stmt}{f:Addr}{b:Value}{od an:Option Addr}{d:Array (Option Value)}{kV e pm cd ct:Value}(a:W.nsIn K mainGlobals x=some (some (.ref f)))(l:K.lookup f=some ⟨b,od,.func (W.fnOf x x (bZ st) (bU st) (ax st) .none kV e pm an cd ct),d⟩)(c:W.codeIn K cd x=true)(k:W.keepIn K (.ref f)=true):aT K x st:=⟨f,b,od,an,d,kV,e,pm,cd,ct,a,l,c,k⟩
theorem aX{h:Heap}{x:Str}{st:Stmt}(X:K.In h)(G:h.Ns mainGlobals mg)(t:aT K x st):∃f d,Top K mg x st f d:=by obtain⟨f,b,od,an,e,kV,g,pm,cd,ct,a,l,c,k⟩:=t;exact⟨_,_,tT (st:=st) X G a l c k⟩
def InK(K:W.Frag)(C:Addr)(x q:Str)(st:Stmt):Prop:=∃(f:Addr)(b:Value)(od an:Option Addr)(c:Array (Option Value))(kV d pm cd ct:Value),W.findIn K (.ref C) x=some (some (.ref f))/\W.isFn K (.ref f)=true/\K.lookup f=some ⟨b,od,.func (W.fnOf x q (bZ st) (bU st) (ax st) .none kV d pm an cd ct),c⟩/\W.codeIn K cd q=true/\W.keepIn K (.ref f)=true
theorem in_in{C:Addr}{x q:Str}{st:Stmt}{f:Addr}{b:Value}{od an:Option Addr}{d:Array (Option Value)}{kV e pm cd ct:Value}(a:W.findIn K (.ref C) x=some (some (.ref f)))(i:W.isFn K (.ref f)=true)(l:K.lookup f=some ⟨b,od,.func (W.fnOf x q (bZ st) (bU st) (ax st) .none kV e pm an cd ct),d⟩)(c:W.codeIn K cd q=true)(k:W.keepIn K (.ref f)=true):InK K C x q st:=⟨f,b,od,an,d,kV,e,pm,cd,ct,a,i,l,c,k⟩
theorem uP{C:Addr}{x q:Str}{st:Stmt}(t:InK K C x q st):∃f d,InC K C x q st f d:=by obtain⟨f,b,od,an,e,kV,g,pm,cd,ct,a,i,l,c,k⟩:=t;exact⟨_,_,uj (st:=st) a i l c k⟩
section
theorem all_ok{f1 f2 f3 f4 f5 f6 f7 f8 f9 cd ce cg ch ci cj cl cm cn cr cs ct cv cw cx c0 c1 c2 c3 c4 c5 c6 c8 da db be dc dd dj bg bi dk dl Cs:Addr}{d1 d2 d3 d4 d5 d6 d7 d8 d9 dm dp dr ds dx dy dF dK dL dT dV d0 ea eb ec ed ee ef eh ei ej ek el em en bl eo ep eq bm er es et:FuncData}{tM:Tok}(T:bD mg)(g:mg "sorted" = none)(x:mg "min" = none)(bb:mg "max" = none)(bn:mg "dict" = none)(kt:l8 K)(kb:KitL K)(X:SCls K Cs)(MF:Mk K Cs bi)(mF:mg "Skin" = some (.ref Cs))(mM:mg "MOST_TRIPLES" = some (.int 200 tM))
  (y:Top K mg "first_of" jS f1 d1)
  (z:Top K mg "walked" jt f2 d2)
  (A:Top K mg "rim_steps" i9 f3 d3)
  (B:Top K mg "rims" j8 f4 d4)
  (C:Top K mg "piece_of" je f5 d5)
  (o:Top K mg "pieces" jv f6 d6)
  (D:Top K mg "many_sides" i6 f7 d7)
  (E:Top K mg "counted" jh f8 d8)
  (H:Top K mg "is_whole" jI f9 d9)
  (I:Top K mg "is_corner" ja cd dm)
  (L:Top K mg "is_triple" i_ ce dp)
  (M:Top K mg "checked_triples" jj cg dr)
  (N:Top K mg "thirds_by_side" jA ch ds)
  (O:Top K mg "steps_by_corner" jJ ci dx)
  (Q:Top K mg "hang_together" j9 cj dy)
  (R:Top K mg "look_rounds_through" jN cl dF)
  (S:Top K mg "begun_least" jV cm dK)
  (U:Top K mg "_law_at" sAt cn dL)
  (Y:Top K mg "_law_pot" ki cr dT)
  (d:Top K mg "_law_digit" jU cs dV)
  (p:Top K mg "_law_sides" jL ct d0)
  (f:Top K mg "_law_thirds" ju cv ea)
  (q:Top K mg "_law_free" j_ cw eb)
  (e:Top K mg "_law_corners" ji cx ec)
  (Z:Top K mg "_law_fans" ke c0 ed)
  (ab:Top K mg "_law_split" jK c1 ee)
  (ad:Top K mg "_law_drawn" jT c2 ef)
  (r:Top K mg "_law_rim_sides" i7 c3 eh)
  (al:Top K mg "_law_grown" jx c4 ei)
  (am:Top K mg "_law_ring" jQ c5 ej)
  (an:Top K mg "_law_beside" jg c6 ek)
  (ap:Top K mg "_law_skin" jP c8 el)
  (aM:Top K mg "_law_named" jM da em)
  (a0:Top K mg "_law_handed" jz db en)
  (a1:Top K mg "_law_rims" jR be bl)
  (a2:Top K mg "_law_pieces" jf dc eo)
  (a3:Top K mg "_law_right" jw dd ep)
  (a4:Top K mg "_law_wide" jO dj eq)
  (ev:Top K mg "law" eQ bg bm)
  (bt:InC K Cs "__init__" "Skin.__init__" d_ bi er)
  (a5:InC K Cs "corners" "Skin.corners" fZ dk es)
  (bd:InC K Cs "triangles" "Skin.triangles" fY dl et)
  : ak P w K mg base CX0 7 bg bm ["_law_script"] (j7 K):=by
 have b1:=y.u.binds (ps:=["onward"]) λ_ _ _ _ _ _ us c=>by obtain⟨a,rfl⟩:=len1 c;rfl
 have b2:=z.u.binds (ps:=["onward","begin"]) λ_ _ _ _ _ _ us c=>by obtain⟨a,b,rfl⟩:=len2 c;rfl
 have b3:=A.u.binds (ps:=["skin"]) λ_ _ _ _ _ _ us c=>by obtain⟨a,rfl⟩:=len1 c;rfl
 have b4:=B.u.binds (ps:=["skin"]) λ_ _ _ _ _ _ us c=>by obtain⟨a,rfl⟩:=len1 c;rfl
 have b5:=C.u.binds (ps:=["skin","corner"]) λ_ _ _ _ _ _ us c=>by obtain⟨a,b,rfl⟩:=len2 c;rfl
 have b6:=o.u.binds (ps:=["skin"]) λ_ _ _ _ _ _ us c=>by obtain⟨a,rfl⟩:=len1 c;rfl
 have b7:=D.u.binds (ps:=["skin"]) λ_ _ _ _ _ _ us c=>by obtain⟨a,rfl⟩:=len1 c;rfl
 have b8:=E.u.binds (ps:=["skin"]) λ_ _ _ _ _ _ us c=>by obtain⟨a,rfl⟩:=len1 c;rfl
 have b9:=H.u.binds (ps:=["thing"]) λ_ _ _ _ _ _ us c=>by obtain⟨a,rfl⟩:=len1 c;rfl
 have ew:=I.u.binds (ps:=["thing"]) λ_ _ _ _ _ _ us c=>by obtain⟨a,rfl⟩:=len1 c;rfl
 have ex:=L.u.binds (ps:=["thing"]) λ_ _ _ _ _ _ us c=>by obtain⟨a,rfl⟩:=len1 c;rfl
 have ey:=M.u.binds (ps:=["things"]) λ_ _ _ _ _ _ us c=>by obtain⟨a,rfl⟩:=len1 c;rfl
 have ez:=N.u.binds (ps:=["triples"]) λ_ _ _ _ _ _ us c=>by obtain⟨a,rfl⟩:=len1 c;rfl
 have eA:=O.u.binds (ps:=["thirds"]) λ_ _ _ _ _ _ us c=>by obtain⟨a,rfl⟩:=len1 c;rfl
 have eE:=Q.u.binds (ps:=["about"]) λ_ _ _ _ _ _ us c=>by obtain⟨a,rfl⟩:=len1 c;rfl
 have eH:=R.u.binds (ps:=["steps"]) λ_ _ _ _ _ _ us c=>by obtain⟨a,rfl⟩:=len1 c;rfl
 have eW:=S.u.binds (ps:=["triple"]) λ_ _ _ _ _ _ us c=>by obtain⟨a,rfl⟩:=len1 c;rfl
 have e0:=U.u.binds (ps:=["_law_script","_law_k"]) λ_ _ _ _ _ _ us c=>by obtain⟨a,b,rfl⟩:=len2 c;rfl
 have e1:=Y.u.binds (ps:=["_law_script","_law_k"]) λ_ _ _ _ _ _ us c=>by obtain⟨a,b,rfl⟩:=len2 c;rfl
 have h:=d.u.binds (ps:=["_law_pot_here","_law_base"]) λ_ _ _ _ _ _ us c=>by obtain⟨a,b,rfl⟩:=len2 c;rfl
 have bw:=p.u.binds (ps:=["_law_triple"]) λ_ _ _ _ _ _ us c=>by obtain⟨a,rfl⟩:=len1 c;rfl
 have s:=f.u.binds (ps:=["_law_triples"]) λ_ _ _ _ _ _ us c=>by obtain⟨a,rfl⟩:=len1 c;rfl
 have bx:=q.u.binds (ps:=["_law_thirds_here","_law_triple"]) λ_ _ _ _ _ _ us c=>by obtain⟨a,b,rfl⟩:=len2 c;rfl
 have l:=e.u.binds (ps:=["_law_triples"]) λ_ _ _ _ _ _ us c=>by obtain⟨a,rfl⟩:=len1 c;rfl
 have e2:=Z.u.binds (ps:=["_law_triples","_law_corner"]) λ_ _ _ _ _ _ us c=>by obtain⟨a,b,rfl⟩:=len2 c;rfl
 have e3:=ab.u.binds (ps:=["_law_triples"]) λ_ _ _ _ _ _ us c=>by obtain⟨a,rfl⟩:=len1 c;rfl
 have e4:=ad.u.binds (ps:=["_law_pot_here","_law_most"]) λ_ _ _ _ _ _ us c=>by obtain⟨a,b,rfl⟩:=len2 c;rfl
 have bA:=r.u.binds (ps:=["_law_triples"]) λ_ _ _ _ _ _ us c=>by obtain⟨a,rfl⟩:=len1 c;rfl
 have e5:=al.u.binds (ps:=["_law_pot_here","_law_most"]) λ_ _ _ _ _ _ us c=>by obtain⟨a,b,rfl⟩:=len2 c;rfl
 have e6:=am.u.binds (ps:=["_law_pot_here"]) λ_ _ _ _ _ _ us c=>by obtain⟨a,rfl⟩:=len1 c;rfl
 have e7:=an.u.binds (ps:=["_law_one","_law_other"]) λ_ _ _ _ _ _ us c=>by obtain⟨a,b,rfl⟩:=len2 c;rfl
 have e9:=ap.u.binds (ps:=["_law_pot_here","_law_most"]) λ_ _ _ _ _ _ us c=>by obtain⟨a,b,rfl⟩:=len2 c;rfl
 have fb:=aM.u.binds (ps:=["_law_pot_here","_law_triples"]) λ_ _ _ _ _ _ us c=>by obtain⟨a,b,rfl⟩:=len2 c;rfl
 have fd:=a0.u.binds (ps:=["_law_pot_here","_law_triples"]) λ_ _ _ _ _ _ us c=>by obtain⟨a,b,rfl⟩:=len2 c;rfl
 have fi:=a1.u.binds (ps:=["_law_triples"]) λ_ _ _ _ _ _ us c=>by obtain⟨a,rfl⟩:=len1 c;rfl
 have fj:=a2.u.binds (ps:=["_law_triples"]) λ_ _ _ _ _ _ us c=>by obtain⟨a,rfl⟩:=len1 c;rfl
 have fn:=a3.u.binds (ps:=["_law_skin_here","_law_triples"]) λ_ _ _ _ _ _ us c=>by obtain⟨a,b,rfl⟩:=len2 c;rfl
 have fo:=a4.u.binds (ps:=["_law_pot_here"]) λ_ _ _ _ _ _ us c=>by obtain⟨a,rfl⟩:=len1 c;rfl
 have fp:=bt.u.binds (ps:=["self","triples"]) λ_ _ _ _ _ _ us c=>by obtain⟨a,b,rfl⟩:=len2 c;rfl
 have bK:=a5.u.binds (ps:=["self"]) λ_ _ _ _ _ _ us c=>by obtain⟨a,rfl⟩:=len1 c;rfl
 have fv:=bd.u.binds (ps:=["self"]) λ_ _ _ _ _ _ us c=>by obtain⟨a,rfl⟩:=len1 c;rfl
 have g9:ak P w K mg base CX0 _ _ _ _ _:=zX H.u T kt;have fw:ak P w K mg base CX0 _ _ _ _ _:=wQ I.u ⟨g9,b9,H.m,H.u.kp⟩;have g1:ak P w K mg base CX0 _ _ _ _ _:=Ab y.u T x;have g2:ak P w K mg base CX0 _ _ _ _ _:=xr z.u;have g3:ak P w K mg base CX0 _ _ _ _ _:=wN A.u X;have g4:ak P w K mg base CX0 _ _ _ _ _:=BG B.u g ⟨g3,b3,A.m,A.u.kp⟩ ⟨g2,b2,z.m,z.u.kp⟩;have fx:ak P w K mg base CX0 _ _ _ _ _:=wO L.u T kt ⟨fw,ew,I.m,I.u.kp⟩;have fy:ak P w K mg base CX0 _ _ _ _ _:=xx M.u T ⟨fx,ex,L.m,L.u.kp⟩;have fA:ak P w K mg base CX0 _ _ _ _ _:=yp N.u T;have fF:ak P w K mg base CX0 _ _ _ _ _:=zY O.u;have f0:ak P w K mg base CX0 _ _ _ _ _:=BI Q.u T bn ⟨g1,b1,y.m,y.u.kp⟩;have ga:ak P w K mg base CX0 _ _ _ _ _:=ym R.u g ⟨f0,eE,Q.m,Q.u.kp⟩;have gb:ak P w K mg base CX0 _ _ _ _ _:=Ae S.u x;have gc:ak P w K mg base CX0 _ _ _ _ _:=z6 bt.u T g mM X ⟨fy,ey,M.m,M.u.kp⟩ ⟨fA,ez,N.m,N.u.kp⟩ ⟨fF,eA,O.m,O.u.kp⟩ ⟨ga,eH,R.m,R.u.kp⟩ ⟨gb,eW,S.m,S.u.kp⟩;have ge:ak P w K mg base CX0 _ _ _ _ _:=Dm Y.u U.u e0 U.m U.u.kp T;have i:ak P w K mg base CX0 _ _ _ _ _:=Ad d.u;have b0:ak P w K mg base CX0 _ _ _ _ _:=z7 p.u;have v:ak P w K mg base CX0 _ _ _ _ _:=ye f.u;have ca:ak P w K mg base CX0 _ _ _ _ _:=BJ q.u T ⟨b0,bw,p.m,p.u.kp⟩;have n:ak P w K mg base CX0 _ _ _ _ _:=xw e.u g;have gf:ak P w K mg base CX0 _ _ _ _ _:=BK Z.u g ⟨v,s,f.m,f.u.kp⟩;have gl:ak P w K mg base CX0 _ _ _ _ _:=zZ ab.u T bb ⟨n.mono (by decide),l,e.m,e.u.kp⟩ ⟨gf,e2,Z.m,Z.u.kp⟩;have gm:ak P w K mg base CX0 _ _ _ _ _:=Ac ad.u T ⟨i.mono (by decide),h,d.m,d.u.kp⟩ ⟨v.mono (by decide),s,f.m,f.u.kp⟩ ⟨ca,bx,q.m,q.u.kp⟩;have cb:ak P w K mg base CX0 _ _ _ _ _:=Dl r.u g ⟨v,s,f.m,f.u.kp⟩;have gn:ak P w K mg base CX0 _ _ _ _ _:=Aa al.u T ⟨i.mono (by decide),h,d.m,d.u.kp⟩ ⟨v.mono (by decide),s,f.m,f.u.kp⟩ ⟨ca,bx,q.m,q.u.kp⟩ ⟨cb,bA,r.m,r.u.kp⟩ ⟨n.mono (by decide),l,e.m,e.u.kp⟩;have go:ak P w K mg base CX0 _ _ _ _ _:=BF am.u T bb ⟨i.mono (by decide),h,d.m,d.u.kp⟩ ⟨n.mono (by decide),l,e.m,e.u.kp⟩ ⟨b0.mono (by decide),bw,p.m,p.u.kp⟩;have gs:ak P w K mg base CX0 _ _ _ _ _:=yq an.u T bb ⟨n.mono (by decide),l,e.m,e.u.kp⟩;have gt:ak P w K mg base CX0 _ _ _ _ _:=z_ ap.u ⟨i.mono (by decide),h,d.m,d.u.kp⟩ ⟨go,e6,am.m,am.u.kp⟩ ⟨gl,e3,ab.m,ab.u.kp⟩ ⟨gs,e7,an.m,an.u.kp⟩ ⟨gn,e5,al.m,al.u.kp⟩ ⟨gm,e4,ad.m,ad.u.kp⟩;have gu:ak P w K mg base CX0 _ _ _ _ _:=z9 aM.u T ⟨i,h,d.m,d.u.kp⟩ ⟨n,l,e.m,e.u.kp⟩;have gv:ak P w K mg base CX0 _ _ _ _ _:=yo a0.u T ⟨i,h,d.m,d.u.kp⟩;have gy:ak P w K mg base CX0 3 be bl ["_law_triples"] K71.spLRims:=K71.ok_lrims a1.u g bn x ⟨cb,bA,r.m,r.u.kp⟩;have cc:ak P w K mg base CX0 _ _ _ _ _:=wF a5.u X T;have gM:ak P w K mg base CX0 _ _ _ _ _:=wD bd.u X T;have g5:ak P w K mg base CX0 _ _ _ _ _:=xt C.u g X;have g6:ak P w K mg base CX0 _ _ _ _ _:=yj o.u X ⟨cc,bK,a5.m⟩ ⟨g5,b5,C.m,C.u.kp⟩;have g7:ak P w K mg base CX0 _ _ _ _ _:=BH D.u T X;have g8:ak P w K mg base CX0 _ _ _ _ _:=xv E.u T X ⟨cc,bK,a5.m⟩ ⟨gM,fv,bd.m⟩ ⟨g7,b7,D.m,D.u.kp⟩ ⟨g6,b6,o.m,o.u.kp⟩ ⟨g4,b4,B.m,B.u.kp⟩;have gN:ak P w K mg base CX0 _ _ _ _ _:=xu a2.u T g x ⟨n,l,e.m,e.u.kp⟩;have gS:ak P w K mg base CX0 _ _ _ _ _:=z8 a3.u T g kt kb ⟨v,s,f.m,f.u.kp⟩ ⟨gN,fj,a2.m,a2.u.kp⟩ ⟨n,l,e.m,e.u.kp⟩ ⟨gy,fi,a1.m,a1.u.kp⟩ ⟨g6,b6,o.m,o.u.kp⟩ ⟨g8,b8,E.m,E.u.kp⟩;have gT:ak P w K mg base CX0 _ _ _ _ _:=BE a4.u T ⟨i,h,d.m,d.u.kp⟩;exact Do ev.u T MF mF ⟨ge,e1,Y.m,Y.u.kp⟩ ⟨gv,fd,a0.m,a0.u.kp⟩ ⟨gu,fb,aM.m,aM.u.kp⟩ ⟨gt,e9,ap.m,ap.u.kp⟩ ⟨i,h,d.m,d.u.kp⟩ ⟨gT,fo,a4.m,a4.u.kp⟩ ⟨gS,fn,a3.m,a3.u.kp⟩ gc fp
end
theorem all_mk{l:W.OpenLaw}{h:Heap}{fa Cs:Addr}{f:Tok}(X:K.In h)(G:h.Ns mainGlobals mg)(g:mg "law" = some (.ref fa))
  (i:W.nsIn K mainGlobals "Skin" = some (some (.ref Cs)))
  (h1:aT K "first_of" jS)
  (h2:aT K "walked" jt)
  (m:aT K "rim_steps" i9)
  (n:aT K "rims" j8)
  (o:aT K "piece_of" je)
  (p:aT K "pieces" jv)
  (q:aT K "many_sides" i6)
  (r:aT K "counted" jh)
  (u:aT K "is_whole" jI)
  (x:aT K "is_corner" ja)
  (y:aT K "is_triple" i_)
  (z:aT K "checked_triples" jj)
  (A:aT K "thirds_by_side" jA)
  (B:aT K "steps_by_corner" jJ)
  (C:aT K "hang_together" j9)
  (D:aT K "look_rounds_through" jN)
  (E:aT K "begun_least" jV)
  (H:aT K "_law_at" sAt)
  (I:aT K "_law_pot" ki)
  (L:aT K "_law_digit" jU)
  (M:aT K "_law_sides" jL)
  (N:aT K "_law_thirds" ju)
  (O:aT K "_law_free" j_)
  (P:aT K "_law_corners" ji)
  (Q:aT K "_law_fans" ke)
  (R:aT K "_law_split" jK)
  (S:aT K "_law_drawn" jT)
  (U:aT K "_law_rim_sides" i7)
  (Y:aT K "_law_grown" jx)
  (Z:aT K "_law_ring" jQ)
  (ab:aT K "_law_beside" jg)
  (ad:aT K "_law_skin" jP)
  (al:aT K "_law_named" jM)
  (am:aT K "_law_handed" jz)
  (ap:aT K "_law_rims" jR)
  (a0:aT K "_law_pieces" jf)
  (a1:aT K "_law_right" jw)
  (a2:aT K "_law_wide" jO)
  (a3:aT K "law" eQ)
  (a4:InK K Cs "__init__" "Skin.__init__" d_)
  (a5:InK K Cs "corners" "Skin.corners" fZ)
  (bb:InK K Cs "triangles" "Skin.triangles" fY)
  (pg:W.plainGet K Cs Str.empty=true)
  (hd:W.hasDictIn K Cs=true)
  (po:W.plainOver K Cs=true)
  (sa:W.findIn K (.ref Cs) "__setattr__" = some (some (.builtin "object.__setattr__")))
  (mk:W.makesIn K Cs=true)
  (kc:W.keepIn K (.ref Cs)=true)
  (bd:W.findIn K (.ref Cs) "ordered" = some none)
  (be:W.findIn K (.ref Cs) "rising" = some none)
  (bg:W.findIn K (.ref Cs) "thirds" = some none)
  (bi:W.findIn K (.ref Cs) "steps" = some none)
  (aM:W.nsIn K mainGlobals "MOST_TRIPLES" = some (some (.int 200 f)))
  (bl:W.kitOne K (.type "tuple") (.type "tuple")=some true)
  (bm:W.kitOne K (.type "int") (.type "int")=some true)
  (bn:W.kitOne K (.type "int") (.type "bool")=some false)
  (bt:W.kitOne K (.type "list") (.type "list")=some true)
  (bw:W.nsIn K mainGlobals "len" = some none)
  (bx:W.nsIn K mainGlobals "int" = some none)
  (bA:W.nsIn K mainGlobals "str" = some none)
  (bK:W.nsIn K mainGlobals "isinstance" = some none)
  (b0:W.nsIn K mainGlobals "range" = some none)
  (b1:W.nsIn K mainGlobals "list" = some none)
  (b2:W.nsIn K mainGlobals "tuple" = some none)
  (b3:W.nsIn K mainGlobals "bool" = some none)
  (b4:W.nsIn K mainGlobals "all" = some none)
  (b5:W.nsIn K mainGlobals "ValueError" = some none)
  (b6:W.nsIn K mainGlobals "reversed" = some none)
  (b7:W.nsIn K mainGlobals "enumerate" = some none)
  (b8:W.nsIn K mainGlobals "sorted" = some none)
  (b9:W.nsIn K mainGlobals "min" = some none)
  (ca:W.nsIn K mainGlobals "max" = some none)
  (cb:W.nsIn K mainGlobals "dict" = some none)
  : ∃fd:FuncData,(∀(s:Shared)(v:Value),BindsTo s fd ⟨[v],[]⟩ [("_law_script",v)])/\∀base:Heap,K.In base->base.Ns mainGlobals mg->ak l.prog w K mg base CX0 7 fa fd ["_law_script"] (j7 K):=by
 obtain⟨dF,oc,od,an,sl,kV,dc,pm,cd,ct,a,l,c,k⟩:=a3;have e:=g.symm.trans (pA X G a);cases e;have T:bD mg:=⟨cU X G bw,cU X G bx,cU X G bA,cU X G bK,cU X G b0,cU X G b1,cU X G b2,cU X G b3,cU X G b4,cU X G b5,cU X G b6,cU X G b7⟩;have SC:SCls K Cs:=⟨⟨pg,hd,po,sa⟩,bd,be,bg,bi⟩;obtain⟨_,_,U1⟩:=aX X G h1;obtain⟨_,_,U2⟩:=aX X G h2;obtain⟨_,_,U3⟩:=aX X G m;obtain⟨_,_,U4⟩:=aX X G n;obtain⟨_,_,U5⟩:=aX X G o;obtain⟨_,_,U6⟩:=aX X G p;obtain⟨_,_,U7⟩:=aX X G q;obtain⟨_,_,U8⟩:=aX X G r;obtain⟨_,_,U9⟩:=aX X G u;obtain⟨_,_,cc⟩:=aX X G x;obtain⟨_,_,ce⟩:=aX X G y;obtain⟨_,_,cg⟩:=aX X G z;obtain⟨_,_,ch⟩:=aX X G A;obtain⟨_,_,ci⟩:=aX X G B;obtain⟨_,_,cj⟩:=aX X G C;obtain⟨_,_,cl⟩:=aX X G D;obtain⟨_,_,cm⟩:=aX X G E;obtain⟨_,_,cn⟩:=aX X G H;obtain⟨_,_,cr⟩:=aX X G I;obtain⟨_,_,cs⟩:=aX X G L;obtain⟨_,_,cv⟩:=aX X G M;obtain⟨_,_,cw⟩:=aX X G N;obtain⟨_,_,cx⟩:=aX X G O;obtain⟨_,_,c0⟩:=aX X G P;obtain⟨_,_,c1⟩:=aX X G Q;obtain⟨_,_,c2⟩:=aX X G R;obtain⟨_,_,c3⟩:=aX X G S;obtain⟨_,_,c4⟩:=aX X G U;obtain⟨_,_,c5⟩:=aX X G Y;obtain⟨_,_,c6⟩:=aX X G Z;obtain⟨_,_,c8⟩:=aX X G ab;obtain⟨_,_,da⟩:=aX X G ad;obtain⟨_,_,db⟩:=aX X G al;obtain⟨_,_,dd⟩:=aX X G am;obtain⟨_,_,dj⟩:=aX X G ap;obtain⟨_,_,dk⟩:=aX X G a0;obtain⟨_,_,dl⟩:=aX X G a1;obtain⟨_,_,dm⟩:=aX X G a2;obtain⟨dK,dL,dT,dV,d0,d1,d2,d3,d4,d5,b,d,dp,dr,ds⟩:=a4;obtain⟨_,_,dx⟩:=uP a5;obtain⟨_,_,dy⟩:=uP bb;exact⟨W.fnOf "law" "law" (bZ eQ) (bU eQ) (ax eQ) .none kV dc pm an cd ct,λs v=>.of_eq rfl,λbase _ _=>all_ok T (cU X G b8) (cU X G b9) (cU X G ca) (cU X G cb) ⟨bl,bm,bn⟩ ⟨bt⟩ SC ⟨mk,b,d,kc⟩ (pA X G i) (pA X G aM) U1 U2 U3 U4 U5 U6 U7 U8 U9 cc ce cg ch ci cj cl cm cn cr cs cv cw cx c0 c1 c2 c3 c4 c5 c6 c8 da db dd dj dk dl dm (tT (st:=eQ) X G a l c k) (uj (st:=d_) b d dp dr ds) dx dy⟩
theorem walk{l:W.OpenLaw}{q:Program}{loose:List Str}{XP:(Str->Option Value)->Heap->Prop}{YP:World->Heap->Prop}{d:DefRec}{K:Params->W.Frag}(b:l.most=some 63)(c:d.params.defaults=[])
  (e:∀(w:World)(h:Heap),YP w h->(K w.params).In h) (g:∀(w:World)(a:Addr)(o:Obj),(K w.params).lookup a=some o->o.cls≠.type "list")
  (F:∀(w:World)(mg:Str->Option Value)(fa:Addr)(h:Heap),(K w.params).In h->h.Ns mainGlobals mg->mg d.name=some (.ref fa)->
   ∃fd:FuncData,(∀(s:Shared)(u:Value),BindsTo s fd ⟨[u],[]⟩ [("_law_script",u)])/\∀base:Heap,(K w.params).In base->base.Ns mainGlobals mg->ak l.prog w (K w.params) mg base CX0 7 fa fd ["_law_script"] (j7 (K w.params))) :
  W.WalkO q loose XP YP l.row.toRowW d [] (λf vs=>PySem.call f vs):=
 L2.walk_of (n:=63) (k:=7) (x:="_law_script") (CX:=λ_=>CX0) (sp:=λw=>j7 (K w.params)) b (by decide) c ⟨rfl,by decide,by decide,rfl⟩ e F g (λ_ _ a ns i _ m=>⟨a,ns,rfl,m,i,λ_=>rfl⟩) λ_ _ _ _ _ z=>z
end K15
end
namespace K15
open PySem L2 PySem.W K51
theorem kf_nl(P:Params)(a:Addr)(o:Obj)(h:(kf P).lookup a=some o):o.cls≠.type "list":=uM (show _=true by kernel_rfl) h
end K15
def PySem.W.Fast.tw5601751086588136327:PySem.Program:=PySem.Challenge.pw_shapestring_k23_pieces_counted
theorem PySem.W.Fast.te5601751086588136327:PySem.Challenge.pw_shapestring_k23_pieces_counted=PySem.W.Fast.tw5601751086588136327:=rfl
open PySem PySem.W PyProof.Rows
set_option maxRecDepth 100000 in
set_option maxHeartbeats 0 in
theorem PySem.Challenge.cw_shapestring_k23_pieces_counted_holds : PySem.Challenge.rw_shapestring_k23_pieces_counted.Holds := by
 w_on;o_law
 refine W.holds_open (q:=K15.view) (loose:=[]) (Xt:=λs=>xlAt K15.view [] s&&recOk [] s) (XP:=XL K15.view []) (Yf:=Hook.obs (kHook K15.kf K15.ads (λ_=>by kernel_rfl))) (Ya:=Hook.val (kHook K15.kf K15.ads (λ_=>by kernel_rfl))) (YP:=Hook.says (kHook K15.kf K15.ads (λ_=>by kernel_rfl))) (N:=4500) K15.left (Hook.of _) (Hook.keeps _)
  (λs e=>xl_of s (Fl.mp e).1) XL.keeps (by rfl) (by rfl) (by rfl) (λs e=>recFacts_of (Fl.mp e).2) (by rfl) (by assumption) (by decide +kernel) ⟨rfl,rfl,rfl,rfl,rfl,by decide +kernel⟩ ?hw ?hc
 case hw=>w_witness2
 k_fill
 refine K15.walk (l:=PySem.Challenge.rw_shapestring_k23_pieces_counted) rfl rfl (λw h Y=>W.kIn_of Y) (λw=>K15.kf_nl w.params) ?F
 case F=>
  intro w mg fa h KX G hmg
  refine' K15.all_mk KX G hmg ?cs ?_ ?_ ?_ ?_ ?_ ?_ ?_ ?_ ?_ ?_ ?_ ?_ ?_ ?_ ?_ ?_ ?_ ?_ ?_ ?_ ?_ ?_ ?_ ?_ ?_ ?_ ?_ ?_ ?_ ?_ ?_ ?_ ?_ ?_ ?_ ?_ ?_ ?_ ?_ ?_ ?_ ?_ ?_ ?_ ?_ ?_ ?_ ?_ ?_ ?_ ?_ ?_ ?cm ?_ ?_ ?_ ?_ ?_ ?_ ?_ ?_ ?_ ?_ ?_ ?_ ?_ ?_ ?_ ?_ ?_ ?_ ?_ ?_
  (case cs=>k_is);(case cm=>k_is)
  all_goals first|k_is|(refine' K15.top_in ?a ?l ?c ?k;(case a=>k_is);(case l=>k_is);(case c=>k_is);(case k=>k_is))|(refine' K15.in_in ?a ?i ?l ?c ?k;(case a=>k_is);(case i=>k_is);(case l=>k_is);(case c=>k_is);(case k=>k_is))|kit_is
#print axioms PySem.Challenge.cw_shapestring_k23_pieces_counted_holds

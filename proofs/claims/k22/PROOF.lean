import PyProof.Rows.All
import Wide.All
import OpenK.AllK
import Wide.FinOn
import Lean
import PyProof.EqAt
import PyProof.EqKinds
import PyProof.TupleCall
import PyProof.NeData
import PyProof.P3In
import PyProof.DictItems
import KE.KPairComp
import PyProof.DictCompW
import PyProof.AttrMissHeap
import PyProof.DictUpdate
import PyProof.MeetsSeq3
import KE.KEqDict
import Open.Pieces
import KE.KRevIter
import KE.KRevSl
import PyProof.Draws
import PyProof.EnumMake
import KE.KItemsList
import PyProof.Rows.Chain
import PyProof.ReprRoads
import KE.KTryMore
import PySem.Challenge.RW_shapestring_k22_rims_told
set_option Elab.async false
set_option linter.all false
set_option maxRecDepth 100000
set_option maxHeartbeats 0
section
namespace L2
open PySem
def ao (s:Stmt):Arguments:=match s with
 | .FunctionDef _ a _ _ _ _ _ _ _ _=>a
 |_=>{posonlyargs:=[],args:=[],vararg:=none,kwonlyargs:=[],kw_defaults:=[],kwarg:=none,defaults:=[]}
def am (s:Stmt):List Stmt:=match s with
 | .FunctionDef _ _ b _ _ _ _ _ _ _=>b
 |_=>[]
def af (s:Stmt):Scope:=match s with
 | .FunctionDef _ _ _ _ _ _ sc _ _ _=>sc
 |_=>{kind:=.function,names:=[],isGenerator:=false,isCoroutine:=false}
end L2
namespace K51
open PySem L2
def vP:Nat:=25
def topP (i:Nat):Stmt:=PySem.Challenge.pw_shapestring_k22_rims_told.main.body.getD i (.Pass ⟨0,0,0,0⟩)
def top (i:Nat):Stmt:=topP (vP+i)
def tw (c j:Nat):Stmt:=match topP c with
 | .ClassDef _ _ _ body _ _ _ _ _ _ _=>body.getD j (.Pass ⟨0,0,0,0⟩)
 |_=>.Pass ⟨0,0,0,0⟩
abbrev dG:Stmt:=topP 2
abbrev cM:Stmt:=topP 3
abbrev bz:Stmt:=topP 5
abbrev e8:Stmt:=topP 6
abbrev du:Stmt:=topP 12
abbrev bH:Stmt:=topP 13
abbrev bE:Stmt:=topP 16
abbrev bZ:Stmt:=topP 17
abbrev cR:Stmt:=topP 18
abbrev dv:Stmt:=topP 19
abbrev e_:Stmt:=topP 20
abbrev dB:Stmt:=topP 21
abbrev dJ:Stmt:=topP 22
abbrev eA:Stmt:=tw 23 0
abbrev sAt:Stmt:=top 0
abbrev sPot:Stmt:=top 1
abbrev dI:Stmt:=top 2
abbrev dz:Stmt:=top 3
abbrev cN:Stmt:=top 4
abbrev fc:Stmt:=top 5
abbrev bY:Stmt:=top 6
abbrev fe:Stmt:=top 7
abbrev dw:Stmt:=top 8
abbrev dH:Stmt:=top 9
abbrev bo:Stmt:=top 10
abbrev cP:Stmt:=top 11
abbrev dD:Stmt:=top 12
abbrev bX:Stmt:=top 13
abbrev dC:Stmt:=top 14
abbrev dA:Stmt:=top 15
abbrev cQ:Stmt:=top 16
abbrev dE:Stmt:=top 17
abbrev cO:Stmt:=top 18
abbrev sLaw:Stmt:=top 19
end K51
end
section
namespace K15
open PySem L2 PySem.W K51
noncomputable def kf:Params→Frag:=fun P=>
 (nat_lit 2,⟨.none,none,(.dict #[] 0),#[]⟩) ::
 (nat_lit 3,⟨(.type "dict"),none,(.dict #[(PySem.DictEntry.mk (PySem.PyData.keyHash P "__name__") (.str "__name__" 165) (.str "law_shapestring_k22_rims_told" 435)),(PySem.DictEntry.mk (PySem.PyData.keyHash P "__doc__") (.str "__doc__" 166) .none),(PySem.DictEntry.mk (PySem.PyData.keyHash P "__package__") (.str "__package__" 167) .none),(PySem.DictEntry.mk (PySem.PyData.keyHash P "__loader__") (.str "__loader__" 168) (.builtin "__main__.__loader__#opaque")),(PySem.DictEntry.mk (PySem.PyData.keyHash P "__spec__") (.str "__spec__" 169) .none),(PySem.DictEntry.mk (PySem.PyData.keyHash P "__annotations__") (.str "__annotations__" 170) (.ref 6)),(PySem.DictEntry.mk (PySem.PyData.keyHash P "__builtins__") (.str "__builtins__" 171) (.ref 4)),(PySem.DictEntry.mk (PySem.PyData.keyHash P "__file__") (.str "__file__" 173) (.str "/claim/cut.py" 172)),(PySem.DictEntry.mk (PySem.PyData.keyHash P "__cached__") (.str "__cached__" 174) .none),(PySem.DictEntry.mk (PySem.PyData.keyHash P "_wall") (.str "_wall" 193) (.ref 21)),(PySem.DictEntry.mk (PySem.PyData.keyHash P "first_of") (.str "first_of" 201) (.ref 26)),(PySem.DictEntry.mk (PySem.PyData.keyHash P "walked") (.str "walked" 210) (.ref 33)),(PySem.DictEntry.mk (PySem.PyData.keyHash P "rim_steps") (.str "rim_steps" 218) (.ref 38)),(PySem.DictEntry.mk (PySem.PyData.keyHash P "rims") (.str "rims" 224) (.ref 43)),(PySem.DictEntry.mk (PySem.PyData.keyHash P "ShapeError") (.str "ShapeError" 244) (.ref 53)),(PySem.DictEntry.mk (PySem.PyData.keyHash P "TooMany") (.str "TooMany" 260) (.ref 66)),(PySem.DictEntry.mk (PySem.PyData.keyHash P "NoSkin") (.str "NoSkin" 285) (.ref 85)),(PySem.DictEntry.mk (PySem.PyData.keyHash P "is_whole") (.str "is_whole" 294) (.ref 94)),(PySem.DictEntry.mk (PySem.PyData.keyHash P "is_corner") (.str "is_corner" 301) (.ref 101)),(PySem.DictEntry.mk (PySem.PyData.keyHash P "MOST_TRIPLES") (.str "MOST_TRIPLES" 305) (.int 200 304)),(PySem.DictEntry.mk (PySem.PyData.keyHash P "is_triple") (.str "is_triple" 315) (.ref 108)),(PySem.DictEntry.mk (PySem.PyData.keyHash P "checked_triples") (.str "checked_triples" 328) (.ref 115)),(PySem.DictEntry.mk (PySem.PyData.keyHash P "thirds_by_side") (.str "thirds_by_side" 342) (.ref 122)),(PySem.DictEntry.mk (PySem.PyData.keyHash P "steps_by_corner") (.str "steps_by_corner" 354) (.ref 129)),(PySem.DictEntry.mk (PySem.PyData.keyHash P "hang_together") (.str "hang_together" 363) (.ref 136)),(PySem.DictEntry.mk (PySem.PyData.keyHash P "look_rounds_through") (.str "look_rounds_through" 371) (.ref 143)),(PySem.DictEntry.mk (PySem.PyData.keyHash P "begun_least") (.str "begun_least" 381) (.ref 150)),(PySem.DictEntry.mk (PySem.PyData.keyHash P "Skin") (.str "Skin" 434) (.ref 186)),(PySem.DictEntry.mk (PySem.PyData.keyHash P "_law_at") (.str "_law_at" 444) (.ref 197)),(PySem.DictEntry.mk (PySem.PyData.keyHash P "_law_pot") (.str "_law_pot" 455) (.ref 204)),(PySem.DictEntry.mk (PySem.PyData.keyHash P "_law_digit") (.str "_law_digit" 464) (.ref 211)),(PySem.DictEntry.mk (PySem.PyData.keyHash P "_law_sides") (.str "_law_sides" 474) (.ref 218)),(PySem.DictEntry.mk (PySem.PyData.keyHash P "_law_thirds") (.str "_law_thirds" 485) (.ref 225)),(PySem.DictEntry.mk (PySem.PyData.keyHash P "_law_free") (.str "_law_free" 491) (.ref 230)),(PySem.DictEntry.mk (PySem.PyData.keyHash P "_law_corners") (.str "_law_corners" 501) (.ref 237)),(PySem.DictEntry.mk (PySem.PyData.keyHash P "_law_fans") (.str "_law_fans" 507) (.ref 242)),(PySem.DictEntry.mk (PySem.PyData.keyHash P "_law_split") (.str "_law_split" 513) (.ref 247)),(PySem.DictEntry.mk (PySem.PyData.keyHash P "_law_drawn") (.str "_law_drawn" 519) (.ref 252)),(PySem.DictEntry.mk (PySem.PyData.keyHash P "_law_rim_sides") (.str "_law_rim_sides" 525) (.ref 257)),(PySem.DictEntry.mk (PySem.PyData.keyHash P "_law_grown") (.str "_law_grown" 531) (.ref 262)),(PySem.DictEntry.mk (PySem.PyData.keyHash P "_law_ring") (.str "_law_ring" 537) (.ref 267)),(PySem.DictEntry.mk (PySem.PyData.keyHash P "_law_beside") (.str "_law_beside" 543) (.ref 272)),(PySem.DictEntry.mk (PySem.PyData.keyHash P "_law_skin") (.str "_law_skin" 552) (.ref 279)),(PySem.DictEntry.mk (PySem.PyData.keyHash P "_law_named") (.str "_law_named" 558) (.ref 284)),(PySem.DictEntry.mk (PySem.PyData.keyHash P "_law_handed") (.str "_law_handed" 571) (.ref 291)),(PySem.DictEntry.mk (PySem.PyData.keyHash P "_law_rims") (.str "_law_rims" 582) (.ref 298)),(PySem.DictEntry.mk (PySem.PyData.keyHash P "_law_right") (.str "_law_right" 588) (.ref 303)),(PySem.DictEntry.mk (PySem.PyData.keyHash P "law") (.str "law" 594) (.ref 308))] 48),#[]⟩) ::
 (nat_lit 25,⟨(.type "code"),none,(.fields #[(.str "first_of" 196),(.str "first_of" 197),(.str "/claim/cut.py" 198),(.int 5 0),(.int 1 0),(.int 0 0),(.int 0 0),(.int 3 0),(.ref 22),(.bool Bool.true),(.int 181 0),(.ref 23),.none,.none,.none,(.ref 24),(.int 199 0),(.int 5 0),(.str "/claim/cut.py" 200)]),#[]⟩) ::
 (nat_lit 26,⟨(.type "function"),none,(.func (fnOf "first_of" "first_of" (ao dG) (am dG) (af dG) .none .none .none (.str "shapestring.rings" 194) none (.ref 25) .none)),#[]⟩) ::
 (nat_lit 32,⟨(.type "code"),none,(.fields #[(.str "walked" 202),(.str "walked" 203),(.str "/claim/cut.py" 204),(.int 9 0),(.int 2 0),(.int 0 0),(.int 0 0),(.int 3 0),(.ref 27),(.bool Bool.true),(.int 181 0),(.ref 28),.none,(.ref 29),(.ref 30),(.ref 31),(.int 208 0),(.int 9 0),(.str "/claim/cut.py" 209)]),#[]⟩) ::
 (nat_lit 33,⟨(.type "function"),none,(.func (fnOf "walked" "walked" (ao cM) (am cM) (af cM) .none .none .none (.str "shapestring.rings" 194) none (.ref 32) .none)),#[]⟩) ::
 (nat_lit 37,⟨(.type "code"),none,(.fields #[(.str "rim_steps" 213),(.str "rim_steps" 214),(.str "/claim/cut.py" 215),(.int 15 0),(.int 1 0),(.int 0 0),(.int 0 0),(.int 3 0),(.ref 34),(.bool Bool.true),(.int 181 0),(.ref 35),.none,.none,.none,(.ref 36),(.int 216 0),(.int 15 0),(.str "/claim/cut.py" 217)]),#[]⟩) ::
 (nat_lit 38,⟨(.type "function"),none,(.func (fnOf "rim_steps" "rim_steps" (ao bz) (am bz) (af bz) .none .none .none (.str "shapestring.rims" 211) none (.ref 37) .none)),#[]⟩) ::
 (nat_lit 42,⟨(.type "code"),none,(.fields #[(.str "rims" 219),(.str "rims" 220),(.str "/claim/cut.py" 221),(.int 17 0),(.int 1 0),(.int 0 0),(.int 0 0),(.int 3 0),(.ref 39),(.bool Bool.true),(.int 181 0),(.ref 40),.none,.none,.none,(.ref 41),(.int 222 0),(.int 17 0),(.str "/claim/cut.py" 223)]),#[]⟩) ::
 (nat_lit 43,⟨(.type "function"),none,(.func (fnOf "rims" "rims" (ao e8) (am e8) (af e8) .none .none .none (.str "shapestring.rims" 211) none (.ref 42) .none)),#[]⟩) ::
 (nat_lit 93,⟨(.type "code"),none,(.fields #[(.str "is_whole" 288),(.str "is_whole" 289),(.str "/claim/cut.py" 290),(.int 38 0),(.int 1 0),(.int 0 0),(.int 0 0),(.int 3 0),(.ref 88),(.bool Bool.true),(.int 181 0),(.ref 89),.none,(.ref 90),(.ref 91),(.ref 92),(.int 292 0),(.int 38 0),(.str "/claim/cut.py" 293)]),#[]⟩) ::
 (nat_lit 94,⟨(.type "function"),none,(.func (fnOf "is_whole" "is_whole" (ao du) (am du) (af du) .none .none .none (.str "shapestring.kinds" 286) none (.ref 93) .none)),#[]⟩) ::
 (nat_lit 100,⟨(.type "code"),none,(.fields #[(.str "is_corner" 295),(.str "is_corner" 296),(.str "/claim/cut.py" 297),(.int 40 0),(.int 1 0),(.int 0 0),(.int 0 0),(.int 3 0),(.ref 95),(.bool Bool.true),(.int 181 0),(.ref 96),.none,(.ref 97),(.ref 98),(.ref 99),(.int 299 0),(.int 40 0),(.str "/claim/cut.py" 300)]),#[]⟩) ::
 (nat_lit 101,⟨(.type "function"),none,(.func (fnOf "is_corner" "is_corner" (ao bH) (am bH) (af bH) .none .none .none (.str "shapestring.kinds" 286) none (.ref 100) .none)),#[]⟩) ::
 (nat_lit 107,⟨(.type "code"),none,(.fields #[(.str "is_triple" 306),(.str "is_triple" 307),(.str "/claim/cut.py" 308),(.int 44 0),(.int 1 0),(.int 0 0),(.int 0 0),(.int 3 0),(.ref 102),(.bool Bool.true),(.int 181 0),(.ref 103),.none,(.ref 104),(.ref 105),(.ref 106),(.int 313 0),(.int 44 0),(.str "/claim/cut.py" 314)]),#[]⟩) ::
 (nat_lit 108,⟨(.type "function"),none,(.func (fnOf "is_triple" "is_triple" (ao bE) (am bE) (af bE) .none .none .none (.str "shapestring.skins" 302) none (.ref 107) .none)),#[]⟩) ::
 (nat_lit 114,⟨(.type "code"),none,(.fields #[(.str "checked_triples" 316),(.str "checked_triples" 317),(.str "/claim/cut.py" 318),(.int 51 0),(.int 1 0),(.int 0 0),(.int 0 0),(.int 3 0),(.ref 109),(.bool Bool.true),(.int 181 0),(.ref 110),.none,(.ref 111),(.ref 112),(.ref 113),(.int 326 0),(.int 51 0),(.str "/claim/cut.py" 327)]),#[]⟩) ::
 (nat_lit 115,⟨(.type "function"),none,(.func (fnOf "checked_triples" "checked_triples" (ao bZ) (am bZ) (af bZ) .none .none .none (.str "shapestring.skins" 302) none (.ref 114) .none)),#[]⟩) ::
 (nat_lit 121,⟨(.type "code"),none,(.fields #[(.str "thirds_by_side" 329),(.str "thirds_by_side" 330),(.str "/claim/cut.py" 331),(.int 59 0),(.int 1 0),(.int 0 0),(.int 0 0),(.int 3 0),(.ref 116),(.bool Bool.true),(.int 181 0),(.ref 117),.none,(.ref 118),(.ref 119),(.ref 120),(.int 340 0),(.int 59 0),(.str "/claim/cut.py" 341)]),#[]⟩) ::
 (nat_lit 122,⟨(.type "function"),none,(.func (fnOf "thirds_by_side" "thirds_by_side" (ao cR) (am cR) (af cR) .none .none .none (.str "shapestring.skins" 302) none (.ref 121) .none)),#[]⟩) ::
 (nat_lit 128,⟨(.type "code"),none,(.fields #[(.str "steps_by_corner" 343),(.str "steps_by_corner" 344),(.str "/claim/cut.py" 345),(.int 67 0),(.int 1 0),(.int 0 0),(.int 0 0),(.int 3 0),(.ref 123),(.bool Bool.true),(.int 181 0),(.ref 124),.none,(.ref 125),(.ref 126),(.ref 127),(.int 352 0),(.int 67 0),(.str "/claim/cut.py" 353)]),#[]⟩) ::
 (nat_lit 129,⟨(.type "function"),none,(.func (fnOf "steps_by_corner" "steps_by_corner" (ao dv) (am dv) (af dv) .none .none .none (.str "shapestring.skins" 302) none (.ref 128) .none)),#[]⟩) ::
 (nat_lit 135,⟨(.type "code"),none,(.fields #[(.str "hang_together" 355),(.str "hang_together" 356),(.str "/claim/cut.py" 357),(.int 73 0),(.int 1 0),(.int 0 0),(.int 0 0),(.int 3 0),(.ref 130),(.bool Bool.true),(.int 181 0),(.ref 131),.none,(.ref 132),(.ref 133),(.ref 134),(.int 361 0),(.int 73 0),(.str "/claim/cut.py" 362)]),#[]⟩) ::
 (nat_lit 136,⟨(.type "function"),none,(.func (fnOf "hang_together" "hang_together" (ao e_) (am e_) (af e_) .none .none .none (.str "shapestring.skins" 302) none (.ref 135) .none)),#[]⟩) ::
 (nat_lit 142,⟨(.type "code"),none,(.fields #[(.str "look_rounds_through" 364),(.str "look_rounds_through" 365),(.str "/claim/cut.py" 366),(.int 79 0),(.int 1 0),(.int 0 0),(.int 0 0),(.int 3 0),(.ref 137),(.bool Bool.true),(.int 181 0),(.ref 138),.none,(.ref 139),(.ref 140),(.ref 141),(.int 369 0),(.int 79 0),(.str "/claim/cut.py" 370)]),#[]⟩) ::
 (nat_lit 143,⟨(.type "function"),none,(.func (fnOf "look_rounds_through" "look_rounds_through" (ao dB) (am dB) (af dB) .none .none .none (.str "shapestring.skins" 302) none (.ref 142) .none)),#[]⟩) ::
 (nat_lit 149,⟨(.type "code"),none,(.fields #[(.str "begun_least" 372),(.str "begun_least" 373),(.str "/claim/cut.py" 374),(.int 83 0),(.int 1 0),(.int 0 0),(.int 0 0),(.int 3 0),(.ref 144),(.bool Bool.true),(.int 181 0),(.ref 145),.none,(.ref 146),(.ref 147),(.ref 148),(.int 379 0),(.int 83 0),(.str "/claim/cut.py" 380)]),#[]⟩) ::
 (nat_lit 150,⟨(.type "function"),none,(.func (fnOf "begun_least" "begun_least" (ao dJ) (am dJ) (af dJ) .none .none .none (.str "shapestring.skins" 302) none (.ref 149) .none)),#[]⟩) ::
 (nat_lit 161,⟨(.type "code"),none,(.fields #[(.str "__init__" 394),(.str "Skin.__init__" 395),(.str "/claim/cut.py" 396),(.int 88 0),(.int 2 0),(.int 0 0),(.int 0 0),(.int 3 0),(.ref 158),(.bool Bool.true),(.int 181 0),(.ref 159),.none,.none,.none,(.ref 160),(.int 397 0),(.int 88 0),(.str "/claim/cut.py" 398)]),#[]⟩) ::
 (nat_lit 162,⟨(.type "function"),none,(.func (fnOf "__init__" "Skin.__init__" (ao eA) (am eA) (af eA) .none .none .none (.str "shapestring.skins" 302) none (.ref 161) .none)),#[]⟩) ::
 (nat_lit 185,⟨(.type "dict"),none,(.dict #[(PySem.DictEntry.mk (PySem.PyData.keyHash P "__module__") (.str "__module__" 389) (.str "shapestring.skins" 302)),(PySem.DictEntry.mk (PySem.PyData.keyHash P "__firstlineno__") (.str "__firstlineno__" 393) (.int 86 392)),(PySem.DictEntry.mk (PySem.PyData.keyHash P "__init__") (.str "__init__" 399) (.ref 162)),(PySem.DictEntry.mk (PySem.PyData.keyHash P "triangles") (.str "triangles" 406) (.ref 169)),(PySem.DictEntry.mk (PySem.PyData.keyHash P "corners") (.str "corners" 413) (.ref 176)),(PySem.DictEntry.mk (PySem.PyData.keyHash P "third") (.str "third" 422) (.ref 183)),(PySem.DictEntry.mk (PySem.PyData.keyHash P "__static_attributes__") (.str "__static_attributes__" 427) (.ref 184)),(PySem.DictEntry.mk (PySem.PyData.keyHash P "__dict__") (.str "__dict__" 429) (.ref 187)),(PySem.DictEntry.mk (PySem.PyData.keyHash P "__weakref__") (.str "__weakref__" 431) (.ref 188)),(PySem.DictEntry.mk (PySem.PyData.keyHash P "__doc__") (.str "__doc__" 432) .none)] 4),#[]⟩) ::
 (nat_lit 186,⟨(.type "type"),none,(.cls (PySem.ClassData.mk "Skin" [(.type "object")] [(.ref 186),(.type "object")] 185 "Skin" Bool.true [] [] Bool.false none Bool.false)),#[none,none,(Option.some (.str "Skin" 382)),(Option.some (.str "Skin" 390)),(Option.some (.builtin "object.__new__")),(Option.some (.bool Bool.true))]⟩) ::
 (nat_lit 187,⟨(.type "getset_descriptor"),none,(.fields #[(.str "__dict__" 428),(.ref 186),(.builtin "function.__dict__"),(.builtin "function.__dict__#set")]),#[]⟩) ::
 (nat_lit 188,⟨(.type "getset_descriptor"),none,(.fields #[(.str "__weakref__" 430),(.ref 186),(.builtin "ExceptionGroup.__weakref__"),.none]),#[]⟩) ::
 (nat_lit 196,⟨(.type "code"),none,(.fields #[(.str "_law_at" 437),(.str "_law_at" 438),(.str "/claim/cut.py" 439),(.int 109 0),(.int 2 0),(.int 0 0),(.int 0 0),(.int 3 0),(.ref 191),(.bool Bool.true),(.int 181 0),(.ref 192),.none,(.ref 193),(.ref 194),(.ref 195),(.int 442 0),(.int 109 0),(.str "/claim/cut.py" 443)]),#[]⟩) ::
 (nat_lit 197,⟨(.type "function"),none,(.func (fnOf "_law_at" "_law_at" (ao sAt) (am sAt) (af sAt) .none .none .none (.str "law_shapestring_k22_rims_told" 435) none (.ref 196) .none)),#[]⟩) ::
 (nat_lit 203,⟨(.type "code"),none,(.fields #[(.str "_law_pot" 445),(.str "_law_pot" 446),(.str "/claim/cut.py" 447),(.int 113 0),(.int 2 0),(.int 0 0),(.int 0 0),(.int 3 0),(.ref 198),(.bool Bool.true),(.int 181 0),(.ref 199),.none,(.ref 200),(.ref 201),(.ref 202),(.int 453 0),(.int 113 0),(.str "/claim/cut.py" 454)]),#[]⟩) ::
 (nat_lit 204,⟨(.type "function"),none,(.func (fnOf "_law_pot" "_law_pot" (ao sPot) (am sPot) (af sPot) .none .none .none (.str "law_shapestring_k22_rims_told" 435) none (.ref 203) .none)),#[]⟩) ::
 (nat_lit 210,⟨(.type "code"),none,(.fields #[(.str "_law_digit" 456),(.str "_law_digit" 457),(.str "/claim/cut.py" 458),(.int 121 0),(.int 2 0),(.int 0 0),(.int 0 0),(.int 3 0),(.ref 205),(.bool Bool.true),(.int 181 0),(.ref 206),.none,(.ref 207),(.ref 208),(.ref 209),(.int 462 0),(.int 121 0),(.str "/claim/cut.py" 463)]),#[]⟩) ::
 (nat_lit 211,⟨(.type "function"),none,(.func (fnOf "_law_digit" "_law_digit" (ao dI) (am dI) (af dI) .none .none .none (.str "law_shapestring_k22_rims_told" 435) none (.ref 210) .none)),#[]⟩) ::
 (nat_lit 217,⟨(.type "code"),none,(.fields #[(.str "_law_sides" 465),(.str "_law_sides" 466),(.str "/claim/cut.py" 467),(.int 128 0),(.int 1 0),(.int 0 0),(.int 0 0),(.int 3 0),(.ref 212),(.bool Bool.true),(.int 181 0),(.ref 213),.none,(.ref 214),(.ref 215),(.ref 216),(.int 472 0),(.int 128 0),(.str "/claim/cut.py" 473)]),#[]⟩) ::
 (nat_lit 218,⟨(.type "function"),none,(.func (fnOf "_law_sides" "_law_sides" (ao dz) (am dz) (af dz) .none .none .none (.str "law_shapestring_k22_rims_told" 435) none (.ref 217) .none)),#[]⟩) ::
 (nat_lit 224,⟨(.type "code"),none,(.fields #[(.str "_law_thirds" 475),(.str "_law_thirds" 476),(.str "/claim/cut.py" 477),(.int 131 0),(.int 1 0),(.int 0 0),(.int 0 0),(.int 3 0),(.ref 219),(.bool Bool.true),(.int 181 0),(.ref 220),.none,(.ref 221),(.ref 222),(.ref 223),(.int 483 0),(.int 131 0),(.str "/claim/cut.py" 484)]),#[]⟩) ::
 (nat_lit 225,⟨(.type "function"),none,(.func (fnOf "_law_thirds" "_law_thirds" (ao cN) (am cN) (af cN) .none .none .none (.str "law_shapestring_k22_rims_told" 435) none (.ref 224) .none)),#[]⟩) ::
 (nat_lit 229,⟨(.type "code"),none,(.fields #[(.str "_law_free" 486),(.str "_law_free" 487),(.str "/claim/cut.py" 488),(.int 138 0),(.int 2 0),(.int 0 0),(.int 0 0),(.int 3 0),(.ref 226),(.bool Bool.true),(.int 181 0),(.ref 227),.none,.none,.none,(.ref 228),(.int 489 0),(.int 138 0),(.str "/claim/cut.py" 490)]),#[]⟩) ::
 (nat_lit 230,⟨(.type "function"),none,(.func (fnOf "_law_free" "_law_free" (ao fc) (am fc) (af fc) .none .none .none (.str "law_shapestring_k22_rims_told" 435) none (.ref 229) .none)),#[]⟩) ::
 (nat_lit 236,⟨(.type "code"),none,(.fields #[(.str "_law_corners" 492),(.str "_law_corners" 493),(.str "/claim/cut.py" 494),(.int 140 0),(.int 1 0),(.int 0 0),(.int 0 0),(.int 3 0),(.ref 231),(.bool Bool.true),(.int 181 0),(.ref 232),.none,(.ref 233),(.ref 234),(.ref 235),(.int 499 0),(.int 140 0),(.str "/claim/cut.py" 500)]),#[]⟩) ::
 (nat_lit 237,⟨(.type "function"),none,(.func (fnOf "_law_corners" "_law_corners" (ao bY) (am bY) (af bY) .none .none .none (.str "law_shapestring_k22_rims_told" 435) none (.ref 236) .none)),#[]⟩) ::
 (nat_lit 241,⟨(.type "code"),none,(.fields #[(.str "_law_fans" 502),(.str "_law_fans" 503),(.str "/claim/cut.py" 504),(.int 146 0),(.int 2 0),(.int 0 0),(.int 0 0),(.int 3 0),(.ref 238),(.bool Bool.true),(.int 181 0),(.ref 239),.none,.none,.none,(.ref 240),(.int 505 0),(.int 146 0),(.str "/claim/cut.py" 506)]),#[]⟩) ::
 (nat_lit 242,⟨(.type "function"),none,(.func (fnOf "_law_fans" "_law_fans" (ao fe) (am fe) (af fe) .none .none .none (.str "law_shapestring_k22_rims_told" 435) none (.ref 241) .none)),#[]⟩) ::
 (nat_lit 246,⟨(.type "code"),none,(.fields #[(.str "_law_split" 508),(.str "_law_split" 509),(.str "/claim/cut.py" 510),(.int 159 0),(.int 1 0),(.int 0 0),(.int 0 0),(.int 3 0),(.ref 243),(.bool Bool.true),(.int 181 0),(.ref 244),.none,.none,.none,(.ref 245),(.int 511 0),(.int 159 0),(.str "/claim/cut.py" 512)]),#[]⟩) ::
 (nat_lit 247,⟨(.type "function"),none,(.func (fnOf "_law_split" "_law_split" (ao dw) (am dw) (af dw) .none .none .none (.str "law_shapestring_k22_rims_told" 435) none (.ref 246) .none)),#[]⟩) ::
 (nat_lit 251,⟨(.type "code"),none,(.fields #[(.str "_law_drawn" 514),(.str "_law_drawn" 515),(.str "/claim/cut.py" 516),(.int 173 0),(.int 2 0),(.int 0 0),(.int 0 0),(.int 3 0),(.ref 248),(.bool Bool.true),(.int 181 0),(.ref 249),.none,.none,.none,(.ref 250),(.int 517 0),(.int 173 0),(.str "/claim/cut.py" 518)]),#[]⟩) ::
 (nat_lit 252,⟨(.type "function"),none,(.func (fnOf "_law_drawn" "_law_drawn" (ao dH) (am dH) (af dH) .none .none .none (.str "law_shapestring_k22_rims_told" 435) none (.ref 251) .none)),#[]⟩) ::
 (nat_lit 256,⟨(.type "code"),none,(.fields #[(.str "_law_rim_sides" 520),(.str "_law_rim_sides" 521),(.str "/claim/cut.py" 522),(.int 183 0),(.int 1 0),(.int 0 0),(.int 0 0),(.int 3 0),(.ref 253),(.bool Bool.true),(.int 181 0),(.ref 254),.none,.none,.none,(.ref 255),(.int 523 0),(.int 183 0),(.str "/claim/cut.py" 524)]),#[]⟩) ::
 (nat_lit 257,⟨(.type "function"),none,(.func (fnOf "_law_rim_sides" "_law_rim_sides" (ao bo) (am bo) (af bo) .none .none .none (.str "law_shapestring_k22_rims_told" 435) none (.ref 256) .none)),#[]⟩) ::
 (nat_lit 261,⟨(.type "code"),none,(.fields #[(.str "_law_grown" 526),(.str "_law_grown" 527),(.str "/claim/cut.py" 528),(.int 186 0),(.int 2 0),(.int 0 0),(.int 0 0),(.int 3 0),(.ref 258),(.bool Bool.true),(.int 181 0),(.ref 259),.none,.none,.none,(.ref 260),(.int 529 0),(.int 186 0),(.str "/claim/cut.py" 530)]),#[]⟩) ::
 (nat_lit 262,⟨(.type "function"),none,(.func (fnOf "_law_grown" "_law_grown" (ao cP) (am cP) (af cP) .none .none .none (.str "law_shapestring_k22_rims_told" 435) none (.ref 261) .none)),#[]⟩) ::
 (nat_lit 266,⟨(.type "code"),none,(.fields #[(.str "_law_ring" 532),(.str "_law_ring" 533),(.str "/claim/cut.py" 534),(.int 201 0),(.int 1 0),(.int 0 0),(.int 0 0),(.int 3 0),(.ref 263),(.bool Bool.true),(.int 181 0),(.ref 264),.none,.none,.none,(.ref 265),(.int 535 0),(.int 201 0),(.str "/claim/cut.py" 536)]),#[]⟩) ::
 (nat_lit 267,⟨(.type "function"),none,(.func (fnOf "_law_ring" "_law_ring" (ao dD) (am dD) (af dD) .none .none .none (.str "law_shapestring_k22_rims_told" 435) none (.ref 266) .none)),#[]⟩) ::
 (nat_lit 271,⟨(.type "code"),none,(.fields #[(.str "_law_beside" 538),(.str "_law_beside" 539),(.str "/claim/cut.py" 540),(.int 213 0),(.int 2 0),(.int 0 0),(.int 0 0),(.int 3 0),(.ref 268),(.bool Bool.true),(.int 181 0),(.ref 269),.none,.none,.none,(.ref 270),(.int 541 0),(.int 213 0),(.str "/claim/cut.py" 542)]),#[]⟩) ::
 (nat_lit 272,⟨(.type "function"),none,(.func (fnOf "_law_beside" "_law_beside" (ao bX) (am bX) (af bX) .none .none .none (.str "law_shapestring_k22_rims_told" 435) none (.ref 271) .none)),#[]⟩) ::
 (nat_lit 278,⟨(.type "code"),none,(.fields #[(.str "_law_skin" 544),(.str "_law_skin" 545),(.str "/claim/cut.py" 546),(.int 216 0),(.int 2 0),(.int 0 0),(.int 0 0),(.int 3 0),(.ref 273),(.bool Bool.true),(.int 181 0),(.ref 274),.none,(.ref 275),(.ref 276),(.ref 277),(.int 550 0),(.int 216 0),(.str "/claim/cut.py" 551)]),#[]⟩) ::
 (nat_lit 279,⟨(.type "function"),none,(.func (fnOf "_law_skin" "_law_skin" (ao dC) (am dC) (af dC) .none .none .none (.str "law_shapestring_k22_rims_told" 435) none (.ref 278) .none)),#[]⟩) ::
 (nat_lit 283,⟨(.type "code"),none,(.fields #[(.str "_law_named" 553),(.str "_law_named" 554),(.str "/claim/cut.py" 555),(.int 225 0),(.int 2 0),(.int 0 0),(.int 0 0),(.int 3 0),(.ref 280),(.bool Bool.true),(.int 181 0),(.ref 281),.none,.none,.none,(.ref 282),(.int 556 0),(.int 225 0),(.str "/claim/cut.py" 557)]),#[]⟩) ::
 (nat_lit 284,⟨(.type "function"),none,(.func (fnOf "_law_named" "_law_named" (ao dA) (am dA) (af dA) .none .none .none (.str "law_shapestring_k22_rims_told" 435) none (.ref 283) .none)),#[]⟩) ::
 (nat_lit 290,⟨(.type "code"),none,(.fields #[(.str "_law_handed" 559),(.str "_law_handed" 560),(.str "/claim/cut.py" 561),(.int 235 0),(.int 2 0),(.int 0 0),(.int 0 0),(.int 3 0),(.ref 285),(.bool Bool.true),(.int 181 0),(.ref 286),.none,(.ref 287),(.ref 288),(.ref 289),(.int 569 0),(.int 235 0),(.str "/claim/cut.py" 570)]),#[]⟩) ::
 (nat_lit 291,⟨(.type "function"),none,(.func (fnOf "_law_handed" "_law_handed" (ao cQ) (am cQ) (af cQ) .none .none .none (.str "law_shapestring_k22_rims_told" 435) none (.ref 290) .none)),#[]⟩) ::
 (nat_lit 297,⟨(.type "code"),none,(.fields #[(.str "_law_rims" 572),(.str "_law_rims" 573),(.str "/claim/cut.py" 574),(.int 241 0),(.int 1 0),(.int 0 0),(.int 0 0),(.int 3 0),(.ref 292),(.bool Bool.true),(.int 181 0),(.ref 293),.none,(.ref 294),(.ref 295),(.ref 296),(.int 580 0),(.int 241 0),(.str "/claim/cut.py" 581)]),#[]⟩) ::
 (nat_lit 298,⟨(.type "function"),none,(.func (fnOf "_law_rims" "_law_rims" (ao dE) (am dE) (af dE) .none .none .none (.str "law_shapestring_k22_rims_told" 435) none (.ref 297) .none)),#[]⟩) ::
 (nat_lit 302,⟨(.type "code"),none,(.fields #[(.str "_law_right" 583),(.str "_law_right" 584),(.str "/claim/cut.py" 585),(.int 252 0),(.int 2 0),(.int 0 0),(.int 0 0),(.int 3 0),(.ref 299),(.bool Bool.true),(.int 181 0),(.ref 300),.none,.none,.none,(.ref 301),(.int 586 0),(.int 252 0),(.str "/claim/cut.py" 587)]),#[]⟩) ::
 (nat_lit 303,⟨(.type "function"),none,(.func (fnOf "_law_right" "_law_right" (ao cO) (am cO) (af cO) .none .none .none (.str "law_shapestring_k22_rims_told" 435) none (.ref 302) .none)),#[]⟩) ::
 (nat_lit 307,⟨(.type "code"),none,(.fields #[(.str "law" 589),(.str "law" 590),(.str "/claim/cut.py" 591),(.int 263 0),(.int 1 0),(.int 0 0),(.int 0 0),(.int 3 0),(.ref 304),(.bool Bool.true),(.int 181 0),(.ref 305),.none,.none,.none,(.ref 306),(.int 592 0),(.int 263 0),(.str "/claim/cut.py" 593)]),#[]⟩) ::
 (nat_lit 308,⟨(.type "function"),none,(.func (fnOf "law" "law" (ao sLaw) (am sLaw) (af sLaw) .none .none .none (.str "law_shapestring_k22_rims_told" 435) none (.ref 307) .none)),#[]⟩)::[]
end K15
end
section
namespace L2
open PySem PySem.W PySem.Calls PyProof.Rows
def fL (tb:String→Option Builtin) (p:Program) (w:World) (n₀:Nat) (ann:Option Value):Nat→SharedT→Thread→Option SharedT
 |0,_,_=>none
 |n+1,s,t=>match through t with
  |true=>some s
  |false=>match stepOk n₀ ann t with
   |false=>none
   |true=>match stepT (denote tb) p w s t with
    |some (s',t')=>fL tb p w n₀ ann n s' t'
    |none=>none
theorem ib {tb:String→Option Builtin} {p:Program} {w:World} {n₀:Nat} {ann:Option Value}:∀{n:Nat} {s s':SharedT} {t:Thread},fL tb p w n₀ ann n s t=some s'→topRun tb p w n₀ ann n s.abs t=some s'.abs
 |0,_,_,_,h=>by cases h
 |n+1,s,s',t,h=>by
  unfold fL at h
  unfold topRun
  cases ht:through t with
  |true=>rw[ht] at h;cases h;rfl
  |false=>
   rw[ht] at h
   cases hk:stepOk n₀ ann t with
   |false=>rw[hk] at h;cases h
   |true=>
    rw[hk] at h
    cases hs:stepT (denote tb) p w s t with
    |none=>rw[hs] at h;cases h
    |some r=>obtain⟨s₂,t₂⟩:=r;rw[hs] at h;rw[stepT_spec hs];exact ib h
def pB:List Obj→Nat→BT→BT
 | [],_,t=>t
 |o::os,n,t=>pB os (n+1) (t.ins n o)
noncomputable def st0 (w:World) (os:OsState):SharedT:=⟨pB (boot_heap w.params).objs.toList 0 .nil,(boot_heap w.params).objs.size,(boot_heap w.params).life,Array.mk [],boot_drawn,boot_toks,os⟩
theorem rO (w:World) (os:OsState):(st0 w os).abs=⟨boot_heap w.params,Array.mk [],boot_drawn,boot_toks,os⟩:=by kernel_rfl
theorem tN (w:World):((boot_heap w.params).isNs mainGlobals&&(Array.mk []:Array GenState).size==0)=true:=by kernel_rfl
theorem vn (w:World):(boot_heap w.params).objs.size=11:=by kernel_rfl
theorem rj (w:World):(boot_heap w.params).nsMap mainGlobals "__annotations__" = some (.ref 6):=by kernel_rfl
noncomputable def jz (p:Program) (w:World) (s:Shared):Bool:=staticsOk (importedModules p.main.body) (boot_heap w.params) s.heap&&namesBound p s.heap&&gensDone s&&laidKept (boot_heap w.params) s.heap
theorem tp {p q:Program} {loose:List Str} {Xt:Shared→Bool} {α:Type} {Yf:Shared→α} {Ya:World→α} {N:Nat} {g0:Bool} {run:World→OsState→Option SharedT} (hr:∀w os,run w os=fL treeTable p w 11 (some (.ref 6)) N (st0 w os) (topStub p)) (hN:Nat.ble 600 N=true)
  (e:opening p=plainProg p.main.scope.names) (f:∀s,fenceModules? p s=some s)
  (a:∀(w:World) (os:OsState),(run w os).map (fun s=>(openSeen q loose (importedModules p.main.body) Xt g0 s.abs).1)=some (openGood q loose).1)
  (a2:∀(w:World) (os:OsState),(run w os).map (fun s=>((openSeen q loose (importedModules p.main.body) Xt g0 s.abs).2.1,(openSeen q loose (importedModules p.main.body) Xt g0 s.abs).2.2.1))=some ((openGood q loose).2.1,(openGood q loose).2.2.1))
  (a3:∀(w:World) (os:OsState),(run w os).map (fun s=>(openSeen q loose (importedModules p.main.body) Xt g0 s.abs).2.2.2)=some (openGood q loose).2.2.2)
  (b:∀(w:World) (os:OsState),(run w os).map (fun s=>(jz p w s.abs,Yf s.abs))=some (true,Ya w)):LeftO p q loose Xt Yf Ya N g0:=fun w=>by
 obtain⟨⟨h,gs,d,k,os⟩,e1,e'⟩:=Option.map_eq_some_iff.mp (boot_open e hN f w)
 obtain⟨rfl,rfl,rfl,rfl⟩:h=boot_heap w.params∧gs=Array.mk []∧d=boot_drawn∧k=boot_toks:=by simpa using e'
 obtain⟨s1,r1,o1⟩:=Option.map_eq_some_iff.mp (a w os)
 have a2:=a2 w os
 have a3:=a3 w os
 have b:=b w os
 rw[r1,Option.map_some] at a2 a3 b
 have a2:=Prod.mk.inj (Option.some.inj a2)
 have a3:=Option.some.inj a3
 obtain⟨l1,o2⟩:=Prod.mk.inj (Option.some.inj b)
 have l2:openSeen q loose (importedModules p.main.body) Xt g0 s1.abs=openGood q loose:=Prod.ext o1 (Prod.ext a2.1 (Prod.ext a2.2 a3))
 rw[hr] at r1
 have r:=ib r1
 rw[rO] at r
 have t:topFrom treeTable p w N ⟨boot_heap w.params,Array.mk [],boot_drawn,boot_toks,os⟩=some s1.abs:=by
  unfold topFrom
  dsimp only
  rw[tN,vn,rj,r]
  unfold jz at l1
  show (match staticsOk (importedModules p.main.body) (boot_heap w.params) s1.abs.heap&&namesBound p s1.abs.heap&&gensDone s1.abs&&laidKept (boot_heap w.params) s1.abs.heap with|true=>_|false=>_)=_
  rw[l1]
 unfold openEnds
 rw[e1]
 show (topFrom treeTable p w N _).map _=_
 rw[t]
 exact congrArg some (Prod.ext l2 o2)
end L2
end
section
namespace K15
open PySem L2 PySem.W K51
noncomputable def view:Program:={PySem.Challenge.pw_shapestring_k22_rims_told with main:={(PySem.Challenge.pw_shapestring_k22_rims_told).main with body:=[topP 0,topP 2,topP 3,topP 5,topP 6,topP 8,topP 9,topP 10,topP 12,topP 13,topP 15,topP 16,topP 17,topP 18,topP 19,topP 20,topP 21,topP 22,topP 23,topP 25,topP 26,topP 27,topP 28,topP 29,topP 30,topP 31,topP 32,topP 33,topP 34,topP 35,topP 36,topP 37,topP 38,topP 39,topP 40,topP 41,topP 42,topP 43,topP 44]}}
noncomputable abbrev run (w:World) (os:OsState):Option SharedT:=fL treeTable PySem.Challenge.pw_shapestring_k22_rims_told w 11 (some (.ref 6)) 4176 (st0 w os) (topStub PySem.Challenge.pw_shapestring_k22_rims_told)
noncomputable abbrev seenAt (s:SharedT):=openSeen view [] (importedModules (PySem.Challenge.pw_shapestring_k22_rims_told).main.body) (fun s=>xlAt view [] s&&recOk [] s) true s.abs
theorem leftA (w:World) (os:OsState):(run w os).map (fun s=>(seenAt s).1)=some (openGood view []).1:=by
 kernel_rfl
theorem leftA2 (w:World) (os:OsState):(run w os).map (fun s=>((seenAt s).2.1,(seenAt s).2.2.1))=some ((openGood view []).2.1,(openGood view []).2.2.1):=by
 kernel_rfl
theorem leftA3 (w:World) (os:OsState):(run w os).map (fun s=>(seenAt s).2.2.2)=some (openGood view []).2.2.2:=by
 kernel_rfl
theorem leftB (w:World) (os:OsState):(run w os).map (fun s=>(jz PySem.Challenge.pw_shapestring_k22_rims_told w s.abs,Hook.obs (kHook K15.kf [nat_lit 2,nat_lit 3,nat_lit 25,nat_lit 26,nat_lit 32,nat_lit 33,nat_lit 37,nat_lit 38,nat_lit 42,nat_lit 43,nat_lit 93,nat_lit 94,nat_lit 100,nat_lit 101,nat_lit 107,nat_lit 108,nat_lit 114,nat_lit 115,nat_lit 121,nat_lit 122,nat_lit 128,nat_lit 129,nat_lit 135,nat_lit 136,nat_lit 142,nat_lit 143,nat_lit 149,nat_lit 150,nat_lit 161,nat_lit 162,nat_lit 185,nat_lit 186,nat_lit 187,nat_lit 188,nat_lit 196,nat_lit 197,nat_lit 203,nat_lit 204,nat_lit 210,nat_lit 211,nat_lit 217,nat_lit 218,nat_lit 224,nat_lit 225,nat_lit 229,nat_lit 230,nat_lit 236,nat_lit 237,nat_lit 241,nat_lit 242,nat_lit 246,nat_lit 247,nat_lit 251,nat_lit 252,nat_lit 256,nat_lit 257,nat_lit 261,nat_lit 262,nat_lit 266,nat_lit 267,nat_lit 271,nat_lit 272,nat_lit 278,nat_lit 279,nat_lit 283,nat_lit 284,nat_lit 290,nat_lit 291,nat_lit 297,nat_lit 298,nat_lit 302,nat_lit 303,nat_lit 307,nat_lit 308] (fun _=>by kernel_rfl)) s.abs))=some (true,Hook.val (kHook K15.kf [nat_lit 2,nat_lit 3,nat_lit 25,nat_lit 26,nat_lit 32,nat_lit 33,nat_lit 37,nat_lit 38,nat_lit 42,nat_lit 43,nat_lit 93,nat_lit 94,nat_lit 100,nat_lit 101,nat_lit 107,nat_lit 108,nat_lit 114,nat_lit 115,nat_lit 121,nat_lit 122,nat_lit 128,nat_lit 129,nat_lit 135,nat_lit 136,nat_lit 142,nat_lit 143,nat_lit 149,nat_lit 150,nat_lit 161,nat_lit 162,nat_lit 185,nat_lit 186,nat_lit 187,nat_lit 188,nat_lit 196,nat_lit 197,nat_lit 203,nat_lit 204,nat_lit 210,nat_lit 211,nat_lit 217,nat_lit 218,nat_lit 224,nat_lit 225,nat_lit 229,nat_lit 230,nat_lit 236,nat_lit 237,nat_lit 241,nat_lit 242,nat_lit 246,nat_lit 247,nat_lit 251,nat_lit 252,nat_lit 256,nat_lit 257,nat_lit 261,nat_lit 262,nat_lit 266,nat_lit 267,nat_lit 271,nat_lit 272,nat_lit 278,nat_lit 279,nat_lit 283,nat_lit 284,nat_lit 290,nat_lit 291,nat_lit 297,nat_lit 298,nat_lit 302,nat_lit 303,nat_lit 307,nat_lit 308] (fun _=>by kernel_rfl)) w):=by
 kernel_rfl
theorem left:LeftO PySem.Challenge.pw_shapestring_k22_rims_told view [] (fun s=>xlAt view [] s&&recOk [] s) (Hook.obs (kHook K15.kf [nat_lit 2,nat_lit 3,nat_lit 25,nat_lit 26,nat_lit 32,nat_lit 33,nat_lit 37,nat_lit 38,nat_lit 42,nat_lit 43,nat_lit 93,nat_lit 94,nat_lit 100,nat_lit 101,nat_lit 107,nat_lit 108,nat_lit 114,nat_lit 115,nat_lit 121,nat_lit 122,nat_lit 128,nat_lit 129,nat_lit 135,nat_lit 136,nat_lit 142,nat_lit 143,nat_lit 149,nat_lit 150,nat_lit 161,nat_lit 162,nat_lit 185,nat_lit 186,nat_lit 187,nat_lit 188,nat_lit 196,nat_lit 197,nat_lit 203,nat_lit 204,nat_lit 210,nat_lit 211,nat_lit 217,nat_lit 218,nat_lit 224,nat_lit 225,nat_lit 229,nat_lit 230,nat_lit 236,nat_lit 237,nat_lit 241,nat_lit 242,nat_lit 246,nat_lit 247,nat_lit 251,nat_lit 252,nat_lit 256,nat_lit 257,nat_lit 261,nat_lit 262,nat_lit 266,nat_lit 267,nat_lit 271,nat_lit 272,nat_lit 278,nat_lit 279,nat_lit 283,nat_lit 284,nat_lit 290,nat_lit 291,nat_lit 297,nat_lit 298,nat_lit 302,nat_lit 303,nat_lit 307,nat_lit 308] (fun _=>by kernel_rfl))) (Hook.val (kHook K15.kf [nat_lit 2,nat_lit 3,nat_lit 25,nat_lit 26,nat_lit 32,nat_lit 33,nat_lit 37,nat_lit 38,nat_lit 42,nat_lit 43,nat_lit 93,nat_lit 94,nat_lit 100,nat_lit 101,nat_lit 107,nat_lit 108,nat_lit 114,nat_lit 115,nat_lit 121,nat_lit 122,nat_lit 128,nat_lit 129,nat_lit 135,nat_lit 136,nat_lit 142,nat_lit 143,nat_lit 149,nat_lit 150,nat_lit 161,nat_lit 162,nat_lit 185,nat_lit 186,nat_lit 187,nat_lit 188,nat_lit 196,nat_lit 197,nat_lit 203,nat_lit 204,nat_lit 210,nat_lit 211,nat_lit 217,nat_lit 218,nat_lit 224,nat_lit 225,nat_lit 229,nat_lit 230,nat_lit 236,nat_lit 237,nat_lit 241,nat_lit 242,nat_lit 246,nat_lit 247,nat_lit 251,nat_lit 252,nat_lit 256,nat_lit 257,nat_lit 261,nat_lit 262,nat_lit 266,nat_lit 267,nat_lit 271,nat_lit 272,nat_lit 278,nat_lit 279,nat_lit 283,nat_lit 284,nat_lit 290,nat_lit 291,nat_lit 297,nat_lit 298,nat_lit 302,nat_lit 303,nat_lit 307,nat_lit 308] (fun _=>by kernel_rfl))) 4176:=
 tp (run:=run) (fun _ _=>rfl) (by decide) (by kernel_rfl) (fun s=>by kernel_rfl) leftA leftA2 leftA3 leftB
end K15
end
section
namespace L2
open PySem PySem.Spec PyProof.Rows
abbrev Key:=Sum Int Str
def jl:Key→Value→Bool
 | .inl k,v=>Value.isInt k v
 | .inr x,v=>Value.isStrOf x v
def keyH (w:World):Key→Int
 | .inl k=>hashInt k
 | .inr x=>hashStr w x
theorem aY:∀{k:Key} {v:Value},jl k v=true→(∃i t,k=Sum.inl i∧v=Value.int i t)∨(∃x t,k=Sum.inr x∧v=Value.str x t)
 | .inl i,v,h=>by
  obtain⟨t,e⟩:=Value.isInt_shape (k:=i) (v:=v) h
  exact .inl ⟨i,t,rfl,e⟩
 | .inr x,v,h=>by
  obtain⟨t,e⟩:=Value.isStrOf_shape (x:=x) (v:=v) h
  exact .inr ⟨x,t,rfl,e⟩
theorem oU (i:Int) (t:Tok):jl (.inl i) (.int i t)=true:=by simp[jl,Value.isInt]
theorem oT (x:Str) (t:Tok):jl (.inr x) (.str x t)=true:=by simp[jl,Value.isStrOf]
theorem uV (a b:Int):decide ((Sum.inl a:Key)=Sum.inl b)=(a==b):=by
 by_cases e:a=b
 ·subst e;simp
 ·have h:¬(Sum.inl a:Key)=Sum.inl b:=fun q=>e (Sum.inl.inj q)
  rw[decide_eq_false h]
  exact (beq_eq_false_iff_ne.mpr e).symm
theorem uS (a b:Str):decide ((Sum.inr a:Key)=Sum.inr b)=decide (a=b):=by
 by_cases e:a=b
 ·subst e;simp
 ·have h:¬(Sum.inr a:Key)=Sum.inr b:=fun q=>e (Sum.inr.inj q)
  rw[decide_eq_false h,decide_eq_false e]
theorem uU (a:Int) (b:Str):decide ((Sum.inl a:Key)=Sum.inr b)=false:=decide_eq_false (fun q=>nomatch q)
theorem uT (a:Str) (b:Int):decide ((Sum.inr a:Key)=Sum.inl b)=false:=decide_eq_false (fun q=>nomatch q)
def aN (prog:Program) (w:World):PySem.KeyKind prog w Key where
 is:=jl
 hash:=keyH w
 inj:=fun v a b ha hb=>by
  rcases aY ha with ⟨i,t,rfl,rfl⟩|⟨x,t,rfl,rfl⟩
  ·rcases aY hb with ⟨j,u,rfl,e⟩|⟨y,u,rfl,e⟩
   ·injection e with e1 _;rw[e1]
   ·exact nomatch e
  ·rcases aY hb with ⟨j,u,rfl,e⟩|⟨y,u,rfl,e⟩
   ·exact nomatch e
   ·injection e with e1 _;rw[e1]
 byValue:=fun k v h=>by
  rcases aY h with ⟨i,t,rfl,rfl⟩|⟨x,t,rfl,rfl⟩ <;> rfl
 pyHash:=fun hv h=>by
  rcases aY hv with ⟨i,t,rfl,rfl⟩|⟨x,t,rfl,rfl⟩
  ·exact wpAny_pyHash_int h
  ·exact wpAny_pyHash_str h
 eqBool:=fun hu hv h=>by
  rcases aY hu with ⟨i,t,rfl,rfl⟩|⟨x,t,rfl,rfl⟩
  ·rcases aY hv with ⟨j,u,rfl,rfl⟩|⟨y,u,rfl,rfl⟩
   ·rw[uV] at h;exact wpAny_eqBool_int h
   ·rw[uU] at h;exact SeqAt.EqAt.int_str i t y u _ _ _ _ h
  ·rcases aY hv with ⟨j,u,rfl,rfl⟩|⟨y,u,rfl,rfl⟩
   ·rw[uT] at h;exact SeqAt.EqAt.str_int x t j u _ _ _ _ h
   ·rw[uS] at h;exact wpAny_eqBool_str h
 «strs»:=fun k x t v h=>by
  rcases aY h with ⟨i,u,rfl,e⟩|⟨y,u,rfl,e⟩
  ·exact nomatch e
  ·injection e with e1 _
   subst e1
   cases v <;> rfl
theorem lm (prog:Program) (w:World) (i:Int) (t:Tok):(aN prog w).is (.inl i) (.int i t)=true:=oU i t
theorem lh (prog:Program) (w:World) (x:Str) (t:Tok):(aN prog w).is (.inr x) (.str x t)=true:=oT x t
end L2
namespace L2
open PySem PySem.Spec PyProof.Rows
inductive V where
 |non|bl (b:Bool)|int (i:Int)|str (x:Str)|byt (b:Array UInt8)|flt (b:UInt64)|ref (a:Addr)|ty (n:String)
 deriving DecidableEq
def RelV:V→Value→Prop
 | .non,u=>u=Value.none
 | .bl b,u=>u=Value.bool b
 | .int i,u=>∃t,u=Value.int i t
 | .str x,u=>∃t,u=Value.str x t
 | .byt b,u=>∃t,u=Value.bytes b t
 | .flt b,u=>∃t,u=Value.float b t
 | .ref a,u=>u=Value.ref a
 | .ty n,u=>u=Value.type n
abbrev Vals:List V→List Value→Prop:=Paired RelV
theorem Vals.length {xs:List V} {us:List Value} (r:Vals xs us):xs.length=us.length:=Paired.length r
theorem Vals.get:∀{xs:List V} {us:List Value} {i:Nat} {x:V},Vals xs us→xs[i]? = some x→∃u,us[i]? = some u∧RelV x u
 |_,_,_,_,.nil,e=>by simp at e
 |_,_,0,_,.cons r _,e=>by simp at e;subst e;exact⟨_,rfl,r⟩
 |_,_,i+1,x,.cons _ t,e=>by
  obtain⟨u,h1,h2⟩:=Vals.get (i:=i) (x:=x) t (by simpa using e)
  exact⟨u,by simpa using h1,h2⟩
theorem Vals.set {x:V} {u:Value} (r:RelV x u):∀{xs:List V} {us:List Value} (i:Nat),Vals xs us→Vals (xs.set i x) (us.set i u)
 |_,_,_,.nil=>.nil
 |_,_,0,.cons _ t=>.cons r t
 |_,_,i+1,.cons q t=>.cons q (Vals.set r i t)
theorem Vals.append:∀{xs ys:List V} {us ws:List Value},Vals xs us→Vals ys ws→Vals (xs++ys) (us++ws)
 |_,_,_,_,.nil,s=>s
 |_,_,_,_,.cons r t,s=>.cons r (Vals.append t s)
theorem Vals.take:∀{xs:List V} {us:List Value} (n:Nat),Vals xs us→Vals (xs.take n) (us.take n)
 |_,_,0,_=>.nil
 |_,_,_+1,.nil=>.nil
 |_,_,n+1,.cons r t=>.cons r (Vals.take n t)
theorem Vals.drop:∀{xs:List V} {us:List Value} (n:Nat),Vals xs us→Vals (xs.drop n) (us.drop n)
 |_,_,0,r=>r
 |_,_,_+1,.nil=>.nil
 |_,_,n+1,.cons _ t=>Vals.drop n t
def RelO:Option V→Option Value→Prop
 |some v,some u=>RelV v u
 |none,none=>True
 |_,_=>False
def KV {κ:Type}:List (κ × V)→List (κ × Value)→Prop:=Paired fun (p:κ × V) (q:κ × Value)=>p.1=q.1∧RelV p.2 q.2
def kV:Key→V
 | .inl i=>.int i
 | .inr x=>.str x
inductive HO where
 |lst (xs:List V)
 |tup (xs:List V)
 |dK (kvs:List (Key × V))|dT (kvs:List (List Key × V))
 |set (S:Int→Bool) (n:Nat)
 |ins (C dx:Addr) (fs:List (Str × V))
 |own (x:Addr)
 |xd (fs:List (Str × V))
 |met (f x:Addr)
 |rng (lo hi:Int)
 |frz (o:Obj) (u:HO)
 |tbl (ps:Array Value)
 |ext (φ:Heap→Prop)
abbrev Hp:=Addr→Option HO
def upd (H:Hp) (a:Addr) (o:HO):Hp:=fun b=>if b=a then some o else H b
theorem al {H:Hp} {a:Addr} {o:HO}:upd H a o a=some o:=by unfold upd;rw[if_pos rfl]
theorem au {H:Hp} {a b:Addr} {o:HO} (h:b≠a):upd H a o b=H b:=by unfold upd;rw[if_neg h]
theorem cv {H:Hp} {a:Addr} {o u:HO}:upd (upd H a o) a u=upd H a u:=by
 funext b;unfold upd;split <;> rfl
theorem bi {H:Hp} {a b:Addr} {o u:HO} (h:H a=some o) (h':H b=some u) (d:o≠u):a≠b:=by
 intro e;subst e;rw[h] at h';exact d (Option.some.inj h')
theorem ag {H:Hp} {a b:Addr} {o:HO} (h:H a=some o) (h':H b=none):a≠b:=by
 intro e;subst e;rw[h] at h';cases h'
section
variable (P:Program) (w:World)
def aS (H:Hp) (h:Heap) (a:Addr):HO→Prop
 | .lst xs=>xs.length≤sizeLine∧∃(its:List Value) (n:Nat),Vals xs its∧h.get? a=some {cls:=.type "list",data:=.seq its.toArray n}
 | .tup xs=>(xs.length≤sizeLine∧∃o,h.get? a=some o∧o.dict=none)∧∃its:List Value,Vals xs its∧IsTup h a its.toArray
 | .dK kvs=>kvs.length≤sizeLine∧(a==sysModules)=false∧∃vs,KV kvs vs∧h.DictOf (aN P w) a vs
 | .dT kvs=>kvs.length≤sizeLine∧(a==sysModules)=false∧∃xs:List (List Key × Addr × Value),
   Paired (fun (p:List Key × V) (q:List Key × Addr × Value)=>p.1=q.1∧H q.2.1=some (.tup (p.1.map kV))∧RelV p.2 q.2.2) kvs xs ∧
   ∃o es ep,h.get? a=some o∧o.ExactDict∧o.data=.dict es ep∧es.toList=xs.map (entryOfKey (tupleKind (aN P w)))∧(xs.map (·.1)).Nodup
 | .set S n=>h.SetOf (intKind P w) a S n
 | .ins C dx fs=>H dx=some (.own a)∧fs.length≤1000∧dx≠a∧h.get? a=some (W.instObj C dx) ∧
   ∃mA,h.Ns1 dx mA∧(∀f,RelO (fs.lookup f) (mA f))∧PySem.Within mA (fs.map (·.1))
 | .own _=>∃o,h.get? a=some o
 | .xd fs=>∃mA,h.Ns1 a mA∧∀f,RelO (fs.lookup f) (mA f)
 | .rng lo hi=>∃t u v,h.get? a=some {cls:=.type "range",data:=.fields #[.int lo t,.int hi u,.int 1 v]}
 | .frz o u=>h.get? a=some o∧aS H h a u
 | .tbl ps=>h.get? a=some {cls:=.none,data:=.fields ps}
 | .met f x=>h.get? a=some (W.methodObj (.ref f) (.ref x))
 | .ext φ=>φ h∧(∃o,h.get? a=some o)∧∀h1 h2:Heap,φ h1→(∀o,h1.get? a=some o→h2.get? a=some o)→φ h2
def HOk (H:Hp) (h:Heap):Prop:=∀a o,H a=some o→aS P w H h a o
end
section
variable {P:Program} {w:World} {H H':Hp} {h h':Heap} {a:Addr} {o:HO}
theorem aS.lt (x:aS P w H h a o):a < h.objs.size:=by
 cases o with
 |lst xs=>obtain⟨_,_,_,_,e⟩:=x;exact Heap.lt_size e
 |tup xs=>obtain⟨_,_,_,p⟩:=x;exact p.lt
 |dK kvs=>obtain⟨_,_,_,_,o,_,_,e,_⟩:=x;exact Heap.lt_size e
 |dT kvs=>obtain⟨_,_,_,_,o,_,_,e,_⟩:=x;exact Heap.lt_size e
 |set S n=>obtain⟨o,_,_,_,e,_⟩:=x;exact Heap.lt_size e
 |ins C dx fs=>obtain⟨_,_,_,e,_⟩:=x;exact Heap.lt_size e
 |own y=>obtain⟨_,e⟩:=x;exact Heap.lt_size e
 |xd fs=>obtain⟨_,⟨_,_,_,e,_⟩,_⟩:=x;exact Heap.lt_size e
 |rng lo hi=>obtain⟨_,_,_,e⟩:=x;exact Heap.lt_size e
 |frz ob u=>obtain⟨e,_⟩:=x;exact Heap.lt_size e
 |tbl ps=>exact Heap.lt_size (show h.get? a=some _ from x)
 |met f y=>exact Heap.lt_size (show h.get? a=some _ from x)
 |ext φ=>obtain⟨_,⟨_,e⟩,_⟩:=x;exact Heap.lt_size e
theorem Paired.mapP {α β:Type} {F G:α→β→Prop}:∀{l₁:List α} {l₂:List β},Paired F l₁ l₂→(∀a b,F a b→G a b)→Paired G l₁ l₂
 |_,_,.nil,_=>.nil
 |_,_,.cons r t,f=>.cons (f _ _ r) (Paired.mapP t f)
theorem Paired.imp' {α β:Type} {F G:α→β→Prop} (f:∀a b,F a b→G a b) {l₁:List α} {l₂:List β} (r:Paired F l₁ l₂):Paired G l₁ l₂:=Paired.mapP r f
theorem aS.stay (x:aS P w H h a o) (k:∀b u,(b=a∨H b=some (.own a))→h.get? b=some u→h'.get? b=some u)
  (ho:∀b,H b=some (.own a)→H' b=some (.own a)) (ht:∀b xs,H b=some (.tup xs)→H' b=some (.tup xs)):aS P w H' h' a o:=by
 induction o with
 |lst xs=>obtain⟨z,its,n,r,e⟩:=x;exact⟨z,its,n,r,k _ _ (.inl rfl) e⟩
 |tup xs=>obtain⟨⟨z,o',e',d'⟩,its,r,ob,e,c⟩:=x;exact⟨⟨z,o',k _ _ (.inl rfl) e',d'⟩,its,r,ob,k _ _ (.inl rfl) e,c⟩
 |dK kvs=>obtain⟨z,y,vs,r,ob,es,ep,e,c⟩:=x;exact⟨z,y,vs,r,ob,es,ep,k _ _ (.inl rfl) e,c⟩
 |dT kvs=>
  obtain⟨z,y,xs,r,ob,es,ep,e,c⟩:=x
  exact⟨z,y,xs,Paired.mapP r fun p q z=>⟨z.1,ht _ _ z.2.1,z.2.2⟩,ob,es,ep,k _ _ (.inl rfl) e,c⟩
 |set S n=>obtain⟨ob,es,ep,t,e,c⟩:=x;exact⟨ob,es,ep,t,k _ _ (.inl rfl) e,c⟩
 |ins C dx fs=>
  obtain⟨d,z,ne,e,mA,⟨od,es,ep,e2,c⟩,r⟩:=x
  exact⟨ho _ d,z,ne,k _ _ (.inl rfl) e,mA,⟨od,es,ep,k _ _ (.inr d) e2,c⟩,r⟩
 |own y=>obtain⟨ob,e⟩:=x;exact⟨ob,k _ _ (.inl rfl) e⟩
 |xd fs=>obtain⟨mA,⟨od,es,ep,e,c⟩,r⟩:=x;exact⟨mA,⟨od,es,ep,k _ _ (.inl rfl) e,c⟩,r⟩
 |rng lo hi=>obtain⟨t,u,v,e⟩:=x;exact⟨t,u,v,k _ _ (.inl rfl) e⟩
 |frz ob u ih=>obtain⟨e,q⟩:=x;exact⟨k _ _ (.inl rfl) e,ih q⟩
 |tbl ps=>
  have e:h.get? a=some {cls:=.none,data:=.fields ps}:=x
  show h'.get? a=some {cls:=.none,data:=.fields ps}
  exact k a _ (.inl rfl) e
 |met f y=>
  have e:h.get? a=some (W.methodObj (.ref f) (.ref y)):=x
  show h'.get? a=some (W.methodObj (.ref f) (.ref y))
  exact k a _ (.inl rfl) e
 |ext φ=>obtain⟨p,⟨o,e⟩,st⟩:=x;exact⟨st _ _ p fun o q=>k _ _ (.inl rfl) q,⟨o,k _ _ (.inl rfl) e⟩,st⟩
theorem HOk.lt (x:HOk P w H h) (e:H a=some o):a < h.objs.size:=(x a o e).lt
theorem HOk.fresh (x:HOk P w H h) (e:h.objs.size≤a):H a=none:=by
 cases q:H a with
 |none=>rfl
 |some u=>exact absurd (Nat.lt_of_lt_of_le (x.lt q) e) (Nat.lt_irrefl _)
theorem HOk.kept (x:HOk P w H h) (k:∀b u,h.get? b=some u→h'.get? b=some u):HOk P w H h':=fun a o e=>
 (x a o e).stay (fun b u _ q=>k b u q) (fun _ q=>q) fun _ _ q=>q
theorem HOk.laid (x:HOk P w H h) (k:∀b u,h.get? b=some u→h'.get? b=some u) (hp:h.objs.size≤a) (new:aS P w (upd H a o) h' a o):HOk P w (upd H a o) h':=fun b u e=>by
 have hn:=x.fresh hp
 by_cases hb:b=a
 ·subst hb;rw[al] at e;cases e;exact new
 ·rw[au hb] at e
  exact (x b u e).stay (fun c v _ q=>k c v q) (fun c q=>by rw[au (ag q hn)];exact q) fun c xs q=>by rw[au (ag q hn)];exact q
end
def Rd (H:Hp) (a:Addr) (u:HO):Prop:=H a=some u∨∃o,H a=some (.frz o u)
theorem Rd.ok {P:Program} {w:World} {H:Hp} {h:Heap} {a:Addr} {u:HO} (r:Rd H a u) (x:HOk P w H h):aS P w H h a u:=by
 rcases r with r|⟨o,r⟩
 ·exact x a u r
 ·obtain⟨_,q⟩:=x a _ r
  exact q
def Mut:Option HO→Prop
 |some (.lst _)=>True
 |some (.dK _)=>True
 |some (.dT _)=>True
 |some (.set _ _)=>True
 |some (.ins _ _ _)=>True
 |some (.ext _)=>True
 |_=>False
section
variable {P:Program} {w:World} {H:Hp} {h h':Heap} {x e:Addr} {o':HO}
theorem HOk.write (ok:HOk P w H h) (mu:Mut (H x)) (he:e=x∨H e=some (.own x)) (k:∀b u,b≠e→h.get? b=some u→h'.get? b=some u) (heo:∃u,h'.get? e=some u)
  (new:aS P w (upd H x o') h' x o'):HOk P w (upd H x o') h':=fun b u q=>by
 have nown:∀c y,H c=some (.own y)→c≠x:=fun c y r z=>by subst z;rw[r] at mu;exact mu
 have ntup:∀c xs,H c=some (.tup xs)→c≠x:=fun c xs r z=>by subst z;rw[r] at mu;exact mu
 by_cases hb:b=x
 ·subst hb;rw[al] at q;cases q;exact new
 ·rw[au hb] at q
  by_cases hbe:b=e
  ·have q':H b=some (.own x):=by
    rcases he with z|z
    ·exact absurd (hbe.trans z) hb
    ·rw[hbe];exact z
   rw[q] at q';cases q'
   obtain⟨v,hv⟩:=heo
   exact⟨v,by rw[hbe];exact hv⟩
  ·refine (ok b u q).stay (fun c v hc r=>k c v ?_ r) (fun c r=>by rw[au (nown c b r)];exact r) fun c xs r=>by rw[au (ntup c xs r)];exact r
   rcases hc with rfl|hc
   ·exact hbe
   ·rintro rfl
    rcases he with z|z
    ·exact nown c b hc z
    ·rw[hc] at z;cases z;exact hb rfl
end
structure Un (fs ex:List Addr) (H H':Hp) (h h':Heap):Prop where
 keep:∀b o,h.get? b=some o→H b=none→b∉fs→b∉ex→h'.get? b=some o
 slot:∀b o,h.get? b=some o→H b=none→b∈fs→b∉ex→∃sl,h'.get? b=some {o with slots:=sl}
 free:∀b o,h.get? b=some o→H b=none→b∉ex→H' b=none
 there:∀b o,h.get? b=some o→b∉ex→∃o',h'.get? b=some o'
 tups:∀b xs,H b=some (.tup xs)→H' b=some (.tup xs)
 frzs:∀b o u,H b=some (.frz o u)→H' b=some (.frz o u)
 tbls:∀b ps,H b=some (.tbl ps)→∃more,H' b=some (.tbl (ps++more))
section
variable {fs fs' ex ex':List Addr} {H H1 H2:Hp} {h h1 h2 h':Heap} {a x e:Addr} {o:HO}
theorem Un.any (u:Un fs ex H H1 h h1) {b:Addr} {ob:Obj} (q:h.get? b=some ob) (n:H b=none) (hx:b∉ex):∃sl,h1.get? b=some {ob with slots:=sl}:=by
 by_cases hb:b∈fs
 ·exact u.slot b ob q n hb hx
 ·exact⟨ob.slots,u.keep b ob q n hb hx⟩
theorem Un.kept (k:∀b u,h.get? b=some u→h'.get? b=some u):Un fs ex H H h h':=
 ⟨fun b ob q _ _ _=>k b ob q,fun b ob q _ _ _=>⟨ob.slots,k b ob q⟩,fun _ _ _ n _=>n,fun b ob q _=>⟨ob,k b ob q⟩,fun _ _ q=>q,fun _ _ _ q=>q,fun _ ps q=>⟨#[],by rw[q];simp⟩⟩
theorem Un.refl:Un fs ex H H h h:=Un.kept fun _ _ q=>q
theorem Un.laid (k:∀b u,h.get? b=some u→h'.get? b=some u) (hp:h.objs.size≤a) (hn:H a=none):Un fs ex H (upd H a o) h h' where
 keep:=fun b u q _ _ _=>k b u q
 slot:=fun b u q _ _ _=>⟨u.slots,k b u q⟩
 free:=fun b u q n _=>by rw[au (Nat.ne_of_lt (Nat.lt_of_lt_of_le (Heap.lt_size q) hp))];exact n
 there:=fun b u q _=>⟨u,k b u q⟩
 tups:=fun b xs q=>by rw[au (ag q hn)];exact q
 frzs:=fun b u xs q=>by rw[au (ag q hn)];exact q
 tbls:=fun b ps q=>⟨#[],by rw[au (ag q hn),q];simp⟩
theorem Un.write (mu:Mut (H x)) (he:e=x∨H e=some (.own x)) (k:∀b u,b≠e→h.get? b=some u→h'.get? b=some u) (heo:∃u,h'.get? e=some u):Un fs ex H (upd H x o) h h':=by
 have hx:∀b,H b=none→b≠x:=fun b n z=>by subst z;rw[n] at mu;exact mu
 have hb:∀b,H b=none→b≠e:=fun b n z=>by
  subst z
  rcases he with r|r
  ·exact hx b n r
  ·rw[n] at r;cases r
 have hm:∀b u,H b=some u→¬Mut (some u)→b≠x:=fun b u q nm z=>by subst z;rw[q] at mu;exact nm mu
 refine⟨fun b u q n _ _=>k b u (hb b n) q,fun b u q n _ _=>⟨u.slots,k b u (hb b n) q⟩,fun b u q n _=>by rw[au (hx b n)];exact n,fun b u q _=>?_,
  fun b xs q=>by rw[au (hm b _ q fun z=>z)];exact q,fun b u xs q=>by rw[au (hm b _ q fun z=>z)];exact q,fun b ps q=>⟨#[],by rw[au (hm b _ q fun z=>z),q];simp⟩⟩
 by_cases hbe:b=e
 ·subst hbe;exact heo
 ·exact⟨u,k b u hbe q⟩
end
def trk (h:Heap) (H:Hp):List Addr:=(List.range h.objs.size).filter fun a=>(H a).isSome
def hidT (h:Heap) (H:Hp):Heap:=W.hideAll h (trk h H)
theorem oX (h:Heap) (H:Hp):(hidT h H).objs.size=h.objs.size:=W.hideAll_size _ _
theorem qC {h:Heap} {H:Hp} {b:Addr} {o:Obj} (e:h.get? b=some o) (n:H b=none):(hidT h H).get? b=some o:=
 W.hideAll_get _ e fun hm=>by
  have q:(H b).isSome=true:=(List.mem_filter.mp hm).2
  rw[n] at q;simp at q
theorem sT {h:Heap} {H:Hp} {b:Addr} {o:Obj} (e:(hidT h H).get? b=some o):h.get? b=some o∧H b=none:=by
 have e':h.get? b=some o:=W.of_hideAll (trk h H) e
 refine⟨e',?_⟩
 cases q:H b with
 |none=>rfl
 |some x=>
  have hm:b∈trk h H:=List.mem_filter.mpr ⟨List.mem_range.mpr (Heap.lt_size e'),by simp[q]⟩
  have z:(hidT h H).get? b=none:=W.hideAll_none (trk h H) hm
  rw[z] at e;cases e
def h9 (g h:Heap) (L:Addr):List (Addr × Obj):=(List.range h.objs.size).filterMap fun a=>if a=L∨(g.get? a).isSome=true then none else (h.get? a).map fun o=>(a,o)
theorem eN {g h:Heap} {L a:Addr} {o:Obj} (h1:a≠L) (h2:g.get? a=none) (h3:h.get? a=some o):(a,o)∈h9 g h L:=
 List.mem_filterMap.mpr ⟨a,List.mem_range.mpr (Heap.lt_size h3),by simp[h1,h2,h3]⟩
theorem iu {g h:Heap} {L:Addr} {p:Addr × Obj} (hp:p∈h9 g h L):p.1≠L∧g.get? p.1=none∧h.get? p.1=some p.2:=by
 obtain⟨b,_,e⟩:=List.mem_filterMap.mp hp
 split at e
 ·cases e
 ·rename_i hn
  cases q:h.get? b with
  |none=>rw[q] at e;simp at e
  |some u=>
   rw[q] at e
   simp only[Option.map_some,Option.some.injEq] at e
   subst e
   refine⟨fun z=>hn (.inl z),?_,q⟩
   show g.get? b=none
   cases r:g.get? b with
   |none=>rfl
   |some v=>exact (hn (.inr (by simp[r]))).elim
theorem iw {g h:Heap} {L:Addr}:News g L h (h9 g h L):=fun p hp=>let ⟨a,b,c⟩:=iu hp;⟨c,a,b⟩
end L2
namespace L2
open PySem PySem.Spec PyProof.Rows
structure Mod (K:W.Frag) (mg:Str→Option Value) (base:Heap):Prop where
 kin:K.In base
 glob:base.Ns mainGlobals mg
 blt:∃mb,base.Ns builtinsNs mb∧∀x:Str,x≠"__name__"→mb x=bootBuiltins x
 nolimit:base.NoLimit
structure Cx where
 prog:Program
 w:World
 K:W.Frag
 mg:Str→Option Value
 base:Heap
 A:Around
 N:List Str
 s₀:Shared
 H₀:Hp
 env:Env
 outer:List Env
 stack:List Env
 ex:List Addr
 fn:Str→Bool
 calm:Bool
 pn:List (Addr × Obj)
 xe:Value→Shared→Prop
def frs (l:List Env):List Addr:=l.filterMap (·.frame)
abbrev Cx.fs (X:Cx):List Addr:=frs X.outer
def Vis (sc:Scope) (x:Str):Prop:=sc.names.lookup x=some .local∨sc.names.lookup x=some .cell∨sc.names.lookup x=some .free
def Loc (sc:Scope) (x:Str):Prop:=sc.names.lookup x=some .local∨sc.names.lookup x=some .cell
def Look (env:Env) (h:Heap) (m:Str→Option Value) (x:Str) (u:Value):Prop:=
 (env.kindOf x=some .local∧m x=some u)∨((env.kindOf x=some .cell∨env.kindOf x=some .free)∧∃c,env.cells.lookup x=some c∧h.IsCell c (some u))
structure Cx.Ok (X:Cx):Prop where
 mod:Mod X.K X.mg X.base
 kind:X.env.scope.kind=.function
 glob:X.env.globals=mainGlobals
 blt:X.env.builtins=builtinsNs
 above:X.s₀.heap.objs.size≤X.env.locals
 inj:∀x y c,X.env.cells.lookup x=some c→X.env.cells.lookup y=some c→x=y
 has:∀x,(X.env.kindOf x=some .cell∨X.env.kindOf x=some .free)→∃c,X.env.cells.lookup x=some c
 cab:∀x c,X.fn x=true→X.env.cells.lookup x=some c→X.s₀.heap.objs.size≤c
 hd:X.calm=true→X.A.handled=none
 frames:X.A.frames=some X.stack
 stk:X.stack=X.outer∨(X.stack=X.env::X.outer∧X.env.frame=some X.env.locals)
 exf:∀b∈X.ex,b≠X.env.locals∧∀x c,X.env.cells.lookup x=some c→c≠b
 bs:∀b o,X.base.get? b=some o→X.s₀.heap.get? b=some o∧X.H₀ b=none
 bsz:X.base.objs.size≤X.s₀.heap.objs.size
 noex:∀b o,X.base.get? b=some o→b∉X.ex
 exfs:∀b∈X.ex,b∉X.fs
 funs:X.s₀.heap.FunFrames X.base X.outer
 frf:∀b∈X.fs,X.H₀ b=none
structure Inv (X:Cx) (pins:List (Addr × Obj)) (σ:List (Option V)) (H:Hp) (s:Shared):Prop where
 ok:X.Ok
 os:s.os=X.s₀.os
 bare:AllBare s.gens
 base:Un X.fs X.ex X.H₀ H X.s₀.heap s.heap
 loc:∃m,s.heap.Ns X.env.locals m∧∀(i:Nat) (x:Str) (v:V),X.N[i]? = some x→σ[i]? = some (some v)→Vis X.env.scope x→∃u,RelV v u∧Look X.env s.heap m x u
 cell:∀x c,X.env.cells.lookup x=some c→∃v,s.heap.IsCell c v
 free:H X.env.locals=none
 freeC:∀x c,X.env.cells.lookup x=some c→H c=none
 pin:∀p∈X.pn++pins,s.heap.get? p.1=some p.2∧H p.1=none∧p.1≠X.env.locals∧p.1∉X.fs∧∀v,p.2.data≠.cell v
 hok:HOk X.prog X.w H s.heap
 len:σ.length=X.N.length
section
variable {X:Cx} {pins:List (Addr × Obj)} {σ:List (Option V)} {H H':Hp} {s:Shared} {h':Heap}
theorem Cx.Ok.nofr (ok:X.Ok) {b:Addr} {o:Obj} (e:X.base.get? b=some o):b∉X.fs:=fun hb=>by
 have:=(ok.funs.mem hb).1
 rw[e] at this;cases this
theorem Inv.bs (I:Inv X pins σ H s):∀b o,X.base.get? b=some o→s.heap.get? b=some o∧H b=none:=fun b o e=>
 ⟨I.base.keep b o (I.ok.bs b o e).1 (I.ok.bs b o e).2 (I.ok.nofr e) (I.ok.noex b o e),I.base.free b o (I.ok.bs b o e).1 (I.ok.bs b o e).2 (I.ok.noex b o e)⟩
theorem Inv.bk (I:Inv X pins σ H s):∀b o,X.base.get? b=some o→s.heap.get? b=some o:=fun b o e=>(I.bs b o e).1
theorem Inv.mod (I:Inv X pins σ H s):Mod X.K X.mg X.base:=I.ok.mod
theorem Inv.kIn (I:Inv X pins σ H s):X.K.In s.heap:=I.ok.mod.kin.keeps I.bk
theorem Inv.fr (I:Inv X pins σ H s):∃m,Fr X.base X.env.locals s.heap m:=
 let ⟨m,hn,_⟩:=I.loc
 ⟨m,hn,I.bk,Nat.le_trans I.ok.bsz I.ok.above⟩
theorem Inv.lt (I:Inv X pins σ H s):X.env.locals < s.heap.objs.size:=let ⟨_,hn,_⟩:=I.loc;hn.lt
theorem Inv.sz (I:Inv X pins σ H s):X.s₀.heap.objs.size≤s.heap.objs.size:=Nat.le_trans I.ok.above (Nat.le_of_lt I.lt)
theorem Inv.nofs (I:Inv X pins σ H s) {a:Addr} (h:s.heap.objs.size≤a):a∉X.fs:=fun hb=>by
 obtain⟨_,o,ho,_⟩:=I.ok.funs.mem hb
 exact absurd (Nat.lt_of_lt_of_le (Heap.lt_size ho) (Nat.le_trans I.sz h)) (Nat.lt_irrefl _)
theorem Inv.cne (I:Inv X pins σ H s):∀x c,X.env.cells.lookup x=some c→c≠X.env.locals:=fun x c e z=>by
 obtain⟨v,o,ho,hd⟩:=I.cell x c e
 obtain⟨m,⟨o',es,ep,ho',hd',_⟩,_⟩:=I.loc
 rw[z,ho'] at ho;cases ho;rw[hd'] at hd;cases hd
theorem Inv.funs (I:Inv X pins σ H s):s.heap.FunFrames X.base X.outer:=by
 have all:∀(l:List Env),(∀b∈frs l,b∈X.fs)→X.s₀.heap.FunFrames X.base l→s.heap.FunFrames X.base l:=by
  intro l
  induction l with
  |nil=>intro _ _;trivial
  |cons env r ih=>
   intro hs hl
   obtain⟨hk,⟨L,o,hf,hn,ho,hd⟩,hr⟩:=hl
   have hL:L∈X.fs:=hs L (by unfold frs;rw[List.filterMap_cons,hf];exact List.mem_cons_self)
   obtain⟨sl,e⟩:=I.base.slot L o ho (I.ok.frf L hL) hL fun z=>I.ok.exfs L z hL
   exact⟨hk,⟨L,_,hf,hn,e,hd⟩,ih (fun b hb=>hs b (by unfold frs;rw[List.filterMap_cons,hf];exact List.mem_cons_of_mem _ hb)) hr⟩
 exact all X.outer (fun _ hb=>hb) I.ok.funs
theorem Inv.stack (I:Inv X pins σ H s):s.heap.FunFrames X.base X.stack:=by
 rcases I.ok.stk with e|⟨e,hf⟩
 ·rw[e];exact I.funs
 ·rw[e]
  obtain⟨m,hn,_⟩:=I.loc
  refine .cons (by rw[I.ok.kind];decide) hf hn ?_ I.funs
  exact Heap.get?_none_of_le (Nat.le_trans I.ok.bsz I.ok.above)
theorem Inv.stkSub (I:Inv X pins σ H s):∀b∈frs X.stack,b∈X.env.locals::X.fs:=fun b hb=>by
 rcases I.ok.stk with e|⟨e,hf⟩
 ·rw[e] at hb;exact List.mem_cons_of_mem _ hb
 ·rw[e] at hb
  unfold frs at hb
  rw[List.filterMap_cons,hf] at hb
  exact hb
theorem Inv.stkFree (I:Inv X pins σ H s):∀b∈frs X.stack,H b=none:=fun b hb=>by
 rcases List.mem_cons.mp (I.stkSub b hb) with e|hb
 ·rw[e];exact I.free
 ·obtain⟨_,o,ho,_⟩:=I.ok.funs.mem hb
  exact I.base.free b o ho (I.ok.frf b hb) fun z=>I.ok.exfs b z hb
theorem Inv.step {g':Array GenState} {t':Nat} {d':Drawn} {ch:List Addr} (I:Inv X pins σ H s)
  (hch:∀b∈ch,(b∈X.ex∨X.s₀.heap.objs.size≤b)∧b≠X.env.locals∧(∀x c,X.env.cells.lookup x=some c→c≠b)∧∀p∈X.pn++pins,p.1≠b)
  (keep:∀b o,b≠X.env.locals→b∉X.fs→b∉ch→s.heap.get? b=some o→H b=none→h'.get? b=some o)
  (slot:∀b o,b≠X.env.locals→b∈X.fs→b∉ch→s.heap.get? b=some o→H b=none→∃sl,h'.get? b=some {o with slots:=sl}) (free:∀b o,b∉ch→s.heap.get? b=some o→H b=none→H' b=none)
  (there:∀b o,b∉ch→s.heap.get? b=some o→∃o',h'.get? b=some o')
  (tups:∀b xs,H b=some (.tup xs)→H' b=some (.tup xs)) (frzs:∀b o u,H b=some (.frz o u)→H' b=some (.frz o u)) (tbls:∀b ps,H b=some (.tbl ps)→∃more,H' b=some (.tbl (ps++more)))
  (ns:∀m,s.heap.Ns X.env.locals m→h'.Ns X.env.locals m) (hok:HOk X.prog X.w H' h') (hg:AllBare g') :
  Inv X pins σ H' {s with heap:=h',gens:=g',drawn:=d',toks:=t'}:=by
 have neL:∀b o,X.s₀.heap.get? b=some o→b≠X.env.locals:=fun b o e=>Nat.ne_of_lt (Nat.lt_of_lt_of_le (Heap.lt_size e) I.ok.above)
 have neC:∀b o,X.s₀.heap.get? b=some o→b∉X.ex→b∉ch:=fun b o e hx hb=>by
  rcases (hch b hb).1 with z|z
  ·exact hx z
  ·exact absurd (Nat.lt_of_lt_of_le (Heap.lt_size e) z) (Nat.lt_irrefl _)
 have cellK:∀x c,X.env.cells.lookup x=some c→∀v,s.heap.IsCell c v→h'.IsCell c v:=fun x c e v ⟨o,ho,hd⟩=>by
  have nch:c∉ch:=fun z=>(hch c z).2.2.1 x c e rfl
  by_cases hc:c∈X.fs
  ·obtain⟨sl,q⟩:=slot c o (I.cne x c e) hc nch ho (I.freeC x c e)
   exact⟨_,q,hd⟩
  ·exact⟨o,keep c o (I.cne x c e) hc nch ho (I.freeC x c e),hd⟩
 refine⟨I.ok,I.os,hg,⟨fun b o e n hb hx=>?_,fun b o e n hb hx=>?_,fun b o e n hx=>?_,fun b o e hx=>?_,fun b xs e=>tups b xs (I.base.tups b xs e),fun b o xs e=>frzs b o xs (I.base.frzs b o xs e),fun b ps e=>?_⟩,?_,fun x c e=>?_,?_,fun x c e=>?_,fun p hp=>?_,hok,I.len⟩
 ·exact keep b o (neL b o e) hb (neC b o e hx) (I.base.keep b o e n hb hx) (I.base.free b o e n hx)
 ·obtain⟨sl,e1⟩:=I.base.slot b o e n hb hx
  obtain⟨sl',e2⟩:=slot b _ (neL b o e) hb (neC b o e hx) e1 (I.base.free b o e n hx)
  exact⟨sl',e2⟩
 ·obtain⟨o',e1⟩:=I.base.there b o e hx
  exact free b o' (neC b o e hx) e1 (I.base.free b o e n hx)
 ·obtain⟨o',e1⟩:=I.base.there b o e hx
  exact there b o' (neC b o e hx) e1
 ·obtain⟨m1,e1⟩:=I.base.tbls b ps e
  obtain⟨m2,e2⟩:=tbls b _ e1
  exact⟨m1++m2,by rw[e2,Array.append_assoc]⟩
 ·obtain⟨m,hn,hl⟩:=I.loc
  refine⟨m,ns m hn,fun i x v e1 e2 e3=>?_⟩
  obtain⟨u,r,l⟩:=hl i x v e1 e2 e3
  refine⟨u,r,?_⟩
  rcases l with l|⟨k,c,e,z⟩
  ·exact .inl l
  ·exact .inr ⟨k,c,e,cellK x c e _ z⟩
 ·obtain⟨v,z⟩:=I.cell x c e
  exact⟨v,cellK x c e v z⟩
 ·obtain⟨m,⟨o,_,_,ho,_⟩,_⟩:=I.loc
  exact free _ o (fun z=>(hch _ z).2.1 rfl) ho I.free
 ·obtain⟨v,o,ho,hd⟩:=I.cell x c e
  exact free c o (fun z=>(hch c z).2.2.1 x c e rfl) ho (I.freeC x c e)
 ·obtain⟨e,n,ne,nf,d⟩:=I.pin p hp
  have nch:p.1∉ch:=fun z=>(hch p.1 z).2.2.2 p hp rfl
  exact⟨keep p.1 p.2 ne nf nch e n,free p.1 p.2 nch e n,ne,nf,d⟩
theorem Inv.un {t':Nat} (I:Inv X pins σ H s) (u:Un X.fs [] H H' s.heap h') (hok:HOk X.prog X.w H' h'):Inv X pins σ H' {s with heap:=h',toks:=t'}:=by
 obtain⟨m,⟨o,es,ep,ho,r⟩,_⟩:=id I.loc
 obtain⟨sl,hL⟩:=u.any ho I.free (by simp)
 exact I.step (g':=s.gens) (d':=s.drawn) (ch:=[]) (fun _ z=>nomatch z) (fun b o _ hb _ e n=>u.keep b o e n hb (by simp)) (fun b o _ hb _ e n=>u.slot b o e n hb (by simp)) (fun b o _ e n=>u.free b o e n (by simp)) (fun b o _ e=>u.there b o e (by simp)) u.tups u.frzs u.tbls (fun m' hm=>by
  obtain⟨o',es',ep',ho',r'⟩:=hm
  rw[ho] at ho';cases ho'
  exact⟨_,es',ep',hL,r'⟩) hok I.bare
theorem Inv.call {g':Array GenState} {t':Nat} {d':Drawn} {ch:List Addr} (I:Inv X pins σ H s) (u:Un (frs X.stack) ch H H' s.heap h') (hok:HOk X.prog X.w H' h') (hg:AllBare g')
  (hch:∀b∈ch,(b∈X.ex∨X.s₀.heap.objs.size≤b)∧b≠X.env.locals∧(∀x c,X.env.cells.lookup x=some c→c≠b)∧∀p∈X.pn++pins,p.1≠b) :
  Inv X pins σ H' {s with heap:=h',gens:=g',drawn:=d',toks:=t'}:=by
 obtain⟨m,⟨o,es,ep,ho,r⟩,_⟩:=id I.loc
 obtain⟨sl,hL⟩:=u.any ho I.free fun z=>(hch _ z).2.1 rfl
 exact I.step (ch:=ch) hch (fun b o hL hb hc e n=>u.keep b o e n (fun z=>(List.mem_cons.mp (I.stkSub b z)).elim hL hb) hc) (fun b o _ _ hc e n=>u.any e n hc) (fun b o hc e n=>u.free b o e n hc) (fun b o hc e=>u.there b o e hc) u.tups u.frzs u.tbls (fun m' hm=>by
  obtain⟨o',es',ep',ho',r'⟩:=hm
  rw[ho] at ho';cases ho'
  exact⟨_,es',ep',hL,r'⟩) hok hg
theorem Inv.turned {t':Nat} {it:Addr} (I:Inv X pins σ H s) (k:∀b o,b≠it→s.heap.get? b=some o→h'.get? b=some o) (hn:H it=none) (hL:it≠X.env.locals)
  (h1:it∈X.ex∨X.s₀.heap.objs.size≤it) (h2:∀x c,X.env.cells.lookup x=some c→c≠it) (h3:∀p∈X.pn++pins,p.1≠it):Inv X pins σ H {s with heap:=h',toks:=t'}:=by
 have nit:∀b u,H b=some u→b≠it:=fun b u e z=>by rw[z,hn] at e;cases e
 refine I.step (g':=s.gens) (d':=s.drawn) (ch:=[it]) (fun b hb=>?_) (fun b o _ _ hc e _=>k b o (fun z=>hc (by simp[z])) e) (fun b o _ _ hc e _=>⟨o.slots,k b o (fun z=>hc (by simp[z])) e⟩) (fun _ _ _ _ n=>n)
  (fun b o hc e=>⟨o,k b o (fun z=>hc (by simp[z])) e⟩) (fun _ _ e=>e) (fun _ _ _ e=>e) (fun b ps e=>⟨#[],by rw[e];simp⟩) (fun m hm=>?_) (fun b u e=>?_) I.bare
 ·have e:b=it:=by simpa using hb
  subst e
  exact⟨h1,hL,h2,h3⟩
 ·obtain⟨o,es,ep,ho,r⟩:=hm
  exact⟨o,es,ep,k _ o (Ne.symm hL) ho,r⟩
 ·refine (I.hok b u e).stay (fun c v hc q=>k c v ?_ q) (fun _ q=>q) fun _ _ q=>q
  rcases hc with z|z
  ·rw[z];exact nit b u e
  ·exact nit c _ z
theorem Inv.tok (I:Inv X pins σ H s) (t:Nat):Inv X pins σ H {s with toks:=t}:=I.un (h':=s.heap) (t':=t) Un.refl I.hok
theorem Inv.kept {t':Nat} (I:Inv X pins σ H s) (k:∀b u,s.heap.get? b=some u→h'.get? b=some u):Inv X pins σ H {s with heap:=h',toks:=t'}:=I.un (Un.kept k) (I.hok.kept k)
theorem Inv.laid {a:Addr} {o:HO} {t':Nat} (I:Inv X pins σ H s) (k:∀b u,s.heap.get? b=some u→h'.get? b=some u) (hp:s.heap.objs.size≤a) (new:aS X.prog X.w (upd H a o) h' a o) :
  Inv X pins σ (upd H a o) {s with heap:=h',toks:=t'}:=I.un (Un.laid k hp (I.hok.fresh hp)) (I.hok.laid k hp new)
theorem Inv.write {x e:Addr} {o:HO} {t':Nat} (I:Inv X pins σ H s) (mu:Mut (H x)) (he:e=x∨H e=some (.own x)) (k:∀b u,b≠e→s.heap.get? b=some u→h'.get? b=some u) (heo:∃u,h'.get? e=some u)
  (new:aS X.prog X.w (upd H x o) h' x o):Inv X pins σ (upd H x o) {s with heap:=h',toks:=t'}:=I.un (Un.write mu he k heo) (I.hok.write mu he k heo new)
theorem Inv.pins_of {pins':List (Addr × Obj)} (I:Inv X pins σ H s) (h:∀p∈pins',s.heap.get? p.1=some p.2∧H p.1=none∧p.1≠X.env.locals∧p.1∉X.fs∧∀v,p.2.data≠.cell v):Inv X pins' σ H s:=
 ⟨I.ok,I.os,I.bare,I.base,I.loc,I.cell,I.free,I.freeC,fun p hp=>(List.mem_append.mp hp).elim (fun z=>I.pin p (List.mem_append_left _ z)) (h p),I.hok,I.len⟩
theorem k0 {N:List Str} (hN:N.Nodup) {i j:Nat} {x:Str} (a:N[i]? = some x) (b:N[j]? = some x):i=j:=by
 obtain⟨h1,e1⟩:=List.getElem?_eq_some_iff.mp a
 obtain⟨h2,e2⟩:=List.getElem?_eq_some_iff.mp b
 exact (List.getElem_inj hN).mp (e1.trans e2.symm)
theorem ja {M:Model} {A:Around} {E:Value→Shared→Prop} {i:Nat} {x:Str} {v:V} {u:Value} {Q:Unit→Shared→Prop} (I:Inv X pins σ H s) (hN:X.N.Nodup) (hi:X.N[i]? = some x) (hx:Loc X.env.scope x) (r:RelV v u)
  (h:∀s',Inv X pins (σ.set i (some v)) H s'→(∃a,Heap.SameBut a s.heap s'.heap∧(a=X.env.locals∨X.env.cells.lookup x=some a))→Q () s') (hf:X.fn x=true∨X.env.scope.names.lookup x=some .local:=by first|exact .inl rfl|exact .inr rfl|assumption):wpAny M A (storeName X.env x u) Q E s:=by
 obtain⟨m,hn,hl⟩:=id I.loc
 have hcls:(X.env.scope.kind==.class||(X.env.scope.kind==.module&&X.env.locals != X.env.globals))=false:=by rw[I.ok.kind];rfl
 have hiσ:i < σ.length:=by rw[I.len];exact (List.getElem?_eq_some_iff.mp hi).1
 have cne:=I.cne
 have tracked:∀{a:Addr} {h':Heap},(∃o,s.heap.get? a=some o∧H a=none)→Heap.SameBut a s.heap h'→HOk X.prog X.w H h':=fun {a h'} ha hs b ob e=>by
  obtain⟨_,_,hfree⟩:=ha
  refine (I.hok b ob e).stay (fun c w' hc q=>(hs.2 c ?_).trans q) (fun _ q=>q) fun _ _ q=>q
  rintro rfl
  rcases hc with rfl|hc
  ·rw[hfree] at e;cases e
  ·rw[hfree] at hc;cases hc
 rcases hx with hk|hk
 ·refine wpAny_storeName_local hk hn (fun h' hn' hs=>?_) hcls
  obtain⟨oL,_,_,hoL,_⟩:=id hn
  refine h _ ⟨I.ok,I.os,I.bare,⟨fun b o e n hb hx=>?_,fun b o e n hb hx=>?_,I.base.free,fun b o e hx=>?_,I.base.tups,I.base.frzs,I.base.tbls⟩,⟨_,hn',fun j y v' e1 e2 e3=>?_⟩,fun y c e=>?_,I.free,I.freeC,fun p hp=>?_,tracked ⟨oL,hoL,I.free⟩ hs,by simpa using I.len⟩ ⟨_,hs,.inl rfl⟩
  ·exact (hs.2 b (Nat.ne_of_lt (Nat.lt_of_lt_of_le (Heap.lt_size e) I.ok.above))).trans (I.base.keep b o e n hb hx)
  ·obtain⟨sl,e1⟩:=I.base.slot b o e n hb hx
   exact⟨sl,(hs.2 b (Nat.ne_of_lt (Nat.lt_of_lt_of_le (Heap.lt_size e) I.ok.above))).trans e1⟩
  ·obtain⟨o',e1⟩:=I.base.there b o e hx
   exact⟨o',(hs.2 b (Nat.ne_of_lt (Nat.lt_of_lt_of_le (Heap.lt_size e) I.ok.above))).trans e1⟩
  ·by_cases hj:j=i
   ·subst hj
    rw[hi] at e1;cases e1
    rw[List.getElem?_set_self hiσ] at e2
    cases e2
    exact⟨u,r,.inl ⟨hk,by simp⟩⟩
   ·rw[List.getElem?_set_ne (Ne.symm hj)] at e2
    obtain⟨u',r',q⟩:=hl j y v' e1 e2 e3
    refine⟨u',r',?_⟩
    rcases q with ⟨k,e⟩|⟨k,c,e,z⟩
    ·refine .inl ⟨k,?_⟩
     have:y≠x:=fun e=>hj (k0 hN e1 (e ▸ hi))
     simp[this,e]
    ·exact .inr ⟨k,c,e,z.sameBut hs (cne y c e)⟩
  ·obtain⟨w',z⟩:=I.cell y c e
   exact⟨w',z.sameBut hs (cne y c e)⟩
  ·obtain⟨e,n,ne,nf,d⟩:=I.pin p hp
   exact⟨(hs.2 p.1 ne).trans e,n,ne,nf,d⟩
 ·have hfn:X.fn x=true:=by
   rcases hf with z|z
   ·exact z
   ·rw[z] at hk;cases hk
  obtain⟨c,hc⟩:=I.ok.has x (.inl hk)
  obtain⟨w',z⟩:=I.cell x c hc
  refine wpAny_storeName_cell I.ok.kind hk hc z (fun h' hc' hs=>?_)
  obtain⟨oc,hoc,hocd⟩:=id z
  refine h {s with heap:=h'} ⟨I.ok,I.os,I.bare,⟨fun b o e n hb hx=>?_,fun b o e n hb hx=>?_,I.base.free,fun b o e hx=>?_,I.base.tups,I.base.frzs,I.base.tbls⟩,⟨m,hn.sameBut hs (Ne.symm (cne x c hc)),fun j y v' e1 e2 e3=>?_⟩,fun y c' e=>?_,I.free,I.freeC,fun p hp=>?_,tracked ⟨oc,hoc,I.freeC x c hc⟩ hs,by simpa using I.len⟩ ⟨c,hs,.inr hc⟩
  ·exact (hs.2 b (Nat.ne_of_lt (Nat.lt_of_lt_of_le (Heap.lt_size e) (I.ok.cab x c hfn hc)))).trans (I.base.keep b o e n hb hx)
  ·obtain⟨sl,e1⟩:=I.base.slot b o e n hb hx
   exact⟨sl,(hs.2 b (Nat.ne_of_lt (Nat.lt_of_lt_of_le (Heap.lt_size e) (I.ok.cab x c hfn hc)))).trans e1⟩
  ·obtain⟨o',e1⟩:=I.base.there b o e hx
   exact⟨o',(hs.2 b (Nat.ne_of_lt (Nat.lt_of_lt_of_le (Heap.lt_size e) (I.ok.cab x c hfn hc)))).trans e1⟩
  ·by_cases hj:j=i
   ·subst hj
    rw[hi] at e1;cases e1
    rw[List.getElem?_set_self hiσ] at e2
    cases e2
    exact⟨u,r,.inr ⟨.inl hk,c,hc,hc'⟩⟩
   ·rw[List.getElem?_set_ne (Ne.symm hj)] at e2
    obtain⟨u',r',q⟩:=hl j y v' e1 e2 e3
    refine⟨u',r',?_⟩
    rcases q with q|⟨k,c',e,z'⟩
    ·exact .inl q
    ·refine .inr ⟨k,c',e,z'.sameBut hs ?_⟩
     rintro rfl
     exact hj (k0 hN e1 (I.ok.inj _ _ _ e hc ▸ hi))
  ·by_cases hcc:c' = c
   ·subst hcc;exact⟨_,hc'⟩
   ·obtain⟨w2,z2⟩:=I.cell y c' e
    exact⟨w2,z2.sameBut hs hcc⟩
  ·obtain⟨e,n,ne,nf,d⟩:=I.pin p hp
   refine⟨(hs.2 p.1 ?_).trans e,n,ne,nf,d⟩
   intro q
   rw[q,hoc] at e
   have q':oc=p.2:=Option.some.inj e
   exact d w' (by rw[←q'];exact hocd)
theorem kr {M:Model} {A:Around} {E:Value→Shared→Prop} {i:Nat} {x:Str} {v:V} {u:Value} {Q:Unit→Shared→Prop} (I:Inv X pins σ H s) (hN:X.N.Nodup) (hi:X.N[i]? = some x) (hx:Loc X.env.scope x) (r:RelV v u)
  (h:∀s',Inv X pins (σ.set i (some v)) H s'→Q () s') (hf:X.fn x=true∨X.env.scope.names.lookup x=some .local:=by first|exact .inl rfl|exact .inr rfl|assumption):wpAny M A (storeName X.env x u) Q E s:=
 ja I hN hi hx r (fun s' I' _=>h s' I') hf
theorem Inv.call' {s':Shared} {ch:List Addr} (I:Inv X pins σ H s) (ho:s'.os=s.os) (u:Un (frs X.stack) ch H H' s.heap s'.heap) (hok:HOk X.prog X.w H' s'.heap) (hg:AllBare s'.gens)
  (hch:∀b∈ch,(b∈X.ex∨X.s₀.heap.objs.size≤b)∧b≠X.env.locals∧(∀x c,X.env.cells.lookup x=some c→c≠b)∧∀p∈X.pn++pins,p.1≠b):Inv X pins σ H' s':=by
 obtain⟨h',g',d',t',o'⟩:=s'
 have e:o' = s.os:=ho
 subst e
 exact I.call (g':=g') (t':=t') (d':=d') u hok hg hch
end
abbrev XK:=Value→Option Addr→Hp→Prop
abbrev St:=List (Option V)
abbrev VK:=V→Hp→Prop
abbrev TE:=St→Hp→VK→Prop
abbrev TT:=St→Hp→(Bool→Hp→Prop)→Prop
abbrev TA:=St→Hp→(List V→Hp→Prop)→Prop
structure Ends where
 nx:St→Hp→Prop
 rt:VK
 bk:St→Hp→Prop:=fun _ _=>False
 ct:St→Hp→Prop:=fun _ _=>False
abbrev TS:=Ends→St→Hp→Prop
def EP (X:Cx) (pins:List (Addr × Obj)) (σ:St) (Q:VK) (u:Value) (s':Shared):Prop:=∃v H',Inv X pins σ H' s'∧RelV v u∧Q v H'
def TP (X:Cx) (pins:List (Addr × Obj)) (σ:St) (Q:Bool→Hp→Prop) (b:Bool) (s':Shared):Prop:=∃H',Inv X pins σ H' s'∧Q b H'
def AP (X:Cx) (pins:List (Addr × Obj)) (σ:St) (Q:List V→Hp→Prop) (us:List Value) (s':Shared):Prop:=∃vs H',Inv X pins σ H' s'∧Vals vs us∧Q vs H'
def SP (X:Cx) (pins:List (Addr × Obj)) (D:Ends) (f:Flow) (s':Shared):Prop:=
 match f with
 | .next=>∃σ' H',Inv X pins σ' H' s'∧D.nx σ' H'
 | .brk=>∃σ' H',Inv X pins σ' H' s'∧D.bk σ' H'
 | .cont=>∃σ' H',Inv X pins σ' H' s'∧D.ct σ' H'
 | .ret u=>∃v σ' H',Inv X pins σ' H' s'∧RelV v u∧D.rt v H'
def PE (X:Cx) (e:Expr) (t:TE):Prop:=
 ∀(pins:List (Addr × Obj)) (s:Shared) (σ:St) (H:Hp) (Q:VK),Inv X pins σ H s→t σ H Q→wpAny (model X.prog X.w) X.A (eval e X.env) (EP X pins σ Q) X.xe s
def PT (X:Cx) (e:Expr) (t:TT):Prop:=
 ∀(pins:List (Addr × Obj)) (s:Shared) (σ:St) (H:Hp) (Q:Bool→Hp→Prop),Inv X pins σ H s→t σ H Q→wpAny (model X.prog X.w) X.A (isTrue e X.env (eval e X.env)) (TP X pins σ Q) X.xe s
def PW (X:Cx) (e:Expr) (t:TT):Prop:=
 ∀(whole:Sem Value) (pins:List (Addr × Obj)) (s:Shared) (σ:St) (H:Hp) (Q:Bool→Hp→Prop),Inv X pins σ H s→t σ H Q→wpAny (model X.prog X.w) X.A (isTrue e X.env whole) (TP X pins σ Q) X.xe s
theorem PW.pt {X:Cx} {e:Expr} {t:TT} (h:PW X e t):PT X e t:=h _
def PA (X:Cx) (es:List Expr) (t:TA):Prop:=
 ∀(pos:Pos) (pins:List (Addr × Obj)) (s:Shared) (σ:St) (H:Hp) (Q:List V→Hp→Prop),Inv X pins σ H s→t σ H Q→wpAny (model X.prog X.w) X.A (spliced (backTo pos (starEach es X.env))) (AP X pins σ Q) X.xe s
def PS (X:Cx) (st:Stmt) (t:TS):Prop:=
 ∀(pins:List (Addr × Obj)) (s:Shared) (σ:St) (H:Hp) (D:Ends),Inv X pins σ H s→t D σ H→wpAny (model X.prog X.w) X.A (exec st X.env) (SP X pins D) X.xe s
def PSs (X:Cx) (st:List Stmt) (t:TS):Prop:=
 ∀(pins:List (Addr × Obj)) (s:Shared) (σ:St) (H:Hp) (D:Ends),Inv X pins σ H s→t D σ H→wpAny (model X.prog X.w) X.A (execs st X.env) (SP X pins D) X.xe s
theorem thn {α:Type} {t:Sem α} {Q Q':α→Shared→Prop} {M:Model} {A:Around} {E:Value→Shared→Prop} {s:Shared} (h:wpAny M A t Q E s) (hQ:∀a s,Q a s→Q' a s):wpAny M A t Q' E s:=wpAny_mono h hQ fun _ _ x=>x
end L2
namespace L2
open PySem PySem.Spec PyProof.Rows
section
variable {X:Cx}
def tVar (i:Nat):TE:=fun σ H Q=>∃v,σ[i]? = some (some v)∧Q v H
def tC (v:V):TE:=fun _ H Q=>Q v H
theorem uD {i:Nat} {x:Str} {pos:Pos} (hN:X.N[i]? = some x) (hv:Vis X.env.scope x) (hd:(x==("__debug__" : Str))=false:=by decide) (hcd:(x==("__classdict__" : Str))=false:=by decide):PE X (.Name x pos) (tVar i):=by
 intro pins s σ H Q I h
 obtain⟨v,e,h⟩:=h
 obtain⟨m,hn,hl⟩:=I.loc
 obtain⟨u,r,l⟩:=hl i x v hN e hv
 have fin:EP X pins σ Q u s:=⟨v,H,I,r,h⟩
 rcases l with ⟨hk,hm⟩|⟨hk,c,hc,hcell⟩
 ·exact wpAny_Name (wpAny_loadName_local I.ok.kind hk hn hm fin) hd
 ·rcases hk with hk|hk
  ·exact wpAny_Name (wpAny_loadName_cell I.ok.kind hk hc hcell fin) hd
  ·exact wpAny_Name (wpAny_loadName_free I.ok.kind hk hc hcell fin hcd) hd
theorem aj {i j pos}:PE X (.Constant (.int i) j pos) (tC (.int i)):=fun _ _ _ H _ I h=>wpAny_Constant_int ⟨.int i,H,I.tok _,⟨_,rfl⟩,h⟩
theorem ip {b j pos}:PE X (.Constant (.bool b) j pos) (tC (.bl b)):=fun _ _ _ H _ I h=>Constant_bool ⟨.bl b,H,I,rfl,h⟩
def Gl (X:Cx) (x:Str):Prop:=X.env.kindOf x=some .globalImplicit
theorem j8 {E:Value→Shared→Prop} {pins:List (Addr × Obj)} {s:Shared} {σ:St} {H:Hp} {x:Str} {u:Value} {pos:Pos} {Q:Value→Shared→Prop} (I:Inv X pins σ H s) (hg:Gl X x) (hm:X.mg x=some u) (h:Q u s)
  (hd:(x==("__debug__" : Str))=false:=by decide):wpAny (model X.prog X.w) X.A (eval (.Name x pos) X.env) Q E s:=
 Calls.Name_function_global I.ok.kind hg (Calls.loadGlobal_global (by rw[I.ok.glob];exact I.mod.glob.keeps I.bk) hm h) hd
theorem iC {E:Value→Shared→Prop} {pins:List (Addr × Obj)} {s:Shared} {σ:St} {H:Hp} {x:Str} {u:Value} {pos:Pos} {Q:Value→Shared→Prop} (I:Inv X pins σ H s) (hg:Gl X x) (hm:X.mg x=none) (hv:bootBuiltins x=some u) (h:Q u s)
  (hn:x≠"__name__":=by decide) (hd:(x==("__debug__" : Str))=false:=by decide):wpAny (model X.prog X.w) X.A (eval (.Name x pos) X.env) Q E s:=by
 obtain⟨mb,h1,h2⟩:=I.mod.blt
 exact Calls.Name_function_global I.ok.kind hg (Calls.loadGlobal_builtin (by rw[I.ok.glob];exact I.mod.glob.keeps I.bk) hm (by rw[I.ok.blt];exact h1.keeps I.bk) ((h2 x hn).trans hv) h) hd
theorem sL {x:Str} {v:V} {u:Value} {pos:Pos} (hg:Gl X x) (hm:X.mg x=some u) (r:RelV v u) (hd:(x==("__debug__" : Str))=false:=by decide):PE X (.Name x pos) (tC v):=
 fun _ _ _ H _ I h=>j8 I hg hm ⟨v,H,I,r,h⟩ hd
theorem fS {x:Str} {v:V} {u:Value} {pos:Pos} (hg:Gl X x) (hm:X.mg x=none) (hv:bootBuiltins x=some u) (r:RelV v u) (hn:x≠"__name__":=by decide) (hd:(x==("__debug__" : Str))=false:=by decide):PE X (.Name x pos) (tC v):=
 fun _ _ _ H _ I h=>iC I hg hm hv ⟨v,H,I,r,h⟩ hn hd
variable {a b:Expr} {ta tb:TE} {pos:Pos}
def PC (X:Cx) (op:CmpOp) (a b:Expr) (t:TE):Prop:=
 ∀(pins:List (Addr × Obj)) (s:Shared) (σ:St) (H:Hp) (Q:VK),Inv X pins σ H s→t σ H Q →
  wpAny (model X.prog X.w) X.A (eval a X.env) (fun v s₁=>wpAny (model X.prog X.w) X.A (eval b X.env) (fun u s₂=>wpAny (model X.prog X.w) X.A (compareOp op v u) (EP X pins σ Q) X.xe s₂) X.xe s₁) X.xe s
def tB (t:TE):TT:=fun σ H Q=>t σ H fun x H1=>∃c,x=.bl c∧Q c H1
theorem uF {op:CmpOp} {t:TE} (h:PC X op a b t) (h1:behindInMarks op b=false:=by first|exact nobehind _ (by decide) (by decide)|rfl):PE X (.Compare a [op] [b] pos) t:=fun pins s σ H Q I hw=>wpAny_Compare1 (h pins s σ H Q I hw) h1
theorem gr {op:CmpOp} {t:TE} (h:PC X op a b t) (h1:behindInMarks op b=false:=by first|exact nobehind _ (by decide) (by decide)|rfl):PT X (.Compare a [op] [b] pos) (tB t):=by
 intro pins s σ H Q I hw
 refine wpAny_isTrue_Compare1 (thn (h pins s σ H _ I hw) fun v s1 h1=>thn h1 fun u s2 h2=>thn h2 fun c s3 ⟨x,H1,I1,r1,q1⟩=>?_) h1
 obtain⟨d,rfl,q⟩:=q1
 cases r1
 exact wpAny_truthy_bool ⟨H1,I1,q⟩
theorem dL {e:Expr} {t:TE} (h:PE X e t) (he:∀whole,isTrue e X.env whole=(do let v ←whole;standAt e.pos;holding [v] (truthy v)):=by intro _;rfl):PT X e (tB t):=by
 intro pins s σ H Q I hw
 refine isTrue_plain (thn (h pins s σ H _ I hw) fun v s1 ⟨x,H1,I1,r1,q1⟩=>?_) (he _)
 obtain⟨d,rfl,q⟩:=q1
 cases r1
 exact wpAny_truthy_bool ⟨H1,I1,q⟩
variable {tA tB':TT} {rest:List Expr}
def tAnd (t u:TT):TT:=fun σ H Q=>t σ H fun c H1=>if c=true then u σ H1 Q else Q false H1
def tOr (t u:TT):TT:=fun σ H Q=>t σ H fun c H1=>if c=true then Q true H1 else u σ H1 Q
def tNot (t:TT):TT:=fun σ H Q=>t σ H fun c H1=>Q (!c) H1
theorem fQ (ha:PT X a tA):PW X (.BoolOp .And [a] pos) tA:=by
 intro wh pins s σ H Q I h
 refine isTrue_and (thn (ha pins s σ H Q I h) fun c s1 e=>?_)
 cases c with
 |true=>exact isTrue_and_nil e
 |false=>exact e
theorem jW (ha:PT X a tA):PW X (.BoolOp .Or [a] pos) tA:=by
 intro wh pins s σ H Q I h
 refine isTrue_or (thn (ha pins s σ H Q I h) fun c s1 e=>?_)
 cases c with
 |false=>exact isTrue_or_nil e
 |true=>exact e
theorem im (ha:PT X a tA) (hb:PW X (.BoolOp .And (b::rest) pos) tB'):PW X (.BoolOp .And (a::b::rest) pos) (tAnd tA tB'):=by
 intro wh pins s σ H Q I h
 refine isTrue_and (thn (ha pins s σ H _ I h) fun c s1 ⟨H1,I1,q1⟩=>?_)
 cases c with
 |true=>exact hb wh pins s1 σ H1 Q I1 q1
 |false=>exact⟨H1,I1,q1⟩
theorem jd (ha:PT X a tA) (hb:PW X (.BoolOp .Or (b::rest) pos) tB'):PW X (.BoolOp .Or (a::b::rest) pos) (tOr tA tB'):=by
 intro wh pins s σ H Q I h
 refine isTrue_or (thn (ha pins s σ H _ I h) fun c s1 ⟨H1,I1,q1⟩=>?_)
 cases c with
 |true=>exact⟨H1,I1,q1⟩
 |false=>exact hb wh pins s1 σ H1 Q I1 q1
theorem eI (ha:PT X a tA):PT X (.UnaryOp .Not a pos) (tNot tA):=by
 intro pins s σ H Q I h
 exact isTrue_not (ha pins s σ H (fun c H1=>Q (!c) H1) I h)
def vF (ta tb:TE):TE:=fun σ H Q=>ta σ H fun x H1=>∃c,x=.bl c∧if c=true then tb σ H1 Q else Q (.bl false) H1
def vz (ta:TE):TE:=fun σ H Q=>ta σ H fun x H1=>∃c,x=.bl c∧Q (.bl (!c)) H1
theorem j4 {op} {t:TE} (h:PE X a t):PE X (.BoolOp op [a] pos) t:=fun pins s σ H Q I hw=>BoolOp_one (h pins s σ H Q I hw)
theorem gw (ha:PE X a ta) (hb:PE X (.BoolOp .And (b::rest) pos) tb):PE X (.BoolOp .And (a::b::rest) pos) (vF ta tb):=by
 intro pins s σ H Q I h
 refine BoolOp_and (thn (ha pins s σ H _ I h) fun v s1 ⟨x,H1,I1,r1,q1⟩=>?_)
 obtain⟨c,rfl,q1⟩:=q1
 cases r1
 refine wpAny_truthy_bool ?_
 cases c with
 |true=>exact hb pins s1 σ H1 Q I1 q1
 |false=>exact⟨.bl false,H1,I1,rfl,q1⟩
theorem uE (ha:PE X a ta):PE X (.UnaryOp .Not a pos) (vz ta):=by
 intro pins s σ H Q I h
 refine UnaryOp_ (thn (ha pins s σ H _ I h) fun v s1 ⟨x,H1,I1,r1,q1⟩=>?_)
 obtain⟨c,rfl,q1⟩:=q1
 cases r1
 exact not_of (wpAny_truthy_bool ⟨.bl (!c),H1,I1,rfl,q1⟩)
def tIf (t:TT) (ta tb:TE):TE:=fun σ H Q=>t σ H fun c H1=>if c=true then ta σ H1 Q else tb σ H1 Q
theorem pV {c:Expr} (hc:PT X c tA) (ha:PE X a ta) (hb:PE X b tb):PE X (.IfExp c a b pos) (tIf tA ta tb):=by
 intro pins s σ H Q I h
 refine wpAny_IfExp (thn (hc pins s σ H _ I h) fun d s1 ⟨H1,I1,q1⟩=>?_)
 cases d with
 |true=>exact ha pins s1 σ H1 Q I1 q1
 |false=>exact hb pins s1 σ H1 Q I1 q1
end
end L2
namespace L2
open PySem PySem.Spec PyProof.Rows
def SqL (K:W.Frag) (H:Hp) (a:Addr) (xs:List V):Prop:=
 Rd H a (.lst xs) ∨
  ∃(o:Obj) (its:Array Value) (n:Nat),K.lookup a=some o∧o.cls=.type "list"∧o.dict=none∧o.data=.seq its n∧its.size≤sizeLine∧Vals xs its.toList
def SqT (K:W.Frag) (H:Hp) (a:Addr) (xs:List V):Prop:=
 Rd H a (.tup xs) ∨
  ∃(o:Obj) (its:Array Value) (n:Nat),K.lookup a=some o∧o.cls=.type "tuple"∧o.data=.seq its n∧its.size≤sizeLine∧Vals xs its.toList
def absV:Value→Option V
 | .none=>some .non
 | .bool b=>some (.bl b)
 | .int i _=>some (.int i)
 | .str x _=>some (.str x)
 | .bytes b _=>some (.byt b)
 | .float b _=>some (.flt b)
 | .ref a=>some (.ref a)
 | .type n=>some (.ty n)
 |_=>none
theorem RelV.abs {x:V} {u:Value} (r:RelV x u):absV u=some x:=by
 cases x with
 |non=>cases r;rfl
 |bl _=>cases r;rfl
 |int _=>obtain⟨t,rfl⟩:=r;rfl
 |str _=>obtain⟨t,rfl⟩:=r;rfl
 |byt _=>obtain⟨t,rfl⟩:=r;rfl
 |flt _=>obtain⟨t,rfl⟩:=r;rfl
 |ref _=>cases r;rfl
 |ty _=>cases r;rfl
theorem RelV.inj {x y:V} {u:Value} (r:RelV x u) (q:RelV y u):x=y:=Option.some.inj (r.abs.symm.trans q.abs)
theorem Vals.inj:∀{xs ys:List V} {us:List Value},Vals xs us→Vals ys us→xs=ys
 |_,_,_,.nil,.nil=>rfl
 |_,_,_,.cons r t,.cons r' t'=>by rw[r.inj r',Vals.inj t t']
section
variable {X:Cx} {pins:List (Addr × Obj)} {σ:St} {H:Hp} {s:Shared} {a:Addr} {xs ys:List V}
theorem SqL.of {K:W.Frag} (h:H a=some (.lst xs)):SqL K H a xs:=.inl (.inl h)
theorem SqT.of {K:W.Frag} (h:H a=some (.tup xs)):SqT K H a xs:=.inl (.inl h)
theorem Inv.list (I:Inv X pins σ H s) (h:SqL X.K H a xs):∃its:List Value,Vals xs its∧PlainL s.heap a its.toArray∧xs.length≤sizeLine:=by
 rcases h with h|⟨o,its,n,hk,hc,hd,hs,hz,r⟩
 ·obtain⟨z,its,n,r,e⟩:=h.ok I.hok
  exact⟨its,r,⟨_,n,e,rfl,rfl,rfl⟩,z⟩
 ·refine⟨its.toList,r,⟨o,n,I.kIn a o hk,hc,hd,by simpa using hs⟩,?_⟩
  have e:=r.length
  simp only[Array.length_toList] at e
  omega
theorem Inv.tuple (I:Inv X pins σ H s) (h:SqT X.K H a xs):∃its:List Value,Vals xs its∧IsTup s.heap a its.toArray∧xs.length≤sizeLine:=by
 rcases h with h|⟨o,its,n,hk,hc,hs,hz,r⟩
 ·obtain⟨⟨z,_⟩,its,r,p⟩:=h.ok I.hok
  exact⟨its,r,p,z⟩
 ·refine⟨its.toList,r,⟨o,I.kIn a o hk,hc,n,by simpa using hs⟩,?_⟩
  have e:=r.length
  simp only[Array.length_toList] at e
  omega
theorem Inv.list_inj (I:Inv X pins σ H s) (h:SqL X.K H a xs) (h':SqL X.K H a ys):xs=ys:=by
 obtain⟨its,r,⟨o,n,e,_,_,d⟩,_⟩:=I.list h
 obtain⟨its',r',⟨o',n',e',_,_,d'⟩,_⟩:=I.list h'
 rw[e] at e';cases e'
 rw[d] at d'
 injection d' with d1 _
 have:its=its':=by simpa using congrArg Array.toList d1
 subst this
 exact r.inj r'
theorem Inv.tuple_inj (I:Inv X pins σ H s) (h:SqT X.K H a xs) (h':SqT X.K H a ys):xs=ys:=by
 obtain⟨its,r,⟨o,e,_,n,d⟩,_⟩:=I.tuple h
 obtain⟨its',r',⟨o',e',_,n',d'⟩,_⟩:=I.tuple h'
 rw[e] at e';cases e'
 rw[d] at d'
 injection d' with d1 _
 have:its=its':=by simpa using congrArg Array.toList d1
 subst this
 exact r.inj r'
end
abbrev Cx.wish (X:Cx) (E:Value→Shared→Prop):Cx:={X with xe:=E}
abbrev Cx.nox (X:Cx):Cx:=X.wish fun _ _=>False
theorem Cx.Ok.wish {X:Cx} (ok:X.Ok) (E:Value→Shared→Prop):(X.wish E).Ok:=
 ⟨ok.mod,ok.kind,ok.glob,ok.blt,ok.above,ok.inj,ok.has,ok.cab,ok.hd,ok.frames,ok.stk,ok.exf,ok.bs,ok.bsz,ok.noex,ok.exfs,ok.funs,ok.frf⟩
theorem Cx.Ok.unwish {X:Cx} {E:Value→Shared→Prop} (ok:(X.wish E).Ok):X.Ok:=
 ⟨ok.mod,ok.kind,ok.glob,ok.blt,ok.above,ok.inj,ok.has,ok.cab,ok.hd,ok.frames,ok.stk,ok.exf,ok.bs,ok.bsz,ok.noex,ok.exfs,ok.funs,ok.frf⟩
section
variable {X:Cx} {pins:List (Addr × Obj)} {σ:St} {H:Hp} {s:Shared} {E:Value→Shared→Prop}
theorem Inv.wish (I:Inv X pins σ H s) (E:Value→Shared→Prop):Inv (X.wish E) pins σ H s:=⟨I.ok.wish E,I.os,I.bare,I.base,I.loc,I.cell,I.free,I.freeC,I.pin,I.hok,I.len⟩
theorem Inv.unwish (I:Inv (X.wish E) pins σ H s):Inv X pins σ H s:=⟨I.ok.unwish,I.os,I.bare,I.base,I.loc,I.cell,I.free,I.freeC,I.pin,I.hok,I.len⟩
theorem SP.unwish {D:Ends} {f:Flow} {s':Shared} (h:SP (X.wish E) pins D f s'):SP X pins D f s':=by
 cases f with
 |next=>obtain⟨σ',H',I,q⟩:=h;exact⟨σ',H',I.unwish,q⟩
 |brk=>obtain⟨σ',H',I,q⟩:=h;exact⟨σ',H',I.unwish,q⟩
 |cont=>obtain⟨σ',H',I,q⟩:=h;exact⟨σ',H',I.unwish,q⟩
 |ret u=>obtain⟨v,σ',H',I,r,q⟩:=h;exact⟨v,σ',H',I.unwish,r,q⟩
theorem PSs.nox {st:List Stmt} {t:TS} (h:PSs X.nox st t):PSs X st t:=fun pins s σ H D I hw=>
 wpAny_mono (h pins s σ H D (I.wish _) hw) (fun _ _ q=>q.unwish) fun _ _ z=>False.elim z
end
section
variable {X:Cx} {st:Stmt} {rest:List Stmt} {t u:TS} {e:Expr} {te:TE} {pos:Pos}
def vA:TS:=fun D σ H=>D.nx σ H
def tSeq (t u:TS):TS:=fun D σ H=>t {D with nx:=u D} σ H
theorem aZ:PSs X [] vA:=fun _ _ σ H _ I h=>wpAny_execs_nil ⟨σ,H,I,h⟩
theorem ae (h1:PS X st t) (h2:PSs X rest u):PSs X (st::rest) (tSeq t u):=by
 intro pins s σ H D I h
 refine wpAny_execs_cons (thn (h1 pins s σ H {D with nx:=u D} I h) fun f s1 q=>?_)
 cases f with
 |next=>
  obtain⟨σ',H',I',q⟩:=q
  exact h2 pins s1 σ' H' D I' q
 |ret v=>exact q
 |brk=>exact q
 |cont=>exact q
theorem ak (h1:PS X st t):PSs X [st] t:=by
 intro pins s σ H D I h
 refine wpAny_execs_cons (thn (h1 pins s σ H D I h) fun f s1 q=>?_)
 cases f with
 |next=>exact wpAny_execs_nil q
 |ret v=>exact q
 |brk=>exact q
 |cont=>exact q
def vD:TS:=fun D σ H=>D.ct σ H
theorem kM:PS X (.Continue pos) vD:=fun _ _ σ H _ I h=>wpAny_Continue ⟨σ,H,I,h⟩
theorem Inv.quiet {pins:List (Addr × Obj)} {σ:St} {H:Hp} {s:Shared} (I:Inv X pins σ H s):interactive X.env=false:=by simp[interactive,I.ok.kind]
def vC (te:TE):TS:=fun D σ H=>te σ H fun _ H1=>D.nx σ H1
theorem aT (he:PE X e te) (hs:swapsWith e none pos.line X.env=pure false:=by rfl):PS X (.Expr e pos) (vC te):=by
 intro pins s σ H D I h
 exact wpAny_Expr_any (thn (he pins s σ H _ I h) fun v s1 ⟨x,H1,I1,r1,q1⟩=>⟨σ,H1,I1,q1⟩) I.quiet hs
def tRet (te:TE):TS:=fun D σ H=>te σ H D.rt
theorem aD (he:PE X e te):PS X (.Return (some e) pos) (tRet te):=by
 intro pins s σ H D I h
 exact wpAny_Return_some (thn (he pins s σ H _ I h) fun v s1 ⟨x,H1,I1,r1,q1⟩=>⟨x,σ,H1,I1,r1,q1⟩)
def tIfS (c:TT) (t u:TS):TS:=fun D σ H=>c σ H fun b H1=>if b=true then t D σ H1 else u D σ H1
theorem cm {c:Expr} {a b:List Stmt} {tc:TT} (hc:PT X c tc) (ha:PSs X a t) (hb:PSs X b u):PS X (.If c a b pos) (tIfS tc t u):=by
 intro pins s σ H D I h
 refine wpAny_If (thn (hc pins s σ H _ I h) fun d s1 ⟨H1,I1,q1⟩=>?_)
 cases d with
 |true=>exact ha pins s1 σ H1 D I1 q1
 |false=>exact hb pins s1 σ H1 D I1 q1
def ui:TS:=fun _ _ _=>False
theorem eV {sts:List Stmt}:PSs X sts ui:=fun _ _ _ _ _ _ h=>h.elim
end
abbrev TG:=V→St→Hp→(St→Hp→Prop)→Prop
abbrev TGs:=List V→St→Hp→(St→Hp→Prop)→Prop
def PG (X:Cx) (target:Expr) (t:TG):Prop:=
 ∀(pins:List (Addr × Obj)) (s:Shared) (σ:St) (H:Hp) (v:V) (u:Value) (Q:St→Hp→Prop),Inv X pins σ H s→RelV v u→t v σ H Q →
  wpAny (model X.prog X.w) X.A (assign target X.env u) (fun _ s'=>∃σ' H',Inv X pins σ' H' s'∧Q σ' H') X.xe s
def PGs (X:Cx) (ts:List Expr) (t:TGs):Prop:=
 ∀(pins:List (Addr × Obj)) (s:Shared) (σ:St) (H:Hp) (vs:List V) (us:List Value) (Q:St→Hp→Prop),Inv X pins σ H s→Vals vs us→t vs σ H Q →
  wpAny (model X.prog X.w) X.A (assignInOrder ((assignEach ts X.env).map (·.2)) us) (fun _ s'=>∃σ' H',Inv X pins σ' H' s'∧Q σ' H') X.xe s
abbrev TSet:=V→V→V→Hp→(Hp→Prop)→Prop
def PSet (X:Cx) (t:TSet):Prop:=
 ∀(pins:List (Addr × Obj)) (s:Shared) (σ:St) (H:Hp) (o i v:V) (ov iv u:Value) (Q:Hp→Prop),Inv X pins σ H s→RelV o ov→RelV i iv→RelV v u→t o i v H Q →
  wpAny (model X.prog X.w) X.A (setItem ov iv u) (fun _ s'=>∃H',Inv X pins σ H' s'∧Q H') X.xe s
section
variable {X:Cx} {pos:Pos}
def cF (i:Nat):TG:=fun v σ H Q=>Q (σ.set i (some v)) H
theorem aq {i:Nat} {x:Str} (hN:X.N.Nodup) (hi:X.N[i]? = some x) (hx:Loc X.env.scope x) (hf:X.fn x=true∨X.env.scope.names.lookup x=some .local:=by first|exact .inl rfl|exact .inr rfl|assumption):PG X (.Name x pos) (cF i):=by
 intro pins s σ H v u Q I r h
 exact wpAny_assign_Name (kr I hN hi hx r (fun s' I'=>⟨_,H,I',h⟩) hf)
def gNil:TGs:=fun vs σ H Q=>vs=[]∧Q σ H
def fT (t:TG) (u:TGs):TGs:=fun vs σ H Q=>∃v r,vs=v::r∧t v σ H fun σ' H'=>u r σ' H' Q
theorem be:PGs X [] gNil:=by
 intro pins s σ H vs us Q I r h
 obtain⟨e,h⟩:=h
 subst e
 cases r
 exact assignInOrder_nil ⟨σ,H,I,h⟩
theorem aw {e:Expr} {es:List Expr} {t:TG} {u:TGs} (h1:PG X e t) (h2:PGs X es u)
  (hs:(assignEach (e::es) X.env).map (·.2)=assign e X.env::(assignEach es X.env).map (·.2):=by rfl):PGs X (e::es) (fT t u):=by
 intro pins s σ H vs us Q I r h
 obtain⟨v,vr,e1,h⟩:=h
 subst e1
 cases r with
 |cons r rr=>
  rw[hs]
  refine assignInOrder_cons (thn (h1 pins s σ H _ _ _ I r h) fun _ s1 ⟨σ1,H1,I1,q1⟩=>?_)
  exact h2 pins s1 σ1 H1 _ _ Q I1 rr q1
def gTup (K:W.Frag) (n:Nat) (t:TGs):TG:=fun v σ H Q=>∃a xs,v=.ref a∧SqT K H a xs∧xs.length=n∧t xs σ H Q
theorem bI {es:List Expr} {k:Nat} {t:TGs} {n:Nat} (hc:X.calm=true) (h:PGs X es t)
  (hn:(assignEach es X.env).length=n:=by rfl) (hst:(assignEach es X.env).findIdx? (·.1)=none:=by rfl):PG X (.Tuple es k pos) (gTup X.K n t):=by
 intro pins s σ H v u Q I r hw
 obtain⟨a,xs,e1,hq,hl,hw⟩:=hw
 subst e1
 cases r
 obtain⟨its,rv,ht,hz⟩:=I.tuple hq
 refine assign_Tuple_tuple (I.ok.hd hc) ht (by simp[hn,←hl,rv.length]) hst fun h' hx=>?_
 have I1:Inv X pins σ H {s with heap:=h'}:=I.kept (t':=s.toks) fun b o e=>hx b o (Nat.ne_of_lt (Heap.lt_size e)) e
 exact h pins _ σ H xs _ Q I1 (by simpa using rv) hw
def gSub (to ti:TE) (t:TSet):TG:=fun v σ H Q=>to σ H fun o H1=>ti σ H1 fun i H2=>t o i v H2 fun H3=>Q σ H3
theorem mw {o i:Expr} {to ti:TE} {t:TSet} (ho:PE X o to) (hi:PE X i ti) (hs:PSet X t)
  (ha:∀v,assign (.Subscript o i pos) X.env v=(do
   let ov ←holding [v] (eval o X.env)
   let iv ←holding [v,ov] (eval i X.env)
   standAt pos
   holding [v,ov,iv] (setItem ov iv v)
   release [v,ov,iv] []):=by intro _;rfl):PG X (.Subscript o i pos) (gSub to ti t):=by
 intro pins s σ H v u Q I r h
 rw[ha]
 refine wpAny_bind (wpAny_holding (thn (ho pins s σ H _ I h) fun ov s1 ⟨x,H1,I1,r1,q1⟩=>?_))
 refine wpAny_bind (wpAny_holding (thn (hi pins s1 σ H1 _ I1 q1) fun iv s2 ⟨y,H2,I2,r2,q2⟩=>?_))
 refine wpAny_bind (wpAny_standAt (wpAny_bind (wpAny_holding (thn (hs pins s2 σ H2 x y v ov iv u _ I2 r1 r2 r q2) fun _ s3 ⟨H3,I3,q3⟩=>?_))))
 exact wpAny_release ⟨σ,H3,I3,q3⟩
def tAsg (te:TE) (g:TG):TS:=fun D σ H=>te σ H fun x H1=>g x σ H1 D.nx
theorem eJ {tg e:Expr} {te:TE} {g:TG} (he:PE X e te) (hg:PG X tg g) (hs:swapsWithSole [tg] e pos.line X.env=pure false:=by rfl) (hw:swappedStores [tg] e X.env=pure none:=by rfl)
  (h1:(assignEach [tg] X.env).map (·.2)=[assign tg X.env]:=by rfl):PS X (.Assign [tg] e pos) (tAsg te g):=by
 intro pins s σ H D I h
 refine wpAny_Assign_stores (thn (he pins s σ H _ I h) fun v s1 ⟨x,H1,I1,r1,q1⟩=>?_) hs hw
 rw[h1]
 exact thn (hg pins s1 σ H1 x v _ I1 r1 q1) fun _ s2 q=>q
theorem av {i:Nat} {x:Str} {e:Expr} {te:TE} {pos':Pos} (hN:X.N.Nodup) (hi:X.N[i]? = some x) (hx:Loc X.env.scope x) (he:PE X e te) (hs:swapsWith e (some (.Name x pos')) pos.line X.env=pure false:=by rfl) (hf:X.fn x=true∨X.env.scope.names.lookup x=some .local:=by first|exact .inl rfl|exact .inr rfl|assumption) :
  PS X (.Assign [.Name x pos'] e pos) (tAsg te (cF i)):=by
 intro pins s σ H D I h
 refine wpAny_Assign_Name (thn (he pins s σ H _ I h) fun v s1 ⟨y,H1,I1,r1,q1⟩=>?_) hs
 exact kr I1 hN hi hx r1 (fun s2 I2=>⟨_,H1,I2,q1⟩) hf
end
section
variable {X:Cx} {pos:Pos}
def lR (c:TT) (tb:TS):TS:=fun D σ H=>∃W:Nat→St→Hp→Prop,(∃m,W m σ H)∧∀m σ H,W m σ H →
 c σ H fun b H1=>if b=true then ∃N:St→Hp→Prop,(∀σ' H',N σ' H'→∃m',m' < m∧W m' σ' H')∧tb {D with nx:=N,ct:=N,bk:=D.nx} σ H1 else D.nx σ H1
theorem df {c:Expr} {body:List Stmt} {tc:TT} {tb:TS} (hp:PassesOwn (model X.prog X.w) X.A X.env X.xe) (hc:PT X c tc) (hb:PSs X body tb):PS X (.While c body [] pos) (lR tc tb):=by
 intro pins s σ H D I h
 obtain⟨W,⟨m0,w0⟩,turn⟩:=h
 refine wpAny_While (codeAny_whileLoop (fun n s'=>∃σ' H',Inv X pins σ' H' s'∧W n σ' H') ?_ m0 ⟨σ,H,I,w0⟩)
 rintro n s1 ⟨σ1,H1,I1,w1⟩
 refine wpAny_passesOwn hp (thn (hc pins s1 σ1 H1 _ I1 (turn n σ1 H1 w1)) fun b s2 ⟨H2,I2,q2⟩=>?_)
 cases b with
 |true=>
  obtain⟨N,hN,q2⟩:=q2
  rw[if_pos rfl]
  refine wpAny_passesOwn hp (thn (hb pins s2 σ1 H2 _ I2 q2) fun f s3 q3=>?_)
  cases f with
  |next=>
   obtain⟨σ3,H3,I3,n3⟩:=q3
   obtain⟨m',hm,w3⟩:=hN σ3 H3 n3
   exact⟨m',hm,σ3,H3,I3,w3⟩
  |cont=>
   obtain⟨σ3,H3,I3,n3⟩:=q3
   obtain⟨m',hm,w3⟩:=hN σ3 H3 n3
   exact⟨m',hm,σ3,H3,I3,w3⟩
  |brk=>exact q3
  |ret v=>exact q3
 |false=>
  rw[if_neg Bool.false_ne_true]
  exact wpAny_execs_nil ⟨σ1,H2,I2,q2⟩
end
structure It where
 go:Nat→Hp→Prop
 yld:Nat→Hp→V→Hp→Prop
 stop:Nat→Hp→Prop
def FpOk (X:Cx) (pins:List (Addr × Obj)) (H:Hp) (b:Addr):Prop:=
 H b=none∧b≠X.env.locals∧b∉X.fs∧(b∈X.ex∨X.s₀.heap.objs.size≤b)∧(∀x c,X.env.cells.lookup x=some c→c≠b)∧∀p∈X.pn++pins,p.1≠b
theorem Inv.fpOk {X:Cx} {pins:List (Addr × Obj)} {σ:St} {H H':Hp} {s:Shared} {b:Addr} (I:Inv X pins σ H s) (hb:s.heap.objs.size≤b) (hn:H' b=none):FpOk X pins H' b:=by
 refine⟨hn,Nat.ne_of_gt (Nat.lt_of_lt_of_le I.lt hb),I.nofs hb,.inr (Nat.le_trans I.sz hb),fun x c e z=>?_,fun p hp z=>?_⟩
 ·obtain⟨v,q⟩:=I.cell x c e
  exact absurd (Nat.lt_of_lt_of_le q.lt (by rw[z];exact hb)) (Nat.lt_irrefl _)
 ·exact absurd (Nat.lt_of_lt_of_le (Heap.lt_size (I.pin p hp).1) (by rw[z];exact hb)) (Nat.lt_irrefl _)
structure Turn (P:Program) (w:World) (K:W.Frag) (tg:Expr) (J:It) (fp:List Addr) (it:Addr) (tn:Nat→Heap→Prop):Prop where
 mem:it∈fp
 obj:∀i h,tn i h→∀b∈fp,∃o,h.get? b=some o∧∀v,o.data≠.cell v
 keep:∀i h h',tn i h→(∀b∈fp,∀o,h.get? b=some o→h'.get? b=some o)→tn i h'
 item:∀(X:Cx),X.prog=P→X.w=w→X.K=K→X.calm=true→∀(i:Nat) (pins:List (Addr × Obj)) (s:Shared) (σ:St) (H:Hp) (E:Value→Shared→Prop),Inv X pins σ H s→(∀b∈fp,FpOk X pins H b)→tn i s.heap→J.go i H →
  wpAny (model P w) X.A (pyNext (.ref it)) (fun r s1=>∃u,r=some u ∧
   wpAny (model P w) X.A (letOwnedTupleGo tg (.ref it) u) (fun _ s2=>∃x H',Inv X pins σ H' s2∧RelV x u∧J.yld i H x H'∧tn (i+1) s2.heap∧∀b∈fp,H' b=none) E s1) E s
 done:∀(X:Cx),X.prog=P→X.w=w→X.K=K→X.calm=true→∀(i:Nat) (pins:List (Addr × Obj)) (s:Shared) (σ:St) (H:Hp) (E:Value→Shared→Prop),Inv X pins σ H s→(∀b∈fp,FpOk X pins H b)→tn i s.heap→J.stop i H →
  wpAny (model P w) X.A (pyNext (.ref it)) (fun r s1=>r=none∧Inv X pins σ H s1) E s
 self:∀(A:Around) (i:Nat) (s:Shared) (Q:Value→Shared→Prop) (E:Value→Shared→Prop),tn i s.heap→Q (.ref it) s→wpAny (model P w) A (pyIter (.ref it)) Q E s
abbrev TI:=St→Hp→(It→Hp→Prop)→Prop
def PIE (X:Cx) (pins:List (Addr × Obj)) (σ:St) (tg:Expr) (R:It→Hp→Prop) (itv:Value) (s2:Shared):Prop:=
 ∃(it:Addr) (fp:List Addr) (tn:Nat→Heap→Prop) (J:It) (H':Hp),itv=.ref it∧Inv X pins σ H' s2∧Turn X.prog X.w X.K tg J fp it tn∧tn 0 s2.heap∧(∀b∈fp,FpOk X pins H' b)∧R J H'
def PI (X:Cx) (tg iter:Expr) (wi:TI):Prop:=
 ∀(pins:List (Addr × Obj)) (s:Shared) (σ:St) (H:Hp) (R:It→Hp→Prop),Inv X pins σ H s→wi σ H R →
  wpAny (model X.prog X.w) X.A (eval iter X.env) (fun v s1=>wpAny (model X.prog X.w) X.A (pyIter v) (PIE X pins σ tg R) X.xe s1) X.xe s
theorem nT {M:Model} {A:Around} {E:Value→Shared→Prop} {s:Shared} {tg:Expr} {it:Addr} {u:Value} {o:Obj} {n:String} {vs:Array Value} {Q:Unit→Shared→Prop} (ho:s.heap.get? it=some o) (hc:o.cls=.type n) (hd:o.data=.fields vs)
  (hn:["enumerate","zip","dict_itemiterator","dict_reverseitemiterator","odict_iterator","itertools.zip_longest","itertools.pairwise"].contains n=false) (hQ:Q () s):wpAny M A (letOwnedTupleGo tg (.ref it) u) Q E s:=by
 unfold letOwnedTupleGo
 cases tg <;> first
  |exact wpAny_pure hQ
  |(cases u <;> first
    |exact wpAny_pure hQ
    |(refine wpAny_bind (wpAny_load ho ?_)
      rw[hc,hd]
      show wpAny M A (if (["enumerate","zip","dict_itemiterator","dict_reverseitemiterator","odict_iterator","itertools.zip_longest","itertools.pairwise"].contains n&&vs[0]?==some (rawInt _))=true then _ else _) Q E s
      rw[if_neg (by intro h;rw[hn,Bool.false_and] at h;cases h)]
      exact wpAny_pure hQ))
def Itl (K:W.Frag) (a:Addr):It:=
 ⟨fun i H=>∃xs x,SqL K H a xs∧xs[i]? = some x,fun i H x H'=>H' = H∧∀xs,SqL K H a xs→xs[i]? = some x,fun i H=>∃xs,SqL K H a xs∧xs.length≤i⟩
def Itt (K:W.Frag) (a:Addr):It:=
 ⟨fun i H=>∃xs x,SqT K H a xs∧xs[i]? = some x,fun i H x H'=>H' = H∧∀xs,SqT K H a xs→xs[i]? = some x,fun i H=>∃xs,SqT K H a xs∧xs.length≤i⟩
def Itr (lo:Int) (n:Nat):It:=⟨fun i _=>i < n,fun i H x H'=>H' = H∧x=.int (lo+i),fun i _=>n≤i⟩
theorem om {P:Program} {w:World} {K:W.Frag} {tg:Expr} (a it:Addr):Turn P w K tg (Itl K a) [it] it (fun i h=>h.IsListIter it a i) where
 mem:=by simp
 obj:=fun i h st b hb=>by
  have e:b=it:=by simpa using hb
  subst e
  obtain⟨o,e,c,d⟩:=st
  exact⟨o,e,fun v z=>by rw[d] at z;cases z⟩
 keep:=fun i h h' st k=>st.at fun o e=>k it (by simp) o e
 item:=by
  intro X hP hw hK hc i pins s σ H E I hf st hg
  subst hP hw hK
  obtain⟨xs,x,hq,hx⟩:=hg
  obtain⟨its,rv,p,hz⟩:=I.list hq
  obtain⟨u,hu,ru⟩:=rv.get hx
  obtain⟨f0,f1,f2,f3,f4,f5⟩:=hf it (by simp)
  refine wpAny_pyNext_list_item st p.isList (x:=u) (by simpa using hu) fun h' st' sb=>?_
  have I1:Inv X pins σ H {s with heap:=h'}:=I.turned (t':=s.toks) (fun b o hb e=>(sb.2 b hb).trans e) f0 f1 f3 f4 f5
  obtain⟨o,e,c,d⟩:=id st'
  exact⟨u,rfl,nT (s:={s with heap:=h'}) e c d (by decide) ⟨x,H,I1,ru,⟨rfl,fun ys hy=>by rw[I.list_inj hy hq];exact hx⟩,st',fun b hb=>(hf b hb).1⟩⟩
 done:=by
  intro X hP hw hK hc i pins s σ H E I hf st hg
  subst hP hw hK
  obtain⟨xs,hq,hx⟩:=hg
  obtain⟨its,rv,p,hz⟩:=I.list hq
  obtain⟨f0,f1,f2,f3,f4,f5⟩:=hf it (by simp)
  have hl:=rv.length
  exact wpAny_pyNext_list_end (I.ok.hd hc) st p.isList (by simp;omega) fun h' eb=>⟨rfl,I.turned (t':=s.toks) (fun b o hb e=>eb b o hb e) f0 f1 f3 f4 f5⟩
 self:=fun _ _ _ _ _ st h=>wpAny_pyIter_listiter st h
theorem lO {P:Program} {w:World} {K:W.Frag} {tg:Expr} (a it:Addr):Turn P w K tg (Itt K a) [it] it (fun i h=>h.IsTupleIter it a i) where
 mem:=by simp
 obj:=fun i h st b hb=>by
  have e:b=it:=by simpa using hb
  subst e
  obtain⟨o,e,c,d⟩:=st
  exact⟨o,e,fun v z=>by rw[d] at z;cases z⟩
 keep:=fun i h h' st k=>st.at fun o e=>k it (by simp) o e
 item:=by
  intro X hP hw hK hc i pins s σ H E I hf st hg
  subst hP hw hK
  obtain⟨xs,x,hq,hx⟩:=hg
  obtain⟨its,rv,p,hz⟩:=I.tuple hq
  obtain⟨u,hu,ru⟩:=rv.get hx
  obtain⟨f0,f1,f2,f3,f4,f5⟩:=hf it (by simp)
  refine wpAny_pyNext_tuple_item st (show s.heap.IsTuple a its.toArray from p) (x:=u) (by simpa using hu) fun h' st' sb=>?_
  have I1:Inv X pins σ H {s with heap:=h'}:=I.turned (t':=s.toks) (fun b o hb e=>(sb.2 b hb).trans e) f0 f1 f3 f4 f5
  obtain⟨o,e,c,d⟩:=id st'
  exact⟨u,rfl,nT (s:={s with heap:=h'}) e c d (by decide) ⟨x,H,I1,ru,⟨rfl,fun ys hy=>by rw[I.tuple_inj hy hq];exact hx⟩,st',fun b hb=>(hf b hb).1⟩⟩
 done:=by
  intro X hP hw hK hc i pins s σ H E I hf st hg
  subst hP hw hK
  obtain⟨xs,hq,hx⟩:=hg
  obtain⟨its,rv,p,hz⟩:=I.tuple hq
  obtain⟨f0,f1,f2,f3,f4,f5⟩:=hf it (by simp)
  have hl:=rv.length
  exact wpAny_pyNext_tuple_end (I.ok.hd hc) st (show s.heap.IsTuple a its.toArray from p) (by simp;omega) fun h' eb=>⟨rfl,I.turned (t':=s.toks) (fun b o hb e=>eb b o hb e) f0 f1 f3 f4 f5⟩
 self:=fun _ _ _ _ _ st h=>wpAny_pyIter_tupleiter st h
theorem lP {P:Program} {w:World} {K:W.Frag} {tg:Expr} (it:Addr) (lo:Int) (n:Nat):Turn P w K tg (Itr lo n) [it] it (fun i h=>IsRangeIter h it (lo+(i:Nat) * 1) ((n:Int) - (i:Nat)) 1) where
 mem:=by simp
 obj:=fun i h st b hb=>by
  have e:b=it:=by simpa using hb
  subst e
  exact⟨_,st,fun v z=>by
   have z':Data.fields _=Data.cell v:=z
   cases z'⟩
 keep:=fun i h h' st k=>k it (by simp) _ st
 item:=by
  intro X hP hw hK hc i pins s σ H E I hf st hg
  subst hP hw hK
  obtain⟨f0,f1,f2,f3,f4,f5⟩:=hf it (by simp)
  have W:=Walks.range (prog:=X.prog) (w:=X.w) (I.ok.hd hc) it lo 1 n
  refine W.item i s _ _ hg st fun v h' tk hv st' kk=>?_
  obtain⟨t,rfl⟩:=hv
  have I1:Inv X pins σ H {s with heap:=h',toks:=tk}:=I.turned (fun b o hb e=>kk b o (by simpa using hb) e) f0 f1 f3 f4 f5
  refine⟨_,rfl,nT (s:={s with heap:=h',toks:=tk}) (n:="range_iterator") st' rfl rfl (by decide) ⟨.int (lo+i),H,I1,⟨t,?_⟩,⟨rfl,rfl⟩,st',fun b hb=>(hf b hb).1⟩⟩
  rw[Int.mul_one]
 done:=by
  intro X hP hw hK hc i pins s σ H E I hf st hg
  subst hP hw hK
  obtain⟨f0,f1,f2,f3,f4,f5⟩:=hf it (by simp)
  exact wpAny_pyNext_range_end (I.ok.hd hc) st (by have:n≤i:=hg;omega) fun h' eb=>⟨rfl,I.turned (t':=s.toks) (fun b o hb e=>eb b o hb e) f0 f1 f3 f4 f5⟩
 self:=fun _ _ _ _ _ st h=>wpAny_pyIter_rangeiter st h
end L2
namespace L2
open PySem PySem.Spec PyProof.Rows
section
variable {X:Cx} {tg:Expr}
def vR (K:W.Frag) (tl:TE):TI:=fun σ H R=>tl σ H fun x H1=>∃a,x=.ref a∧(∃xs,SqL K H1 a xs)∧R (Itl K a) H1
def iTup (K:W.Frag) (tl:TE):TI:=fun σ H R=>tl σ H fun x H1=>∃a,x=.ref a∧(∃xs,SqT K H1 a xs)∧R (Itt K a) H1
theorem aK {l:Expr} {tl:TE} (hl:PE X l tl):PI X tg l (vR X.K tl):=by
 intro pins s σ H R I h
 refine thn (hl pins s σ H _ I h) fun v s1 ⟨x,H1,I1,r1,q1⟩=>?_
 obtain⟨a,e,⟨xs,hq⟩,q⟩:=q1
 subst e
 cases r1
 obtain⟨its,rv,p,hz⟩:=I1.list hq
 refine wpAny_pyIter_list p.isList ?_
 refine⟨s1.heap.objs.size,[s1.heap.objs.size],_,_,H1,rfl,I1.kept (t':=s1.toks) fun b o e=>Heap.get?_push_of_some _ e,om a _,⟨_,Heap.get?_push_size _ rfl,rfl,rfl⟩,fun b hb=>?_,q⟩
 have e:b=s1.heap.objs.size:=by simpa using hb
 subst e
 exact I1.fpOk (Nat.le_refl _) (I1.hok.fresh (Nat.le_refl _))
theorem jZ {l:Expr} {tl:TE} (hl:PE X l tl):PI X tg l (iTup X.K tl):=by
 intro pins s σ H R I h
 refine thn (hl pins s σ H _ I h) fun v s1 ⟨x,H1,I1,r1,q1⟩=>?_
 obtain⟨a,e,⟨xs,hq⟩,q⟩:=q1
 subst e
 cases r1
 obtain⟨its,rv,p,hz⟩:=I1.tuple hq
 refine wpAny_pyIter_tuple (show s1.heap.IsTuple a its.toArray from p) ?_
 refine⟨s1.heap.objs.size,[s1.heap.objs.size],_,_,H1,rfl,I1.kept (t':=s1.toks) fun b o e=>Heap.get?_push_of_some _ e,lO a _,⟨_,Heap.get?_push_size _ rfl,rfl,rfl⟩,fun b hb=>?_,q⟩
 have e:b=s1.heap.objs.size:=by simpa using hb
 subst e
 exact I1.fpOk (Nat.le_refl _) (I1.hok.fresh (Nat.le_refl _))
theorem pM {pins:List (Addr × Obj)} {σ:St} {H:Hp} {s:Shared} {R:It→Hp→Prop} {E:Value→Shared→Prop} {lo hi:Int} {t u v:Tok} {tk:Nat} (I:Inv X pins σ H s) (h1:-(2 ^ 62)≤lo) (h2:lo < 2 ^ 62) (h3:-(2 ^ 62)≤hi) (h4:hi < 2 ^ 62)
  (q:R (Itr lo (hi - lo).toNat) H):wpAny (model X.prog X.w) X.A (pyIter (.ref s.heap.objs.size)) (PIE X pins σ tg R) E {s with heap:=s.heap.push {cls:=.type "range",data:=.fields #[.int lo t,.int hi u,.int 1 v]},toks:=tk}:=by
 refine wpAny_pyIter_range (IsRange.new ..) (small_one h1 h2 h3 h4) ?_
 have I1:Inv X pins σ H {s with heap:=s.heap.push {cls:=.type "range",data:=.fields #[.int lo t,.int hi u,.int 1 v]},toks:=tk}:=I.kept fun b o e=>Heap.get?_push_of_some _ e
 refine⟨(s.heap.push {cls:=.type "range",data:=.fields #[.int lo t,.int hi u,.int 1 v]}).objs.size,[(s.heap.push {cls:=.type "range",data:=.fields #[.int lo t,.int hi u,.int 1 v]}).objs.size],_,_,H,rfl,
  I1.kept (t':=tk) fun b o e=>Heap.get?_push_of_some _ e,lP _ lo (hi - lo).toNat,?_,fun b hb=>?_,q⟩
 ·have e1:lo+((0:Nat):Int) * 1=lo:=by simp
  have e2:(((hi - lo).toNat:Nat):Int) - ((0:Nat):Int)=Builtin.Range.rangeSize lo hi 1:=by rw[rangeSize_one];split <;> omega
  show IsRangeIter _ _ (lo+((0:Nat):Int) * 1) ((((hi - lo).toNat:Nat):Int) - ((0:Nat):Int)) 1
  rw[e1,e2]
  exact Heap.get?_push_size _ rfl
 ·have e:b=(s.heap.push {cls:=.type "range",data:=.fields #[.int lo t,.int hi u,.int 1 v]}).objs.size:=by simpa using hb
  subst e
  exact I1.fpOk (Nat.le_refl _) (I1.hok.fresh (Nat.le_refl _))
def vQ (ta:TA):TI:=fun σ H R=>ta σ H fun vs H1=>∃j:Int,vs=[.int j]∧-(2 ^ 62)≤j∧j < 2 ^ 62∧R (Itr 0 j.toNat) H1
theorem dc {a:Expr} {ta:TA} {p pos:Pos} (hg:Gl X "range") (hm:X.mg "range" = none) (ha:PA X [a] ta) (hs:starEach [a] X.env=[(false,eval a X.env)]:=by rfl):PI X tg (.Call (.Name "range" p) [a] [] pos) (vQ ta):=by
 intro pins s σ H R I h
 refine Call_ (iC I hg hm boot_range (PyProof.Rows.callWith_type1 (thn (ha pos pins s σ H _ I h) fun us s1 ⟨vs,H1,I1,r1,q1⟩=>?_) hs rfl))
 obtain⟨j,e,q1,q2,q⟩:=q1
 subst e
 cases r1 with
 |cons r rr=>
  cases rr
  obtain⟨t,rfl⟩:=r
  exact call_range_1 (pM I1 (by omega) (by omega) q1 q2 (by simpa using q))
def tFor (wi:TI) (g:TG) (tb:TS):TS:=fun D σ H=>wi σ H fun J H1=>∃W:Nat→Nat→St→Hp→Prop,(∃m,W 0 m σ H1)∧∀i m σ H,W i m σ H →
 (J.stop i H∧D.nx σ H)∨(J.go i H∧∃N:St→Hp→Prop,(∀σ' H',N σ' H'→∃m',m' < m∧W (i+1) m' σ' H')∧∀x H',J.yld i H x H'→g x σ H' fun σ2 H2=>tb {D with nx:=N,ct:=N,bk:=D.nx} σ2 H2)
def gv (fp:List Addr) (h:Heap):List (Addr × Obj):=fp.filterMap fun b=>(h.get? b).map fun o=>(b,o)
theorem ck {fp:List Addr} {h:Heap} {b:Addr} {o:Obj} (hb:b∈fp) (e:h.get? b=some o):(b,o)∈gv fp h:=List.mem_filterMap.mpr ⟨b,hb,by rw[e];rfl⟩
theorem oM {fp:List Addr} {h:Heap} {p:Addr × Obj} (hp:p∈gv fp h):p.1∈fp∧h.get? p.1=some p.2:=by
 obtain⟨b,hb,e⟩:=List.mem_filterMap.mp hp
 cases q:h.get? b with
 |none=>rw[q] at e;cases e
 |some o=>
  rw[q] at e
  have e':(b,o)=p:=Option.some.inj e
  subst e'
  exact⟨hb,q⟩
theorem Inv.pinned {pins:List (Addr × Obj)} {σ:St} {H:Hp} {s:Shared} {fp:List Addr} (I:Inv X pins σ H s) (hf:∀b∈fp,FpOk X pins H b) (ho:∀b∈fp,∃o,s.heap.get? b=some o∧∀v,o.data≠.cell v):Inv X (pins++gv fp s.heap) σ H s:=
 I.pins_of fun p hp=>(List.mem_append.mp hp).elim (fun z=>I.pin p (List.mem_append_right _ z)) fun z=>by
  obtain⟨hb,e⟩:=oM z
  obtain⟨f0,f1,f2,_⟩:=hf p.1 hb
  obtain⟨o,e',d⟩:=ho p.1 hb
  rw[e] at e';cases e'
  exact⟨e,f0,f1,f2,d⟩
theorem Inv.unpinned {pins pl:List (Addr × Obj)} {σ:St} {H:Hp} {s:Shared} (I:Inv X (pins++pl) σ H s):Inv X pins σ H s:=I.pins_of fun p hp=>I.pin p (List.mem_append_right _ (List.mem_append_left _ hp))
theorem bd {iter:Expr} {body:List Stmt} {wi:TI} {g:TG} {tb:TS} {pos:Pos} (hp:PassesOwn (model X.prog X.w) X.A X.env X.xe) (hc:X.calm=true) (hi:PI X tg iter wi) (hg:PG X tg g) (hb:PSs X body tb)
  (hs:∀x,foldedSetIterable iter X.env x=pure x:=by intro _;rfl):PS X (.For tg iter body [] pos) (tFor wi g tb):=by
 intro pins s σ H D I h
 refine wpAny_For (thn (hi pins s σ H _ I h) fun v s1 h1=>thn h1 fun itv s2 h2=>?_) hs
 obtain⟨it,fp,tn,J,H2,e,I2,T,st2,f2,W,⟨m0,w0⟩,turn⟩:=h2
 subst e
 have stat:∀{H':Hp},(∀b∈fp,H' b=none)→∀b∈fp,FpOk X pins H' b:=fun hn b hb=>⟨hn b hb,(f2 b hb).2⟩
 refine codeAny_forLoop_any (fun n s'=>∃i σ' H',Inv X pins σ' H' s'∧tn i s'.heap∧(∀b∈fp,H' b=none)∧W i n σ' H') ?_ m0 ⟨0,σ,H2,I2,st2,fun b hb=>(f2 b hb).1,w0⟩
 rintro n s3 ⟨i,σ3,H3,I3,st3,fr3,w3⟩
 rcases turn i n σ3 H3 w3 with ⟨stop,qn⟩|⟨go,N,hN,step⟩
 ·refine wpAny_passesOwn hp (thn (T.done X rfl rfl rfl hc i pins s3 σ3 H3 X.xe I3 (stat fr3) st3 stop) fun r s4 ⟨hr,I4⟩=>?_)
  subst hr
  exact wpAny_execs_nil ⟨σ3,H3,I4,qn⟩
 ·refine wpAny_passesOwn hp (thn (T.item X rfl rfl rfl hc i pins s3 σ3 H3 X.xe I3 (stat fr3) st3 go) fun r s4 ⟨u,hr,h4⟩=>?_)
  subst hr
  refine wpAny_passesOwn hp (thn h4 fun _ s5 ⟨x,H5,I5,r5,y5,st5,fr5⟩=>?_)
  have I5':=I5.pinned (stat fr5) (T.obj _ _ st5)
  refine wpAny_passesOwn hp (thn (hg _ s5 σ3 H5 x u _ I5' r5 (step x H5 y5)) fun _ s6 ⟨σ6,H6,I6,q6⟩=>?_)
  refine wpAny_passesOwn hp (thn (hb _ s6 σ6 H6 _ I6 q6) fun f s7 q7=>?_)
  have again:∀{σ7:St} {H7:Hp},Inv X (pins++gv fp s5.heap) σ7 H7 s7→N σ7 H7→∃m,m < n∧∃i σ' H',Inv X pins σ' H' s7∧tn i s7.heap∧(∀b∈fp,H' b=none)∧W i m σ' H':=fun {σ7 H7} I7 n7=>by
   obtain⟨m',hm,w7⟩:=hN σ7 H7 n7
   refine⟨m',hm,i+1,σ7,H7,I7.unpinned,T.keep _ _ _ st5 fun b hb o e=>(I7.pin (b,o) (List.mem_append_right _ (List.mem_append_right _ (ck hb e)))).1,fun b hb=>?_,w7⟩
   obtain⟨o,e,d⟩:=T.obj _ _ st5 b hb
   exact (I7.pin (b,o) (List.mem_append_right _ (List.mem_append_right _ (ck hb e)))).2.1
  cases f with
  |next=>obtain⟨σ7,H7,I7,n7⟩:=q7;exact again I7 n7
  |cont=>obtain⟨σ7,H7,I7,n7⟩:=q7;exact again I7 n7
  |brk=>obtain⟨σ7,H7,I7,q7⟩:=q7;exact⟨σ7,H7,I7.unpinned,q7⟩
  |ret v=>obtain⟨x7,σ7,H7,I7,r7,q7⟩:=q7;exact⟨x7,σ7,H7,I7.unpinned,r7,q7⟩
end
theorem bj {K:W.Frag} {a:Addr} {xs:List V} {g:TG} {tb:TS} {D:Ends} {σ:St} {H:Hp} (Pv:Nat→St→Hp→Prop) (h0:Pv 0 σ H) (hl:∀i σ H,i≤xs.length→Pv i σ H→SqL K H a xs)
  (hs:∀i x σ H,xs[i]? = some x→Pv i σ H→g x σ H fun σ2 H2=>tb {D with nx:=Pv (i+1),ct:=Pv (i+1),bk:=D.nx} σ2 H2) (hd:∀σ H,Pv xs.length σ H→D.nx σ H) :
  ∃W:Nat→Nat→St→Hp→Prop,(∃m,W 0 m σ H)∧∀i m σ H,W i m σ H →
   ((Itl K a).stop i H∧D.nx σ H)∨((Itl K a).go i H∧∃N:St→Hp→Prop,(∀σ' H',N σ' H'→∃m',m' < m∧W (i+1) m' σ' H')∧∀x H',(Itl K a).yld i H x H'→g x σ H' fun σ2 H2=>tb {D with nx:=N,ct:=N,bk:=D.nx} σ2 H2):=by
 refine⟨fun i m σ H=>m=xs.length - i∧i≤xs.length∧Pv i σ H,⟨xs.length,by simp,Nat.zero_le _,h0⟩,?_⟩
 rintro i m σ H ⟨rfl,hi,p⟩
 have q:=hl i σ H hi p
 by_cases hlt:i < xs.length
 ·refine .inr ⟨⟨xs,xs[i],q,by simp[hlt]⟩,Pv (i+1),fun σ' H' p'=>⟨xs.length - (i+1),by omega,rfl,hlt,p'⟩,fun x H' y=>?_⟩
  obtain⟨e,y⟩:=y
  subst e
  exact hs i x σ _ (y xs q) p
 ·have e:i=xs.length:=by omega
  subst e
  exact .inl ⟨⟨xs,q,Nat.le_refl _⟩,hd σ H p⟩
theorem tF {K:W.Frag} {a:Addr} {xs:List V} {g:TG} {tb:TS} {D:Ends} {σ:St} {H:Hp} (Pv:Nat→St→Hp→Prop) (h0:Pv 0 σ H) (hl:∀i σ H,i≤xs.length→Pv i σ H→SqT K H a xs)
  (hs:∀i x σ H,xs[i]? = some x→Pv i σ H→g x σ H fun σ2 H2=>tb {D with nx:=Pv (i+1),ct:=Pv (i+1),bk:=D.nx} σ2 H2) (hd:∀σ H,Pv xs.length σ H→D.nx σ H) :
  ∃W:Nat→Nat→St→Hp→Prop,(∃m,W 0 m σ H)∧∀i m σ H,W i m σ H →
   ((Itt K a).stop i H∧D.nx σ H)∨((Itt K a).go i H∧∃N:St→Hp→Prop,(∀σ' H',N σ' H'→∃m',m' < m∧W (i+1) m' σ' H')∧∀x H',(Itt K a).yld i H x H'→g x σ H' fun σ2 H2=>tb {D with nx:=N,ct:=N,bk:=D.nx} σ2 H2):=by
 refine⟨fun i m σ H=>m=xs.length - i∧i≤xs.length∧Pv i σ H,⟨xs.length,by simp,Nat.zero_le _,h0⟩,?_⟩
 rintro i m σ H ⟨rfl,hi,p⟩
 have q:=hl i σ H hi p
 by_cases hlt:i < xs.length
 ·refine .inr ⟨⟨xs,xs[i],q,by simp[hlt]⟩,Pv (i+1),fun σ' H' p'=>⟨xs.length - (i+1),by omega,rfl,hlt,p'⟩,fun x H' y=>?_⟩
  obtain⟨e,y⟩:=y
  subst e
  exact hs i x σ _ (y xs q) p
 ·have e:i=xs.length:=by omega
  subst e
  exact .inl ⟨⟨xs,q,Nat.le_refl _⟩,hd σ H p⟩
theorem dS {lo:Int} {n:Nat} {g:TG} {tb:TS} {D:Ends} {σ:St} {H:Hp} (Pv:Nat→St→Hp→Prop) (h0:Pv 0 σ H)
  (hs:∀i σ H,i < n→Pv i σ H→g (.int (lo+i)) σ H fun σ2 H2=>tb {D with nx:=Pv (i+1),ct:=Pv (i+1),bk:=D.nx} σ2 H2) (hd:∀σ H,Pv n σ H→D.nx σ H) :
  ∃W:Nat→Nat→St→Hp→Prop,(∃m,W 0 m σ H)∧∀i m σ H,W i m σ H →
   ((Itr lo n).stop i H∧D.nx σ H)∨((Itr lo n).go i H∧∃N:St→Hp→Prop,(∀σ' H',N σ' H'→∃m',m' < m∧W (i+1) m' σ' H')∧∀x H',(Itr lo n).yld i H x H'→g x σ H' fun σ2 H2=>tb {D with nx:=N,ct:=N,bk:=D.nx} σ2 H2):=by
 refine⟨fun i m σ H=>m=n - i∧i≤n∧Pv i σ H,⟨n,by simp,Nat.zero_le _,h0⟩,?_⟩
 rintro i m σ H ⟨rfl,hi,p⟩
 by_cases hlt:i < n
 ·refine .inr ⟨hlt,Pv (i+1),fun σ' H' p'=>⟨n - (i+1),by omega,rfl,hlt,p'⟩,fun x H' y=>?_⟩
  obtain⟨e,y⟩:=y
  subst e y
  exact hs i σ _ hlt p
 ·have e:i=n:=by omega
  subst e
  exact .inl ⟨Nat.le_refl _,hd σ H p⟩
end L2
namespace L2
open PySem PySem.Spec PyProof.Rows
abbrev R2:=V→V→Hp→VK→Prop
def OpR (X:Cx) (f:Value→Value→Sem Value) (r:R2):Prop:=
 ∀(pins:List (Addr × Obj)) (s:Shared) (σ:St) (H:Hp) (x y:V) (v u:Value) (Q:VK),Inv X pins σ H s→RelV x v→RelV y u→r x y H Q →
  wpAny (model X.prog X.w) X.A (f v u) (EP X pins σ Q) X.xe s
def UnR (X:Cx) (f:Value→Sem Value) (r:V→Hp→VK→Prop):Prop:=
 ∀(pins:List (Addr × Obj)) (s:Shared) (σ:St) (H:Hp) (x:V) (v:Value) (Q:VK),Inv X pins σ H s→RelV x v→r x H Q →
  wpAny (model X.prog X.w) X.A (f v) (EP X pins σ Q) X.xe s
def bM (X:Cx) (f:Value) (r:List V→Hp→VK→Prop):Prop:=
 ∀(pins:List (Addr × Obj)) (s:Shared) (σ:St) (H:Hp) (xs:List V) (us:List Value) (Q:VK),Inv X pins σ H s→Vals xs us→r xs H Q →
  wpAny (model X.prog X.w) X.A (call f us) (EP X pins σ Q) X.xe s
def TruR (X:Cx) (r:V→Hp→(Bool→Hp→Prop)→Prop):Prop:=
 ∀(pins:List (Addr × Obj)) (s:Shared) (σ:St) (H:Hp) (x:V) (v:Value) (Q:Bool→Hp→Prop),Inv X pins σ H s→RelV x v→r x H Q →
  wpAny (model X.prog X.w) X.A (truthy v) (TP X pins σ Q) X.xe s
def tOp (r:R2) (ta tb:TE):TE:=fun σ H Q=>ta σ H fun x H1=>tb σ H1 fun y H2=>r x y H2 Q
def tUn (r:V→Hp→VK→Prop) (ta:TE):TE:=fun σ H Q=>ta σ H fun x H1=>r x H1 Q
def rI (C:Int→Int→Prop) (g:Int→Int→V):R2:=fun x y H Q=>∃i j,x=.int i∧y=.int j∧C i j∧Q (g i j) H
def rI0 (g:Int→Int→V):R2:=fun x y H Q=>∃i j,x=.int i∧y=.int j∧Q (g i j) H
def rU (g:Int→V):V→Hp→VK→Prop:=fun x H Q=>∃i,x=.int i∧Q (g i) H
section
variable {X:Cx} {a b c:Expr} {ta tb tc:TE} {pos:Pos}
theorem binT (ha:PE X a ta) (hb:PE X b tb) {pins:List (Addr × Obj)} {s:Shared} {σ:St} {H:Hp} {R:V→V→Hp→Prop} (I:Inv X pins σ H s)
  (h:ta σ H fun x H1=>tb σ H1 fun y H2=>R x y H2) {Q:Value→Shared→Prop} {f:Value→Value→Sem Value}
  (hf:∀v u s2 x y H2,Inv X pins σ H2 s2→RelV x v→RelV y u→R x y H2→wpAny (model X.prog X.w) X.A (f v u) Q X.xe s2) :
  wpAny (model X.prog X.w) X.A (eval a X.env) (fun v s₁=>wpAny (model X.prog X.w) X.A (eval b X.env) (fun u s₂=>wpAny (model X.prog X.w) X.A (f v u) Q X.xe s₂) X.xe s₁) X.xe s:=by
 refine thn (ha pins s σ H _ I h) fun v s1 ⟨x,H1,I1,r1,q1⟩=>?_
 refine thn (hb pins s1 σ H1 _ I1 q1) fun u s2 ⟨y,H2,I2,r2,q2⟩=>?_
 exact hf v u s2 x y H2 I2 r1 r2 q2
theorem az {op:Operator} {r:R2} (ho:OpR X (binaryOp op) r) (ha:PE X a ta) (hb:PE X b tb):PE X (.BinOp a op b pos) (tOp r ta tb):=by
 intro pins s σ H Q I h
 exact wpAny_BinOp (binT ha hb I h fun v u s2 x y H2 I2 rx ry q=>ho pins s2 σ H2 x y v u Q I2 rx ry q)
theorem gJ {op:UnaryOp} {r:V→Hp→VK→Prop} (ho:UnR X (unaryOp op) r) (ha:PE X a ta):PE X (.UnaryOp op a pos) (tUn r ta):=by
 intro pins s σ H Q I h
 exact UnaryOp_ (thn (ha pins s σ H _ I h) fun v s1 ⟨x,H1,I1,r1,q1⟩=>ho pins s1 σ H1 x v Q I1 r1 q1)
theorem opI {f:Value→Value→Sem Value} {C:Int→Int→Prop} {g:Int→Int→Int}
  (rule:∀(i j:Int) (t u:Tok) (s:Shared) (Q:Value→Shared→Prop) (E:Value→Shared→Prop),C i j→Q (.int (g i j) s.toks) {s with toks:=s.toks+1}→wpAny (model X.prog X.w) X.A (f (.int i t) (.int j u)) Q E s) :
  OpR X f (rI C fun i j=>.int (g i j)):=by
 intro pins s σ H x y v u Q I rx ry h
 obtain⟨i,j,rfl,rfl,hc,q⟩:=h
 obtain⟨t,rfl⟩:=rx
 obtain⟨t',rfl⟩:=ry
 exact rule i j t t' s _ _ hc ⟨.int (g i j),H,I.tok _,⟨_,rfl⟩,q⟩
theorem opI0 {f:Value→Value→Sem Value} {g:Int→Int→Int}
  (rule:∀(i j:Int) (t u:Tok) (s:Shared) (Q:Value→Shared→Prop) (E:Value→Shared→Prop),Q (.int (g i j) s.toks) {s with toks:=s.toks+1}→wpAny (model X.prog X.w) X.A (f (.int i t) (.int j u)) Q E s) :
  OpR X f (rI0 fun i j=>.int (g i j)):=by
 intro pins s σ H x y v u Q I rx ry h
 obtain⟨i,j,rfl,rfl,q⟩:=h
 obtain⟨t,rfl⟩:=rx
 obtain⟨t',rfl⟩:=ry
 exact rule i j t t' s _ _ ⟨.int (g i j),H,I.tok _,⟨_,rfl⟩,q⟩
theorem opB0 {f:Value→Value→Sem Value} {g:Int→Int→Bool}
  (rule:∀(i j:Int) (t u:Tok) (s:Shared) (Q:Value→Shared→Prop) (E:Value→Shared→Prop),Q (.bool (g i j)) s→wpAny (model X.prog X.w) X.A (f (.int i t) (.int j u)) Q E s) :
  OpR X f (rI0 fun i j=>.bl (g i j)):=by
 intro pins s σ H x y v u Q I rx ry h
 obtain⟨i,j,rfl,rfl,q⟩:=h
 obtain⟨t,rfl⟩:=rx
 obtain⟨t',rfl⟩:=ry
 exact rule i j t t' s _ _ ⟨.bl (g i j),H,I,rfl,q⟩
def CPow (i j:Int):Prop:=0≤j∧j≤1000000∧i.natAbs < 2 ^ 64
def CMul (i j:Int):Prop:=(-(2 ^ 64) < i∧i < 2 ^ 64)∨(-(2 ^ 64) < j∧j < 2 ^ 64)
theorem CMul.ok {i j:Int} (h:CMul i j):IntMulOk i j:=by
 rcases h with ⟨h1,h2⟩|⟨h1,h2⟩
 ·exact .of_left (intBits_le_64 h1 h2)
 ·exact .of_right (intBits_le_64 h1 h2)
theorem aX:OpR X (binaryOp .Add) (rI0 fun i j=>.int (i+j)):=opI0 fun _ _ _ _ _ _ _ q=>add_int q
theorem fB:OpR X (binaryOp .Sub) (rI0 fun i j=>.int (i - j)):=opI0 fun _ _ _ _ _ _ _ q=>sub_int q
theorem eK:OpR X (binaryOp .Mult) (rI CMul fun i j=>.int (i * j)):=opI fun _ _ _ _ _ _ _ hc q=>mul_int q hc.ok
theorem cJ:OpR X (binaryOp .Mod) (rI (fun _ j=>0 < j) fun i j=>.int (i % j)):=opI fun i j _ _ _ _ _ hc q=>by
 have h1:(0:Int) < j:=hc
 exact mod_int' (by omega) (by rw[Int.fmod_eq_emod_of_nonneg i (by omega)];exact q)
theorem j6:OpR X (binaryOp .Pow) (rI CPow fun i j=>.int (i ^ j.toNat)):=opI fun _ _ _ _ _ _ _ hc q=>pow_int_small hc.1 hc.2.1 hc.2.2 q
theorem unI {f:Value→Sem Value} {g:Int→Int}
  (rule:∀(i:Int) (t:Tok) (s:Shared) (Q:Value→Shared→Prop) (E:Value→Shared→Prop),Q (.int (g i) s.toks) {s with toks:=s.toks+1}→wpAny (model X.prog X.w) X.A (f (.int i t)) Q E s) :
  UnR X f (rU fun i=>.int (g i)):=by
 intro pins s σ H x v Q I rx h
 obtain⟨i,rfl,q⟩:=h
 obtain⟨t,rfl⟩:=rx
 exact rule i t s _ _ ⟨.int (g i),H,I.tok _,⟨_,rfl⟩,q⟩
theorem eC:UnR X (unaryOp .USub) (rU fun i=>.int (-i)):=unI fun _ _ _ _ _ q=>neg_int q
end
def scal:V→V→Bool
 | .non,.non=>true | .non,.int _=>true | .int _,.non=>true | .non,.bl _=>true | .bl _,.non=>true | .non,.str _=>true | .str _,.non=>true
 | .int _,.int _=>true | .bl _,.bl _=>true | .str _,.str _=>true | .byt _,.byt _=>true
 | .int _,.str _=>true | .str _,.int _=>true | .bl _,.str _=>true | .str _,.bl _=>true
 |_,_=>false
def rEq:R2:=fun x y H Q=>scal x y=true∧Q (.bl (decide (x=y))) H
def rNe:R2:=fun x y H Q=>scal x y=true∧Q (.bl (!decide (x=y))) H
theorem nY {i j:Int}:decide (V.int i=V.int j)=(i==j):=by
 rw[Bool.eq_iff_iff]
 simp
theorem qX {i j:Bool}:decide (V.bl i=V.bl j)=(i==j):=by
 rw[Bool.eq_iff_iff]
 simp
theorem nX {i j:Str}:decide (V.str i=V.str j)=(i==j):=by
 rw[Bool.eq_iff_iff]
 simp
theorem nZ {i j:Array UInt8}:decide (V.byt i=V.byt j)=(i.toList==j.toList):=by
 rw[Bool.eq_iff_iff]
 cases i
 cases j
 simp
section
variable {X:Cx} {a b c:Expr} {ta tb tc:TE} {pos:Pos}
theorem aP {pins:List (Addr × Obj)} {σ:St} {H:Hp} {s:Shared} {Q:VK} {k k':Bool} (I:Inv X pins σ H s) (q:Q (.bl k) H) (e:k=k'):EP X pins σ Q (.bool k') s:=by
 subst e
 exact⟨.bl k,H,I,rfl,q⟩
theorem iq:OpR X (compareOp .Eq) rEq:=by
 intro pins s σ H x y v u Q I rx ry h
 obtain⟨hs,q⟩:=h
 cases x with
 |non=>
  cases rx
  cases y with
  |non=>cases ry;exact PySem.EqNone.eq_none_none (aP I q (by simp))
  |bl j=>cases ry;exact PySem.EqNone.eq_none_bool (aP I q (by simp))
  |int j=>obtain⟨t',rfl⟩:=ry;exact PySem.EqNone.eq_none_int (aP I q (by simp))
  |str j=>obtain⟨t',rfl⟩:=ry;exact PySem.EqNone.eq_none_str (aP I q (by simp))
  |_=>exact absurd (show false=true from hs) Bool.false_ne_true
 |bl i=>
  cases rx
  cases y with
  |non=>cases ry;exact PySem.EqNone.eq_bool_none (aP I q (by simp))
  |bl j=>cases ry;exact eq_bool (aP I q qX)
  |str j=>obtain⟨t',rfl⟩:=ry;exact PySem.EqMixed.eq_bool_str (aP I q (by simp))
  |_=>exact absurd (show false=true from hs) Bool.false_ne_true
 |int i=>
  obtain⟨t,rfl⟩:=rx
  cases y with
  |non=>cases ry;exact PySem.EqNone.eq_int_none (aP I q (by simp))
  |int j=>obtain⟨t',rfl⟩:=ry;exact eq_int (aP I q nY)
  |str j=>obtain⟨t',rfl⟩:=ry;exact PySem.EqMixed.eq_int_str (aP I q (by simp))
  |_=>exact absurd (show false=true from hs) Bool.false_ne_true
 |str i=>
  obtain⟨t,rfl⟩:=rx
  cases y with
  |non=>cases ry;exact PySem.EqNone.eq_str_none (aP I q (by simp))
  |bl j=>cases ry;exact PySem.EqMixed.eq_str_bool (aP I q (by simp))
  |int j=>obtain⟨t',rfl⟩:=ry;exact PySem.EqMixed.eq_str_int (aP I q (by simp))
  |str j=>obtain⟨t',rfl⟩:=ry;exact eq_str (aP I q nX)
  |_=>exact absurd (show false=true from hs) Bool.false_ne_true
 |byt i=>
  obtain⟨t,rfl⟩:=rx
  cases y with
  |byt j=>obtain⟨t',rfl⟩:=ry;exact W.eq_bytes (aP I q nZ)
  |_=>exact absurd (show false=true from hs) Bool.false_ne_true
 |_=>cases y <;> exact absurd (show false=true from hs) Bool.false_ne_true
theorem jf:OpR X (compareOp .NotEq) rNe:=by
 intro pins s σ H x y v u Q I rx ry h
 obtain⟨hs,q⟩:=h
 cases x with
 |non=>
  cases rx
  cases y with
  |non=>cases ry;exact PySem.EqNone.ne_none_none (aP I q (by simp))
  |bl j=>cases ry;exact PySem.EqNone.ne_none_bool (aP I q (by simp))
  |int j=>obtain⟨t',rfl⟩:=ry;exact PySem.EqNone.ne_none_int (aP I q (by simp))
  |str j=>obtain⟨t',rfl⟩:=ry;exact PySem.EqNone.ne_none_str (aP I q (by simp))
  |_=>exact absurd (show false=true from hs) Bool.false_ne_true
 |bl i=>
  cases rx
  cases y with
  |non=>cases ry;exact PySem.EqNone.ne_bool_none (aP I q (by simp))
  |bl j=>cases ry;exact ne_bool (aP I q (congrArg not qX))
  |str j=>obtain⟨t',rfl⟩:=ry;exact PySem.EqMixed.ne_bool_str (aP I q (by simp))
  |_=>exact absurd (show false=true from hs) Bool.false_ne_true
 |int i=>
  obtain⟨t,rfl⟩:=rx
  cases y with
  |non=>cases ry;exact PySem.EqNone.ne_int_none (aP I q (by simp))
  |int j=>obtain⟨t',rfl⟩:=ry;exact ne_int (aP I q (congrArg not nY))
  |str j=>obtain⟨t',rfl⟩:=ry;exact PySem.EqMixed.ne_int_str (aP I q (by simp))
  |_=>exact absurd (show false=true from hs) Bool.false_ne_true
 |str i=>
  obtain⟨t,rfl⟩:=rx
  cases y with
  |non=>cases ry;exact PySem.EqNone.ne_str_none (aP I q (by simp))
  |bl j=>cases ry;exact PySem.EqMixed.ne_str_bool (aP I q (by simp))
  |int j=>obtain⟨t',rfl⟩:=ry;exact PySem.EqMixed.ne_str_int (aP I q (by simp))
  |str j=>obtain⟨t',rfl⟩:=ry;exact ne_str (aP I q (congrArg not nX))
  |_=>exact absurd (show false=true from hs) Bool.false_ne_true
 |byt i=>
  obtain⟨t,rfl⟩:=rx
  cases y with
  |byt j=>obtain⟨t',rfl⟩:=ry;exact W.ne_bytes (aP I q (congrArg not nZ))
  |_=>exact absurd (show false=true from hs) Bool.false_ne_true
 |_=>cases y <;> exact absurd (show false=true from hs) Bool.false_ne_true
theorem nN:OpR X (compareOp .Lt) (rI0 fun i j=>.bl (decide (i < j))):=opB0 fun _ _ _ _ _ _ _ q=>lt_int q
theorem tX:OpR X (compareOp .Gt) (rI0 fun i j=>.bl (decide (j < i))):=opB0 fun _ _ _ _ _ _ _ q=>gt_int q
theorem vN:OpR X (compareOp .GtE) (rI0 fun i j=>.bl (decide (j≤i))):=opB0 fun _ _ _ _ _ _ _ q=>ge_int q
theorem nomark (b:Expr) {op:CmpOp} (h:op≠.In:=by decide) (h2:op≠.NotIn:=by decide):behindInMarks op b=false:=by
 have e1:(op==CmpOp.In)=false:=by cases op <;> first|rfl|exact absurd rfl h
 have e2:(op==CmpOp.NotIn)=false:=by cases op <;> first|rfl|exact absurd rfl h2
 cases b <;> simp[behindInMarks,e1,e2]
theorem eW {op:CmpOp} {r:R2} (ho:OpR X (compareOp op) r) (ha:PE X a ta) (hb:PE X b tb) (hm:behindInMarks op b=false):PE X (.Compare a [op] [b] pos) (tOp r ta tb):=by
 intro pins s σ H Q I h
 exact wpAny_Compare1 (binT ha hb I h fun v u s2 x y H2 I2 rx ry q=>ho pins s2 σ H2 x y v u Q I2 rx ry q) hm
def pD (t:TE):TT:=fun σ H Q=>t σ H fun x H'=>∃k,x=.bl k∧Q k H'
theorem aF {op:CmpOp} {r:R2} (ho:OpR X (compareOp op) r) (ha:PE X a ta) (hb:PE X b tb) (hm:behindInMarks op b=false):PT X (.Compare a [op] [b] pos) (pD (tOp r ta tb)):=by
 intro pins s σ H Q I h
 refine wpAny_isTrue_Compare1 (thn (ha pins s σ H _ I h) fun v s1 ⟨x,H1,I1,r1,q1⟩=>thn (hb pins s1 σ H1 _ I1 q1) fun u s2 ⟨y,H2,I2,r2,q2⟩=>
  thn (ho pins s2 σ H2 x y v u _ I2 r1 r2 q2) fun c s3 ⟨z,H3,I3,r3,k,e,q3⟩=>?_) hm
 subst e
 cases r3
 exact wpAny_truthy_bool ⟨H3,I3,q3⟩
def TruV (K:W.Frag) (x:V) (H:Hp) (k:Bool):Prop:=
 match x with
 | .non=>k=false
 | .bl b=>k=b
 | .int i=>k=(i != 0)
 | .str y=>y.length≤sizeLine∧k=((y.length:Int) != 0)
 | .byt y=>y.size≤sizeLine∧k=((y.size:Int) != 0)
 | .ref p=>(∃xs,SqL K H p xs∧k=!xs.isEmpty)∨(∃xs,SqT K H p xs∧k=!xs.isEmpty)∨∃kvs,H p=some (.dK kvs)∧k=!kvs.isEmpty
 |_=>False
theorem mV {κ:Type} {kvs:List (κ × V)} {vs:List (κ × Value)} (r:KV kvs vs):(!vs.isEmpty)=!kvs.isEmpty:=by
 cases r <;> rfl
theorem iD {xs:List V} {its:List Value} (r:Vals xs its):(!its.toArray.isEmpty)=!xs.isEmpty:=by
 cases r <;> simp
theorem line63:(sizeLine:Nat) < 2 ^ 63:=by rw[sizeLine_eq];decide
theorem ug:TruR X (fun x H Q=>∃k,TruV X.K x H k∧Q k H):=by
 intro pins s σ H x v Q I rx h
 obtain⟨k,e,q⟩:=h
 have hl:=line63
 have hs:sizeLine=16777216:=sizeLine_eq
 cases x with
 |non=>
  cases rx
  have e':k=false:=e
  subst e'
  exact truthy_none ⟨H,I,q⟩
 |bl b=>
  cases rx
  have e':k=b:=e
  subst e'
  exact wpAny_truthy_bool ⟨H,I,q⟩
 |int i=>
  obtain⟨t,rfl⟩:=rx
  have e':k=(i != 0):=e
  subst e'
  exact PySem.P.truthy_int ⟨H,I,q⟩
 |str y=>
  obtain⟨t,rfl⟩:=rx
  obtain⟨hy,e'⟩:y.length≤sizeLine∧k=((y.length:Int) != 0):=e
  subst e'
  exact PySem.P.truthy_str (by omega) ⟨H,I.tok _,q⟩
 |byt y=>
  obtain⟨t,rfl⟩:=rx
  obtain⟨hy,e'⟩:y.size≤sizeLine∧k=((y.size:Int) != 0):=e
  subst e'
  exact W.truthy_bytes (by omega) ⟨H,I.tok _,q⟩
 |ref p=>
  cases rx
  have e':(∃xs,SqL X.K H p xs∧k=!xs.isEmpty)∨(∃xs,SqT X.K H p xs∧k=!xs.isEmpty)∨∃kvs,H p=some (.dK kvs)∧k=!kvs.isEmpty:=e
  rcases e' with ⟨xs,hx,e'⟩|⟨xs,hx,e'⟩|⟨kvs,hx,e'⟩
  ·subst e'
   obtain⟨its,r,pl,hz⟩:=I.list hx
   have hlen:=r.length
   exact wpAny_truthy_list pl.isList (by simp only[List.size_toArray];omega) ⟨H,I.tok _,by rw[iD r];exact q⟩
  ·subst e'
   obtain⟨its,r,pl,hz⟩:=I.tuple hx
   have hlen:=r.length
   exact truthy_tuple pl (by simp only[List.size_toArray];omega) ⟨H,I.tok _,by rw[iD r];exact q⟩
  ·subst e'
   obtain⟨hz,hS,vs,r,m⟩:kvs.length≤sizeLine∧(p==sysModules)=false∧∃vs,KV kvs vs∧s.heap.DictOf (aN X.prog X.w) p vs:=I.hok p _ hx
   have hlen:kvs.length=vs.length:=Paired.length r
   exact wpAny_truthy_dict hS m (by omega) ⟨H,I.tok _,by rw[mV r];exact q⟩
 |_=>exact (show False from e).elim
theorem pS (ha:PE X a ta) (he:∀whole,isTrue a X.env whole=(do let v ←whole;standAt a.pos;holding [v] (truthy v))) :
  PT X a (fun σ H Q=>ta σ H fun x H'=>∃k,TruV X.K x H' k∧Q k H'):=by
 intro pins s σ H Q I h
 exact isTrue_plain (thn (ha pins s σ H _ I h) fun v s1 ⟨x,H1,I1,r1,q1⟩=>ug pins s1 σ H1 x v Q I1 r1 q1) (he _)
theorem vals1 {x:V} {us:List Value} (r:Vals [x] us):∃u,us=[u]∧RelV x u:=by
 cases r with
 |cons r1 r2=>cases r2;exact⟨_,rfl,r1⟩
theorem vals2 {x y:V} {us:List Value} (r:Vals [x,y] us):∃u w',us=[u,w']∧RelV x u∧RelV y w':=by
 cases r with
 |cons r1 r2=>
  cases r2 with
  |cons r3 r4=>cases r4;exact⟨_,_,rfl,r1,r3⟩
theorem e6:bM X (.type "int") (fun xs H Q=>(∃i,xs=[.int i]∧Q (.int i) H)∨∃k,xs=[.bl k]∧Q (.int (if k then 1 else 0)) H):=by
 intro pins s σ H xs us Q I r h
 rcases h with ⟨i,rfl,q⟩|⟨k,rfl,q⟩
 ·obtain⟨u,rfl,t,rfl⟩:=vals1 r
  exact call_int_int ⟨.int i,H,I,⟨_,rfl⟩,q⟩
 ·obtain⟨u,rfl,r1⟩:=vals1 r
  cases r1
  exact call_int_bool ⟨.int (if k then 1 else 0),H,I.tok _,⟨_,rfl⟩,q⟩
end
end L2
namespace L2
open PySem PySem.Spec PyProof.Rows
structure ObjM (h:Heap) (x dx C:Addr) (mA:Str→Option Value):Prop where
 obj:h.get? x=some (W.instObj C dx)
 ns:h.Ns1 dx mA
 ne:dx≠x
theorem oR {h:Heap} {dx:Addr} {mA:Str→Option Value} (n:h.Ns1 dx mA):∃od,h.get? dx=some od∧∀name,W.lookIn name od=some (mA name):=by
 obtain⟨o,es,ep,ho,hd,hk,_,hm⟩:=n
 refine⟨o,ho,fun name=>?_⟩
 have e:=hm name
 unfold nsFind findBy at e
 rw[←Array.find?_toList] at e
 unfold W.lookIn
 rw[hd]
 dsimp only
 split
 ·rename_i y q
  rw[q] at e
  exact congrArg some e
 ·rename_i q
  rw[q] at e
  have a:es.toList.any (·.refKey)=false:=by
   rw[List.any_eq_false]
   intro y hy
   obtain⟨z,t,hkey⟩:=hk y (Array.mem_toList_iff.mp hy)
   simp[DictEntry.refKey,hkey]
  have a':¬es.toList.any (·.refKey)=true:=by rw[a];exact Bool.false_ne_true
  rw[if_neg a']
  exact congrArg some e
theorem ObjM.look {h:Heap} {x dx C:Addr} {mA:Str→Option Value} (I:ObjM h x dx C mA):∃od,W.InstAt h x (W.instObj C dx) C (some od)∧∀name,W.lookIn name od=some (mA name):=
 let ⟨od,ho,hl⟩:=oR I.ns
 ⟨od,⟨I.obj,rfl,rfl,ho⟩,hl⟩
section
variable {prog:Program} {w:World} {A:Around} {E:Value→Shared→Prop} {s:Shared} {K:W.Frag} {x dx C f:Addr} {mA:Str→Option Value} {name:Str} {v:Value}
theorem tE {expr:Bool} {Q:Value→Shared→Prop} (X:K.In s.heap) (I:ObjM s.heap x dx C mA) (hg:W.plainGet K C name=true) (hh:W.hasDictIn K C=true)
  (ha:W.findIn K (.ref C) name=some none) (hv:mA name=some v) (hv':W.handedIn v=true) (h:Q v {s with toks:=s.toks+1}) :
  wpAny (model prog w) A (getAttr (.ref x) name expr) Q E s:=by
 obtain⟨od,J,hl⟩:=I.look
 exact W.get_value X J (W.plainGet_of hg).1 (W.findObj_own hh ha rfl (by rw[hl,hv])) hv' h
theorem rP {ns:List Str} {Q:Unit→Shared→Prop} (X:K.In s.heap) (I:ObjM s.heap x dx C mA)
  (hs:W.findIn K (.ref C) "__setattr__" = some (some (.builtin "object.__setattr__"))) (hp:W.plainOver K C=true) (ht:W.takerIn K C name=some none) (hh:W.hasDictIn K C=true)
  (hw:PySem.Within mA ns) (hsz:ns.length≤sizeLine)
  (h:∀h',ObjM h' x dx C (fun y=>if y=name then some v else mA y)→Heap.SameBut dx s.heap h'→Q () {s with heap:=h',toks:=s.toks+2}) :
  wpAny (model prog w) A (setAttr (.ref x) name v) Q E s:=by
 obtain⟨od,J,hl⟩:=I.look
 refine W.set_plain X J hs (W.osa_open (s:={s with toks:=s.toks+1}) (r:=none) X J hp ht fun b=>?_)
 obtain⟨cd,hc,hd'⟩:=W.any_some hh
 have hx:s.heap.get? x=some ⟨.ref C,some dx,.plain,#[]⟩:=I.obj
 refine wpAny_bind (wpAny_pure (wpAny_bind (wpAny_bind (wpAny_loadPart hx (wpAny_bind (W.Looks.here (s:={s with toks:=s.toks+1}) (W.looks_clsIn X hc) ?_))))))
 rw[hd']
 refine wpAny_pure (a:=some dx) (wpAny_bind (wpAny_pure (wpAny_bind ?_)))
 refine wpAny_nsSet1 (s:={s with toks:=s.toks+1}) I.ns fun h' hn2 hs2=>?_
 obtain⟨oD,esD,epD,hoD,hdD,hcD⟩:=hn2.count (PySem.Within.cons name v hw)
 refine wpAny_bind (wpAny_lookBehind hoD (by rw[hdD];exact pastItsLine_dict (Nat.le_trans hcD (by rw[List.length_cons];omega))) ?_)
 exact wpAny_pure (h _ ⟨(hs2.2 _ (Ne.symm I.ne)).trans I.obj,hn2,I.ne⟩ hs2)
theorem qt {R:Result→Shared→Prop} {vs:List Value} {kw:List (Str × Value)} (X:K.In s.heap) (hm:W.makesIn K C=true)
  (hi:W.findIn K (.ref C) "__init__" = some (some (.ref f))) (hf:W.typeIn K (.ref f)=some (.type "function"))
  (h:codeAny (model prog w) (A.under (.builtin "type.__call__" ⟨.ref C::vs,kw⟩)) (.call (.ref f) ⟨.ref (s.heap.objs.size+1)::vs,kw⟩) (W.InitBack (s.heap.objs.size+1) R)
   {s with heap:=(s.heap.push W.emptyDict).push (W.instObj C s.heap.objs.size)}) :
  codeAny (model prog w) A (.call (.ref C) ⟨vs,kw⟩) R s:=by
 obtain⟨hh,g,d,t,os⟩:=s
 exact W.make_core (W.makes_of X hm) (W.looks_findIn X hi) (fun self=>W.bind_fn X self hf) (.inl rfl) h
end
def putF (f:Str) (v:V):List (Str × V)→List (Str × V)
 | []=>[(f,v)]
 |(g,x)::r=>if g=f then (g,v)::r else (g,x)::putF f v r
theorem gO (f g:Str) (v:V):∀fs:List (Str × V),(putF f v fs).lookup g=if g=f then some v else fs.lookup g
 | []=>by
  show List.lookup g [(f,v)]=_
  by_cases h:g=f
  ·have hb:(g==f)=true:=beq_iff_eq.mpr h
   simp only[List.lookup,hb,if_pos h]
  ·have hb:(g==f)=false:=beq_eq_false_iff_ne.mpr h
   simp only[List.lookup,hb,if_neg h]
 |(k,x)::r=>by
  have ih:=gO f g v r
  rw[show putF f v ((k,x)::r)=(if k=f then (k,v)::r else (k,x)::putF f v r) from rfl]
  by_cases hk:k=f
  ·rw[if_pos hk]
   by_cases h:g=k
   ·have hb:(g==k)=true:=beq_iff_eq.mpr h
    simp only[List.lookup,hb,if_pos (h.trans hk)]
   ·have hb:(g==k)=false:=beq_eq_false_iff_ne.mpr h
    simp only[List.lookup,hb,if_neg (fun e:g=f=>h (e.trans hk.symm))]
  ·rw[if_neg hk]
   by_cases h:g=k
   ·have hb:(g==k)=true:=beq_iff_eq.mpr h
    simp only[List.lookup,hb,if_neg (fun e:g=f=>hk (h.symm.trans e))]
   ·have hb:(g==k)=false:=beq_eq_false_iff_ne.mpr h
    simp only[List.lookup,hb]
    exact ih
theorem gC (f:Str) (v:V):∀fs:List (Str × V),f∈(putF f v fs).map (·.1)∧∀g,g∈fs.map (·.1)→g∈(putF f v fs).map (·.1)
 | []=>⟨by simp[putF],fun g h=>by simp at h⟩
 |(k,x)::r=>by
  obtain⟨i1,i2⟩:=gC f v r
  rw[show putF f v ((k,x)::r)=(if k=f then (k,v)::r else (k,x)::putF f v r) from rfl]
  by_cases hk:k=f
  ·rw[if_pos hk]
   subst hk
   exact⟨by simp,fun g h=>by simpa using h⟩
  ·rw[if_neg hk]
   refine⟨?_,fun g h=>?_⟩
   ·rw[List.map_cons]
    exact List.mem_cons_of_mem _ i1
   ·rw[List.map_cons] at h ⊢
    rcases List.mem_cons.mp h with e|e
    ·exact List.mem_cons.mpr (.inl e)
    ·exact List.mem_cons_of_mem _ (i2 g e)
theorem gP (f:Str) (v:V):∀fs:List (Str × V),(putF f v fs).length≤fs.length+1
 | []=>by simp[putF]
 |(k,x)::r=>by
  have ih:=gP f v r
  rw[show putF f v ((k,x)::r)=(if k=f then (k,v)::r else (k,x)::putF f v r) from rfl]
  by_cases hk:k=f
  ·rw[if_pos hk,List.length_cons,List.length_cons];omega
  ·rw[if_neg hk,List.length_cons,List.length_cons];omega
theorem RelO.some_of {v:V} {o:Option Value} (r:RelO (some v) o):∃u,o=some u∧RelV v u:=by
 cases o with
 |none=>exact (show False from r).elim
 |some u=>exact⟨u,rfl,r⟩
theorem oY {v:V} {u:Value} (r:RelV v u):W.handedIn u=true:=by
 cases v with
 |non=>cases (show u=Value.none from r);rfl
 |bl b=>cases (show u=Value.bool b from r);rfl
 |int i=>obtain⟨t,e⟩:=(show ∃t,u=Value.int i t from r);cases e;rfl
 |str x=>obtain⟨t,e⟩:=(show ∃t,u=Value.str x t from r);cases e;rfl
 |byt b=>obtain⟨t,e⟩:=(show ∃t,u=Value.bytes b t from r);cases e;rfl
 |flt b=>obtain⟨t,e⟩:=(show ∃t,u=Value.float b t from r);cases e;rfl
 |ref a=>cases (show u=Value.ref a from r);rfl
 |ty n=>cases (show u=Value.type n from r);rfl
section
variable {P:Program} {w:World} {H H':Hp} {h h':Heap} {a C dx:Addr} {fs fs':List (Str × V)}
theorem kg (hok:HOk P w H h) (e:H a=some (.ins C dx fs)):∃mA,ObjM h a dx C mA∧(∀f,RelO (fs.lookup f) (mA f))∧PySem.Within mA (fs.map (·.1))∧fs.length≤1000∧H dx=some (.own a):=by
 obtain⟨d,z,ne,ob,mA,n,r,q⟩:=(show aS P w H h a (.ins C dx fs) from hok a _ e)
 exact⟨mA,⟨ob,n,ne⟩,r,q,z,d⟩
end
structure Cls (K:W.Frag) (C:Addr):Prop where
 pg:W.plainGet K C Str.empty=true
 hd:W.hasDictIn K C=true
 po:W.plainOver K C=true
 sa:W.findIn K (.ref C) "__setattr__" = some (some (.builtin "object.__setattr__"))
theorem Cls.get {K:W.Frag} {C:Addr} (c:Cls K C) (f:Str):W.plainGet K C f=true:=c.pg
def dN (K:W.Frag) (C:Addr) (f:Str):Prop:=W.findIn K (.ref C) f=some none
theorem dN.taker {K:W.Frag} {C:Addr} {f:Str} (n:dN K C f):W.takerIn K C f=some none:=by
 unfold W.takerIn
 rw[show W.findIn K (.ref C) f=some none from n]
 rfl
structure Meth (K:W.Frag) (C:Addr) (m:Str) (f:Addr):Prop where
 at_:W.findIn K (.ref C) m=some (some (.ref f))
 fn:W.isFn K (.ref f)=true
 kp:W.keepIn K (.ref f)=true
section
variable {X:Cx} {pins:List (Addr × Obj)} {σ:St} {H:Hp} {s:Shared} {a C dx:Addr} {fs:List (Str × V)} {f:Str} {v:V} {A:Around} {E:Value→Shared→Prop}
theorem mX {b:Bool} {Q:Value→Shared→Prop} (I:Inv X pins σ H s) (e:H a=some (.ins C dx fs)) (c:Cls X.K C) (n:dN X.K C f) (l:fs.lookup f=some v)
  (h:∀u s',Inv X pins σ H s'→RelV v u→Q u s'):wpAny (model X.prog X.w) A (getAttr (.ref a) f b) Q E s:=by
 obtain⟨mA,O,r,_,_,_⟩:=kg I.hok e
 obtain⟨u,hu,ru⟩:=RelO.some_of (v:=v) (o:=mA f) (by rw[←l];exact r f)
 exact tE I.kIn O (c.get f) c.hd n hu (oY ru) (h u _ (I.tok _) ru)
theorem lY {y:V} {u:Value} {Q:Unit→Shared→Prop} (I:Inv X pins σ H s) (e:H a=some (.ins C dx fs)) (c:Cls X.K C) (n:dN X.K C f) (hl:fs.length < 1000) (ry:RelV y u)
  (h:∀s',Inv X pins σ (upd H a (.ins C dx (putF f y fs))) s'→Q () s'):wpAny (model X.prog X.w) A (setAttr (.ref a) f u) Q E s:=by
 obtain⟨mA,O,r,wi,_,ho⟩:=kg I.hok e
 have hz:(fs.map (·.1)).length≤sizeLine:=by rw[List.length_map,sizeLine_eq];omega
 refine rP I.kIn O c.sa c.po n.taker c.hd wi hz fun h' O' sb=>h _ ?_
 have hd:∃o,h'.get? dx=some o:=let ⟨o,_,_,e',_⟩:=O'.ns;⟨o,e'⟩
 refine I.write (x:=a) (e:=dx) (by rw[e];exact True.intro) (.inr ho) (fun b q hb z=>(sb.2 b hb).trans z) hd ?_
 refine⟨by rw[au O.ne];exact ho,?_,O.ne,O'.obj,_,O'.ns,fun g=>?_,fun g hg=>?_⟩
 ·have:=gP f y fs;omega
 ·show RelO ((putF f y fs).lookup g) (if g=f then some u else mA g)
  rw[gO]
  by_cases q:g=f
  ·rw[if_pos q,if_pos q];exact ry
  ·rw[if_neg q,if_neg q];exact r g
 ·by_cases q:g=f
  ·rw[q];exact (gC f y fs).1
  ·refine (gC f y fs).2 g (wi g fun z=>hg ?_)
   show (if g=f then some u else mA g)=none
   rw[if_neg q];exact z
theorem Inv.made (I:Inv X pins σ H s):Inv X pins σ (upd (upd H s.heap.objs.size (.own (s.heap.objs.size+1))) (s.heap.objs.size+1) (.ins C s.heap.objs.size []))
  {s with heap:=(s.heap.push W.emptyDict).push (W.instObj C s.heap.objs.size)}:=by
 have e1:(s.heap.push W.emptyDict).get? s.heap.objs.size=some W.emptyDict:=Heap.get?_push_size s.heap rfl
 have e2:((s.heap.push W.emptyDict).push (W.instObj C s.heap.objs.size)).get? (s.heap.objs.size+1)=some (W.instObj C s.heap.objs.size):=by
  have:=Heap.get?_push_size (s.heap.push W.emptyDict) (o:=W.instObj C s.heap.objs.size) rfl
  rwa [Heap.size_push] at this
 have e3:(s.heap.push W.emptyDict).Ns s.heap.objs.size (fun _=>none):=⟨W.emptyDict,#[],_,e1,rfl,(fun e he=>absurd he (by simp)),fun _=>rfl⟩
 have I1:=I.laid (a:=s.heap.objs.size) (o:=.own (s.heap.objs.size+1)) (h':=s.heap.push W.emptyDict) (t':=s.toks) (fun b u q=>Heap.get?_push_of_some _ q) (Nat.le_refl _) ⟨_,e1⟩
 refine I1.laid (a:=s.heap.objs.size+1) (o:=.ins C s.heap.objs.size []) (t':=s.toks) (fun b u q=>Heap.get?_push_of_some _ q) (Nat.le_of_eq (Heap.size_push _ _)) ?_
 have ne:s.heap.objs.size≠s.heap.objs.size+1:=Nat.ne_of_lt (Nat.lt_succ_self _)
 refine⟨by rw[au ne,al],Nat.zero_le _,ne,e2,fun _=>none,(Heap.Ns1.of_empty e3).at fun o q=>Heap.get?_push_of_some _ q,fun _=>True.intro,fun y hy=>absurd rfl hy⟩
theorem tQ {prog:Program} {w:World} {env:Env} {e:Expr} {f:Str} {pos:Pos} {s:Shared} {Q:Value→Shared→Prop} (hb:attributeBase e f env (eval e env)=eval e env)
  (h:wpAny (model prog w) A (eval e env) (fun o s₁=>wpAny (model prog w) A (getAttr o f true) Q E s₁) E s):wpAny (model prog w) A (eval (.Attribute e f pos) env) Q E s:=
 Attribute_any_ h (by rw[arm_eval_Attribute,hb])
end
def tFld (K:W.Frag) (ta:TE) (f:Str):TE:=fun σ H Q=>ta σ H fun x H1=>∃a C dx fs v,x=.ref a∧H1 a=some (.ins C dx fs)∧Cls K C∧dN K C f∧fs.lookup f=some v∧Q v H1
def sFld (K:W.Frag) (ta tv:TE) (f:Str):TS:=fun D σ H=>tv σ H fun y H1=>ta σ H1 fun x H2=>∃a C dx fs,x=.ref a∧H2 a=some (.ins C dx fs)∧Cls K C∧dN K C f∧fs.length < 1000 ∧
 D.nx σ (upd H2 a (.ins C dx (putF f y fs)))
section
variable {X:Cx} {o e value:Expr} {f:Str} {pos pos' tpos:Pos} {ta tv:TE}
theorem pW (he:PE X e ta) (hb:attributeBase e f X.env (eval e X.env)=eval e X.env):PE X (.Attribute e f pos) (tFld X.K ta f):=by
 intro pins s σ H Q I h
 refine tQ hb (thn (he pins s σ H _ I h) fun u s1 ⟨x,H1,I1,rx,a,C,dx,fs,v,ex,ea,c,n,l,q⟩=>?_)
 subst ex
 obtain rfl:u=Value.ref a:=rx
 exact mX I1 ea c n l fun u' s2 I2 ru=>⟨v,H1,I2,ru,q⟩
theorem jX (ha:PE X o ta) (hv:PE X value tv) (hs:swapsWith value (some (.Attribute o f pos')) pos.line X.env=pure false):PS X (.Assign [.Attribute o f pos'] value pos) (sFld X.K ta tv f):=by
 intro pins s σ H D I h
 refine plainObj_wpAny_Assign_Attribute (thn (hv pins s σ H _ I h) fun u s1 ⟨y,H1,I1,ry,q⟩=>thn (ha pins s1 σ H1 _ I1 q) fun ov s2 ⟨x,H2,I2,rx,a,C,dx,fs,ex,ea,c,n,l,q2⟩=>?_) hs
 subst ex
 obtain rfl:ov=Value.ref a:=rx
 exact lY I2 ea c n l ry fun s3 I3=>⟨σ,_,I3,q2⟩
end
section
variable {X:Cx} {pins:List (Addr × Obj)} {σ:St} {H:Hp} {s:Shared} {A:Around} {E:Value→Shared→Prop} {Q:Value→Shared→Prop} {c:Value} {b:Bool}
inductive TyOf (K:W.Frag) (H:Hp):V→Value→Prop where
 |non:TyOf K H .non (.type "NoneType")
 |bl (x:Bool):TyOf K H (.bl x) (.type "bool")
 |int (i:Int):TyOf K H (.int i) (.type "int")
 |str (x:Str):TyOf K H (.str x) (.type "str")
 |flt (x:UInt64):TyOf K H (.flt x) (.type "float")
 |lst {a:Addr} {xs:List V} (e:H a=some (.lst xs)):TyOf K H (.ref a) (.type "list")
 |frz {a:Addr} {o:Obj} {xs:List V} (e:H a=some (.frz o (.lst xs))):TyOf K H (.ref a) (.type "list")
 |tup {a:Addr} {xs:List V} (e:H a=some (.tup xs)):TyOf K H (.ref a) (.type "tuple")
 |dK {a:Addr} {kvs:List (Key × V)} (e:H a=some (.dK kvs)):TyOf K H (.ref a) (.type "dict")
 |dT {a:Addr} {kvs:List (List Key × V)} (e:H a=some (.dT kvs)):TyOf K H (.ref a) (.type "dict")
 |ins {a C dx:Addr} {fs:List (Str × V)} (e:H a=some (.ins C dx fs)) (cl:Cls K C) (ha:W.findIn K (.ref C) "__class__" = some (some (.builtin "object.__class__")))
   (hn:W.specialIn K (.builtin "object.__class__") "__get__" = some (some (.builtin "getset_descriptor.__get__"))) (htk:W.takesIn K (.builtin "object.__class__")=some true)
   (hm:W.mroIn K C (.type "object")=some true):TyOf K H (.ref a) (.ref C)
theorem oV {x:V} {u t:Value} (I:Inv X pins σ H s) (rx:RelV x u) (ty:TyOf X.K H x t) (e:W.kitOne X.K t c=some b) (h:∀tk,Q (.bool b) {s with toks:=tk}) :
  wpAny (model X.prog X.w) A (call (.builtin "isinstance") [u,c]) Q E s:=by
 cases ty with
 |non=>cases (show u=Value.none from rx);exact W.kia_one W.kitx_none I.kIn True.intro e (fun z=>nomatch z) h
 |bl y=>cases (show u=Value.bool y from rx);exact W.kia_one W.kitx_bool I.kIn True.intro e (fun z=>nomatch z) h
 |int i=>obtain⟨t,q⟩:=(show ∃t,u=Value.int i t from rx);cases q;exact W.kia_one W.kitx_int I.kIn True.intro e (fun z=>nomatch z) h
 |str y=>obtain⟨t,q⟩:=(show ∃t,u=Value.str y t from rx);cases q;exact W.kia_one W.kitx_str I.kIn True.intro e (fun z=>nomatch z) h
 |flt y=>obtain⟨t,q⟩:=(show ∃t,u=Value.float y t from rx);cases q;exact W.kia_one W.kitx_float I.kIn True.intro e (fun z=>nomatch z) h
 | @lst a xs ea=>
  cases (show u=Value.ref a from rx)
  obtain⟨_,_,n,_,h1⟩:=(show aS X.prog X.w H s.heap a (.lst xs) from I.hok a _ ea)
  exact W.kia_one W.kitx_list I.kIn ⟨_,h1,rfl⟩ e (fun z=>nomatch z) h
 | @frz a ob xs ea=>
  cases (show u=Value.ref a from rx)
  obtain⟨_,_,_,n,_,h1⟩:=(show aS X.prog X.w H s.heap a (.frz ob (.lst xs)) from I.hok a _ ea)
  exact W.kia_one W.kitx_list I.kIn ⟨_,h1,rfl⟩ e (fun z=>nomatch z) h
 | @tup a xs ea=>
  cases (show u=Value.ref a from rx)
  obtain⟨_,_,_,p⟩:=(show aS X.prog X.w H s.heap a (.tup xs) from I.hok a _ ea)
  obtain⟨o,h1,h2,_⟩:=p
  exact W.kia_one W.kitx_tuple I.kIn ⟨o,h1,h2⟩ e (fun z=>nomatch z) h
 | @dK a kvs ea=>
  cases (show u=Value.ref a from rx)
  obtain⟨_,_,vs,_,p⟩:=(show aS X.prog X.w H s.heap a (.dK kvs) from I.hok a _ ea)
  obtain⟨o,es,ep,h1,h2,_⟩:=p
  exact W.kia_one W.kitx_dict I.kIn ⟨o,h1,h2.1⟩ e (fun z=>nomatch z) h
 | @dT a kvs ea=>
  cases (show u=Value.ref a from rx)
  obtain⟨_,_,xs,_,o,es,ep,h1,h2,_⟩:=(show aS X.prog X.w H s.heap a (.dT kvs) from I.hok a _ ea)
  exact W.kia_one W.kitx_dict I.kIn ⟨o,h1,h2.1⟩ e (fun z=>nomatch z) h
 | @ins a C dx fs ea cl ha hn htk hm=>
  cases (show u=Value.ref a from rx)
  obtain⟨mA,O,_⟩:=kg I.hok ea
  obtain⟨od,J,_⟩:=O.look
  exact W.kia_one (W.kitx_own (cl.get _) cl.hd ha hn htk hm) I.kIn J e (fun z=>nomatch z) h
end
end L2
namespace L2
open PySem PySem.Spec PyProof.Rows
structure Room (k:Nat) (A:Around):Prop where
 hd:A.handled=none
 dp:A.depth+3 * k+5 < recursionLimit
 un:A.units+16 * k+200 < cLine
 gu:A.guards=some []
theorem Room.mono {j k:Nat} {A:Around} (r:Room k A) (h:j≤k):Room j A:=⟨r.hd,by have:=r.dp;omega,by have:=r.un;omega,r.gu⟩
theorem Room.deeper {k:Nat} {A:Around} (r:Room (k+1) A) (env:Env):Room k (A.deeper env):=
 ⟨r.hd,by have:=r.dp;show A.depth+1+3 * k+5 < _;omega,by have:=r.un;show A.units+3+16 * k+200 < _;omega,r.gu⟩
theorem mQ {A:Around} {C:Addr} {us:List Value} {kw:List (Str × Value)}:(A.under (.builtin "type.__call__" ⟨.ref C::us,kw⟩)).depth=A.depth+1:=by
 first|rfl|simp[Around.under,Code.weight,Code.isCreation,Code.isGuard,Code.isCaller,Code.frames,Code.isFrame,guardIds]
theorem mP {A:Around} {C:Addr} {us:List Value} {kw:List (Str × Value)}:(A.under (.builtin "type.__call__" ⟨.ref C::us,kw⟩)).units=A.units+1:=by
 first|rfl|simp[Around.under,Code.cUnits,Code.frames,Code.isFrame]
theorem lx {A:Around} {C:Addr} {us:List Value} {kw:List (Str × Value)} (h:A.guards=some []):(A.under (.builtin "type.__call__" ⟨.ref C::us,kw⟩)).guards=some []:=by
 first|exact h|simp[Around.under,Code.isGuard,guardIds,h]
theorem Room.make {k:Nat} {A:Around} (r:Room (k+1) A) (C:Addr) (us:List Value) (kw:List (Str × Value)):Room k (A.under (.builtin "type.__call__" ⟨.ref C::us,kw⟩)):=
 ⟨r.hd,by have:=r.dp;rw[mQ];omega,by have:=r.un;rw[mP];omega,lx r.gu⟩
theorem Room.depth {k:Nat} {A:Around} (r:Room k A):A.depth < recursionLimit:=by have:=r.dp;omega
theorem Room.units {k:Nat} {A:Around} (r:Room k A):A.units+64 < cLine:=by have:=r.un;omega
theorem Room.units0 {k:Nat} {A:Around} (r:Room k A):A.units < cLine:=by have:=r.un;omega
def tNil:TA:=fun _ H Q=>Q [] H
def dn (ta:TE) (tr:TA):TA:=fun σ H Q=>ta σ H fun x H1=>tr σ H1 fun xs H2=>Q (x::xs) H2
section
variable {X:Cx} {e:Expr} {es:List Expr} {te:TE} {t:TA} {pos:Pos}
theorem ac:PA X [] tNil:=fun _ _ _ _ H Q I h=>Calls.spliced_nil ⟨[],H,I,.nil,h⟩
theorem aa (ha:PE X e te) (hr:PA X es t) (hs:starEach (e::es) X.env=(false,eval e X.env)::starEach es X.env:=by rfl):PA X (e::es) (dn te t):=by
 intro pos pins s σ H Q I h
 rw[hs]
 show wpAny _ _ (spliced ((false,eval e X.env)::backTo pos (starEach es X.env))) _ _ s
 refine Calls.spliced_cons (thn (ha pins s σ H _ I h) fun u s1 ⟨x,H1,I1,r1,q1⟩=>?_)
 exact thn (hr pos pins s1 σ H1 _ I1 q1) fun us s2 ⟨xs,H2,I2,r2,q2⟩=>⟨x::xs,H2,I2,.cons r1 r2,q2⟩
def tTup (t:TA):TE:=fun σ H Q=>t σ H fun xs H1=>xs.length≤sizeLine∧∀p,H1 p=none→Q (.ref p) (upd H1 p (.tup xs))
def tLst (t:TA):TE:=fun σ H Q=>t σ H fun xs H1=>xs.length≤sizeLine∧∀p,H1 p=none→Q (.ref p) (upd H1 p (.lst xs))
theorem aE {x1} (h:PA X es t):PE X (.Tuple es x1 pos) (tTup t):=by
 intro pins s σ H Q I hq
 refine wpAny_Tuple_spliced (thn (h pos pins s σ H _ I hq) fun us s1 ⟨xs,H1,I1,r,z,q⟩=>⟨by rw[←r.length];exact z,?_⟩)
 have hf:H1 s1.heap.objs.size=none:=I1.hok.fresh (Nat.le_refl _)
 refine⟨.ref s1.heap.objs.size,upd H1 s1.heap.objs.size (.tup xs),I1.laid (t':=s1.toks) (fun b u e=>Heap.get?_push_of_some _ e) (Nat.le_refl _) ?_,rfl,q _ hf⟩
 exact⟨⟨z,_,Heap.get?_push_size _ rfl,rfl⟩,us,r,⟨_,Heap.get?_push_size _ rfl,rfl,_,rfl⟩⟩
theorem aV (h:PA X es t):PE X (.List es pos) (tLst t):=by
 intro pins s σ H Q I hq
 refine wpAny_List_spliced (thn (h pos pins s σ H _ I hq) fun us s1 ⟨xs,H1,I1,r,z,q⟩=>⟨by rw[←r.length];exact z,?_⟩)
 have hf:H1 s1.heap.objs.size=none:=I1.hok.fresh (Nat.le_refl _)
 refine⟨.ref s1.heap.objs.size,upd H1 s1.heap.objs.size (.lst xs),I1.laid (t':=s1.toks) (fun b u e=>Heap.get?_push_of_some _ e) (Nat.le_refl _) ?_,rfl,q _ hf⟩
 exact⟨z,us,0,r,Heap.get?_push_size _ rfl⟩
end
abbrev Sp:=List V→Hp→VK→XK→Prop
abbrev CXT:=List Env→Hp→Shared→XK→Value→Shared→Prop
structure Env0 (P:Program) (w:World) (K:W.Frag) (mg:Str→Option Value) (base:Heap) (A:Around) (outer:List Env) (s:Shared) (H:Hp):Prop where
 frames:A.frames=some outer
 mod:Mod K mg base
 bs:∀b o,base.get? b=some o→s.heap.get? b=some o∧H b=none
 bsz:base.objs.size≤s.heap.objs.size
 funs:s.heap.FunFrames base outer
 frf:∀b∈frs outer,H b=none
 hok:HOk P w H s.heap
 bare:AllBare s.gens
def CE (outer:List Env) (P:Program) (w:World) (H:Hp) (s:Shared) (Q:VK) (u:Value) (s':Shared):Prop:=
 ∃v H',s'.os=s.os∧AllBare s'.gens∧Un (frs outer) [] H H' s.heap s'.heap∧HOk P w H' s'.heap∧RelV v u∧Q v H'
def CR (CX:CXT) (outer:List Env) (P:Program) (w:World) (H:Hp) (s:Shared) (Q:VK) (E:XK) (r:Result) (s':Shared):Prop:=
 match r with
 | .ok (.ret u)=>CE outer P w H s Q u s'
 | .ok _=>False
 | .error e=>CX outer H s E e s'
structure FnOk (P:Program) (w:World) (K:W.Frag) (mg:Str→Option Value) (base:Heap) (CX:CXT) (k:Nat) (f:Addr) (fd:FuncData) (ps:List Str) (sp:Sp):Prop where
 len:∀vs H Q E,sp vs H Q E→vs.length=ps.length
 run:∀(A:Around) (outer:List Env) (s:Shared) (H:Hp) (args:Args) (us:List Value) (vs:List V) (Q:VK) (E:XK),Room k A→Env0 P w K mg base A outer s H→BindsTo s fd args (ps.zip us)→Vals vs us→sp vs H Q E →
  codeAny (model P w) A (.call (.ref f) args) (CR CX outer P w H s Q E) s
theorem FnOk.mono {P:Program} {w:World} {K:W.Frag} {mg:Str→Option Value} {base:Heap} {CX:CXT} {j k:Nat} {f:Addr} {fd:FuncData} {ps:List Str} {sp:Sp} (F:FnOk P w K mg base CX j f fd ps sp) (h:j≤k) :
  FnOk P w K mg base CX k f fd ps sp:=⟨F.len,fun A outer s H args us vs Q E hr=>F.run A outer s H args us vs Q E (hr.mono h)⟩
theorem Env0.make {P:Program} {w:World} {K:W.Frag} {mg:Str→Option Value} {base:Heap} {A:Around} {outer:List Env} {s:Shared} {H:Hp} (e:Env0 P w K mg base A outer s H) (C:Addr) (us:List Value) (kw:List (Str × Value)) :
  Env0 P w K mg base (A.under (.builtin "type.__call__" ⟨.ref C::us,kw⟩)) outer s H:=⟨by first|exact e.frames|(simpa [Around.under,Code.envs,Code.isFrame,pushEnvs] using e.frames),e.mod,e.bs,e.bsz,e.funs,e.frf,e.hok,e.bare⟩
section
variable {X:Cx} {pins:List (Addr × Obj)} {σ:St} {H:Hp} {s s':Shared}
theorem Inv.env0 (I:Inv X pins σ H s):Env0 X.prog X.w X.K X.mg X.base X.A X.stack s H:=
 ⟨I.ok.frames,I.ok.mod,I.bs,Nat.le_trans I.ok.bsz I.sz,I.stack,I.stkFree,I.hok,I.bare⟩
theorem Inv.after {Q:VK} {u:Value} (I:Inv X pins σ H s) (h:CE X.stack X.prog X.w H s Q u s'):EP X pins σ Q u s':=by
 obtain⟨v,H',os,bare,un,hok,r,q⟩:=h
 obtain⟨hh,g,d,t,os'⟩:=s'
 obtain rfl:os' = s.os:=os
 exact⟨v,H',I.call (h':=hh) (g':=g) (d':=d) (t':=t) (ch:=[]) un hok bare (fun b z=>absurd z (by simp)),r,q⟩
end
def vE (sp:Sp) (dvs:List V) (E:XK) (t:TA):TE:=fun σ H Q=>t σ H fun vs H1=>sp (vs++dvs) H1 Q E
def vB (C:Addr) (sp:Sp) (dvs:List V) (E:XK) (t:TA):TE:=fun σ H Q=>t σ H fun vs H1=>∀x dx,H1 x=none→H1 dx=none→dx≠x →
 sp (.ref x::(vs++dvs)) (upd (upd H1 dx (.own x)) x (.ins C dx [])) (fun v H2=>v=.non∧Q (.ref x) H2) E
def Binds (K:W.Frag) (fd:FuncData) (ps:List Str) (ds:List Value):Prop:=
 ∀(s:Shared) (us:List Value),K.In s.heap→(us++ds).length=ps.length→BindsTo s fd ⟨us,[]⟩ (ps.zip (us++ds))
theorem Binds.all {K:W.Frag} {fd:FuncData} {ps:List Str} (h:∀us:List Value,us.length=ps.length→bindArgs fd ⟨us,[]⟩=pure (ps.zip us)):Binds K fd ps []:=fun s us _ hl=>by
 rw[List.append_nil] at hl ⊢
 exact .of_eq (h us hl)
def Passes (CX:CXT) (X:Cx) (E:XK):Prop:=∀(pins:List (Addr × Obj)) (σ:St) (H:Hp) (s:Shared) (e:Value) (s':Shared),Inv X pins σ H s→CX X.stack H s E e s'→X.xe e s'
section
variable {X:Cx} {CX:CXT} {k:Nat} {f C:Addr} {fd:FuncData} {ps:List Str} {sp:Sp} {dvs:List V} {ds:List Value} {E:XK} {x m:Str} {p pos apos:Pos} {e o:Expr} {es:List Expr} {ta:TE} {t:TA}
theorem uu {pins:List (Addr × Obj)} {σ:St} {H:Hp} {s:Shared} {Q:VK} {us:List Value} {vs:List V} (F:FnOk X.prog X.w X.K X.mg X.base CX k f fd ps sp) (hr:Room k X.A) (hb:Binds X.K fd ps ds) (hd:Vals dvs ds) (hx:Passes CX X E)
  (I:Inv X pins σ H s) (r:Vals vs us) (h:sp (vs++dvs) H Q E):wpAny (model X.prog X.w) X.A (call (.ref f) us) (EP X pins σ Q) X.xe s:=by
 have r2:Vals (vs++dvs) (us++ds):=r.append hd
 have hl:(us++ds).length=ps.length:=by rw[←r2.length];exact F.len _ _ _ _ h
 refine wpAny_call (codeAny_mono (F.run X.A X.stack s H ⟨us,[]⟩ (us++ds) (vs++dvs) Q E hr I.env0 (hb s us I.kIn hl) r2 h) fun r s' hq=>?_)
 cases r with
 |error e=>exact hx pins σ H s e s' I hq
 |ok fl=>
  cases fl with
  |ret u=>exact I.after hq
  |next=>exact False.elim hq
  |brk=>exact False.elim hq
  |cont=>exact False.elim hq
theorem ar (F:FnOk X.prog X.w X.K X.mg X.base CX k f fd ps sp) (hr:Room k X.A) (hg:Gl X x) (hm:X.mg x=some (.ref f)) (hk:W.keepIn X.K (.ref f)=true) (hb:Binds X.K fd ps ds) (hd:Vals dvs ds) (hx:Passes CX X E)
  (ha:PA X (e::es) t) (hdb:(x==("__debug__" : Str))=false:=by decide) (he:starEach (e::es) X.env=(false,eval e X.env)::starEach es X.env:=by rfl) (hpl:(backTo pos (starEach es X.env)).any (·.1)=false:=by rfl) :
  PE X (.Call (.Name x p) (e::es) [] pos) (vE sp dvs E t):=by
 intro pins s σ H Q I h
 refine wpAny_Call_Name_kw (j8 I hg hm ?_ hdb)
 refine W.callWith_K (h₀:=X.base) I.ok.mod.kin hk (thn (ha pos pins s σ H _ I h) fun us s1 ⟨vs,H1,I1,r,q⟩=>⟨I1.kIn,?_⟩) he hpl
 exact uu F hr hb hd hx I1 r q
structure Mk (K:W.Frag) (C f:Addr):Prop where
 makes:W.makesIn K C=true
 init:W.findIn K (.ref C) "__init__" = some (some (.ref f))
 fn:W.isFn K (.ref f)=true
 kp:W.keepIn K (.ref C)=true
theorem pI {pins:List (Addr × Obj)} {σ:St} {H:Hp} {s:Shared} {Q:VK} {us:List Value} {vs:List V} (M:Mk X.K C f) (F:FnOk X.prog X.w X.K X.mg X.base CX k f fd ps sp) (hr:Room (k+1) X.A) (hb:Binds X.K fd ps ds) (hd:Vals dvs ds)
  (hx:Passes CX X E) (I:Inv X pins σ H s) (r:Vals vs us)
  (h:∀x dx,H x=none→H dx=none→dx≠x→sp (.ref x::(vs++dvs)) (upd (upd H dx (.own x)) x (.ins C dx [])) (fun v H2=>v=.non∧Q (.ref x) H2) E) :
  wpAny (model X.prog X.w) X.A (call (.ref C) us) (EP X pins σ Q) X.xe s:=by
 have hq:=h (s.heap.objs.size+1) s.heap.objs.size (I.hok.fresh (Nat.le_succ _)) (I.hok.fresh (Nat.le_refl _)) (Nat.ne_of_lt (Nat.lt_succ_self _))
 have I2:=Inv.made (C:=C) I
 have r2:Vals (V.ref (s.heap.objs.size+1)::(vs++dvs)) (Value.ref (s.heap.objs.size+1)::(us++ds)):=.cons rfl (r.append hd)
 have hl:(Value.ref (s.heap.objs.size+1)::us++ds).length=ps.length:=by
  have e:=r2.length
  rw[F.len _ _ _ _ hq] at e
  exact e.symm
 refine wpAny_call (qt (f:=f) I.kIn M.makes M.init (beq_iff_eq.mp M.fn) (codeAny_mono (F.run _ X.stack _ _ ⟨Value.ref (s.heap.objs.size+1)::us,[]⟩ (Value.ref (s.heap.objs.size+1)::(us++ds)) _ _ E (hr.make C us [])
  (I2.env0.make C us []) (hb _ (Value.ref (s.heap.objs.size+1)::us) I2.kIn hl) r2 hq) fun r s' hq'=>?_))
 cases r with
 |error e=>exact hx pins σ _ _ e s' I2 hq'
 |ok fl=>
  cases fl with
  |ret u=>
   obtain⟨v,H',I3,rv,ev,q3⟩:=I2.after hq'
   subst ev
   exact⟨rv,⟨V.ref (s.heap.objs.size+1),H',I3,rfl,q3⟩⟩
  |next=>exact False.elim hq'
  |brk=>exact False.elim hq'
  |cont=>exact False.elim hq'
theorem j5 (M:Mk X.K C f) (F:FnOk X.prog X.w X.K X.mg X.base CX k f fd ps sp) (hr:Room (k+1) X.A) (hg:Gl X x) (hm:X.mg x=some (.ref C)) (hb:Binds X.K fd ps ds) (hd:Vals dvs ds) (hx:Passes CX X E)
  (ha:PA X (e::es) t) (hdb:(x==("__debug__" : Str))=false:=by decide) (he:starEach (e::es) X.env=(false,eval e X.env)::starEach es X.env:=by rfl) (hpl:(backTo pos (starEach es X.env)).any (·.1)=false:=by rfl) :
  PE X (.Call (.Name x p) (e::es) [] pos) (vB C sp dvs E t):=by
 intro pins s σ H Q I h
 refine wpAny_Call_Name_kw (j8 I hg hm ?_ hdb)
 refine W.callWith_K (h₀:=X.base) I.ok.mod.kin M.kp (thn (ha pos pins s σ H _ I h) fun us s1 ⟨vs,H1,I1,r,q⟩=>⟨I1.kIn,?_⟩) he hpl
 exact pI M F hr hb hd hx I1 r q
end
section
variable {X:Cx} {CX:CXT} {k:Nat} {f C:Addr} {fd:FuncData} {ps ks:List Str} {sp:Sp} {E:XK} {x m:Str} {p pos apos kpos:Pos} {e o:Expr} {es:List Expr} {kws:List Keyword} {te ta:TE} {t tk:TA} {nm:Option Str}
variable {g:List Value→List Value→List Value} {gV:List V→List V→List V}
end
structure aC (N P:List Str) (sc:Scope):Prop where
 kind:sc.kind=.function
 co:sc.isCoroutine=false
 gen:sc.isGenerator=false
 nd:N.Nodup
 pre:N.take P.length=P
 par:∀x∈P,sc.names.lookup x=some .local∨sc.names.lookup x=some .cell
 nofree:∀y∈sc.names,y.2≠.free
theorem jt {kindOf:Str→Option NameKind} {x:Str}:∀{binds:List (Str × Value)} {m:Str→Option Value},(∀v,(x,v)∉binds)→bindL kindOf binds m x=m x
 | [],_,_=>rfl
 |(n,v)::r,m,h=>by
  unfold bindL
  rw[jt fun w hw=>h w (List.mem_cons_of_mem _ hw)]
  split
  ·have:x≠n:=by rintro rfl;exact h v List.mem_cons_self
   simp[this]
  ·rfl
theorem jv {kindOf:Str→Option NameKind} {x:Str}:∀{binds:List (Str × Value)} {m:Str→Option Value},(∀v,(x,v)∉binds)→bindC kindOf binds m x=m x
 | [],_,_=>rfl
 |(n,v)::r,m,h=>by
  unfold bindC
  rw[jv fun w hw=>h w (List.mem_cons_of_mem _ hw)]
  split
  ·rfl
  ·have:x≠n:=by rintro rfl;exact h v List.mem_cons_self
   simp[this]
theorem ju {kindOf:Str→Option NameKind} {x:Str} {v:Value}:∀{P:List Str} {vs:List Value} {i:Nat} {m:Str→Option Value},P.Nodup→P[i]? = some x→vs[i]? = some v→kindOf x=some .local →
  bindL kindOf (P.zip vs) m x=some v
 | [],_,_,_,_,h,_,_=>by simp at h
 |_::_,[],_,_,_,_,h,_=>by simp at h
 |p::P,w::vs,0,m,nd,h1,h2,hk=>by
  simp at h1 h2;subst h1;subst h2
  show bindL kindOf ((p,w)::P.zip vs) m p=_
  unfold bindL
  rw[jt fun v hv=>(List.nodup_cons.mp nd).1 (List.of_mem_zip hv).1,if_pos hk]
  simp
 |p::P,w::vs,i+1,m,nd,h1,h2,hk=>by
  show bindL kindOf ((p,w)::P.zip vs) m x=_
  unfold bindL
  exact ju (i:=i) (List.nodup_cons.mp nd).2 (by simpa using h1) (by simpa using h2) hk
theorem jw {kindOf:Str→Option NameKind} {x:Str} {v:Value}:∀{P:List Str} {vs:List Value} {i:Nat} {m:Str→Option Value},P.Nodup→P[i]? = some x→vs[i]? = some v→kindOf x≠some .local →
  bindC kindOf (P.zip vs) m x=some v
 | [],_,_,_,_,h,_,_=>by simp at h
 |_::_,[],_,_,_,_,h,_=>by simp at h
 |p::P,w::vs,0,m,nd,h1,h2,hk=>by
  simp at h1 h2;subst h1;subst h2
  show bindC kindOf ((p,w)::P.zip vs) m p=_
  unfold bindC
  rw[jv fun v hv=>(List.nodup_cons.mp nd).1 (List.of_mem_zip hv).1,if_neg hk]
  simp
 |p::P,w::vs,i+1,m,nd,h1,h2,hk=>by
  show bindC kindOf ((p,w)::P.zip vs) m x=_
  unfold bindC
  exact jw (i:=i) (List.nodup_cons.mp nd).2 (by simpa using h1) (by simpa using h2) hk
def start (N:List Str) (vs:List V):St:=vs.map some++List.replicate (N.length - vs.length) none
def cxOf (CX:CXT) (P:Program) (w:World) (K:W.Frag) (mg:Str→Option Value) (base:Heap) (N:List Str) (qual:Str) (scope:Scope) (f:Addr) (cd:Value) (A:Around) (outer:List Env) (s:Shared) (H:Hp) (E:XK):Cx where
 prog:=P
 w:=w
 K:=K
 mg:=mg
 base:=base
 A:=A.deeper (envOfC qual scope s.heap.objs.size f cd)
 N:=N
 s₀:=s
 H₀:=H
 env:=envOfC qual scope s.heap.objs.size f cd
 outer:=outer
 stack:=envOfC qual scope s.heap.objs.size f cd::outer
 ex:=[]
 calm:=true
 fn:=fun _=>true
 pn:=[]
 xe:=fun e s'=>wpAny (model P w) (A.deeper (envOfC qual scope s.heap.objs.size f cd)) (leaving (envOfC qual scope s.heap.objs.size f cd) e) (fun _ s''=>CX outer H s E e s'') (fun e' s''=>CX outer H s E e' s'') s'
theorem lJ {sc:Scope} {n:Nat} {x:Str} (h:sc.names.lookup x=some .cell):∃c,(cellsFrom n sc.names []).lookup x=some c:=by
 have q:=W.cellsFrom_some sc.names n [] (.inl h)
 exact Option.isSome_iff_exists.mp q
theorem oW {CX:CXT} {P:Program} {w:World} {K:W.Frag} {mg:Str→Option Value} {base:Heap} {N ps:List Str} {qual:Str} {scope:Scope} {f:Addr} {cd:Value} {A:Around} {outer:List Env} {s s1:Shared} {H:Hp} {E:XK} {us:List Value} {vs:List V}
  (S:aC N ps scope) (hd:A.handled=none) (e0:Env0 P w K mg base A outer s H) (hl:vs.length=ps.length) (r:Vals vs us)
  (x:InCallC s s.heap.objs.size (bindL (envOfC qual scope s.heap.objs.size f cd).kindOf (ps.zip us) fun _=>none) (cellsFrom (s.heap.objs.size+1) scope.names []) (bindC (envOfC qual scope s.heap.objs.size f cd).kindOf (ps.zip us) fun _=>none) s1) :
  Inv (cxOf CX P w K mg base N qual scope f cd A outer s H E) [] (start N vs) H s1:=by
 have hpl:ps.length≤N.length:=by have:=congrArg List.length S.pre;rw[List.length_take] at this;omega
 obtain⟨h1,tk,rfl,hk⟩:=x.done
 have noA:∀b:Addr,b∉(cxOf CX P w K mg base N qual scope f cd A outer s H E).ex:=fun b z=>absurd (show b∈([]:List Addr) from z) (by simp)
 refine⟨⟨e0.mod,S.kind,rfl,rfl,Nat.le_refl _,fun y z c h1 h2=>?_,fun y hy=>?_,fun y c _ h=>?_,fun _=>hd,Around.frames_deeper e0.frames,.inr ⟨rfl,rfl⟩,fun b z=>absurd z (noA b),e0.bs,e0.bsz,fun b _ _=>noA b,fun b z=>absurd z (noA b),e0.funs,e0.frf⟩,
  rfl,e0.bare,Un.kept hk,⟨_,x.toInCall.ns,fun i y v h1 h2 h3=>?_⟩,fun y c h=>⟨_,x.cell y c h⟩,e0.hok.fresh (Nat.le_refl _),fun y c h=>?_,fun p hp=>absurd (show p∈([]:List (Addr × Obj)) from hp) (by simp),e0.hok.kept hk,?_⟩
 ·exact name_of_addr x.apart (PySem.mem_of_lookup h1) (PySem.mem_of_lookup h2)
 ·have hy:scope.names.lookup y=some .cell∨scope.names.lookup y=some .free:=hy
  rcases hy with hy|hy
  ·exact lJ hy
  ·exact absurd rfl (S.nofree _ (PySem.mem_of_lookup hy))
 ·exact Nat.le_of_lt (x.above y c (PySem.mem_of_lookup h))
 ·have hi:i < vs.length:=by
   unfold start at h2
   by_cases hi:i < vs.length
   ·exact hi
   ·rw[List.getElem?_append_right (by simpa using hi)] at h2
    rw[List.getElem?_replicate] at h2
    split at h2 <;> cases h2
  have ha:vs[i]? = some v:=by
   unfold start at h2
   rw[List.getElem?_append_left (by simpa using hi),List.getElem?_map] at h2
   cases e:vs[i]? with
   |none=>rw[e] at h2;cases h2
   |some a=>rw[e] at h2;cases h2;rfl
  obtain⟨u,hu,rv⟩:=r.get ha
  have hp:ps[i]? = some y:=by
   rw[←S.pre,List.getElem?_take_of_lt (by omega)];exact h1
  have ndP:ps.Nodup:=by rw[←S.pre];exact S.nd.sublist (List.take_sublist _ _)
  refine⟨u,rv,?_⟩
  rcases S.par y (List.mem_of_getElem? hp) with k|k
  ·exact .inl ⟨k,ju ndP hp hu k⟩
  ·obtain⟨c,e⟩:=lJ (n:=s.heap.objs.size+1) k
   refine .inr ⟨.inl k,c,e,?_⟩
   have q:=x.cell y c e
   rw[jw ndP hp hu (by show scope.names.lookup y≠_;rw[k];decide)] at q
   exact q
 ·exact e0.hok.fresh (Nat.le_of_lt (x.above y c (PySem.mem_of_lookup h)))
 ·unfold start
  show _=N.length
  rw[List.length_append,List.length_map,List.length_replicate]
  omega
theorem vU {CX:CXT} {P:Program} {w:World} {K:W.Frag} {mg:Str→Option Value} {base:Heap} {k:Nat} {f:Addr} {name qual:Str} {params:Arguments} {body:List Stmt} {scope:Scope} {dV kV doc pm cdv ct oc:Value} {an od:Option Addr}
  {osl:Array (Option Value)} {N ps:List Str} {sp:Sp} (lk:K.lookup f=some ⟨oc,od,.func (W.fnOf name qual params body scope dV kV doc pm an cdv ct),osl⟩) (hcd:W.codeIn K cdv qual=true) (S:aC N ps scope)
  (len:∀vs H Q E,sp vs H Q E→vs.length=ps.length)
  (hbody:∀(A:Around) (outer:List Env) (s:Shared) (H:Hp) (vs:List V) (Q:VK) (E:XK),Room k (A.deeper (envOfC qual scope s.heap.objs.size f cdv))→sp vs H Q E →
   ∃t,PSs (cxOf CX P w K mg base N qual scope f cdv A outer s H E) body t∧t {nx:=fun _ H'=>Q .non H',rt:=Q} (start N vs) H) :
  FnOk P w K mg base CX (k+1) f (W.fnOf name qual params body scope dV kV doc pm an cdv ct) ps sp:=by
 refine⟨len,fun A outer s H args us vs Q E hr e0 hb r hsp=>?_⟩
 have hl:=len _ _ _ _ hsp
 have KX:K.In s.heap:=e0.mod.kin.keeps fun b o e=>(e0.bs b o e).1
 have lim:s.heap.NoLimit:=e0.mod.nolimit.keeps fun b o e=>(e0.bs b o e).1
 have hkind:∀y∈ps.zip us,scope.names.lookup y.1=some .local∨(scope.names.lookup y.1=some .cell∧((cellsFrom (s.heap.objs.size+1) scope.names []).lookup y.1).isSome=true):=fun⟨n,v⟩ hy=>by
  rcases S.par n (List.of_mem_zip hy).1 with q|q
  ·exact .inl q
  ·exact .inr ⟨q,W.cellsFrom_some _ _ _ (.inl q)⟩
 refine codeAny_call_function hr.depth (KX _ _ lk) rfl S.co S.gen rfl (W.codeRec_of KX hcd) (hb _ _ _ _ ?_)
 refine wpAny_newFunctionEnv_cells S.kind hkind fun env he s1 x=>?_
 subst he
 refine⟨lim.keeps x.toInCall.keep,codeAny_func ?_⟩
 obtain⟨t,ht,hq⟩:=hbody A outer s H vs Q E (hr.deeper _) hsp
 have I:Inv (cxOf CX P w K mg base N qual scope f cdv A outer s H E) [] (start N vs) H s1:=oW S hr.hd e0 hl r x
 refine wpAny_mono (ht [] s1 (start N vs) H _ I hq) (fun fl s' hs=>?_) fun e s' hs=>hs
 have fin:∀{σ':St} {H':Hp} {v:V} {u:Value},Inv (cxOf CX P w K mg base N qual scope f cdv A outer s H E) [] σ' H' s'→RelV v u→Q v H'→CE outer P w H s Q u s':=
  fun {σ' H' v u} J rv q=>⟨v,H',J.os,J.bare,J.base,J.hok,rv,q⟩
 cases fl with
 |ret u=>
  obtain⟨v,σ',H',J,rv,q⟩:=hs
  exact fin J rv q
 |next=>
  obtain⟨σ',H',J,q⟩:=hs
  exact fin (v:=V.non) (u:=Value.none) J rfl q
 |brk=>
  obtain⟨_,_,_,q⟩:=hs
  exact False.elim q
 |cont=>
  obtain⟨_,_,_,q⟩:=hs
  exact False.elim q
end L2
namespace L2
open PySem PySem.Spec PyProof.Rows
section
variable {X:Cx} {x:Str} {p pos:Pos} {e:Expr} {es:List Expr} {t:TA} {id T:String} {r:List V→Hp→VK→Prop}
def tCB (r:List V→Hp→VK→Prop) (t:TA):TE:=fun σ H Q=>t σ H fun vs H1=>r vs H1 Q
theorem aB (hc:bM X (.builtin id) r) (hg:Gl X x) (hm:X.mg x=none) (hv:bootBuiltins x=some (.builtin id)) (ha:PA X (e::es) t) (hn:x≠"__name__":=by decide) (hdb:(x==("__debug__" : Str))=false:=by decide)
  (he:starEach (e::es) X.env=(false,eval e X.env)::starEach es X.env:=by rfl) (hpl:(backTo pos (starEach es X.env)).any (·.1)=false:=by rfl):PE X (.Call (.Name x p) (e::es) [] pos) (tCB r t):=by
 intro pins s σ H Q I h
 refine wpAny_Call_Name_kw (iC I hg hm hv ?_ hn hdb)
 exact PyProof.Rows.callWith_builtin1 (thn (ha pos pins s σ H _ I h) fun us s1 ⟨vs,H1,I1,r1,q1⟩=>hc pins s1 σ H1 vs us Q I1 r1 q1) he hpl
theorem aO (hc:bM X (.type T) r) (hg:Gl X x) (hm:X.mg x=none) (hv:bootBuiltins x=some (.type T)) (ha:PA X (e::es) t) (hn:x≠"__name__":=by decide) (hdb:(x==("__debug__" : Str))=false:=by decide)
  (he:starEach (e::es) X.env=(false,eval e X.env)::starEach es X.env:=by rfl) (hpl:(backTo pos (starEach es X.env)).any (·.1)=false:=by rfl):PE X (.Call (.Name x p) (e::es) [] pos) (tCB r t):=by
 intro pins s σ H Q I h
 refine wpAny_Call_Name_kw (iC I hg hm hv ?_ hn hdb)
 exact PyProof.Rows.callWith_type1 (thn (ha pos pins s σ H _ I h) fun us s1 ⟨vs,H1,I1,r1,q1⟩=>hc pins s1 σ H1 vs us Q I1 r1 q1) he hpl
end
end L2
namespace HT
open PySem PyProof.Rows
def lexLt:List Int→List Int→Bool
 | [],[]=>false
 | [],_::_=>true
 |_::_,[]=>false
 |x::xs,y::ys=>if x=y then lexLt xs ys else decide (x < y)
theorem lexLt_cons (x y:Int) (xs ys:List Int):lexLt (x::xs) (y::ys)=if x=y then lexLt xs ys else decide (x < y):=rfl
theorem iZ:lexLt [] []=false:=rfl
theorem iA (y:Int) (ys:List Int):lexLt [] (y::ys)=true:=rfl
theorem iB (x:Int) (xs:List Int):lexLt (x::xs) []=false:=rfl
theorem qN (A:Around) (s:Shared) (a:Int) (t:Tok) (c:Int) (u:Tok):∃e,SeqAt.EqAt A s (.int a t) (.int c u) e∧(e=true↔a=c):=
 ⟨(a==c),SeqAt.EqAt.int_int a t c u,by simp⟩
theorem pL (A:Around) (s:Shared) (a:Int) (t:Tok) (c:Int) (u:Tok) (prog:Program) (w:World) (E:Value→Shared→Prop) (Q:Value→Shared→Prop) (h:Q (.bool (decide (a < c))) s) :
  wpAny (model prog w) A (richCompare .Lt (.int a t) (.int c u)) Q E s:=
 (PyProof.Rows.lt_int h:wpAny (model prog w) A (compareOp .Lt (.int a t) (.int c u)) Q E s)
section
open PySem.SeqAt
open PySem.AutoSeq1 (wpAny_loadPart')
open PySem.MeetsSeq PySem.MeetsSeq2 PySem.MeetsSeq3
theorem iW (l b:Addr) (items items2:Array Value) (n n2:Nat) (dd dd2:Option Addr) (sl sl2:Array (Option Value)) (ns ms:List Int) (hi:IntsAre items.toList ns) (hj:IntsAre items2.toList ms) :
  Meets (Builtin.«tuple.__lt__» ⟨[.ref l,.ref b],[]⟩)
   (fun _ R s=>s.heap.get? l=some {cls:=.type "tuple",dict:=dd,data:=.seq items n,slots:=sl}∧s.heap.get? b=some {cls:=.type "tuple",dict:=dd2,data:=.seq items2 n2,slots:=sl2} ∧
    R (.ok (.ret (.bool (lexLt ns ms)))) s):=
 .of_wp fun prog w A R s h=>by
  obtain⟨hp,g,d,tk,os⟩:=s;obtain⟨hl,hb,h⟩:=h
  have f2:=AutoSeq1.sub_tuple_tuple
  have z1:items.size=ns.length:=by rw[←hi.length];simp
  have z2:items2.size=ms.length:=by rw[←hj.length];simp
  wp_walk using wpAny_loadPart' hl,wpAny_loadPart' hb,wpAny_forIn_list _ (fun rest b s'=>b.1=none∧s' = ⟨hp,g,d,tk,os⟩∧∃(vs ws:List Value) (ns' ms':List Int),rest=vs.zip ws ∧
   IntsAre vs ns'∧IntsAre ws ms'∧ns'.length+items2.size=ms'.length+items.size∧R (.ok (.ret (.bool (lexLt ns' ms')))) ⟨hp,g,d,tk,os⟩) _
  case turn=>
   rintro⟨y,x⟩ rest b s' ⟨hb',rfl,vs,ws,ns',ms',hz,hvi,hwi,hlen,hR⟩
   cases hvi with
   |nil=>rw[List.zip_nil_left] at hz;cases hz
   |cons a t hvi'=>
    cases hwi with
    |nil=>rw[List.zip_nil_right] at hz;cases hz
    |cons c u hwi'=>
     rw[List.zip_cons_cons] at hz
     injection hz with hyx hrest
     injection hyx with hy hx
     subst hy hx
     rw[lexLt_cons] at hR
     simp only[List.length_cons] at hlen
     obtain⟨e,he,hiff⟩:=qN A.in1 ⟨hp,g,d,tk,os⟩ a t c u
     refine wpAny_bind (he prog w _ _ ?_)
     cases e with
     |true=>
      rw[if_pos (hiff.mp rfl)] at hR
      wp_walk
      exact⟨rfl,rfl,_,_,_,_,hrest,hvi',hwi',by omega,hR⟩
     |false=>
      rw[if_neg (fun q=>absurd (hiff.mpr q) Bool.false_ne_true)] at hR
      have hri:=pL A.in1 ⟨hp,g,d,tk,os⟩ a t c u prog w
      wp_walk using hri
      exact⟨_,rfl,by simpa using hR⟩
  case fin=>
   rintro⟨b1,b2⟩ s' ⟨hb',rfl,vs,ws,ns',ms',hz,hvi,hwi,hlen,hR⟩
   simp only at hb'
   subst hb'
   have hv:lexLt ns' ms' = decide (items.size < items2.size):=by
    cases hvi with
    |nil=>
     cases hwi with
     |nil=>
      simp only[List.length_nil] at hlen
      rw[iZ]
      exact (decide_eq_false (by omega)).symm
     |cons c u hw=>
      simp only[List.length_nil,List.length_cons] at hlen
      rw[iA]
      exact (decide_eq_true (by omega)).symm
    |cons a t hv=>
     cases hwi with
     |nil=>
      simp only[List.length_nil,List.length_cons] at hlen
      rw[iB]
      exact (decide_eq_false (by omega)).symm
     |cons c u hw=>
      rw[List.zip_cons_cons] at hz
      cases hz
   rw[hv] at hR
   wp_walk
   exact⟨_,rfl,by simpa [Builtin.Tuple.tupleCompareSizes] using hR⟩
  case h=>
   exact⟨rfl,rfl,items.toList,items2.toList,ns,ms,rfl,hi,hj,by omega,h⟩
end
section
variable {prog:Program} {w:World} {A:Around} {E:Value→Shared→Prop} {s:Shared}
theorem lt_tupInts {l b:Addr} {items items2:Array Value} {ns ms:List Int} {Q:Value→Shared→Prop} (hl:IsTup s.heap l items) (hb:IsTup s.heap b items2) (hi:IntsAre items.toList ns) (hj:IntsAre items2.toList ms)
  (hu:A.units < cLine) (h:Q (.bool (lexLt ns ms)) s):wpAny (model prog w) A (compareOp .Lt (.ref l) (.ref b)) Q E s:=by
 obtain⟨⟨cls,dd,data,sl⟩,ho,hc,n,hd⟩:=id hl
 obtain⟨⟨cls2,dd2,data2,sl2⟩,ho2,hc2,n2,hd2⟩:=id hb
 simp only at hc hd hc2 hd2
 subst hc hd hc2 hd2
 exact richCompare_meets_room (op:=.Lt) ⟨_,ho,rfl⟩ ⟨_,ho2,rfl⟩ PySem.F.slot_tuple_lt PySem.F.entry_tuple_lt (PySem.F.args_tuple_lt_2 _ _) (iW l b items items2 n n2 dd dd2 sl sl2 ns ms hi hj)
  ⟨ho,ho2,show Value.bool (lexLt ns ms)≠Value.notImplemented∧Q (.bool (lexLt ns ms)) s from ⟨(fun x=>nomatch x),h⟩⟩ hu
def sIx (n d:Nat):Option Int→Nat
 |none=>d
 |some v=>if v < 0 then (v+(n:Int)).toNat else min v.toNat n
theorem sIx_none (n d:Nat):sIx n d none=d:=rfl
theorem sIx_nat (n d k:Nat):sIx n d (some (k:Int))=min k n:=by
 show (if (k:Int) < 0 then ((k:Int)+(n:Int)).toNat else min (k:Int).toNat n)=min k n
 rw[if_neg (by omega),Int.toNat_natCast]
end
end HT
namespace L2
open PySem PySem.Spec PyProof.Rows
abbrev TO:=St→Hp→(Option Int→Hp→Prop)→Prop
def PO (X:Cx) (e:Option Expr) (t:TO):Prop:=
 ∀(pins:List (Addr × Obj)) (s:Shared) (σ:St) (H:Hp) (Q:Option Int→Hp→Prop),Inv X pins σ H s→t σ H Q →
  wpAny (model X.prog X.w) X.A (evalPart e X.env) (fun u s'=>∃o H',Inv X pins σ H' s'∧IsPart u o∧Q o H') X.xe s
def rM:TO:=fun _ H Q=>Q none H
def vy (t:TE):TO:=fun σ H Q=>t σ H fun x H1=>∃i,x=.int i∧Q (some i) H1
theorem dh {ns:List Int}:∀{us:List Value},Vals (ns.map V.int) us→IntsAre us ns:=by
 induction ns with
 |nil=>intro us r;rw[List.map_nil] at r;cases r;exact .nil
 |cons n ns ih=>
  intro us r
  rw[List.map_cons] at r
  cases r with
  |cons r1 r2=>
   obtain⟨t,e⟩:=r1
   subst e
   exact .cons n t (ih r2)
section
variable {X:Cx} {e:Expr} {te:TE} {lo hi:Option Expr} {tl th:TO} {pos p2:Pos}
theorem nL:PO X none rM:=by
 intro pins s σ H Q I h
 rw[evalPart_none]
 exact wpAny_pure ⟨none,H,I,.none,h⟩
theorem nK (h:PE X e te):PO X (some e) (vy te):=by
 intro pins s σ H Q I hw
 rw[evalPart_some]
 refine thn (h pins s σ H _ I hw) fun u s1 ⟨x,H1,I1,r1,q1⟩=>?_
 obtain⟨i,rfl,q⟩:=q1
 obtain⟨t,rfl⟩:=r1
 exact⟨some i,H1,I1,.int i t,q⟩
def SlR (X:Cx) (r:V→Option Int→Option Int→Hp→VK→Prop):Prop:=
 ∀(pins:List (Addr × Obj)) (s:Shared) (σ:St) (H:Hp) (x:V) (v vl vu:Value) (lo hi:Option Int) (sl:Addr) (Q:VK),Inv X pins σ H s→RelV x v→s.heap.IsSliceOf sl vl vu .none→IsPart vl lo→IsPart vu hi→r x lo hi H Q →
  ∃T id,typeLookup (.type T) "__getitem__" = pure (some (.builtin id))∧s.TypeIs v T∧wpAny (model X.prog X.w) X.A (getItem v (.ref sl)) (EP X pins σ Q) X.xe s
def tSl (r:V→Option Int→Option Int→Hp→VK→Prop) (te:TE) (tl th:TO):TE:=fun σ H Q=>te σ H fun x H1=>tl σ H1 fun l H2=>th σ H2 fun u H3=>r x l u H3 Q
theorem kO {r:V→Option Int→Option Int→Hp→VK→Prop} (hr:SlR X r) (he:PE X e te) (hl:PO X lo tl) (hu:PO X hi th):PE X (.Subscript e (.Slice lo hi none p2) pos) (tSl r te tl th):=by
 intro pins s σ H Q I h
 refine Subscript_ (thn (he pins s σ H _ I h) fun v s1 ⟨x,H1,I1,r1,q1⟩=>?_)
 refine wpAny_Slice (thn (hl pins s1 σ H1 _ I1 q1) fun vl s2 ⟨l,H2,I2,pl,q2⟩=>thn (hu pins s2 σ H2 _ I2 q2) fun vu s3 ⟨u,H3,I3,pu,q3⟩=>?_)
 rw[evalPart_none]
 refine wpAny_pure ?_
 have I4:Inv X pins σ H3 {s3 with heap:=s3.heap.push {cls:=.type "slice",data:=.fields #[vl,vu,.none]}}:=I3.kept (t':=s3.toks) fun b ob q=>Heap.get?_push_of_some _ q
 obtain⟨T,id,hT,ht,hg⟩:=hr pins {s3 with heap:=s3.heap.push {cls:=.type "slice",data:=.fields #[vl,vu,.none]}} σ H3 x v vl vu l u s3.heap.objs.size Q I4 r1 (Heap.IsSliceOf.new ..) pl pu q3
 show wpAny (model X.prog X.w) X.A (subscriptTail e (.Slice lo hi none p2) v (.ref s3.heap.objs.size)) (EP X pins σ Q) X.xe {s3 with heap:=s3.heap.push {cls:=.type "slice",data:=.fields #[vl,vu,.none]}}
 exact tail_any (ops:=[.ref s3.heap.objs.size,v]) ht hT hg (by with_unfolding_all rfl)
def cutV (xs:List V) (lo hi:Option Int):List V:=(xs.drop (HT.sIx xs.length 0 lo)).take (HT.sIx xs.length xs.length hi - HT.sIx xs.length 0 lo)
theorem lG (xs:List V) (lo hi:Option Int):(cutV xs lo hi).length≤xs.length:=by
 unfold cutV
 rw[List.length_take,List.length_drop]
 omega
end
end L2
namespace L2
open PySem PySem.Spec PyProof.Rows
def ixN (n:Nat) (i:Int):Option Nat:=if 0≤i then (if i < n then some i.toNat else none) else if -(n:Int)≤i then some (i+n).toNat else none
def atI {α:Type} (xs:List α) (i:Int):Option α:=(ixN xs.length i).bind fun j=>xs[j]?
theorem j_ {n:Nat} {i:Int} {j:Nat} (h:ixN n i=some j):seqIndex? i n=some j∧j < n∧-(n:Int)≤i∧i < n:=by
 unfold ixN at h
 by_cases h0:0≤i
 ·rw[if_pos h0] at h
  by_cases h1:i < n
  ·rw[if_pos h1] at h
   have e:i.toNat=j:=Option.some.inj h
   exact⟨by rw[seqIndex_of h0 h1,e],by omega,by omega,h1⟩
  ·rw[if_neg h1] at h;cases h
 ·rw[if_neg h0] at h
  by_cases h1:-(n:Int)≤i
  ·rw[if_pos h1] at h
   have e:(i+n).toNat=j:=Option.some.inj h
   exact⟨by rw[seqIndex_neg (by omega) h1,e],by omega,h1,by omega⟩
  ·rw[if_neg h1] at h;cases h
theorem og {α:Type} {xs:List α} {i:Int} {v:α} (h:atI xs i=some v):∃j,seqIndex? i xs.length=some j∧xs[j]? = some v∧j < xs.length∧-(xs.length:Int)≤i∧i < xs.length:=by
 unfold atI at h
 cases e:ixN xs.length i with
 |none=>rw[e] at h;cases h
 |some j=>
  rw[e] at h
  obtain⟨h1,h2,h3,h4⟩:=j_ e
  exact⟨j,h1,h,h2,h3,h4⟩
theorem bp {α:Type} {xs:List α} {j:Nat} {v:α} (h:xs[j]? = some v):atI xs (j:Int)=some v:=by
 have hj:j < xs.length:=(List.getElem?_eq_some_iff.mp h).1
 have e:ixN xs.length (j:Int)=some j:=by
  unfold ixN
  rw[if_pos (by omega),if_pos (by omega)];simp
 unfold atI;rw[e];exact h
def tS (b:Expr):Prop:=∀o i,subscripted b false o i=operate [o,i] (getItem o i)
def IxR (X:Cx) (r:R2):Prop:=
 ∀(value slice:Expr) (pins:List (Addr × Obj)) (s:Shared) (σ:St) (H:Hp) (x y:V) (v u:Value) (Q:VK),Inv X pins σ H s→RelV x v→RelV y u→r x y H Q →
  subscripted slice false v u=operate [v,u] (getItem v u)→wpAny (model X.prog X.w) X.A (subscriptTail value slice v u) (EP X pins σ Q) X.xe s
def MtR (X:Cx) (id:String) (r:V→List V→Hp→VK→Prop):Prop:=
 ∀(pins:List (Addr × Obj)) (s:Shared) (σ:St) (H:Hp) (x:V) (xs:List V) (v:Value) (us:List Value) (Q:VK),Inv X pins σ H s→RelV x v→Vals xs us→r x xs H Q →
  wpAny (model X.prog X.w) X.A (call (.builtin id) (v::us)) (EP X pins σ Q) X.xe s
section
variable {X:Cx} {a b:Expr} {ta tb:TE} {pos:Pos}
theorem bq {r:R2} (hr:IxR X r) (ha:PE X a ta) (hb:PE X b tb) (hs:tS b):PE X (.Subscript a b pos) (tOp r ta tb):=by
 intro pins s σ H Q I h
 exact Subscript_ (binT ha hb I h fun v u s2 x y H2 I2 rx ry q=>hr a b pins s2 σ H2 x y v u Q I2 rx ry q (hs _ _))
def rIxL (K:W.Frag):R2:=fun x y H Q=>∃p xs i v,x=.ref p∧y=.int i∧SqL K H p xs∧atI xs i=some v∧Q v H
def rIxT (K:W.Frag):R2:=fun x y H Q=>∃p xs i v,x=.ref p∧y=.int i∧SqT K H p xs∧atI xs i=some v∧Q v H
theorem aL:IxR X (rIxL X.K):=by
 intro value slice pins s σ H x y v u Q I rx ry h hs
 obtain⟨p,xs,i,z,rfl,rfl,hq,he,q⟩:=h
 cases rx
 obtain⟨t,rfl⟩:=ry
 obtain⟨its,r,pl,hz⟩:=I.list hq
 obtain⟨j,h1,h2,h3,h4,h5⟩:=og he
 obtain⟨w,ew,rw'⟩:=r.get h2
 have hl:=r.length
 have hn:=line63
 have fin:EP X pins σ Q w s:=⟨z,H,I,rw',q⟩
 by_cases h0:0≤i
 ·have hj:i.toNat=j:=by
   rw[seqIndex_of h0 h5] at h1
   exact Option.some.inj h1
  exact item_listR pl.isList h0 (by omega) (by rw[hj];simpa using ew) fin hs
 ·have hj:(i+(its.toArray.size:Int)).toNat=j:=by
   rw[seqIndex_neg (by omega) h4] at h1
   rw[List.size_toArray,←hl]
   exact Option.some.inj h1
  exact subscriptTail_builtinR (x:=w) pl.isList.typeIs slot_list_getitem.lookup
   (wpAny_getItem_list_neg (Q:=fun r s'=>r=w∧EP X pins σ Q r s') pl.isList (by omega) (by rw[List.size_toArray] <;> omega) (by omega) (by rw[hj];simpa using ew) ⟨rfl,fin⟩) hs
theorem uX:IxR X (rIxT X.K):=by
 intro value slice pins s σ H x y v u Q I rx ry h hs
 obtain⟨p,xs,i,z,rfl,rfl,hq,he,q⟩:=h
 cases rx
 obtain⟨t,rfl⟩:=ry
 obtain⟨its,r,pl,hz⟩:=I.tuple hq
 obtain⟨j,h1,h2,h3,h4,h5⟩:=og he
 obtain⟨w,ew,rw'⟩:=r.get h2
 have hl:=r.length
 have hn:=line63
 have fin:EP X pins σ Q w s:=⟨z,H,I,rw',q⟩
 exact subscriptTail_builtinR (x:=w) pl.typeIs slot_tuple_getitem.lookup
  (getItem_tuple (j:=j) (Q:=fun r s'=>r=w∧EP X pins σ Q r s') pl (by omega) (by omega) (by rw[List.size_toArray,←hl];exact h1) (by simpa using ew) ⟨rfl,fin⟩) hs
theorem mO (its:List Value) (n j:Nat) (u:Value):Obj.mapSeq (·.setIfInBounds j u) {cls:=.type "list",data:=.seq its.toArray n}={cls:=.type "list",data:=.seq (its.set j u).toArray n}:=by
 simp[Obj.mapSeq]
theorem Inv.lst {pins:List (Addr × Obj)} {σ:St} {H:Hp} {s:Shared} {p:Addr} {xs:List V} (I:Inv X pins σ H s) (h:H p=some (.lst xs)) :
  ∃(its:List Value) (n:Nat),Vals xs its∧s.heap.get? p=some {cls:=.type "list",data:=.seq its.toArray n}∧xs.length≤sizeLine:=by
 obtain⟨z,its,n,r,e⟩:=I.hok p _ h
 exact⟨its,n,r,e,z⟩
theorem Inv.lstUpd {pins:List (Addr × Obj)} {σ:St} {H:Hp} {s:Shared} {p:Addr} {xs ys:List V} {its its':List Value} {n n':Nat} {f:Obj→Obj} (I:Inv X pins σ H s) (h:H p=some (.lst xs))
  (ho:s.heap.get? p=some {cls:=.type "list",data:=.seq its.toArray n}) (hf:f {cls:=.type "list",data:=.seq its.toArray n}={cls:=.type "list",data:=.seq its'.toArray n'}) (r:Vals ys its') (hz:ys.length≤sizeLine) (t:Nat) :
  Inv X pins σ (upd H p (.lst ys)) {s with heap:=s.heap.update p f,toks:=t}:=by
 have e:(s.heap.update p f).get? p=some {cls:=.type "list",data:=.seq its'.toArray n'}:=by
  rw[Heap.get?_update_self f ho (by rw[hf] <;> rfl),hf]
 refine I.write (x:=p) (e:=p) (by rw[h];trivial) (.inl rfl) (fun b u hb q=>(Heap.get?_update_other _ _ (Ne.symm hb)).trans q) ⟨_,e⟩ ?_
 exact⟨hz,its',n',r,e⟩
def vJ:V→V→V→Hp→(Hp→Prop)→Prop:=fun o i v H Q=>∃p xs k j,o=.ref p∧i=.int k∧H p=some (.lst xs)∧ixN xs.length k=some j∧Q (upd H p (.lst (xs.set j v)))
theorem ii:PSet X vJ:=by
 intro pins s σ H o i v ov iv u Q I ro ri rv h
 obtain⟨p,xs,k,j,rfl,rfl,hp,hj,q⟩:=h
 cases ro
 obtain⟨t,rfl⟩:=ri
 obtain⟨its,n,r,ho,hz⟩:=I.lst hp
 obtain⟨h1,h2,h3,h4⟩:=j_ hj
 have hl:=r.length
 have hn:=line63
 have I':Inv X pins σ (upd H p (.lst (xs.set j v))) {s with heap:=s.heap.update p (Obj.mapSeq (·.setIfInBounds j u))}:=
  I.lstUpd hp ho (mO its n j u) (r.set rv j) (by rw[List.length_set];exact hz) s.toks
 by_cases h0:0≤k
 ·have hk:k.toNat=j:=by
   rw[seqIndex_of h0 h4] at h1
   exact Option.some.inj h1
  exact W.ki_setAt ho h0 (by omega) (by rw[List.size_toArray,←hl];exact h4) (by rw[hk];exact⟨_,I',q⟩)
 ·have hk:(k+(its.toArray.size:Int)).toNat=j:=by
   rw[seqIndex_neg (by omega) h3] at h1
   rw[List.size_toArray,←hl]
   exact Option.some.inj h1
  exact W.ki_setBack ho (by omega) (by rw[List.size_toArray,←hl];exact h3) (by omega) (by rw[hk];exact⟨_,I',q⟩)
theorem jP (lo hi:Option Int) (n:Nat):(sliceBounds lo hi none n).1=((HT.sIx n 0 lo:Nat):Int)∧(sliceBounds lo hi none n).2.1=((HT.sIx n n hi:Nat):Int)∧(sliceBounds lo hi none n).2.2=1:=by
 refine⟨?_,?_,rfl⟩
 ·cases lo with
  |none=>simp[sliceBounds,HT.sIx]
  |some i=>
   simp only[sliceBounds,HT.sIx,Option.getD_none,show (1:Int) > 0 by decide,if_true]
   by_cases h:i < 0
   ·simp only[h,if_true] <;> omega
   ·simp only[h,if_false] <;> omega
 ·cases hi with
  |none=>simp[sliceBounds,HT.sIx]
  |some i=>
   simp only[sliceBounds,HT.sIx,Option.getD_none,show (1:Int) > 0 by decide,if_true]
   by_cases h:i < 0
   ·simp only[h,if_true] <;> omega
   ·simp only[h,if_false] <;> omega
theorem iX (its:List Value) (lo hi:Option Int):slicePick its.toArray lo hi none=((its.drop (HT.sIx its.length 0 lo)).take (HT.sIx its.length its.length hi - HT.sIx its.length 0 lo)).toArray:=by
 obtain⟨h1,h2,h3⟩:=jP lo hi its.toArray.size
 unfold slicePick
 rw[h1,h2,h3]
 simp only[sliceRange_one,pick_run,List.size_toArray] <;> rfl
def rSlL (K:W.Frag):V→Option Int→Option Int→Hp→VK→Prop:=fun x lo hi H Q=>∃a xs,x=.ref a∧SqL K H a xs∧∀p,H p=none→Q (.ref p) (upd H p (.lst (cutV xs lo hi)))
theorem nq:SlR X (rSlL X.K):=by
 intro pins s σ H x v vl vu lo hi sl Q I rx hs pl pu h
 obtain⟨a,xs,rfl,hx,q⟩:=h
 cases rx
 obtain⟨its,r,ht,hz⟩:=I.list hx
 have hlen:=r.length
 refine⟨"list",_,slot_list_getitem.lookup,ht.isList.typeIs,?_⟩
 refine wpAny_getItem_list_slice ht.isList hs pl pu .none (by simp) ?_ (by rw[List.size_toArray] <;> omega)
 rw[iX,←hlen]
 refine⟨.ref s.heap.objs.size,_,I.laid (t':=s.toks) (o:=.lst (cutV xs lo hi)) (fun b ob q=>Heap.get?_push_of_some _ q) (Nat.le_refl _) ?_,rfl,q _ (I.hok.fresh (Nat.le_refl _))⟩
 exact⟨Nat.le_trans (lG xs lo hi) hz,_,0,(r.drop (HT.sIx xs.length 0 lo)).take (HT.sIx xs.length xs.length hi - HT.sIx xs.length 0 lo),Heap.get?_push_size _ rfl⟩
def fU:V→Bool
 | .non=>true
 | .bl _=>true
 | .int _=>true
 | .str _=>true
 |_=>false
def eqV:V→V→Bool
 | .non,.non=>true
 | .bl a,.bl b=>a==b
 | .bl a,.int b=>(if a then 1 else 0)==b
 | .int a,.bl b=>a==(if b then 1 else 0)
 | .int a,.int b=>a==b
 | .str a,.str b=>a==b
 |_,_=>false
theorem u6 {A:Around} {s:Shared} {y x:V} {u v:Value} (ry:RelV y u) (rx:RelV x v) (fy:fU y=true) (fx:fU x=true):SeqAt.EqAt A s u v (eqV y x):=by
 cases y with
 |non=>
  cases ry
  cases x with
  |non=>cases rx;exact SeqAt.EqAt.same _
  |bl b=>cases rx;exact SeqAt.EqAt.none_bool b
  |int b=>obtain⟨t,rfl⟩:=rx;exact SeqAt.EqAt.none_int b t
  |str b=>obtain⟨t,rfl⟩:=rx;exact SeqAt.EqAt.none_str b t
  |_=>exact absurd (show false=true from fx) Bool.false_ne_true
 |bl a=>
  cases ry
  cases x with
  |non=>cases rx;exact SeqAt.EqAt.bool_none a
  |bl b=>cases rx;exact SeqAt.EqAt.bool_bool a b
  |int b=>obtain⟨t,rfl⟩:=rx;exact SeqAt.EqAt.bool_int a b t
  |str b=>obtain⟨t,rfl⟩:=rx;exact SeqAt.EqAt.bool_str a b t
  |_=>exact absurd (show false=true from fx) Bool.false_ne_true
 |int a=>
  obtain⟨t',rfl⟩:=ry
  cases x with
  |non=>cases rx;exact SeqAt.EqAt.int_none a t'
  |bl b=>cases rx;exact SeqAt.EqAt.int_bool a t' b
  |int b=>obtain⟨t,rfl⟩:=rx;exact SeqAt.EqAt.int_int a t' b t
  |str b=>obtain⟨t,rfl⟩:=rx;exact SeqAt.EqAt.int_str a t' b t
  |_=>exact absurd (show false=true from fx) Bool.false_ne_true
 |str a=>
  obtain⟨t',rfl⟩:=ry
  cases x with
  |non=>cases rx;exact SeqAt.EqAt.str_none a t'
  |bl b=>cases rx;exact SeqAt.EqAt.str_bool a t' b
  |int b=>obtain⟨t,rfl⟩:=rx;exact SeqAt.EqAt.str_int a t' b t
  |str b=>obtain⟨t,rfl⟩:=rx;exact SeqAt.EqAt.str_str a t' b t
  |_=>exact absurd (show false=true from fx) Bool.false_ne_true
 |_=>exact absurd (show false=true from fy) Bool.false_ne_true
def eqU (x:V) (u:Value):Bool:=match u with
 | .none=>eqV .non x
 | .bool b=>eqV (.bl b) x
 | .int i _=>eqV (.int i) x
 | .str z _=>eqV (.str z) x
 |_=>false
theorem qM {x y:V} {u:Value} (r:RelV y u) (f:fU y=true):eqU x u=eqV y x:=by
 cases y with
 |non=>cases r;rfl
 |bl b=>cases r;rfl
 |int i=>obtain⟨t,rfl⟩:=r;rfl
 |str z=>obtain⟨t,rfl⟩:=r;rfl
 |_=>exact absurd (show false=true from f) Bool.false_ne_true
theorem fZ {x:V}:∀{xs:List V} {us:List Value},Vals xs us→xs.all fU=true→us.any (eqU x)=xs.any fun y=>eqV y x
 |_,_,.nil,_=>rfl
 |y::xs,u::us,.cons r t,f=>by
  rw[List.all_cons,Bool.and_eq_true] at f
  rw[List.any_cons,List.any_cons,qM r f.1,fZ t f.2]
theorem eM {A:Around} {s:Shared} {x:V} {v:Value} (rx:RelV x v) (fx:fU x=true):∀{xs:List V} {us:List Value},Vals xs us→xs.all fU=true→∀u∈us,SeqAt.EqAt A s u v (eqU x u)
 |_,_,.nil,_=>fun u hu=>by cases hu
 |y::xs,u::us,.cons r t,f=>fun u' hu=>by
  rw[List.all_cons,Bool.and_eq_true] at f
  rcases List.mem_cons.mp hu with rfl|hu
  ·rw[qM r f.1];exact u6 r rx f.1 fx
  ·exact eM rx fx t f.2 u' hu
def inV (x:V) (xs:List V):Bool:=xs.any fun y=>eqV y x
def rIn (K:W.Frag) (neg:Bool):R2:=fun x y H Q=>∃p xs,y=.ref p∧(SqL K H p xs∨SqT K H p xs)∧fU x=true∧xs.all fU=true∧Q (.bl (if neg then !inV x xs else inV x xs)) H
theorem gz:OpR X (compareOp .In) (rIn X.K false):=by
 intro pins s σ H x y v u Q I rx ry h
 obtain⟨p,xs,rfl,hq,fx,fs,q⟩:=h
 cases ry
 rcases hq with hq|hq
 ·obtain⟨its,r,pl,hz⟩:=I.list hq
  refine SeqAt.in_listAt (eqU x) pl.isList (fun w hw=>eM rx fx r fs w (by simpa using hw)) ⟨.bl _,H,I,rfl,?_⟩
  rw[show its.toArray.any (eqU x)=its.any (eqU x) by simp,fZ r fs]
  exact q
 ·obtain⟨its,r,pl,hz⟩:=I.tuple hq
  refine SeqAt.in_tupleAt (eqU x) pl (fun w hw=>eM rx fx r fs w (by simpa using hw)) ⟨.bl _,H,I,rfl,?_⟩
  rw[show its.toArray.any (eqU x)=its.any (eqU x) by simp,fZ r fs]
  exact q
theorem cA:OpR X (compareOp .NotIn) (rIn X.K true):=by
 intro pins s σ H x y v u Q I rx ry h
 obtain⟨p,xs,rfl,hq,fx,fs,q⟩:=h
 cases ry
 rcases hq with hq|hq
 ·obtain⟨its,r,pl,hz⟩:=I.list hq
  refine SeqAt.notIn_listAt (eqU x) pl.isList (fun w hw=>eM rx fx r fs w (by simpa using hw)) ⟨.bl _,H,I,rfl,?_⟩
  rw[show its.toArray.any (eqU x)=its.any (eqU x) by simp,fZ r fs]
  exact q
 ·obtain⟨its,r,pl,hz⟩:=I.tuple hq
  refine SeqAt.notIn_tupleAt (eqU x) pl (fun w hw=>eM rx fx r fs w (by simpa using hw)) ⟨.bl _,H,I,rfl,?_⟩
  rw[show its.toArray.any (eqU x)=its.any (eqU x) by simp,fZ r fs]
  exact q
theorem bc:bM X (.builtin "len") (fun xs H Q=>∃p ys,xs=[.ref p]∧(SqL X.K H p ys∨SqT X.K H p ys)∧Q (.int ys.length) H):=by
 intro pins s σ H xs us Q I r h
 obtain⟨p,ys,rfl,hq,q⟩:=h
 obtain⟨u,rfl,rx⟩:=vals1 r
 cases rx
 have hn:=line63
 rcases hq with hq|hq
 ·obtain⟨its,r',pl,hz⟩:=I.list hq
  have hlen:=r'.length
  exact Calls.call_len_list pl.isList (by simp only[List.size_toArray] <;> omega) ⟨.int ys.length,H,I.tok _,⟨s.toks+1,by rw[List.size_toArray,hlen]⟩,q⟩
 ·obtain⟨its,r',pl,hz⟩:=I.tuple hq
  have hlen:=r'.length
  exact len_tuple pl (by simp only[List.size_toArray] <;> omega) ⟨.int ys.length,H,I.tok _,⟨s.toks+1,by rw[List.size_toArray,hlen]⟩,q⟩
theorem fY:bM X (.type "list") (fun xs H Q=>∃p ys,xs=[.ref p]∧(SqL X.K H p ys∨SqT X.K H p ys)∧∀l,H l=none→Q (.ref l) (upd H l (.lst ys))):=by
 intro pins s σ H xs us Q I r h
 obtain⟨p,ys,rfl,hq,q⟩:=h
 obtain⟨u,rfl,rx⟩:=vals1 r
 cases rx
 have fin:∀(its:List Value),Vals ys its→ys.length≤sizeLine→∀(h':Heap) (c':Nat),(∀b o',s.heap.get? b=some o'→h'.get? b=some o') →
   h'.get? s.heap.objs.size=some {cls:=.type "list",dict:=none,data:=.seq its.toArray c',slots:=#[]}→EP X pins σ Q (.ref s.heap.objs.size) {s with heap:=h'}:=fun its r' hz h' c' kp e=>
  ⟨.ref s.heap.objs.size,_,I.laid (t':=s.toks) kp (Nat.le_refl _) (show aS X.prog X.w _ h' _ (.lst ys) from ⟨hz,its,c',r',e⟩),rfl,q _ (I.hok.fresh (Nat.le_refl _))⟩
 rcases hq with hq|hq
 ·obtain⟨its,r',pl,hz⟩:=I.list hq
  have hlen:=r'.length
  obtain⟨o,ho,hc,n,hd⟩:=pl.isList
  exact call_list_seq p (.inl rfl) ho hc hd (fun h' c' kp e=>fin its r' hz h' c' kp e) (by simp only[List.size_toArray] <;> omega)
 ·obtain⟨its,r',pl,hz⟩:=I.tuple hq
  have hlen:=r'.length
  obtain⟨o,ho,hc,n,hd⟩:=pl
  exact call_list_seq p (.inr rfl) ho hc hd (fun h' c' kp e=>fin its r' hz h' c' kp e) (by simp only[List.size_toArray] <;> omega)
theorem cT:bM X (.type "tuple") (fun xs H Q=>∃p ys,xs=[.ref p]∧((SqL X.K H p ys∧∀l,H l=none→Q (.ref l) (upd H l (.tup ys)))∨(SqT X.K H p ys∧Q (.ref p) H))):=by
 intro pins s σ H xs us Q I r h
 obtain⟨p,ys,rfl,h⟩:=h
 obtain⟨u,rfl,rx⟩:=vals1 r
 cases rx
 rcases h with ⟨hq,q⟩|⟨hq,q⟩
 ·obtain⟨its,r',pl,hz⟩:=I.list hq
  have hlen:=r'.length
  refine call_tuple_list pl.isList (fun h' kp=>?_) (by simp only[List.size_toArray] <;> omega)
  have I1:Inv X pins σ H {s with heap:=h'}:=I.kept (t':=s.toks) kp
  have I2:Inv X pins σ (upd H h'.objs.size (.tup ys)) {s with heap:=h'.push {cls:=.type "tuple",data:=.seq its.toArray}}:=
   I1.laid (t':=s.toks) (fun b o e=>Heap.get?_push_of_some _ e) (Nat.le_refl _) (show aS X.prog X.w _ _ _ (.tup ys) from ⟨⟨hz,_,Heap.get?_push_size _ rfl,rfl⟩,its,r',IsTup.new _ _⟩)
  exact⟨.ref h'.objs.size,_,I2,rfl,q _ (I1.hok.fresh (Nat.le_refl _))⟩
 ·obtain⟨its,r',pl,hz⟩:=I.tuple hq
  exact call_tuple_same pl ⟨.ref p,H,I,rfl,q⟩
def tyV (K:W.Frag) (T:String) (x:V) (H:Hp):Prop:=match x with
 | .str _=>T = "str"
 | .int _=>T = "int"
 | .ref p=>(T = "list"∧∃xs,SqL K H p xs)∨(T = "tuple"∧∃o,K.lookup p=some o∧o.cls=.type "tuple"∧o.dict=none) ∨
   (T = "dict"∧((∃kvs,H p=some (.dK kvs))∨∃kvs,H p=some (.dT kvs)))∨(T = "set"∧∃S n,H p=some (.set S n))
 |_=>False
theorem pA {pins:List (Addr × Obj)} {σ:St} {H:Hp} {s:Shared} {T:String} {x:V} {v:Value} (I:Inv X pins σ H s) (r:RelV x v) (ty:tyV X.K T x H) :
  s.TypeIs v T∧∀a,v=.ref a→∃ob,s.heap.get? a=some ob∧ob.dict=none:=by
 cases x with
 |str z=>
  obtain⟨t,rfl⟩:=r
  cases (show T = "str" from ty)
  exact⟨typeIs_str s z t,fun _ e=>nomatch e⟩
 |int i=>
  obtain⟨t,rfl⟩:=r
  cases (show T = "int" from ty)
  exact⟨typeIs_int s i t,fun _ e=>nomatch e⟩
 |ref p=>
  cases r
  rcases ty with ⟨rfl,xs,hq⟩|⟨rfl,o,hk,hc,hd⟩|⟨rfl,hk⟩|⟨rfl,S,n,hk⟩
  ·obtain⟨its,_,pl,_⟩:=I.list hq
   refine⟨pl.isList.typeIs,fun a e=>?_⟩
   cases e
   obtain⟨o,n,e,c,hd,_⟩:=pl
   exact⟨o,e,hd⟩
  ·refine⟨⟨o,I.kIn p o hk,hc⟩,fun a e=>?_⟩
   cases e
   exact⟨o,I.kIn _ o hk,hd⟩
  ·have z:∃o,s.heap.get? p=some o∧o.ExactDict:=by
    rcases hk with ⟨kvs,hk⟩|⟨kvs,hk⟩
    ·obtain⟨_,_,_,_,o,_,_,e,ex,_⟩:=I.hok p _ hk
     exact⟨o,e,ex⟩
    ·obtain⟨_,_,_,_,o,_,_,e,ex,_⟩:=I.hok p _ hk
     exact⟨o,e,ex⟩
   obtain⟨o,e,ex⟩:=z
   refine⟨⟨o,e,ex.1⟩,fun a e2=>?_⟩
   cases e2
   exact⟨o,e,ex.2.1⟩
  ·obtain⟨o,_,_,_,e,ex,_⟩:=I.hok p _ hk
   refine⟨⟨o,e,ex.1⟩,fun a e2=>?_⟩
   cases e2
   exact⟨o,e,ex.2.1⟩
 |_=>exact False.elim ty
def tBM0 (K:W.Frag) (T:String) (r:V→List V→Hp→VK→Prop) (to:TE):TE:=fun σ H Q=>to σ H fun x H1=>tyV K T x H1∧r x [] H1 Q
def tBM (K:W.Frag) (T:String) (r:V→List V→Hp→VK→Prop) (to:TE) (t:TA):TE:=fun σ H Q=>to σ H fun x H1=>tyV K T x H1∧t σ H1 fun xs H2=>r x xs H2 Q
variable {o e:Expr} {es:List Expr} {to:TE} {t:TA} {name:Str} {apos cpos:Pos} {T id:String} {r:V→List V→Hp→VK→Prop}
theorem uG (pa:PlainAttrs T) (slot:Slot T name id) (hty:typeOf (.builtin id)=pure (.type "method_descriptor")) (hm:MtR X id r) (ho:PE X o to)
  (hbase:attributeBase o name X.env (eval o X.env)=eval o X.env:=by rfl) (hline:(apos.endLine==cpos.line)=true:=by rfl):PE X (.Call (.Attribute o name apos) [] [] cpos) (tBM0 X.K T r to):=by
 intro pins s σ H Q I h
 refine wpAny_Call_method0_late hbase hline (thn (ho pins s σ H _ I h) fun v s1 ⟨x,H1,I1,r1,ty,q1⟩=>?_)
 obtain⟨h1,h2⟩:=pA I1 r1 ty
 exact⟨T,id,pa,slot,hty,h1,h2,Calls.callWith_builtin rfl (PySem.evalArgs_none (hm pins s1 σ H1 x [] v [] Q I1 r1 .nil q1))⟩
theorem bU (pa:PlainAttrs T) (slot:Slot T name id) (hty:typeOf (.builtin id)=pure (.type "method_descriptor")) (hm:MtR X id r) (ho:PE X o to) (ha:PA X (e::es) t)
  (hbase:attributeBase o name X.env (eval o X.env)=eval o X.env:=by rfl)
  (hfew:((backTo cpos (starEach (e::es) X.env)).all (fun x=>!x.1)&&(backToKw cpos (keywordEach [] X.env)).all (fun x=>x.1.isSome)
   && decide ((e::es).length+([]:List Keyword).length+(if ([]:List Keyword).isEmpty then 0 else 1) < 30))=true:=by rfl)
  (hline:(apos.endLine==cpos.line)=true:=by rfl) (hs:starEach (e::es) X.env=(false,eval e X.env)::starEach es X.env:=by rfl) (hplain:(backTo cpos (starEach es X.env)).any (·.1)=false:=by rfl) :
  PE X (.Call (.Attribute o name apos) (e::es) [] cpos) (tBM X.K T r to t):=by
 intro pins s σ H Q I h
 refine wpAny_Call_method_late hbase hfew hline rfl (thn (ho pins s σ H _ I h) fun v s1 ⟨x,H1,I1,r1,ty,q1⟩=>?_)
 obtain⟨h1,h2⟩:=pA I1 r1 ty
 refine⟨T,id,pa,slot,hty,h1,h2,?_⟩
 have hA:=ha cpos pins s1 σ H1 _ I1 q1
 rw[hs] at hA ⊢
 refine Calls.callWith_builtin (by show (false||(backTo cpos (starEach es X.env)).any (·.1))=false;rw[hplain] <;> rfl) (Calls.evalArgs_plain ?_)
 exact thn hA fun us s2 ⟨vs,H2,I2,r2,q2⟩=>hm pins s2 σ H2 x vs v us Q I2 r1 r2 q2
end
end L2
namespace L2
open PySem PySem.Spec PyProof.Rows
def MtM (X:Cx) (id:String) (r:V→List V→Hp→VK→Prop):Prop:=
 ∀(pins:List (Addr × Obj)) (s:Shared) (σ:St) (H:Hp) (x:V) (xs:List V) (v:Value) (us:List Value) (Q:VK),Inv X pins σ H s→RelV x v→Vals xs us→r x xs H Q →
  wpAny (model X.prog X.w) X.A (call (.builtin id) (v::us)) (EP X pins σ Q) X.xe s
theorem Vals.one:∀{x:V} {us:List Value},Vals [x] us→∃u,us=[u]∧RelV x u
 |_,_,.cons r .nil=>⟨_,rfl,r⟩
theorem Vals.two:∀{x y:V} {us:List Value},Vals [x,y] us→∃u v,us=[u,v]∧RelV x u∧RelV y v
 |_,_,_,.cons r (.cons q .nil)=>⟨_,_,rfl,r,q⟩
theorem Vals.zero:∀{us:List Value},Vals [] us→us=[]
 |_,.nil=>rfl
theorem Vals.eraseIdx:∀{xs:List V} {us:List Value} (i:Nat),Vals xs us→Vals (xs.eraseIdx i) (us.eraseIdx i)
 |_,_,_,.nil=>.nil
 |_,_,0,.cons _ t=>t
 |_,_,i+1,.cons r t=>.cons r (Vals.eraseIdx i t)
theorem Vals.reverse {xs:List V} {us:List Value} (h:Vals xs us):Vals xs.reverse us.reverse:=by
 induction h with
 |nil=>exact .nil
 |cons r t ih=>rw[List.reverse_cons,List.reverse_cons];exact Vals.append ih (.cons r .nil)
theorem jk {α:Type}:∀(l:List α) (i:Nat),(l.eraseIdx i).length≤l.length
 | [],_=>Nat.le_refl _
 |_::_,0=>Nat.le_succ _
 |_::r,i+1=>Nat.succ_le_succ (jk r i)
section
variable {X:Cx} {pins:List (Addr × Obj)} {σ:St} {H:Hp} {s:Shared} {l b:Addr} {xs ys zs:List V}
theorem Inv.lset {its its':List Value} {n:Nat} {f:Array Value→Array Value} {t':Nat} (I:Inv X pins σ H s) (hH:H l=some (.lst xs))
  (e:s.heap.get? l=some {cls:=.type "list",data:=.seq its.toArray n}) (hf:f its.toArray=its'.toArray) (hv:Vals ys its') (hz:ys.length≤sizeLine) :
  Inv X pins σ (upd H l (.lst ys)) {s with heap:=s.heap.update l (Obj.mapSeq f),toks:=t'}:=by
 have q:=PySem.IsL.update e f
 rw[hf] at q
 refine I.write (x:=l) (e:=l) (by rw[hH];exact trivial) (.inl rfl) (fun b' u hb hu=>(Heap.get?_update_other s.heap (Obj.mapSeq f) (Ne.symm hb)).trans hu) ⟨_,q⟩ ?_
 exact⟨hz,its',_,hv,q⟩
theorem Inv.lnew {its:List Value} {t':Nat} (I:Inv X pins σ H s) (hv:Vals ys its) (hz:ys.length≤sizeLine) :
  Inv X pins σ (upd H s.heap.objs.size (.lst ys)) {s with heap:=s.heap.push {cls:=.type "list",data:=.seq its.toArray},toks:=t'}:=
 I.laid (fun _ _ q=>Heap.get?_push_of_some _ q) (Nat.le_refl _) ⟨hz,its,0,hv,Heap.get?_push_size _ rfl⟩
theorem Inv.fresh (I:Inv X pins σ H s):H s.heap.objs.size=none:=I.hok.fresh (Nat.le_refl _)
theorem Inv.lstM (I:Inv X pins σ H s) (hH:H l=some (.lst xs)):xs.length≤sizeLine∧∃(its:List Value) (n:Nat),Vals xs its∧xs.length=its.length∧s.heap.get? l=some {cls:=.type "list",data:=.seq its.toArray n}:=by
 obtain⟨z,its,n,r,e⟩:=I.hok l _ hH
 exact⟨z,its,n,r,r.length,e⟩
end
section
variable {X:Cx}
def sK:V→List V→Hp→VK→Prop:=fun x vs H Q=>∃l xs y,x=.ref l∧vs=[y]∧H l=some (.lst xs)∧xs.length < sizeLine∧Q .non (upd H l (.lst (xs++[y])))
theorem aR:MtM X "list.append" sK:=by
 intro pins s σ H x vs v us Q I rx rv h
 obtain⟨l,xs,y,rfl,rfl,hH,hz,q⟩:=h
 cases rx
 obtain⟨u,rfl,ru⟩:=rv.one
 obtain⟨z,its,n,r,hl,e⟩:=I.lstM hH
 refine call_meets F.slot_list_append ⟨_,e,rfl⟩ F.entry_list_append (F.args_list_append_2 _ _) (PySem.list_append l its.toArray n u (by rw[List.size_toArray];omega)) ⟨e,?_⟩
 refine⟨.non,_,I.lset (its':=its++[u]) hH e (by simp) (r.append (.cons ru .nil)) ?_,rfl,q⟩
 rw[List.length_append,List.length_singleton]
 omega
def pO:V→List V→Hp→VK→Prop:=fun x vs H Q=>∃l xs i k y,x=.ref l∧vs=[.int i]∧H l=some (.lst xs)∧-(2 ^ 63)≤i∧i < 2 ^ 63∧seqIndex? i xs.length=some k∧xs[k]? = some y∧Q y (upd H l (.lst (xs.eraseIdx k)))
theorem k_:MtM X "list.pop" pO:=by
 intro pins s σ H x vs v us Q I rx rv h
 obtain⟨l,xs,i,k,y,rfl,rfl,hH,h1,h2,hk,hy,q⟩:=h
 cases rx
 obtain⟨u,rfl,ru⟩:=rv.one
 obtain⟨t,rfl⟩:=ru
 obtain⟨z,its,n,r,hl,e⟩:=I.lstM hH
 obtain⟨w,hw,rw'⟩:=r.get hy
 refine call_meets F.slot_list_pop ⟨_,e,rfl⟩ F.entry_list_pop (F.args_list_pop_2 _ _)
  (MeetsSeq.list_pop_at l its.toArray n i t k w (fitsIndex_both h1 h2) (by rw[List.size_toArray,←hl];exact hk) (by rw[←Array.getElem?_toList];exact hw) (by rw[List.size_toArray];omega)) ⟨e,?_⟩
 refine⟨y,_,I.lset (its':=its.eraseIdx k) hH e ?_ (r.eraseIdx k) ?_,rw',q⟩
 ·show its.toArray.eraseIdxIfInBounds k=(its.eraseIdx k).toArray
  rw[List.eraseIdxIfInBounds_toArray]
 ·have:=jk xs k
  omega
def pN:V→List V→Hp→VK→Prop:=fun x vs H Q=>∃l xs,x=.ref l∧vs=[]∧H l=some (.lst xs)∧Q .non (upd H l (.lst xs.reverse))
theorem mK:MtM X "list.reverse" pN:=by
 intro pins s σ H x vs v us Q I rx rv h
 obtain⟨l,xs,rfl,rfl,hH,q⟩:=h
 cases rx
 have hus:=rv.zero
 subst hus
 obtain⟨z,its,n,r,hl,e⟩:=I.lstM hH
 refine call_meets F.slot_list_reverse ⟨_,e,rfl⟩ F.entry_list_reverse (F.args_list_reverse_1 _) (AutoSeq1.list_reverse_list_0 l its.toArray n (by rw[List.size_toArray];omega)) ⟨e,?_⟩
 refine⟨.non,_,I.lset (its':=its.reverse) hH e (by simp) r.reverse ?_,rfl,q⟩
 rw[List.length_reverse]
 omega
def rCat:R2:=fun x y H Q=>∃l b xs zs,x=.ref l∧y=.ref b∧H l=some (.lst xs)∧H b=some (.lst zs)∧xs.length+zs.length≤sizeLine∧∀p,H p=none→Q (.ref p) (upd H p (.lst (xs++zs)))
theorem ir:OpR X (binaryOp .Add) rCat:=by
 intro pins s σ H x y v u Q I rx ry h
 obtain⟨l,b,xs,zs,rfl,rfl,hH,hB,hz,q⟩:=h
 cases rx
 cases ry
 obtain⟨z,its,n,r,hl,e⟩:=I.lstM hH
 obtain⟨z2,its2,n2,r2,hl2,e2⟩:=I.lstM hB
 refine PySem.P.add_list e e2 ?_ (by rw[List.size_toArray,List.size_toArray];omega)
 have ea:its.toArray++its2.toArray=(its++its2).toArray:=by simp
 rw[ea]
 exact⟨.ref _,_,I.lnew (t':=s.toks) (r.append r2) (by rw[List.length_append];omega),rfl,q _ I.fresh⟩
end
section
variable {prog:Program} {w:World} {A:Around} {E:Value→Shared→Prop} {s:Shared}
set_option maxRecDepth 100000 in
end
section
variable {X:Cx}
end
end L2
namespace L2
open PySem PySem.Spec PyProof.Rows
section
variable {κ:Type} [DecidableEq κ]
def valV (kvs:List (κ × V)) (k:κ):Option V:=(kvs.find? fun kv=>decide (kv.1=k)).map (·.2)
def putK (kvs:List (κ × V)) (k:κ) (v:V):List (κ × V):=
 if (kvs.any fun kv=>decide (kv.1=k))=true then kvs.map (fun kv=>if kv.1=k then (kv.1,v) else kv) else kvs++[(k,v)]
def iK (kvs:List (κ × V)) (k:κ):List (κ × V):=kvs.filter fun kv=>decide (kv.1≠k)
theorem cU {p:κ × V} {r:List (κ × V)} {k:κ} (e:p.1=k):valV (p::r) k=some p.2:=by simp[valV,List.find?_cons,e]
theorem bV {p:κ × V} {r:List (κ × V)} {k:κ} (e:¬p.1=k):valV (p::r) k=valV r k:=by simp[valV,List.find?_cons,e]
theorem eB (k:κ):∀kvs:List (κ × V),(kvs.any fun kv=>decide (kv.1=k))=(valV kvs k).isSome
 | []=>rfl
 |p::r=>by
  rw[List.any_cons]
  by_cases e:p.1=k
  ·simp only[cU e,decide_eq_true e,Bool.true_or,Option.isSome_some]
  ·rw[bV e,decide_eq_false e,Bool.false_or];exact eB k r
theorem cq (kvs:List (κ × V)) (k:κ) (v:V):(putK kvs k v).length≤kvs.length+1:=by
 unfold putK
 split
 ·rw[List.length_map];omega
 ·rw[List.length_append,List.length_cons,List.length_nil];omega
theorem fR {kvs:List (κ × V)} {k:κ} (v:V) (h:valV kvs k=none):putK kvs k v=kvs++[(k,v)]:=by
 unfold putK
 rw[eB,h]
 exact if_neg (by decide)
theorem RelO.isSome_eq {o:Option V} {u:Option Value} (r:RelO o u):o.isSome=u.isSome:=by
 cases o with
 |none=>cases u with
  |none=>rfl
  |some _=>exact (show False from r).elim
 |some _=>cases u with
  |none=>exact (show False from r).elim
  |some _=>rfl
theorem RelO.getD {o:Option V} {u:Option Value} {d:V} {d':Value} (r:RelO o u) (rd:RelV d d'):RelV (o.getD d) (u.getD d'):=by
 cases o with
 |none=>cases u with
  |none=>exact rd
  |some _=>exact (show False from r).elim
 |some _=>cases u with
  |none=>exact (show False from r).elim
  |some _=>exact r
theorem KV.val {kvs:List (κ × V)} {vs:List (κ × Value)} (r:KV kvs vs) (k:κ):RelO (valV kvs k) (valueAt vs k):=by
 unfold KV at r
 induction r with
 |nil=>exact True.intro
 | @cons p q ps qs h t ih=>
  obtain⟨h1,h2⟩:=h
  by_cases e:p.1=k
  ·have e':q.1=k:=h1.symm.trans e
   have b:valueAt (q::qs) k=some q.2:=by simp[valueAt,List.find?_cons,e']
   rw[cU e,b];exact h2
  ·have e':¬q.1=k:=fun z=>e (h1.trans z)
   have b:valueAt (q::qs) k=valueAt qs k:=by simp[valueAt,List.find?_cons,e']
   rw[bV e,b];exact ih
theorem KV.any {kvs:List (κ × V)} {vs:List (κ × Value)} (r:KV kvs vs) (k:κ):(kvs.any fun kv=>decide (kv.1=k))=vs.any fun kv=>decide (kv.1=k):=by
 unfold KV at r
 induction r with
 |nil=>rfl
 |cons h t ih=>rw[List.any_cons,List.any_cons,ih,h.1]
theorem KV.repl {kvs:List (κ × V)} {vs:List (κ × Value)} (r:KV kvs vs) (k:κ) {y:V} {u:Value} (ry:RelV y u) :
  KV (kvs.map fun kv=>if kv.1=k then (kv.1,y) else kv) (vs.map fun kv=>if kv.1=k then (kv.1,u) else kv):=by
 unfold KV at r ⊢
 induction r with
 |nil=>exact .nil
 | @cons p q ps qs h t ih=>
  rw[List.map_cons,List.map_cons]
  refine .cons ?_ ih
  obtain⟨h1,h2⟩:=h
  by_cases e:p.1=k
  ·rw[if_pos e,if_pos (h1.symm.trans e)];exact⟨h1,ry⟩
  ·rw[if_neg e,if_neg (fun z=>e (h1.trans z))];exact⟨h1,h2⟩
theorem KV.put {kvs:List (κ × V)} {vs:List (κ × Value)} (r:KV kvs vs) (k:κ) {y:V} {u:Value} (ry:RelV y u):KV (putK kvs k y) (stored vs k u):=by
 unfold putK stored
 rw[r.any k]
 by_cases e:(vs.any fun kv=>decide (kv.1=k))=true
 ·rw[if_pos e,if_pos e];exact r.repl k ry
 ·rw[if_neg e,if_neg e];exact Paired.snoc r ⟨rfl,ry⟩
theorem KV.drop {kvs:List (κ × V)} {vs:List (κ × Value)} (r:KV kvs vs) (k:κ):KV (iK kvs k) (without vs k):=by
 unfold KV at r ⊢
 unfold iK without
 induction r with
 |nil=>exact .nil
 | @cons p q ps qs h t ih=>
  obtain⟨h1,h2⟩:=h
  rw[List.filter_cons,List.filter_cons]
  by_cases e:p.1=k
  ·have a:¬decide (p.1≠k)=true:=by simp[e]
   have b:¬decide (q.1≠k)=true:=by simp[h1.symm.trans e]
   rw[if_neg a,if_neg b];exact ih
  ·have e':¬q.1=k:=fun z=>e (h1.trans z)
   have a:decide (p.1≠k)=true:=by simp[e]
   have b:decide (q.1≠k)=true:=by simp[e']
   rw[if_pos a,if_pos b];exact .cons ⟨h1,h2⟩ ih
theorem KV.length {kvs:List (κ × V)} {vs:List (κ × Value)} (r:KV kvs vs):kvs.length=vs.length:=Paired.length r
theorem qU (kvs:List (κ × V)) (k:κ):(iK kvs k).length≤kvs.length:=List.length_filter_le _ _
end
theorem fg {P:Program} {w:World} {k:Key} {u:Value} (r:RelV (kV k) u):(aN P w).is k u=true:=by
 cases k with
 |inl i=>obtain⟨t,e⟩:=(show ∃t,u=Value.int i t from r);subst e;exact lm P w i t
 |inr x=>obtain⟨t,e⟩:=(show ∃t,u=Value.str x t from r);subst e;exact lh P w x t
theorem jm {P:Program} {w:World}:∀{ks:List Key} {us:List Value},Vals (ks.map kV) us→ItemsAre (aN P w) ks us
 | [],_,r=>by rw[List.map_nil] at r;cases r;exact .nil
 |k::ks,_,r=>by
  rw[List.map_cons] at r
  cases r with
  |cons h t=>exact .cons (fg h) (jm t)
abbrev KT (H:Hp):List (List Key × V)→List (List Key × Addr × Value)→Prop:=Paired fun p q=>p.1=q.1∧H q.2.1=some (.tup (p.1.map kV))∧RelV p.2 q.2.2
theorem KT.val {H:Hp} {kvs:List (List Key × V)} {xs:List (List Key × Addr × Value)} (r:KT H kvs xs) (k:List Key):RelO (valV kvs k) ((atKey xs k).map (·.2)):=by
 induction r with
 |nil=>exact True.intro
 | @cons p q ps qs h t ih=>
  obtain⟨h1,_,h2⟩:=h
  by_cases e:p.1=k
  ·have e':q.1=k:=h1.symm.trans e
   have b:atKey (q::qs) k=some q.2:=by simp[atKey,List.find?_cons,e']
   rw[cU e,b];exact h2
  ·have e':¬q.1=k:=fun z=>e (h1.trans z)
   have b:atKey (q::qs) k=atKey qs k:=by simp[atKey,List.find?_cons,e']
   rw[bV e,b];exact ih
theorem KT.repl {H:Hp} {kvs:List (List Key × V)} {xs:List (List Key × Addr × Value)} (r:KT H kvs xs) (k:List Key) {y:V} {u:Value} (ry:RelV y u) :
  KT H (kvs.map fun kv=>if kv.1=k then (kv.1,y) else kv) (xs.map (putAt k u)):=by
 induction r with
 |nil=>exact .nil
 | @cons p q ps qs h t ih=>
  rw[List.map_cons,List.map_cons]
  refine .cons ?_ ih
  obtain⟨h1,h2,h3⟩:=h
  unfold putAt
  by_cases e:p.1=k
  ·rw[if_pos e,if_pos (h1.symm.trans e)];exact⟨h1,h2,ry⟩
  ·rw[if_neg e,if_neg (fun z=>e (h1.trans z))];exact⟨h1,h2,h3⟩
theorem KT.put {H:Hp} {kvs:List (List Key × V)} {xs:List (List Key × Addr × Value)} (r:KT H kvs xs) (k:List Key) {b:Addr} {y:V} {u:Value} (hb:H b=some (.tup (k.map kV))) (ry:RelV y u) :
  KT H (putK kvs k y) (storedH xs k b u):=by
 have e:(kvs.any fun kv=>decide (kv.1=k))=(atKey xs k).isSome:=by
  rw[eB,(r.val k).isSome_eq,Option.isSome_map]
 unfold putK storedH
 rw[e]
 by_cases q:(atKey xs k).isSome=true
 ·rw[if_pos q,if_pos q];exact r.repl k ry
 ·rw[if_neg q,if_neg q];exact Paired.snoc r ⟨rfl,hb,ry⟩
theorem KT.keeps {H H':Hp} {kvs:List (List Key × V)} {xs:List (List Key × Addr × Value)} (r:KT H kvs xs) (ht:∀b ys,H b=some (.tup ys)→H' b=some (.tup ys)):KT H' kvs xs:=
 Paired.mapP r fun _ _ z=>⟨z.1,ht _ _ z.2.1,z.2.2⟩
section
variable {P:Program} {w:World} {H:Hp} {h:Heap} {a:Addr}
theorem tW {u:HO} (ok:HOk P w H h) (e:Rd H a u):aS P w H h a u:=e.ok ok
theorem cY {kvs:List (Key × V)} (ok:HOk P w H h) (e:Rd H a (.dK kvs)):kvs.length≤sizeLine∧(a==sysModules)=false∧∃vs,KV kvs vs∧h.DictOf (aN P w) a vs:=
 show aS P w H h a (.dK kvs) from tW ok e
theorem jo {kvs:List (Key × V)} (ok:HOk P w H h) (e:H a=some (.dK kvs)):kvs.length≤sizeLine∧(a==sysModules)=false∧∃vs,KV kvs vs∧h.DictOf (aN P w) a vs:=cY ok (.inl e)
theorem fC {ks:List Key} (ok:HOk P w H h) (e:H a=some (.tup (ks.map kV))):(tupleKind (aN P w)).is h ks a:=by
 obtain⟨_,its,r,o,h1,h2,n,h3⟩:=(show aS P w H h a (.tup (ks.map kV)) from ok a _ e)
 exact⟨o,its.toArray,n,h1,h2,h3,by simpa using jm r⟩
theorem fV {kvs:List (List Key × V)} (ok:HOk P w H h) (e:Rd H a (.dT kvs)):kvs.length≤sizeLine∧(a==sysModules)=false ∧
  ∃xs,KT H kvs xs∧h.DictOfH (tupleKind (aN P w)) a xs:=by
 obtain⟨z,y,xs,r,o,es,ep,h1,h2,h3,h4,h5⟩:=(show aS P w H h a (.dT kvs) from tW ok e)
 refine⟨z,y,xs,r,o,es,ep,h1,h2,h3,h4,fun x hx=>?_,h5⟩
 have all:∀{l:List (List Key × V)} {m:List (List Key × Addr × Value)},KT H l m→∀x∈m,(tupleKind (aN P w)).is h x.1 x.2.1:=by
  intro l m q
  induction q with
  |nil=>intro x hx;exact nomatch hx
  | @cons p q ps qs hq t ih=>
   intro x hx
   rcases List.mem_cons.mp hx with e|hx
   ·subst e
    exact fC ok (by rw[←hq.1];exact hq.2.1)
   ·exact ih x hx
 exact all r x hx
theorem t4 {kvs:List (List Key × V)} (ok:HOk P w H h) (e:H a=some (.dT kvs)):kvs.length≤sizeLine∧(a==sysModules)=false ∧
  ∃xs,KT H kvs xs∧h.DictOfH (tupleKind (aN P w)) a xs:=fV ok (.inl e)
end
def DGet (H:Hp) (a:Addr) (y:V) (r:Option V):Prop:=
 (∃kvs k,Rd H a (.dK kvs)∧y=kV k∧r=valV kvs k)∨∃kvs k b,Rd H a (.dT kvs)∧y=.ref b∧H b=some (.tup (k.map kV))∧r=valV kvs k
def DPut (H:Hp) (a:Addr) (y v:V) (H':Hp):Prop:=
 (∃kvs k,H a=some (.dK kvs)∧y=kV k∧kvs.length < sizeLine∧H' = upd H a (.dK (putK kvs k v))) ∨
 ∃kvs k b,H a=some (.dT kvs)∧y=.ref b∧H b=some (.tup (k.map kV))∧kvs.length < sizeLine∧H' = upd H a (.dT (putK kvs k v))
theorem DGet.k {H:Hp} {a:Addr} {kvs:List (Key × V)} {k:Key} (e:H a=some (.dK kvs)):DGet H a (kV k) (valV kvs k):=.inl ⟨kvs,k,.inl e,rfl,rfl⟩
theorem DGet.t {H:Hp} {a b:Addr} {kvs:List (List Key × V)} {k:List Key} (e:H a=some (.dT kvs)) (eb:H b=some (.tup (k.map kV))):DGet H a (.ref b) (valV kvs k):=.inr ⟨kvs,k,b,.inl e,rfl,eb,rfl⟩
theorem DPut.k {H:Hp} {a:Addr} {kvs:List (Key × V)} {k:Key} {v:V} (e:H a=some (.dK kvs)) (hl:kvs.length < sizeLine):DPut H a (kV k) v (upd H a (.dK (putK kvs k v))):=.inl ⟨kvs,k,e,rfl,hl,rfl⟩
theorem DPut.t {H:Hp} {a b:Addr} {kvs:List (List Key × V)} {k:List Key} {v:V} (e:H a=some (.dT kvs)) (eb:H b=some (.tup (k.map kV))) (hl:kvs.length < sizeLine) :
  DPut H a (.ref b) v (upd H a (.dT (putK kvs k v))):=.inr ⟨kvs,k,b,e,rfl,eb,hl,rfl⟩
section
variable {X:Cx} {pins:List (Addr × Obj)} {σ:St} {H:Hp} {s:Shared} {a:Addr} {y v:V} {u r:Value} {o:Option V} {A:Around} {E:Value→Shared→Prop}
theorem Inv.big (I:Inv X pins σ H s):sysModules < s.heap.objs.size:=by
 have h:mainGlobals < s.heap.objs.size:=(I.mod.glob.keeps I.bk).lt
 exact Nat.lt_trans (by decide) h
theorem pd {Q:Value→Shared→Prop} (hu:A.units+1 < cLine) (I:Inv X pins σ H s) (g:DGet H a y (some v)) (ry:RelV y u) (h:∀w' s',Inv X pins σ H s'→RelV v w'→Q w' s') :
  wpAny (model X.prog X.w) A (getItem (.ref a) u) Q E s:=by
 rcases g with ⟨kvs,k,e,ey,l⟩|⟨kvs,k,b,e,ey,eb,l⟩
 ·subst ey
  obtain⟨z,hd,vs,rel,dd⟩:=cY I.hok e
  obtain⟨w',hw,rw'⟩:=RelO.some_of (v:=v) (o:=valueAt vs k) (by rw[l];exact rel.val k)
  exact wpAny_getItem_of (fg ry) dd.mapOf hw (h w' _ (I.tok _) rw')
 ·subst ey
  cases (show u=Value.ref b from ry)
  obtain⟨z,hd,xs,rel,dd⟩:=fV I.hok e
  obtain⟨w',hw,rw'⟩:=RelO.some_of (v:=v) (o:=(atKey xs k).map (·.2)) (by rw[l];exact rel.val k)
  obtain⟨p,hp,hp2⟩:=Option.map_eq_some_iff.mp hw
  refine wpAny_getItem_heap (tupleKind_room_in1 hu) (fC I.hok eb) dd hp ?_
  rw[hp2]
  exact h w' _ (I.tok _) rw'
theorem d_in {Q:Value→Shared→Prop} (hu:A.units+1 < cLine) (I:Inv X pins σ H s) (g:DGet H a y o) (ry:RelV y u) (h:∀s',Inv X pins σ H s'→Q (.bool o.isSome) s') :
  wpAny (model X.prog X.w) A (compareOp .In u (.ref a)) Q E s:=by
 rcases g with ⟨kvs,k,e,ey,l⟩|⟨kvs,k,b,e,ey,eb,l⟩
 ·subst ey
  obtain⟨z,hd,vs,rel,dd⟩:=cY I.hok e
  refine wpAny_in_of (fg ry) hd dd.mapOf ?_
  rw[←(rel.val k).isSome_eq,←l]
  exact h _ (I.tok _)
 ·subst ey
  cases (show u=Value.ref b from ry)
  obtain⟨z,hd,xs,rel,dd⟩:=fV I.hok e
  refine wpAny_in_heap (tupleKind_room_in1 hu) (fC I.hok eb) hd dd ?_
  have q:=(rel.val k).isSome_eq
  rw[Option.isSome_map] at q
  rw[←q,←l]
  exact h _ (I.tok _)
theorem tJ {Q:Value→Shared→Prop} (hu:A.units+1 < cLine) (I:Inv X pins σ H s) (g:DGet H a y o) (ry:RelV y u) (h:∀s',Inv X pins σ H s'→Q (.bool (!o.isSome)) s') :
  wpAny (model X.prog X.w) A (compareOp .NotIn u (.ref a)) Q E s:=by
 rcases g with ⟨kvs,k,e,ey,l⟩|⟨kvs,k,b,e,ey,eb,l⟩
 ·subst ey
  obtain⟨z,hd,vs,rel,dd⟩:=cY I.hok e
  refine wpAny_notIn_of (fg ry) hd dd.mapOf ?_
  rw[←(rel.val k).isSome_eq,←l]
  exact h _ (I.tok _)
 ·subst ey
  cases (show u=Value.ref b from ry)
  obtain⟨z,hd,xs,rel,dd⟩:=fV I.hok e
  refine wpAny_notIn_heap (tupleKind_room_in1 hu) (fC I.hok eb) hd dd ?_
  have q:=(rel.val k).isSome_eq
  rw[Option.isSome_map] at q
  rw[←q,←l]
  exact h _ (I.tok _)
theorem eZ {h':Heap} {t':Nat} {ob:HO} (I:Inv X pins σ H s) (mu:Mut (H a)) (hs:Heap.SameBut a s.heap h') (he:∃q,h'.get? a=some q) (new:aS X.prog X.w (upd H a ob) h' a ob) :
  Inv X pins σ (upd H a ob) {s with heap:=h',toks:=t'}:=
 I.write (x:=a) (e:=a) mu (.inl rfl) (fun b q hb z=>(hs.2 b hb).trans z) he new
theorem gF {P:Program} {w:World} {H':Hp} {h':Heap} {kvs:List (Key × V)} {vs:List (Key × Value)} (z:kvs.length≤sizeLine) (hd:(a==sysModules)=false) (rel:KV kvs vs) (dd:h'.DictOf (aN P w) a vs) :
  aS P w H' h' a (.dK kvs):=⟨z,hd,vs,rel,dd⟩
theorem pb {H':Hp} {Q:Unit→Shared→Prop} (hu:A.units+1 < cLine) (I:Inv X pins σ H s) (g:DPut H a y v H') (ry:RelV y u) (rv:RelV v r) (h:∀s',Inv X pins σ H' s'→Q () s') :
  wpAny (model X.prog X.w) A (setItem (.ref a) u r) Q E s:=by
 rcases g with ⟨kvs,k,e,ey,l,eH⟩|⟨kvs,k,b,e,ey,eb,l,eH⟩
 ·subst ey eH
  obtain⟨z,hd,vs,rel,dd⟩:=jo I.hok e
  have hz:vs.length≤sizeLine:=by rw[←rel.length];exact z
  have hl:(putK kvs k v).length≤sizeLine:=by have:=cq kvs k v;omega
  refine wpAny_setItem_pairs (hsz:=hz) (fg ry) dd fun h' dd' hs=>h _ ?_
  have he:∃q,h'.get? a=some q:=let ⟨q,_,_,hq,_⟩:=dd';⟨q,hq⟩
  exact eZ I (by rw[e];exact True.intro) hs he (gF hl hd (rel.put k rv) dd')
 ·subst ey eH
  cases (show u=Value.ref b from ry)
  obtain⟨z,hd,xs,rel,dd⟩:=t4 I.hok e
  have hz:xs.length≤sizeLine:=by rw[←Paired.length rel];exact z
  have hl:(putK kvs k v).length≤sizeLine:=by have:=cq kvs k v;omega
  refine wpAny_setItem_heap (hsz:=hz) (tupleKind_room_in1 hu) (fC I.hok eb) dd fun h' dd' hs=>h _ ?_
  obtain⟨q,es,ep,hq,h2,h3,h4,_,h5⟩:=dd'
  refine eZ I (by rw[e];exact True.intro) hs ⟨q,hq⟩ ⟨hl,hd,_,(rel.put k eb rv).keeps fun c ys ec=>?_,q,es,ep,hq,h2,h3,h4,h5⟩
  rw[au (bi ec e (fun z=>nomatch z))]
  exact ec
end
section
variable {X:Cx} {pins:List (Addr × Obj)} {σ:St} {H:Hp} {s:Shared} {a:Addr} {kvs:List (Key × V)} {k:Key} {u:Value} {A:Around} {E:Value→Shared→Prop}
theorem vW {v:V} {more:List Value} {Q:Value→Shared→Prop} (I:Inv X pins σ H s) (e:H a=some (.dK kvs)) (ry:RelV (kV k) u) (l:valV kvs k=some v) (hm:more=[]∨∃x,more=[x])
  (h:∀w' s',Inv X pins σ (upd H a (.dK (iK kvs k))) s'→RelV v w'→Q w' s'):wpAny (model X.prog X.w) A (call (.builtin "dict.pop") (.ref a::u::more)) Q E s:=by
 obtain⟨z,hd,vs,rel,dd⟩:=jo I.hok e
 obtain⟨w',hw,rw'⟩:=RelO.some_of (v:=v) (o:=valueAt vs k) (by rw[←l];exact rel.val k)
 have hp:(keyPart u).isSome=true:=by
  cases k with
  |inl i=>obtain⟨t,q⟩:=(show ∃t,u=Value.int i t from ry);subst q;rfl
  |inr x=>obtain⟨t,q⟩:=(show ∃t,u=Value.str x t from ry);subst q;rfl
 have ha:argsOk "dict.pop" ⟨.ref a::u::more,[]⟩:=by
  rcases hm with q|⟨x,q⟩
  ·subst q;exact PySem.F.args_dict_pop_2 _ _
  ·subst q;exact PySem.F.args_dict_pop_3 _ _ _
 refine call_meetsIn PySem.F.slot_dict_pop dd.typeIs PySem.F.entry_dict_pop ha (meets_dict_pop_there (aN X.prog X.w) a (fg ry) more hm hp)
  ⟨vs,w',dd,by rw[←rel.length];exact z,hw,fun h' dd' hs=>h w' _ ?_ rw'⟩
 have he:∃q,h'.get? a=some q:=let ⟨q,_,_,hq,_⟩:=dd';⟨q,hq⟩
 exact eZ I (by rw[e];exact True.intro) hs he (gF (Nat.le_trans (qU kvs k) z) hd (rel.drop k) dd')
theorem vX {Q:Value→Shared→Prop} (I:Inv X pins σ H s) (e:Rd H a (.dK kvs)) (h:∀t s',Inv X pins σ H s'→Q (.int kvs.length t) s'):wpAny (model X.prog X.w) A (call (.builtin "len") [.ref a]) Q E s:=by
 obtain⟨z,hd,vs,rel,dd⟩:=cY I.hok e
 refine call_len_dict hd dd (by rw[←rel.length];rw[sizeLine_eq] at z;omega) ?_
 rw[←rel.length]
 exact h _ _ (I.tok _)
end
def NoSl (i:Expr):Prop:=∀ov iv,subscripted i false ov iv=operate [ov,iv] (getItem ov iv)
theorem rN {prog:Program} {w:World} {A:Around} {E:Value→Shared→Prop} {s:Shared} {env:Env} {value slice:Expr} {pos:Pos} {T id:String} {Q:Value→Shared→Prop}
  (hl:typeLookup (.type T) "__getitem__" = pure (some (.builtin id))) (hs:NoSl slice)
  (h:wpAny (model prog w) A (eval value env) (fun o s₁=>wpAny (model prog w) A (eval slice env) (fun i s₂=>s₂.TypeIs o T∧wpAny (model prog w) A (getItem o i) Q E s₂) E s₁) E s) :
  wpAny (model prog w) A (eval (.Subscript value slice pos) env) Q E s:=by
 refine Subscript_ (wpAny_mono h (fun o s₁ h₁=>wpAny_mono h₁ (fun i s₂ h₂=>?_) fun _ _ x=>x) fun _ _ x=>x)
 obtain⟨hT,h₂⟩:=h₂
 unfold subscriptTail
 refine wpAny_bind ?_
 rw[getitemInPython_of_ne hT.not_modules]
 refine wpAny_bind (wpAny_specialOf hT hl ?_)
 have fin:wpAny (model prog w) A (subscripted slice false o i) (fun r s₃=>wpAny (model prog w) A (letTemporaryGo value o r >>= fun _=>pure r) Q E s₃) E s₂:=by
  rw[hs o i]
  exact wpAny_operating (wpAny_mono h₂ (fun r s₃ h₃=>wpAny_bind (wpAny_letTemporaryGo (wpAny_pure h₃))) fun _ _ x=>x)
 first
  |exact wpAny_pure (wpAny_bind fin)
  |exact wpAny_bind (wpAny_pure (wpAny_bind fin))
  |exact wpAny_bind fin
theorem lF {X:Cx} {pins:List (Addr × Obj)} {σ:St} {H:Hp} {s:Shared} {a:Addr} {y:V} {o:Option V} (I:Inv X pins σ H s) (g:DGet H a y o):s.TypeIs (.ref a) "dict":=by
 rcases g with ⟨kvs,k,e,_,_⟩|⟨kvs,k,b,e,_,_,_⟩
 ·obtain⟨_,_,vs,_,dd⟩:=cY I.hok e
  exact dd.typeIs
 ·obtain⟨_,_,xs,_,dd⟩:=fV I.hok e
  exact dd.typeIs
def pE (td ty:TE):TE:=fun σ H Q=>td σ H fun x H1=>ty σ H1 fun y H2=>∃a v,x=.ref a∧DGet H2 a y (some v)∧Q v H2
def tDIn (ty td:TE):TE:=fun σ H Q=>ty σ H fun y H1=>td σ H1 fun x H2=>∃a o,x=.ref a∧DGet H2 a y o∧Q (.bl o.isSome) H2
def nh (ty td:TE):TE:=fun σ H Q=>ty σ H fun y H1=>td σ H1 fun x H2=>∃a o,x=.ref a∧DGet H2 a y o∧Q (.bl (!o.isSome)) H2
def vG (td ty tv:TE):TS:=fun D σ H=>tv σ H fun v H1=>td σ H1 fun x H2=>ty σ H2 fun y H3=>∃a H4,x=.ref a∧DPut H3 a y v H4∧D.nx σ H4
section
variable {X:Cx} {o i e value:Expr} {pos pos' tpos:Pos} {td ty tv:TE}
theorem c_ (hu:X.A.units+1 < cLine) (ho:PE X o td) (hi:PE X i ty) (hs:NoSl i):PE X (.Subscript o i pos) (pE td ty):=by
 intro pins s σ H Q I h
 refine rN PySem.F.slot_dict_getitem.lookup hs (thn (ho pins s σ H _ I h) fun u s1 ⟨x,H1,I1,rx,q1⟩=>thn (hi pins s1 σ H1 _ I1 q1) fun iv s2 ⟨y,H2,I2,ry,a,v,ex,g,q2⟩=>?_)
 subst ex
 obtain rfl:u=Value.ref a:=rx
 exact⟨lF I2 g,pd hu I2 g ry fun w' s3 I3 rw'=>⟨v,H2,I3,rw',q2⟩⟩
theorem mx (hu:X.A.units+1 < cLine) (hi:PE X i ty) (ho:PE X o td):PC X .In i o (tDIn ty td):=by
 intro pins s σ H Q I h
 refine thn (hi pins s σ H _ I h) fun iv s1 ⟨y,H1,I1,ry,q1⟩=>thn (ho pins s1 σ H1 _ I1 q1) fun u s2 ⟨x,H2,I2,rx,a,ov,ex,g,q2⟩=>?_
 subst ex
 obtain rfl:u=Value.ref a:=rx
 exact d_in hu I2 g ry fun s3 I3=>⟨.bl ov.isSome,H2,I3,rfl,q2⟩
theorem eX (hu:X.A.units+1 < cLine) (hi:PE X i ty) (ho:PE X o td):PC X .NotIn i o (nh ty td):=by
 intro pins s σ H Q I h
 refine thn (hi pins s σ H _ I h) fun iv s1 ⟨y,H1,I1,ry,q1⟩=>thn (ho pins s1 σ H1 _ I1 q1) fun u s2 ⟨x,H2,I2,rx,a,ov,ex,g,q2⟩=>?_
 subst ex
 obtain rfl:u=Value.ref a:=rx
 exact tJ hu I2 g ry fun s3 I3=>⟨.bl (!ov.isSome),H2,I3,rfl,q2⟩
theorem d_ (hu:X.A.units+1 < cLine) (ho:PE X o td) (hi:PE X i ty) (hv:PE X value tv) (hs:swapsWith value (some (.Subscript o i pos')) pos.line X.env=pure false) :
  PS X (.Assign [.Subscript o i pos'] value pos) (vG td ty tv):=by
 intro pins s σ H D I h
 refine wpAny_Assign_Subscript (thn (hv pins s σ H _ I h) fun r s1 ⟨v,H1,I1,rv,q1⟩=>thn (ho pins s1 σ H1 _ I1 q1) fun u s2 ⟨x,H2,I2,rx,q2⟩=>thn (hi pins s2 σ H2 _ I2 q2) fun iv s3 ⟨y,H3,I3,ry,a,H4,ex,g,q3⟩=>?_) hs
 subst ex
 obtain rfl:u=Value.ref a:=rx
 exact pb hu I3 g ry rv fun s4 I4=>⟨σ,H4,I4,q3⟩
end
theorem iL {P:Program} {w:World} {H:Hp} (h:Heap) (hb:sysModules < h.objs.size):aS P w H (h.push {cls:=.type "dict",data:=.dict #[]}) h.objs.size (.dK []):=
 ⟨Nat.zero_le _,beq_eq_false_iff_ne.mpr (Ne.symm (Nat.ne_of_lt hb)),[],.nil,Heap.DictOf.new h⟩
theorem qS {P:Program} {w:World} {H:Hp} (h:Heap) (hb:sysModules < h.objs.size):aS P w H (h.push {cls:=.type "dict",data:=.dict #[]}) h.objs.size (.dT []):=
 ⟨Nat.zero_le _,beq_eq_false_iff_ne.mpr (Ne.symm (Nat.ne_of_lt hb)),[],.nil,_,#[],0,Heap.get?_push_size _ rfl,⟨rfl,rfl,rfl⟩,rfl,rfl,List.nodup_nil⟩
def ul:TE:=fun _ H Q=>∀p,H p=none→Q (.ref p) (upd H p (.dK []))
def uk:TE:=fun _ H Q=>∀p,H p=none→Q (.ref p) (upd H p (.dT []))
section
variable {X:Cx} {pos:Pos}
theorem dP:PE X (.Dict [] [] pos) ul:=fun pins s σ H Q I h=>
 wpAny_Dict_empty ⟨.ref s.heap.objs.size,_,I.laid (a:=s.heap.objs.size) (o:=.dK []) (t':=s.toks) (fun _ _ q=>Heap.get?_push_of_some _ q) (Nat.le_refl _) (iL s.heap I.big),rfl,h _ (I.hok.fresh (Nat.le_refl _))⟩
theorem kQ:PE X (.Dict [] [] pos) uk:=fun pins s σ H Q I h=>
 wpAny_Dict_empty ⟨.ref s.heap.objs.size,_,I.laid (a:=s.heap.objs.size) (o:=.dT []) (t':=s.toks) (fun _ _ q=>Heap.get?_push_of_some _ q) (Nat.le_refl _) (qS s.heap I.big),rfl,h _ (I.hok.fresh (Nat.le_refl _))⟩
end
def gB (kvs more:List (Key × V)):List (Key × V):=more.foldl (fun acc kv=>putK acc kv.1 kv.2) kvs
theorem KV.merge:∀{more:List (Key × V)} {rs:List (Key × Value)} {kvs:List (Key × V)} {vs:List (Key × Value)},KV more rs→KV kvs vs→KV (gB kvs more) (merged vs rs):=by
 intro more rs kvs vs r
 unfold KV at r
 induction r generalizing kvs vs with
 |nil=>intro q;exact q
 | @cons p q ps qs h t ih=>
  intro r0
  have e:KV (putK kvs p.1 p.2) (stored vs q.1 q.2):=by
   have:=r0.put p.1 h.2
   rw[←h.1];exact this
  exact ih e
theorem ff:∀(more kvs:List (Key × V)),(gB kvs more).length≤kvs.length+more.length
 | [],kvs=>by show kvs.length≤kvs.length+0;omega
 |p::r,kvs=>by
  have h1:=ff r (putK kvs p.1 p.2)
  have h2:=cq kvs p.1 p.2
  show (gB (putK kvs p.1 p.2) r).length≤_
  rw[List.length_cons];omega
structure M1 (X:Cx) (o:Expr) (m:Str) (apos:Pos) (e:Expr) (cpos:Pos):Prop where
 base:attributeBase o m X.env (eval o X.env)=eval o X.env
 few:((backTo cpos (starEach [e] X.env)).all (fun x=>!x.1)&&(backToKw cpos (keywordEach [] X.env)).all (fun x=>x.1.isSome)
  && decide (([e]:List Expr).length+([]:List Keyword).length+(if ([]:List Keyword).isEmpty then 0 else 1) < 30))=true
 line:(apos.endLine==cpos.line)=true
 trees:backTo cpos (starEach [e] X.env)=[(false,eval e X.env)]
structure M2 (X:Cx) (o:Expr) (m:Str) (apos:Pos) (e f:Expr) (cpos:Pos):Prop where
 base:attributeBase o m X.env (eval o X.env)=eval o X.env
 few:((backTo cpos (starEach [e,f] X.env)).all (fun x=>!x.1)&&(backToKw cpos (keywordEach [] X.env)).all (fun x=>x.1.isSome)
  && decide (([e,f]:List Expr).length+([]:List Keyword).length+(if ([]:List Keyword).isEmpty then 0 else 1) < 30))=true
 line:(apos.endLine==cpos.line)=true
 trees:backTo cpos (starEach [e,f] X.env)=[(false,eval e X.env),(false,eval f X.env)]
def IsD (H:Hp) (a:Addr):Prop:=(∃kvs,Rd H a (.dK kvs))∨∃kvs,Rd H a (.dT kvs)
theorem ke {X:Cx} {pins:List (Addr × Obj)} {σ:St} {H:Hp} {s:Shared} {a:Addr} (I:Inv X pins σ H s) (d:IsD H a) :
  s.TypeIs (.ref a) "dict"∧(∀b,Value.ref a=.ref b→∃ob,s.heap.get? b=some ob∧ob.dict=none)∧(a==sysModules)=false:=by
 rcases d with ⟨kvs,e⟩|⟨kvs,e⟩
 ·obtain⟨_,hd,vs,_,dd⟩:=cY I.hok e
  refine⟨dd.typeIs,fun b q=>?_,hd⟩
  cases q
  obtain⟨ob,_,_,h1,h2,_⟩:=dd
  exact⟨ob,h1,h2.2.1⟩
 ·obtain⟨_,hd,xs,_,dd⟩:=fV I.hok e
  refine⟨dd.typeIs,fun b q=>?_,hd⟩
  cases q
  obtain⟨ob,_,_,h1,h2,_⟩:=dd
  exact⟨ob,h1,h2.2.1⟩
section
variable {X:Cx} {pins:List (Addr × Obj)} {σ:St} {H:Hp} {s:Shared} {a:Addr} {y d:V} {u r:Value} {o:Option V} {A:Around} {E:Value→Shared→Prop}
theorem vg {Q:Value→Shared→Prop} (hu:A.units+1 < cLine) (I:Inv X pins σ H s) (g:DGet H a y o) (ry:RelV y u) (h:∀w' s',Inv X pins σ H s'→RelV (o.getD .non) w'→Q w' s') :
  wpAny (model X.prog X.w) A (call (.builtin "dict.get") [.ref a,u]) Q E s:=by
 rcases g with ⟨kvs,k,e,ey,l⟩|⟨kvs,k,b,e,ey,eb,l⟩
 ·subst ey
  obtain⟨z,hd,vs,rel,dd⟩:=cY I.hok e
  refine call_meetsIn PySem.F.slot_dict_get dd.typeIs PySem.F.entry_dict_get (PySem.F.args_dict_get_2 _ _) (meets_dict_get (aN X.prog X.w) a (fg ry) hd) ⟨_,dd.mapOf,h _ _ (I.tok _) ?_⟩
  rw[l]
  exact (rel.val k).getD rfl
 ·subst ey
  cases (show u=Value.ref b from ry)
  obtain⟨z,hd,xs,rel,dd⟩:=fV I.hok e
  refine call_meetsIn PySem.F.slot_dict_get dd.typeIs PySem.F.entry_dict_get (PySem.F.args_dict_get_2 _ _) (meetsH_dict_get (tupleKind (aN X.prog X.w)) a b hd) ⟨tupleKind_room_in1 hu,k,xs,fC I.hok eb,dd,h _ _ (I.tok _) ?_⟩
  rw[l]
  exact (rel.val k).getD rfl
theorem va {Q:Value→Shared→Prop} (hu:A.units+1 < cLine) (I:Inv X pins σ H s) (g:DGet H a y o) (ry:RelV y u) (rd:RelV d r) (h:∀w' s',Inv X pins σ H s'→RelV (o.getD d) w'→Q w' s') :
  wpAny (model X.prog X.w) A (call (.builtin "dict.get") [.ref a,u,r]) Q E s:=by
 rcases g with ⟨kvs,k,e,ey,l⟩|⟨kvs,k,b,e,ey,eb,l⟩
 ·subst ey
  obtain⟨z,hd,vs,rel,dd⟩:=cY I.hok e
  refine call_meetsIn PySem.F.slot_dict_get dd.typeIs PySem.F.entry_dict_get (PySem.F.args_dict_get_3 _ _ _) (meets_dict_get_default (aN X.prog X.w) a (fg ry) hd r) ⟨_,dd.mapOf,h _ _ (I.tok _) ?_⟩
  rw[l]
  exact (rel.val k).getD rd
 ·subst ey
  cases (show u=Value.ref b from ry)
  obtain⟨z,hd,xs,rel,dd⟩:=fV I.hok e
  refine call_meetsIn PySem.F.slot_dict_get dd.typeIs PySem.F.entry_dict_get (PySem.F.args_dict_get_3 _ _ _) (meetsH_dict_get_default (tupleKind (aN X.prog X.w)) a b hd r) ⟨tupleKind_room_in1 hu,k,xs,fC I.hok eb,dd,h _ _ (I.tok _) ?_⟩
  rw[l]
  exact (rel.val k).getD rd
end
def uo (td ty:TE):TE:=fun σ H Q=>td σ H fun x H1=>∃a,x=.ref a∧IsD H1 a∧ty σ H1 fun y H2=>∃o,DGet H2 a y o∧Q (o.getD .non) H2
def um (td ty tx:TE):TE:=fun σ H Q=>td σ H fun x H1=>∃a,x=.ref a∧IsD H1 a∧ty σ H1 fun y H2=>tx σ H2 fun z H3=>∃o,DGet H3 a y o∧Q (o.getD z) H3
def uj (td ty:TE):TE:=fun σ H Q=>td σ H fun x H1=>∃a,x=.ref a∧IsD H1 a∧ty σ H1 fun y H2=>∃kvs k v,H2 a=some (.dK kvs)∧y=kV k∧valV kvs k=some v∧Q v (upd H2 a (.dK (iK kvs k)))
section
variable {X:Cx} {o e f:Expr} {apos cpos:Pos} {td ty tx:TE}
theorem pZ (hu:X.A.units+1 < cLine) (ho:PE X o td) (he:PE X e ty) (m:M1 X o "get" apos e cpos):PE X (.Call (.Attribute o "get" apos) [e] [] cpos) (uo td ty):=by
 intro pins s σ H Q I h
 refine wpAny_Call_method m.base m.few m.line PySem.F.plainAttrs_dict PySem.F.slot_dict_get PySem.F.type_dict_get (thn (ho pins s σ H _ I h) fun u s1 ⟨x,H1,I1,rx,a,ex,d,q1⟩=>?_)
 subst ex
 obtain rfl:u=Value.ref a:=rx
 obtain⟨t1,t2,_⟩:=ke I1 d
 refine⟨t1,t2,?_⟩
 rw[m.trees]
 refine Calls.callWith_builtin rfl (Calls.evalArgs_plain (Calls.spliced_cons (thn (he pins s1 σ H1 _ I1 q1) fun iv s2 ⟨y,H2,I2,ry,ov,g,q2⟩=>Calls.spliced_nil ?_)))
 exact vg hu I2 g ry fun w' s3 I3 rw'=>⟨_,H2,I3,rw',q2⟩
theorem pY (hu:X.A.units+1 < cLine) (ho:PE X o td) (he:PE X e ty) (hf:PE X f tx) (m:M2 X o "get" apos e f cpos):PE X (.Call (.Attribute o "get" apos) [e,f] [] cpos) (um td ty tx):=by
 intro pins s σ H Q I h
 refine wpAny_Call_method m.base m.few m.line PySem.F.plainAttrs_dict PySem.F.slot_dict_get PySem.F.type_dict_get (thn (ho pins s σ H _ I h) fun u s1 ⟨x,H1,I1,rx,a,ex,d,q1⟩=>?_)
 subst ex
 obtain rfl:u=Value.ref a:=rx
 obtain⟨t1,t2,_⟩:=ke I1 d
 refine⟨t1,t2,?_⟩
 rw[m.trees]
 refine Calls.callWith_builtin rfl (Calls.evalArgs_plain (Calls.spliced_cons (thn (he pins s1 σ H1 _ I1 q1) fun iv s2 ⟨y,H2,I2,ry,q2⟩=>
  Calls.spliced_cons (thn (hf pins s2 σ H2 _ I2 q2) fun fv s3 ⟨z,H3,I3,rz,ov,g,q3⟩=>Calls.spliced_nil ?_))))
 exact va hu I3 g ry rz fun w' s4 I4 rw'=>⟨_,H3,I4,rw',q3⟩
theorem kP (ho:PE X o td) (he:PE X e ty) (m:M1 X o "pop" apos e cpos):PE X (.Call (.Attribute o "pop" apos) [e] [] cpos) (uj td ty):=by
 intro pins s σ H Q I h
 refine wpAny_Call_method m.base m.few m.line PySem.F.plainAttrs_dict PySem.F.slot_dict_pop PySem.F.type_dict_pop (thn (ho pins s σ H _ I h) fun u s1 ⟨x,H1,I1,rx,a,ex,d,q1⟩=>?_)
 subst ex
 obtain rfl:u=Value.ref a:=rx
 obtain⟨t1,t2,_⟩:=ke I1 d
 refine⟨t1,t2,?_⟩
 rw[m.trees]
 refine Calls.callWith_builtin rfl (Calls.evalArgs_plain (Calls.spliced_cons (thn (he pins s1 σ H1 _ I1 q1) fun iv s2 ⟨y,H2,I2,ry,kvs,k,v,ea,ey,l,q2⟩=>Calls.spliced_nil ?_)))
 subst ey
 exact vW I2 ea ry l (.inl rfl) fun w' s3 I3 rw'=>⟨v,_,I3,rw',q2⟩
end
section
variable {X:Cx} {pins:List (Addr × Obj)} {σ:St} {H:Hp} {s:Shared} {a:Addr} {kvs:List (Key × V)} {A:Around} {E:Value→Shared→Prop}
theorem qZ {Q:Value→Shared→Prop} (I:Inv X pins σ H s) (e:Rd H a (.dK kvs)) (h:∀p s',H p=none→Inv X pins σ (upd H p (.dK kvs)) s'→Q (.ref p) s'):wpAny (model X.prog X.w) A (call (.type "dict") [.ref a]) Q E s:=by
 obtain⟨z,hd,vs,rel,dd⟩:=cY I.hok e
 refine kt_call_dict hd dd (by rw[←rel.length];exact z) fun h' dd' hs=>?_
 refine h _ _ (I.hok.fresh (Nat.le_refl _)) (I.laid (a:=s.heap.objs.size) (o:=.dK kvs) (t':=s.toks) (fun b q hq=>?_) (Nat.le_refl _) (gF z (beq_eq_false_iff_ne.mpr (Ne.symm (Nat.ne_of_lt I.big))) rel dd'))
 exact (hs.2 b (Nat.ne_of_lt (Heap.lt_size hq))).trans (Heap.get?_push_of_some _ hq)
end
section
variable {X:Cx} {pins:List (Addr × Obj)} {σ:St} {H:Hp} {s:Shared} {a:Addr} {y:V} {u:Value} {A:Around} {E:Value→Shared→Prop}
end
end L2
namespace Att
open PySem PySem.W PySem.Calls PyProof.Rows
theorem gR {P:Params} {h:Heap}:∀(ns:List Int) (vs:List Value),WellAll P h vs (ns.map WData.int)→IntsAre vs ns:=by
 intro ns
 induction ns with
 |nil=>
  intro vs w
  rw[List.map_nil] at w
  cases w
  exact .nil
 |cons n ns ih=>
  intro vs w
  rw[List.map_cons] at w
  cases w with
  |cons a b=>
   cases a
   exact .cons _ _ (ih _ b)
theorem ou {l:OpenLaw} {n:Nat} (hn:l.most=some n) {P:Params} {h:Heap} {args:List WData} {vals:List Value}
  (hpre:l.row.toRowW.claim.pre args=true) (hwl:WellAll P h vals args) :
  ∃a vs ns,vals=[Value.ref a]∧args=[WData.list (ns.map WData.int)]∧h.get? a=some {cls:=.type "list",data:=.seq vs.toArray}∧IntsAre vs ns∧ns.length≤n:=by
 have hsh:WShape.hasAll [] args [.list .int]=true:=(pre_splitW hpre).1
 have hc:l.pre.holds [] {args:=args}=true:=(pre_splitW hpre).2
 obtain⟨d,r,rfl,h1,h2⟩:=hasAllW_cons hsh
 obtain rfl:=hasAllW_nil h2
 obtain⟨xs,rfl,h3⟩:=hasW_list h1
 obtain⟨ns,rfl⟩:=items_int h3
 have hlen:ns.length≤n:=by
  unfold OpenLaw.pre at hc
  have h4:(WTm.not (.lt (.lit (.int (n:Int))) (.len (.arg 0)))).holds [] {args:=[.list (ns.map .int)]}=true:=by
   have h4:=(holds_andW hc).1
   rw[hn] at h4
   exact h4
  have h5:=condW_of h4 (w_not (w_lt w_lit (w_len_list (w_arg rfl))))
  rw[List.length_map] at h5
  refine Nat.le_of_not_lt fun q=>?_
  have q':(n:Int) < ((ns.length:Nat):Int):=by omega
  first
   |(rw[decide_eq_true q'] at h5;exact absurd h5 (by decide))
   |(simp at h5;omega)
 cases hwl with
 |cons w1 w2=>
  cases w2
  cases w1 with
  |list ho hall=>exact⟨_,_,ns,rfl,rfl,ho,gR ns _ hall,hlen⟩
theorem oB (l:OpenLaw) (args:List WData):l.row.toRowW.claim.post args (.bool true) args=true:=
 postW_of (r:=l.row.toRowW) (X:=(true==true))
  (show WShape.has [] (.bool true) .bool=true by first|rfl|decide|simp[WShape.has,WShape.arms,WShape.armsAll])
  (show (WTm.eq .res (.lit (.bool true))).value [] {args:=args,res:=some (.bool true),after:=args}=some (.bool (true==true)) from w_eq_bool (w_res rfl) w_lit) rfl
theorem attach_call {l:OpenLaw} {n:Nat} {q:Program} {loose:List Str} {XP:(Str→Option Value)→Heap→Prop} {YP:World→Heap→Prop} {d:DefRec}
  (hn:l.most=some n) (hdf:d.params.defaults=[])
  (call:∀(w:World) (s₀ s₁:Shared) (mg mb:Str→Option Value) (fa:Addr) (o:Obj) (pm cd doc:Value) (a:Addr) (vs:List Value) (ns:List Int),
   Ground q loose [] XP w s₀ mg mb s₁.heap→YP w s₁.heap →
   s₁.heap.get? fa=some o→o.data=.func (docDef d.name d.params d.body d.scope pm cd doc)→s₁.heap.CodeRec cd d.name→mg d.name=some (.ref fa) →
   s₁.heap.get? a=some {cls:=.type "list",data:=.seq vs.toArray}→IntsAre vs ns→ns.length≤n→s₁.gens=#[] →
   codeAny (model l.prog w) callerA (.call (.ref fa) ⟨[.ref a],[]⟩) (fun r s'=>r=.ok (.ret (.bool true))∧OldK s₁.heap s'.heap∧s'.os=s₁.os∧AllBare s'.gens) s₁) :
  WalkO q loose XP YP l.row.toRowW d [] (fun f vs=>PySem.call f vs):=by
 intro w s₀ s₁ mg mb G Y fa o pm cd doc dV kV ho hd hcd hD hmg hg args vals as hpre hlay hrd hwl hlo
 obtain rfl:dV=.none:=Dflts.none hD hdf
 obtain rfl:kV=.none:=Dflts.noKw hD
 obtain⟨a,vs,ns,rfl,rfl,hobj,hints,hlen⟩:=ou hn hpre hwl
 refine enter_call (codeAny_mono (call w s₀ s₁ mg mb fa o pm cd doc a vs ns G Y ho (fd_plain hd) hcd hmg hobj hints hlen hg) fun r s' hq=>?_)
 obtain⟨rfl,h2,h3,h4⟩:=hq
 exact⟨.inl ⟨.bool true,.bool true,[],rfl,fun _=>rfl,.bool true,oB l _,fun _=>⟨List.Pairwise.nil,fun _ hm=>(nomatch hm)⟩⟩,h2,h3,h4⟩
section
variable {prog:Program} {w:World} {A:Around} {E:Value→Shared→Prop} {s:Shared} {K:Frag}
end
end Att
namespace L2
open PySem PySem.Spec PyProof.Rows
theorem i_:∀{vs:List Value} {ns:List Int},IntsAre vs ns→Vals (ns.map V.int) vs
 |_,_,.nil=>.nil
 |_,_,.cons n t h=>.cons ⟨t,rfl⟩ (i_ h)
def Only (H:Hp):Prop:=∀b,H b=none∨∃o xs,H b=some (.frz o (.lst xs))
theorem qv {P:Program} {w:World} {K:W.Frag} {mg mb:Str→Option Value} {CX:CXT} {k:Nat} {fa a:Addr} {fd:FuncData} {x:Str} {sp:Sp} {s₁:Shared} {vs:List Value} {ns:List Int}
  (KX:K.In s₁.heap) (hns:s₁.heap.Ns mainGlobals mg) (hb:s₁.heap.Ns builtinsNs mb) (hbb:∀x:Str,x≠"__name__"→mb x=bootBuiltins x) (hlim:s₁.heap.NoLimit) (hg:s₁.gens=#[])
  (ha:s₁.heap.get? a=some {cls:=.type "list",data:=.seq vs.toArray}) (hi:IntsAre vs ns) (hl:ns.length≤sizeLine) (hr:Room k callerA)
  (F:∀base:Heap,K.In base→base.Ns mainGlobals mg→FnOk P w K mg base CX k fa fd [x] sp) (hbind:∀(s:Shared) (u:Value),BindsTo s fd ⟨[u],[]⟩ [(x,u)])
  (hsp:∀H:Hp,Only H→SqL K H a (ns.map V.int)→sp [.ref a] H (fun v _=>v=.bl true) fun _ _ _=>False)
  (hCX:∀H e s',CX [] H s₁ (fun _ _ _=>False) e s'→False) :
  codeAny (model P w) callerA (.call (.ref fa) ⟨[.ref a],[]⟩) (fun r s'=>r=.ok (.ret (.bool true))∧OldK s₁.heap s'.heap∧s'.os=s₁.os∧AllBare s'.gens) s₁:=by
 have rv:=i_ hi
 have lenV:=hi.length
 have core:∀H:Hp,Only H→SqL K H a (ns.map V.int)→HOk P w H s₁.heap→(∀b,H b≠none→b=a)→(H a≠none→K.lookup a=none) →
   codeAny (model P w) callerA (.call (.ref fa) ⟨[.ref a],[]⟩) (fun r s'=>r=.ok (.ret (.bool true))∧OldK s₁.heap s'.heap∧s'.os=s₁.os∧AllBare s'.gens) s₁:=by
  intro H hO hS hok hA hK
  have base_of:∀{b:Addr} {o:Obj},s₁.heap.get? b=some o→H b=none→(hidT s₁.heap H).get? b=some o:=fun e n=>qC e n
  have noA:∀{b:Addr} {o:Obj} {es:Array DictEntry} {ep:Nat},s₁.heap.get? b=some o→o.data=.dict es ep→H b=none:=fun {b o es ep} e d=>by
   cases q:H b with
   |none=>rfl
   |some u=>
    have e':b=a:=hA b (by rw[q];simp)
    subst e'
    rw[ha] at e;cases e
    have d':Data.seq vs.toArray _=Data.dict es ep:=d
    cases d'
  have nsK:∀{b:Addr} {m:Str→Option Value},s₁.heap.Ns b m→(hidT s₁.heap H).Ns b m:=fun {b m} ⟨o,es,ep,e,d,r⟩=>⟨o,es,ep,base_of e (noA e d),d,r⟩
  have hKb:K.In (hidT s₁.heap H):=fun b o e=>base_of (KX b o e) (by
   cases q:H b with
   |none=>rfl
   |some u=>
    have e':b=a:=hA b (by rw[q];simp)
    subst e'
    rw[hK (by rw[q];simp)] at e;cases e)
  have hM:Mod K mg (hidT s₁.heap H):=⟨hKb,nsK hns,⟨mb,nsK hb,hbb⟩,let ⟨mc,h1,h2⟩:=hlim;⟨mc,nsK h1,h2⟩⟩
  have e0:Env0 P w K mg (hidT s₁.heap H) callerA [] s₁ H:=⟨rfl,hM,fun b o e=>sT e,Nat.le_of_eq (oX _ _),trivial,fun b hb=>absurd (show b∈([]:List Addr) from hb) (by simp),hok,.of_eq hg⟩
  refine codeAny_mono ((F _ hKb (nsK hns)).run callerA [] s₁ H ⟨[.ref a],[]⟩ [.ref a] [.ref a] _ _ hr e0 (hbind s₁ (.ref a)) (.cons rfl .nil) (hsp H hO hS)) fun r s' h=>?_
  cases r with
  |error e=>exact (hCX H e s' h).elim
  |ok fl=>
   cases fl with
   |next=>exact False.elim h
   |brk=>exact False.elim h
   |cont=>exact False.elim h
   |ret u=>
    obtain⟨v,H',os,bare,un,hok',r',q⟩:=h
    have q':v=.bl true:=q
    subst q'
    obtain rfl:u=Value.bool true:=r'
    refine⟨rfl,OldK.of_keep fun b o e=>?_,os,bare⟩
    cases q:H b with
    |none=>exact un.keep b o e q (by intro z;exact absurd (show b∈([]:List Addr) from z) (by simp)) (by simp)
    |some u=>
     rcases hO b with z|⟨ob,xs,z⟩
     ·rw[q] at z;cases z
     ·have z2:=un.frzs b ob _ z
      obtain⟨e1,_⟩:=hok b _ z
      obtain⟨e2,_⟩:=hok' b _ z2
      rw[e] at e1;cases e1
      exact e2
 cases hk:K.lookup a with
 |some o=>
  have e:=KX a o hk
  rw[ha] at e
  cases e
  refine core (fun _=>none) (fun _=>.inl rfl) (.inr ⟨_,vs.toArray,_,hk,rfl,rfl,rfl,by rw[List.size_toArray,lenV];exact hl,by simpa using rv⟩) (fun b u z=>by have z':(none:Option HO)=some u:=z;cases z') (fun b z=>absurd rfl z) fun z=>absurd rfl z
 |none=>
  refine core (fun b=>if b=a then some (.frz {cls:=.type "list",data:=.seq vs.toArray} (.lst (ns.map V.int))) else none) (fun b=>?_) (.inl (.inr ⟨{cls:=.type "list",data:=.seq vs.toArray},if_pos rfl⟩)) (fun b u z=>?_) (fun b z=>?_) fun _=>hk
  ·by_cases hb:b=a
   ·exact .inr ⟨_,_,if_pos hb⟩
   ·exact .inl (if_neg hb)
  ·by_cases hb:b=a
   ·have z':=(if_pos hb).symm.trans z
    cases z'
    subst hb
    exact⟨ha,by rw[List.length_map];exact hl,vs,_,rv,ha⟩
   ·have z':=(if_neg hb).symm.trans z
    cases z'
  ·by_cases hb:b=a
   ·exact hb
   ·exact absurd (if_neg hb) z
end L2
namespace L2
open PySem PySem.Spec PyProof.Rows
theorem walk_of {l:W.OpenLaw} {n k:Nat} {q:Program} {loose:List Str} {XP:(Str→Option Value)→Heap→Prop} {YP:World→Heap→Prop} {d:DefRec} {K:Params→W.Frag} {CX:World→CXT} {sp:World→Sp} {x:Str}
  (hn:l.most=some n) (hn2:n≤sizeLine) (hdf:d.params.defaults=[]) (hr:Room k callerA)
  (hY:∀(w:World) (h:Heap),YP w h→(K w.params).In h)
  (F:∀(w:World) (mg:Str→Option Value) (fa:Addr) (h:Heap),(K w.params).In h→h.Ns mainGlobals mg→mg d.name=some (.ref fa) →
   ∃fd:FuncData,(∀(s:Shared) (u:Value),BindsTo s fd ⟨[u],[]⟩ [(x,u)]) ∧
    ∀base:Heap,(K w.params).In base→base.Ns mainGlobals mg→FnOk l.prog w (K w.params) mg base (CX w) k fa fd [x] (sp w))
  (hsp:∀(w:World) (H:Hp) (a:Addr) (ns:List Int),ns.length≤n→Only H→SqL (K w.params) H a (ns.map V.int)→sp w [.ref a] H (fun v _=>v=.bl true) fun _ _ _=>False)
  (hCX:∀(w:World) (H:Hp) (s:Shared) (e:Value) (s':Shared),CX w [] H s (fun _ _ _=>False) e s'→False) :
  W.WalkO q loose XP YP l.row.toRowW d [] (fun f vs=>PySem.call f vs):=by
 refine Att.attach_call hn hdf fun w s₀ s₁ mg mb fa o pm cd doc a vs ns G Y ho hd hcd hmg hobj hints hlen hg=>?_
 have KX:=hY w _ Y
 obtain⟨fd,hb,hF⟩:=F w mg fa _ KX G.T.g hmg
 exact qv KX G.T.g G.T.b G.T.builtins G.T.nolimit hg hobj hints (Nat.le_trans hlen hn2) hr hF hb (fun H hO hS=>hsp w H a ns hlen hO hS) fun H e s'=>hCX w H s₁ e s'
end L2
namespace L2
open PySem PySem.Spec PyProof.Rows
abbrev CX0:CXT:=fun _ _ _ _ _ _=>False
abbrev E0:XK:=fun _ _ _=>False
theorem pass0 {X:Cx}:Passes CX0 X E0:=fun _ _ _ _ _ _ _ h=>h.elim
structure Fun (K:W.Frag) (x qual:Str) (st:Stmt) (f:Addr) (fd:FuncData):Prop where
 ex:∃(oc:Value) (od:Option Addr) (kV doc pm:Value) (an:Option Addr) (cdv ct:Value) (osl:Array (Option Value)),
  fd=W.fnOf x qual (ao st) (am st) (af st) .none kV doc pm an cdv ct∧K.lookup f=some ⟨oc,od,.func fd,osl⟩∧W.codeIn K cdv qual=true
 kp:W.keepIn K (.ref f)=true
section
variable {P:Program} {w:World} {K:W.Frag} {mg:Str→Option Value} {base:Heap}
theorem Fun.ok {x qual:Str} {st:Stmt} {f:Addr} {fd:FuncData} {N ps:List Str} {k:Nat} {sp:Sp} (F:Fun K x qual st f fd) (S:aC N ps (af st)) (len:∀vs H Q E,sp vs H Q E→vs.length=ps.length)
  (hbody:∀(cdv:Value) (A:Around) (outer:List Env) (s:Shared) (H:Hp) (vs:List V) (Q:VK) (E:XK),Room k (A.deeper (envOfC qual (af st) s.heap.objs.size f cdv))→sp vs H Q E →
   ∃t,PSs (cxOf CX0 P w K mg base N qual (af st) f cdv A outer s H E).nox (am st) t∧t {nx:=fun _ H'=>Q .non H',rt:=Q} (start N vs) H):FnOk P w K mg base CX0 (k+1) f fd ps sp:=by
 obtain⟨oc,od,kV,doc,pm,an,cdv,ct,osl,rfl,lk,hcd⟩:=F.ex
 refine vU lk hcd S len fun A outer s H vs Q E hr hsp=>?_
 obtain⟨t,h,q⟩:=hbody cdv A outer s H vs Q E hr hsp
 exact⟨t,h.nox,q⟩
theorem Fun.binds {x qual:Str} {st:Stmt} {f:Addr} {fd:FuncData} {ps:List Str} (F:Fun K x qual st f fd)
  (h:∀(kV doc pm:Value) (an:Option Addr) (cdv ct:Value) (us:List Value),us.length=ps.length→bindArgs (W.fnOf x qual (ao st) (am st) (af st) .none kV doc pm an cdv ct) ⟨us,[]⟩=pure (ps.zip us)):Binds K fd ps []:=by
 obtain⟨oc,od,kV,doc,pm,an,cdv,ct,osl,rfl,lk,hcd⟩:=F.ex
 exact .all (h kV doc pm an cdv ct)
theorem qG {x qual:Str} {st:Stmt} {f:Addr} {oc:Value} {od an:Option Addr} {osl:Array (Option Value)} {kV doc pm cdv ct:Value} (l:K.lookup f=some ⟨oc,od,.func (W.fnOf x qual (ao st) (am st) (af st) .none kV doc pm an cdv ct),osl⟩)
  (c:W.codeIn K cdv qual=true) (k:W.keepIn K (.ref f)=true):Fun K x qual st f (W.fnOf x qual (ao st) (am st) (af st) .none kV doc pm an cdv ct):=⟨⟨oc,od,kV,doc,pm,an,cdv,ct,osl,rfl,l,c⟩,k⟩
end
theorem b_ {A:Around} {k:Nat} (hr:Room k A):A.units+1 < cLine:=Nat.lt_of_le_of_lt (Nat.add_le_add_left (by decide:1≤64) _) hr.units
section
variable {X:Cx}
theorem pv (i:Nat) {x:Str} {pos:Pos} (hN:X.N[i]? = some x:=by rfl) (hv:Vis X.env.scope x:=by first|exact Or.inl rfl|exact Or.inr (Or.inl rfl)|exact Or.inr (Or.inr rfl)) (hd:(x==("__debug__" : Str))=false:=by decide)
  (hcd:(x==("__classdict__" : Str))=false:=by decide):PE X (.Name x pos) (tVar i):=uD hN hv hd hcd
theorem pk:bM X (.builtin "len") (fun xs H Q=>∃a kvs,xs=[V.ref a]∧H a=some (.dK kvs)∧Q (.int kvs.length) H):=by
 intro pins s σ H xs us Q I r h
 obtain⟨a,kvs,rfl,ha,q⟩:=h
 obtain⟨u,rfl,ru⟩:=vals1 r
 cases ru
 exact vX I (.inl ha) fun t s' I'=>⟨.int kvs.length,H,I',⟨t,rfl⟩,q⟩
end
theorem iteF {A B:Prop} (h:B):if false=true then A else B:=by
 rw[if_neg Bool.false_ne_true]
 exact h
theorem iteT {A B:Prop} (h:A):if true=true then A else B:=by
 rw[if_pos rfl]
 exact h
theorem ite2 {c A B:Prop} [Decidable c] (h1:c→A) (h2:¬c→B):if c then A else B:=by
 by_cases h:c
 ·rw[if_pos h]
  exact h1 h
 ·rw[if_neg h]
  exact h2 h
def Same (H H':Hp):Prop:=∀b o,H b=some o→H' b=some o
theorem Same.refl (H:Hp):Same H H:=fun _ _ h=>h
theorem Same.trans {H H1 H2:Hp} (a:Same H H1) (b:Same H1 H2):Same H H2:=fun c o h=>b c o (a c o h)
theorem Same.free {H H':Hp} (e:Same H H') {l:Addr} (h:H' l=Option.none):H l=Option.none:=by
 cases q:H l with
 |none=>rfl
 |some o=>
  rw[e l o q] at h
  cases h
theorem Same.seq {K:W.Frag} {H H':Hp} {a:Addr} {xs:List V} (e:Same H H') (h:SqL K H a xs):SqL K H' a xs:=by
 rcases h with (h|⟨o,h⟩)|h
 ·exact .inl (.inl (e _ _ h))
 ·exact .inl (.inr ⟨o,e _ _ h⟩)
 ·exact .inr h
section
variable {κ:Type} [DecidableEq κ]
theorem rK {kvs:List (κ × V)} {k:κ} {v:V} (h:valV kvs k=some v):k∈kvs.map (·.1):=by
 have q:(kvs.any fun kv=>decide (kv.1=k))=true:=by
  rw[eB,h]
  all_goals rfl
 obtain⟨p,hp,e⟩:=List.any_eq_true.mp q
 exact List.mem_map.mpr ⟨p,hp,of_decide_eq_true e⟩
end
end L2
end
section
namespace L2
open PySem PySem.Spec PyProof.Rows
def clGo (env:Env):List (Str × NameKind)→List (Str × Addr)→List (Str × Addr)
 | [],cs=>cs
 |(n,k)::r,cs=>clGo env r (if k==.free then (n,(env.cells.lookup n).getD 0)::cs else cs)
theorem iQ (env:Env):∀(names:List (Str × NameKind)) (cs:List (Str × Addr)),(∀x∈names,x.2=.free→∃c,env.cells.lookup x.1=some c) →
  (forIn names cs (fun (x:Str × NameKind) (r:List (Str × Addr))=>(do
   if x.2==NameKind.free then
    let a ←cellOf env x.1
    pure (ForInStep.yield ((x.1,a)::r))
   else pure (ForInStep.yield r):Sem (ForInStep (List (Str × Addr))))))=pure (clGo env names cs)
 | [],cs,_=>rfl
 |(n,k)::r,cs,h=>by
  have ih:=fun cs=>iQ env r cs fun x hx=>h x (List.mem_cons_of_mem _ hx)
  rw[List.forIn_cons]
  by_cases hk:k=.free
  ·subst hk
   obtain⟨c,hc⟩:=h (n,.free) List.mem_cons_self rfl
   have e:cellOf env n=pure c:=by
    have hc':env.cells.lookup n=some c:=hc
    unfold cellOf
    rw[hc']
    try rfl
   rw[if_pos (show (((n,NameKind.free).2==NameKind.free)=true) from rfl),e]
   refine Eq.trans ?_ ((ih ((n,c)::cs)).trans ?_)
   ·rfl
   ·have hc':env.cells.lookup n=some c:=hc
    show pure (clGo env r ((n,c)::cs))=pure (clGo env r ((n,(env.cells.lookup n).getD 0)::cs))
    rw[hc']
    rfl
  ·have hb:(k==NameKind.free)=false:=by simpa using hk
   rw[if_neg (show ¬(((n,k).2==NameKind.free)=true) by rw[show ((n,k).2==NameKind.free)=false from hb];simp)]
   refine Eq.trans ?_ ((ih cs).trans ?_)
   ·rfl
   ·show pure (clGo env r cs)=pure (clGo env r (if (k==NameKind.free)=true then _ else cs))
    rw[hb]
    rfl
theorem fI {scope:Scope} {env:Env} (h:∀x∈scope.names,x.2=.free→∃c,env.cells.lookup x.1=some c):closureFor scope env=pure (clGo env scope.names []):=by
 have e:=iQ env scope.names [] h
 unfold closureFor
 simp only[bind_pure_comp,map_pure] at e ⊢
 first
  |(rw[e];rfl)
  |exact e
theorem n9 {env:Env}:∀{names:List (Str × NameKind)} {cs:List (Str × Addr)} {x:Str} {c:Addr},(∀y∈names,y.2=.free→∃c,env.cells.lookup y.1=some c) →
  (clGo env names cs).lookup x=some c→env.cells.lookup x=some c∨cs.lookup x=some c
 | [],cs,x,c,_,h=>.inr h
 |(n,k)::r,cs,x,c,hf,h=>by
  have hf':∀y∈r,y.2=.free→∃c,env.cells.lookup y.1=some c:=fun y hy=>hf y (List.mem_cons_of_mem _ hy)
  rcases n9 (names:=r) hf' h with q|q
  ·exact .inl q
  ·by_cases hk:(k==NameKind.free)=true
   ·rw[if_pos hk] at q
    have hk':k=.free:=by simpa using hk
    obtain⟨c',e⟩:=hf (n,k) List.mem_cons_self hk'
    have e:env.cells.lookup n=some c':=e
    rw[List.lookup_cons] at q
    cases hx:x==n with
    |true=>
     rw[hx] at q
     have hx':x=n:=by simpa using hx
     subst hx'
     rw[e] at q
     have q':c' = c:=by simpa using q
     exact .inl (q' ▸ e)
    |false=>
     rw[hx] at q
     exact .inr q
   ·rw[if_neg hk] at q
    exact .inr q
theorem iP {env:Env}:∀{names:List (Str × NameKind)} {cs:List (Str × Addr)} {x:Str},((x,NameKind.free)∈names∨(cs.lookup x).isSome=true)→((clGo env names cs).lookup x).isSome=true
 | [],cs,x,h=>by
  rcases h with h|h
  ·simp at h
  ·exact h
 |(n,k)::r,cs,x,h=>by
  refine iP (names:=r) ?_
  rcases h with h|h
  ·rcases List.mem_cons.mp h with e|e
   ·cases e
    refine .inr ?_
    rw[if_pos (by rfl),List.lookup_cons,beq_self_eq_true]
    rfl
   ·exact .inl e
  ·refine .inr ?_
   by_cases hk:(k==NameKind.free)=true
   ·rw[if_pos hk,List.lookup_cons]
    cases hx:x==n with
    |true=>rfl
    |false=>exact h
   ·rw[if_neg hk]
    exact h
theorem eO (env:Env):∀(names:List (Str × NameKind)) (x:Str),
  (names.map fun (n,k)=>if (k==NameKind.free&&env.scope.kind==.function&&env.kindOf n==some .cell) then (n,NameKind.cell) else (n,k)).lookup x=(names.lookup x).map fun k=>if (k==NameKind.free&&env.scope.kind==.function&&env.kindOf x==some .cell) then NameKind.cell else k
 | [],_=>rfl
 |(n,k)::r,x=>by
  have ih:=eO env r x
  rw[List.map_cons]
  dsimp only at ih ⊢
  by_cases hc:(k==NameKind.free&&env.scope.kind==.function&&env.kindOf n==some .cell)=true
  ·rw[if_pos hc,List.lookup_cons,List.lookup_cons]
   cases hx:x==n with
   |true=>
    have hx':x=n:=by simpa using hx
    subst hx'
    simp only[Option.map_some,hc,if_true]
   |false=>exact ih
  ·rw[if_neg hc,List.lookup_cons,List.lookup_cons]
   cases hx:x==n with
   |true=>
    have hx':x=n:=by simpa using hx
    subst hx'
    simp only[Option.map_some]
    rw[if_neg hc]
   |false=>exact ih
def cC (X:Cx) (N:List Str) (scope:Scope) (C:Addr) (s:Shared) (H:Hp) (fp:List Addr) (pins:List (Addr × Obj)):Cx:=
 {X with N:=N,s₀:=s,H₀:=H,env:=compEnvC scope (clGo X.env scope.names []) C X.env,outer:=X.stack,ex:=fp,fn:=fun _=>false,pn:=X.pn++pins,xe:=fun _ _=>False}
def eu (fr:List (Option Nat)) (σ:St):St:=fr.map fun o=>o.bind fun i=>(σ[i]?).join
structure bh (X:Cx) (N:List Str) (fr:List (Option Nat)) (scope:Scope):Prop where
 nd:N.Nodup
 len:fr.length=N.length
 kind:scope.kind=.function
 nocell:∀y∈scope.names,y.2≠.cell
 names:∀y∈scope.names,y.2=.local→scope.names.lookup y.1=some .local
 frees:∀y∈scope.names,y.2=.free→X.env.kindOf y.1=some .cell∨X.env.kindOf y.1=some .free
 fr:∀(j i:Nat) (x:Str),fr[j]? = some (some i)→N[j]? = some x→X.N[i]? = some x∧scope.names.lookup x=some .free
section
variable {X:Cx} {pins:List (Addr × Obj)} {σ:St} {H:Hp} {s:Shared} {N:List Str} {fr:List (Option Nat)} {scope:Scope} {fp:List Addr}
theorem bh.cells (S:bh X N fr scope) (ok:X.Ok):∀y∈scope.names,y.2=.free→∃c,X.env.cells.lookup y.1=some c:=fun y hy hf=>ok.has y.1 (S.frees y hy hf)
theorem cB {names:List (Str × NameKind)} {x:Str} {k:NameKind} (h:names.lookup x=some k):(x,k)∈names:=PySem.mem_of_lookup h
theorem jq {X:Cx} {C:Addr} {x:Str}:(compEnvC scope (clGo X.env scope.names []) C X.env).kindOf x=(scope.names.lookup x).map fun k=>if (k==NameKind.free&&X.env.scope.kind==.function&&X.env.kindOf x==some .cell) then NameKind.cell else k:=eO X.env scope.names x
theorem bh.free_of (S:bh X N fr scope) {C:Addr} {x:Str} (h:(compEnvC scope (clGo X.env scope.names []) C X.env).kindOf x=some .cell∨(compEnvC scope (clGo X.env scope.names []) C X.env).kindOf x=some .free):scope.names.lookup x=some .free:=by
 rw[jq] at h
 cases e:scope.names.lookup x with
 |none=>rw[e] at h;simp at h
 |some k=>
  rw[e] at h
  have nc:=S.nocell _ (cB e)
  cases k with
  |free=>rfl
  |cell=>exact absurd rfl nc
  |_=>
   exfalso
   rcases h with h|h <;> simp at h
theorem pi {X:Cx} {C:Addr} {x:Str} (h:scope.names.lookup x=some .free):(compEnvC scope (clGo X.env scope.names []) C X.env).kindOf x=some .cell∨(compEnvC scope (clGo X.env scope.names []) C X.env).kindOf x=some .free:=by
 rw[jq,h,Option.map_some]
 by_cases c:(NameKind.free==NameKind.free&&X.env.scope.kind==.function&&X.env.kindOf x==some .cell)=true
 ·rw[if_pos c];exact .inl rfl
 ·rw[if_neg c];exact .inr rfl
end
end L2
end
section
namespace L2
open PySem PySem.Spec PyProof.Rows
section
variable {X:Cx} {pins:List (Addr × Obj)} {σ:St} {H:Hp} {s:Shared} {N:List Str} {fr:List (Option Nat)} {scope:Scope} {fp:List Addr}
theorem iN {C:Addr} {h1:Heap} {m:Str→Option Value} {t:Nat} (S:bh X N fr scope) (I:Inv X pins σ H s) (hf:∀b∈fp,FpOk X pins H b) (hC:s.heap.objs.size≤C) (hfC:∀b∈fp,b≠C)
  (hn:h1.Ns C m) (hk:∀b o,s.heap.get? b=some o→h1.get? b=some o):Inv (cC X N scope C s H fp pins) [] (eu fr σ) H {s with heap:=h1,toks:=t}:=by
 have hcl:=S.cells I.ok
 have sub:∀x c,(clGo X.env scope.names []).lookup x=some c→X.env.cells.lookup x=some c:=fun x c e=>by
  rcases n9 hcl e with q|q
  ·exact q
  ·simp at q
 have ok:(cC X N scope C s H fp pins).Ok:=by
  refine⟨I.ok.mod,S.kind,I.ok.glob,I.ok.blt,hC,fun x y c h1 h2=>I.ok.inj x y c (sub x c h1) (sub y c h2),fun x hx=>?_,fun x c e=>absurd e (by show ¬(false=true);decide),I.ok.hd,I.ok.frames,.inl rfl,fun b hb=>?_,fun b o e=>I.bs b o e,Nat.le_trans I.ok.bsz I.sz,fun b o e hb=>?_,fun b hb=>?_,I.stack,I.stkFree⟩
  ·have e:=S.free_of hx
   exact Option.isSome_iff_exists.mp (iP (.inl (cB e)))
  ·exact⟨hfC b hb,fun x c e=>(hf b hb).2.2.2.2.1 x c (sub x c e)⟩
  ·rcases (hf b hb).2.2.2.1 with z|z
   ·exact I.ok.noex b o e z
   ·exact absurd (Nat.lt_of_lt_of_le (Heap.lt_size e) (Nat.le_trans I.ok.bsz z)) (Nat.lt_irrefl _)
  ·intro z
   rcases List.mem_cons.mp (I.stkSub b z) with q|q
   ·exact (hf b hb).2.1 q
   ·exact (hf b hb).2.2.1 q
 have hfresh:H C=none:=I.hok.fresh hC
 refine⟨ok,rfl,I.bare,Un.kept hk,⟨m,hn,fun j x v e1 e2 e3=>?_⟩,fun x c e=>?_,hfresh,fun x c e=>I.freeC x c (sub x c e),fun p hp=>?_,I.hok.kept hk,?_⟩
 ·have e2:(eu fr σ)[j]? = some (some v):=e2
  unfold eu at e2
  rw[List.getElem?_map] at e2
  cases q:fr[j]? with
  |none=>rw[q] at e2;cases e2
  |some o=>
   rw[q] at e2
   cases o with
   |none=>cases e2
   |some i=>
    have e2:(σ[i]?).join=some v:=Option.some.inj e2
    obtain⟨hi,hfree⟩:=S.fr j i x q e1
    have hσ:σ[i]? = some (some v):=by
     cases z:σ[i]? with
     |none=>rw[z] at e2;cases e2
     |some y=>rw[z] at e2;cases y with
      |none=>cases e2
      |some y'=>have e2:some y' = some v:=e2;rw[e2]
    obtain⟨m0,_,hl⟩:=I.loc
    have hcf:X.env.kindOf x=some .cell∨X.env.kindOf x=some .free:=S.frees (x,.free) (cB hfree) rfl
    have hvis:Vis X.env.scope x:=hcf.elim (fun z=>.inr (.inl z)) fun z=>.inr (.inr z)
    obtain⟨u,r,lk⟩:=hl i x v hi hσ hvis
    rcases lk with ⟨z,_⟩|⟨_,c,ec,hcell⟩
    ·rcases hcf with y|y <;> (rw[y] at z;cases z)
    ·refine⟨u,r,.inr ⟨pi hfree,?_⟩⟩
     obtain⟨c',ec'⟩:=Option.isSome_iff_exists.mp (iP (env:=X.env) (names:=scope.names) (cs:=[]) (.inl (cB hfree)))
     have:=sub x c' ec'
     rw[ec] at this
     cases this
     obtain⟨o,ho,hd⟩:=hcell
     exact⟨c,ec',o,hk c o ho,hd⟩
 ·obtain⟨v,o,ho,hd⟩:=I.cell x c (sub x c e)
  exact⟨v,o,hk c o ho,hd⟩
 ·have hp:p∈(X.pn++pins)++[]:=hp
  rw[List.append_nil] at hp
  obtain⟨e,n,ne,nf,d⟩:=I.pin p hp
  refine⟨hk _ _ e,n,fun z=>?_,fun z=>?_,d⟩
  ·have z:p.1=C:=z
   exact absurd (Nat.lt_of_lt_of_le (Heap.lt_size e) hC) (by rw[z];exact Nat.lt_irrefl _)
  ·rcases List.mem_cons.mp (I.stkSub p.1 z) with q|q
   ·exact ne q
   ·exact nf q
 ·show (eu fr σ).length=N.length
  unfold eu
  rw[List.length_map]
  exact S.len
theorem lH {C:Addr} {H2:Hp} {s':Shared} {σ':St} {p':List (Addr × Obj)} (I:Inv X pins σ H s) (hf:∀b∈fp,FpOk X pins H b) (hC:s.heap.objs.size≤C) (J:Inv (cC X N scope C s H fp pins) p' σ' H2 s') :
  Inv X pins σ H2 s'∧FpOk X pins H2 C:=by
 have J0:Inv X pins σ H2 s':=I.call' J.os J.base J.hok J.bare fun b hb=>⟨(hf b hb).2.2.2.1,(hf b hb).2.1,(hf b hb).2.2.2.2.1,(hf b hb).2.2.2.2.2⟩
 exact⟨J0,I.fpOk hC J.free⟩
end
end L2
end
section
namespace L2
open PySem PySem.Spec PyProof.Rows
def PIf (X:Cx) (ifs:List Expr) (t:TT):Prop:=
 ∀(pins:List (Addr × Obj)) (s:Shared) (σ:St) (H:Hp) (Q:Bool→Hp→Prop),Inv X pins σ H s→t σ H Q →
  wpAny (model X.prog X.w) X.A (forIn ifs true fun c r=>if r=true then do let ok ←isTrue c X.env (eval c X.env);pure (ForInStep.yield ok) else pure (ForInStep.yield r)) (TP X pins σ Q) X.xe s
theorem cf {X:Cx}:PIf X [] (fun _ H Q=>Q true H):=fun _ _ _ H _ I h=>wpAny_tests_nil ⟨H,I,h⟩
theorem ef {X:Cx} {c:Expr} {t:TT} (h:PT X c t):PIf X [c] t:=fun pins s σ H Q I q=>wpAny_tests_one (h pins s σ H Q I q)
def fm (J:It) (g:TG) (tt:TT) (te:TE) (D:Addr) (σ':St) (H1:Hp) (Q:Hp→Prop):Prop:=
 ∃W:Nat→Nat→St→List V→Hp→Prop,(∃m,W 0 m σ' [] (upd H1 D (.lst [])))∧∀i m σ ys H,W i m σ ys H →
  (J.stop i H∧Q H)∨(J.go i H∧∃N:St→List V→Hp→Prop,(∀σ' ys' H',N σ' ys' H'→∃m',m' < m∧W (i+1) m' σ' ys' H')∧∀x H',J.yld i H x H'→g x σ H' fun σ2 H2=>tt σ2 H2 fun b H3=>
   if b=true then te σ2 H3 fun y H4=>H4 D=some (.lst ys)∧ys.length < sizeLine∧N σ2 (ys++[y]) (upd H4 D (.lst (ys++[y]))) else N σ2 ys H3)
theorem ph {P:Program} {w:World} {A:Around} {elt target iter:Expr} {ifs:List Expr} {scope:Scope} {pos:Pos} {it acc:Value} {env:Env} {R:Result→Shared→Prop} {s:Shared} (I:Nat→Shared→Prop)
  (turn:∀n s,I n s→wpAny (model P w) A (pyNext it) (fun r s1=>match r with
   |none=>R (.ok .next) s1
   |some v=>wpAny (model P w) A (letOwnedTupleGo target it v) (fun _ s1'=>wpAny (model P w) A (assign target env v) (fun _ s2=>
     wpAny (model P w) A (forIn ifs true fun c r=>if r=true then do let ok ←isTrue c env (eval c env);pure (ForInStep.yield ok) else pure (ForInStep.yield r)) (fun ok s3=>
      if ok=true then wpAny (model P w) A (eval elt env) (fun x s4=>
       wpAny (model P w) A (call (.builtin "list.append") [acc,x]) (fun _ s5=>∃m,m < n∧I m s5) (fun _ _=>False) s4) (fun _ _=>False) s3
      else ∃m,m < n∧I m s3) (fun _ _=>False) s2) (fun _ _=>False) s1') (fun _ _=>False) s1) (fun _ _=>False) s)
  (n:Nat) (h:I n s) :
  codeAny (model P w) A (.compLoop (.ListComp elt [⟨target,iter,ifs,0⟩] scope pos) 0 it acc env) R s:=by
 have no:∀(e:Value) (t:Shared),False→notedBy (model P w) A env (fun e s'=>R (.error e) s') e t:=fun _ _ z=>z.elim
 refine codeAny_loop rfl I (fun n s hI=>?_) n h
 refine wpAny_noted ?_
 rw[compTurn_list]
 refine wpAny_bind (wpAny_standAt (wpAny_bind (wpAny_mono (turn n s hI) (fun r s1 h1=>?_) no)))
 cases r with
 |none=>exact wpAny_pure h1
 |some v=>
  refine wpAny_bind (wpAny_mono h1 (fun _ s1' h1'=>?_) no)
  refine wpAny_bind (wpAny_mono h1' (fun _ s2 h2=>wpAny_bind (wpAny_mono h2 (fun ok s3 h3=>?_) no)) no)
  cases ok with
  |false=>exact wpAny_pure ⟨rfl,h3⟩
  |true=>
   exact wpAny_bind (wpAny_bind (wpAny_mono h3 (fun x s4 h4=>wpAny_bind (wpAny_mono h4 (fun _ s5 h5=>wpAny_pure (wpAny_pure ⟨rfl,h5⟩)) no)) no))
section
variable {X:Cx} {pins:List (Addr × Obj)} {σ:St} {H:Hp} {s:Shared} {N:List Str} {fr:List (Option Nat)} {scope:Scope} {fp:List Addr}
theorem rf {elt target iter:Expr} {ifs:List Expr} {pos:Pos} {it D:Addr} {tn:Nat→Heap→Prop} {J:It} {g:TG} {tt:TT} {te:TE} {R:Result→Shared→Prop} {s1:Shared} {σ1:St} {H1:Hp} {Q:Hp→Prop}
  {Y:Cx} (hY:Y.xe=fun _ _=>False) (hc:Y.calm=true) (I:Inv Y [] σ1 (upd H1 D (.lst [])) s1) (T:Turn Y.prog Y.w Y.K target J fp it tn) (ht:tn 0 s1.heap) (hf:∀b∈fp,FpOk Y [] (upd H1 D (.lst [])) b)
  (hg:PG Y target g) (hi:PIf Y ifs tt) (he:PE Y elt te) (h:fm J g tt te D σ1 H1 Q) (hR:∀s' σ' H',Inv Y [] σ' H' s'→Q H'→R (.ok .next) s') :
  codeAny (model Y.prog Y.w) Y.A (.compLoop (.ListComp elt [⟨target,iter,ifs,0⟩] scope pos) 0 (.ref it) (.ref D) Y.env) R s1:=by
 obtain⟨W,⟨m0,w0⟩,turn⟩:=h
 have stat:∀{H':Hp},(∀b∈fp,H' b=none)→∀b∈fp,FpOk Y [] H' b:=fun hn b hb=>⟨hn b hb,(hf b hb).2⟩
 refine ph (fun n s'=>∃i σ' ys H',Inv Y [] σ' H' s'∧tn i s'.heap∧(∀b∈fp,H' b=none)∧W i n σ' ys H') ?_ m0 ⟨0,σ1,[],_,I,ht,fun b hb=>(hf b hb).1,w0⟩
 rintro n s3 ⟨i,σ3,ys,H3,I3,st3,fr3,w3⟩
 have back:∀{α:Type} {t:Sem α} {Q:α→Shared→Prop} {s:Shared},wpAny (model Y.prog Y.w) Y.A t Q Y.xe s→wpAny (model Y.prog Y.w) Y.A t Q (fun _ _=>False) s:=fun h=>by rw[hY] at h;exact h
 rcases turn i n σ3 ys H3 w3 with ⟨stop,qn⟩|⟨go,N',hN',step⟩
 ·refine thn (T.done Y rfl rfl rfl hc i [] s3 σ3 H3 _ I3 (stat fr3) st3 stop) fun r s4 ⟨hr,I4⟩=>?_
  subst hr
  exact hR s4 σ3 H3 I4 qn
 ·refine thn (T.item Y rfl rfl rfl hc i [] s3 σ3 H3 _ I3 (stat fr3) st3 go) fun r s4 ⟨u,hr,h4⟩=>?_
  subst hr
  refine thn h4 fun _ s5 ⟨x,H5,I5,r5,y5,st5,fr5⟩=>?_
  have I5':=I5.pinned (stat fr5) (T.obj _ _ st5)
  rw[List.nil_append] at I5'
  refine thn (back (hg _ s5 σ3 H5 x u _ I5' r5 (step x H5 y5))) fun _ s6 ⟨σ6,H6,I6,q6⟩=>?_
  refine thn (back (hi _ s6 σ6 H6 _ I6 q6)) fun b s7 ⟨H7,I7,q7⟩=>?_
  have again:∀{σ7:St} {H7:Hp} {s7:Shared} {ys':List V},Inv Y (gv fp s5.heap) σ7 H7 s7→(∃m',m' < n∧W (i+1) m' σ7 ys' H7)→∃m,m < n∧∃i σ' ys H',Inv Y [] σ' H' s7∧tn i s7.heap∧(∀b∈fp,H' b=none)∧W i m σ' ys H':=fun {σ7 H7 s7 ys'} I7 ⟨m',hm,w7⟩=>by
   refine⟨m',hm,i+1,σ7,ys',H7,I7.pins_of (fun p hp=>by simp at hp),T.keep _ _ _ st5 fun b hb o e=>(I7.pin (b,o) (List.mem_append_right _ (ck hb e))).1,fun b hb=>?_,w7⟩
   obtain⟨o,e,d⟩:=T.obj _ _ st5 b hb
   exact (I7.pin (b,o) (List.mem_append_right _ (ck hb e))).2.1
  cases b with
  |false=>
   rw[if_neg Bool.false_ne_true] at q7
   rw[if_neg Bool.false_ne_true]
   exact again I7 (hN' _ _ _ q7)
  |true=>
   rw[if_pos rfl] at q7
   rw[if_pos rfl]
   refine thn (back (he _ s7 σ6 H7 _ I7 q7)) fun v s8 ⟨y,H8,I8,r8,hD,hl,q8⟩=>?_
   refine thn (back (aR _ s8 σ6 H8 (.ref D) [y] (.ref D) [v] (fun _ H'=>N' σ6 (ys++[y]) H') I8 rfl (.cons r8 .nil) ⟨D,ys,y,rfl,rfl,hD,hl,q8⟩)) fun _ s9 ⟨_,H9,I9,_,q9⟩=>?_
   exact again I9 (hN' _ _ _ q9)
end
end L2
end
section
namespace L2
open PySem PySem.Spec PyProof.Rows
def nj (wi:TI) (g:TG) (tt:TT) (te:TE) (fr:List (Option Nat)):TE:=fun σ H Q=>wi σ H fun J H1=>∀D,H1 D=none→fm J g tt te D (eu fr σ) H1 fun H2=>Q (.ref D) H2
section
variable {X:Cx} {N:List Str} {fr:List (Option Nat)} {scope:Scope} {elt tg iter:Expr} {ifs:List Expr} {pos:Pos} {wi:TI} {g:TG} {tt:TT} {te:TE}
def PComp (X:Cx) (N:List Str) (scope:Scope) (tg:Expr) (ifs:List Expr) (elt:Expr) (g:TG) (tt:TT) (te:TE):Prop:=
 ∀(C:Addr) (s:Shared) (H:Hp) (fp:List Addr) (pins:List (Addr × Obj)),PG (cC X N scope C s H fp pins) tg g∧PIf (cC X N scope C s H fp pins) ifs tt∧PE (cC X N scope C s H fp pins) elt te
theorem iO {pins:List (Addr × Obj)} {σ:St} {s:Shared} {itv:Value} {Z:Value→Addr→Result→Shared→Prop} {QQ:Addr→Hp→Prop} {E:Value→Shared→Prop} (S:bh X N fr scope) (hc:X.calm=true)
  (hb:PComp X N scope tg ifs elt g tt te) (h2:PIE X pins σ tg (fun J H1=>∀D,H1 D=none→fm J g tt te D (eu fr σ) H1 (QQ D)) itv s)
  (hZ:∀D C s' H',Inv X pins σ H' s'→FpOk X pins H' C→(∃m,s'.heap.Ns C m)→QQ D H'→Z (.ref D) C (.ok .next) s') :
  wpAny (model X.prog X.w) X.A (newList []) (fun acc s3=>wpAny (model X.prog X.w) X.A (newFunctionEnv scope X.env.globals (clGo X.env scope.names []) [] X.env.qual none .none (some X.env)) (fun cenv s4=>
   codeAny (model X.prog X.w) X.A (.compStart (.ListComp elt [⟨tg,iter,ifs,0⟩] scope pos) 0 itv acc {cenv with scope:=relabel scope X.env}) (Z acc cenv.locals) s4) E s3) E s:=by
 obtain⟨it,fp,tn,J,H1,e,I2,T,st2,f2,q⟩:=h2
 subst e
 have hD:H1 s.heap.objs.size=none:=I2.hok.fresh (Nat.le_refl _)
 have old:∀b∈fp,b < s.heap.objs.size:=fun b hb=>by
  obtain⟨o,e,_⟩:=T.obj _ _ st2 b hb
  exact Heap.lt_size e
 refine wpAny_newObj_type (wpAny_newFunctionEnv S.nocell (by intro y hy;simp at hy) (fun h1 hns hsb=>?_) S.kind)
 dsimp only at hns hsb ⊢
 have I3:Inv X pins σ (upd H1 s.heap.objs.size (.lst [])) {s with heap:=s.heap.push {cls:=.type "list",dict:=none,data:=.seq ([]:List Value).toArray}}:=by
  refine I2.laid (t':=s.toks) (fun b u e=>Heap.get?_push_of_some _ e) (Nat.le_refl _) ?_
  exact⟨Nat.zero_le _,[],_,.nil,Heap.get?_push_size _ rfl⟩
 have f3:∀b∈fp,FpOk X pins (upd H1 s.heap.objs.size (.lst [])) b:=fun b hb=>⟨by rw[au (Nat.ne_of_lt (old b hb))];exact (f2 b hb).1,(f2 b hb).2⟩
 have hsz:(s.heap.push {cls:=.type "list",dict:=none,data:=.seq ([]:List Value).toArray}).objs.size=s.heap.objs.size+1:=Heap.size_push ..
 have I4:=iN (C:=(s.heap.push {cls:=.type "list",dict:=none,data:=.seq ([]:List Value).toArray}).objs.size) (h1:=h1) (t:=s.toks+([]:List (Str × Value)).length) (fp:=fp) S I3 f3 (Nat.le_refl _)
  (fun b hb=>by rw[hsz];exact Nat.ne_of_lt (Nat.lt_succ_of_lt (old b hb))) hns fun b o e=>hsb.extBut b o (Nat.ne_of_lt (Heap.lt_size e)) (Heap.get?_push_of_some _ e)
 have st4:tn 0 h1:=T.keep _ _ _ st2 fun b hb o e=>by
  have e1:=Heap.get?_push_of_some {cls:=.type "list",dict:=none,data:=.seq ([]:List Value).toArray} e
  exact hsb.extBut b o (Nat.ne_of_lt (Heap.lt_size e1)) (Heap.get?_push_of_some _ e1)
 have f4:∀b∈fp,FpOk (cC X N scope (s.heap.push {cls:=.type "list",dict:=none,data:=.seq ([]:List Value).toArray}).objs.size {s with heap:=s.heap.push {cls:=.type "list",dict:=none,data:=.seq ([]:List Value).toArray}} (upd H1 s.heap.objs.size (.lst [])) fp pins) [] (upd H1 s.heap.objs.size (.lst [])) b:=fun b hb=>by
  refine⟨(f3 b hb).1,(I4.ok.exf b hb).1,I4.ok.exfs b hb,.inl hb,(I4.ok.exf b hb).2,fun p hp=>?_⟩
  have hp:p∈(X.pn++pins)++[]:=hp
  rw[List.append_nil] at hp
  exact (f3 b hb).2.2.2.2.2 p hp
 obtain⟨b1,b2,b3⟩:=hb (s.heap.push {cls:=.type "list",dict:=none,data:=.seq ([]:List Value).toArray}).objs.size {s with heap:=s.heap.push {cls:=.type "list",dict:=none,data:=.seq ([]:List Value).toArray}} (upd H1 s.heap.objs.size (.lst [])) fp pins
 have run:=rf (Y:=cC X N scope (s.heap.push {cls:=.type "list",dict:=none,data:=.seq ([]:List Value).toArray}).objs.size {s with heap:=s.heap.push {cls:=.type "list",dict:=none,data:=.seq ([]:List Value).toArray}} (upd H1 s.heap.objs.size (.lst [])) fp pins) (elt:=elt) (iter:=iter) (pos:=pos) (scope:=scope) (R:=Z (.ref s.heap.objs.size) (s.heap.push {cls:=.type "list",dict:=none,data:=.seq ([]:List Value).toArray}).objs.size) rfl hc I4 T st4 f4 b1 b2 b3 (q _ hD) fun s' σ' H' I' q'=>by
  obtain⟨J1,F1⟩:=lH I3 f3 (Nat.le_refl _) I'
  obtain⟨m,hm,_⟩:=I'.loc
  exact hZ _ _ s' H' J1 F1 ⟨m,hm⟩ q'
 exact codeAny_compStart_list run (T.self _ 0 _ _ _ st4 run)
theorem bJ (S:bh X N fr scope) (hc:X.calm=true) (hi:PI X tg iter wi) (hb:PComp X N scope tg ifs elt g tt te)
  (hs:∀x,foldedSetIterable iter X.env x=pure x:=by intro _;rfl):PE X (.ListComp elt [⟨tg,iter,ifs,0⟩] scope pos) (nj wi g tt te fr):=by
 intro pins s σ H Q I h
 rw[eval_ListComp]
 refine wpAny_comprehension_free (use:=none) rfl hs (fI (S.cells I.ok)) S.kind S.names (thn (hi pins s σ H _ I h) fun v s1 h1=>thn h1 fun itv s2 h2=>?_)
 refine iO (QQ:=fun D H2=>Q (.ref D) H2) (Z:=fun acc C=>compPost (model X.prog X.w) X.A X.xe none (EP X pins σ Q) acc C) S hc hb h2 fun D C s' H' J F hm q=>?_
 obtain⟨m,hm⟩:=hm
 refine⟨m,hm,fun h' hs'=>⟨.ref D,H',?_,rfl,q⟩⟩
 exact J.turned (t':=s'.toks) (fun b o hb e=>hs'.extBut b o hb e) F.1 F.2.1 F.2.2.2.1 F.2.2.2.2.1 F.2.2.2.2.2
theorem jY {i:Nat} {x:Str} {pos' spos:Pos} (S:bh X N fr scope) (hc:X.calm=true) (hi:PI X tg iter wi) (hb:PComp X N scope tg ifs elt g tt te) (hN:X.N.Nodup) (hx:X.N[i]? = some x) (hl:Loc X.env.scope x)
  (hsw:swapsWith (.ListComp elt [⟨tg,iter,ifs,0⟩] scope pos) (some (.Name x pos')) spos.line X.env=pure true:=by rfl)
  (hf:X.fn x=true∨X.env.scope.names.lookup x=some .local:=by first|exact .inl rfl|exact .inr rfl|assumption)
  (hs:∀x,foldedSetIterable iter X.env x=pure x:=by intro _;rfl):PS X (.Assign [.Name x pos'] (.ListComp elt [⟨tg,iter,ifs,0⟩] scope pos) spos) (tAsg (nj wi g tt te fr) (cF i)):=by
 intro pins s σ H D I h
 rw[exec_Assign_Name_used _ _ _ _ hsw]
 refine wpAny_bind (wpAny_standAt (wpAny_bind ?_))
 show wpAny _ _ (do let _ ←comprehension (.ListComp elt [⟨tg,iter,ifs,0⟩] scope pos) scope X.env _ (newList []) false (eval iter X.env) (some (assign (.Name x pos') X.env))) _ _ s
 refine wpAny_bind (thn (wpAny_comprehension_free (use:=some (assign (.Name x pos') X.env)) (Q:=fun _ s'=>SP X pins D .next s') rfl hs (fI (S.cells I.ok)) S.kind S.names (thn (hi pins s σ H _ I h) fun v s1 h1=>thn h1 fun itv s2 h2=>?_)) fun _ s' hq=>wpAny_pure (wpAny_pure hq))
 refine iO (QQ:=fun d H2=>D.nx (σ.set i (some (.ref d))) H2) (Z:=fun acc C=>compPost (model X.prog X.w) X.A X.xe (some (assign (.Name x pos') X.env)) (fun _ s'=>SP X pins D .next s') acc C) S hc hb h2 fun d C s' H' J F hm q=>?_
 obtain⟨m,hm⟩:=hm
 show wpAny _ _ (assign (.Name x pos') X.env (.ref d)) _ _ s'
 refine wpAny_assign_Name (ja J hN hx hl (v:=.ref d) rfl (fun s2 I2 ⟨a,sb,ha⟩=>?_) hf)
 have hCa:C≠a:=by
  rcases ha with e|e
  ·rw[e];exact F.2.1
  ·exact fun z=>F.2.2.2.2.1 x a e z.symm
 refine⟨m,hm.sameBut sb hCa,fun h' hs'=>⟨_,H',?_,q⟩⟩
 exact I2.turned (t':=s2.toks) (fun b o hb e=>hs'.extBut b o hb e) F.1 F.2.1 F.2.2.2.1 F.2.2.2.2.1 F.2.2.2.2.2
end
section
variable {K:W.Frag} {a D:Addr} {xs:List V} {g:TG} {tt:TT} {te:TE} {σ':St} {H1:Hp} {Q:Hp→Prop}
theorem bf (Pv:Nat→St→List V→Hp→Prop) (h0:Pv 0 σ' [] (upd H1 D (.lst []))) (hl:∀i σ ys H,i≤xs.length→Pv i σ ys H→SqL K H a xs)
  (hs:∀i x σ ys H,xs[i]? = some x→Pv i σ ys H→g x σ H fun σ2 H2=>tt σ2 H2 fun b H3=>
   if b=true then te σ2 H3 fun y H4=>H4 D=some (.lst ys)∧ys.length < sizeLine∧Pv (i+1) σ2 (ys++[y]) (upd H4 D (.lst (ys++[y]))) else Pv (i+1) σ2 ys H3)
  (hd:∀σ ys H,Pv xs.length σ ys H→Q H):fm (Itl K a) g tt te D σ' H1 Q:=by
 refine⟨fun i m σ ys H=>m=xs.length - i∧i≤xs.length∧Pv i σ ys H,⟨xs.length,by simp,Nat.zero_le _,h0⟩,?_⟩
 rintro i m σ ys H ⟨rfl,hi,p⟩
 have q:=hl i σ ys H hi p
 by_cases hlt:i < xs.length
 ·refine .inr ⟨⟨xs,xs[i],q,by simp[hlt]⟩,Pv (i+1),fun σ' ys' H' p'=>⟨xs.length - (i+1),by omega,rfl,hlt,p'⟩,fun x H' y=>?_⟩
  obtain⟨e,y⟩:=y
  subst e
  exact hs i x σ ys _ (y xs q) p
 ·have e:i=xs.length:=by omega
  subst e
  exact .inl ⟨⟨xs,q,Nat.le_refl _⟩,hd σ ys H p⟩
theorem iM (Pv:Nat→St→List V→Hp→Prop) (h0:Pv 0 σ' [] (upd H1 D (.lst []))) (hl:∀i σ ys H,i≤xs.length→Pv i σ ys H→SqT K H a xs)
  (hs:∀i x σ ys H,xs[i]? = some x→Pv i σ ys H→g x σ H fun σ2 H2=>tt σ2 H2 fun b H3=>
   if b=true then te σ2 H3 fun y H4=>H4 D=some (.lst ys)∧ys.length < sizeLine∧Pv (i+1) σ2 (ys++[y]) (upd H4 D (.lst (ys++[y]))) else Pv (i+1) σ2 ys H3)
  (hd:∀σ ys H,Pv xs.length σ ys H→Q H):fm (Itt K a) g tt te D σ' H1 Q:=by
 refine⟨fun i m σ ys H=>m=xs.length - i∧i≤xs.length∧Pv i σ ys H,⟨xs.length,by simp,Nat.zero_le _,h0⟩,?_⟩
 rintro i m σ ys H ⟨rfl,hi,p⟩
 have q:=hl i σ ys H hi p
 by_cases hlt:i < xs.length
 ·refine .inr ⟨⟨xs,xs[i],q,by simp[hlt]⟩,Pv (i+1),fun σ' ys' H' p'=>⟨xs.length - (i+1),by omega,rfl,hlt,p'⟩,fun x H' y=>?_⟩
  obtain⟨e,y⟩:=y
  subst e
  exact hs i x σ ys _ (y xs q) p
 ·have e:i=xs.length:=by omega
  subst e
  exact .inl ⟨⟨xs,q,Nat.le_refl _⟩,hd σ ys H p⟩
theorem mY {lo:Int} {n:Nat} (Pv:Nat→St→List V→Hp→Prop) (h0:Pv 0 σ' [] (upd H1 D (.lst [])))
  (hs:∀i σ ys H,i < n→Pv i σ ys H→g (.int (lo+i)) σ H fun σ2 H2=>tt σ2 H2 fun b H3=>
   if b=true then te σ2 H3 fun y H4=>H4 D=some (.lst ys)∧ys.length < sizeLine∧Pv (i+1) σ2 (ys++[y]) (upd H4 D (.lst (ys++[y]))) else Pv (i+1) σ2 ys H3)
  (hd:∀σ ys H,Pv n σ ys H→Q H):fm (Itr lo n) g tt te D σ' H1 Q:=by
 refine⟨fun i m σ ys H=>m=n - i∧i≤n∧Pv i σ ys H,⟨n,by simp,Nat.zero_le _,h0⟩,?_⟩
 rintro i m σ ys H ⟨rfl,hi,p⟩
 by_cases hlt:i < n
 ·refine .inr ⟨hlt,Pv (i+1),fun σ' ys' H' p'=>⟨n - (i+1),by omega,rfl,hlt,p'⟩,fun x H' y=>?_⟩
  obtain⟨e,y⟩:=y
  subst e y
  exact hs i σ ys _ hlt p
 ·have e:i=n:=by omega
  subst e
  exact .inl ⟨Nat.le_refl _,hd σ ys H p⟩
end
end L2
end
section
namespace TimS
open PySem PySem.W PyProof.Rows
theorem half {u w:Nat} (h:¬u ≥ w):u≤(u+w) / 2∧(u+w) / 2 < w:=by omega
theorem half' {u w:Nat} (h:¬u ≥ w):u≤u+(w - u) / 2∧u+(w - u) / 2 < w:=by omega
theorem fewer {u w k t m:Nat} (h:w - u≤k - t) (h1:m < w) (h2:u≤m):m - u≤k - (t+1):=by omega
theorem fewer' {u w k t m:Nat} (h:w - u≤k - t) (h1:m < w) (h2:u≤m):w - (m+1)≤k - (t+1):=by omega
abbrev SM:=StateT SortSt Sem
def gal:Bool→Keyed→Array Keyed→Nat→Nat→Nat→SM (Option Nat):=sortPriv% PySem.Builtin.gallop
def mlo:Array Keyed→Array Keyed→SM (Array Keyed):=sortPriv% PySem.Builtin.mergeLo
def mhi:Array Keyed→Array Keyed→SM (Array Keyed):=sortPriv% PySem.Builtin.mergeHi
def smg:Nat→SM Unit:=sortPriv% PySem.Builtin.setMinGallop
def bey (l:Bool) (q:Keyed) (v:Array Keyed) (o i:Nat):SM (Option Bool):=do
 let x ←elem' v (o+i)
 if l then lt' x q else return (←lt' q x).map (!·)
theorem u5 (l:Bool) (q:Keyed) (v:Array Keyed) (o n h:Nat):gal l q v o n h=(do
 let mut z:=0
 let mut c:=1
 let mut u:=0
 let mut w:=0
 let some r ←bey l q v o h|return none
 if r then
  let m:=n - h
  for _ in [0:n] do
   if c ≥ m then break
   let some g ←bey l q v o (h+c)|return none
   if !g then break
   z:=c
   c:=2 * c+1
  u:=h+z+1
  w:=h+min c m
 else
  let m:=h+1
  for _ in [0:n] do
   if c ≥ m then break
   let some g ←bey l q v o (h - c)|return none
   if g then break
   z:=c
   c:=2 * c+1
  u:=h+1 - min c m
  w:=h - z
 for _ in [0:n] do
  if u ≥ w then break
  let m:=u+(w - u) / 2
  let some g ←bey l q v o m|return none
  if g then u:=m+1 else w:=m
 return some w):=rfl
theorem uO (x y:Array Keyed):mlo x y=(do
 rule "list.sort.merge-lo"
 let T:=x.size+y.size
 let fa (v:Array Keyed) (i j:Nat):=v++x.extract i x.size++y.extract j y.size
 let fb (v:Array Keyed) (i j:Nat):=v++y.extract j y.size++x.extract i x.size
 let mut v:Array Keyed:=#[←elem' y 0]
 let mut i:=0
 let mut j:=1
 if j==y.size then return fa v i j
 if i+1==x.size then return fb v i j
 let mut g:=gallopOf (←get)
 for _ in [0:T] do
  let mut c:=0
  let mut d:=0
  for _ in [0:T] do
   let some b ←lt' (←elem' y j) (←elem' x i)|return fa v i j
   if b then
    v:=v.push (←elem' y j);j:=j+1;d:=d+1;c:=0
    if j==y.size then return fa v i j
    if d ≥ g then break
   else
    v:=v.push (←elem' x i);i:=i+1;c:=c+1;d:=0
    if i+1==x.size then return fb v i j
    if c ≥ g then break
  rule "list.sort.gallop"
  g:=g+1
  for _ in [0:T] do
   if g > 1 then g:=g - 1
   smg g
   let some k ←gal false (←elem' y j) x i (x.size - i) 0|return fa v i j
   c:=k
   if k > 0 then
    v:=v++x.extract i (i+k);i:=i+k
    if i+1==x.size then return fb v i j
    if i==x.size then return fa v i j
   v:=v.push (←elem' y j);j:=j+1
   if j==y.size then return fa v i j
   let some k ←gal true (←elem' x i) y j (y.size - j) 0|return fa v i j
   d:=k
   if k > 0 then
    v:=v++y.extract j (j+k);j:=j+k
    if j==y.size then return fa v i j
   v:=v.push (←elem' x i);i:=i+1
   if i+1==x.size then return fb v i j
   if c < 7&&d < 7 then break
  g:=g+1
  smg g
 unsupported "internal:list.sort.merge-bound"):=rfl
def G (a:Array Keyed) (i:Nat):Keyed:=a.getD i (Value.none,Value.none)
structure Cmp (M:Model) (A:Around) (E:Value→Shared→Prop) (s:Shared) (κ:SortKind) (N:Keyed→Prop) (lt:Keyed→Keyed→Bool):Prop where
 asym:∀x y,lt x y=true→lt y x=false
 tr:∀x y z,lt y x=false→lt z y=false→lt z x=false
 ask:∀{x y:Keyed} {st:SortSt} {Q:Option Bool→SortSt→Prop},N x→N y→kindOf st=κ→Q (some (lt x y)) st→wpS M A E s (lt' x y) Q st
section
variable {M:Model} {A:Around} {E:Value→Shared→Prop} {s:Shared} {κ:SortKind} {N:Keyed→Prop} {lt:Keyed→Keyed→Bool}
theorem oj {a:Array Keyed} {i:Nat} (h:i < a.size):a[i]? = some (G a i):=by
 simp[G,Array.getD,h]
theorem aQ {a:Array Keyed} {i:Nat} {Q:Keyed→SortSt→Prop} {st:SortSt} (h:i < a.size) (q:Q (G a i) st):wpS M A E s (elem' a i) Q st:=by
 rw[elem'_eq,oj h];exact wpS_pure q
theorem Cmp.refl (C:Cmp M A E s κ N lt) (x:Keyed):lt x x=false:=by
 cases h:lt x x with
 |false=>rfl
 |true=>have z:=C.asym x x h;rw[h] at z;cases z
theorem Cmp.ltle (C:Cmp M A E s κ N lt) {x y z:Keyed} (h:lt x y=true) (h2:lt z y=false):lt x z=true:=by
 cases q:lt x z with
 |true=>rfl
 |false=>have:=C.tr _ _ _ h2 q;rw[h] at this;cases this
theorem Cmp.lelt (C:Cmp M A E s κ N lt) {x y z:Keyed} (h:lt y x=false) (h2:lt y z=true):lt x z=true:=by
 cases q:lt x z with
 |true=>rfl
 |false=>have:=C.tr _ _ _ q h;rw[h2] at this;cases this
theorem eQ {x:String} {Q:Unit→SortSt→Prop} {st:SortSt} (h:Q () st):wpS M A E s (liftM (rule x):SM Unit) Q st:=wpS_lift (wpAny_rule ⟨rfl,h⟩)
def bv (lt:Keyed→Keyed→Bool) (l:Bool) (q:Keyed) (v:Array Keyed) (o i:Nat):Bool:=if l then lt (G v (o+i)) q else !lt q (G v (o+i))
theorem gg (C:Cmp M A E s κ N lt) {l:Bool} {q:Keyed} {v:Array Keyed} {o i:Nat} {st:SortSt} {Q:Option Bool→SortSt→Prop} (hN:∀i,i < v.size→N (G v i)) (hq:N q) (hi:o+i < v.size) (hk:kindOf st=κ) (h:Q (some (bv lt l q v o i)) st):wpS M A E s (bey l q v o i) Q st:=by
 unfold bey
 refine wpS_bind (aQ hi ?_)
 cases l with
 |true=>exact C.ask (hN _ hi) hq hk h
 |false=>exact wpS_bind (C.ask hq (hN _ hi) hk (wpS_pure h))
theorem ge {l:Bool} {q:Keyed} {v:Array Keyed} {o n h:Nat} {st:SortSt} {Q:Option Nat→SortSt→Prop} (b:Nat→Bool) (hb:∀i,i < n→∀Q:Option Bool→SortSt→Prop,Q (some (b i)) st→wpS M A E s (bey l q v o i) Q st)
  (mo:∀i j,i≤j→j < n→b j=true→b i=true) (hh:h < n) (hQ:∀k,k≤n→(∀i,i < k→b i=true)→(∀i,k≤i→i < n→b i=false)→Q (some k) st):wpS M A E s (gal l q v o n h) Q st:=by
 have mf:∀i j,i≤j→j < n→b i=false→b j=false:=fun i j a c d=>by
  cases e:b j with
  |false=>rfl
  |true=>rw[mo i j a c e] at d;cases d
 have tail:∀(u w:Nat),u≤w→w≤n→(∀i,i < u→b i=true)→(∀i,w≤i→i < n→b i=false)→wpS M A E s (do
   let mut u:=u
   let mut w:=w
   for _ in [0:n] do
    if u ≥ w then break
    let m:=u+(w - u) / 2
    let some g ←bey l q v o m|return none
    if g then u:=m+1 else w:=m
   return some w) Q st:=by
  intro u w h1 h2 h3 h4
  dsimp only
  refine wpS_bind (wpS_mono (wpS_forRange (I:=fun i x st'=>st' = st∧x.1=none∧x.2.1≤x.2.2∧x.2.2≤n∧x.2.2 - x.2.1≤n - i∧(∀i,i < x.2.1→b i=true)∧(∀i,x.2.2≤i→i < n→b i=false)) (Q:=fun x st'=>st' = st∧x.1=none∧x.2.1=x.2.2∧x.2.2≤n∧(∀i,i < x.2.1→b i=true)∧(∀i,x.2.2≤i→i < n→b i=false)) ?step ?fin ⟨rfl,rfl,h1,h2,by show w - u≤n - 0;omega,h3,h4⟩) ?post)
  case fin=>
   rintro⟨r,u,w⟩ st' ⟨rfl,e,a1,a2,a3,a4,a5⟩
   have a1:u≤w:=a1
   have a3:w - u≤n - max 0 n:=a3
   exact⟨rfl,e,by show u=w;omega,a2,a4,a5⟩
  case step=>
   rintro i ⟨r,u,w⟩ st' _ hi ⟨rfl,e,a1,a2,a3,a4,a5⟩
   have a1:u≤w:=a1
   have a2:w≤n:=a2
   have a3:w - u≤n - i:=a3
   have a4:∀i,i < u→b i=true:=a4
   have a5:∀i,w≤i→i < n→b i=false:=a5
   dsimp only
   by_cases c:u ≥ w
   ·rw[if_pos c]
    exact wpS_pure ⟨rfl,rfl,by show u=w;omega,a2,a4,a5⟩
   ·rw[if_neg c]
    obtain⟨m1,m2⟩:=half' c
    generalize u+(w - u) / 2=m at m1 m2 ⊢
    refine wpS_bind (hb _ (Nat.lt_of_lt_of_le m2 a2) _ ?_)
    dsimp only
    cases hm:b m with
    |true=>
     rw[if_pos rfl]
     exact wpS_pure ⟨rfl,rfl,m2,a2,fewer' a3 m2 m1,fun k hk=>mo k m (Nat.le_of_lt_succ hk) (Nat.lt_of_lt_of_le m2 a2) hm,a5⟩
    |false=>
     rw[if_neg (by decide)]
     exact wpS_pure ⟨rfl,rfl,m1,Nat.le_of_lt (Nat.lt_of_lt_of_le m2 a2),fewer a3 m2 m1,a4,fun k hk h'=>mf _ k hk h' hm⟩
  case post=>
   rintro⟨r,u,w⟩ st' ⟨rfl,e,a1,a2,a3,a4⟩
   have e:r=none:=e
   cases e
   cases (show u=w from a1)
   exact wpS_pure (hQ u a2 a3 a4)
 rw[u5]
 dsimp only
 refine wpS_bind (hb h hh _ ?_)
 dsimp only
 cases b0:b h with
 |true=>
  rw[if_pos rfl]
  refine wpS_bind (wpS_mono (wpS_forRange (β:=Option (Option Nat) × Nat × Nat) (I:=fun i x st'=>st' = st∧x.1=none∧b (h+x.2.1)=true∧h+x.2.1 < n∧x.2.1 < x.2.2∧i < x.2.2) (Q:=fun x st'=>st' = st∧x.1=none∧b (h+x.2.1)=true∧h+x.2.1 < n∧x.2.1 < x.2.2∧(x.2.2 ≥ n - h∨b (h+x.2.2)=false)) ?s1 ?f1 ⟨rfl,rfl,b0,hh,Nat.lt_succ_self 0,Nat.lt_succ_self 0⟩) ?p1)
  case f1=>
   rintro⟨r,z,c⟩ st' ⟨rfl,e,a1,a2,a3,a4⟩
   have a4:max 0 n < c:=a4
   exact⟨rfl,e,a1,a2,a3,.inl (by show c ≥ n - h;omega)⟩
  case s1=>
   rintro i ⟨r,z,c⟩ st' _ hi ⟨rfl,e,a1,a2,a3,a4⟩
   have a1:b (h+z)=true:=a1
   have a2:h+z < n:=a2
   have a3:z < c:=a3
   have a4:i < c:=a4
   dsimp only
   by_cases c1:c ≥ n - h
   ·rw[if_pos c1];exact wpS_pure ⟨rfl,rfl,a1,a2,a3,.inl c1⟩
   ·rw[if_neg c1]
    refine wpS_bind (hb _ (by omega) _ ?_)
    dsimp only
    cases hm:b (h+c) with
    |true=>
     rw[if_neg (by decide)]
     exact wpS_pure ⟨rfl,rfl,hm,by show h+c < n;omega,by show c < 2 * c+1;omega,by show i+1 < 2 * c+1;omega⟩
    |false=>
     rw[if_pos (by decide)]
     exact wpS_pure ⟨rfl,rfl,a1,a2,a3,.inr hm⟩
  case p1=>
   rintro⟨r,z,c⟩ st' ⟨rfl,e,a1,a2,a3,a4⟩
   have e:r=none:=e
   subst e
   have a1:b (h+z)=true:=a1
   have a2:h+z < n:=a2
   have a3:z < c:=a3
   have a4:c ≥ n - h∨b (h+c)=false:=a4
   dsimp only
   refine tail (h+z+1) (h+min c (n - h)) (by omega) (by omega) (fun i hi=>mo i (h+z) (by omega) a2 a1) (fun i hi hn=>?_)
   rcases a4 with a4|a4
   ·omega
   ·by_cases c1:c ≥ n - h
    ·omega
    ·exact mf (h+c) i (by omega) hn a4
 |false=>
  rw[if_neg (by decide)]
  refine wpS_bind (wpS_mono (wpS_forRange (β:=Option (Option Nat) × Nat × Nat) (I:=fun i x st'=>st' = st∧x.1=none∧b (h - x.2.1)=false∧x.2.1≤h∧x.2.1 < x.2.2∧i < x.2.2) (Q:=fun x st'=>st' = st∧x.1=none∧b (h - x.2.1)=false∧x.2.1≤h∧x.2.1 < x.2.2∧(x.2.2 ≥ h+1∨b (h - x.2.2)=true)) ?s2 ?f2 ⟨rfl,rfl,b0,Nat.zero_le _,Nat.lt_succ_self 0,Nat.lt_succ_self 0⟩) ?p2)
  case f2=>
   rintro⟨r,z,c⟩ st' ⟨rfl,e,a1,a2,a3,a4⟩
   have a4:max 0 n < c:=a4
   exact⟨rfl,e,a1,a2,a3,.inl (by show c ≥ h+1;omega)⟩
  case s2=>
   rintro i ⟨r,z,c⟩ st' _ hi ⟨rfl,e,a1,a2,a3,a4⟩
   have a1:b (h - z)=false:=a1
   have a2:z≤h:=a2
   have a3:z < c:=a3
   have a4:i < c:=a4
   dsimp only
   by_cases c1:c ≥ h+1
   ·rw[if_pos c1];exact wpS_pure ⟨rfl,rfl,a1,a2,a3,.inl c1⟩
   ·rw[if_neg c1]
    refine wpS_bind (hb _ (by omega) _ ?_)
    dsimp only
    cases hm:b (h - c) with
    |true=>
     rw[if_pos rfl]
     exact wpS_pure ⟨rfl,rfl,a1,a2,a3,.inr hm⟩
    |false=>
     rw[if_neg (by decide)]
     exact wpS_pure ⟨rfl,rfl,hm,by show c≤h;omega,by show c < 2 * c+1;omega,by show i+1 < 2 * c+1;omega⟩
  case p2=>
   rintro⟨r,z,c⟩ st' ⟨rfl,e,a1,a2,a3,a4⟩
   have e:r=none:=e
   subst e
   have a1:b (h - z)=false:=a1
   have a2:z≤h:=a2
   have a3:z < c:=a3
   have a4:c ≥ h+1∨b (h - c)=true:=a4
   dsimp only
   refine tail (h+1 - min c (h+1)) (h - z) (by omega) (by omega) (fun i hi=>?_) (fun i hi hn=>mf (h - z) i (by omega) hn a1)
   rcases a4 with a4|a4
   ·omega
   ·by_cases c1:c ≥ h+1
    ·omega
    ·exact mo i (h - c) (by omega) (by omega) a4
end
theorem uP (x y:Array Keyed):mhi x y=(do
 rule "list.sort.merge-hi"
 let T:=x.size+y.size
 let fa (v:Array Keyed) (i j:Nat):=x.extract 0 i++y.extract 0 j++v.reverse
 let fb (v:Array Keyed) (i j:Nat):=y.extract 0 j++x.extract 0 i++v.reverse
 let mut i:=x.size - 1
 let mut j:=y.size
 let mut v:Array Keyed:=#[←elem' x i]
 if i==0 then return fa v i j
 if j==1 then return fb v i j
 let mut g:=gallopOf (←get)
 for _ in [0:T] do
  let mut c:=0
  let mut d:=0
  for _ in [0:T] do
   let some b ←lt' (←elem' y (j - 1)) (←elem' x (i - 1))|return fa v i j
   if b then
    i:=i - 1;v:=v.push (←elem' x i);c:=c+1;d:=0
    if i==0 then return fa v i j
    if c ≥ g then break
   else
    j:=j - 1;v:=v.push (←elem' y j);d:=d+1;c:=0
    if j==1 then return fb v i j
    if d ≥ g then break
  rule "list.sort.gallop"
  g:=g+1
  for _ in [0:T] do
   if g > 1 then g:=g - 1
   smg g
   let some p ←gal false (←elem' y (j - 1)) x 0 i (i - 1)|return fa v i j
   let k:=i - p
   c:=k
   if k > 0 then
    v:=v++(x.extract p i).reverse;i:=p
    if i==0 then return fa v i j
   j:=j - 1;v:=v.push (←elem' y j)
   if j==1 then return fb v i j
   let some p ←gal true (←elem' x (i - 1)) y 0 j (j - 1)|return fa v i j
   let k:=j - p
   d:=k
   if k > 0 then
    v:=v++(y.extract p j).reverse;j:=p
    if j==1 then return fb v i j
    if j==0 then return fa v i j
   i:=i - 1;v:=v.push (←elem' x i)
   if i==0 then return fa v i j
   if c < 7&&d < 7 then break
  g:=g+1
  smg g
 unsupported "internal:list.sort.merge-bound"):=rfl
theorem ur (g:Nat):smg g=modify fun s=>SortSt.mk' (kindOf s) (arrOf s) (pendingOf s) g (failedOf s):=rfl
theorem uQ (i:Nat):mergeAt' i=(do
 let s ←get
 let (some (p,m,e),some (q,n,_)):=((pendingOf s)[i]?,(pendingOf s)[i+1]?)|unsupported "internal:list.sort.pending"
 set (setPending s (((pendingOf s).setIfInBounds i (p,m+n,e)).eraseIdxIfInBounds (i+1)))
 let some k ←gal false (←elem' (arrOf s) q) (arrOf s) p m 0|return false
 let (p,m):=(p+k,m - k)
 if m==0 then return true
 let some n ←gal true (←elem' (arrOf s) (p+m - 1)) (arrOf s) q n (n - 1)|return false
 if n==0 then return true
 let x:=(arrOf s).extract p q
 let y:=(arrOf s).extract q (q+n)
 let r ←if m≤n then mlo x y else mhi x y
 modify fun s=>setArr s (r.toList.zipIdx.foldl (fun a (z,j)=>a.setIfInBounds (p+j) z) (arrOf s))
 return (failedOf (←get)).isNone):=rfl
section
variable {M:Model} {A:Around} {E:Value→Shared→Prop} {s:Shared} {κ:SortKind} {N:Keyed→Prop} {lt:Keyed→Keyed→Bool}
def Asc (lt:Keyed→Keyed→Bool) (x:Array Keyed):Prop:=∀i j,i≤j→j < x.size→lt (G x j) (G x i)=false
def Srt (lt:Keyed→Keyed→Bool) (l:List Keyed):Prop:=l.Pairwise fun a b=>lt b a=false
structure MI (lt:Keyed→Keyed→Bool) (x y v:Array Keyed) (i j:Nat):Prop where
 ix:i≤x.size
 jy:j≤y.size
 pm:v.toList.Perm (x.toList.take i++y.toList.take j)
 so:Srt lt v.toList
 bx:∀a∈v.toList,∀k,i≤k→k < x.size→lt (G x k) a=false
 by_:∀a∈v.toList,∀k,j≤k→k < y.size→lt (G y k) a=false
def Good (lt:Keyed→Keyed→Bool) (x y v:Array Keyed):Prop:=v.toList.Perm (x.toList++y.toList)∧Srt lt v.toList
theorem MI.sw {x y v:Array Keyed} {i j:Nat} (h:MI lt x y v i j):MI lt y x v j i:=⟨h.jy,h.ix,h.pm.trans List.perm_append_comm,h.so,h.by_,h.bx⟩
theorem uh {x:Array Keyed} {i:Nat} (h:i < x.size):x.toList.take (i+1)=x.toList.take i++[G x i]:=by
 rw[List.take_add_one,Array.getElem?_toList,oj h];rfl
theorem MI.push {x y v:Array Keyed} {i j:Nat} (hx:Asc lt x) (h:MI lt x y v i j) (hi:i < x.size) (hy:∀k,j≤k→k < y.size→lt (G y k) (G x i)=false):MI lt x y (v.push (G x i)) (i+1) j:=by
 refine⟨hi,h.jy,?_,?_,fun a ha k h1 h2=>?_,fun a ha k h1 h2=>?_⟩
 ·rw[Array.toList_push,uh hi,List.append_assoc]
  refine (h.pm.append_right _).trans ?_
  rw[List.append_assoc]
  exact List.Perm.append_left _ List.perm_append_comm
 ·unfold Srt
  rw[Array.toList_push,List.pairwise_append]
  refine⟨h.so,List.pairwise_singleton _ _,fun a ha b hb=>?_⟩
  rw[List.mem_singleton.mp hb]
  exact h.bx a ha i (Nat.le_refl _) hi
 ·rw[Array.toList_push] at ha
  rcases List.mem_append.mp ha with ha|ha
  ·exact h.bx a ha k (by omega) h2
  ·rw[List.mem_singleton.mp ha];exact hx i k (by omega) h2
 ·rw[Array.toList_push] at ha
  rcases List.mem_append.mp ha with ha|ha
  ·exact h.by_ a ha k h1 h2
  ·rw[List.mem_singleton.mp ha];exact hy k h1 h2
theorem tZ {x v:Array Keyed} {i k:Nat} (h:i+k < x.size):v++x.extract i (i+(k+1))=(v++x.extract i (i+k)).push (G x (i+k)):=by
 apply Array.toList_inj.mp
 rw[Array.toList_push,Array.toList_append,Array.toList_append,Array.toList_extract,Array.toList_extract,List.extract_eq_take_drop,List.extract_eq_take_drop,List.append_assoc]
 congr 1
 rw[show i+(k+1) - i=k+1 by omega,show i+k - i=k by omega,List.take_add_one,List.getElem?_drop,Array.getElem?_toList,oj h]
 rfl
theorem MI.chunk {x y v:Array Keyed} {i j:Nat} (hx:Asc lt x) (h:MI lt x y v i j):∀(k:Nat),i+k≤x.size→(∀m,m < k→∀k',j≤k'→k' < y.size→lt (G y k') (G x (i+m))=false)→MI lt x y (v++x.extract i (i+k)) (i+k) j
 |0,_,_=>by
  have e:v++x.extract i (i+0)=v:=by
   apply Array.toList_inj.mp
   simp
  rw[e];exact h
 |k+1,hk,hm=>by
  rw[tZ (by omega)]
  exact (MI.chunk hx h k (by omega) fun m hm'=>hm m (by omega)).push hx (by omega) (hm k (Nat.lt_succ_self _))
theorem MI.fin {x y v:Array Keyed} (h:MI lt x y v x.size y.size):Good lt x y v:=by
 refine⟨?_,h.so⟩
 have:=h.pm
 rwa [List.take_of_length_le (by simp),List.take_of_length_le (by simp)] at this
theorem MI.fa {x y v:Array Keyed} {i j:Nat} (hx:Asc lt x) (hy:Asc lt y) (h:MI lt x y v i j) (hr:∀m,i≤m→m < x.size→∀k,j≤k→k < y.size→lt (G y k) (G x m)=false):Good lt x y (v++x.extract i x.size++y.extract j y.size):=by
 have hi:=h.ix
 have hj:=h.jy
 have a1:=MI.chunk hx h (x.size - i) (by omega) fun m hm k h1 h2=>hr _ (by omega) (by omega) k h1 h2
 rw[show i+(x.size - i)=x.size by omega] at a1
 have a2:=MI.chunk hy a1.sw (y.size - j) (by omega) fun m hm k h1 h2=>absurd h1 (by omega)
 rw[show j+(y.size - j)=y.size by omega] at a2
 exact a2.sw.fin
theorem Good.sw {x y v:Array Keyed} (h:Good lt y x v):Good lt x y v:=⟨h.1.trans List.perm_append_comm,h.2⟩
def Fr (st st':SortSt):Prop:=kindOf st' = kindOf st∧arrOf st' = arrOf st∧pendingOf st' = pendingOf st∧failedOf st' = failedOf st
theorem jx {g:Nat} {st st':SortSt} {Q:Unit→SortSt→Prop} (f:Fr st st') (h:∀st'',Fr st st''→Q () st''):wpS M A E s (smg g) Q st':=by
 rw[ur];exact wpS_modify (h _ f)
structure J (lt:Keyed→Keyed→Bool) (x y:Array Keyed) (st:SortSt) (lo:Nat) (r:Option (Array Keyed)) (v:Array Keyed) (i j:Nat) (st':SortSt):Prop where
 f:Fr st st'
 yes:∀a,r=some a→Good lt x y a
 no:r=none→MI lt x y v i j∧i+1 < x.size∧j < y.size∧lo≤i+j
theorem J.on {x y:Array Keyed} {st st':SortSt} {lo i j:Nat} {v:Array Keyed} (f:Fr st st') (h:MI lt x y v i j) (hi:i+1 < x.size) (hj:j < y.size) (hl:lo≤i+j):J lt x y st lo none v i j st':=⟨f,fun _ z=>(nomatch z),fun _=>⟨h,hi,hj,hl⟩⟩
theorem J.end_ {x y:Array Keyed} {st st':SortSt} {lo i j:Nat} {v a:Array Keyed} (f:Fr st st') (h:Good lt x y a):J lt x y st lo (some a) v i j st':=⟨f,fun _ z=>Option.some.inj z ▸ h,fun z=>(nomatch z)⟩
theorem t7 (C:Cmp M A E s κ N lt) {x y:Array Keyed} {st:SortSt} {Q:Array Keyed→SortSt→Prop} (hk:kindOf st=κ) (Nx:∀i,i < x.size→N (G x i)) (Ny:∀i,i < y.size→N (G y i)) (hx:Asc lt x) (hy:Asc lt y) (h0:0 < x.size) (h1:0 < y.size)
  (hb:lt (G y 0) (G x 0)=true) (hl:∀j,j < y.size→lt (G y j) (G x (x.size - 1))=true) (q:∀r st',Fr st st'→Good lt x y r→Q r st'):wpS M A E s (mlo x y) Q st:=by
 have m0:MI lt x y #[G y 0] 0 1:=by
  have z:MI lt y x #[] 0 0:=⟨Nat.zero_le _,Nat.zero_le _,by simp,List.Pairwise.nil,by simp,by simp⟩
  exact (z.push hy h1 fun k _ hk'=>C.tr _ _ _ (C.asym _ _ hb) (hx 0 k (Nat.zero_le _) hk')).sw
 have fa:∀{v:Array Keyed} {i j:Nat},MI lt x y v i j→j=y.size∨i=x.size→Good lt x y (v++x.extract i x.size++y.extract j y.size):=fun {v i j} m e=>m.fa hx hy fun a h2 h3 b h4 h5=>absurd e (by omega)
 have fb:∀{v:Array Keyed} {i j:Nat},MI lt x y v i j→i+1=x.size→Good lt x y (v++y.extract j y.size++x.extract i x.size):=fun {v i j} m e=>(m.sw.fa hy hx fun a h2 h3 b h4 h5=>by
  rw[show b=x.size - 1 by omega];exact C.asym _ _ (hl a h3)).sw
 have eqt:∀{a b:Nat},(a==b)=true→a=b:=fun h=>by simpa using h
 have eqf:∀{a b:Nat},¬(a==b)=true→a≠b:=fun h=>by simpa using h
 rw[uO]
 dsimp only
 refine wpS_bind (eQ (wpS_bind (aQ h1 ?_)))
 by_cases e1:(1==y.size)=true
 ·rw[if_pos e1];exact wpS_pure (q _ _ ⟨rfl,rfl,rfl,rfl⟩ (fa m0 (.inl (eqt e1))))
 rw[if_neg e1]
 by_cases e2:(0+1==x.size)=true
 ·rw[if_pos e2];exact wpS_pure (q _ _ ⟨rfl,rfl,rfl,rfl⟩ (fb m0 (eqt e2)))
 rw[if_neg e2]
 have e1:=eqf e1
 have e2:=eqf e2
 have j0:=J.on (lo:=0) (show Fr st st from ⟨rfl,rfl,rfl,rfl⟩) m0 (by omega) (by omega) (Nat.zero_le _)
 refine wpS_bind (wpS_get (wpS_bind (wpS_mono (wpS_forRange (β:=Option (Array Keyed) × Array Keyed × Nat × Nat × Nat) (I:=fun t z st'=>z.1=none∧J lt x y st t none z.2.1 z.2.2.1 z.2.2.2.1 st') (Q:=fun z st'=>J lt x y st (x.size+y.size) z.1 z.2.1 z.2.2.1 z.2.2.2.1 st') ?step ?fin ⟨rfl,j0⟩) ?post)))
 case fin=>
  rintro⟨r,v,i,j,g⟩ st' ⟨e,h⟩
  have e:r=none:=e
  subst e
  exact⟨h.f,h.yes,fun z=>by
   obtain⟨a1,a2,a3,a4⟩:=h.no z
   exact⟨a1,a2,a3,by rw[Nat.max_eq_right (Nat.zero_le _)] at a4;exact a4⟩⟩
 case post=>
  rintro⟨r,v,i,j,g⟩ st' h
  cases r with
  |some r=>exact wpS_pure (q _ _ h.f (h.yes _ rfl))
  |none=>
   obtain⟨_,a2,a3,a4⟩:=h.no rfl
   have a2:i+1 < x.size:=a2
   have a3:j < y.size:=a3
   have a4:x.size+y.size≤i+j:=a4
   omega
 case step=>
  rintro t ⟨r,v,i,j,g⟩ st1 _ ht ⟨e,h⟩
  have e:r=none:=e
  subst e
  dsimp only at h ⊢
  refine wpS_bind (wpS_mono (wpS_forRange (β:=Option (Array Keyed) × Array Keyed × Nat × Nat × Nat × Nat) (I:=fun k z st'=>z.1=none∧J lt x y st (t+k) none z.2.1 z.2.2.1 z.2.2.2.1 st') (Q:=fun z st'=>J lt x y st (t+1) z.1 z.2.1 z.2.2.1 z.2.2.2.1 st') ?s1 ?f1 ⟨rfl,h⟩) ?p1)
  case f1=>
   rintro⟨r,v,i,j,c,d⟩ st' ⟨e,h⟩
   have e:r=none:=e
   subst e
   exact⟨h.f,h.yes,fun z=>by
    obtain⟨a1,a2,a3,a4⟩:=h.no z
    exact⟨a1,a2,a3,by rw[Nat.max_eq_right (Nat.zero_le _)] at a4;omega⟩⟩
  case s1=>
   rintro k ⟨r,v,i,j,c,d⟩ st' _ hk' ⟨e,h⟩
   obtain⟨m,a2,a3,a4⟩:=h.no rfl
   have f:=h.f
   clear h e
   dsimp only at m a2 a3 a4 ⊢
   refine wpS_bind (aQ a3 (wpS_bind (aQ (by omega) (wpS_bind (C.ask (Ny _ a3) (Nx _ (by omega)) (f.1.trans hk) ?_)))))
   dsimp only
   cases hc:lt (G y j) (G x i) with
   |true=>
    rw[if_pos rfl]
    have m':=(m.sw.push hy a3 fun k h2 h3=>C.tr _ _ _ (C.asym _ _ hc) (hx i k h2 h3)).sw
    refine wpS_bind (aQ a3 ?_)
    split
    ·rename_i e;exact wpS_pure (J.end_ f (fa m' (.inl (eqt e))))
    ·rename_i e;have e:=eqf e
     have j1:=J.on (lo:=t+1) f m' a2 (by omega) (by omega)
     have j2:=J.on (lo:=t+(k+1)) f m' a2 (by omega) (by omega)
     split
     ·exact wpS_pure j1
     ·exact wpS_pure ⟨rfl,j2⟩
   |false=>
    rw[if_neg (by decide)]
    have m':=m.push hx (by omega) fun k h2 h3=>C.tr _ _ _ hc (hy j k h2 h3)
    refine wpS_bind (aQ (by omega) ?_)
    split
    ·rename_i e;exact wpS_pure (J.end_ f (fb m' (eqt e)))
    ·rename_i e;have e:=eqf e
     have j1:=J.on (lo:=t+1) f m' (by omega) a3 (by omega)
     have j2:=J.on (lo:=t+(k+1)) f m' (by omega) a3 (by omega)
     split
     ·exact wpS_pure j1
     ·exact wpS_pure ⟨rfl,j2⟩
  case p1=>
   rintro⟨r,v,i,j,c,d⟩ st' h
   cases r with
   |some r=>exact wpS_pure ⟨h.f,h.yes,fun z=>nomatch z⟩
   |none=>
   dsimp only at h ⊢
   refine wpS_bind (eQ (wpS_bind (wpS_mono (wpS_forRange (β:=Option (Array Keyed) × Array Keyed × Nat × Nat × Nat × Nat × Nat) (I:=fun k z st'=>z.1=none∧J lt x y st (t+1) none z.2.1 z.2.2.1 z.2.2.2.1 st') (Q:=fun z st'=>J lt x y st (t+1) z.1 z.2.1 z.2.2.1 z.2.2.2.1 st') ?s2 ?f2 ⟨rfl,h⟩) ?p2)))
   case f2=>
    rintro⟨r,v,i,j,g,c,d⟩ st' ⟨e,h⟩
    have e:r=none:=e
    subst e
    exact h
   case p2=>
    rintro⟨r,v,i,j,g,c,d⟩ st' h
    cases r with
    |some r=>exact wpS_pure ⟨h.f,h.yes,fun z=>nomatch z⟩
    |none=>exact wpS_bind (jx h.f fun st'' f'=>wpS_pure ⟨rfl,f',fun _ z=>(nomatch z),h.no⟩)
   case s2=>
    rintro k ⟨r,v,i,j,g,c,d⟩ st2 _ hk' ⟨e,h⟩
    obtain⟨m,a2,a3,a4⟩:=h.no rfl
    have f:=h.f
    clear h e
    dsimp only at m a2 a3 a4 ⊢
    have tl:∀{o:Nat},bv lt false (G y j) x i o=true→lt (G y j) (G x (i+o))=false:=fun h=>by simpa [bv] using h
    have fl:∀{o:Nat},bv lt false (G y j) x i o=false→lt (G y j) (G x (i+o))=true:=fun h=>by simpa [bv] using h
    by_cases hg:g > 1
    rw[if_pos hg]
    rotate_left
    rw[if_neg hg]
    all_goals
     refine wpS_bind (jx f fun st3 f3=>wpS_bind (aQ a3 (wpS_bind (ge (bv lt false (G y j) x i) (fun o ho Q' q'=>gg C Nx (Ny _ a3) (by omega) (f3.1.trans hk) q') (fun o p ho hp hb'=>?_) (by omega) fun k hk1 hk2 hk3=>?_))))
     ·cases hc:lt (G y j) (G x (i+o)) with
      |false=>show (!lt _ _)=true;rw[hc];rfl
      |true=>have:=C.ltle hc (hx (i+o) (i+p) (by omega) (by omega));rw[tl hb'] at this;cases this
     dsimp only
     have m1:=m.chunk hx k (by omega) fun o ho k' h2 h3=>C.tr _ _ _ (tl (hk2 o ho)) (hy j k' h2 h3)
     have nx1:i+k < x.size→lt (G y j) (G x (i+k))=true:=fun z=>fl (hk3 k (Nat.le_refl _) (by omega))
     have i0:t+1≤i+k+j:=by omega
     by_cases hk0:k > 0
     rw[if_pos hk0]
     by_cases c1:(i+k+1==x.size)=true
     ·rw[if_pos c1];exact wpS_pure (J.end_ f3 (fb m1 (eqt c1)))
     rw[if_neg c1]
     by_cases c2:(i+k==x.size)=true
     ·rw[if_pos c2];exact wpS_pure (J.end_ f3 (fa m1 (.inr (eqt c2))))
     rw[if_neg c2]
     have c1:=eqf c1
     have c2:=eqf c2
     have b2:i+k+1 < x.size:=by omega
     have n1:=nx1 (by omega)
     generalize i+k=i1 at m1 b2 n1 i0 ⊢
     generalize v++x.extract i i1=v1 at m1 ⊢
     rotate_left
     rw[if_neg hk0]
     have b2:=a2
     have n1:=nx1 (by omega)
     have m1:=m
     have i0:=a4
     rw[show i+k=i by omega] at n1
     clear nx1
     generalize i=i1 at m1 b2 n1 i0 ⊢
     generalize v=v1 at m1 ⊢
     all_goals
      have m2:=(m1.sw.push hy a3 fun k h2 h3=>C.tr _ _ _ (C.asym _ _ n1) (hx i1 k h2 h3)).sw
      refine wpS_bind (aQ a3 ?_)
      by_cases c3:(j+1==y.size)=true
      ·rw[if_pos c3];exact wpS_pure (J.end_ f3 (fa m2 (.inl (eqt c3))))
      rw[if_neg c3]
      have c3:=eqf c3
      refine wpS_bind (aQ (by omega) (wpS_bind (ge (bv lt true (G x i1) y (j+1)) (fun o ho Q' q'=>gg C Ny (Nx _ (by omega)) (by omega) (f3.1.trans hk) q') (fun o p ho hp hb'=>C.lelt (hy _ _ (by omega) (by omega)) hb') (by omega) fun k' hk1' hk2' hk3'=>?_)))
      dsimp only
      have m3:=(m2.sw.chunk hy k' (by omega) fun o ho k'' h2 h3=>C.tr _ _ _ (C.asym _ _ (hk2' o ho)) (hx i1 k'' h2 h3)).sw
      have ny1:j+1+k' < y.size→lt (G y (j+1+k')) (G x i1)=false:=fun z=>hk3' k' (Nat.le_refl _) (by omega)
      have j0:j≤j+1+k':=by omega
      by_cases hk0':k' > 0
      rw[if_pos hk0']
      by_cases c4:(j+1+k'==y.size)=true
      ·rw[if_pos c4];exact wpS_pure (J.end_ f3 (fa m3 (.inl (eqt c4))))
      rw[if_neg c4]
      have c4:=eqf c4
      have b3:j+1+k' < y.size:=by omega
      have n2:=ny1 b3
      generalize j+1+k' = j1 at m3 b3 n2 j0 ⊢
      generalize v1.push (G y j)++y.extract (j+1) j1=v3 at m3 ⊢
      rotate_left
      rw[if_neg hk0']
      have b3:j+1 < y.size:=by omega
      have n2:=ny1 (by omega)
      have m3:=m2
      have j0:j≤j+1:=Nat.le_succ _
      rw[show j+1+k' = j+1 by omega] at n2
      clear ny1 hk1' hk2' hk3' c3
      generalize j+1=j1 at m3 b3 n2 j0 ⊢
      generalize v1.push (G y j)=v3 at m3 ⊢
      all_goals
       have m4:=m3.push hx (by omega) fun k h2 h3=>C.tr _ _ _ n2 (hy j1 k h2 h3)
       refine wpS_bind (aQ (by omega) ?_)
       by_cases c5:(i1+1+1==x.size)=true
       ·rw[if_pos c5];exact wpS_pure (J.end_ f3 (fb m4 (eqt c5)))
       rw[if_neg c5]
       have c5:=eqf c5
       have j2:=J.on (lo:=t+1) f3 m4 (by omega) b3 (by omega)
       split
       ·exact wpS_pure j2
       ·exact wpS_pure ⟨rfl,j2⟩
end
section
variable {M:Model} {A:Around} {E:Value→Shared→Prop} {s:Shared} {κ:SortKind} {N:Keyed→Prop} {lt:Keyed→Keyed→Bool}
structure HI (lt:Keyed→Keyed→Bool) (x y v:Array Keyed) (i j:Nat):Prop where
 ix:i≤x.size
 jy:j≤y.size
 pm:v.toList.Perm (x.toList.drop i++y.toList.drop j)
 so:v.toList.Pairwise fun a b=>lt a b=false
 bx:∀a∈v.toList,∀k,k < i→lt a (G x k)=false
 by_:∀a∈v.toList,∀k,k < j→lt a (G y k)=false
theorem HI.sw {x y v:Array Keyed} {i j:Nat} (h:HI lt x y v i j):HI lt y x v j i:=⟨h.jy,h.ix,h.pm.trans List.perm_append_comm,h.so,h.by_,h.bx⟩
theorem u8 {x:Array Keyed} {i:Nat} (h:i < x.size):x.toList.drop i=G x i::x.toList.drop (i+1):=by
 rw[List.drop_eq_getElem_cons (by simpa using h)]
 simp[G,h]
theorem HI.push {x y v:Array Keyed} {i j:Nat} (hx:Asc lt x) (h:HI lt x y v (i+1) j) (hy:∀k,k < j→lt (G x i) (G y k)=false):HI lt x y (v.push (G x i)) i j:=by
 have hi:=h.ix
 refine⟨by omega,h.jy,?_,?_,fun a ha k h1=>?_,fun a ha k h1=>?_⟩
 ·rw[Array.toList_push,u8 (show i < x.size by omega)]
  exact (List.perm_append_comm.trans (List.Perm.cons _ h.pm))
 ·rw[Array.toList_push,List.pairwise_append]
  refine⟨h.so,List.pairwise_singleton _ _,fun a ha b hb=>?_⟩
  rw[List.mem_singleton.mp hb]
  exact h.bx a ha i (Nat.lt_succ_self _)
 ·rw[Array.toList_push] at ha
  rcases List.mem_append.mp ha with ha|ha
  ·exact h.bx a ha k (by omega)
  ·rw[List.mem_singleton.mp ha];exact hx k i (by omega) (by omega)
 ·rw[Array.toList_push] at ha
  rcases List.mem_append.mp ha with ha|ha
  ·exact h.by_ a ha k h1
  ·rw[List.mem_singleton.mp ha];exact hy k h1
theorem vI {x v:Array Keyed} {p k:Nat} (h:p+k < x.size):v++(x.extract p (p+(k+1))).reverse=v.push (G x (p+k))++(x.extract p (p+k)).reverse:=by
 have e:=tZ (v:=#[]) h
 simp only[Array.empty_append] at e
 rw[e]
 apply Array.toList_inj.mp
 simp
theorem HI.chunk {x y:Array Keyed} {p j:Nat} (hx:Asc lt x):∀(k:Nat) {v:Array Keyed},HI lt x y v (p+k) j→(∀m,m < k→∀k',k' < j→lt (G x (p+m)) (G y k')=false)→HI lt x y (v++(x.extract p (p+k)).reverse) p j
 |0,v,h,_=>by
  have e:v++(x.extract p (p+0)).reverse=v:=by
   apply Array.toList_inj.mp
   simp
  rw[e];exact h
 |k+1,v,h,hm=>by
  have hi:=h.ix
  rw[vI (by omega)]
  exact HI.chunk hx k (h.push hx (hm k (Nat.lt_succ_self _))) fun m hm'=>hm m (by omega)
theorem HI.fa {x y v:Array Keyed} {i j:Nat} (hx:Asc lt x) (hy:Asc lt y) (h:HI lt x y v i j) (hr:∀m,m < j→∀k,k < i→lt (G y m) (G x k)=false):Good lt x y (x.extract 0 i++y.extract 0 j++v.reverse):=by
 have a1:=HI.chunk (p:=0) hy j (by rw[Nat.zero_add];exact h.sw) fun m hm k hk=>by rw[Nat.zero_add];exact hr m hm k hk
 have a2:=HI.chunk (p:=0) hx i (by rw[Nat.zero_add];exact a1.sw) fun m hm k hk=>absurd hk (Nat.not_lt_zero _)
 rw[Nat.zero_add,Nat.zero_add] at a2
 have e:(x.extract 0 i++y.extract 0 j++v.reverse)=(v++(y.extract 0 j).reverse++(x.extract 0 i).reverse).reverse:=by
  apply Array.toList_inj.mp
  simp
 rw[e]
 refine⟨?_,?_⟩
 ·rw[Array.toList_reverse]
  have:=a2.pm
  simp only[List.drop_zero] at this
  exact (List.reverse_perm _).trans this
 ·unfold Srt
  rw[Array.toList_reverse,List.pairwise_reverse]
  exact a2.so
structure JH (lt:Keyed→Keyed→Bool) (x y:Array Keyed) (st:SortSt) (lo:Nat) (r:Option (Array Keyed)) (v:Array Keyed) (i j:Nat) (st':SortSt):Prop where
 f:Fr st st'
 yes:∀a,r=some a→Good lt x y a
 no:r=none→HI lt x y v i j∧0 < i∧1 < j∧lo+(i+j)≤x.size+y.size
theorem JH.on {x y:Array Keyed} {st st':SortSt} {lo i j:Nat} {v:Array Keyed} (f:Fr st st') (h:HI lt x y v i j) (hi:0 < i) (hj:1 < j) (hl:lo+(i+j)≤x.size+y.size):JH lt x y st lo none v i j st':=⟨f,fun _ z=>(nomatch z),fun _=>⟨h,hi,hj,hl⟩⟩
theorem JH.end_ {x y:Array Keyed} {st st':SortSt} {lo i j:Nat} {v a:Array Keyed} (f:Fr st st') (h:Good lt x y a):JH lt x y st lo (some a) v i j st':=⟨f,fun _ z=>Option.some.inj z ▸ h,fun z=>(nomatch z)⟩
theorem t8 (C:Cmp M A E s κ N lt) {x y:Array Keyed} {st:SortSt} {Q:Array Keyed→SortSt→Prop} (hk:kindOf st=κ) (Nx:∀i,i < x.size→N (G x i)) (Ny:∀i,i < y.size→N (G y i)) (hx:Asc lt x) (hy:Asc lt y) (h0:0 < x.size) (h1:0 < y.size)
  (hb:lt (G y 0) (G x 0)=true) (hl:∀j,j < y.size→lt (G y j) (G x (x.size - 1))=true) (q:∀r st',Fr st st'→Good lt x y r→Q r st'):wpS M A E s (mhi x y) Q st:=by
 have m0:HI lt x y #[G x (x.size - 1)] (x.size - 1) y.size:=by
  have z:HI lt x y #[] (x.size - 1+1) y.size:=⟨by omega,Nat.le_refl _,by rw[show x.size - 1+1=x.size by omega];simp,List.Pairwise.nil,by simp,by simp⟩
  exact z.push hx fun k hk'=>C.asym _ _ (hl k hk')
 have fa:∀{v:Array Keyed} {i j:Nat},HI lt x y v i j→i=0∨j=0→Good lt x y (x.extract 0 i++y.extract 0 j++v.reverse):=fun {v i j} m e=>m.fa hx hy fun a h2 b h4=>absurd e (by omega)
 have fb:∀{v:Array Keyed} {i j:Nat},HI lt x y v i j→j=1→Good lt x y (y.extract 0 j++x.extract 0 i++v.reverse):=fun {v i j} m e=>(m.sw.fa hy hx fun a h2 b h4=>by
  have:=m.ix
  rw[show b=0 by omega];exact C.asym _ _ (C.ltle hb (hx 0 a (Nat.zero_le _) (by omega)))).sw
 have eqt:∀{a b:Nat},(a==b)=true→a=b:=fun h=>by simpa using h
 have eqf:∀{a b:Nat},¬(a==b)=true→a≠b:=fun h=>by simpa using h
 rw[uP]
 dsimp only
 refine wpS_bind (eQ (wpS_bind (aQ (by omega) ?_)))
 by_cases e1:(x.size - 1==0)=true
 ·rw[if_pos e1];exact wpS_pure (q _ _ ⟨rfl,rfl,rfl,rfl⟩ (fa m0 (.inl (eqt e1))))
 rw[if_neg e1]
 by_cases e2:(y.size==1)=true
 ·rw[if_pos e2];exact wpS_pure (q _ _ ⟨rfl,rfl,rfl,rfl⟩ (fb m0 (eqt e2)))
 rw[if_neg e2]
 have e1:=eqf e1
 have e2:=eqf e2
 have j0:=JH.on (lo:=0) (show Fr st st from ⟨rfl,rfl,rfl,rfl⟩) m0 (by omega) (by omega) (by omega)
 refine wpS_bind (wpS_get (wpS_bind (wpS_mono (wpS_forRange (β:=Option (Array Keyed) × Nat × Nat × Array Keyed × Nat) (I:=fun t z st'=>z.1=none∧JH lt x y st t none z.2.2.2.1 z.2.1 z.2.2.1 st') (Q:=fun z st'=>JH lt x y st (x.size+y.size) z.1 z.2.2.2.1 z.2.1 z.2.2.1 st') ?step ?fin ⟨rfl,j0⟩) ?post)))
 case fin=>
  rintro⟨r,i,j,v,g⟩ st' ⟨e,h⟩
  have e:r=none:=e
  subst e
  exact⟨h.f,h.yes,fun z=>by
   obtain⟨a1,a2,a3,a4⟩:=h.no z
   exact⟨a1,a2,a3,by rw[Nat.max_eq_right (Nat.zero_le _)] at a4;exact a4⟩⟩
 case post=>
  rintro⟨r,i,j,v,g⟩ st' h
  cases r with
  |some r=>exact wpS_pure (q _ _ h.f (h.yes _ rfl))
  |none=>
   obtain⟨_,a2,a3,a4⟩:=h.no rfl
   have a2:0 < i:=a2
   have a4:x.size+y.size+(i+j)≤x.size+y.size:=a4
   omega
 case step=>
  rintro t ⟨r,i,j,v,g⟩ st1 _ ht ⟨e,h⟩
  have e:r=none:=e
  subst e
  dsimp only at h ⊢
  refine wpS_bind (wpS_mono (wpS_forRange (β:=Option (Array Keyed) × Nat × Nat × Array Keyed × Nat × Nat) (I:=fun k z st'=>z.1=none∧JH lt x y st (t+k) none z.2.2.2.1 z.2.1 z.2.2.1 st') (Q:=fun z st'=>JH lt x y st (t+1) z.1 z.2.2.2.1 z.2.1 z.2.2.1 st') ?s1 ?f1 ⟨rfl,h⟩) ?p1)
  case f1=>
   rintro⟨r,i,j,v,c,d⟩ st' ⟨e,h⟩
   have e:r=none:=e
   subst e
   exact⟨h.f,h.yes,fun z=>by
    obtain⟨a1,a2,a3,a4⟩:=h.no z
    exact⟨a1,a2,a3,by rw[Nat.max_eq_right (Nat.zero_le _)] at a4;omega⟩⟩
  case s1=>
   rintro k ⟨r,i,j,v,c,d⟩ st' _ hk' ⟨e,h⟩
   obtain⟨m,a2,a3,a4⟩:=h.no rfl
   have f:=h.f
   clear h e
   dsimp only at m a2 a3 a4 ⊢
   have mi:=m.ix
   have mj:=m.jy
   obtain⟨i,rfl⟩:∃i',i=i' + 1:=⟨i - 1,by omega⟩
   obtain⟨j,rfl⟩:∃j',j=j' + 1:=⟨j - 1,by omega⟩
   simp only[Nat.add_sub_cancel]
   refine wpS_bind (aQ (by omega) (wpS_bind (aQ (by omega) (wpS_bind (C.ask (Ny _ (by omega)) (Nx _ (by omega)) (f.1.trans hk) ?_)))))
   dsimp only
   cases hc:lt (G y j) (G x i) with
   |true=>
    rw[if_pos rfl]
    have m':=m.push hx fun k h2=>C.tr _ _ _ (hy k j (by omega) (by omega)) (C.asym _ _ hc)
    refine wpS_bind (aQ (by omega) ?_)
    by_cases c1:(i==0)=true
    ·rw[if_pos c1];exact wpS_pure (JH.end_ f (fa m' (.inl (eqt c1))))
    rw[if_neg c1]
    have c1:=eqf c1
    have j1:=JH.on (lo:=t+1) f m' (by omega) (by omega) (by omega)
    have j2:=JH.on (lo:=t+(k+1)) f m' (by omega) (by omega) (by omega)
    split
    ·exact wpS_pure j1
    ·exact wpS_pure ⟨rfl,j2⟩
   |false=>
    rw[if_neg (by decide)]
    have m':=(m.sw.push hy fun k h2=>C.tr _ _ _ (hx k i (by omega) (by omega)) hc).sw
    refine wpS_bind (aQ (by omega) ?_)
    by_cases c1:(j==1)=true
    ·rw[if_pos c1];exact wpS_pure (JH.end_ f (fb m' (eqt c1)))
    rw[if_neg c1]
    have c1:=eqf c1
    have j1:=JH.on (lo:=t+1) f m' (by omega) (by omega) (by omega)
    have j2:=JH.on (lo:=t+(k+1)) f m' (by omega) (by omega) (by omega)
    split
    ·exact wpS_pure j1
    ·exact wpS_pure ⟨rfl,j2⟩
  case p1=>
   rintro⟨r,i,j,v,c,d⟩ st' h
   cases r with
   |some r=>exact wpS_pure ⟨h.f,h.yes,fun z=>nomatch z⟩
   |none=>
   dsimp only at h ⊢
   refine wpS_bind (eQ (wpS_bind (wpS_mono (wpS_forRange (β:=Option (Array Keyed) × Nat × Nat × Array Keyed × Nat × Nat × Nat) (I:=fun k z st'=>z.1=none∧JH lt x y st (t+1) none z.2.2.2.1 z.2.1 z.2.2.1 st') (Q:=fun z st'=>JH lt x y st (t+1) z.1 z.2.2.2.1 z.2.1 z.2.2.1 st') ?s2 ?f2 ⟨rfl,h⟩) ?p2)))
   case f2=>
    rintro⟨r,i,j,v,g,c,d⟩ st' ⟨e,h⟩
    have e:r=none:=e
    subst e
    exact h
   case p2=>
    rintro⟨r,i,j,v,g,c,d⟩ st' h
    cases r with
    |some r=>exact wpS_pure ⟨h.f,h.yes,fun z=>nomatch z⟩
    |none=>exact wpS_bind (jx h.f fun st'' f'=>wpS_pure ⟨rfl,f',fun _ z=>(nomatch z),h.no⟩)
   case s2=>
    rintro k ⟨r,i,j,v,g,c,d⟩ st2 _ hk' ⟨e,h⟩
    obtain⟨m,a2,a3,a4⟩:=h.no rfl
    have f:=h.f
    clear h e
    dsimp only at m a2 a3 a4 ⊢
    have mi:=m.ix
    have mj:=m.jy
    obtain⟨j,rfl⟩:∃j',j=j' + 1:=⟨j - 1,by omega⟩
    simp only[Nat.add_sub_cancel]
    have tl:∀{o:Nat},bv lt false (G y j) x 0 o=true→lt (G y j) (G x o)=false:=fun h=>by simpa [bv] using h
    have fl:∀{o:Nat},bv lt false (G y j) x 0 o=false→lt (G y j) (G x o)=true:=fun h=>by simpa [bv] using h
    by_cases hg:g > 1
    rw[if_pos hg]
    rotate_left
    rw[if_neg hg]
    all_goals
     refine wpS_bind (jx f fun st3 f3=>wpS_bind (aQ (by omega) (wpS_bind (ge (bv lt false (G y j) x 0) (fun o ho Q' q'=>gg C Nx (Ny _ (by omega)) (by omega) (f3.1.trans hk) q') (fun o p ho hp hb'=>?_) (by omega) fun p hp1 hp2 hp3=>?_))))
     ·cases hc:lt (G y j) (G x o) with
      |false=>show (!lt _ (G x (0+o)))=true;rw[Nat.zero_add,hc];rfl
      |true=>have:=C.ltle hc (hx o p (by omega) (by omega));rw[tl hb'] at this;cases this
     dsimp only
     have m1:=HI.chunk (p:=p) (v:=v) (j:=j+1) hx (i - p) (by rw[show p+(i - p)=i by omega];exact m) fun o ho k' h2=>C.tr _ _ _ (hy k' j (by omega) (by omega)) (C.asym _ _ (fl (hp3 (p+o) (by omega) (by omega))))
     rw[show p+(i - p)=i by omega] at m1
     have n1:∀o,o < p→lt (G y j) (G x o)=false:=fun o ho=>tl (hp2 o ho)
     have i0:t+1+(p+(j+1))≤x.size+y.size:=by omega
     have mi1:p≤x.size:=by omega
     by_cases hk0:i - p > 0
     rw[if_pos hk0]
     by_cases c1:(p==0)=true
     ·rw[if_pos c1];exact wpS_pure (JH.end_ f3 (fa m1 (.inl (eqt c1))))
     rw[if_neg c1]
     have b2:0 < p:=by have:=eqf c1;omega
     generalize v++(x.extract p i).reverse=v1 at m1 ⊢
     generalize hkk:i - p=kk
     clear hp1 hp2 hp3 hk0 hkk
     rotate_left
     rw[if_neg hk0]
     have hpi:i=p:=by omega
     have b2:0 < p:=by omega
     have m1:=m
     rw[hpi] at m1 ⊢
     generalize v=v1 at m1 ⊢
     generalize hkk:p - p=kk
     clear hp1 hp2 hp3 hk0 hkk hpi
     all_goals
      obtain⟨p,rfl⟩:∃p',p=p' + 1:=⟨p - 1,by omega⟩
      have m2:=(m1.sw.push hy n1).sw
      refine wpS_bind (aQ (by omega) ?_)
      by_cases c3:(j==1)=true
      ·rw[if_pos c3];exact wpS_pure (JH.end_ f3 (fb m2 (eqt c3)))
      rw[if_neg c3]
      have c3:=eqf c3
      simp only[Nat.add_sub_cancel]
      refine wpS_bind (aQ (by omega) (wpS_bind (ge (bv lt true (G x p) y 0) (fun o ho Q' q'=>gg C Ny (Nx _ (by omega)) (by omega) (f3.1.trans hk) q') (fun o p ho hp hb'=>C.lelt (hy _ _ (by omega) (by omega)) hb') (by omega) fun p' hp1' hp2' hp3'=>?_)))
      have tl':∀{o:Nat},bv lt true (G x p) y 0 o=lt (G y o) (G x p):=fun {o}=>by simp[bv]
      dsimp only
      have m3:=(HI.chunk (p:=p') (v:=v1.push (G y j)) hy (j - p') (by rw[show p' + (j - p')=j by omega];exact m2.sw) fun o ho k' h2=>C.tr _ _ _ (hx k' p (by omega) (by omega)) (tl' ▸ hp3' (p' + o) (by omega) (by omega))).sw
      rw[show p' + (j - p')=j by omega] at m3
      have n2:∀o,o < p'→lt (G x p) (G y o)=false:=fun o ho=>C.asym _ _ (tl' ▸ hp2' o ho)
      have j0:t+1+(p+1+p')≤x.size+y.size:=by omega
      by_cases hk0':j - p' > 0
      rw[if_pos hk0']
      by_cases c4:(p'==1)=true
      ·rw[if_pos c4];exact wpS_pure (JH.end_ f3 (fb m3 (eqt c4)))
      rw[if_neg c4]
      by_cases c5:(p'==0)=true
      ·rw[if_pos c5];exact wpS_pure (JH.end_ f3 (fa m3 (.inr (eqt c5))))
      rw[if_neg c5]
      have b3:1 < p':=by have:=eqf c4;have:=eqf c5;omega
      generalize v1.push (G y j)++(y.extract p' j).reverse=v3 at m3 ⊢
      generalize hkk':j - p' = kk'
      clear hkk' hk0'
      rotate_left
      rw[if_neg hk0']
      have b3:1 < p':=by omega
      have m3:=m2
      rw[show j=p' by omega] at m3 ⊢
      generalize v1.push (G y p')=v3 at m3 ⊢
      generalize p' - p' = kk'
      all_goals
       have m4:=m3.push hx n2
       refine wpS_bind (aQ (by omega) ?_)
       by_cases c6:(p==0)=true
       ·rw[if_pos c6];exact wpS_pure (JH.end_ f3 (fa m4 (.inl (eqt c6))))
       rw[if_neg c6]
       have c6:=eqf c6
       have j2:=JH.on (lo:=t+1) f3 m4 (by omega) b3 (by omega)
       split
       ·exact wpS_pure j2
       ·exact wpS_pure ⟨rfl,j2⟩
end
def Seg (lt:Keyed→Keyed→Bool) (a:Array Keyed) (lo hi:Nat):Prop:=∀i j,lo≤i→i≤j→j < hi→lt (G a j) (G a i)=false
def Dn (lt:Keyed→Keyed→Bool) (a:Array Keyed) (lo hi:Nat):Prop:=∀i j,lo≤i→i≤j→j < hi→lt (G a i) (G a j)=false
def Tl (lt:Keyed→Keyed→Bool) (a:Array Keyed) (hi q:Nat):Prop:=∀i j,hi≤i+(q+1)→i < hi→hi≤j+(q+1)→j < hi→lt (G a i) (G a j)=false
structure Cg (lo hi:Nat) (a a':Array Keyed):Prop where
 pm:a'.Perm a
 at_:∀k,k < lo∨hi≤k→G a' k=G a k
theorem Cg.size {lo hi:Nat} {a a':Array Keyed} (h:Cg lo hi a a'):a'.size=a.size:=h.pm.size_eq
theorem Cg.refl (lo hi:Nat) (a:Array Keyed):Cg lo hi a a:=⟨Array.Perm.refl _,fun _ _=>rfl⟩
theorem Cg.trans {lo hi:Nat} {a b c:Array Keyed} (h:Cg lo hi a b) (h2:Cg lo hi b c):Cg lo hi a c:=⟨h2.pm.trans h.pm,fun k hk=>(h2.at_ k hk).trans (h.at_ k hk)⟩
theorem Cg.mono {lo hi lo' hi':Nat} {a b:Array Keyed} (h:Cg lo hi a b) (h1:lo'≤lo) (h2:hi≤hi'):Cg lo' hi' a b:=⟨h.pm,fun k hk=>h.at_ k (by omega)⟩
theorem G_eq {p q:Array Keyed} {i j:Nat} (h:p[i]? = q[j]?):G p i=G q j:=by
 have e:∀(a:Array Keyed) (k:Nat),G a k=(a[k]?).getD (Value.none,Value.none):=fun a k=>by simp[G]
 rw[e,e,h]
theorem dg {p:Array Keyed} {i j:Nat} (hj:j≤p.size) (k:Nat):G (mirror p i j ((j - i) / 2)) k=if i≤k∧k < j then G p (i+j - 1 - k) else G p k:=by
 have h:=getElem?_mirror_all (xs:=p) (i:=i) hj k
 split
 ·rename_i c;rw[if_pos c] at h;exact G_eq h
 ·rename_i c;rw[if_neg c] at h;exact G_eq h
theorem j7 {p:Array Keyed} {i j:Nat} (hj:j≤p.size):Cg i j p (mirror p i j ((j - i) / 2)):=⟨mirror_perm _ _ _ _,fun k hk=>by rw[dg hj,if_neg (by omega)]⟩
abbrev sa (st:SortSt) (a:Array Keyed):SortSt:=setArr st a
section
variable {M:Model} {A:Around} {E:Value→Shared→Prop} {s:Shared} {κ:SortKind} {N:Keyed→Prop} {lt:Keyed→Keyed→Bool}
def Nm (N:Keyed→Prop) (a:Array Keyed):Prop:=∀x,x∈a→N x
theorem Nm.at {a:Array Keyed} (h:Nm N a) {i:Nat} (hi:i < a.size):N (G a i):=h _ (Array.mem_of_getElem? (oj hi))
theorem Nm.perm {a b:Array Keyed} (h:Nm N a) (e:b.Perm a):Nm N b:=fun x hx=>h x (e.mem_iff.mp hx)
theorem fJ (C:Cmp M A E s κ N lt) {st:SortSt} {a:Array Keyed} {i j:Nat} {Q:Option Bool→SortSt→Prop} (hk:kindOf st=κ) (hN:Nm N a) (hi:i < a.size) (hj:j < a.size) (h:Q (some (lt (G a i) (G a j))) (sa st a)):wpS M A E s (ltAt' i j) Q (sa st a):=by
 rw[ltAt'_eq]
 refine wpS_bind (wpS_get ?_)
 show wpS _ _ _ _ (do let x ←elem' a i;let y ←elem' a j;lt' x y) Q _
 exact wpS_bind (aQ hi (wpS_bind (aQ hj (C.ask (hN.at hi) (hN.at hj) hk h))))
theorem rQ (C:Cmp M A E s κ N lt) {a:Array Keyed} {l:Nat}:Seg lt a l (l+1):=fun i j h1 h2 h3=>by
 have:i=j:=by omega
 subst this;exact C.refl _
theorem pG (C:Cmp M A E s κ N lt) {a:Array Keyed} {l n:Nat} (h:Seg lt a l (l+n)) (h1:1≤n) (hl:lt (G a (l+n)) (G a (l+n - 1))=false):Seg lt a l (l+(n+1)):=fun i j hi hij hj=>by
 by_cases e:j=l+n
 ·subst e
  by_cases e2:i=l+n
  ·subst e2;exact C.refl _
  ·exact C.tr _ (G a (l+n - 1)) _ (h i (l+n - 1) hi (by omega) (by omega)) hl
 ·exact h i j hi hij (by omega)
theorem fW (C:Cmp M A E s κ N lt) {a:Array Keyed} {l n:Nat} (h:Dn lt a l (l+n)) (h1:1≤n) (hl:lt (G a (l+n - 1)) (G a (l+n))=false):Dn lt a l (l+(n+1)):=fun i j hi hij hj=>by
 by_cases e:j=l+n
 ·subst e
  by_cases e2:i=l+n
  ·subst e2;exact C.refl _
  ·exact C.tr _ (G a (l+n - 1)) _ hl (h i (l+n - 1) hi (by omega) (by omega))
 ·exact h i j hi hij (by omega)
theorem px (C:Cmp M A E s κ N lt) {st:SortSt} {a:Array Keyed} {l m:Nat} {Q:Option Nat→SortSt→Prop} (hk:kindOf st=κ) (hN:Nm N a) (h1:1≤m) (hs:l+m≤a.size)
  (q:∀n a',Cg l (l+m) a a'→1≤n→n≤m→Seg lt a' l (l+n)→Q (some n) (sa st a')):wpS M A E s (countRun' l m) Q (sa st a):=by
 have asc:∀(n:Nat) (a':Array Keyed) (Q':Option (Option Nat) × Nat→SortSt→Prop),Cg l (l+m) a a'→1≤n→n≤m→Seg lt a' l (l+n)→(∀n',n≤n'→n'≤m→Seg lt a' l (l+n')→(n' < m→lt (G a' (l+n')) (G a' (l+n' - 1))=true)→Q' (none,n') (sa st a')) →
   wpS M A E s (forIn [n:m] ((none,n):Option (Option Nat) × Nat) fun _ x=>do
    let z ←ltAt' (l+x.2) (l+x.2 - 1)
    match z with
    |some z=>if z=true then pure (ForInStep.done (none,x.2)) else pure (ForInStep.yield (none,x.2+1))
    |_=>pure (ForInStep.done (some none,x.2))) Q' (sa st a'):=by
  intro n a' Q' cg n1 nm sg q'
  refine wpS_forRange (β:=Option (Option Nat) × Nat) (I:=fun t x st'=>st' = sa st a'∧x.1=none∧x.2=t∧n≤t∧t≤m∧Seg lt a' l (l+t)) (Q:=Q') ?_ ?_ ⟨rfl,rfl,rfl,Nat.le_refl _,nm,sg⟩
  ·rintro t ⟨r,n'⟩ st' _ ht ⟨rfl,e1,e2,e3,e4,e5⟩
   have e2:n' = t:=e2
   subst e2
   have hz:=cg.size
   refine wpS_bind (fJ C hk (hN.perm cg.pm) (by omega) (by omega) ?_)
   cases hc:lt (G a' (l+n')) (G a' (l+n' - 1)) with
   |true=>exact wpS_pure (q' n' e3 (by omega) e5 fun _=>hc)
   |false=>exact wpS_pure ⟨rfl,rfl,rfl,by omega,by omega,pG C e5 (by omega) hc⟩
  ·rintro⟨r,n'⟩ st' ⟨rfl,e1,e2,e3,e4,e5⟩
   have e1:r=none:=e1
   have e2:n' = max n m:=e2
   subst e1
   have:n' = m:=by omega
   subst this
   rw[show max n n' = n' by omega] at e5
   exact q' n' nm (Nat.le_refl _) e5 fun z=>absurd z (by omega)
 have rv:∀{a':Array Keyed} {n:Nat},Cg l (l+m) a a'→n≤m→Dn lt a' l (l+n)→Seg lt (mirror a' l (l+n) ((l+n - l) / 2)) l (l+n):=fun {a' n} cg nm d i j hi hij hj=>by
  have hz:=cg.size
  rw[dg (by omega),dg (by omega),if_pos (by omega),if_pos (by omega)]
  exact d _ _ (by omega) (by omega) (by omega)
 have rt:∀{a':Array Keyed} {n q:Nat},Cg l (l+m) a a'→n≤m→q < n→Dn lt a' l (l+n)→Tl lt a' (l+n) q→Dn lt (mirror a' (l+n - (q+1)) (l+n) ((l+n - (l+n - (q+1))) / 2)) l (l+n):=fun {a' n q} cg nm hq d tl i j hi hij hj=>by
  have hz:=cg.size
  rw[dg (by omega),dg (by omega)]
  split
  ·split
   ·exact tl _ _ (by omega) (by omega) (by omega) (by omega)
   ·omega
  ·split
   ·exact d _ _ hi (by omega) (by omega)
   ·exact d _ _ hi hij hj
 have t0:∀{a':Array Keyed} {h:Nat},Tl lt a' h 0:=fun {a' h} i j h1 h2 h3 h4=>by
  have:i=j:=by omega
  subst this;exact C.refl _
 have dl:∀(n:Nat) (a':Array Keyed),Cg l (l+m) a a'→1≤n→n≤m→Dn lt a' l (l+n)→wpS M A E s (do
   rule "list.sort.descending-run"
   let mut n:=n
   let mut q:=0
   for _ in [n:m] do
    let some z ←ltAt' (l+n) (l+n - 1)|return none
    if z then
     if q > 0 then reverseSlice' (l+n - (q+1)) (l+n)
     q:=0
    else
     let some z ←ltAt' (l+n - 1) (l+n)|return none
     if z then break
     q:=q+1
    n:=n+1
   if q > 0 then reverseSlice' (l+n - (q+1)) (l+n)
   reverseSlice' l (l+n)
   for _ in [n:m] do
    let some z ←ltAt' (l+n) (l+n - 1)|return none
    if z then break
    n:=n+1
   return some n) Q (sa st a'):=by
  intro n a1 cg n1 nm d
  dsimp only
  refine wpS_bind (eQ (wpS_bind (wpS_mono (wpS_forRange (β:=Option (Option Nat) × Nat × Nat) (I:=fun t x st'=>x.1=none∧x.2.1=t∧n≤t∧t≤m∧x.2.2 < t∧∃a',st' = sa st a'∧Cg l (l+m) a a'∧Dn lt a' l (l+t)∧Tl lt a' (l+t) x.2.2)
   (Q:=fun x st'=>x.1=none∧n≤x.2.1∧x.2.1≤m∧x.2.2 < x.2.1∧∃a',st' = sa st a'∧Cg l (l+m) a a'∧Dn lt a' l (l+x.2.1)∧Tl lt a' (l+x.2.1) x.2.2) ?_ ?_ ⟨rfl,rfl,Nat.le_refl _,nm,n1,a1,rfl,cg,d,t0⟩) ?_)))
  ·rintro t ⟨r,n',q'⟩ st' _ ht ⟨e1,e2,e3,e4,e5,a',rfl,cg',d',tl⟩
   have e2:n' = t:=e2
   subst e2
   have e5:q' < n':=e5
   have hz:=cg'.size
   dsimp only at tl ⊢
   refine wpS_bind (fJ C hk (hN.perm cg'.pm) (by omega) (by omega) ?_)
   dsimp only
   cases hc:lt (G a' (l+n')) (G a' (l+n' - 1)) with
   |true=>
    rw[if_pos rfl]
    by_cases hq:q' > 0
    ·rw[if_pos hq,reverseSlice'_eq]
     refine wpS_bind (wpS_modify (wpS_pure ⟨rfl,rfl,by omega,by omega,by show 0 < n' + 1;omega,_,rfl,cg'.trans ((j7 (by omega)).mono (by omega) (by omega)),?_,t0⟩))
     refine fW C (rt cg' (by omega) e5 d' tl) (by omega) ?_
     rw[dg (by show l+n'≤a'.size;omega),dg (by show l+n'≤a'.size;omega),if_pos (by omega),if_neg (by omega)]
     exact C.tr _ (G a' (l+n' - 1)) _ (C.asym _ _ hc) (d' _ _ (by omega) (by omega) (by omega))
    ·rw[if_neg hq]
     exact wpS_pure ⟨rfl,rfl,by omega,by omega,by show 0 < n' + 1;omega,a',rfl,cg',fW C d' (by omega) (C.asym _ _ hc),t0⟩
   |false=>
    rw[if_neg (by decide)]
    refine wpS_bind (fJ C hk (hN.perm cg'.pm) (by omega) (by omega) ?_)
    dsimp only
    cases hc2:lt (G a' (l+n' - 1)) (G a' (l+n')) with
    |true=>
     rw[if_pos rfl]
     exact wpS_pure ⟨rfl,e3,e4,e5,a',rfl,cg',d',tl⟩
    |false=>
     rw[if_neg (by decide)]
     refine wpS_pure ⟨rfl,rfl,by omega,by omega,by show q' + 1 < n' + 1;omega,a',rfl,cg',fW C d' (by omega) hc2,fun i j b1 b2 b3 b4=>?_⟩
     have b1:l+(n' + 1)≤i+(q' + 1+1):=b1
     have b3:l+(n' + 1)≤j+(q' + 1+1):=b3
     by_cases ei:i=l+n'
     ·by_cases ej:j=l+n'
      ·subst ei;subst ej;exact C.refl _
      ·subst ei;exact C.tr _ (G a' (l+n' - 1)) _ (tl _ _ (by omega) (by omega) (by omega) (by omega)) hc
     ·by_cases ej:j=l+n'
      ·subst ej;exact C.tr _ (G a' (l+n' - 1)) _ hc2 (tl _ _ (by omega) (by omega) (by omega) (by omega))
      ·exact tl _ _ (by omega) (by omega) (by omega) (by omega)
  ·rintro⟨r,n',q'⟩ st' ⟨e1,e2,e3,e4,e5,a',rfl,cg',d',tl⟩
   have e2:n' = max n m:=e2
   have:n' = m:=by omega
   subst this
   rw[show max n n' = n' by omega] at d' tl e5 e3
   exact⟨e1,e3,Nat.le_refl _,e5,a',rfl,cg',d',tl⟩
  ·rintro⟨r,n',q'⟩ st' ⟨e1,e3,e4,e5,a',rfl,cg',d',tl⟩
   cases e1
   dsimp only at e3 e4 e5 d' tl ⊢
   have hz:=cg'.size
   by_cases hq:q' > 0
   rw[if_pos hq,reverseSlice'_eq]
   refine wpS_bind (wpS_modify ?_)
   have cg2:=cg'.trans ((j7 (i:=l+n' - (q' + 1)) (j:=l+n') (p:=a') (by omega)).mono (show l≤_ by omega) (show _≤l+m by omega))
   have d2:=rt cg' e4 e5 d' tl
   show wpS _ _ _ _ _ _ (sa st (mirror a' (l+n' - (q' + 1)) (l+n') ((l+n' - (l+n' - (q' + 1))) / 2)))
   generalize mirror a' (l+n' - (q' + 1)) (l+n') ((l+n' - (l+n' - (q' + 1))) / 2)=a2 at cg2 d2 ⊢
   rotate_left
   rw[if_neg hq]
   have cg2:=cg'
   have d2:=d'
   generalize a' = a2 at cg2 d2 ⊢
   all_goals
    have hz2:=cg2.size
    rw[reverseSlice'_eq]
    refine wpS_bind (wpS_modify ?_)
    have cg3:=cg2.trans ((j7 (i:=l) (j:=l+n') (p:=a2) (by omega)).mono (Nat.le_refl _) (show _≤l+m by omega))
    refine wpS_bind (asc n' _ _ cg3 (by omega) e4 (rv cg2 e4 d2) fun n'' b1 b2 b3 b4=>?_)
    exact wpS_pure (q n'' _ cg3 (by omega) b2 b3)
 rw[countRun'_eq]
 dsimp only
 refine wpS_bind (asc 1 a _ (Cg.refl _ _ _) (Nat.le_refl _) h1 (rQ C) fun n b1 b2 b3 b4=>?_)
 dsimp only
 by_cases c1:(n==m)=true
 ·rw[if_pos c1];exact wpS_pure (q n a (Cg.refl _ _ _) b1 b2 b3)
 rw[if_neg c1]
 have c1:n≠m:=by simpa using c1
 have hl:=b4 (by omega)
 by_cases c2:n > 1
 ·rw[if_pos c2]
  refine wpS_bind (fJ C hk hN (by omega) (by omega) ?_)
  dsimp only
  cases hc:lt (G a l) (G a (l+n - 1)) with
  |true=>rw[if_pos rfl];exact wpS_pure (q n a (Cg.refl _ _ _) b1 b2 b3)
  |false=>
   rw[if_neg (by decide),reverseSlice'_eq]
   refine wpS_bind (wpS_modify ?_)
   have cg:=(j7 (i:=l) (j:=l+n) (p:=a) (by omega)).mono (Nat.le_refl _) (show l+n≤l+m by omega)
   show wpS _ _ _ _ _ _ (sa st (mirror a l (l+n) ((l+n - l) / 2)))
   refine dl (n+1) _ cg (by omega) (by omega) (fW C (fun i j hi hij hj=>?_) (by omega) ?_)
   ·rw[dg (by omega),dg (by omega),if_pos (by omega),if_pos (by omega)]
    exact b3 _ _ (by omega) (by omega) (by omega)
   ·rw[dg (by omega),dg (by omega),if_pos (by omega),if_neg (by omega),show l+(l+n) - 1 - (l+n - 1)=l by omega]
    exact C.tr _ (G a (l+n - 1)) _ (C.asym _ _ hl) hc
 ·rw[if_neg c2]
  have:n=1:=by omega
  subst this
  refine dl 2 a (Cg.refl _ _ _) (by omega) (by omega) (fW C (fun i j hi hij hj=>?_) (Nat.le_refl _) (C.asym _ _ hl))
  have:i=j:=by omega
  subst this;exact C.refl _
end
section
variable {M:Model} {A:Around} {E:Value→Shared→Prop} {s:Shared} {κ:SortKind} {N:Keyed→Prop} {lt:Keyed→Keyed→Bool}
theorem m9 {p:Array Keyed} {k z:Nat} (hk:k < p.size) (hl:z≤k) (i:Nat):G (bubble p k (k - z)) i=if i=z then G p k else if z < i∧i≤k then G p (i - 1) else G p i:=by
 have h:=getElem?_bubble (xs:=p) (src:=k) hk (k - z) (by omega) i
 have e:k - (k - z)=z:=by omega
 rw[e] at h
 repeat' split at h
 ·rename_i c;rw[if_pos c];exact G_eq h
 ·rename_i c c2;rw[if_neg c,if_pos c2];exact G_eq h
 ·rename_i c c2;rw[if_neg c,if_neg c2];exact G_eq h
theorem t_ (C:Cmp M A E s κ N lt) {st:SortSt} {a:Array Keyed} {l n o:Nat} {Q:Bool→SortSt→Prop} (hk:kindOf st=κ) (hN:Nm N a) (h1:1≤o) (h2:o≤n) (hs:l+n≤a.size) (sg:Seg lt a l (l+o))
  (q:∀a',Cg l (l+n) a a'→Seg lt a' l (l+n)→Q true (sa st a')):wpS M A E s (binarySort' l n o) Q (sa st a):=by
 rw[binarySort'_eq]
 dsimp only
 refine wpS_bind (wpS_mono (wpS_forRange (I:=fun k x st'=>x.1=none∧1≤k∧k≤n∧∃a',st' = sa st a'∧Cg l (l+n) a a'∧Seg lt a' l (l+k)) (Q:=fun x st'=>x.1=none∧∃a',st' = sa st a'∧Cg l (l+n) a a'∧Seg lt a' l (l+n)) ?step ?fin ⟨rfl,by omega,by omega,a,rfl,Cg.refl _ _ _,by rw[show max o 1=o by omega];exact sg⟩) ?post)
 case fin=>
  rintro⟨r,u⟩ st' ⟨e,e1,e2,a',rfl,cg,sg'⟩
  rw[show max (max o 1) n=n by omega] at sg'
  exact⟨e,a',rfl,cg,sg'⟩
 case post=>
  rintro⟨r,u⟩ st' ⟨e,a',rfl,cg,sg'⟩
  cases e
  exact wpS_pure (q a' cg sg')
 case step=>
  rintro k ⟨r,u⟩ st' _ hkn ⟨e,e1,e2,a',rfl,cg,sg'⟩
  have hz:=cg.size
  refine wpS_bind (wpS_mono (wpS_forRange (β:=Option Bool × Nat × Nat) (I:=fun t x st'=>st' = sa st a'∧x.1=none∧x.2.1≤x.2.2∧x.2.2≤k∧x.2.2 - x.2.1≤k - t∧(∀i,i < x.2.1→lt (G a' (l+k)) (G a' (l+i))=false)∧(∀i,x.2.2≤i→i < k→lt (G a' (l+i)) (G a' (l+k))=false))
   (Q:=fun x st'=>st' = sa st a'∧x.1=none∧x.2.1≤k∧(∀i,i < x.2.1→lt (G a' (l+k)) (G a' (l+i))=false)∧(∀i,x.2.1≤i→i < k→lt (G a' (l+i)) (G a' (l+k))=false)) ?s8 ?f8 ⟨rfl,rfl,Nat.zero_le _,Nat.le_refl _,Nat.le_refl _,fun i hi=>absurd hi (Nat.not_lt_zero _),fun i hi hj=>absurd hi (Nat.not_le_of_lt hj)⟩) ?p8)
  case f8=>
   rintro⟨r,u,w⟩ st' ⟨rfl,e,b1,b2,b3,b4,b5⟩
   have b1:u≤w:=b1
   have b3:w - u≤k - max 0 k:=b3
   have:u=w:=by omega
   subst this
   exact⟨rfl,e,b2,b4,b5⟩
  case s8=>
   rintro t ⟨r,u,w⟩ st' _ ht ⟨rfl,e,b1,b2,b3,b4,b5⟩
   have b1:u≤w:=b1
   have b2:w≤k:=b2
   have b3:w - u≤k - t:=b3
   dsimp only at b4 b5 ⊢
   by_cases c1:u ≥ w
   ·rw[if_pos c1]
    have:u=w:=by omega
    subst this
    exact wpS_pure ⟨rfl,rfl,b2,b4,b5⟩
   rw[if_neg c1]
   obtain⟨m1,m2⟩:=half c1
   generalize (u+w) / 2=m at m1 m2 ⊢
   refine wpS_bind (fJ C hk (hN.perm cg.pm) (by omega) (by omega) ?_)
   dsimp only
   cases hc:lt (G a' (l+k)) (G a' (l+m)) with
   |true=>
    rw[if_pos rfl]
    refine wpS_pure ⟨rfl,rfl,m1,Nat.le_of_lt (Nat.lt_of_lt_of_le m2 b2),fewer b3 m2 m1,b4,fun i hi hik=>?_⟩
    exact C.asym _ _ (C.ltle hc (sg' _ _ (Nat.le_add_right _ _) (Nat.add_le_add_left hi l) (Nat.add_lt_add_left hik l)))
   |false=>
    rw[if_neg (by decide)]
    refine wpS_pure ⟨rfl,rfl,m2,b2,fewer' b3 m2 m1,fun i hi=>?_,b5⟩
    exact C.tr _ _ _ (sg' _ _ (Nat.le_add_right _ _) (Nat.add_le_add_left (Nat.le_of_lt_succ hi) l) (Nat.add_lt_add_left (Nat.lt_of_lt_of_le m2 b2) l)) hc
  case p8=>
   rintro⟨r,u,w⟩ st' ⟨rfl,e,b2,b4,b5⟩
   cases e
   have b2:u≤k:=b2
   dsimp only at b4 b5 ⊢
   rw[moveDown'_eq]
   refine wpS_bind (wpS_modify (wpS_pure ⟨rfl,by omega,by omega,bubble a' (l+k) (l+k - (l+u)),rfl,cg.trans ⟨bubble_perm _ _ _,fun i hi=>?_⟩,fun i j hi hij hj=>?_⟩))
   ·rw[m9 (by omega) (by omega),if_neg (by omega),if_neg (by omega)]
   ·rw[m9 (by omega) (by omega),m9 (by omega) (by omega)]
    repeat' split
    ·exact C.refl _
    all_goals first
     |omega
     |exact sg' _ _ (by omega) (by omega) (by omega)
     |(have z:=b5 (j - 1 - l) (by omega) (by omega);rw[show l+(j - 1 - l)=j - 1 by omega] at z;exact (by
       rename_i h1 h2 h3
       cases hcc:lt (G a' (j - 1)) (G a' (l+k)) with
       |false=>rfl
       |true=>rw[hcc] at z;cases z))
     |(have z:=b4 (i - l) (by omega);rw[show l+(i - l)=i by omega] at z;exact z)
end
theorem tT (p:Nat):∀(l:List Keyed) (n:Nat) (a:Array Keyed),p+n+l.length≤a.size →
  ((l.zipIdx n).foldl (fun a (z:Keyed × Nat)=>a.setIfInBounds (p+z.2) z.1) a).size=a.size∧∀m:Nat,((l.zipIdx n).foldl (fun a (z:Keyed × Nat)=>a.setIfInBounds (p+z.2) z.1) a)[m]? = if p+n≤m∧m < p+n+l.length then l[m - (p+n)]? else a[m]?
 | [],n,a,h=>⟨rfl,fun m=>by rw[if_neg (by simp only[List.length_nil];omega)];rfl⟩
 |x::l,n,a,h=>by
  rw[List.length_cons] at h
  obtain⟨h1,h2⟩:=tT p l (n+1) (a.setIfInBounds (p+n) x) (by rw[Array.size_setIfInBounds];omega)
  rw[List.zipIdx_cons,List.foldl_cons]
  refine⟨h1.trans Array.size_setIfInBounds,fun m=>?_⟩
  rw[h2 m,List.length_cons,Array.getElem?_setIfInBounds]
  by_cases c:m=p+n
  ·subst c
   rw[if_neg (by omega),if_pos rfl,if_pos (by omega),if_pos (by omega),Nat.sub_self];rfl
  ·by_cases c2:p+(n+1)≤m∧m < p+(n+1)+l.length
   ·rw[if_pos c2,if_pos (by omega),show m - (p+n)=m - (p+(n+1))+1 by omega];rfl
   ·rw[if_neg c2,if_neg (fun z=>c z.symm),if_neg (by omega)]
theorem G_of {a:Array Keyed} {k:Nat} {x:Keyed} (h:a[k]? = some x):G a k=x:=by
 have e:G a k=(a[k]?).getD (Value.none,Value.none):=by simp[G]
 rw[e,h];rfl
theorem kh {a:Array Keyed} {p q k:Nat} (h:p+k < q) (hq:q≤a.size):G (a.extract p q) k=G a (p+k):=by
 apply G_eq
 rw[Array.getElem?_extract,if_pos (by omega)]
theorem qr {a:Array Keyed} {p q r:Nat} (h1:p≤q) (h2:q≤r) (h3:r≤a.size):a.toList=a.toList.take p++((a.extract p q).toList++(a.extract q r).toList)++a.toList.drop r:=by
 rw[Array.toList_extract,Array.toList_extract,List.extract_eq_take_drop,List.extract_eq_take_drop]
 have e1:(a.toList.drop p).take (q - p)++(a.toList.drop q).take (r - q)=(a.toList.drop p).take (r - p):=by
  rw[show r - p=(q - p)+(r - q) by omega,List.take_add,List.drop_drop,show p+(q - p)=q by omega]
 rw[e1,List.append_assoc]
 have e2:(a.toList.drop p).take (r - p)++a.toList.drop r=a.toList.drop p:=by
  conv=>rhs;rw[←List.take_append_drop (r - p) (a.toList.drop p)]
  rw[List.drop_drop,show p+(r - p)=r by omega]
 rw[e2,List.take_append_drop]
section
variable {M:Model} {A:Around} {E:Value→Shared→Prop} {s:Shared} {κ:SortKind} {N:Keyed→Prop} {lt:Keyed→Keyed→Bool}
theorem jb {α:Type} (u v w:α) (l2:List α):∀l1:List α,((l1++u::w::l2).set l1.length v).eraseIdx (l1.length+1)=l1++v::l2
 | []=>rfl
 |x::l1=>by
  show x::((l1++u::w::l2).set l1.length v).eraseIdx (l1.length+1)=_
  rw[jb u v w l2 l1];rfl
theorem dU {a:Array Keyed} {i j:Nat} (h:j≤a.size):(a.extract i j).size=j - i:=by rw[Array.size_extract,Nat.min_eq_left h]
theorem tY {a:Array Keyed} {x:Keyed} (h:x∈a.toList):∃k,k < a.size∧G a k=x:=by
 obtain⟨k,hk⟩:=List.mem_iff_getElem?.mp h
 rw[Array.getElem?_toList] at hk
 exact⟨k,(Array.getElem?_eq_some_iff.mp hk).1,G_of hk⟩
theorem pR (C:Cmp M A E s κ N lt) {a r:Array Keyed} {p p1 q n1 z:Nat} (h1:p≤p1) (h2:p1≤q) (h3:q+n1≤z) (hs:z≤a.size) (g:Good lt (a.extract p1 q) (a.extract q (q+n1)) r)
  (s1:Seg lt a p q) (s2:Seg lt a q z) (lo:∀k,p≤k→k < p1→∀j,q≤j→j < z→lt (G a j) (G a k)=false) (hi:∀j,q+n1≤j→j < z→∀k,p≤k→k < q→lt (G a j) (G a k)=false) :
  Cg p z a (r.toList.zipIdx.foldl (fun a (z:Keyed × Nat)=>a.setIfInBounds (p1+z.2) z.1) a)∧Seg lt (r.toList.zipIdx.foldl (fun a (z:Keyed × Nat)=>a.setIfInBounds (p1+z.2) z.1) a) p z:=by
 have q1s:q+n1≤a.size:=Nat.le_trans h3 hs
 have qs:q≤a.size:=Nat.le_trans (Nat.le_add_right q n1) q1s
 have lt1:(a.toList.take p1).length=p1:=by rw[List.length_take,Array.length_toList,Nat.min_eq_left (Nat.le_trans h2 qs)]
 have len:r.toList.length=q - p1+n1:=by
  rw[g.1.length_eq,List.length_append,Array.length_toList,Array.length_toList,dU qs,dU q1s,Nat.add_sub_cancel_left]
 obtain⟨w1,w2⟩:=tT p1 r.toList 0 a (by omega)
 generalize (r.toList.zipIdx.foldl (fun a (z:Keyed × Nat)=>a.setIfInBounds (p1+z.2) z.1) a)=a' at w1 w2 ⊢
 rw[len] at w2
 simp only[Nat.add_zero] at w2
 have out:∀k,k < p1∨q+n1≤k→G a' k=G a k:=fun k hk=>G_eq (by rw[w2 k,if_neg (by omega)])
 have inn:∀k,p1≤k→k < q+n1→∃c,p1≤c∧c < q+n1∧G a' k=G a c:=fun k hk1 hk2=>by
  have e:=w2 k
  rw[if_pos (by omega)] at e
  have hl:k - p1 < r.toList.length:=by omega
  rw[List.getElem?_eq_getElem hl] at e
  have e:=G_of e
  have mem:r.toList[k - p1]∈r.toList:=List.getElem_mem _
  rcases List.mem_append.mp (g.1.mem_iff.mp mem) with h|h
  ·obtain⟨c,c1,c2⟩:=tY h
   rw[dU qs] at c1
   exact⟨p1+c,by omega,by omega,by rw[e,←c2,kh (by omega) (by omega)]⟩
  ·obtain⟨c,c1,c2⟩:=tY h
   rw[dU q1s,Nat.add_sub_cancel_left] at c1
   exact⟨q+c,by omega,by omega,by rw[e,←c2,kh (by omega) (by omega)]⟩
 have srt:∀i j,p1≤i→i≤j→j < q+n1→lt (G a' j) (G a' i)=false:=fun i j i1 ij j1=>by
  have ei:=w2 i
  have ej:=w2 j
  rw[if_pos (by omega)] at ei ej
  have li:i - p1 < r.toList.length:=by omega
  have lj:j - p1 < r.toList.length:=by omega
  rw[List.getElem?_eq_getElem li] at ei
  rw[List.getElem?_eq_getElem lj] at ej
  rw[G_of ei,G_of ej]
  by_cases e:i=j
  ·subst e;exact C.refl _
  ·exact List.pairwise_iff_getElem.mp g.2 (i - p1) (j - p1) li lj (by omega)
 refine⟨⟨?_,fun k hk=>out k (by omega)⟩,fun i j hi1 hij hj=>?_⟩
 ·rw[Array.perm_iff_toList_perm]
  have e:a'.toList=a.toList.take p1++r.toList++a.toList.drop (q+n1):=by
   apply List.ext_getElem?
   intro m
   rw[Array.getElem?_toList,w2 m]
   by_cases c1:m < p1
   ·rw[if_neg (by omega),List.append_assoc,List.getElem?_append_left (by rw[lt1];exact c1),List.getElem?_take_of_lt c1,Array.getElem?_toList]
   ·by_cases c2:m < q+n1
    ·rw[if_pos (by omega),List.append_assoc,List.getElem?_append_right (by rw[lt1];omega),List.getElem?_append_left (by rw[lt1];omega),lt1]
    ·rw[if_neg (by omega),List.getElem?_append_right (by rw[List.length_append,lt1];omega),List.getElem?_drop,Array.getElem?_toList,List.length_append,lt1]
     congr 1
     omega
  rw[e]
  exact ((g.1.append_left _).append_right _).trans (List.Perm.of_eq (qr (a:=a) h2 (Nat.le_add_right q n1) (by omega)).symm)
 ·by_cases ci:i < p1
  ·rw[out i (.inl ci)]
   by_cases cj:j < p1
   ·rw[out j (.inl cj)];exact s1 i j hi1 hij (by omega)
   ·have hc:∀c,p1≤c→c < z→lt (G a c) (G a i)=false:=fun c c1 c2=>by
     by_cases cc:c < q
     ·exact s1 i c hi1 (by omega) cc
     ·exact lo i hi1 ci c (by omega) c2
    by_cases cj2:j < q+n1
    ·obtain⟨c,c1,c2,e⟩:=inn j (by omega) cj2
     rw[e];exact hc c c1 (by omega)
    ·rw[out j (.inr (by omega))];exact hc j (by omega) hj
  ·by_cases cj:j < q+n1
   ·exact srt i j (by omega) hij cj
   ·rw[out j (.inr (by omega))]
    have hc:∀c,p≤c→c < j→lt (G a j) (G a c)=false:=fun c c1 c2=>by
     by_cases cc:c < q
     ·exact hi j (by omega) hj c c1 cc
     ·exact s2 c j (by omega) (by omega) hj
    by_cases ci2:i < q+n1
    ·obtain⟨c,c1,c2,e⟩:=inn i (by omega) ci2
     rw[e];exact hc c (by omega) (by omega)
    ·rw[out i (.inr (by omega))]
     by_cases e:i=j
     ·subst e;exact C.refl _
     ·exact hc i hi1 (by omega)
theorem t6 {st st':SortSt} {Q:PUnit→SortSt→Prop} (h:Q ⟨⟩ st'):wpS M A E s (set st':SM PUnit) Q st:=by
 unfold wpS;rw[StateT.run_set];exact wpAny_pure ⟨rfl,h⟩
theorem t9 (C:Cmp M A E s κ N lt) {st:SortSt} {a:Array Keyed} {i p m e q n e':Nat} {l1 l2:List (Nat × Nat × Nat)} {Q:Bool→SortSt→Prop} (hk:kindOf st=κ) (hf:failedOf st=none) (hN:Nm N a) (hp:(pendingOf st).toList=l1++(p,m,e)::(q,n,e')::l2) (hi:l1.length=i)
  (hq:q=p+m) (hm:1≤m) (hn:1≤n) (hs:q+n≤a.size) (s1:Seg lt a p q) (s2:Seg lt a q (q+n))
  (h:∀(a':Array Keyed) (st':SortSt),PyProof.Rows.kindOf st' = κ→failedOf st' = none→arrOf st' = a'→(pendingOf st').toList=l1++(p,m+n,e)::l2→Cg p (q+n) a a'→Seg lt a' p (q+n)→Q true st'):wpS M A E s (mergeAt' i) Q (sa st a):=by
 have e1:(pendingOf st)[i]? = some (p,m,e):=by rw[←Array.getElem?_toList,hp,←hi];simp
 have e2:(pendingOf st)[i+1]? = some (q,n,e'):=by rw[←Array.getElem?_toList,hp,←hi];simp
 have e3:(((pendingOf st).setIfInBounds i (p,m+n,e)).eraseIdxIfInBounds (i+1)).toList=l1++(p,m+n,e)::l2:=by
  rw[Array.toList_eraseIdxIfInBounds,Array.toList_setIfInBounds,hp,←hi];exact jb _ _ _ _ _
 have eqt:∀{a b:Nat},(a==b)=true→a=b:=fun h=>by simpa using h
 have eqf:∀{a b:Nat},¬(a==b)=true→a≠b:=fun h=>by simpa using h
 rw[uQ]
 refine wpS_bind (wpS_get ?_)
 show wpS _ _ _ _ (match ((pendingOf st)[i]?,(pendingOf st)[i+1]?) with|(some (p,m,e),some (q,n,_))=>_|_=>_) _ _
 rw[e1,e2]
 dsimp only
 refine wpS_bind (t6 ?_)
 have tl:∀{o:Nat},bv lt false (G a q) a p o=true→lt (G a q) (G a (p+o))=false:=fun h=>by simpa [bv] using h
 have fl:∀{o:Nat},bv lt false (G a q) a p o=false→lt (G a q) (G a (p+o))=true:=fun h=>by simpa [bv] using h
 refine wpS_bind (aQ (show q < a.size by omega) (wpS_bind (ge (bv lt false (G a q) a p) (fun o ho Q' q'=>gg C (fun _ z=>hN.at z) (hN.at (by omega)) (show p+o < a.size by omega) hk q') (fun o o' ho hp' hb'=>?_) (by omega) fun k hk1 hk2 hk3=>?_)))
 ·cases hc:lt (G a q) (G a (p+o)) with
  |false=>show (!lt _ _)=true;rw[hc];rfl
  |true=>have:=C.ltle hc (s1 (p+o) (p+o') (by omega) (by omega) (by omega));rw[tl hb'] at this;cases this
 dsimp only
 have seg:(∀i,p≤i→i < q→∀j,q≤j→j < q+n→lt (G a j) (G a i)=false)→Seg lt a p (q+n):=fun hh i j h1 h2 h3=>by
  by_cases c:j < q
  ·exact s1 i j h1 h2 c
  ·by_cases c2:i < q
   ·exact hh i h1 c2 j (by omega) h3
   ·exact s2 i j (by omega) h2 h3
 have low:∀i,p≤i→i < p+k→∀j,q≤j→j < q+n→lt (G a j) (G a i)=false:=fun i h1 h2 j h3 h4=>by
  have z:=tl (hk2 (i - p) (by omega))
  rw[show p+(i - p)=i by omega] at z
  exact C.tr _ _ _ z (s2 q j (Nat.le_refl _) h3 h4)
 by_cases c1:(m - k==0)=true
 ·rw[if_pos c1]
  have c1:=eqt c1
  exact wpS_pure (h a _ hk hf rfl e3 (Cg.refl _ _ _) (seg fun i h1 h2=>low i h1 (by omega)))
 rw[if_neg c1]
 have c1:=eqf c1
 rw[show p+k+(m - k) - 1=q - 1 by omega]
 refine wpS_bind (aQ (show q - 1 < a.size by omega) (wpS_bind (ge (bv lt true (G a (q - 1)) a q) (fun o ho Q' q'=>gg C (fun _ z=>hN.at z) (hN.at (by omega)) (show q+o < a.size by omega) hk q') (fun o o' ho hp' hb'=>C.lelt (s2 _ _ (by omega) (by omega) (by omega)) hb') (by omega) fun n1 hn1 hn2 hn3=>?_)))
 dsimp only
 have hig:∀j,q+n1≤j→j < q+n→∀i,p≤i→i < q→lt (G a j) (G a i)=false:=fun j h1 h2 i h3 h4=>by
  have z:=hn3 (j - q) (by omega) (by omega)
  have z:lt (G a (q+(j - q))) (G a (q - 1))=false:=z
  rw[show q+(j - q)=j by omega] at z
  exact C.tr _ _ _ (s1 i (q - 1) h3 (by omega) (by omega)) z
 by_cases c2:(n1==0)=true
 ·rw[if_pos c2]
  have c2:=eqt c2
  exact wpS_pure (h a _ hk hf rfl e3 (Cg.refl _ _ _) (seg fun i h1 h2 j h3 h4=>hig j (by omega) h4 i h1 h2))
 rw[if_neg c2]
 have c2:=eqf c2
 have zx:(a.extract (p+k) q).size=q - (p+k):=dU (by omega)
 have zy:(a.extract q (q+n1)).size=n1:=by rw[dU (by omega),Nat.add_sub_cancel_left]
 have gx:∀i,i < (a.extract (p+k) q).size→G (a.extract (p+k) q) i=G a (p+k+i):=fun i hi=>kh (by omega) (by omega)
 have gy:∀i,i < (a.extract q (q+n1)).size→G (a.extract q (q+n1)) i=G a (q+i):=fun i hi=>kh (by omega) (by omega)
 have hx:Asc lt (a.extract (p+k) q):=fun i j hij hj=>by rw[gx i (by omega),gx j hj];exact s1 _ _ (by omega) (by omega) (by omega)
 have hy:Asc lt (a.extract q (q+n1)):=fun i j hij hj=>by rw[gy i (by omega),gy j hj];exact s2 _ _ (by omega) (by omega) (by omega)
 have Nx:∀i,i < (a.extract (p+k) q).size→N (G (a.extract (p+k) q) i):=fun i hi=>by rw[gx i hi];exact hN.at (by omega)
 have Ny:∀i,i < (a.extract q (q+n1)).size→N (G (a.extract q (q+n1)) i):=fun i hi=>by rw[gy i hi];exact hN.at (by omega)
 have hb:lt (G (a.extract q (q+n1)) 0) (G (a.extract (p+k) q) 0)=true:=by
  rw[gx 0 (by omega),gy 0 (by omega)]
  exact fl (hk3 k (Nat.le_refl _) (by omega))
 have hl:∀j,j < (a.extract q (q+n1)).size→lt (G (a.extract q (q+n1)) j) (G (a.extract (p+k) q) ((a.extract (p+k) q).size - 1))=true:=fun j hj=>by
  rw[gx _ (by omega),gy j hj,zx,show p+k+(q - (p+k) - 1)=q - 1 by omega]
  exact hn2 j (by omega)
 have fin:∀(r:Array Keyed) (st2:SortSt),Fr (SortSt.mk' (kindOf st) a (((pendingOf st).setIfInBounds i (p,m+n,e)).eraseIdxIfInBounds (i+1)) (gallopOf st) (failedOf st)) st2→Good lt (a.extract (p+k) q) (a.extract q (q+n1)) r →
   wpS M A E s (do
    modify fun s=>setArr s (r.toList.zipIdx.foldl (fun a (z,j)=>a.setIfInBounds (p+k+j) z) (arrOf s))
    return (failedOf (←get)).isNone) Q st2:=fun r st2 f g=>by
  obtain⟨f1,f2,f3,f4⟩:=f
  have f2:arrOf st2=a:=f2
  refine wpS_bind (wpS_modify (wpS_bind (wpS_get ?_)))
  obtain⟨b1,b2⟩:=pR C (p:=p) (z:=q+n) (by omega) (by omega) (by omega) hs g s1 s2 low hig
  have fn:failedOf st2=none:=f4.trans hf
  have e9:(failedOf (setArr st2 (r.toList.zipIdx.foldl (fun a (z:Keyed × Nat)=>a.setIfInBounds (p+k+z.2) z.1) (arrOf st2)))).isNone=true:=by
   show (failedOf st2).isNone=true;rw[fn];rfl
  show wpS _ _ _ _ (pure (failedOf (setArr st2 (r.toList.zipIdx.foldl (fun a (z:Keyed × Nat)=>a.setIfInBounds (p+k+z.2) z.1) (arrOf st2)))).isNone) _ (setArr st2 (r.toList.zipIdx.foldl (fun a (z:Keyed × Nat)=>a.setIfInBounds (p+k+z.2) z.1) (arrOf st2)))
  rw[e9]
  refine wpS_pure (h _ _ (f1.trans hk) fn rfl ?_ ?_ ?_)
  ·exact (congrArg Array.toList f3).trans e3
  ·rw[f2];exact b1
  ·rw[f2];exact b2
 by_cases c3:m - k≤n1
 ·rw[if_pos c3]
  exact wpS_bind (t7 C hk Nx Ny hx hy (show 0 < (a.extract (p+k) q).size by omega) (show 0 < (a.extract q (q+n1)).size by omega) hb hl fun r st2 f g=>fin r st2 f g)
 ·rw[if_neg c3]
  exact wpS_bind (t8 C hk Nx Ny hx hy (show 0 < (a.extract (p+k) q).size by omega) (show 0 < (a.extract q (q+n1)).size by omega) hb hl fun r st2 f g=>fin r st2 f g)
end
def Runs (lt:Keyed→Keyed→Bool) (a:Array Keyed):List (Nat × Nat × Nat)→Nat→Nat→Prop
 | [],b,e=>b=e
 |x::l,b,e=>x.1=b∧1≤x.2.1∧Seg lt a b (b+x.2.1)∧Runs lt a l (b+x.2.1) e
section
variable {M:Model} {A:Around} {E:Value→Shared→Prop} {s:Shared} {κ:SortKind} {N:Keyed→Prop} {lt:Keyed→Keyed→Bool}
theorem Runs.len {a:Array Keyed}:∀{l:List (Nat × Nat × Nat)} {b e:Nat},Runs lt a l b e→b+l.length≤e
 | [],_,_,h=>Nat.le_of_eq h
 |x::l,b,e,h=>by
  have:=Runs.len h.2.2.2
  have:=h.2.1
  rw[List.length_cons];omega
theorem Seg.congr {a a':Array Keyed} {b e:Nat} (h:∀k,b≤k→k < e→G a' k=G a k) (r:Seg lt a b e):Seg lt a' b e:=fun i j h1 h2 h3=>by
 rw[h i h1 (by omega),h j (by omega) h3];exact r i j h1 h2 h3
theorem Runs.congr {a a':Array Keyed}:∀{l:List (Nat × Nat × Nat)} {b e:Nat},(∀k,b≤k→k < e→G a' k=G a k)→Runs lt a l b e→Runs lt a' l b e
 | [],_,_,_,r=>r
 |x::l,b,e,h,r=>by
  have:=Runs.len r.2.2.2
  exact⟨r.1,r.2.1,r.2.2.1.congr fun k h1 h2=>h k h1 (by omega),Runs.congr (fun k h1 h2=>h k (by omega) h2) r.2.2.2⟩
theorem Runs.app {a:Array Keyed} {l2:List (Nat × Nat × Nat)}:∀{l1:List (Nat × Nat × Nat)} {b e:Nat},Runs lt a (l1++l2) b e↔∃m,Runs lt a l1 b m∧Runs lt a l2 m e
 | [],b,e=>⟨fun h=>⟨b,rfl,h⟩,fun⟨m,h1,h2⟩=>by cases h1;exact h2⟩
 |x::l1,b,e=>by
  constructor
  ·rintro⟨h1,h2,h3,h4⟩
   obtain⟨m,h5,h6⟩:=Runs.app.mp h4
   exact⟨m,⟨h1,h2,h3,h5⟩,h6⟩
  ·rintro⟨m,⟨h1,h2,h3,h4⟩,h5⟩
   exact⟨h1,h2,h3,Runs.app.mpr ⟨m,h4,h5⟩⟩
structure RS (κ:SortKind) (N:Keyed→Prop) (lt:Keyed→Keyed→Bool) (a0:Array Keyed) (lo:Nat) (st:SortSt):Prop where
 k:PyProof.Rows.kindOf st=κ
 f:failedOf st=none
 pm:(arrOf st).Perm a0
 r:Runs lt (arrOf st) (pendingOf st).toList 0 lo
theorem pq (C:Cmp M A E s κ N lt) {a0:Array Keyed} {lo i:Nat} {st:SortSt} {Q:Bool→SortSt→Prop} (hN:Nm N a0) (R:RS κ N lt a0 lo st) (hlo:lo≤a0.size) (hi:i+1 < (pendingOf st).size)
  (q:∀st',RS κ N lt a0 lo st'→(pendingOf st').size+1=(pendingOf st).size→(∀k,lo≤k→G (arrOf st') k=G (arrOf st) k)→Q true st'):wpS M A E s (mergeAt' i) Q st:=by
 have hz:=R.pm.size_eq
 have hN':Nm N (arrOf st):=hN.perm R.pm
 obtain⟨l1,x,y,l2,e,hl⟩:∃l1 x y l2,(pendingOf st).toList=l1++x::y::l2∧l1.length=i:=by
  have h1:i < (pendingOf st).toList.length:=by rw[Array.length_toList];omega
  have h2:i+1 < (pendingOf st).toList.length:=by rw[Array.length_toList];omega
  refine⟨(pendingOf st).toList.take i,(pendingOf st).toList[i],(pendingOf st).toList[i+1],(pendingOf st).toList.drop (i+1+1),?_,by rw[List.length_take];omega⟩
  rw[←List.drop_eq_getElem_cons h2,←List.drop_eq_getElem_cons h1,List.take_append_drop]
 obtain⟨p,m,w⟩:=x
 obtain⟨q',n,w'⟩:=y
 have r:=R.r
 rw[e] at r
 obtain⟨b,r1,h1,h2,h3,h4,h5,h6,h7⟩:=Runs.app.mp r
 have h1:p=b:=h1
 subst h1
 have h4:q' = p+m:=h4
 dsimp only at h2 h3 h5 h6 h7
 have le:=h7.len
 show wpS M A E s (mergeAt' i) Q (sa st (arrOf st))
 refine t9 C R.k R.f hN' e hl h4 h2 h5 (by omega) (by rw[h4];exact h3) (by rw[h4];exact h6) fun a' st' k1 k2 k3 k4 k5 k6=>q st' ⟨k1,k2,by rw[k3];exact k5.pm.trans R.pm,?_⟩ ?_ fun k hk=>by rw[k3];exact k5.at_ k (by omega)
 ·rw[k3,k4]
  have le1:=r1.len
  refine Runs.app.mpr ⟨p,r1.congr fun k _ hk=>k5.at_ k (by omega),rfl,by show 1≤m+n;omega,?_,?_⟩
  ·show Seg lt a' p (p+(m+n))
   rw[h4,Nat.add_assoc] at k6;exact k6
  ·show Runs lt a' l2 (p+(m+n)) lo
   rw[←Nat.add_assoc]
   exact h7.congr fun k hk _=>k5.at_ k (by omega)
 ·have z1:=congrArg List.length e
  have z2:=congrArg List.length k4
  simp only[Array.length_toList,List.length_append,List.length_cons] at z1 z2
  omega
theorem lc {a:Array Keyed} {w:Nat}:∀{l:List (Nat × Nat × Nat)} {i b e:Nat},Runs lt a l b e→Runs lt a (l.modify i fun x=>(x.1,x.2.1,w)) b e
 | [],i,_,_,h=>by
  simpa using h
 |x::l,0,_,_,h=>h
 |x::l,i+1,_,_,h=>⟨h.1,h.2.1,h.2.2.1,lc h.2.2.2⟩
theorem wp_runs (C:Cmp M A E s κ N lt) {a0:Array Keyed} {st:SortSt} {Q:Unit→SortSt→Prop} (hN:Nm N a0) (hk:PyProof.Rows.kindOf st=κ) (hf:failedOf st=none) (ha:arrOf st=a0) (hp:pendingOf st=#[]) (h2:2≤a0.size)
  (q:∀st',failedOf st' = none→(arrOf st').Perm a0→Seg lt (arrOf st') 0 a0.size→Q () st'):wpS M A E s sortRuns' Q st:=by
 rw[sortRuns'_eq]
 refine wpS_bind (wpS_get ?_)
 dsimp only
 rw[ha]
 generalize minRun' a0.size a0.size 0=mr
 have R0:RS κ N lt a0 0 st:=⟨hk,hf,ha ▸ Array.Perm.refl _,by rw[hp];exact rfl⟩
 refine wpS_bind (wpS_mono (wpS_forRange (I:=fun t x st'=>x.1=none∧t≤x.2∧x.2≤a0.size∧RS κ N lt a0 x.2 st') (Q:=fun x st'=>x.1=none∧x.2=a0.size∧RS κ N lt a0 x.2 st') ?step ?fin ⟨rfl,Nat.le_refl _,Nat.zero_le _,R0⟩) ?post)
 case fin=>
  rintro⟨r,lo⟩ st' ⟨e1,e2,e3,e4⟩
  have e2:max 0 a0.size≤lo:=e2
  have e3:lo≤a0.size:=e3
  exact⟨e1,by show lo=_;omega,e4⟩
 case post=>
  rintro⟨r,lo⟩ st' ⟨e1,e2,R⟩
  cases e1
  have e2:lo=a0.size:=e2
  subst e2
  dsimp only at R ⊢
  have l0:=R.r.len
  rw[Array.length_toList] at l0
  refine wpS_bind (wpS_mono (wpS_forRange (I:=fun t x st'=>x.1=none∧RS κ N lt a0 a0.size st'∧((pendingOf st').size+t≤a0.size∨(pendingOf st').size≤1)) (Q:=fun x st'=>x.1=none∧RS κ N lt a0 a0.size st'∧(pendingOf st').size≤1) ?s2 ?f2 ⟨rfl,R,.inl (by omega)⟩) ?p2)
  case f2=>
   rintro⟨r,u⟩ st' ⟨e1,R,e2⟩
   exact⟨e1,R,by omega⟩
  case p2=>
   rintro⟨r,u⟩ st' ⟨e1,R,e2⟩
   cases e1
   refine wpS_pure (q st' R.f R.pm ?_)
   have r:=R.r
   have z:(pendingOf st').toList.length≤1:=by rw[Array.length_toList];exact e2
   match hh:(pendingOf st').toList,r,z with
   | [],r,_=>have:0=a0.size:=r;omega
   | [x],r,_=>
    have r3:=r.2.2.1
    have e:0+x.2.1=a0.size:=r.2.2.2
    rw[e] at r3;exact r3
   |x::y::l,r,z=>simp only[List.length_cons] at z;omega
  case s2=>
   rintro t ⟨r,u⟩ st' _ ht ⟨e1,R,e2⟩
   refine wpS_bind (wpS_get ?_)
   by_cases c:(pendingOf st').size≤1
   ·rw[if_pos c];exact wpS_pure ⟨rfl,R,c⟩
   rw[if_neg c]
   refine wpS_bind (pq C hN R (Nat.le_refl _) ?_ fun st'' R' hz _=>wpS_pure ⟨rfl,R',by omega⟩)
   repeat' split
   all_goals omega
 case step=>
  rintro t ⟨r,lo⟩ st' _ ht ⟨e1,e2,e3,R⟩
  cases e1
  dsimp only at e2 e3 R ⊢
  by_cases c:lo ≥ a0.size
  ·rw[if_pos c];exact wpS_pure ⟨rfl,by show lo=_;omega,R⟩
  rw[if_neg c]
  have hz:=R.pm.size_eq
  show wpS M A E s _ _ (sa st' (arrOf st'))
  refine wpS_bind (px C R.k (hN.perm R.pm) (by omega) (by omega) fun n a1 cg n1 n2 sg=>?_)
  dsimp only
  have R1:RS κ N lt a0 lo (sa st' a1):=⟨R.k,R.f,cg.pm.trans R.pm,R.r.congr fun k _ hk'=>cg.at_ k (.inl hk')⟩
  have z1:=cg.size
  by_cases c2:n < mr
  rw[if_pos c2]
  refine wpS_bind (eQ (wpS_bind (t_ C R.k (hN.perm R1.pm) (o:=n) n1 (by omega) (by omega) sg fun a2 cg2 sg2=>?_)))
  rw[if_neg (by decide)]
  have R2:RS κ N lt a0 lo (sa st' a2):=⟨R.k,R.f,cg2.pm.trans R1.pm,R1.r.congr fun k _ hk'=>cg2.at_ k (.inl hk')⟩
  have n3:1≤min (a0.size - lo) mr:=by omega
  have n4:lo+min (a0.size - lo) mr≤a0.size:=by omega
  generalize min (a0.size - lo) mr=nn at sg2 n3 n4 ⊢
  rotate_left
  rw[if_neg c2]
  have sg2:=sg
  have R2:=R1
  have n3:=n1
  have n4:lo+n≤a0.size:=by omega
  clear n1 n2 sg c2
  generalize n=nn at sg2 n3 n4 ⊢
  generalize a1=a2 at sg2 R2 ⊢
  all_goals
   refine wpS_bind (wpS_get ?_)
   have last:∀st3,RS κ N lt a0 lo st3→Seg lt (arrOf st3) lo (lo+nn)→wpS M A E s (do
     modify fun s=>setPending s ((pendingOf s).push (lo,nn,0))
     pure (ForInStep.yield ((none:Option Unit),lo+nn))) (fun (r:ForInStep (Option Unit × Nat)) st'=>match r with | .done x=>x.1=none∧x.2=a0.size∧RS κ N lt a0 x.2 st' | .yield x=>x.1=none∧t+1≤x.2∧x.2≤a0.size∧RS κ N lt a0 x.2 st') st3:=fun st3 R3 sg3=>by
    refine wpS_bind (wpS_modify (wpS_pure ⟨rfl,by show t+1≤lo+nn;omega,n4,R3.k,R3.f,R3.pm,?_⟩))
    show Runs lt (arrOf st3) ((pendingOf st3).push (lo,nn,0)).toList 0 (lo+nn)
    rw[Array.toList_push]
    exact Runs.app.mpr ⟨lo,R3.r,rfl,n3,sg3,rfl⟩
   cases hb:(pendingOf (sa st' a2)).back? with
   |none=>exact last _ R2 sg2
   |some y=>
    obtain⟨s1,n5,w⟩:=y
    dsimp only
    generalize power' _ _ _ _=pw
    refine wpS_bind (wpS_mono (wpS_forRange (I:=fun _ x st3=>x.1=none∧RS κ N lt a0 lo st3∧Seg lt (arrOf st3) lo (lo+nn)) (Q:=fun x st3=>x.1=none∧RS κ N lt a0 lo st3∧Seg lt (arrOf st3) lo (lo+nn)) ?_ (fun _ _ z=>z) ⟨rfl,R2,sg2⟩) ?_)
    ·rintro t3 ⟨r,u⟩ st3 _ ht3 ⟨e1,R3,sg3⟩
     refine wpS_bind (wpS_get ?_)
     by_cases c3:(pendingOf st3).size > 1
     ·rw[if_pos c3,Array.getElem?_eq_getElem (show (pendingOf st3).size - 2 < (pendingOf st3).size by omega)]
      dsimp only
      split
      ·exact wpS_pure ⟨rfl,R3,sg3⟩
      ·exact wpS_bind (pq C hN R3 e3 (by omega) fun st4 R4 _ k4=>wpS_pure ⟨rfl,R4,sg3.congr fun k hk1 _=>k4 k hk1⟩)
     ·rw[if_neg c3]
      exact wpS_pure ⟨rfl,R3,sg3⟩
    ·rintro⟨r,u⟩ st3 ⟨e1,R3,sg3⟩
     cases e1
     refine wpS_bind (wpS_modify (last _ ⟨R3.k,R3.f,R3.pm,?_⟩ sg3))
     show Runs lt (arrOf st3) ((pendingOf st3).modify _ _).toList 0 lo
     rw[Array.toList_modify]
     exact lc R3.r
end
end TimS
end
section
namespace L2
open PySem PySem.Spec PyProof.Rows PySem.W
open HT (lexLt)
theorem lC:∀a b:List Int,lexLt a b=true→lexLt b a=false
 | [],[],h=>rfl
 | [],_::_,_=>rfl
 |_::_,[],h=>by cases h
 |x::xs,y::ys,h=>by
  rw[HT.lexLt_cons] at h ⊢
  by_cases e:x=y
  ·rw[if_pos e] at h;rw[if_pos e.symm];exact lC xs ys h
  ·rw[if_neg e] at h;rw[if_neg fun z=>e z.symm]
   have:x < y:=of_decide_eq_true h
   exact decide_eq_false (by omega)
theorem qu:∀a b c:List Int,lexLt b a=false→lexLt c b=false→lexLt c a=false
 | [],b,[],_,_=>rfl
 | [],[],_::_,_,h=>rfl
 | [],_::_,_::_,_,_=>rfl
 |_::_,[],_,h,_=>by cases h
 |_::_,_::_,[],_,h=>by cases h
 |x::xs,y::ys,z::zs,h1,h2=>by
  rw[HT.lexLt_cons] at h1 h2 ⊢
  by_cases e1:y=x
  ·subst e1
   rw[if_pos rfl] at h1
   by_cases e2:z=y
   ·rw[if_pos e2] at h2 ⊢;exact qu xs ys zs h1 h2
   ·rw[if_neg e2] at h2 ⊢;exact h2
  ·rw[if_neg e1] at h1
   have l1:¬y < x:=of_decide_eq_false h1
   by_cases e2:z=y
   ·subst e2
    rw[if_neg e1];exact h1
   ·rw[if_neg e2] at h2
    have l2:¬z < y:=of_decide_eq_false h2
    rw[if_neg (by omega)]
    exact decide_eq_false (by omega)
def Tups (K:Frag) (H:Hp) (ys:List V) (ks:List (List Int)):Prop:=Paired (fun y k=>∃b,y=V.ref b∧SqT K H b (k.map V.int)∧k≠[]) ys ks
theorem uN {h h':Heap} {a:Addr} {m m':Str→Option Value} (h1:h.Ns a m) (h2:h.Ns a m'):m=m':=by
 obtain⟨o,es,ep,e1,e2,_,e4⟩:=h1
 obtain⟨o',es',ep',f1,f2,_,f4⟩:=h2
 rw[e1] at f1;cases f1
 rw[e2] at f2;cases f2
 funext x
 rw[←e4,←f4]
section
variable {X:Cx} {pins:List (Addr × Obj)} {σ:St} {H:Hp} {s:Shared}
theorem Inv.newsKept {h':Heap} {m:Str→Option Value} {t':Nat} {more:List (Addr × Obj)} (I:Inv X pins σ H s) (F:Fr X.base X.env.locals s.heap m) (F':Fr X.base X.env.locals h' m) (N:News X.base X.env.locals h' (more++h9 X.base s.heap X.env.locals)) :
  (∀b o,b≠X.env.locals→s.heap.get? b=some o→h'.get? b=some o)∧(∀m,s.heap.Ns X.env.locals m→h'.Ns X.env.locals m):=by
 refine⟨fun b o hb e=>?_,fun m' hm=>by rw[←uN (h':=h') F.ns hm];exact F'.ns⟩
 cases q:X.base.get? b with
 |some u=>
  have e2:=I.bk b u q
  rw[e] at e2;cases e2
  exact F'.keep b _ q
 |none=>exact (N (b,o) (List.mem_append_right _ (eN hb q e))).1
theorem aS.there {P:Program} {w:World} {H:Hp} {h:Heap} {a:Addr} {o:HO} (x:aS P w H h a o):∃ob,h.get? a=some ob:=by
 cases o with
 |lst xs=>obtain⟨_,_,_,_,e⟩:=x;exact⟨_,e⟩
 |tup xs=>obtain⟨_,_,_,ob,e,_⟩:=x;exact⟨_,e⟩
 |dK kvs=>obtain⟨_,_,_,_,o,_,_,e,_⟩:=x;exact⟨_,e⟩
 |dT kvs=>obtain⟨_,_,_,_,o,_,_,e,_⟩:=x;exact⟨_,e⟩
 |set S n=>obtain⟨o,_,_,_,e,_⟩:=x;exact⟨_,e⟩
 |ins C dx fs=>obtain⟨_,_,_,e,_⟩:=x;exact⟨_,e⟩
 |own y=>exact x
 |xd fs=>obtain⟨_,⟨_,_,_,e,_⟩,_⟩:=x;exact⟨_,e⟩
 |rng lo hi=>obtain⟨_,_,_,e⟩:=x;exact⟨_,e⟩
 |frz ob u=>obtain⟨e,_⟩:=x;exact⟨_,e⟩
 |tbl ps=>exact⟨_,(show h.get? a=some _ from x)⟩
 |met f y=>exact⟨_,(show h.get? a=some _ from x)⟩
 |ext φ=>obtain⟨_,e,_⟩:=x;exact e
theorem HOk.none_of {P:Program} {w:World} {H:Hp} {h:Heap} {a:Addr} (x:HOk P w H h) (e:h.get? a=none):H a=none:=by
 cases q:H a with
 |none=>rfl
 |some u=>
  obtain⟨o,z⟩:=(x a u q).there
  rw[e] at z;cases z
theorem Inv.laidN {h':Heap} {t':Nat} {a:Addr} {o:HO} (I:Inv X pins σ H s) (k:∀b o,b≠X.env.locals→s.heap.get? b=some o→h'.get? b=some o) (kn:∀m,s.heap.Ns X.env.locals m→h'.Ns X.env.locals m)
  (ha:s.heap.get? a=none) (new:∀H',aS X.prog X.w H' h' a o) (hx:∀y fs,o≠.ins y fs []):Inv X pins σ (upd H a o) {s with heap:=h',toks:=t'}:=by
 have hn:H a=none:=I.hok.none_of ha
 have hL:∀b u,H b=some u→b≠X.env.locals:=fun b u e z=>by rw[z,I.free] at e;cases e
 refine I.step (g':=s.gens) (d':=s.drawn) (ch:=[]) (fun _ z=>nomatch z) (fun b o hb _ _ e _=>k b o hb e) (fun b o hb _ _ e _=>⟨o.slots,k b o hb e⟩) (fun b o _ e n=>?_) (fun b o _ e=>?_) (fun b xs e=>?_) (fun b o u e=>?_) (fun b ps e=>⟨#[],?_⟩) kn (fun b u e=>?_) I.bare
 ·rw[au (fun z=>by rw[z,ha] at e;cases e)];exact n
 ·by_cases hb:b=X.env.locals
  ·subst hb
   obtain⟨m,hm,_⟩:=I.loc
   obtain⟨o',_,_,e',_⟩:=kn m hm
   exact⟨o',e'⟩
  ·exact⟨o,k b o hb e⟩
 ·rw[au (ag e hn)];exact e
 ·rw[au (ag e hn)];exact e
 ·rw[au (ag e hn),e];simp
 ·by_cases hb:b=a
  ·subst hb;rw[al] at e;cases e;exact new _
  ·rw[au hb] at e
   refine (I.hok b u e).stay (fun c v hc q=>k c v ?_ q) (fun c q=>by rw[au (ag q hn)];exact q) fun c xs q=>by rw[au (ag q hn)];exact q
   rcases hc with z|z
   ·rw[z];exact hL b u e
   ·exact hL c _ z
theorem Inv.keptN {h':Heap} {t':Nat} (I:Inv X pins σ H s) (k:∀b o,b≠X.env.locals→s.heap.get? b=some o→h'.get? b=some o) (kn:∀m,s.heap.Ns X.env.locals m→h'.Ns X.env.locals m):Inv X pins σ H {s with heap:=h',toks:=t'}:=by
 have hL:∀b u,H b=some u→b≠X.env.locals:=fun b u e z=>by rw[z,I.free] at e;cases e
 refine I.step (g':=s.gens) (d':=s.drawn) (ch:=[]) (fun _ z=>nomatch z) (fun b o hb _ _ e _=>k b o hb e) (fun b o hb _ _ e _=>⟨o.slots,k b o hb e⟩) (fun b o _ e n=>n) (fun b o _ e=>?_) (fun b xs e=>e) (fun b o u e=>e) (fun b ps e=>⟨#[],by rw[e];simp⟩) kn (fun b u e=>?_) I.bare
 ·by_cases hb:b=X.env.locals
  ·subst hb
   obtain⟨m,hm,_⟩:=I.loc
   obtain⟨o',_,_,e',_⟩:=kn m hm
   exact⟨o',e'⟩
  ·exact⟨o,k b o hb e⟩
 ·refine (I.hok b u e).stay (fun c v hc q=>k c v ?_ q) (fun c q=>q) fun c xs q=>q
  rcases hc with z|z
  ·rw[z];exact hL b u e
  ·exact hL c _ z
end
end L2
end
section
namespace L2
open PySem PySem.Spec PyProof.Rows PySem.W
def cD (h:Heap) (a:Addr) (vs:List Value):Heap:=((h.update a (Obj.mapSeq fun _=>#[])).push (seqObj "tuple" vs.toArray 0)).push (seqObj "list" #[] 0)
section
variable {prog:Program} {w:World} {A:Around} {E:Value→Shared→Prop} {κ:SortKind} {rk:Value→List Int}
theorem ji {s:Shared} {a:Addr} {vs:List Value} {n:Nat} {P:PySem.Fin→Shared→Prop} (ho:s.heap.get? a=some (seqObj "list" vs.toArray n)) (hz:vs.length≤sizeLine)
  (hk:2≤vs.length→∀Q:SortKind→Shared→Prop,Q κ {s with heap:=cD s.heap a vs}→wpAny (model prog w) A (keyKind' vs.toArray) Q E {s with heap:=cD s.heap a vs})
  (hc:2≤vs.length→∀x∈vs,∀y∈vs,∀C:Bool→Shared→Prop,C (HT.lexLt (rk x) (rk y)) {s with heap:=cD s.heap a vs}→wpAny (model prog w) A (keyLt' κ x y) C (fun _ _=>False) {s with heap:=cD s.heap a vs})
  (h:∀out:List Value,out.Perm vs→out.Pairwise (fun u v=>HT.lexLt (rk v) (rk u)=false)→P (.done (.ret .none)) {s with heap:=sortedHeap s.heap a vs out.toArray}):wpAny (model prog w) A (Builtin.«list.sort» ⟨[.ref a],[]⟩) P E s:=by
 have lt:a < s.heap.objs.size:=Heap.lt_size ho
 obtain⟨e1,h1⟩:∃e1,(s.heap.update a (Obj.mapSeq fun _=>(#[]:Array Value))).get? a=some (seqObj "list" #[] e1):=⟨_,get?_update_seq ho fun _=>#[]⟩
 have h3:(cD s.heap a vs).get? a=some (seqObj "list" #[] e1):=Heap.get?_push_of_some _ (Heap.get?_push_of_some _ h1)
 have zs:(vs.toArray.zip vs.toArray).map (·.2)=vs.toArray:=by
  apply Array.toList_inj.mp
  simp only[Array.toList_map,List.zip_toArray]
  exact List.map_snd_zip (Nat.le_refl _)
 rw[list_sort_plain]
 refine wpAny_bind (listItems_at ho rfl (wpAny_bind (listUpdate_at ho rfl (wpAny_bind (seqEpoch_at h1 rfl (wpAny_bind (wpAny_newTuple (wpAny_bind (wpAny_newList (wpAny_holding ?_) (Nat.zero_le _))) hz)))) (by rw[List.size_toArray];omega) (Nat.zero_le _))))
 show wpAny _ _ _ _ _ {s with heap:=cD s.heap a vs}
 have fin:∀st:SortSt,failedOf st=none→((arrOf st).map (·.2)).toList.Perm vs→((arrOf st).map (·.2)).toList.Pairwise (fun u v=>HT.lexLt (rk v) (rk u)=false)→∀s':Shared,s' = {s with heap:=cD s.heap a vs}→wpAny (model prog w) A (do
   let touched:=(←seqEpoch a) != e1
   Builtin.List.listUpdate (.ref a) fun _=>(arrOf st).map (·.2)
   if let some e:=failedOf st then rule "list.sort.comparison-raised";throw e
   if touched then rule "list.sort.modified";raiseError "ValueError" "list modified during sort"
   ret .none) P E s':=by
  rintro st hf hp hs _ rfl
  refine wpAny_bind (seqEpoch_at h3 rfl (wpAny_bind (listUpdate_at h3 rfl ?_ (Nat.zero_le _) (by have:=hp.length_eq;rw[Array.length_toList] at this;omega))))
  rw[hf]
  simp only[bne_self_eq_false,Bool.false_eq_true,if_false]
  exact wpAny_pure (by
   have z:=h _ hp hs
   rwa [Array.toArray_toList] at z)
 dsimp only
 by_cases h2:vs.length < 2
 ·have hs2:vs.toArray.size < 2:=by rw[List.size_toArray];exact h2
  rw[if_pos hs2,if_pos hs2]
  refine wpAny_bind (wpAny_pure ?_)
  rw[StateT.run_pure]
  refine wpAny_bind (wpAny_pure ?_)
  refine fin (SortSt.mk' general' (vs.toArray.zip vs.toArray) #[] 7 none) rfl ?_ ?_ _ rfl
  ·show (((vs.toArray.zip vs.toArray).map (·.2)).toList).Perm vs
   rw[zs]
  ·show (((vs.toArray.zip vs.toArray).map (·.2)).toList).Pairwise _
   rw[zs]
   match vs,h2 with
   | [],_=>exact .nil
   | [_],_=>exact List.pairwise_singleton _ _
 ·have nt:¬vs.toArray.size < 2:=by rw[List.size_toArray];omega
  rw[if_neg nt,if_neg nt]
  refine wpAny_bind (hk (by omega) _ ?_)
  have mem:∀x∈(vs.toArray.zip vs.toArray),x.1∈vs∧x.1=x.2:=fun x hx=>by
   have hx:x∈vs.zip vs:=by simpa using hx
   obtain⟨i,hi⟩:=List.mem_iff_getElem?.mp hx
   rw[List.getElem?_zip_eq_some] at hi
   exact⟨List.mem_of_getElem? hi.1,Option.some.inj (hi.1.symm.trans hi.2)⟩
  have C:TimS.Cmp (model prog w) A E {s with heap:=cD s.heap a vs} κ (fun x=>x∈(vs.toArray.zip vs.toArray)) (fun x y=>HT.lexLt (rk x.1) (rk y.1)):=by
   refine⟨fun _ _=>lC _ _,fun _ _ _=>qu _ _ _,fun {x y st Q} hx hy hk' q=>?_⟩
   rw[lt'_eq]
   refine wpS_bind (wpS_get ?_)
   rw[hk']
   refine wpS_bind (wpS_lift (wpAny_attempt (wpAny_mono (hc (by omega) _ (mem x hx).1 _ (mem y hy).1 (fun b s'=>b=HT.lexLt (rk x.1) (rk y.1)∧s' = {s with heap:=cD s.heap a vs}) ⟨rfl,rfl⟩) (fun b s' ⟨e,e'⟩=>?_) fun _ _ z=>z.elim)))
   subst e e'
   exact⟨rfl,wpS_pure q⟩
  have hzz:(vs.toArray.zip vs.toArray).size=vs.length:=by simp
  refine wpAny_bind (wpAny_mono (TimS.wp_runs C (st:=SortSt.mk' κ (vs.toArray.zip vs.toArray) #[] 7 none) (fun x hx=>hx) rfl rfl rfl rfl (by rw[hzz];omega) (Q:=fun _ st=>failedOf st=none∧(arrOf st).Perm (vs.toArray.zip vs.toArray)∧TimS.Seg (fun x y=>HT.lexLt (rk x.1) (rk y.1)) (arrOf st) 0 vs.length) fun st' f p g=>⟨f,p,by rw[hzz] at g;exact g⟩) ?_ fun _ _ e=>e)
  rintro⟨⟨⟩,st'⟩ s' ⟨e,hf,hp,hg⟩
  refine fin st' hf ?_ ?_ s' e
  ·have:=(Array.perm_iff_toList_perm.mp hp).map (·.2)
   rw[←Array.toList_map,←Array.toList_map,zs] at this
   exact this
  ·rw[Array.toList_map,List.pairwise_map]
   refine List.pairwise_iff_getElem.mpr fun i j hi hj hij=>?_
   have hz2:(arrOf st').size=vs.length:=hp.size_eq.trans hzz
   have hi':i < (arrOf st').size:=by simpa using hi
   have hj':j < (arrOf st').size:=by simpa using hj
   have g:=hg i j (Nat.zero_le _) (by omega) (by omega)
   have e2:∀k (hk:k < (arrOf st').size),TimS.G (arrOf st') k=(arrOf st')[k]:=fun k hk=>by simp[TimS.G,hk]
   have e3:∀k (hk:k < (arrOf st').size),((arrOf st')[k]).1=((arrOf st')[k]).2:=fun k hk=>(mem _ (hp.mem_iff.mp (Array.getElem_mem hk))).2
   have g:HT.lexLt (rk (TimS.G (arrOf st') j).1) (rk (TimS.G (arrOf st') i).1)=false:=g
   rw[e2 i hi',e2 j hj',e3 i hi',e3 j hj'] at g
   simpa using g
theorem ig {s:Shared} {l:Addr} {vs:List Value} {Q:Value→Shared→Prop} (hl:s.heap.IsList l vs.toArray) (hz:vs.length+1≤sizeLine)
  (hk:∀h':Heap,(∀b o,s.heap.get? b=some o→h'.get? b=some o)→2≤vs.length→∀Q:SortKind→Shared→Prop,Q κ {s with heap:=h'}→wpAny (model prog w) A.in1.in1 (keyKind' vs.toArray) Q E {s with heap:=h'})
  (hc:∀h':Heap,(∀b o,s.heap.get? b=some o→h'.get? b=some o)→2≤vs.length→∀x∈vs,∀y∈vs,∀C:Bool→Shared→Prop,C (HT.lexLt (rk x) (rk y)) {s with heap:=h'}→wpAny (model prog w) A.in1.in1 (keyLt' κ x y) C (fun _ _=>False) {s with heap:=h'})
  (h:∀out:List Value,out.Perm vs→out.Pairwise (fun u v=>HT.lexLt (rk v) (rk u)=false)→Q (.ref (s.heap.objs.size+1)) {s with heap:=sortedAll s.heap vs out.toArray}):wpAny (model prog w) A (call (.builtin "sorted") [.ref l]) Q E s:=by
 refine Calls.call_function_entry kind_sorted plain_sorted entry_sorted (args_sorted1 _) ?_
 unfold Builtin.«sorted»
 refine wpAny_bind (m:=checkCount "sorted" 1 1 _) (wpAny_pure (wpAny_bind (collect_list hl (wpAny_bind (wpAny_newList ?_ (by omega))) (by omega))))
 generalize hG:(s.heap.push (seqObj "list" #[] 0)).update s.heap.objs.size (Obj.mapSeq (·++vs.toArray))=G
 have hz':G.objs.size=s.heap.objs.size+1:=by rw[←hG,Heap.size_update,size_push']
 have ho:(G.push (seqObj "list" vs.toArray 0)).get? (s.heap.objs.size+1)=some (seqObj "list" vs.toArray 0):=by rw[←hz'];exact Heap.get?_push_size _ rfl
 have hA:∀out:List Value,sortedAll s.heap vs out.toArray=sortedHeap (G.push (seqObj "list" vs.toArray 0)) (s.heap.objs.size+1) vs out.toArray:=fun out=>by rw[←hG];rfl
 have old:∀b o,s.heap.get? b=some o→(cD (G.push (seqObj "list" vs.toArray 0)) (s.heap.objs.size+1) vs).get? b=some o:=fun b o q=>by
  have lt:=Heap.lt_size q
  have g:G.get? b=some o:=by
   rw[←hG,Heap.get?_update_ne _ _ _ _ (Nat.ne_of_lt lt)]
   exact Heap.get?_push_of_some _ q
  refine Heap.get?_push_of_some _ (Heap.get?_push_of_some _ ?_)
  rw[Heap.get?_update_ne _ _ _ _ (Nat.ne_of_lt (Nat.lt_succ_of_lt lt))]
  exact Heap.get?_push_of_some _ g
 show wpAny _ _ _ _ _ {s with heap:=G.push (seqObj "list" vs.toArray 0)}
 rw[hz']
 refine wpAny_bind (wpAny_holding (wpAny_call_entry slot_list_sort ⟨_,ho,rfl⟩ entry_list_sort ?body (args_list_sort _)))
 case body=>
  refine ji (rk:=rk) (κ:=κ) (s:={s with heap:=G.push (seqObj "list" vs.toArray 0)}) ho (by omega) (hk _ old) (hc _ old) fun out p1 p2=>?_
  exact⟨_,rfl,wpAny_pure ⟨_,rfl,(hA out) ▸ h out p1 p2⟩⟩
end
section
variable {X:Cx}
theorem mm (ys:List V):((List.range ys.length).map fun i=>ys.getD i V.non)=ys:=by
 refine List.ext_getElem (by simp) fun i h1 h2=>?_
 simp[h2]
theorem Paired.getE {α β:Type} {F:α→β→Prop}:∀{l1:List α} {l2:List β} {i:Nat} {x:α},Paired F l1 l2→l1[i]? = some x→∃y,l2[i]? = some y∧F x y
 |_,_,_,_,.nil,e=>by simp at e
 |_,_,0,_,.cons r _,e=>by simp at e;subst e;exact⟨_,rfl,r⟩
 |_,_,i+1,x,.cons _ t,e=>by
  obtain⟨u,h1,h2⟩:=Paired.getE (i:=i) (x:=x) t (by simpa using e)
  exact⟨u,by simpa using h1,h2⟩
theorem i9 {ys:List V} {its:List Value} (r:Vals ys its):∀(ix:List Nat),(∀i∈ix,i < ys.length)→Vals (ix.map fun i=>ys.getD i .non) (ix.map fun i=>its.getD i Value.none)
 | [],_=>.nil
 |i::ix,h=>by
  refine .cons ?_ (i9 r ix fun j hj=>h j (List.mem_cons_of_mem _ hj))
  have hi:=h i List.mem_cons_self
  obtain⟨u,e1,e2⟩:=r.get (i:=i) (x:=ys[i]) (by simp[hi])
  have e3:ys.getD i .non=ys[i]:=by simp[List.getD,hi]
  have e4:its.getD i Value.none=u:=by rw[List.getD,e1];rfl
  show RelV (ys.getD i .non) (its.getD i Value.none)
  rw[e3,e4];exact e2
theorem oh {prog:Program} {w:World} {A:Around}:∀(us ws:List Value) (ns ms:List Int) (i:Nat) (s:Shared) {fin:Bool} {Q:Bool→Shared→Prop},IntsAre us ns→IntsAre ws ms→fin=decide (ns.length < ms.length)→Q (HT.lexLt ns ms) s→KatLex prog w A true fin Q (us.zip ws) i s
 | [],[],_,_,_,s,fin,Q,.nil,.nil,e,q=>by subst e;exact q
 | [],_::_,_,_,_,s,fin,Q,.nil,.cons _ _ _,e,q=>by subst e;exact kat_nil (by simpa [HT.lexLt] using q)
 |_::_,[],_,_,_,s,fin,Q,.cons _ _ _,.nil,e,q=>by subst e;exact kat_nil (by simpa [HT.lexLt] using q)
 |_::us,_::ws,_,_,i,s,fin,Q,.cons a t r1,.cons b u r2,e,q=>by
  rw[HT.lexLt_cons] at q
  refine kat_cons (wpAny_eqBool_int ?_)
  by_cases h:a=b
  ·rw[if_pos h] at q
   rw[show (a==b)=true by simpa using h]
   refine kat_yes (oh us ws _ _ (i+1) s r1 r2 ?_ q)
   rw[e];simp
  ·rw[if_neg h] at q
   rw[show (a==b)=false by simpa using h]
   refine kat_no ?_
   cases hb:(true&&i==0) with
   |true=>exact oneLt_int q
   |false=>exact kat_one _ _ (lt_int q)
theorem oC {α β:Type} {f:α→β}:∀{l l':List β},l'.Perm l→∀ix:List α,l=ix.map f→∃ix':List α,ix'.Perm ix∧l' = ix'.map f:=by
 intro l l' h
 induction h with
 |nil=>exact fun ix e=>⟨ix,.refl _,e⟩
 |cons x _ ih=>
  intro ix e
  cases ix with
  |nil=>cases e
  |cons i ix=>
   rw[List.map_cons] at e
   injection e with e1 e2
   obtain⟨ix',p,q⟩:=ih ix e2
   exact⟨i::ix',p.cons i,by rw[List.map_cons,e1,q]⟩
 |swap x y l=>
  intro ix e
  match ix,e with
  |i::j::ix,e=>
   simp only[List.map_cons,List.cons.injEq] at e
   exact⟨j::i::ix,.swap _ _ _,by rw[List.map_cons,List.map_cons,e.1,e.2.1,e.2.2]⟩
 |trans _ _ ih1 ih2=>
  intro ix e
  obtain⟨ix2,p2,q2⟩:=ih2 ix e
  obtain⟨ix1,p1,q1⟩:=ih1 ix2 q2
  exact⟨ix1,p1.trans p2,q1⟩
def Ky (K:Frag) (H:Hp) (ys:List V) (ks:List (List Int)):Prop:=Paired (fun y k=>∃n,y=V.int n∧k=[n]) ys ks∨Tups K H ys ks
def rkV (h:Heap):Value→List Int
 | .int n _=>[n]
 | .ref b=>match h.get? b with
  |some o=>match o.data with
   | .seq xs _=>xs.toList.map fun v=>match v with | .int n _=>n|_=>0
   |_=>[]
  |none=>[]
 |_=>[]
theorem jV:∀{us:List Value} {ns:List Int},IntsAre us ns→(us.map fun v=>match v with | .int n _=>n|_=>0)=ns
 |_,_,.nil=>rfl
 |_,_,.cons n t r=>by rw[List.map_cons,jV r]
theorem qw {s:Shared} {σ:St} {H:Hp} {pins:List (Addr × Obj)} (I:Inv X pins σ H s) {ys:List V} {ks:List (List Int)} {its:List Value} (h:Ky X.K H ys ks) (rv:Vals ys its):∃κ:SortKind,(∀i,i < its.length→rkV s.heap (its.getD i Value.none)=ks.getD i []) ∧
  ∀{A:Around} {E:Value→Shared→Prop} (h':Heap),(∀b o,s.heap.get? b=some o→o.cls=.type "tuple"→h'.get? b=some o)→2≤its.length →
   (∀Q:SortKind→Shared→Prop,Q κ {s with heap:=h'}→wpAny (model X.prog X.w) A (keyKind' its.toArray) Q E {s with heap:=h'}) ∧
   ∀x∈its,∀y∈its,∀C:Bool→Shared→Prop,C (HT.lexLt (rkV s.heap x) (rkV s.heap y)) {s with heap:=h'}→wpAny (model X.prog X.w) A (keyLt' κ x y) C (fun _ _=>False) {s with heap:=h'}:=by
 rcases h with h|h
 ·obtain⟨ns,rfl,rfl⟩:∃ns:List Int,ys=ns.map V.int∧ks=ns.map fun n=>[n]:=by
   clear rv
   induction h with
   |nil=>exact⟨[],rfl,rfl⟩
   |cons r _ ih=>
    obtain⟨n,rfl,rfl⟩:=r
    obtain⟨ns,rfl,rfl⟩:=ih
    exact⟨n::ns,rfl,rfl⟩
  have hI:=dh rv
  have hv:∀{its:List Value} {ns:List Int},IntsAre its ns→∀x∈its,∃n t,x=Value.int n t:=fun {its ns} hI x hx=>by
   induction hI with
   |nil=>cases hx
   |cons n t _ ih=>
    rcases List.mem_cons.mp hx with rfl|hx
    ·exact⟨n,t,rfl⟩
    ·exact ih hx
  refine⟨oneType',fun i hi=>?_,fun {A E} h' _ h2=>⟨fun Q q=>?_,fun x hx y hy C q=>?_⟩⟩
  ·obtain⟨u,e1,e2⟩:=rv.get (i:=i) (x:=(ns.map V.int)[i]'(by rw[rv.length];exact hi)) (by simp)
   have hi':i < ns.length:=by have:=rv.length;rw[List.length_map] at this;omega
   rw[List.getElem_map] at e2
   obtain⟨t,rfl⟩:=e2
   rw[List.getD,e1,List.getD,List.getElem?_map,List.getElem?_eq_getElem hi']
   rfl
  ·match its,h2,hI with
   |v1::v2::rest,_,hI=>rw[keyKind_ints hI];exact wpAny_pure q
  ·obtain⟨n,t,rfl⟩:=hv hI x hx
   obtain⟨m,u,rfl⟩:=hv hI y hy
   refine kat_lt_int ?_
   have e:HT.lexLt (rkV s.heap (Value.int n t)) (rkV s.heap (Value.int m u))=decide (n < m):=by
    show HT.lexLt [n] [m]=_
    rw[HT.lexLt_cons]
    by_cases z:n=m
    ·rw[if_pos z,decide_eq_false (by omega)];rfl
    ·rw[if_neg z]
   rw[←e];exact q
 ·have at_:∀(ks:List (List Int)) (ys:List V) (its:List Value),Tups X.K H ys ks→Vals ys its→Paired (fun v k=>k≠[]∧∃b us o n,v=Value.ref b∧IntsAre us k∧s.heap.get? b=some o∧o.cls=.type "tuple"∧o.data=.seq us.toArray n) its ks:=by
   intro ks
   induction ks with
   |nil=>intro ys its a b;cases a;cases b;exact .nil
   |cons k ks ih=>
    intro ys its a b
    cases a with
    |cons hh tt=>
     obtain⟨bb,e0,hq,hne⟩:=hh
     subst e0
     cases b with
     |cons r rr=>
      cases r
      obtain⟨us,r5,⟨o,p1,p2,n,p3⟩,_⟩:=I.tuple hq
      exact .cons ⟨hne,bb,us,o,n,rfl,dh r5,p1,p2,p3⟩ (ih _ _ tt rr)
  have P:=at_ ks ys its h rv
  have rkk:∀{b:Addr} {us:List Value} {o:Obj} {n:Nat} {k:List Int},IntsAre us k→s.heap.get? b=some o→o.data=.seq us.toArray n→rkV s.heap (Value.ref b)=k:=fun {b us o n k} i1 i2 i3=>by
   show (match s.heap.get? b with|some o=>_|none=>_)=_
   rw[i2]
   show (match o.data with | .seq xs _=>_|_=>_)=_
   rw[i3]
   exact jV i1
  refine⟨tuples' (Value.type "int" != Value.type "tuple"),fun i hi=>?_,fun {A E} h' old h2=>⟨fun Q q=>?_,fun x hx y hy C q=>?_⟩⟩
  ·obtain⟨k,e1,_,b,us,o,n,e2,i1,i2,_,i3⟩:=Paired.getE (i:=i) (x:=its[i]) P (by simp[hi])
   rw[show its.getD i Value.none=its[i] by simp[List.getD,hi],e2,rkk i1 i2 i3,List.getD,e1];rfl
  ·obtain⟨fs,hk,hfl,hfi⟩:∃fs,KatTups h' its fs∧fs.length=its.length∧∀v∈fs,∃n t,v=Value.int n t:=by
    clear rv h2 h at_
    induction P with
    |nil=>exact⟨[],.nil,rfl,fun _ h=>nomatch h⟩
    |cons r _ ih=>
     obtain⟨hne,b,us,o,n,rfl,i1,i2,i4,i3⟩:=r
     obtain⟨fs,k1,hl1,hi1⟩:=ih
     cases i1 with
     |nil=>exact absurd rfl hne
     |cons z tk r2=>
      refine⟨Value.int z tk::fs,.cons (old _ _ i2 i4) i4 i3 (by simp) k1,by simp[hl1],fun v hv=>?_⟩
      rcases List.mem_cons.mp hv with rfl|hv
      ·exact⟨_,_,rfl⟩
      ·exact hi1 v hv
   refine kat_kind (T:=.type "int") hk (by omega) (fun v hv=>?_) (by decide) q
   obtain⟨n,t,rfl⟩:=hfi v hv
   exact Looks.of_pure rfl
  ·obtain⟨i,hi⟩:=List.mem_iff_getElem?.mp hx
   obtain⟨j,hj⟩:=List.mem_iff_getElem?.mp hy
   obtain⟨k1,_,_,b1,u1,o1,n1,rfl,i1,x1,c1,z1⟩:=Paired.getE P hi
   obtain⟨k2,_,_,b2,u2,o2,n2,rfl,i2,x2,c2,z2⟩:=Paired.getE P hj
   rw[rkk i1 x1 z1,rkk i2 x2 z2] at q
   rw[show (Value.type "int" != Value.type "tuple")=true by decide]
   refine kat_lt (old _ _ x1 c1) z1 (old _ _ x2 c2) z2 (oh u1 u2 _ _ 0 _ i1 i2 ?_ q)
   rw[←i1.length,←i2.length];simp
theorem mU {s:Shared} {ys:List V} {ks:List (List Int)} {its out:List Value} (rv:Vals ys its) (hr:∀i,i < its.length→rkV s.heap (its.getD i Value.none)=ks.getD i []) (p:out.Perm its) (pw:out.Pairwise (fun u v=>HT.lexLt (rkV s.heap v) (rkV s.heap u)=false)) :
  ∃ix:List Nat,ix.Perm (List.range ys.length)∧(ix.map fun i=>ks.getD i []).Pairwise (fun a b=>HT.lexLt b a=false)∧Vals (ix.map fun i=>ys.getD i .non) out:=by
 have e:its=(List.range its.length).map fun i=>its.getD i Value.none:=by
  refine List.ext_getElem (by simp) fun i h1 h2=>?_
  simp[h1]
 obtain⟨ix,p2,rfl⟩:=oC p _ e
 have hb:∀i∈ix,i < its.length:=fun i hi=>List.mem_range.mp (p2.mem_iff.mp hi)
 refine⟨ix,by rw[rv.length];exact p2,?_,i9 rv ix fun i hi=>by rw[rv.length];exact hb i hi⟩
 rw[List.pairwise_map] at pw ⊢
 refine List.Pairwise.imp_of_mem (fun {a b} ha hb' h=>?_) pw
 rw[hr _ (hb a ha),hr _ (hb b hb')] at h
 exact h
def uz (K:Frag):List V→Hp→VK→Prop:=fun xs H Q=>∃(a:Addr) (ys:List V) (ks:List (List Int)),xs=[.ref a]∧SqL K H a ys∧Ky K H ys ks∧ys.length < 5000 ∧
 ∀p (ix:List Nat),H p=none→ix.Perm (List.range ys.length)→(ix.map fun i=>ks.getD i []).Pairwise (fun a b=>HT.lexLt b a=false)→Q (.ref p) (upd H p (.lst (ix.map fun i=>ys.getD i .non)))
theorem gU:bM X (.builtin "sorted") (uz X.K):=by
 intro pins s σ H xs us Q I r h
 obtain⟨a,ys,ks,rfl,hq,hy,hz,q⟩:=h
 obtain⟨u,rfl,ru⟩:=Vals.one r
 cases ru
 obtain⟨its,rv,p,_⟩:=I.list hq
 have hl:=rv.length
 obtain⟨κ,hr,ask⟩:=qw I hy rv
 refine ig (κ:=κ) (rk:=rkV s.heap) p.isList (by rw[sizeLine_eq];omega) (fun h' old h2=>(ask h' (fun b o e _=>old b o e) h2).1) (fun h' old h2=>(ask (E:=fun _ _=>False) h' (fun b o e _=>old b o e) h2).2) fun out p1 p2=>?_
 obtain⟨ix,x1,x2,x3⟩:=mU rv hr p1 p2
 obtain⟨e,he⟩:=sortedAll_at s.heap its out.toArray
 have hp:s.heap.objs.size≤s.heap.objs.size+1:=Nat.le_succ _
 exact⟨.ref (s.heap.objs.size+1),upd H (s.heap.objs.size+1) (.lst (ix.map fun i=>ys.getD i .non)),I.laid (t':=s.toks) (fun b o e=>sortedAll_old e) hp ⟨by rw[List.length_map,x1.length_eq,List.length_range,sizeLine_eq];omega,out,e,x3,by rw[he]⟩,rfl,q _ ix (I.hok.fresh hp) x1 x2⟩
theorem uR {K:Frag} {H:Hp} (ns:List Int):Ky K H (ns.map V.int) (ns.map fun n=>[n]):=.inl (by
 induction ns with
 |nil=>exact .nil
 |cons n ns ih=>exact .cons ⟨n,rfl,rfl⟩ ih)
theorem uY {ns:List Int} {ix:List Nat} (p:ix.Perm (List.range (ns.map V.int).length)) (w:(ix.map fun i=>(ns.map fun n=>[n]).getD i []).Pairwise (fun a b=>HT.lexLt b a=false)) :
  ∃ms:List Int,ms.Perm ns∧ms.Pairwise (·≤·)∧(ix.map fun i=>(ns.map V.int).getD i .non)=ms.map V.int:=by
 rw[List.length_map] at p
 have hb:∀i∈ix,i < ns.length:=fun i hi=>List.mem_range.mp (p.mem_iff.mp hi)
 refine⟨ix.map fun i=>ns.getD i 0,?_,?_,?_⟩
 ·have:=p.map fun i=>ns.getD i 0
  refine this.trans (List.Perm.of_eq (List.ext_getElem (by simp) fun i h1 h2=>?_))
  simp[h2]
 ·rw[List.pairwise_map] at w ⊢
  refine List.Pairwise.imp_of_mem (fun {a b} ha hb' h=>?_) w
  have h1:=hb a ha
  have h2:=hb b hb'
  simp only[List.getD,List.getElem?_map,List.getElem?_eq_getElem h1,List.getElem?_eq_getElem h2,Option.map_some,Option.getD_some] at h ⊢
  rw[HT.lexLt_cons] at h
  by_cases z:ns[b]=ns[a]
  ·omega
  ·rw[if_neg z] at h
   have:=of_decide_eq_false h
   omega
 ·rw[List.map_map]
  refine List.map_congr_left fun i hi=>?_
  have:=hb i hi
  simp[List.getD,this]
def ux (K:Frag):List V→Hp→VK→Prop:=fun xs H Q=>∃(a:Addr) (ys:List V) (ks:List (List Int)),xs=[.ref a]∧SqL K H a ys∧Tups K H ys ks∧ys.length < 5000 ∧
 ∀p (ix:List Nat),H p=none→ix.Perm (List.range ys.length)→(ix.map fun i=>ks.getD i []).Pairwise (fun a b=>HT.lexLt b a=false)→Q (.ref p) (upd H p (.lst (ix.map fun i=>ys.getD i .non)))
theorem gH:bM X (.builtin "sorted") (ux X.K):=by
 intro pins s σ H xs us Q I r h
 obtain⟨a,ys,ks,rfl,hq,ht,hz,q⟩:=h
 exact gU pins s σ H _ us Q I r ⟨a,_,_,rfl,hq,.inr ht,hz,q⟩
end
end L2
end
section
namespace L2
open PySem PySem.Spec PyProof.Rows PySem.W
def DAt (h:Heap) (d:Addr) (es:Array DictEntry) (ep:Nat):Prop:=∃o,h.get? d=some o∧o.ExactDict∧o.data=.dict es ep
theorem DAt.lt {h:Heap} {d:Addr} {es:Array DictEntry} {ep:Nat} (x:DAt h d es ep):d < h.objs.size:=let ⟨_,e,_⟩:=x;Heap.lt_size e
theorem DAt.at {h h':Heap} {d:Addr} {es:Array DictEntry} {ep:Nat} (x:DAt h d es ep) (k:∀o,h.get? d=some o→h'.get? d=some o):DAt h' d es ep:=let ⟨o,e,r⟩:=x;⟨o,k o e,r⟩
theorem DAt.ty {s:Shared} {d:Addr} {es:Array DictEntry} {ep:Nat} (x:DAt s.heap d es ep):s.TypeIs (.ref d) "dict":=let ⟨o,e,c,_⟩:=x;⟨o,e,c.1⟩
section
variable {prog:Program} {w:World} {A:Around} {E:Value→Shared→Prop} {s:Shared} {d it:Addr} {es:Array DictEntry} {ep i:Nat}
theorem q5 {Q:Value→Shared→Prop} (lo:(d==sysModules)=false) (m:DAt s.heap d es ep)
  (q:Q (.ref s.heap.objs.size) {s with heap:=s.heap.push {cls:=.type "dict_keyiterator",data:=.fields #[.ref d,.int 0 0,.int es.size 0,.int ep 0]}}):wpAny (model prog w) A (pyIter (.ref d)) Q E s:=by
 obtain⟨o,eo,_,ed⟩:=id m
 refine wpAny_pyIter_slot m.ty PySem.F.slot_dict_iter (wpAny_call_entry PySem.F.slot_dict_iter m.ty PySem.F.entry_dict_iter ?tree (PySem.F.args_dict_iter_1 _))
 unfold Builtin.«dict.__iter__» Builtin.Dict.dictSlotNone
 refine wpAny_bind (wpAny_bind (wpAny_notOrdered_dict m.ty ?_))
 refine wpAny_pure (show wpAny _ _ (Builtin.Dict.showsAll d >>= _) _ _ s from ?_)
 unfold Builtin.Dict.showsAll
 rw[if_neg (show ¬(d==sysModules)=true by rw[lo];simp)]
 refine wpAny_bind (wpAny_pure (wpAny_bind (wpAny_dictEntries eo ed (wpAny_bind (wpAny_dictEpoch eo ed ?_)))))
 refine wpAny_bind (wpAny_newObj_type (wpAny_pure ⟨_,rfl,"dict_keyiterator",_,⟨_,Heap.get?_push_size _ rfl,rfl⟩,PySem.F.slot_dict_keyiterator_next.lookup,?_⟩))
 simpa [rawInt] using q
theorem t5 {Q:Option Value→Shared→Prop} (hit:s.heap.IsKeyIter it d i es.size ep) (m:DAt s.heap d es ep) (hi:i < es.size)
  (q:∀h',h'.IsKeyIter it d (i+1) es.size ep→Heap.SameBut it s.heap h'→Q (some es[i].key) {s with heap:=h'}):wpAny (model prog w) A (pyNext (.ref it)) Q E s:=by
 obtain⟨o,ho,hc,hd⟩:=id hit
 obtain⟨od,eo,_,ed⟩:=id m
 unfold pyNext
 refine wpAny_bind (wpAny_attempt (wpAny_callSpecial?_slot (name:=Str.ofString "__next__") hit.typeIs PySem.F.slot_dict_keyiterator_next (wpAny_call_entry PySem.F.slot_dict_keyiterator_next hit.typeIs PySem.F.entry_dict_keyiterator_next ?tree (PySem.F.args_dict_keyiterator_next_1 _))))
 refine wpAny_bind (wpAny_pure (wpAny_bind (wpAny_bind ?_)))
 first|refine wpAny_bind (wpAny_typeNameOfWhole_keyiter hit.typeIs (wpAny_pure (wpAny_bind (wpAny_fieldsOf ho hd ?_))))|refine wpAny_bind (wpAny_typeNameOf_keyiter hit.typeIs (wpAny_pure (wpAny_bind (wpAny_fieldsOf ho hd ?_))))
 simp only[show Builtin.Dict_items.ownsTuple "dict_keyiterator" = false by decide,Bool.false_eq_true,if_false]
 refine (show wpAny _ _ (if (Value.ref d==Value.none)=true then _ else _) _ _ s from ?_);rw[if_neg (show ¬(Value.ref d==Value.none)=true from Bool.false_ne_true)]
 refine wpAny_bind (wpAny_pure (wpAny_bind (wpAny_dictEntries eo ed ?_)))
 rw[if_neg (by simp)]
 refine wpAny_bind (wpAny_pure (wpAny_bind (wpAny_dictEpoch eo ed ?_)))
 rw[if_neg (by simp)]
 refine wpAny_pure ?_
 simp only[show ¬((i:Int) < 0) by omega,if_false,Int.toNat_natCast,Array.getElem?_eq_getElem hi]
 refine wpAny_bind ?_
 first|refine wpAny_bind (wpAny_typeNameOfWhole_keyiter hit.typeIs (wpAny_pure (wpAny_bind (wpAny_isOneOf_keyiter hit.typeIs ?_))))|refine wpAny_bind (wpAny_typeNameOf_keyiter hit.typeIs (wpAny_pure (wpAny_bind (wpAny_isOneOf_keyiter hit.typeIs ?_))))
 show wpAny _ _ (setField (.ref it) 1 (rawInt ((i:Int)+1)) >>= _) _ _ s
 refine wpAny_bind (wpAny_setField ho hd (by simp) ?_)
 have t':(s.heap.update it (Obj.mapFields (·.setIfInBounds 1 (rawInt ((i:Int)+1))))).IsKeyIter it d (i+1) es.size ep:=
  ⟨_,Heap.get?_update_self _ ho (Obj.isFreed_of_fields (Obj.data_mapFields hd _)),(Obj.cls_mapFields ..).trans hc,by rw[Obj.data_mapFields hd];simp[rawInt]⟩
 refine wpAny_bind (wpAny_holding (wpAny_bind (wpAny_isOneOf_keyiter (s:={s with heap:=s.heap.update it (Obj.mapFields (·.setIfInBounds 1 (rawInt ((i:Int)+1))))}) t'.typeIs ?_)))
 show wpAny _ _ (pure es[i].key) _ _ _
 exact wpAny_pure (wpAny_pure ⟨_,rfl,wpAny_pure (q _ t' (Heap.SameBut.update ..))⟩)
theorem dEnd {Q:Option Value→Shared→Prop} (hh:A.handled=none) (hit:s.heap.IsKeyIter it d i es.size ep) (m:DAt s.heap d es ep) (hi:es.size≤i)
  (q:∀h',Heap.ExtBut it s.heap h'→Q none {s with heap:=h'}):wpAny (model prog w) A (pyNext (.ref it)) Q E s:=by
 obtain⟨o,ho,hc,hd⟩:=id hit
 obtain⟨od,eo,_,ed⟩:=id m
 unfold pyNext
 refine wpAny_bind (wpAny_attempt (wpAny_callSpecial?_slot (name:=Str.ofString "__next__") hit.typeIs PySem.F.slot_dict_keyiterator_next (wpAny_call_entry PySem.F.slot_dict_keyiterator_next hit.typeIs PySem.F.entry_dict_keyiterator_next ?tree (PySem.F.args_dict_keyiterator_next_1 _))))
 refine wpAny_bind (wpAny_pure (wpAny_bind (wpAny_bind ?_)))
 first|refine wpAny_bind (wpAny_typeNameOfWhole_keyiter hit.typeIs (wpAny_pure (wpAny_bind (wpAny_fieldsOf ho hd ?_))))|refine wpAny_bind (wpAny_typeNameOf_keyiter hit.typeIs (wpAny_pure (wpAny_bind (wpAny_fieldsOf ho hd ?_))))
 simp only[show Builtin.Dict_items.ownsTuple "dict_keyiterator" = false by decide,Bool.false_eq_true,if_false]
 refine (show wpAny _ _ (if (Value.ref d==Value.none)=true then _ else _) _ _ s from ?_);rw[if_neg (show ¬(Value.ref d==Value.none)=true from Bool.false_ne_true)]
 refine wpAny_bind (wpAny_pure (wpAny_bind (wpAny_dictEntries eo ed ?_)))
 rw[if_neg (by simp)]
 refine wpAny_bind (wpAny_pure (wpAny_bind (wpAny_dictEpoch eo ed ?_)))
 rw[if_neg (by simp)]
 refine wpAny_pure ?_
 simp only[show ¬((i:Int) < 0) by omega,if_false,Int.toNat_natCast,Array.getElem?_eq_none hi]
 refine wpAny_bind ?_
 first|refine wpAny_bind (wpAny_typeNameOfWhole_keyiter hit.typeIs (wpAny_pure ?_))|refine wpAny_bind (wpAny_typeNameOf_keyiter hit.typeIs (wpAny_pure ?_))
 refine (show wpAny _ _ (setField (.ref it) 0 .none >>= _) _ _ s from wpAny_bind (wpAny_setField ho hd (by simp) ?_))
 show wpAny _ _ (newExc (.type "StopIteration") [] >>= _) _ _ _
 refine wpAny_bind ?_
 simp only[newExc,newTuple]
 refine wpAny_bind (wpAny_newObj_type (wpAny_bind (m:=firstArgMember _ _) (wpAny_of_eq (a:=Value.none) (by first|rfl|(simp only[firstArgMember];rfl)) (wpAny_newObj_type ?_ (by size_fits)))) (by size_fits))
 simp only[raiseNew]
 refine wpAny_bind (wpAny_handled ?_)
 rw[show A.in1.handled=none from hh]
 refine wpAny_bind (wpAny_pure (wpAny_throw ?_))
 refine wpAny_bind (wpAny_isInstance (b:=true) (T:="StopIteration") ⟨_,Heap.get?_push_size _ rfl,rfl⟩ isSubtype_stop ?_)
 exact wpAny_pure (q _ (((Heap.SameBut.update ..).extBut.push _).push _))
theorem q0 (hh:A.handled=none) (I:Addr) (hne:d≠I):Walks prog w A I [I,d] [I] es.size (fun i v=>∃(h:i < es.size),v=es[i].key) (fun i h=>h.IsKeyIter I d i es.size ep∧DAt h d es ep) where
 sub:=fun b hb=>by simp at hb;simp[hb]
 frame:=fun _ _ _ st hk=>⟨st.1.at fun o e=>hk I (by simp) o e,st.2.at fun o e=>hk d (by simp) o e⟩
 item:=fun i s Q E hi st hQ=>t5 st.1 st.2 hi fun h' t' sb=>hQ _ h' s.toks ⟨hi,rfl⟩ ⟨t',st.2.at fun o e=>(sb.2 d hne).trans e⟩ fun b o hb e=>sb.extBut b o (fun h=>hb (by simp[h])) e
 done:=fun s Q E st hQ=>dEnd hh st.1 st.2 (Nat.le_refl _) fun h' x=>hQ h' s.toks fun b o hb e=>x b o (fun h=>hb (by simp[h])) e
 self:=fun _ _ _ _ st hQ=>wpAny_pyIter_keyiter st.1 hQ
theorem dSrc (lo:(d==sysModules)=false):KdlSrc prog w "dict" d d es.size (fun i v=>∃(h:i < es.size),v=es[i].key) (fun h=>DAt h d es ep) where
 type:=fun _ m=>m.ty
 there:=fun _ m=>⟨m.lt,m.lt⟩
 keep:=fun _ _ m hk=>m.at fun o e=>hk d (.inl rfl) o e
 notList:=by decide
 notTuple:=by decide
 hint:=fun _ _ _ _ m hq=>kdl_hint_dict m.ty hq
 iter:=fun _ _ hh m=>⟨_,_,(fun _ _ hq=>q5 lo m hq),q0 hh _ (Nat.ne_of_lt m.lt),⟨⟨_,Heap.get?_push_size _ rfl,rfl,rfl⟩,m.at fun o e=>Heap.get?_push_of_some _ e⟩⟩
end
end L2
end
section
namespace L2
open PySem PySem.Spec PyProof.Rows PySem.W
def DKeys (H:Hp) (d:Addr) (ks vs:List V):Prop:=
 (∃kvs,H d=some (.dK kvs)∧ks=kvs.map (fun p=>kV p.1)∧vs=kvs.map (·.2)) ∨
 ∃kvs as,H d=some (.dT kvs)∧Paired (fun (p:List Key × V) a=>H a=some (.tup (p.1.map kV))) kvs as∧ks=as.map V.ref∧vs=kvs.map (·.2)
def DIs (H:Hp) (d:Addr):Prop:=(∃kvs,H d=some (.dK kvs))∨∃kvs,H d=some (.dT kvs)
theorem dview {X:Cx} {pins:List (Addr × Obj)} {σ:St} {H:Hp} {s:Shared} {d:Addr} (I:Inv X pins σ H s) (hd:DIs H d) :
  (d==sysModules)=false∧∃ks vs es ep,DKeys H d ks vs∧ks.length≤sizeLine∧DAt s.heap d es ep∧Vals ks (es.toList.map (·.key))∧Vals vs (es.toList.map (·.val)):=by
 rcases hd with ⟨kvs,e⟩|⟨kvs,e⟩
 ·obtain⟨z,lo,us,rel,o,es,ep,h1,h2,h3,_,h5,_⟩:=jo I.hok e
  refine⟨lo,_,_,es,ep,.inl ⟨kvs,e,rfl,rfl⟩,by rw[List.length_map];exact z,⟨o,h1,h2,h3⟩,?_⟩
  generalize es.toList=l at h5
  have go:∀{kvs:List (Key × V)} {us:List (Key × Value)} {l:List DictEntry},KV kvs us→Pairs (aN X.prog X.w) l us→Vals (kvs.map fun p=>kV p.1) (l.map (·.key))∧Vals (kvs.map (·.2)) (l.map (·.val)):=by
   intro kvs us l r
   induction r generalizing l with
   |nil=>intro p;cases p;exact⟨.nil,.nil⟩
   | @cons a b l1 l2 h1 h2 ih=>
    intro p
    cases p with
    |cons p1 p2 p3=>
     obtain⟨i1,i2⟩:=ih p3
     refine⟨.cons ?_ i1,.cons ?_ i2⟩
     ·dsimp only
      rw[h1.1]
      rcases aY p1 with ⟨i,t,e1,e2⟩|⟨x,t,e1,e2⟩
      ·rw[e1,e2];exact⟨t,rfl⟩
      ·rw[e1,e2];exact⟨t,rfl⟩
     ·dsimp only;rw[p2];exact h1.2
  exact go rel h5
 ·obtain⟨z,lo,xs,rel,o,es,ep,h1,h2,h3,h4,hz⟩:=t4 I.hok e
  clear hz
  have go:∀{kvs:List (List Key × V)} {xs:List (List Key × Addr × Value)},KT H kvs xs→Paired (fun (p:List Key × V) a=>H a=some (.tup (p.1.map kV))) kvs (xs.map (·.2.1))∧Vals (kvs.map (·.2)) (xs.map (·.2.2)):=by
   intro kvs xs r
   induction r with
   |nil=>exact⟨.nil,.nil⟩
   |cons h1 h2 ih=>exact⟨.cons h1.2.1 ih.1,.cons h1.2.2 ih.2⟩
  obtain⟨g1,g2⟩:=go rel
  have hl:=Paired.length g1
  refine⟨lo,_,_,es,ep,.inr ⟨kvs,_,e,g1,rfl,rfl⟩,by rw[List.length_map,←hl];exact z,⟨o,h1,h2,h3⟩,?_,?_⟩
  ·rw[h4,List.map_map,List.map_map]
   clear h4 rel g1 g2 hl
   induction xs with
   |nil=>exact .nil
   |cons x r ih=>exact .cons rfl ih
  ·rw[h4,List.map_map]
   exact g2
abbrev n6 (X:Cx):Cx:={X with A:=X.A.in1}
section
variable {X:Cx} {pins:List (Addr × Obj)} {σ:St} {H:Hp} {s:Shared}
theorem Inv.toIn1 (I:Inv X pins σ H s):Inv (n6 X) pins σ H s:=
 ⟨⟨I.ok.mod,I.ok.kind,I.ok.glob,I.ok.blt,I.ok.above,I.ok.inj,I.ok.has,I.ok.cab,I.ok.hd,I.ok.frames,I.ok.stk,I.ok.exf,I.ok.bs,I.ok.bsz,I.ok.noex,I.ok.exfs,I.ok.funs,I.ok.frf⟩,I.os,I.bare,I.base,I.loc,I.cell,I.free,I.freeC,I.pin,I.hok,I.len⟩
theorem Inv.ofIn1 (I:Inv (n6 X) pins σ H s):Inv X pins σ H s:=
 ⟨⟨I.ok.mod,I.ok.kind,I.ok.glob,I.ok.blt,I.ok.above,I.ok.inj,I.ok.has,I.ok.cab,I.ok.hd,I.ok.frames,I.ok.stk,I.ok.exf,I.ok.bs,I.ok.bsz,I.ok.noex,I.ok.exfs,I.ok.funs,I.ok.frf⟩,I.os,I.bare,I.base,I.loc,I.cell,I.free,I.freeC,I.pin,I.hok,I.len⟩
end
section
variable {X:Cx}
def nG (K:Frag):V→List V→Hp→VK→Prop:=fun x vs H Q=>∃(l:Addr) (ys:List V) (ks:List (List Int)),x=.ref l∧vs=[]∧H l=some (.lst ys)∧Ky K H ys ks∧ys.length < 5000 ∧
 ∀(ix:List Nat),ix.Perm (List.range ys.length)→(ix.map fun i=>ks.getD i []).Pairwise (fun a b=>HT.lexLt b a=false)→Q .non (upd H l (.lst (ix.map fun i=>ys.getD i .non)))
theorem gL:MtM X "list.sort" (nG X.K):=by
 intro pins s σ H x vs v us Q I rx rv h
 obtain⟨l,ys,ks,rfl,rfl,hl,hy,hz,q⟩:=h
 cases rx
 cases rv
 obtain⟨z,its,n,r,hlen,e⟩:=I.lstM hl
 have hn:=r.length
 obtain⟨κ,hr,ask⟩:=qw I hy r
 have old:∀b o,s.heap.get? b=some o→o.cls=.type "tuple"→(cD s.heap l its).get? b=some o:=fun b o hb hc=>by
  refine Heap.get?_push_of_some _ (Heap.get?_push_of_some _ ?_)
  rw[Heap.get?_update_ne _ _ _ _ (fun y=>by rw[y,e] at hb;cases hb;exact absurd (show Value.type "list" = Value.type "tuple" from hc) (by decide))]
  exact hb
 refine wpAny_call_entry slot_list_sort ⟨_,e,rfl⟩ entry_list_sort (ji (κ:=κ) (rk:=rkV s.heap) e (by rw[sizeLine_eq];omega) (fun h2=>(ask _ old h2).1) (fun h2=>(ask (E:=fun _ _=>False) _ old h2).2) fun out p1 p2=>⟨_,rfl,?_⟩) (args_list_sort _)
 obtain⟨ix,x1,x2,x3⟩:=mU r hr p1 p2
 obtain⟨e',he⟩:=sortedHeap_at (out:=out.toArray) e
 exact⟨.non,_,I.write (x:=l) (e:=l) (o:=.lst (ix.map fun i=>ys.getD i .non)) (t':=s.toks) (by rw[hl];exact True.intro) (.inl rfl) (fun b u hb q=>(sortedHeap_old hb (Heap.lt_size q)).trans q) ⟨_,he⟩ ⟨by rw[List.length_map,x1.length_eq,List.length_range,sizeLine_eq];omega,out,e',x3,by rw[he]⟩,rfl,q ix x1 x2⟩
end
end L2
end
section
namespace L2
open PySem PySem.Spec PyProof.Rows PySem.W
theorem Tups.mono {K:Frag} {H H':Hp} {ys:List V} {ks:List (List Int)} (h:Tups K H ys ks) (k:∀a xs,H a=some (.tup xs)→H' a=some (.tup xs)) (kf:∀a o xs,H a=some (.frz o (.tup xs))→H' a=some (.frz o (.tup xs))):Tups K H' ys ks:=by
 refine Paired.mapP h fun y z ⟨b,e,q,n⟩=>⟨b,e,?_,n⟩
 rcases q with (q|⟨o,q⟩)|q
 ·exact .inl (.inl (k _ _ q))
 ·exact .inl (.inr ⟨o,kf _ _ _ q⟩)
 ·exact .inr q
theorem kE {K:Frag} {H:Hp} {D:Addr} {ks:List V} {Q:V→Hp→Prop} (hn:H D=none)
  (k:(∃ns:List Int,ks=ns.map V.int∧ns.length < 5000∧∀(p:Addr) (ms:List Int),H p=none→ms.Perm ns→ms.Pairwise (·≤·)→Q (.ref p) (upd H p (.lst (ms.map V.int)))) ∨
   ∃kz:List (List Int),Tups K H ks kz∧ks.length < 5000∧∀(p:Addr) (ix:List Nat),H p=none→ix.Perm (List.range ks.length)→(ix.map fun i=>kz.getD i []).Pairwise (fun a b=>HT.lexLt b a=false)→Q (.ref p) (upd H p (.lst (ix.map fun i=>ks.getD i .non)))) :
  nG K (.ref D) [] (upd H D (.lst ks)) fun _ H'=>Q (.ref D) H':=by
 rcases k with ⟨ns,e0,hl,q⟩|⟨kz,ht,hl,q⟩
 ·subst e0
  refine⟨D,_,_,rfl,rfl,al,uR ns,by rw[List.length_map];exact hl,fun ix h1 h2=>?_⟩
  obtain⟨ms,m1,m2,m3⟩:=uY h1 h2
  rw[cv,m3];exact q D ms hn m1 m2
 ·refine⟨D,ks,kz,rfl,rfl,al,.inr (ht.mono (fun b xs e=>by rw[au (ag e hn)];exact e) fun b o xs e=>by rw[au (ag e hn)];exact e),hl,fun ix h1 h2=>?_⟩
  rw[cv];exact q D ix hn h1 h2
end L2
end
section
namespace L2
open PySem PySem.Spec PyProof.Rows PySem.W
section
variable {X:Cx}
def uA (K:Frag):List V→Hp→VK→Prop:=fun xs H Q=>∃a:Addr,xs=[.ref a]∧DIs H a∧∀ks vs,DKeys H a ks vs →
 (∃ns:List Int,ks=ns.map V.int∧ns.length < 5000∧∀(p:Addr) (ms:List Int),H p=none→ms.Perm ns→ms.Pairwise (·≤·)→Q (.ref p) (upd H p (.lst (ms.map V.int)))) ∨
 ∃kz:List (List Int),Tups K H ks kz∧ks.length < 5000∧∀(p:Addr) (ix:List Nat),H p=none→ix.Perm (List.range ks.length)→(ix.map fun i=>kz.getD i []).Pairwise (fun a b=>HT.lexLt b a=false)→Q (.ref p) (upd H p (.lst (ix.map fun i=>ks.getD i .non)))
theorem iz {α:Type} {l m:List α} (hl:l.length=m.length) (h:∀(j:Nat) (v:α),l[j]? = some v→m[j]? = some v):l=m:=by
 refine List.ext_getElem? fun i=>?_
 cases e:l[i]? with
 |some v=>rw[h i v e]
 |none=>
  have:l.length≤i:=List.getElem?_eq_none_iff.mp e
  exact (List.getElem?_eq_none_iff.mpr (by omega)).symm
theorem bQ (hc:X.calm=true):bM X (.builtin "sorted") (uA X.K):=by
 intro pins s σ H xs us Q I r h
 obtain⟨a,rfl,hd,k⟩:=h
 obtain⟨u,rfl,ru⟩:=Vals.one r
 cases ru
 obtain⟨lo,ks,vs,es,ep,dk,hz,dm,r1,r2⟩:=dview I hd
 obtain⟨m,F⟩:=I.fr
 have hl1:ks.length=es.size:=by have:=r1.length;simpa using this
 refine kdu_sorted (dSrc (es:=es) (ep:=ep) lo) (I.ok.hd hc) F (iw (g:=X.base) (L:=X.env.locals)) dm (by rw[←hl1];exact hz) fun D h' tk vs' F' N' hD hl hv=>?_
 obtain⟨k1,k2⟩:=I.newsKept (t':=s.toks) (more:=[(D,listOf vs'.toArray 0)]) F F' N'
 have nD:=N' (D,listOf vs'.toArray 0) (.head _)
 have hD0:s.heap.get? D=none:=by
  cases e:s.heap.get? D with
  |none=>rfl
  |some o=>exact absurd (hD (D,o) (eN nD.2.1 nD.2.2 e)) (Nat.lt_irrefl _)
 have ev:vs' = es.toList.map (·.key):=by
  refine iz (by rw[hl];simp) fun j v e=>?_
  obtain⟨hj,rfl⟩:=hv j v e
  rw[List.getElem?_map]
  simp[hj]
 have I':Inv X pins σ (upd H D (.lst ks)) {s with heap:=h',toks:=tk}:=I.laidN (t':=tk) k1 k2 hD0 (fun H'=>⟨hz,vs',0,by rw[ev];exact r1,nD.1⟩) (fun _ _ z=>by cases z)
 have z:=gL (X:=n6 X) pins _ σ _ (.ref D) [] (.ref D) [] (fun _ H'=>Q (.ref D) H') I'.toIn1 rfl .nil (kE (I.hok.none_of hD0) (k ks vs dk))
 exact thn z fun _ s' ⟨_,H',J,_,q'⟩=>⟨.ref D,H',J.ofIn1,rfl,q'⟩
end
end L2
end
section
namespace L2
open PySem PySem.Spec PyProof.Rows PySem.W
section
variable {X:Cx}
def sI:V→List V→Hp→VK→Prop:=fun x vs H Q=>∃(l:Addr) (xs:List V) (i:Nat) (y:V),x=.ref l∧vs=[.int i,y]∧H l=some (.lst xs)∧i≤xs.length∧xs.length < sizeLine∧Q .non (upd H l (.lst (xs.take i++y::xs.drop i)))
theorem tH {i n:Nat} (hi:i≤n) (hz:n < sizeLine):¬(!Builtin.List.listFitsIndex (i:Int))=true:=by
 rw[sizeLine_eq] at hz
 have f:=fitsIndex_both (k:=(i:Int)) (by omega) (by omega)
 intro y
 rw[f] at y
 cases y
theorem qB {prog:Program} {w:World} {A:Around} {E:Value→Shared→Prop} {s:Shared} {Q:Value→Shared→Prop} {l:Addr} {its:Array Value} {n:Nat} {i:Int} {t:Tok} {u2:Value} (hT:s.TypeIs (Value.ref l) "list") (hfit:¬(!Builtin.List.listFitsIndex i)=true) (hsz:its.size≤sizeLine)
  (e:s.heap.get? l=some {cls:=.type "list",data:=.seq its n})
  (h:Q .none {s with heap:=s.heap.update l (Obj.mapSeq fun xs=>(xs.extract 0 (if i < 0 then (i+(xs.size:Int)).toNat else min i.toNat xs.size)).push u2++xs.extract (if i < 0 then (i+(xs.size:Int)).toNat else min i.toNat xs.size))}) :
  wpAny (model prog w) A (call (Value.builtin "list.insert") [Value.ref l,Value.int i t,u2]) Q E s:=
 PySem.call_meets PySem.F.slot_list_insert hT PySem.F.entry_list_insert (PySem.F.args_list_insert_3 _ _ _) (PySem.AutoSeq1.list_insert_list_int_val_1 l its n i t u2 hfit hsz) ⟨e,h⟩
theorem gA:MtM X "list.insert" sI:=by
 intro pins s σ H x vs v us Q I rx rv h
 obtain⟨l,xs,i,y,rfl,rfl,hH,hi,hz,q⟩:=h
 cases rx
 obtain⟨u1,u2,rfl,r1,r2⟩:=rv.two
 obtain⟨t,rfl⟩:=r1
 obtain⟨z,its,n,r,hl,e⟩:=I.lstM hH
 have hfit:=tH hi hz
 have hsz:its.toArray.size≤sizeLine:=by rw[List.size_toArray,←hl];exact z
 refine qB (s:=s) ⟨_,e,rfl⟩ hfit hsz e ?_
 refine⟨.non,_,I.lset (its':=its.take i++u2::its.drop i) hH e ?_ (Vals.append (r.take i) (.cons r2 (r.drop i))) ?_,rfl,q⟩
 ·have e1:(if (i:Int) < 0 then ((i:Int)+(its.toArray.size:Int)).toNat else min (i:Int).toNat its.toArray.size)=i:=by
   rw[if_neg (by omega),Int.toNat_natCast,List.size_toArray];omega
  show ((its.toArray.extract 0 _).push u2++its.toArray.extract _)=_
  rw[e1]
  have hd:(its.drop i).take (its.length - i)=its.drop i:=List.take_of_length_le (by rw[List.length_drop];exact Nat.le_refl _)
  simp[List.extract_eq_drop_take,hd]
 ·rw[List.length_append,List.length_cons,List.length_take,List.length_drop]
  omega
def vL (K:Frag):List V→Hp→VK→Prop:=fun xs H Q=>∃(a:Addr) (ns:List Int),xs=[.ref a]∧SqL K H a (ns.map V.int)∧ns≠[]∧∀m,m∈ns→(∀n∈ns,n≤m)→Q (.int m) H
theorem gY {xs:List V} {us:List Value} (r:Vals xs us) {i:Nat} {v:Value} (e:us[i]? = some v):∃x,xs[i]? = some x∧RelV x v:=by
 have hl:=r.length
 have hi:i < xs.length:=by have:=(List.getElem?_eq_some_iff.mp e).1;omega
 obtain⟨u,e1,e2⟩:=r.get (i:=i) (x:=xs[i]) (by simp[hi])
 rw[e] at e1;cases e1
 exact⟨_,by simp[hi],e2⟩
theorem qA {ns:List Int} {us:List Value} (r:Vals (ns.map V.int) us) (i:Nat) (v:Value) (e:us.toArray[i]? = some v):∃t,v=.int (ns.getD i 0) t:=by
 obtain⟨x,e1,e2⟩:=gY r (i:=i) (v:=v) (by simpa using e)
 rw[List.getElem?_map] at e1
 obtain⟨n,e3,rfl⟩:=Option.map_eq_some_iff.mp e1
 obtain⟨t,rfl⟩:=e2
 exact⟨t,by rw[List.getD,e3];rfl⟩
theorem dM (hc:X.calm=true):bM X (.builtin "max") (vL X.K):=by
 intro pins s σ H xs us Q I r h
 obtain⟨a,ns,rfl,hq,hne,q⟩:=h
 obtain⟨u,rfl,ru⟩:=Vals.one r
 cases ru
 obtain⟨its,rv,p,hz⟩:=I.list hq
 obtain⟨m,F⟩:=I.fr
 refine max_list_N (I.ok.hd hc) F (iw (g:=X.base) (L:=X.env.locals)) p.isList (dh rv) (List.length_pos_iff.mpr hne) fun h' M t tk F' N' h1 h2=>?_
 obtain⟨k1,k2⟩:=I.newsKept (t':=tk) (more:=[]) F F' N'
 exact⟨.int M,H,I.keptN (t':=tk) k1 k2,⟨t,rfl⟩,q M h1 h2⟩
theorem rB (ns:List Int) (hne:ns≠[]):(ns.getD (argBest (fun i j=>decide (ns.getD i 0 < ns.getD j 0)) (ns.length - 1)) 0)∈ns∧∀n∈ns,ns.getD (argBest (fun i j=>decide (ns.getD i 0 < ns.getD j 0)) (ns.length - 1)) 0≤n:=by
 obtain⟨h1,h2⟩:=argBest_lt (fun i=>ns.getD i 0) (ns.length - 1)
 have hp:=List.length_pos_iff.mpr hne
 refine⟨?_,fun n hn=>?_⟩
 ·have hb:argBest (fun i j=>decide (ns.getD i 0 < ns.getD j 0)) (ns.length - 1) < ns.length:=by omega
  rw[List.getD,List.getElem?_eq_getElem hb]
  exact List.getElem_mem hb
 ·obtain⟨j,hj,rfl⟩:=List.getElem_of_mem hn
  have:=h2 j (by omega)
  have e:ns.getD j 0=ns[j]:=by simp[List.getD,hj]
  rw[e] at this
  exact this
end
end L2
end
section
namespace L2
open PySem PySem.Spec PyProof.Rows
section
variable {X:Cx}
def sF:List V→Hp→VK→Prop:=fun xs H Q=>∃j:Int,xs=[.int j]∧∀r,H r=none→Q (.ref r) (upd H r (.rng 0 j))
theorem iR:bM X (.type "range") sF:=by
 intro pins s σ H xs us Q I r h
 obtain⟨j,rfl,q⟩:=h
 obtain⟨u,rfl,t,rfl⟩:=Vals.one r
 refine call_range_1 ⟨.ref s.heap.objs.size,upd H s.heap.objs.size (.rng 0 j),I.laid (t':=s.toks+1+1) (fun b o e=>Heap.get?_push_of_some _ e) (Nat.le_refl _) ⟨_,_,_,Heap.get?_push_size _ rfl⟩,rfl,q _ (I.hok.fresh (Nat.le_refl _))⟩
def pP:List V→Hp→VK→Prop:=fun xs H Q=>∃(a:Addr) (n:Nat),xs=[.ref a]∧H a=some (.rng 0 (n:Int))∧n≤1000∧∀l,H l=none→Q (.ref l) (upd H l (.lst ((List.range n).map fun (i:Nat)=>V.int (i:Int))))
theorem fk {xs:List V} {us:List Value} (hl:us.length=xs.length) (h:∀(j:Nat) (v:Value),us[j]? = some v→∃x,xs[j]? = some x∧RelV x v):Vals xs us:=by
 induction xs generalizing us with
 |nil=>cases us with
  |nil=>exact .nil
  |cons _ _=>simp at hl
 |cons x xs ih=>cases us with
  |nil=>simp at hl
  |cons u us=>
   obtain⟨y,e,r⟩:=h 0 u rfl
   cases e
   exact .cons r (ih (by simpa using hl) fun j v e=>by simpa using h (j+1) v (by simpa using e))
theorem i6 (hc:X.calm=true):bM X (.type "list") pP:=by
 intro pins s σ H xs us Q I r h
 obtain⟨a,n,rfl,ha,hn,q⟩:=h
 obtain⟨u,rfl,ru⟩:=Vals.one r
 cases ru
 obtain⟨t1,t2,t3,e⟩:=(show aS X.prog X.w H s.heap a (.rng 0 (n:Int)) from I.hok a _ ha)
 have hr:IsRange s.heap a 0 (n:Int) 1 t1 t2 t3:=e
 have hsz:Builtin.Range.rangeSize 0 (n:Int) 1=(n:Nat):=by rw[rangeSize_one];split <;> omega
 refine call_list_range (I.ok.hd hc) hr (small_one (by omega) (by omega) (by omega) (by omega)) hsz (by omega) fun h' tk acc c kp e' it=>?_
 have hp:s.heap.objs.size≤s.heap.objs.size:=Nat.le_refl _
 refine⟨.ref s.heap.objs.size,upd H s.heap.objs.size (.lst ((List.range n).map fun (i:Nat)=>V.int (i:Int))),I.laid (t':=tk) kp hp ⟨by simp;rw[sizeLine_eq];omega,acc.toList,c,fk (by simp[it.1]) fun j v ej=>?_,by rw[e']⟩,rfl,q _ (I.hok.fresh hp)⟩
 obtain⟨tv,hv⟩:=it.2 j v (by simpa using ej)
 have hj:j < n:=by
  have:=(List.getElem?_eq_some_iff.mp ej).1
  rw[Array.length_toList,it.1] at this;exact this
 refine⟨.int (j:Int),by simp[hj],tv,?_⟩
 rw[hv]
 simp
def rAll (K:W.Frag):List V→Hp→VK→Prop:=fun xs H Q=>∃(a:Addr) (bs:List Bool),xs=[.ref a]∧SqL K H a (bs.map V.bl)∧Q (.bl (bs.all id)) H
theorem fj (hc:X.calm=true):bM X (.builtin "all") (rAll X.K):=by
 intro pins s σ H xs us Q I r h
 obtain⟨a,bs,rfl,hq,q⟩:=h
 obtain⟨u,rfl,ru⟩:=Vals.one r
 cases ru
 obtain⟨its,rv,p,hz⟩:=I.list hq
 have hl:=rv.length
 rw[List.length_map] at hl
 have hil:=p.isList
 have hlt:a < s.heap.objs.size:=by obtain⟨_,e,_⟩:=hil;exact Heap.lt_size e
 refine call_all_walk (wpAny_pyIter_list hil ?_)
 refine⟨s.heap.objs.size,_,_,_,_,_,(fun i=>bs.getD i false),rfl,Walks.list (A:=X.A.in1) (I.ok.hd hc) _ a (Nat.ne_of_lt hlt) its.toArray,⟨⟨_,Heap.get?_push_size _ rfl,rfl,rfl⟩,hil.push _⟩,fun i v s' Q' E' hP hQ=>?_,fun h' tk hk=>?_⟩
 ·obtain⟨x,e1,e2⟩:=gY rv (i:=i) (v:=v) (by simpa using hP)
  rw[List.getElem?_map] at e1
  obtain⟨b,e3,rfl⟩:=Option.map_eq_some_iff.mp e1
  cases e2
  have:bs.getD i false=b:=by rw[List.getD,e3];rfl
  dsimp only at hQ
  rw[this] at hQ
  exact wpAny_truthy_bool hQ
 ·have e:(List.range its.toArray.size).all (fun i=>bs.getD i false)=bs.all id:=by
   rw[List.size_toArray,←hl]
   have e2:bs=(List.range bs.length).map fun i=>bs.getD i false:=by
    refine List.ext_getElem (by simp) fun i h1 h2=>?_
    simp[h1]
   conv=>rhs;rw[e2,List.all_map]
   rfl
  rw[e]
  exact⟨.bl _,H,I.kept (t':=tk) fun b o e=>hk b o (fun z=>by rw[List.mem_singleton.mp z] at e;exact absurd (Heap.lt_size e) (Nat.lt_irrefl _)) (Heap.get?_push_of_some _ e),rfl,q⟩
def oA:List V→Hp→VK→Prop:=fun xs H Q=>∃(a:Addr) (kvs:List (Key × V)),xs=[.ref a]∧Rd H a (.dK kvs)∧∀p,H p=none→Q (.ref p) (upd H p (.dK kvs))
theorem iU:bM X (.type "dict") oA:=by
 intro pins s σ H xs us Q I r h
 obtain⟨a,kvs,rfl,ha,q⟩:=h
 obtain⟨u,rfl,ru⟩:=Vals.one r
 cases ru
 exact qZ I ha fun p s' hp I'=>⟨.ref p,_,I',rfl,q p hp⟩
end
end L2
end
section
namespace L2
open PySem PySem.Spec PyProof.Rows
mutual
inductive Dt (K:W.Frag) (H:Hp):V→PyData→Prop
 |non:Dt K H .non .none
 |bl (b:Bool):Dt K H (.bl b) (.bool b)
 |int (i:Int):Dt K H (.int i) (.int i)
 |str (x:Str) (h:(PyData.str x).canLay0=true):Dt K H (.str x) (.str x)
 |lst {a:Addr} {xs:List V} {ds:List PyData} (h:SqL K H a xs) (r:Dts K H xs ds):Dt K H (.ref a) (.list ds)
 |tup {a:Addr} {xs:List V} {ds:List PyData} (h:SqT K H a xs) (r:Dts K H xs ds):Dt K H (.ref a) (.tuple ds)
inductive Dts (K:W.Frag) (H:Hp):List V→List PyData→Prop
 |nil:Dts K H [] []
 |cons {x:V} {d:PyData} {xs:List V} {ds:List PyData} (h:Dt K H x d) (r:Dts K H xs ds):Dts K H (x::xs) (d::ds)
end
section
variable {X:Cx} {pins:List (Addr × Obj)} {σ:St} {H H':Hp} {s:Shared}
mutual
theorem Dt.reads (I:Inv X pins σ H s):∀(d:PyData) (v:V) (u:Value),Dt X.K H v d→RelV v u→∃as,Reads s.heap u d as
 | .none,_,_,.non,r=>by cases r;exact⟨_,.none⟩
 | .bool b,_,_,.bl _,r=>by cases r;exact⟨_,.bool b⟩
 | .int i,_,_,.int _,r=>by obtain⟨t,rfl⟩:=r;exact⟨_,.int i t⟩
 | .str x,_,_,.str _ _,r=>by obtain⟨t,rfl⟩:=r;exact⟨_,.str x t⟩
 | .list ds,_,_,.lst h hs,r=>by
  cases r
  obtain⟨its,rv,⟨o,n,e,c,_,dd⟩,_⟩:=I.list h
  obtain⟨as,q⟩:=Dts.reads I ds _ _ hs rv
  exact⟨_,.list e c dd (by simpa using q)⟩
 | .tuple ds,_,_,.tup h hs,r=>by
  cases r
  obtain⟨its,rv,⟨o,e,c,n,dd⟩,_⟩:=I.tuple h
  obtain⟨as,q⟩:=Dts.reads I ds _ _ hs rv
  exact⟨_,.tuple e c dd (by simpa using q)⟩
 | .dict _,_,_,h,_=>nomatch h
theorem Dts.reads (I:Inv X pins σ H s):∀(ds:List PyData) (xs:List V) (us:List Value),Dts X.K H xs ds→Vals xs us→∃as,ReadsAll s.heap us ds as
 | [],_,_,.nil,r=>by cases r;exact⟨_,.nil⟩
 |d::ds,_,_,.cons h hs,r=>by
  cases r with
  |cons r rs=>
   obtain⟨as,q⟩:=Dt.reads I d _ _ h r
   obtain⟨bs,p⟩:=Dts.reads I ds _ _ hs rs
   exact⟨_,.cons q p⟩
end
mutual
theorem Dt.can {K:W.Frag}:∀(d:PyData) (v:V),Dt K H v d→d.canLay0=true
 | .none,_,_=>rfl
 | .bool b,_,_=>rfl
 | .int i,_,_=>rfl
 | .str x,_,.str _ h=>h
 | .list ds,_,.lst _ hs=>Dts.can ds _ hs
 | .tuple ds,_,.tup _ hs=>Dts.can ds _ hs
 | .dict _,_,h=>nomatch h
theorem Dts.can {K:W.Frag}:∀(ds:List PyData) (xs:List V),Dts K H xs ds→PyData.canLayAll0 ds=true
 | [],_,_=>rfl
 |d::ds,_,.cons h hs=>by rw[PyData.canLayAll0,Dt.can d _ h,Dts.can ds _ hs];rfl
end
mutual
def noBl:PyData→Bool
 | .bool _=>false
 | .list ds=>bL ds
 | .tuple ds=>bL ds
 | .dict _=>false
 |_=>true
def bL:List PyData→Bool
 | []=>true
 |d::ds=>noBl d&&bL ds
end
mutual
theorem nU:∀(d e:PyData),noBl d=true→noBl e=true→(PyData.eqv d e=true↔d=e)
 | .none,e,_,h=>by cases e <;> simp[PyData.eqv]
 | .bool b,_,h,_=>nomatch h
 | .int i,e,_,h=>by
  cases e with
  |bool _=>exact nomatch h
  |_=>simp[PyData.eqv]
 | .str i,e,_,h=>by
  cases e with
  |bool _=>exact nomatch h
  |_=>simp[PyData.eqv]
 | .list xs,e,h1,h=>by
  cases e with
  |list ys=>rw[PyData.eqv,fG xs ys h1 h];simp
  |_=>simp[PyData.eqv]
 | .tuple xs,e,h1,h=>by
  cases e with
  |tuple ys=>rw[PyData.eqv,fG xs ys h1 h];simp
  |_=>simp[PyData.eqv]
 | .dict _,_,h,_=>nomatch h
theorem fG:∀(ds es:List PyData),bL ds=true→bL es=true→(PyData.eqvAll ds es=true↔ds=es)
 | [],[],_,_=>by simp[PyData.eqvAll]
 | [],_::_,_,_=>by simp[PyData.eqvAll]
 |_::_,[],_,_=>by simp[PyData.eqvAll]
 |d::ds,e::es,h1,h2=>by
  have a1:noBl d=true∧bL ds=true:=by simpa [bL] using h1
  have a2:noBl e=true∧bL es=true:=by simpa [bL] using h2
  rw[PyData.eqvAll,Bool.and_eq_true,nU d e a1.1 a2.1,fG ds es a1.2 a2.2]
  simp
end
def rEqD (K:W.Frag) (neg:Bool):R2:=fun x y H Q=>∃d e:PyData,Dt K H x d∧Dt K H y e∧d.depth≤60∧Q (.bl (if neg then !PyData.eqv d e else PyData.eqv d e)) H
theorem min60 {u a b:Nat} (h:u+64 < cLine) (h':a≤60):u+min a b < cLine:=by
 have:min a b≤a:=Nat.min_le_left _ _
 omega
theorem uI (hu:X.A.units+64 < cLine):OpR X (compareOp .Eq) (rEqD X.K false):=by
 intro pins s σ H x y v u Q I rx ry h
 obtain⟨d,e,hd,he,hz,q⟩:=h
 obtain⟨as,ra⟩:=Dt.reads I d x v hd rx
 obtain⟨bs,rb⟩:=Dt.reads I e y u he ry
 exact PySem.SeqAt.compareEq_reads ra rb (Dt.can d x hd) (Dt.can e y he) (min60 hu hz) ⟨.bl _,H,I,rfl,q⟩
theorem mz (hu:X.A.units+64 < cLine):OpR X (compareOp .NotEq) (rEqD X.K true):=by
 intro pins s σ H x y v u Q I rx ry h
 obtain⟨d,e,hd,he,hz,q⟩:=h
 obtain⟨as,ra⟩:=Dt.reads I d x v hd rx
 obtain⟨bs,rb⟩:=Dt.reads I e y u he ry
 exact PySem.SeqAt.compareNe_reads ra rb (Dt.can d x hd) (Dt.can e y he) (min60 hu hz) ⟨.bl _,H,I,rfl,q⟩
def rInD (K:W.Frag) (neg:Bool):R2:=fun x y H Q=>∃(d:PyData) (a:Addr) (xs:List V) (ds:List PyData),Dt K H x d∧y=.ref a∧(SqL K H a xs∨SqT K H a xs)∧Dts K H xs ds∧d.depth≤60 ∧
 Q (.bl (if neg then !(ds.any fun z=>PyData.eqv z d) else ds.any fun z=>PyData.eqv z d)) H
theorem min61 {u a b:Nat} (h:u+64 < cLine) (h':b≤60):u+1+min a b < cLine:=by
 have:min a b≤b:=Nat.min_le_right _ _
 omega
theorem p0 (hu:X.A.units+64 < cLine):OpR X (compareOp .In) (rInD X.K false):=by
 intro pins s σ H x y v u Q I rx ry h
 obtain⟨d,a,xs,ds,hd,rfl,hq,hs,hz,q⟩:=h
 cases ry
 obtain⟨as,ra⟩:=Dt.reads I d x v hd rx
 rcases hq with hq|hq
 ·obtain⟨bs,rb⟩:=Dt.reads I (.list ds) (.ref a) _ (.lst hq hs) rfl
  exact PySem.SeqAt.in_list_reads rb ra (Dts.can ds _ hs) (Dt.can d x hd) (min61 hu hz) ⟨.bl _,H,I,rfl,q⟩
 ·obtain⟨bs,rb⟩:=Dt.reads I (.tuple ds) (.ref a) _ (.tup hq hs) rfl
  exact PySem.SeqAt.in_tuple_reads rb ra (Dts.can ds _ hs) (Dt.can d x hd) (min61 hu hz) ⟨.bl _,H,I,rfl,q⟩
end
end L2
end
section
namespace L2
open PySem PySem.Spec PyProof.Rows
section
variable {X:Cx} {pins:List (Addr × Obj)} {σ:St} {H:Hp} {s:Shared}
theorem Inv.turnLaid {h':Heap} {t':Nat} {a:Addr} {o:HO} {ch:List Addr} (I:Inv X pins σ H s) (hch:∀b∈ch,FpOk X pins H b) (k:∀b o,b∉ch→s.heap.get? b=some o→h'.get? b=some o)
  (ha:s.heap.get? a=none) (new:∀H',aS X.prog X.w H' h' a o):Inv X pins σ (upd H a o) {s with heap:=h',toks:=t'}:=by
 have hn:H a=none:=I.hok.none_of ha
 have nch:∀b u,H b=some u→b∉ch:=fun b u e z=>by
  have:=(hch b z).1
  rw[this] at e;cases e
 refine I.step (g':=s.gens) (d':=s.drawn) (ch:=ch) (fun b hb=>?_) (fun b o _ _ hc e _=>k b o hc e) (fun b o _ _ hc e _=>⟨o.slots,k b o hc e⟩) (fun b o _ e n=>?_) (fun b o hc e=>⟨o,k b o hc e⟩) (fun b xs e=>?_) (fun b o u e=>?_) (fun b ps e=>⟨#[],?_⟩) (fun m hm=>?_) (fun b u e=>?_) I.bare
 ·obtain⟨_,f1,_,f3,f4,f5⟩:=hch b hb
  exact⟨f3,f1,f4,f5⟩
 ·rw[au (fun z=>by rw[z,ha] at e;cases e)];exact n
 ·rw[au (ag e hn)];exact e
 ·rw[au (ag e hn)];exact e
 ·rw[au (ag e hn),e];simp
 ·obtain⟨o,es,ep,ho,r⟩:=hm
  exact⟨o,es,ep,k _ o (fun z=>(hch _ z).2.1 rfl) ho,r⟩
 ·by_cases hb:b=a
  ·subst hb;rw[al] at e;cases e;exact new _
  ·rw[au hb] at e
   refine (I.hok b u e).stay (fun c v hc q=>k c v ?_ q) (fun c q=>by rw[au (ag q hn)];exact q) fun c xs q=>by rw[au (ag q hn)];exact q
   rcases hc with z|z
   ·rw[z];exact nch b u e
   ·exact nch c _ z
end
def Ite (K:W.Frag) (a:Addr):It:=
 ⟨fun i H=>∃xs x,SqL K H a xs∧xs[i]? = some x,
  fun i H v H'=>∃p x,H p=none∧v=.ref p∧H' = upd H p (.tup [.int (i:Int),x])∧∀xs,SqL K H a xs→xs[i]? = some x,
  fun i H=>∃xs,SqL K H a xs∧xs.length≤i⟩
theorem oq {P:Program} {w:World} {K:W.Frag} {elts:List Expr} {x1} {pos:Pos} (a it e:Addr) (hne:e≠it) :
  Turn P w K (.Tuple elts x1 pos) (Ite K a) [e,it] e (fun i h=>(∃old,IsEnum h e it (i:Int) old)∧h.IsListIter it a i) where
 mem:=by simp
 obj:=fun i h st b hb=>by
  obtain⟨⟨old,st1⟩,o,e2,c,d⟩:=st
  rcases List.mem_cons.mp hb with z|z
  ·subst z
   exact⟨_,st1,fun v z=>by
    have z':Data.fields _=Data.cell v:=z
    cases z'⟩
  ·have z:b=it:=by simpa using z
   subst z
   exact⟨o,e2,fun v z=>by rw[d] at z;cases z⟩
 keep:=fun i h h' st k=>by
  obtain⟨⟨old,st1⟩,st2⟩:=st
  exact⟨⟨old,k e (by simp) _ st1⟩,st2.at fun o q=>k it (by simp) o q⟩
 item:=by
  intro X hP hw hK hc i pins s σ H E I hf st hg
  subst hP hw hK
  obtain⟨xs,x,hq,hx⟩:=hg
  obtain⟨⟨old,st1⟩,st2⟩:=st
  obtain⟨its,rv,p,hz⟩:=I.list hq
  obtain⟨u,hu,ru⟩:=rv.get hx
  refine wpAny_pyNext_enum_item st1 st2 p.isList (x:=u) (by simpa using hu) hne fun h1 heo hit1 ht1 hz1 hk1=>?_
  refine⟨_,rfl,?_⟩
  refine wpAny_letOwnedTupleGo_enum heo fun h2 he2 hs2=>?_
  replace hs2:Heap.SameBut e h1 h2:=hs2
  have hfr:s.heap.get? s.heap.objs.size=none:=Heap.get?_none_of_le (Nat.le_refl _)
  have hee:e < s.heap.objs.size:=Heap.lt_size st1
  have hit2:it < s.heap.objs.size:=by obtain⟨_,q,_⟩:=st2;exact Heap.lt_size q
  have hn:H s.heap.objs.size=none:=I.hok.fresh (Nat.le_refl _)
  have ht2:h2.get? s.heap.objs.size=some {cls:=.type "tuple",data:=.seq #[.int i s.toks,u]}:=(hs2.2 _ (Nat.ne_of_gt hee)).trans ht1
  have I2:Inv X pins σ (upd H s.heap.objs.size (.tup [.int (i:Int),x])) {s with heap:=h2,toks:=s.toks+1}:=by
   refine I.turnLaid (ch:=[e,it]) hf (fun b o hb q=>?_) hfr fun H'=>?_
   ·have hb1:b≠e:=fun z=>hb (by simp[z])
    have hb2:b≠it:=fun z=>hb (by simp[z])
    exact (hs2.2 b hb1).trans (hk1 b o hb1 hb2 q)
   ·exact⟨⟨by simp;rw[sizeLine_eq];omega,_,ht2,rfl⟩,[.int i s.toks,u],.cons ⟨_,rfl⟩ (.cons ru .nil),⟨_,ht2,rfl,_,rfl⟩⟩
  refine⟨.ref s.heap.objs.size,_,I2,rfl,⟨s.heap.objs.size,x,hn,rfl,rfl,fun ys hy=>by rw[I.list_inj hy hq];exact hx⟩,⟨⟨_,he2⟩,?_⟩,fun b hb=>?_⟩
  ·obtain⟨o,q1,q2⟩:=hit1
   exact⟨o,(hs2.2 it (Ne.symm hne)).trans q1,q2⟩
  ·have:b≠s.heap.objs.size:=by
    rcases List.mem_cons.mp hb with z|z
    ·rw[z];exact Nat.ne_of_lt hee
    ·rw[(by simpa using z:b=it)];exact Nat.ne_of_lt hit2
   rw[au this]
   exact (hf b hb).1
 done:=by
  intro X hP hw hK hc i pins s σ H E I hf st hg
  subst hP hw hK
  obtain⟨xs,hq,hx⟩:=hg
  obtain⟨⟨old,st1⟩,st2⟩:=st
  obtain⟨its,rv,p,hz⟩:=I.list hq
  obtain⟨f0,f1,f2,f3,f4,f5⟩:=hf it (by simp)
  have hl:=rv.length
  exact wpAny_pyNext_enum_end (I.ok.hd hc) st1 st2 p.isList (by simp;omega) fun h' eb=>⟨rfl,I.turned (t':=s.toks) (fun b o hb q=>eb b o hb q) f0 f1 f3 f4 f5⟩
 self:=fun _ _ _ _ _ st h=>by
  obtain⟨⟨old,st1⟩,_⟩:=st
  exact wpAny_pyIter_enum st1 h
section
variable {X:Cx}
def vS (K:W.Frag) (ta:TA):TI:=fun σ H R=>ta σ H fun vs H1=>∃(a:Addr) (xs:List V),vs=[.ref a]∧SqL K H1 a xs∧R (Ite K a) H1
theorem j3 {elts:List Expr} {x1} {tpos:Pos} {a:Expr} {ta:TA} {p pos:Pos} (hg:Gl X "enumerate") (hm:X.mg "enumerate" = none) (ha:PA X [a] ta) (hs:starEach [a] X.env=[(false,eval a X.env)]:=by rfl) :
  PI X (.Tuple elts x1 tpos) (.Call (.Name "enumerate" p) [a] [] pos) (vS X.K ta):=by
 intro pins s σ H R I h
 refine Call_ (iC I hg hm boot_enumerate (PyProof.Rows.callWith_type1 (thn (ha pos pins s σ H _ I h) fun us s1 ⟨vs,H1,I1,r1,q1⟩=>?_) hs rfl))
 obtain⟨a,xs,e,hq,q⟩:=q1
 subst e
 obtain⟨u,rfl,ru⟩:=Vals.one r1
 cases ru
 obtain⟨its,rv,pl,hz⟩:=I1.list hq
 refine call_enumerate_list pl.isList fun h' he hi hsz hk=>?_
 refine wpAny_pyIter_enum he ?_
 have I2:Inv X pins σ H1 {s1 with heap:=h'}:=I1.kept (t':=s1.toks) hk
 refine⟨_,[s1.heap.objs.size+1,s1.heap.objs.size],_,_,H1,rfl,I2,oq a _ _ (Nat.succ_ne_self _),⟨⟨.none,he⟩,hi⟩,fun b hb=>?_,q⟩
 have hb':s1.heap.objs.size≤b:=by
  rcases List.mem_cons.mp hb with z|z
  ·rw[z];exact Nat.le_succ _
  ·have:b=s1.heap.objs.size:=by simpa using z
   exact Nat.le_of_eq this.symm
 exact I1.fpOk hb' (I1.hok.fresh hb')
end
end L2
end
section
namespace L2
open PySem PySem.Spec PyProof.Rows PySem.W
section
variable {prog:Program} {w:World} {A:Around} {E:Value→Shared→Prop} {s:Shared} {d it v:Addr} {es:Array DictEntry} {ep i:Nat}
theorem u_ {Q:Value→Shared→Prop} (hv:s.heap.IsItemsView v d) (m:DAt s.heap d es ep)
  (q:Q (.ref s.heap.objs.size) {s with heap:=s.heap.push {cls:=.type "dict_itemiterator",data:=.fields #[.none,.bool false,.ref d,.int 0 0,.int es.size 0,.int ep 0,.none,.none]}}):wpAny (model prog w) A (pyIter (.ref v)) Q E s:=by
 obtain⟨o1,e1,_,d1⟩:=id hv
 obtain⟨o,eo,_,ed⟩:=id m
 refine wpAny_pyIter_slot hv.typeIs PySem.F.slot_dict_items_iter (wpAny_call_entry PySem.F.slot_dict_items_iter hv.typeIs PySem.F.entry_dict_items_iter ?_ (PySem.F.args_dict_items_iter_1 _))
 unfold Builtin.«dict_items.__iter__» Builtin.Dict_items.dictOf Builtin.Dict_items.newIterator
 refine wpAny_bind (wpAny_pure (wpAny_bind (wpAny_bind (wpAny_field e1 d1 (x:=.ref d) rfl (wpAny_pure (wpAny_bind (wpAny_bind (wpAny_dictEntries eo ed (wpAny_bind (wpAny_dictEpoch eo ed ?_))))))))))
 simp only[show Builtin.Dict_items.ownsTuple "dict_itemiterator" = true by decide,if_true]
 refine wpAny_newObj_type (wpAny_pure ⟨_,rfl,"dict_itemiterator",_,⟨_,Heap.get?_push_size _ rfl,rfl⟩,PySem.F.slot_dict_itemiterator_next.lookup,by simpa [rawInt,Builtin.Dict_items.ownedTupleFields] using q⟩)
  (by simp only[sizeOk,Builtin.Dict_items.ownedTupleFields,List.size_toArray,List.length_append,List.length_cons,List.length_nil];rw[sizeLine_eq];omega)
theorem u9 {x y:Value} {Q:Option Value→Shared→Prop} (hit:IsItemIter s.heap it d i es.size ep x y) (m:DAt s.heap d es ep) (hi:i < es.size)
  (q:∀h',IsItemIterOut h' it d (i+1) es.size ep es[i].key es[i].val s.heap.objs.size→h'.get? s.heap.objs.size=some {cls:=.type "tuple",data:=.seq #[es[i].key,es[i].val]} →
   (∀b o,b≠it→s.heap.get? b=some o→h'.get? b=some o)→Q (some (.ref s.heap.objs.size)) {s with heap:=h'}):wpAny (model prog w) A (pyNext (.ref it)) Q E s:=by
 obtain⟨hp,g,dr,tk,os⟩:=s
 obtain⟨od,eo,_,ed⟩:=id m
 have ty:Shared.TypeIs ⟨hp,g,dr,tk,os⟩ (.ref it) "dict_itemiterator":=⟨_,hit,rfl⟩
 unfold pyNext
 refine wpAny_bind (wpAny_attempt (wpAny_callSpecial?_slot (name:=Str.ofString "__next__") ty PySem.F.slot_dict_itemiterator_next (wpAny_call_entry PySem.F.slot_dict_itemiterator_next ty PySem.F.entry_dict_itemiterator_next ?tree (PySem.F.args_dict_itemiterator_next_1 _))))
 refine wpAny_bind (wpAny_pure (wpAny_bind (wpAny_bind ?_)))
 first|refine wpAny_bind (wpAny_typeNameOfWhole_itemiter ty (wpAny_pure (wpAny_bind (wpAny_fieldsOf hit rfl ?_))))|refine wpAny_bind (wpAny_typeNameOf_itemiter ty (wpAny_pure (wpAny_bind (wpAny_fieldsOf hit rfl ?_))))
 simp only[show Builtin.Dict_items.ownsTuple "dict_itemiterator" = true by decide,if_true]
 refine (show wpAny _ _ (if (Value.ref d==Value.none)=true then _ else _) _ _ _ from ?_);rw[if_neg (show ¬(Value.ref d==Value.none)=true from Bool.false_ne_true)]
 refine wpAny_bind (wpAny_pure (wpAny_bind (wpAny_dictEntries eo ed ?_)));rw[if_neg (by simp)]
 refine wpAny_bind (wpAny_pure (wpAny_bind (wpAny_dictEpoch eo ed ?_)));rw[if_neg (by simp)]
 refine wpAny_pure ?_
 simp only[show ¬((i:Int) < 0) by omega,if_false,Int.toNat_natCast,Array.getElem?_eq_getElem hi]
 refine wpAny_bind ?_
 first|refine wpAny_bind (wpAny_typeNameOfWhole_itemiter ty (wpAny_pure (wpAny_bind (wpAny_isOneOf_itemiter ty ?_))))|refine wpAny_bind (wpAny_typeNameOf_itemiter ty (wpAny_pure (wpAny_bind (wpAny_isOneOf_itemiter ty ?_))))
 refine (show wpAny _ _ (setField (.ref it) 3 (rawInt ((i:Int)+1)) >>= _) _ _ ⟨hp,g,dr,tk,os⟩ from wpAny_bind (wpAny_setField_rec hit (by simp) fun h1 r1 b1=>?_))
 replace b1:Heap.SameBut it hp h1:=b1
 replace r1:IsItemIter h1 it d (i+1) es.size ep x y:=by
  unfold IsItemIter;rw[show ((i+1:Nat):Int)=(i:Int)+1 by omega];simpa [rawInt] using r1
 have ty1:Shared.TypeIs ⟨h1,g,dr,tk,os⟩ (.ref it) "dict_itemiterator":=⟨_,r1,rfl⟩
 refine wpAny_bind (wpAny_holding (wpAny_bind (wpAny_isOneOf_itemiter ty1 (wpAny_bind (wpAny_isOneOf_itemiter ty1 ?_)))))
 refine (show wpAny _ _ (Builtin.Dict_items.pairFromOwner (.ref it) 6 es[i].key es[i].val) _ _ ⟨h1,g,dr,tk,os⟩ from ?_)
 unfold Builtin.Dict_items.pairFromOwner
 refine wpAny_bind (wpAny_newTuple ?_)
 have z1:h1.objs.size=hp.objs.size:=b1.1
 have lt:it < hp.objs.size:=Heap.lt_size hit
 have ne:hp.objs.size≠it:=Nat.ne_of_gt lt
 obtain⟨h2,r2,t2,k2,eh⟩:∃h2:Heap,IsItemIter h2 it d (i+1) es.size ep x y∧h2.get? hp.objs.size=some {cls:=.type "tuple",data:=.seq #[es[i].key,es[i].val]}∧(∀b o,b≠it→hp.get? b=some o→h2.get? b=some o) ∧
   h1.push {cls:=.type "tuple",data:=.seq #[es[i].key,es[i].val]}=h2:=
  ⟨_,Heap.get?_push_of_some _ r1,by rw[←z1];exact Heap.get?_push_size _ rfl,fun b o hb e=>Heap.get?_push_of_some _ (b1.extBut b o hb e),rfl⟩
 refine (show wpAny _ _ (Builtin.Dict_items.ownedTupleIsFree (.ref it) >>= _) _ _ ⟨h1.push {cls:=.type "tuple",data:=.seq #[es[i].key,es[i].val]},g,dr,tk,os⟩ from ?_)
 rw[z1,eh]
 unfold Builtin.Dict_items.ownedTupleIsFree
 refine wpAny_bind (wpAny_bind (wpAny_field r2 rfl (x:=.none) rfl (wpAny_pure ?_)))
 simp only[if_true]
 refine wpAny_bind (wpAny_field r2 rfl (x:=x) rfl (wpAny_bind (wpAny_field r2 rfl (x:=y) rfl (wpAny_bind (wpAny_setField_rec r2 (by simp) fun h3 r3 b3=>?_)))))
 replace b3:Heap.SameBut it h2 h3:=b3
 replace r3:IsItemIter h3 it d (i+1) es.size ep es[i].key y:=r3
 refine wpAny_bind (wpAny_setField_rec r3 (by simp) fun h4 r4 b4=>?_)
 replace b4:Heap.SameBut it h3 h4:=b4
 replace r4:IsItemIter h4 it d (i+1) es.size ep es[i].key es[i].val:=r4
 refine wpAny_bind (wpAny_setField_rec r4 (by simp) fun h5 r5 b5=>?_)
 replace b5:Heap.SameBut it h4 h5:=b5
 replace r5:IsItemIterOut h5 it d (i+1) es.size ep es[i].key es[i].val hp.objs.size:=r5
 refine wpAny_bind (wpAny_setField_rec r5 (by simp) fun h6 r6 b6=>?_)
 replace b6:Heap.SameBut it h5 h6:=b6
 replace r6:IsItemIterOut h6 it d (i+1) es.size ep es[i].key es[i].val hp.objs.size:=r6
 have up:∀b o,b≠it→h2.get? b=some o→h6.get? b=some o:=fun b o hb e=>b6.extBut b o hb (b5.extBut b o hb (b4.extBut b o hb (b3.extBut b o hb e)))
 exact wpAny_bind (wpAny_letGo (wpAny_pure (wpAny_pure ⟨_,rfl,wpAny_pure (q h6 r6 (up _ _ ne t2) fun b o hb e=>up b o hb (k2 b o hb e))⟩)))
theorem vV {x y:Value} {Q:Option Value→Shared→Prop} (hh:A.handled=none) (hit:IsItemIter s.heap it d i es.size ep x y) (m:DAt s.heap d es ep) (hi:es.size≤i)
  (q:∀h',Heap.ExtBut it s.heap h'→Q none {s with heap:=h'}):wpAny (model prog w) A (pyNext (.ref it)) Q E s:=by
 obtain⟨od,eo,_,ed⟩:=id m
 have ty:s.TypeIs (.ref it) "dict_itemiterator":=⟨_,hit,rfl⟩
 unfold pyNext
 refine wpAny_bind (wpAny_attempt (wpAny_callSpecial?_slot (name:=Str.ofString "__next__") ty PySem.F.slot_dict_itemiterator_next (wpAny_call_entry PySem.F.slot_dict_itemiterator_next ty PySem.F.entry_dict_itemiterator_next ?tree (PySem.F.args_dict_itemiterator_next_1 _))))
 refine wpAny_bind (wpAny_pure (wpAny_bind (wpAny_bind ?_)))
 first|refine wpAny_bind (wpAny_typeNameOfWhole_itemiter ty (wpAny_pure (wpAny_bind (wpAny_fieldsOf hit rfl ?_))))|refine wpAny_bind (wpAny_typeNameOf_itemiter ty (wpAny_pure (wpAny_bind (wpAny_fieldsOf hit rfl ?_))))
 simp only[show Builtin.Dict_items.ownsTuple "dict_itemiterator" = true by decide,if_true]
 refine (show wpAny _ _ (if (Value.ref d==Value.none)=true then _ else _) _ _ s from ?_);rw[if_neg (show ¬(Value.ref d==Value.none)=true from Bool.false_ne_true)]
 refine wpAny_bind (wpAny_pure (wpAny_bind (wpAny_dictEntries eo ed ?_)));rw[if_neg (by simp)]
 refine wpAny_bind (wpAny_pure (wpAny_bind (wpAny_dictEpoch eo ed ?_)));rw[if_neg (by simp)]
 refine wpAny_pure ?_
 simp only[show ¬((i:Int) < 0) by omega,if_false,Int.toNat_natCast,Array.getElem?_eq_none hi]
 refine wpAny_bind ?_
 first|refine wpAny_bind (wpAny_typeNameOfWhole_itemiter ty (wpAny_pure ?_))|refine wpAny_bind (wpAny_typeNameOf_itemiter ty (wpAny_pure ?_))
 refine (show wpAny _ _ (setField (.ref it) 2 .none >>= _) _ _ s from wpAny_bind (wpAny_setField hit rfl (by simp) ?_))
 refine (show wpAny _ _ (newExc (.type "StopIteration") [] >>= _) _ _ _ from wpAny_bind ?_)
 simp only[newExc,newTuple]
 refine wpAny_bind (wpAny_newObj_type (wpAny_bind (m:=firstArgMember _ _) (wpAny_of_eq (a:=Value.none) (by first|rfl|(simp only[firstArgMember];rfl)) (wpAny_newObj_type ?_ (by size_fits)))) (by size_fits))
 simp only[raiseNew]
 refine wpAny_bind (wpAny_handled ?_);rw[show A.in1.handled=none from hh]
 refine wpAny_bind (wpAny_pure (wpAny_throw ?_))
 refine wpAny_bind (wpAny_isInstance (b:=true) (T:="StopIteration") ⟨_,Heap.get?_push_size _ rfl,rfl⟩ isSubtype_stop ?_)
 exact wpAny_pure (q _ (((Heap.SameBut.update ..).extBut.push _).push _))
end
section
variable {X:Cx} {pins:List (Addr × Obj)} {σ:St} {H:Hp} {s:Shared} {d:Addr} {u:HO}
def IsDO:HO→Prop
 | .dK _=>True
 | .dT _=>True
 |_=>False
theorem IsDO.notT {u:HO} (h:IsDO u):(∀xs,u≠.tup xs)∧(∀o v,u≠.frz o v)∧(∀ps,u≠.tbl ps)∧∀y,u≠.own y:=by
 cases u <;> first|exact False.elim h|exact⟨fun _ z=>(nomatch z),fun _ _ z=>(nomatch z),fun _ z=>(nomatch z),fun _ z=>(nomatch z)⟩
theorem Inv.freeze (I:Inv X pins σ H s) (hd:H d=some u) (hu:IsDO u) {o:Obj} (ho:s.heap.get? d=some o):Inv X pins σ (upd H d (.frz o u)) s:=by
 obtain⟨n1,n2,n3,n4⟩:=hu.notT
 have ne:∀{b v},H b=some v→v≠u→b≠d:=fun e z y=>z (by rw[y,hd] at e;exact (Option.some.inj e).symm)
 refine I.step (h':=s.heap) (g':=s.gens) (d':=s.drawn) (t':=s.toks) (ch:=[]) (fun _ z=>nomatch z) (fun b o _ _ _ e _=>e) (fun b o _ _ _ e _=>⟨o.slots,e⟩) (fun b o _ _ n=>?_) (fun b o _ e=>⟨o,e⟩) (fun b xs e=>?_) (fun b o v e=>?_) (fun b ps e=>⟨#[],?_⟩) (fun _ m=>m) (fun b v e=>?_) I.bare
 ·rw[au (fun z=>by rw[z,hd] at n;cases n)];exact n
 ·rw[au (ne e fun z=>n1 xs z.symm)];exact e
 ·rw[au (ne e fun z=>n2 o v z.symm)];exact e
 ·rw[au (ne e fun z=>n3 ps z.symm),e];simp
 ·have st:∀{b v},aS X.prog X.w H s.heap b v→aS X.prog X.w (upd H d (.frz o u)) s.heap b v:=fun x=>
   x.stay (fun _ _ _ q=>q) (fun c q=>by rw[au (ne q fun z=>n4 _ z.symm)];exact q) fun c xs q=>by rw[au (ne q fun z=>n1 xs z.symm)];exact q
  by_cases hb:b=d
  ·subst hb;rw[al] at e;cases e;exact⟨ho,st (I.hok _ _ hd)⟩
  ·rw[au hb] at e
   exact st (I.hok b v e)
def Fz (H H2:Hp) (d:Addr) (o:Obj) (u:HO):Prop:=(H d=some u∨H d=some (.frz o u))∧IsDO u∧H2=upd H d (.frz o u)
theorem Fz.at {H2:Hp} {o:Obj} (f:Fz H H2 d o u):H2 d=some (.frz o u):=by rw[f.2.2,al]
theorem Fz.ne {H2:Hp} {o:Obj} {b:Addr} (f:Fz H H2 d o u) (h:b≠d):H2 b=H b:=by rw[f.2.2,au h]
theorem Inv.fz (I:Inv X pins σ H s) (hd:Rd H d u) (hu:IsDO u):∃o,s.heap.get? d=some o∧Fz H (upd H d (.frz o u)) d o u∧Inv X pins σ (upd H d (.frz o u)) s:=by
 rcases hd with hd|⟨o,hd⟩
 ·obtain⟨o,ho⟩:=(I.hok d u hd).there
  exact⟨o,ho,⟨.inl hd,hu,rfl⟩,I.freeze hd hu ho⟩
 ·have e:upd H d (.frz o u)=H:=by
   funext b;unfold upd;split
   ·rename_i z;rw[z,hd]
   ·rfl
  exact⟨o,(I.hok d _ hd).1,⟨.inr hd,hu,rfl⟩,by rw[e];exact I⟩
def DKV (H:Hp) (u:HO) (ks vs:List V):Prop:=
 (∃kvs,u=.dK kvs∧ks=kvs.map (fun p=>kV p.1)∧vs=kvs.map (·.2)) ∨
 ∃kvs as,u=.dT kvs∧Paired (fun (p:List Key × V) a=>H a=some (.tup (p.1.map kV))) kvs as∧ks=as.map V.ref∧vs=kvs.map (·.2)
theorem iI (I:Inv X pins σ H s) (hd:Rd H d u) (hu:IsDO u) :
  (d==sysModules)=false∧∃ks vs es ep,DKV H u ks vs∧ks.length≤sizeLine∧DAt s.heap d es ep∧Vals ks (es.toList.map (·.key))∧Vals vs (es.toList.map (·.val)):=by
 cases u <;> first|exact False.elim hu|skip
 case dK kvs=>
  obtain⟨z,lo,us,rel,o,es,ep,h1,h2,h3,_,h5,_⟩:=cY I.hok hd
  refine⟨lo,_,_,es,ep,.inl ⟨kvs,rfl,rfl,rfl⟩,by rw[List.length_map];exact z,⟨o,h1,h2,h3⟩,?_⟩
  generalize es.toList=l at h5
  have go:∀{kvs:List (Key × V)} {us:List (Key × Value)} {l:List DictEntry},KV kvs us→Pairs (aN X.prog X.w) l us→Vals (kvs.map fun p=>kV p.1) (l.map (·.key))∧Vals (kvs.map (·.2)) (l.map (·.val)):=by
   intro kvs us l r
   induction r generalizing l with
   |nil=>intro p;cases p;exact⟨.nil,.nil⟩
   | @cons a b l1 l2 h1 h2 ih=>
    intro p
    cases p with
    |cons p1 p2 p3=>
     obtain⟨i1,i2⟩:=ih p3
     refine⟨.cons ?_ i1,.cons ?_ i2⟩
     ·dsimp only
      rw[h1.1]
      rcases aY p1 with ⟨i,t,e1,e2⟩|⟨x,t,e1,e2⟩
      ·rw[e1,e2];exact⟨t,rfl⟩
      ·rw[e1,e2];exact⟨t,rfl⟩
     ·dsimp only;rw[p2];exact h1.2
  exact go rel h5
 case dT kvs=>
  obtain⟨z,lo,xs,rel,o,es,ep,h1,h2,h3,h4,hz⟩:=fV I.hok hd
  clear hz
  have go:∀{kvs:List (List Key × V)} {xs:List (List Key × Addr × Value)},KT H kvs xs→Paired (fun (p:List Key × V) a=>H a=some (.tup (p.1.map kV))) kvs (xs.map (·.2.1))∧Vals (kvs.map (·.2)) (xs.map (·.2.2)):=by
   intro kvs xs r
   induction r with
   |nil=>exact⟨.nil,.nil⟩
   |cons h1 h2 ih=>exact⟨.cons h1.2.1 ih.1,.cons h1.2.2 ih.2⟩
  obtain⟨g1,g2⟩:=go rel
  have hl:=Paired.length g1
  refine⟨lo,_,_,es,ep,.inr ⟨kvs,_,rfl,g1,rfl,rfl⟩,by rw[List.length_map,←hl];exact z,⟨o,h1,h2,h3⟩,?_,?_⟩
  ·rw[h4,List.map_map,List.map_map]
   clear h4 rel g1 g2 hl
   induction xs with
   |nil=>exact .nil
   |cons x r ih=>exact .cons rfl ih
  ·rw[h4,List.map_map]
   exact g2
end
end L2
end
section
namespace L2
open PySem PySem.Spec PyProof.Rows PySem.W
def Itk (d:Addr) (o:Obj) (ks:List V):It:=
 ⟨fun i H=>i < ks.length∧∃u,H d=some (.frz o u),fun i H x H'=>H' = H∧ks[i]? = some x,fun i H=>ks.length≤i∧∃u,H d=some (.frz o u)⟩
theorem h8 {X:Cx} {pins:List (Addr × Obj)} {σ:St} {H:Hp} {s:Shared} {d:Addr} {o:Obj} {u:HO} {es:Array DictEntry} {ep:Nat} (I:Inv X pins σ H s) (h:H d=some (.frz o u)) (x:o.ExactDict) (e:o.data=.dict es ep):DAt s.heap d es ep:=
 ⟨o,(I.hok d _ h).1,x,e⟩
theorem oo {P:Program} {w:World} {K:W.Frag} {tg:Expr} {d it:Addr} {o:Obj} {es:Array DictEntry} {ep:Nat} {ks:List V} (x:o.ExactDict) (e:o.data=.dict es ep) (r:Vals ks (es.toList.map (·.key))) :
  Turn P w K tg (Itk d o ks) [it] it (fun i h=>h.IsKeyIter it d i es.size ep) where
 mem:=by simp
 obj:=fun i h st b hb=>by
  have e:b=it:=by simpa using hb
  subst e
  obtain⟨o,e,c,d⟩:=st
  exact⟨o,e,fun v z=>by rw[d] at z;cases z⟩
 keep:=fun i h h' st k=>st.at fun o e=>k it (by simp) o e
 item:=by
  intro X hP hw hK hc i pins s σ H E I hf st hg
  subst hP hw hK
  obtain⟨hi,u,hu⟩:=hg
  have hl:ks.length=es.size:=by have:=r.length;simpa using this
  obtain⟨y,hy⟩:∃y,ks[i]? = some y:=⟨ks[i],by simp[hi]⟩
  obtain⟨z,hz,rz⟩:=r.get hy
  have hi':i < es.size:=by omega
  have ez:z=es[i].key:=by
   rw[List.getElem?_map] at hz
   simp[hi'] at hz
   exact hz.symm
  obtain⟨f0,f1,f2,f3,f4,f5⟩:=hf it (by simp)
  refine t5 st (h8 I hu x e) hi' fun h' st' sb=>?_
  have I1:Inv X pins σ H {s with heap:=h'}:=I.turned (t':=s.toks) (fun b o hb e=>(sb.2 b hb).trans e) f0 f1 f3 f4 f5
  obtain⟨o',e',c',d'⟩:=id st'
  exact⟨_,rfl,nT (s:={s with heap:=h'}) e' c' d' (by decide) ⟨y,H,I1,by rw[←ez];exact rz,⟨rfl,hy⟩,st',fun b hb=>(hf b hb).1⟩⟩
 done:=by
  intro X hP hw hK hc i pins s σ H E I hf st hg
  subst hP hw hK
  obtain⟨hi,u,hu⟩:=hg
  have hl:ks.length=es.size:=by have:=r.length;simpa using this
  obtain⟨f0,f1,f2,f3,f4,f5⟩:=hf it (by simp)
  exact dEnd (I.ok.hd hc) st (h8 I hu x e) (by omega) fun h' eb=>⟨rfl,I.turned (t':=s.toks) (fun b o hb e=>eb b o hb e) f0 f1 f3 f4 f5⟩
 self:=fun _ _ _ _ _ st h=>wpAny_pyIter_keyiter st h
section
variable {X:Cx} {tg:Expr}
def vT (td:TE):TI:=fun σ H R=>td σ H fun x H1=>∃(d:Addr) (u:HO),x=.ref d∧Rd H1 d u∧IsDO u∧∀ks vs o H2,DKV H1 u ks vs→Fz H1 H2 d o u→R (Itk d o ks) H2
theorem qY {h:Heap} {d:Addr} {es:Array DictEntry} {ep:Nat} {o:Obj} (m:DAt h d es ep) (e:h.get? d=some o):o.ExactDict∧o.data=.dict es ep:=by
 obtain⟨o',e',x⟩:=m
 rw[e] at e';cases e'
 exact x
theorem nM {l:Expr} {td:TE} (hl:PE X l td):PI X tg l (vT td):=by
 intro pins s σ H R I h
 refine thn (hl pins s σ H _ I h) fun v s1 ⟨x,H1,I1,r1,q1⟩=>?_
 obtain⟨d,u,e,hd,hu,q⟩:=q1
 subst e
 cases r1
 obtain⟨lo,ks,vs,es,ep,dk,hz,dm,rk,rv⟩:=iI I1 hd hu
 obtain⟨o,ho,fz,I2⟩:=I1.fz hd hu
 obtain⟨ex,ed⟩:=qY dm ho
 refine q5 lo dm ?_
 refine⟨s1.heap.objs.size,[s1.heap.objs.size],_,_,_,rfl,I2.kept (t':=s1.toks) fun b o e=>Heap.get?_push_of_some _ e,oo (d:=d) (o:=o) ex ed rk,⟨_,Heap.get?_push_size _ rfl,rfl,rfl⟩,fun b hb=>?_,q ks vs o _ dk fz⟩
 have e:b=s1.heap.objs.size:=by simpa using hb
 subst e
 exact I2.fpOk (Nat.le_refl _) (I2.hok.fresh (Nat.le_refl _))
end
def kd (v d:Addr):HO:=.ext fun h=>h.IsItemsView v d
def Iti (d:Addr) (o:Obj) (ks vs:List V):It:=
 ⟨fun i H=>i < ks.length∧∃u,H d=some (.frz o u),
  fun i H v H'=>∃p x y,H p=none∧v=.ref p∧H' = upd H p (.tup [x,y])∧ks[i]? = some x∧vs[i]? = some y,fun i H=>ks.length≤i∧∃u,H d=some (.frz o u)⟩
theorem lQ {P:Program} {w:World} {K:W.Frag} {elts:List Expr} {x1} {pos:Pos} {d it:Addr} {o:Obj} {es:Array DictEntry} {ep:Nat} {ks vs:List V} (x:o.ExactDict) (e:o.data=.dict es ep) (r:Vals ks (es.toList.map (·.key))) (r':Vals vs (es.toList.map (·.val))) :
  Turn P w K (.Tuple elts x1 pos) (Iti d o ks vs) [it] it (fun i h=>∃a b,IsItemIter h it d i es.size ep a b) where
 mem:=by simp
 obj:=fun i h st b hb=>by
  have e:b=it:=by simpa using hb
  subst e
  obtain⟨_,_,st⟩:=st
  exact⟨_,st,fun v z=>by
   have z':Data.fields _=Data.cell v:=z
   cases z'⟩
 keep:=fun i h h' st k=>let ⟨a,b,st⟩:=st;⟨a,b,k it (by simp) _ st⟩
 item:=by
  intro X hP hw hK hc i pins s σ H E I hf st hg
  subst hP hw hK
  obtain⟨hi,u,hu⟩:=hg
  obtain⟨_,_,st⟩:=st
  have hl:ks.length=es.size:=by have:=r.length;simpa using this
  have hl':vs.length=es.size:=by have:=r'.length;simpa using this
  obtain⟨y,hy⟩:∃y,ks[i]? = some y:=⟨ks[i],by simp[hi]⟩
  obtain⟨y',hy'⟩:∃y,vs[i]? = some y:=⟨vs[i]'(by omega),by simp⟩
  obtain⟨z,hz,rz⟩:=r.get hy
  obtain⟨z',hz',rz'⟩:=r'.get hy'
  have hi':i < es.size:=by omega
  have ez:z=es[i].key:=by
   rw[List.getElem?_map] at hz
   simp[hi'] at hz
   exact hz.symm
  have ez':z' = es[i].val:=by
   rw[List.getElem?_map] at hz'
   simp[hi'] at hz'
   exact hz'.symm
  refine u9 st (h8 I hu x e) hi' fun h1 st1 t1 k1=>?_
  refine⟨_,rfl,wpAny_letOwnedTupleGo_items st1 fun h2 st2 sb=>?_⟩
  replace sb:Heap.SameBut it h1 h2:=sb
  have hee:it < s.heap.objs.size:=Heap.lt_size st
  have hfr:s.heap.get? s.heap.objs.size=none:=Heap.get?_none_of_le (Nat.le_refl _)
  have hn:H s.heap.objs.size=none:=I.hok.fresh (Nat.le_refl _)
  have I2:Inv X pins σ (upd H s.heap.objs.size (.tup [y,y'])) {s with heap:=h2}:=by
   refine I.turnLaid (t':=s.toks) (ch:=[it]) hf (fun b o hb q=>?_) hfr fun H'=>?_
   ·have hb1:b≠it:=fun z=>hb (by simp[z])
    exact (sb.2 b hb1).trans (k1 b o hb1 q)
   ·exact⟨⟨by simp;rw[sizeLine_eq];omega,_,(sb.2 _ (Nat.ne_of_gt hee)).trans t1,rfl⟩,[es[i].key,es[i].val],.cons (by rw[←ez];exact rz) (.cons (by rw[←ez'];exact rz') .nil),⟨_,(sb.2 _ (Nat.ne_of_gt hee)).trans t1,rfl,_,rfl⟩⟩
  refine⟨.ref s.heap.objs.size,_,I2,rfl,⟨s.heap.objs.size,y,y',hn,rfl,rfl,hy,hy'⟩,⟨_,_,st2⟩,fun b hb=>?_⟩
  have hb':b=it:=by simpa using hb
  rw[hb',au (Nat.ne_of_lt hee)]
  exact (hf it (by simp)).1
 done:=by
  intro X hP hw hK hc i pins s σ H E I hf st hg
  subst hP hw hK
  obtain⟨hi,u,hu⟩:=hg
  obtain⟨_,_,st⟩:=st
  have hl:ks.length=es.size:=by have:=r.length;simpa using this
  obtain⟨f0,f1,f2,f3,f4,f5⟩:=hf it (by simp)
  exact vV (I.ok.hd hc) st (h8 I hu x e) (by omega) fun h' eb=>⟨rfl,I.turned (t':=s.toks) (fun b o hb e=>eb b o hb e) f0 f1 f3 f4 f5⟩
 self:=fun _ _ _ _ _ st h=>by
  obtain⟨_,_,st⟩:=st
  exact kcp_self st h
section
variable {X:Cx}
def uC:V→List V→Hp→VK→Prop:=fun x xs H Q=>∃(d:Addr) (u:HO),x=.ref d∧xs=[]∧Rd H d u∧IsDO u∧∀v,H v=none→Q (.ref v) (upd H v (kd v d))
theorem qo:MtM X "dict.items" uC:=by
 intro pins s σ H x xs v us Q I rx rs h
 obtain⟨d,u,rfl,rfl,hd,hu,q⟩:=h
 cases rx
 cases rs
 obtain⟨lo,ks,vs,es,ep,dk,hz,dm,rk,rv⟩:=iI I hd hu
 refine PySem.call_meets PySem.F.slot_dict_items dm.ty PySem.F.entry_dict_items (PySem.F.args_dict_items_1 _) (S:=fun A R s=>(∃es ep,DAt s.heap d es ep)∧R (.ok (.ret (.ref s.heap.objs.size))) {s with heap:=s.heap.push {cls:=.type "dict_items",data:=.fields #[.ref d]}}) (.of_wp fun prog w A R s h=>?_) ⟨⟨es,ep,dm⟩,?_⟩
 ·obtain⟨⟨es,ep,dm⟩,h⟩:=h
  unfold Builtin.«dict.items» Builtin.Dict.noArgs
  refine wpAny_bind (wpAny_bind (wpAny_notOrdered_dict dm.ty ?_))
  refine (show wpAny _ _ (pure d) _ _ s from wpAny_pure ?_)
  refine (show wpAny _ _ (Builtin.Dict.showsAll d >>= _) _ _ s from ?_)
  unfold Builtin.Dict.showsAll
  rw[if_neg (show ¬(d==sysModules)=true by rw[lo];simp)]
  exact wpAny_bind (wpAny_pure (wpAny_bind (wpAny_newObj_type (wpAny_pure ⟨_,rfl,h⟩))))
 ·refine⟨.ref s.heap.objs.size,_,I.laid (a:=s.heap.objs.size) (o:=kd s.heap.objs.size d) (t':=s.toks) (fun b o e=>Heap.get?_push_of_some _ e) (Nat.le_refl _) ⟨⟨_,Heap.get?_push_size _ rfl,rfl,rfl⟩,⟨_,Heap.get?_push_size _ rfl⟩,fun h1 h2 p k=>?_⟩,rfl,q _ (I.hok.fresh (Nat.le_refl _))⟩
  obtain⟨o,e,c⟩:=p
  exact⟨o,k o e,c⟩
def u4 (td:TE):TI:=fun σ H R=>td σ H fun x H1=>∃(v d:Addr) (u:HO),x=.ref v∧H1 v=some (kd v d)∧Rd H1 d u∧IsDO u∧∀ks vs o H2,DKV H1 u ks vs→Fz H1 H2 d o u→R (Iti d o ks vs) H2
theorem pU {l:Expr} {td:TE} {elts:List Expr} {x1} {pos:Pos} (hl:PE X l td):PI X (.Tuple elts x1 pos) l (u4 td):=by
 intro pins s σ H R I h
 refine thn (hl pins s σ H _ I h) fun v s1 ⟨x,H1,I1,r1,q1⟩=>?_
 obtain⟨v,d,u,e,hv,hd,hu,q⟩:=q1
 subst e
 cases r1
 have iv:s1.heap.IsItemsView v d:=(show aS X.prog X.w H1 s1.heap v (kd v d) from I1.hok v _ hv).1
 obtain⟨lo,ks,vs,es,ep,dk,hz,dm,rk,rv⟩:=iI I1 hd hu
 obtain⟨o,ho,fz,I2⟩:=I1.fz hd hu
 obtain⟨ex,ed⟩:=qY dm ho
 refine u_ iv dm ?_
 refine⟨s1.heap.objs.size,[s1.heap.objs.size],_,_,_,rfl,I2.kept (t':=s1.toks) fun b o e=>Heap.get?_push_of_some _ e,lQ (d:=d) (o:=o) ex ed rk rv,⟨_,_,Heap.get?_push_size _ rfl⟩,fun b hb=>?_,q ks vs o _ dk fz⟩
 have e:b=s1.heap.objs.size:=by simpa using hb
 subst e
 exact I2.fpOk (Nat.le_refl _) (I2.hok.fresh (Nat.le_refl _))
end
end L2
end
section
namespace L2
open PySem PySem.Spec PyProof.Rows PySem.W
section
variable {X:Cx}
def gX (v d:Addr):HO:=.ext fun h=>h.IsValuesView v d
def sn:V→List V→Hp→VK→Prop:=fun x xs H Q=>∃(d:Addr) (kvs:List (Key × V)),x=.ref d∧xs=[]∧Rd H d (.dK kvs)∧∀v,H v=none→Q (.ref v) (upd H v (gX v d))
theorem oN:MtM X "dict.values" sn:=by
 intro pins s σ H x xs v us Q I rx rs h
 obtain⟨d,kvs,rfl,rfl,hd,q⟩:=h
 cases rx
 cases rs
 obtain⟨z,lo,vs,rel,dd⟩:=cY I.hok hd
 refine call_meetsIn PySem.F.slot_dict_values dd.typeIs PySem.F.entry_dict_values (PySem.F.args_dict_values_1 _) (meets_dict_values (aN X.prog X.w) d lo) ⟨⟨_,dd⟩,?_⟩
 refine⟨.ref s.heap.objs.size,_,I.laid (a:=s.heap.objs.size) (o:=gX s.heap.objs.size d) (t':=s.toks) (fun b o e=>Heap.get?_push_of_some _ e) (Nat.le_refl _) ⟨⟨_,Heap.get?_push_size _ rfl,rfl,rfl⟩,⟨_,Heap.get?_push_size _ rfl⟩,fun h1 h2 p k=>?_⟩,rfl,q _ (I.hok.fresh (Nat.le_refl _))⟩
 obtain⟨o,e,c⟩:=p
 exact⟨o,k o e,c⟩
def oy:List V→Hp→VK→Prop:=fun xs H Q=>∃(v d:Addr) (kvs:List (Key × V)),xs=[.ref v]∧H v=some (gX v d)∧Rd H d (.dK kvs)∧∀l,H l=none→Q (.ref l) (upd H l (.lst (kvs.map (·.2))))
theorem iS (hc:X.calm=true):bM X (.type "list") oy:=by
 intro pins s σ H xs us Q I r h
 obtain⟨v,d,kvs,rfl,hv,hd,q⟩:=h
 obtain⟨u,rfl,ru⟩:=Vals.one r
 cases ru
 have iv:s.heap.IsValuesView v d:=(show aS X.prog X.w H s.heap v (gX v d) from I.hok v _ hv).1
 obtain⟨z,lo,vs,rel,dd⟩:=cY I.hok hd
 have hl:kvs.length=vs.length:=rel.length
 obtain⟨ep,da⟩:=dd.dictAt
 refine kdl_call (kdl_values (knd:=aN X.prog X.w) (r:=v) (d:=d) (kvs:=vs) (ep:=ep)) (I.ok.hd hc) ⟨iv,da⟩ (by omega) fun h' tk acc c kp e it=>?_
 have hp:s.heap.objs.size≤s.heap.objs.size:=Nat.le_refl _
 refine⟨.ref s.heap.objs.size,_,I.laid (t':=tk) (o:=.lst (kvs.map (·.2))) kp hp ⟨by rw[List.length_map];exact z,acc.toList,c,fk (by rw[List.length_map,hl];simp[it.1]) fun j y ej=>?_,by rw[e]⟩,rfl,q _ (I.hok.fresh hp)⟩
 obtain⟨k,hk⟩:=it.2 j y (by simpa using ej)
 have hj:j < kvs.length:=by have:=(List.getElem?_eq_some_iff.mp hk).1;omega
 refine⟨kvs[j].2,by simp[hj],?_⟩
 have at_:∀{l:List (Key × V)} {m:List (Key × Value)} {j:Nat} {p:Key × V} {q:Key × Value},KV l m→l[j]? = some p→m[j]? = some q→RelV p.2 q.2:=by
  intro l m j p q r
  induction r generalizing j with
  |nil=>intro e;simp at e
  |cons h1 h2 ih=>
   intro e1 e2
   cases j with
   |zero=>simp at e1 e2;subst e1 e2;exact h1.2
   |succ j=>exact ih (by simpa using e1) (by simpa using e2)
 exact at_ rel (by simp[hj]:kvs[j]? = some kvs[j]) hk
def sv:V→List V→Hp→VK→Prop:=fun x xs H Q=>∃(d:Addr) (kvs:List (Key × V)) (k:Key) (z:V),x=.ref d∧xs=[kV k,z]∧H d=some (.dK kvs)∧kvs.length < sizeLine ∧
 (∀v,valV kvs k=some v→Q v H)∧(valV kvs k=none→Q z (upd H d (.dK (putK kvs k z))))
theorem iY:MtM X "dict.setdefault" sv:=by
 intro pins s σ H x xs v us Q I rx rs h
 obtain⟨d,kvs,k,z,rfl,rfl,hd,hz,q1,q2⟩:=h
 cases rx
 obtain⟨u1,u2,rfl,r1,r2⟩:=rs.two
 obtain⟨z0,lo,vs,rel,dd⟩:=jo I.hok hd
 have hl:kvs.length=vs.length:=rel.length
 have rv:=rel.val k
 refine call_meetsIn PySem.F.slot_dict_setdefault dd.typeIs PySem.F.entry_dict_setdefault (PySem.F.args_dict_setdefault_3 _ _ _) (kt_meets_setdefault (aN X.prog X.w) d (fg r1) lo u2) ⟨vs,dd,by omega,fun v hv=>?_,fun hn h' dd' hs=>?_⟩
 ·rw[hv] at rv
  cases e:valV kvs k with
  |none=>rw[e] at rv;exact False.elim rv
  |some y=>
   rw[e] at rv
   exact⟨y,H,I.tok _,rv,q1 y e⟩
 ·rw[hn] at rv
  cases e:valV kvs k with
  |some y=>rw[e] at rv;exact False.elim rv
  |none=>
   have hl2:(putK kvs k z).length≤sizeLine:=by have:=cq kvs k z;omega
   have he:∃q,h'.get? d=some q:=let ⟨q,_,_,hq,_⟩:=dd';⟨q,hq⟩
   exact⟨z,_,eZ I (by rw[hd];exact True.intro) hs he (gF hl2 lo (rel.put k r2) dd'),r2,q2 e⟩
end
end L2
end
section
namespace L2
open PySem PySem.Spec PyProof.Rows PySem.W
section
variable {X:Cx}
def vK:List V→Hp→VK→Prop:=fun xs H Q=>∃(d:Addr) (kvs:List (Key × V)) (ns:List Int),xs=[.ref d]∧Rd H d (.dK kvs)∧kvs.map (fun p=>kV p.1)=ns.map V.int∧ns≠[]∧∀m,m∈ns→(∀n∈ns,m≤n)→Q (.int m) H
theorem uW (es:Array DictEntry) {i:Nat} (hi:i < es.size):(es.toList.map (·.key)).toArray[i]? = some es[i].key:=by simp[hi]
theorem fi (hc:X.calm=true):bM X (.builtin "min") vK:=by
 intro pins s σ H xs us Q I r h
 obtain⟨d,kvs,ns,rfl,hd,hk0,hne,q⟩:=h
 obtain⟨u,rfl,ru⟩:=Vals.one r
 cases ru
 obtain⟨lo,ks,vs,es,ep,dk,hz,dm,rk,rv⟩:=iI I hd (u:=.dK kvs) trivial
 have ek:ks=ns.map V.int:=by
  rcases dk with ⟨kvs',e,e1,_⟩|⟨_,_,e,_⟩
  ·cases e;rw[e1,hk0]
  ·cases e
 subst ek
 have hl:ns.length=es.size:=by have:=rk.length;simpa using this
 refine call_min_walk (q5 lo dm ?_)
 refine⟨s.heap.objs.size,_,_,_,_,_,_,rfl,q0 (A:=X.A.in1) (es:=es) (ep:=ep) (d:=d) (I.ok.hd hc) _ (Nat.ne_of_lt dm.lt),⟨⟨_,Heap.get?_push_size _ rfl,rfl,rfl⟩,dm.at fun o e=>Heap.get?_push_of_some _ e⟩,fun b hb=>?_,?_,CmpOf.ints_lt (fun i=>ns.getD i 0) (fun i v e=>?_),fun v h' tk hP hk=>?_⟩
 ·show b < (s.heap.push _).objs.size
  rw[Heap.size_push]
  rcases List.mem_cons.mp hb with rfl|hb
  ·exact Nat.lt_succ_self _
  ·rw[List.mem_singleton.mp hb];exact Nat.lt_succ_of_lt dm.lt
 ·rw[←hl];exact List.length_pos_iff.mpr hne
 ·obtain⟨hi,rfl⟩:=e
  exact qA rk i _ (by simp[hi])
 ·obtain⟨hi,rfl⟩:=hP
  obtain⟨t,et⟩:=qA rk _ _ (uW es hi)
  obtain⟨b1,b2⟩:=rB ns hne
  have e:es.size - 1=ns.length - 1:=by rw[hl]
  refine⟨.int _,H,I.kept (t':=tk) fun b o e=>hk b o (fun z=>by rw[List.mem_singleton.mp z] at e;exact absurd (Heap.lt_size e) (Nat.lt_irrefl _)) (Heap.get?_push_of_some _ e),⟨t,et⟩,?_⟩
  rw[e]
  exact q _ b1 b2
end
open PySem.SeqAt in
theorem ia (l:Addr) (items:Array Value) (n:Nat) (dd:Option Addr) (sl:Array (Option Value)) (x:Value) (e:Nat→Bool) (j:Nat) (hj:j < items.size) (hit:e j=true) (hno:∀m,m < j→e m=false) :
  Meets (Builtin.«tuple.index» ⟨[.ref l,x],[]⟩)
   (fun A R s=>s.heap.get? l=some {cls:=.type "tuple",dict:=dd,data:=.seq items n,slots:=sl}∧(∀m (h:m < items.size),EqAt A.in1 s items[m] x (e m))∧R (.ok (.ret (.int j s.toks))) {s with toks:=s.toks+1}):=
 .of_wp fun prog w A R s h=>by
  obtain⟨hp,g,d,tk,os⟩:=s;obtain⟨hl,he,h⟩:=h
  unfold Builtin.«tuple.index»
  simp only[Std.Legacy.Range.forIn_eq_forIn_range']
  wp_walk using PySem.AutoSeq1.wpAny_loadPart' hl,wpAny_forIn_list _ (fun rest b s'=>b.1=none∧s' = ⟨hp,g,d,tk,os⟩∧∃i,i≤j∧rest=List.range' i (items.size - i)) _
  case turn=>
   rintro y rest b s' ⟨hb,rfl,i,hij,hr⟩
   have e0:items.size - i=(items.size - (i+1))+1:=by omega
   rw[e0,List.range'_succ] at hr
   injection hr with h1 h2
   subst h1
   have hy:y < items.size:=by omega
   have hg:items[y]? = some items[y]:=by simp[hy]
   rw[hg]
   refine wpAny_bind (he y hy prog w _ _ ?_)
   by_cases z:y=j
   ·subst z
    rw[hit]
    wp_walk
    exact⟨_,rfl,h⟩
   ·rw[hno y (by omega)]
    wp_walk
    exact⟨rfl,rfl,y+1,by omega,h2⟩
  case fin=>
   rintro b s' ⟨_,_,i,hij,hr⟩
   have:=congrArg List.length hr
   simp at this
   omega
  case h=>
   exact⟨rfl,rfl,0,Nat.zero_le _,by simp[Std.Legacy.Range.size]⟩
section
variable {X:Cx}
def sJ (K:Frag):V→List V→Hp→VK→Prop:=fun x vs H Q=>∃(a:Addr) (xs:List V) (ds:List PyData) (y:V) (d:PyData) (j:Nat),x=.ref a∧vs=[y]∧SqT K H a xs∧Dts K H xs ds∧Dt K H y d∧d.depth≤60 ∧
 j < ds.length∧PyData.eqv (ds.getD j .none) d=true∧(∀m,m < j→PyData.eqv (ds.getD m .none) d=false)∧Q (.int (j:Int)) H
theorem oP (hu:X.A.units+64 < cLine):MtM X "tuple.index" (sJ X.K):=by
 intro pins s σ H x vs v us Q I rx rv h
 obtain⟨a,xs,ds,y,d,j,rfl,rfl,hq,hs,hd,hz,hj,e1,e2,q⟩:=h
 cases rx
 obtain⟨u,rfl,ru⟩:=rv.one
 obtain⟨its,rs,p,hsz⟩:=I.tuple hq
 obtain⟨as,ra⟩:=Dts.reads I ds xs its hs rs
 obtain⟨bs,rb⟩:=Dt.reads I d y u hd ru
 have hl:its.length=ds.length:=PySem.SeqAt.ReadsAll.length _ _ _ ra
 obtain⟨⟨cls,dd,data,sl⟩,eo,hc,n,hdt⟩:=id p
 simp only at hc hdt
 subst hc hdt
 refine PySem.call_meets PySem.F.slot_tuple_index ⟨_,eo,rfl⟩ PySem.F.entry_tuple_index (PySem.F.args_tuple_index_2 _ _) (ia a its.toArray n dd sl u (fun m=>PyData.eqv (ds.getD m .none) d) j (by simp;omega) e1 e2) ⟨eo,fun m hm=>?_,?_⟩
 ·have hm':m < ds.length:=by rw[List.size_toArray] at hm;omega
  obtain⟨dy,cs,ry,hcy,hle⟩:∃dy cs,PySem.Reads s.heap its.toArray[m] dy cs∧dy.canLay0=true∧dy=ds.getD m .none:=by
   have go:∀(ds:List PyData) (its:List Value) (as:List Addr) (m:Nat) (h:m < its.length),ReadsAll s.heap its ds as→PyData.canLayAll0 ds=true→∃cs,PySem.Reads s.heap its[m] (ds.getD m .none) cs∧(ds.getD m .none).canLay0=true:=by
    intro ds
    induction ds with
    |nil=>intro its as m h r _;cases r;simp at h
    |cons d ds ih=>
     intro its as m h r c
     have c':d.canLay0=true∧PyData.canLayAll0 ds=true:=by simpa [PyData.canLayAll0] using c
     cases r with
     |cons r1 r2=>
      cases m with
      |zero=>exact⟨_,r1,c'.1⟩
      |succ m=>exact ih _ _ m (by simpa using h) r2 c'.2
   obtain⟨cs,h1,h2⟩:=go ds its as m (by simpa using hm) ra (Dts.can ds _ hs)
   exact⟨_,cs,by simpa using h1,h2,rfl⟩
  rw[←hle]
  refine PySem.SeqAt.eqAt_reads dy d X.A.in1 s _ _ _ _ ry rb hcy (Dt.can d y hd) ?_
  show X.A.units+1+min _ _ < cLine
  exact min61 hu hz
 ·exact⟨.int (j:Int),H,I.tok _,⟨_,rfl⟩,q⟩
end
end L2
end
section
namespace L2
open PySem PySem.Spec PyProof.Rows PySem.W
section
variable {prog:Program} {w:World} {A:Around} {R:Result→Shared→Prop} {I:Addr} {fp wr:List Addr} {n:Nat} {P:Nat→Value→Prop} {St:Nat→Heap→Prop} {OK:Heap→Prop}
def rG (prog:Program) (w:World) (A:Around) (OK:Heap→Prop) (P:Nat→Value→Prop) (bt:Nat→Nat→Bool):Prop:=
 ∀i j vi vj (s:Shared) (Q:Value→Shared→Prop) (E:Value→Shared→Prop),OK s.heap→P i vi→P j vj→Q (.bool (bt i j)) s→wpAny (model prog w) A (richCompare .Lt vi vj) Q E s
theorem mL (W:Walks prog w A.in1 I fp wr n P St) (bt:Nat→Nat→Bool) (hcmp:rG prog w A.in1 OK P bt) (S:Addr) (hSf:S∉fp)
  (ok:∀h h':Heap,OK h→(∀b o,b∉wr→b≠S→h.get? b=some o→h'.get? b=some o)→OK h') :
  ∀(k j:Nat) (s:Shared) (vb:Value) (c:Nat),n - (j+1)=k→j+1≤n→OK s.heap→St (j+1) s.heap→P (argBest bt j) vb →
  s.heap.get? S=some {cls:=.type "list",dict:=none,data:=.seq #[vb,vb] c,slots:=#[]} →
  (∀v h' tk,P (argBest bt (n - 1)) v→(∀b o,b∉wr→b≠S→s.heap.get? b=some o→h'.get? b=some o)→R (.ok (.ret v)) {s with heap:=h',toks:=tk}) →
  codeAny (model prog w) A (.builtin "min.loop" ⟨[.ref I,.none,.ref S],[]⟩) R s:=by
 have nw:S∉wr:=fun h=>hSf (W.sub _ h)
 have nm:(toString "min"++toString ".loop" : String) = "min.loop":=by decide
 intro k
 induction k with
 |zero=>
  intro j s vb c hk hj h0 hst hPb hS hR
  have z:j+1=n:=by omega
  refine codeAny_builtin PySem.F.entry_min_loop ?_;rw[Around.under_plainId PySem.F.plain_min_loop _]
  refine (show wpAny _ A.in1 (seqItems? (.ref S) >>= _) _ _ s from wpAny_bind (wpAny_seqItems hS rfl ?_))
  refine (show wpAny _ A.in1 (tryCatch (pyNext (.ref I)) _ >>= _) _ _ s from wpAny_bind (wpAny_tryCatch (W.done s _ _ (z ▸ hst) fun h' tk k'=>?_)))
  refine (show wpAny _ A.in1 (updateSeq S (fun _=>#[]) >>= _) _ _ _ from wpAny_bind (wpAny_updateSeq (k' S _ nw hS) rfl (wpAny_bind (wpAny_letGo (wpAny_pure ?_)))))
  exact hR vb _ tk (by rw[←z];exact hPb) fun b o hbw hbS e=>(Heap.get?_update_other _ _ (Ne.symm hbS)).trans (k' b o hbw e)
 |succ k ih=>
  intro j s vb c hk hj h0 hst hPb hS hR
  have lt:j+1 < n:=by omega
  refine codeAny_builtin PySem.F.entry_min_loop ?_;rw[Around.under_plainId PySem.F.plain_min_loop _]
  refine (show wpAny _ A.in1 (seqItems? (.ref S) >>= _) _ _ s from wpAny_bind (wpAny_seqItems hS rfl ?_))
  refine (show wpAny _ A.in1 (tryCatch (pyNext (.ref I)) _ >>= _) _ _ s from wpAny_bind (wpAny_tryCatch (W.item (j+1) s _ _ lt hst fun v h' tk hP st' k'=>?_)))
  have S':=k' S _ nw hS
  have h1:OK h':=ok _ _ h0 fun b o hb _ e=>k' b o hb e
  refine (show wpAny _ A.in1 (tryCatch (holding [v,v] (richCompare .Lt v vb >>= _)) _ >>= _) _ _ _ from wpAny_bind (wpAny_tryCatch (wpAny_holding (wpAny_bind (hcmp (j+1) (argBest bt j) v vb _ _ _ h1 hP hPb ?_)))))
  refine wpAny_bind (wpAny_holding (wpAny_truthy_bool (wpAny_bind (wpAny_letGo (wpAny_pure ?_)))))
  cases hb:bt (j+1) (argBest bt j) with
  |true=>
   simp only[if_true]
   refine wpAny_bind (wpAny_updateSeq S' rfl (wpAny_bind (wpAny_letGo ?_)));rw[nm]
   have up:∀b o,b≠S→h'.get? b=some o→(h'.update S (Obj.mapSeq fun _=>#[v,v])).get? b=some o:=fun b o hbS e=>(Heap.get?_update_other _ _ (Ne.symm hbS)).trans e
   exact wpAny_pure ⟨plainId_quiet PySem.F.plain_min_loop _,ih (j+1) _ v _ (by omega) lt (ok _ _ h1 fun b o _ hbS e=>up b o hbS e) (W.frame _ _ _ st' fun b hbf o e=>up b o (fun h=>hSf (by rw[←h];exact hbf)) e) (by simp only[argBest,hb,if_true];exact hP) (Heap.get?_update_self _ S' rfl)
    fun v' h'' tk'' P' k''=>hR v' h'' tk'' P' fun b o hbw hbS e=>k'' b o hbw hbS (up b o hbS (k' b o hbw e))⟩
  |false=>
   simp only[Bool.false_eq_true,if_false]
   refine wpAny_bind (wpAny_letGo ?_);rw[nm]
   exact wpAny_pure ⟨plainId_quiet PySem.F.plain_min_loop _,ih (j+1) _ vb c (by omega) lt h1 st' (by simp only[argBest,hb,Bool.false_eq_true,if_false];exact hPb) S' fun v' h'' tk'' P' k''=>hR v' h'' tk'' P' fun b o hbw hbS e=>k'' b o hbw hbS (k' b o hbw e)⟩
theorem ln (W:Walks prog w A.in1 I fp wr n P St) (bt:Nat→Nat→Bool) (hcmp:rG prog w A.in1 OK P bt) (S:Addr) (hSf:S∉fp) (ok:∀h h':Heap,OK h→(∀b o,b∉wr→b≠S→h.get? b=some o→h'.get? b=some o)→OK h') (hn:0 < n) {s:Shared} {c:Nat} (h0:OK s.heap) (hst:St 0 s.heap)
  (hS:s.heap.get? S=some {cls:=.type "list",dict:=none,data:=.seq #[] c,slots:=#[]})
  (hR:∀v h' tk,P (argBest bt (n - 1)) v→(∀b o,b∉wr→b≠S→s.heap.get? b=some o→h'.get? b=some o)→R (.ok (.ret v)) {s with heap:=h',toks:=tk}) :
  codeAny (model prog w) A (.builtin "min.loop" ⟨[.ref I,.none,.ref S],[]⟩) R s:=by
 have nw:S∉wr:=fun h=>hSf (W.sub _ h)
 have nm:(toString "min"++toString ".loop" : String) = "min.loop":=by decide
 refine codeAny_builtin PySem.F.entry_min_loop ?_;rw[Around.under_plainId PySem.F.plain_min_loop _]
 refine (show wpAny _ A.in1 (seqItems? (.ref S) >>= _) _ _ s from wpAny_bind (wpAny_seqItems hS rfl ?_))
 refine (show wpAny _ A.in1 (tryCatch (pyNext (.ref I)) _ >>= _) _ _ s from wpAny_bind (wpAny_tryCatch (W.item 0 s _ _ hn hst fun v h' tk hP st' k'=>?_)))
 have S':=k' S _ nw hS
 have h1:OK h':=ok _ _ h0 fun b o hb _ e=>k' b o hb e
 refine (show wpAny _ A.in1 (updateSeq S (fun _=>#[v,v]) >>= _) _ _ _ from wpAny_bind (wpAny_updateSeq S' rfl ?_));rw[nm]
 have up:∀b o,b≠S→h'.get? b=some o→(h'.update S (Obj.mapSeq fun _=>#[v,v])).get? b=some o:=fun b o hbS e=>(Heap.get?_update_other _ _ (Ne.symm hbS)).trans e
 exact wpAny_pure ⟨plainId_quiet PySem.F.plain_min_loop _,mL W bt hcmp S hSf ok _ 0 _ v _ rfl hn (ok _ _ h1 fun b o _ hbS e=>up b o hbS e) (W.frame _ _ _ st' fun b hbf o e=>up b o (fun h=>hSf (by rw[←h];exact hbf)) e) hP (Heap.get?_update_self _ S' rfl)
  fun v' h'' tk'' P' k''=>hR v' h'' tk'' P' fun b o hbw hbS e=>k'' b o hbw hbS (up b o hbS (k' b o hbw e))⟩
end
section
variable {prog:Program} {w:World} {A:Around} {E:Value→Shared→Prop} {s:Shared}
theorem m8 {x:Value} {Q:Value→Shared→Prop} {OK:Heap→Prop}
  (h:wpAny (model prog w) A.in1 (pyIter x) (fun it s₂=>∃I fp wr n P St bt,it=.ref I∧Walks prog w A.in1 I fp wr n P St∧St 0 s₂.heap∧OK s₂.heap∧(∀S,s₂.heap.objs.size≤S→∀h h':Heap,OK h→(∀b o,b∉wr→b≠S→h.get? b=some o→h'.get? b=some o)→OK h')∧(∀b∈fp,b < s₂.heap.objs.size)∧0 < n∧rG prog w A.in1 OK P bt ∧
   ∀v h' tk,P (argBest bt (n - 1)) v→(∀b o,b∉wr→s₂.heap.get? b=some o→h'.get? b=some o)→Q v {s₂ with heap:=h',toks:=tk}) E s) :
  wpAny (model prog w) A (call (.builtin "min") [x]) Q E s:=by
 have nm:(toString "min"++toString ".loop" : String) = "min.loop":=by decide
 refine call_function_tree PySem.F.kind_min PySem.F.plain_min PySem.F.entry_min (PySem.F.args_min1 _) ?_
 refine (show wpAny _ A.in1 (Builtin.Builtins.bindParams "min" ["key","default"] 0 ⟨[],[]⟩ >>= _) _ _ s from wpAny_bind (wpAny_of_eq (show Builtin.Builtins.bindParams "min" ["key","default"] 0 ⟨[],[]⟩=pure [none,none] from rfl) (wpAny_bind (wpAny_pure ?_))))
 refine wpAny_bind (wpAny_mono h (fun it s2 h2=>?_) fun _ _ e=>e)
 obtain⟨I,fp,wr,n,P,St,bt,rfl,W,hst,h0,ok,hfp,hn,hcmp,hQ⟩:=h2
 have hSf:s2.heap.objs.size∉fp:=fun hm=>Nat.lt_irrefl _ (hfp _ hm)
 refine wpAny_bind (wpAny_newObj_type ?_);rw[nm]
 have pu:∀b o,s2.heap.get? b=some o→(s2.heap.push {cls:=.type "list",data:=.seq #[]}).get? b=some o:=fun b o e=>Heap.get?_push_of_some _ e
 refine wpAny_pure ⟨plainId_quiet PySem.F.plain_min_loop _,ln W bt hcmp s2.heap.objs.size hSf (ok _ (Nat.le_refl _)) hn (ok _ (Nat.le_refl _) _ _ h0 fun b o _ _ e=>pu b o e) (W.frame _ _ _ hst fun b _ o e=>pu b o e) (Heap.get?_push_size _ rfl) fun v h' tk hP hk=>?_⟩
 exact hQ v h' tk hP fun b o hbw e=>hk b o hbw (Nat.ne_of_lt (Heap.lt_size e)) (pu b o e)
end
end L2
end
section
namespace L2
open PySem PySem.Spec PyProof.Rows PySem.W
theorem jj:∀a:List Int,HT.lexLt a a=false
 | []=>rfl
 |x::r=>by
  unfold HT.lexLt
  simp[jj r]
theorem lD:∀a b c:List Int,HT.lexLt a b=true→HT.lexLt b c=true→HT.lexLt a c=true
 | [],[],_,h,_=>nomatch h
 | [],_::_,[],_,h=>nomatch h
 | [],_::_,_::_,_,_=>rfl
 |_::_,[],_,h,_=>nomatch h
 |_::_,_::_,[],_,h=>nomatch h
 |x::r,y::t,z::u,h1,h2=>by
  unfold HT.lexLt at h1 h2 ⊢
  have ih:=lD r t u
  by_cases e1:x=y <;> by_cases e2:y=z <;> by_cases e3:x=z <;> simp_all <;> omega
theorem n_ (bt:Nat→Nat→Bool) (irr:∀i,bt i i=false) (tr:∀i j k,bt i j=true→bt j k=true→bt i k=true):∀m,argBest bt m≤m∧∀j,j≤m→bt j (argBest bt m)=false
 |0=>⟨Nat.le_refl _,fun j hj=>by
  have:j=0:=by omega
  subst this
  exact irr 0⟩
 |m+1=>by
  obtain⟨h1,h2⟩:=n_ bt irr tr m
  cases hb:bt (m+1) (argBest bt m) with
  |true=>
   have e:argBest bt (m+1)=m+1:=by simp only[argBest,hb,if_true]
   rw[e]
   refine⟨Nat.le_refl _,fun j hj=>?_⟩
   by_cases z:j=m+1
   ·rw[z];exact irr _
   ·cases q:bt j (m+1) with
    |false=>rfl
    |true=>
     have:=tr _ _ _ q hb
     rw[h2 j (by omega)] at this
     cases this
  |false=>
   have e:argBest bt (m+1)=argBest bt m:=by simp only[argBest,hb,Bool.false_eq_true,if_false]
   rw[e]
   refine⟨by omega,fun j hj=>?_⟩
   by_cases z:j=m+1
   ·rw[z];exact hb
   ·exact h2 j (by omega)
section
variable {X:Cx}
def uB (K:Frag):List V→Hp→VK→Prop:=fun xs H Q=>∃(a:Addr) (ys:List V) (kz:List (List Int)),xs=[.ref a]∧SqL K H a ys∧Tups K H ys kz∧ys≠[] ∧
 ∀i y,ys[i]? = some y→(∀j,j < ys.length→HT.lexLt (kz.getD j []) (kz.getD i [])=false)→Q y H
theorem i5 (hc:X.calm=true) (hu:X.A.units+64 < cLine):bM X (.builtin "min") (uB X.K):=by
 intro pins s σ H xs us Q I r h
 obtain⟨a,ys,kz,rfl,hq,ht,hne,q⟩:=h
 obtain⟨u,rfl,ru⟩:=Vals.one r
 cases ru
 obtain⟨its,rv,p,hz⟩:=I.list hq
 have hl:=rv.length
 have hil:=p.isList
 have hlt:a < s.heap.objs.size:=by obtain⟨_,e,_⟩:=hil;exact Heap.lt_size e
 have get:∀(i:Nat) (v:Value),its[i]? = some v→∃(b:Addr) (js:List Value),v=.ref b∧b < s.heap.objs.size∧IsTup s.heap b js.toArray∧IntsAre js (kz.getD i []):=by
  intro i v e
  obtain⟨y,ey,ry⟩:=gY rv e
  have go:∀{ys:List V} {kz:List (List Int)} {i:Nat} {y:V},Tups X.K H ys kz→ys[i]? = some y→∃b,y=V.ref b∧SqT X.K H b ((kz.getD i []).map V.int):=by
   intro ys kz i y t
   induction t generalizing i with
   |nil=>intro e;simp at e
   |cons h1 h2 ih=>
    intro e
    cases i with
    |zero=>simp at e;subst e;obtain⟨b,e1,e2,_⟩:=h1;exact⟨b,e1,e2⟩
    |succ i=>exact ih (by simpa using e)
  obtain⟨b,rfl,hb⟩:=go ht ey
  cases ry
  obtain⟨js,r1,p1,_⟩:=I.tuple hb
  exact⟨b,js,rfl,p1.lt,p1,dh r1⟩
 refine m8 (OK:=fun h=>∀(i:Nat) (v:Value),its.toArray[i]? = some v→∃(b:Addr) (js:List Value),v=.ref b∧b < s.heap.objs.size∧IsTup h b js.toArray∧IntsAre js (kz.getD i [])) (wpAny_pyIter_list hil ?_)
 refine⟨s.heap.objs.size,_,_,_,_,_,(fun i j=>HT.lexLt (kz.getD i []) (kz.getD j [])),rfl,Walks.list (A:=X.A.in1) (I.ok.hd hc) _ a (Nat.ne_of_lt hlt) its.toArray,⟨⟨_,Heap.get?_push_size _ rfl,rfl,rfl⟩,hil.push _⟩,fun i v e=>?_,fun S hS h h' ok k i v e=>?_,fun b hb=>?_,?_,fun i j vi vj s' Q' E' ok hi hj hQ=>?_,fun v h' tk hP hk=>?_⟩
 ·obtain⟨b,js,e1,e2,⟨o,e3,e4⟩,e5⟩:=get i v (by simpa using e)
  exact⟨b,js,e1,e2,⟨o,Heap.get?_push_of_some _ e3,e4⟩,e5⟩
 ·obtain⟨b,js,e1,e2,⟨o,e3,e4⟩,e5⟩:=ok i v e
  have hS':s.heap.objs.size+1≤S:=by rw[←Heap.size_push];exact hS
  exact⟨b,js,e1,e2,⟨o,k b o (fun z=>by rw[List.mem_singleton.mp z] at e2;exact Nat.lt_irrefl _ e2) (fun z=>by rw[z] at e2;exact absurd (Nat.lt_trans e2 hS') (Nat.lt_irrefl _)) e3,e4⟩,e5⟩
 ·show b < (s.heap.push _).objs.size
  rw[Heap.size_push]
  rcases List.mem_cons.mp hb with rfl|hb
  ·exact Nat.lt_succ_self _
  ·rw[List.mem_singleton.mp hb];exact Nat.lt_succ_of_lt hlt
 ·rw[List.size_toArray,←hl];exact List.length_pos_iff.mpr hne
 ·obtain⟨b,js,rfl,_,p1,i1⟩:=ok i vi hi
  obtain⟨b',js',rfl,_,p2,i2⟩:=ok j vj hj
  exact HT.lt_tupInts (A:=X.A.in1) p1 p2 (by simpa using i1) (by simpa using i2) (by show X.A.units+1 < cLine;omega) hQ
 ·obtain⟨y,ey,ry⟩:=gY rv (by simpa using hP)
  have hb:=n_ (fun i j=>HT.lexLt (kz.getD i []) (kz.getD j [])) (fun i=>jj _) (fun i j k=>lD _ _ _) (its.toArray.size - 1)
  refine⟨y,H,I.kept (t':=tk) fun b o e=>hk b o (fun z=>by rw[List.mem_singleton.mp z] at e;exact absurd (Heap.lt_size e) (Nat.lt_irrefl _)) (Heap.get?_push_of_some _ e),ry,q _ y ey fun j hj=>hb.2 j ?_⟩
  rw[List.size_toArray];omega
end
end L2
end
section
namespace L2
open PySem PySem.Spec PyProof.Rows
section
variable {X:Cx}
def cutA {α:Type} (xs:List α) (lo hi:Option Int):List α:=(xs.drop (HT.sIx xs.length 0 lo)).take (HT.sIx xs.length xs.length hi - HT.sIx xs.length 0 lo)
end
end L2
end
section
namespace L2
open PySem PySem.Spec PyProof.Rows PySem.W
section
variable {prog:Program} {w:World} {A:Around} {E:Value→Shared→Prop} {s:Shared} {K:W.Frag} {x D:Addr} {ox:Obj}
end
section
variable {X:Cx}
theorem dW {c:String}:bM X (.builtin "isinstance") (fun xs H Q=>∃(x:V) (ty:Value) (b:Bool),xs=[x,.ty c]∧TyOf X.K H x ty∧W.kitOne X.K ty (.type c)=some b∧Q (.bl b) H):=by
 intro pins s σ H xs us Q I r h
 obtain⟨x,ty,b,rfl,hty,e,q⟩:=h
 obtain⟨u,w',rfl,ru,rw'⟩:=vals2 r
 cases (show w' = Value.type c from rw')
 exact oV I ru hty e fun tk=>⟨.bl b,H,I.tok _,rfl,q⟩
end
end L2
end
section
namespace K51
open PySem L2
structure TxtN (mg:Str→Option Value):Prop where
 len:mg "len" = none
 int:mg "int" = none
 str:mg "str" = none
 isi:mg "isinstance" = none
 range:mg "range" = none
 list:mg "list" = none
 tuple:mg "tuple" = none
 bool:mg "bool" = none
 all:mg "all" = none
 ve:mg "ValueError" = none
 rev:mg "reversed" = none
 enum:mg "enumerate" = none
theorem tK {α:Type} (l:List α) (a b:Nat):cutA l (some (a:Int)) (some (b:Int))=(l.drop a).take (b - a):=by
 unfold cutA
 rw[HT.sIx_nat,HT.sIx_nat]
 by_cases h:a≤l.length
 ·rw[Nat.min_eq_left h]
  by_cases hb:b≤l.length
  ·rw[Nat.min_eq_left hb]
  ·rw[Nat.min_eq_right (by omega),List.take_of_length_le (by rw[List.length_drop];omega),List.take_of_length_le (by rw[List.length_drop];omega)]
 ·rw[List.drop_of_length_le (show l.length≤a by omega),List.drop_of_length_le (show l.length≤min a l.length by omega)]
  simp
theorem q_ {α:Type} (l:List α) (a:Nat):cutA l (some (a:Int)) none=l.drop a:=by
 have h:=tK l a l.length
 rw[List.take_of_length_le (by rw[List.length_drop];omega)] at h
 rw[←h]
 unfold cutA
 rw[HT.sIx_none,HT.sIx_nat,HT.sIx_nat,Nat.min_self]
theorem line5000:5010≤sizeLine:=by rw[sizeLine_eq];decide
theorem ay {H:Hp} {t:Addr} {o:HO} (h:H t=none):Same H (upd H t o):=fun b u e=>by rw[au (ag e h)];exact e
theorem fH {X:Cx} {N:List Str} {scope:Scope} (nd:N.Nodup) (kind:scope.kind=.function) (nc:scope.names.all (fun y=>y.2 != .cell&&y.2 != .free)=true)
  (nm:scope.names.all (fun y=>y.2 != .local||scope.names.lookup y.1==some .local)=true):bh X N (N.map fun _=>none) scope:=by
 have h1:∀y∈scope.names,y.2≠.cell∧y.2≠.free:=fun y hy=>by
  have:=List.all_eq_true.mp nc y hy
  simpa using this
 refine⟨nd,by simp,kind,fun y hy=>(h1 y hy).1,fun y hy e=>?_,fun y hy e=>absurd e (h1 y hy).2,fun j i x e _=>?_⟩
 ·have:=List.all_eq_true.mp nm y hy
  rw[e] at this
  simpa using this
 ·rw[List.getElem?_map] at e
  cases q:N[j]? with
  |none=>rw[q] at e;cases e
  |some z=>rw[q] at e;cases e
theorem decI (a b:Int):decide (V.int a=V.int b)=decide (a=b):=by
 rw[Bool.eq_iff_iff];simp
end K51
end
section
namespace K31
open K51
abbrev Side:=Nat × Nat
abbrev Lps:=List (List Nat)
end K31
end
section
namespace L2
open PySem PySem.Spec PyProof.Rows
section
variable {X:Cx}
end
theorem iG {K:W.Frag} {a:Addr} {xs:List V} {g:TG} {tb:TS} {D:Ends} {σ:St} {H:Hp} (Pv:Nat→St→Hp→Prop) (h0:Pv 0 σ H) (hl:∀i σ H,i≤xs.length→Pv i σ H→SqL K H a xs)
  (hs:∀i x p σ H,xs[i]? = some x→Pv i σ H→H p=none→g (.ref p) σ (upd H p (.tup [.int (i:Int),x])) fun σ2 H2=>tb {D with nx:=Pv (i+1),ct:=Pv (i+1),bk:=D.nx} σ2 H2) (hd:∀σ H,Pv xs.length σ H→D.nx σ H) :
  ∃W:Nat→Nat→St→Hp→Prop,(∃m,W 0 m σ H)∧∀i m σ H,W i m σ H →
   ((Ite K a).stop i H∧D.nx σ H)∨((Ite K a).go i H∧∃N:St→Hp→Prop,(∀σ' H',N σ' H'→∃m',m' < m∧W (i+1) m' σ' H')∧∀x H',(Ite K a).yld i H x H'→g x σ H' fun σ2 H2=>tb {D with nx:=N,ct:=N,bk:=D.nx} σ2 H2):=by
 refine⟨fun i m σ H=>m=xs.length - i∧i≤xs.length∧Pv i σ H,⟨xs.length,by simp,Nat.zero_le _,h0⟩,?_⟩
 rintro i m σ H ⟨rfl,hi,p⟩
 have q:=hl i σ H hi p
 by_cases hlt:i < xs.length
 ·refine .inr ⟨⟨xs,xs[i],q,List.getElem?_eq_getElem hlt⟩,Pv (i+1),fun σ' H' p'=>⟨xs.length - (i+1),by omega,rfl,hlt,p'⟩,fun x H' y=>?_⟩
  obtain⟨b,v,hb,rfl,rfl,y⟩:=y
  exact hs i v b σ H (y xs q) p hb
 ·have e:i=xs.length:=by omega
  subst e
  exact .inl ⟨⟨xs,q,Nat.le_refl _⟩,hd σ H p⟩
end L2
end
section
namespace K15
abbrev Tri:=Nat × Nat × Nat
abbrev Ent:=(Nat × Nat) × Nat
def ents (ts:List Tri):List Ent:=ts.flatMap fun t=>[((t.1,t.2.1),t.2.2),((t.2.1,t.2.2),t.1),((t.2.2,t.1),t.2.1)]
theorem bm {ts:List Tri} {a b c:Nat}:((a,b),c)∈ents ts↔(a,b,c)∈ts∨(c,a,b)∈ts∨(b,c,a)∈ts:=by
 unfold ents
 rw[List.mem_flatMap]
 constructor
 ·rintro⟨⟨x,y,z⟩,ht,h⟩
  simp only[List.mem_cons,List.not_mem_nil,or_false,Prod.mk.injEq] at h
  rcases h with ⟨⟨rfl,rfl⟩,rfl⟩|⟨⟨rfl,rfl⟩,rfl⟩|⟨⟨rfl,rfl⟩,rfl⟩
  ·exact .inl ht
  ·exact .inr (.inl ht)
  ·exact .inr (.inr ht)
 ·rintro (h|h|h)
  ·exact⟨_,h,by simp⟩
  ·exact⟨_,h,by simp⟩
  ·exact⟨_,h,by simp⟩
structure Sk (E:Nat→Nat→Nat→Prop):Prop where
 rot:∀{a b c},E a b c→E b c a
 one:∀{a b c d},E a b c→E a b d→c=d
 ne:∀{a b c},E a b c→a≠b
def En (ts:List Tri) (a b c:Nat):Prop:=((a,b),c)∈ents ts
structure Good (ts:List Tri):Prop where
 ne:∀t∈ts,t.1≠t.2.1∧t.2.1≠t.2.2∧t.2.2≠t.1
 nd:((ents ts).map (·.1)).Nodup
theorem jh {α β:Type} {l:List (α × β)} (h:(l.map (·.1)).Nodup) {a:α} {b c:β} (hb:(a,b)∈l) (hc:(a,c)∈l):b=c:=by
 induction l with
 |nil=>cases hb
 |cons x l ih=>
  rw[List.map_cons,List.nodup_cons] at h
  rcases List.mem_cons.mp hb with e|hb'
  ·rcases List.mem_cons.mp hc with e' | hc'
   ·rw[←e] at e';exact (Prod.mk.inj e').2.symm
   ·exact (h.1 (List.mem_map.mpr ⟨_,hc',by rw[←e]⟩)).elim
  ·rcases List.mem_cons.mp hc with e' | hc'
   ·exact (h.1 (List.mem_map.mpr ⟨_,hb',by rw[←e']⟩)).elim
   ·exact ih h.2 hb' hc'
theorem cn {l:List Nat} (h:l.Nodup):∀{i j x:Nat},l[i]? = some x→l[j]? = some x→i=j:=by
 induction l with
 |nil=>intro i j x h1;simp at h1
 |cons a l ih=>
  intro i j x h1 h2
  rw[List.nodup_cons] at h
  cases i with
  |zero=>
   cases j with
   |zero=>rfl
   |succ j=>
    simp at h1 h2
    subst h1
    exact (h.1 (List.mem_of_getElem? h2)).elim
  |succ i=>
   cases j with
   |zero=>
    simp at h1 h2
    subst h2
    exact (h.1 (List.mem_of_getElem? h1)).elim
   |succ j=>
    simp at h1 h2
    rw[ih h.2 h1 h2]
theorem Good.sk {ts:List Tri} (g:Good ts):Sk (En ts):=by
 refine⟨fun {a b c} h=>?_,fun {a b c d} h1 h2=>jh g.nd h1 h2,fun {a b c} h=>?_⟩
 ·unfold En at *
  rw[bm] at *
  rcases h with h|h|h
  ·exact .inr (.inl h)
  ·exact .inr (.inr h)
  ·exact .inl h
 ·unfold En at h
  rw[bm] at h
  rcases h with h|h|h
  ·exact (g.ne _ h).1
  ·exact (g.ne _ h).2.1
  ·exact (g.ne _ h).2.2
section
variable {E:Nat→Nat→Nat→Prop}
theorem Sk.inj (k:Sk E) {v p p' q:Nat} (h:E v p q) (h':E v p' q):p=p':=k.one (k.rot (k.rot h)) (k.rot (k.rot h'))
structure Fan (E:Nat→Nat→Nat→Prop) (v:Nat) (F:List Nat):Prop where
 ne:F≠[]
 nd:F.Nodup
 ch:∀i p q,F[i]? = some p→F[i+1]? = some q→E v p q
 key:∀p∈F,∃q,E v p q
 clF:∀p∈F,∀q,E v p q→(∃r,E v q r)→q∈F
 clB:∀p∈F,∀o,E v o p→o∈F
def One (E:Nat→Nat→Nat→Prop) (v:Nat):Prop:=∃F,Fan E v F∧∀p,(∃q,E v p q)→p∈F
theorem qD (k:Sk E) {v:Nat} {L:List Nat} {at_:Nat} (hne:L≠[]) (nd:L.Nodup) (hkey:∀p∈L,∃q,E v p q) (ch:∀i p q,L[i]? = some p→L[i+1]? = some q→E v p q)
  (hlast:∀p,L.getLast? = some p→E v p at_) (hstop:(∃q,E v at_ q)→at_∈L) {s:Nat} (hs:L.head? = some s) (hfirst:(∀o,¬E v o s)∨∀p,(∃q,E v p q)→∃o,E v o p) :
  (∀p,(∃q,E v p q)→p∈L)↔One E v:=by
 constructor
 ·intro hall
  exact⟨L,⟨hne,nd,ch,hkey,fun p _ q _ hq=>hall q hq,fun p _ o ho=>hall o ⟨p,ho⟩⟩,hall⟩
 ·rintro⟨F,hF,hall⟩
  have hsL:s∈L:=by cases L with|nil=>cases hs|cons a l=>cases hs;simp
  have clo:∀x∈L,∀y,E v x y→(∃r,E v y r)→y∈L:=by
   intro x hx y hy hr
   obtain⟨i,hi⟩:=List.getElem?_of_mem hx
   have hil:=(List.getElem?_eq_some_iff.mp hi).1
   by_cases h:i+1 < L.length
   ·have h1:L[i+1]? = some L[i+1]:=List.getElem?_eq_getElem h
    have:=k.one hy (ch i _ _ hi h1)
    rw[this];exact List.mem_of_getElem? h1
   ·have e:L.getLast? = some x:=by rw[List.getLast?_eq_getElem?,show L.length - 1=i by omega];exact hi
    have:=k.one hy (hlast x e)
    rw[this] at hr ⊢
    exact hstop hr
  have hsF:s∈F:=hall s (hkey s hsL)
  obtain⟨j,hj⟩:=List.getElem?_of_mem hsF
  have fw:∀i0:Nat,(∀y,F[i0]? = some y→y∈L)→∀(m:Nat) (y:Nat),F[i0+m]? = some y→y∈L:=by
   intro i0 h0 m
   induction m with
   |zero=>intro y hy;exact h0 y hy
   |succ m ih=>
    intro y hy
    have hl:i0+m < F.length:=by have:=(List.getElem?_eq_some_iff.mp hy).1;omega
    have h1:F[i0+m]? = some F[i0+m]:=List.getElem?_eq_getElem hl
    exact clo _ (ih _ h1) y (hF.ch _ _ _ h1 hy) (hF.key y (List.mem_of_getElem? hy))
  have fromj:=fw j (fun y hy=>by rw[hj] at hy;cases hy;exact hsL)
  have zero:∀y,F[0]? = some y→y∈L:=by
   intro y hy
   by_cases hj0:j=0
   ·subst hj0;rw[hj] at hy;cases hy;exact hsL
   ·have hjl:=(List.getElem?_eq_some_iff.mp hj).1
    have h1:F[j - 1]? = some F[j - 1]:=List.getElem?_eq_getElem (by omega)
    have hin:=hF.ch (j - 1) _ _ h1 (by rw[show j - 1+1=j by omega];exact hj)
    rcases hfirst with h|h
    ·exact (h _ hin).elim
    ·obtain⟨o,ho⟩:=h y (hF.key y (List.mem_of_getElem? hy))
     have hoF:=hF.clB y (List.mem_of_getElem? hy) o ho
     obtain⟨i,hi⟩:=List.getElem?_of_mem hoF
     have hil:=(List.getElem?_eq_some_iff.mp hi).1
     by_cases hlt:i+1 < F.length
     ·have h2:F[i+1]? = some F[i+1]:=List.getElem?_eq_getElem hlt
      have e:=k.one (hF.ch i _ _ hi h2) ho
      rw[e] at h2
      have:=cn hF.nd h2 hy
      omega
     ·have:o∈L:=fromj (i - j) o (by rw[show j+(i - j)=i by omega];exact hi)
      exact clo o this y ho (hF.key y (List.mem_of_getElem? hy))
  intro p hp
  obtain⟨i,hi⟩:=List.getElem?_of_mem (hall p hp)
  exact fw 0 zero i p (by rw[Nat.zero_add];exact hi)
theorem rh {v:Nat} {F G:List Nat} (ch:∀i p q,F[i]? = some p→F[i+1]? = some q→E v p q) (key:∀p∈F,∃q,E v p q) (hG:Fan E v G) {x:Nat} (x1:x∈F) (x2:x∈G):∀y∈F,y∈G:=by
 obtain⟨j,hj⟩:=List.getElem?_of_mem x1
 have fw:∀(m:Nat) (y:Nat),F[j+m]? = some y→y∈G:=by
  intro m
  induction m with
  |zero=>intro y hy;rw[Nat.add_zero,hj] at hy;cases hy;exact x2
  |succ m ih=>
   intro y hy
   have hl:j+m < F.length:=by have:=(List.getElem?_eq_some_iff.mp hy).1;omega
   have h1:F[j+m]? = some F[j+m]:=List.getElem?_eq_getElem hl
   exact hG.clF _ (ih _ h1) y (ch (j+m) _ _ h1 hy) (key y (List.mem_of_getElem? hy))
 have bw:∀m:Nat,m≤j→∀y:Nat,F[j - m]? = some y→y∈G:=by
  intro m
  induction m with
  |zero=>intro _ y hy;rw[Nat.sub_zero,hj] at hy;cases hy;exact x2
  |succ m ih=>
   intro hm y hy
   have hl:j - m < F.length:=by have:=(List.getElem?_eq_some_iff.mp hj).1;omega
   have h1:F[j - m]? = some F[j - m]:=List.getElem?_eq_getElem hl
   have e:j - (m+1)+1=j - m:=by omega
   exact hG.clB _ (ih (by omega) _ h1) y (ch (j - (m+1)) _ _ hy (by rw[e];exact h1))
 intro y hy
 obtain⟨i,hi⟩:=List.getElem?_of_mem hy
 by_cases h:j≤i
 ·exact fw (i - j) y (by rw[show j+(i - j)=i by omega];exact hi)
 ·exact bw (j - i) (by omega) y (by rw[show j - (j - i)=i by omega];exact hi)
theorem qJ (k:Sk E) {v:Nat} {fs:List (List Nat)} {left F:List Nat} {x0:Nat} (hfs:∀G∈fs,Fan E v G) (hleft:∀p,(∃q,E v p q)→p∈left∨∃G∈fs,p∈G) (hdis:∀p∈left,∀G∈fs,p∉G)
  (nd:F.Nodup) (key:∀p∈F,∃q,E v p q) (ch:∀i p q,F[i]? = some p→F[i+1]? = some q→E v p q) (x1:x0∈F) (x2:x0∈left)
  (hend:∀p,F.getLast? = some p→∀q,E v p q→q∈left→q∈F) (hbeg:∀p,F.head? = some p→∀o,E v o p→o∈F):Fan E v F∧∀p∈F,∀G∈fs,p∉G:=by
 have dis:∀p∈F,∀G∈fs,p∉G:=fun p hp G hG hpG=>hdis x0 x2 G hG (rh ch key (hfs G hG) hp hpG x0 x1)
 refine⟨⟨fun z=>(by rw[z] at x1;cases x1),nd,ch,key,fun p hp q hq hr=>?_,fun p hp o ho=>?_⟩,dis⟩
 ·obtain⟨i,hi⟩:=List.getElem?_of_mem hp
  have hil:=(List.getElem?_eq_some_iff.mp hi).1
  by_cases h:i+1 < F.length
  ·have h1:F[i+1]? = some F[i+1]:=List.getElem?_eq_getElem h
   rw[k.one hq (ch i _ _ hi h1)];exact List.mem_of_getElem? h1
  ·have e:F.getLast? = some p:=by rw[List.getLast?_eq_getElem?,show F.length - 1=i by omega];exact hi
   rcases hleft q hr with z|⟨G,hG,hqG⟩
   ·exact hend p e q hq z
   ·exact (dis p hp G hG ((hfs G hG).clB q hqG p hq)).elim
 ·obtain⟨i,hi⟩:=List.getElem?_of_mem hp
  cases i with
  |zero=>exact hbeg p (by rw[List.head?_eq_getElem?];exact hi) o ho
  |succ i=>
   have hil:=(List.getElem?_eq_some_iff.mp hi).1
   have h1:F[i]? = some F[i]:=List.getElem?_eq_getElem (by omega)
   rw[k.inj ho (ch i _ _ h1 hi)];exact List.mem_of_getElem? h1
structure Fans (E:Nat→Nat→Nat→Prop) (v:Nat) (fs:List (List Nat)):Prop where
 fan:∀F∈fs,Fan E v F
 all:∀p,(∃q,E v p q)→∃F∈fs,p∈F
 dis:fs.Pairwise fun F G=>∀p∈F,p∉G
def rn (v n:Nat) (F:List Nat) (a b:Nat):Nat:=if a=v∧b∈F then n else a
def ren (v n:Nat) (F:List Nat) (t:Tri):Tri:=(rn v n F t.1 t.2.1,rn v n F t.2.1 t.2.2,rn v n F t.2.2 t.1)
def Rn (E:Nat→Nat→Nat→Prop) (v n:Nat) (F:List Nat) (x y z:Nat):Prop:=∃a b c,E a b c∧x=rn v n F a b∧y=rn v n F b c∧z=rn v n F c a
theorem u7 {ts:List Tri} {v n:Nat} {F:List Nat} {x y z:Nat}:En (ts.map (ren v n F)) x y z↔Rn (En ts) v n F x y z:=by
 unfold En Rn
 rw[bm]
 constructor
 ·intro h
  have key:∀p q r,(p,q,r)∈ts.map (ren v n F)→∃a b c,(a,b,c)∈ts∧p=rn v n F a b∧q=rn v n F b c∧r=rn v n F c a:=by
   intro p q r hp
   obtain⟨⟨a,b,c⟩,ht,e⟩:=List.mem_map.mp hp
   unfold ren at e
   simp only[Prod.mk.injEq] at e
   exact⟨a,b,c,ht,e.1.symm,e.2.1.symm,e.2.2.symm⟩
  rcases h with h|h|h
  ·obtain⟨a,b,c,ht,e1,e2,e3⟩:=key _ _ _ h
   exact⟨a,b,c,bm.mpr (.inl ht),e1,e2,e3⟩
  ·obtain⟨a,b,c,ht,e1,e2,e3⟩:=key _ _ _ h
   exact⟨b,c,a,bm.mpr (.inr (.inl ht)),e2,e3,e1⟩
  ·obtain⟨a,b,c,ht,e1,e2,e3⟩:=key _ _ _ h
   exact⟨c,a,b,bm.mpr (.inr (.inr ht)),e3,e1,e2⟩
 ·rintro⟨a,b,c,h,rfl,rfl,rfl⟩
  rcases bm.mp h with h|h|h
  ·exact .inl (List.mem_map.mpr ⟨_,h,rfl⟩)
  ·exact .inr (.inl (List.mem_map.mpr ⟨_,h,rfl⟩))
  ·exact .inr (.inr (List.mem_map.mpr ⟨_,h,rfl⟩))
theorem bN {v n:Nat} {F:List Nat} {a b:Nat} (h:a≠v):rn v n F a b=a:=by unfold rn;rw[if_neg fun z=>h z.1]
theorem nE {v n:Nat} {F:List Nat} {b:Nat} (h:b∈F):rn v n F v b=n:=by unfold rn;rw[if_pos ⟨rfl,h⟩]
theorem mh {v n:Nat} {F:List Nat} {b:Nat} (h:b∉F):rn v n F v b=v:=by unfold rn;rw[if_neg fun z=>h z.2]
section
variable {v n:Nat} {F:List Nat}
theorem rn_n {a b:Nat} (ha:a≠n) (h:rn v n F a b=n):a=v∧b∈F:=by
 unfold rn at h
 split at h
 ·assumption
 ·exact (ha h).elim
theorem cz {a b:Nat} (h:rn v n F a b≠n):rn v n F a b=a:=by
 unfold rn at h ⊢
 split
 ·rename_i z;rw[if_pos z] at h;exact (h rfl).elim
 ·rfl
variable (k:Sk E) (fr:∀a b c,E a b c→a≠n) (hF:Fan E v F)
include k fr
theorem fP {p q:Nat}:Rn E v n F n p q↔E v p q∧p∈F:=by
 constructor
 ·rintro⟨a,b,c,h,e1,rfl,rfl⟩
  obtain⟨rfl,hb⟩:=rn_n (fr _ _ _ h) e1.symm
  rw[bN (Ne.symm (k.ne h)),bN (k.ne (k.rot (k.rot h)))]
  exact⟨h,hb⟩
 ·rintro⟨h,hp⟩
  exact⟨v,p,q,h,(nE hp).symm,(bN (Ne.symm (k.ne h))).symm,(bN (k.ne (k.rot (k.rot h)))).symm⟩
theorem eT (hv:v≠n) {p q:Nat}:Rn E v n F v p q↔E v p q∧p∉F:=by
 constructor
 ·rintro⟨a,b,c,h,e1,rfl,rfl⟩
  have:a=v:=by
   have e2:=cz (v:=v) (n:=n) (F:=F) (a:=a) (b:=b) (by rw[←e1];exact hv)
   rw[e1,e2]
  subst this
  have hb:b∉F:=fun z=>by rw[nE z] at e1;exact hv e1
  rw[bN (Ne.symm (k.ne h)),bN (k.ne (k.rot (k.rot h)))]
  exact⟨h,hb⟩
 ·rintro⟨h,hp⟩
  exact⟨v,p,q,h,(mh hp).symm,(bN (Ne.symm (k.ne h))).symm,(bN (k.ne (k.rot (k.rot h)))).symm⟩
theorem vH:Sk (Rn E v n F):=by
 refine⟨?_,?_,?_⟩
 ·rintro x y z ⟨a,b,c,h,e1,e2,e3⟩
  exact⟨b,c,a,k.rot h,e2,e3,e1⟩
 ·rintro x y z z' ⟨a,b,c,h,e1,e2,e3⟩ ⟨a',b',c',h',e1',e2',e3'⟩
  have fa:a≠n:=fr _ _ _ h
  have fa':a'≠n:=fr _ _ _ h'
  have fb:b≠n:=fr _ _ _ (k.rot h)
  have fb':b'≠n:=fr _ _ _ (k.rot h')
  have ea:a=a':=by
   by_cases hx:x=n
   ·rw[(rn_n fa (e1.symm.trans hx)).1,(rn_n fa' (e1'.symm.trans hx)).1]
   ·rw[←cz (v:=v) (n:=n) (F:=F) (a:=a) (b:=b) (by rw[←e1];exact hx),←cz (v:=v) (n:=n) (F:=F) (a:=a') (b:=b') (by rw[←e1'];exact hx),←e1,←e1']
  have eb:b=b':=by
   by_cases hy:y=n
   ·rw[(rn_n fb (e2.symm.trans hy)).1,(rn_n fb' (e2'.symm.trans hy)).1]
   ·rw[←cz (v:=v) (n:=n) (F:=F) (a:=b) (b:=c) (by rw[←e2];exact hy),←cz (v:=v) (n:=n) (F:=F) (a:=b') (b:=c') (by rw[←e2'];exact hy),←e2,←e2']
  subst ea eb
  rw[e3,e3',k.one h h']
 ·rintro x y z ⟨a,b,c,h,rfl,rfl,_⟩
  have fa:a≠n:=fr _ _ _ h
  have fb:b≠n:=fr _ _ _ (k.rot h)
  have nab:=k.ne h
  intro e
  by_cases hx:rn v n F a b=n
  ·have h1:=(rn_n fa hx).1
   have h2:=(rn_n fb (e.symm.trans hx)).1
   exact nab (h1.trans h2.symm)
  ·have h1:=cz hx
   have h2:=cz (v:=v) (n:=n) (F:=F) (a:=b) (b:=c) (by rw[←e];exact hx)
   exact nab (by rw[←h1,e,h2])
include hF
theorem p5:One (Rn E v n F) n:=by
 refine⟨F,⟨hF.ne,hF.nd,fun i p q hp hq=>(fP k fr).mpr ⟨hF.ch i p q hp hq,List.mem_of_getElem? hp⟩,fun p hp=>?_,fun p hp q hq hr=>?_,fun p hp o ho=>((fP k fr).mp ho).2⟩,fun p ⟨q,hq⟩=>((fP k fr).mp hq).2⟩
 ·obtain⟨q,hq⟩:=hF.key p hp
  exact⟨q,(fP k fr).mpr ⟨hq,hp⟩⟩
 ·obtain⟨r,hr⟩:=hr
  exact ((fP k fr).mp hr).2
omit hF in
theorem qI (hv:v≠n) {G:List Nat} (hG:Fan E v G) (hd:∀p∈F,p∉G):Fan (Rn E v n F) v G:=by
 have out:∀p∈G,p∉F:=fun p hp z=>hd p z hp
 refine⟨hG.ne,hG.nd,fun i p q hp hq=>(eT k fr hv).mpr ⟨hG.ch i p q hp hq,out p (List.mem_of_getElem? hp)⟩,fun p hp=>?_,fun p hp q hq hr=>?_,fun p hp o ho=>hG.clB p hp o ((eT k fr hv).mp ho).1⟩
 ·obtain⟨q,hq⟩:=hG.key p hp
  exact⟨q,(eT k fr hv).mpr ⟨hq,out p hp⟩⟩
 ·obtain⟨r,hr⟩:=hr
  exact hG.clF p hp q ((eT k fr hv).mp hq).1 ⟨r,((eT k fr hv).mp hr).1⟩
theorem oF (hv:v≠n) {u:Nat} (huv:u≠v) (hun:u≠n) (h:One E u):One (Rn E v n F) u:=by
 obtain⟨G,hG,hall⟩:=h
 let cond:Prop:=(∃q∈F,E u v q)∨((∃p,E u p v)∧u∈F)
 have dec:=Classical.propDecidable cond
 let ρ:Nat→Nat:=fun x=>if x=v then (if cond then n else v) else x
 have ρo:∀x,x≠v→ρ x=x:=fun x hx=>if_neg hx
 have ρv:ρ v=if cond then n else v:=if_pos rfl
 have rp:∀p q,E u p q→rn v n F p q=ρ p:=by
  intro p q h
  by_cases hp:p=v
  ·subst hp
   by_cases hq:q∈F
   ·rw[nE hq,ρv,if_pos (.inl ⟨q,hq,h⟩)]
   ·rw[mh hq,ρv,if_neg]
    rintro (⟨q',hq',h'⟩|⟨⟨p',hp'⟩,huF⟩)
    ·exact hq (by rw[k.one h h'];exact hq')
    ·exact hq (hF.clB u huF q (k.rot h))
  ·rw[bN hp,ρo p hp]
 have rq:∀p q,E u p q→rn v n F q u=ρ q:=by
  intro p q h
  by_cases hq:q=v
  ·subst hq
   by_cases hu:u∈F
   ·rw[nE hu,ρv,if_pos (.inr ⟨⟨p,h⟩,hu⟩)]
   ·rw[mh hu,ρv,if_neg]
    rintro (⟨q',hq',h'⟩|⟨_,huF⟩)
    ·exact hu (hF.clF q' hq' u (k.rot h') ⟨p,k.rot (k.rot h)⟩)
    ·exact hu huF
  ·rw[bN hq,ρo q hq]
 have ru:∀b,rn v n F u b=u:=fun b=>bN huv
 have to:∀p q,E u p q→Rn E v n F u (ρ p) (ρ q):=fun p q h=>⟨u,p,q,h,(ru p).symm,(rp p q h).symm,(rq p q h).symm⟩
 have back:∀x y,Rn E v n F u x y→∃p q,E u p q∧x=ρ p∧y=ρ q:=by
  rintro x y ⟨a,b,c,h,e1,e2,e3⟩
  have ha:a=u:=by
   by_cases hx:rn v n F a b=n
   ·exact (hun (e1.trans hx)).elim
   ·rw[e1,cz hx]
  subst ha
  exact⟨b,c,h,e2.trans (rp b c h),e3.trans (rq b c h)⟩
 have fresh:∀p q,E u p q→p≠n∧q≠n:=fun p q h=>⟨fr _ _ _ (k.rot h),fr _ _ _ (k.rot (k.rot h))⟩
 have inj:∀x y,x≠n→y≠n→ρ x=ρ y→x=y:=by
  intro x y hx hy e
  by_cases h1:x=v
  ·by_cases h2:y=v
   ·rw[h1,h2]
   ·rw[h1,ρo y h2,ρv] at e
    split at e
    ·exact (hy e.symm).elim
    ·exact (h2 e.symm).elim
  ·by_cases h2:y=v
   ·rw[h2,ρo x h1,ρv] at e
    split at e
    ·exact (hx e).elim
    ·exact (h1 e).elim
   ·rw[ρo x h1,ρo y h2] at e;exact e
 have gn:∀x∈G,x≠n:=fun x hx=>by
  obtain⟨q,hq⟩:=hG.key x hx
  exact (fresh x q hq).1
 have gm:∀x,x≠n→ρ x∈G.map ρ→x∈G:=fun x hx h=>by
  obtain⟨y,hy,e⟩:=List.mem_map.mp h
  rw[←inj y x (gn y hy) hx e];exact hy
 have get:∀(i:Nat) (x:Nat),(G.map ρ)[i]? = some x→∃p,G[i]? = some p∧x=ρ p:=fun i x h=>by
  rw[List.getElem?_map] at h
  cases e:G[i]? with
  |none=>rw[e] at h;cases h
  |some p=>rw[e] at h;cases h;exact⟨p,rfl,rfl⟩
 refine⟨G.map ρ,⟨by simpa using hG.ne,?_,fun i p q hp hq=>?_,fun p hp=>?_,fun x hx y hy hr=>?_,fun x hx y hy=>?_⟩,?_⟩
 ·have:∀l:List Nat,(∀x∈l,x≠n)→l.Nodup→(l.map ρ).Nodup:=by
   intro l
   induction l with
   |nil=>intro _ _;exact List.nodup_nil
   |cons a l ih=>
    intro h1 h2
    rw[List.nodup_cons] at h2
    rw[List.map_cons,List.nodup_cons]
    refine⟨fun z=>?_,ih (fun x hx=>h1 x (List.mem_cons_of_mem _ hx)) h2.2⟩
    obtain⟨y,hy,e⟩:=List.mem_map.mp z
    have:=inj y a (h1 y (List.mem_cons_of_mem _ hy)) (h1 a (by simp)) e
    exact h2.1 (this ▸ hy)
  exact this G gn hG.nd
 ·obtain⟨p',hp',rfl⟩:=get i p hp
  obtain⟨q',hq',rfl⟩:=get (i+1) q hq
  exact to p' q' (hG.ch i p' q' hp' hq')
 ·obtain⟨p',hp',rfl⟩:=List.mem_map.mp hp
  obtain⟨q,hq⟩:=hG.key p' hp'
  exact⟨_,to p' q hq⟩
 ·obtain⟨p',hp',rfl⟩:=List.mem_map.mp hx
  obtain⟨p,q,h1,e1,rfl⟩:=back _ _ hy
  have ep:=inj p' p (gn p' hp') (fresh p q h1).1 e1
  subst ep
  obtain⟨r,hr⟩:=hr
  obtain⟨p2,q2,h2,e2,_⟩:=back _ _ hr
  have eq:=inj q p2 (fresh p' q h1).2 (fresh p2 q2 h2).1 e2
  subst eq
  exact List.mem_map.mpr ⟨q,hG.clF p' hp' q h1 ⟨q2,h2⟩,rfl⟩
 ·obtain⟨p',hp',rfl⟩:=List.mem_map.mp hx
  obtain⟨p,q,h1,rfl,e1⟩:=back _ _ hy
  have eq:=inj p' q (gn p' hp') (fresh p q h1).2 e1
  subst eq
  exact List.mem_map.mpr ⟨p,hG.clB p' hp' p h1,rfl⟩
 ·rintro x ⟨y,hy⟩
  obtain⟨p,q,h1,rfl,_⟩:=back _ _ hy
  exact List.mem_map.mpr ⟨p,hall p ⟨q,h1⟩,rfl⟩
end
end
end K15
end
section
namespace K31
open PySem L2 K51
theorem ah {H H1:Hp} {p:Addr} {o:HO} (g:H p=none) (e:upd H p o=H1):Same H H1:=by rw[←e];exact ay g
theorem ai {H H1:Hp} {p:Addr} {o:HO} (e:upd H p o=H1):H1 p=some o:=by rw[←e];exact al
def nV (l:List Nat):List V:=l.map fun n:Nat=>V.int (n:Int)
def LpAt (H:Hp) (v:V) (l:List Nat):Prop:=∃a,v=.ref a∧H a=some (.lst (nV l))
abbrev gd (H:Hp):List V→Lps→Prop:=Paired (LpAt H)
def TrAt (H:Hp) (v:V) (t:Nat × Nat × Nat):Prop:=∃a,v=.ref a∧H a=some (.tup [.int (t.1:Int),.int (t.2.1:Int),.int (t.2.2:Int)])
abbrev aA (H:Hp):List V→List (Nat × Nat × Nat)→Prop:=Paired (TrAt H)
theorem LpAt.same {H H':Hp} {v:V} {l:List Nat} (s:Same H H') (h:LpAt H v l):LpAt H' v l:=by
 obtain⟨a,e,h⟩:=h
 exact⟨a,e,s a _ h⟩
theorem gd.same {H H':Hp} {vs:List V} {ls:Lps} (s:Same H H') (h:gd H vs ls):gd H' vs ls:=Paired.imp' (fun _ _ q=>q.same s) h
theorem TrAt.same {H H':Hp} {v:V} {t:Nat × Nat × Nat} (s:Same H H') (h:TrAt H v t):TrAt H' v t:=by
 obtain⟨a,e,h⟩:=h
 exact⟨a,e,s a _ h⟩
theorem aA.same {H H':Hp} {vs:List V} {ls:List (Nat × Nat × Nat)} (s:Same H H') (h:aA H vs ls):aA H' vs ls:=Paired.imp' (fun _ _ q=>q.same s) h
section
variable {α β:Type} {F:α→β→Prop}
theorem ax:∀{xs:List α} {ys:List β},Paired F xs ys→xs.length=ys.length
 |_,_,.nil=>rfl
 |_,_,.cons _ t=>by rw[List.length_cons,List.length_cons,ax t]
theorem bO:∀{xs:List α} {ys:List β} {xs':List α} {ys':List β},Paired F xs ys→Paired F xs' ys'→Paired F (xs++xs') (ys++ys')
 |_,_,_,_,.nil,h=>h
 |_,_,_,_,.cons a t,h=>.cons a (bO t h)
theorem nI:∀{xs:List α} {ys:List β} (k:Nat),Paired F xs ys→Paired F (xs.take k) (ys.take k)
 |_,_,0,_=>by simp only[List.take_zero];exact .nil
 |_,_,_+1,.nil=>by simp only[List.take_nil];exact .nil
 |_,_,k+1,.cons a t=>.cons a (nI k t)
theorem mt:∀{xs:List α} {ys:List β} {i:Nat} {y:β},Paired F xs ys→ys[i]? = some y→∃x,xs[i]? = some x∧F x y
 |_,_,_,_,.nil,h=>by simp at h
 |_,_,0,_,.cons a t,h=>by
  simp at h
  subst h
  exact⟨_,rfl,a⟩
 |_,_,i+1,_,.cons a t,h=>by simpa using mt (i:=i) t (by simpa using h)
theorem aU:∀{xs:List α} {ys:List β} {i:Nat} {x:α},Paired F xs ys→xs[i]? = some x→∃y,ys[i]? = some y∧F x y
 |_,_,_,_,.nil,h=>by simp at h
 |_,_,0,_,.cons a t,h=>by
  simp at h
  subst h
  exact⟨_,rfl,a⟩
 |_,_,i+1,_,.cons a t,h=>by simpa using aU (i:=i) t (by simpa using h)
end
theorem aG (l:List Nat):(nV l).length=l.length:=List.length_map ..
theorem cX (l r:List Nat):nV l++nV r=nV (l++r):=(List.map_append ..).symm
theorem iy (n:Nat):[V.int (n:Int)]=nV [n]:=rfl
theorem mJ {l:List Nat} {i n:Nat} (h:l[i]? = some n):(nV l)[i]? = some (.int (n:Int)):=by
 unfold nV
 rw[List.getElem?_map,h];rfl
theorem aH {H H1:Hp} {p:Addr} {o:HO} (e:upd H p o=H1):∀b,b≠p→H1 b=H b:=fun b hb=>by rw[←e,au hb]
def ky (p q:Nat):List Key:=[Sum.inl (p:Int),Sum.inl (q:Int)]
theorem j9 {p q p' q':Nat}:ky p q=ky p' q'↔(p,q)=(p',q'):=by
 unfold ky
 constructor
 ·intro h
  injection h with h1 h2
  injection h2 with h2 _
  injection h1 with h1
  injection h2 with h2
  have:p=p':=by omega
  have:q=q':=by omega
  simp[*]
 ·intro h
  injection h with h1 h2
  rw[h1,h2]
def SdAt (H:Hp) (v:V) (s:Side):Prop:=∃a,v=.ref a∧H a=some (.tup ((ky s.1 s.2).map kV))
abbrev SdsAt (H:Hp):List V→List Side→Prop:=Paired (SdAt H)
theorem lit1:1≤sizeLine:=by show 1≤sizeLine;decide
theorem lit2:2≤sizeLine:=by show 2≤sizeLine;decide
theorem lit3:3≤sizeLine:=by show 3≤sizeLine;decide
theorem aJ {X:Cx} {N:List Str} {fr:List (Option Nat)} {scope:Scope} (nd:N.Nodup) (len:fr.length=N.length) (kind:scope.kind=.function) (nc:scope.names.all (fun y=>y.2 != .cell)=true)
  (nm:scope.names.all (fun y=>y.2 != .local||scope.names.lookup y.1==some .local)=true)
  (frc:∀y∈scope.names,y.2=.free→X.env.kindOf y.1=some .cell∨X.env.kindOf y.1=some .free)
  (frn:∀(j i:Nat) (x:Str),fr[j]? = some (some i)→N[j]? = some x→X.N[i]? = some x∧scope.names.lookup x=some .free):bh X N fr scope:=by
 refine⟨nd,len,kind,fun y hy=>?_,fun y hy e=>?_,frc,frn⟩
 ·have:=List.all_eq_true.mp nc y hy
  simpa using this
 ·have:=List.all_eq_true.mp nm y hy
  rw[e] at this
  simpa using this
end K31
end
section
namespace K51
open PySem L2
def mixed (ns:List Int) (k:Int):Int:=(ns.take 40).foldl (fun s c=>(s * 48271+c) % 2147483647) (7+1009 * k)
def gG (ns:List Int) (k:Int):Int:=if k < (ns.length:Int) then ns.getD k.toNat 0 else 0
def pT (ns:List Int) (k:Int):Int × Int:=(if gG ns k < 1000000000000000000 then 0 else gG ns k,mixed ns k)
def refill (p:Int × Int):Int × Int:=if p.1=0 then (((p.2 * 16807+11) % 2147483647) * ((p.2 * 16807+11) % 2147483647) % 2147483629,(p.2 * 16807+11) % 2147483647) else p
def digO (p:Int × Int) (b:Int):Int:=(refill p).1 % b
def nxt (p:Int × Int) (b:Int):Int × Int:=((refill p).1 / b,(refill p).2)
def potV (p:Int × Int):List V:=[.int p.1,.int p.2]
def br (p:Int × Int):Prop:=-(2 ^ 60) < p.2∧p.2 < 2 ^ 60
theorem ow {p:Int × Int} (h:br p):br (refill p):=by
 unfold refill
 split
 ·have:=Int.emod_lt_of_pos (p.2 * 16807+11) (show (0:Int) < 2147483647 by decide)
  have:=Int.emod_nonneg (p.2 * 16807+11) (show (2147483647:Int)≠0 by decide)
  unfold br
  constructor <;> (show _ < _;omega)
 ·exact h
theorem ba {p:Int × Int} {b:Int} (h:br p):br (nxt p b):=ow h
theorem lg (ns:List Int) {k:Int} (h0:0≤k) (h1:k < 1000):-(2 ^ 60) < mixed ns k∧mixed ns k < 2 ^ 60:=by
 unfold mixed
 have:∀(l:List Int) (s:Int),(-(2 ^ 60) < s∧s < 2 ^ 60)→(-(2 ^ 60) < l.foldl (fun s c=>(s * 48271+c) % 2147483647) s∧l.foldl (fun s c=>(s * 48271+c) % 2147483647) s < 2 ^ 60):=by
  intro l
  induction l with
  |nil=>intro s h;exact h
  |cons c r ih=>
   intro s h
   rw[List.foldl_cons]
   refine ih _ ?_
   have:=Int.emod_lt_of_pos (s * 48271+c) (show (0:Int) < 2147483647 by decide)
   have:=Int.emod_nonneg (s * 48271+c) (show (2147483647:Int)≠0 by decide)
   constructor <;> omega
 exact this _ _ (by constructor <;> omega)
theorem dQ {X:Cx}:OpR X (binaryOp .FloorDiv) (rI (fun _ j=>0 < j∧j.natAbs.log2 < 9000) fun i j=>.int (i / j)):=opI fun i j _ _ _ _ _ hc q=>by
 have e:i.fdiv j=i / j:=by rw[Int.fdiv_eq_ediv_of_nonneg _ (Int.le_of_lt hc.1)]
 rw[←e] at q
 exact PyProof.Rows.floordiv_int (by omega) q (.inl (PyProof.noPylong_of_log2 hc.2))
def spAt (K:W.Frag):Sp:=fun vs H Q _=>∃(a:Addr) (ns:List Int) (k:Int),vs=[.ref a,.int k]∧SqL K H a (ns.map V.int)∧0≤k∧Q (.int (gG ns k)) H
def pF (K:W.Frag):Sp:=fun vs H Q _=>∃(a:Addr) (ns:List Int) (k:Int),vs=[.ref a,.int k]∧SqL K H a (ns.map V.int)∧0≤k∧k < 1000 ∧
 ∀(p:Addr) (H':Hp),H p=none→Same H H'→H' p=some (.lst (potV (pT ns k)))→Q (.ref p) H'
def cZ:Sp:=fun vs H Q _=>∃(p:Addr) (q:Int × Int) (b:Int),vs=[.ref p,.int b]∧H p=some (.lst (potV q))∧br q∧0 < b∧b.natAbs.log2 < 9000∧Q (.int (digO q b)) (upd H p (.lst (potV (nxt q b))))
section
variable {P:Program} {w:World} {K:W.Frag} {mg:Str→Option Value} {base:Heap}
theorem scAt:aC ["_law_script","_law_k"] ["_law_script","_law_k"] (af sAt):=⟨rfl,rfl,rfl,by decide +kernel,rfl,by decide +kernel,by decide +kernel⟩
theorem vO {f:Addr} {fd:FuncData} (U:Fun K "_law_at" "_law_at" sAt f fd) (T:TxtN mg):FnOk P w K mg base CX0 1 f fd ["_law_script","_law_k"] (spAt K):=by
 refine U.ok scAt (fun vs H Q E h=>?_) (fun cdv A outer s H vs Q E hr h=>?_)
 ·obtain⟨a,ns,k,rfl,_⟩:=h
  rfl
 ·obtain⟨a,ns,k,rfl,hS,h0,q⟩:=h
  refine⟨_,ae (cm (aF nN (pv 1) (aB bc (by rfl) T.len PySem.boot_len (aa (pv 0) ac)) (nomark _)) (ak (aD (bq aL (pv 0) (pv 1) (fun _ _=>rfl)))) aZ) (ak (aD aj)),?_⟩
  refine⟨_,rfl,_,rfl,a,_,rfl,.inl hS,_,_,rfl,rfl,_,rfl,?_⟩
  unfold gG at q
  rw[List.length_map]
  refine ite2 (fun c=>?_) (fun c=>?_)
  ·have c:k < (ns.length:Int):=of_decide_eq_true c
   rw[if_pos c] at q
   have hk:k.toNat < ns.length:=by omega
   refine⟨_,rfl,_,rfl,a,_,k,.int (ns.getD k.toNat 0),rfl,rfl,hS,?_,q⟩
   have e:((k.toNat:Nat):Int)=k:=by omega
   rw[←e]
   refine bp ?_
   have e2:ns[k.toNat]? = some (ns.getD k.toNat 0):=by simp[List.getD,hk]
   rw[List.getElem?_map,e2]
   rfl
  ·have c:¬k < (ns.length:Int):=fun z=>c (decide_eq_true z)
   rw[if_neg c] at q
   exact q
theorem nC:aC ["_law_pot_here","_law_base","_law_digit_here"] ["_law_pot_here","_law_base"] (af dI):=⟨rfl,rfl,rfl,by decide +kernel,rfl,by decide +kernel,by decide +kernel⟩
theorem qj {f:Addr} {fd:FuncData} (U:Fun K "_law_digit" "_law_digit" dI f fd):FnOk P w K mg base CX0 1 f fd ["_law_pot_here","_law_base"] cZ:=by
 refine U.ok nC (fun vs H Q E h=>?_) (fun cdv A outer s H vs Q E hr h=>?_)
 ·obtain⟨p,q,b,rfl,_⟩:=h
  rfl
 ·obtain⟨p,⟨n,z⟩,b,rfl,hp,hok,hb0,hb1,q⟩:=h
  refine⟨_,ae (cm (aF iq (bq aL (pv 0) aj (fun _ _=>rfl)) aj (nomark _))
    (ae (eJ (az cJ (az aX (az eK (bq aL (pv 0) aj (fun _ _=>rfl)) aj) aj) aj) (mw (pv 0) aj ii))
     (ak (eJ (az cJ (az eK (bq aL (pv 0) aj (fun _ _=>rfl)) (bq aL (pv 0) aj (fun _ _=>rfl))) aj) (mw (pv 0) aj ii)))) aZ)
   (ae (av (i:=2) nC.nd rfl (Or.inl rfl) (az cJ (bq aL (pv 0) aj (fun _ _=>rfl)) (pv 1)))
   (ae (eJ (az dQ (bq aL (pv 0) aj (fun _ _=>rfl)) (pv 1)) (mw (pv 0) aj ii))
   (ak (aD (pv 2))))),?_⟩
  have a0:∀(x y:Int),atI [V.int x,V.int y] 0=some (V.int x):=fun _ _=>rfl
  have a1:∀(x y:Int),atI [V.int x,V.int y] 1=some (V.int y):=fun _ _=>rfl
  have b0:∀(x y:V),ixN [x,y].length 0=some 0:=fun _ _=>rfl
  have b1:∀(x y:V),ixN [x,y].length 1=some 1:=fun _ _=>rfl
  have hz1:=hok.1
  have hz2:=hok.2
  refine⟨_,rfl,p,_,0,_,rfl,rfl,SqL.of hp,a0 _ _,rfl,_,rfl,?_⟩
  have hz1:-(2 ^ 60) < z:=hz1
  have hz2:z < 2 ^ 60:=hz2
  refine ite2 (fun c=>?_) (fun c=>?_)
  ·have c:n=0:=by
    have:=of_decide_eq_true c
    injection this
   have m1:=Int.emod_lt_of_pos (z * 16807+11) (show (0:Int) < 2147483647 by decide)
   have m2:=Int.emod_nonneg (z * 16807+11) (show (2147483647:Int)≠0 by decide)
   have u1:=al (H:=H) (a:=p) (o:=.lst [V.int n,V.int ((z * 16807+11) % 2147483647)])
   refine⟨_,rfl,p,_,1,_,rfl,rfl,SqL.of hp,a1 _ _,_,_,rfl,rfl,.inl ⟨by omega,by omega⟩,_,_,rfl,rfl,_,_,rfl,rfl,(show (0:Int) < 2147483647 by decide),_,rfl,p,_,_,_,rfl,rfl,hp,b1 _ _,?_⟩
   refine⟨_,rfl,p,_,1,_,rfl,rfl,SqL.of u1,a1 _ _,_,rfl,p,_,1,_,rfl,rfl,SqL.of u1,a1 _ _,_,_,rfl,rfl,.inl ⟨by omega,by omega⟩,_,_,rfl,rfl,(show (0:Int) < 2147483629 by decide),_,rfl,p,_,_,_,rfl,rfl,u1,b0 _ _,?_⟩
   have u2:=al (H:=upd H p (.lst [V.int n,V.int ((z * 16807+11) % 2147483647)])) (a:=p) (o:=.lst [V.int ((z * 16807+11) % 2147483647 * ((z * 16807+11) % 2147483647) % 2147483629),V.int ((z * 16807+11) % 2147483647)])
   refine⟨_,rfl,p,_,0,_,rfl,rfl,SqL.of u2,a0 _ _,_,rfl,_,_,rfl,rfl,hb0,?_⟩
   refine⟨_,rfl,p,_,0,_,rfl,rfl,SqL.of u2,a0 _ _,_,rfl,_,_,rfl,rfl,⟨hb0,hb1⟩,_,rfl,p,_,_,_,rfl,rfl,u2,b0 _ _,?_⟩
   refine⟨_,rfl,?_⟩
   rw[cv,cv]
   have e:refill (n,z)=((z * 16807+11) % 2147483647 * ((z * 16807+11) % 2147483647) % 2147483629,(z * 16807+11) % 2147483647):=by
    unfold refill;rw[if_pos c]
   unfold digO nxt potV at q
   rw[e] at q
   exact q
  ·have c:¬n=0:=fun y=>c (by rw[y];exact decide_eq_true rfl)
   refine⟨_,rfl,p,_,0,_,rfl,rfl,SqL.of hp,a0 _ _,_,rfl,_,_,rfl,rfl,hb0,?_⟩
   refine⟨_,rfl,p,_,0,_,rfl,rfl,SqL.of hp,a0 _ _,_,rfl,_,_,rfl,rfl,⟨hb0,hb1⟩,_,rfl,p,_,_,_,rfl,rfl,hp,b0 _ _,?_⟩
   refine⟨_,rfl,?_⟩
   have e:refill (n,z)=(n,z):=by
    unfold refill;rw[if_neg c]
   unfold digO nxt potV at q
   rw[e] at q
   exact q
theorem jc:aC ["_law_script","_law_k","_law_seed","_law_cell","_law_number"] ["_law_script","_law_k"] (af sPot):=⟨rfl,rfl,rfl,by decide +kernel,rfl,by decide +kernel,by decide +kernel⟩
theorem pC (ns:List Int):cutV (ns.map V.int) none (some 40)=(ns.take 40).map V.int:=by
 unfold cutV
 have e1:HT.sIx (ns.map V.int).length 0 none=0:=rfl
 have e2:HT.sIx (ns.map V.int).length (ns.map V.int).length (some 40)=min 40 ns.length:=by
  rw[List.length_map]
  have:=HT.sIx_nat ns.length ns.length 40
  simpa using this
 rw[e1,e2,List.drop_zero,←List.map_take,Nat.sub_zero]
 congr 1
 rw[List.take_eq_take_iff]
 omega
theorem uK {f fA:Addr} {fd fdA:FuncData} (U:Fun K "_law_pot" "_law_pot" sPot f fd) (UA:Fun K "_law_at" "_law_at" sAt fA fdA) (bA:Binds K fdA ["_law_script","_law_k"] []) (mA:mg "_law_at" = some (.ref fA)) (kA:W.keepIn K (.ref fA)=true) (T:TxtN mg) :
  FnOk P w K mg base CX0 2 f fd ["_law_script","_law_k"] (pF K):=by
 have GA:FnOk P w K mg base CX0 1 fA fdA ["_law_script","_law_k"] (spAt K):=vO UA T
 refine U.ok jc (fun vs H Q E h=>?_) (fun cdv A outer s H vs Q E hr h=>?_)
 ·obtain⟨a,ns,k,rfl,_⟩:=h
  rfl
 ·obtain⟨a,ns,k,rfl,hS,h0,h1,q⟩:=h
  refine⟨_,ae (av (i:=2) jc.nd rfl (Or.inl rfl) (az aX aj (az eK aj (pv 1))))
   (ae (bd PassesOwn.never rfl (aK (kO nq (pv 0) nL (nK aj))) (aq (i:=3) jc.nd rfl (Or.inl rfl))
    (ak (av (i:=2) jc.nd rfl (Or.inl rfl) (az cJ (az aX (az eK (pv 2) aj) (pv 3)) aj))))
   (ae (av (i:=4) jc.nd rfl (Or.inl rfl) (ar GA hr rfl mA kA bA .nil pass0 (aa (pv 0) (aa (pv 1) ac))))
   (ae (cm (aF nN (pv 4) (az j6 aj aj) (nomark _)) (ak (av (i:=4) jc.nd rfl (Or.inl rfl) aj)) aZ)
   (ak (aD (aV (aa (pv 4) (aa (pv 2) ac)))))))),?_⟩
  refine⟨_,rfl,_,_,rfl,rfl,.inl ⟨by omega,by omega⟩,_,_,rfl,rfl,?_⟩
  refine⟨_,rfl,40,rfl,a,_,rfl,hS,fun l hl=>?_⟩
  rw[pC]
  have sm:Same H (upd H l (.lst ((ns.take 40).map V.int))):=fun b o e=>by rw[au (ag e hl)];exact e
  refine⟨l,rfl,⟨_,SqL.of al⟩,bj (K:=K) (a:=l) (xs:=(ns.take 40).map V.int) (fun i σ H2=>∃v,σ=[some (.ref a),some (.int k),some (.int (((ns.take 40).take i).foldl (fun s c=>(s * 48271+c) % 2147483647) (7+1009 * k))),v,none]∧H2=upd H l (.lst ((ns.take 40).map V.int)) ∧
   (-(2 ^ 60) < (((ns.take 40).take i).foldl (fun s c=>(s * 48271+c) % 2147483647) (7+1009 * k))∧(((ns.take 40).take i).foldl (fun s c=>(s * 48271+c) % 2147483647) (7+1009 * k)) < 2 ^ 60))
   ⟨none,rfl,rfl,by simp only[List.take_zero,List.foldl_nil];constructor <;> omega⟩ (fun i σ H2 _ ⟨_,_,e,_⟩=>by rw[e];exact SqL.of al) ?_ ?_⟩
  ·rintro i y σ H2 hi ⟨v,rfl,rfl,hb1,hb2⟩
   obtain⟨c,hc,rfl⟩:∃c,(ns.take 40)[i]? = some c∧V.int c=y:=by
    rw[List.getElem?_map] at hi
    exact Option.map_eq_some_iff.mp hi
   have e:(ns.take 40).take (i+1)=(ns.take 40).take i++[c]:=by rw[List.take_add_one,hc];rfl
   refine⟨_,rfl,_,_,rfl,rfl,.inl ⟨by omega,by omega⟩,_,rfl,_,_,rfl,rfl,_,_,rfl,rfl,(show (0:Int) < 2147483647 by decide),?_⟩
   refine⟨some (.int c),?_,rfl,?_⟩
   ·rw[e,List.foldl_append];rfl
   ·rw[e,List.foldl_append]
    have m1:=Int.emod_lt_of_pos ((((ns.take 40).take i).foldl (fun s c=>(s * 48271+c) % 2147483647) (7+1009 * k)) * 48271+c) (show (0:Int) < 2147483647 by decide)
    have m2:=Int.emod_nonneg ((((ns.take 40).take i).foldl (fun s c=>(s * 48271+c) % 2147483647) (7+1009 * k)) * 48271+c) (show (2147483647:Int)≠0 by decide)
    simp only[List.foldl_cons,List.foldl_nil]
    constructor <;> omega
  ·rintro σ H2 ⟨v,rfl,rfl,_,_⟩
   rw[List.length_map,List.take_length]
   refine⟨_,rfl,_,rfl,a,ns,k,rfl,sm.seq hS,h0,?_⟩
   refine⟨_,rfl,_,_,rfl,rfl,⟨by decide,by decide,by decide⟩,_,_,rfl,rfl,_,rfl,?_⟩
   have fin:∀(r:Addr),upd H l (.lst ((ns.take 40).map V.int)) r=none→Q (.ref r) (upd (upd H l (.lst ((ns.take 40).map V.int))) r (.lst (potV (pT ns k)))):=fun r hr'=>
    q r _ (sm.free hr') (sm.trans fun b o e=>by rw[au (ag e hr')];exact e) al
   unfold pT at fin
   refine ite2 (fun c=>?_) (fun c=>?_)
   ·have c:gG ns k < 1000000000000000000:=of_decide_eq_true c
    rw[if_pos c] at fin
    exact⟨_,rfl,_,rfl,(show 2≤sizeLine by decide),fun r hr'=>fin r hr'⟩
   ·have c:¬gG ns k < 1000000000000000000:=fun y=>c (decide_eq_true y)
    rw[if_neg c] at fin
    exact⟨_,rfl,_,rfl,(show 2≤sizeLine by decide),fun r hr'=>fin r hr'⟩
end
theorem a_ {q:Int × Int} {b:Int} (hb:0 < b):0≤digO q b∧digO q b < b:=⟨Int.emod_nonneg _ (by omega),Int.emod_lt_of_pos _ hb⟩
theorem de {b:Int} (h0:0 < b) (h:b≤10 ^ 60):b.natAbs.log2 < 9000:=by
 have h1:b.natAbs≠0:=by omega
 refine (Nat.log2_lt h1).mpr ?_
 have h2:b.natAbs≤10 ^ 60:=by omega
 exact Nat.lt_of_le_of_lt h2 (Nat.lt_of_lt_of_le (show 10 ^ 60 < 2 ^ 200 by decide) (Nat.pow_le_pow_right (by decide) (by decide)))
end K51
end
section
namespace K15
open PySem L2 K51 K31
def entV (e:Ent):List Key × V:=(ky e.1.1 e.1.2,V.int (e.2:Int))
theorem cu {l:List Ent} {p q:Nat}:valV (l.map entV) (ky p q)=none↔(p,q)∉l.map (·.1):=by
 induction l with
 |nil=>simp[valV]
 |cons e l ih=>
  rw[List.map_cons,List.map_cons,List.mem_cons]
  by_cases h:(entV e).1=ky p q
  ·rw[cU h]
   have:e.1=(p,q):=j9.mp h
   simp[this]
  ·rw[bV h,ih]
   have:(p,q)≠e.1:=fun z=>h (j9.mpr (by rw[z]))
   simp[this]
theorem pz {l:List Ent} (nd:(l.map (·.1)).Nodup) {p q c:Nat}:valV (l.map entV) (ky p q)=some (V.int (c:Int))↔((p,q),c)∈l:=by
 induction l with
 |nil=>simp[valV]
 |cons e l ih=>
  rw[List.map_cons,List.nodup_cons] at nd
  rw[List.map_cons,List.mem_cons]
  by_cases h:(entV e).1=ky p q
  ·rw[cU h]
   have e1:e.1=(p,q):=j9.mp h
   constructor
   ·intro z
    injection z with z
    injection z with z
    left
    have:e.2=c:=by omega
    rw[←e1,←this]
   ·rintro (z|z)
    ·rw[←z];rfl
    ·exact (nd.1 (List.mem_map.mpr ⟨_,z,e1.symm⟩)).elim
  ·rw[bV h,ih nd.2]
   constructor
   ·exact .inr
   ·rintro (z|z)
    ·exact (h (j9.mpr (by rw[←z]))).elim
    ·exact z
theorem rJ {l:List Ent} {p q:Nat} {v:V} (h:valV (l.map entV) (ky p q)=some v):∃c:Nat,v=V.int (c:Int):=by
 induction l with
 |nil=>cases h
 |cons e l ih=>
  rw[List.map_cons] at h
  by_cases h1:(entV e).1=ky p q
  ·rw[cU h1] at h
   injection h with h
   exact⟨e.2,h.symm⟩
  ·rw[bV h1] at h
   exact ih h
theorem m_ {ts:List Tri} (g:Good ts) (p q:Nat):(∃c,En ts p q c∧valV ((ents ts).map entV) (ky p q)=some (V.int (c:Int)))∨((∀c,¬En ts p q c)∧valV ((ents ts).map entV) (ky p q)=none):=by
 cases h:valV ((ents ts).map entV) (ky p q) with
 |none=>
  refine .inr ⟨fun c hc=>?_,rfl⟩
  exact cu.mp h (List.mem_map.mpr ⟨_,hc,rfl⟩)
 |some v=>
  obtain⟨c,rfl⟩:=rJ h
  exact .inl ⟨c,(pz g.nd).mp h,rfl⟩
theorem ce (a b:List Tri):ents (a++b)=ents a++ents b:=by simp[ents]
theorem bu (ts:List Tri):(ents ts).length=3 * ts.length:=by
 induction ts with
 |nil=>rfl
 |cons t ts ih=>
  rw[show t::ts=[t]++ts from rfl,ce,List.length_append,ih,List.length_append]
  show 3+_=3 * (1+_)
  omega
theorem hJ {l:List Ent} {a b c:Nat} (h:((l++[((a,b),c)]).map (·.1)).Nodup):(l.map (·.1)).Nodup∧(a,b)∉l.map (·.1):=by
 rw[List.map_append,List.nodup_append] at h
 refine⟨h.1,fun z=>?_⟩
 exact h.2.2 _ z (a,b) (by simp) rfl
theorem hW {l:List Ent} {a b c:Nat} (h:(a,b)∉l.map (·.1)):putK (l.map entV) (ky a b) (V.int (c:Int))=(l++[((a,b),c)]).map entV:=by
 rw[fR _ (cu.mpr h),List.map_append];rfl
def bP (t:Tri):List (Nat × Nat):=[(t.1,t.2.1),(t.2.1,t.2.2),(t.2.2,t.1)]
def g_:Sp:=fun vs H Q _=>∃(t:Addr) (x:Tri),vs=[.ref t]∧H t=some (.tup [.int (x.1:Int),.int (x.2.1:Int),.int (x.2.2:Int)]) ∧
 ∀r zs H',H r=none→Same H H'→H' r=some (.lst zs)→SdsAt H' zs (bP x)→Q (.ref r) H'
def cw:Sp:=fun vs H Q _=>∃(T:Addr) (vt:List V) (ts:List Tri),vs=[.ref T]∧H T=some (.lst vt)∧aA H vt ts∧ts.length≤400∧((ents ts).map (·.1)).Nodup ∧
 ∀D H',H D=none→Same H H'→H' D=some (.dT ((ents ts).map entV))→Q (.ref D) H'
def gQ (ts:List Tri) (x:Tri):Bool:=(bP x).all fun s=>decide (s∉(ents ts).map (·.1))
def jK:Sp:=fun vs H Q _=>∃(D t:Addr) (ts:List Tri) (x:Tri),vs=[.ref D,.ref t]∧H D=some (.dT ((ents ts).map entV))∧H t=some (.tup [.int (x.1:Int),.int (x.2.1:Int),.int (x.2.2:Int)]) ∧
 ∀H',Same H H'→Q (.bl (gQ ts x)) H'
section
variable {P:Program} {w:World} {K:W.Frag} {mg:Str→Option Value} {base:Heap}
theorem hU:aC ["_law_triple","_law_a","_law_b","_law_c"] ["_law_triple"] (af dz):=⟨rfl,rfl,rfl,by decide +kernel,rfl,by decide +kernel,by decide +kernel⟩
theorem qb {f:Addr} {fd:FuncData} (U:Fun K "_law_sides" "_law_sides" dz f fd):FnOk P w K mg base CX0 1 f fd ["_law_triple"] g_:=by
 refine U.ok hU (fun vs H Q E h=>?_) (fun cdv A outer s H vs Q E hr h=>?_)
 ·obtain⟨t,x,rfl,_⟩:=h
  rfl
 ·obtain⟨t,x,rfl,ht,q⟩:=h
  refine⟨_,ae (eJ (pv 0) (bI rfl (aw (aq (i:=1) hU.nd rfl (Or.inl rfl)) (aw (aq (i:=2) hU.nd rfl (Or.inl rfl)) (aw (aq (i:=3) hU.nd rfl (Or.inl rfl)) be)))))
   (ak (aD (aV (aa (aE (aa (pv 1) (aa (pv 2) ac))) (aa (aE (aa (pv 2) (aa (pv 3) ac))) (aa (aE (aa (pv 3) (aa (pv 1) ac))) ac)))))),?_⟩
  refine⟨_,rfl,t,_,rfl,SqT.of ht,rfl,_,_,rfl,_,_,rfl,_,_,rfl,rfl,?_⟩
  refine⟨_,rfl,_,rfl,lit2,fun t1 h1=>?_⟩
  (generalize z:upd H t1 _=H1;have s1:=ah h1 z;have y1:=ai z;clear z)
  refine⟨_,rfl,_,rfl,lit2,fun t2 h2=>?_⟩
  (generalize z:upd H1 t2 _=H2;have s2:=ah h2 z;have y2:=ai z;clear z)
  refine⟨_,rfl,_,rfl,lit2,fun t3 h3=>?_⟩
  (generalize z:upd H2 t3 _=H3;have s3:=ah h3 z;have y3:=ai z;clear z)
  refine⟨lit3,fun r h4=>?_⟩
  (generalize z:upd H3 r _=H4;have s4:=ah h4 z;have y4:=ai z;clear z)
  exact q r _ H4 (((s1.trans s2).trans s3).free h4) (((s1.trans s2).trans s3).trans s4) y4 (.cons ⟨t1,rfl,((s2.trans s3).trans s4) _ _ y1⟩ (.cons ⟨t2,rfl,(s3.trans s4) _ _ y2⟩ (.cons ⟨t3,rfl,s4 _ _ y3⟩ .nil)))
theorem eD:aC ["_law_triples","_law_thirds_here","_law_a","_law_b","_law_c"] ["_law_triples"] (af cN):=⟨rfl,rfl,rfl,by decide +kernel,rfl,by decide +kernel,by decide +kernel⟩
theorem oG {f:Addr} {fd:FuncData} (U:Fun K "_law_thirds" "_law_thirds" cN f fd):FnOk P w K mg base CX0 1 f fd ["_law_triples"] cw:=by
 refine U.ok eD (fun vs H Q E h=>?_) (fun cdv A outer s H vs Q E hr h=>?_)
 ·obtain⟨T,vt,ts,rfl,_⟩:=h
  rfl
 ·obtain⟨T,vt,ts,rfl,hT,ht,hl,hnd,q⟩:=h
  have hu:=b_ hr
  refine⟨_,ae (av (i:=1) eD.nd rfl (Or.inl rfl) kQ)
   (ae (bd PassesOwn.never rfl (aK (pv 0)) (bI rfl (aw (aq (i:=2) eD.nd rfl (Or.inl rfl)) (aw (aq (i:=3) eD.nd rfl (Or.inl rfl)) (aw (aq (i:=4) eD.nd rfl (Or.inl rfl)) be))))
    (ae (d_ hu (pv 1) (aE (aa (pv 2) (aa (pv 3) ac))) (pv 4) rfl)
    (ae (d_ hu (pv 1) (aE (aa (pv 3) (aa (pv 4) ac))) (pv 2) rfl)
    (ak (d_ hu (pv 1) (aE (aa (pv 4) (aa (pv 2) ac))) (pv 3) rfl)))))
   (ak (aD (pv 1)))),?_⟩
  have hline:=line5000
  have hlen:=ax ht
  refine fun D h1=>?_
  (generalize z:upd H D _=H1;have s1:=ah h1 z;have y1:=ai z;clear z)
  refine⟨_,rfl,T,rfl,⟨_,SqL.of (s1 _ _ hT)⟩,bj (K:=K) (a:=T) (xs:=vt) (fun i σ H2=>∃v2 v3 v4,σ=[some (.ref T),some (.ref D),v2,v3,v4]∧Same H H2∧H2 D=some (.dT ((ents (ts.take i)).map entV)))
   ⟨none,none,none,rfl,s1,y1⟩ (fun i σ H2 _ ⟨_,_,_,_,e,_⟩=>SqL.of (e _ _ hT)) ?_ ?_⟩
  ·rintro i x σ H2 hi ⟨v2,v3,v4,rfl,sm,hD⟩
   obtain⟨⟨a,b,c⟩,hs,t,rfl,hb⟩:=aU ht hi
   have hb:H t=some (.tup [.int (a:Int),.int (b:Int),.int (c:Int)]):=hb
   have hil:i < ts.length:=(List.getElem?_eq_some_iff.mp hs).1
   have et:ts.take (i+1)=ts.take i++[(a,b,c)]:=by rw[List.take_add_one,hs];rfl
   have nd1:((ents (ts.take (i+1))).map (·.1)).Nodup:=by
    rw[←List.take_append_drop (i+1) ts,ce,List.map_append,List.nodup_append] at hnd
    exact hnd.1
   have ee:ents (ts.take (i+1))=((ents (ts.take i)++[((a,b),c)])++[((b,c),a)])++[((c,a),b)]:=by rw[et,ce];simp[ents]
   rw[ee] at nd1
   obtain⟨nd2,n3⟩:=hJ nd1
   obtain⟨nd3,n2⟩:=hJ nd2
   obtain⟨_,n1⟩:=hJ nd3
   have l0:=bu (ts.take i)
   rw[List.length_take] at l0
   refine⟨t,_,rfl,SqT.of (sm _ _ hb),rfl,_,_,rfl,_,_,rfl,_,_,rfl,rfl,?_⟩
   refine⟨_,rfl,_,rfl,_,rfl,_,rfl,lit2,fun t1 g1=>?_⟩
   (generalize z:upd H2 t1 _=H3;have s3:=ah g1 z;have y3:=ai z;clear z)
   refine⟨D,_,rfl,DPut.t (k:=ky a b) (s3 _ _ hD) y3 (by rw[List.length_map];omega),?_⟩
   rw[hW n1]
   (generalize z:upd H3 D _=H4;have k4:=aH z;have y4:=ai z;clear z)
   refine⟨_,rfl,_,rfl,_,rfl,_,rfl,lit2,fun t2 g2=>?_⟩
   (generalize z:upd H4 t2 _=H5;have s5:=ah g2 z;have y5:=ai z;clear z)
   refine⟨D,_,rfl,DPut.t (k:=ky b c) (s5 _ _ y4) y5 (by rw[List.length_map,List.length_append,List.length_singleton];omega),?_⟩
   rw[hW n2]
   (generalize z:upd H5 D _=H6;have k6:=aH z;have y6:=ai z;clear z)
   refine⟨_,rfl,_,rfl,_,rfl,_,rfl,lit2,fun t3 g3=>?_⟩
   (generalize z:upd H6 t3 _=H7;have s7:=ah g3 z;have y7:=ai z;clear z)
   refine⟨D,_,rfl,DPut.t (k:=ky c a) (s7 _ _ y6) y7 (by rw[List.length_map,List.length_append,List.length_append,List.length_singleton,List.length_singleton];omega),?_⟩
   rw[hW n3]
   (generalize z:upd H7 D _=H8;have k8:=aH z;have y8:=ai z;clear z)
   refine⟨_,_,_,rfl,fun b' o e=>?_,by rw[y8,ee]⟩
   have nb:=ag e h1
   exact (k8 b' nb).trans (s7 _ _ ((k6 b' nb).trans (s5 _ _ ((k4 b' nb).trans (s3 _ _ (sm _ _ e))))))
  ·rintro σ H2 ⟨v2,v3,v4,rfl,sm,hD⟩
   rw[hlen,List.take_length] at hD
   exact⟨_,rfl,q D H2 h1 sm hD⟩
end
end K15
end
section
namespace K15
open PySem L2 K51 K31
theorem lK:bootBuiltins "all" = some (.builtin "all"):=by decide +kernel
theorem bn:bootBuiltins "sorted" = some (.builtin "sorted"):=by decide +kernel
def flat (ts:List Tri):List Nat:=ts.flatMap fun t=>[t.1,t.2.1,t.2.2]
def kb (c:Nat):Key × V:=(Sum.inl (c:Int),V.bl true)
theorem qz {c d:Nat}:(kb c).1=(Sum.inl (d:Int):Key)↔c=d:=by
 unfold kb
 constructor
 ·intro h
  injection h with h
  omega
 ·rintro rfl;rfl
theorem mn (dd:List Nat) (c:Nat):putK (dd.map kb) (Sum.inl (c:Int)) (V.bl true)=(if c∈dd then dd else dd++[c]).map kb:=by
 by_cases h:c∈dd
 ·rw[if_pos h]
  have ha:((dd.map kb).any fun kv=>decide (kv.1=(Sum.inl (c:Int):Key)))=true:=List.any_eq_true.mpr ⟨kb c,List.mem_map.mpr ⟨c,h,rfl⟩,decide_eq_true rfl⟩
  unfold putK
  rw[if_pos ha,List.map_map]
  refine List.map_congr_left fun x _=>?_
  show (if (kb x).1=(Sum.inl (c:Int):Key) then ((kb x).1,V.bl true) else kb x)=kb x
  split <;> rfl
 ·rw[if_neg h,fR,List.map_append]
  ·rfl
  ·cases e:valV (dd.map kb) (Sum.inl (c:Int)) with
   |none=>rfl
   |some v=>
    have:=rK e
    rw[List.map_map] at this
    obtain⟨x,hx,ex⟩:=List.mem_map.mp this
    exact (h (qz.mp ex ▸ hx)).elim
def Cs (ts:List Tri) (cs:List Nat):Prop:=cs.Pairwise (· < ·)∧∀c,c∈cs↔c∈flat ts
theorem dX {dd:List Nat} {ms:List Int} (nd:dd.Nodup) (hp:ms.Perm (dd.map fun c:Nat=>(c:Int))) (hs:ms.Pairwise (·≤·)):∃cs:List Nat,ms=cs.map (fun c:Nat=>(c:Int))∧cs.Pairwise (· < ·)∧cs.Perm dd:=by
 have e:ms=(ms.map Int.toNat).map (fun c:Nat=>(c:Int)):=by
  rw[List.map_map]
  have:∀x∈ms,((fun c:Nat=>(c:Int)) ∘ Int.toNat) x=id x:=by
   intro x hx
   obtain⟨c,_,rfl⟩:=List.mem_map.mp (hp.mem_iff.mp hx)
   simp
  rw[List.map_congr_left this,List.map_id]
 have pm:(ms.map Int.toNat).Perm dd:=by
  have:=hp.map Int.toNat
  rw[List.map_map] at this
  have e2:dd.map (Int.toNat ∘ fun c:Nat=>(c:Int))=dd:=by
   have:∀x∈dd,(Int.toNat ∘ fun c:Nat=>(c:Int)) x=id x:=fun x _=>by simp
   rw[List.map_congr_left this,List.map_id]
  rw[e2] at this
  exact this
 refine⟨ms.map Int.toNat,e,?_,pm⟩
 have nd':(ms.map Int.toNat).Nodup:=pm.nodup_iff.mpr nd
 rw[e] at hs
 rw[List.pairwise_map] at hs
 have:=hs.and nd'
 refine this.imp fun {a b} h=>?_
 have h1:=h.1
 have h2:=h.2
 omega
def cG:Sp:=fun vs H Q _=>∃(T:Addr) (vt:List V) (ts:List Tri),vs=[.ref T]∧H T=some (.lst vt)∧aA H vt ts∧ts.length≤20 ∧
 ∀r cs H',H r=none→Same H H'→H' r=some (.lst (nV cs))→Cs ts cs→cs.length≤60→Q (.ref r) H'
section
variable {P:Program} {w:World} {K:W.Frag} {mg:Str→Option Value} {base:Heap}
theorem ut:aC ["_law_thirds_here","_law_triple"] ["_law_thirds_here","_law_triple"] (af fc):=⟨rfl,rfl,rfl,by decide +kernel,rfl,by decide +kernel,by decide +kernel⟩
theorem sR {f f1:Addr} {fd d1:FuncData} (U:Fun K "_law_free" "_law_free" fc f fd) (T:TxtN mg) (G:FnOk P w K mg base CX0 1 f1 d1 ["_law_triple"] g_) (b1:Binds K d1 ["_law_triple"] []) (m1:mg "_law_sides" = some (.ref f1)) (k1:W.keepIn K (.ref f1)=true) :
  FnOk P w K mg base CX0 2 f fd ["_law_thirds_here","_law_triple"] jK:=by
 refine U.ok ut (fun vs H Q E h=>?_) (fun cdv A outer s H vs Q E hr h=>?_)
 ·obtain⟨D,t,ts,x,rfl,_⟩:=h
  rfl
 ·obtain⟨D,t,ts,x,rfl,hD,ht,q⟩:=h
  have hu:=b_ hr
  refine⟨_,ak (aD (aB (fj rfl) (by rfl) T.all lK (aa (bJ (N:=["_law_side","_law_thirds_here"]) (fr:=[none,some 0]) (aJ (by decide +kernel) rfl rfl (by decide +kernel) (by decide +kernel) (by
      intro y hy e
      simp only[List.mem_cons,List.not_mem_nil,or_false] at hy
      rcases hy with rfl|rfl|rfl
      all_goals first|(cases e;done)|exact .inl rfl) (by
      intro j i y e1 e2
      match j,e1,e2 with
      |0,e1,_=>simp at e1
      |1,e1,e2=>simp at e1 e2;subst e1 e2;exact⟨rfl,rfl⟩
      |j+2,e1,_=>simp at e1)) rfl (aK (ar G hr rfl m1 k1 b1 .nil pass0 (aa (pv 1) ac)))
     (fun C' s' H' fp pins=>⟨aq (i:=0) (show (["_law_side","_law_thirds_here"]:List Str).Nodup by decide +kernel) rfl (Or.inl rfl) (.inr rfl),cf,uF (eX hu (pv 0) (pv 1))⟩)) ac))),?_⟩
  have hline:=line5000
  refine⟨_,rfl,t,x,rfl,ht,fun r zs H1 hr1 s1 y1 sd=>?_⟩
  have hl:=ax sd
  refine⟨r,rfl,⟨_,SqL.of y1⟩,fun Z hZ=>bf (K:=K) (a:=r) (xs:=zs) (fun i σ ys H'=>∃o,σ=[o,some (.ref D)]∧ys=(((bP x).take i).map fun s=>decide (s∉(ents ts).map (·.1))).map V.bl∧H' = upd H1 Z (.lst ys)) ⟨none,rfl,rfl,rfl⟩ (fun i σ ys H' _ ⟨_,_,_,e⟩=>by rw[e];exact SqL.of (ay hZ _ _ y1)) ?_ ?_⟩
  ·rintro i y σ ys H' hi ⟨o,rfl,rfl,rfl⟩
   obtain⟨⟨a,b⟩,hs,c,rfl,hc⟩:=aU sd hi
   have hil:=(List.getElem?_eq_some_iff.mp hs).1
   have sZ:=ay (o:=.lst ((((bP x).take i).map fun s=>decide (s∉(ents ts).map (·.1))).map V.bl)) hZ
   refine⟨_,rfl,_,rfl,D,_,rfl,DGet.t (k:=ky a b) (sZ _ _ (s1 _ _ hD)) (sZ _ _ hc),al,?_,_,rfl,?_,by rw[cv]⟩
   ·rw[List.length_map,List.length_map,List.length_take]
    have:(bP x).length=3:=rfl
    omega
   ·rw[List.take_add_one,hs]
    show _=((((bP x).take i)++[(a,b)]).map _).map _
    rw[List.map_append,List.map_append]
    congr 1
    show [V.bl _]=[V.bl _]
    congr 2
    cases hv:valV ((ents ts).map entV) (ky a b) with
    |none=>exact (decide_eq_true (cu.mp hv)).symm
    |some v=>exact (decide_eq_false fun z=>by rw[cu.mpr z] at hv;cases hv).symm
  ·rintro σ ys H' ⟨o,rfl,rfl,rfl⟩
   refine⟨Z,(bP x).map fun s=>decide (s∉(ents ts).map (·.1)),rfl,SqL.of ?_,?_⟩
   ·rw[al,hl,List.take_length]
   ·rw[List.all_map]
    exact q _ (s1.trans (ay hZ))
theorem eS:aC ["_law_triples","_law_found","_law_triple","_law_corner"] ["_law_triples"] (af bY):=⟨rfl,rfl,rfl,by decide +kernel,rfl,by decide +kernel,by decide +kernel⟩
theorem mH {f:Addr} {fd:FuncData} (U:Fun K "_law_corners" "_law_corners" bY f fd) (mS:mg "sorted" = none):FnOk P w K mg base CX0 1 f fd ["_law_triples"] cG:=by
 refine U.ok eS (fun vs H Q E h=>?_) (fun cdv A outer s H vs Q E hr h=>?_)
 ·obtain⟨T,vt,ts,rfl,_⟩:=h
  rfl
 ·obtain⟨T,vt,ts,rfl,hT,ht,hl,q⟩:=h
  have hu:=b_ hr
  refine⟨_,ae (av (i:=1) eS.nd rfl (Or.inl rfl) dP)
   (ae (bd PassesOwn.never rfl (aK (pv 0)) (aq (i:=2) eS.nd rfl (Or.inl rfl))
    (ak (bd PassesOwn.never rfl (jZ (pv 2)) (aq (i:=3) eS.nd rfl (Or.inl rfl)) (ak (d_ hu (pv 1) (pv 3) ip rfl)))))
   (ak (aD (aB (bQ rfl) (by rfl) mS bn (aa (pv 1) ac))))),?_⟩
  have hline:=line5000
  have hlen:=ax ht
  refine fun D h1=>?_
  (generalize z:upd H D _=H1;have s1:=ah h1 z;have y1:=ai z;clear z)
  refine⟨_,rfl,T,rfl,⟨_,SqL.of (s1 _ _ hT)⟩,bj (K:=K) (a:=T) (xs:=vt) (fun i σ H2=>∃v2 v3 dd,σ=[some (.ref T),some (.ref D),v2,v3]∧Same H H2∧H2 D=some (.dK (dd.map kb))∧dd.Nodup∧(∀c,c∈dd↔c∈flat (ts.take i))∧dd.length≤3 * i)
   ⟨none,none,[],rfl,s1,y1,List.nodup_nil,by simp[flat],Nat.zero_le _⟩ (fun i σ H2 _ ⟨_,_,_,_,e,_⟩=>SqL.of (e _ _ hT)) ?_ ?_⟩
  ·rintro i x σ H2 hi ⟨v2,v3,dd,rfl,sm,hD,nd,hm,hz⟩
   obtain⟨⟨a,b,c⟩,hs,t,rfl,hb⟩:=aU ht hi
   have hb:H t=some (.tup [.int (a:Int),.int (b:Int),.int (c:Int)]):=hb
   have hil:i < ts.length:=(List.getElem?_eq_some_iff.mp hs).1
   have et:flat (ts.take (i+1))=flat (ts.take i)++[a,b,c]:=by rw[List.take_add_one,hs];simp[flat]
   refine⟨_,rfl,t,rfl,⟨_,SqT.of (sm _ _ hb)⟩,tF (K:=K) (a:=t) (xs:=[.int (a:Int),.int (b:Int),.int (c:Int)]) (fun j σ H3=>∃v3 dd,σ=[some (.ref T),some (.ref D),some (.ref t),v3]∧Same H H3∧H3 D=some (.dK (dd.map kb))∧dd.Nodup∧(∀z,z∈dd↔z∈flat (ts.take i)++[a,b,c].take j)∧dd.length≤3 * i+j)
    ⟨_,dd,rfl,sm,hD,nd,by simpa using hm,hz⟩ (fun j σ H3 _ ⟨_,_,_,e,_⟩=>SqT.of (e _ _ hb)) ?_ ?_⟩
   ·rintro j y σ H3 hj ⟨v3,dd,rfl,sm3,hD3,nd3,hm3,hz3⟩
    obtain⟨n,hn,rfl⟩:∃n:Nat,[a,b,c][j]? = some n∧y=.int (n:Int):=by
     match j,hj with
     |0,hj=>simp at hj;exact⟨a,rfl,hj.symm⟩
     |1,hj=>simp at hj;exact⟨b,rfl,hj.symm⟩
     |2,hj=>simp at hj;exact⟨c,rfl,hj.symm⟩
     |j+3,hj=>simp at hj
    have hj3:j < 3:=(List.getElem?_eq_some_iff.mp hn).1
    refine⟨_,rfl,_,rfl,D,_,rfl,DPut.k (k:=Sum.inl (n:Int)) hD3 (by rw[List.length_map];omega),?_⟩
    rw[mn]
    (generalize z:upd H3 D _=H4;have k4:=aH z;have y4:=ai z;clear z)
    refine⟨_,_,rfl,fun b' o e=>(k4 b' (ag e h1)).trans (sm3 _ _ e),y4,?_,fun z=>?_,?_⟩
    ·split
     ·exact nd3
     ·rename_i h
      exact List.nodup_append.mpr ⟨nd3,by simp,fun x hx y hy=>by rw[List.mem_singleton.mp hy];rintro rfl;exact h hx⟩
    ·rw[List.take_add_one,hn,←List.append_assoc]
     show _↔z∈(flat (ts.take i)++[a,b,c].take j)++[n]
     rw[List.mem_append,←hm3 z]
     split
     ·rename_i h
      constructor
      ·exact .inl
      ·rintro (h' | h')
       ·exact h'
       ·rw[List.mem_singleton.mp h'];exact h
     ·rw[List.mem_append]
    ·split
     ·omega
     ·rw[List.length_append,List.length_singleton];omega
   ·rintro σ H3 ⟨v3,dd,rfl,sm3,hD3,nd3,hm3,hz3⟩
    refine⟨_,_,dd,rfl,sm3,hD3,nd3,fun z=>?_,?_⟩
    ·rw[et];exact hm3 z
    ·have:([V.int (a:Int),.int (b:Int),.int (c:Int)]:List V).length=3:=rfl
     omega
  ·rintro σ H2 ⟨v2,v3,dd,rfl,sm,hD,nd,hm,hz⟩
   rw[hlen,List.take_length] at hm
   refine⟨_,rfl,D,rfl,.inl ⟨_,hD⟩,fun ks vs hk=>.inl ⟨dd.map (fun c:Nat=>(c:Int)),?_,by rw[List.length_map];omega,fun p ms hp pm ps=>?_⟩⟩
   ·rcases hk with ⟨kvs,e,rfl,_⟩|⟨kvs,as,e,_⟩
    ·rw[hD] at e
     cases e
     rw[List.map_map,List.map_map]
     rfl
    ·rw[hD] at e;cases e
   ·obtain⟨cs,rfl,pl,pc⟩:=dX nd pm ps
    have hcl:=pc.length_eq
    have e:(cs.map (fun c:Nat=>(c:Int))).map V.int=nV cs:=by rw[List.map_map];rfl
    rw[e]
    exact q p cs _ (sm.free hp) (sm.trans (ay hp)) al ⟨pl,fun c=>by rw[pc.mem_iff];exact hm c⟩ (by omega)
end
end K15
end
section
namespace K15
open PySem L2 K51 K31
theorem eg (l:List Nat):(nV l).all fU=true:=by
 rw[List.all_eq_true]
 intro v hv
 obtain⟨n,_,rfl⟩:=List.mem_map.mp hv
 rfl
theorem eP (c:Nat) (l:List Nat):inV (V.int (c:Int)) (nV l)=decide (c∈l):=by
 unfold inV nV
 rw[List.any_map,Bool.eq_iff_iff,decide_eq_true_eq,List.any_eq_true]
 constructor
 ·rintro⟨x,hx,e⟩
  have:(x:Int)=(c:Int):=by simpa [eqV] using e
  have:x=c:=by omega
  rw[←this];exact hx
 ·intro h
  exact⟨c,h,by simp[eqV]⟩
theorem tu (l:List Nat):inV V.non (nV l)=false:=by
 unfold inV nV
 rw[List.any_map,List.any_eq_false]
 intro x _
 simp[eqV]
theorem cK {l m:List Nat} (h:l.Nodup) (hs:∀x∈l,x∈m):l.length≤m.length:=by
 induction l generalizing m with
 |nil=>exact Nat.zero_le _
 |cons a l ih=>
  rw[List.nodup_cons] at h
  have ha:=hs a (by simp)
  have:=ih (m:=m.erase a) h.2 fun x hx=>by
   have hne:x≠a:=fun z=>h.1 (z ▸ hx)
   exact (List.mem_erase_of_ne hne).mpr (hs x (List.mem_cons_of_mem _ hx))
  rw[List.length_erase_of_mem ha] at this
  have hpos:0 < m.length:=List.length_pos_of_mem ha
  rw[List.length_cons]
  omega
theorem cr {K:W.Frag} {H:Hp} {D:Addr} {l:List Ent} {ks vs:List V} (hD:H D=some (.dT (l.map entV))) (hk:DKeys H D ks vs):SdsAt H ks (l.map (·.1)):=by
 rcases hk with ⟨kvs,e,_⟩|⟨kvs,as,e,hp,rfl,_⟩
 ·rw[hD] at e;cases e
 ·rw[hD] at e
  cases e
  rename_i hv
  clear hD hv
  induction l generalizing as with
  |nil=>cases hp;exact .nil
  |cons x l ih=>
   cases hp with
   |cons h t=>exact .cons ⟨_,rfl,h⟩ (ih _ t)
theorem kH {K:W.Frag} {H:Hp} {ks:List V} {ss:List (Nat × Nat)} (h:SdsAt H ks ss):Tups K H ks (ss.map fun s=>[(s.1:Int),(s.2:Int)]):=by
 induction h with
 |nil=>exact .nil
 |cons q _ ih=>
  obtain⟨a,rfl,ha⟩:=q
  exact .cons ⟨a,rfl,SqT.of ha,by simp⟩ ih
theorem ik {H:Hp} {ks:List V} {ss:List (Nat × Nat)} (h:SdsAt H ks ss):∀ix:List Nat,(∀i∈ix,i < ks.length)→SdsAt H (ix.map fun i=>ks.getD i .non) (ix.map fun i=>ss.getD i (0,0))
 | [],_=>.nil
 |i::ix,hi=>by
  have hik:=hi i (by simp)
  have h1:ks[i]? = some ks[i]:=List.getElem?_eq_getElem hik
  obtain⟨y,hy,hf⟩:=aU h h1
  refine .cons ?_ (ik h ix fun j hj=>hi j (List.mem_cons_of_mem _ hj))
  simp only[List.getD,h1,hy,Option.getD_some]
  exact hf
theorem je {ss:List (Nat × Nat)} {ix:List Nat} (h:ix.Perm (List.range ss.length)):(ix.map fun i=>ss.getD i (0,0)).Perm ss:=by
 have:=h.map fun i=>ss.getD i (0,0)
 refine this.trans (List.Perm.of_eq ?_)
 refine List.ext_getElem? fun i=>?_
 rw[List.getElem?_map]
 by_cases hi:i < ss.length
 ·rw[List.getElem?_range hi]
  simp[List.getD,List.getElem?_eq_getElem hi]
 ·rw[List.getElem?_eq_none (by simpa using hi),List.getElem?_eq_none (by omega)];rfl
theorem qR {K:W.Frag} {H:Hp} (l:List Nat):Dts K H (nV l) (l.map fun n:Nat=>PyData.int (n:Int)):=by
 induction l with
 |nil=>exact .nil
 |cons a l ih=>exact .cons (.int _) ih
theorem qV (l:List Nat):(PyData.list (l.map fun n:Nat=>PyData.int (n:Int))).depth≤3:=by
 have:PyData.depthAll (l.map fun n:Nat=>PyData.int (n:Int))≤1:=by
  induction l with
  |nil=>simp[PyData.depthAll]
  |cons a l ih=>simp only[List.map_cons,PyData.depthAll,PyData.depth];omega
 simp only[PyData.depth]
 omega
theorem qL (ds:List PyData):PyData.eqv (.list ds) (.list [])=ds.isEmpty:=by
 cases ds <;> simp[PyData.eqv,PyData.eqvAll]
structure Run (ts:List Tri) (v x0:Nat) (F:List Nat):Prop where
 nd:F.Nodup
 key:∀p∈F,∃q,En ts v p q
 ch:∀i p q,F[i]? = some p→F[i+1]? = some q→En ts v p q
 x1:x0∈F
section
variable {ts:List Tri} {v x0 p c o:Nat} {F:List Nat}
theorem rV (h:∃q,En ts v x0 q):Run ts v x0 [x0]:=⟨by simp,fun p hp=>by rw[List.mem_singleton.mp hp];exact h,fun i p q _ h2=>by simp at h2,by simp⟩
theorem rX (r:Run ts v x0 F) (hl:F.getLast? = some p) (e:En ts v p c) (hk:∃q,En ts v c q) (hc:c∉F):Run ts v x0 (F++[c]):=by
 refine⟨List.nodup_append.mpr ⟨r.nd,by simp,fun x hx y hy=>by rw[List.mem_singleton.mp hy];rintro rfl;exact hc hx⟩,fun q hq=>?_,fun i a b h1 h2=>?_,List.mem_append_left _ r.x1⟩
 ·rcases List.mem_append.mp hq with h|h
  ·exact r.key q h
  ·rw[List.mem_singleton.mp h];exact hk
 ·by_cases hi:i+1 < F.length
  ·rw[List.getElem?_append_left hi] at h2
   rw[List.getElem?_append_left (by omega)] at h1
   exact r.ch i a b h1 h2
  ·have hb:=(List.getElem?_eq_some_iff.mp h2).1
   rw[List.length_append,List.length_singleton] at hb
   have ei:i+1=F.length:=by omega
   rw[List.getLast?_eq_getElem?,←ei,Nat.add_sub_cancel] at hl
   rw[List.getElem?_append_left (by omega),hl] at h1
   rw[ei,List.getElem?_append_right (Nat.le_refl _),Nat.sub_self] at h2
   cases h1
   cases h2
   exact e
theorem rW (r:Run ts v x0 F) (hh:F.head? = some p) (e:En ts v o p) (ho:o∉F):Run ts v x0 (o::F):=by
 refine⟨List.nodup_cons.mpr ⟨ho,r.nd⟩,fun q hq=>?_,fun i a b h1 h2=>?_,List.mem_cons_of_mem _ r.x1⟩
 ·rcases List.mem_cons.mp hq with rfl|h
  ·exact⟨p,e⟩
  ·exact r.key q h
 ·cases i with
  |zero=>
   rw[List.getElem?_cons_succ,←List.head?_eq_getElem?,hh] at h2
   cases h1
   cases h2
   exact e
  |succ i=>
   rw[List.getElem?_cons_succ] at h1 h2
   exact r.ch i a b h1 h2
theorem jT (r:Run ts v x0 F) (hl:ts.length≤20):F.length≤60:=by
 have:=cK (m:=(ents ts).map (·.1.2)) r.nd fun x hx=>by
  obtain⟨q,hq⟩:=r.key x hx
  exact List.mem_map.mpr ⟨_,hq,rfl⟩
 rw[List.length_map,bu] at this
 omega
theorem me (r:Run ts v x0 F):F≠[]:=fun z=>by have:=r.x1;rw[z] at this;cases this
theorem nR (h:F≠[]):∃p,F.getLast? = some p:=⟨_,List.getLast?_eq_some_getLast h⟩
theorem tz (h:F≠[]):∃p,F.head? = some p:=by
 cases F with
 |nil=>exact (h rfl).elim
 |cons a l=>exact⟨a,rfl⟩
theorem vp {α:Type} {l:List α} {x:α} (h:l[l.length - 1]? = some x):atI l (-1)=some x:=by
 have hl:=(List.getElem?_eq_some_iff.mp h).1
 unfold atI ixN
 rw[if_neg (by decide),if_pos (by omega)]
 rw[show ((-1:Int)+(l.length:Int)).toNat=l.length - 1 by omega]
 exact h
theorem tR (h:F.getLast? = some p):atI (nV F) (-1)=some (V.int (p:Int)):=by
 refine vp ?_
 rw[aG,nV,List.getElem?_map,←List.getLast?_eq_getElem?,h]
 rfl
theorem oe (h:F.head? = some p):atI (nV F) 0=some (V.int (p:Int)):=by
 have:(nV F)[0]? = some (V.int (p:Int)):=by rw[nV,List.getElem?_map,←List.head?_eq_getElem?,h];rfl
 exact bp this
end
theorem i8 {c:TT} {tb:TS} {D:Ends} {σ:St} {H:Hp} (R:St→Hp→Prop) (h:∀NX:St→Hp→Prop,(∀σ H,R σ H→NX σ H)→lR c tb {D with nx:=NX} σ H) (out:∀σ H,R σ H→D.nx σ H):lR c tb D σ H:=h D.nx out
theorem mq {α β:Type} {F G:α→β→Prop} {xs:List α} {ys:List β} (h:∀x y,x∈xs→F x y→G x y) (p:Paired F xs ys):Paired G xs ys:=by
 induction p with
 |nil=>exact .nil
 |cons a _ ih=>exact .cons (h _ _ (by simp) a) (ih fun x y hx=>h x y (List.mem_cons_of_mem _ hx))
def lX:Sp:=fun vs H Q _=>∃(T:Addr) (vt:List V) (ts:List Tri) (v:Nat),vs=[.ref T,.int (v:Int)]∧H T=some (.lst vt)∧aA H vt ts∧ts.length≤20∧Good ts ∧
 ∀r gs fs H',H r=none→Same H H'→H' r=some (.lst gs)→gd H' gs fs→Fans (En ts) v fs→fs.length≤60→Q (.ref r) H'
section
variable {P:Program} {w:World} {K:W.Frag} {mg:Str→Option Value} {base:Heap}
theorem gk:aC ["_law_triples","_law_corner","_law_thirds_here","_law_left","_law_found","_law_fan"] ["_law_triples","_law_corner"] (af fe):=⟨rfl,rfl,rfl,by decide +kernel,rfl,by decide +kernel,by decide +kernel⟩
theorem sS {f f1:Addr} {fd d1:FuncData} (U:Fun K "_law_fans" "_law_fans" fe f fd) (mS:mg "sorted" = none) (G:FnOk P w K mg base CX0 1 f1 d1 ["_law_triples"] cw) (b1:Binds K d1 ["_law_triples"] []) (m1:mg "_law_thirds" = some (.ref f1)) (k1:W.keepIn K (.ref f1)=true) :
  FnOk P w K mg base CX0 2 f fd ["_law_triples","_law_corner"] lX:=by
 refine U.ok gk (fun vs H Q E h=>?_) (fun cdv A outer s H vs Q E hr h=>?_)
 ·obtain⟨T,vt,ts,v,rfl,_⟩:=h
  rfl
 ·obtain⟨T,vt,ts,v,rfl,hT,ht,hl,g,q⟩:=h
  have hu:=b_ hr
  refine⟨_,ae (av (i:=2) gk.nd rfl (Or.inl rfl) (ar G hr rfl m1 k1 b1 .nil pass0 (aa (pv 0) ac)))
   (ae (jY (i:=3) (N:=["_law_a","_law_p","_law_corner"]) (fr:=[none,none,some 1]) (g:=gTup K 2 (fT (cF 0) (fT (cF 1) gNil))) (aJ (by decide +kernel) rfl rfl (by decide +kernel) (by decide +kernel) (by
      intro y hy e
      simp only[List.mem_cons,List.not_mem_nil,or_false] at hy
      rcases hy with rfl|rfl|rfl|rfl
      all_goals first|(cases e;done)|exact .inl rfl) (by
      intro j i y e1 e2
      match j,e1,e2 with
      |0,e1,_=>simp at e1
      |1,e1,_=>simp at e1
      |2,e1,e2=>simp at e1 e2;subst e1 e2;exact⟨rfl,rfl⟩
      |j+3,e1,_=>simp at e1)) rfl (aK (aB (bQ rfl) (by rfl) mS bn (aa (pv 2) ac)))
     (fun C' s' H' fp pins=>⟨bI rfl (aw (aq (i:=0) (show (["_law_a","_law_p","_law_corner"]:List Str).Nodup by decide +kernel) rfl (Or.inl rfl) (.inr rfl)) (aw (aq (i:=1) (show (["_law_a","_law_p","_law_corner"]:List Str).Nodup by decide +kernel) rfl (Or.inl rfl) (.inr rfl)) be)),ef (aF iq (pv 0) (pv 2) (nomark _)),pv 1⟩) gk.nd rfl (Or.inl rfl))
   (ae (av (i:=4) gk.nd rfl (Or.inl rfl) (aV ac))
   (ae (df PassesOwn.never (aF (mz hr.units) (pv 3) (aV ac) (nomark _)) (ae (av (i:=5) gk.nd rfl (Or.inr rfl) (aV (aa (bq aL (pv 3) aj (fun _ _=>rfl)) ac)))
    (ae (df PassesOwn.never (PW.pt (im (aF gz (pZ hu (pv 2) (aE (aa (pv 1) (aa (bq aL (pv 5) (gJ eC aj) (fun _ _=>rfl)) ac))) ⟨rfl,rfl,rfl,rfl⟩) (pv 3) rfl) (fQ (aF cA (c_ hu (pv 2) (aE (aa (pv 1) (aa (bq aL (pv 5) (gJ eC aj) (fun _ _=>rfl)) ac))) (fun _ _=>rfl)) (pv 5) rfl)))) (ak (aT (bU PySem.F.plainAttrs_list PySem.F.slot_list_append PySem.F.type_list_append aR (pv 5) (aa (c_ hu (pv 2) (aE (aa (pv 1) (aa (bq aL (pv 5) (gJ eC aj) (fun _ _=>rfl)) ac))) (fun _ _=>rfl)) ac)))))
    (ae (df PassesOwn.never (PW.pt (im (gr (mx hu (aE (aa (bq aL (pv 5) aj (fun _ _=>rfl)) (aa (pv 1) ac))) (pv 2))) (fQ (aF cA (c_ hu (pv 2) (aE (aa (bq aL (pv 5) aj (fun _ _=>rfl)) (aa (pv 1) ac))) (fun _ _=>rfl)) (pv 5) rfl)))) (ak (aT (bU PySem.F.plainAttrs_list PySem.F.slot_list_insert PySem.F.type_list_insert gA (pv 5) (aa aj (aa (c_ hu (pv 2) (aE (aa (bq aL (pv 5) aj (fun _ _=>rfl)) (aa (pv 1) ac))) (fun _ _=>rfl)) ac))))))
    (ae (jY (i:=3) (N:=["_law_p","_law_fan"]) (fr:=[none,some 5]) (tt:=pD (tOp (rIn K true) (tVar 0) (tVar 1))) (aJ (by decide +kernel) rfl rfl (by decide +kernel) (by decide +kernel) (by
      intro y hy e
      simp only[List.mem_cons,List.not_mem_nil,or_false] at hy
      rcases hy with rfl|rfl|rfl
      all_goals first|(cases e;done)|exact .inl rfl) (by
      intro j i y e1 e2
      match j,e1,e2 with
      |0,e1,_=>simp at e1
      |1,e1,e2=>simp at e1 e2;subst e1 e2;exact⟨rfl,rfl⟩
      |j+2,e1,_=>simp at e1)) rfl (aK (pv 3))
     (fun C' s' H' fp pins=>⟨aq (i:=0) (show (["_law_p","_law_fan"]:List Str).Nodup by decide +kernel) rfl (Or.inl rfl) (.inr rfl),ef (aF cA (pv 0) (pv 1) rfl),pv 0⟩) gk.nd rfl (Or.inl rfl))
    (ak (aT (bU PySem.F.plainAttrs_list PySem.F.slot_list_append PySem.F.type_list_append aR (pv 4) (aa (pv 5) ac)))))))))
   (ak (aD (pv 4)))))),?_⟩
  have hline:=line5000
  have k:=g.sk
  refine⟨_,rfl,T,vt,ts,rfl,hT,ht,by omega,g.nd,fun D H1 hD0 s1 hD=>?_⟩
  refine⟨_,rfl,D,rfl,.inr ⟨_,hD⟩,fun ks vs hk=>.inr ⟨_,kH (cr (K:=K) hD hk),?_,fun p ix hp pm _=>?_⟩⟩
  ·rw[ax (cr (K:=K) hD hk),List.length_map,bu];omega
  have sd0:=cr (K:=K) hD hk
  have lk:=ax sd0
  (generalize z:upd H1 p _=H2;have s2:=ah hp z;have y2:=ai z;clear z)
  have ixb:∀i∈ix,i < ks.length:=fun i hi=>List.mem_range.mp (pm.mem_iff.mp hi)
  have sdz:=ik (Paired.imp' (fun _ _ ⟨a,e,h⟩=>⟨a,e,s2 _ _ h⟩) sd0:SdsAt H2 ks ((ents ts).map (·.1))) ix ixb
  have pss:(ix.map fun i=>((ents ts).map (·.1)).getD i (0,0)).Perm ((ents ts).map (·.1)):=je (by rw[←lk];exact pm)
  generalize (ix.map fun i=>((ents ts).map (·.1)).getD i (0,0))=ss at sdz pss
  generalize (ix.map fun i=>ks.getD i .non)=zs at sdz y2
  have lz:=ax sdz
  have lss:ss.length≤60:=by rw[pss.length_eq,List.length_map,bu];omega
  refine⟨p,rfl,⟨_,SqL.of y2⟩,fun Z hZ=>bf (K:=K) (a:=p) (xs:=zs) (fun i σ ys H'=>∃o1 o2,σ=[o1,o2,some (.int (v:Int))]∧ys=nV (((ss.take i).filter fun s=>decide (s.1=v)).map (·.2))∧H' = upd H2 Z (.lst ys)) ⟨none,none,rfl,rfl,rfl⟩ (fun i σ ys H' _ ⟨_,_,_,_,e⟩=>by rw[e];exact SqL.of (ay hZ _ _ y2)) ?_ ?_⟩
  ·rintro i y σ ys H' hi ⟨o1,o2,rfl,rfl,rfl⟩
   obtain⟨⟨a,b⟩,hs,c,rfl,hc⟩:=aU sdz hi
   have sZ:=ay (o:=.lst (nV (((ss.take i).filter fun s=>decide (s.1=v)).map (·.2)))) hZ
   have et:ss.take (i+1)=ss.take i++[(a,b)]:=by rw[List.take_add_one,hs];rfl
   refine⟨c,_,rfl,SqT.of (sZ _ _ hc),rfl,_,_,rfl,_,_,rfl,rfl,?_⟩
   refine⟨_,rfl,_,rfl,rfl,_,rfl,?_⟩
   show if decide (V.int (a:Int)=V.int (v:Int))=true then _ else _
   rw[decI]
   by_cases hav:a=v
   ·rw[decide_eq_true (by rw[hav])]
    refine iteT ⟨_,rfl,al,?_,_,_,rfl,?_,by rw[cv]⟩
    ·rw[aG,List.length_map]
     have h1:=List.length_filter_le (fun s:Nat × Nat=>decide (s.1=v)) (ss.take i)
     rw[List.length_take] at h1
     omega
    ·rw[et,List.filter_append,List.filter_cons,if_pos (decide_eq_true hav),List.filter_nil,List.map_append,←cX];rfl
   ·rw[decide_eq_false (by omega)]
    refine iteF ⟨_,_,rfl,?_,rfl⟩
    rw[et,List.filter_append,List.filter_cons,if_neg (by simp[hav]),List.filter_nil,List.append_nil]
  ·rintro σ ys H' ⟨o1,o2,rfl,rfl,rfl⟩
   rw[lz,List.take_length]
   have hlf:∀x,x∈((ss.filter fun s=>decide (s.1=v)).map (·.2))↔∃q,En ts v x q:=by
    intro x
    rw[List.mem_map]
    constructor
    ·rintro⟨⟨a,b⟩,hm,rfl⟩
     rw[List.mem_filter,pss.mem_iff] at hm
     obtain⟨hm,ha⟩:=hm
     have ha:a=v:=of_decide_eq_true ha
     obtain⟨⟨e1,c⟩,he,e2⟩:=List.mem_map.mp hm
     have e2:e1=(a,b):=e2
     subst e2 ha
     exact⟨c,he⟩
    ·rintro⟨c,hc⟩
     exact⟨(v,x),List.mem_filter.mpr ⟨pss.mem_iff.mpr (List.mem_map.mpr ⟨_,hc,rfl⟩),decide_eq_true rfl⟩,rfl⟩
   have ndlf:((ss.filter fun s=>decide (s.1=v)).map (·.2)).Nodup:=by
    have nd1:ss.Nodup:=pss.nodup_iff.mpr g.nd
    have:∀l:List (Nat × Nat),l.Nodup→((l.filter fun s=>decide (s.1=v)).map (·.2)).Nodup:=by
     intro l
     induction l with
     |nil=>intro _;exact List.nodup_nil
     |cons x l ih=>
      intro h
      rw[List.nodup_cons] at h
      rw[List.filter_cons]
      split
      ·rename_i hx
       rw[List.map_cons,List.nodup_cons]
       refine⟨fun z=>?_,ih h.2⟩
       obtain⟨y,hy,e⟩:=List.mem_map.mp z
       rw[List.mem_filter] at hy
       have h1:y.1=v:=of_decide_eq_true hy.2
       have h2:x.1=v:=of_decide_eq_true hx
       have:y=x:=Prod.ext (h1.trans h2.symm) e
       exact h.1 (this ▸ hy.1)
      ·exact ih h.2
    exact this ss nd1
   have llf:((ss.filter fun s=>decide (s.1=v)).map (·.2)).length≤60:=by
    rw[List.length_map]
    exact Nat.le_trans (List.length_filter_le _ _) lss
   generalize ((ss.filter fun s=>decide (s.1=v)).map (·.2))=lf0 at hlf ndlf llf ⊢
   have sZ:=ay (o:=.lst (nV lf0)) hZ
   have yZ:upd H2 Z (.lst (nV lf0)) Z=some (.lst (nV lf0)):=al
   generalize upd H2 Z (.lst (nV lf0))=H3 at sZ yZ ⊢
   have q3:=(s1.trans s2).trans sZ
   refine⟨Nat.zero_le _,fun Fd hFd=>?_⟩
   (generalize z:upd H3 Fd _=H4;have s4:=ah hFd z;have y4:=ai z;clear z)
   have q4:=q3.trans s4
   have hD4:=((s2.trans sZ).trans s4) _ _ hD
   refine⟨fun m σ H'=>∃v5 Lf lf Fd gs fs,σ=[some (V.ref T),some (.int (v:Int)),some (.ref D),some (.ref Lf),some (.ref Fd),v5]∧m=lf.length∧H Fd=none∧Same H H'∧H' D=some (.dT ((ents ts).map entV))∧H' Lf=some (.lst (nV lf))∧H' Fd=some (.lst gs)∧gd H' gs fs∧lf.Nodup ∧
     (∀x∈lf,∃q,En ts v x q)∧(∀F∈fs,Fan (En ts) v F)∧(∀x,(∃q,En ts v x q)→x∈lf∨∃F∈fs,x∈F)∧(∀x∈lf,∀F∈fs,x∉F)∧(fs.Pairwise fun F G=>∀x∈F,x∉G)∧fs.length+lf.length≤60∧V.ref Fd∉gs,
    ⟨_,none,Z,lf0,Fd,[],[],rfl,rfl,q3.free hFd,q4,hD4,s4 _ _ yZ,y4,.nil,ndlf,fun x hx=>(hlf x).mp hx,by simp,fun x hx=>.inl ((hlf x).mpr hx),by simp,List.Pairwise.nil,by simpa using llf,by simp⟩,?_⟩
   rintro m σ H5 ⟨v5,Lf,lf,Fd,gs,fs,rfl,rfl,hFd0,sm,hD5,hLf,hFd5,hgs,ndl,hkey,hfan,hcov,hdis,hpw,hsz,hnot⟩
   refine⟨_,rfl,Nat.zero_le _,fun pe hpe=>?_⟩
   (generalize z:upd H5 pe _=H6;have s6:=ah hpe z;have y6:=ai z;clear z)
   refine⟨_,_,.lst (SqL.of (s6 _ _ hLf)) (qR lf),.lst (SqL.of y6) .nil,Nat.le_trans (qV lf) (by decide),_,rfl,?_⟩
   rw[if_pos rfl,qL]
   cases lf with
   |nil=>
    refine iteF ?_
    refine⟨_,rfl,q Fd gs fs H6 hFd0 (sm.trans s6) (s6 _ _ hFd5) (hgs.same s6) ⟨hfan,fun x hx=>?_,hpw⟩ (by simp at hsz;omega)⟩
    exact (hcov x hx).resolve_left (by simp)
   |cons x0 lf=>
    refine iteT ?_
    have hx0:=hkey x0 (by simp)
    refine⟨_,fun σ' H' h=>h,?_⟩
    refine⟨_,rfl,Lf,_,0,V.int (x0:Int),rfl,rfl,SqL.of (s6 _ _ hLf),oe rfl,lit1,fun fa hfa=>?_⟩
    (generalize z:upd H6 fa _=H7;have s7:=ah hfa z;have y7:=ai z;clear z)
    have nD:∀{b:Addr} {ob:HO},H6 b=some ob→b≠fa:=fun e=>ag e hfa
    have hD6:=s6 _ _ hD5
    have hL6:=s6 _ _ hLf
    refine i8 (fun σ H'=>∃F,σ=[some (V.ref T),some (.int (v:Int)),some (.ref D),some (.ref Lf),some (.ref Fd),some (.ref fa)]∧Same H6 H'∧H' fa=some (.lst (nV F))∧Run ts v x0 F∧∀p,F.getLast? = some p→∀q,En ts v p q→q∈x0::lf→q∈F) (fun NX z=>?_) ?_
    ·refine⟨fun m σ H'=>∃F,σ=[some (V.ref T),some (.int (v:Int)),some (.ref D),some (.ref Lf),some (.ref Fd),some (.ref fa)]∧m=100 - F.length∧Same H6 H'∧H' fa=some (.lst (nV F))∧Run ts v x0 F,⟨_,[x0],rfl,rfl,s7,y7,rV hx0⟩,?_⟩
     rintro m σ H8 ⟨F,rfl,rfl,sm8,y8,rn⟩
     have hFl:=jT rn hl
     obtain⟨p,hp⟩:=nR (me rn)
     have ap:=tR hp
     refine⟨_,rfl,D,rfl,.inr ⟨_,.inl (sm8 _ _ hD6)⟩,_,rfl,_,rfl,_,rfl,fa,_,_,_,rfl,rfl,SqL.of y8,ap,lit2,fun k1 g1=>?_⟩
     (generalize z:upd H8 k1 _=H9;have s9:=ah g1 z;have y9:=ai z;clear z)
     have sm9:=sm8.trans s9
     rcases m_ g v p with ⟨c,hc,e⟩|⟨hc,e⟩
     ·refine⟨_,e ▸ DGet.t (k:=ky v p) (sm9 _ _ hD6) y9,_,rfl,Lf,_,rfl,.inl (SqL.of (sm9 _ _ hL6)),rfl,eg _,_,rfl,?_⟩
      show if (if false=true then _ else inV (V.int (c:Int)) (nV (x0::lf)))=true then _ else _
      rw[if_neg Bool.false_ne_true,eP]
      by_cases hcl:c∈x0::lf
      ·rw[decide_eq_true hcl]
       refine iteT ?_
       refine⟨_,rfl,_,rfl,_,rfl,_,rfl,fa,_,_,_,rfl,rfl,SqL.of (s9 _ _ y8),ap,lit2,fun k2 g2=>?_⟩
       (generalize z:upd H9 k2 _=H10;have s10:=ah g2 z;have y10:=ai z;clear z)
       have sm10:=sm9.trans s10
       refine⟨D,V.int (c:Int),rfl,e ▸ DGet.t (k:=ky v p) (sm10 _ _ hD6) y10,_,rfl,fa,_,rfl,.inl (SqL.of (s10 _ _ (s9 _ _ y8))),rfl,eg _,_,rfl,?_⟩
       show if (if true=true then !inV (V.int (c:Int)) (nV F) else _)=true then _ else _
       rw[if_pos rfl,eP]
       by_cases hcF:c∈F
       ·rw[decide_eq_true hcF]
        refine iteF (z _ _ ⟨F,rfl,sm10,s10 _ _ (s9 _ _ y8),rn,fun p' hp' q hq _=>?_⟩)
        rw[hp] at hp'
        cases hp'
        rw[k.one hq hc];exact hcF
       ·rw[decide_eq_false hcF]
        refine iteT ⟨_,fun σ' H' h=>h,?_⟩
        refine⟨_,rfl,.inl ⟨rfl,_,SqL.of (s10 _ _ (s9 _ _ y8))⟩,_,rfl,_,rfl,_,rfl,_,rfl,fa,_,_,_,rfl,rfl,SqL.of (s10 _ _ (s9 _ _ y8)),ap,lit2,fun k3 g3=>?_⟩
        (generalize z:upd H10 k3 _=H11;have s11:=ah g3 z;have y11:=ai z;clear z)
        have sm11:=sm10.trans s11
        refine⟨D,V.int (c:Int),rfl,e ▸ DGet.t (k:=ky v p) (sm11 _ _ hD6) y11,fa,_,_,rfl,rfl,s11 _ _ (s10 _ _ (s9 _ _ y8)),by rw[aG];omega,?_⟩
        (generalize z:upd H11 fa _=H12;have k12:=aH z;have y12:=ai z;clear z)
        refine⟨_,?_,F++[c],rfl,rfl,fun b' o e=>(k12 b' (nD e)).trans (sm11 _ _ e),?_,rX rn hp hc (hkey c hcl) hcF⟩
        ·rw[List.length_append,List.length_singleton];omega
        ·rw[y12];simp[nV]
      ·rw[decide_eq_false hcl]
       refine iteF (iteF (z _ _ ⟨F,rfl,sm9,s9 _ _ y8,rn,fun p' hp' q hq hl'=>?_⟩))
       rw[hp] at hp'
       cases hp'
       rw[k.one hq hc] at hl';exact (hcl hl').elim
     ·refine⟨_,e ▸ DGet.t (k:=ky v p) (sm9 _ _ hD6) y9,_,rfl,Lf,_,rfl,.inl (SqL.of (sm9 _ _ hL6)),rfl,eg _,_,rfl,?_⟩
      show if (if false=true then _ else inV V.non (nV (x0::lf)))=true then _ else _
      rw[if_neg Bool.false_ne_true,tu]
      refine iteF (iteF (z _ _ ⟨F,rfl,sm9,s9 _ _ y8,rn,fun p' hp' q hq _=>?_⟩))
      rw[hp] at hp'
      cases hp'
      exact (hc q hq).elim
    rintro σ H8 ⟨F,rfl,sm8,y8,rn,hend⟩
    clear y7 s7 H7
    refine i8 (fun σ H'=>∃F,σ=[some (V.ref T),some (.int (v:Int)),some (.ref D),some (.ref Lf),some (.ref Fd),some (.ref fa)]∧Same H6 H'∧H' fa=some (.lst (nV F))∧Run ts v x0 F∧(∀p,F.getLast? = some p→∀q,En ts v p q→q∈x0::lf→q∈F)∧∀p,F.head? = some p→∀o,En ts v o p→o∈F) (fun NX z=>?_) ?_
    ·refine⟨fun m σ H'=>∃F,σ=[some (V.ref T),some (.int (v:Int)),some (.ref D),some (.ref Lf),some (.ref Fd),some (.ref fa)]∧m=100 - F.length∧Same H6 H'∧H' fa=some (.lst (nV F))∧Run ts v x0 F∧∀p,F.getLast? = some p→∀q,En ts v p q→q∈x0::lf→q∈F,⟨_,F,rfl,rfl,sm8,y8,rn,hend⟩,?_⟩
     clear hend rn y8 sm8
     clear F H8
     rintro m σ H8 ⟨F,rfl,rfl,sm8,y8,rn,hend⟩
     have hFl:=jT rn hl
     obtain⟨p,hp⟩:=tz (me rn)
     have ap:=oe hp
     refine⟨_,rfl,fa,_,_,_,rfl,rfl,SqL.of y8,ap,_,rfl,lit2,fun k1 g1=>?_⟩
     (generalize z:upd H8 k1 _=H9;have s9:=ah g1 z;have y9:=ai z;clear z)
     have sm9:=sm8.trans s9
     rcases m_ g p v with ⟨c,hc,e⟩|⟨hc,e⟩
     ·refine⟨_,rfl,D,_,rfl,e ▸ DGet.t (k:=ky p v) (sm9 _ _ hD6) y9,_,rfl,?_⟩
      refine iteT ?_
      refine⟨_,rfl,_,rfl,fa,_,_,_,rfl,rfl,SqL.of (s9 _ _ y8),ap,_,rfl,lit2,fun k2 g2=>?_⟩
      (generalize z:upd H9 k2 _=H10;have s10:=ah g2 z;have y10:=ai z;clear z)
      have sm10:=sm9.trans s10
      refine⟨D,V.int (c:Int),rfl,e ▸ DGet.t (k:=ky p v) (sm10 _ _ hD6) y10,_,rfl,fa,_,rfl,.inl (SqL.of (s10 _ _ (s9 _ _ y8))),rfl,eg _,_,rfl,?_⟩
      show if (if true=true then !inV (V.int (c:Int)) (nV F) else _)=true then _ else _
      rw[if_pos rfl,eP]
      by_cases hcF:c∈F
      ·rw[decide_eq_true hcF]
       refine iteF (z _ _ ⟨F,rfl,sm10,s10 _ _ (s9 _ _ y8),rn,hend,fun p' hp' o ho=>?_⟩)
       rw[hp] at hp'
       cases hp'
       rw[k.one (k.rot (k.rot ho)) hc];exact hcF
      ·rw[decide_eq_false hcF]
       refine iteT ⟨_,fun σ' H' h=>h,?_⟩
       refine⟨_,rfl,.inl ⟨rfl,_,SqL.of (s10 _ _ (s9 _ _ y8))⟩,_,rfl,_,rfl,fa,_,_,_,rfl,rfl,SqL.of (s10 _ _ (s9 _ _ y8)),ap,_,rfl,lit2,fun k3 g3=>?_⟩
       (generalize z:upd H10 k3 _=H11;have s11:=ah g3 z;have y11:=ai z;clear z)
       have sm11:=sm10.trans s11
       refine⟨D,V.int (c:Int),rfl,e ▸ DGet.t (k:=ky p v) (sm11 _ _ hD6) y11,fa,_,0,_,rfl,rfl,s11 _ _ (s10 _ _ (s9 _ _ y8)),Nat.zero_le _,by rw[aG];omega,?_⟩
       (generalize z:upd H11 fa _=H12;have k12:=aH z;have y12:=ai z;clear z)
       refine⟨_,?_,c::F,rfl,rfl,fun b' o e=>(k12 b' (nD e)).trans (sm11 _ _ e),?_,rW rn hp (k.rot hc) hcF,fun p' hp' q hq hql=>?_⟩
       ·rw[List.length_cons];omega
       ·rw[y12];simp[nV]
       ·refine List.mem_cons_of_mem _ (hend p' ?_ q hq hql)
        rw[←hp']
        obtain⟨z,hz⟩:=nR (me rn)
        rw[List.getLast?_cons,hz];rfl
     ·refine⟨_,rfl,D,_,rfl,e ▸ DGet.t (k:=ky p v) (sm9 _ _ hD6) y9,_,rfl,?_⟩
      refine iteF (iteF (z _ _ ⟨F,rfl,sm9,s9 _ _ y8,rn,hend,fun p' hp' o ho=>?_⟩))
      rw[hp] at hp'
      cases hp'
      exact (hc _ (k.rot (k.rot ho))).elim
    clear hend rn y8 sm8
    clear F H8
    rintro σ H8 ⟨F,rfl,sm8,y8,rn,hend,hbeg⟩
    have hFl:=jT rn hl
    obtain⟨fF,dF⟩:=qJ k hfan hcov hdis rn.nd rn.key rn.ch rn.x1 (by simp) hend hbeg
    have hL8:=sm8 _ _ hL6
    refine⟨_,rfl,Lf,rfl,⟨_,SqL.of hL8⟩,fun Z hZ=>bf (K:=K) (a:=Lf) (xs:=nV (x0::lf)) (fun i σ ys H'=>∃o,σ=[o,some (.ref fa)]∧ys=nV (((x0::lf).take i).filter fun p=>decide (p∉F))∧H' = upd H8 Z (.lst ys)) ⟨none,rfl,rfl,rfl⟩ (fun i σ ys H' _ ⟨_,_,_,e⟩=>by rw[e];exact SqL.of (ay hZ _ _ hL8)) ?_ ?_⟩
    ·rintro i y σ ys H' hi ⟨o,rfl,rfl,rfl⟩
     rw[nV,List.getElem?_map] at hi
     obtain⟨n,hn,rfl⟩:=Option.map_eq_some_iff.mp hi
     have et:(x0::lf).take (i+1)=(x0::lf).take i++[n]:=by rw[List.take_add_one,hn];rfl
     refine⟨_,rfl,_,rfl,fa,_,rfl,.inl (SqL.of (ay hZ _ _ y8)),rfl,eg _,_,rfl,?_⟩
     show if (if true=true then !inV (V.int (n:Int)) (nV F) else _)=true then _ else _
     rw[if_pos rfl,eP]
     by_cases hnF:n∈F
     ·rw[decide_eq_true hnF]
      refine iteF ⟨_,rfl,?_,rfl⟩
      rw[et,List.filter_append,List.filter_cons,if_neg (by simp[hnF]),List.filter_nil,List.append_nil]
     ·rw[decide_eq_false hnF]
      refine iteT ⟨_,rfl,al,?_,_,rfl,?_,by rw[cv]⟩
      ·rw[aG]
       have h1:=List.length_filter_le (fun p=>decide (p∉F)) ((x0::lf).take i)
       rw[List.length_take] at h1
       rw[List.length_cons] at hsz h1
       omega
      ·rw[et,List.filter_append,List.filter_cons,if_pos (by simp[hnF]),List.filter_nil,←cX];rfl
    ·rintro σ ys H' ⟨o,rfl,rfl,rfl⟩
     rw[aG,List.take_length]
     have sZ:=ay (o:=.lst (nV ((x0::lf).filter fun p=>decide (p∉F)))) hZ
     have yZ:upd H8 Z (.lst (nV ((x0::lf).filter fun p=>decide (p∉F)))) Z=some (.lst (nV ((x0::lf).filter fun p=>decide (p∉F)))):=al
     generalize upd H8 Z (.lst (nV ((x0::lf).filter fun p=>decide (p∉F))))=H9 at sZ yZ ⊢
     have e0:((x0::lf).filter fun p=>decide (p∉F))=lf.filter fun p=>decide (p∉F):=by
      rw[List.filter_cons,if_neg (by simp[rn.x1])]
     have l0:=List.length_filter_le (fun p=>decide (p∉F)) lf
     rw[←e0] at l0
     have hmem:∀x,x∈((x0::lf).filter fun p=>decide (p∉F))↔x∈x0::lf∧x∉F:=fun x=>by rw[List.mem_filter,decide_eq_true_eq]
     have ndf:((x0::lf).filter fun p=>decide (p∉F)).Nodup:=ndl.filter _
     generalize ((x0::lf).filter fun p=>decide (p∉F))=lf' at *
     have sm9:=sm8.trans sZ
     have hF6:=s6 _ _ hFd5
     have hF9:=sm9 _ _ hF6
     have hg:=ax hgs
     rw[List.length_cons] at hsz
     refine⟨_,rfl,.inl ⟨rfl,_,SqL.of hF9⟩,_,rfl,Fd,gs,_,rfl,rfl,hF9,by rw[hg];omega,?_⟩
     (generalize z:upd H9 Fd _=H10;have k10:=aH z;have y10:=ai z;clear z)
     have nFa:Fd≠fa:=nD hF6
     have nFD:D≠Fd:=fun z=>by rw[z,hF6] at hD6;cases hD6
     have nFZ:Z≠Fd:=fun z=>by rw[z,sm8 _ _ hF6] at hZ;cases hZ
     have sH:Same H H9:=(sm.trans s6).trans sm9
     refine⟨lf'.length,by rw[List.length_cons];omega,_,Z,lf',Fd,gs++[V.ref fa],fs++[F],rfl,rfl,hFd0,fun b' o e=>(k10 b' (ag e hFd0)).trans (sH _ _ e),(k10 D nFD).trans (sm9 _ _ hD6),(k10 Z nFZ).trans yZ,y10,?_,ndf,fun x hx=>hkey x ((hmem x).mp hx).1,?_,?_,?_,?_,?_,?_⟩
     ·refine bO ?_ (.cons ⟨fa,rfl,(k10 fa (Ne.symm nFa)).trans (sZ _ _ y8)⟩ .nil)
      refine mq (fun u l hu ⟨a,e1,e2⟩=>⟨a,e1,(k10 a fun z=>hnot (by rw[←z,←e1];exact hu)).trans (sm9 _ _ (s6 _ _ e2))⟩) hgs
     ·intro G hG
      rcases List.mem_append.mp hG with h|h
      ·exact hfan G h
      ·rw[List.mem_singleton.mp h];exact fF
     ·intro x hx
      rcases hcov x hx with h|⟨G,hG,h⟩
      ·by_cases hxF:x∈F
       ·exact .inr ⟨F,by simp,hxF⟩
       ·exact .inl ((hmem x).mpr ⟨h,hxF⟩)
      ·exact .inr ⟨G,List.mem_append_left _ hG,h⟩
     ·intro x hx G hG
      rcases List.mem_append.mp hG with h|h
      ·exact hdis x ((hmem x).mp hx).1 G h
      ·rw[List.mem_singleton.mp h];exact ((hmem x).mp hx).2
     ·refine List.pairwise_append.mpr ⟨hpw,List.pairwise_singleton _ _,fun G hG F' hF' x hx hxF=>?_⟩
      rw[List.mem_singleton.mp hF'] at hxF
      exact dF x hxF G hG hx
     ·rw[List.length_append,List.length_singleton];omega
     ·intro z
      rcases List.mem_append.mp z with h|h
      ·exact hnot h
      ·have:=List.mem_singleton.mp h
       cases this
       exact nFa rfl
end
end K15
end
section
namespace K15
def reE (v n:Nat) (F:List Nat) (e:Ent):Ent:=((rn v n F e.1.1 e.1.2,rn v n F e.1.2 e.2),rn v n F e.2 e.1.1)
theorem qP {ts:List Tri} {v n:Nat} {F:List Nat}:ents (ts.map (ren v n F))=(ents ts).map (reE v n F):=by
 induction ts with
 |nil=>rfl
 |cons t ts ih=>
  have h1:ents ((t::ts).map (ren v n F))=ents [ren v n F t]++ents (ts.map (ren v n F)):=by simp[ents]
  have h2:ents (t::ts)=ents [t]++ents ts:=by simp[ents]
  rw[h1,h2,List.map_append,ih]
  rfl
def Co (ts:List Tri) (u:Nat):Prop:=∃p q,En ts u p q
theorem qE {ts:List Tri} {v n:Nat} {F:List Nat} (g:Good ts) (fr:∀a b c,En ts a b c→a≠n):Good (ts.map (ren v n F)):=by
 have k:=g.sk
 have ks:=vH (v:=v) (F:=F) k fr
 refine⟨fun t ht=>?_,?_⟩
 ·obtain⟨⟨a,b,c⟩,h,rfl⟩:=List.mem_map.mp ht
  have e1:En ts a b c:=bm.mpr (.inl h)
  have e2:=k.rot e1
  have e3:=k.rot e2
  exact⟨ks.ne (c:=rn v n F c a) ⟨a,b,c,e1,rfl,rfl,rfl⟩,ks.ne (c:=rn v n F a b) ⟨b,c,a,e2,rfl,rfl,rfl⟩,ks.ne (c:=rn v n F b c) ⟨c,a,b,e3,rfl,rfl,rfl⟩⟩
 ·rw[qP,List.map_map]
  have nd:=g.nd
  have mem:∀e∈ents ts,En ts e.1.1 e.1.2 e.2:=fun e he=>he
  rw[List.Nodup,List.pairwise_map] at nd ⊢
  refine nd.imp_of_mem fun {x y} hx hy h z=>h ?_
  have z:=Prod.mk.inj z
  obtain⟨⟨a,b⟩,c⟩:=x
  obtain⟨⟨a',b'⟩,c'⟩:=y
  have e:En ts a b c:=mem _ hx
  have e':En ts a' b' c':=mem _ hy
  have z1:rn v n F a b=rn v n F a' b':=z.1
  have z2:rn v n F b c=rn v n F b' c':=z.2
  have key:∀{p q p' q'},p≠n→p'≠n→rn v n F p q=rn v n F p' q'→p=p':=by
   intro p q p' q' h1 h2 h3
   by_cases hx:rn v n F p q=n
   ·rw[(rn_n h1 hx).1,(rn_n h2 (h3 ▸ hx)).1]
   ·rw[←cz hx,h3,cz (h3 ▸ hx)]
  show (a,b)=(a',b')
  rw[key (fr _ _ _ e) (fr _ _ _ e') z1,key (fr _ _ _ (k.rot e)) (fr _ _ _ (k.rot e')) z2]
structure Mid (ts:List Tri) (v:Nat) (F0:List Nat) (fs:List (List Nat)) (rest:List Nat):Prop where
 good:Good ts
 fans:Fans (En ts) v (F0::fs)
 oth:∀u,Co ts u→u=v∨u∈rest∨One (En ts) u
theorem sN {E E':Nat→Nat→Nat→Prop} (h:∀a b c,E a b c↔E' a b c):E=E':=by
 funext a b c
 exact propext (h a b c)
theorem qp {ts:List Tri} {v n:Nat} {F0 F:List Nat} {fs:List (List Nat)} {rest:List Nat} (m:Mid ts v F0 (F::fs) rest) (fr:∀u,Co ts u→u≠n):Mid (ts.map (ren v n F)) v F0 fs rest:=by
 have fr':∀a b c,En ts a b c→a≠n:=fun a b c h=>fr a ⟨b,c,h⟩
 have k:=m.good.sk
 have eE:En (ts.map (ren v n F))=Rn (En ts) v n F:=sN fun _ _ _=>u7
 have hF:=m.fans.fan F (by simp)
 have hv:v≠n:=by
  obtain⟨p,hp⟩:=List.exists_mem_of_ne_nil _ hF.ne
  obtain⟨q,hq⟩:=hF.key p hp
  exact fr' _ _ _ hq
 have dis:=m.fans.dis
 rw[List.pairwise_cons,List.pairwise_cons] at dis
 obtain⟨d0,d1,d2⟩:=dis
 have dF:∀G∈F0::fs,∀p∈F,p∉G:=by
  intro G hG p hp hpG
  rcases List.mem_cons.mp hG with rfl|h
  ·exact d0 F (by simp) p hpG hp
  ·exact d1 G h p hp hpG
 refine⟨qE m.good fr',?_,?_⟩
 ·rw[eE]
  refine⟨fun G hG=>?_,fun p ⟨q,hq⟩=>?_,?_⟩
  ·refine qI k fr' hv (m.fans.fan G ?_) (dF G hG)
   rcases List.mem_cons.mp hG with rfl|h
   ·simp
   ·exact List.mem_cons_of_mem _ (List.mem_cons_of_mem _ h)
  ·obtain⟨h1,h2⟩:=(eT k fr' hv).mp hq
   obtain⟨G,hG,hp⟩:=m.fans.all p ⟨q,h1⟩
   rcases List.mem_cons.mp hG with rfl|h
   ·exact⟨G,by simp,hp⟩
   ·rcases List.mem_cons.mp h with rfl|h
    ·exact (h2 hp).elim
    ·exact⟨G,List.mem_cons_of_mem _ h,hp⟩
  ·rw[List.pairwise_cons]
   exact⟨fun G hG=>d0 G (List.mem_cons_of_mem _ hG),d2⟩
 ·rintro u ⟨p,q,h⟩
  rw[eE] at h ⊢
  by_cases hun:u=n
  ·subst hun
   exact .inr (.inr (p5 k fr' hF))
  ·obtain⟨a,b,c,h,e1,_,_⟩:=h
   have ea:u=a:=by rw[e1];exact cz (by rw[←e1];exact hun)
   subst ea
   rcases m.oth u ⟨b,c,h⟩ with h1|h1|h1
   ·exact .inl h1
   ·exact .inr (.inl h1)
   ·by_cases huv:u=v
    ·exact .inl huv
    ·exact .inr (.inr (oF k fr' hF hv huv hun h1))
theorem sX {ts:List Tri} {v:Nat} {F0:List Nat} {rest:List Nat} (m:Mid ts v F0 [] rest) (u:Nat) (hu:Co ts u):u∈rest∨One (En ts) u:=by
 rcases m.oth u hu with rfl|h
 ·refine .inr ⟨F0,m.fans.fan F0 (by simp),fun p hp=>?_⟩
  obtain⟨G,hG,h⟩:=m.fans.all p hp
  rw[List.mem_singleton.mp hG] at h
  exact h
 ·exact h
theorem oQ {ts:List Tri} {v:Nat} {F0:List Nat} {fs:List (List Nat)} {rest:List Nat} (g:Good ts) (h:Fans (En ts) v (F0::fs)) (o:∀u,Co ts u→u∈v::rest∨One (En ts) u):Mid ts v F0 fs rest:=
 ⟨g,h,fun u hu=>(o u hu).elim (fun z=>(List.mem_cons.mp z).elim .inl fun z=>.inr (.inl z)) fun z=>.inr (.inr z)⟩
theorem qq {ts:List Tri} {v:Nat} {rest:List Nat} (h:Fans (En ts) v []) (o:∀u,Co ts u→u∈v::rest∨One (En ts) u) (u:Nat) (hu:Co ts u):u∈rest∨One (En ts) u:=by
 rcases o u hu with z|z
 ·rcases List.mem_cons.mp z with rfl|z
  ·obtain⟨p,q,hp⟩:=hu
   obtain⟨G,hG,_⟩:=h.all p ⟨q,hp⟩
   cases hG
  ·exact .inl z
 ·exact .inr z
theorem aW {ts:List Tri} {u:Nat}:Co ts u↔∃t∈ts,u=t.1∨u=t.2.1∨u=t.2.2:=by
 constructor
 ·rintro⟨p,q,h⟩
  rcases bm.mp h with h|h|h
  ·exact⟨_,h,.inl rfl⟩
  ·exact⟨_,h,.inr (.inl rfl)⟩
  ·exact⟨_,h,.inr (.inr rfl)⟩
 ·rintro⟨⟨a,b,c⟩,h,rfl|rfl|rfl⟩
  ·exact⟨b,c,bm.mpr (.inl h)⟩
  ·exact⟨c,a,bm.mpr (.inr (.inl h))⟩
  ·exact⟨a,b,bm.mpr (.inr (.inr h))⟩
end K15
end
section
namespace L2
open PySem PySem.Spec PyProof.Rows
section
variable {X:Cx}
theorem Inv.bareTup {pins:List (Addr × Obj)} {σ:St} {H:Hp} {s:Shared} {a:Addr} {xs:List V} (I:Inv X pins σ H s) (h:Rd H a (.tup xs)) :
  s.TypeIs (.ref a) "tuple"∧∃ob,s.heap.get? a=some ob∧ob.dict=none:=by
 obtain⟨⟨_,b⟩,its,r,p⟩:=h.ok I.hok
 exact⟨p.typeIs,b⟩
def tTM (r:V→List V→Hp→VK→Prop) (to:TE) (t:TA):TE:=fun σ H Q=>to σ H fun x H1=>(∃a xs,x=.ref a∧Rd H1 a (.tup xs))∧t σ H1 fun vs H2=>r x vs H2 Q
theorem vM {o e:Expr} {es:List Expr} {to:TE} {t:TA} {name:Str} {apos cpos:Pos} {id:String} {r:V→List V→Hp→VK→Prop} (pa:PlainAttrs "tuple") (slot:Slot "tuple" name id) (hty:typeOf (.builtin id)=pure (.type "method_descriptor")) (hm:MtM X id r) (ho:PE X o to) (ha:PA X (e::es) t)
  (hbase:attributeBase o name X.env (eval o X.env)=eval o X.env:=by rfl)
  (hfew:((backTo cpos (starEach (e::es) X.env)).all (fun x=>!x.1)&&(backToKw cpos (keywordEach [] X.env)).all (fun x=>x.1.isSome)
   && decide ((e::es).length+([]:List Keyword).length+(if ([]:List Keyword).isEmpty then 0 else 1) < 30))=true:=by rfl)
  (hline:(apos.endLine==cpos.line)=true:=by rfl) (hs:starEach (e::es) X.env=(false,eval e X.env)::starEach es X.env:=by rfl) (hplain:(backTo cpos (starEach es X.env)).any (·.1)=false:=by rfl) :
  PE X (.Call (.Attribute o name apos) (e::es) [] cpos) (tTM r to t):=by
 intro pins s σ H Q I h
 refine wpAny_Call_method_late hbase hfew hline rfl (thn (ho pins s σ H _ I h) fun v s1 ⟨x,H1,I1,r1,⟨a,xs,ex,hx⟩,q1⟩=>?_)
 subst ex
 obtain rfl:v=Value.ref a:=r1
 obtain⟨h1,h2⟩:=I1.bareTup hx
 refine⟨"tuple",id,pa,slot,hty,h1,fun b e=>by cases e;exact h2,?_⟩
 have hA:=ha cpos pins s1 σ H1 _ I1 q1
 rw[hs] at hA ⊢
 refine Calls.callWith_builtin (by show (false||(backTo cpos (starEach es X.env)).any (·.1))=false;rw[hplain] <;> rfl) (Calls.evalArgs_plain ?_)
 exact thn hA fun us s2 ⟨vs,H2,I2,r2,q2⟩=>hm pins s2 σ H2 (.ref a) vs (.ref a) us Q I2 rfl r2 q2
end
end L2
end
section
namespace K15
open PySem L2 K51 K31
theorem nv {A B:TS} {D:Ends} {σ:St} {H:Hp} (R:St→Hp→Prop) (hA:∀NX:St→Hp→Prop,(∀σ H,R σ H→NX σ H)→A {D with nx:=NX} σ H) (hB:∀σ H,R σ H→B D σ H):tSeq A B D σ H:=hA (B D) hB
theorem rD {x:V} {i:Nat} {B:TS} {D:Ends} {σ:St} {H:Hp} (h:B D (σ.set i (some x)) H):tSeq (tAsg (tC x) (cF i)) B D σ H:=h
theorem rY {v n a b c:Nat} {F:List Nat} (h1:a=v→b∉F) (h2:b=v→c∉F) (h3:c=v→a∉F):rn v n F a b=a∧rn v n F b c=b∧rn v n F c a=c:=by
 unfold rn
 exact⟨if_neg fun z=>h1 z.1 z.2,if_neg fun z=>h2 z.1 z.2,if_neg fun z=>h3 z.1 z.2⟩
theorem uw {v n a b c:Nat} {F:List Nat} (h:a=v∧b∈F∨b=v∧c∈F∨c=v∧a∈F) (n1:a≠b) (n2:b≠c) (n3:c≠a) :
  rn v n F a b=(if a=v then n else a)∧rn v n F b c=(if b=v then n else b)∧rn v n F c a=if c=v then n else c:=by
 unfold rn
 rcases h with ⟨rfl,h⟩|⟨rfl,h⟩|⟨rfl,h⟩
 ·exact⟨by rw[if_pos ⟨rfl,h⟩,if_pos rfl],by rw[if_neg fun z=>n1 z.1.symm,if_neg fun z=>n1 z.symm],by rw[if_neg fun z=>n3 z.1,if_neg n3]⟩
 ·exact⟨by rw[if_neg fun z=>n1 z.1,if_neg n1],by rw[if_pos ⟨rfl,h⟩,if_pos rfl],by rw[if_neg fun z=>n2 z.1.symm,if_neg fun z=>n2 z.symm]⟩
 ·exact⟨by rw[if_neg fun z=>n3 z.1.symm,if_neg fun z=>n3 z.symm],by rw[if_neg fun z=>n2 z.1,if_neg n2],by rw[if_pos ⟨rfl,h⟩,if_pos rfl]⟩
def gZ:Sp:=fun vs H Q _=>∃(T:Addr) (vt:List V) (ts:List Tri),vs=[.ref T]∧H T=some (.lst vt)∧aA H vt ts∧ts.length≤20∧Good ts ∧
 ∀r vr ts' H',Same H H'→H' r=some (.lst vr)→aA H' vr ts'→ts'.length=ts.length→Good ts'→(∀u,Co ts' u→One (En ts') u)→Q (.ref r) H'
section
variable {P:Program} {w:World} {K:W.Frag} {mg:Str→Option Value} {base:Heap}
theorem cL:aC ["_law_triples","_law_corner","_law_fan","_law_new","_law_made","_law_triple","_law_at_here"] ["_law_triples"] (af dw):=⟨rfl,rfl,rfl,by decide +kernel,rfl,by decide +kernel,by decide +kernel⟩
theorem p_ {f f1 f2:Addr} {fd d1 d2:FuncData} (U:Fun K "_law_split" "_law_split" dw f fd) (T:TxtN mg) (mM:mg "max" = none)
  (G1:FnOk P w K mg base CX0 2 f1 d1 ["_law_triples"] cG) (b1:Binds K d1 ["_law_triples"] []) (m1:mg "_law_corners" = some (.ref f1)) (k1:W.keepIn K (.ref f1)=true)
  (G2:FnOk P w K mg base CX0 2 f2 d2 ["_law_triples","_law_corner"] lX) (b2:Binds K d2 ["_law_triples","_law_corner"] []) (m2:mg "_law_fans" = some (.ref f2)) (k2:W.keepIn K (.ref f2)=true) :
  FnOk P w K mg base CX0 3 f fd ["_law_triples"] gZ:=by
 refine U.ok cL (fun vs H Q E h=>?_) (fun cdv A outer s H vs Q E hr h=>?_)
 ·obtain⟨T,vt,ts,rfl,_⟩:=h
  rfl
 ·obtain⟨T0,vt,ts,rfl,hT,ht,hl,g,q⟩:=h
  have hu:=b_ hr
  refine⟨_,(ae (bd PassesOwn.never rfl (aK (ar G1 hr rfl m1 k1 b1 .nil pass0 (aa (pv 0) ac))) (aq (i:=1) cL.nd rfl (Or.inr rfl)) (ak (bd PassesOwn.never rfl (aK (kO nq (ar G2 hr rfl m2 k2 b2 .nil pass0 (aa (pv 0) (aa (pv 1) ac))) (nK aj) nL)) (aq (i:=2) cL.nd rfl (Or.inl rfl)) (ae (av (i:=3) cL.nd rfl (Or.inr rfl) (az aX (aB (dM rfl) (by rfl) mM PyProof.Rows.boot_max (aa (ar G1 hr rfl m1 k1 b1 .nil pass0 (aa (pv 0) ac)) ac)) aj))
   (ae (av (i:=4) cL.nd rfl (Or.inl rfl) (aV ac))
   (ae (bd PassesOwn.never rfl (aK (pv 0)) (aq (i:=5) cL.nd rfl (Or.inl rfl)) (ae (av (i:=6) cL.nd rfl (Or.inl rfl) aj)
   (ae (cm (aF gz (pv 1) (pv 5) rfl) (ak (av (i:=6) cL.nd rfl (Or.inl rfl) (vM PySem.F.plainAttrs_tuple PySem.F.slot_tuple_index PySem.F.type_tuple_index (oP hr.units) (pv 5) (aa (pv 1) ac)))) aZ)
   (ae (cm (PW.pt (im (aF nN (pv 6) aj (nomark _)) (fQ (aF gz (bq uX (pv 5) (az cJ (az aX (pv 6) aj) aj) (fun _ _=>rfl)) (pv 2) rfl)))) (ak (av (i:=5) cL.nd rfl (Or.inl rfl) (aO cT (by rfl) T.tuple PyProof.Rows.boot_tuple (aa (bJ (N:=["_law_one","_law_new","_law_corner"]) (fr:=[none,some 3,some 1]) (te:=tOp (rIxL K) (tLst (dn (tVar 0) (dn (tVar 1) tNil))) (tCB (fun xs H Q=>(∃i,xs=[.int i]∧Q (.int i) H)∨∃k,xs=[.bl k]∧Q (.int (if k then 1 else 0)) H) (dn (tOp rEq (tVar 0) (tVar 2)) tNil))) (aJ (by decide +kernel) rfl rfl (by decide +kernel) (by decide +kernel) (by
      intro y hy e
      simp only[List.mem_cons,List.not_mem_nil,or_false] at hy
      rcases hy with rfl|rfl|rfl|rfl|rfl
      all_goals first|(cases e;done)|exact .inl rfl) (by
      intro j i y e1 e2
      match j,e1,e2 with
      |0,e1,_=>simp at e1
      |1,e1,e2=>simp at e1 e2;subst e1 e2;exact⟨rfl,rfl⟩
      |2,e1,e2=>simp at e1 e2;subst e1 e2;exact⟨rfl,rfl⟩
      |j+3,e1,_=>simp at e1)) rfl (jZ (pv 5))
     (fun C' s' H' fp pins=>⟨aq (i:=0) (show (["_law_one","_law_new","_law_corner"]:List Str).Nodup by decide +kernel) rfl (Or.inl rfl) (.inr rfl),cf,bq aL (aV (aa (pv 0) (aa (pv 1) ac))) (aO e6 (by rfl) T.int PyProof.Rows.boot_int (aa (eW iq (pv 0) (pv 2) (nomark _)) ac)) (fun _ _=>rfl)⟩)) ac)))) aZ)
   (ak (aT (bU PySem.F.plainAttrs_list PySem.F.slot_list_append PySem.F.type_list_append aR (pv 4) (aa (pv 5) ac))))))))
   (ak (av (i:=0) cL.nd rfl (Or.inl rfl) (pv 4)))))))))
   (ak (aD (pv 0)))),?_⟩
  have hline:=line5000
  refine⟨_,rfl,T0,vt,ts,rfl,hT,ht,hl,fun r0 cs H1 hr0 s1 y1 hcs hcl=>?_⟩
  refine⟨r0,rfl,⟨_,SqL.of y1⟩,bj (K:=K) (a:=r0) (xs:=nV cs) (fun i σ H'=>∃v1 v2 v3 v4 v5 v6 Tc vc tc,σ=[some (V.ref Tc),v1,v2,v3,v4,v5,v6]∧Same H1 H'∧H' Tc=some (.lst vc)∧aA H' vc tc∧tc.length=ts.length∧Good tc∧∀u,Co tc u→u∈cs.drop i∨One (En tc) u)
   ⟨none,none,none,none,none,none,T0,vt,ts,rfl,Same.refl _,s1 _ _ hT,ht.same s1,rfl,g,fun u hu=>.inl ?_⟩ (fun i σ H' _ ⟨_,_,_,_,_,_,_,_,_,_,e,_⟩=>SqL.of (e _ _ y1)) ?_ ?_⟩
  ·rw[List.drop_zero,hcs.2]
   obtain⟨t,htm,hu⟩:=aW.mp hu
   exact List.mem_flatMap.mpr ⟨t,htm,by simpa using hu⟩
  ·rintro i x σ H2 hi ⟨v1,v2,v3,v4,v5,v6,Tc,vc,tc,rfl,sm2,hTc,htc,hlc,gc,oc⟩
   rw[nV,List.getElem?_map] at hi
   obtain⟨v,hv,rfl⟩:=Option.map_eq_some_iff.mp hi
   have hil:=(List.getElem?_eq_some_iff.mp hv).1
   have edr:cs.drop i=v::cs.drop (i+1):=by
    rw[List.drop_eq_getElem_cons hil,(List.getElem?_eq_some_iff.mp hv).2]
   rw[edr] at oc
   refine⟨_,rfl,_,rfl,Tc,vc,tc,v,rfl,hTc,htc,by omega,gc,fun r gs fs H3 hr3 s3 y3 lps hfn hfl=>?_⟩
   refine⟨1,rfl,r,gs,rfl,SqL.of y3,fun p hp=>?_⟩
   rw[show cutV gs (some 1) none=gs.drop 1 from q_ gs 1]
   (generalize z:upd H3 p _=H4;have s4:=ah hp z;have y4:=ai z;clear z)
   have sm4:=(sm2.trans s3).trans s4
   cases fs with
   |nil=>
    cases lps
    refine⟨p,rfl,⟨_,SqL.of y4⟩,bj (K:=K) (a:=p) (xs:=[]) (fun j σ H'=>σ=[some (V.ref Tc),some (.int (v:Int)),v2,v3,v4,v5,v6]∧H' = H4) ⟨rfl,rfl⟩ (fun j σ H' _ ⟨_,e⟩=>by rw[e];exact SqL.of y4) (fun j x σ H' h=>by simp at h) ?_⟩
    rintro σ H' ⟨rfl,rfl⟩
    exact⟨_,_,_,_,_,_,Tc,vc,tc,rfl,sm4,s4 _ _ (s3 _ _ hTc),(htc.same s3).same s4,hlc,gc,qq hfn oc⟩
   |cons F0 fs=>
    obtain⟨g0,gs,rfl,hg0,hgs⟩:∃g0 gs',gs=g0::gs'∧LpAt H3 g0 F0∧gd H3 gs' fs:=by
     cases lps with
     |cons a b=>exact⟨_,_,rfl,a,b⟩
    refine⟨p,rfl,⟨_,SqL.of y4⟩,bj (K:=K) (a:=p) (xs:=gs) (fun j σ H'=>∃v2 v3 v4 v5 v6 Tc vc tc,σ=[some (V.ref Tc),some (.int (v:Int)),v2,v3,v4,v5,v6]∧Same H4 H'∧H' Tc=some (.lst vc)∧aA H' vc tc∧tc.length=ts.length∧Mid tc v F0 (fs.drop j) (cs.drop (i+1)))
     ⟨v2,v3,v4,v5,v6,Tc,vc,tc,rfl,Same.refl _,s4 _ _ (s3 _ _ hTc),(htc.same s3).same s4,hlc,oQ gc hfn oc⟩ (fun j σ H' _ ⟨_,_,_,_,_,_,_,_,_,e,_⟩=>SqL.of (e _ _ y4)) ?_ ?_⟩
    ·rintro j x σ H5 hj ⟨v2,v3,v4,v5,v6,Tc,vc,tc,rfl,sm5,hTc,htc,hlc,md⟩
     obtain⟨F,hF,fa,rfl,hfa⟩:=aU hgs hj
     have hjl:=(List.getElem?_eq_some_iff.mp hF).1
     have efs:fs.drop j=F::fs.drop (j+1):=by
      rw[List.drop_eq_getElem_cons hjl,(List.getElem?_eq_some_iff.mp hF).2]
     rw[efs] at md
     have hfa5:=sm5 _ _ (s4 _ _ hfa)
     refine⟨_,rfl,Tc,vc,tc,rfl,hTc,htc,by omega,fun rc cs2 H6 hrc s6 y6 hcs2 hcl2=>?_⟩
     have ev:nV cs2=(cs2.map (fun c:Nat=>(c:Int))).map V.int:=by rw[List.map_map];rfl
     have hco:∀u,Co tc u→u∈cs2:=fun u hu=>by
      rw[hcs2.2]
      obtain⟨t,htm,hu⟩:=aW.mp hu
      exact List.mem_flatMap.mpr ⟨t,htm,by simpa using hu⟩
     have hvc:Co tc v:=by
      have fF:=md.fans.fan F (by simp)
      obtain⟨p,hp⟩:=List.exists_mem_of_ne_nil _ fF.ne
      obtain⟨q,hq⟩:=fF.key p hp
      exact⟨p,q,hq⟩
     refine⟨rc,_,rfl,SqL.of (by rw[y6,ev]),fun z=>?_,fun m hm hmax=>⟨_,_,rfl,rfl,?_⟩⟩
     ·have:=hco v hvc
      rw[List.map_eq_nil_iff.mp z] at this
      cases this
     obtain⟨n0,hn0,rfl⟩:=List.mem_map.mp hm
     have hfr:∀u,Co tc u→u≠n0+1:=fun u hu z=>by
      have:=hmax (u:Int) (List.mem_map.mpr ⟨u,hco u hu,rfl⟩)
      omega
     have en:V.int ((n0:Int)+1)=V.int ((n0+1:Nat):Int):=rfl
     have mdS:=qp md hfr
     have hvn:=hfr v hvc
     generalize n0+1=n at hfr en mdS hvn
     refine⟨Nat.zero_le _,fun mo hmo=>?_⟩
     (generalize z:upd H6 mo _=H7;have s7:=ah hmo z;have y7:=ai z;clear z)
     have hT7:=s7 _ _ (s6 _ _ hTc)
     have ht7:=(htc.same s6).same s7
     refine⟨_,rfl,Tc,rfl,⟨_,SqL.of hT7⟩,bj (K:=K) (a:=Tc) (xs:=vc) (fun k σ H'=>∃v5 v6 vm,σ=[some (V.ref Tc),some (.int (v:Int)),some (.ref fa),some (.int (n:Int)),some (.ref mo),v5,v6]∧Same H6 H'∧H' mo=some (.lst vm)∧aA H' vm ((tc.take k).map (ren v n F)))
      ⟨v5,v6,[],by rw[←en];rfl,s7,y7,.nil⟩ (fun k σ H' _ ⟨_,_,_,_,e,_⟩=>SqL.of (e _ _ (s6 _ _ hTc))) ?_ ?_⟩
     ·rintro k x σ H8 hk ⟨v5,v6,vm,rfl,sm8,hmo8,hvm⟩
      obtain⟨⟨a,b,c⟩,hs,t,rfl,hb⟩:=aU htc hk
      have hb:H5 t=some (.tup [.int (a:Int),.int (b:Int),.int (c:Int)]):=hb
      have hb8:=sm8 _ _ (s6 _ _ hb)
      have hF8:=sm8 _ _ (s6 _ _ hfa5)
      obtain⟨n1,n2,n3⟩:a≠b∧b≠c∧c≠a:=md.good.ne (a,b,c) (List.mem_of_getElem? hs)
      have et:(tc.take (k+1)).map (ren v n F)=(tc.take k).map (ren v n F)++[(rn v n F a b,rn v n F b c,rn v n F c a)]:=by rw[List.take_add_one,hs,List.map_append];rfl
      have vml:vm.length≤20:=by
       rw[ax hvm,List.length_map,List.length_take];omega
      refine rD ?_
      refine nv (fun σ H'=>∃j:Nat,σ=[some (V.ref Tc),some (.int (v:Int)),some (.ref fa),some (.int (n:Int)),some (.ref mo),some (.ref t),some (.int (j:Int))]∧H' = H8∧(j=3∧a≠v∧b≠v∧c≠v∨j=0∧a=v∨j=1∧b=v∨j=2∧c=v)) (fun NX z=>?_) ?_
      ·refine⟨_,rfl,_,rfl,t,_,rfl,.inr (SqT.of hb8),rfl,rfl,_,rfl,?_⟩
       show if (if false=true then _ else inV (V.int (v:Int)) (nV [a,b,c]))=true then _ else _
       rw[if_neg Bool.false_ne_true,eP]
       by_cases hv3:v∈[a,b,c]
       ·rw[decide_eq_true hv3]
        refine iteT ⟨_,rfl,⟨t,_,rfl,.inl hb8⟩,_,rfl,?_⟩
        have dts:Dts K H8 [V.int (a:Int),.int (b:Int),.int (c:Int)] [.int (a:Int),.int (b:Int),.int (c:Int)]:=.cons (.int _) (.cons (.int _) (.cons (.int _) .nil))
        have eqi:∀x y:Nat,PyData.eqv (.int (x:Int)) (.int (y:Int))=decide (x=y):=fun x y=>by
         rw[Bool.eq_iff_iff];simp[PyData.eqv];omega
        have dd:(PyData.int (v:Int)).depth≤60:=by simp[PyData.depth]
        by_cases ha:a=v
        ·exact⟨t,_,_,_,_,0,rfl,rfl,SqT.of hb8,dts,.int _,dd,by simp,by show PyData.eqv (.int (a:Int)) _=true;rw[eqi];exact decide_eq_true ha,fun m hm=>by omega,z _ _ ⟨0,rfl,rfl,.inr (.inl ⟨rfl,ha⟩)⟩⟩
        ·have f0:PyData.eqv (.int (a:Int)) (.int (v:Int))=false:=by rw[eqi];exact decide_eq_false ha
         by_cases hbv:b=v
         ·refine⟨t,_,_,_,_,1,rfl,rfl,SqT.of hb8,dts,.int _,dd,by simp,by show PyData.eqv (.int (b:Int)) _=true;rw[eqi];exact decide_eq_true hbv,fun m hm=>?_,z _ _ ⟨1,rfl,rfl,.inr (.inr (.inl ⟨rfl,hbv⟩))⟩⟩
          obtain rfl:m=0:=by omega
          exact f0
         ·have f1:PyData.eqv (.int (b:Int)) (.int (v:Int))=false:=by rw[eqi];exact decide_eq_false hbv
          have hcv:c=v:=by
           simp only[List.mem_cons,List.not_mem_nil,or_false] at hv3
           rcases hv3 with h|h|h
           ·exact (ha h.symm).elim
           ·exact (hbv h.symm).elim
           ·exact h.symm
          refine⟨t,_,_,_,_,2,rfl,rfl,SqT.of hb8,dts,.int _,dd,by simp,by show PyData.eqv (.int (c:Int)) _=true;rw[eqi];exact decide_eq_true hcv,fun m hm=>?_,z _ _ ⟨2,rfl,rfl,.inr (.inr (.inr ⟨rfl,hcv⟩))⟩⟩
          obtain rfl|rfl:m=0∨m=1:=by omega
          ·exact f0
          ·exact f1
       ·rw[decide_eq_false hv3]
        simp only[List.mem_cons,List.not_mem_nil,or_false,not_or] at hv3
        exact iteF (z _ _ ⟨3,rfl,rfl,.inl ⟨rfl,Ne.symm hv3.1,Ne.symm hv3.2.1,Ne.symm hv3.2.2⟩⟩)
      rintro σ H9 ⟨j,rfl,rfl,hj3⟩
      refine nv (fun σ H'=>∃t' w6,σ=[some (V.ref Tc),some (.int (v:Int)),some (.ref fa),some (.int (n:Int)),some (.ref mo),some (.ref t'),w6]∧Same H9 H'∧H' t' = some (.tup [.int (rn v n F a b:Int),.int (rn v n F b c:Int),.int (rn v n F c a:Int)])) (fun NX z=>?_) ?_
      ·obtain⟨y,hy,hyr⟩:∃y:Nat,(j < 3→atI [V.int (a:Int),.int (b:Int),.int (c:Int)] (((j:Int)+1) % 3)=some (V.int (y:Int)))∧(j < 3→(y∈F→a=v∧b∈F∨b=v∧c∈F∨c=v∧a∈F)∧(y∉F→(a=v→b∉F)∧(b=v→c∉F)∧(c=v→a∉F))):=by
        rcases hj3 with ⟨rfl,_⟩|⟨rfl,h⟩|⟨rfl,h⟩|⟨rfl,h⟩
        ·exact⟨0,fun z=>by omega,fun z=>by omega⟩
        ·exact⟨b,fun _=>bp (j:=1) rfl,fun _=>⟨fun z=>.inl ⟨h,z⟩,fun z=>⟨fun _=>z,fun e=>(n1 (h.trans e.symm)).elim,fun e=>(n3 (e.trans h.symm)).elim⟩⟩⟩
        ·exact⟨c,fun _=>bp (j:=2) rfl,fun _=>⟨fun z=>.inr (.inl ⟨h,z⟩),fun z=>⟨fun e=>(n1 (e.trans h.symm)).elim,fun _=>z,fun e=>(n2 (h.trans e.symm)).elim⟩⟩⟩
        ·exact⟨a,fun _=>bp (j:=0) rfl,fun _=>⟨fun z=>.inr (.inr ⟨h,z⟩),fun z=>⟨fun e=>(n3 (h.trans e.symm)).elim,fun e=>(n2 (e.trans h.symm)).elim,fun _=>z⟩⟩⟩
       have same:(a=v→b∉F)∧(b=v→c∉F)∧(c=v→a∉F)→NX [some (V.ref Tc),some (.int (v:Int)),some (.ref fa),some (.int (n:Int)),some (.ref mo),some (.ref t),some (.int (j:Int))] H9:=fun h=>by
        obtain⟨e1,e2,e3⟩:=rY (n:=n) h.1 h.2.1 h.2.2
        exact z _ _ ⟨t,_,rfl,Same.refl _,by rw[e1,e2,e3];exact hb8⟩
       refine⟨_,rfl,_,_,rfl,rfl,_,rfl,?_⟩
       show if decide ((j:Int) < 3)=true then _ else _
       by_cases hj:j < 3
       ·rw[decide_eq_true (show (j:Int) < 3 by omega)]
        refine iteT ?_
        refine⟨_,rfl,_,rfl,_,_,rfl,rfl,_,_,rfl,rfl,by omega,t,_,_,_,rfl,rfl,SqT.of hb8,hy hj,_,rfl,fa,_,rfl,.inl (SqL.of hF8),rfl,eg _,_,rfl,?_⟩
        show if (if false=true then _ else inV (V.int (y:Int)) (nV F))=true then _ else _
        rw[if_neg Bool.false_ne_true,eP]
        by_cases hyF:y∈F
        ·rw[decide_eq_true hyF]
         refine iteT ?_
         obtain⟨e1,e2,e3⟩:=uw (n:=n) ((hyr hj).1 hyF) n1 n2 n3
         have fv:∀z:Nat,atI [V.int (z:Int),V.int (n:Int)] (if decide ((z:Int)=(v:Int))=true then 1 else 0)=some (V.int ((if z=v then n else z:Nat):Int)):=fun z=>by
          by_cases h:z=v
          ·rw[if_pos (decide_eq_true (by omega)),if_pos h];exact bp (j:=1) rfl
          ·rw[if_neg (by simp;omega),if_neg h];exact bp (j:=0) rfl
         refine⟨_,rfl,t,rfl,⟨_,SqT.of hb8⟩,fun Z hZ=>iM (K:=K) (a:=t) (xs:=nV [a,b,c]) (fun i σ ys H'=>∃o,σ=[o,some (.int (n:Int)),some (.int (v:Int))]∧ys=nV (([a,b,c].take i).map fun z=>if z=v then n else z)∧Same H9 H'∧H' Z=some (.lst ys)) ⟨none,rfl,rfl,ay hZ,al⟩ (fun i σ ys H' _ ⟨_,_,_,e,_⟩=>SqT.of (e _ _ hb8)) ?_ ?_⟩
         ·rintro i x σ ys H' hi ⟨o,rfl,rfl,sm',hZ'⟩
          rw[nV,List.getElem?_map] at hi
          obtain⟨z,hz,rfl⟩:=Option.map_eq_some_iff.mp hi
          have hil:i < 3:=(List.getElem?_eq_some_iff.mp hz).1
          refine⟨_,rfl,_,rfl,lit2,fun l2 hl2=>?_⟩
          (generalize z:upd H' l2 _=H'';have s'':=ah hl2 z;have y'':=ai z;clear z)
          refine⟨_,rfl,_,rfl,rfl,.inr ⟨_,rfl,l2,_,_,V.int ((if z=v then n else z:Nat):Int),rfl,rfl,SqL.of y'',?_,s'' _ _ hZ',?_,_,rfl,?_,fun b' o e=>?_,al⟩⟩
          ·rw[decI];exact fv z
          ·rw[aG,List.length_map,List.length_take];simp;omega
          ·rw[List.take_add_one,hz,List.map_append,←cX];rfl
          ·rw[au (fun q=>by rw[q] at e;rw[e] at hZ;cases hZ)]
           exact s'' _ _ (sm' _ _ e)
         ·rintro σ ys H' ⟨o,rfl,rfl,sm',hZ'⟩
          refine⟨Z,_,rfl,.inl ⟨SqL.of hZ',fun t' ht'=>?_⟩⟩
          exact z _ _ ⟨t',_,rfl,sm'.trans (ay ht'),by rw[al,e1,e2,e3];rfl⟩
        ·rw[decide_eq_false hyF]
         exact iteF (same ((hyr hj).2 hyF))
       ·rw[decide_eq_false (show ¬(j:Int) < 3 by omega)]
        refine iteF (iteF (same ?_))
        rcases hj3 with ⟨_,h1,h2,h3⟩|⟨h,_⟩|⟨h,_⟩|⟨h,_⟩
        ·exact⟨fun z=>(h1 z).elim,fun z=>(h2 z).elim,fun z=>(h3 z).elim⟩
        all_goals omega
      ·rintro σ H10 ⟨t',w6,rfl,sm10,ht'⟩
       have hm10:=sm10 _ _ hmo8
       refine⟨_,rfl,.inl ⟨rfl,_,SqL.of hm10⟩,_,rfl,mo,vm,_,rfl,rfl,hm10,by omega,?_⟩
       (generalize z:upd H10 mo _=H11;have k11:=aH z;have y11:=ai z;clear z)
       refine⟨_,_,_,rfl,fun b' o e=>(k11 b' (ag e hmo)).trans ((sm8.trans sm10) _ _ e),y11,?_⟩
       rw[et]
       have tn:∀{b':Addr} {xs:List V},H10 b' = some (.tup xs)→b'≠mo:=fun e=>bi e hm10 (by simp)
       refine bO (Paired.imp' (fun _ _ ⟨b',e1,e2⟩=>⟨b',e1,(k11 b' (tn (sm10 _ _ e2))).trans (sm10 _ _ e2)⟩) hvm) (.cons ⟨t',rfl,(k11 t' (tn ht')).trans ht'⟩ .nil)
     ·rintro σ H8 ⟨v5,v6,vm,rfl,sm8,hmo8,hvm⟩
      rw[ax htc,List.take_length] at hvm
      exact⟨_,rfl,_,_,_,_,_,mo,vm,_,rfl,(sm5.trans s6).trans sm8,hmo8,hvm,by rw[List.length_map];exact hlc,mdS⟩
    ·rintro σ H5 ⟨v2,v3,v4,v5,v6,Tc,vc,tc,rfl,sm5,hTc,htc,hlc,md⟩
     rw[ax hgs,List.drop_length] at md
     exact⟨_,_,_,_,_,_,Tc,vc,tc,rfl,sm4.trans sm5,hTc,htc,hlc,md.good,sX md⟩
  ·rintro σ H2 ⟨v1,v2,v3,v4,v5,v6,Tc,vc,tc,rfl,sm2,hTc,htc,hlc,gc,oc⟩
   rw[aG,List.drop_length] at oc
   exact⟨_,rfl,q Tc vc tc H2 (s1.trans sm2) hTc htc hlc gc fun u hu=>(oc u hu).resolve_left (by simp)⟩
end
end K15
end
section
namespace K15
open PySem L2 K51 K31
def But (p:Addr) (H H':Hp):Prop:=∀b o,b≠p→H b=some o→H' b=some o
theorem But.refl {p:Addr} {H:Hp}:But p H H:=fun _ _ _ e=>e
theorem But.same {p:Addr} {H H' H'':Hp} (h:But p H H') (s:Same H' H''):But p H H'':=fun b o n e=>s _ _ (h b o n e)
theorem gD {ts ts':List Tri} (g:Good ts) (h:(ents ts').Perm (ents ts)):Good ts':=by
 refine⟨fun t ht=>?_,(h.map _).nodup_iff.mpr g.nd⟩
 have k:=g.sk
 obtain⟨a,b,c⟩:=t
 have e:En ts a b c:=h.mem_iff.mp (bm.mpr (.inl ht))
 exact⟨k.ne e,k.ne (k.rot e),k.ne (k.rot (k.rot e))⟩
theorem lg20 {n:Nat} (h:n≤1000):((n:Int)+1).natAbs.log2 < 9000:=by
 have e:((n:Int)+1).natAbs=n+1:=by omega
 rw[e]
 have:=Nat.log2_lt (n:=n+1) (k:=9000) (by omega)
 rw[this]
 exact Nat.lt_of_lt_of_le (show n+1 < 2 ^ 10 by omega) (Nat.pow_le_pow_right (by decide) (by decide))
theorem nJ {α β:Type} {F:α→β→Prop}:∀{xs:List α} {ys:List β} (k:Nat),Paired F xs ys→Paired F (xs.drop k) (ys.drop k)
 |_,_,0,h=>h
 |_,_,_+1,.nil=>.nil
 |_,_,k+1,.cons _ t=>nJ k t
def ic:Sp:=fun vs H Q _=>∃(p T:Addr) (q:Int × Int) (vt:List V) (ts:List Tri),vs=[.ref p,.ref T]∧H p=some (.lst (potV q))∧br q∧H T=some (.lst vt)∧T≠p∧aA H vt ts∧ts.length≤20 ∧
 ∀r vr ts' q' H',H r=none→But p H H'→H' p=some (.lst (potV q'))→br q'→H' r=some (.lst vr)→aA H' vr ts'→ts'.length=ts.length→(ents ts').Perm (ents ts)→Q (.ref r) H'
section
variable {P:Program} {w:World} {K:W.Frag} {mg:Str→Option Value} {base:Heap}
theorem dO:aC ["_law_pot_here","_law_triples","_law_found","_law_a","_law_b","_law_c","_law_triple"] ["_law_pot_here","_law_triples"] (af cQ):=⟨rfl,rfl,rfl,by decide +kernel,rfl,by decide +kernel,by decide +kernel⟩
theorem oI {f f1:Addr} {fd d1:FuncData} (U:Fun K "_law_handed" "_law_handed" cQ f fd) (T:TxtN mg)
  (GD:FnOk P w K mg base CX0 1 f1 d1 ["_law_pot_here","_law_base"] cZ) (bD:Binds K d1 ["_law_pot_here","_law_base"] []) (mD:mg "_law_digit" = some (.ref f1)) (kD:W.keepIn K (.ref f1)=true) :
  FnOk P w K mg base CX0 2 f fd ["_law_pot_here","_law_triples"] ic:=by
 refine U.ok dO (fun vs H Q E h=>?_) (fun cdv A outer s H vs Q E hr h=>?_)
 ·obtain⟨p,T,q,vt,ts,rfl,_⟩:=h
  rfl
 ·obtain⟨p,T0,q,vt,ts,rfl,hp,pok,hT,nTp,ht,hl,Qq⟩:=h
  have hu:=b_ hr
  refine⟨_,(ae (av (i:=2) dO.nd rfl (Or.inl rfl) (aV ac))
   (ae (bd PassesOwn.never rfl (aK (pv 1)) (bI rfl (aw (aq (i:=3) dO.nd rfl (Or.inl rfl)) (aw (aq (i:=4) dO.nd rfl (Or.inl rfl)) (aw (aq (i:=5) dO.nd rfl (Or.inl rfl)) be)))) (ae (av (i:=6) dO.nd rfl (Or.inl rfl) (bq aL (aV (aa (aE (aa (pv 3) (aa (pv 4) (aa (pv 5) ac)))) (aa (aE (aa (pv 4) (aa (pv 5) (aa (pv 3) ac)))) (aa (aE (aa (pv 5) (aa (pv 3) (aa (pv 4) ac)))) ac)))) (ar GD hr rfl mD kD bD .nil pass0 (aa (pv 0) (aa aj ac))) (fun _ _=>rfl)))
   (ak (aT (bU PySem.F.plainAttrs_list PySem.F.slot_list_insert PySem.F.type_list_insert gA (pv 2) (aa (ar GD hr rfl mD kD bD .nil pass0 (aa (pv 0) (aa (az aX (aB bc (by rfl) T.len PySem.boot_len (aa (pv 2) ac)) aj) ac))) (aa (pv 6) ac)))))))
   (ak (aD (pv 2))))),?_⟩
  have hline:=line5000
  refine⟨Nat.zero_le _,fun fo hfo=>?_⟩
  (generalize z:upd H fo _=H1;have s1:=ah hfo z;have y1:=ai z;clear z)
  have nfp:p≠fo:=ag hp hfo
  refine⟨_,rfl,T0,rfl,⟨_,SqL.of (s1 _ _ hT)⟩,bj (K:=K) (a:=T0) (xs:=vt) (fun i σ H'=>∃oa ob oc ot vf tf q',σ=[some (V.ref p),some (.ref T0),some (.ref fo),oa,ob,oc,ot]∧But p H H'∧H' p=some (.lst (potV q'))∧br q'∧H' fo=some (.lst vf)∧aA H' vf tf∧tf.length=i∧(ents tf).Perm (ents (ts.take i)))
   ⟨none,none,none,none,[],[],q,rfl,But.refl.same s1,s1 _ _ hp,pok,y1,.nil,rfl,by simp[ents]⟩ (fun i σ H' _ ⟨_,_,_,_,_,_,_,_,e,_⟩=>SqL.of (e _ _ nTp hT)) ?_ ?_⟩
  ·rintro i x σ H2 hi ⟨oa,ob,oc,ot,vf,tf,q2,rfl,sm,hp2,pok2,hfo2,hvf,htl,hpm⟩
   obtain⟨⟨a,b,c⟩,hs,t,rfl,hb⟩:=aU ht hi
   have hb:H t=some (.tup [.int (a:Int),.int (b:Int),.int (c:Int)]):=hb
   have hil:i < ts.length:=(List.getElem?_eq_some_iff.mp hs).1
   have hb2:=sm _ _ (bi hb hp (by simp)) hb
   refine⟨t,_,rfl,SqT.of hb2,rfl,_,_,rfl,_,_,rfl,_,_,rfl,rfl,?_⟩
   refine⟨_,rfl,_,rfl,_,rfl,lit3,fun t1 g1=>?_⟩
   (generalize z:upd H2 t1 _=H3;have s3:=ah g1 z;have y3:=ai z;clear z)
   refine⟨_,rfl,_,rfl,_,rfl,lit3,fun t2 g2=>?_⟩
   (generalize z:upd H3 t2 _=H4;have s4:=ah g2 z;have y4:=ai z;clear z)
   refine⟨_,rfl,_,rfl,_,rfl,lit3,fun t3 g3=>?_⟩
   (generalize z:upd H4 t3 _=H5;have s5:=ah g3 z;have y5:=ai z;clear z)
   refine⟨lit3,fun l g4=>?_⟩
   (generalize z:upd H5 l _=H6;have s6:=ah g4 z;have y6:=ai z;clear z)
   have sm26:=((s3.trans s4).trans s5).trans s6
   have hp6:=sm26 _ _ hp2
   have z1:=((s4.trans s5).trans s6) _ _ y3
   have z2:=(s5.trans s6) _ _ y4
   have z3:=s6 _ _ y5
   refine⟨_,rfl,p,q2,3,rfl,hp6,pok2,by decide,by decide +kernel,?_⟩
   (generalize z:upd H6 p _=H7;have k7:=aH z;have y7:=ai z;clear z)
   have nl:l≠p:=fun z=>by rw[z,((s3.trans s4).trans s5) _ _ hp2] at g4;cases g4
   have tn:∀{b':Addr} {xs:List V},H6 b' = some (.tup xs)→b'≠p:=fun e=>bi e hp6 (by simp)
   obtain⟨dp1,dp2⟩:=a_ (q:=q2) (b:=3) (by decide)
   obtain⟨tr,x,hat,htr,hpx⟩:∃(tr:Addr) (x:Tri),atI [V.ref t1,.ref t2,.ref t3] (digO q2 3)=some (.ref tr)∧H6 tr=some (.tup [.int (x.1:Int),.int (x.2.1:Int),.int (x.2.2:Int)])∧(ents [x]).Perm (ents [(a,b,c)]):=by
    obtain h|h|h:digO q2 3=(0:Nat)∨digO q2 3=(1:Nat)∨digO q2 3=(2:Nat):=by omega
    ·rw[h];exact⟨t1,(a,b,c),bp rfl,z1,List.Perm.refl _⟩
    ·rw[h]
     refine⟨t2,(b,c,a),bp rfl,z2,?_⟩
     show List.Perm [((b,c),a),((c,a),b),((a,b),c)] [((a,b),c),((b,c),a),((c,a),b)]
     exact List.perm_append_comm (l₁:=[((b,c),a),((c,a),b)]) (l₂:=[((a,b),c)])
    ·rw[h]
     refine⟨t3,(c,a,b),bp rfl,z3,?_⟩
     show List.Perm [((c,a),b),((a,b),c),((b,c),a)] [((a,b),c),((b,c),a),((c,a),b)]
     exact List.perm_append_comm (l₁:=[((c,a),b)]) (l₂:=[((a,b),c),((b,c),a)])
   refine⟨l,_,_,_,rfl,rfl,SqL.of ((k7 l nl).trans y6),hat,?_⟩
   have hfo7:=(k7 fo (Ne.symm nfp)).trans (sm26 _ _ hfo2)
   have vfl:vf.length=i:=by rw[ax hvf];exact htl
   refine⟨_,rfl,.inl ⟨rfl,_,SqL.of hfo7⟩,_,rfl,_,rfl,fo,vf,rfl,.inl (SqL.of hfo7),_,_,rfl,rfl,p,nxt q2 3,_,rfl,y7,ba pok2,by omega,by rw[vfl];exact lg20 (by omega),?_⟩
   (generalize z:upd H7 p _=H8;have k8:=aH z;have y8:=ai z;clear z)
   obtain⟨dq1,dq2⟩:=a_ (q:=nxt q2 3) (b:=(vf.length:Int)+1) (by omega)
   obtain⟨d,hd⟩:∃d:Nat,digO (nxt q2 3) ((vf.length:Int)+1)=(d:Int):=⟨_,(Int.toNat_of_nonneg dq1).symm⟩
   rw[hd] at dq2 ⊢
   have hfo8:=(k8 fo (Ne.symm nfp)).trans hfo7
   refine⟨_,rfl,fo,vf,d,_,rfl,rfl,hfo8,by omega,by omega,?_⟩
   (generalize z:upd H8 fo _=H9;have k9:=aH z;have y9:=ai z;clear z)
   have keep:∀{b':Addr} {xs:List V},H6 b' = some (.tup xs)→H9 b' = some (.tup xs):=fun e=>(k9 _ (bi e (sm26 _ _ hfo2) (by simp))).trans ((k8 _ (tn e)).trans ((k7 _ (tn e)).trans e))
   refine⟨_,_,_,_,_,tf.take d++x::tf.drop d,_,rfl,fun b' o n e=>?_,(k9 p nfp).trans y8,ba (ba pok2),y9,?_,?_,?_⟩
   ·have e2:=sm26 _ _ (sm _ _ n e)
    exact (k9 b' (ag e hfo)).trans ((k8 b' n).trans ((k7 b' n).trans e2))
   ·have h1:aA H9 vf tf:=Paired.imp' (fun _ _ ⟨b',e1,e2⟩=>⟨b',e1,keep (sm26 _ _ e2)⟩) hvf
    exact bO (nI d h1) (.cons ⟨tr,rfl,keep htr⟩ (nJ d h1))
   ·rw[List.length_append,List.length_cons,List.length_take,List.length_drop];omega
   ·have e1:ts.take (i+1)=ts.take i++[(a,b,c)]:=by rw[List.take_add_one,hs];rfl
    rw[e1,ce,ce]
    have e2:ents (x::tf.drop d)=ents [x]++ents (tf.drop d):=ce [x] _
    rw[e2]
    have e3:(ents tf)=ents (tf.take d)++ents (tf.drop d):=by rw[←ce,List.take_append_drop]
    refine List.Perm.trans ?_ (hpm.append hpx)
    rw[e3,List.append_assoc]
    exact List.Perm.append_left _ List.perm_append_comm
  ·rintro σ H2 ⟨oa,ob,oc,ot,vf,tf,q2,rfl,sm,hp2,pok2,hfo2,hvf,htl,hpm⟩
   rw[ax ht,List.take_length] at hpm
   rw[ax ht] at htl
   exact⟨_,rfl,Qq fo vf tf q2 H2 hfo sm hp2 pok2 hfo2 hvf htl hpm⟩
end
end K15
end
section
namespace K15
open PySem L2 K51 K31
theorem gK {l:List Nat} (nd:l.Nodup) {i a:Nat} (h:l[i]? = some a):a∉l.eraseIdx i∧(l.eraseIdx i).Nodup∧(∀x∈l.eraseIdx i,x∈l)∧(l.eraseIdx i).length=l.length - 1:=by
 have hi:=(List.getElem?_eq_some_iff.mp h).1
 refine⟨fun z=>?_,nd.sublist (List.eraseIdx_sublist l i),fun x hx=>(List.eraseIdx_sublist l i).subset hx,List.length_eraseIdx_of_lt hi⟩
 obtain⟨j,hj⟩:=List.getElem?_of_mem z
 rw[List.getElem?_eraseIdx] at hj
 split at hj
 ·have:=cn nd h hj;omega
 ·have:=cn nd h hj;omega
theorem pops3 {n s0 s1 s2:Nat} (h0:s0 < n) (h1:s1 < n - 1) (h2:s2 < n - 2):∃a b c,(List.range n)[s0]? = some a∧((List.range n).eraseIdx s0)[s1]? = some b∧(((List.range n).eraseIdx s0).eraseIdx s1)[s2]? = some c∧a≠b∧b≠c∧c≠a:=by
 have g0:s0 < (List.range n).length:=by rw[List.length_range];exact h0
 obtain⟨a1,a2,a3,a4⟩:=gK (List.nodup_range (n:=n)) (List.getElem?_eq_getElem g0)
 rw[List.length_range] at a4
 have g1:s1 < ((List.range n).eraseIdx s0).length:=by omega
 obtain⟨b1,b2,b3,b4⟩:=gK a2 (List.getElem?_eq_getElem g1)
 have g2:s2 < (((List.range n).eraseIdx s0).eraseIdx s1).length:=by omega
 refine⟨_,_,_,List.getElem?_eq_getElem g0,List.getElem?_eq_getElem g1,List.getElem?_eq_getElem g2,fun z=>a1 ?_,fun z=>b1 ?_,fun z=>a1 ?_⟩
 ·rw[z];exact List.getElem_mem g1
 ·rw[z];exact List.getElem_mem g2
 ·rw[←z];exact b3 _ (List.getElem_mem g2)
theorem qK (l:List Nat) (k:Nat):(nV l).eraseIdx k=nV (l.eraseIdx k):=by
 induction l generalizing k with
 |nil=>rfl
 |cons a l ih=>
  cases k with
  |zero=>rfl
  |succ k=>
   show _::(nV l).eraseIdx k=_
   rw[ih];rfl
theorem nr {n k:Nat} (h:k < n):seqIndex? (k:Int) n=some k:=by
 refine (j_ ?_).1
 unfold ixN
 rw[if_pos (by omega),if_pos (by omega)];simp
theorem eY {ts:List Tri} {x:Tri} (g:Good ts) (hne:x.1≠x.2.1∧x.2.1≠x.2.2∧x.2.2≠x.1) (hf:gQ ts x=true):Good (ts++[x]):=by
 refine⟨fun t ht=>?_,?_⟩
 ·rcases List.mem_append.mp ht with h|h
  ·exact g.ne t h
  ·rw[List.mem_singleton.mp h];exact hne
 ·rw[ce,List.map_append,List.nodup_append]
  obtain⟨a,b,c⟩:=x
  obtain⟨n1,n2,n3⟩:a≠b∧b≠c∧c≠a:=hne
  have hf':∀s∈bP (a,b,c),s∉(ents ts).map (·.1):=by
   intro s hs
   unfold gQ at hf
   exact of_decide_eq_true (List.all_eq_true.mp hf s hs)
  have ek:(ents [(a,b,c)]).map (·.1)=[(a,b),(b,c),(c,a)]:=rfl
  rw[ek]
  refine⟨g.nd,?_,fun s hs s' hs' z=>hf' s' hs' (z ▸ hs)⟩
  simp[n1,n2,n3,Ne.symm n1,Ne.symm n2,Ne.symm n3]
theorem tP {n:Nat} (h:3≤n):(n:Int) * ((n:Int) - 1) * ((n:Int) - 2)=((n * (n - 1) * (n - 2):Nat):Int):=by
 have e1:(n:Int) - 1=((n - 1:Nat):Int):=by omega
 have e2:(n:Int) - 2=((n - 2:Nat):Int):=by omega
 rw[e1,e2,Int.natCast_mul,Int.natCast_mul]
theorem rC {n:Nat} (h:3≤n):0 < n * (n - 1) * (n - 2):=Nat.mul_pos (Nat.mul_pos (by omega) (by omega)) (by omega)
theorem tO {n:Nat} (h:n≤9):n * (n - 1) * (n - 2)≤504:=Nat.mul_le_mul (Nat.mul_le_mul h (show n - 1≤8 by omega)) (show n - 2≤7 by omega)
theorem kq {n m:Nat} (h:3≤n) (hm:m < n * (n - 1) * (n - 2)):m / n / (n - 1) < n - 2:=by
 rw[Nat.div_div_eq_div_mul]
 exact Nat.div_lt_of_lt_mul hm
def jM:Sp:=fun vs H Q _=>∃(p:Addr) (q:Int × Int) (m:Nat),vs=[.ref p,.int (m:Int)]∧H p=some (.lst (potV q))∧br q∧m≤16 ∧
 ∀r vr ts q' H',H r=none→But p H H'→H' p=some (.lst (potV q'))→br q'→H' r=some (.lst vr)→aA H' vr ts→ts.length≤m→Good ts→Q (.ref r) H'
section
variable {P:Program} {w:World} {K:W.Frag} {mg:Str→Option Value} {base:Heap}
theorem dZ:aC ["_law_pot_here","_law_most","_law_n","_law_triples","_law_k","_law_number","_law_left","_law_triple"] ["_law_pot_here","_law_most"] (af dH):=⟨rfl,rfl,rfl,by decide +kernel,rfl,by decide +kernel,by decide +kernel⟩
theorem qi {f f1 f2 f3:Addr} {fd d1 d2 d3:FuncData} (U:Fun K "_law_drawn" "_law_drawn" dH f fd) (T:TxtN mg)
  (GD:FnOk P w K mg base CX0 2 f1 d1 ["_law_pot_here","_law_base"] cZ) (bD:Binds K d1 ["_law_pot_here","_law_base"] []) (mD:mg "_law_digit" = some (.ref f1)) (kD:W.keepIn K (.ref f1)=true)
  (GT:FnOk P w K mg base CX0 2 f2 d2 ["_law_triples"] cw) (bT:Binds K d2 ["_law_triples"] []) (mT:mg "_law_thirds" = some (.ref f2)) (kT:W.keepIn K (.ref f2)=true)
  (GF:FnOk P w K mg base CX0 2 f3 d3 ["_law_thirds_here","_law_triple"] jK) (bF:Binds K d3 ["_law_thirds_here","_law_triple"] []) (mF:mg "_law_free" = some (.ref f3)) (kF:W.keepIn K (.ref f3)=true) :
  FnOk P w K mg base CX0 3 f fd ["_law_pot_here","_law_most"] jM:=by
 refine U.ok dZ (fun vs H Q E h=>?_) (fun cdv A outer s H vs Q E hr h=>?_)
 ·obtain⟨p,q,m,rfl,_⟩:=h
  rfl
 ·obtain⟨p,q,m,rfl,hp,pok,hm,Qq⟩:=h
  have hu:=b_ hr
  refine⟨_,(ae (av (i:=2) dZ.nd rfl (Or.inl rfl) (az aX aj (ar GD hr rfl mD kD bD .nil pass0 (aa (pv 0) (aa aj ac)))))
   (ae (av (i:=3) dZ.nd rfl (Or.inl rfl) (aV ac))
   (ae (bd PassesOwn.never rfl (dc rfl T.range (aa (ar GD hr rfl mD kD bD .nil pass0 (aa (pv 0) (aa (az aX (pv 1) aj) ac))) ac)) (aq (i:=4) dZ.nd rfl (Or.inl rfl)) (ae (av (i:=5) dZ.nd rfl (Or.inl rfl) (ar GD hr rfl mD kD bD .nil pass0 (aa (pv 0) (aa (az eK (az eK (pv 2) (az fB (pv 2) aj)) (az fB (pv 2) aj)) ac))))
   (ae (av (i:=6) dZ.nd rfl (Or.inr rfl) (aO (i6 rfl) (by rfl) T.list PyProof.Rows.boot_list (aa (aO iR (by rfl) T.range PyProof.Rows.boot_range (aa (pv 2) ac)) ac)))
   (ae (av (i:=7) dZ.nd rfl (Or.inl rfl) (aO cT (by rfl) T.tuple PyProof.Rows.boot_tuple (aa (bJ (N:=["_law_spot","_law_left"]) (fr:=[none,some 6]) (te:=tBM K "list" pO (tVar 1) (dn (tVar 0) tNil)) (aJ (by decide +kernel) rfl rfl (by decide +kernel) (by decide +kernel) (by
      intro y hy e
      simp only[List.mem_cons,List.not_mem_nil,or_false] at hy
      rcases hy with rfl|rfl|rfl
      all_goals first|(cases e;done)|exact .inl rfl) (by
      intro j i y e1 e2
      match j,e1,e2 with
      |0,e1,_=>simp at e1
      |1,e1,e2=>simp at e1 e2;subst e1 e2;exact⟨rfl,rfl⟩
      |j+2,e1,_=>simp at e1)) rfl (aK (aV (aa (az cJ (pv 5) (pv 2)) (aa (az cJ (az dQ (pv 5) (pv 2)) (az fB (pv 2) aj)) (aa (az dQ (az dQ (pv 5) (pv 2)) (az fB (pv 2) aj)) ac)))))
     (fun C' s' H' fp pins=>⟨aq (i:=0) (show (["_law_spot","_law_left"]:List Str).Nodup by decide +kernel) rfl (Or.inl rfl) (.inr rfl),cf,bU PySem.F.plainAttrs_list PySem.F.slot_list_pop PySem.F.type_list_pop k_ (pv 1) (aa (pv 0) ac)⟩)) ac)))
   (ak (cm (dL (ar GF hr rfl mF kF bF .nil pass0 (aa (ar GT hr rfl mT kT bT .nil pass0 (aa (pv 3) ac)) (aa (pv 7) ac)))) (ak (aT (bU PySem.F.plainAttrs_list PySem.F.slot_list_append PySem.F.type_list_append aR (pv 3) (aa (pv 7) ac)))) aZ))))))
   (ak (aD (pv 3)))))),?_⟩
  have hline:=line5000
  obtain⟨d1,d2⟩:=a_ (q:=q) (b:=7) (by decide)
  refine⟨_,rfl,p,q,7,rfl,hp,pok,by decide,by decide +kernel,_,_,rfl,rfl,?_⟩
  (generalize z:upd H p _=H1;have k1:=aH z;have y1:=ai z;clear z)
  obtain⟨n,en,hn3,hn9⟩:∃n:Nat,3+digO q 7=(n:Int)∧3≤n∧n≤9:=⟨(3+digO q 7).toNat,by omega,by omega,by omega⟩
  show cF 2 (V.int (3+digO q 7)) _ _ _
  rw[en]
  refine⟨Nat.zero_le _,fun fo hfo=>?_⟩
  have nfp:p≠fo:=ag y1 hfo
  have hfo0:H fo=none:=(k1 fo (Ne.symm nfp)).symm.trans hfo
  (generalize z:upd H1 fo _=H2;have s2:=ah hfo z;have y2:=ai z;clear z)
  obtain⟨d3,d4⟩:=a_ (q:=nxt q 7) (b:=(m:Int)+1) (by omega)
  refine⟨_,rfl,_,rfl,_,_,rfl,rfl,p,nxt q 7,_,rfl,s2 _ _ y1,ba pok,by omega,lg20 (by omega),_,rfl,by omega,by omega,?_⟩
  (generalize z:upd H2 p _=H3;have k3:=aH z;have y3:=ai z;clear z)
  have hN:(digO (nxt q 7) ((m:Int)+1)).toNat≤m:=by omega
  generalize (digO (nxt q 7) ((m:Int)+1)).toNat=N at hN
  refine dS (lo:=0) (n:=N) (fun i σ H'=>∃o4 o5 o6 o7 vf tf q',σ=[some (V.ref p),some (.int (m:Int)),some (.int (n:Int)),some (.ref fo),o4,o5,o6,o7]∧But p H H'∧H' p=some (.lst (potV q'))∧br q'∧H' fo=some (.lst vf)∧aA H' vf tf∧tf.length≤i∧Good tf)
   ⟨none,none,none,none,[],[],_,rfl,fun b' o nb e=>(k3 b' nb).trans (s2 _ _ ((k1 b' nb).trans e)),y3,ba (ba pok),(k3 fo (Ne.symm nfp)).trans y2,.nil,Nat.le_refl _,⟨by simp,by simp[ents]⟩⟩ ?_ ?_
  ·rintro i σ H4 hi ⟨o4,o5,o6,o7,vf,tf,q4,rfl,sm,hp4,pok4,hfo4,hvf,htl,gf⟩
   have hB:=tP hn3
   have hB0:=rC hn3
   have hB1:=tO hn9
   refine⟨_,rfl,_,rfl,_,rfl,_,_,rfl,rfl,_,_,rfl,rfl,.inl ⟨by omega,by omega⟩,_,rfl,_,_,rfl,rfl,_,_,rfl,rfl,.inr ⟨by omega,by omega⟩,p,q4,_,rfl,hp4,pok4,by rw[hB];omega,de (by rw[hB];omega) (by rw[hB];exact Int.le_trans (show ((n * (n - 1) * (n - 2):Nat):Int)≤504 by omega) (by decide)),?_⟩
   (generalize z:upd H4 p _=H5;have k5:=aH z;have y5:=ai z;clear z)
   obtain⟨d5,d6⟩:=a_ (q:=q4) (b:=(n:Int) * ((n:Int) - 1) * ((n:Int) - 2)) (by rw[hB];omega)
   obtain⟨num,enum⟩:∃num:Nat,digO q4 ((n:Int) * ((n:Int) - 1) * ((n:Int) - 2))=(num:Int):=⟨_,(Int.toNat_of_nonneg d5).symm⟩
   rw[enum] at d6 ⊢
   rw[hB] at d6
   have hnum:num < n * (n - 1) * (n - 2):=by omega
   clear d6 d5
   refine⟨_,rfl,_,rfl,fun ra hra=>?_⟩
   (generalize z:upd H5 ra _=H6;have s6:=ah hra z;have y6:=ai z;clear z)
   refine⟨ra,n,rfl,y6,by omega,fun Lf hLf=>?_⟩
   (generalize z:upd H6 Lf _=H7;have s7:=ah hLf z;have y7:=ai z;clear z)
   have y7:H7 Lf=some (.lst (nV (List.range n))):=y7
   have lgn:(n:Int).natAbs.log2 < 9000:=de (by omega) (Int.le_trans (show (n:Int)≤9 by omega) (by decide))
   have lgn1:((n:Int) - 1).natAbs.log2 < 9000:=de (by omega) (Int.le_trans (show (n:Int) - 1≤9 by omega) (by decide))
   refine⟨_,rfl,_,rfl,_,_,rfl,rfl,by omega,_,rfl,_,rfl,_,_,rfl,rfl,⟨by omega,lgn⟩,_,rfl,_,_,rfl,rfl,_,_,rfl,rfl,by omega,_,rfl,_,rfl,_,_,rfl,rfl,⟨by omega,lgn⟩,_,rfl,_,_,rfl,rfl,_,_,rfl,rfl,⟨by omega,lgn1⟩,lit3,fun dl hdl=>?_⟩
   have ed:([V.int ((num:Int) % (n:Int)),V.int ((num:Int) / (n:Int) % ((n:Int) - 1)),V.int ((num:Int) / (n:Int) / ((n:Int) - 1))]:List V)=nV [num % n,num / n % (n - 1),num / n / (n - 1)]:=by
    have e1:(n:Int) - 1=((n - 1:Nat):Int):=by omega
    rw[e1];rfl
   rw[ed]
   (generalize z:upd H7 dl _=H8;have s8:=ah hdl z;have y8:=ai z;clear z)
   obtain⟨a,b,c,ha,hb,hc,n1,n2,n3⟩:=pops3 (n:=n) (s0:=num % n) (s1:=num / n % (n - 1)) (s2:=num / n / (n - 1)) (Nat.mod_lt _ (by omega)) (Nat.mod_lt _ (by omega)) (kq hn3 hnum)
   have yL:=s8 _ _ y7
   have nLd:dl≠Lf:=Ne.symm (ag y7 hdl)
   refine⟨dl,rfl,⟨_,SqL.of y8⟩,fun Z hZ=>?_⟩
   have nLZ:Lf≠Z:=ag yL hZ
   have nz1:num % n < 100:=Nat.lt_of_lt_of_le (Nat.mod_lt _ (by omega)) (by omega)
   have nz2:num / n % (n - 1) < 100:=Nat.lt_of_lt_of_le (Nat.mod_lt _ (by omega)) (by omega)
   have nz3:num / n / (n - 1) < 100:=Nat.lt_of_lt_of_le (kq hn3 hnum) (by omega)
   have sm6:But p H H6:=fun b' o nb e=>s6 _ _ ((k5 b' nb).trans (sm _ _ nb e))
   have hfo6:H6 fo=some (.lst vf):=s6 _ _ ((k5 fo (Ne.symm nfp)).trans hfo4)
   have hp6:=s6 _ _ y5
   have hvf6:aA H6 vf tf:=Paired.imp' (fun _ _ ⟨b',e1,e2⟩=>⟨b',e1,s6 _ _ ((k5 b' (bi e2 hp4 (by simp))).trans e2)⟩) hvf
   generalize num % n=s0 at *
   generalize num / n % (n - 1)=s1 at *
   generalize num / n / (n - 1)=s2' at *
   refine bf (K:=K) (a:=dl) (xs:=nV [s0,s1,s2']) (fun i σ ys H'=>∃o l,σ=[o,some (V.ref Lf)]∧(i=0∧l=List.range n∧ys=[]∨i=1∧l=(List.range n).eraseIdx s0∧ys=nV [a]∨i=2∧l=((List.range n).eraseIdx s0).eraseIdx s1∧ys=nV [a,b]∨i=3∧ys=nV [a,b,c])∧But Lf H8 H'∧H' Lf=some (.lst (nV l))∧H' Z=some (.lst ys))
    ⟨none,_,rfl,.inl ⟨rfl,rfl,rfl⟩,But.refl.same (ay hZ),ay hZ _ _ yL,al⟩ (fun i σ ys H' _ ⟨_,_,_,_,e,_⟩=>SqL.of (e _ _ nLd y8)) ?_ ?_
   ·rintro i x σ ys H' hi ⟨o,l,rfl,hc3,bt,hL',hZ'⟩
    rw[nV,List.getElem?_map] at hi
    obtain⟨s,hs,rfl⟩:=Option.map_eq_some_iff.mp hi
    obtain⟨y,hy,hs100,hyl,hnext⟩:∃y:Nat,l[s]? = some y∧s < 100∧ys.length≤3∧(i+1=0∧l.eraseIdx s=List.range n∧ys++[V.int (y:Int)]=[]∨i+1=1∧l.eraseIdx s=(List.range n).eraseIdx s0∧ys++[V.int (y:Int)]=nV [a]∨i+1=2∧l.eraseIdx s=((List.range n).eraseIdx s0).eraseIdx s1∧ys++[V.int (y:Int)]=nV [a,b]∨i+1=3∧ys++[V.int (y:Int)]=nV [a,b,c]):=by
     rcases hc3 with ⟨rfl,rfl,rfl⟩|⟨rfl,rfl,rfl⟩|⟨rfl,rfl,rfl⟩|⟨rfl,rfl⟩
     ·cases hs;exact⟨a,ha,nz1,by simp,.inr (.inl ⟨rfl,rfl,rfl⟩)⟩
     ·cases hs;exact⟨b,hb,nz2,by simp[nV],.inr (.inr (.inl ⟨rfl,rfl,rfl⟩))⟩
     ·cases hs;exact⟨c,hc,nz3,by simp[nV],.inr (.inr (.inr ⟨rfl,rfl⟩))⟩
     ·cases hs
    have hsl:=(List.getElem?_eq_some_iff.mp hy).1
    refine⟨_,rfl,.inl ⟨rfl,_,SqL.of hL'⟩,_,rfl,Lf,nV l,(s:Int),s,V.int (y:Int),rfl,rfl,hL',by omega,by omega,nr (by rw[aG];exact hsl),by rw[nV,List.getElem?_map,hy];rfl,?_⟩
    (generalize z:upd H' Lf _=H'';have k'':=aH z;have y'':=ai z;clear z)
    refine⟨(k'' Z (Ne.symm nLZ)).trans hZ',by omega,_,_,rfl,hnext,fun b' o nb e=>?_,?_,al⟩
    ·rw[au (ag e hZ)]
     exact (k'' b' nb).trans (bt _ _ nb e)
    ·rw[au nLZ,y'',qK]
   ·rintro σ ys H' ⟨o,l,rfl,hc3,bt,hL',hZ'⟩
    obtain rfl:ys=nV [a,b,c]:=by
     have e3:(nV [s0,s1,s2']).length=3:=rfl
     rw[e3] at hc3
     rcases hc3 with ⟨h,_⟩|⟨h,_⟩|⟨h,_⟩|⟨_,h⟩
     ·cases h
     ·cases h
     ·cases h
     ·exact h
    refine⟨Z,_,rfl,.inl ⟨SqL.of hZ',fun t ht=>?_⟩⟩
    (generalize z:upd H' t _=H9;have s9:=ah ht z;have y9:=ai z;clear z)
    have st9:Same H6 H9:=fun b' o e=>s9 _ _ (bt _ _ (ag e hLf) (s8 _ _ (s7 _ _ e)))
    refine⟨_,rfl,fo,vf,tf,rfl,st9 _ _ hfo6,hvf6.same st9,by omega,gf.nd,fun D H10 hD0 s10 hD=>?_⟩
    refine⟨_,rfl,D,t,tf,(a,b,c),rfl,hD,s10 _ _ y9,fun H11 s11=>?_⟩
    have st:=(st9.trans s10).trans s11
    have y11:=s11 _ _ (s10 _ _ y9)
    refine⟨_,rfl,?_⟩
    cases hfr:gQ tf (a,b,c) with
    |false=>
     exact iteF ⟨_,_,_,_,vf,tf,_,rfl,fun b' o nb e=>st _ _ (sm6 _ _ nb e),st _ _ hp6,ba pok4,st _ _ hfo6,hvf6.same st,by omega,gf⟩
    |true=>
     have hfo11:=st _ _ hfo6
     refine iteT ⟨_,rfl,.inl ⟨rfl,_,SqL.of hfo11⟩,_,rfl,fo,vf,_,rfl,rfl,hfo11,by rw[ax hvf];omega,?_⟩
     (generalize z:upd H11 fo _=H12;have k12:=aH z;have y12:=ai z;clear z)
     have tn:∀{b':Addr} {xs:List V},H11 b' = some (.tup xs)→b'≠fo:=fun e=>bi e hfo11 (by simp)
     refine⟨_,_,_,_,_,tf++[(a,b,c)],_,rfl,fun b' o nb e=>(k12 b' (ag e hfo0)).trans (st _ _ (sm6 _ _ nb e)),(k12 p nfp).trans (st _ _ hp6),ba pok4,y12,?_,by rw[List.length_append,List.length_singleton];omega,eY gf ⟨n1,n2,n3⟩ hfr⟩
     exact bO (Paired.imp' (fun _ _ ⟨b',e1,e2⟩=>⟨b',e1,(k12 b' (tn (st _ _ e2))).trans (st _ _ e2)⟩) hvf6) (.cons ⟨t,rfl,(k12 t (tn y11)).trans y11⟩ .nil)
  ·rintro σ H4 ⟨o4,o5,o6,o7,vf,tf,q4,rfl,sm,hp4,pok4,hfo4,hvf,htl,gf⟩
   exact⟨_,rfl,Qq fo vf tf q4 H4 hfo0 sm hp4 pok4 hfo4 hvf (by omega) gf⟩
end
end K15
end
section
namespace K15
def nam (f:Nat→Nat) (t:Tri):Tri:=(f t.1,f t.2.1,f t.2.2)
def naE (f:Nat→Nat) (e:Ent):Ent:=((f e.1.1,f e.1.2),f e.2)
theorem iH {f:Nat→Nat} {ts:List Tri}:ents (ts.map (nam f))=(ents ts).map (naE f):=by
 induction ts with
 |nil=>rfl
 |cons t ts ih=>
  have h1:ents ((t::ts).map (nam f))=ents [nam f t]++ents (ts.map (nam f)):=by simp[ents]
  have h2:ents (t::ts)=ents [t]++ents ts:=by simp[ents]
  rw[h1,h2,List.map_append,ih]
  rfl
theorem lE {f:Nat→Nat} {ts:List Tri} (g:Good ts) (inj:∀a b,Co ts a→Co ts b→f a=f b→a=b):Good (ts.map (nam f)):=by
 have k:=g.sk
 refine⟨fun t ht=>?_,?_⟩
 ·obtain⟨⟨a,b,c⟩,h,rfl⟩:=List.mem_map.mp ht
  have ca:Co ts a:=aW.mpr ⟨_,h,.inl rfl⟩
  have cb:Co ts b:=aW.mpr ⟨_,h,.inr (.inl rfl)⟩
  have cc:Co ts c:=aW.mpr ⟨_,h,.inr (.inr rfl)⟩
  obtain⟨n1,n2,n3⟩:a≠b∧b≠c∧c≠a:=g.ne _ h
  exact⟨fun z=>n1 (inj _ _ ca cb z),fun z=>n2 (inj _ _ cb cc z),fun z=>n3 (inj _ _ cc ca z)⟩
 ·rw[iH,List.map_map]
  have nd:=g.nd
  rw[List.Nodup,List.pairwise_map] at nd ⊢
  refine nd.imp_of_mem fun {x y} hx hy h z=>h ?_
  obtain⟨⟨a,b⟩,c⟩:=x
  obtain⟨⟨a',b'⟩,c'⟩:=y
  have z:=Prod.mk.inj z
  have e:En ts a b c:=hx
  have e':En ts a' b' c':=hy
  have z1:f a=f a':=z.1
  have z2:f b=f b':=z.2
  show (a,b)=(a',b')
  rw[inj a a' ⟨b,c,e⟩ ⟨b',c',e'⟩ z1,inj b b' ⟨c,a,k.rot e⟩ ⟨c',a',k.rot e'⟩ z2]
theorem rg {f:Nat→Nat} {ts:List Tri} {u:Nat} (h:Co (ts.map (nam f)) u):∃a,Co ts a∧u=f a:=by
 obtain⟨t,ht,hu⟩:=aW.mp h
 obtain⟨⟨a,b,c⟩,hm,rfl⟩:=List.mem_map.mp ht
 rcases hu with rfl|rfl|rfl
 ·exact⟨a,aW.mpr ⟨_,hm,.inl rfl⟩,rfl⟩
 ·exact⟨b,aW.mpr ⟨_,hm,.inr (.inl rfl)⟩,rfl⟩
 ·exact⟨c,aW.mpr ⟨_,hm,.inr (.inr rfl)⟩,rfl⟩
def Win (w j x:Nat):Prop:=w=0∧x=j∨w=1∧7 * j≤x∧x < 7 * j+7∨w=2∧x+(j+1) * 10 ^ 9+1≤10 ^ 60∧10 ^ 60 < x+(j+2) * 10 ^ 9+1
theorem rH {w i j x:Nat} (h:Win w i x) (h':Win w j x):i=j:=by
 rcases h with ⟨rfl,h⟩|⟨rfl,h1,h2⟩|⟨rfl,h1,h2⟩
 ·rcases h' with ⟨_,h'⟩|⟨z,_⟩|⟨z,_⟩
  ·omega
  ·cases z
  ·cases z
 ·rcases h' with ⟨z,_⟩|⟨_,h3,h4⟩|⟨z,_⟩
  ·cases z
  ·omega
  ·cases z
 ·rcases h' with ⟨z,_⟩|⟨z,_⟩|⟨_,h3,h4⟩
  ·cases z
  ·cases z
  ·omega
theorem ud {w j x:Nat} (hj:j≤100) (h:Win w j x):x < 10 ^ 60:=by
 rcases h with ⟨_,h⟩|⟨_,_,h⟩|⟨_,h,_⟩
 ·omega
 ·omega
 ·omega
end K15
end
section
namespace K15
theorem qQ {f:Nat→Nat} {ts:List Tri} (g:Good ts) (inj:∀a b,Co ts a→Co ts b→f a=f b→a=b) {a b c:Nat} (h:En (ts.map (nam f)) a b c):∃a' b' c',En ts a' b' c'∧a=f a'∧b=f b'∧c=f c':=by
 unfold En at h
 rw[iH] at h
 obtain⟨⟨⟨a',b'⟩,c'⟩,h1,h2⟩:=List.mem_map.mp h
 have h2:=Prod.mk.inj h2
 have h3:=Prod.mk.inj h2.1
 exact⟨a',b',c',h1,h3.1.symm,h3.2.symm,h2.2.symm⟩
theorem qm {f:Nat→Nat} {ts:List Tri} {a b c:Nat} (h:En ts a b c):En (ts.map (nam f)) (f a) (f b) (f c):=by
 unfold En
 rw[iH]
 exact List.mem_map.mpr ⟨_,h,rfl⟩
theorem sM {f:Nat→Nat} {ts:List Tri} (g:Good ts) (inj:∀a b,Co ts a→Co ts b→f a=f b→a=b) {v:Nat} (hv:Co ts v) (h:One (En ts) v):One (En (ts.map (nam f))) (f v):=by
 obtain⟨F,hF,hall⟩:=h
 have k:=g.sk
 have key:∀p∈F,Co ts p:=fun p hp=>by
  obtain⟨q,hq⟩:=hF.key p hp
  exact⟨q,v,k.rot hq⟩
 have nx:∀{x y z:Nat},En ts x y z→Co ts y:=fun {x y z} e=>⟨z,x,k.rot e⟩
 have nx2:∀{x y z:Nat},En ts x y z→Co ts z:=fun {x y z} e=>⟨x,y,k.rot (k.rot e)⟩
 have back:∀{p q:Nat},En (ts.map (nam f)) (f v) p q→∃p' q',En ts v p' q'∧p=f p'∧q=f q':=fun {p q} e=>by
  obtain⟨a',b',c',h1,h2,h3,h4⟩:=qQ g inj e
  have:v=a':=inj v a' hv ⟨b',c',h1⟩ h2
  subst this
  exact⟨b',c',h1,h3,h4⟩
 refine⟨F.map f,⟨fun z=>hF.ne (List.map_eq_nil_iff.mp z),?_,fun i p q hp hq=>?_,fun p hp=>?_,fun p hp q hq hr=>?_,fun p hp o ho=>?_⟩,fun p ⟨q,hq⟩=>?_⟩
 ·have:=hF.nd
  rw[List.Nodup] at this ⊢
  rw[List.pairwise_map]
  exact this.imp_of_mem fun {x y} hx hy hn z=>hn (inj x y (key x hx) (key y hy) z)
 ·rw[List.getElem?_map] at hp hq
  obtain⟨p',h1,rfl⟩:=Option.map_eq_some_iff.mp hp
  obtain⟨q',h2,rfl⟩:=Option.map_eq_some_iff.mp hq
  exact qm (hF.ch i p' q' h1 h2)
 ·obtain⟨p',h1,rfl⟩:=List.mem_map.mp hp
  obtain⟨q,hq⟩:=hF.key p' h1
  exact⟨f q,qm hq⟩
 ·obtain⟨p',h1,rfl⟩:=List.mem_map.mp hp
  obtain⟨p2,q2,e,h2,rfl⟩:=back hq
  have:p' = p2:=inj p' p2 (key p' h1) (nx e) h2
  subst this
  obtain⟨r,hr⟩:=hr
  obtain⟨q3,r3,e3,h3,_⟩:=back hr
  have:q2=q3:=inj q2 q3 (nx2 e) (nx e3) h3
  subst this
  exact List.mem_map.mpr ⟨q2,hF.clF p' h1 q2 e ⟨r3,e3⟩,rfl⟩
 ·obtain⟨p',h1,rfl⟩:=List.mem_map.mp hp
  obtain⟨o2,p2,e,rfl,h2⟩:=back ho
  have:p' = p2:=inj p' p2 (key p' h1) (nx2 e) h2
  subst this
  exact List.mem_map.mpr ⟨o2,hF.clB p' h1 o2 e,rfl⟩
 ·obtain⟨p2,q2,e,rfl,rfl⟩:=back hq
  exact List.mem_map.mpr ⟨p2,hall p2 ⟨q2,e⟩,rfl⟩
theorem jg {E E':Nat→Nat→Nat→Prop} (h:∀a b c,E a b c↔E' a b c) (v:Nat):One E v↔One E' v:=by
 have:E=E':=by funext a b c;exact propext (h a b c)
 rw[this]
theorem gE (a:Tri) (l:List Tri):ents (a::l)=ents [a]++ents l:=by simp[ents]
theorem qO {ts ts':List Tri} (h:ts'.Sublist ts):(ents ts').Sublist (ents ts):=by
 induction h with
 |slnil=>exact List.Sublist.refl _
 |cons a _ ih=>rw[gE a];exact ih.trans (List.sublist_append_right _ _)
 |cons_cons a _ ih=>rw[gE a,gE a];exact List.Sublist.append (List.Sublist.refl _) ih
theorem iF {ts ts':List Tri} (g:Good ts) (h:ts'.Sublist ts):Good ts':=by
 refine⟨fun t ht=>g.ne t (h.subset ht),g.nd.sublist (List.Sublist.map _ ?_)⟩
 exact qO h
theorem qF {as bs:List Tri} (g:Good as) (g':Good bs) (h:∀a,Co as a→¬Co bs a):Good (as++bs):=by
 have e:ents (as++bs)=ents as++ents bs:=by simp[ents]
 refine⟨fun t ht=>(List.mem_append.mp ht).elim (g.ne t) (g'.ne t),?_⟩
 rw[e,List.map_append,List.nodup_append]
 refine⟨g.nd,g'.nd,fun s hs s' hs' z=>?_⟩
 obtain⟨⟨⟨a,b⟩,c⟩,h1,h2⟩:=List.mem_map.mp hs
 obtain⟨⟨⟨a',b'⟩,c'⟩,h1',h2'⟩:=List.mem_map.mp hs'
 have h2:(a,b)=s:=h2
 have h2':(a',b')=s':=h2'
 have:(a,b)=(a',b'):=by rw[h2,h2',z]
 cases this
 exact h a ⟨b,c,h1⟩ ⟨b,c',h1'⟩
theorem oZ {l:List Tri} {a b c n:Nat} (g:Good (l++[(a,b,c)])) (hn:¬Co (l++[(a,b,c)]) n):Good (l++[(a,b,n),(b,c,n),(c,a,n)]):=by
 have e:∀m,ents (l++m)=ents l++ents m:=fun m=>by simp[ents]
 have gl:Good l:=iF g (by simp)
 have nd:=g.nd
 rw[e,List.map_append,List.nodup_append] at nd
 obtain⟨n1,n2,n3⟩:a≠b∧b≠c∧c≠a:=g.ne (a,b,c) (by simp)
 have co:∀x,x=a∨x=b∨x=c→Co (l++[(a,b,c)]) x:=fun x hx=>aW.mpr ⟨(a,b,c),by simp,hx⟩
 have na:n≠a:=fun z=>hn (co n (.inl z))
 have nb:n≠b:=fun z=>hn (co n (.inr (.inl z)))
 have nc:n≠c:=fun z=>hn (co n (.inr (.inr z)))
 have nl:∀s∈(ents l).map (·.1),s.1≠n∧s.2≠n:=fun s hs=>by
  obtain⟨⟨⟨x,y⟩,z⟩,h1,rfl⟩:=List.mem_map.mp hs
  have h1:En l x y z:=h1
  have cx:∀u,Co l u→Co (l++[(a,b,c)]) u:=fun u ⟨p,q,hu⟩=>⟨p,q,by unfold En at *;rw[e];exact List.mem_append_left _ hu⟩
  exact⟨fun w=>hn (w ▸ cx x ⟨y,z,h1⟩),fun w=>hn (w ▸ cx y ⟨z,x,gl.sk.rot h1⟩)⟩
 have dj:∀s∈(ents l).map (·.1),s≠(a,b)∧s≠(b,c)∧s≠(c,a):=fun s hs=>by
  have h:=nd.2.2 s hs
  exact⟨h (a,b) (by simp[ents]),h (b,c) (by simp[ents]),h (c,a) (by simp[ents])⟩
 refine⟨fun t ht=>?_,?_⟩
 ·rcases List.mem_append.mp ht with h|h
  ·exact gl.ne t h
  ·simp only[List.mem_cons,List.not_mem_nil,or_false] at h
   rcases h with rfl|rfl|rfl
   ·exact⟨n1,Ne.symm nb,na⟩
   ·exact⟨n2,Ne.symm nc,nb⟩
   ·exact⟨n3,Ne.symm na,nc⟩
 ·rw[e,List.map_append,List.nodup_append]
  refine⟨gl.nd,?_,fun s hs s' hs' z=>?_⟩
  ·simp[ents,n1,n2,n3,na,nb,nc,Ne.symm n1,Ne.symm n2,Ne.symm n3,Ne.symm na,Ne.symm nb,Ne.symm nc]
  ·subst z
   obtain⟨m1,m2⟩:=nl s hs
   obtain⟨d1,d2,d3⟩:=dj s hs
   simp[ents] at hs'
   rcases hs' with rfl|rfl|rfl|rfl|rfl|rfl|rfl|rfl|rfl
   all_goals first|exact d1 rfl|exact d2 rfl|exact d3 rfl|exact m1 rfl|exact m2 rfl
end K15
end
section
namespace K15
open PySem L2 K51 K31
theorem uZ (cl:List Nat) (d v:Nat):(nV cl).take d++V.int (v:Int)::(nV cl).drop d=nV (cl.take d++v::cl.drop d):=by
 unfold nV
 rw[List.map_append,List.map_cons,List.map_take,List.map_drop]
def nmV (x:Nat × Nat):Key × V:=(Sum.inl (x.1:Int),V.int (x.2:Int))
theorem lN {nm:List (Nat × Nat)} {c:Nat} (h:c∉nm.map (·.1)):valV (nm.map nmV) (Sum.inl (c:Int):Key)=none:=by
 induction nm with
 |nil=>simp[valV]
 |cons x nm ih=>
  rw[List.map_cons,List.mem_cons,not_or] at h
  rw[List.map_cons,bV (fun z=>h.1 ?_)]
  ·exact ih h.2
  ·have:(x.1:Int)=(c:Int):=Sum.inl.inj z
   omega
theorem io {nm:List (Nat × Nat)} {c x:Nat} (h:c∉nm.map (·.1)):putK (nm.map nmV) (Sum.inl (c:Int):Key) (V.int (x:Int))=(nm++[(c,x)]).map nmV:=by
 rw[fR _ (lN h),List.map_append];rfl
def nmF (nm:List (Nat × Nat)) (c:Nat):Nat:=(nm.lookup c).getD 0
theorem eL {nm:List (Nat × Nat)} {c:Nat} (h:c∈nm.map (·.1)):∃k x:Nat,nm[k]? = some (c,x)∧valV (nm.map nmV) (Sum.inl (c:Int):Key)=some (V.int (x:Int))∧nmF nm c=x:=by
 induction nm with
 |nil=>cases h
 |cons y nm ih=>
  obtain⟨c',x⟩:=y
  by_cases e:c' = c
  ·subst e
   exact⟨0,x,rfl,cU (p:=nmV (c',x)) (r:=nm.map nmV) rfl,by simp[nmF]⟩
  ·rw[List.map_cons] at h
   obtain⟨k,x',h1,h2,h3⟩:=ih ((List.mem_cons.mp h).resolve_left fun z=>e z.symm)
   refine⟨k+1,x',h1,?_,?_⟩
   ·rw[List.map_cons,bV (fun z=>e ?_)]
    ·exact h2
    ·have:(c':Int)=(c:Int):=Sum.inl.inj z
     omega
   ·have:(c==c')=false:=by simpa using fun z:c=c'=>e z.symm
    unfold nmF at h3 ⊢
    rw[List.lookup_cons,this]
    exact h3
def jF:Sp:=fun vs H Q _=>∃(p T:Addr) (q:Int × Int) (vt:List V) (ts:List Tri),vs=[.ref p,.ref T]∧H p=some (.lst (potV q))∧br q∧H T=some (.lst vt)∧T≠p∧aA H vt ts∧ts.length≤20∧Good ts ∧
 ∀r vr ts' q' H',H r=none→But p H H'→H' p=some (.lst (potV q'))→br q'→H' r=some (.lst vr)→aA H' vr ts'→ts'.length=ts.length→Good ts'→(∀u,Co ts' u→u < 10 ^ 60)→((∀c,Co ts c→One (En ts) c)→∀c,Co ts' c→One (En ts') c)→Q (.ref r) H'
section
variable {P:Program} {w:World} {K:W.Frag} {mg:Str→Option Value} {base:Heap}
theorem dq:aC ["_law_pot_here","_law_triples","_law_way","_law_corners_here","_law_corner","_law_names","_law_i","_law_far"] ["_law_pot_here","_law_triples"] (af dA):=⟨rfl,rfl,rfl,by decide +kernel,rfl,by decide +kernel,by decide +kernel⟩
theorem qd {f f1 f2:Addr} {fd d1 d2:FuncData} (U:Fun K "_law_named" "_law_named" dA f fd) (T:TxtN mg)
  (GD:FnOk P w K mg base CX0 1 f1 d1 ["_law_pot_here","_law_base"] cZ) (bD:Binds K d1 ["_law_pot_here","_law_base"] []) (mD:mg "_law_digit" = some (.ref f1)) (kD:W.keepIn K (.ref f1)=true)
  (GC:FnOk P w K mg base CX0 1 f2 d2 ["_law_triples"] cG) (bC:Binds K d2 ["_law_triples"] []) (mC:mg "_law_corners" = some (.ref f2)) (kC:W.keepIn K (.ref f2)=true) :
  FnOk P w K mg base CX0 2 f fd ["_law_pot_here","_law_triples"] jF:=by
 refine U.ok dq (fun vs H Q E h=>?_) (fun cdv A outer s H vs Q E hr h=>?_)
 ·obtain⟨p,T,q,vt,ts,rfl,_⟩:=h
  rfl
 ·obtain⟨p,T0,q,vt,ts,rfl,hp,pok,hT,nTp,ht,hl,g,Qq⟩:=h
  have hu:=b_ hr
  refine⟨_,(ae (av (i:=2) dq.nd rfl (Or.inl rfl) (ar GD hr rfl mD kD bD .nil pass0 (aa (pv 0) (aa aj ac))))
   (ae (av (i:=3) dq.nd rfl (Or.inl rfl) (aV ac))
   (ae (bd PassesOwn.never rfl (aK (ar GC hr rfl mC kC bC .nil pass0 (aa (pv 1) ac))) (aq (i:=4) dq.nd rfl (Or.inl rfl)) (ak (aT (bU PySem.F.plainAttrs_list PySem.F.slot_list_insert PySem.F.type_list_insert gA (pv 3) (aa (ar GD hr rfl mD kD bD .nil pass0 (aa (pv 0) (aa (az aX (aB bc (by rfl) T.len PySem.boot_len (aa (pv 3) ac)) aj) ac))) (aa (pv 4) ac))))))
   (ae (av (i:=5) dq.nd rfl (Or.inr rfl) dP)
   (ae (bd PassesOwn.never rfl (j3 rfl T.enum (aa (pv 3) ac)) (bI rfl (aw (aq (i:=6) dq.nd rfl (Or.inl rfl)) (aw (aq (i:=4) dq.nd rfl (Or.inl rfl)) be))) (ae (av (i:=7) dq.nd rfl (Or.inl rfl) (az fB (az fB (az fB (az j6 aj aj) aj) (az eK (az aX (pv 6) aj) (az j6 aj aj))) (ar GD hr rfl mD kD bD .nil pass0 (aa (pv 0) (aa (az j6 aj aj) ac)))))
   (ak (d_ hu (pv 5) (pv 4) (bq aL (aV (aa (pv 6) (aa (az aX (az eK aj (pv 6)) (ar GD hr rfl mD kD bD .nil pass0 (aa (pv 0) (aa aj ac)))) (aa (pv 7) ac)))) (pv 2) (fun _ _=>rfl)) rfl))))
   (ak (aD (bJ (N:=["_law_triple","_law_names"]) (fr:=[none,some 5]) (te:=tCB (fun xs H Q=>∃p ys,xs=[.ref p]∧((SqL K H p ys∧∀l,H l=none→Q (.ref l) (upd H l (.tup ys)))∨(SqT K H p ys∧Q (.ref p) H))) (dn (nj (iTup K (tVar 0)) (cF 0) (fun _ H Q=>Q true H) (pE (tVar 1) (tVar 0)) [none,some 1]) tNil)) (aJ (by decide +kernel) rfl rfl (by decide +kernel) (by decide +kernel) (by
      intro y hy e
      simp only[List.mem_cons,List.not_mem_nil,or_false] at hy
      rcases hy with rfl|rfl|rfl|rfl
      all_goals first|(cases e;done)|exact .inl rfl|exact .inr rfl) (by
      intro j i y e1 e2
      match j,e1,e2 with
      |0,e1,_=>simp at e1
      |1,e1,e2=>simp at e1 e2;subst e1 e2;exact⟨rfl,rfl⟩
      |j+2,e1,_=>simp at e1)) rfl (aK (pv 1))
     (fun C' s' H' fp pins=>⟨aq (i:=0) (show (["_law_triple","_law_names"]:List Str).Nodup by decide +kernel) rfl (Or.inl rfl) (.inr rfl),cf,aO cT (by rfl) T.tuple PyProof.Rows.boot_tuple (aa (bJ (N:=["_law_corner","_law_names"]) (fr:=[none,some 1]) (te:=pE (tVar 1) (tVar 0)) (aJ (by decide +kernel) rfl rfl (by decide +kernel) (by decide +kernel) (by
      intro y hy e
      simp only[List.mem_cons,List.not_mem_nil,or_false] at hy
      rcases hy with rfl|rfl|rfl
      all_goals first|(cases e;done)|exact .inl rfl|exact .inr rfl) (by
      intro j i y e1 e2
      match j,e1,e2 with
      |0,e1,_=>simp at e1
      |1,e1,e2=>simp at e1 e2;subst e1 e2;exact⟨rfl,rfl⟩
      |j+2,e1,_=>simp at e1)) rfl (jZ (pv 0))
     (fun C2 s2 H2 fp2 pins2=>⟨aq (i:=0) (show (["_law_corner","_law_names"]:List Str).Nodup by decide +kernel) rfl (Or.inl rfl) (.inr rfl),cf,c_ hu (pv 1) (pv 0) (fun _ _=>rfl)⟩)) ac)⟩))))))))),?_⟩
  have hline:=line5000
  obtain⟨d1,d2⟩:=a_ (q:=q) (b:=3) (by decide)
  obtain⟨wy,ew⟩:∃wy:Nat,digO q 3=(wy:Int):=⟨_,(Int.toNat_of_nonneg d1).symm⟩
  refine⟨_,rfl,p,q,3,rfl,hp,pok,by decide,by decide +kernel,?_⟩
  (generalize z:upd H p _=H1;have k1:=aH z;have y1:=ai z;clear z)
  rw[ew] at d2 ⊢
  have hwy:wy < 3:=by omega
  refine⟨Nat.zero_le _,fun ch hch=>?_⟩
  have ncp:p≠ch:=ag y1 hch
  have hch0:H ch=none:=(k1 ch (Ne.symm ncp)).symm.trans hch
  (generalize z:upd H1 ch _=H2;have s2:=ah hch z;have y2:=ai z;clear z)
  have hT2:=s2 _ _ ((k1 T0 nTp).trans hT)
  have ht2:aA H2 vt ts:=Paired.imp' (fun _ _ ⟨b',e1,e2⟩=>⟨b',e1,s2 _ _ ((k1 b' (bi e2 hp (by simp))).trans e2)⟩) ht
  refine⟨_,rfl,T0,vt,ts,rfl,hT2,ht2,hl,fun r0 cs H3 hr0 s3 y3 hcs hcl=>?_⟩
  have nrp:r0≠p:=Ne.symm (ag (s2 _ _ y1) hr0)
  have nrc:r0≠ch:=Ne.symm (ag y2 hr0)
  refine⟨r0,rfl,⟨_,SqL.of y3⟩,bj (K:=K) (a:=r0) (xs:=nV cs) (fun i σ H'=>∃o4 cl q',σ=[some (V.ref p),some (.ref T0),some (.int (wy:Int)),some (.ref ch),o4,none,none,none]∧(∀b o,b≠p→b≠ch→H3 b=some o→H' b=some o)∧H' p=some (.lst (potV q'))∧br q'∧H' ch=some (.lst (nV cl))∧cl.Perm (cs.take i))
   ⟨none,[],_,rfl,fun _ _ _ _ e=>e,s3 _ _ (s2 _ _ y1),ba pok,s3 _ _ y2,List.Perm.refl _⟩ (fun i σ H' _ ⟨_,_,_,_,e,_⟩=>SqL.of (e _ _ nrp nrc y3)) ?_ ?_⟩
  ·rintro i x σ H4 hi ⟨o4,cl,q4,rfl,sm,hp4,pok4,hch4,hpm⟩
   rw[nV,List.getElem?_map] at hi
   obtain⟨v,hv,rfl⟩:=Option.map_eq_some_iff.mp hi
   have hil:=(List.getElem?_eq_some_iff.mp hv).1
   have cll:(nV cl).length=i:=by
    rw[aG,hpm.length_eq,List.length_take];omega
   refine⟨_,rfl,.inl ⟨rfl,_,SqL.of hch4⟩,_,rfl,_,rfl,ch,nV cl,rfl,.inl (SqL.of hch4),_,_,rfl,rfl,p,q4,_,rfl,hp4,pok4,by omega,by rw[cll];exact lg20 (by omega),?_⟩
   (generalize z:upd H4 p _=H5;have k5:=aH z;have y5:=ai z;clear z)
   obtain⟨dq1,dq2⟩:=a_ (q:=q4) (b:=((nV cl).length:Int)+1) (by omega)
   obtain⟨d,hd⟩:∃d:Nat,digO q4 (((nV cl).length:Int)+1)=(d:Int):=⟨_,(Int.toNat_of_nonneg dq1).symm⟩
   rw[hd] at dq2 ⊢
   have hch5:=(k5 ch (Ne.symm ncp)).trans hch4
   refine⟨_,rfl,ch,nV cl,d,_,rfl,rfl,hch5,by omega,by omega,?_⟩
   (generalize z:upd H5 ch _=H6;have k6:=aH z;have y6:=ai z;clear z)
   refine⟨_,cl.take d++v::cl.drop d,_,rfl,fun b' o n1 n2 e=>(k6 b' n2).trans ((k5 b' n1).trans (sm _ _ n1 n2 e)),(k6 p ncp).trans y5,ba pok4,by rw[y6,uZ],?_⟩
   have e1:cs.take (i+1)=cs.take i++[v]:=by rw[List.take_add_one,hv];rfl
   rw[e1]
   refine List.Perm.trans List.perm_middle ?_
   rw[List.take_append_drop]
   exact (List.Perm.cons v hpm).trans (List.perm_append_comm (l₁:=[v]) (l₂:=cs.take i))
  ·rintro σ H4 ⟨o4,cl,q4,rfl,sm,hp4,pok4,hch4,hpm⟩
   rw[aG,List.take_length] at hpm
   refine fun Nd hNd=>?_
   (generalize z:upd H4 Nd _=H5;have s5:=ah hNd z;have y5:=ai z;clear z)
   have cll:cl.length≤60:=by rw[hpm.length_eq];exact hcl
   have ndc:cl.Nodup:=hpm.nodup_iff.mpr (hcs.1.imp fun h=>Nat.ne_of_lt h)
   have nNp:p≠Nd:=ag hp4 hNd
   have hch5:=s5 _ _ hch4
   have nNc:ch≠Nd:=ag hch4 hNd
   refine⟨_,rfl,ch,nV cl,rfl,SqL.of hch5,iG (K:=K) (a:=ch) (xs:=nV cl) (fun j σ H'=>∃o4 o6 o7 nm q',σ=[some (V.ref p),some (.ref T0),some (.int (wy:Int)),some (.ref ch),o4,some (.ref Nd),o6,o7]∧(∀b o,b≠p→b≠Nd→H5 b=some o→H' b=some o)∧H' p=some (.lst (potV q'))∧br q'∧H' Nd=some (.dK (nm.map nmV))∧nm.map (·.1)=cl.take j∧∀k c x,nm[k]? = some (c,x)→Win wy k x)
    ⟨_,none,none,[],_,rfl,fun _ _ _ _ e=>e,s5 _ _ hp4,pok4,y5,rfl,fun k c x h=>by simp at h⟩ (fun j σ H' _ ⟨_,_,_,_,_,_,e,_⟩=>SqL.of (e _ _ (Ne.symm ncp) nNc hch5)) ?_ ?_⟩
   ·rintro j x pt σ H6 hj ⟨o4,o6,o7,nm,q6,rfl,sm6,hp6,pok6,hN6,hnm,hwin⟩ hpt
    rw[nV,List.getElem?_map] at hj
    obtain⟨c,hc,rfl⟩:=Option.map_eq_some_iff.mp hj
    have hjl:=(List.getElem?_eq_some_iff.mp hc).1
    (generalize z:upd H6 pt _=H7;have s7:=ah hpt z;have y7:=ai z;clear z)
    refine⟨pt,_,rfl,SqT.of y7,rfl,_,_,rfl,_,_,rfl,rfl,?_⟩
    have cp:∀k:Int,0≤k→k≤100→CPow 10 k:=fun k h1 h2=>⟨h1,by omega,by decide⟩
    have hp7:=s7 _ _ hp6
    refine⟨_,_,rfl,rfl,cp _ (by decide) (by decide),_,_,rfl,rfl,_,rfl,_,_,rfl,rfl,_,_,rfl,rfl,cp _ (by decide) (by decide),_,_,rfl,rfl,.inl ⟨by omega,by omega⟩,_,_,rfl,rfl,_,rfl,_,_,rfl,rfl,cp _ (by decide) (by decide),p,q6,(10:Int) ^ 9,rfl,hp7,pok6,by decide,by decide +kernel,_,_,rfl,rfl,?_⟩
    (generalize z:upd H7 p _=H8;have k8:=aH z;have y8:=ai z;clear z)
    obtain⟨f1,f2⟩:=a_ (q:=q6) (b:=(10:Int) ^ 9) (by decide)
    obtain⟨d9,e9⟩:∃d9:Nat,digO q6 ((10:Int) ^ 9)=(d9:Int):=⟨_,(Int.toNat_of_nonneg f1).symm⟩
    rw[e9] at f2
    have hd9:d9 < 10 ^ 9:=by omega
    show cF 7 (V.int (10 ^ 60 - 1 - ((j:Int)+1) * 10 ^ 9 - digO q6 ((10:Int) ^ 9))) _ _ _
    rw[e9]
    have efar:(10:Int) ^ 60 - 1 - ((j:Int)+1) * 10 ^ 9 - (d9:Int)=((10 ^ 60 - 1 - (j+1) * 10 ^ 9 - d9:Nat):Int):=by omega
    rw[efar]
    refine⟨_,rfl,_,rfl,_,_,rfl,rfl,.inl ⟨by decide,by decide⟩,_,rfl,p,_,7,rfl,y8,ba pok6,by decide,by decide +kernel,_,_,rfl,rfl,?_⟩
    (generalize z:upd H8 p _=H9;have k9:=aH z;have y9:=ai z;clear z)
    obtain⟨f3,f4⟩:=a_ (q:=nxt q6 ((10:Int) ^ 9)) (b:=7) (by decide)
    obtain⟨d7,e7⟩:∃d7:Nat,digO (nxt q6 ((10:Int) ^ 9)) 7=(d7:Int):=⟨_,(Int.toNat_of_nonneg f3).symm⟩
    rw[e7] at f4
    refine⟨_,rfl,lit3,fun l hl9=>?_⟩
    rw[show ([V.int (j:Int),(fun i j=>V.int (i+j)) (7 * (j:Int)) (digO (nxt q6 ((10:Int) ^ 9)) 7),V.int ((10 ^ 60 - 1 - (j+1) * 10 ^ 9 - d9:Nat):Int)]:List V)=nV [j,7 * j+d7,10 ^ 60 - 1 - (j+1) * 10 ^ 9 - d9] by rw[e7];rfl]
    (generalize z:upd H9 l _=H10;have s10:=ah hl9 z;have y10:=ai z;clear z)
    obtain⟨x,hx,hw⟩:∃x:Nat,[j,7 * j+d7,10 ^ 60 - 1 - (j+1) * 10 ^ 9 - d9][wy]? = some x∧Win wy j x:=by
     obtain rfl|rfl|rfl:wy=0∨wy=1∨wy=2:=by omega
     ·exact⟨_,rfl,.inl ⟨rfl,rfl⟩⟩
     ·exact⟨_,rfl,.inr (.inl ⟨rfl,by omega,by omega⟩)⟩
     ·exact⟨_,rfl,.inr (.inr ⟨rfl,by omega,by omega⟩)⟩
    have hN10:H10 Nd=some (.dK (nm.map nmV)):=s10 _ _ ((k9 Nd (Ne.symm nNp)).trans ((k8 Nd (Ne.symm nNp)).trans (s7 _ _ hN6)))
    have nml:nm.length=j:=by
     have:=congrArg List.length hnm
     rw[List.length_map,List.length_take] at this
     omega
    have hcn:c∉nm.map (·.1):=by
     rw[hnm]
     intro z
     obtain⟨k,hk⟩:=List.getElem?_of_mem z
     have hkl:=(List.getElem?_eq_some_iff.mp hk).1
     rw[List.length_take] at hkl
     rw[List.getElem?_take_of_lt (by omega)] at hk
     have:=cn ndc hk hc
     omega
    refine⟨_,rfl,l,_,_,V.int (x:Int),rfl,rfl,SqL.of y10,bp (by rw[nV,List.getElem?_map,hx];rfl),_,rfl,_,rfl,Nd,_,rfl,DPut.k (k:=Sum.inl (c:Int)) hN10 (by rw[List.length_map];omega),?_⟩
    rw[io hcn]
    (generalize z:upd H10 Nd _=H11;have k11:=aH z;have y11:=ai z;clear z)
    refine⟨_,_,_,nm++[(c,x)],_,rfl,fun b' o n1 n2 e=>?_,(k11 p nNp).trans (s10 _ _ y9),ba (ba pok6),y11,?_,fun k c' x' h=>?_⟩
    ·exact (k11 b' n2).trans (s10 _ _ ((k9 b' n1).trans ((k8 b' n1).trans (s7 _ _ (sm6 _ _ n1 n2 e)))))
    ·rw[List.map_append,hnm,List.take_add_one,hc];rfl
    ·by_cases hk:k < nm.length
     ·rw[List.getElem?_append_left hk] at h
      exact hwin k c' x' h
     ·have hk2:=(List.getElem?_eq_some_iff.mp h).1
      rw[List.length_append,List.length_singleton] at hk2
      have ek:k=nm.length:=by omega
      rw[ek,List.getElem?_append_right (Nat.le_refl _),Nat.sub_self] at h
      cases h
      rw[ek,nml];exact hw
   ·rintro σ H6 ⟨o4,o6,o7,nm,q6,rfl,sm6,hp6,pok6,hN6,hnm,hwin⟩
    rw[aG,List.take_length] at hnm
    have st:But p H H6:=fun b' o nb e=>by
     have e3:H3 b' = some o:=s3 _ _ (s2 _ _ ((k1 b' nb).trans e))
     have e4:H4 b' = some o:=sm _ _ nb (ag e hch0) e3
     exact sm6 _ _ nb (ag e4 hNd) (s5 _ _ e4)
    have hT6:=st _ _ nTp hT
    have ht6:aA H6 vt ts:=Paired.imp' (fun _ _ ⟨b',e1,e2⟩=>⟨b',e1,st _ _ (bi e2 hp (by simp)) e2⟩) ht
    have hin:∀c,Co ts c→c∈nm.map (·.1):=fun c hc=>by
     rw[hnm,hpm.mem_iff,hcs.2]
     obtain⟨t,htm,hu⟩:=aW.mp hc
     exact List.mem_flatMap.mpr ⟨t,htm,by simpa using hu⟩
    have nml:nm.length≤60:=by
     have:=congrArg List.length hnm
     rw[List.length_map] at this
     omega
    have inj:∀a b,Co ts a→Co ts b→nmF nm a=nmF nm b→a=b:=fun a b ha hb e=>by
     obtain⟨k,x,h1,_,h3⟩:=eL (hin a ha)
     obtain⟨k',x',h1',_,h3'⟩:=eL (hin b hb)
     have ex:x=x':=by rw[←h3,←h3',e]
     subst ex
     have ek:=rH (hwin _ _ _ h1) (hwin _ _ _ h1')
     subst ek
     rw[h1] at h1'
     exact (Prod.mk.inj (Option.some.inj h1')).1
    have lt60:∀a,Co ts a→nmF nm a < 10 ^ 60:=fun a ha=>by
     obtain⟨k,x,h1,_,h3⟩:=eL (hin a ha)
     have hk:=(List.getElem?_eq_some_iff.mp h1).1
     rw[h3]
     exact ud (by omega) (hwin _ _ _ h1)
    refine⟨_,rfl,T0,rfl,⟨_,SqL.of hT6⟩,fun Z hZ=>bf (K:=K) (a:=T0) (xs:=vt) (fun i σ ys H'=>∃o,σ=[o,some (V.ref Nd)]∧aA H' ys ((ts.take i).map (nam (nmF nm)))∧Same H6 H'∧H' Z=some (.lst ys)) ⟨none,rfl,.nil,ay hZ,al⟩ (fun i σ ys H' _ ⟨_,_,_,e,_⟩=>SqL.of (e _ _ hT6)) ?_ ?_⟩
    ·rintro i x σ ys H' hi ⟨o,rfl,hys,sm',hZ'⟩
     obtain⟨⟨a,b,c⟩,hs,t,rfl,hb⟩:=aU ht6 hi
     have hb:H6 t=some (.tup (nV [a,b,c])):=hb
     have hb':=sm' _ _ hb
     have htm:=List.mem_of_getElem? hs
     have hil:=(List.getElem?_eq_some_iff.mp hs).1
     have ysl:ys.length≤20:=by rw[ax hys,List.length_map,List.length_take];omega
     have cor:∀z∈[a,b,c],Co ts z:=fun z hz=>by
      refine aW.mpr ⟨_,htm,?_⟩
      simpa using hz
     refine⟨_,rfl,t,rfl,⟨_,SqT.of hb'⟩,fun Y hY=>iM (K:=K) (a:=t) (xs:=nV [a,b,c]) (fun k σ ys2 H''=>∃o,σ=[o,some (V.ref Nd)]∧ys2=nV (([a,b,c].take k).map (nmF nm))∧H'' = upd H' Y (.lst ys2)) ⟨none,rfl,rfl,rfl⟩ (fun k σ ys2 H'' _ ⟨_,_,_,e⟩=>by rw[e];exact SqT.of (ay hY _ _ hb')) ?_ ?_⟩
     ·rintro k x σ ys2 H'' hk ⟨o,rfl,rfl,rfl⟩
      rw[nV,List.getElem?_map] at hk
      obtain⟨z,hz,rfl⟩:=Option.map_eq_some_iff.mp hk
      have hkl:k < 3:=(List.getElem?_eq_some_iff.mp hz).1
      obtain⟨_,x',_,h2,h3⟩:=eL (hin z (cor z (List.mem_of_getElem? hz)))
      subst h3
      refine⟨_,rfl,_,rfl,Nd,V.int (nmF nm z:Int),rfl,h2 ▸ DGet.k (k:=Sum.inl (z:Int)) (ay hY _ _ (sm' _ _ hN6)),al,?_,_,rfl,?_,by rw[cv]⟩
      ·rw[aG,List.length_map,List.length_take]
       have:([a,b,c]:List Nat).length=3:=rfl
       omega
      ·rw[List.take_add_one,hz,List.map_append,←cX];rfl
     ·rintro σ ys2 H'' ⟨o,rfl,rfl,rfl⟩
      refine⟨Y,_,rfl,.inl ⟨SqL.of al,fun t' ht'=>?_⟩⟩
      have sY:=ay (o:=.lst (nV (([a,b,c].take (nV [a,b,c]).length).map (nmF nm)))) hY
      generalize upd H' Y (HO.lst (nV (([a,b,c].take (nV [a,b,c]).length).map (nmF nm))))=H8 at ht' sY
      (generalize z:upd H8 t' _=H9;have s9:=ah ht' z;have y9:=ai z;clear z)
      have hZ9:=s9 _ _ (sY _ _ hZ')
      have tn:∀{b':Addr} {xs:List V},H9 b' = some (.tup xs)→b'≠Z:=fun e=>bi e hZ9 (by simp)
      have et:(ts.take (i+1)).map (nam (nmF nm))=(ts.take i).map (nam (nmF nm))++[nam (nmF nm) (a,b,c)]:=by rw[List.take_add_one,hs,List.map_append];rfl
      refine⟨hZ9,by omega,_,rfl,?_,fun b' o e=>?_,al⟩
      ·rw[et]
       refine bO (Paired.imp' (fun _ _ ⟨b',e1,e2⟩=>⟨b',e1,by have e3:=s9 _ _ (sY _ _ e2);rw[au (tn e3)];exact e3⟩) hys) (.cons ⟨t',rfl,by rw[au (tn y9)];exact y9⟩ .nil)
      ·rw[au (ag e hZ)]
       exact s9 _ _ (sY _ _ (sm' _ _ e))
    ·rintro σ ys H' ⟨o,rfl,hys,sm',hZ'⟩
     rw[ax ht6,List.take_length] at hys
     have hZ0:H Z=none:=by
      cases e:H Z with
      |none=>rfl
      |some o=>
       have nZp:Z≠p:=fun z=>by rw[z,hp6] at hZ;cases hZ
       rw[st _ _ nZp e] at hZ;cases hZ
     exact Qq Z ys _ q6 H' hZ0 (st.same sm') (sm' _ _ hp6) pok6 hZ' hys (List.length_map ..) (lE g inj) (fun u hu=>by
      obtain⟨a,ha,rfl⟩:=rg hu
      exact lt60 a ha) fun hall c hc=>by
      obtain⟨a,ha,rfl⟩:=rg hc
      exact sM g inj ha (hall a ha)
end
end K15
end
section
namespace K15
open PySem L2 K51 K31
theorem jr:bootBuiltins "min" = some (.builtin "min"):=by decide +kernel
def Bg (t u:Tri):Prop:=(u=t∨u=(t.2.1,t.2.2,t.1)∨u=(t.2.2,t.1,t.2.1))∧u.1≤u.2.1∧u.1≤u.2.2
def kyT (u:Tri):List Int:=[(u.1:Int),(u.2.1:Int),(u.2.2:Int)]
theorem km {K:W.Frag} {H:Hp} {vs:List V} {us:List Tri} (h:aA H vs us):Tups K H vs (us.map kyT):=by
 induction h with
 |nil=>exact .nil
 |cons q _ ih=>
  obtain⟨a,rfl,ha⟩:=q
  exact .cons ⟨a,rfl,SqT.of ha,by simp[kyT]⟩ ih
theorem ko {H:Hp} {ks:List V} {ss:List Tri} (h:aA H ks ss):∀ix:List Nat,(∀i∈ix,i < ks.length)→aA H (ix.map fun i=>ks.getD i .non) (ix.map fun i=>ss.getD i (0,0,0))
 | [],_=>.nil
 |i::ix,hi=>by
  have hik:=hi i (by simp)
  have h1:ks[i]? = some ks[i]:=List.getElem?_eq_getElem hik
  obtain⟨y,hy,hf⟩:=aU h h1
  refine .cons ?_ (ko h ix fun j hj=>hi j (List.mem_cons_of_mem _ hj))
  simp only[List.getD,h1,hy,Option.getD_some]
  exact hf
end K15
end
section
namespace K15
open PySem L2 K51 K31
structure KitI (K:W.Frag):Prop where
 t:W.kitOne K (.type "tuple") (.type "tuple")=some true
 i:W.kitOne K (.type "int") (.type "int")=some true
 b:W.kitOne K (.type "int") (.type "bool")=some false
def jA:Sp:=fun vs H Q _=>∃n:Int,vs=[.int n]∧Q (.bl true) H
def fu:Sp:=fun vs H Q _=>∃n:Nat,vs=[.int (n:Int)]∧Q (.bl true) H
section
variable {P:Program} {w:World} {K:W.Frag} {mg:Str→Option Value} {base:Heap}
theorem rR:aC ["thing"] ["thing"] (af du):=⟨rfl,rfl,rfl,by decide +kernel,rfl,by decide +kernel,by decide +kernel⟩
theorem p7 {f:Addr} {fd:FuncData} (U:Fun K "is_whole" "is_whole" du f fd) (T:TxtN mg) (F:KitI K):FnOk P w K mg base CX0 1 f fd ["thing"] jA:=by
 refine U.ok rR (fun vs H Q E h=>?_) (fun cdv A outer s H vs Q E hr h=>?_)
 ·obtain⟨n,rfl,_⟩:=h
  rfl
 ·obtain⟨n,rfl,q⟩:=h
  refine⟨_,ak (aD (gw (aB (dW (c:="int")) (by rfl) T.isi PyProof.Rows.boot_isinstance (aa (pv 0) (aa (fS (v:=.ty "int") rfl T.int PyProof.Rows.boot_int rfl) ac)))
   (j4 (uE (aB (dW (c:="bool")) (by rfl) T.isi PyProof.Rows.boot_isinstance (aa (pv 0) (aa (fS (v:=.ty "bool") rfl T.bool PyProof.Rows.boot_bool rfl) ac))))))),?_⟩
  exact⟨_,rfl,_,_,true,rfl,.int n,F.i,true,rfl,iteT ⟨_,rfl,_,_,false,rfl,.int n,F.b,false,rfl,q⟩⟩
theorem ma:aC ["thing"] ["thing"] (af bH):=⟨rfl,rfl,rfl,by decide +kernel,rfl,by decide +kernel,by decide +kernel⟩
theorem kZ {f f1:Addr} {fd d1:FuncData} (U:Fun K "is_corner" "is_corner" bH f fd) (G:FnOk P w K mg base CX0 1 f1 d1 ["thing"] jA) (b1:Binds K d1 ["thing"] []) (m1:mg "is_whole" = some (.ref f1)) (k1:W.keepIn K (.ref f1)=true) :
  FnOk P w K mg base CX0 2 f fd ["thing"] fu:=by
 refine U.ok ma (fun vs H Q E h=>?_) (fun cdv A outer s H vs Q E hr h=>?_)
 ·obtain⟨n,rfl,_⟩:=h
  rfl
 ·obtain⟨n,rfl,q⟩:=h
  refine⟨_,ak (aD (gw (ar G hr rfl m1 k1 b1 .nil pass0 (aa (pv 0) ac)) (j4 (eW vN (pv 0) aj (nomark _))))),?_⟩
  refine⟨_,rfl,(n:Int),rfl,true,rfl,iteT ⟨_,rfl,_,_,rfl,rfl,?_⟩⟩
  show Q (.bl (decide ((n:Int) ≥ 0))) H
  rw[decide_eq_true (by omega)]
  exact q
end
end K15
end
section
namespace K15
open PySem L2 K51 K31
def ft:Sp:=fun vs H Q _=>∃(t:Addr) (x:Tri),vs=[.ref t]∧H t=some (.tup [.int (x.1:Int),.int (x.2.1:Int),.int (x.2.2:Int)])∧(x.1≠x.2.1∧x.2.1≠x.2.2∧x.2.2≠x.1)∧Q (.bl true) H
section
variable {P:Program} {w:World} {K:W.Frag} {mg:Str→Option Value} {base:Heap}
theorem dY:aC ["thing","a","b","c"] ["thing"] (af bE):=⟨rfl,rfl,rfl,by decide +kernel,rfl,by decide +kernel,by decide +kernel⟩
theorem kY {f f1:Addr} {fd d1:FuncData} (U:Fun K "is_triple" "is_triple" bE f fd) (T:TxtN mg) (F:KitI K) (G:FnOk P w K mg base CX0 2 f1 d1 ["thing"] fu) (b1:Binds K d1 ["thing"] []) (m1:mg "is_corner" = some (.ref f1)) (k1:W.keepIn K (.ref f1)=true) :
  FnOk P w K mg base CX0 3 f fd ["thing"] ft:=by
 refine U.ok dY (fun vs H Q E h=>?_) (fun cdv A outer s H vs Q E hr h=>?_)
 ·obtain⟨t,x,rfl,_⟩:=h
  rfl
 ·obtain⟨t,⟨a,b,c⟩,rfl,ht,⟨n1,n2,n3⟩,q⟩:=h
  have ht:H t=some (.tup [.int (a:Int),.int (b:Int),.int (c:Int)]):=ht
  have n1:a≠b:=n1
  have n2:b≠c:=n2
  have n3:c≠a:=n3
  refine⟨_,ae (cm (PW.pt (jd (eI (dL (aB (dW (c:="tuple")) (by rfl) T.isi PyProof.Rows.boot_isinstance (aa (pv 0) (aa (fS (v:=.ty "tuple") rfl T.tuple PyProof.Rows.boot_tuple rfl) ac)))))
     (jW (aF jf (aB bc (by rfl) T.len PySem.boot_len (aa (pv 0) ac)) aj (nomark _))))) (ak (aD ip)) aZ)
   (ae (eJ (pv 0) (bI rfl (aw (aq (i:=1) dY.nd rfl (Or.inl rfl)) (aw (aq (i:=2) dY.nd rfl (Or.inl rfl)) (aw (aq (i:=3) dY.nd rfl (Or.inl rfl)) be)))))
   (ae (cm (PW.pt (jd (eI (dL (ar G hr rfl m1 k1 b1 .nil pass0 (aa (pv 1) ac)))) (jd (eI (dL (ar G hr rfl m1 k1 b1 .nil pass0 (aa (pv 2) ac)))) (jW (eI (dL (ar G hr rfl m1 k1 b1 .nil pass0 (aa (pv 3) ac)))))))) (ak (aD ip)) aZ)
   (ak (aD (gw (eW jf (pv 1) (pv 2) (nomark _)) (gw (eW jf (pv 2) (pv 3) (nomark _)) (j4 (eW jf (pv 3) (pv 1) (nomark _))))))))),?_⟩
  refine⟨_,rfl,_,_,true,rfl,.tup ht,F.t,_,rfl,iteF ?_⟩
  refine⟨_,rfl,t,_,rfl,.inr (SqT.of ht),rfl,_,rfl,?_⟩
  refine iteF ⟨_,rfl,t,_,rfl,SqT.of ht,rfl,_,_,rfl,_,_,rfl,_,_,rfl,rfl,?_⟩
  have ne:∀{x y:Nat},x≠y→(!decide (V.int (x:Int)=V.int (y:Int)))=true:=fun h=>by
   rw[decI,decide_eq_false (by omega)];rfl
  refine⟨_,rfl,a,rfl,_,rfl,iteF ⟨_,rfl,b,rfl,_,rfl,iteF ⟨_,rfl,c,rfl,_,rfl,iteF ?_⟩⟩⟩
  refine⟨_,rfl,_,rfl,rfl,_,rfl,?_⟩
  rw[ne n1]
  refine iteT ⟨_,rfl,_,rfl,rfl,_,rfl,?_⟩
  rw[ne n2]
  refine iteT ⟨_,rfl,_,rfl,rfl,?_⟩
  rw[ne n3]
  exact q
end
end K15
end
section
namespace K15
open PySem L2 K51 K31
def jN:Sp:=fun vs H Q _=>∃(t:Addr) (x:Tri),vs=[.ref t]∧H t=some (.tup [.int (x.1:Int),.int (x.2.1:Int),.int (x.2.2:Int)]) ∧
 ∀r u H',Same H H'→H' r=some (.tup [.int (u.1:Int),.int (u.2.1:Int),.int (u.2.2:Int)])→Bg x u→Q (.ref r) H'
theorem dR {a b:Int} {xs ys:List Int} (h:HT.lexLt (b::ys) (a::xs)=false):a≤b:=by
 unfold HT.lexLt at h
 split at h
 ·omega
 ·have:=of_decide_eq_false h;omega
section
variable {P:Program} {w:World} {K:W.Frag} {mg:Str→Option Value} {base:Heap}
theorem hV:aC ["triple","a","b","c"] ["triple"] (af dJ):=⟨rfl,rfl,rfl,by decide +kernel,rfl,by decide +kernel,by decide +kernel⟩
theorem qk {f:Addr} {fd:FuncData} (U:Fun K "begun_least" "begun_least" dJ f fd) (mN:mg "min" = none):FnOk P w K mg base CX0 1 f fd ["triple"] jN:=by
 refine U.ok hV (fun vs H Q E h=>?_) (fun cdv A outer s H vs Q E hr h=>?_)
 ·obtain⟨t,x,rfl,_⟩:=h
  rfl
 ·obtain⟨t,⟨a,b,c⟩,rfl,ht,q⟩:=h
  have ht:H t=some (.tup [.int (a:Int),.int (b:Int),.int (c:Int)]):=ht
  refine⟨_,ae (eJ (pv 0) (bI rfl (aw (aq (i:=1) hV.nd rfl (Or.inl rfl)) (aw (aq (i:=2) hV.nd rfl (Or.inl rfl)) (aw (aq (i:=3) hV.nd rfl (Or.inl rfl)) be)))))
   (ak (aD (aB (i5 rfl hr.units) (by rfl) mN jr (aa (aV (aa (aE (aa (pv 1) (aa (pv 2) (aa (pv 3) ac)))) (aa (aE (aa (pv 2) (aa (pv 3) (aa (pv 1) ac)))) (aa (aE (aa (pv 3) (aa (pv 1) (aa (pv 2) ac)))) ac)))) ac)))),?_⟩
  refine⟨_,rfl,t,_,rfl,SqT.of ht,rfl,_,_,rfl,_,_,rfl,_,_,rfl,rfl,?_⟩
  refine⟨_,rfl,_,rfl,_,rfl,lit3,fun t1 g1=>?_⟩
  (generalize z:upd H t1 _=H1;have s1:=ah g1 z;have y1:=ai z;clear z)
  refine⟨_,rfl,_,rfl,_,rfl,lit3,fun t2 g2=>?_⟩
  (generalize z:upd H1 t2 _=H2;have s2:=ah g2 z;have y2:=ai z;clear z)
  refine⟨_,rfl,_,rfl,_,rfl,lit3,fun t3 g3=>?_⟩
  (generalize z:upd H2 t3 _=H3;have s3:=ah g3 z;have y3:=ai z;clear z)
  refine⟨lit3,fun l g4=>?_⟩
  (generalize z:upd H3 l _=H4;have s4:=ah g4 z;have y4:=ai z;clear z)
  have z1:=((s2.trans s3).trans s4) _ _ y1
  have z2:=(s3.trans s4) _ _ y2
  have z3:=s4 _ _ y3
  have hs:=((s1.trans s2).trans s3).trans s4
  have tr:aA H4 [V.ref t1,.ref t2,.ref t3] [(a,b,c),(b,c,a),(c,a,b)]:=.cons ⟨t1,rfl,z1⟩ (.cons ⟨t2,rfl,z2⟩ (.cons ⟨t3,rfl,z3⟩ .nil))
  refine⟨l,_,_,rfl,SqL.of y4,km tr,by simp,fun i y hy hmin=>?_⟩
  have m0:=hmin 0 (by simp)
  have m1:=hmin 1 (by simp)
  have m2:=hmin 2 (by simp)
  match i,hy with
  |0,hy=>
   cases hy
   have h1:(a:Int)≤b:=dR m1
   have h2:(a:Int)≤c:=dR m2
   exact q t1 (a,b,c) H4 hs z1 ⟨.inl rfl,by show a≤b;omega,by show a≤c;omega⟩
  |1,hy=>
   cases hy
   have h1:(b:Int)≤a:=dR m0
   have h2:(b:Int)≤c:=dR m2
   exact q t2 (b,c,a) H4 hs z2 ⟨.inr (.inl rfl),by show b≤c;omega,by show b≤a;omega⟩
  |2,hy=>
   cases hy
   have h1:(c:Int)≤a:=dR m0
   have h2:(c:Int)≤b:=dR m1
   exact q t3 (c,a,b) H4 hs z3 ⟨.inr (.inr rfl),by show c≤a;omega,by show c≤b;omega⟩
  |i+3,hy=>simp at hy
end
end K15
end
section
namespace L2
open PySem PySem.Spec PyProof.Rows
section
variable {X:Cx}
def tDM0 (r:V→List V→Hp→VK→Prop) (to:TE):TE:=fun σ H Q=>to σ H fun x H1=>(∃a,x=.ref a∧IsD H1 a)∧r x [] H1 Q
theorem pX {o:Expr} {to:TE} {name:Str} {apos cpos:Pos} {id:String} {r:V→List V→Hp→VK→Prop} (slot:Slot "dict" name id) (hty:typeOf (.builtin id)=pure (.type "method_descriptor")) (hm:MtM X id r) (ho:PE X o to)
  (hbase:attributeBase o name X.env (eval o X.env)=eval o X.env:=by rfl) (hline:(apos.endLine==cpos.line)=true:=by rfl):PE X (.Call (.Attribute o name apos) [] [] cpos) (tDM0 r to):=by
 intro pins s σ H Q I h
 refine wpAny_Call_method0_late hbase hline (thn (ho pins s σ H _ I h) fun v s1 ⟨x,H1,I1,r1,⟨a,ex,hd⟩,q1⟩=>?_)
 subst ex
 obtain rfl:v=Value.ref a:=r1
 obtain⟨t1,t2,_⟩:=ke I1 hd
 exact⟨"dict",id,PySem.F.plainAttrs_dict,slot,hty,t1,t2,Calls.callWith_builtin rfl (PySem.evalArgs_none (hm pins s1 σ H1 (.ref a) [] (.ref a) [] Q I1 rfl .nil q1))⟩
end
section
variable {X:Cx}
open PySem.W in
def su (K:W.Frag):List V→Hp→VK→Prop:=fun xs H Q=>∃(a:Addr) (u:HO),xs=[.ref a]∧Rd H a u∧IsDO u∧∀ks vs,DKV H u ks vs →
 (∃ns:List Int,ks=ns.map V.int∧ns.length < 5000∧∀(p:Addr) (ms:List Int),H p=none→ms.Perm ns→ms.Pairwise (·≤·)→Q (.ref p) (upd H p (.lst (ms.map V.int)))) ∨
 ∃kz:List (List Int),Tups K H ks kz∧ks.length < 5000∧∀(p:Addr) (ix:List Nat),H p=none→ix.Perm (List.range ks.length)→(ix.map fun i=>kz.getD i []).Pairwise (fun a b=>HT.lexLt b a=false)→Q (.ref p) (upd H p (.lst (ix.map fun i=>ks.getD i .non)))
open PySem.W in
theorem dt (hc:X.calm=true):bM X (.builtin "sorted") (su X.K):=by
 intro pins s σ H xs us Q I r h
 obtain⟨a,u0,rfl,hd,hu,k⟩:=h
 obtain⟨u,rfl,ru⟩:=Vals.one r
 cases ru
 obtain⟨lo,ks,vs,es,ep,dk,hz,dm,r1,r2⟩:=iI I hd hu
 obtain⟨m,F⟩:=I.fr
 have hl1:ks.length=es.size:=by have:=r1.length;simpa using this
 refine kdu_sorted (dSrc (es:=es) (ep:=ep) lo) (I.ok.hd hc) F (iw (g:=X.base) (L:=X.env.locals)) dm (by rw[←hl1];exact hz) fun D h' tk vs' F' N' hD hl hv=>?_
 obtain⟨k1,k2⟩:=I.newsKept (t':=s.toks) (more:=[(D,listOf vs'.toArray 0)]) F F' N'
 have nD:=N' (D,listOf vs'.toArray 0) (.head _)
 have hD0:s.heap.get? D=none:=by
  cases e:s.heap.get? D with
  |none=>rfl
  |some o=>exact absurd (hD (D,o) (eN nD.2.1 nD.2.2 e)) (Nat.lt_irrefl _)
 have ev:vs' = es.toList.map (·.key):=by
  refine iz (by rw[hl];simp) fun j v e=>?_
  obtain⟨hj,rfl⟩:=hv j v e
  rw[List.getElem?_map]
  simp[hj]
 have I':Inv X pins σ (upd H D (.lst ks)) {s with heap:=h',toks:=tk}:=I.laidN (t':=tk) k1 k2 hD0 (fun H'=>⟨hz,vs',0,by rw[ev];exact r1,nD.1⟩) (fun _ _ z=>by cases z)
 have z:=gL (X:=n6 X) pins _ σ _ (.ref D) [] (.ref D) [] (fun _ H'=>Q (.ref D) H') I'.toIn1 rfl .nil (kE (I.hok.none_of hD0) (k ks vs dk))
 exact thn z fun _ s' ⟨_,H',J,_,q'⟩=>⟨.ref D,H',J.ofIn1,rfl,q'⟩
end
def Sm (H H':Hp):Prop:=∀b o,H b=some o→H' b=some o∨(IsDO o∧∃ob,H' b=some (.frz ob o))
theorem Sm.refl (H:Hp):Sm H H:=fun _ _ e=>.inl e
theorem Sm.of {H H':Hp} (s:Same H H'):Sm H H':=fun b o e=>.inl (s b o e)
theorem Sm.trans {H H1 H2:Hp} (a:Sm H H1) (b:Sm H1 H2):Sm H H2:=fun c o e=>by
 rcases a c o e with e1|⟨hd,ob,e1⟩
 ·exact b c o e1
 ·rcases b c _ e1 with e2|⟨hd2,_⟩
  ·exact .inr ⟨hd,ob,e2⟩
  ·exact False.elim hd2
theorem Sm.free {H H':Hp} (s:Sm H H') {l:Addr} (h:H' l=none):H l=none:=by
 cases q:H l with
 |none=>rfl
 |some o=>rcases s l o q with e|⟨_,_,e⟩ <;> (rw[h] at e;cases e)
theorem Sm.keep {H H':Hp} (s:Sm H H') {b:Addr} {o:HO} (e:H b=some o) (hn:¬IsDO o):H' b=some o:=(s b o e).elim id fun z=>(hn z.1).elim
theorem Sm.rd {H H':Hp} (s:Sm H H') {b:Addr} {o:HO} (e:Rd H b o):Rd H' b o:=by
 rcases e with e|⟨ob,e⟩
 ·rcases s b o e with z|⟨_,ob,z⟩
  ·exact .inl z
  ·exact .inr ⟨ob,z⟩
 ·exact .inr ⟨ob,s.keep e (fun z=>z)⟩
theorem Fz.sm {H H2:Hp} {d:Addr} {o:Obj} {u:HO} (f:Fz H H2 d o u):Sm H H2:=fun b w e=>by
 by_cases hb:b=d
 ·subst hb
  rcases f.1 with z|z
  ·rw[z] at e;cases e;exact .inr ⟨f.2.1,o,f.at⟩
  ·rw[z] at e;cases e;exact .inl f.at
 ·exact .inl ((f.ne hb).trans e)
section
variable {d D:Addr} {o:Obj} {u:HO} {ks vs:List V} {g:TG} {tt:TT} {te:TE} {σ':St} {H1:Hp} {Q:Hp→Prop}
theorem pj (Pv:Nat→St→List V→Hp→Prop) (h0:Pv 0 σ' [] (upd H1 D (.lst []))) (hl:∀i σ ys H,i≤ks.length→Pv i σ ys H→H d=some (.frz o u))
  (hs:∀i x σ ys H,ks[i]? = some x→Pv i σ ys H→g x σ H fun σ2 H2=>tt σ2 H2 fun b H3=>
   if b=true then te σ2 H3 fun y H4=>H4 D=some (.lst ys)∧ys.length < sizeLine∧Pv (i+1) σ2 (ys++[y]) (upd H4 D (.lst (ys++[y]))) else Pv (i+1) σ2 ys H3)
  (hd:∀σ ys H,Pv ks.length σ ys H→Q H):fm (Itk d o ks) g tt te D σ' H1 Q:=by
 refine⟨fun i m σ ys H=>m=ks.length - i∧i≤ks.length∧Pv i σ ys H,⟨ks.length,by simp,Nat.zero_le _,h0⟩,?_⟩
 rintro i m σ ys H ⟨rfl,hi,p⟩
 have q:=hl i σ ys H hi p
 by_cases hlt:i < ks.length
 ·refine .inr ⟨⟨hlt,u,q⟩,Pv (i+1),fun σ' ys' H' p'=>⟨ks.length - (i+1),by omega,rfl,hlt,p'⟩,fun x H' y=>?_⟩
  obtain⟨e,y⟩:=y
  subst e
  exact hs i x σ ys _ y p
 ·have e:i=ks.length:=by omega
  subst e
  exact .inl ⟨⟨Nat.le_refl _,u,q⟩,hd σ ys H p⟩
theorem o0 {tb:TS} {D:Ends} {σ:St} {H:Hp} (Pv:Nat→St→Hp→Prop) (h0:Pv 0 σ H) (hl:∀i σ H,i≤ks.length→Pv i σ H→H d=some (.frz o u))
  (hs:∀i x y p σ H,ks[i]? = some x→vs[i]? = some y→Pv i σ H→H p=none→g (.ref p) σ (upd H p (.tup [x,y])) fun σ2 H2=>tb {D with nx:=Pv (i+1),ct:=Pv (i+1),bk:=D.nx} σ2 H2) (hd:∀σ H,Pv ks.length σ H→D.nx σ H) :
  ∃W:Nat→Nat→St→Hp→Prop,(∃m,W 0 m σ H)∧∀i m σ H,W i m σ H →
   ((Iti d o ks vs).stop i H∧D.nx σ H)∨((Iti d o ks vs).go i H∧∃N:St→Hp→Prop,(∀σ' H',N σ' H'→∃m',m' < m∧W (i+1) m' σ' H')∧∀x H',(Iti d o ks vs).yld i H x H'→g x σ H' fun σ2 H2=>tb {D with nx:=N,ct:=N,bk:=D.nx} σ2 H2):=by
 refine⟨fun i m σ H=>m=ks.length - i∧i≤ks.length∧Pv i σ H,⟨ks.length,by simp,Nat.zero_le _,h0⟩,?_⟩
 rintro i m σ H ⟨rfl,hi,p⟩
 have q:=hl i σ H hi p
 by_cases hlt:i < ks.length
 ·refine .inr ⟨⟨hlt,u,q⟩,Pv (i+1),fun σ' H' p'=>⟨ks.length - (i+1),by omega,rfl,hlt,p'⟩,fun x H' y=>?_⟩
  obtain⟨b,k,v,hb,rfl,rfl,y1,y2⟩:=y
  exact hs i k v b σ H y1 y2 p hb
 ·have e:i=ks.length:=by omega
  subst e
  exact .inl ⟨⟨Nat.le_refl _,u,q⟩,hd σ H p⟩
end
end L2
end
section
namespace K15
open PySem L2 K51 K31
def jL:Sp:=fun vs H Q _=>∃(d:Addr) (l:List (Nat × Nat)),vs=[.ref d]∧Rd H d (.dK (l.map nmV))∧l≠[]∧l.length≤1000 ∧
 ∀(s:Nat) H',Sm H H'→s∈l.map (·.1)→((∀o,(o,s)∉l)∨∀p,p∈l.map (·.1)→∃o,(o,p)∈l)→Q (.int (s:Int)) H'
theorem hX (l:List (Nat × Nat)):(l.map nmV).map (fun p=>kV p.1)=nV (l.map (·.1)):=by
 rw[List.map_map];unfold nV;rw[List.map_map];rfl
theorem sW (l:List (Nat × Nat)):(l.map nmV).map (·.2)=nV (l.map (·.2)):=by
 rw[List.map_map];unfold nV;rw[List.map_map];rfl
section
variable {P:Program} {w:World} {K:W.Frag} {mg:Str→Option Value} {base:Heap}
theorem jS:aC ["onward","reached","begins"] ["onward"] (af dG):=⟨rfl,rfl,rfl,by decide +kernel,rfl,by decide +kernel,by decide +kernel⟩
theorem qh {f:Addr} {fd:FuncData} (U:Fun K "first_of" "first_of" dG f fd) (T:TxtN mg) (mN:mg "min" = none):FnOk P w K mg base CX0 1 f fd ["onward"] jL:=by
 refine U.ok jS (fun vs H Q E h=>?_) (fun cdv A outer s H vs Q E hr h=>?_)
 ·obtain⟨d,l,rfl,_⟩:=h
  rfl
 ·obtain⟨d,l,rfl,hd,hne,hl,q⟩:=h
  refine⟨_,ae (av (i:=1) jS.nd rfl (Or.inr rfl) (aO (iS rfl) (by rfl) T.list PyProof.Rows.boot_list (aa (pX PySem.F.slot_dict_values PySem.F.type_dict_values oN (pv 0)) ac)))
   (ae (jY (i:=2) (N:=["p","reached"]) (fr:=[none,some 1]) (tt:=pD (tOp (rIn K true) (tVar 0) (tVar 1))) (aJ (by decide +kernel) rfl rfl (by decide +kernel) (by decide +kernel) (by
      intro y hy e
      simp only[List.mem_cons,List.not_mem_nil,or_false] at hy
      rcases hy with rfl|rfl|rfl
      all_goals first|(cases e;done)|exact .inl rfl) (by
      intro j i y e1 e2
      match j,e1,e2 with
      |0,e1,_=>simp at e1
      |1,e1,e2=>simp at e1 e2;subst e1 e2;exact⟨rfl,rfl⟩
      |j+2,e1,_=>simp at e1)) rfl (nM (pv 0))
     (fun C' s' H' fp pins=>⟨aq (i:=0) (show (["p","reached"]:List Str).Nodup by decide +kernel) rfl (Or.inl rfl) (.inr rfl),ef (aF cA (pv 0) (pv 1) rfl),pv 0⟩) jS.nd rfl (Or.inl rfl))
   (ak (aD (pV (pS (pv 2) (fun _=>rfl)) (bq aL (pv 2) aj (fun _ _=>rfl)) (aB (fi rfl) (by rfl) mN jr (aa (pv 0) ac)))))),?_⟩
  have hline:=line5000
  refine⟨_,rfl,⟨d,rfl,.inl ⟨_,hd⟩⟩,d,_,rfl,rfl,hd,fun v hv=>?_⟩
  (generalize z:upd H v _=H1;have s1:=ah hv z;have y1:=ai z;clear z)
  have hd1:=(Sm.of s1).rd hd
  refine⟨v,d,_,rfl,y1,hd1,fun r hr0=>?_⟩
  (generalize z:upd H1 r _=H2;have s2:=ah hr0 z;have y2:=ai z;clear z)
  have hd2:=(Sm.of s2).rd hd1
  rw[sW] at y2
  refine⟨_,rfl,d,_,rfl,hd2,True.intro,fun ks vs o H3 hk hz=>?_⟩
  have ek:ks=nV (l.map (·.1)):=by
   rcases hk with ⟨kvs,e,e1,_⟩|⟨kvs,as,e,_⟩
   ·cases e;rw[e1,hX]
   ·cases e
  subst ek
  have y3:H3 r=some (.lst (nV (l.map (·.2)))):=hz.sm.keep y2 (fun z=>z)
  refine fun Z hZ=>pj (d:=d) (o:=o) (u:=.dK (l.map nmV)) (ks:=nV (l.map (·.1))) (fun i σ ys H'=>∃o,σ=[o,some (.ref r)]∧ys=nV (((l.map (·.1)).take i).filter fun p=>decide (p∉l.map (·.2)))∧H' = upd H3 Z (.lst ys)) ⟨none,rfl,rfl,rfl⟩ (fun i σ ys H' _ ⟨_,_,_,e⟩=>by rw[e];exact ay hZ _ _ hz.at) ?_ ?_
  ·rintro i y σ ys H' hi ⟨o,rfl,rfl,rfl⟩
   rw[nV,List.getElem?_map] at hi
   obtain⟨n,hn,rfl⟩:=Option.map_eq_some_iff.mp hi
   have et:(l.map (·.1)).take (i+1)=(l.map (·.1)).take i++[n]:=by rw[List.take_add_one,hn];rfl
   refine⟨_,rfl,_,rfl,r,_,rfl,.inl (SqL.of (ay hZ _ _ y3)),rfl,eg _,_,rfl,?_⟩
   show if (if true=true then !inV (V.int (n:Int)) (nV (l.map (·.2))) else _)=true then _ else _
   rw[if_pos rfl,eP]
   by_cases hnF:n∈l.map (·.2)
   ·rw[decide_eq_true hnF]
    refine iteF ⟨_,rfl,?_,rfl⟩
    rw[et,List.filter_append,List.filter_cons,if_neg (by simpa using hnF),List.filter_nil,List.append_nil]
   ·rw[decide_eq_false hnF]
    refine iteT ⟨_,rfl,al,?_,_,rfl,?_,by rw[cv]⟩
    ·rw[aG]
     have h1:=List.length_filter_le (fun p=>decide (p∉l.map (·.2))) ((l.map (·.1)).take i)
     rw[List.length_take,List.length_map] at h1
     omega
    ·rw[et,List.filter_append,List.filter_cons,if_pos (by simpa using hnF),List.filter_nil,←cX];rfl
  ·rintro σ ys H' ⟨o',rfl,rfl,rfl⟩
   rw[aG,List.take_length]
   have sZ:=ay (o:=.lst (nV ((l.map (·.1)).filter fun p=>decide (p∉l.map (·.2))))) hZ
   have yZ:upd H3 Z (.lst (nV ((l.map (·.1)).filter fun p=>decide (p∉l.map (·.2))))) Z=some (.lst (nV ((l.map (·.1)).filter fun p=>decide (p∉l.map (·.2))))):=al
   generalize upd H3 Z (.lst (nV ((l.map (·.1)).filter fun p=>decide (p∉l.map (·.2)))))=H4 at sZ yZ ⊢
   have sm4:Sm H H4:=((Sm.of (s1.trans s2)).trans hz.sm).trans (Sm.of sZ)
   have hmem:∀x,x∈((l.map (·.1)).filter fun p=>decide (p∉l.map (·.2)))↔x∈l.map (·.1)∧x∉l.map (·.2):=fun x=>by rw[List.mem_filter,decide_eq_true_eq]
   have rch:∀x,x∉l.map (·.2)→∀o,(o,x)∉l:=fun x hx o ho=>hx (List.mem_map.mpr ⟨_,ho,rfl⟩)
   generalize ((l.map (·.1)).filter fun p=>decide (p∉l.map (·.2)))=bs at hmem yZ
   refine⟨_,rfl,_,.inl ⟨_,SqL.of yZ,rfl⟩,?_⟩
   cases bs with
   |cons b bs=>
    refine iteT ⟨_,rfl,Z,_,_,_,rfl,rfl,SqL.of yZ,bp (j:=0) rfl,?_⟩
    obtain⟨h1,h2⟩:=(hmem b).mp (by simp)
    exact q b H4 sm4 h1 (.inl (rch b h2))
   |nil=>
    refine iteF ⟨_,rfl,d,_,(l.map (·.1)).map (fun n:Nat=>(n:Int)),rfl,(Sm.of sZ).rd (.inr ⟨_,hz.at⟩),by rw[hX,List.map_map];rfl,?_,fun m hm hmin=>?_⟩
    ·cases l with
     |nil=>exact absurd rfl hne
     |cons a l=>simp
    ·obtain⟨n,hn,rfl⟩:=List.mem_map.mp hm
     refine q n H4 sm4 hn (.inr fun p hp=>?_)
     have:p∈l.map (·.2):=Classical.byContradiction fun z=>by
      have:=(hmem p).mpr ⟨hp,z⟩
      cases this
     obtain⟨⟨o,p'⟩,ho,rfl⟩:=List.mem_map.mp this
     exact⟨o,ho⟩
end
end K15
end
section
namespace K15
open PySem L2 K51 K31
structure Abt (E:Nat→Nat→Nat→Prop) (v:Nat) (l:List (Nat × Nat)):Prop where
 nd:(l.map (·.1)).Nodup
 mem:∀p q,(p,q)∈l↔E v p q
def lW:Sp:=fun vs H Q _=>∃(d:Addr) (l:List (Nat × Nat)) (E:Nat→Nat→Nat→Prop) (v:Nat),vs=[.ref d]∧Rd H d (.dK (l.map nmV))∧l≠[]∧l.length≤1000∧Sk E∧Abt E v l ∧
 ∀(b:Bool) H',Sm H H'→(b=true↔One E v)→Q (.bl b) H'
theorem nW (l:List (Nat × Nat)) (c:Nat):iK (l.map nmV) (Sum.inl (c:Int):Key)=(l.filter fun x=>decide (x.1≠c)).map nmV:=by
 unfold iK
 rw[List.filter_map]
 congr 1
 apply List.filter_congr
 intro x _
 show decide ((Sum.inl (x.1:Int):Key)≠Sum.inl (c:Int))=decide (x.1≠c)
 by_cases h:x.1=c
 ·simp[h]
 ·have z:¬(Sum.inl (x.1:Int):Key)=Sum.inl (c:Int):=fun z=>h (by have:(x.1:Int)=(c:Int):=Sum.inl.inj z;omega)
  simp only[ne_eq,h,z,not_false_eq_true]
theorem jn {α:Type} (l:List α) (f:α→Bool) {x:α} (hx:x∈l) (hf:f x=false):(l.filter f).length < l.length:=by
 induction l with
 |nil=>cases hx
 |cons a l ih=>
  rw[List.filter_cons]
  have:=List.length_filter_le f l
  rcases List.mem_cons.mp hx with e|h
  ·subst e
   rw[if_neg (by rw[hf];decide),List.length_cons];omega
  ·have:=ih h
   split <;> simp only[List.length_cons] <;> omega
section
variable {P:Program} {w:World} {K:W.Frag} {mg:Str→Option Value} {base:Heap}
theorem jR:aC ["about","at","left"] ["about"] (af e_):=⟨rfl,rfl,rfl,by decide +kernel,rfl,by decide +kernel,by decide +kernel⟩
theorem sQ {f f1:Addr} {fd d1:FuncData} (U:Fun K "hang_together" "hang_together" e_ f fd) (T:TxtN mg) (mD:mg "dict" = none) (G:FnOk P w K mg base CX0 1 f1 d1 ["onward"] jL) (b1:Binds K d1 ["onward"] []) (m1:mg "first_of" = some (.ref f1)) (k1:W.keepIn K (.ref f1)=true) :
  FnOk P w K mg base CX0 2 f fd ["about"] lW:=by
 refine U.ok jR (fun vs H Q E h=>?_) (fun cdv A outer s H vs Q E hr h=>?_)
 ·obtain⟨d,l,E,v,rfl,_⟩:=h
  rfl
 ·obtain⟨d,l,E,v,rfl,hd,hne,hl,k,ab,q⟩:=h
  have hu:=b_ hr
  refine⟨_,ae (av (i:=1) jR.nd rfl (Or.inl rfl) (ar G hr rfl m1 k1 b1 .nil pass0 (aa (pv 0) ac)))
   (ae (av (i:=2) jR.nd rfl (Or.inl rfl) (aO iU (by rfl) mD PyProof.Rows.boot_dict (aa (pv 0) ac)))
   (ae (df PassesOwn.never (gr (mx hu (pv 1) (pv 2))) (ak (av (i:=1) jR.nd rfl (Or.inl rfl) (kP (pv 2) (pv 1) ⟨rfl,rfl,rfl,rfl⟩))))
   (ak (aD (eW iq (aB pk (by rfl) T.len PySem.boot_len (aa (pv 2) ac)) aj (nomark _)))))),?_⟩
  refine⟨_,rfl,d,l,rfl,hd,hne,hl,fun s1 H1 sm1 hs1 hfirst=>?_⟩
  refine⟨_,rfl,d,_,rfl,sm1.rd hd,fun p hp=>?_⟩
  (generalize z:upd H1 p _=H2;have s2:=ah hp z;have y2:=ai z;clear z)
  have hfirst':(∀o,¬E v o s1)∨∀p,(∃q,E v p q)→∃o,E v o p:=by
   rcases hfirst with h|h
   ·exact .inl fun o ho=>h o ((ab.mem _ _).mpr ho)
   ·refine .inr fun p ⟨q,hq⟩=>?_
    obtain⟨o,ho⟩:=h p (List.mem_map.mpr ⟨_,(ab.mem _ _).mpr hq,rfl⟩)
    exact⟨o,(ab.mem _ _).mp ho⟩
  refine⟨fun m σ H'=>∃(L:List Nat) (at_:Nat) (lf:List (Nat × Nat)),σ=[some (.ref d),some (.int (at_:Int)),some (.ref p)]∧m=lf.length∧Sm H H'∧H' p=some (.dK (lf.map nmV))∧lf.length≤1000∧(lf.map (·.1)).Nodup∧(∀x,x∈lf↔x∈l∧x.1∉L) ∧
   L.Nodup∧(∀p∈L,∃q,E v p q)∧(∀i p q,L[i]? = some p→L[i+1]? = some q→E v p q)∧(L=[]∧at_=s1∨L.head? = some s1∧∀p,L.getLast? = some p→E v p at_),
   ⟨_,[],s1,l,rfl,rfl,sm1.trans (Sm.of s2),y2,hl,ab.nd,by simp,List.nodup_nil,by simp,by simp,.inl ⟨rfl,rfl⟩⟩,?_⟩
  rintro m σ H' ⟨L,at_,lf,rfl,rfl,sm,hp',hlf,nd,mem,ndL,key,ch,hat⟩
  refine⟨_,rfl,_,rfl,p,_,rfl,DGet.k (k:=Sum.inl (at_:Int)) hp',?_⟩
  by_cases hin:at_∈lf.map (·.1)
  ·obtain⟨i,x,h1,h2,_⟩:=eL hin
   have hx:(at_,x)∈lf:=List.mem_of_getElem? h1
   obtain⟨hxl,hxL⟩:=(mem _).mp hx
   have hE:E v at_ x:=(ab.mem _ _).mp hxl
   refine⟨true,by rw[h2];rfl,?_⟩
   refine iteT ⟨fun σ' H''=>∃(L:List Nat) (at':Nat) (lf':List (Nat × Nat)),σ' = [some (.ref d),some (.int (at':Int)),some (.ref p)]∧lf'.length < lf.length∧Sm H H''∧H'' p=some (.dK (lf'.map nmV))∧lf'.length≤1000∧(lf'.map (·.1)).Nodup∧(∀x,x∈lf'↔x∈l∧x.1∉L) ∧
    L.Nodup∧(∀p∈L,∃q,E v p q)∧(∀i p q,L[i]? = some p→L[i+1]? = some q→E v p q)∧(L=[]∧at' = s1∨L.head? = some s1∧∀p,L.getLast? = some p→E v p at'),
    fun σ' H'' ⟨L,at',lf',e,hlt,r⟩=>⟨_,hlt,L,at',lf',e,rfl,r⟩,?_⟩
   refine⟨_,rfl,p,rfl,.inl ⟨_,.inl hp'⟩,_,rfl,_,Sum.inl (at_:Int),_,hp',rfl,h2,?_⟩
   rw[nW]
   have hpH:H p=none:=(sm1.free hp)
   have hlt:=jn lf (fun y=>decide (y.1≠at_)) hx (by simp)
   refine⟨L++[at_],x,lf.filter fun y=>decide (y.1≠at_),rfl,hlt,fun b o e=>?_,al,by omega,?_,fun y=>?_,?_,fun y hy=>?_,fun i p q hp hq=>?_,.inr ⟨?_,fun p hp=>?_⟩⟩
   ·rw[au (ag e hpH)];exact sm b o e
   ·exact nd.sublist (List.Sublist.map _ List.filter_sublist)
   ·rw[List.mem_filter,mem y,List.mem_append,List.mem_singleton,decide_eq_true_eq]
    constructor
    ·rintro⟨⟨a,b⟩,c⟩;exact⟨a,fun z=>z.elim b c⟩
    ·rintro⟨a,b⟩;exact⟨⟨a,fun z=>b (.inl z)⟩,fun z=>b (.inr z)⟩
   ·rw[List.nodup_append]
    exact⟨ndL,by simp,fun a ha b hb=>by rw[List.mem_singleton] at hb;rintro rfl;rw[hb] at ha;exact hxL ha⟩
   ·rcases List.mem_append.mp hy with h|h
    ·exact key y h
    ·rw[List.mem_singleton.mp h];exact⟨x,hE⟩
   ·by_cases hi:i+1 < L.length
    ·rw[List.getElem?_append_left (by omega)] at hp
     rw[List.getElem?_append_left hi] at hq
     exact ch i p q hp hq
    ·by_cases hi2:i+1=L.length
     ·rw[List.getElem?_append_left (by omega)] at hp
      rw[List.getElem?_append_right (by omega)] at hq
      have:i+1 - L.length=0:=by omega
      rw[this] at hq
      simp at hq
      subst hq
      rcases hat with ⟨rfl,_⟩|⟨_,h⟩
      ·simp at hi2
      ·exact h p (by rw[List.getLast?_eq_getElem?,show L.length - 1=i by omega];exact hp)
     ·rw[List.getElem?_append_right (by omega)] at hq
      have:=(List.getElem?_eq_some_iff.mp hq).1
      rw[List.length_singleton] at this
      omega
   ·rcases hat with ⟨rfl,rfl⟩|⟨h,_⟩
    ·rfl
    ·cases L with
     |nil=>cases h
     |cons a L=>exact h
   ·rw[List.getLast?_append] at hp
    simp at hp
    subst hp
    exact hE
  ·refine⟨false,by rw[lN hin];rfl,iteF ?_⟩
   have hLne:L≠[]:=by
    rintro rfl
    rcases hat with ⟨_,rfl⟩|⟨h,_⟩
    ·obtain⟨⟨a,b⟩,h1,rfl⟩:=List.mem_map.mp hs1
     exact hin (List.mem_map.mpr ⟨_,(mem _).mpr ⟨h1,by simp⟩,rfl⟩)
    ·cases h
   obtain⟨hh,hlast⟩:L.head? = some s1∧∀p,L.getLast? = some p→E v p at_:=hat.resolve_left fun z=>hLne z.1
   have hend:=qD k hLne ndL key ch hlast (fun⟨r,hr'⟩=>Classical.byContradiction fun z=>hin (List.mem_map.mpr ⟨_,(mem (at_,r)).mpr ⟨(ab.mem _ _).mpr hr',z⟩,rfl⟩)) hh hfirst'
   refine⟨_,rfl,p,_,rfl,hp',rfl,?_⟩
   rw[List.length_map]
   refine q _ H' sm ?_
   rw[decI,decide_eq_true_eq,←hend]
   constructor
   ·intro h0 p ⟨r,hr'⟩
    have:lf=[]:=List.length_eq_zero_iff.mp (by omega)
    refine Classical.byContradiction fun z=>?_
    have:=(mem (p,r)).mpr ⟨(ab.mem _ _).mpr hr',z⟩
    rw[‹lf=[]›] at this
    cases this
   ·intro hall
    have:lf=[]:=by
     cases lf with
     |nil=>rfl
     |cons y lf=>
      obtain⟨h1,h2⟩:=(mem y).mp (by simp)
      obtain⟨a,b⟩:=y
      exact absurd (hall a ⟨b,(ab.mem _ _).mp h1⟩) h2
    rw[this];rfl
end
end K15
end
section
namespace K15
open PySem L2 K51 K31
def gi:Sp:=fun vs H Q _=>∃(T:Addr) (vt:List V) (ts:List Tri),vs=[.ref T]∧H T=some (.lst vt)∧aA H vt ts∧ts.length≤400∧(∀t∈ts,t.1≠t.2.1∧t.2.1≠t.2.2∧t.2.2≠t.1) ∧
 ∀r vr H',H r=none→Same H H'→H' r=some (.lst vr)→aA H' vr ts→Q (.ref r) H'
def EnAt (H:Hp) (v:V) (e:Ent):Prop:=∃u s,v=.ref u∧H u=some (.tup [.ref s,.int (e.2:Int)])∧H s=some (.tup ((ky e.1.1 e.1.2).map kV))
section
variable {P:Program} {w:World} {K:W.Frag} {mg:Str→Option Value} {base:Heap}
theorem cH:aC ["things","triples","k","thing","a","b","c"] ["things"] (af bZ):=⟨rfl,rfl,rfl,by decide +kernel,rfl,by decide +kernel,by decide +kernel⟩
theorem mI {f f1:Addr} {fd d1:FuncData} (U:Fun K "checked_triples" "checked_triples" bZ f fd) (T:TxtN mg) (G:FnOk P w K mg base CX0 3 f1 d1 ["thing"] ft) (b1:Binds K d1 ["thing"] []) (m1:mg "is_triple" = some (.ref f1)) (k1:W.keepIn K (.ref f1)=true) :
  FnOk P w K mg base CX0 4 f fd ["things"] gi:=by
 refine U.ok cH (fun vs H Q E h=>?_) (fun cdv A outer s H vs Q E hr h=>?_)
 ·obtain⟨T,vt,ts,rfl,_⟩:=h
  rfl
 ·obtain⟨T0,vt,ts,rfl,hT,ht,hl,hne,q⟩:=h
  refine⟨_,ae (av (i:=1) cH.nd rfl (Or.inl rfl) (aV ac))
   (ae (bd PassesOwn.never rfl (j3 rfl T.enum (aa (pv 0) ac)) (bI rfl (aw (aq (i:=2) cH.nd rfl (Or.inl rfl)) (aw (aq (i:=3) cH.nd rfl (Or.inl rfl)) be)))
    (ae (cm (eI (dL (ar G hr rfl m1 k1 b1 .nil pass0 (aa (pv 3) ac)))) eV aZ)
    (ae (eJ (pv 3) (bI rfl (aw (aq (i:=4) cH.nd rfl (Or.inl rfl)) (aw (aq (i:=5) cH.nd rfl (Or.inl rfl)) (aw (aq (i:=6) cH.nd rfl (Or.inl rfl)) be)))))
    (ak (aT (bU PySem.F.plainAttrs_list PySem.F.slot_list_append PySem.F.type_list_append aR (pv 1) (aa (aE (aa (aO e6 (by rfl) T.int PyProof.Rows.boot_int (aa (pv 4) ac)) (aa (aO e6 (by rfl) T.int PyProof.Rows.boot_int (aa (pv 5) ac)) (aa (aO e6 (by rfl) T.int PyProof.Rows.boot_int (aa (pv 6) ac)) ac)))) ac)))))))
   (ak (aD (pv 1)))),?_⟩
  have hline:=line5000
  have hlen:=ax ht
  refine⟨Nat.zero_le _,fun r hr0=>?_⟩
  (generalize z:upd H r _=H1;have s1:=ah hr0 z;have y1:=ai z;clear z)
  refine⟨_,rfl,T0,vt,rfl,SqL.of (s1 _ _ hT),iG (K:=K) (a:=T0) (xs:=vt) (fun i σ H'=>∃o2 o3 o4 o5 o6 vr,σ=[some (V.ref T0),some (.ref r),o2,o3,o4,o5,o6]∧Same H H'∧H' r=some (.lst vr)∧aA H' vr (ts.take i))
   ⟨none,none,none,none,none,[],rfl,s1,y1,.nil⟩ (fun i σ H' _ ⟨_,_,_,_,_,_,_,e,_⟩=>SqL.of (e _ _ hT)) ?_ ?_⟩
  ·rintro i x p σ H2 hi ⟨o2,o3,o4,o5,o6,vr,rfl,sm,hv,tr⟩ hp
   obtain⟨⟨a,b,c⟩,hs,t,rfl,hb⟩:=aU ht hi
   have hb:H t=some (.tup [.int (a:Int),.int (b:Int),.int (c:Int)]):=hb
   have et:ts.take (i+1)=ts.take i++[(a,b,c)]:=by rw[List.take_add_one,hs];rfl
   (generalize z:upd H2 p _=H3;have s3:=ah hp z;have y3:=ai z;clear z)
   refine⟨p,_,rfl,SqT.of y3,rfl,_,_,rfl,_,_,rfl,rfl,?_⟩
   refine⟨_,rfl,t,(a,b,c),rfl,s3 _ _ (sm _ _ hb),hne _ (List.mem_of_getElem? hs),_,rfl,iteF ?_⟩
   refine⟨_,rfl,t,_,rfl,SqT.of (s3 _ _ (sm _ _ hb)),rfl,_,_,rfl,_,_,rfl,_,_,rfl,rfl,?_⟩
   refine⟨_,rfl,.inl ⟨rfl,_,SqL.of (s3 _ _ hv)⟩,_,rfl,.inl ⟨_,rfl,_,rfl,.inl ⟨_,rfl,_,rfl,.inl ⟨_,rfl,lit3,fun t1 g1=>?_⟩⟩⟩⟩
   (generalize z:upd H3 t1 _=H4;have s4:=ah g1 z;have y4:=ai z;clear z)
   have hv4:=s4 _ _ (s3 _ _ hv)
   have l1:=ax tr
   rw[List.length_take] at l1
   refine⟨r,_,_,rfl,rfl,hv4,by omega,?_⟩
   (generalize z:upd H4 r _=H5;have k5:=aH z;have y5:=ai z;clear z)
   have hrH:H r=none:=hr0
   have n1:∀b' o,H b' = some o→b'≠r:=fun b' o e=>ag e hrH
   refine⟨_,_,_,_,_,_,rfl,fun b' o e=>(k5 b' (n1 b' o e)).trans (s4 _ _ (s3 _ _ (sm _ _ e))),y5,?_⟩
   rw[et]
   exact bO (Paired.imp' (fun v' t' ⟨a',e,hh⟩=>⟨a',e,(k5 a' (fun z=>by rw[z,hv] at hh;cases hh)).trans (s4 _ _ (s3 _ _ hh))⟩) tr) (.cons ⟨t1,rfl,(k5 t1 (fun z=>by rw[←z,y4] at hv4;cases hv4)).trans y4⟩ .nil)
  ·rintro σ H2 ⟨o2,o3,o4,o5,o6,vr,rfl,sm,hv,tr⟩
   rw[hlen,List.take_length] at tr
   exact⟨_,rfl,q r vr H2 hr0 sm hv tr⟩
theorem cV:aC ["triples","thirds","k","a","b","c","side","third"] ["triples"] (af cR):=⟨rfl,rfl,rfl,by decide +kernel,rfl,by decide +kernel,by decide +kernel⟩
theorem oJ {f:Addr} {fd:FuncData} (U:Fun K "thirds_by_side" "thirds_by_side" cR f fd) (T:TxtN mg):FnOk P w K mg base CX0 1 f fd ["triples"] cw:=by
 refine U.ok cV (fun vs H Q E h=>?_) (fun cdv A outer s H vs Q E hr h=>?_)
 ·obtain⟨T,vt,ts,rfl,_⟩:=h
  rfl
 ·obtain⟨T0,vt,ts,rfl,hT,ht,hl,hnd,q⟩:=h
  have hu:=b_ hr
  refine⟨_,ae (av (i:=1) cV.nd rfl (Or.inl rfl) kQ)
   (ae (bd PassesOwn.never rfl (j3 rfl T.enum (aa (pv 0) ac)) (bI rfl (aw (aq (i:=2) cV.nd rfl (Or.inl rfl)) (aw (bI rfl (aw (aq (i:=3) cV.nd rfl (Or.inl rfl)) (aw (aq (i:=4) cV.nd rfl (Or.inl rfl)) (aw (aq (i:=5) cV.nd rfl (Or.inl rfl)) be)))) be)))
    (ak (bd PassesOwn.never rfl (aK (aV (aa (aE (aa (aE (aa (pv 3) (aa (pv 4) ac))) (aa (pv 5) ac))) (aa (aE (aa (aE (aa (pv 4) (aa (pv 5) ac))) (aa (pv 3) ac))) (aa (aE (aa (aE (aa (pv 5) (aa (pv 3) ac))) (aa (pv 4) ac))) ac))))) (bI rfl (aw (aq (i:=6) cV.nd rfl (Or.inl rfl)) (aw (aq (i:=7) cV.nd rfl (Or.inl rfl)) be)))
     (ae (cm (gr (mx hu (pv 6) (pv 1))) eV aZ)
     (ak (d_ hu (pv 1) (pv 6) (pv 7) rfl))))))
   (ak (aD (pv 1)))),?_⟩
  have hline:=line5000
  have hlen:=ax ht
  refine fun D h1=>?_
  (generalize z:upd H D _=H1;have s1:=ah h1 z;have y1:=ai z;clear z)
  refine⟨_,rfl,T0,vt,rfl,SqL.of (s1 _ _ hT),iG (K:=K) (a:=T0) (xs:=vt) (fun i σ H2=>∃v2 v3 v4 v5 v6 v7,σ=[some (.ref T0),some (.ref D),v2,v3,v4,v5,v6,v7]∧Same H H2∧H2 D=some (.dT ((ents (ts.take i)).map entV)))
   ⟨none,none,none,none,none,none,rfl,s1,y1⟩ (fun i σ H2 _ ⟨_,_,_,_,_,_,_,e,_⟩=>SqL.of (e _ _ hT)) ?_ ?_⟩
  ·rintro i x p σ H2 hi ⟨v2,v3,v4,v5,v6,v7,rfl,sm,hD⟩ hp
   obtain⟨⟨a,b,c⟩,hs,t,rfl,hb⟩:=aU ht hi
   have hb:H t=some (.tup [.int (a:Int),.int (b:Int),.int (c:Int)]):=hb
   have et:ts.take (i+1)=ts.take i++[(a,b,c)]:=by rw[List.take_add_one,hs];rfl
   (generalize z:upd H2 p _=H3;have s3:=ah hp z;have y3:=ai z;clear z)
   refine⟨p,_,rfl,SqT.of y3,rfl,_,_,rfl,_,_,rfl,t,_,rfl,SqT.of (s3 _ _ (sm _ _ hb)),rfl,_,_,rfl,_,_,rfl,_,_,rfl,rfl,rfl,?_⟩
   refine⟨_,rfl,_,rfl,lit2,fun sa ga=>?_⟩
   (generalize z:upd H3 sa _=H4;have s4:=ah ga z;have y4:=ai z;clear z)
   refine⟨_,rfl,lit2,fun ua gua=>?_⟩
   (generalize z:upd H4 ua _=H5;have s5:=ah gua z;have y5:=ai z;clear z)
   refine⟨_,rfl,_,rfl,lit2,fun sb gb=>?_⟩
   (generalize z:upd H5 sb _=H6;have s6:=ah gb z;have y6:=ai z;clear z)
   refine⟨_,rfl,lit2,fun ub gub=>?_⟩
   (generalize z:upd H6 ub _=H7;have s7:=ah gub z;have y7:=ai z;clear z)
   refine⟨_,rfl,_,rfl,lit2,fun sc gc=>?_⟩
   (generalize z:upd H7 sc _=H8;have s8:=ah gc z;have y8:=ai z;clear z)
   refine⟨_,rfl,lit2,fun uc guc=>?_⟩
   (generalize z:upd H8 uc _=H9;have s9:=ah guc z;have y9:=ai z;clear z)
   refine⟨lit3,fun M gM=>?_⟩
   (generalize z:upd H9 M _=Ha;have sA:=ah gM z;have yM:=ai z;clear z)
   have s37:Same H3 H7:=((s4.trans s5).trans s6).trans s7
   have s7a:Same H7 Ha:=(s8.trans s9).trans sA
   have s3a:Same H3 Ha:=s37.trans s7a
   have en:Paired (EnAt Ha) [V.ref ua,.ref ub,.ref uc] [((a,b),c),((b,c),a),((c,a),b)]:=
    .cons ⟨ua,sa,rfl,s7a _ _ (s7 _ _ (s6 _ _ y5)),s7a _ _ (s7 _ _ (s6 _ _ (s5 _ _ y4)))⟩ (.cons ⟨ub,sb,rfl,s7a _ _ y7,s7a _ _ (s7 _ _ y6)⟩ (.cons ⟨uc,sc,rfl,sA _ _ y9,sA _ _ (s9 _ _ y8)⟩ .nil))
   have hDa:Ha D=some (.dT ((ents (ts.take i)).map entV)):=s3a _ _ (s3 _ _ hD)
   have nd1:((ents (ts.take (i+1))).map (·.1)).Nodup:=by
    rw[←List.take_append_drop (i+1) ts,ce,List.map_append,List.nodup_append] at hnd
    exact hnd.1
   have ee:ents (ts.take (i+1))=ents (ts.take i)++[((a,b),c),((b,c),a),((c,a),b)]:=by rw[et,ce];simp[ents]
   rw[ee] at nd1
   have l0:=bu (ts.take i)
   rw[List.length_take] at l0
   have smA:Same H Ha:=(sm.trans s3).trans s3a
   generalize he3:[((a,b),c),((b,c),a),((c,a),b)]=e3 at en nd1 ee
   have le3:e3.length=3:=by rw[←he3];rfl
   have hMD:M≠D:=fun z=>by rw[z,hDa] at yM;cases yM
   refine⟨M,rfl,⟨_,SqL.of yM⟩,bj (K:=K) (a:=M) (xs:=[V.ref ua,.ref ub,.ref uc]) (fun j σ H'=>∃w6 w7,σ=[some (.ref T0),some (.ref D),some (.int (i:Int)),some (.int (a:Int)),some (.int (b:Int)),some (.int (c:Int)),w6,w7]∧(∀b' o,b'≠D→Ha b' = some o→H' b' = some o)∧H' D=some (.dT ((ents (ts.take i)++e3.take j).map entV)))
    ⟨v6,v7,rfl,fun _ _ _ e=>e,by rw[List.take_zero,List.append_nil];exact hDa⟩ (fun j σ H' _ ⟨_,_,_,e,_⟩=>SqL.of (e _ _ hMD yM)) ?_ ?_⟩
   ·rintro j x σ H' hj ⟨w6,w7,rfl,but,hD'⟩
    obtain⟨⟨⟨m,n⟩,o⟩,ho,u,sd,rfl,hu1,hs1⟩:=aU en hj
    have hu1:Ha u=some (.tup [.ref sd,.int (o:Int)]):=hu1
    have hs1:Ha sd=some (.tup ((ky m n).map kV)):=hs1
    have ej:e3.take (j+1)=e3.take j++[((m,n),o)]:=by rw[List.take_add_one,ho];rfl
    have hjl:j < e3.length:=(List.getElem?_eq_some_iff.mp ho).1
    have notin:(m,n)∉(ents (ts.take i)++e3.take j).map (·.1):=by
     rw[←List.take_append_drop (j+1) e3,ej,List.append_assoc,←List.append_assoc,List.map_append,List.nodup_append] at nd1
     exact fun z=>nd1.2.2 _ z (m,n) (by simp) rfl
    have nu:u≠D:=fun z=>by rw[z,hDa] at hu1;cases hu1
    have ns:sd≠D:=fun z=>by rw[z,hDa] at hs1;cases hs1
    refine⟨u,_,rfl,SqT.of (but _ _ nu hu1),rfl,_,_,rfl,_,_,rfl,rfl,?_⟩
    refine⟨_,rfl,_,rfl,D,_,rfl,DGet.t (k:=ky m n) hD' (but _ _ ns hs1),false,by rw[cu.mpr notin];rfl,iteF ?_⟩
    refine⟨_,rfl,_,rfl,_,rfl,D,_,rfl,DPut.t (k:=ky m n) hD' (but _ _ ns hs1) (by rw[List.length_map,List.length_append,List.length_take];omega),?_⟩
    rw[hW notin]
    (generalize z:upd H' D _=Hb;have kb:=aH z;have yb:=ai z;clear z)
    exact⟨_,_,rfl,fun b' o e1 e2=>(kb b' e1).trans (but b' o e1 e2),by rw[yb,ej,List.append_assoc]⟩
   ·rintro σ H' ⟨w6,w7,rfl,but,hD'⟩
    have:e3.take [V.ref ua,.ref ub,.ref uc].length=e3:=List.take_of_length_le (by rw[le3];exact Nat.le_refl 3)
    rw[this] at hD'
    exact⟨_,_,_,_,_,_,rfl,fun b' o e=>but b' o (ag e h1) (smA _ _ e),by rw[hD',ee]⟩
  ·rintro σ H2 ⟨v2,v3,v4,v5,v6,v7,rfl,sm,hD⟩
   rw[hlen,List.take_length] at hD
   exact⟨_,rfl,q D H2 h1 sm hD⟩
end
end K15
end
section
namespace K15
open PySem L2 K51 K31
def stV (x:Nat × Addr):Key × V:=(Sum.inl (x.1:Int),V.ref x.2)
theorem ue {L:List (Nat × Addr)} {c:Nat} (h:c∉L.map (·.1)):valV (L.map stV) (Sum.inl (c:Int):Key)=none:=by
 induction L with
 |nil=>simp[valV]
 |cons x L ih=>
  rw[List.map_cons,List.mem_cons,not_or] at h
  rw[List.map_cons,bV (fun z=>h.1 ?_)]
  ·exact ih h.2
  ·have:(x.1:Int)=(c:Int):=Sum.inl.inj z
   omega
theorem lU {L:List (Nat × Addr)} {c:Nat} (h:c∈L.map (·.1)):∃a,(c,a)∈L∧valV (L.map stV) (Sum.inl (c:Int):Key)=some (V.ref a):=by
 induction L with
 |nil=>cases h
 |cons y L ih=>
  obtain⟨c',x⟩:=y
  by_cases e:c' = c
  ·subst e
   exact⟨x,by simp,cU (p:=stV (c',x)) (r:=L.map stV) rfl⟩
  ·rw[List.map_cons] at h
   obtain⟨a,h1,h2⟩:=ih ((List.mem_cons.mp h).resolve_left fun z=>e z.symm)
   refine⟨a,List.mem_cons_of_mem _ h1,?_⟩
   rw[List.map_cons,bV (fun z=>e ?_)]
   ·exact h2
   ·have:(c':Int)=(c:Int):=Sum.inl.inj z
    omega
def abt (es:List Ent) (c:Nat):List (Nat × Nat):=(es.filter fun e=>decide (e.1.1=c)).map fun e=>(e.1.2,e.2)
theorem h_ {es:List Ent} {c p q:Nat}:(p,q)∈abt es c↔((c,p),q)∈es:=by
 unfold abt
 rw[List.mem_map]
 constructor
 ·rintro⟨⟨⟨a,b⟩,d⟩,h1,h2⟩
  rw[List.mem_filter,decide_eq_true_eq] at h1
  obtain⟨h1,rfl⟩:=h1
  cases h2
  exact h1
 ·intro h
  exact⟨_,List.mem_filter.mpr ⟨h,decide_eq_true rfl⟩,rfl⟩
theorem oi (es:List Ent) (c:Nat):(abt es c).length≤es.length:=by
 unfold abt
 rw[List.length_map]
 exact List.length_filter_le _ _
theorem lM {es:List Ent} {c p:Nat} (h:p∈(abt es c).map (·.1)):(c,p)∈es.map (·.1):=by
 obtain⟨⟨p',q⟩,h1,rfl⟩:=List.mem_map.mp h
 exact List.mem_map.mpr ⟨_,h_.mp h1,rfl⟩
theorem vv {es:List Ent} (h:(es.map (·.1)).Nodup) (c:Nat):((abt es c).map (·.1)).Nodup:=by
 induction es with
 |nil=>simp[abt]
 |cons e es ih=>
  rw[List.map_cons,List.nodup_cons] at h
  by_cases he:e.1.1=c
  ·have e1:abt (e::es) c=(e.1.2,e.2)::abt es c:=by unfold abt;rw[List.filter_cons,if_pos (decide_eq_true he)];rfl
   rw[e1,List.map_cons,List.nodup_cons]
   refine⟨fun z=>h.1 ?_,ih h.2⟩
   have:=lM z
   rw[←he] at this
   exact this
  ·have e1:abt (e::es) c=abt es c:=by unfold abt;rw[List.filter_cons,if_neg (by simpa using he)]
   rw[e1];exact ih h.2
theorem iV (es:List Ent) (c p q c':Nat):abt (es++[((c,p),q)]) c' = if c=c' then abt es c'++[(p,q)] else abt es c':=by
 unfold abt
 rw[List.filter_append,List.map_append,List.filter_cons]
 by_cases h:c=c'
 ·rw[if_pos h,if_pos (decide_eq_true h)];rfl
 ·rw[if_neg h,if_neg (by simpa using h)];simp
structure StAt (H0 H:Hp) (S:Addr) (es:List Ent) (L:List (Nat × Addr)):Prop where
 at_:H S=some (.dK (L.map stV))
 len:L.length≤es.length
 nk:(L.map (·.1)).Nodup
 na:(L.map (·.2)).Nodup
 fr:∀x∈L,H0 x.2=none∧x.2≠S
 ab:∀x∈L,H x.2=some (.dK ((abt es x.1).map nmV))
 key:∀c,c∈L.map (·.1)↔∃p q,((c,p),q)∈es
def jB:Sp:=fun vs H Q _=>∃(D:Addr) (es:List Ent),vs=[.ref D]∧H D=some (.dT (es.map entV))∧(es.map (·.1)).Nodup∧es.length≤1200 ∧
 ∀S L H',H S=none→Sm H H'→StAt H H' S es L→Q (.ref S) H'
theorem s_ {L:List (Nat × Addr)} (nk:(L.map (·.1)).Nodup) (na:(L.map (·.2)).Nodup) {c c':Nat} {a:Addr} (h:(c,a)∈L) (h':(c',a)∈L):c=c':=by
 induction L with
 |nil=>cases h
 |cons x L ih=>
  rw[List.map_cons,List.nodup_cons] at nk na
  rcases List.mem_cons.mp h with e|h
  ·rcases List.mem_cons.mp h' with e' | h'
   ·rw[←e] at e';cases e';rfl
   ·exact (na.1 (List.mem_map.mpr ⟨_,h',by rw[←e]⟩)).elim
  ·rcases List.mem_cons.mp h' with e' | h'
   ·exact (na.1 (List.mem_map.mpr ⟨_,h,by rw[←e']⟩)).elim
   ·exact ih nk.2 na.2 h h'
section
variable {P:Program} {w:World} {K:W.Frag} {mg:Str→Option Value} {base:Heap}
theorem eR:aC ["thirds","steps","c","p","q","about"] ["thirds"] (af dv):=⟨rfl,rfl,rfl,by decide +kernel,rfl,by decide +kernel,by decide +kernel⟩
theorem p9 {f:Addr} {fd:FuncData} (U:Fun K "steps_by_corner" "steps_by_corner" dv f fd):FnOk P w K mg base CX0 1 f fd ["thirds"] jB:=by
 refine U.ok eR (fun vs H Q E h=>?_) (fun cdv A outer s H vs Q E hr h=>?_)
 ·obtain⟨D,es,rfl,_⟩:=h
  rfl
 ·obtain⟨D,es,rfl,hD,hnd,hl,q⟩:=h
  have hu:=b_ hr
  refine⟨_,ae (av (i:=1) eR.nd rfl (Or.inl rfl) dP)
   (ae (bd PassesOwn.never rfl (pU (pX PySem.F.slot_dict_items PySem.F.type_dict_items qo (pv 0))) (bI rfl (aw (bI rfl (aw (aq (i:=2) eR.nd rfl (Or.inl rfl)) (aw (aq (i:=3) eR.nd rfl (Or.inl rfl)) be))) (aw (aq (i:=4) eR.nd rfl (Or.inl rfl)) be)))
    (ae (av (i:=5) eR.nd rfl (Or.inl rfl) (bU PySem.F.plainAttrs_dict PySem.F.slot_dict_setdefault PySem.F.type_dict_setdefault iY (pv 1) (aa (pv 2) (aa dP ac))))
    (ak (d_ hu (pv 5) (pv 3) (pv 4) rfl))))
   (ak (aD (pv 1)))),?_⟩
  have hline:=line5000
  refine fun S hS=>?_
  (generalize z:upd H S _=H1;have s1:=ah hS z;have y1:=ai z;clear z)
  have hD1:=s1 _ _ hD
  refine⟨_,rfl,⟨D,rfl,.inr ⟨_,.inl hD1⟩⟩,D,_,rfl,rfl,.inl hD1,True.intro,fun v hv=>?_⟩
  (generalize z:upd H1 v _=H2;have s2:=ah hv z;have y2:=ai z;clear z)
  have hD2:=s2 _ _ hD1
  refine⟨v,D,_,rfl,y2,.inl hD2,True.intro,fun ks vs o H3 hk hz=>?_⟩
  obtain⟨as,pa,rfl,rfl⟩:∃as,Paired (fun (p:List Key × V) a=>H2 a=some (.tup (p.1.map kV))) (es.map entV) as∧ks=as.map V.ref∧vs=(es.map entV).map (·.2):=by
   rcases hk with ⟨kvs,e,_⟩|⟨kvs,as,e,h1,h2,h3⟩
   ·cases e
   ·cases e;exact⟨as,h1,h2,h3⟩
  have lk:as.length=es.length:=by rw[←ax pa,List.length_map]
  have sm3:Sm H H3:=(Sm.of (s1.trans s2)).trans hz.sm
  have yS3:H3 S=some (.dK (([]:List (Nat × Addr)).map stV)):=by
   rw[hz.ne (fun z=>by rw[z,hD1] at y1;cases y1)];exact s2 _ _ y1
  refine o0 (d:=D) (o:=o) (u:=.dT (es.map entV)) (ks:=as.map V.ref) (vs:=(es.map entV).map (·.2)) (fun i σ H'=>∃v2 v3 v4 v5 L,σ=[some (.ref D),some (.ref S),v2,v3,v4,v5]∧Sm H H'∧H' D=some (.frz o (.dT (es.map entV)))∧(∀a xs,H2 a=some (.tup xs)→H' a=some (.tup xs))∧StAt H H' S (es.take i) L)
   ⟨none,none,none,none,[],rfl,sm3,hz.at,fun a xs e=>hz.sm.keep e (fun z=>z),⟨yS3,Nat.zero_le _,List.nodup_nil,List.nodup_nil,by simp,by simp,by simp⟩⟩ (fun i σ H' _ ⟨_,_,_,_,_,_,_,e,_⟩=>e) ?_ ?_
  ·rintro i x y pr σ H' hx hy ⟨v2,v3,v4,v5,L,rfl,sm,hfz,tps,st⟩ hpr
   rw[List.getElem?_map] at hx hy
   obtain⟨a,ha,rfl⟩:=Option.map_eq_some_iff.mp hx
   rw[List.getElem?_map] at hy
   obtain⟨kv,hkv,rfl⟩:=Option.map_eq_some_iff.mp hy
   obtain⟨⟨⟨c,p⟩,w'⟩,he,rfl⟩:=Option.map_eq_some_iff.mp hkv
   have hat:H2 a=some (.tup [.int (c:Int),.int (p:Int)]):=by
    obtain⟨kv',h1,h2⟩:=aU pa (show (es.map entV)[i]? = some (entV ((c,p),w')) by rw[List.getElem?_map,he];rfl)
    rw[ha] at h1;cases h1
    exact h2
   have et:es.take (i+1)=es.take i++[((c,p),w')]:=by rw[List.take_add_one,he];rfl
   have hil:i < es.length:=(List.getElem?_eq_some_iff.mp he).1
   have nd1:((es.take (i+1)).map (·.1)).Nodup:=by
    rw[←List.take_append_drop (i+1) es,List.map_append,List.nodup_append] at hnd
    exact hnd.1
   rw[et] at nd1
   obtain⟨nd0,notin⟩:=hJ nd1
   have hp0:p∉(abt (es.take i) c).map (·.1):=fun z=>notin (lM z)
   rw[show (entV ((c,p),w')).2=V.int (w':Int) from rfl]
   (generalize z:upd H' pr _=H4;have s4:=ah hpr z;have y4:=ai z;clear z)
   refine⟨pr,_,rfl,SqT.of y4,rfl,_,_,rfl,a,_,rfl,SqT.of (s4 _ _ (tps _ _ hat)),rfl,_,_,rfl,_,_,rfl,rfl,_,_,rfl,rfl,?_⟩
   have hS4:=s4 _ _ st.at_
   have lt:(es.take i).length≤1200:=by rw[List.length_take];omega
   refine⟨_,rfl,.inr (.inr (.inl ⟨rfl,.inl ⟨_,hS4⟩⟩)),_,rfl,fun z hz0=>?_⟩
   (generalize z:upd H4 z _=H5;have s5:=ah hz0 z;have y5:=ai z;clear z)
   have hS5:=s5 _ _ hS4
   have sm5:Sm H H5:=(sm.trans (Sm.of s4)).trans (Sm.of s5)
   have zH:H z=none:=(sm.trans (Sm.of s4)).free hz0
   have zH':H' z=none:=s4.free hz0
   have s45:=s4.trans s5
   have la:=oi (es.take i) c
   refine⟨S,_,Sum.inl (c:Int),.ref z,rfl,rfl,hS5,by rw[List.length_map];have:=st.len;omega,fun u hu'=>?_,fun hn=>?_⟩
   ·have hc:c∈L.map (·.1):=Classical.byContradiction fun zz=>by rw[ue zz] at hu';cases hu'
    obtain⟨ad,hL,hval⟩:=lU hc
    rw[hval] at hu'
    cases hu'
    have hab:H5 ad=some (.dK ((abt (es.take i) c).map nmV)):=s45 _ _ (st.ab _ hL)
    obtain⟨adH,adS⟩:H ad=none∧ad≠S:=st.fr _ hL
    refine⟨_,rfl,_,rfl,_,rfl,ad,_,rfl,DPut.k (k:=Sum.inl (p:Int)) hab (by rw[List.length_map];omega),?_⟩
    rw[io hp0]
    (generalize z:upd H5 ad _=H6;have k6:=aH z;have y6:=ai z;clear z)
    refine⟨_,_,_,_,L,rfl,fun b o e=>?_,?_,fun b xs e=>?_,⟨(k6 S adS.symm).trans hS5,?_,st.nk,st.na,st.fr,fun x hx'=>?_,fun c'=>?_⟩⟩
    ·rw[k6 b (ag e adH)];exact sm5 b o e
    ·rw[k6 D (fun zz=>by rw[zz,adH] at hD;cases hD)];exact s45 _ _ hfz
    ·have e2:=s45 _ _ (tps b xs e)
     rw[k6 b (fun zz=>by rw[zz,hab] at e2;cases e2)];exact e2
    ·rw[et,List.length_append];have:=st.len;omega
    ·obtain⟨c',b⟩:=x
     rw[et,iV]
     by_cases hcc:c=c'
     ·subst hcc
      rw[if_pos rfl]
      have:b=ad:=jh st.nk hx' hL
      subst this
      exact y6
     ·rw[if_neg hcc]
      have nb:b≠ad:=fun zz=>hcc (by subst zz;exact s_ st.nk st.na hL hx')
      rw[k6 b nb];exact s45 _ _ (st.ab _ hx')
    ·rw[st.key c',et]
     constructor
     ·rintro⟨p1,q1,h1⟩;exact⟨p1,q1,List.mem_append_left _ h1⟩
     ·rintro⟨p1,q1,h1⟩
      rcases List.mem_append.mp h1 with h1|h1
      ·exact⟨p1,q1,h1⟩
      ·rw[List.mem_singleton] at h1
       cases h1
       exact (st.key _).mp hc
   ·have hc:c∉L.map (·.1):=fun zz=>by
     obtain⟨_,_,h⟩:=lU zz
     rw[hn] at h;cases h
    have putS:putK (L.map stV) (Sum.inl (c:Int):Key) (V.ref z)=(L++[(c,z)]).map stV:=by rw[fR _ hn,List.map_append];rfl
    rw[putS]
    have zS:z≠S:=fun zz=>by rw[zz,hS] at zH;rw[zz] at hz0;rw[hS4] at hz0;cases hz0
    (generalize z:upd H5 S _=H6;have k6:=aH z;have y6:=ai z;clear z)
    have a0:abt (es.take i) c=[]:=by
     cases e:abt (es.take i) c with
     |nil=>rfl
     |cons x r=>
      obtain⟨p1,q1⟩:=x
      have:(p1,q1)∈abt (es.take i) c:=by rw[e];simp
      exact (hc ((st.key c).mpr ⟨p1,q1,h_.mp this⟩)).elim
    have hz6:H6 z=some (.dK (([]:List (Nat × Nat)).map nmV)):=(k6 z zS).trans y5
    refine⟨_,rfl,_,rfl,_,rfl,z,_,rfl,DPut.k (k:=Sum.inl (p:Int)) hz6 (by simp;omega),?_⟩
    rw[io (by simp)]
    (generalize z:upd H6 z _=H7;have k7:=aH z;have y7:=ai z;clear z)
    have nbS:∀b,H b≠none→b≠S:=fun b h zz=>h (by rw[zz];exact hS)
    refine⟨_,_,_,_,L++[(c,z)],rfl,fun b o e=>?_,?_,fun b xs e=>?_,⟨(k7 S zS.symm).trans y6,?_,?_,?_,fun x hx'=>?_,fun x hx'=>?_,fun c'=>?_⟩⟩
    ·rw[k7 b (ag e zH),k6 b (ag e hS)];exact sm5 b o e
    ·have e1:=s45 _ _ hfz
     rw[k7 D (fun zz=>by rw[zz,zH] at hD;cases hD),k6 D (fun zz=>by rw[zz,hS] at hD;cases hD)];exact e1
    ·have e2:=tps b xs e
     rw[k7 b (ag e2 zH'),k6 b (fun zz=>by rw[zz,st.at_] at e2;cases e2)];exact s45 _ _ e2
    ·rw[et,List.length_append,List.length_append];have:=st.len;simp only[List.length_singleton];omega
    ·rw[List.map_append,List.nodup_append]
     refine⟨st.nk,by simp,fun a1 h1 b1 h2=>?_⟩
     simp at h2
     subst h2
     rintro rfl
     exact hc h1
    ·rw[List.map_append,List.nodup_append]
     refine⟨st.na,by simp,fun a1 h1 b1 h2=>?_⟩
     simp at h2
     subst h2
     rintro rfl
     obtain⟨x,hx1,hx2⟩:=List.mem_map.mp h1
     have:=st.ab x hx1
     rw[hx2,zH'] at this;cases this
    ·rcases List.mem_append.mp hx' with h|h
     ·exact st.fr x h
     ·rw[List.mem_singleton.mp h];exact⟨zH,zS⟩
    ·rcases List.mem_append.mp hx' with h|h
     ·have hne:x.1≠c:=fun zz=>hc (List.mem_map.mpr ⟨x,h,zz⟩)
      rw[et,iV,if_neg (fun zz=>hne zz.symm)]
      have e1:=st.ab x h
      rw[k7 x.2 (ag e1 zH'),k6 x.2 (st.fr x h).2];exact s45 _ _ e1
     ·rw[List.mem_singleton.mp h,et,iV,if_pos rfl,a0]
      exact y7
    ·rw[List.map_append,List.mem_append,st.key c',et]
     constructor
     ·rintro (⟨p1,q1,h1⟩|h1)
      ·exact⟨p1,q1,List.mem_append_left _ h1⟩
      ·simp at h1
       subst h1
       exact⟨p,w',by simp⟩
     ·rintro⟨p1,q1,h1⟩
      rcases List.mem_append.mp h1 with h1|h1
      ·exact .inl ⟨p1,q1,h1⟩
      ·rw[List.mem_singleton] at h1
       cases h1
       exact .inr (by simp)
  ·rintro σ H' ⟨v2,v3,v4,v5,L,rfl,sm,hfz,tps,st⟩
   rw[List.length_map,lk,List.take_length] at st
   exact⟨_,rfl,q S L H' hS sm st⟩
end
end K15
end
section
namespace K15
open PySem L2 K51 K31
def jG:Sp:=fun vs H Q _=>∃(S:Addr) (ts:List Tri) (L:List (Nat × Addr)),vs=[.ref S]∧H S=some (.dK (L.map stV))∧(L.map (·.1)).Nodup∧(∀x∈L,Rd H x.2 (.dK ((abt (ents ts) x.1).map nmV))) ∧
 (∀c,c∈L.map (·.1)↔Co ts c)∧L.length < 5000∧ts.length≤200∧Good ts∧(∀c,Co ts c→One (En ts) c)∧∀H',Sm H H'→Q .non H'
theorem vq {ts:List Tri} (g:Good ts) (c:Nat):Abt (En ts) c (abt (ents ts) c):=⟨vv g.nd c,fun _ _=>h_⟩
section
variable {P:Program} {w:World} {K:W.Frag} {mg:Str→Option Value} {base:Heap}
theorem nA:aC ["steps","corner"] ["steps"] (af dB):=⟨rfl,rfl,rfl,by decide +kernel,rfl,by decide +kernel,by decide +kernel⟩
theorem oH {f f1:Addr} {fd d1:FuncData} (U:Fun K "look_rounds_through" "look_rounds_through" dB f fd) (mS:mg "sorted" = none) (G:FnOk P w K mg base CX0 2 f1 d1 ["about"] lW) (b1:Binds K d1 ["about"] []) (m1:mg "hang_together" = some (.ref f1)) (k1:W.keepIn K (.ref f1)=true) :
  FnOk P w K mg base CX0 3 f fd ["steps"] jG:=by
 refine U.ok nA (fun vs H Q E h=>?_) (fun cdv A outer s H vs Q E hr h=>?_)
 ·obtain⟨S,ts,L,rfl,_⟩:=h
  rfl
 ·obtain⟨S,ts,L,rfl,hS,nk,hab,hkey,hL,hl,g,hone,q1⟩:=h
  have hu:=b_ hr
  refine⟨_,ak (bd PassesOwn.never rfl (aK (aB (bQ rfl) (by rfl) mS bn (aa (pv 0) ac))) (aq (i:=1) nA.nd rfl (Or.inl rfl))
   (ak (cm (eI (dL (ar G hr rfl m1 k1 b1 .nil pass0 (aa (c_ hu (pv 0) (pv 1) (fun _ _=>rfl)) ac)))) eV aZ))),?_⟩
  have hline:=line5000
  refine⟨_,rfl,S,rfl,.inl ⟨_,hS⟩,fun ks vs hk=>.inl ⟨(L.map (·.1)).map (fun c:Nat=>(c:Int)),?_,by rw[List.length_map,List.length_map];exact hL,fun p ms hp pm ps=>?_⟩⟩
  ·rcases hk with ⟨kvs,e,rfl,_⟩|⟨kvs,as,e,_⟩
   ·rw[hS] at e
    cases e
    rw[List.map_map,List.map_map,List.map_map]
    rfl
   ·rw[hS] at e;cases e
  obtain⟨cs,rfl,pl,pc⟩:=dX nk pm ps
  have e:(cs.map (fun c:Nat=>(c:Int))).map V.int=nV cs:=by rw[List.map_map];rfl
  rw[e]
  (generalize z:upd H p _=H1;have s1:=ah hp z;have y1:=ai z;clear z)
  refine⟨p,rfl,⟨_,SqL.of y1⟩,bj (K:=K) (a:=p) (xs:=nV cs) (fun i σ H'=>∃o1,σ=[some (.ref S),o1]∧Sm H1 H') ⟨none,rfl,Sm.refl _⟩ (fun i σ H' _ ⟨_,_,e⟩=>SqL.of (e.keep y1 (fun z=>z))) ?_ ?_⟩
  ·rintro i x σ H2 hi ⟨o1,rfl,sm⟩
   rw[nV,List.getElem?_map] at hi
   obtain⟨c,hc,rfl⟩:=Option.map_eq_some_iff.mp hi
   have hcm:c∈L.map (·.1):=pc.mem_iff.mp (List.mem_of_getElem? hc)
   have hco:Co ts c:=(hkey c).mp hcm
   obtain⟨a,ha,hval⟩:=lU hcm
   have smH:Sm H H2:=(Sm.of s1).trans sm
   have hrd:=smH.rd (hab _ ha)
   have hne:abt (ents ts) c≠[]:=fun z=>by
    obtain⟨p',q',h⟩:=hco
    have:=h_.mpr h
    rw[z] at this;cases this
   have hlen:(abt (ents ts) c).length≤1000:=by have:=oi (ents ts) c;rw[bu] at this;omega
   refine⟨_,rfl,_,rfl,S,_,rfl,.inl ⟨_,Sum.inl (c:Int),smH.rd (.inl hS),rfl,hval.symm⟩,a,_,En ts,c,rfl,hrd,hne,hlen,g.sk,vq g c,fun b H3 sm3 hb=>?_⟩
   refine⟨_,rfl,?_⟩
   rw[hb.mpr (hone c hco)]
   exact iteF ⟨_,rfl,sm.trans sm3⟩
  ·rintro σ H2 ⟨o1,rfl,sm⟩
   exact q1 H2 ((Sm.of s1).trans sm)
end
end K15
end
section
namespace K15
open PySem L2 K51 K31
structure SCls (K:W.Frag) (C:Addr):Prop where
 cl:Cls K C
 ordered:dN K C "ordered"
 rising:dN K C "rising"
 thirds:dN K C "thirds"
 steps:dN K C "steps"
def sflds (O R D S:Addr):List (Str × V):=[("ordered",.ref O),("rising",.ref R),("thirds",.ref D),("steps",.ref S)]
structure SkAt (C:Addr) (H:Hp) (x:Addr) (ts:List Tri):Prop where
 ex:∃(dx O R D S:Addr) (L:List (Nat × Addr)),H x=some (.ins C dx (sflds O R D S))∧Rd H D (.dT ((ents ts).map entV))∧Rd H S (.dK (L.map stV))∧(L.map (·.1)).Nodup∧(∀c,c∈L.map (·.1)↔Co ts c)∧∀z∈L,Rd H z.2 (.dK ((abt (ents ts) z.1).map nmV))
theorem SkAt.sm {C:Addr} {H H':Hp} {x:Addr} {ts:List Tri} (s:Sm H H') (h:SkAt C H x ts):SkAt C H' x ts:=by
 obtain⟨dx,O,R,D,S,L,h1,h2,h3,h4,h5,h6⟩:=h
 exact⟨dx,O,R,D,S,L,s.keep h1 (fun z=>z),s.rd h2,s.rd h3,h4,h5,fun z hz=>s.rd (h6 z hz)⟩
def SmB (x:Addr) (H H':Hp):Prop:=∀b o,b≠x→H b=some o→H' b=some o∨(IsDO o∧∃ob,H' b=some (.frz ob o))
def jC (Cs:Addr):Sp:=fun vs H Q _=>∃(x dx T:Addr) (vt:List V) (ts:List Tri),vs=[.ref x,.ref T]∧H x=some (.ins Cs dx [])∧H T=some (.lst vt)∧aA H vt ts∧ts.length≤200∧Good ts∧(∀c,Co ts c→One (En ts) c) ∧
 ∀H',SmB x H H'→SkAt Cs H' x ts→Q .non H'
section
variable {P:Program} {w:World} {K:W.Frag} {mg:Str→Option Value} {base:Heap}
theorem jQ:aC ["self","triples","checked","thirds","steps"] ["self","triples"] (af eA):=⟨rfl,rfl,rfl,by decide +kernel,rfl,by decide +kernel,by decide +kernel⟩
theorem qa {f f1 f2 f3 f4 f5 Cs:Addr} {fd d1 d2 d3 d4 d5:FuncData} (U:Fun K "__init__" "Skin.__init__" eA f fd) (T:TxtN mg) (mS:mg "sorted" = none) {tM:Tok} (mM:mg "MOST_TRIPLES" = some (.int 200 tM)) (X:SCls K Cs)
  (G1:FnOk P w K mg base CX0 4 f1 d1 ["things"] gi) (b1:Binds K d1 ["things"] []) (m1:mg "checked_triples" = some (.ref f1)) (k1:W.keepIn K (.ref f1)=true)
  (G2:FnOk P w K mg base CX0 1 f2 d2 ["triples"] cw) (b2:Binds K d2 ["triples"] []) (m2:mg "thirds_by_side" = some (.ref f2)) (k2:W.keepIn K (.ref f2)=true)
  (G3:FnOk P w K mg base CX0 1 f3 d3 ["thirds"] jB) (b3:Binds K d3 ["thirds"] []) (m3:mg "steps_by_corner" = some (.ref f3)) (k3:W.keepIn K (.ref f3)=true)
  (G4:FnOk P w K mg base CX0 3 f4 d4 ["steps"] jG) (b4:Binds K d4 ["steps"] []) (m4:mg "look_rounds_through" = some (.ref f4)) (k4:W.keepIn K (.ref f4)=true)
  (G5:FnOk P w K mg base CX0 1 f5 d5 ["triple"] jN) (b5:Binds K d5 ["triple"] []) (m5:mg "begun_least" = some (.ref f5)) (k5:W.keepIn K (.ref f5)=true) :
  FnOk P w K mg base CX0 5 f fd ["self","triples"] (jC Cs):=by
 refine U.ok jQ (fun vs H Q E h=>?_) (fun cdv A outer s H vs Q E hr h=>?_)
 ·obtain⟨x,dx,T,vt,ts,rfl,_⟩:=h
  rfl
 ·obtain⟨x,dx,T0,vt,ts,rfl,hx,hT,ht,hl,g,hone,q1⟩:=h
  have hr1:Room 1 (A.deeper (PyProof.Rows.envOfC "Skin.__init__" (af eA) s.heap.objs.size f cdv)):=hr.mono (by decide)
  have hr3:Room 3 (A.deeper (PyProof.Rows.envOfC "Skin.__init__" (af eA) s.heap.objs.size f cdv)):=hr.mono (by decide)
  refine⟨_,ae (cm (aF tX (aB bc (by rfl) T.len PySem.boot_len (aa (pv 1) ac)) (sL (v:=.int 200) rfl mM ⟨_,rfl⟩) (nomark _)) eV aZ)
   (ae (av (i:=2) jQ.nd rfl (Or.inl rfl) (ar G1 hr rfl m1 k1 b1 .nil pass0 (aa (pv 1) ac)))
   (ae (av (i:=3) jQ.nd rfl (Or.inl rfl) (ar G2 hr1 rfl m2 k2 b2 .nil pass0 (aa (pv 2) ac)))
   (ae (av (i:=4) jQ.nd rfl (Or.inl rfl) (ar G3 hr1 rfl m3 k3 b3 .nil pass0 (aa (pv 3) ac)))
   (ae (aT (ar G4 hr3 rfl m4 k4 b4 .nil pass0 (aa (pv 4) ac)))
   (ae (jX (pv 0) (aB gH (by rfl) mS bn (aa (bJ (N:=["triple"]) (fr:=[none]) (fH (by decide +kernel) rfl (by decide +kernel) (by decide +kernel)) rfl (aK (pv 2))
     (fun C s H fp pins=>⟨aq (i:=0) (show (["triple"]:List Str).Nodup by decide +kernel) rfl (Or.inl rfl) (.inr rfl),cf,ar G5 hr1 rfl m5 k5 b5 .nil pass0 (aa (pv 0) ac)⟩)) ac)) rfl)
   (ae (jX (pv 0) (aB (dt rfl) (by rfl) mS bn (aa (pv 4) ac)) rfl)
   (ae (jX (pv 0) (pv 3) rfl)
   (ak (jX (pv 0) (pv 4) rfl))))))))),?_⟩
  have hline:=line5000
  have hlen:=ax ht
  refine⟨_,rfl,T0,_,rfl,.inl (SqL.of hT),_,_,rfl,rfl,_,rfl,?_⟩
  rw[decide_eq_false (by show ¬((200:Int) < (vt.length:Int));omega)]
  refine iteF ⟨_,rfl,T0,vt,ts,rfl,hT,ht,by omega,g.ne,fun r vr H1 hr0 s1 y1 tr1=>?_⟩
  refine⟨_,rfl,r,vr,ts,rfl,y1,tr1,by omega,g.nd,fun D H2 hD0 s2 y2=>?_⟩
  refine⟨_,rfl,D,ents ts,rfl,y2,g.nd,by rw[bu];omega,fun S L H3 hS0 sm3 st=>?_⟩
  have lL:L.length < 5000:=by have:=st.len;rw[bu] at this;omega
  refine⟨_,rfl,S,ts,L,rfl,st.at_,st.nk,fun z hz=>.inl (st.ab z hz),st.key,lL,by omega,g,hone,fun H4 sm4=>?_⟩
  ·have smH:Sm H H4:=((Sm.of (s1.trans s2)).trans sm3).trans sm4
   have hx4:H4 x=some (.ins Cs dx []):=smH.keep hx (fun z=>z)
   have sm24:Sm H2 H4:=sm3.trans sm4
   have hr4:H4 r=some (.lst vr):=sm24.keep (s2 _ _ y1) (fun z=>z)
   have tr4:aA H4 vr ts:=Paired.imp' (fun v' t' ⟨a',e,hh⟩=>⟨a',e,sm24.keep (s2 _ _ hh) (fun z=>z)⟩) tr1
   have hlr:=ax tr4
   refine⟨_,rfl,r,rfl,⟨_,SqL.of hr4⟩,fun Z hZ=>bf (K:=K) (a:=r) (xs:=vr) (fun i σ ys H'=>∃o us,σ=[o]∧Same H4 H'∧H' Z=some (.lst ys)∧aA H' ys us∧Paired Bg (ts.take i) us) ⟨none,[],rfl,ay hZ,al,.nil,.nil⟩
    (fun i σ ys H' _ ⟨_,_,_,e,_⟩=>SqL.of (e _ _ hr4)) ?_ ?_⟩
   ·rintro i v σ ys H' hi ⟨o,us,rfl,sm,hZ',tr,bg⟩
    obtain⟨t3,hs,t,rfl,hb⟩:=aU tr4 hi
    have hil:i < ts.length:=(List.getElem?_eq_some_iff.mp hs).1
    have ly:ys.length≤200:=by rw[ax tr,←ax bg,List.length_take];omega
    refine⟨_,rfl,t,t3,rfl,sm _ _ hb,fun r' u H5 s5 y5 hbg=>⟨s5 _ _ hZ',by omega,some (.ref t),us++[u],rfl,fun b o e=>?_,al,?_,?_⟩⟩
    ·rw[au (ag e hZ)];exact s5 _ _ (sm _ _ e)
    ·have hz5:=s5 _ _ hZ'
     have tn:∀{b':Addr} {xs:List V},H5 b' = some (.tup xs)→b'≠Z:=fun e=>bi e hz5 (by simp)
     exact bO (Paired.imp' (fun _ _ ⟨b',e1,e2⟩=>⟨b',e1,by have e3:=s5 _ _ e2;rw[au (tn e3)];exact e3⟩) tr) (.cons ⟨r',rfl,by rw[au (tn y5)];exact y5⟩ .nil)
    ·rw[List.take_add_one,hs];exact bO bg (.cons hbg .nil)
   ·rintro σ ys H5 ⟨o,ws,rfl,s5,hZ5,tr5,bg⟩
    rw[hlr,List.take_length] at bg
    have ly:ys.length≤200:=by rw[ax tr5,←ax bg];exact hl
    refine⟨Z,ys,ws.map kyT,rfl,SqL.of hZ5,km tr5,by omega,fun O ix hO pm ps=>?_⟩
    have ixb:∀i∈ix,i < ys.length:=fun i hi=>List.mem_range.mp (pm.mem_iff.mp hi)
    have tro:=ko tr5 ix ixb
    generalize (ix.map fun i=>ws.getD i (0,0,0))=us at tro
    generalize (ix.map fun i=>ys.getD i .non)=vo at tro ⊢
    (generalize z:upd H5 O _=H6;have s6:=ah hO z;have y6:=ai z;clear z)
    have s46:Same H4 H6:=s5.trans s6
    refine⟨_,rfl,x,Cs,dx,_,rfl,s46 _ _ hx4,X.cl,X.ordered,(by show 0 < 1000;decide),?_⟩
    have hS6:Rd H6 S (.dK (L.map stV)):=(Sm.of s46).rd (sm4.rd (.inl st.at_))
    have hx6:=s46 _ _ hx4
    (generalize z:upd H6 x _=H7;have k7:=aH z;have y7:=ai z;clear z)
    have rdn:∀{b:Addr} {u:HO},IsDO u→Rd H6 b u→b≠x:=fun {b u} hu hb z=>by
     subst z
     rcases hb with e|⟨ob,e⟩
     ·rw[hx6] at e;cases e;exact hu
     ·rw[hx6] at e;cases e
    have rd7:∀{b:Addr} {u:HO},IsDO u→Rd H6 b u→Rd H7 b u:=fun {b u} hu hb=>by
     have n:=rdn hu hb
     rcases hb with e|⟨ob,e⟩
     ·exact .inl ((k7 b n).trans e)
     ·exact .inr ⟨ob,(k7 b n).trans e⟩
    have hS7:=rd7 (u:=.dK (L.map stV)) True.intro hS6
    have hD6:Rd H6 D (.dT ((ents ts).map entV)):=(Sm.of s46).rd (sm24.rd (.inl y2))
    have hD7:=rd7 (u:=.dT ((ents ts).map entV)) True.intro hD6
    refine⟨_,rfl,S,_,rfl,hS7,True.intro,fun ks vs hk=>.inl ⟨(L.map (·.1)).map (fun c:Nat=>(c:Int)),?_,by rw[List.length_map,List.length_map];exact lL,fun R ms hR pm ps=>?_⟩⟩
    ·rcases hk with ⟨kvs,e,rfl,_⟩|⟨kvs,as,e,_⟩
     ·cases e
      rw[List.map_map,List.map_map,List.map_map]
      rfl
     ·cases e
    obtain⟨cs,rfl,pl,pc⟩:=dX st.nk pm ps
    have e:(cs.map (fun c:Nat=>(c:Int))).map V.int=nV cs:=by rw[List.map_map];rfl
    rw[e]
    (generalize z:upd H7 R _=H8;have s8:=ah hR z;have y8:=ai z;clear z)
    refine⟨_,rfl,x,Cs,dx,_,rfl,s8 _ _ y7,X.cl,X.rising,(by show 1 < 1000;decide),?_⟩
    (generalize z:upd H8 x _=H9;have k9:=aH z;have y9:=ai z;clear z)
    refine⟨_,rfl,_,rfl,x,Cs,dx,_,rfl,y9,X.cl,X.thirds,(by show 2 < 1000;decide),?_⟩
    (generalize z:upd H9 x _=Ha;have ka:=aH z;have ya:=ai z;clear z)
    refine⟨_,rfl,_,rfl,x,Cs,dx,_,rfl,ya,X.cl,X.steps,(by show 3 < 1000;decide),?_⟩
    (generalize z:upd Ha x _=Hb;have kb:=aH z;have yb:=ai z;clear z)
    have k8b:∀b,b≠x→Hb b=H8 b:=fun b n=>(kb b n).trans ((ka b n).trans (k9 b n))
    have k6b:∀b o,b≠x→H6 b=some o→Hb b=some o:=fun b o n e=>(k8b b n).trans (s8 _ _ ((k7 b n).trans e))
    have rdb:∀{b:Addr} {u:HO},IsDO u→Rd H6 b u→Rd Hb b u:=fun {b u} hu hb=>by
     have n:=rdn hu hb
     rcases hb with e|⟨ob,e⟩
     ·exact .inl (k6b b _ n e)
     ·exact .inr ⟨ob,k6b b _ n e⟩
    refine q1 Hb (fun b o n e=>?_) ⟨dx,O,R,D,S,L,yb,rdb True.intro hD6,rdb True.intro hS6,st.nk,st.key,fun z hz=>rdb True.intro ((Sm.of s46).rd (sm4.rd (.inl (st.ab z hz))))⟩
    rcases smH b o e with z|⟨z1,ob,z⟩
    ·exact .inl (k6b b _ n (s46 _ _ z))
    ·exact .inr ⟨z1,ob,k6b b _ n (s46 _ _ z)⟩
end
end K15
end
section
namespace K15
open PySem L2 K51 K31
section
variable {P:Program} {w:World} {K:W.Frag} {mg:Str→Option Value} {base:Heap}
end
section
theorem jO {H H':Hp} {x dx:Addr} {Cs:Addr} (h1:H x=none) (h2:H dx=none) (s:SmB x (upd (upd H dx (.own x)) x (.ins Cs dx [])) H'):Sm H H':=fun b o e=>by
 have n1:=ag e h1
 have n2:=ag e h2
 exact s b o n1 (by rw[au n1,au n2];exact e)
theorem gp {H:Hp} {x dx:Addr} {Cs:Addr} (h1:H x=none) (h2:H dx=none):Same H (upd (upd H dx (.own x)) x (.ins Cs dx [])):=fun b o e=>by
 rw[au (ag e h1),au (ag e h2)];exact e
end
end K15
end
section
namespace K15
open PySem L2 K51 K31
def Rim (ts:List Tri) (s:Nat × Nat):Prop:=s∈(ents ts).map (·.1)∧(s.2,s.1)∉(ents ts).map (·.1)
theorem _root_.K31.SdsAt.same {H H':Hp} {vs:List V} {ls:List (Nat × Nat)} (s:Same H H') (h:SdsAt H vs ls):SdsAt H' vs ls:=Paired.imp' (fun _ _ ⟨a,e,q⟩=>⟨a,e,s _ _ q⟩) h
def np:Sp:=fun vs H Q _=>∃(T:Addr) (vt:List V) (ts:List Tri),vs=[.ref T]∧H T=some (.lst vt)∧aA H vt ts∧ts.length≤20∧((ents ts).map (·.1)).Nodup ∧
 ∀r zs rs H',H r=none→Same H H'→H' r=some (.lst zs)→SdsAt H' zs rs→(∀s∈rs,Rim ts s)→rs.length≤60→rs.Nodup∧(∀s,Rim ts s→s∈rs)→Q (.ref r) H'
section
variable {P:Program} {w:World} {K:W.Frag} {mg:Str→Option Value} {base:Heap}
theorem tU:aC ["_law_triples","_law_thirds_here"] ["_law_triples"] (af bo):=⟨rfl,rfl,rfl,by decide +kernel,rfl,by decide +kernel,by decide +kernel⟩
theorem uJ {f f1:Addr} {fd d1:FuncData} (U:Fun K "_law_rim_sides" "_law_rim_sides" bo f fd) (mS:mg "sorted" = none) (G:FnOk P w K mg base CX0 1 f1 d1 ["_law_triples"] cw) (b1:Binds K d1 ["_law_triples"] []) (m1:mg "_law_thirds" = some (.ref f1)) (k1:W.keepIn K (.ref f1)=true) :
  FnOk P w K mg base CX0 2 f fd ["_law_triples"] np:=by
 refine U.ok tU (fun vs H Q E h=>?_) (fun cdv A outer s H vs Q E hr h=>?_)
 ·obtain⟨T,vt,ts,rfl,_⟩:=h
  rfl
 ·obtain⟨T,vt,ts,rfl,hT,ht,hl,hnd,q⟩:=h
  have hu:=b_ hr
  refine⟨_,ae (av (i:=1) tU.nd rfl (Or.inr rfl) (ar G hr rfl m1 k1 b1 .nil pass0 (aa (pv 0) ac)))
   (ak (aD (bJ (N:=["_law_a","_law_b","_law_thirds_here"]) (fr:=[none,none,some 1]) (g:=gTup K 2 (fT (cF 0) (fT (cF 1) gNil))) (aJ (by decide +kernel) rfl rfl (by decide +kernel) (by decide +kernel) (by
      intro y hy e
      simp only[List.mem_cons,List.not_mem_nil,or_false] at hy
      rcases hy with rfl|rfl|rfl|rfl
      all_goals first|(cases e;done)|exact .inl rfl) (by
      intro j i y e1 e2
      match j,e1,e2 with
      |0,e1,_=>simp at e1
      |1,e1,_=>simp at e1
      |2,e1,e2=>simp at e1 e2;subst e1 e2;exact⟨rfl,rfl⟩
      |j+3,e1,_=>simp at e1)) rfl (aK (aB (bQ rfl) (by rfl) mS bn (aa (pv 1) ac)))
     (fun C' s' H' fp pins=>⟨bI rfl (aw (aq (i:=0) (show (["_law_a","_law_b","_law_thirds_here"]:List Str).Nodup by decide +kernel) rfl (Or.inl rfl) (.inr rfl)) (aw (aq (i:=1) (show (["_law_a","_law_b","_law_thirds_here"]:List Str).Nodup by decide +kernel) rfl (Or.inl rfl) (.inr rfl)) be)),
      ef (gr (eX hu (aE (aa (pv 1) (aa (pv 0) ac))) (pv 2))),aE (aa (pv 0) (aa (pv 1) ac))⟩)))),?_⟩
  have hline:=line5000
  refine⟨_,rfl,T,vt,ts,rfl,hT,ht,by omega,hnd,fun D H1 hD0 s1 hD=>?_⟩
  refine⟨_,rfl,D,rfl,.inr ⟨_,hD⟩,fun ks vs hk=>.inr ⟨_,kH (cr (K:=K) hD hk),?_,fun p ix hp pm _=>?_⟩⟩
  ·rw[ax (cr (K:=K) hD hk),List.length_map,bu];omega
  have sd0:=cr (K:=K) hD hk
  have lk:=ax sd0
  (generalize z:upd H1 p _=H2;have s2:=ah hp z;have y2:=ai z;clear z)
  have ixb:∀i∈ix,i < ks.length:=fun i hi=>List.mem_range.mp (pm.mem_iff.mp hi)
  have sdz:=ik (Paired.imp' (fun _ _ ⟨a,e,h⟩=>⟨a,e,s2 _ _ h⟩) sd0:SdsAt H2 ks ((ents ts).map (·.1))) ix ixb
  have pss:(ix.map fun i=>((ents ts).map (·.1)).getD i (0,0)).Perm ((ents ts).map (·.1)):=je (by rw[←lk];exact pm)
  generalize (ix.map fun i=>((ents ts).map (·.1)).getD i (0,0))=ss at sdz pss
  generalize (ix.map fun i=>ks.getD i .non)=zs at sdz y2
  have lz:=ax sdz
  have ndss:ss.Nodup:=pss.nodup_iff.mpr hnd
  have lss:ss.length≤60:=by rw[pss.length_eq,List.length_map,bu];omega
  refine⟨p,rfl,⟨_,SqL.of y2⟩,fun Z hZ=>bf (K:=K) (a:=p) (xs:=zs) (fun i σ ys H'=>∃o1 o2 rs,σ=[o1,o2,some (.ref D)]∧Same H2 H'∧H' Z=some (.lst ys)∧SdsAt H' ys rs∧(∀s∈rs,Rim ts s)∧rs.length≤i∧rs.Nodup∧(∀s∈rs,s∈ss.take i)∧∀s∈ss.take i,Rim ts s→s∈rs) ⟨none,none,[],rfl,ay hZ,al,.nil,by simp,Nat.le_refl _,.nil,by simp,by simp⟩ (fun i σ ys H' _ ⟨_,_,_,_,e,_⟩=>SqL.of (e _ _ y2)) ?_ ?_⟩
  ·rintro i y σ ys H' hi ⟨o1,o2,rs,rfl,sm,hZ',sd,hrs,lrs,ndr,inr,allr⟩
   obtain⟨⟨a,b⟩,hs,c,rfl,hc⟩:=aU sdz hi
   have hil:i < ss.length:=(List.getElem?_eq_some_iff.mp hs).1
   have hm:(a,b)∈(ents ts).map (·.1):=pss.mem_iff.mp (List.mem_of_getElem? hs)
   have et:ss.take (i+1)=ss.take i++[(a,b)]:=by rw[List.take_add_one,hs];rfl
   refine⟨c,_,rfl,SqT.of (sm _ _ hc),rfl,_,_,rfl,_,_,rfl,rfl,?_⟩
   refine⟨_,rfl,_,rfl,lit2,fun t1 g1=>?_⟩
   (generalize z:upd H' t1 _=H3;have s3:=ah g1 z;have y3:=ai z;clear z)
   have lys:ys.length≤60:=by rw[ax sd];omega
   refine⟨_,rfl,D,_,rfl,DGet.t (k:=ky b a) (s3 _ _ (sm _ _ (s2 _ _ hD))) y3,?_⟩
   by_cases hba:(b,a)∈(ents ts).map (·.1)
   ·have hv:(valV ((ents ts).map entV) (ky b a)).isSome=true:=by
     cases e:valV ((ents ts).map entV) (ky b a) with
     |none=>exact (cu.mp e hba).elim
     |some v=>rfl
    refine⟨false,by rw[hv];rfl,iteF ⟨_,_,rs,rfl,sm.trans s3,s3 _ _ hZ',K31.SdsAt.same s3 sd,hrs,by omega,ndr,fun s hs'=>by rw[et];exact List.mem_append_left _ (inr s hs'),fun s hs' hr'=>by
     rw[et] at hs'
     rcases List.mem_append.mp hs' with h|h
     ·exact allr s h hr'
     ·rw[List.mem_singleton.mp h] at hr';exact (hr'.2 hba).elim⟩⟩
   ·refine⟨true,by rw[cu.mpr hba];rfl,iteT ⟨_,rfl,_,rfl,lit2,fun t2 g2=>?_⟩⟩
    (generalize z:upd H3 t2 _=H4;have s4:=ah g2 z;have y4:=ai z;clear z)
    have hZ4:=s4 _ _ (s3 _ _ hZ')
    have tn:∀{b':Addr} {xs:List V},H4 b' = some (.tup xs)→b'≠Z:=fun e=>bi e hZ4 (by simp)
    refine⟨hZ4,by omega,_,_,rs++[(a,b)],rfl,fun b' o e=>?_,al,?_,?_,by rw[List.length_append,List.length_singleton];omega,?_,fun s hs'=>?_,fun s hs' hr'=>?_⟩
    ·rw[au (ag e hZ)];exact s4 _ _ (s3 _ _ (sm _ _ e))
    ·exact bO (Paired.imp' (fun _ _ ⟨b',e1,e2⟩=>⟨b',e1,by have e3:=s4 _ _ (s3 _ _ e2);rw[au (tn e3)];exact e3⟩) sd) (.cons ⟨t2,rfl,by rw[au (tn y4)];exact y4⟩ .nil)
    ·intro s hs'
     rcases List.mem_append.mp hs' with h|h
     ·exact hrs s h
     ·rw[List.mem_singleton.mp h];exact⟨hm,hba⟩
    ·rw[List.nodup_append]
     refine⟨ndr,by simp,fun x hx z hz e=>?_⟩
     rw[List.mem_singleton.mp hz] at e
     rw[e] at hx
     have nd:=ndss
     rw[←List.take_append_drop (i+1) ss,et,List.nodup_append,List.nodup_append] at nd
     exact nd.1.2.2 _ (inr _ hx) _ (by simp) rfl
    ·rw[et]
     rcases List.mem_append.mp hs' with h|h
     ·exact List.mem_append_left _ (inr s h)
     ·exact List.mem_append_right _ h
    ·rw[et] at hs'
     rcases List.mem_append.mp hs' with h|h
     ·exact List.mem_append_left _ (allr s h hr')
     ·exact List.mem_append_right _ h
  ·rintro σ ys H' ⟨o1,o2,rs,rfl,sm,hZ',sd,hrs,lrs,ndr,inr,allr⟩
   refine q Z ys rs H' ?_ ((s1.trans s2).trans sm) hZ' sd hrs (by omega) ⟨ndr,fun s hs=>allr s (by rw[List.take_of_length_le (by omega)];exact pss.mem_iff.mpr hs.1) hs⟩
   exact (s1.trans s2).free hZ
end
end K15
end
section
namespace K15
open PySem L2 K51 K31
def jJ:Sp:=fun vs H Q _=>∃(p:Addr) (q:Int × Int) (m:Nat),vs=[.ref p,.int (m:Int)]∧H p=some (.lst (potV q))∧br q∧m≤16 ∧
 ∀r vr ts q' H',H r=none→But p H H'→H' p=some (.lst (potV q'))→br q'→H' r=some (.lst vr)→aA H' vr ts→ts.length≤m→Good ts→Q (.ref r) H'
def Cov (ts:List Tri) (n:Nat):Prop:=∀c,Co ts c↔c < n
theorem vk {ts:List Tri} {cs:List Nat} {n:Nat} (h:Cs ts cs) (hc:Cov ts n):cs.length=n:=by
 have nd:cs.Nodup:=h.1.imp fun hab=>Nat.ne_of_lt hab
 have:cs.Perm (List.range n):=(List.perm_ext_iff_of_nodup nd List.nodup_range).mpr fun a=>by
  rw[List.mem_range,h.2 a]
  refine Iff.trans ?_ (hc a)
  rw[aW]
  unfold flat
  rw[List.mem_flatMap]
  constructor
  ·rintro⟨t,h1,h2⟩
   exact⟨t,h1,by simpa using h2⟩
  ·rintro⟨t,h1,h2⟩
   exact⟨t,h1,by simpa using h2⟩
 rw[this.length_eq,List.length_range]
theorem re {ts:List Tri} {n a b x:Nat} (hc:Cov ts n) (ha:a < n) (hb:b < n) (hx:x < n∨x=n):Cov (ts++[(b,a,x)]) (if x=n then n+1 else n):=fun c=>by
 have:Co (ts++[(b,a,x)]) c↔Co ts c∨c=b∨c=a∨c=x:=by
  rw[aW,aW]
  constructor
  ·rintro⟨t,h1,h2⟩
   rcases List.mem_append.mp h1 with h|h
   ·exact .inl ⟨t,h,h2⟩
   ·rw[List.mem_singleton] at h
    subst h
    exact .inr h2
  ·rintro (⟨t,h1,h2⟩|h)
   ·exact⟨t,List.mem_append_left _ h1,h2⟩
   ·exact⟨(b,a,x),by simp,h⟩
 rw[this,hc c]
 split <;> omega
theorem tL {ts:List Tri} {n:Nat} (hc:Cov ts n):Cov (ts++[(n,n+1,n+2)]) (n+3):=fun c=>by
 have:Co (ts++[(n,n+1,n+2)]) c↔Co ts c∨c=n∨c=n+1∨c=n+2:=by
  rw[aW,aW]
  constructor
  ·rintro⟨t,h1,h2⟩
   rcases List.mem_append.mp h1 with h|h
   ·exact .inl ⟨t,h,h2⟩
   ·rw[List.mem_singleton] at h
    subst h
    exact .inr h2
  ·rintro (⟨t,h1,h2⟩|h)
   ·exact⟨t,List.mem_append_left _ h1,h2⟩
   ·exact⟨(n,n+1,n+2),by simp,h⟩
 rw[this,hc c]
 omega
def sdD (s:Nat × Nat):PyData:=.tuple [.int (s.1:Int),.int (s.2:Int)]
theorem lZ {K:W.Frag} {H:Hp} {vs:List V} {ss:List (Nat × Nat)} (h:SdsAt H vs ss):Dts K H vs (ss.map sdD):=by
 induction h with
 |nil=>exact .nil
 |cons q _ ih=>
  obtain⟨a,rfl,ha⟩:=q
  exact .cons (.tup (SqT.of ha) (.cons (.int _) (.cons (.int _) .nil))) ih
theorem pH (ss:List (Nat × Nat)):(PyData.list (ss.map sdD)).depth≤60:=by
 have:PyData.depthAll (ss.map sdD)≤1:=by
  induction ss with
  |nil=>exact Nat.zero_le _
  |cons u us ih=>
   rw[List.map_cons]
   show max (sdD u).depth _≤1
   have:(sdD u).depth=1:=by simp[sdD,PyData.depth,PyData.depthAll]
   omega
 show PyData.depthAll _+1≤60
 omega
theorem tI (ds:List PyData):PyData.eqv (.list ds) (.list [])=ds.isEmpty:=by cases ds <;> simp[PyData.eqv,PyData.eqvAll]
theorem free_of {ts:List Tri} (g:Good ts) {x:Tri} (h:∀s∈bP x,∀c,¬En ts s.1 s.2 c):gQ ts x=true:=by
 unfold gQ
 rw[List.all_eq_true]
 intro s hs
 refine decide_eq_true fun z=>?_
 obtain⟨⟨⟨a,b⟩,c⟩,h1,rfl⟩:=List.mem_map.mp z
 exact h (a,b) hs c h1
section
variable {P:Program} {w:World} {K:W.Frag} {mg:Str→Option Value} {base:Heap}
theorem cy:aC ["_law_pot_here","_law_most","_law_triples","_law_k","_law_rim","_law_come","_law_new","_law_a","_law_b","_law_thirds_here","_law_some","_law_near"] ["_law_pot_here","_law_most"] (af cP):=⟨rfl,rfl,rfl,by decide +kernel,rfl,by decide +kernel,by decide +kernel⟩
theorem qg {f f1 f2 f3 f4 f5:Addr} {fd d1 d2 d3 d4 d5:FuncData} (U:Fun K "_law_grown" "_law_grown" cP f fd) (T:TxtN mg)
  (GD:FnOk P w K mg base CX0 2 f1 d1 ["_law_pot_here","_law_base"] cZ) (bD:Binds K d1 ["_law_pot_here","_law_base"] []) (mD:mg "_law_digit" = some (.ref f1)) (kD:W.keepIn K (.ref f1)=true)
  (GT:FnOk P w K mg base CX0 2 f2 d2 ["_law_triples"] cw) (bT:Binds K d2 ["_law_triples"] []) (mT:mg "_law_thirds" = some (.ref f2)) (kT:W.keepIn K (.ref f2)=true)
  (GF:FnOk P w K mg base CX0 2 f3 d3 ["_law_thirds_here","_law_triple"] jK) (bF:Binds K d3 ["_law_thirds_here","_law_triple"] []) (mF:mg "_law_free" = some (.ref f3)) (kF:W.keepIn K (.ref f3)=true)
  (GR:FnOk P w K mg base CX0 2 f4 d4 ["_law_triples"] np) (bR:Binds K d4 ["_law_triples"] []) (mR:mg "_law_rim_sides" = some (.ref f4)) (kR:W.keepIn K (.ref f4)=true)
  (GC:FnOk P w K mg base CX0 2 f5 d5 ["_law_triples"] cG) (bC:Binds K d5 ["_law_triples"] []) (mC:mg "_law_corners" = some (.ref f5)) (kC:W.keepIn K (.ref f5)=true) :
  FnOk P w K mg base CX0 3 f fd ["_law_pot_here","_law_most"] jJ:=by
 refine U.ok cy (fun vs H Q E h=>?_) (fun cdv A outer s H vs Q E hr h=>?_)
 ·obtain⟨p,q,m,rfl,_⟩:=h
  rfl
 ·obtain⟨p,q,m,rfl,hp,pok,hm,Qq⟩:=h
  have hu:=b_ hr
  refine⟨_,(ae (av (i:=2) cy.nd rfl (Or.inl rfl) (aV ac))
   (ae (bd PassesOwn.never rfl (dc rfl T.range (aa (ar GD hr rfl mD kD bD .nil pass0 (aa (pv 0) (aa (az aX (pv 1) aj) ac))) ac)) (aq (i:=3) cy.nd rfl (Or.inl rfl))
    (ae (av (i:=4) cy.nd rfl (Or.inr rfl) (ar GR hr rfl mR kR bR .nil pass0 (aa (pv 2) ac)))
   (ae (av (i:=5) cy.nd rfl (Or.inl rfl) (ar GC hr rfl mC kC bC .nil pass0 (aa (pv 2) ac)))
   (ae (av (i:=6) cy.nd rfl (Or.inl rfl) (aB bc (by rfl) T.len PySem.boot_len (aa (pv 5) ac)))
   (ae (cm (aF (uI hr.units) (pv 4) (aV ac) (nomark _)) (ae (aT (bU PySem.F.plainAttrs_list PySem.F.slot_list_append PySem.F.type_list_append aR (pv 2) (aa (aE (aa (pv 6) (aa (az aX (pv 6) aj) (aa (az aX (pv 6) aj) ac)))) ac)))
   (ak kM)) aZ)
   (ae (eJ (bq aL (pv 4) (ar GD hr rfl mD kD bD .nil pass0 (aa (pv 0) (aa (aB bc (by rfl) T.len PySem.boot_len (aa (pv 4) ac)) ac))) (fun _ _=>rfl)) (bI rfl (aw (aq (i:=7) cy.nd rfl (Or.inr rfl)) (aw (aq (i:=8) cy.nd rfl (Or.inr rfl)) be))))
   (ae (av (i:=9) cy.nd rfl (Or.inr rfl) (ar GT hr rfl mT kT bT .nil pass0 (aa (pv 2) ac)))
   (ae (av (i:=10) cy.nd rfl (Or.inl rfl) (az ir (bJ (N:=["_law_x","_law_a","_law_b","_law_thirds_here"]) (fr:=[none,some 7,some 8,some 9])  (aJ (by decide +kernel) rfl rfl (by decide +kernel) (by decide +kernel) (by
      intro y hy e
      simp only[List.mem_cons,List.not_mem_nil,or_false] at hy
      rcases hy with rfl|rfl|rfl|rfl|rfl|rfl
      all_goals first|(cases e;done)|exact .inl rfl|exact .inr rfl) (by
      intro j i y e1 e2
      match j,e1,e2 with
      |0,e1,_=>simp at e1
      |1,e1,e2=>simp at e1 e2;subst e1 e2;exact⟨rfl,rfl⟩
      |2,e1,e2=>simp at e1 e2;subst e1 e2;exact⟨rfl,rfl⟩
      |3,e1,e2=>simp at e1 e2;subst e1 e2;exact⟨rfl,rfl⟩
      |j+4,e1,_=>simp at e1)) rfl (aK (pv 5))
     (fun C' s' H' fp pins=>⟨(aq (i:=0) (show (["_law_x","_law_a","_law_b","_law_thirds_here"]:List Str).Nodup by decide +kernel) rfl (Or.inl rfl) (.inr rfl)),ef (PW.pt (im (aF (show OpR _ (compareOp .NotIn) (rIn K true) from cA) (pv 0) (aE (aa (pv 1) (aa (pv 2) ac))) rfl) (fQ (dL (ar GF hr rfl mF kF bF .nil pass0 (aa (pv 3) (aa (aE (aa (pv 2) (aa (pv 1) (aa (pv 0) ac)))) ac))))))),(pv 0)⟩)) (aV (aa (pv 6) ac))))
   (ae (av (i:=11) cy.nd rfl (Or.inl rfl) (az ir (bJ (N:=["_law_x","_law_a","_law_b","_law_rim"]) (fr:=[none,some 7,some 8,some 4])  (aJ (by decide +kernel) rfl rfl (by decide +kernel) (by decide +kernel) (by
      intro y hy e
      simp only[List.mem_cons,List.not_mem_nil,or_false] at hy
      rcases hy with rfl|rfl|rfl|rfl|rfl
      all_goals first|(cases e;done)|exact .inl rfl|exact .inr rfl) (by
      intro j i y e1 e2
      match j,e1,e2 with
      |0,e1,_=>simp at e1
      |1,e1,e2=>simp at e1 e2;subst e1 e2;exact⟨rfl,rfl⟩
      |2,e1,e2=>simp at e1 e2;subst e1 e2;exact⟨rfl,rfl⟩
      |3,e1,e2=>simp at e1 e2;subst e1 e2;exact⟨rfl,rfl⟩
      |j+4,e1,_=>simp at e1)) rfl (aK (pv 10))
     (fun C' s' H' fp pins=>⟨(aq (i:=0) (show (["_law_x","_law_a","_law_b","_law_rim"]:List Str).Nodup by decide +kernel) rfl (Or.inl rfl) (.inr rfl)),ef (PW.pt (jd (aF (show OpR _ (compareOp .In) (rInD K false) from p0 hr.units) (aE (aa (pv 2) (aa (pv 0) ac))) (pv 3) rfl) (jW (aF (show OpR _ (compareOp .In) (rInD K false) from p0 hr.units) (aE (aa (pv 0) (aa (pv 1) ac))) (pv 3) rfl)))),(pv 0)⟩)) (pv 10)))
   (ak (aT (bU PySem.F.plainAttrs_list PySem.F.slot_list_append PySem.F.type_list_append aR (pv 2) (aa (aE (aa (pv 8) (aa (pv 7) (aa (bq aL (pv 11) (ar GD hr rfl mD kD bD .nil pass0 (aa (pv 0) (aa (aB bc (by rfl) T.len PySem.boot_len (aa (pv 11) ac)) ac))) (fun _ _=>rfl)) ac)))) ac)))))))))))))
   (ak (aD (pv 2))))),?_⟩
  have hline:=line5000
  refine⟨Nat.zero_le _,fun fo hfo=>?_⟩
  (generalize z:upd H fo _=H1;have s1:=ah hfo z;have y1:=ai z;clear z)
  obtain⟨d3,d4⟩:=a_ (q:=q) (b:=(m:Int)+1) (by omega)
  refine⟨_,rfl,_,rfl,_,_,rfl,rfl,p,q,_,rfl,s1 _ _ hp,pok,by omega,lg20 (by omega),_,rfl,by omega,by omega,?_⟩
  have nfp:fo≠p:=fun z=>by rw[z,hp] at hfo;cases hfo
  (generalize z:upd H1 p _=H2;have k2:=aH z;have y2:=ai z;clear z)
  have hN:(digO q ((m:Int)+1)).toNat≤m:=by omega
  generalize (digO q ((m:Int)+1)).toNat=N at hN
  refine dS (lo:=0) (n:=N) (fun i σ H'=>∃o3 o4 o5 o6 o7 o8 o9 oa ob vf tf q' n,σ=[some (V.ref p),some (.int (m:Int)),some (.ref fo),o3,o4,o5,o6,o7,o8,o9,oa,ob]∧But p H H'∧H' p=some (.lst (potV q'))∧br q'∧H' fo=some (.lst vf)∧aA H' vf tf∧tf.length≤i∧Good tf∧Cov tf n)
   ⟨none,none,none,none,none,none,none,none,none,[],[],_,0,rfl,fun b' o nb e=>(k2 b' nb).trans (s1 _ _ e),y2,ba pok,(k2 fo nfp).trans y1,.nil,Nat.le_refl _,⟨by simp,by simp[ents]⟩,fun c=>by simp[aW]⟩ ?_ ?_
  ·rintro i σ H4 hi ⟨o3,o4,o5,o6,o7,o8,o9,oa,ob,vf,tf,q4,n,rfl,sm,hp4,pok4,hfo4,tr4,htl,gf,cov⟩
   have ltf:tf.length≤16:=by omega
   have lvf:=ax tr4
   have fin:∀(t:Addr) (u:Tri) (H8:Hp) (q8:Int × Int) (n':Nat) (x3 x4 x5 x6 x7 x8 x9 xa xb:Option V),But p H H8→H8 p=some (.lst (potV q8))→br q8→H8 fo=some (.lst vf)→aA H8 vf tf→H8 t=some (.tup [.int (u.1:Int),.int (u.2.1:Int),.int (u.2.2:Int)])→Good (tf++[u])→Cov (tf++[u]) n' →
     ∃o3 o4 o5 o6 o7 o8 o9 oa ob vf' tf' q' n',[some (V.ref p),some (.int (m:Int)),some (.ref fo),x3,x4,x5,x6,x7,x8,x9,xa,xb]=[some (V.ref p),some (.int (m:Int)),some (.ref fo),o3,o4,o5,o6,o7,o8,o9,oa,ob]∧But p H (upd H8 fo (.lst (vf++[V.ref t])))∧upd H8 fo (.lst (vf++[V.ref t])) p=some (.lst (potV q'))∧br q'∧upd H8 fo (.lst (vf++[V.ref t])) fo=some (.lst vf')∧aA (upd H8 fo (.lst (vf++[V.ref t]))) vf' tf'∧tf'.length≤i+1∧Good tf'∧Cov tf' n':=by
    intro t u H8 q8 n' x3 x4 x5 x6 x7 x8 x9 xa xb b8 p8 k8 f8 tr8 ht g8 c8
    have tn:∀{b':Addr} {xs:List V},H8 b' = some (.tup xs)→b'≠fo:=fun e=>bi e f8 (by simp)
    refine⟨_,_,_,_,_,_,_,_,_,_,tf++[u],q8,n',rfl,fun b' o nb e=>?_,?_,k8,al,?_,by rw[List.length_append,List.length_singleton];omega,g8,c8⟩
    ·rw[au (ag e hfo)];exact b8 b' o nb e
    ·rw[au (Ne.symm nfp)];exact p8
    ·exact bO (Paired.imp' (fun _ _ ⟨b',e1,e2⟩=>⟨b',e1,by rw[au (tn e2)];exact e2⟩) tr8) (.cons ⟨t,rfl,by rw[au (tn ht)];exact ht⟩ .nil)
   have notco:∀{a b c:Nat},En tf a b c→a < n∧b < n:=fun {a b c} e=>⟨(cov a).mp ⟨b,c,e⟩,(cov b).mp ⟨c,a,gf.sk.rot e⟩⟩
   refine⟨_,rfl,fo,vf,tf,rfl,hfo4,tr4,by omega,gf.nd,fun Rm zs rs H5 hR0 s5 y5 sd hrim lrs _=>?_⟩
   refine⟨_,rfl,fo,vf,tf,rfl,s5 _ _ hfo4,tr4.same s5,by omega,fun L cs H6 hL0 s6 y6 hcs lcs=>?_⟩
   have lcn:=vk hcs cov
   refine⟨_,rfl,L,_,rfl,.inl (SqL.of y6),?_⟩
   rw[aG,lcn]
   have s46:=s5.trans s6
   refine⟨_,rfl,Nat.zero_le _,fun z hz=>?_⟩
   (generalize z:upd H6 z _=H7;have s7:=ah hz z;have y7:=ai z;clear z)
   have s47:=s46.trans s7
   refine⟨.list (rs.map sdD),.list [],.lst (SqL.of (s7 _ _ (s6 _ _ y5))) (lZ (K31.SdsAt.same s7 (K31.SdsAt.same s6 sd))),.lst (SqL.of y7) .nil,pH rs,_,rfl,?_⟩
   rw[if_neg Bool.false_ne_true,tI]
   cases rs with
   |nil=>
    refine iteT ⟨_,rfl,.inl ⟨rfl,_,SqL.of (s47 _ _ hfo4)⟩,_,rfl,_,rfl,_,_,rfl,rfl,_,rfl,_,_,rfl,rfl,lit3,fun t ht=>?_⟩
    (generalize z:upd H7 t _=H8;have s8:=ah ht z;have y8:=ai z;clear z)
    have s48:=s47.trans s8
    refine⟨fo,vf,_,rfl,rfl,s48 _ _ hfo4,by omega,?_⟩
    refine fin t (n,n+1,n+2) H8 q4 (n+3) _ _ _ _ _ _ _ _ _ (sm.same s48) (s48 _ _ hp4) pok4 (s48 _ _ hfo4) (tr4.same s48) y8 (eY gf ⟨by show n≠n+1;omega,by show n+1≠n+2;omega,by show n+2≠n;omega⟩ (free_of gf fun s hs c e=>?_)) (tL cov)
    have:=notco e
    simp only[bP,List.mem_cons,List.not_mem_nil,or_false] at hs
    rcases hs with rfl|rfl|rfl <;> simp only at this <;> omega
   |cons r0 rs=>
    refine iteF ?_
    generalize hrs:r0::rs=rl at *
    have hrl:0 < rl.length:=by rw[←hrs];simp
    have lzs:=ax sd
    obtain⟨e1,e2⟩:=a_ (q:=q4) (b:=(zs.length:Int)) (by omega)
    obtain⟨k,hk⟩:∃k:Nat,digO q4 (zs.length:Int)=(k:Int):=⟨_,(Int.toNat_of_nonneg e1).symm⟩
    have hkl:k < rl.length:=by omega
    obtain⟨⟨a,b⟩,hab⟩:∃s,rl[k]? = some s:=⟨_,List.getElem?_eq_getElem hkl⟩
    obtain⟨zv,hzv,tt,rfl,htt⟩:=mt sd hab
    obtain⟨rim1,rim2⟩:=hrim (a,b) (List.mem_of_getElem? hab)
    refine⟨_,rfl,_,rfl,_,rfl,Rm,_,rfl,.inl (SqL.of (s7 _ _ (s6 _ _ y5))),p,q4,_,rfl,s47 _ _ hp4,pok4,by omega,de (by omega) (by omega),?_⟩
    rw[hk]
    have nRp:∀{b':Addr} {o:HO},H4 b' = none→H7 b' = some o→b'≠p:=fun h0 h1 z=>by rw[z,hp4] at h0;cases h0
    (generalize z:upd H7 p _=H8;have k8:=aH z;have y8:=ai z;clear z)
    have s78:∀b' o,b'≠p→H7 b' = some o→H8 b' = some o:=fun b' o nb e=>(k8 b' nb).trans e
    have hRm7:H7 Rm=some (.lst zs):=s7 _ _ (s6 _ _ y5)
    have hRm8:=s78 _ _ (nRp hR0 hRm7) hRm7
    have htt7:H7 tt=some (.tup [.int (a:Int),.int (b:Int)]):=s7 _ _ (s6 _ _ htt)
    have hp7:=s47 _ _ hp4
    have htt8:=s78 _ _ (bi htt7 hp7 (by simp)) htt7
    have sd8:SdsAt H8 zs rl:=Paired.imp' (fun _ _ ⟨b',e1,e2⟩=>⟨b',e1,by have e3:=s7 _ _ (s6 _ _ e2);exact s78 _ _ (bi e3 hp7 (by simp)) e3⟩) sd
    have hfo8:=s78 _ _ nfp (s47 _ _ hfo4)
    have tr8:aA H8 vf tf:=Paired.imp' (fun _ _ ⟨b',e1,e2⟩=>⟨b',e1,by have e3:=s47 _ _ e2;exact s78 _ _ (bi e3 hp7 (by simp)) e3⟩) tr4
    have hL7:H7 L=some (.lst (nV cs)):=s7 _ _ y6
    have nLp:L≠p:=fun zz=>by rw[zz,s5 _ _ hp4] at hL0;cases hL0
    have hL8:=s78 _ _ nLp hL7
    have but8:But p H H8:=fun b' o nb e=>s78 _ _ nb (s47 _ _ (sm b' o nb e))
    obtain⟨hab1,hab2⟩:a < n∧b < n:=by
     obtain⟨⟨⟨x,y⟩,c⟩,h1,h2⟩:=List.mem_map.mp rim1
     cases h2
     exact notco h1
    have hne:a≠b:=by
     obtain⟨⟨⟨x,y⟩,c⟩,h1,h2⟩:=List.mem_map.mp rim1
     cases h2
     exact gf.sk.ne h1
    refine⟨Rm,zs,(k:Int),_,rfl,rfl,SqL.of hRm8,bp hzv,tt,_,rfl,SqT.of htt8,rfl,_,_,rfl,_,_,rfl,rfl,?_⟩
    refine⟨_,rfl,fo,vf,tf,rfl,hfo8,tr8,by omega,gf.nd,fun D H9 hD0 s9 y9=>?_⟩
    refine⟨_,rfl,L,rfl,⟨_,SqL.of (s9 _ _ hL8)⟩,fun Z hZ=>bf (K:=K) (a:=L) (xs:=nV cs) (fun i σ ys H'=>∃o sl,σ=[o,some (.int (a:Int)),some (.int (b:Int)),some (.ref D)]∧Same H9 H'∧H' Z=some (.lst ys)∧ys=nV sl∧(∀x∈sl,x < n∧x≠a∧x≠b∧gQ tf (b,a,x)=true)∧sl.length≤i)
     ⟨none,[],rfl,ay hZ,al,rfl,by simp,Nat.le_refl _⟩ (fun i σ ys H' _ ⟨_,_,_,e,_⟩=>SqL.of (e _ _ (s9 _ _ hL8))) ?_ ?_⟩
    ·rintro j y σ ys H' hj ⟨o,sl,rfl,sj,hZj,rfl,hsl,lsl⟩
     rw[nV,List.getElem?_map] at hj
     obtain⟨x,hx,rfl⟩:=Option.map_eq_some_iff.mp hj
     have hjl:=(List.getElem?_eq_some_iff.mp hx).1
     have hxn:x < n:=by
      refine (cov x).mp ?_
      have:=(hcs.2 x).mp (List.mem_of_getElem? hx)
      rw[aW]
      unfold flat at this
      rw[List.mem_flatMap] at this
      obtain⟨t,h1,h2⟩:=this
      exact⟨t,h1,by simpa using h2⟩
     refine⟨_,rfl,_,rfl,_,rfl,lit2,fun t1 g1=>?_⟩
     (generalize z:upd H' t1 _=Ha;have sA:=ah g1 z;have yA:=ai z;clear z)
     refine⟨t1,_,rfl,.inr (SqT.of yA),rfl,rfl,_,rfl,?_⟩
     show if (if true=true then !inV (V.int (x:Int)) (nV [a,b]) else _)=true then _ else _
     rw[if_pos rfl,eP]
     by_cases hxab:x∈[a,b]
     ·rw[decide_eq_true hxab]
      exact iteF (iteF ⟨_,sl,rfl,sj.trans sA,sA _ _ hZj,rfl,hsl,by omega⟩)
     ·rw[decide_eq_false hxab]
      refine iteT ⟨_,rfl,_,rfl,_,rfl,_,rfl,lit3,fun t2 g2=>?_⟩
      (generalize z:upd Ha t2 _=Hb;have sB:=ah g2 z;have yB:=ai z;clear z)
      refine⟨D,t2,tf,(b,a,x),rfl,sB _ _ (sA _ _ (sj _ _ y9)),yB,fun Hc sC=>?_⟩
      have sjC:=((sj.trans sA).trans sB).trans sC
      have hZc:=sC _ _ (sB _ _ (sA _ _ hZj))
      refine⟨_,rfl,?_⟩
      by_cases hfr:gQ tf (b,a,x)=true
      ·rw[hfr]
       refine iteT ⟨_,rfl,hZc,by rw[aG];omega,_,sl++[x],rfl,fun b' o e=>?_,al,by rw[iy,cX],fun y hy=>?_,by rw[List.length_append,List.length_singleton];omega⟩
       ·rw[au (ag e hZ)];exact sjC _ _ e
       ·rcases List.mem_append.mp hy with h|h
        ·exact hsl y h
        ·rw[List.mem_singleton.mp h]
         simp at hxab
         exact⟨hxn,hxab.1,hxab.2,hfr⟩
      ·rw[Bool.eq_false_iff.mpr hfr]
       exact iteF ⟨_,sl,rfl,sjC,hZc,rfl,hsl,by omega⟩
    ·rintro σ ys Ha ⟨o,sl,rfl,sA,hZa,rfl,hsl,lsl⟩
     rw[aG,lcn] at lsl
     refine⟨_,rfl,lit1,fun l1 g1=>?_⟩
     (generalize z:upd Ha l1 _=Hb;have sB:=ah g1 z;have yB:=ai z;clear z)
     refine⟨Z,l1,_,_,rfl,rfl,sB _ _ hZa,yB,by rw[aG];simp only[List.length_singleton];omega,fun So g2=>?_⟩
     rw[iy,cX]
     (generalize z:upd Hb So _=Hc;have sC:=ah g2 z;have yC:=ai z;clear z)
     have s9c:=(sA.trans sB).trans sC
     refine⟨_,rfl,So,rfl,⟨_,SqL.of yC⟩,fun Y hY=>bf (K:=K) (a:=So) (xs:=nV (sl++[n])) (fun i σ ys H'=>∃o nl,σ=[o,some (.int (a:Int)),some (.int (b:Int)),some (.ref Rm)]∧Same Hc H'∧H' Y=some (.lst ys)∧ys=nV nl∧(∀x∈nl,x∈sl++[n])∧nl.length≤i)
      ⟨none,[],rfl,ay hY,al,rfl,by simp,Nat.le_refl _⟩ (fun i σ ys H' _ ⟨_,_,_,e,_⟩=>SqL.of (e _ _ yC)) ?_ ?_⟩
     ·rintro j y σ ys H' hj ⟨o,nl,rfl,sj,hYj,rfl,hnl,lnl⟩
      rw[nV,List.getElem?_map] at hj
      obtain⟨x,hx,rfl⟩:=Option.map_eq_some_iff.mp hj
      have hjl:=(List.getElem?_eq_some_iff.mp hx).1
      rw[List.length_append,List.length_singleton] at hjl
      have hxm:=List.mem_of_getElem? hx
      have hRmj:∀{Hx:Hp},Same H' Hx→Hx Rm=some (.lst zs)∧SdsAt Hx zs rl:=fun sx=>⟨sx _ _ (sj _ _ (s9c _ _ (s9 _ _ hRm8))),K31.SdsAt.same (((s9.trans s9c).trans sj).trans sx) sd8⟩
      have take:∀Hx:Hp,Same H' Hx→Hx Y=some (.lst (nV nl))∧(nV nl).length < sizeLine∧∃o nl',[some (V.int (x:Int)),some (.int (a:Int)),some (.int (b:Int)),some (.ref Rm)]=[o,some (.int (a:Int)),some (.int (b:Int)),some (.ref Rm)]∧Same Hc (upd Hx Y (.lst (nV nl++[V.int (x:Int)])))∧upd Hx Y (.lst (nV nl++[V.int (x:Int)])) Y=some (.lst (nV nl++[V.int (x:Int)]))∧nV nl++[V.int (x:Int)]=nV nl'∧(∀y∈nl',y∈sl++[n])∧nl'.length≤j+1:=fun Hx sx=>by
       refine⟨sx _ _ hYj,by rw[aG];omega,_,nl++[x],rfl,fun b' o e=>?_,al,by rw[iy,cX],fun y hy=>?_,by rw[List.length_append,List.length_singleton];omega⟩
       ·rw[au (ag e hY)];exact sx _ _ (sj _ _ e)
       ·rcases List.mem_append.mp hy with h|h
        ·exact hnl y h
        ·rw[List.mem_singleton.mp h];exact hxm
      refine⟨_,rfl,_,rfl,lit2,fun t1 g1=>?_⟩
      (generalize z:upd H' t1 _=Hd;have sD:=ah g1 z;have yD:=ai z;clear z)
      obtain⟨r1,r2⟩:=hRmj sD
      refine⟨_,rfl,sdD (b,x),Rm,zs,_,.tup (SqT.of yD) (.cons (.int _) (.cons (.int _) .nil)),rfl,.inl (SqL.of r1),lZ r2,by show max 0 (max 0 0)+1≤60;decide,_,rfl,?_⟩
      rw[if_neg Bool.false_ne_true]
      generalize (rl.map sdD).any _=b1
      cases b1 with
      |true=>exact iteT (iteT ⟨_,rfl,take Hd sD⟩)
      |false=>
       refine iteF ⟨_,rfl,_,rfl,lit2,fun t2 g2=>?_⟩
       (generalize z:upd Hd t2 _=He;have sE:=ah g2 z;have yE:=ai z;clear z)
       obtain⟨r1,r2⟩:=hRmj (sD.trans sE)
       refine⟨_,rfl,sdD (x,a),Rm,zs,_,.tup (SqT.of yE) (.cons (.int _) (.cons (.int _) .nil)),rfl,.inl (SqL.of r1),lZ r2,by show max 0 (max 0 0)+1≤60;decide,_,rfl,?_⟩
       rw[if_neg Bool.false_ne_true]
       generalize (rl.map sdD).any _=b2
       cases b2 with
       |true=>exact iteT ⟨_,rfl,take He (sD.trans sE)⟩
       |false=>exact iteF ⟨_,nl,rfl,sj.trans (sD.trans sE),sE _ _ (sD _ _ hYj),rfl,hnl,by omega⟩
     ·rintro σ ys Hd ⟨o,nl,rfl,sD,hYd,rfl,hnl,lnl⟩
      rw[aG,List.length_append,List.length_singleton] at lnl
      refine⟨_,rfl,Y,So,_,_,rfl,rfl,hYd,sD _ _ yC,by rw[aG,aG,List.length_append,List.length_singleton];omega,fun Nr g3=>?_⟩
      rw[cX]
      (generalize z:upd Hd Nr _=He;have sE:=ah g3 z;have yE:=ai z;clear z)
      have s8e:Same H8 He:=((s9.trans s9c).trans sD).trans sE
      have hpe:He p=some (.lst (potV (nxt q4 (zs.length:Int)))):=s8e _ _ y8
      obtain⟨e3,e4⟩:=a_ (q:=nxt q4 (zs.length:Int)) (b:=((nV (nl++(sl++[n]))).length:Int)) (by rw[aG];simp only[List.length_append,List.length_singleton];omega)
      obtain⟨k2',hk2⟩:∃k:Nat,digO (nxt q4 (zs.length:Int)) ((nV (nl++(sl++[n]))).length:Int)=(k:Int):=⟨_,(Int.toNat_of_nonneg e3).symm⟩
      have lne:(nV (nl++(sl++[n]))).length=nl.length+(sl.length+1):=by rw[aG];simp
      have hk2l:k2' < (nl++(sl++[n])).length:=by
       have l2:=aG (nl++(sl++[n]))
       omega
      have hxg:(nl++(sl++[n]))[k2']? = some (nl++(sl++[n]))[k2']:=List.getElem?_eq_getElem hk2l
      generalize (nl++(sl++[n]))[k2']=x at hxg
      have hxs:x∈sl++[n]:=by
       rcases List.mem_append.mp (List.mem_of_getElem? hxg) with h|h
       ·exact hnl x h
       ·exact h
      refine⟨_,rfl,.inl ⟨rfl,_,SqL.of (s8e _ _ hfo8)⟩,_,rfl,_,rfl,_,rfl,_,rfl,_,rfl,Nr,_,rfl,.inl (SqL.of yE),p,_,_,rfl,hpe,ba pok4,by omega,de (by omega) (by omega),?_⟩
      rw[hk2]
      (generalize z:upd He p _=Hf;have kf:=aH z;have yf:=ai z;clear z)
      have sef:∀b' o,b'≠p→He b' = some o→Hf b' = some o:=fun b' o nb e=>(kf b' nb).trans e
      have nNe:Nr≠p:=fun zz=>by rw[zz,sD _ _ (s9c _ _ (s9 _ _ y8))] at g3;cases g3
      refine⟨Nr,_,(k2':Int),_,rfl,rfl,SqL.of (sef _ _ nNe yE),bp (mJ hxg),lit3,fun t ht=>?_⟩
      (generalize z:upd Hf t _=Hg;have sG:=ah ht z;have yG:=ai z;clear z)
      have hfog:=sG _ _ (sef _ _ nfp (s8e _ _ hfo8))
      refine⟨fo,vf,_,rfl,rfl,hfog,by omega,?_⟩
      have good:Good (tf++[(b,a,x)])∧(x < n∨x=n):=by
       rcases List.mem_append.mp hxs with h|h
       ·obtain⟨h1,h2,h3,h4⟩:=hsl x h
        exact⟨eY gf ⟨Ne.symm hne,Ne.symm h2,h3⟩ h4,.inl h1⟩
       ·rw[List.mem_singleton.mp h]
        refine⟨eY gf ⟨Ne.symm hne,by show a≠n;omega,by show n≠b;omega⟩ (free_of gf fun s hs c e=>?_),.inr rfl⟩
        have hn:=notco e
        simp only[bP,List.mem_cons,List.not_mem_nil,or_false] at hs
        rcases hs with rfl|rfl|rfl
        ·exact rim2 (List.mem_map.mpr ⟨_,e,rfl⟩)
        ·simp only at hn;omega
        ·simp only at hn;omega
      exact fin t (b,a,x) Hg _ _ _ _ _ _ _ _ _ _ _ (fun b' o nb e=>sG _ _ (sef _ _ nb (s8e _ _ (but8 b' o nb e)))) (sG _ _ yf) (ba (ba pok4)) hfog (Paired.imp' (fun _ _ ⟨b',e1,e2⟩=>⟨b',e1,by have e3:=s8e _ _ e2;exact sG _ _ (sef _ _ (bi e3 hpe (by simp)) e3)⟩) tr8) yG good.1 (re cov hab1 hab2 good.2)
  ·rintro σ H4 ⟨o3,o4,o5,o6,o7,o8,o9,oa,ob,vf,tf,q4,n,rfl,sm,hp4,pok4,hfo4,tr4,htl,gf,cov⟩
   exact⟨_,rfl,Qq fo vf tf q4 H4 hfo sm hp4 pok4 hfo4 tr4 (by omega) gf⟩
end
end K15
end
section
namespace K15
open PySem L2 K51 K31
def rtF (i:Nat):List Tri:=[(i,(i+1) % 7,(i+3) % 7),(i,(i+3) % 7,(i+2) % 7)]
def rt:List Tri:=(List.range 7).flatMap rtF
theorem jU:Good rt:=⟨by decide +kernel,by decide +kernel⟩
theorem uv:∀i:Fin 14,∀j:Fin 13,∃t∈(rt.eraseIdx i).eraseIdx j,6=t.1∨6=t.2.1∨6=t.2.2:=by decide +kernel
theorem tV:∀t∈rt,t.1 < 7∧t.2.1 < 7∧t.2.2 < 7:=by decide +kernel
theorem fE {α:Type}:∀{l:List α} {i:Nat} {x:α},l[i]? = some x→(l.eraseIdx i++[x]).Perm l
 | [],i,x,h=>by simp at h
 |a::l,0,x,h=>by
  simp at h;subst h
  exact (List.perm_append_comm (l₁:=l) (l₂:=[a]))
 |a::l,i+1,x,h=>(fE (l:=l) (i:=i) (by simpa using h)).cons a
theorem o_ {as bs:List Tri} (h:as.Perm bs):(ents as).Perm (ents bs):=h.flatMap_right _
theorem fK {H:Hp} {fo t:Addr} {vf:List V} {tf:List Tri} {u:Tri} (hf:H fo=some (.lst vf)) (tr:aA H vf tf) (ht:H t=some (.tup [.int (u.1:Int),.int (u.2.1:Int),.int (u.2.2:Int)])) :
  aA (upd H fo (.lst (vf++[V.ref t]))) (vf++[V.ref t]) (tf++[u]):=by
 have tn:∀{b':Addr} {xs:List V},H b' = some (.tup xs)→b'≠fo:=fun e=>bi e hf (by simp)
 exact bO (Paired.imp' (fun _ _ ⟨b',e1,e2⟩=>⟨b',e1,by rw[au (tn e2)];exact e2⟩) tr) (.cons ⟨t,rfl,by rw[au (tn ht)];exact ht⟩ .nil)
theorem rL {p:Addr} {H H':Hp} {vf pv:List V} {tf:List Tri} (b:But p H H') (hp:H p=some (.lst pv)) (h:aA H vf tf):aA H' vf tf:=
 Paired.imp' (fun _ _ ⟨b',e1,e2⟩=>⟨b',e1,b _ _ (bi e2 hp (by simp)) e2⟩) h
theorem kN {α β:Type} {F:α→β→Prop}:∀{xs:List α} {ys:List β} (k:Nat),Paired F xs ys→Paired F (xs.eraseIdx k) (ys.eraseIdx k)
 |_,_,_,.nil=>.nil
 |_,_,0,.cons _ t=>t
 |_,_,k+1,.cons h t=>.cons h (kN k t)
def lV:Sp:=fun vs H Q _=>∃(p:Addr) (q:Int × Int),vs=[.ref p]∧H p=some (.lst (potV q))∧br q ∧
 ∀r vr ts q' H',H r=none→But p H H'→H' p=some (.lst (potV q'))→br q'→H' r=some (.lst vr)→aA H' vr ts→ts.length≤16→Good ts→Q (.ref r) H'
section
variable {P:Program} {w:World} {K:W.Frag} {mg:Str→Option Value} {base:Heap}
theorem eF:aC ["_law_pot_here","_law_triples","_law_i","_law_way","_law_k","_law_gone","_law_new"] ["_law_pot_here"] (af dD):=⟨rfl,rfl,rfl,by decide +kernel,rfl,by decide +kernel,by decide +kernel⟩
theorem sO {f f1 f2 f3:Addr} {fd d1 d2 d3:FuncData} (U:Fun K "_law_ring" "_law_ring" dD f fd) (T:TxtN mg) (mM:mg "max" = none)
  (GD:FnOk P w K mg base CX0 2 f1 d1 ["_law_pot_here","_law_base"] cZ) (bD:Binds K d1 ["_law_pot_here","_law_base"] []) (mD:mg "_law_digit" = some (.ref f1)) (kD:W.keepIn K (.ref f1)=true)
  (GC:FnOk P w K mg base CX0 2 f2 d2 ["_law_triples"] cG) (bC:Binds K d2 ["_law_triples"] []) (mC:mg "_law_corners" = some (.ref f2)) (kC:W.keepIn K (.ref f2)=true)
  (GS:FnOk P w K mg base CX0 2 f3 d3 ["_law_triple"] g_) (bS:Binds K d3 ["_law_triple"] []) (mS:mg "_law_sides" = some (.ref f3)) (kS:W.keepIn K (.ref f3)=true) :
  FnOk P w K mg base CX0 3 f fd ["_law_pot_here"] lV:=by
 refine U.ok eF (fun vs H Q E h=>?_) (fun cdv A outer s H vs Q E hr h=>?_)
 ·obtain⟨p,q,rfl,_⟩:=h
  rfl
 ·obtain⟨p,q,rfl,hp,pok,Qq⟩:=h
  have hu:=b_ hr
  refine⟨_,(ae (av (i:=1) eF.nd rfl (Or.inl rfl) (aV ac))
   (ae (bd PassesOwn.never rfl (dc rfl T.range (aa aj ac)) (aq (i:=2) eF.nd rfl (Or.inl rfl))
    (ae (aT (bU PySem.F.plainAttrs_list PySem.F.slot_list_append PySem.F.type_list_append aR (pv 1) (aa (aE (aa (pv 2) (aa (az cJ (az aX (pv 2) aj) aj) (aa (az cJ (az aX (pv 2) aj) aj) ac)))) ac)))
   (ak (aT (bU PySem.F.plainAttrs_list PySem.F.slot_list_append PySem.F.type_list_append aR (pv 1) (aa (aE (aa (pv 2) (aa (az cJ (az aX (pv 2) aj) aj) (aa (az cJ (az aX (pv 2) aj) aj) ac)))) ac))))))
   (ae (av (i:=3) eF.nd rfl (Or.inl rfl) (ar GD hr rfl mD kD bD .nil pass0 (aa (pv 0) (aa aj ac))))
   (ae (bd PassesOwn.never rfl (dc rfl T.range (aa (az cJ (pv 3) aj) ac)) (aq (i:=4) eF.nd rfl (Or.inl rfl))
    (ae (av (i:=5) eF.nd rfl (Or.inl rfl) (bU PySem.F.plainAttrs_list PySem.F.slot_list_pop PySem.F.type_list_pop k_ (pv 1) (aa (ar GD hr rfl mD kD bD .nil pass0 (aa (pv 0) (aa (aB bc (by rfl) T.len PySem.boot_len (aa (pv 1) ac)) ac))) ac)))
   (ak (cm (aF iq (pv 4) aj (nomark _)) (ae (av (i:=6) eF.nd rfl (Or.inr rfl) (az aX (aB (dM rfl) (by rfl) mM PyProof.Rows.boot_max (aa (ar GC hr rfl mC kC bC .nil pass0 (aa (pv 1) ac)) ac)) aj))
   (ak (av (i:=1) eF.nd rfl (Or.inl rfl) (az ir (pv 1) (bJ (N:=["_law_p","_law_q","_law_new"]) (fr:=[none,none,some 6]) (g:=gTup K 2 (fT (cF 0) (fT (cF 1) gNil))) (te:=tTup (dn (tVar 0) (dn (tVar 1) (dn (tVar 2) tNil)))) (aJ (by decide +kernel) rfl rfl (by decide +kernel) (by decide +kernel) (by
      intro y hy e
      simp only[List.mem_cons,List.not_mem_nil,or_false] at hy
      rcases hy with rfl|rfl|rfl|rfl
      all_goals first|(cases e;done)|exact .inl rfl|exact .inr rfl) (by
      intro j i y e1 e2
      match j,e1,e2 with
      |0,e1,_=>simp at e1
      |1,e1,_=>simp at e1
      |2,e1,e2=>simp at e1 e2;subst e1 e2;exact⟨rfl,rfl⟩
      |j+3,e1,_=>simp at e1)) rfl (aK (ar GS hr rfl mS kS bS .nil pass0 (aa (pv 5) ac)))
     (fun C' s' H' fp pins=>⟨(bI rfl (aw (aq (i:=0) (show (["_law_p","_law_q","_law_new"]:List Str).Nodup by decide +kernel) rfl (Or.inl rfl) (.inr rfl)) (aw (aq (i:=1) (show (["_law_p","_law_q","_law_new"]:List Str).Nodup by decide +kernel) rfl (Or.inl rfl) (.inr rfl)) be))),cf,(aE (aa (pv 0) (aa (pv 1) (aa (pv 2) ac))))⟩)))))) aZ))))
   (ak (aD (pv 1))))))),?_⟩
  have hline:=line5000
  refine⟨Nat.zero_le _,fun fo hfo=>?_⟩
  (generalize z:upd H fo _=H1;have s1:=ah hfo z;have y1:=ai z;clear z)
  have nfp:fo≠p:=fun z=>by rw[z,hp] at hfo;cases hfo
  refine⟨_,rfl,by decide,by decide,?_⟩
  refine dS (lo:=0) (n:=7) (fun i σ H'=>∃o2 vf,σ=[some (V.ref p),some (.ref fo),o2,none,none,none,none]∧Same H H'∧H' fo=some (.lst vf)∧aA H' vf ((List.range i).flatMap rtF))
   ⟨none,[],rfl,s1,y1,.nil⟩ ?_ ?_
  ·rintro i σ H2 hi ⟨o2,vf,rfl,sm,hf2,tr2⟩
   have lvf:vf.length≤100:=by
    rw[ax tr2,List.length_flatMap]
    have:((List.range i).map fun a=>(rtF a).length).sum=2 * i:=by
     have e:(List.range i).map (fun a=>(rtF a).length)=List.replicate i 2:=by
      rw[List.eq_replicate_iff]
      exact⟨by simp,fun b hb=>by obtain⟨x,_,rfl⟩:=List.mem_map.mp hb;rfl⟩
     rw[e];clear e
     have:∀n:Nat,(List.replicate n 2).sum=2 * n:=fun n=>by
      induction n with
      |zero=>rfl
      |succ n ih=>rw[List.replicate_succ,List.sum_cons,ih];omega
     exact this i
    omega
   refine⟨_,rfl,.inl ⟨rfl,_,SqL.of hf2⟩,_,rfl,_,rfl,_,_,rfl,rfl,_,_,rfl,rfl,(show (0:Int) < 7 by decide),_,rfl,_,_,rfl,rfl,_,_,rfl,rfl,(show (0:Int) < 7 by decide),lit3,fun t ht=>?_⟩
   (generalize z:upd H2 t _=H3;have s3:=ah ht z;have y3:=ai z;clear z)
   have y3':H3 t=some (.tup [.int (i:Int),.int (((i+1) % 7:Nat):Int),.int (((i+3) % 7:Nat):Int)]):=by
    rw[show (0+(i:Int))=(i:Int) by omega] at y3
    exact y3
   have hf3:=s3 _ _ hf2
   refine⟨fo,vf,_,rfl,rfl,hf3,by omega,?_⟩
   have tr4:=fK (u:=(i,(i+1) % 7,(i+3) % 7)) hf3 (tr2.same s3) y3'
   have sm4:Same H (upd H3 fo (.lst (vf++[V.ref t]))):=fun b' o e=>by rw[au (ag e hfo)];exact s3 _ _ (sm _ _ e)
   have y4:upd H3 fo (.lst (vf++[V.ref t])) fo=some (.lst (vf++[V.ref t])):=al
   generalize upd H3 fo (.lst (vf++[V.ref t]))=H4 at tr4 sm4 y4 ⊢
   refine⟨_,rfl,.inl ⟨rfl,_,SqL.of y4⟩,_,rfl,_,rfl,_,_,rfl,rfl,_,_,rfl,rfl,(show (0:Int) < 7 by decide),_,rfl,_,_,rfl,rfl,_,_,rfl,rfl,(show (0:Int) < 7 by decide),lit3,fun t2 ht2=>?_⟩
   (generalize z:upd H4 t2 _=H5;have s5:=ah ht2 z;have y5:=ai z;clear z)
   have y5':H5 t2=some (.tup [.int (i:Int),.int (((i+3) % 7:Nat):Int),.int (((i+2) % 7:Nat):Int)]):=by
    rw[show (0+(i:Int))=(i:Int) by omega] at y5
    exact y5
   have hf5:=s5 _ _ y4
   refine⟨fo,_,_,rfl,rfl,hf5,by rw[List.length_append,List.length_singleton];omega,?_⟩
   have tr6:=fK (u:=(i,(i+3) % 7,(i+2) % 7)) hf5 (tr4.same s5) y5'
   refine⟨_,_,rfl,fun b' o e=>by rw[au (ag e hfo)];exact s5 _ _ (sm4 _ _ e),al,?_⟩
   rw[List.range_succ,List.flatMap_append]
   simpa [rtF] using tr6
  ·rintro σ H2 ⟨o2,vf,rfl,sm,hf2,tr2⟩
   have tr2:aA H2 vf rt:=tr2
   obtain⟨d1,d2⟩:=a_ (q:=q) (b:=4) (by decide)
   obtain⟨wy,ew⟩:∃wy:Nat,digO q 4=(wy:Int):=⟨_,(Int.toNat_of_nonneg d1).symm⟩
   refine⟨_,rfl,p,q,4,rfl,sm _ _ hp,pok,by decide,by decide +kernel,?_⟩
   (generalize z:upd H2 p _=H3;have k3:=aH z;have y3:=ai z;clear z)
   rw[ew] at d2 ⊢
   refine⟨_,rfl,_,_,rfl,rfl,(show (0:Int) < 3 by decide),_,rfl,by omega,by omega,?_⟩
   have hw:((wy:Int) % 3).toNat≤2:=by omega
   generalize ((wy:Int) % 3).toNat=W at hw
   have b3:But p H H3:=fun b' o n e=>(k3 b' n).trans (sm _ _ e)
   refine dS (lo:=0) (n:=W) (fun i σ H'=>∃o2 o4 o5 o6 Tc vc tc q',σ=[some (V.ref p),some (.ref Tc),o2,some (.int (wy:Int)),o4,o5,o6]∧But p H H'∧H' p=some (.lst (potV q'))∧br q'∧H Tc=none∧H' Tc=some (.lst vc)∧aA H' vc tc∧(i=0∧tc=rt∨(i=1∧∃j:Fin 14,tc=rt.eraseIdx j)∨i=2∧tc.length≤16∧Good tc))
    ⟨_,none,none,none,fo,vf,rt,_,rfl,b3,y3,ba pok,hfo,(k3 fo nfp).trans hf2,Paired.imp' (fun _ _ ⟨b',e1,e2⟩=>⟨b',e1,(k3 b' (bi e2 (sm _ _ hp) (by simp))).trans e2⟩) tr2,.inl ⟨rfl,rfl⟩⟩ ?_ ?_
   ·rintro i σ H4 hi ⟨o2,o4,o5,o6,Tc,vc,tc,q4,rfl,b4,hp4,pok4,hTc0,hT4,tr4,hcase⟩
    have hcase:i=0∧tc=rt∨(i=1∧∃j:Fin 14,tc=rt.eraseIdx j):=hcase.imp_right fun h=>h.resolve_right fun⟨z,_⟩=>by omega
    have ltc:13≤tc.length∧tc.length≤14:=by
     rcases hcase with ⟨_,rfl⟩|⟨_,j,rfl⟩
     ·decide
     ·rw[List.length_eraseIdx_of_lt (show (j:Nat) < rt.length from j.2)];decide
    have lvc:=ax tr4
    obtain⟨e1,e2⟩:=a_ (q:=q4) (b:=(vc.length:Int)) (by omega)
    obtain⟨k,hk⟩:∃k:Nat,digO q4 (vc.length:Int)=(k:Int):=⟨_,(Int.toNat_of_nonneg e1).symm⟩
    have hkl:k < tc.length:=by omega
    obtain⟨⟨a,b,c⟩,habc⟩:∃s,tc[k]? = some s:=⟨_,List.getElem?_eq_getElem hkl⟩
    obtain⟨zv,hzv,tt,rfl,htt⟩:=mt tr4 habc
    have nTp:Tc≠p:=fun z=>by rw[z,hp] at hTc0;cases hTc0
    refine⟨_,rfl,.inl ⟨rfl,_,SqL.of hT4⟩,_,rfl,_,rfl,Tc,_,rfl,.inl (SqL.of hT4),p,q4,_,rfl,hp4,pok4,by omega,de (by omega) (by omega),?_⟩
    rw[hk]
    (generalize z:upd H4 p _=H5;have k5:=aH z;have y5:=ai z;clear z)
    have hT5:=(k5 Tc nTp).trans hT4
    refine⟨Tc,vc,(k:Int),k,_,rfl,rfl,hT5,by omega,by omega,nr (by omega),hzv,?_⟩
    have b5:But p H H5:=fun b' o n e=>(k5 b' n).trans (b4 _ _ n e)
    have tr5:aA H5 vc tc:=Paired.imp' (fun _ _ ⟨b',e1,e2⟩=>⟨b',e1,(k5 b' (bi e2 hp4 (by simp))).trans e2⟩) tr4
    have htt5:H5 tt=some (.tup [.int (a:Int),.int (b:Int),.int (c:Int)]):=(k5 tt (bi htt hp4 (by simp))).trans htt
    (generalize z:upd H5 Tc _=H6;have k6:=aH z;have y6:=ai z;clear z)
    have b6:But p H H6:=fun b' o n e=>(k6 b' (ag e hTc0)).trans (b5 _ _ n e)
    have hp6:H6 p=some (.lst (potV (nxt q4 (vc.length:Int)))):=(k6 p (Ne.symm nTp)).trans y5
    have tr6:aA H6 (vc.eraseIdx k) (tc.eraseIdx k):=Paired.imp' (fun _ _ ⟨b',e1,e2⟩=>⟨b',e1,(k6 b' (bi e2 hT5 (by simp))).trans e2⟩) (kN k tr5)
    have htt6:=(k6 tt (bi htt5 hT5 (by simp))).trans htt5
    refine⟨_,rfl,rfl,_,rfl,?_⟩
    rcases hcase with ⟨rfl,rfl⟩|⟨rfl,j,rfl⟩
    ·exact iteF ⟨_,_,_,_,Tc,_,_,_,rfl,b6,hp6,ba pok4,hTc0,y6,tr6,.inr (.inl ⟨rfl,⟨k,hkl⟩,rfl⟩)⟩
    ·refine iteT ?_
     have l13:(rt.eraseIdx j).length=13:=by rw[List.length_eraseIdx_of_lt (show (j:Nat) < rt.length from j.2)];rfl
     have l12:((rt.eraseIdx j).eraseIdx k).length=12:=by rw[List.length_eraseIdx_of_lt hkl,l13]
     have lvk:=ax tr6
     refine⟨_,rfl,Tc,_,_,rfl,y6,tr6,by omega,fun rc cs H7 hrc s7 y7 hcs lcs=>?_⟩
     have six:6∈cs:=by
      rw[hcs.2]
      obtain⟨t,h1,h2⟩:=uv j ⟨k,by omega⟩
      exact List.mem_flatMap.mpr ⟨t,h1,by simpa using h2⟩
     have hle:∀x∈cs,x < 7:=fun x hx=>by
      rw[hcs.2] at hx
      obtain⟨t,h1,h2⟩:=List.mem_flatMap.mp hx
      have h3:=tV t ((List.eraseIdx_sublist _ _).subset ((List.eraseIdx_sublist _ _).subset h1))
      have h2:x=t.1∨x=t.2.1∨x=t.2.2:=by simpa using h2
      omega
     refine⟨rc,cs.map (fun c:Nat=>(c:Int)),rfl,SqL.of (by rw[y7];simp[nV]),fun z=>?_,fun m hm hmax=>⟨_,_,rfl,rfl,?_⟩⟩
     ·rw[List.map_eq_nil_iff.mp z] at six;cases six
     have em:m=6:=by
      obtain⟨x,hx,rfl⟩:=List.mem_map.mp hm
      have:=hmax 6 (List.mem_map.mpr ⟨6,six,rfl⟩)
      have:=hle x hx
      omega
     subst em
     refine⟨_,rfl,_,rfl,tt,(a,b,c),rfl,s7 _ _ htt6,fun Z zs H8 hZ0 s8 y8 sd=>?_⟩
     have s68:=s7.trans s8
     refine⟨Z,rfl,⟨_,SqL.of y8⟩,fun Y hY=>bf (K:=K) (a:=Z) (xs:=zs) (fun i σ ys H'=>∃o1 o2,σ=[o1,o2,some (.int 7)]∧Same H8 H'∧H' Y=some (.lst ys)∧aA H' ys (((bP (a,b,c)).take i).map fun s=>(s.1,s.2,7)))
      ⟨none,none,rfl,ay hY,al,.nil⟩ (fun i σ ys H' _ ⟨_,_,_,e,_⟩=>SqL.of (e _ _ y8)) ?_ ?_⟩
     ·rintro i x σ ys H' hi ⟨o1,o2',rfl,sm',hY',tr'⟩
      obtain⟨⟨x1,x2⟩,hs,c',rfl,hc'⟩:=aU sd hi
      refine⟨c',_,rfl,SqT.of (sm' _ _ hc'),rfl,_,_,rfl,_,_,rfl,rfl,?_⟩
      refine iteT ⟨_,rfl,_,rfl,_,rfl,lit3,fun t ht=>?_⟩
      (generalize z:upd H' t _=H9;have s9:=ah ht z;have y9:=ai z;clear z)
      have hY9:=s9 _ _ hY'
      have tr10:=fK (u:=(x1,x2,7)) hY9 (tr'.same s9) y9
      refine⟨hY9,?_,_,_,rfl,fun b' o e=>?_,al,?_⟩
      ·rw[ax tr',List.length_map,List.length_take];simp[bP];omega
      ·rw[au (ag e hY)];exact s9 _ _ (sm' _ _ e)
      ·rw[List.take_add_one,hs,List.map_append];exact tr10
     ·rintro σ ys H9 ⟨o1,o2',rfl,sm',hY',tr'⟩
      have l3:zs.length=3:=ax sd
      rw[l3] at tr'
      have tr':aA H9 ys [(a,b,7),(b,c,7),(c,a,7)]:=tr'
      have s69:=s68.trans sm'
      refine⟨Tc,Y,_,_,rfl,rfl,s69 _ _ y6,hY',by have:=ax tr';simp at this;omega,fun R hR=>?_⟩
      (generalize z:upd H9 R _=H10;have s10:=ah hR z;have y10:=ai z;clear z)
      have st:=s69.trans s10
      have hR0:H R=none:=by
       cases e:H R with
       |none=>rfl
       |some o=>
        by_cases ep:R=p
        ·rw[ep,s69 _ _ hp6] at hR;cases hR
        ·rw[s69 _ _ (b6 _ _ ep e)] at hR;cases hR
      refine⟨_,_,_,_,R,_,_,_,rfl,fun b' o n e=>st _ _ (b6 _ _ n e),st _ _ hp6,ba pok4,hR0,y10,bO (tr6.same st) (tr'.same s10),.inr (.inr ⟨rfl,?_,?_⟩)⟩
      ·rw[List.length_append,l12];exact (show 12+3≤16 by decide)
      ·refine oZ (gD (iF jU (List.eraseIdx_sublist rt j)) (o_ (fE habc))) fun z=>?_
       obtain⟨t,h1,h2⟩:=aW.mp z
       have h3:=tV t ((List.eraseIdx_sublist _ _).subset ((fE habc).mem_iff.mp h1))
       omega
   ·rintro σ H4 ⟨o2,o4,o5,o6,Tc,vc,tc,q4,rfl,b4,hp4,pok4,hTc0,hT4,tr4,hcase⟩
    have hh:tc.length≤16∧Good tc:=by
     rcases hcase with ⟨_,rfl⟩|⟨_,j,rfl⟩|⟨_,h⟩
     ·exact⟨by decide,jU⟩
     ·exact⟨Nat.le_trans (List.eraseIdx_sublist rt j).length_le (by decide),iF jU (List.eraseIdx_sublist rt j)⟩
     ·exact h
    exact⟨_,rfl,Qq Tc vc tc q4 H4 hTc0 b4 hp4 pok4 hT4 tr4 hh.1 hh.2⟩
end
end K15
end
section
namespace K15
open PySem L2 K51 K31
def ie:Sp:=fun vs H Q _=>∃(S T:Addr) (vs' vt:List V) (ss ts:List Tri),vs=[.ref S,.ref T]∧H S=some (.lst vs')∧aA H vs' ss∧ss.length≤10∧Good ss∧H T=some (.lst vt)∧aA H vt ts∧ts.length≤10∧Good ts ∧
 ∀r vr rs H',H r=none→Same H H'→H' r=some (.lst vr)→aA H' vr rs→rs.length≤20→Good rs→Q (.ref r) H'
section
variable {P:Program} {w:World} {K:W.Frag} {mg:Str→Option Value} {base:Heap}
theorem kJ:aC ["_law_one","_law_other","_law_more"] ["_law_one","_law_other"] (af bX):=⟨rfl,rfl,rfl,by decide +kernel,rfl,by decide +kernel,by decide +kernel⟩
theorem oK {f f2:Addr} {fd d2:FuncData} (U:Fun K "_law_beside" "_law_beside" bX f fd) (T:TxtN mg) (mM:mg "max" = none)
  (GC:FnOk P w K mg base CX0 2 f2 d2 ["_law_triples"] cG) (bC:Binds K d2 ["_law_triples"] []) (mC:mg "_law_corners" = some (.ref f2)) (kC:W.keepIn K (.ref f2)=true) :
  FnOk P w K mg base CX0 3 f fd ["_law_one","_law_other"] ie:=by
 refine U.ok kJ (fun vs H Q E h=>?_) (fun cdv A outer s H vs Q E hr h=>?_)
 ·obtain⟨S,T0,vs',vt,ss,ts,rfl,_⟩:=h
  rfl
 ·obtain⟨S,T0,vs',vt,ss,ts,rfl,hS,trS,lS,gS,hT,trT,lT,gT,Qq⟩:=h
  have hu:=b_ hr
  refine⟨_,(ae (av (i:=2) kJ.nd rfl (Or.inr rfl) (az aX (aB (dM rfl) (by rfl) mM PyProof.Rows.boot_max (aa (az ir (ar GC hr rfl mC kC bC .nil pass0 (aa (pv 0) ac)) (aV (aa (gJ eC aj) ac))) ac)) aj))
   (ak (aD (az ir (pv 0) (bJ (N:=["_law_triple","_law_more"]) (fr:=[none,some 2]) (te:=tCB (fun xs H Q=>∃p ys,xs=[.ref p]∧((SqL K H p ys∧∀l,H l=none→Q (.ref l) (upd H l (.tup ys)))∨(SqT K H p ys∧Q (.ref p) H))) (dn (nj (iTup K (tVar 0)) (cF 0) (fun _ H Q=>Q true H) (tOp (rI0 fun i j=>.int (i+j)) (tVar 0) (tVar 1)) [none,some 1]) tNil)) (aJ (by decide +kernel) rfl rfl (by decide +kernel) (by decide +kernel) (by
      intro y hy e
      simp only[List.mem_cons,List.not_mem_nil,or_false] at hy
      rcases hy with rfl|rfl|rfl|rfl
      all_goals first|(cases e;done)|exact .inl rfl|exact .inr rfl) (by
      intro j i y e1 e2
      match j,e1,e2 with
      |0,e1,_=>simp at e1
      |1,e1,e2=>simp at e1 e2;subst e1 e2;exact⟨rfl,rfl⟩
      |j+2,e1,_=>simp at e1)) rfl (aK (pv 1))
     (fun C' s' H' fp pins=>⟨(aq (i:=0) (show (["_law_triple","_law_more"]:List Str).Nodup by decide +kernel) rfl (Or.inl rfl) (.inr rfl)),cf,(aO cT (by rfl) T.tuple PyProof.Rows.boot_tuple (aa (bJ (N:=["_law_corner","_law_more"]) (fr:=[none,some 1]) (te:=tOp (rI0 fun i j=>.int (i+j)) (tVar 0) (tVar 1)) (aJ (by decide +kernel) rfl rfl (by decide +kernel) (by decide +kernel) (by
      intro y hy e
      simp only[List.mem_cons,List.not_mem_nil,or_false] at hy
      rcases hy with rfl|rfl|rfl
      all_goals first|(cases e;done)|exact .inl rfl|exact .inr rfl) (by
      intro j i y e1 e2
      match j,e1,e2 with
      |0,e1,_=>simp at e1
      |1,e1,e2=>simp at e1 e2;subst e1 e2;exact⟨rfl,rfl⟩
      |j+2,e1,_=>simp at e1)) rfl (jZ (pv 0))
     (fun C' s' H' fp pins=>⟨(aq (i:=0) (show (["_law_corner","_law_more"]:List Str).Nodup by decide +kernel) rfl (Or.inl rfl) (.inr rfl)),cf,(az aX (pv 0) (pv 1))⟩)) ac))⟩)))))),?_⟩
  have hline:=line5000
  refine⟨_,rfl,S,vs',ss,rfl,hS,trS,by omega,fun L cs H1 hL0 s1 y1 hcs lcs=>?_⟩
  refine⟨_,rfl,lit1,fun l1 g1=>?_⟩
  (generalize z:upd H1 l1 _=H2;have s2:=ah g1 z;have y2:=ai z;clear z)
  refine⟨L,l1,_,_,rfl,rfl,s2 _ _ y1,y2,by rw[aG];simp only[List.length_singleton];omega,fun l2 g2=>?_⟩
  (generalize z:upd H2 l2 _=H3;have s3:=ah g2 z;have y3:=ai z;clear z)
  refine⟨l2,cs.map (fun c:Nat=>(c:Int))++[-1],rfl,SqL.of (by rw[y3];simp[nV]),by simp,fun m hm hmax=>⟨_,_,rfl,rfl,?_⟩⟩
  obtain⟨n,hn⟩:∃n:Nat,m+1=(n:Int):=by
   have:=hmax (-1) (by simp)
   exact⟨(m+1).toNat,by omega⟩
  have hlt:∀c,Co ss c→c < n:=fun c hc=>by
   have:c∈cs:=by
    rw[hcs.2]
    obtain⟨t,h1,h2⟩:=aW.mp hc
    exact List.mem_flatMap.mpr ⟨t,h1,by simpa using h2⟩
   have:=hmax (c:Int) (List.mem_append_left _ (List.mem_map.mpr ⟨c,this,rfl⟩))
   omega
  show cF 2 (V.int (m+1)) _ _ _
  rw[hn]
  have s03:=(s1.trans s2).trans s3
  have hT3:=s03 _ _ hT
  have trT3:=trT.same s03
  have gN:Good (ts.map (nam (· + n))):=lE gT (fun a b _ _ h=>by simpa using h)
  refine⟨_,rfl,_,rfl,T0,rfl,⟨_,SqL.of hT3⟩,fun Z hZ=>bf (K:=K) (a:=T0) (xs:=vt) (fun i σ ys H'=>∃o,σ=[o,some (.int (n:Int))]∧Same H3 H'∧H' Z=some (.lst ys)∧aA H' ys ((ts.take i).map (nam (· + n))))
   ⟨none,rfl,ay hZ,al,.nil⟩ (fun i σ ys H' _ ⟨_,_,e,_⟩=>SqL.of (e _ _ hT3)) ?_ ?_⟩
  ·rintro i x σ ys H' hi ⟨o,rfl,sm,hZ',tr'⟩
   obtain⟨⟨a,b,c⟩,hs,t,rfl,hb⟩:=aU trT3 hi
   have hb:H3 t=some (.tup [.int (a:Int),.int (b:Int),.int (c:Int)]):=hb
   have hil:=(List.getElem?_eq_some_iff.mp hs).1
   refine⟨_,rfl,t,rfl,⟨_,SqT.of (sm _ _ hb)⟩,fun Y hY=>iM (K:=K) (a:=t) (xs:=nV [a,b,c]) (fun i σ ys H''=>∃o,σ=[o,some (.int (n:Int))]∧ys=nV (([a,b,c].take i).map (· + n))∧Same H' H''∧H'' Y=some (.lst ys)) ⟨none,rfl,rfl,ay hY,al⟩ (fun i σ ys H'' _ ⟨_,_,_,e,_⟩=>SqT.of (e _ _ (sm _ _ hb))) ?_ ?_⟩
   ·rintro j x σ zs H4 hj ⟨o,rfl,rfl,sm4,hY4⟩
    rw[nV,List.getElem?_map] at hj
    obtain⟨z,hz,rfl⟩:=Option.map_eq_some_iff.mp hj
    have hjl:j < 3:=(List.getElem?_eq_some_iff.mp hz).1
    refine⟨_,rfl,_,rfl,_,_,rfl,rfl,hY4,?_,_,rfl,?_,fun b' o e=>?_,al⟩
    ·rw[aG,List.length_map,List.length_take];simp;omega
    ·rw[List.take_add_one,hz,List.map_append,←cX];rfl
    ·rw[au (ag e hY)];exact sm4 _ _ e
   ·rintro σ zs H4 ⟨o,rfl,rfl,sm4,hY4⟩
    refine⟨Y,_,rfl,.inl ⟨SqL.of hY4,fun t' ht'=>?_⟩⟩
    (generalize z:upd H4 t' _=H5;have s5:=ah ht' z;have y5:=ai z;clear z)
    have st:=sm4.trans s5
    have hZ5:=st _ _ hZ'
    have tr6:=fK (u:=(a+n,b+n,c+n)) hZ5 (tr'.same st) y5
    refine⟨hZ5,?_,_,rfl,fun b' o e=>?_,al,?_⟩
    ·rw[ax tr',List.length_map,List.length_take];omega
    ·rw[au (ag e hZ)];exact st _ _ (sm _ _ e)
    ·rw[List.take_add_one,hs,List.map_append];exact tr6
  ·rintro σ ys H4 ⟨o,rfl,sm,hZ',tr'⟩
   rw[ax trT3,List.take_length] at tr'
   have lz:=ax tr'
   rw[List.length_map] at lz
   have lv:=ax trS
   have s04:=s03.trans sm
   refine⟨S,Z,_,_,rfl,rfl,s04 _ _ hS,hZ',by omega,fun R hR=>?_⟩
   (generalize z:upd H4 R _=H5;have s5:=ah hR z;have y5:=ai z;clear z)
   refine Qq R _ _ H5 (s04.free hR) (s04.trans s5) y5 (bO (trS.same (s04.trans s5)) (tr'.same s5)) ?_ ?_
   ·rw[List.length_append,List.length_map];omega
   ·refine qF gS gN fun a ha hb=>?_
    have:=hlt a ha
    obtain⟨b,c,e⟩:=hb
    obtain⟨a',b',c',_,h2,_⟩:=qQ gT (fun a b _ _ h=>by simpa using h) e
    have h2:a=a' + n:=h2
    omega
end
end K15
end
section
namespace K15
open PySem L2 K51 K31
theorem ng {H:Hp} {r p:Addr} {vr:List V} {ts:List Tri} {q:Int × Int} (hr:H r=some (.lst vr)) (tr:aA H vr ts) (hp:H p=some (.lst (potV q))):r≠p:=fun z=>by
 rw[z,hp] at hr
 cases hr
 cases tr with
 |cons h _=>
  obtain⟨b,e,_⟩:=h
  cases e
def jH:Sp:=fun vs H Q _=>∃(p:Addr) (q:Int × Int),vs=[.ref p,.int 16]∧H p=some (.lst (potV q))∧br q ∧
 ∀r vr ts q' H',r≠p→But p H H'→H' p=some (.lst (potV q'))→br q'→H' r=some (.lst vr)→aA H' vr ts→ts.length≤20→Good ts→(∀c,Co ts c→One (En ts) c)→Q (.ref r) H'
section
variable {P:Program} {w:World} {K:W.Frag} {mg:Str→Option Value} {base:Heap}
theorem nB:aC ["_law_pot_here","_law_most","_law_way"] ["_law_pot_here","_law_most"] (af dC):=⟨rfl,rfl,rfl,by decide +kernel,rfl,by decide +kernel,by decide +kernel⟩
theorem qe {f f1 f2 f3 f4 f5 f6:Addr} {fd d1 d2 d3 d4 d5 d6:FuncData} (U:Fun K "_law_skin" "_law_skin" dC f fd)
  (GD:FnOk P w K mg base CX0 3 f1 d1 ["_law_pot_here","_law_base"] cZ) (bD:Binds K d1 ["_law_pot_here","_law_base"] []) (mD:mg "_law_digit" = some (.ref f1)) (kD:W.keepIn K (.ref f1)=true)
  (GR:FnOk P w K mg base CX0 3 f2 d2 ["_law_pot_here"] lV) (bR:Binds K d2 ["_law_pot_here"] []) (mR:mg "_law_ring" = some (.ref f2)) (kR:W.keepIn K (.ref f2)=true)
  (GS:FnOk P w K mg base CX0 3 f3 d3 ["_law_triples"] gZ) (bS:Binds K d3 ["_law_triples"] []) (mS:mg "_law_split" = some (.ref f3)) (kS:W.keepIn K (.ref f3)=true)
  (GB:FnOk P w K mg base CX0 3 f4 d4 ["_law_one","_law_other"] ie) (bB:Binds K d4 ["_law_one","_law_other"] []) (mB:mg "_law_beside" = some (.ref f4)) (kB:W.keepIn K (.ref f4)=true)
  (GG:FnOk P w K mg base CX0 3 f5 d5 ["_law_pot_here","_law_most"] jJ) (bG:Binds K d5 ["_law_pot_here","_law_most"] []) (mG:mg "_law_grown" = some (.ref f5)) (kG:W.keepIn K (.ref f5)=true)
  (GW:FnOk P w K mg base CX0 3 f6 d6 ["_law_pot_here","_law_most"] jM) (bW:Binds K d6 ["_law_pot_here","_law_most"] []) (mW:mg "_law_drawn" = some (.ref f6)) (kW:W.keepIn K (.ref f6)=true) :
  FnOk P w K mg base CX0 4 f fd ["_law_pot_here","_law_most"] jH:=by
 refine U.ok nB (fun vs H Q E h=>?_) (fun cdv A outer s H vs Q E hr h=>?_)
 ·obtain⟨p,q,rfl,_⟩:=h
  rfl
 ·obtain⟨p,q,rfl,hp,pok,Qq⟩:=h
  refine⟨_,(ae (av (i:=2) nB.nd rfl (Or.inl rfl) (ar GD hr rfl mD kD bD .nil pass0 (aa (pv 0) (aa aj ac))))
   (ae (cm (PW.pt (im (aF iq (pv 2) aj (nomark _)) (fQ (aF tX (pv 1) aj (nomark _))))) (ak (aD (ar GS hr rfl mS kS bS .nil pass0 (aa (ar GR hr rfl mR kR bR .nil pass0 (aa (pv 0) ac)) ac)))) aZ)
   (ae (cm (aF iq (pv 2) aj (nomark _)) (ak (aD (ar GS hr rfl mS kS bS .nil pass0 (aa (ar GB hr rfl mB kB bB .nil pass0 (aa (ar GG hr rfl mG kG bG .nil pass0 (aa (pv 0) (aa (az dQ (pv 1) aj) ac))) (aa (ar GW hr rfl mW kW bW .nil pass0 (aa (pv 0) (aa (az dQ (pv 1) aj) ac))) ac))) ac)))) aZ)
   (ae (cm (aF nN (pv 2) aj (nomark _)) (ak (aD (ar GS hr rfl mS kS bS .nil pass0 (aa (ar GW hr rfl mW kW bW .nil pass0 (aa (pv 0) (aa (pv 1) ac))) ac)))) aZ)
   (ak (aD (ar GS hr rfl mS kS bS .nil pass0 (aa (ar GG hr rfl mG kG bG .nil pass0 (aa (pv 0) (aa (pv 1) ac))) ac)))))))),?_⟩
  obtain⟨d1,d2⟩:=a_ (q:=q) (b:=8) (by decide)
  refine⟨_,rfl,p,q,8,rfl,hp,pok,by decide,by decide +kernel,?_⟩
  (generalize z:upd H p _=H1;have k1:=aH z;have y1:=ai z;clear z)
  have b1:But p H H1:=fun b' o n e=>(k1 b' n).trans e
  have end_:∀(R:Addr) (vr:List V) (ts:List Tri) (q':Int × Int) (H2:Hp),But p H1 H2→H2 p=some (.lst (potV q'))→br q'→H2 R=some (.lst vr)→aA H2 vr ts→ts.length≤20→Good ts→gZ [.ref R] H2 Q E:=by
   intro R vr ts q' H2 b2 hp2 pok2 hR tr hl hg
   refine⟨R,vr,ts,rfl,hR,tr,hl,hg,fun r vr' ts' H3 s3 hr3 tr3 l3 g3 o3=>?_⟩
   exact Qq r vr' ts' q' H3 (ng hr3 tr3 (s3 _ _ hp2)) (fun b' o n e=>s3 _ _ (b2 b' o n (b1 b' o n e))) (s3 _ _ hp2) pok2 hr3 tr3 (by omega) g3 o3
  refine⟨_,rfl,rfl,_,rfl,?_⟩
  generalize digO q 8=wy at *
  by_cases h0:wy=0
  ·subst h0
   refine iteT ⟨_,rfl,_,_,rfl,rfl,_,rfl,iteT ?_⟩
   refine⟨_,rfl,p,_,rfl,y1,ba pok,fun R vr ts q2 H2 hR0 b2 hp2 pok2 hR tr hl hg=>?_⟩
   exact end_ R vr ts q2 H2 b2 hp2 pok2 hR tr (by omega) hg
  ·rw[show decide (V.int wy=V.int 0)=false from decide_eq_false fun z=>h0 (V.int.inj z)]
   refine iteF (iteF ⟨_,rfl,rfl,_,rfl,?_⟩)
   by_cases h1:wy=1
   ·subst h1
    refine iteT ?_
    refine⟨_,rfl,_,rfl,_,_,rfl,rfl,⟨by decide,by decide +kernel⟩,p,_,8,rfl,y1,ba pok,by decide,fun R vr ts q2 H2 hR0 b2 hp2 pok2 hR tr hl hg=>?_⟩
    refine⟨_,rfl,_,rfl,_,_,rfl,rfl,⟨by decide,by decide +kernel⟩,p,_,8,rfl,hp2,pok2,by decide,fun R3 vr3 ts3 q3 H3 hR30 b3 hp3 pok3 hR3 tr3 hl3 hg3=>?_⟩
    have nRp:R≠p:=fun z=>by rw[z,y1] at hR0;cases hR0
    refine⟨R,R3,vr,vr3,ts,ts3,rfl,b3 _ _ nRp hR,rL b3 hp2 tr,by omega,hg,hR3,tr3,by omega,hg3,fun R4 vr4 ts4 H4 hR40 s4 hR4 tr4 hl4 hg4=>?_⟩
    exact end_ R4 vr4 ts4 q3 H4 (fun b' o n e=>s4 _ _ (b3 b' o n (b2 b' o n e))) (s4 _ _ hp3) pok3 hR4 tr4 (by omega) hg4
   ·rw[show decide (V.int wy=V.int 1)=false from decide_eq_false fun z=>h1 (V.int.inj z)]
    refine iteF ⟨_,rfl,_,_,rfl,rfl,_,rfl,?_⟩
    show if decide (wy < 5)=true then _ else _
    by_cases h5:wy < 5
    ·rw[decide_eq_true h5]
     refine iteT ?_
     refine⟨_,rfl,_,rfl,p,_,16,rfl,y1,ba pok,by decide,fun R vr ts q2 H2 hR0 b2 hp2 pok2 hR tr hl hg=>?_⟩
     exact end_ R vr ts q2 H2 b2 hp2 pok2 hR tr (by omega) hg
    ·rw[decide_eq_false h5]
     refine iteF ?_
     refine⟨_,rfl,_,rfl,p,_,16,rfl,y1,ba pok,by decide,fun R vr ts q2 H2 hR0 b2 hp2 pok2 hR tr hl hg=>?_⟩
     exact end_ R vr ts q2 H2 b2 hp2 pok2 hR tr (by omega) hg
end
end K15
end
section
namespace K15
variable {E:Nat→Nat→Nat→Prop}
def RimS (E:Nat→Nat→Nat→Prop) (a b:Nat):Prop:=(∃q,E a b q)∧¬∃r,E b a r
theorem nF (k:Sk E) {a b:Nat} {F:List Nat} (hF:Fan E a F) (all:∀p,(∃q,E a p q)→p∈F) (h:RimS E a b):F[0]? = some b:=by
 obtain⟨i,hi⟩:=List.mem_iff_getElem?.mp (all b h.1)
 cases i with
 |zero=>exact hi
 |succ i=>
  obtain⟨hl,_⟩:=List.getElem?_eq_some_iff.mp hi
  have hp:F[i]? = some (F[i]'(by omega)):=List.getElem?_eq_getElem _
  exact (h.2 ⟨_,k.rot (k.rot (hF.ch i _ _ hp hi))⟩).elim
theorem rZ (k:Sk E) {a b b':Nat} (o:One E a) (h:RimS E a b) (h':RimS E a b'):b=b':=by
 obtain⟨F,hF,all⟩:=o
 exact Option.some.inj ((nF k hF all h).symm.trans (nF k hF all h'))
theorem il (k:Sk E) {a z:Nat} {F:List Nat} (hF:Fan E a F) (all:∀p,(∃q,E a p q)→p∈F) (h:RimS E z a):∃l,F[F.length - 1]? = some l∧E a l z:=by
 obtain⟨⟨q,hq⟩,no⟩:=h
 have hq:=k.rot hq
 obtain⟨i,hi⟩:=List.mem_iff_getElem?.mp (all q ⟨z,hq⟩)
 obtain⟨hl,_⟩:=List.getElem?_eq_some_iff.mp hi
 by_cases c:i+1 < F.length
 ·have hn:F[i+1]? = some (F[i+1]):=List.getElem?_eq_getElem c
  have e:z=F[i+1]:=k.one hq (hF.ch i _ _ hi hn)
  exact (no (by rw[e];exact hF.key _ (List.getElem_mem c))).elim
 ·exact⟨q,by rw[show F.length - 1=i by omega];exact hi,hq⟩
theorem r_ (k:Sk E) {a z z':Nat} (o:One E a) (h:RimS E z a) (h':RimS E z' a):z=z':=by
 obtain⟨F,hF,all⟩:=o
 obtain⟨l,h1,h2⟩:=il k hF all h
 obtain⟨l',h1',h2'⟩:=il k hF all h'
 cases h1.symm.trans h1'
 exact k.one h2 h2'
theorem pJ (k:Sk E) {a z:Nat} (o:One E a) (h:RimS E z a):∃b,RimS E a b:=by
 obtain⟨F,hF,all⟩:=o
 obtain⟨l,h1,h2⟩:=il k hF all h
 have hl:0 < F.length:=by
  cases hF':F with
  |nil=>exact absurd hF' hF.ne
  |cons x xs=>simp
 have h0:F[0]? = some (F[0]'hl):=List.getElem?_eq_getElem _
 generalize F[0]'hl=b at h0
 refine⟨b,hF.key b (List.mem_of_getElem? h0),fun⟨r,hr⟩=>?_⟩
 have hr:=k.rot hr
 obtain⟨i,hi⟩:=List.mem_iff_getElem?.mp (all r ⟨b,hr⟩)
 obtain⟨hi',_⟩:=List.getElem?_eq_some_iff.mp hi
 by_cases c:i+1 < F.length
 ·have hn:F[i+1]? = some (F[i+1]):=List.getElem?_eq_getElem c
  have e:=k.one hr (hF.ch i _ _ hi hn)
  rw[←e] at hn
  have:=cn hF.nd hn h0
  omega
 ·rw[show F.length - 1=i by omega] at h1
  cases hi.symm.trans h1
  have e:=k.one hr h2
  exact h.2 (by rw[←e];exact hF.key b (List.mem_of_getElem? h0))
section
variable {R:Nat→Nat→Prop}
structure Path (R:Nat→Nat→Prop) (l:List Nat):Prop where
 ne:l≠[]
 nd:l.Nodup
 ch:∀i p q,l[i]? = some p→l[i+1]? = some q→R p q
structure Cyc (R:Nat→Nat→Prop) (l:List Nat):Prop extends Path R l where
 back:∀p q,l[l.length - 1]? = some p→l[0]? = some q→R p q
theorem Path.one (R:Nat→Nat→Prop) (a:Nat):Path R [a]:=⟨by simp,by simp,fun i p q h1 h2=>by simp at h2⟩
theorem Path.home (inj:∀a b c,R a c→R b c→a=b) {l:List Nat} (h:Path R l) {p z:Nat} (hp:l[l.length - 1]? = some p) (hz:R p z) (hm:z∈l):l[0]? = some z:=by
 obtain⟨j,hj⟩:=List.mem_iff_getElem?.mp hm
 cases j with
 |zero=>exact hj
 |succ j=>
  obtain⟨hl,_⟩:=List.getElem?_eq_some_iff.mp hj
  have hq:l[j]? = some (l[j]'(by omega)):=List.getElem?_eq_getElem _
  have e:=inj _ _ _ hz (h.ch j _ _ hq hj)
  rw[←e] at hq
  have:=cn h.nd hp hq
  omega
theorem Path.snoc {l:List Nat} (h:Path R l) {p z:Nat} (hp:l[l.length - 1]? = some p) (hz:R p z) (hm:z∉l):Path R (l++[z]):=by
 have hl:0 < l.length:=List.length_pos_iff.mpr h.ne
 refine⟨by simp,List.nodup_append.mpr ⟨h.nd,by simp,fun a ha b hb e=>hm (by rw[←List.mem_singleton.mp hb,←e];exact ha)⟩,fun i x y h1 h2=>?_⟩
 by_cases c:i+1 < l.length
 ·rw[List.getElem?_append_left c] at h2
  rw[List.getElem?_append_left (by omega)] at h1
  exact h.ch i x y h1 h2
 ·by_cases d:i+1=l.length
  ·rw[List.getElem?_append_right (by omega),show i+1 - l.length=0 by omega] at h2
   rw[List.getElem?_append_left (by omega),show i=l.length - 1 by omega] at h1
   cases hp.symm.trans h1
   cases (show some z=some y from h2)
   exact hz
  ·rw[List.getElem?_append_right (by omega)] at h2
   have:[z][i+1 - l.length]? = none:=List.getElem?_eq_none (by simp;omega)
   rw[this] at h2;cases h2
theorem Cyc.step {l:List Nat} (h:Cyc R l) {p:Nat} (hp:p∈l):∃q∈l,R p q:=by
 obtain⟨i,hi⟩:=List.mem_iff_getElem?.mp hp
 obtain⟨hl,_⟩:=List.getElem?_eq_some_iff.mp hi
 by_cases c:i+1 < l.length
 ·exact⟨l[i+1],List.getElem_mem c,h.ch i _ _ hi (List.getElem?_eq_getElem c)⟩
 ·rw[show i=l.length - 1 by omega] at hi
  have h0:l[0]? = some (l[0]'(by omega)):=List.getElem?_eq_getElem _
  exact⟨_,List.mem_of_getElem? h0,h.back _ _ hi h0⟩
theorem Cyc.same (one:∀a b c,R a b→R a c→b=c) (inj:∀a b c,R a c→R b c→a=b) {l m:List Nat} (h:Cyc R l) (hm:Cyc R m) {x:Nat} (hx:l[0]? = some x) (hy:m[0]? = some x):l=m:=by
 have key:∀i,i < l.length→i < m.length→l[i]? = m[i]?:=by
  intro i
  induction i with
  |zero=>intro _ _;rw[hx,hy]
  |succ i ih=>
   intro h1 h2
   have e:=ih (by omega) (by omega)
   have hq:l[i]? = some (l[i]'(by omega)):=List.getElem?_eq_getElem _
   have hl:l[i+1]? = some l[i+1]:=List.getElem?_eq_getElem h1
   have hm':m[i+1]? = some m[i+1]:=List.getElem?_eq_getElem h2
   rw[hl,hm',one _ _ _ (h.ch i _ _ hq hl) (hm.ch i _ _ (e ▸ hq) hm')]
 have len:∀{l m:List Nat},Cyc R l→Cyc R m→l[0]? = some x→m[0]? = some x→(∀i,i < l.length→i < m.length→l[i]? = m[i]?)→¬l.length < m.length:=by
  intro l m h hm hx hy key c
  have hl:0 < l.length:=List.length_pos_iff.mpr h.ne
  have hp:l[l.length - 1]? = some (l[l.length - 1]'(by omega)):=List.getElem?_eq_getElem _
  have hp':=(key (l.length - 1) (by omega) (by omega)).symm.trans hp
  have hn:m[l.length]? = some m[l.length]:=List.getElem?_eq_getElem c
  have e:=one _ _ _ (h.back _ _ hp hx) (hm.ch (l.length - 1) _ _ hp' (by rw[show l.length - 1+1=l.length by omega];exact hn))
  rw[←e] at hn
  have:=cn hm.nd hn hy
  omega
 have e:l.length=m.length:=by
  have h1:=len h hm hx hy key
  have h2:=len hm h hy hx fun i a b=>(key i b a).symm
  omega
 apply List.ext_getElem?
 intro i
 by_cases c:i < l.length
 ·exact key i c (by omega)
 ·rw[List.getElem?_eq_none (by omega),List.getElem?_eq_none (by omega)]
theorem Cyc.before (inj:∀a b c,R a c→R b c→a=b) {l:List Nat} (h:Cyc R l) {p q:Nat} (hq:q∈l) (hr:R p q):p∈l:=by
 obtain⟨i,hi⟩:=List.mem_iff_getElem?.mp hq
 obtain⟨hl,_⟩:=List.getElem?_eq_some_iff.mp hi
 cases i with
 |zero=>
  have hp:l[l.length - 1]? = some (l[l.length - 1]'(by omega)):=List.getElem?_eq_getElem _
  rw[inj _ _ _ hr (h.back _ _ hp hi)]
  exact List.mem_of_getElem? hp
 |succ i=>
  have hp:l[i]? = some (l[i]'(by omega)):=List.getElem?_eq_getElem _
  rw[inj _ _ _ hr (h.ch i _ _ hp hi)]
  exact List.mem_of_getElem? hp
theorem Path.from (inj:∀a b c,R a c→R b c→a=b) {l m:List Nat} (h:Path R m) (hl:Cyc R l) {x:Nat} (hx:x∈m) (hxl:x∈l) {y:Nat} (hy:m[0]? = some y):y∈l:=by
 have key:∀(i p:Nat),m[i]? = some p→p∈l→y∈l:=by
  intro i
  induction i with
  |zero=>intro p hp hpl;cases hy.symm.trans hp;exact hpl
  |succ i ih=>
   intro p hp hpl
   obtain⟨hm,_⟩:=List.getElem?_eq_some_iff.mp hp
   have hq:m[i]? = some (m[i]'(by omega)):=List.getElem?_eq_getElem _
   exact ih _ hq (hl.before inj hpl (h.ch i _ _ hq hp))
 obtain⟨i,hi⟩:=List.mem_iff_getElem?.mp hx
 exact key i x hi hxl
structure Rims (R:Nat→Nat→Prop) (ls:List (List Nat)):Prop where
 cyc:∀l∈ls,Cyc R l
 least:∀l∈ls,∀x,l[0]? = some x→∀p∈l,x≤p
 all:∀p,(∃q,R p q)→∃l∈ls,p∈l
 rise:ls.Pairwise fun l m=>∀x y,l[0]? = some x→m[0]? = some y→x < y
theorem Path.begin {l:List Nat} (h:Path R l):∃x,l[0]? = some x∧x∈l:=by
 have hl:0 < l.length:=List.length_pos_iff.mpr h.ne
 exact⟨l[0],List.getElem?_eq_getElem _,List.getElem_mem _⟩
theorem Rims.sub (one:∀a b c,R a b→R a c→b=c) (inj:∀a b c,R a c→R b c→a=b) {ls ms:List (List Nat)} (h:Rims R ls) (h':Rims R ms):∀l∈ls,l∈ms:=by
 intro l hl
 obtain⟨x,hx,hxl⟩:=(h.cyc l hl).toPath.begin
 obtain⟨q,_,hq⟩:=(h.cyc l hl).step hxl
 obtain⟨m,hm,hxm⟩:=h'.all x ⟨q,hq⟩
 obtain⟨y,hy,hym⟩:=(h'.cyc m hm).toPath.begin
 have h1:=h'.least m hm y hy x hxm
 have h2:=h.least l hl x hx y ((h'.cyc m hm).toPath.from inj (h.cyc l hl) hxm hxl hy)
 have e:x=y:=Nat.le_antisymm h2 h1
 subst e
 rw[(h.cyc l hl).same one inj (h'.cyc m hm) hx hy]
 exact hm
theorem Rims.nodup {ls:List (List Nat)} (h:Rims R ls):ls.Nodup:=by
 refine List.Pairwise.imp_of_mem ?_ h.rise
 intro l m hl hm hr e
 subst e
 obtain⟨x,hx,_⟩:=(h.cyc l hl).toPath.begin
 exact Nat.lt_irrefl _ (hr x x hx hx)
theorem Rims.uniq (one:∀a b c,R a b→R a c→b=c) (inj:∀a b c,R a c→R b c→a=b) {ls ms:List (List Nat)} (h:Rims R ls) (h':Rims R ms):ls=ms:=by
 have p:ls.Perm ms:=(List.perm_ext_iff_of_nodup h.nodup h'.nodup).mpr fun l=>⟨h.sub one inj h' l,h'.sub one inj h l⟩
 refine List.Perm.eq_of_pairwise (fun l m hl hm h1 h2=>?_) h.rise h'.rise p
 obtain⟨x,hx,_⟩:=(h.cyc l hl).toPath.begin
 obtain⟨y,hy,_⟩:=(h'.cyc m hm).toPath.begin
 exact absurd (h1 x y hx hy) (Nat.lt_asymm (h2 y x hy hx))
end
end K15
end
section
namespace L2
open PySem PySem.Spec PyProof.Rows
def fM (J:It) (g:TG) (tt:TT) (tk tv:TE) (D:Addr) (σ':St) (H1:Hp) (Q:Hp→Prop):Prop:=
 ∃W:Nat→Nat→St→Hp→Prop,(∃m,W 0 m σ' (upd H1 D (.dK [])))∧∀i m σ H,W i m σ H →
  (J.stop i H∧Q H)∨(J.go i H∧∃N:St→Hp→Prop,(∀σ' H',N σ' H'→∃m',m' < m∧W (i+1) m' σ' H')∧∀x H',J.yld i H x H'→g x σ H' fun σ2 H2=>tt σ2 H2 fun b H3=>
   if b=true then tk σ2 H3 fun k H4=>tv σ2 H4 fun y H5=>∃kvs kk,H5 D=some (.dK kvs)∧k=kV kk∧kvs.length < sizeLine∧N σ2 (upd H5 D (.dK (putK kvs kk y))) else N σ2 H3)
def uq (wi:TI) (g:TG) (tt:TT) (tk tv:TE) (fr:List (Option Nat)):TE:=fun σ H Q=>wi σ H fun J H1=>∀D,H1 D=none→fM J g tt tk tv D (eu fr σ) H1 fun H2=>Q (.ref D) H2
theorem mZ {P:Program} {w:World} {A:Around} {kx vx target iter:Expr} {ifs:List Expr} {scope:Scope} {pos:Pos} {it:Value} {D:Addr} {env:Env} {R:Result→Shared→Prop} {s:Shared} (I:Nat→Shared→Prop)
  (turn:∀n s,I n s→wpAny (model P w) A (pyNext it) (fun r s1=>match r with
   |none=>R (.ok .next) s1
   |some v=>wpAny (model P w) A (letOwnedTupleGo target it v) (fun _ s1'=>wpAny (model P w) A (assign target env v) (fun _ s2=>
     wpAny (model P w) A (forIn ifs true fun c r=>if r=true then do let ok ←isTrue c env (eval c env);pure (ForInStep.yield ok) else pure (ForInStep.yield r)) (fun ok s3=>
      if ok=true then wpAny (model P w) A (eval kx env) (fun k s4=>wpAny (model P w) A (eval vx env) (fun x s5=>
       wpAny (model P w) A (dictSet D k x) (fun _ s6=>∃m,m < n∧I m s6) (fun _ _=>False) s5) (fun _ _=>False) s4) (fun _ _=>False) s3
      else ∃m,m < n∧I m s3) (fun _ _=>False) s2) (fun _ _=>False) s1') (fun _ _=>False) s1) (fun _ _=>False) s)
  (n:Nat) (h:I n s) :
  codeAny (model P w) A (.compLoop (.DictComp kx vx [⟨target,iter,ifs,0⟩] scope pos) 0 it (.ref D) env) R s:=by
 have no:∀(e:Value) (t:Shared),False→notedBy (model P w) A env (fun e s'=>R (.error e) s') e t:=fun _ _ z=>z.elim
 refine codeAny_loop rfl I (fun n s hI=>?_) n h
 refine wpAny_noted ?_
 rw[compTurn_dict]
 refine wpAny_bind (wpAny_standAt (wpAny_bind (wpAny_mono (turn n s hI) (fun r s1 h1=>?_) no)))
 cases r with
 |none=>exact wpAny_pure h1
 |some v=>
  refine wpAny_bind (wpAny_mono h1 (fun _ s1' h1'=>?_) no)
  refine wpAny_bind (wpAny_mono h1' (fun _ s2 h2=>wpAny_bind (wpAny_mono h2 (fun ok s3 h3=>?_) no)) no)
  cases ok with
  |false=>exact wpAny_pure ⟨rfl,h3⟩
  |true=>
   exact wpAny_bind (wpAny_bind (wpAny_mono h3 (fun k s4 h4=>wpAny_bind (wpAny_holding (wpAny_mono h4 (fun x s5 h5=>wpAny_bind (wpAny_standAt (wpAny_holding (wpAny_mono h5 (fun _ s6 h6=>wpAny_pure ⟨rfl,h6⟩) no)))) no))) no))
theorem jp {X:Cx} {pins:List (Addr × Obj)} {σ:St} {d:Addr} {E:Value→Shared→Prop} {A:Around} {H:Hp} {s:Shared} {kvs:List (Key × V)} {k:Key} {v:V} {u r:Value} {Q:Unit→Shared→Prop} (I:Inv X pins σ H s) (e:H d=some (.dK kvs)) (ry:RelV (kV k) u) (l:kvs.length < sizeLine) (rv:RelV v r)
  (h:∀s',Inv X pins σ (upd H d (.dK (putK kvs k v))) s'→Q () s'):wpAny (model X.prog X.w) A (dictSet d u r) Q E s:=by
 obtain⟨z,hd,vs,rel,dd⟩:=jo I.hok e
 have hz:vs.length≤sizeLine:=by rw[←rel.length];exact z
 have hl:(putK kvs k v).length≤sizeLine:=by have:=cq kvs k v;omega
 refine wpAny_dictSet_pairs (hsz:=hz) (fg ry) dd fun h' dd' hs=>h _ ?_
 have he:∃q,h'.get? d=some q:=let ⟨q,_,_,hq,_⟩:=dd';⟨q,hq⟩
 exact eZ I (by rw[e];exact True.intro) hs he (gF hl hd (rel.put k rv) dd')
section
variable {X:Cx} {pins:List (Addr × Obj)} {σ:St} {H:Hp} {s:Shared} {N:List Str} {fr:List (Option Nat)} {scope:Scope} {fp:List Addr}
theorem pf {kx vx target iter:Expr} {ifs:List Expr} {pos:Pos} {it D:Addr} {tn:Nat→Heap→Prop} {J:It} {g:TG} {tt:TT} {tk tv:TE} {R:Result→Shared→Prop} {s1:Shared} {σ1:St} {H1:Hp} {Q:Hp→Prop}
  {Y:Cx} (hY:Y.xe=fun _ _=>False) (hc:Y.calm=true) (I:Inv Y [] σ1 (upd H1 D (.dK [])) s1) (T:Turn Y.prog Y.w Y.K target J fp it tn) (ht:tn 0 s1.heap) (hf:∀b∈fp,FpOk Y [] (upd H1 D (.dK [])) b)
  (hg:PG Y target g) (hi:PIf Y ifs tt) (hk:PE Y kx tk) (hv:PE Y vx tv) (h:fM J g tt tk tv D σ1 H1 Q) (hR:∀s' σ' H',Inv Y [] σ' H' s'→Q H'→R (.ok .next) s') :
  codeAny (model Y.prog Y.w) Y.A (.compLoop (.DictComp kx vx [⟨target,iter,ifs,0⟩] scope pos) 0 (.ref it) (.ref D) Y.env) R s1:=by
 obtain⟨W,⟨m0,w0⟩,turn⟩:=h
 have stat:∀{H':Hp},(∀b∈fp,H' b=none)→∀b∈fp,FpOk Y [] H' b:=fun hn b hb=>⟨hn b hb,(hf b hb).2⟩
 refine mZ (fun n s'=>∃i σ' H',Inv Y [] σ' H' s'∧tn i s'.heap∧(∀b∈fp,H' b=none)∧W i n σ' H') ?_ m0 ⟨0,σ1,_,I,ht,fun b hb=>(hf b hb).1,w0⟩
 rintro n s3 ⟨i,σ3,H3,I3,st3,fr3,w3⟩
 have back:∀{α:Type} {t:Sem α} {Q:α→Shared→Prop} {s:Shared},wpAny (model Y.prog Y.w) Y.A t Q Y.xe s→wpAny (model Y.prog Y.w) Y.A t Q (fun _ _=>False) s:=fun h=>by rw[hY] at h;exact h
 rcases turn i n σ3 H3 w3 with ⟨stop,qn⟩|⟨go,N',hN',step⟩
 ·refine thn (T.done Y rfl rfl rfl hc i [] s3 σ3 H3 _ I3 (stat fr3) st3 stop) fun r s4 ⟨hr,I4⟩=>?_
  subst hr
  exact hR s4 σ3 H3 I4 qn
 ·refine thn (T.item Y rfl rfl rfl hc i [] s3 σ3 H3 _ I3 (stat fr3) st3 go) fun r s4 ⟨u,hr,h4⟩=>?_
  subst hr
  refine thn h4 fun _ s5 ⟨x,H5,I5,r5,y5,st5,fr5⟩=>?_
  have I5':=I5.pinned (stat fr5) (T.obj _ _ st5)
  rw[List.nil_append] at I5'
  refine thn (back (hg _ s5 σ3 H5 x u _ I5' r5 (step x H5 y5))) fun _ s6 ⟨σ6,H6,I6,q6⟩=>?_
  refine thn (back (hi _ s6 σ6 H6 _ I6 q6)) fun b s7 ⟨H7,I7,q7⟩=>?_
  have again:∀{σ7:St} {H7:Hp} {s7:Shared},Inv Y (gv fp s5.heap) σ7 H7 s7→(∃m',m' < n∧W (i+1) m' σ7 H7)→∃m,m < n∧∃i σ' H',Inv Y [] σ' H' s7∧tn i s7.heap∧(∀b∈fp,H' b=none)∧W i m σ' H':=fun {σ7 H7 s7} I7 ⟨m',hm,w7⟩=>by
   refine⟨m',hm,i+1,σ7,H7,I7.pins_of (fun p hp=>by simp at hp),T.keep _ _ _ st5 fun b hb o e=>(I7.pin (b,o) (List.mem_append_right _ (ck hb e))).1,fun b hb=>?_,w7⟩
   obtain⟨o,e,d⟩:=T.obj _ _ st5 b hb
   exact (I7.pin (b,o) (List.mem_append_right _ (ck hb e))).2.1
  cases b with
  |false=>
   rw[if_neg Bool.false_ne_true] at q7
   rw[if_neg Bool.false_ne_true]
   exact again I7 (hN' _ _ q7)
  |true=>
   rw[if_pos rfl] at q7
   rw[if_pos rfl]
   refine thn (back (hk _ s7 σ6 H7 _ I7 q7)) fun k s8 ⟨yk,H8,I8,r8,q8⟩=>?_
   refine thn (back (hv _ s8 σ6 H8 _ I8 q8)) fun v s9 ⟨y,H9,I9,r9,kvs,kk,hD,ek,hl,q9⟩=>?_
   subst ek
   exact back (jp I9 hD r8 hl r9 fun s' I'=>again I' (hN' _ _ q9))
end
section
variable {X:Cx} {N:List Str} {fr:List (Option Nat)} {scope:Scope} {kx vx tg iter:Expr} {ifs:List Expr} {pos:Pos} {wi:TI} {g:TG} {tt:TT} {tk tv:TE}
def rE (X:Cx) (N:List Str) (scope:Scope) (tg:Expr) (ifs:List Expr) (kx vx:Expr) (g:TG) (tt:TT) (tk tv:TE):Prop:=
 ∀(C:Addr) (s:Shared) (H:Hp) (fp:List Addr) (pins:List (Addr × Obj)),PG (cC X N scope C s H fp pins) tg g∧PIf (cC X N scope C s H fp pins) ifs tt∧PE (cC X N scope C s H fp pins) kx tk∧PE (cC X N scope C s H fp pins) vx tv
theorem lI {pins:List (Addr × Obj)} {σ:St} {s:Shared} {itv:Value} {Z:Value→Addr→Result→Shared→Prop} {QQ:Addr→Hp→Prop} {E:Value→Shared→Prop} (S:bh X N fr scope) (hc:X.calm=true)
  (hb:rE X N scope tg ifs kx vx g tt tk tv) (h2:PIE X pins σ tg (fun J H1=>∀D,H1 D=none→fM J g tt tk tv D (eu fr σ) H1 (QQ D)) itv s)
  (hZ:∀D C s' H',Inv X pins σ H' s'→FpOk X pins H' C→(∃m,s'.heap.Ns C m)→QQ D H'→Z (.ref D) C (.ok .next) s') :
  wpAny (model X.prog X.w) X.A newDict (fun acc s3=>wpAny (model X.prog X.w) X.A (newFunctionEnv scope X.env.globals (clGo X.env scope.names []) [] X.env.qual none .none (some X.env)) (fun cenv s4=>
   codeAny (model X.prog X.w) X.A (.compStart (.DictComp kx vx [⟨tg,iter,ifs,0⟩] scope pos) 0 itv acc {cenv with scope:=relabel scope X.env}) (Z acc cenv.locals) s4) E s3) E s:=by
 obtain⟨it,fp,tn,J,H1,e,I2,T,st2,f2,q⟩:=h2
 subst e
 have hD:H1 s.heap.objs.size=none:=I2.hok.fresh (Nat.le_refl _)
 have old:∀b∈fp,b < s.heap.objs.size:=fun b hb=>by
  obtain⟨o,e,_⟩:=T.obj _ _ st2 b hb
  exact Heap.lt_size e
 refine wpAny_newObj_type (wpAny_newFunctionEnv S.nocell (by intro y hy;simp at hy) (fun h1 hns hsb=>?_) S.kind)
 dsimp only at hns hsb ⊢
 have I3:Inv X pins σ (upd H1 s.heap.objs.size (.dK [])) {s with heap:=s.heap.push {cls:=.type "dict",data:=.dict #[]}}:=by
  refine I2.laid (t':=s.toks) (fun b u e=>Heap.get?_push_of_some _ e) (Nat.le_refl _) ?_
  exact iL s.heap I2.big
 have f3:∀b∈fp,FpOk X pins (upd H1 s.heap.objs.size (.dK [])) b:=fun b hb=>⟨by rw[au (Nat.ne_of_lt (old b hb))];exact (f2 b hb).1,(f2 b hb).2⟩
 have hsz:(s.heap.push {cls:=.type "dict",data:=.dict #[]}).objs.size=s.heap.objs.size+1:=Heap.size_push ..
 have I4:=iN (C:=(s.heap.push {cls:=.type "dict",data:=.dict #[]}).objs.size) (h1:=h1) (t:=s.toks+([]:List (Str × Value)).length) (fp:=fp) S I3 f3 (Nat.le_refl _)
  (fun b hb=>by rw[hsz];exact Nat.ne_of_lt (Nat.lt_succ_of_lt (old b hb))) hns fun b o e=>hsb.extBut b o (Nat.ne_of_lt (Heap.lt_size e)) (Heap.get?_push_of_some _ e)
 have st4:tn 0 h1:=T.keep _ _ _ st2 fun b hb o e=>by
  have e1:=Heap.get?_push_of_some {cls:=.type "dict",data:=.dict #[]} e
  exact hsb.extBut b o (Nat.ne_of_lt (Heap.lt_size e1)) (Heap.get?_push_of_some _ e1)
 have f4:∀b∈fp,FpOk (cC X N scope (s.heap.push {cls:=.type "dict",data:=.dict #[]}).objs.size {s with heap:=s.heap.push {cls:=.type "dict",data:=.dict #[]}} (upd H1 s.heap.objs.size (.dK [])) fp pins) [] (upd H1 s.heap.objs.size (.dK [])) b:=fun b hb=>by
  refine⟨(f3 b hb).1,(I4.ok.exf b hb).1,I4.ok.exfs b hb,.inl hb,(I4.ok.exf b hb).2,fun p hp=>?_⟩
  have hp:p∈(X.pn++pins)++[]:=hp
  rw[List.append_nil] at hp
  exact (f3 b hb).2.2.2.2.2 p hp
 obtain⟨b1,b2,b3,b4⟩:=hb (s.heap.push {cls:=.type "dict",data:=.dict #[]}).objs.size {s with heap:=s.heap.push {cls:=.type "dict",data:=.dict #[]}} (upd H1 s.heap.objs.size (.dK [])) fp pins
 have run:=pf (Y:=cC X N scope (s.heap.push {cls:=.type "dict",data:=.dict #[]}).objs.size {s with heap:=s.heap.push {cls:=.type "dict",data:=.dict #[]}} (upd H1 s.heap.objs.size (.dK [])) fp pins) (kx:=kx) (vx:=vx) (iter:=iter) (pos:=pos) (scope:=scope) (R:=Z (.ref s.heap.objs.size) (s.heap.push {cls:=.type "dict",data:=.dict #[]}).objs.size) rfl hc I4 T st4 f4 b1 b2 b3 b4 (q _ hD) fun s' σ' H' I' q'=>by
  obtain⟨J1,F1⟩:=lH I3 f3 (Nat.le_refl _) I'
  obtain⟨m,hm,_⟩:=I'.loc
  exact hZ _ _ s' H' J1 F1 ⟨m,hm⟩ q'
 exact codeAny_compStart_dict run (T.self _ 0 _ _ _ st4 run)
theorem kU (S:bh X N fr scope) (hc:X.calm=true) (hi:PI X tg iter wi) (hb:rE X N scope tg ifs kx vx g tt tk tv)
  (hs:∀x,foldedSetIterable iter X.env x=pure x:=by intro _;rfl):PE X (.DictComp kx vx [⟨tg,iter,ifs,0⟩] scope pos) (uq wi g tt tk tv fr):=by
 intro pins s σ H Q I h
 rw[arm_eval_DictComp]
 refine wpAny_comprehension_free (use:=none) rfl hs (fI (S.cells I.ok)) S.kind S.names (thn (hi pins s σ H _ I h) fun v s1 h1=>thn h1 fun itv s2 h2=>?_)
 refine lI (QQ:=fun D H2=>Q (.ref D) H2) (Z:=fun acc C=>compPost (model X.prog X.w) X.A X.xe none (EP X pins σ Q) acc C) S hc hb h2 fun D C s' H' J F hm q=>?_
 obtain⟨m,hm⟩:=hm
 refine⟨m,hm,fun h' hs'=>⟨.ref D,H',?_,rfl,q⟩⟩
 exact J.turned (t':=s'.toks) (fun b o hb e=>hs'.extBut b o hb e) F.1 F.2.1 F.2.2.2.1 F.2.2.2.2.1 F.2.2.2.2.2
end
section
variable {K:W.Frag} {a D:Addr} {xs:List V} {g:TG} {tt:TT} {tk tv:TE} {σ':St} {H1:Hp} {Q:Hp→Prop}
theorem m6 (Pv:Nat→St→Hp→Prop) (h0:Pv 0 σ' (upd H1 D (.dK []))) (hl:∀i σ H,i≤xs.length→Pv i σ H→SqL K H a xs)
  (hs:∀i x σ H,xs[i]? = some x→Pv i σ H→g x σ H fun σ2 H2=>tt σ2 H2 fun b H3=>
   if b=true then tk σ2 H3 fun k H4=>tv σ2 H4 fun y H5=>∃kvs kk,H5 D=some (.dK kvs)∧k=kV kk∧kvs.length < sizeLine∧Pv (i+1) σ2 (upd H5 D (.dK (putK kvs kk y))) else Pv (i+1) σ2 H3)
  (hd:∀σ H,Pv xs.length σ H→Q H):fM (Itl K a) g tt tk tv D σ' H1 Q:=by
 refine⟨fun i m σ H=>m=xs.length - i∧i≤xs.length∧Pv i σ H,⟨xs.length,by simp,Nat.zero_le _,h0⟩,?_⟩
 rintro i m σ H ⟨rfl,hi,p⟩
 have q:=hl i σ H hi p
 by_cases hlt:i < xs.length
 ·refine .inr ⟨⟨xs,xs[i],q,by simp[hlt]⟩,Pv (i+1),fun σ' H' p'=>⟨xs.length - (i+1),by omega,rfl,hlt,p'⟩,fun x H' y=>?_⟩
  obtain⟨e,y⟩:=y
  subst e
  exact hs i x σ _ (y xs q) p
 ·have e:i=xs.length:=by omega
  subst e
  exact .inl ⟨⟨xs,q,Nat.le_refl _⟩,hd σ H p⟩
end
section
variable {d D:Addr} {o:Obj} {u:HO} {ks vs:List V} {g:TG} {tt:TT} {tk tv:TE} {σ':St} {H1:Hp} {Q:Hp→Prop}
theorem m7 (Pv:Nat→St→Hp→Prop) (h0:Pv 0 σ' (upd H1 D (.dK []))) (hl:∀i σ H,i≤ks.length→Pv i σ H→H d=some (.frz o u))
  (hs:∀i x σ H,ks[i]? = some x→Pv i σ H→g x σ H fun σ2 H2=>tt σ2 H2 fun b H3=>
   if b=true then tk σ2 H3 fun k H4=>tv σ2 H4 fun y H5=>∃kvs kk,H5 D=some (.dK kvs)∧k=kV kk∧kvs.length < sizeLine∧Pv (i+1) σ2 (upd H5 D (.dK (putK kvs kk y))) else Pv (i+1) σ2 H3)
  (hd:∀σ H,Pv ks.length σ H→Q H):fM (Itk d o ks) g tt tk tv D σ' H1 Q:=by
 refine⟨fun i m σ H=>m=ks.length - i∧i≤ks.length∧Pv i σ H,⟨ks.length,by simp,Nat.zero_le _,h0⟩,?_⟩
 rintro i m σ H ⟨rfl,hi,p⟩
 have q:=hl i σ H hi p
 by_cases hlt:i < ks.length
 ·refine .inr ⟨⟨hlt,u,q⟩,Pv (i+1),fun σ' H' p'=>⟨ks.length - (i+1),by omega,rfl,hlt,p'⟩,fun x H' y=>?_⟩
  obtain⟨e,y⟩:=y
  subst e
  exact hs i x σ _ y p
 ·have e:i=ks.length:=by omega
  subst e
  exact .inl ⟨⟨Nat.le_refl _,u,q⟩,hd σ H p⟩
end
end L2
end
section
namespace L2
open PySem PySem.Spec PyProof.Rows
theorem lB:typeLookup (.type "list") "keys" = pure none:=am_miss_of_fast (by kernel_rfl)
theorem sU {prog:Program} {w:World} {A:Around} {E:Value→Shared→Prop} {s:Shared} {a:Addr} {xs:Array Value} {k:Nat} {sl:Array (Option Value)} {Q:Option Value→Shared→Prop}
  (hx:s.heap.get? a=some {cls:=.type "list",dict:=none,data:=.seq xs k,slots:=sl}) (hA:A.handled=none)
  (q:∀h' tk,(∀b ob,s.heap.get? b=some ob→h'.get? b=some ob)→Q none {s with heap:=h',toks:=tk}):wpAny (model prog w) A (getAttr? (.ref a) "keys") Q E s:=by
 obtain⟨hp,g,d,tk,os⟩:=s
 have ty:∀tk',(⟨hp,g,d,tk',os⟩:Shared).TypeIs (.ref a) "list":=fun _=>⟨_,hx,rfl⟩
 have g1:=sub_AttributeError
 have g2:=PySem.F.slot_list_getattribute.lookup
 have g3:=PySem.F.slot_list_getattribute.bind (.ref a)
 have g4:=am_list_getattr_none
 unfold getAttr? getAttrBy? getAttrBy
 repeat (any_goals (first|assumption|exact ty _|((with_reducible show wpAny _ _ (call (Value.builtin "list.__getattribute__") _ _) _ _ _);refine PySem.call_meets PySem.F.slot_list_getattribute (ty _) am_entry_list_getattribute (PySem.F.args_list_getattribute_2 _ _) (meets_getattribute_miss_list a xs k sl "keys" _ lB (by decide +kernel)) ⟨hx,hA,fun h' tk' e ne=>?_⟩)|wp_step))
 obtain⟨t',u',at_e⟩:=ne.there
 show wpAny _ _ (getattributeRaised _ _ _ _ _ _ _) _ _ _
 unfold getattributeRaised
 repeat (any_goals (first|assumption|wp_step))
 exact q _ _ ne.keeps
theorem fh:entryFor table "dict.update.loop" = some Builtin.«dict.update.loop»:=entryFor_of_tree (by kernel_rfl)
theorem cS:plainId "dict.update.loop" = true:=by decide +kernel
section
variable {X:Cx}
def f_ (H:Hp) (ys:List V) (ps:List (Key × V)):Prop:=Paired (fun y p=>∃b,y=V.ref b∧H b=some (.tup [kV p.1,p.2])) ys ps
theorem f_.get {H:Hp}:∀{ys:List V} {ps:List (Key × V)} {i:Nat} {p:Key × V},f_ H ys ps→ps[i]? = some p→∃b,ys[i]? = some (.ref b)∧H b=some (.tup [kV p.1,p.2])
 |_,_,_,_,.nil,e=>by simp at e
 |_,_,0,_,.cons ⟨b,e1,e2⟩ _,e=>by simp at e;subst e e1;exact⟨b,rfl,e2⟩
 |_,_,i+1,p,.cons _ t,e=>by
  obtain⟨b,h1,h2⟩:=f_.get (i:=i) (p:=p) t (by simpa using e)
  exact⟨b,by simpa using h1,h2⟩
theorem f_.len {H:Hp}:∀{ys:List V} {ps:List (Key × V)},f_ H ys ps→ys.length=ps.length
 |_,_,.nil=>rfl
 |_,_,.cons _ t=>by simp[f_.len t]
def eG (kvs:List (Key × V)) (ps:List (Key × V)):List (Key × V):=ps.foldl (fun d p=>putK d p.1 p.2) kvs
theorem my {pins:List (Addr × Obj)} {σ:St} {H:Hp} {a D it:Addr} {ys:List V} {ps:List (Key × V)} {A:Around} (hc:A.handled=none) (hD:H D=none) (hq:SqL X.K H a ys) (hp:f_ H ys ps) (hz:ps.length < sizeLine)
  {R:Result→Shared→Prop} (hR:∀s',Inv X pins σ (upd H D (.dK (eG [] ps))) s'→R (.ok (.ret .none)) s') :
  ∀(k i:Nat) (kvs:List (Key × V)) (s:Shared),ps.length - i=k→i≤ps.length→kvs.length≤i→eG kvs (ps.drop i)=eG [] ps→Inv X pins σ (upd H D (.dK kvs)) s→s.heap.IsListIter it a i→FpOk X pins (upd H D (.dK kvs)) it →
   codeAny (model X.prog X.w) A (.builtin "dict.update.loop" ⟨[.ref D,.ref it,rawInt i,.none],[]⟩) R s:=by
 have sq:∀kvs,SqL X.K (upd H D (.dK kvs)) a ys:=fun kvs=>by
  rcases hq with (e|⟨o,e⟩)|h
  ·exact .inl (.inl (by rw[au (ag e hD)];exact e))
  ·exact .inl (.inr ⟨o,by rw[au (ag e hD)];exact e⟩)
  ·exact .inr h
 intro k
 induction k with
 |zero=>
  intro i kvs s hk hi _ hput I st hf
  have hin:i=ps.length:=by omega
  subst hin
  refine codeAny_builtin fh ?_
  rw[Around.under_plainId cS _]
  obtain⟨its,rv,p,hz'⟩:=I.list (sq kvs)
  obtain⟨f0,f1,f2,f3,f4,f5⟩:=hf
  have hl:=rv.length
  have hl2:=hp.len
  show wpAny _ A.in1 (pyNext (.ref it) >>= _) _ _ s
  refine wpAny_bind (wpAny_pyNext_list_end hc st p.isList (by simp;omega) fun h' eb=>?_)
  rw[List.drop_length] at hput
  have hput:kvs=eG [] ps:=hput
  subst hput
  show wpAny _ A.in1 (Builtin.Dict.addKeywords D [] >>= _) _ _ _
  exact wpAny_bind (wpAny_pure (wpAny_pure (hR _ (I.turned (t':=s.toks) (fun b o hb e=>eb b o hb e) f0 f1 f3 f4 f5))))
 |succ k ih=>
  intro i kvs s hk hi hkl hput I st hf
  have hlt:i < ps.length:=by omega
  refine codeAny_builtin fh ?_
  rw[Around.under_plainId cS _]
  obtain⟨its,rv,p,hz'⟩:=I.list (sq kvs)
  obtain⟨b,hb1,hb2⟩:=hp.get (i:=i) (p:=ps[i]) (by simp[hlt])
  obtain⟨u,hu,ru⟩:=rv.get hb1
  cases ru
  obtain⟨f0,f1,f2,f3,f4,f5⟩:=id hf
  show wpAny _ A.in1 (pyNext (.ref it) >>= _) _ _ s
  refine wpAny_bind (wpAny_pyNext_list_item st p.isList (x:=.ref b) (by simpa using hu) fun h' st' sb=>?_)
  have I1:Inv X pins σ (upd H D (.dK kvs)) {s with heap:=h'}:=I.turned (t':=s.toks) (fun b o hb e=>(sb.2 b hb).trans e) f0 f1 f3 f4 f5
  have hbD:upd H D (.dK kvs) b=some (.tup [kV (ps[i]).1,(ps[i]).2]):=by rw[au (ag hb2 hD)];exact hb2
  obtain⟨vs,rvs,⟨ot,p1,p2,n,p3⟩,_⟩:=I1.tuple (SqT.of hbD)
  have hvs:∃v1 v2,vs=[v1,v2]∧RelV (kV (ps[i]).1) v1∧RelV (ps[i]).2 v2:=by
   cases rvs with
   |cons r1 rr=>cases rr with
    |cons r2 rr=>cases rr;exact⟨_,_,rfl,r1,r2⟩
  obtain⟨v1,v2,rfl,r1,r2⟩:=hvs
  refine wpAny_bind (wpAny_holding (wpAny_bind ?_))
  refine wpAny_tryCatch ?_
  unfold Builtin.Dict.pairItems
  refine wpAny_bind (wpAny_typeOf ⟨_,p1,p2⟩ ?_)
  rw[if_pos (by decide)]
  unfold seqItems?
  refine wpAny_bind (wpAny_bind (wpAny_load p1 ?_))
  rw[p3]
  refine wpAny_pure (wpAny_pure ?_)
  show wpAny _ _ (holding [v1,v2] (dictSet D v1 v2)) _ _ _
  have ob:∀c∈[it],∃o,h'.get? c=some o∧∀v,o.data≠.cell v:=fun c hc'=>by
   have e:c=it:=by simpa using hc'
   subst e
   obtain⟨o,e,c1,d⟩:=st'
   exact⟨o,e,fun v z=>by rw[d] at z;cases z⟩
  have I2:=I1.pinned (fp:=[it]) (fun c hc'=>by rw[List.mem_singleton.mp hc'];exact hf) ob
  refine wpAny_holding (jp I2 al r1 (by omega) r2 fun s' I'=>?_)
  rw[cv] at I'
  have J:=I'.pins_of (pins':=pins) fun q hq=>I'.pin q (List.mem_append_right _ (List.mem_append_left _ hq))
  have st2:s'.heap.IsListIter it a (i+1):=st'.at fun o e=>(I'.pin (it,o) (List.mem_append_right _ (List.mem_append_right _ (ck (by simp) e)))).1
  have hl:=cq kvs (ps[i]).1 (ps[i]).2
  have hc1:((i:Int)+1)=((i+1:Nat):Int):=by push_cast;rfl
  refine wpAny_pure ⟨plainId_quiet cS _,?_⟩
  rw[hc1]
  refine ih (i+1) _ s' (by omega) (by omega) (by omega) ?_ J st2 ⟨?_,f1,f2,f3,f4,f5⟩
  ·rw[←hput,List.drop_eq_getElem_cons hlt];rfl
  ·have:it≠D:=fun z=>by rw[z,al] at f0;cases f0
   rw[au this] at f0 ⊢
   exact f0
def pQ (K:W.Frag):List V→Hp→VK→Prop:=fun xs H Q=>∃(a:Addr) (ys:List V) (ps:List (Key × V)),xs=[.ref a]∧H a=some (.lst ys)∧f_ H ys ps∧ps.length < sizeLine∧∀p,H p=none→Q (.ref p) (upd H p (.dK (eG [] ps)))
theorem i7 (hh:X.A.handled=none):bM X (.type "dict") (pQ X.K):=by
 intro pins s σ H xs us Q I r h
 obtain⟨a,ys,ps,rfl,ha,hp,hz,q⟩:=h
 obtain⟨u,rfl,ru⟩:=Vals.one r
 cases ru
 obtain⟨z,its,n,rv,ea⟩:=I.hok _ _ ha
 have hD:H s.heap.objs.size=none:=I.hok.fresh (Nat.le_refl _)
 refine callType_codes (Q₁:=fun obj s₁=>obj=.ref s.heap.objs.size∧s₁={s with heap:=s.heap.push {cls:=.type "dict",data:=.dict #[]}}) PySem.F.kt_called_dict (PySem.F.kt_typeCall_dict_1 _) PySem.F.entry_dict_init (kt_code_dict_new _ ⟨rfl,rfl⟩) ?_
 rintro obj s₁ ⟨rfl,rfl⟩
 have I3:Inv X pins σ (upd H s.heap.objs.size (.dK [])) {s with heap:=s.heap.push {cls:=.type "dict",data:=.dict #[]}}:=by
  refine I.laid (t':=s.toks) (fun b u e=>Heap.get?_push_of_some _ e) (Nat.le_refl _) ?_
  exact iL s.heap I.big
 have tD:({s with heap:=s.heap.push {cls:=.type "dict",data:=.dict #[]}}:Shared).TypeIs (.ref s.heap.objs.size) "dict":=⟨_,Heap.get?_push_size _ rfl,rfl⟩
 have ea1:=Heap.get?_push_of_some ({cls:=.type "dict",data:=.dict #[]}:Obj) ea
 refine⟨tD,PySem.F.args_dict_init_2 _ _,?_⟩
 unfold Builtin.«dict.__init__» Builtin.Dict.selfAndRest
 refine wpAny_bind (wpAny_bind (wpAny_notOrdered_dict tD ?_))
 show wpAny _ _ (pure (s.heap.objs.size,[Value.ref a])) _ _ _
 refine wpAny_pure ?_
 show wpAny _ _ (Builtin.Dict.updateFrom "dict.__init__" s.heap.objs.size (.ref a) [] .none) _ _ _
 unfold Builtin.Dict.updateFrom
 refine wpAny_bind (wpAny_typeOf ⟨_,ea1,rfl⟩ ?_)
 rw[if_pos (by decide)]
 refine wpAny_bind (sU ea1 hh fun h2 tk2 k2=>?_)
 have I4:Inv X pins σ (upd H s.heap.objs.size (.dK [])) {s with heap:=h2,toks:=tk2}:=I3.kept k2
 obtain⟨z4,its4,n4,rv4,ea4⟩:=I4.hok _ _ (show upd H s.heap.objs.size (.dK []) a=some (.lst ys) by rw[au (ag ha hD)];exact ha)
 simp only[Option.isNone_none,if_true]
 refine wpAny_bind (wpAny_rule ?_)
 refine wpAny_bind (wpAny_pyIter_list (l:=a) ⟨_,ea4,rfl,n4,rfl⟩ ?_)
 have I5:Inv X pins σ (upd H s.heap.objs.size (.dK [])) {s with heap:=h2.push {cls:=.type "list_iterator",data:=.fields #[.ref a,rawInt 0]},toks:=tk2}:=I4.kept (t':=tk2) fun b o e=>Heap.get?_push_of_some _ e
 refine wpAny_pure ⟨plainId_quiet cS _,?_⟩
 refine my (X:=X) (A:=X.A.in1) (R:=wants (fun r s₂=>r=.none∧EP X pins σ Q (.ref s.heap.objs.size) s₂) X.xe) hh hD (.inl (.inl ha)) hp hz (fun s' I'=>⟨rfl,.ref s.heap.objs.size,_,I',rfl,q _ hD⟩) _ 0 [] _ rfl (Nat.zero_le _) (Nat.le_refl _) rfl I5 ⟨_,Heap.get?_push_size _ rfl,rfl,rfl⟩ ?_
 exact I4.fpOk (Nat.le_refl _) (I4.hok.fresh (Nat.le_refl _))
end
end L2
end
section
namespace L2
open PySem PySem.Spec PyProof.Rows
section
variable {X:Cx}
def sr:V→List V→Hp→VK→Prop:=fun x xs H Q=>∃(d o:Addr) (kvs more:List (Key × V)),x=.ref d∧xs=[.ref o]∧d≠o∧H d=some (.dK kvs)∧Rd H o (.dK more)∧kvs.length+more.length≤sizeLine∧Q .non (upd H d (.dK (gB kvs more)))
theorem oO:MtM X "dict.update" sr:=by
 intro pins s σ H x xs v us Q I rx rs h
 obtain⟨d,o,kvs,more,rfl,rfl,hne,hd,ho,hz,q⟩:=h
 cases rx
 obtain⟨u1,rfl,r1⟩:=rs.one
 cases r1
 obtain⟨z0,lo,vs,rel,dd⟩:=jo I.hok hd
 obtain⟨z1,lo1,ms,rel1,dd1⟩:=cY I.hok ho
 refine call_meetsIn PySem.F.slot_dict_update dd.typeIs PySem.F.entry_dict_update (PySem.F.args_dict_update_2 _ _) (meets_dict_update (aN X.prog X.w) d o hne lo1) ⟨vs,ms,dd,dd1,by rw[←rel.length,←rel1.length];exact hz,fun h' dd' _ hs=>?_⟩
 have he:∃q,h'.get? d=some q:=let ⟨q,_,_,hq,_⟩:=dd';⟨q,hq⟩
 exact⟨.non,_,eZ I (by rw[hd];exact True.intro) hs he (gF (Nat.le_trans (ff _ _) hz) lo (KV.merge rel1 rel) dd'),rfl,q⟩
end
end L2
end
section
namespace K15
open PySem L2 K51 K31
theorem nS {ps:List Nat} {p:Nat} (h:ps[ps.length - 1]? = some p):atI (nV ps) (-1)=some (V.int (p:Int)):=by
 have hl:=(List.getElem?_eq_some_iff.mp h).1
 unfold atI ixN
 rw[aG,if_neg (by decide),if_pos (by omega)]
 show (nV ps)[_]? = _
 rw[show (-1+(ps.length:Int)).toNat=ps.length - 1 by omega]
 exact mJ h
structure Use (P:Program) (w:World) (K:W.Frag) (mg:Str→Option Value) (base:Heap) (n:Nat) (x:Str) (ps:List Str) (sp:Sp) (f:Addr) (fd:FuncData):Prop where
 g:FnOk P w K mg base CX0 n f fd ps sp
 b:Binds K fd ps []
 m:mg x=some (.ref f)
 k:W.keepIn K (.ref f)=true
theorem qx {H:Hp} {l:List Ent} {ks vs:List V} (hk:DKV H (.dT (l.map entV)) ks vs):SdsAt H ks (l.map (·.1)):=by
 rcases hk with ⟨kvs,e,_⟩|⟨kvs,as,e,hp,rfl,_⟩
 ·cases e
 ·cases e
  rename_i hv
  clear hv
  induction l generalizing as with
  |nil=>cases hp;exact .nil
  |cons x l ih=>
   cases hp with
   |cons h t=>exact .cons ⟨_,rfl,h⟩ (ih _ t)
theorem n8 {ts ts':List Tri} (h:(ents ts').Perm (ents ts)) (c:Nat):Co ts' c↔Co ts c:=by
 unfold Co En
 constructor
 ·rintro⟨p,q,h1⟩;exact⟨p,q,h.mem_iff.mp h1⟩
 ·rintro⟨p,q,h1⟩;exact⟨p,q,h.mem_iff.mpr h1⟩
structure kl (R:Nat→Nat→Prop) (l:List (Nat × Nat)):Prop where
 nd:(l.map (·.1)).Nodup
 mem:∀p q,(p,q)∈l↔R p q
theorem kl.key {R:Nat→Nat→Prop} {l:List (Nat × Nat)} (h:kl R l) (p:Nat):p∈l.map (·.1)↔∃q,R p q:=by
 constructor
 ·intro z
  obtain⟨⟨a,b⟩,h1,rfl⟩:=List.mem_map.mp z
  exact⟨b,(h.mem _ _).mp h1⟩
 ·rintro⟨q,hq⟩
  exact List.mem_map.mpr ⟨_,(h.mem _ _).mpr hq,rfl⟩
def gh:Sp:=fun vs H Q _=>∃(d:Addr) (l:List (Nat × Nat)) (R:Nat→Nat→Prop) (s:Nat),vs=[.ref d,.int (s:Int)]∧Rd H d (.dK (l.map nmV))∧l.length≤1000∧(∀a b c,R a c→R b c→a=b)∧kl R l∧s∈l.map (·.1) ∧
 ∀r ps H',H r=none→Same H H'→H' r=some (.lst (nV ps))→ps.length≤1001→Path R ps→ps[0]? = some s→(∀z,ps[ps.length - 1]? = some z→(∀q,¬R z q)∨R z s)→Q (.ref r) H'
def rimL (ts:List Tri) (es:List Ent):List (Nat × Nat):=(es.map (·.1)).filter fun s=>decide ((s.2,s.1)∉(ents ts).map (·.1))
theorem qy {ts:List Tri} {a b:Nat}:(a,b)∈(ents ts).map (·.1)↔∃c,En ts a b c:=by
 constructor
 ·intro h
  obtain⟨⟨⟨x,y⟩,c⟩,h1,h2⟩:=List.mem_map.mp h
  cases h2
  exact⟨c,h1⟩
 ·rintro⟨c,h⟩
  exact List.mem_map.mpr ⟨_,h,rfl⟩
theorem eU {ts:List Tri} {a b:Nat}:RimS (En ts) a b↔Rim ts (a,b):=by
 unfold RimS Rim
 rw[qy,qy]
theorem kK {ts:List Tri} {a b:Nat}:(a,b)∈rimL ts (ents ts)↔RimS (En ts) a b:=by
 unfold rimL
 rw[eU,List.mem_filter,decide_eq_true_eq]
 rfl
theorem pK {ts:List Tri} {es:List Ent} {a b:Nat} (hes:∀e∈es,e∈ents ts) (h:(a,b)∈rimL ts es):RimS (En ts) a b:=by
 unfold rimL at h
 obtain⟨h1,h2⟩:=List.mem_filter.mp h
 obtain⟨e,he,e2⟩:=List.mem_map.mp h1
 exact eU.mpr ⟨List.mem_map.mpr ⟨e,hes e he,e2⟩,of_decide_eq_true h2⟩
theorem nP {R:Nat→Nat→Prop} (one:∀a b c,R a b→R a c→b=c) {l:List (Nat × Nat)} (nd:l.Nodup) (h:∀p∈l,R p.1 p.2):(l.map (·.1)).Nodup:=by
 induction l with
 |nil=>exact List.nodup_nil
 |cons x l ih=>
  rw[List.nodup_cons] at nd
  rw[List.map_cons,List.nodup_cons]
  refine⟨fun z=>?_,ih nd.2 fun p hp=>h p (List.mem_cons_of_mem _ hp)⟩
  obtain⟨y,hy,e⟩:=List.mem_map.mp z
  have h1:=h x List.mem_cons_self
  have h2:=h y (List.mem_cons_of_mem _ hy)
  rw[e] at h2
  have:y=x:=Prod.ext e (one _ _ _ h2 h1)
  rw[this] at hy
  exact nd.1 hy
theorem db {ts:List Tri} (g:Good ts) (o:∀c,Co ts c→One (En ts) c):(∀a b c,RimS (En ts) a b→RimS (En ts) a c→b=c)∧(∀a b c,RimS (En ts) a c→RimS (En ts) b c→a=b)∧(∀a b,RimS (En ts) a b→∃c,RimS (En ts) b c):=by
 have co1:∀{a b},RimS (En ts) a b→Co ts a:=fun⟨⟨q,hq⟩,_⟩=>⟨_,q,hq⟩
 have co2:∀{a b},RimS (En ts) a b→Co ts b:=fun⟨⟨q,hq⟩,_⟩=>⟨q,_,g.sk.rot hq⟩
 exact⟨fun a b c h1 h2=>rZ g.sk (o a (co1 h1)) h1 h2,fun a b c h1 h2=>r_ g.sk (o c (co2 h1)) h1 h2,fun a b h=>pJ g.sk (o b (co2 h)) h⟩
theorem sh {ts:List Tri} (g:Good ts) (o:∀c,Co ts c→One (En ts) c):kl (RimS (En ts)) (rimL ts (ents ts)):=
 ⟨nP (db g o).1 (g.nd.filter _) fun p hp=>kK.mp hp,fun _ _=>kK⟩
theorem kL (ts:List Tri) (es:List Ent):(rimL ts es).length≤es.length:=by
 unfold rimL
 have:=List.length_filter_le (fun s:Nat × Nat=>decide ((s.2,s.1)∉(ents ts).map (·.1))) (es.map (·.1))
 rw[List.length_map] at this
 exact this
def fq (Cs:Addr):Sp:=fun vs H Q _=>∃(x:Addr) (ts:List Tri),vs=[.ref x]∧SkAt Cs H x ts∧Good ts∧(∀c,Co ts c→One (En ts) c)∧ts.length≤200 ∧
 ∀D H',H D=none→Sm H H'→H' D=some (.dK ((rimL ts (ents ts)).map nmV))→Q (.ref D) H'
section
variable {P:Program} {w:World} {K:W.Frag} {mg:Str→Option Value} {base:Heap}
theorem kI:aC ["onward","begin","row"] ["onward","begin"] (af cM):=⟨rfl,rfl,rfl,by decide +kernel,rfl,by decide +kernel,by decide +kernel⟩
theorem mE {f:Addr} {fd:FuncData} (U:Fun K "walked" "walked" cM f fd):FnOk P w K mg base CX0 1 f fd ["onward","begin"] gh:=by
 refine U.ok kI (fun vs H Q E h=>?_) (fun cdv A outer s0 H vs Q E0 hr h=>?_)
 ·obtain⟨d,l,R,s,rfl,_⟩:=h
  rfl
 ·obtain⟨d,l,R,s,rfl,hd,hl,inj,ab,hs,q⟩:=h
  have hu:=b_ hr
  refine⟨_,ae (av (i:=2) kI.nd rfl (Or.inl rfl) (aV (aa (pv 1) ac)))
   (ae (df PassesOwn.never (aF jf (pY hu (pv 0) (bq aL (pv 2) (gJ eC aj) (fun _ _=>rfl)) (pv 1) ⟨rfl,rfl,rfl,rfl⟩) (pv 1) (nomark _))
    (ak (aT (bU PySem.F.plainAttrs_list PySem.F.slot_list_append PySem.F.type_list_append aR (pv 2) (aa (c_ hu (pv 0) (bq aL (pv 2) (gJ eC aj) (fun _ _=>rfl)) (fun _ _=>rfl)) ac)))))
   (ak (aD (pv 2)))),?_⟩
  have hline:=line5000
  have key:∀p,p∈l.map (·.1)↔∃q,R p q:=fun p=>by
   constructor
   ·intro h
    obtain⟨⟨a,b⟩,h1,rfl⟩:=List.mem_map.mp h
    exact⟨b,(ab.mem _ _).mp h1⟩
   ·rintro⟨q,hq⟩
    exact List.mem_map.mpr ⟨_,(ab.mem _ _).mpr hq,rfl⟩
  refine⟨_,rfl,lit1,fun r hr0=>?_⟩
  (generalize z:upd H r _=H1;have s1:=ah hr0 z;have y1:=ai z;clear z)
  refine⟨fun m σ H'=>∃ps:List Nat,σ=[some (.ref d),some (.int (s:Int)),some (.ref r)]∧m=l.length+1 - ps.length∧Same H H'∧H' r=some (.lst (nV ps))∧ps.length≤l.length+1∧ps.Nodup∧ps[0]? = some s∧(∀i p q,ps[i]? = some p→ps[i+1]? = some q→R p q),
   ⟨_,[s],rfl,rfl,s1,y1,by simp,by simp,rfl,fun i p q h1 h2=>by simp at h2⟩,?_⟩
  rintro m σ H' ⟨ps,rfl,rfl,sm,hr',hpl,nd,h0,ch⟩
  have hp0:=(List.getElem?_eq_some_iff.mp h0).1
  obtain⟨z,hz⟩:∃z,ps[ps.length - 1]? = some z:=⟨_,List.getElem?_eq_getElem (by omega)⟩
  have hd':Rd H' d (.dK (l.map nmV)):=(Sm.of sm).rd hd
  have hat:=nS hz
  have hrH:H r=none:=hr0
  refine⟨_,rfl,d,rfl,.inl ⟨_,hd'⟩,_,rfl,_,rfl,r,_,_,_,rfl,rfl,SqL.of hr',hat,_,rfl,_,.inl ⟨_,Sum.inl (z:Int),hd',rfl,rfl⟩,?_⟩
  by_cases hk:z∈l.map (·.1)
  ·obtain⟨i,x,h1,h2,_⟩:=eL hk
   have hx:(z,x)∈l:=List.mem_of_getElem? h1
   have hE:R z x:=(ab.mem _ _).mp hx
   rw[h2]
   refine⟨_,rfl,rfl,_,rfl,?_⟩
   show if (!decide (V.int (x:Int)=V.int (s:Int)))=true then _ else _
   rw[decI]
   by_cases hxs:x=s
   ·subst hxs
    rw[decide_eq_true rfl]
    exact iteF ⟨_,rfl,q r ps H' hrH sm hr' (by omega) ⟨fun z=>by rw[z] at hp0;simp at hp0,nd,ch⟩ h0 fun z' hz'=>.inr (by rw[hz] at hz';cases hz';exact hE)⟩
   ·rw[decide_eq_false (by omega)]
    have hkeys:∀p∈ps,p∈l.map (·.1):=fun p hp=>by
     obtain⟨i,hi⟩:=List.getElem?_of_mem hp
     have hil:=(List.getElem?_eq_some_iff.mp hi).1
     by_cases hl':i+1 < ps.length
     ·exact (key p).mpr ⟨_,ch i p _ hi (List.getElem?_eq_getElem hl')⟩
     ·rw[show i=ps.length - 1 by omega,hz] at hi
      cases hi;exact hk
    have hlen:=cK nd hkeys
    rw[List.length_map] at hlen
    refine iteT ⟨fun σ' H''=>∃ps':List Nat,σ' = [some (.ref d),some (.int (s:Int)),some (.ref r)]∧ps'.length=ps.length+1∧Same H H''∧H'' r=some (.lst (nV ps'))∧ps'.Nodup∧ps'[0]? = some s∧(∀i p q,ps'[i]? = some p→ps'[i+1]? = some q→R p q),
     fun σ' H'' ⟨ps',e,h1,h2,h3,h4,h5,h6⟩=>⟨l.length+1 - ps'.length,by omega,ps',e,rfl,h2,h3,by omega,h4,h5,h6⟩,?_⟩
    refine⟨_,rfl,.inl ⟨rfl,_,SqL.of hr'⟩,_,rfl,_,rfl,_,rfl,r,_,_,_,rfl,rfl,SqL.of hr',hat,d,V.int (x:Int),rfl,.inl ⟨_,Sum.inl (z:Int),hd',rfl,h2.symm⟩,r,_,_,rfl,rfl,hr',by rw[aG];omega,?_⟩
    refine⟨ps++[x],rfl,by rw[List.length_append,List.length_singleton],fun b' o e=>?_,by rw[al,iy,cX],?_,?_,fun i p q' hp hq=>?_⟩
    ·rw[au (ag e hrH)];exact sm _ _ e
    ·rw[List.nodup_append]
     refine⟨nd,by simp,fun a ha b hb=>?_⟩
     rw[List.mem_singleton] at hb
     rintro rfl
     subst hb
     obtain⟨i,hi⟩:=List.getElem?_of_mem ha
     cases i with
     |zero=>rw[h0] at hi;cases hi;exact hxs rfl
     |succ i=>
      have hil:=(List.getElem?_eq_some_iff.mp hi).1
      obtain⟨o,ho⟩:∃o,ps[i]? = some o:=⟨_,List.getElem?_eq_getElem (by omega)⟩
      have:=inj _ _ _ (ch i o a ho hi) hE
      subst this
      have:=cn nd ho hz
      omega
    ·rw[List.getElem?_append_left hp0];exact h0
    ·by_cases hi:i+1 < ps.length
     ·rw[List.getElem?_append_left (by omega)] at hp
      rw[List.getElem?_append_left hi] at hq
      exact ch i p q' hp hq
     ·have hq2:=(List.getElem?_eq_some_iff.mp hq).1
      rw[List.length_append,List.length_singleton] at hq2
      rw[List.getElem?_append_left (by omega),show i=ps.length - 1 by omega,hz] at hp
      rw[List.getElem?_append_right (by omega),show i+1 - ps.length=0 by omega] at hq
      cases hp
      cases hq
      exact hE
  ·rw[lN hk]
   refine⟨_,rfl,rfl,_,rfl,?_⟩
   show if (!decide (V.int (s:Int)=V.int (s:Int)))=true then _ else _
   rw[decI,decide_eq_true rfl]
   exact iteF ⟨_,rfl,q r ps H' hrH sm hr' (by omega) ⟨fun z=>by rw[z] at hp0;simp at hp0,nd,ch⟩ h0 fun z' hz'=>.inl fun q' hq'=>hk ((key z).mpr ⟨q',by rw[hz] at hz';cases hz';exact hq'⟩)⟩
theorem l_:aC ["skin"] ["skin"] (af bz):=⟨rfl,rfl,rfl,by decide +kernel,rfl,by decide +kernel,by decide +kernel⟩
theorem kX {f Cs:Addr} {fd:FuncData} (U:Fun K "rim_steps" "rim_steps" bz f fd) (X:SCls K Cs):FnOk P w K mg base CX0 1 f fd ["skin"] (fq Cs):=by
 refine U.ok l_ (fun vs H Q E h=>?_) (fun cdv A outer s H vs Q E hr h=>?_)
 ·obtain⟨x,ts,rfl,_⟩:=h
  rfl
 ·obtain⟨x,ts,rfl,sk,g,hone,hl,q⟩:=h
  obtain⟨dx,O,R,D0,S,L,hx,hD,_⟩:=id sk
  have hu:=b_ hr
  have hline:=line5000
  refine⟨_,ak (aD (kU (N:=["a","b","skin"]) (fr:=[none,none,some 0]) (g:=gTup K 2 (fT (cF 0) (fT (cF 1) gNil))) (tt:=tB (nh (tTup (dn (tVar 1) (dn (tVar 0) tNil))) (tFld K (tVar 2) "thirds"))) (aJ (by decide +kernel) rfl rfl (by decide +kernel) (by decide +kernel) (by
      intro y hy e
      simp only[List.mem_cons,List.not_mem_nil,or_false] at hy
      rcases hy with rfl|rfl|rfl|rfl
      all_goals first|(cases e;done)|exact .inl rfl) (by
      intro j i y e1 e2
      match j,e1,e2 with
      |0,e1,_=>simp at e1
      |1,e1,_=>simp at e1
      |2,e1,e2=>simp at e1 e2;subst e1 e2;exact⟨rfl,rfl⟩
      |j+3,e1,_=>simp at e1)) rfl (nM (pW (pv 0) rfl))
     (fun C' s' H' fp pins=>⟨bI rfl (aw (aq (i:=0) (show (["a","b","skin"]:List Str).Nodup by decide +kernel) rfl (Or.inl rfl) (.inr rfl)) (aw (aq (i:=1) (show (["a","b","skin"]:List Str).Nodup by decide +kernel) rfl (Or.inl rfl) (.inr rfl)) be)),
      ef (gr (eX hu (aE (aa (pv 1) (aa (pv 0) ac))) (pW (pv 2) rfl))),pv 0,pv 1⟩))),?_⟩
  refine⟨_,rfl,x,Cs,dx,_,_,rfl,hx,X.cl,X.thirds,rfl,D0,_,rfl,hD,True.intro,fun ks vs o H2 hk fz=>?_⟩
  have sd:=qx hk
  have lk:=ax sd
  have sm2:Sm H H2:=fz.sm
  have hx2:=sm2.keep hx (fun z=>z)
  have hfz:=fz.at
  have sd2:SdsAt H2 ks ((ents ts).map (·.1)):=Paired.imp' (fun _ _ ⟨a,e,h⟩=>⟨a,e,sm2.keep h (fun z=>z)⟩) sd
  intro D hDn
  refine m7 (d:=D0) (o:=o) (u:=.dT ((ents ts).map entV)) (ks:=ks) (fun i σ H'=>∃o1 o2,σ=[o1,o2,some (.ref x)]∧Same H2 H'∧H' D=some (.dK ((rimL ts ((ents ts).take i)).map nmV))) ⟨none,none,rfl,ay hDn,al⟩ (fun i σ H' _ ⟨_,_,_,e,_⟩=>e _ _ hfz) ?_ ?_
  ·rintro i y σ H' hi ⟨o1,o2,rfl,sm,hD'⟩
   obtain⟨⟨a,b⟩,hs,c,rfl,hc⟩:=aU sd2 hi
   rw[List.getElem?_map] at hs
   obtain⟨⟨⟨a',b'⟩,w'⟩,he,hh⟩:=Option.map_eq_some_iff.mp hs
   cases hh
   have et:(ents ts).take (i+1)=(ents ts).take i++[((a,b),w')]:=by rw[List.take_add_one,he];rfl
   refine⟨c,_,rfl,SqT.of (sm _ _ hc),rfl,_,_,rfl,_,_,rfl,rfl,?_⟩
   refine⟨_,rfl,_,rfl,lit2,fun t1 g1=>?_⟩
   (generalize z:upd H' t1 _=H3;have s3:=ah g1 z;have y3:=ai z;clear z)
   refine⟨_,rfl,x,Cs,dx,_,_,rfl,s3 _ _ (sm _ _ hx2),X.cl,X.thirds,rfl,D0,_,rfl,.inr ⟨_,ky b a,t1,.inr ⟨o,s3 _ _ (sm _ _ hfz)⟩,rfl,y3,rfl⟩,?_⟩
   have ll:=kL ts ((ents ts).take i)
   have lt:((ents ts).take i).length≤600:=by rw[List.length_take,bu];omega
   by_cases hba:(b,a)∈(ents ts).map (·.1)
   ·have hv:(valV ((ents ts).map entV) (ky b a)).isSome=true:=by
     cases e:valV ((ents ts).map entV) (ky b a) with
     |none=>exact (cu.mp e hba).elim
     |some v=>rfl
    have e1:rimL ts ((ents ts).take (i+1))=rimL ts ((ents ts).take i):=by
     rw[et];unfold rimL
     rw[List.map_append,List.filter_append]
     show _++List.filter _ [(a,b)]=_
     rw[List.filter_cons_of_neg (by simpa using hba)];simp
    refine⟨false,by rw[hv];rfl,iteF ⟨_,_,rfl,sm.trans s3,by rw[e1];exact s3 _ _ hD'⟩⟩
   ·have e1:rimL ts ((ents ts).take (i+1))=rimL ts ((ents ts).take i)++[(a,b)]:=by
     rw[et];unfold rimL
     rw[List.map_append,List.filter_append]
     show _++List.filter _ [(a,b)]=_
     rw[List.filter_cons_of_pos (by simpa using hba)];rfl
    have hn:a∉(rimL ts ((ents ts).take i)).map (·.1):=fun z=>by
     obtain⟨⟨a2,b2⟩,h1,h2⟩:=List.mem_map.mp z
     have h2:a2=a:=h2
     subst h2
     have r1:=pK (fun e he=>List.mem_of_mem_take he) h1
     have r2:RimS (En ts) a2 b:=eU.mpr ⟨List.mem_map.mpr ⟨_,List.mem_of_getElem? he,rfl⟩,hba⟩
     have eb:=(db g hone).1 _ _ _ r1 r2
     subst eb
     unfold rimL at h1
     have h3:=(List.mem_filter.mp h1).1
     have nd:=g.nd
     rw[←List.take_append_drop (i+1) (ents ts),et,List.map_append,List.map_append,List.nodup_append,List.nodup_append] at nd
     exact nd.1.2.2 _ h3 _ (by simp) rfl
    refine⟨true,by rw[cu.mpr hba];rfl,iteT ⟨_,rfl,_,rfl,_,Sum.inl (a:Int),s3 _ _ hD',rfl,by rw[List.length_map];omega,_,_,rfl,fun b' o' e=>?_,?_⟩⟩
    ·rw[au (ag e hDn)];exact s3 _ _ (sm _ _ e)
    ·rw[al]
     show some (HO.dK (putK _ (Sum.inl (a:Int)) (V.int (b:Int))))=_
     rw[io hn,e1]
  ·rintro σ H' ⟨o1,o2,rfl,sm,hD'⟩
   refine q D H' (sm2.free hDn) (sm2.trans (Sm.of sm)) ?_
   rw[hD',List.take_of_length_le (by rw[lk,List.length_map];exact Nat.le_refl _)]
end
end K15
end
section
namespace K15
section
variable {R:Nat→Nat→Prop}
theorem vh (goes:∀a b,R a b→∃c,R b c) {ps:List Nat} {s:Nat} (h:Path R ps) (h0:ps[0]? = some s) (hs:∃q,R s q) (en:∀z,ps[ps.length - 1]? = some z→(∀q,¬R z q)∨R z s):Cyc R ps:=by
 refine⟨h,fun p q hp hq=>?_⟩
 cases h0.symm.trans hq
 have go:∃q,R p q:=by
  have hl:=(List.getElem?_eq_some_iff.mp hp).1
  by_cases c:ps.length - 1=0
  ·rw[c] at hp
   cases h0.symm.trans hp
   exact hs
  ·have hq':ps[ps.length - 2]? = some (ps[ps.length - 2]'(by omega)):=List.getElem?_eq_getElem _
   exact goes _ _ (h.ch (ps.length - 2) _ _ hq' (by rw[show ps.length - 2+1=ps.length - 1 by omega];exact hp))
 obtain⟨q,hq⟩:=go
 exact (en p hp).elim (fun z=>(z q hq).elim) id
structure cE (R:Nat→Nat→Prop) (ls:List (List Nat)):Prop where
 cyc:∀l∈ls,Cyc R l
 least:∀l∈ls,∀x,l[0]? = some x→∀p∈l,x≤p
 rise:ls.Pairwise fun l m=>∀x y,l[0]? = some x→m[0]? = some y→x < y
 nd:ls.flatten.Nodup
theorem cE.nil:cE R []:=⟨by simp,by simp,.nil,by simp⟩
theorem cE.step (inj:∀a b c,R a c→R b c→a=b) {ls:List (List Nat)} {l:List Nat} {c:Nat} (h:cE R ls) (hc:Cyc R l) (h0:l[0]? = some c) (hn:∀m∈ls,c∉m)
  (low:∀p,(∃q,R p q)→p < c→∃m∈ls,p∈m) (up:∀m∈ls,∀x,m[0]? = some x→x < c):cE R (ls++[l])∧∀x∈l,x∉ls.flatten:=by
 have dj:∀x∈l,∀m∈ls,x∉m:=fun x hx m hm hxm=>hn m hm (hc.toPath.from inj (h.cyc m hm) hx hxm h0)
 have dj':∀x∈l,x∉ls.flatten:=fun x hx z=>by
  obtain⟨m,hm,hxm⟩:=List.mem_flatten.mp z
  exact dj x hx m hm hxm
 refine⟨⟨fun m hm=>?_,fun m hm x hx p hp=>?_,?_,?_⟩,dj'⟩
 ·rcases List.mem_append.mp hm with z|z
  ·exact h.cyc m z
  ·rw[List.mem_singleton.mp z];exact hc
 ·rcases List.mem_append.mp hm with z|z
  ·exact h.least m z x hx p hp
  ·rw[List.mem_singleton.mp z] at hx hp
   cases h0.symm.trans hx
   refine Nat.le_of_not_lt fun lt=>?_
   obtain⟨q,_,hq⟩:=hc.step hp
   obtain⟨m',hm',hpm⟩:=low p ⟨q,hq⟩ lt
   exact dj p hp m' hm' hpm
 ·rw[List.pairwise_append]
  refine⟨h.rise,List.pairwise_singleton _ _,fun m hm m' hm' x y hx hy=>?_⟩
  rw[List.mem_singleton.mp hm'] at hy
  cases h0.symm.trans hy
  exact up m hm x hx
 ·rw[List.flatten_append,List.nodup_append]
  refine⟨h.nd,by simpa using hc.nd,fun a ha b hb e=>?_⟩
  subst e
  exact dj' a (by simpa using hb) ha
theorem cE.done {ls:List (List Nat)} (h:cE R ls) (all:∀p,(∃q,R p q)→∃l∈ls,p∈l):Rims R ls:=⟨h.cyc,h.least,all,h.rise⟩
theorem cE.in {ls:List (List Nat)} (h:cE R ls) {p:Nat} (hp:p∈ls.flatten):∃q,R p q:=by
 obtain⟨m,hm,hpm⟩:=List.mem_flatten.mp hp
 obtain⟨q,_,hq⟩:=(h.cyc m hm).step hpm
 exact⟨q,hq⟩
end
end K15
end
section
namespace K15
open PySem L2 K51 K31
theorem lq:∀(rim dd:List Nat),(∀x∈rim,x∉dd)→rim.Nodup→gB (dd.map kb) (rim.map kb)=(dd++rim).map kb
 | [],dd,_,_=>by rw[List.append_nil];rfl
 |x::rim,dd,h,nd=>by
  have hx:=h x List.mem_cons_self
  rw[List.nodup_cons] at nd
  show gB (putK (dd.map kb) (Sum.inl (x:Int)) (V.bl true)) (rim.map kb)=_
  rw[mn,if_neg hx,lq rim (dd++[x]) (fun y hy z=>?_) nd.2,List.append_assoc]
  ·rfl
  ·rcases List.mem_append.mp z with z|z
   ·exact h y (List.mem_cons_of_mem _ hy) z
   ·rw[List.mem_singleton.mp z] at hy;exact nd.1 hy
theorem uf {dd:List Nat} {c:Nat}:(valV (dd.map kb) (Sum.inl (c:Int):Key)).isSome=decide (c∈dd):=by
 rw[←eB]
 induction dd with
 |nil=>rfl
 |cons x dd ih=>
  rw[List.map_cons,List.any_cons,ih]
  by_cases e:c=x
  ·subst e;simp[kb]
  ·have:decide ((kb x).1=(Sum.inl (c:Int):Key))=false:=decide_eq_false fun z=>e (qz.mp z).symm
   rw[this];simp[e]
def NewL (H H':Hp) (T:Addr) (v:V) (l:List Nat):Prop:=∃a,v=.ref a∧H a=none∧a≠T∧H' a=some (.lst (nV l))
def jD (Cs:Addr):Sp:=fun vs H Q _=>∃(x:Addr) (ts:List Tri),vs=[.ref x]∧SkAt Cs H x ts∧Good ts∧(∀c,Co ts c→One (En ts) c)∧ts.length≤200 ∧
 ∀T vs ls H',H T=none→Sm H H'→H' T=some (.lst vs)→Paired (NewL H H' T) vs ls→Rims (RimS (En ts)) ls→ls.length≤600→(∀l∈ls,l.length≤600)→Q (.ref T) H'
theorem kj {ls:List (List Nat)} (h:∀l∈ls,l≠[]):ls.length≤ls.flatten.length:=by
 induction ls with
 |nil=>simp
 |cons l ls ih=>
  have h1:=ih fun m hm=>h m (List.mem_cons_of_mem _ hm)
  have h2:0 < l.length:=List.length_pos_iff.mpr (h l List.mem_cons_self)
  rw[List.flatten_cons,List.length_append,List.length_cons];omega
theorem tG {ls:List (List Nat)} {l:List Nat} (h:l∈ls):l.length≤ls.flatten.length:=by
 induction ls with
 |nil=>cases h
 |cons m ls ih=>
  rw[List.flatten_cons,List.length_append]
  rcases List.mem_cons.mp h with rfl|h
  ·omega
  ·have:=ih h;omega
section
variable {P:Program} {w:World} {K:W.Frag} {mg:Str→Option Value} {base:Heap}
theorem gj:aC ["skin","onward","told","seen","corner","rim"] ["skin"] (af e8):=⟨rfl,rfl,rfl,by decide +kernel,rfl,by decide +kernel,by decide +kernel⟩
theorem sP {f f1 f2 Cs:Addr} {fd d1 d2:FuncData} (U:Fun K "rims" "rims" e8 f fd) (mS:mg "sorted" = none)
  (GS:Use P w K mg base 1 "rim_steps" ["skin"] (fq Cs) f1 d1) (GW:Use P w K mg base 1 "walked" ["onward","begin"] gh f2 d2) :
  FnOk P w K mg base CX0 2 f fd ["skin"] (jD Cs):=by
 refine U.ok gj (fun vs H Q E h=>?_) (fun cdv A outer s H vs Q E hr h=>?_)
 ·obtain⟨x,ts,rfl,_⟩:=h
  rfl
 ·obtain⟨x,ts,rfl,sk,g,hone,hl,q⟩:=h
  have hu:=b_ hr
  have hline:=line5000
  refine⟨_,ae (av (i:=1) gj.nd rfl (Or.inl rfl) (ar GS.g hr rfl GS.m GS.k GS.b .nil pass0 (aa (pv 0) ac)))
   (ae (av (i:=2) gj.nd rfl (Or.inl rfl) (aV ac))
   (ae (av (i:=3) gj.nd rfl (Or.inl rfl) dP)
   (ae (bd PassesOwn.never rfl (aK (aB (dt rfl) (by rfl) mS bn (aa (pv 1) ac))) (aq (i:=4) gj.nd rfl (Or.inl rfl))
    (ak (cm (gr (eX hu (pv 4) (pv 3)))
     (ae (av (i:=5) gj.nd rfl (Or.inl rfl) (ar GW.g hr rfl GW.m GW.k GW.b .nil pass0 (aa (pv 1) (aa (pv 4) ac))))
     (ae (aT (bU PySem.F.plainAttrs_list PySem.F.slot_list_append PySem.F.type_list_append aR (pv 2) (aa (pv 5) ac)))
     (ak (aT (bU PySem.F.plainAttrs_dict PySem.F.slot_dict_update PySem.F.type_dict_update oO (pv 3) (aa (kU (N:=["each"]) (fr:=[none]) (fH (by decide +kernel) rfl (by decide +kernel) (by decide +kernel)) rfl (aK (pv 5))
      (fun C s H fp pins=>⟨aq (i:=0) (show (["each"]:List Str).Nodup by decide +kernel) rfl (Or.inl rfl) (.inr rfl),cf,pv 0,ip⟩)) ac)))))) aZ)))
   (ak (aD (pv 2)))))),?_⟩
  obtain⟨rone,rinj,rgo⟩:=db g hone
  have ri:=sh g hone
  have rl:(rimL ts (ents ts)).length≤600:=by have:=kL ts (ents ts);rw[bu] at this;omega
  refine⟨_,rfl,x,ts,rfl,sk,g,hone,hl,fun D H1 hD0 sm1 hD=>?_⟩
  generalize hll:rimL ts (ents ts)=l at hD ri rl
  refine⟨by decide,fun T hT=>?_⟩
  (generalize z:upd H1 T _=H2;have s2:=ah hT z;have y2:=ai z;clear z)
  refine fun S hS=>?_
  (generalize z:upd H2 S _=H3;have s3:=ah hS z;have y3:=ai z;clear z)
  have hD3:=s3 _ _ (s2 _ _ hD)
  have yT3:=s3 _ _ y2
  refine⟨_,rfl,D,_,rfl,.inl hD3,True.intro,fun ks vs hk=>.inl ?_⟩
  have ek:ks=(l.map (·.1) |>.map fun n:Nat=>(n:Int)).map V.int:=by
   rcases hk with ⟨kvs,e,e2,_⟩|⟨kvs,as,e,_⟩
   ·cases e
    rw[e2,hX]
    simp[nV]
   ·cases e
  refine⟨_,ek,by rw[List.length_map,List.length_map];omega,fun p ms hp pm ps=>?_⟩
  obtain⟨cs,rfl,hcs,pcs⟩:=dX ri.nd pm ps
  rw[List.map_map]
  (generalize z:upd H3 p _=H4;have s4:=ah hp z;have y4:=ai z;clear z)
  have y4:H4 p=some (.lst (nV cs)):=y4
  have lcs:cs.length=l.length:=by rw[pcs.length_eq,List.length_map]
  have memc:∀c,c∈cs↔∃q,RimS (En ts) c q:=fun c=>by rw[pcs.mem_iff,ri.key]
  have hTS:T≠S:=fun z=>by rw[z,hS] at y2;cases y2
  have hTp:T≠p:=fun z=>by rw[z,hp] at yT3;cases yT3
  have hSp:S≠p:=fun z=>by rw[z,hp] at y3;cases y3
  refine⟨p,rfl,⟨_,SqL.of y4⟩,bj (K:=K) (a:=p) (xs:=nV cs) (fun i σ H'=>∃o4 o5 vs ls,σ=[some (.ref x),some (.ref D),some (.ref T),some (.ref S),o4,o5]∧(∀b o,b≠T→b≠S→H4 b=some o→H' b=some o)∧H' T=some (.lst vs)∧Paired (NewL H H' T) vs ls∧H' S=some (.dK (ls.flatten.map kb)) ∧
    cE (RimS (En ts)) ls∧(∀c∈cs.take i,∃m∈ls,c∈m)∧(∀m∈ls,∀c,m[0]? = some c→c∈cs.take i))
   ⟨none,none,[],[],rfl,fun b o _ _ e=>e,s4 _ _ yT3,.nil,s4 _ _ y3,cE.nil,by simp,by simp⟩ (fun i σ H' _ ⟨_,_,_,_,_,e,_⟩=>SqL.of (e _ _ hTp.symm hSp.symm y4)) ?_ ?_⟩
  ·rintro i y σ H' hi ⟨o4,o5,vs',ls,rfl,kp,hT',pr,hS',ru,rall,rfst⟩
   rw[nV,List.getElem?_map] at hi
   obtain⟨c,hc,rfl⟩:=Option.map_eq_some_iff.mp hi
   have hil:=(List.getElem?_eq_some_iff.mp hc).1
   have et:cs.take (i+1)=cs.take i++[c]:=by rw[List.take_add_one,hc];rfl
   have lfl:ls.flatten.length≤600:=by
    have:=cK ru.nd (m:=cs) fun z hz=>(memc z).mpr (ru.in hz)
    omega
   refine⟨_,rfl,_,rfl,S,_,rfl,DGet.k (k:=Sum.inl (c:Int)) hS',?_⟩
   rw[uf]
   by_cases hin:c∈ls.flatten
   ·refine⟨false,by rw[decide_eq_true hin];rfl,iteF ⟨_,_,vs',ls,rfl,kp,hT',pr,hS',ru,fun z hz=>?_,fun m hm z hz=>?_⟩⟩
    ·rw[et] at hz
     rcases List.mem_append.mp hz with hz|hz
     ·exact rall z hz
     ·rw[List.mem_singleton.mp hz]
      obtain⟨m,hm,h⟩:=List.mem_flatten.mp hin
      exact⟨m,hm,h⟩
    ·rw[et];exact List.mem_append_left _ (rfst m hm z hz)
   ·refine⟨true,by rw[decide_eq_false hin];rfl,iteT ?_⟩
    have hDc:c∈l.map (·.1):=pcs.mem_iff.mp (List.mem_of_getElem? hc)
    have hD':H' D=some (.dK (l.map nmV)):=kp _ _ (ag hD hT) (ag (s2 _ _ hD) hS) (s4 _ _ hD3)
    refine⟨_,rfl,_,rfl,D,l,RimS (En ts),c,rfl,.inl hD',by omega,rinj,ri,hDc,fun r ps H5 hr5 s5 y5 lps path h0 en=>?_⟩
    have cyc:=vh rgo path h0 ((memc c).mp (List.mem_of_getElem? hc)) en
    have nlow:∀p,(∃q,RimS (En ts) p q)→p < c→∃m∈ls,p∈m:=fun p hp hlt=>by
     obtain⟨j,hj⟩:=List.mem_iff_getElem?.mp ((memc p).mpr hp)
     have hjl:=(List.getElem?_eq_some_iff.mp hj).1
     refine rall p (List.mem_iff_getElem?.mpr ⟨j,?_⟩)
     rw[List.getElem?_take_of_lt,hj]
     refine Nat.lt_of_not_le fun hle=>?_
     rcases Nat.lt_or_eq_of_le hle with h|h
     ·have:=List.pairwise_iff_getElem.mp hcs i j hil hjl h
      rw[(List.getElem?_eq_some_iff.mp hc).2,(List.getElem?_eq_some_iff.mp hj).2] at this
      omega
     ·subst h;rw[hc] at hj;cases hj;omega
    have nup:∀m∈ls,∀z,m[0]? = some z→z < c:=fun m hm z hz=>by
     obtain⟨j,hj⟩:=List.mem_iff_getElem?.mp (rfst m hm z hz)
     have hjl:=(List.getElem?_eq_some_iff.mp hj).1
     rw[List.length_take] at hjl
     rw[List.getElem?_take_of_lt (by omega)] at hj
     have:=List.pairwise_iff_getElem.mp hcs j i (by omega) hil (by omega)
     rw[(List.getElem?_eq_some_iff.mp hc).2,(List.getElem?_eq_some_iff.mp hj).2] at this
     exact this
    obtain⟨ru',dj⟩:=ru.step rinj cyc h0 (fun m hm z=>hin (List.mem_flatten.mpr ⟨m,hm,z⟩)) nlow nup
    have lps6:ps.length≤600:=by
     have:=cK path.nd (m:=cs) fun z hz=>(memc z).mpr (by obtain⟨q',_,h⟩:=cyc.step hz;exact⟨q',h⟩)
     omega
    have lls:ls.length≤600:=by have:=kj fun m hm=>(ru.cyc m hm).ne;omega
    have hT5:=s5 _ _ hT'
    have hS5:=s5 _ _ hS'
    have rT:r≠T:=fun z=>by rw[z,hT'] at hr5;cases hr5
    have rS:r≠S:=fun z=>by rw[z,hS'] at hr5;cases hr5
    have hr1:H r=none:=by
     cases e:H r with
     |none=>rfl
     |some o=>
      exfalso
      have h1r:H1 r≠none:=fun z=>by have:=sm1.free z;rw[e] at this;cases this
      obtain⟨o',h1r⟩:=Option.ne_none_iff_exists'.mp h1r
      have:=kp _ _ rT rS (s4 _ _ (s3 _ _ (s2 _ _ h1r)))
      rw[hr5] at this;cases this
    refine⟨_,rfl,.inl ⟨rfl,_,SqL.of hT5⟩,_,rfl,T,_,_,rfl,rfl,hT5,by rw[ax pr];omega,?_⟩
    (generalize z:upd H5 T _=H6;have k6:=aH z;have y6:=ai z;clear z)
    have hS6:H6 S=some (.dK (ls.flatten.map kb)):=(k6 S hTS.symm).trans hS5
    have y56:H6 r=some (.lst (nV ps)):=(k6 r rT).trans y5
    refine⟨_,rfl,.inr (.inr (.inl ⟨rfl,.inl ⟨_,hS6⟩⟩)),_,rfl,r,rfl,⟨_,SqL.of y56⟩,fun D2 hD2=>?_⟩
    refine m6 (K:=K) (a:=r) (xs:=nV ps) (fun i σ H'=>Same H6 H'∧H' D2=some (.dK ((ps.take i).map kb))∧∃o,σ=[o]) ⟨ay hD2,al,none,rfl⟩ (fun i σ H' _ ⟨e,_⟩=>SqL.of (e _ _ y56)) ?_ ?_
    ·rintro j y σ H7 hj ⟨s7,y7,o,rfl⟩
     rw[nV,List.getElem?_map] at hj
     obtain⟨z,hz,rfl⟩:=Option.map_eq_some_iff.mp hj
     have etj:ps.take (j+1)=ps.take j++[z]:=by rw[List.take_add_one,hz];rfl
     have nz:z∉ps.take j:=fun h=>by
      have nd:=path.nd
      rw[←List.take_append_drop (j+1) ps,etj,List.nodup_append,List.nodup_append] at nd
      exact nd.1.2.2 z h z (by simp) rfl
     refine⟨_,rfl,_,Sum.inl (z:Int),y7,rfl,by rw[List.length_map,List.length_take];omega,fun b o' e=>?_,?_,_,rfl⟩
     ·rw[au (ag e hD2)];exact s7 _ _ e
     ·rw[al,mn,if_neg nz,etj]
    ·rintro σ H7 ⟨s7,y7,o,rfl⟩
     rw[aG,List.take_length] at y7
     have hS7:=s7 _ _ hS6
     refine⟨S,D2,_,_,rfl,rfl,(ag hS6 hD2),hS7,.inl y7,by rw[List.length_map,List.length_map];omega,?_⟩
     rw[lq ps _ dj path.nd]
     (generalize z:upd H7 S _=H8;have k8:=aH z;have y8:=ai z;clear z)
     have up8:∀b o,b≠S→b≠T→H5 b=some o→H8 b=some o:=fun b o n n' e=>by rw[k8 b n];exact s7 _ _ ((k6 b n').trans e)
     refine⟨_,_,_,ls++[ps],rfl,fun b o n1 n2 e=>up8 b o n2 n1 (s5 _ _ (kp b o n1 n2 e)),(k8 T hTS).trans (s7 _ _ y6),?_,?_,ru',fun z hz=>?_,fun m hm z hz=>?_⟩
     ·refine bO (Paired.imp' (fun _ _ ⟨a,e1,e2,e3,e4⟩=>⟨a,e1,e2,e3,up8 a _ (bi (s5 _ _ e4) hS5 (by intro z;cases z)) e3 (s5 _ _ e4)⟩) pr) (.cons ⟨r,rfl,hr1,rT,up8 r _ rS rT y5⟩ .nil)
     ·rw[y8,List.flatten_append];simp
     ·rw[et] at hz
      rcases List.mem_append.mp hz with hz|hz
      ·obtain⟨m,hm,h⟩:=rall z hz
       exact⟨m,List.mem_append_left _ hm,h⟩
      ·rw[List.mem_singleton.mp hz]
       exact⟨ps,by simp,List.mem_of_getElem? h0⟩
     ·rw[et]
      rcases List.mem_append.mp hm with hm|hm
      ·exact List.mem_append_left _ (rfst m hm z hz)
      ·rw[List.mem_singleton.mp hm,h0] at hz
       cases hz;simp
  ·rintro σ H' ⟨o4,o5,vs',ls,rfl,kp,hT',pr,hS',ru,rall,rfst⟩
   have ht:cs.take (nV cs).length=cs:=by rw[aG,List.take_length]
   rw[ht] at rall
   have lfl:ls.flatten.length≤600:=by
    have:=cK ru.nd (m:=cs) fun z hz=>(memc z).mpr (ru.in hz)
    omega
   have lls:=kj fun m hm=>(ru.cyc m hm).ne
   refine⟨_,rfl,q T vs' ls H' (sm1.free hT) (sm1.trans fun b o e=>.inl ?_) hT' pr (ru.done fun p hp=>rall p ((memc p).mpr hp)) (by omega) fun m hm=>by have:=tG hm;omega⟩
   exact kp b o (ag e hT) (ag (s2 _ _ e) hS) (s4 _ _ (s3 _ _ (s2 _ _ e)))
end
end K15
end
section
namespace L2
open PySem PySem.Spec PyProof.Rows PySem.W
theorem iE:∀{us:List Value} {ns:List Int} {i:Nat},IntsAre us ns→i < us.length→∃t,us[i]? = some (Value.int (ns.getD i 0) t)
 |_,_,_,.nil,h=>by simp at h
 |_,_,0,.cons n t _,_=>⟨t,rfl⟩
 |_,_,i+1,.cons n t r,h=>by
  obtain⟨t',e⟩:=iE (i:=i) r (by simpa using h)
  exact⟨t',by simpa using e⟩
theorem qT {ns ms:List Int} {i:Nat} (h1:i < ns.length) (h2:i < ms.length):HT.lexLt (ns.drop i) (ms.drop i)=if ns.getD i 0=ms.getD i 0 then HT.lexLt (ns.drop (i+1)) (ms.drop (i+1)) else decide (ns.getD i 0 < ms.getD i 0):=by
 rw[List.drop_eq_getElem_cons h1,List.drop_eq_getElem_cons h2,HT.lexLt_cons]
 simp[List.getD,h1,h2]
theorem tj (l b:Addr) (us ws:List Value) (ns ms:List Int) (n n2:Nat) (hu:IntsAre us ns) (hw:IntsAre ws ms) (k:Nat) :
  ∀i:Nat,us.length - i=k→i≤us.length→i≤ws.length→Meets (Builtin.«list.__eq__.loop» ⟨[.ref l,.ref b,rawInt i,rawInt 0],[]⟩)
   (fun _ R s=>s.heap.get? l=some (seqObj "list" us.toArray n)∧s.heap.get? b=some (seqObj "list" ws.toArray n2)∧R (.ok (.ret (.bool (HT.lexLt (ns.drop i) (ms.drop i))))) s):=by
 have lu:=hu.length
 have lw:=hw.length
 have stop:∀i:Nat,i≤us.length→i≤ws.length→(us.length≤i∨ws.length≤i)→Meets (Builtin.«list.__eq__.loop» ⟨[.ref l,.ref b,rawInt i,rawInt 0],[]⟩)
   (fun _ R s=>s.heap.get? l=some (seqObj "list" us.toArray n)∧s.heap.get? b=some (seqObj "list" ws.toArray n2)∧R (.ok (.ret (.bool (HT.lexLt (ns.drop i) (ms.drop i))))) s):=by
  intro i h1 h2 h3 prog w A R s h
  obtain⟨hp,g,d,tk,os⟩:=s;obtain⟨hl,hb,h⟩:=h
  wp_walk using AutoSeq1.wpAny_loadPart' hl,AutoSeq1.wpAny_loadPart' hb
  have e:HT.lexLt (ns.drop i) (ms.drop i)=decide (us.length < ws.length):=by
   by_cases c:us.length≤i
   ·rw[List.drop_eq_nil_of_le (by omega)]
    by_cases c2:ws.length≤i
    ·rw[List.drop_eq_nil_of_le (by omega),decide_eq_false (by omega)];rfl
    ·rw[List.drop_eq_getElem_cons (by omega),decide_eq_true (by omega)];rfl
   ·have:ws.length≤i:=by omega
    rw[List.drop_eq_nil_of_le (as:=ms) (by omega),List.drop_eq_getElem_cons (by omega),decide_eq_false (by omega)];rfl
  rw[e] at h
  rcases h3 with h3|h3
  ·rw[show us.toArray[((i:Nat):Int).toNat]? = none by simp;omega]
   wp_walk using AutoSeq1.wpAny_loadPart' hl,AutoSeq1.wpAny_loadPart' hb
   show R (.ok (.ret (.bool (decide (us.toArray.size < ws.toArray.size))))) _
   simpa using h
  ·by_cases c:us.length≤i
   ·rw[show us.toArray[((i:Nat):Int).toNat]? = none by simp;omega]
    wp_walk using AutoSeq1.wpAny_loadPart' hl,AutoSeq1.wpAny_loadPart' hb
    show R (.ok (.ret (.bool (decide (us.toArray.size < ws.toArray.size))))) _
    simpa using h
   ·rw[show us.toArray[((i:Nat):Int).toNat]? = some (us[i]'(by omega)) by simp,show ws.toArray[((i:Nat):Int).toNat]? = none by simp;omega]
    wp_walk using AutoSeq1.wpAny_loadPart' hl,AutoSeq1.wpAny_loadPart' hb
    show R (.ok (.ret (.bool (decide (us.toArray.size < ws.toArray.size))))) _
    simpa using h
 induction k with
 |zero=>
  intro i hk h1 h2
  exact stop i h1 h2 (.inl (by omega))
 |succ k ih=>
  intro i hk h1 h2
  by_cases c:ws.length≤i
  ·exact stop i h1 h2 (.inr c)
  intro prog w A R s h
  obtain⟨hp,g,d,tk,os⟩:=s;obtain⟨hl,hb,h⟩:=h
  wp_walk using AutoSeq1.wpAny_loadPart' hl,AutoSeq1.wpAny_loadPart' hb
  obtain⟨t1,e1⟩:=iE (i:=i) hu (by omega)
  obtain⟨t2,e2⟩:=iE (i:=i) hw (by omega)
  have hi1:us.toArray[((i:Nat):Int).toNat]? = some (Value.int (ns.getD i 0) t1):=by simpa using e1
  have hi2:ws.toArray[((i:Nat):Int).toNat]? = some (Value.int (ms.getD i 0) t2):=by simpa using e2
  have hc:((i:Int)+1)=((i+1:Nat):Int):=by push_cast;rfl
  rw[qT (by omega) (by omega)] at h
  rw[hi1,hi2]
  refine wpAny_bind (wpAny_eqBool_int ?_)
  by_cases e:ns.getD i 0=ms.getD i 0
  ·rw[if_pos e] at h
   rw[show (ns.getD i 0==ms.getD i 0)=true by simpa using e]
   wp_walk
   rw[hc]
   exact⟨plainId_quiet PySem.MeetsSeq3.plain_eq_loop _,codeAny_builtin PySem.MeetsSeq3.entry_eq_loop (by
    rw[Around.under_plainId PySem.MeetsSeq3.plain_eq_loop _]
    exact ih (i+1) (by omega) (by omega) (by omega) prog w A R _ ⟨hl,hb,h⟩)⟩
  ·rw[if_neg e] at h
   rw[show (ns.getD i 0==ms.getD i 0)=false by simpa using e]
   wp_walk using AutoSeq1.wpAny_loadPart' hl,AutoSeq1.wpAny_loadPart' hb
   rw[hi1,hi2]
   refine wpAny_bind ?_
   refine (show wpAny (model prog w) _ (compareOp .Lt (.int (ns.getD i 0) t1) (.int (ms.getD i 0) t2)) _ _ _ from lt_int ?_)
   wp_walk
   exact h
theorem tm (l b:Addr) (us ws:List Value) (ns ms:List Int) (n n2:Nat) (hu:IntsAre us ns) (hw:IntsAre ws ms) :
  Meets (Builtin.«list.__lt__» ⟨[.ref l,.ref b],[]⟩)
   (fun _ R s=>s.heap.get? l=some (seqObj "list" us.toArray n)∧s.heap.get? b=some (seqObj "list" ws.toArray n2)∧R (.ok (.ret (.bool (HT.lexLt ns ms)))) s):=by
 intro prog w A R s h
 obtain⟨hp,g,d,tk,os⟩:=s;obtain⟨hl,hb,h⟩:=h
 have f3:=AutoSeq1.sub_list_list
 wp_walk using AutoSeq1.wpAny_loadPart' hl,AutoSeq1.wpAny_loadPart' hb
 exact⟨plainId_quiet PySem.MeetsSeq3.plain_eq_loop _,codeAny_builtin PySem.MeetsSeq3.entry_eq_loop (by
  rw[Around.under_plainId PySem.MeetsSeq3.plain_eq_loop _]
  exact tj l b us ws ns ms n n2 hu hw _ 0 rfl (Nat.zero_le _) (Nat.zero_le _) prog w A R _ ⟨hl,hb,h⟩)⟩
section
variable {prog:Program} {w:World} {A:Around} {E:Value→Shared→Prop} {s:Shared}
theorem p4 {a b:Addr} {us ws:List Value} {ns ms:List Int} {n n2:Nat} {C:Bool→Shared→Prop} (hr:A.units < cLine) (h1:s.heap.get? a=some (seqObj "list" us.toArray n)) (h2:s.heap.get? b=some (seqObj "list" ws.toArray n2)) (hu:IntsAre us ns) (hw:IntsAre ws ms) (q:C (HT.lexLt ns ms) s) :
  wpAny (model prog w) A (keyLt' oneType' (.ref a) (.ref b)) C E s:=by
 rw[keyLt'_oneType,oneLt'_eq]
 simp only[if_true]
 refine wpAny_bind (wpAny_cRoomFor hr ?_)
 refine wpAny_bind (wpAny_callSpecialIfBound?_slot ⟨_,h1,rfl⟩ PySem.F.slot_list_lt ?_)
 refine PySem.call_meets PySem.F.slot_list_lt ⟨_,h1,rfl⟩ PySem.F.entry_list_lt (PySem.F.args_list_lt_2 _ _) (tm a b us ws ns ms n n2 hu hw) ⟨h1,h2,?_⟩
 exact wpAny_truthy_bool q
end
def Lsts (K:Frag) (H:Hp) (ys:List V) (ks:List (List Int)):Prop:=Paired (fun y k=>∃b,y=V.ref b∧H b=some (.lst (k.map V.int))) ys ks
section
variable {X:Cx}
def uy (K:Frag):List V→Hp→VK→Prop:=fun xs H Q=>∃(a:Addr) (ys:List V) (ks:List (List Int)),xs=[.ref a]∧SqL K H a ys∧Lsts K H ys ks∧ys.length < 5000 ∧
 ∀p (ix:List Nat),H p=none→ix.Perm (List.range ys.length)→(ix.map fun i=>ks.getD i []).Pairwise (fun a b=>HT.lexLt b a=false)→Q (.ref p) (upd H p (.lst (ix.map fun i=>ys.getD i .non)))
theorem fX (hr:X.A.units+2 < cLine):bM X (.builtin "sorted") (uy X.K):=by
 intro pins s σ H xs us Q I r h
 obtain⟨a,ys,ks,rfl,hq,hy,hz,q⟩:=h
 obtain⟨u,rfl,ru⟩:=Vals.one r
 cases ru
 obtain⟨its,rv,p,_⟩:=I.list hq
 have hl:=rv.length
 have at_:∀(ks:List (List Int)) (ys:List V) (its:List Value),Lsts X.K H ys ks→Vals ys its→Paired (fun v k=>∃b us n,v=Value.ref b∧IntsAre us k∧s.heap.get? b=some (seqObj "list" us.toArray n)) its ks:=by
  intro ks
  induction ks with
  |nil=>intro ys its a b;cases a;cases b;exact .nil
  |cons k ks ih=>
   intro ys its a b
   cases a with
   |cons hh tt=>
    obtain⟨bb,e0,hq⟩:=hh
    subst e0
    cases b with
    |cons r rr=>
     cases r
     obtain⟨z,us,n,r5,p6⟩:=I.hok _ _ hq
     exact .cons ⟨bb,us,n,rfl,dh r5,p6⟩ (ih _ _ tt rr)
 have P:=at_ ks ys its hy rv
 have rkk:∀{b:Addr} {us:List Value} {n:Nat} {k:List Int},IntsAre us k→s.heap.get? b=some (seqObj "list" us.toArray n)→rkV s.heap (Value.ref b)=k:=fun {b us n k} i1 i2=>by
  show (match s.heap.get? b with|some o=>_|none=>_)=_
  rw[i2]
  exact jV i1
 have hk:∀i,i < its.length→rkV s.heap (its.getD i Value.none)=ks.getD i []:=fun i hi=>by
  obtain⟨k,e1,b,us,n,e2,i1,i2⟩:=Paired.getE (i:=i) (x:=its[i]) P (by simp[hi])
  rw[show its.getD i Value.none=its[i] by simp[List.getD,hi],e2,rkk i1 i2,List.getD,e1];rfl
 refine ig (κ:=oneType') (rk:=rkV s.heap) p.isList (by rw[sizeLine_eq];omega) (fun h' old h2 Q q=>?_) (fun h' old h2 x hx y hy C q=>?_) fun out p1 p2=>?_
 ·refine kas_kind (T:=.type "list") h2 (fun v hv=>?_) (by decide) (by decide) q
  obtain⟨i,hi⟩:=List.mem_iff_getElem?.mp hv
  obtain⟨k,e1,b,us,n,rfl,i1,i2⟩:=Paired.getE P hi
  intro A Q E s' k' q'
  have:=k' _ _ (old _ _ i2)
  exact wpAny_typeOf ⟨_,this,rfl⟩ q'
 ·obtain⟨i,hi⟩:=List.mem_iff_getElem?.mp hx
  obtain⟨j,hj⟩:=List.mem_iff_getElem?.mp hy
  obtain⟨k1,_,b1,u1,n1,rfl,i1,x1⟩:=Paired.getE P hi
  obtain⟨k2,_,b2,u2,n2,rfl,i2,x2⟩:=Paired.getE P hj
  rw[rkk i1 x1,rkk i2 x2] at q
  exact p4 (by show X.A.units+1+1 < _;omega) (old _ _ x1) (old _ _ x2) i1 i2 q
 obtain⟨ix,x1,x2,x3⟩:=mU rv hk p1 p2
 obtain⟨e,he⟩:=sortedAll_at s.heap its out.toArray
 have hp:s.heap.objs.size≤s.heap.objs.size+1:=Nat.le_succ _
 exact⟨.ref (s.heap.objs.size+1),upd H (s.heap.objs.size+1) (.lst (ix.map fun i=>ys.getD i .non)),I.laid (t':=s.toks) (fun b o e=>sortedAll_old e) hp ⟨by rw[List.length_map,x1.length_eq,List.length_range,sizeLine_eq];omega,out,e,x3,by rw[he]⟩,rfl,q _ ix (I.hok.fresh hp) x1 x2⟩
end
end L2
end
section
namespace L2
open PySem PySem.Spec PyProof.Rows
def rNeE:R2:=fun x y H Q=>∃(a b:Addr) (kvs:List (Key × V)),x=.ref a∧y=.ref b∧Rd H a (.dK kvs)∧Rd H b (.dK [])∧Q (.bl (!kvs.isEmpty)) H
theorem uH {X:Cx} (hu:X.A.units < cLine):OpR X (compareOp .NotEq) rNeE:=by
 intro pins s σ H x y v u Q I rx ry h
 obtain⟨a,b,kvs,rfl,rfl,ha,hb,q⟩:=h
 cases rx
 cases ry
 obtain⟨z0,lo,vs,rel,dd⟩:=cY I.hok ha
 obtain⟨z1,lo1,ms,rel1,dd1⟩:=cY I.hok hb
 have e0:ms=[]:=by
  have:=rel1.length
  exact List.length_eq_zero_iff.mp this.symm
 subst e0
 refine W.keq_ne (r:=true) lo lo1 dd dd1 hu (fun e=>?_) ⟨.bl _,H,I,?_,q⟩
 ·have e:vs=[]:=List.length_eq_zero_iff.mp e
  subst e
  exact .nil
 ·show Value.bool _=Value.bool _
  have:=rel.length
  cases kvs with
  |nil=>cases vs with
   |nil=>rfl
   |cons p r=>simp at this
  |cons p r=>cases vs with
   |nil=>simp at this
   |cons p' r'=>rfl
end L2
end
section
namespace K15
open PySem L2 K51 K31
theorem nH:∀(rs l:List (Nat × Nat)),((l++rs).map (·.1)).Nodup→eG (l.map nmV) (rs.map nmV)=(l++rs).map nmV
 | [],l,_=>by rw[List.append_nil];rfl
 |x::rs,l,nd=>by
  have hx:x.1∉l.map (·.1):=fun z=>by
   rw[List.map_append,List.nodup_append] at nd
   exact nd.2.2 _ z _ (by simp) rfl
  show eG (putK (l.map nmV) (Sum.inl (x.1:Int)) (V.int (x.2:Int))) (rs.map nmV)=_
  rw[io hx,nH rs (l++[(x.1,x.2)]) (by rw[List.append_assoc];exact nd),List.append_assoc]
  rfl
theorem ny {H:Hp}:∀{vs:List V} {rs:List (Nat × Nat)},SdsAt H vs rs→f_ H vs (rs.map nmV)
 |_,_,.nil=>.nil
 |_,_,.cons ⟨a,e1,e2⟩ t=>.cons ⟨a,e1,e2⟩ (ny t)
def cI (l:List Nat):List Int:=l.map fun n:Nat=>(n:Int)
theorem cI_V (l:List Nat):(cI l).map V.int=nV l:=by unfold cI nV;rw[List.map_map];rfl
theorem lA {K:W.Frag} {H:Hp}:∀{vs:List V} {ls:List (List Nat)},gd H vs ls→Lsts K H vs (ls.map cI)
 |_,_,.nil=>.nil
 |_,_,.cons ⟨a,e1,e2⟩ t=>.cons ⟨a,e1,by rw[cI_V];exact e2⟩ (lA (K:=K) t)
theorem oS {l m:List Nat} {x y:Nat} (h1:l[0]? = some x) (h2:m[0]? = some y) (h:x < y):HT.lexLt (cI l) (cI m)=true:=by
 cases l with
 |nil=>cases h1
 |cons a l=>cases m with
  |nil=>cases h2
  |cons b m=>
   cases h1;cases h2
   show HT.lexLt ((x:Int)::cI l) ((y:Int)::cI m)=true
   rw[HT.lexLt_cons,if_neg (by omega),decide_eq_true (by omega)]
theorem tq {ks:List (List Int)} {ix:List Nat} (pm:ix.Perm (List.range ks.length)) (hk:ks.Pairwise fun a b=>HT.lexLt a b=true) (pw:(ix.map fun i=>ks.getD i []).Pairwise (fun a b=>HT.lexLt b a=false)):ix=List.range ks.length:=by
 rw[List.pairwise_map] at pw
 have hb:∀i∈ix,i < ks.length:=fun i hi=>List.mem_range.mp (pm.mem_iff.mp hi)
 have h1:ix.Pairwise (·≤·):=List.Pairwise.imp_of_mem (fun {i j} hi hj h=>by
  refine Nat.le_of_not_lt fun lt=>?_
  have:=List.pairwise_iff_getElem.mp hk j i (hb j hj) (hb i hi) lt
  simp only[List.getD,List.getElem?_eq_getElem (hb i hi),List.getElem?_eq_getElem (hb j hj),Option.getD_some] at h
  rw[this] at h;cases h) pw
 exact List.Perm.eq_of_pairwise (fun a b _ _ h1 h2=>Nat.le_antisymm h1 h2) h1 (List.pairwise_le_range) pm
def jI:Sp:=fun vs H Q _=>∃(T:Addr) (vt:List V) (ts:List Tri),vs=[.ref T]∧H T=some (.lst vt)∧aA H vt ts∧ts.length≤20∧Good ts∧(∀c,Co ts c→One (En ts) c) ∧
 ∀p vs ls H',H p=none→Same H H'→H' p=some (.lst vs)→gd H' vs ls→Rims (RimS (En ts)) ls→Q (.ref p) H'
theorem pp:bootBuiltins "min" = some (.builtin "min"):=by decide +kernel
section
variable {P:Program} {w:World} {K:W.Frag} {mg:Str→Option Value} {base:Heap}
theorem fO:aC ["_law_triples","_law_ahead","_law_found","_law_rim","_law_corner"] ["_law_triples"] (af dE):=⟨rfl,rfl,rfl,by decide +kernel,rfl,by decide +kernel,by decide +kernel⟩
theorem qf {f f1:Addr} {fd d1:FuncData} (U:Fun K "_law_rims" "_law_rims" dE f fd) (mS:mg "sorted" = none) (mD:mg "dict" = none) (mN:mg "min" = none)
  (GR:Use P w K mg base 2 "_law_rim_sides" ["_law_triples"] np f1 d1) :
  FnOk P w K mg base CX0 3 f fd ["_law_triples"] jI:=by
 refine U.ok fO (fun vs H Q E h=>?_) (fun cdv A outer s H vs Q E hr h=>?_)
 ·obtain⟨T,vt,ts,rfl,_⟩:=h
  rfl
 ·obtain⟨T,vt,ts,rfl,hT,tr,hl,g,hone,q⟩:=h
  have hu:=b_ hr
  have hline:=line5000
  refine⟨_,ae (av (i:=1) fO.nd rfl (Or.inl rfl) (aO (i7 hr.hd) (by rfl) mD PyProof.Rows.boot_dict (aa (ar GR.g hr rfl GR.m GR.k GR.b .nil pass0 (aa (pv 0) ac)) ac)))
   (ae (av (i:=2) fO.nd rfl (Or.inl rfl) (aV ac))
   (ae (df PassesOwn.never (aF (uH hr.units0) (pv 1) dP (nomark _))
    (ae (av (i:=3) fO.nd rfl (Or.inl rfl) (aV (aa (aB (fi rfl) (by rfl) mN pp (aa (pv 1) ac)) ac)))
    (ae (df PassesOwn.never (aF jf (c_ hu (pv 1) (bq aL (pv 3) (gJ eC aj) (fun _ _=>rfl)) (fun _ _=>rfl)) (bq aL (pv 3) aj (fun _ _=>rfl)) (nomark _))
     (ak (aT (bU PySem.F.plainAttrs_list PySem.F.slot_list_append PySem.F.type_list_append aR (pv 3) (aa (c_ hu (pv 1) (bq aL (pv 3) (gJ eC aj) (fun _ _=>rfl)) (fun _ _=>rfl)) ac)))))
    (ae (bd PassesOwn.never rfl (aK (pv 3)) (aq (i:=4) fO.nd rfl (Or.inl rfl)) (ak (aT (kP (pv 1) (pv 4) ⟨rfl,rfl,rfl,rfl⟩))))
    (ak (aT (bU PySem.F.plainAttrs_list PySem.F.slot_list_append PySem.F.type_list_append aR (pv 2) (aa (pv 3) ac))))))))
   (ak (aD (aB (fX (Nat.lt_of_le_of_lt (Nat.add_le_add_left (show 2≤64 by decide) _) hr.units)) (by rfl) mS bn (aa (pv 2) ac)))))),?_⟩
  obtain⟨rone,rinj,rgo⟩:=db g hone
  refine⟨_,rfl,T,vt,ts,rfl,hT,tr,hl,g.nd,fun r zs rs H1 hr0 s1 y1 sd hrs lrs ⟨ndr,allr⟩=>?_⟩
  have kyn:(rs.map (·.1)).Nodup:=nP rone ndr fun p hp=>eU.mpr (hrs p hp)
  have memr:∀x:Nat × Nat,x∈rs↔RimS (En ts) x.1 x.2:=fun x=>⟨fun h=>eU.mpr (hrs x h),fun h=>allr x (eU.mp h)⟩
  refine⟨r,zs,_,rfl,y1,ny sd,by rw[List.length_map];omega,fun A' hA=>?_⟩
  have pa0:eG [] (rs.map nmV)=rs.map nmV:=nH rs [] kyn
  rw[pa0]
  (generalize z:upd H1 A' _=H2;have s2:=ah hA z;have y2:=ai z;clear z)
  refine⟨by decide,fun F hF=>?_⟩
  (generalize z:upd H2 F _=H3;have s3:=ah hF z;have y3:=ai z;clear z)
  have y23:=s3 _ _ y2
  have hAF:A'≠F:=ag y2 hF
  have s03:=(s1.trans s2).trans s3
  have hF0:H F=none:=(s1.trans s2).free hF
  have hA0:H A' = none:=s1.free hA
  refine⟨fun m σ H'=>∃o3 o4 vs ls lf,σ=[some (.ref T),some (.ref A'),some (.ref F),o3,o4]∧m=lf.length∧Same H H'∧H' A' = some (.dK (lf.map nmV))∧H' F=some (.lst vs)∧Paired (NewL H H' F) vs ls∧cE (RimS (En ts)) ls ∧
    (∀x:Nat × Nat,x∈lf↔RimS (En ts) x.1 x.2∧x.1∉ls.flatten)∧(lf.map (·.1)).Nodup∧lf.length≤60∧(∀m∈ls,∀c,m[0]? = some c→∀p∈lf.map (·.1),c < p),
   ⟨_,none,none,[],[],rs,rfl,rfl,s03,y23,y3,.nil,cE.nil,fun x=>by rw[memr x];simp,kyn,lrs,by simp⟩,?_⟩
  rintro m σ H' ⟨o3,o4,vs',ls,lf,rfl,rfl,sm,hA',hF',pr,ru,mem,nd,llf,low⟩
  refine⟨_,rfl,fun e he=>?_⟩
  (generalize z:upd H' e _=H4;have s4:=ah he z;have y4:=ai z;clear z)
  refine⟨A',e,_,rfl,rfl,.inl (s4 _ _ hA'),.inl y4,_,rfl,?_⟩
  have lls:ls.length≤60:=by
   have h1:=kj fun m hm=>(ru.cyc m hm).ne
   have h2:=cK ru.nd (m:=rs.map (·.1)) fun z hz=>by
    obtain⟨q',hq'⟩:=ru.in hz
    exact List.mem_map.mpr ⟨(z,q'),(memr _).mpr hq',rfl⟩
   rw[List.length_map] at h2;omega
  cases hlf:lf with
  |nil=>
   refine iteF ⟨_,rfl,F,vs',ls.map cI,rfl,SqL.of (s4 _ _ hF'),lA (Paired.imp' (fun _ _ ⟨a,e1,_,_,e4⟩=>⟨a,e1,s4 _ _ e4⟩) pr),by rw[ax pr];omega,fun p ix hp pm pw=>?_⟩
   have rims:Rims (RimS (En ts)) ls:=ru.done fun p ⟨q',hp⟩=>Classical.byContradiction fun z=>by
    have:(p,q')∈lf:=(mem (p,q')).mpr ⟨hp,fun h=>z (List.mem_flatten.mp h)⟩
    rw[hlf] at this;cases this
   have er:ix=List.range (ls.map cI).length:=tq (by rw[List.length_map,←ax pr];exact pm) (by
    rw[List.pairwise_map]
    refine List.Pairwise.imp_of_mem (fun {l m} hl hm h=>?_) ru.rise
    obtain⟨x,hx,_⟩:=(ru.cyc l hl).toPath.begin
    obtain⟨y,hy,_⟩:=(ru.cyc m hm).toPath.begin
    exact oS hx hy (h x y hx hy)) pw
   have ev:(ix.map fun i=>vs'.getD i .non)=vs':=by
    rw[er,List.length_map,←ax pr]
    exact mm vs'
   rw[ev]
   (generalize z:upd H4 p _=H5;have s5:=ah hp z;have y5:=ai z;clear z)
   have s45:=s4.trans s5
   exact q p vs' ls H5 ((sm.trans s4).free hp) (sm.trans s45) y5 (Paired.imp' (fun _ _ ⟨a,e1,_,_,e4⟩=>⟨a,e1,s45 _ _ e4⟩) pr) rims
  |cons x0 lf0=>
   have hne:lf≠[]:=by rw[hlf];simp
   rw[←hlf]
   clear hlf
   rw[show (!(lf.map nmV).isEmpty)=true by cases lf with
    |nil=>exact absurd rfl hne
    |cons a b=>rfl]
   have hA4:=s4 _ _ hA'
   have hF4:=s4 _ _ hF'
   refine iteT ⟨fun σ' H''=>∃o3 o4 vs ls lf',σ' = [some (.ref T),some (.ref A'),some (.ref F),o3,o4]∧lf'.length < lf.length∧Same H H''∧H'' A' = some (.dK (lf'.map nmV))∧H'' F=some (.lst vs)∧Paired (NewL H H'' F) vs ls∧cE (RimS (En ts)) ls ∧
     (∀x:Nat × Nat,x∈lf'↔RimS (En ts) x.1 x.2∧x.1∉ls.flatten)∧(lf'.map (·.1)).Nodup∧lf'.length≤60∧(∀m∈ls,∀c,m[0]? = some c→∀p∈lf'.map (·.1),c < p),
    fun σ' H'' ⟨o3,o4,vs,ls,lf',e,hlt,r⟩=>⟨_,hlt,o3,o4,vs,ls,lf',e,rfl,r⟩,?_⟩
   refine⟨_,rfl,A',_,cI (lf.map (·.1)),rfl,.inl hA4,by rw[hX,cI_V],by simpa [cI] using hne,fun mi hmi hmin=>⟨lit1,fun r3 hr3=>?_⟩⟩
   obtain⟨c,hc,rfl⟩:=List.mem_map.mp hmi
   have hcmin:∀p∈lf.map (·.1),c≤p:=fun p hp=>by
    have:=hmin (p:Int) (List.mem_map.mpr ⟨p,hp,rfl⟩)
    omega
   (generalize z:upd H4 r3 _=H5;have s5:=ah hr3 z;have y5:=ai z;clear z)
   have key:∀p,p∈lf.map (·.1)↔(∃q,RimS (En ts) p q)∧p∉ls.flatten:=fun p=>by
    constructor
    ·intro h
     obtain⟨⟨a,b⟩,h1,rfl⟩:=List.mem_map.mp h
     exact⟨⟨b,((mem _).mp h1).1⟩,((mem _).mp h1).2⟩
    ·rintro⟨⟨q',h⟩,n⟩
     exact List.mem_map.mpr ⟨(p,q'),(mem _).mpr ⟨h,n⟩,rfl⟩
   have onw:∀p q,p∈lf.map (·.1)→RimS (En ts) p q→q∈lf.map (·.1):=fun p q' hp hr=>(key q').mpr ⟨rgo _ _ hr,fun z=>by
    obtain⟨m,hm,hz⟩:=List.mem_flatten.mp z
    exact ((key p).mp hp).2 (List.mem_flatten.mpr ⟨m,hm,(ru.cyc m hm).before rinj hz hr⟩)⟩
   have rF:r3≠F:=fun z=>by rw[z,hF4] at hr3;cases hr3
   have rA:r3≠A':=fun z=>by rw[z,hA4] at hr3;cases hr3
   have hr30:H r3=none:=(sm.trans s4).free hr3
   refine⟨fun m σ H''=>∃ps:List Nat,σ=[some (.ref T),some (.ref A'),some (.ref F),some (.ref r3),o4]∧m=lf.length+1 - ps.length∧Same H4 H''∧H'' r3=some (.lst (nV ps))∧Path (RimS (En ts)) ps∧ps[0]? = some c∧(∀p∈ps,p∈lf.map (·.1)),
    ⟨_,[c],rfl,rfl,s5,y5,Path.one _ c,rfl,fun p hp=>by rw[List.mem_singleton.mp hp];exact hc⟩,?_⟩
   rintro m σ H6 ⟨ps,rfl,rfl,s6,y6,path,h0,pin⟩
   have hp0:=(List.getElem?_eq_some_iff.mp h0).1
   have lps:ps.length≤lf.length:=by have:=cK path.nd pin;rw[List.length_map] at this;exact this
   obtain⟨z,hz⟩:∃z,ps[ps.length - 1]? = some z:=⟨_,List.getElem?_eq_getElem (by omega)⟩
   obtain⟨i,x,h1,h2,_⟩:=eL (pin z (List.mem_of_getElem? hz))
   have hzx:RimS (En ts) z x:=((mem (z,x)).mp (List.mem_of_getElem? h1)).1
   have hA6:=s6 _ _ hA4
   have hat:=nS hz
   have hat0:atI (nV ps) 0=some (V.int (c:Int)):=bp (j:=0) (mJ h0)
   refine⟨_,rfl,_,rfl,_,rfl,r3,_,_,_,rfl,rfl,SqL.of y6,hat,A',V.int (x:Int),rfl,.inl ⟨_,Sum.inl (z:Int),.inl hA6,rfl,h2.symm⟩,_,rfl,r3,_,_,_,rfl,rfl,SqL.of y6,hat0,rfl,_,rfl,?_⟩
   show if (!decide (V.int (x:Int)=V.int (c:Int)))=true then _ else _
   rw[decI]
   by_cases hxc:x=c
   ·subst hxc
    rw[decide_eq_true rfl]
    have cyc:Cyc (RimS (En ts)) ps:=⟨path,fun p q' hp hq=>by rw[hz] at hp;rw[h0] at hq;cases hp;cases hq;exact hzx⟩
    obtain⟨ru',dj⟩:=ru.step rinj cyc h0 (fun m hm zz=>((key x).mp hc).2 (List.mem_flatten.mpr ⟨m,hm,zz⟩)) (fun p hp hlt=>Classical.byContradiction fun zz=>by
     have:=hcmin p ((key p).mpr ⟨hp,fun h=>zz (List.mem_flatten.mp h)⟩)
     omega) (fun m hm y hy=>low m hm y hy x hc)
    refine iteF ⟨_,rfl,r3,rfl,⟨_,SqL.of y6⟩,bj (K:=K) (a:=r3) (xs:=nV ps) (fun i σ H''=>∃o4',σ=[some (.ref T),some (.ref A'),some (.ref F),some (.ref r3),o4']∧(∀b o,b≠A'→H6 b=some o→H'' b=some o)∧H'' A' = some (.dK ((lf.filter fun y=>decide (y.1∉ps.take i)).map nmV)))
     ⟨o4,rfl,fun b o _ e=>e,by rw[hA6,List.filter_eq_self.mpr (by simp)]⟩ (fun i σ H'' _ ⟨_,_,e,_⟩=>SqL.of (e _ _ rA y6)) ?_ ?_⟩
    ·rintro j y σ H7 hj ⟨o4',rfl,k7,hA7⟩
     rw[nV,List.getElem?_map] at hj
     obtain⟨w',hw,rfl⟩:=Option.map_eq_some_iff.mp hj
     have etj:ps.take (j+1)=ps.take j++[w']:=by rw[List.take_add_one,hw];rfl
     have nz:w'∉ps.take j:=fun h=>by
      have nd:=path.nd
      rw[←List.take_append_drop (j+1) ps,etj,List.nodup_append,List.nodup_append] at nd
      exact nd.1.2.2 w' h w' (by simp) rfl
     have win:w'∈(lf.filter fun y=>decide (y.1∉ps.take j)).map (·.1):=by
      obtain⟨y,hy,rfl⟩:=List.mem_map.mp (pin w' (List.mem_of_getElem? hw))
      exact List.mem_map.mpr ⟨y,List.mem_filter.mpr ⟨hy,decide_eq_true nz⟩,rfl⟩
     obtain⟨_,v,_,hv,_⟩:=eL win
     refine⟨_,rfl,A',rfl,.inl ⟨_,.inl hA7⟩,_,rfl,_,Sum.inl (w':Int),_,hA7,rfl,hv,?_⟩
     rw[nW]
     refine⟨_,rfl,fun b o n e=>by rw[au n];exact k7 b o n e,?_⟩
     rw[al,List.filter_filter,etj]
     congr 3
     refine List.filter_congr fun y _=>?_
     rw[Bool.eq_iff_iff]
     simp
     exact And.comm
    ·rintro σ H7 ⟨o4',rfl,k7,hA7⟩
     rw[aG,List.take_length] at hA7
     have hF7:H7 F=some (.lst vs'):=k7 _ _ hAF.symm (s6 _ _ hF4)
     refine⟨_,rfl,.inl ⟨rfl,_,SqL.of hF7⟩,_,rfl,F,_,_,rfl,rfl,hF7,by rw[ax pr];omega,?_⟩
     (generalize z:upd H7 F _=H8;have k8:=aH z;have y8:=ai z;clear z)
     have up:∀b o,b≠A'→b≠F→H4 b=some o→H8 b=some o:=fun b o n n' e=>by rw[k8 b n'];exact k7 _ _ n (s6 _ _ e)
     refine⟨_,_,_,ls++[ps],lf.filter fun y=>decide (y.1∉ps),rfl,?_,fun b o e=>up b o (ag e hA0) (ag e hF0) (s4 _ _ (sm _ _ e)),(k8 _ hAF).trans hA7,y8,?_,ru',fun y=>?_,nd.sublist (List.Sublist.map _ List.filter_sublist),?_,fun m hm c' hc' p hp=>?_⟩
     ·obtain⟨y,hy,hyc⟩:=List.mem_map.mp hc
      refine jn lf _ hy ?_
      rw[hyc]
      exact decide_eq_false fun zz=>zz (List.mem_of_getElem? h0)
     ·refine bO (Paired.imp' (fun _ _ ⟨a,e1,e2,e3,e4⟩=>⟨a,e1,e2,e3,up a _ (bi (s4 _ _ e4) hA4 (by intro zz;cases zz)) e3 (s4 _ _ e4)⟩) pr) (.cons ⟨r3,rfl,hr30,rF,?_⟩ .nil)
      rw[k8 r3 rF];exact k7 _ _ rA y6
     ·rw[List.mem_filter,mem y,decide_eq_true_eq,List.flatten_append,List.mem_append]
      constructor
      ·rintro⟨⟨a,b⟩,c'⟩;exact⟨a,fun zz=>zz.elim b fun z2=>c' (by simpa using z2)⟩
      ·rintro⟨a,b⟩;exact⟨⟨a,fun zz=>b (.inl zz)⟩,fun zz=>b (.inr (by simpa using zz))⟩
     ·exact Nat.le_trans (List.length_filter_le _ _) llf
     ·obtain⟨y,hy,rfl⟩:=List.mem_map.mp hp
      obtain⟨hy1,hy2⟩:=List.mem_filter.mp hy
      have hyk:y.1∈lf.map (·.1):=List.mem_map.mpr ⟨y,hy1,rfl⟩
      rcases List.mem_append.mp hm with hm|hm
      ·exact low m hm c' hc' _ hyk
      ·rw[List.mem_singleton.mp hm,h0] at hc'
       cases hc'
       have h3:=hcmin _ hyk
       have h4:y.1≠x:=fun zz=>of_decide_eq_true hy2 (by rw[zz];exact List.mem_of_getElem? h0)
       omega
   ·rw[decide_eq_false (by omega)]
    refine iteT ⟨fun σ' H''=>∃ps':List Nat,σ' = [some (.ref T),some (.ref A'),some (.ref F),some (.ref r3),o4]∧ps'.length=ps.length+1∧Same H4 H''∧H'' r3=some (.lst (nV ps'))∧Path (RimS (En ts)) ps'∧ps'[0]? = some c∧(∀p∈ps',p∈lf.map (·.1)),
     fun σ' H'' ⟨ps',e,h1,h2,h3,h4,h5,h6⟩=>⟨lf.length+1 - ps'.length,by omega,ps',e,rfl,h2,h3,h4,h5,h6⟩,?_⟩
    have hx:x∉ps:=fun h=>by
     have:=path.home rinj hz hzx h
     rw[h0] at this;cases this;exact hxc rfl
    refine⟨_,rfl,.inl ⟨rfl,_,SqL.of y6⟩,_,rfl,_,rfl,_,rfl,r3,_,_,_,rfl,rfl,SqL.of y6,hat,A',V.int (x:Int),rfl,.inl ⟨_,Sum.inl (z:Int),.inl hA6,rfl,h2.symm⟩,r3,_,_,rfl,rfl,y6,by rw[aG];omega,?_⟩
    refine⟨ps++[x],rfl,by simp,fun b' o e=>?_,by rw[al,iy,cX],path.snoc hz hzx hx,by rw[List.getElem?_append_left hp0];exact h0,fun p hp=>?_⟩
    ·rw[au (ag e hr3)];exact s6 _ _ e
    ·rcases List.mem_append.mp hp with h|h
     ·exact pin p h
     ·rw[List.mem_singleton.mp h];exact onw z x (pin z (List.mem_of_getElem? hz)) hzx
end
end K15
end
section
namespace K15
open PySem L2 K51 K31
def lsD (ls:List (List Nat)):List PyData:=ls.map fun l=>PyData.list (l.map fun n:Nat=>PyData.int (n:Int))
theorem iJ {K:W.Frag} {H:Hp}:∀{vs:List V} {ls:List (List Nat)},gd H vs ls→Dts K H vs (lsD ls)
 |_,_,.nil=>.nil
 |_,_,.cons ⟨a,e1,e2⟩ t=>by subst e1;exact .cons (.lst (SqL.of e2) (qR _)) (iJ t)
theorem qW (ls:List (List Nat)):(PyData.list (lsD ls)).depth≤60:=by
 have:PyData.depthAll (lsD ls)≤3:=by
  induction ls with
  |nil=>simp[lsD,PyData.depthAll]
  |cons a l ih=>
   have:=qV a
   unfold lsD at ih ⊢
   simp only[List.map_cons,PyData.depthAll];omega
 simp only[PyData.depth]
 omega
theorem sV (l:List Nat):bL (l.map fun n:Nat=>PyData.int (n:Int))=true:=by
 induction l with
 |nil=>rfl
 |cons a l ih=>rw[List.map_cons];show (noBl _&&bL _)=true;rw[ih];rfl
theorem nQ (ls:List (List Nat)):PyData.eqv (.list (lsD ls)) (.list (lsD ls))=true:=by
 have nb:noBl (.list (lsD ls))=true:=by
  show bL (lsD ls)=true
  induction ls with
  |nil=>rfl
  |cons a l ih=>
   show (bL (a.map fun n:Nat=>PyData.int (n:Int))&&bL (lsD l))=true
   rw[ih,sV];rfl
 exact (nU _ _ nb nb).mpr rfl
structure KitL (K:W.Frag):Prop where
 l:W.kitOne K (.type "list") (.type "list")=some true
def jE (Cs:Addr):Sp:=fun vs H Q _=>∃(x T:Addr) (vt:List V) (ts:List Tri),vs=[.ref x,.ref T]∧SkAt Cs H x ts∧H T=some (.lst vt)∧aA H vt ts∧ts.length≤20∧Good ts∧(∀c,Co ts c→One (En ts) c)∧∀H',Sm H H'→Q (.bl true) H'
section
variable {P:Program} {w:World} {K:W.Frag} {mg:Str→Option Value} {base:Heap}
def vw (K:W.Frag):TE:=tCB (fun xs H Q=>∃(x:V) (ty:Value) (b:Bool),xs=[x,.ty "list"]∧TyOf K H x ty∧W.kitOne K ty (.type "list")=some b∧Q (.bl b) H) (dn (tVar 0) (dn (tC (.ty "list")) tNil))
theorem fN:aC ["_law_skin_here","_law_triples","_law_due","_law_k","_law_found","_law_rim"] ["_law_skin_here","_law_triples"] (af cO):=⟨rfl,rfl,rfl,by decide +kernel,rfl,by decide +kernel,by decide +kernel⟩
theorem qc {f f1 f2 Cs:Addr} {fd d1 d2:FuncData} (U:Fun K "_law_right" "_law_right" cO f fd) (T:TxtN mg) (F:KitL K)
  (GL:Use P w K mg base 3 "_law_rims" ["_law_triples"] jI f1 d1) (GO:Use P w K mg base 3 "rims" ["skin"] (jD Cs) f2 d2) :
  FnOk P w K mg base CX0 4 f fd ["_law_skin_here","_law_triples"] (jE Cs):=by
 refine U.ok fN (fun vs H Q E h=>?_) (fun cdv A outer s H vs Q E hr h=>?_)
 ·obtain⟨x,T,vt,ts,rfl,_⟩:=h
  rfl
 ·obtain⟨x,T0,vt,ts,rfl,sk,hT,tr,hl,g,hone,q⟩:=h
  have hu:=b_ hr
  have hline:=line5000
  refine⟨_,(ae (av (i:=2) fN.nd rfl (Or.inl rfl) (ar GL.g hr rfl GL.m GL.k GL.b .nil pass0 (aa (pv 1) ac)))
   (ae (bd PassesOwn.never rfl (dc rfl T.range (aa aj ac)) (aq (i:=3) fN.nd rfl (Or.inl rfl))
    (ae (av (i:=4) fN.nd rfl (Or.inl rfl) (ar GO.g hr rfl GO.m GO.k GO.b .nil pass0 (aa (pv 0) ac)))
    (ae (cm (PW.pt (jd (eI (dL (aB (dW (c:="list")) (by rfl) T.isi PyProof.Rows.boot_isinstance (aa (pv 4) (aa (fS (v:=.ty "list") rfl T.list PyProof.Rows.boot_list rfl) ac)))))
      (jd (eI (dL (aB (fj rfl) (by rfl) T.all lK (aa (bJ (N:=["_law_rim"]) (fr:=[none]) (te:=vw K) (fH (by decide +kernel) rfl (by decide +kernel) (by decide +kernel)) rfl (aK (pv 4))
       (fun C s H fp pins=>⟨aq (i:=0) (show (["_law_rim"]:List Str).Nodup by decide +kernel) rfl (Or.inl rfl) (.inr rfl),cf,aB (dW (c:="list")) (by rfl) T.isi PyProof.Rows.boot_isinstance (aa (pv 0) (aa (fS (v:=.ty "list") rfl T.list PyProof.Rows.boot_list rfl) ac))⟩)) ac))))
      (jW (aF (mz hr.units) (pv 4) (pv 2) (nomark _)))))) (ak (aD ip)) aZ)
    (ae (bd PassesOwn.never rfl (aK (pv 4)) (aq (i:=5) fN.nd rfl (Or.inl rfl))
     (ae (aT (uG PySem.F.plainAttrs_list PySem.F.slot_list_reverse PySem.F.type_list_reverse mK (pv 5)))
     (ak (aT (bU PySem.F.plainAttrs_list PySem.F.slot_list_append PySem.F.type_list_append aR (pv 5) (aa (bq aL (pv 5) aj (fun _ _=>rfl)) ac))))))
    (ak (aT (bU PySem.F.plainAttrs_list PySem.F.slot_list_append PySem.F.type_list_append aR (pv 4) (aa (aV (aa aj (aa aj (aa aj ac)))) ac))))))))
   (ak (aD ip)))),?_⟩
  obtain⟨rone,rinj,rgo⟩:=db g hone
  refine⟨_,rfl,T0,vt,ts,rfl,hT,tr,hl,g,hone,fun d vd ld H1 hd0 s1 yd lp rd=>?_⟩
  have skd:=sk.sm (Sm.of s1)
  refine⟨2,rfl,by decide,by decide,dS (lo:=0) (n:=((2:Int)).toNat) (fun i σ H'=>∃o3 o4 o5,σ=[some (.ref x),some (.ref T0),some (.ref d),o3,o4,o5]∧Sm H1 H') ⟨none,none,none,rfl,Sm.refl _⟩ ?_ ?_⟩
  ·rintro i σ H2 hi ⟨o3,o4,o5,rfl,sm⟩
   refine⟨_,rfl,x,ts,rfl,skd.sm sm,g,hone,by omega,fun t vs' ls H3 ht0 sm3 yt pr rm lls lll=>?_⟩
   have el:ls=ld:=rm.uniq rone rinj rd
   subst el
   have sm13:=sm.trans sm3
   refine⟨_,rfl,_,_,true,rfl,.lst yt,F.l,_,rfl,iteF ?_⟩
   refine⟨_,rfl,t,rfl,⟨_,SqL.of yt⟩,fun Z hZ=>bf (K:=K) (a:=t) (xs:=vs') (fun i σ ys H'=>∃o,σ=[o]∧ys=(List.replicate i true).map V.bl∧H' = upd H3 Z (.lst ys)) ⟨none,rfl,rfl,rfl⟩ (fun i σ ys H' _ ⟨_,_,_,e⟩=>by rw[e];exact SqL.of (ay hZ _ _ yt)) ?_ ?_⟩
   ·rintro j y σ ys H' hj ⟨o,rfl,rfl,rfl⟩
    have hjl:=(List.getElem?_eq_some_iff.mp hj).1
    rw[ax pr] at hjl
    obtain⟨l,_,a,rfl,_,_,ha⟩:=aU pr hj
    refine⟨_,rfl,_,_,true,rfl,.lst (ay hZ _ _ ha),F.l,al,by rw[List.length_map,List.length_replicate];omega,_,rfl,?_,by rw[cv]⟩
    rw[List.replicate_succ',List.map_append];rfl
   rintro σ ys H' ⟨o,rfl,rfl,rfl⟩
   refine⟨Z,List.replicate vs'.length true,rfl,SqL.of al,?_⟩
   rw[show (List.replicate vs'.length true).all id=true by simp]
   (generalize z:upd H3 Z _=H4;have s4:=ah hZ z;have y4:=ai z;clear z)
   have yt4:=s4 _ _ yt
   have sm14:=sm13.trans (Sm.of s4)
   refine⟨_,rfl,iteF ⟨_,rfl,_,rfl,_,_,.lst (SqL.of yt4) (iJ (ls:=ls) (Paired.imp' (fun _ _ ⟨a,e1,_,_,e4⟩=>⟨a,e1,s4 _ _ e4⟩) pr)),.lst (SqL.of (sm14.keep yd (fun z=>z))) (iJ (ls:=ls) (Paired.imp' (fun _ _ ⟨a,e1,e4⟩=>⟨a,e1,sm14.keep e4 (fun z=>z)⟩) lp)),qW _,_,rfl,?_⟩⟩
   rw[nQ]
   have sm24:Sm H2 H4:=sm3.trans (Sm.of s4)
   refine iteF ⟨_,rfl,t,rfl,⟨_,SqL.of yt4⟩,bj (K:=K) (a:=t) (xs:=vs') (fun j σ H'=>∃o5,σ=[some (.ref x),some (.ref T0),some (.ref d),some (.int (0+(i:Int))),some (.ref t),o5]∧Sm H2 H'∧H' t=some (.lst vs')∧∀v∈vs',∃a xs,v=V.ref a∧H2 a=none∧a≠t∧H' a=some (.lst xs)∧xs≠[]∧xs.length≤600+j)
    ⟨_,rfl,sm24,yt4,fun v hv=>?_⟩ (fun j σ H' _ ⟨_,_,_,e,_⟩=>SqL.of e) ?_ ?_⟩
   ·obtain⟨j,hj⟩:=List.mem_iff_getElem?.mp hv
    obtain⟨l,hl',a,rfl,e2,e3,ha⟩:=aU pr hj
    have hlm:=List.mem_of_getElem? hl'
    exact⟨a,_,rfl,e2,e3,s4 _ _ ha,fun z=>(rm.cyc l hlm).ne (by simpa [nV] using z),by rw[aG];have:=lll l hlm;omega⟩
   ·rintro j v σ H5 hj ⟨o5',rfl,sm5,yt5,each⟩
    have hjl:=(List.getElem?_eq_some_iff.mp hj).1
    rw[ax pr] at hjl
    obtain⟨a,xs,rfl,a2,at_,ya,ne,lxs⟩:=each v (List.mem_of_getElem? hj)
    refine⟨_,rfl,.inl ⟨rfl,_,SqL.of ya⟩,a,xs,rfl,rfl,ya,?_⟩
    (generalize z:upd H5 a _=H6;have k6:=aH z;have y6:=ai z;clear z)
    have lr:0 < xs.reverse.length:=by rw[List.length_reverse];exact List.length_pos_iff.mpr ne
    have hat:atI xs.reverse 0=some (xs.reverse[0]):=bp (j:=0) (List.getElem?_eq_getElem lr)
    refine⟨_,rfl,.inl ⟨rfl,_,SqL.of y6⟩,_,rfl,a,_,_,_,rfl,rfl,SqL.of y6,hat,a,_,_,rfl,rfl,y6,by rw[List.length_reverse];omega,?_⟩
    (generalize z:upd H6 a _=H7;have k7:=aH z;have y7:=ai z;clear z)
    refine⟨_,rfl,fun b o e=>?_,by rw[k7 t at_.symm,k6 t at_.symm];exact yt5,fun v hv=>?_⟩
    ·have n:=ag e a2
     rw[k7 b n,k6 b n]
     exact sm5 b o e
    ·obtain⟨b,ws,rfl,b2,bt,yb,nb,lb⟩:=each v hv
     by_cases hab:b=a
     ·subst hab
      exact⟨b,_,rfl,b2,bt,y7,by simp,by rw[List.length_append,List.length_reverse,List.length_singleton];omega⟩
     ·exact⟨b,ws,rfl,b2,bt,by rw[k7 b hab,k6 b hab];exact yb,nb,by omega⟩
   ·rintro σ H5 ⟨o5',rfl,sm5,yt5,each⟩
    refine⟨_,rfl,.inl ⟨rfl,_,SqL.of yt5⟩,lit3,fun l3 g3=>?_⟩
    (generalize z:upd H5 l3 _=H6;have s6:=ah g3 z;have y6:=ai z;clear z)
    refine⟨t,_,_,rfl,rfl,s6 _ _ yt5,by rw[ax pr];omega,?_⟩
    (generalize z:upd H6 t _=H7;have k7:=aH z;have y7:=ai z;clear z)
    refine⟨_,_,_,rfl,sm.trans fun b o e=>?_⟩
    have n:=ag e ht0
    rw[k7 b n]
    exact (sm5.trans (Sm.of s6)) b o e
  ·rintro σ H2 ⟨o3,o4,o5,rfl,sm⟩
   exact q H2 ((Sm.of s1).trans sm)
end
end K15
end
section
namespace K15
def nxt (n k:Nat):Nat:=(k+1) % n
def wtri (n k:Nat):Tri:=(0,1+k,1+nxt n k)
def wheel (n:Nat) (S:List Nat):List Tri:=S.map (wtri n)
theorem md {x n:Nat} (h:x < 2 * n):x % n=if x < n then x else x - n:=by
 split
 ·exact Nat.mod_eq_of_lt ‹_›
 ·rw[Nat.mod_eq_sub_mod (by omega),Nat.mod_eq_of_lt (by omega)]
theorem cW {n k:Nat} (h:k < n):nxt n k=if k+1 < n then k+1 else k+1 - n:=md (by omega)
theorem uM {n k:Nat} (h:k < n):nxt n k < n:=by rw[cW h];split <;> omega
theorem nO {n k m:Nat} (h:k < n) (h':m < n) (e:nxt n k=nxt n m):k=m:=by
 rw[cW h,cW h'] at e
 split at e <;> split at e <;> omega
theorem di {n:Nat} {S:List Nat} {a b c:Nat}:En (wheel n S) a b c↔∃k∈S,(a=0∧b=1+k∧c=1+nxt n k)∨(a=1+k∧b=1+nxt n k∧c=0)∨(a=1+nxt n k∧b=0∧c=1+k):=by
 unfold En
 rw[bm]
 unfold wheel wtri
 simp only[List.mem_map,Prod.mk.injEq]
 constructor
 ·rintro (⟨k,hk,h1,h2,h3⟩|⟨k,hk,h1,h2,h3⟩|⟨k,hk,h1,h2,h3⟩)
  ·exact⟨k,hk,.inl ⟨h1.symm,h2.symm,h3.symm⟩⟩
  ·exact⟨k,hk,.inr (.inl ⟨h2.symm,h3.symm,h1.symm⟩)⟩
  ·exact⟨k,hk,.inr (.inr ⟨h3.symm,h1.symm,h2.symm⟩)⟩
 ·rintro⟨k,hk,⟨rfl,rfl,rfl⟩|⟨rfl,rfl,rfl⟩|⟨rfl,rfl,rfl⟩⟩
  ·exact .inl ⟨k,hk,rfl,rfl,rfl⟩
  ·exact .inr (.inl ⟨k,hk,rfl,rfl,rfl⟩)
  ·exact .inr (.inr ⟨k,hk,rfl,rfl,rfl⟩)
theorem fD {n:Nat} (hn:3≤n):Good (wheel n (List.range n)):=by
 refine⟨fun t ht=>?_,?_⟩
 ·obtain⟨k,hk,rfl⟩:=List.mem_map.mp ht
  have hk:=List.mem_range.mp hk
  have e:=cW hk
  refine⟨by show 0≠1+k;omega,?_,by show 1+nxt n k≠0;omega⟩
  show 1+k≠1+nxt n k
  rw[e];split <;> omega
 ·unfold ents wheel
  rw[List.map_flatMap,List.flatMap_map,List.Nodup,List.pairwise_flatMap]
  refine⟨fun k hk=>?_,List.pairwise_lt_range.imp_of_mem fun {a b} ha hb hab x hx y hy=>?_⟩
  ·have hk:=List.mem_range.mp hk
   have e:=cW hk
   simp only[wtri,List.map_cons,List.map_nil,List.pairwise_cons,List.mem_cons,List.not_mem_nil,or_false,ne_eq,forall_eq_or_imp,forall_eq,Prod.mk.injEq,List.Pairwise.nil,and_true,false_implies,implies_true]
   omega
  ·have ha:=List.mem_range.mp ha
   have hb:=List.mem_range.mp hb
   simp only[wtri,List.map_cons,List.map_nil,List.mem_cons,List.not_mem_nil,or_false] at hx hy
   have ni:nxt n a≠nxt n b:=fun z=>by have:=nO ha hb z;omega
   rcases hx with rfl|rfl|rfl <;> rcases hy with rfl|rfl|rfl <;> simp only[ne_eq,Prod.mk.injEq] <;> omega
theorem oE {n:Nat} {S:List Nat} (hS:∀k∈S,k < n) (hn:3≤n) (h0:One (En (wheel n S)) 0) (c:Nat):One (En (wheel n S)) c∨¬Co (wheel n S) c:=by
 by_cases hc:Co (wheel n S) c
 ·left
  by_cases c0:c=0
  ·subst c0;exact h0
  have st:∀p q,En (wheel n S) c p q↔(∃k∈S,c=1+k∧p=1+nxt n k∧q=0)∨(∃k∈S,c=1+nxt n k∧p=0∧q=1+k):=fun p q=>by
   rw[di]
   constructor
   ·rintro⟨k,hk,h|h|h⟩
    ·exact (c0 h.1).elim
    ·exact .inl ⟨k,hk,h⟩
    ·exact .inr ⟨k,hk,h⟩
   ·rintro (⟨k,hk,h⟩|⟨k,hk,h⟩)
    ·exact⟨k,hk,.inr (.inl h)⟩
    ·exact⟨k,hk,.inr (.inr h)⟩
  have u1:∀{k m},k∈S→m∈S→c=1+nxt n k→c=1+nxt n m→k=m:=fun hk hm e1 e2=>nO (hS _ hk) (hS _ hm) (by omega)
  by_cases A:∃k∈S,c=1+k <;> by_cases B:∃k∈S,c=1+nxt n k
  ·obtain⟨a,ha,ea⟩:=A
   obtain⟨b,hb,eb⟩:=B
   have key:∀p,(∃q,En (wheel n S) c p q)→p∈[1+nxt n a,0]:=fun p ⟨q,h⟩=>by
    rcases (st p q).mp h with ⟨k,hk,e1,e2,_⟩|⟨k,hk,e1,e2,_⟩
    ·rw[show k=a by omega] at e2;rw[e2];simp
    ·rw[e2];simp
   refine⟨[1+nxt n a,0],⟨by simp,by simp,fun i p q h1 h2=>?_,fun p hp=>?_,fun p _ q _ hq=>key q hq,fun p _ o ho=>key o ⟨p,ho⟩⟩,key⟩
   ·match i with
    |0=>simp at h1 h2;exact (st p q).mpr (.inl ⟨a,ha,ea,h1.symm,h2.symm⟩)
    |i+1=>simp at h2
   ·simp only[List.mem_cons,List.not_mem_nil,or_false] at hp
    rcases hp with rfl|rfl
    ·exact⟨0,(st _ _).mpr (.inl ⟨a,ha,ea,rfl,rfl⟩)⟩
    ·exact⟨1+b,(st _ _).mpr (.inr ⟨b,hb,eb,rfl,rfl⟩)⟩
  ·obtain⟨a,ha,ea⟩:=A
   have key:∀p,(∃q,En (wheel n S) c p q)→p∈[1+nxt n a]:=fun p ⟨q,h⟩=>by
    rcases (st p q).mp h with ⟨k,hk,e1,e2,_⟩|⟨k,hk,e1,_⟩
    ·rw[show k=a by omega] at e2;rw[e2];simp
    ·exact (B ⟨k,hk,e1⟩).elim
   refine⟨[1+nxt n a],⟨by simp,by simp,fun i p q h1 h2=>by simp at h2,fun p hp=>?_,fun p _ q _ hq=>key q hq,fun p _ o ho=>key o ⟨p,ho⟩⟩,key⟩
   rw[List.mem_singleton.mp hp]
   exact⟨0,(st _ _).mpr (.inl ⟨a,ha,ea,rfl,rfl⟩)⟩
  ·obtain⟨b,hb,eb⟩:=B
   have key:∀p,(∃q,En (wheel n S) c p q)→p∈[0]:=fun p ⟨q,h⟩=>by
    rcases (st p q).mp h with ⟨k,hk,e1,_⟩|⟨k,hk,_,e2,_⟩
    ·exact (A ⟨k,hk,e1⟩).elim
    ·rw[e2];simp
   refine⟨[0],⟨by simp,by simp,fun i p q h1 h2=>by simp at h2,fun p hp=>?_,fun p _ q _ hq=>key q hq,fun p _ o ho=>key o ⟨p,ho⟩⟩,key⟩
   rw[List.mem_singleton.mp hp]
   exact⟨1+b,(st _ _).mpr (.inr ⟨b,hb,eb,rfl,rfl⟩)⟩
  ·obtain⟨p,q,h⟩:=hc
   rcases (st p q).mp h with ⟨k,hk,e1,_⟩|⟨k,hk,e1,_⟩
   ·exact (A ⟨k,hk,e1⟩).elim
   ·exact (B ⟨k,hk,e1⟩).elim
 ·exact .inr hc
theorem ki {n:Nat} {S:List Nat} {p q:Nat}:En (wheel n S) 0 p q↔∃k∈S,p=1+k∧q=1+nxt n k:=by
 rw[di]
 constructor
 ·rintro⟨k,hk,⟨_,h⟩|⟨h,_⟩|⟨h,_⟩⟩
  ·exact⟨k,hk,h⟩
  ·omega
  ·omega
 ·rintro⟨k,hk,h⟩
  exact⟨k,hk,.inl ⟨rfl,h⟩⟩
theorem qH {n m:Nat} {S:List Nat} {w:Nat→Nat} (hm:1≤m) (hw:∀i,i < m→w i∈S) (cov:∀k∈S,∃i,i < m∧w i=k) (inj:∀i j,i < m→j < m→w i=w j→i=j) (ch:∀i,i+1 < m→w (i+1)=nxt n (w i)) :
  Fan (En (wheel n S)) 0 ((List.range m).map fun i=>1+w i)∧∀p,(∃q,En (wheel n S) 0 p q)→p∈(List.range m).map fun i=>1+w i:=by
 have all:∀p,(∃q,En (wheel n S) 0 p q)→p∈(List.range m).map fun i=>1+w i:=fun p ⟨q,h⟩=>by
  obtain⟨k,hk,rfl,_⟩:=ki.mp h
  obtain⟨i,hi,rfl⟩:=cov k hk
  exact List.mem_map.mpr ⟨i,List.mem_range.mpr hi,rfl⟩
 refine⟨⟨fun z=>?_,?_,fun i p q h1 h2=>?_,fun p hp=>?_,fun p _ q _ hq=>all q hq,fun p _ o ho=>all o ⟨p,ho⟩⟩,all⟩
 ·have:=congrArg List.length z
  simp at this
  omega
 ·rw[List.Nodup,List.pairwise_map]
  refine List.pairwise_lt_range.imp_of_mem fun {a b} ha hb hab z=>?_
  have:=inj a b (List.mem_range.mp ha) (List.mem_range.mp hb) (by omega)
  omega
 ·rw[List.getElem?_map] at h1 h2
  obtain⟨i1,e1,rfl⟩:=Option.map_eq_some_iff.mp h1
  obtain⟨i2,e2,rfl⟩:=Option.map_eq_some_iff.mp h2
  obtain⟨l1,e1⟩:=List.getElem?_eq_some_iff.mp e1
  obtain⟨l2,e2⟩:=List.getElem?_eq_some_iff.mp e2
  rw[List.length_range] at l1 l2
  rw[List.getElem_range] at e1 e2
  subst e1 e2
  exact ki.mpr ⟨w i,hw i l1,rfl,by rw[ch i l2]⟩
 ·obtain⟨i,hi,rfl⟩:=List.mem_map.mp hp
  exact⟨_,ki.mpr ⟨w i,hw i (List.mem_range.mp hi),rfl,rfl⟩⟩
theorem ol {n:Nat} (hn:3≤n):∀c,Co (wheel n (List.range n)) c→One (En (wheel n (List.range n))) c:=by
 obtain⟨fan,all⟩:=qH (n:=n) (m:=n) (S:=List.range n) (w:=fun i=>i) (by omega) (fun i hi=>List.mem_range.mpr hi) (fun k hk=>⟨k,List.mem_range.mp hk,rfl⟩) (fun _ _ _ _ e=>e) (fun i hi=>by rw[cW (by omega),if_pos hi])
 have h0:One (En (wheel n (List.range n))) 0:=⟨_,fan,all⟩
 exact fun c hc=>(oE (fun k hk=>List.mem_range.mp hk) hn h0 c).resolve_right fun z=>z hc
end K15
end
section
namespace K15
theorem ql {n k:Nat} (h:k < n):∃m,m < n∧nxt n m=k:=by
 by_cases c:k=0
 ·subst c
  exact⟨n - 1,by omega,by rw[cW (by omega)];split <;> omega⟩
 ·exact⟨k - 1,by omega,by rw[cW (by omega)];split <;> omega⟩
theorem gq {n:Nat} (hn:3≤n) {a b:Nat}:RimS (En (wheel n (List.range n))) a b↔∃k,k < n∧a=1+k∧b=1+nxt n k:=by
 unfold RimS
 constructor
 ·rintro⟨⟨q,hq⟩,no⟩
  obtain⟨k,hk,h⟩:=di.mp hq
  rw[List.mem_range] at hk
  rcases h with ⟨rfl,rfl,_⟩|⟨rfl,rfl,_⟩|⟨rfl,rfl,_⟩
  ·obtain⟨m,hm,e⟩:=ql hk
   exact (no ⟨_,di.mpr ⟨m,List.mem_range.mpr hm,.inr (.inr ⟨by rw[e],rfl,rfl⟩)⟩⟩).elim
  ·exact⟨k,hk,rfl,rfl⟩
  ·exact (no ⟨_,di.mpr ⟨nxt n k,List.mem_range.mpr (uM hk),.inl ⟨rfl,rfl,rfl⟩⟩⟩).elim
 ·rintro⟨k,hk,rfl,rfl⟩
  refine⟨⟨0,di.mpr ⟨k,List.mem_range.mpr hk,.inr (.inl ⟨rfl,rfl,rfl⟩)⟩⟩,fun⟨r,hr⟩=>?_⟩
  obtain⟨m,hm,h⟩:=di.mp hr
  rw[List.mem_range] at hm
  rcases h with ⟨h,_⟩|⟨h1,h2,_⟩|⟨_,h,_⟩
  ·omega
  ·have e1:nxt n k=m:=by omega
   have e2:k=nxt n m:=by omega
   rw[cW hk] at e1
   rw[cW hm] at e2
   split at e1 <;> split at e2 <;> omega
  ·omega
theorem ml {n:Nat} (hn:3≤n):Rims (RimS (En (wheel n (List.range n)))) [(List.range n).map fun i=>1+i]:=by
 have at_:∀i x,((List.range n).map fun i=>1+i)[i]? = some x→i < n∧x=1+i:=fun i x h=>by
  rw[List.getElem?_map] at h
  obtain⟨y,h1,h2⟩:=Option.map_eq_some_iff.mp h
  have:=(List.getElem?_eq_some_iff.mp h1).1
  rw[List.length_range] at this
  rw[List.getElem?_range this] at h1
  cases h1
  exact⟨this,h2.symm⟩
 refine⟨fun l hl=>?_,fun l hl x hx p hp=>?_,fun p ⟨q,hq⟩=>?_,List.pairwise_singleton _ _⟩
 ·rw[List.mem_singleton.mp hl]
  refine⟨⟨fun z=>?_,?_,fun i p q hp hq=>?_⟩,fun p q hp hq=>?_⟩
  ·have:=congrArg List.length z
   rw[List.length_map,List.length_range] at this
   simp at this;omega
  ·rw[List.Nodup,List.pairwise_map]
   exact List.nodup_range.imp fun h e=>h (by omega)
  ·obtain⟨h1,rfl⟩:=at_ i p hp
   obtain⟨h2,rfl⟩:=at_ (i+1) q hq
   exact (gq hn).mpr ⟨i,h1,rfl,by rw[cW h1,if_pos h2]⟩
  ·rw[List.length_map,List.length_range] at hp
   obtain⟨h1,rfl⟩:=at_ _ p hp
   obtain⟨h2,rfl⟩:=at_ 0 q hq
   exact (gq hn).mpr ⟨n - 1,h1,rfl,by rw[cW h1,if_neg (by omega)];omega⟩
 ·rw[List.mem_singleton.mp hl] at hx hp
  obtain⟨_,rfl⟩:=at_ 0 x hx
  obtain⟨y,_,rfl⟩:=List.mem_map.mp hp
  omega
 ·obtain⟨k,hk,rfl,_⟩:=(gq hn).mp hq
  exact⟨_,by simp,List.mem_map.mpr ⟨k,List.mem_range.mpr hk,rfl⟩⟩
end K15
end
section
namespace L2
open PySem PySem.Spec PyProof.Rows
section
variable {X:Cx}
def sy:List V→Hp→VK→Prop:=fun xs H Q=>∃i j:Int,xs=[.int i,.int j]∧∀r,H r=none→Q (.ref r) (upd H r (.rng i j))
theorem gW:bM X (.type "range") sy:=by
 intro pins s σ H xs us Q I r h
 obtain⟨i,j,rfl,q⟩:=h
 obtain⟨u,v,rfl,⟨t,rfl⟩,⟨t',rfl⟩⟩:=r.two
 exact call_range_2 ⟨.ref s.heap.objs.size,upd H s.heap.objs.size (.rng i j),I.laid (t':=s.toks+1) (fun b o e=>Heap.get?_push_of_some _ e) (Nat.le_refl _) ⟨_,_,_,Heap.get?_push_size _ rfl⟩,rfl,q _ (I.hok.fresh (Nat.le_refl _))⟩
def oz:List V→Hp→VK→Prop:=fun xs H Q=>∃(a:Addr) (m n:Nat),xs=[.ref a]∧H a=some (.rng (m:Int) ((m:Int)+(n:Int)))∧n≤1000∧m≤1000∧∀l,H l=none→Q (.ref l) (upd H l (.lst ((List.range n).map fun (i:Nat)=>V.int ((m+i:Nat):Int))))
theorem iT (hc:X.calm=true):bM X (.type "list") oz:=by
 intro pins s σ H xs us Q I r h
 obtain⟨a,m,n,rfl,ha,hn,hm,q⟩:=h
 obtain⟨u,rfl,ru⟩:=Vals.one r
 cases ru
 obtain⟨t1,t2,t3,e⟩:=(show aS X.prog X.w H s.heap a (.rng (m:Int) ((m:Int)+(n:Int))) from I.hok a _ ha)
 have hr:IsRange s.heap a (m:Int) ((m:Int)+(n:Int)) 1 t1 t2 t3:=e
 have hsz:Builtin.Range.rangeSize (m:Int) ((m:Int)+(n:Int)) 1=(n:Nat):=by rw[rangeSize_one];split <;> omega
 refine call_list_range (I.ok.hd hc) hr (small_one (by omega) (by omega) (by omega) (by omega)) hsz (by omega) fun h' tk acc c kp e' it=>?_
 have hp:s.heap.objs.size≤s.heap.objs.size:=Nat.le_refl _
 refine⟨.ref s.heap.objs.size,upd H s.heap.objs.size (.lst ((List.range n).map fun (i:Nat)=>V.int ((m+i:Nat):Int))),I.laid (t':=tk) kp hp ⟨by simp;rw[sizeLine_eq];omega,acc.toList,c,fk (by simp[it.1]) fun j v ej=>?_,by rw[e']⟩,rfl,q _ (I.hok.fresh hp)⟩
 obtain⟨tv,hv⟩:=it.2 j v (by simpa using ej)
 have hj:j < n:=by
  have:=(List.getElem?_eq_some_iff.mp ej).1
  rw[Array.length_toList,it.1] at this;exact this
 refine⟨.int ((m+j:Nat):Int),by simp[hj],tv,?_⟩
 rw[hv]
 simp
end
end L2
end
section
namespace K15
open PySem L2 K51 K31
def ku (K:W.Frag):Sp:=fun vs H Q _=>∃(a:Addr) (ns:List Int),vs=[.ref a]∧SqL K H a (ns.map V.int)∧ns.length≤63∧∀H',Q (.bl true) H'
section
variable {P:Program} {w:World} {K:W.Frag} {mg:Str→Option Value} {base:Heap}
theorem gI:aC ["_law_script","_law_pot_here","_law_triples","_law_seconds","_law_n","_law_skin_here","_law_other"] ["_law_script"] (af sLaw):=⟨rfl,rfl,rfl,by decide +kernel,rfl,by decide +kernel,by decide +kernel⟩
theorem uL {f f1 f2 f3 f4 f5 f6 f7 fa Cs:Addr} {d d1 d2 d3 d4 d5 d6 d7 da:FuncData} (U:Fun K "law" "law" sLaw f d) (T:TxtN mg) (M:Mk K Cs fa) (mSk:mg "Skin" = some (.ref Cs))
  (GP:Use P w K mg base 2 "_law_pot" ["_law_script","_law_k"] (pF K) f1 d1) (GH:Use P w K mg base 2 "_law_handed" ["_law_pot_here","_law_triples"] ic f2 d2) (GN:Use P w K mg base 2 "_law_named" ["_law_pot_here","_law_triples"] jF f3 d3)
  (GL:Use P w K mg base 4 "_law_skin" ["_law_pot_here","_law_most"] jH f4 d4) (GD:Use P w K mg base 1 "_law_digit" ["_law_pot_here","_law_base"] cZ f5 d5) (GO:Use P w K mg base 2 "rims" ["skin"] (jD Cs) f6 d6)
  (GR:Use P w K mg base 4 "_law_right" ["_law_skin_here","_law_triples"] (jE Cs) f7 d7) (GK:FnOk P w K mg base CX0 5 fa da ["self","triples"] (jC Cs)) (bK:Binds K da ["self","triples"] []) :
  FnOk P w K mg base CX0 7 f d ["_law_script"] (ku K):=by
 refine U.ok gI (fun vs H Q E h=>?_) (fun cdv A outer s H vs Q E hr h=>?_)
 ·obtain⟨a,ns,rfl,_⟩:=h
  rfl
 ·obtain⟨a,ns,rfl,hns,hnl,q⟩:=h
  have hr1:=hr.mono (show 1≤6 by decide)
  have hr2:=hr.mono (show 2≤6 by decide)
  have hr4:=hr.mono (show 4≤6 by decide)
  have hr6:=hr
  have hline:=line5000
  refine⟨_,(ae (av (i:=1) gI.nd rfl (Or.inl rfl) (ar GP.g hr2 rfl GP.m GP.k GP.b .nil pass0 (aa (pv 0) (aa aj ac))))
   (ae (av (i:=2) gI.nd rfl (Or.inl rfl) (ar GH.g hr2 rfl GH.m GH.k GH.b .nil pass0 (aa (pv 1) (aa (ar GN.g hr2 rfl GN.m GN.k GN.b .nil pass0 (aa (pv 1) (aa (ar GL.g hr4 rfl GL.m GL.k GL.b .nil pass0 (aa (pv 1) (aa aj ac))) ac))) ac))))
   (ae (av (i:=1) gI.nd rfl (Or.inl rfl) (ar GP.g hr2 rfl GP.m GP.k GP.b .nil pass0 (aa (pv 0) (aa aj ac))))
   (ae (av (i:=3) gI.nd rfl (Or.inl rfl) (ar GH.g hr2 rfl GH.m GH.k GH.b .nil pass0 (aa (pv 1) (aa (ar GN.g hr2 rfl GN.m GN.k GN.b .nil pass0 (aa (pv 1) (aa (ar GL.g hr4 rfl GL.m GL.k GL.b .nil pass0 (aa (pv 1) (aa aj ac))) ac))) ac))))
   (ae (av (i:=4) gI.nd rfl (Or.inr rfl) (az aX aj (ar GD.g hr1 rfl GD.m GD.k GD.b .nil pass0 (aa (pv 1) (aa aj ac)))))
   (ae (cm (aF (mz hr.units) (ar GO.g hr2 rfl GO.m GO.k GO.b .nil pass0 (aa (j5 M GK hr6 rfl mSk bK .nil pass0 (aa (bJ (N:=["_law_k","_law_n"]) (fr:=[none,some 4])  (aJ (by decide +kernel) rfl rfl (by decide +kernel) (by decide +kernel) (by
      intro y hy e
      simp only[List.mem_cons,List.not_mem_nil,or_false] at hy
      rcases hy with rfl|rfl|rfl
      all_goals first|(cases e;done)|exact .inl rfl|exact .inr rfl) (by
      intro j i y e1 e2
      match j,e1,e2 with
      |0,e1,_=>simp at e1
      |1,e1,e2=>simp at e1 e2;subst e1 e2;exact⟨rfl,rfl⟩
      |j+2,e1,_=>simp at e1)) rfl (dc rfl T.range (aa (pv 4) ac))
     (fun C' s' H' fp pins=>⟨(aq (i:=0) (show (["_law_k","_law_n"]:List Str).Nodup by decide +kernel) rfl (Or.inl rfl) (.inr rfl)),cf,(aE (aa aj (aa (az aX aj (pv 0)) (aa (az aX aj (az cJ (az aX (pv 0) aj) (pv 1))) ac))))⟩)) ac)) ac)) (aV (aa (aO (iT rfl) (by rfl) T.list PyProof.Rows.boot_list (aa (aO gW (by rfl) T.range PyProof.Rows.boot_range (aa aj (aa (az aX (pv 4) aj) ac))) ac)) ac)) (nomark _)) (ak (aD ip)) aZ)
   (ae (av (i:=5) gI.nd rfl (Or.inl rfl) (j5 M GK hr6 rfl mSk bK .nil pass0 (aa (aO fY (by rfl) T.list PyProof.Rows.boot_list (aa (pv 2) ac)) ac)))
   (ae (av (i:=6) gI.nd rfl (Or.inl rfl) (j5 M GK hr6 rfl mSk bK .nil pass0 (aa (aO fY (by rfl) T.list PyProof.Rows.boot_list (aa (pv 3) ac)) ac)))
   (ak (aD (gw (ar GR.g hr4 rfl GR.m GR.k GR.b .nil pass0 (aa (pv 5) (aa (pv 2) ac))) (gw (ar GR.g hr4 rfl GR.m GR.k GR.b .nil pass0 (aa (pv 6) (aa (pv 3) ac))) (j4 (ar GR.g hr4 rfl GR.m GR.k GR.b .nil pass0 (aa (pv 5) (aa (pv 2) ac)))))))))))))))),?_⟩
  refine⟨_,rfl,a,ns,0,rfl,hns,by decide,by decide,fun p H1 hp s1 y1=>?_⟩
  refine⟨_,rfl,_,rfl,_,rfl,p,_,rfl,y1,lg ns (by decide) (by decide),fun r vr ts q1 H2 nrp but2 hp2 pok2 yr tr lts g one=>?_⟩
  refine⟨p,r,_,vr,ts,rfl,hp2,pok2,yr,nrp,tr,lts,g,fun r2 vr2 ts2 q2 H3 hr3 but3 hp3 pok3 yr3 tr3 ll3 g3 hb3 one3=>?_⟩
  have nr2p:r2≠p:=fun z=>by rw[z,hp2] at hr3;cases hr3
  refine⟨p,r2,q2,vr2,ts2,rfl,hp3,pok3,yr3,nr2p,tr3,by omega,fun R vt us q3 H4 hr4' but4 hp4 pok4 hT ht ll4 hpm=>?_⟩
  have gu:Good us:=gD g3 hpm
  have lu:us.length≤20:=by omega
  have hone:∀c,Co us c→One (En us) c:=fun c hc=>(jg (fun _ _ _=>hpm.mem_iff) c).mpr (one3 one c ((n8 hpm c).mp hc))
  have go:∀{o:HO},H a=some o→H4 a=some o:=fun e=>by
   have n:=ag e hp
   exact but4 _ _ n (but3 _ _ n (but2 _ _ n (s1 _ _ e)))
  have ha4:SqL K H4 a (ns.map V.int):=by
   rcases hns with (e|⟨o,e⟩)|h
   ·exact .inl (.inl (go e))
   ·exact .inl (.inr ⟨o,go e⟩)
   ·exact .inr h
  clear hpm hr4' hp4 pok4 tr3 yr3 nr2p hp3 pok3 hr3 tr yr nrp hp2 pok2 but2 but3 but4 one3 one g3 hb3 g go
  refine⟨_,rfl,a,ns,1,rfl,ha4,by decide,by decide,fun p' H5 hp' s5 y5=>?_⟩
  refine⟨_,rfl,_,rfl,_,rfl,p',_,rfl,y5,lg ns (by decide) (by decide),fun r vr ts q1 H6 nrp but2 hp2 pok2 yr tr lts g one=>?_⟩
  refine⟨p',r,_,vr,ts,rfl,hp2,pok2,yr,nrp,tr,lts,g,fun r2 vr2 ts2 q2 H7 hr3 but3 hp3 pok3 yr3 tr3 ll3 g3 hb3 one3=>?_⟩
  have nr2p:r2≠p':=fun z=>by rw[z,hp2] at hr3;cases hr3
  refine⟨p',r2,q2,vr2,ts2,rfl,hp3,pok3,yr3,nr2p,tr3,by omega,fun R' vt' us' q3 H8 hr4' but4 hp4 pok4 hT' ht' ll4 hpm=>?_⟩
  have gu':Good us':=gD g3 hpm
  have lu':us'.length≤20:=by omega
  have hone':∀c,Co us' c→One (En us') c:=fun c hc=>(jg (fun _ _ _=>hpm.mem_iff) c).mpr (one3 one c ((n8 hpm c).mp hc))
  have s48:∀b o,H4 b=some o→H8 b=some o:=fun b o e=>by
   have n:=ag e hp'
   exact but4 _ _ n (but3 _ _ n (but2 _ _ n (s5 _ _ e)))
  have nRp:R≠p':=ag hT hp'
  have nR'p:R'≠p':=ng hT' ht' hp4
  have hT8:=s48 _ _ hT
  have ht8:aA H8 vt us:=Paired.imp' (fun _ _ ⟨b',e1,e2⟩=>⟨b',e1,s48 _ _ e2⟩) ht
  clear hpm hr4' tr3 yr3 nr2p hp3 pok3 hr3 tr yr nrp hp2 pok2 but2 but3 but4 one3 one g3 hb3 g s48 hT ht
  have dd1:=a_ (q:=q3) (b:=198) (by decide)
  obtain⟨m1,hm1⟩:∃m:Nat,digO q3 198=(m:Int):=⟨(digO q3 198).toNat,by omega⟩
  refine⟨_,rfl,p',q3,198,rfl,hp4,pok4,by decide,by decide +kernel,_,_,rfl,rfl,?_⟩
  (generalize z:upd H8 p' _=H9;have k9:=aH z;have y9:=ai z;clear z)
  rw[hm1]
  show cF 4 (V.int ((3:Int)+(m1:Int))) _ H9 _
  rw[show ((3:Int)+(m1:Int))=((3+m1:Nat):Int) by push_cast;rfl]
  have hn3:3≤3+m1:=by omega
  have hn2:3+m1≤200:=by omega
  generalize 3+m1=n at hn3 hn2
  clear dd1 hm1
  have hT9:=(k9 _ nRp).trans hT8
  have hT9':=(k9 _ nR'p).trans hT'
  have ht9:aA H9 vt us:=Paired.imp' (fun _ _ ⟨b',e1,e2⟩=>⟨b',e1,(k9 b' (bi e2 hp4 (by intro z;cases z))).trans e2⟩) ht8
  have ht9':aA H9 vt' us':=Paired.imp' (fun _ _ ⟨b',e1,e2⟩=>⟨b',e1,(k9 b' (bi e2 hp4 (by intro z;cases z))).trans e2⟩) ht'
  clear k9 y9 hT8 hT' ht8 ht' hp4 pok4
  refine⟨_,rfl,(n:Int),rfl,by omega,by omega,fun D hD=>mY (lo:=0) (n:=((n:Nat):Int).toNat) (fun k σ ys H'=>∃o,σ=[o,some (.int (n:Int))]∧Same H9 H'∧H' D=some (.lst ys)∧aA H' ys (wheel n (List.range k)))
   ⟨none,rfl,ay hD,al,.nil⟩ ?_ ?_⟩
  ·rintro k σ ys H' hk ⟨o,rfl,sk,hDk,htr⟩
   rw[Int.toNat_natCast] at hk
   have hly:=ax htr
   rw[wheel,List.length_map,List.length_range] at hly
   refine⟨_,rfl,_,_,rfl,rfl,_,rfl,_,_,rfl,rfl,_,rfl,_,_,rfl,rfl,(by show (0:Int) < (n:Int);omega),_,_,rfl,rfl,lit3,fun tt gt=>?_⟩
   (generalize z:upd H' tt _=Ha;have sa:=ah gt z;have ya:=ai z;clear z)
   have hDa:=sa _ _ hDk
   refine⟨hDa,by omega,?_⟩
   (generalize z:upd Ha D _=Hb;have kb:=aH z;have yb:=ai z;clear z)
   have mv:∀t xs,Ha t=some (.tup xs)→Hb t=some (.tup xs):=fun t xs e=>(kb t (bi e hDa (by intro z;cases z))).trans e
   refine⟨_,rfl,fun b' o' e=>(kb b' (ag e hD)).trans (sa _ _ (sk _ _ e)),yb,?_⟩
   rw[wheel,List.range_succ,List.map_append]
   refine bO (Paired.imp' (fun _ _ ⟨b',e1,e2⟩=>⟨b',e1,mv _ _ (sa _ _ e2)⟩) htr) (.cons ⟨tt,rfl,mv _ _ ?_⟩ .nil)
   rw[ya]
   show some (HO.tup [V.int 0,V.int (1+(0+(k:Int))),V.int (1+(0+(k:Int)+1) % (n:Int))])=some (HO.tup [V.int ((0:Nat):Int),V.int ((1+k:Nat):Int),V.int ((1+nxt n k:Nat):Int)])
   unfold nxt
   rw[show (1+(0+(k:Int)))=((1+k:Nat):Int) by omega,show (1+(0+(k:Int)+1) % (n:Int))=((1+(k+1) % n:Nat):Int) by rw[Int.zero_add];push_cast;rfl]
   rfl
  rintro σ ys Ha ⟨o,rfl,sa,hDa,htr⟩
  rw[Int.toNat_natCast] at htr
  have hly:=ax htr
  rw[wheel,List.length_map,List.length_range] at hly
  have w1:=ol hn3
  have lw:(wheel n (List.range n)).length≤200:=by rw[wheel,List.length_map,List.length_range];omega
  refine fun x dx hx hdx hne=>?_
  have sm0:=gp (Cs:=Cs) hx hdx
  refine⟨x,dx,D,ys,_,rfl,al,sm0 _ _ hDa,htr.same sm0,lw,fD hn3,w1,fun Hb smb sk=>⟨rfl,?_⟩⟩
  have smC:Sm Ha Hb:=jO hx hdx smb
  refine⟨x,_,rfl,sk,fD hn3,w1,lw,fun t vs' ls Hc ht0 smc yt pr rm lls lll=>?_⟩
  obtain⟨rone,rinj,_⟩:=db (fD hn3) w1
  have el:=rm.uniq rone rinj (ml hn3)
  subst el
  refine⟨_,rfl,_,_,rfl,rfl,_,_,rfl,fun r2 hr2=>?_⟩
  (generalize z:upd Hc r2 _=Hd;have sd:=ah hr2 z;have yd:=ai z;clear z)
  refine⟨r2,1,n,rfl,by rw[yd];congr 2;omega,by omega,by omega,fun l hl=>?_⟩
  (generalize z:upd Hd l _=He;have se:=ah hl z;have ye:=ai z;clear z)
  have e:((List.range n).map fun (i:Nat)=>V.int ((1+i:Nat):Int))=nV ((List.range n).map fun i=>1+i):=by unfold nV;rw[List.map_map];rfl
  rw[e] at ye
  refine⟨lit1,fun l2 hl2=>?_⟩
  (generalize z:upd He l2 _=Hf;have sf:=ah hl2 z;have yf:=ai z;clear z)
  have scf:=(sd.trans se).trans sf
  have sm9f:Sm H9 Hf:=(((Sm.of sa).trans smC).trans smc).trans (Sm.of scf)
  refine⟨_,_,.lst (SqL.of (scf _ _ yt)) (iJ (ls:=[(List.range n).map fun i=>1+i]) (Paired.imp' (fun _ _ ⟨a,e1,_,_,e4⟩=>⟨a,e1,scf _ _ e4⟩) pr)),.lst (SqL.of yf) (iJ (ls:=[(List.range n).map fun i=>1+i]) (.cons ⟨l,rfl,sf _ _ ye⟩ .nil)),qW _,_,rfl,?_⟩
  rw[nQ]
  refine iteF ?_
  have hTf:=sm9f.keep hT9 (fun z=>z)
  have hTf':=sm9f.keep hT9' (fun z=>z)
  have htf:aA Hf vt us:=Paired.imp' (fun _ _ ⟨b',e1,e2⟩=>⟨b',e1,sm9f.keep e2 (fun z=>z)⟩) ht9
  have htf':aA Hf vt' us':=Paired.imp' (fun _ _ ⟨b',e1,e2⟩=>⟨b',e1,sm9f.keep e2 (fun z=>z)⟩) ht9'
  clear sm9f scf yt pr rm smC smb smc sm0 sk hT9 hT9' ht9 ht9'
  refine⟨_,rfl,R,vt,rfl,.inl (SqL.of hTf),fun l3 hl3=>?_⟩
  (generalize z:upd Hf l3 _=Hg;have sg:=ah hl3 z;have yg:=ai z;clear z)
  refine fun x1 dx1 hx1 hdx1 hne1=>?_
  have sm1:=gp (Cs:=Cs) hx1 hdx1
  refine⟨x1,dx1,l3,vt,us,rfl,al,sm1 _ _ yg,(htf.same sg).same sm1,by omega,gu,hone,fun Hh smh sk1=>⟨rfl,?_⟩⟩
  have smH:Sm Hf Hh:=(Sm.of sg).trans (jO hx1 hdx1 smh)
  have hTh':=smH.keep hTf' (fun z=>z)
  have hth':aA Hh vt' us':=Paired.imp' (fun _ _ ⟨b',e1,e2⟩=>⟨b',e1,smH.keep e2 (fun z=>z)⟩) htf'
  refine⟨_,rfl,R',vt',rfl,.inl (SqL.of hTh'),fun l4 hl4=>?_⟩
  (generalize z:upd Hh l4 _=Hi;have si:=ah hl4 z;have yi:=ai z;clear z)
  refine fun x2 dx2 hx2 hdx2 hne2=>?_
  have sm2:=gp (Cs:=Cs) hx2 hdx2
  refine⟨x2,dx2,l4,vt',us',rfl,al,sm2 _ _ yi,(hth'.same si).same sm2,by omega,gu',hone',fun Hj smj sk2=>⟨rfl,?_⟩⟩
  have smJ:Sm Hh Hj:=(Sm.of si).trans (jO hx2 hdx2 smj)
  have smFJ:=smH.trans smJ
  have hTj:=smFJ.keep hTf (fun z=>z)
  have htj:aA Hj vt us:=Paired.imp' (fun _ _ ⟨b',e1,e2⟩=>⟨b',e1,smFJ.keep e2 (fun z=>z)⟩) htf
  refine⟨_,rfl,_,rfl,x1,R,vt,us,rfl,sk1.sm smJ,hTj,htj,lu,gu,hone,fun Hk smk=>⟨true,rfl,iteT ?_⟩⟩
  have smJK:=smJ.trans smk
  refine⟨_,rfl,_,rfl,x2,R',vt',us',rfl,sk2.sm smk,smJK.keep hTh' (fun z=>z),Paired.imp' (fun _ _ ⟨b',e1,e2⟩=>⟨b',e1,smJK.keep e2 (fun z=>z)⟩) hth',lu',gu',hone',fun Hl sml=>⟨true,rfl,iteT ?_⟩⟩
  have smKL:=smk.trans sml
  exact⟨_,rfl,_,rfl,x1,R,vt,us,rfl,(sk1.sm smJ).sm smKL,smKL.keep hTj (fun z=>z),Paired.imp' (fun _ _ ⟨b',e1,e2⟩=>⟨b',e1,smKL.keep e2 (fun z=>z)⟩) htj,lu,gu,hone,fun Hm smm=>q Hm⟩
end
end K15
end
section
namespace K15
open PySem L2 K51 K31
theorem len1 {us:List Value} (h:us.length=1):∃a,us=[a]:=List.length_eq_one_iff.mp h
theorem len2 {us:List Value} (h:us.length=2):∃a b,us=[a,b]:=by
 obtain⟨a,r,rfl⟩:=List.exists_cons_of_length_eq_add_one h
 obtain⟨b,rfl⟩:=len1 (Nat.succ.inj h)
 exact⟨a,b,rfl⟩
structure Top (K:W.Frag) (mg:Str→Option Value) (x:Str) (st:Stmt) (f:Addr) (fd:FuncData):Prop where
 u:Fun K x x st f fd
 m:mg x=some (.ref f)
structure InC (K:W.Frag) (C:Addr) (x q:Str) (st:Stmt) (f:Addr) (fd:FuncData):Prop where
 u:Fun K x q st f fd
 m:Meth K C x f
theorem aI {K:W.Frag} {h:Heap} {mg:Str→Option Value} {x:Str} {st:Stmt} {f:Addr} {oc:Value} {od an:Option Addr} {osl:Array (Option Value)} {kV doc pm cdv ct:Value} (X:K.In h) (G:h.Ns mainGlobals mg)
  (a:W.nsIn K mainGlobals x=some (some (.ref f))) (l:K.lookup f=some ⟨oc,od,.func (W.fnOf x x (ao st) (am st) (af st) .none kV doc pm an cdv ct),osl⟩) (c:W.codeIn K cdv x=true) (k:W.keepIn K (.ref f)=true) :
  Top K mg x st f (W.fnOf x x (ao st) (am st) (af st) .none kV doc pm an cdv ct):=⟨qG (st:=st) l c k,W.mg_of X G a⟩
theorem u3 {K:W.Frag} {C:Addr} {x q:Str} {st:Stmt} {f:Addr} {oc:Value} {od an:Option Addr} {osl:Array (Option Value)} {kV doc pm cdv ct:Value}
  (a:W.findIn K (.ref C) x=some (some (.ref f))) (i:W.isFn K (.ref f)=true) (l:K.lookup f=some ⟨oc,od,.func (W.fnOf x q (ao st) (am st) (af st) .none kV doc pm an cdv ct),osl⟩) (c:W.codeIn K cdv q=true) (k:W.keepIn K (.ref f)=true) :
  InC K C x q st f (W.fnOf x q (ao st) (am st) (af st) .none kV doc pm an cdv ct):=⟨qG (st:=st) l c k,⟨a,i,k⟩⟩
section
variable {P:Program} {w:World} {K:W.Frag} {mg:Str→Option Value} {base:Heap}
theorem all_ok {f1 f2 f3 f4 f5 f6 f7 f8 f9 f10 f11 f12 f13 f14 f15 f16 f17 f18 f19 f20 f21 f22 f23 f24 f25 f26 f27 f28 f29 f30 f31 f32 f33 f34 Cs:Addr} {d1 d2 d3 d4 d5 d6 d7 d8 d9 d10 d11 d12 d13 d14 d15 d16 d17 d18 d19 d20 d21 d22 d23 d24 d25 d26 d27 d28 d29 d30 d31 d32 d33 d34:FuncData} {tM:Tok} (T:TxtN mg) (mSo:mg "sorted" = none) (mMi:mg "min" = none) (mMa:mg "max" = none) (mDi:mg "dict" = none) (kt:KitI K) (kb:KitL K) (X:SCls K Cs) (MF:Mk K Cs f34) (mF:mg "Skin" = some (.ref Cs)) (mM:mg "MOST_TRIPLES" = some (.int 200 tM))
  (U1:Top K mg "first_of" dG f1 d1)
  (U2:Top K mg "walked" cM f2 d2)
  (U3:Top K mg "is_whole" du f3 d3)
  (U4:Top K mg "is_corner" bH f4 d4)
  (U5:Top K mg "rim_steps" bz f5 d5)
  (U6:Top K mg "rims" e8 f6 d6)
  (U7:Top K mg "is_triple" bE f7 d7)
  (U8:Top K mg "checked_triples" bZ f8 d8)
  (U9:Top K mg "thirds_by_side" cR f9 d9)
  (U10:Top K mg "steps_by_corner" dv f10 d10)
  (U11:Top K mg "hang_together" e_ f11 d11)
  (U12:Top K mg "look_rounds_through" dB f12 d12)
  (U13:Top K mg "begun_least" dJ f13 d13)
  (U14:Top K mg "_law_at" sAt f14 d14)
  (U15:Top K mg "_law_pot" sPot f15 d15)
  (U16:Top K mg "_law_digit" dI f16 d16)
  (U17:Top K mg "_law_sides" dz f17 d17)
  (U18:Top K mg "_law_thirds" cN f18 d18)
  (U19:Top K mg "_law_free" fc f19 d19)
  (U20:Top K mg "_law_corners" bY f20 d20)
  (U21:Top K mg "_law_fans" fe f21 d21)
  (U22:Top K mg "_law_split" dw f22 d22)
  (U23:Top K mg "_law_drawn" dH f23 d23)
  (U24:Top K mg "_law_rim_sides" bo f24 d24)
  (U25:Top K mg "_law_grown" cP f25 d25)
  (U26:Top K mg "_law_ring" dD f26 d26)
  (U27:Top K mg "_law_beside" bX f27 d27)
  (U28:Top K mg "_law_skin" dC f28 d28)
  (U29:Top K mg "_law_named" dA f29 d29)
  (U30:Top K mg "_law_handed" cQ f30 d30)
  (U31:Top K mg "_law_rims" dE f31 d31)
  (U32:Top K mg "_law_right" cO f32 d32)
  (U33:Top K mg "law" sLaw f33 d33)
  (U34:InC K Cs "__init__" "Skin.__init__" eA f34 d34)
  : FnOk P w K mg base CX0 7 f33 d33 ["_law_script"] (ku K):=by
 have b1:=U1.u.binds (ps:=["onward"]) fun _ _ _ _ _ _ us hl=>by obtain⟨a,rfl⟩:=len1 hl;rfl
 have b2:=U2.u.binds (ps:=["onward","begin"]) fun _ _ _ _ _ _ us hl=>by obtain⟨a,b,rfl⟩:=len2 hl;rfl
 have b3:=U3.u.binds (ps:=["thing"]) fun _ _ _ _ _ _ us hl=>by obtain⟨a,rfl⟩:=len1 hl;rfl
 have b4:=U4.u.binds (ps:=["thing"]) fun _ _ _ _ _ _ us hl=>by obtain⟨a,rfl⟩:=len1 hl;rfl
 have b5:=U5.u.binds (ps:=["skin"]) fun _ _ _ _ _ _ us hl=>by obtain⟨a,rfl⟩:=len1 hl;rfl
 have b6:=U6.u.binds (ps:=["skin"]) fun _ _ _ _ _ _ us hl=>by obtain⟨a,rfl⟩:=len1 hl;rfl
 have b7:=U7.u.binds (ps:=["thing"]) fun _ _ _ _ _ _ us hl=>by obtain⟨a,rfl⟩:=len1 hl;rfl
 have b8:=U8.u.binds (ps:=["things"]) fun _ _ _ _ _ _ us hl=>by obtain⟨a,rfl⟩:=len1 hl;rfl
 have b9:=U9.u.binds (ps:=["triples"]) fun _ _ _ _ _ _ us hl=>by obtain⟨a,rfl⟩:=len1 hl;rfl
 have b10:=U10.u.binds (ps:=["thirds"]) fun _ _ _ _ _ _ us hl=>by obtain⟨a,rfl⟩:=len1 hl;rfl
 have b11:=U11.u.binds (ps:=["about"]) fun _ _ _ _ _ _ us hl=>by obtain⟨a,rfl⟩:=len1 hl;rfl
 have b12:=U12.u.binds (ps:=["steps"]) fun _ _ _ _ _ _ us hl=>by obtain⟨a,rfl⟩:=len1 hl;rfl
 have b13:=U13.u.binds (ps:=["triple"]) fun _ _ _ _ _ _ us hl=>by obtain⟨a,rfl⟩:=len1 hl;rfl
 have b14:=U14.u.binds (ps:=["_law_script","_law_k"]) fun _ _ _ _ _ _ us hl=>by obtain⟨a,b,rfl⟩:=len2 hl;rfl
 have b15:=U15.u.binds (ps:=["_law_script","_law_k"]) fun _ _ _ _ _ _ us hl=>by obtain⟨a,b,rfl⟩:=len2 hl;rfl
 have b16:=U16.u.binds (ps:=["_law_pot_here","_law_base"]) fun _ _ _ _ _ _ us hl=>by obtain⟨a,b,rfl⟩:=len2 hl;rfl
 have b17:=U17.u.binds (ps:=["_law_triple"]) fun _ _ _ _ _ _ us hl=>by obtain⟨a,rfl⟩:=len1 hl;rfl
 have b18:=U18.u.binds (ps:=["_law_triples"]) fun _ _ _ _ _ _ us hl=>by obtain⟨a,rfl⟩:=len1 hl;rfl
 have b19:=U19.u.binds (ps:=["_law_thirds_here","_law_triple"]) fun _ _ _ _ _ _ us hl=>by obtain⟨a,b,rfl⟩:=len2 hl;rfl
 have b20:=U20.u.binds (ps:=["_law_triples"]) fun _ _ _ _ _ _ us hl=>by obtain⟨a,rfl⟩:=len1 hl;rfl
 have b21:=U21.u.binds (ps:=["_law_triples","_law_corner"]) fun _ _ _ _ _ _ us hl=>by obtain⟨a,b,rfl⟩:=len2 hl;rfl
 have b22:=U22.u.binds (ps:=["_law_triples"]) fun _ _ _ _ _ _ us hl=>by obtain⟨a,rfl⟩:=len1 hl;rfl
 have b23:=U23.u.binds (ps:=["_law_pot_here","_law_most"]) fun _ _ _ _ _ _ us hl=>by obtain⟨a,b,rfl⟩:=len2 hl;rfl
 have b24:=U24.u.binds (ps:=["_law_triples"]) fun _ _ _ _ _ _ us hl=>by obtain⟨a,rfl⟩:=len1 hl;rfl
 have b25:=U25.u.binds (ps:=["_law_pot_here","_law_most"]) fun _ _ _ _ _ _ us hl=>by obtain⟨a,b,rfl⟩:=len2 hl;rfl
 have b26:=U26.u.binds (ps:=["_law_pot_here"]) fun _ _ _ _ _ _ us hl=>by obtain⟨a,rfl⟩:=len1 hl;rfl
 have b27:=U27.u.binds (ps:=["_law_one","_law_other"]) fun _ _ _ _ _ _ us hl=>by obtain⟨a,b,rfl⟩:=len2 hl;rfl
 have b28:=U28.u.binds (ps:=["_law_pot_here","_law_most"]) fun _ _ _ _ _ _ us hl=>by obtain⟨a,b,rfl⟩:=len2 hl;rfl
 have b29:=U29.u.binds (ps:=["_law_pot_here","_law_triples"]) fun _ _ _ _ _ _ us hl=>by obtain⟨a,b,rfl⟩:=len2 hl;rfl
 have b30:=U30.u.binds (ps:=["_law_pot_here","_law_triples"]) fun _ _ _ _ _ _ us hl=>by obtain⟨a,b,rfl⟩:=len2 hl;rfl
 have b31:=U31.u.binds (ps:=["_law_triples"]) fun _ _ _ _ _ _ us hl=>by obtain⟨a,rfl⟩:=len1 hl;rfl
 have b32:=U32.u.binds (ps:=["_law_skin_here","_law_triples"]) fun _ _ _ _ _ _ us hl=>by obtain⟨a,b,rfl⟩:=len2 hl;rfl
 have b34:=U34.u.binds (ps:=["self","triples"]) fun _ _ _ _ _ _ us hl=>by obtain⟨a,b,rfl⟩:=len2 hl;rfl
 have g3:FnOk P w K mg base CX0 1 f3 d3 ["thing"] jA:=p7 U3.u T kt
 have g4:FnOk P w K mg base CX0 2 f4 d4 ["thing"] fu:=kZ U4.u g3 b3 U3.m U3.u.kp
 have g1:FnOk P w K mg base CX0 1 f1 d1 ["onward"] jL:=qh U1.u T mMi
 have g2:FnOk P w K mg base CX0 1 f2 d2 ["onward","begin"] gh:=mE U2.u
 have g5:FnOk P w K mg base CX0 1 f5 d5 ["skin"] (fq Cs):=kX U5.u X
 have g6:FnOk P w K mg base CX0 2 f6 d6 ["skin"] (jD Cs):=sP U6.u mSo ⟨g5,b5,U5.m,U5.u.kp⟩ ⟨g2,b2,U2.m,U2.u.kp⟩
 have g7:FnOk P w K mg base CX0 3 f7 d7 ["thing"] ft:=kY U7.u T kt g4 b4 U4.m U4.u.kp
 have g8:FnOk P w K mg base CX0 4 f8 d8 ["things"] gi:=mI U8.u T g7 b7 U7.m U7.u.kp
 have g9:FnOk P w K mg base CX0 1 f9 d9 ["triples"] cw:=oJ U9.u T
 have g10:FnOk P w K mg base CX0 1 f10 d10 ["thirds"] jB:=p9 U10.u
 have g11:FnOk P w K mg base CX0 2 f11 d11 ["about"] lW:=sQ U11.u T mDi g1 b1 U1.m U1.u.kp
 have g12:FnOk P w K mg base CX0 3 f12 d12 ["steps"] jG:=oH U12.u mSo g11 b11 U11.m U11.u.kp
 have g13:FnOk P w K mg base CX0 1 f13 d13 ["triple"] jN:=qk U13.u mMi
 have g34:FnOk P w K mg base CX0 5 f34 d34 ["self","triples"] (jC Cs):=qa U34.u T mSo mM X g8 b8 U8.m U8.u.kp g9 b9 U9.m U9.u.kp g10 b10 U10.m U10.u.kp g12 b12 U12.m U12.u.kp g13 b13 U13.m U13.u.kp
 have g15:FnOk P w K mg base CX0 2 f15 d15 ["_law_script","_law_k"] (pF K):=uK U15.u U14.u b14 U14.m U14.u.kp T
 have g16:FnOk P w K mg base CX0 1 f16 d16 ["_law_pot_here","_law_base"] cZ:=qj U16.u
 have g17:FnOk P w K mg base CX0 1 f17 d17 ["_law_triple"] g_:=qb U17.u
 have g18:FnOk P w K mg base CX0 1 f18 d18 ["_law_triples"] cw:=oG U18.u
 have g19:FnOk P w K mg base CX0 2 f19 d19 ["_law_thirds_here","_law_triple"] jK:=sR U19.u T g17 b17 U17.m U17.u.kp
 have g20:FnOk P w K mg base CX0 1 f20 d20 ["_law_triples"] cG:=mH U20.u mSo
 have g21:FnOk P w K mg base CX0 2 f21 d21 ["_law_triples","_law_corner"] lX:=sS U21.u mSo g18 b18 U18.m U18.u.kp
 have g22:FnOk P w K mg base CX0 3 f22 d22 ["_law_triples"] gZ:=p_ U22.u T mMa (g20.mono (by decide)) b20 U20.m U20.u.kp g21 b21 U21.m U21.u.kp
 have g23:FnOk P w K mg base CX0 3 f23 d23 ["_law_pot_here","_law_most"] jM:=qi U23.u T (g16.mono (by decide)) b16 U16.m U16.u.kp (g18.mono (by decide)) b18 U18.m U18.u.kp g19 b19 U19.m U19.u.kp
 have g24:FnOk P w K mg base CX0 2 f24 d24 ["_law_triples"] np:=uJ U24.u mSo g18 b18 U18.m U18.u.kp
 have g25:FnOk P w K mg base CX0 3 f25 d25 ["_law_pot_here","_law_most"] jJ:=qg U25.u T (g16.mono (by decide)) b16 U16.m U16.u.kp (g18.mono (by decide)) b18 U18.m U18.u.kp g19 b19 U19.m U19.u.kp g24 b24 U24.m U24.u.kp (g20.mono (by decide)) b20 U20.m U20.u.kp
 have g26:FnOk P w K mg base CX0 3 f26 d26 ["_law_pot_here"] lV:=sO U26.u T mMa (g16.mono (by decide)) b16 U16.m U16.u.kp (g20.mono (by decide)) b20 U20.m U20.u.kp (g17.mono (by decide)) b17 U17.m U17.u.kp
 have g27:FnOk P w K mg base CX0 3 f27 d27 ["_law_one","_law_other"] ie:=oK U27.u T mMa (g20.mono (by decide)) b20 U20.m U20.u.kp
 have g28:FnOk P w K mg base CX0 4 f28 d28 ["_law_pot_here","_law_most"] jH:=qe U28.u (g16.mono (by decide)) b16 U16.m U16.u.kp g26 b26 U26.m U26.u.kp g22 b22 U22.m U22.u.kp g27 b27 U27.m U27.u.kp g25 b25 U25.m U25.u.kp g23 b23 U23.m U23.u.kp
 have g29:FnOk P w K mg base CX0 2 f29 d29 ["_law_pot_here","_law_triples"] jF:=qd U29.u T g16 b16 U16.m U16.u.kp g20 b20 U20.m U20.u.kp
 have g30:FnOk P w K mg base CX0 2 f30 d30 ["_law_pot_here","_law_triples"] ic:=oI U30.u T g16 b16 U16.m U16.u.kp
 have g31:FnOk P w K mg base CX0 3 f31 d31 ["_law_triples"] jI:=qf U31.u mSo mDi mMi ⟨g24,b24,U24.m,U24.u.kp⟩
 have g32:FnOk P w K mg base CX0 4 f32 d32 ["_law_skin_here","_law_triples"] (jE Cs):=qc U32.u T kb ⟨g31,b31,U31.m,U31.u.kp⟩ ⟨g6.mono (by decide),b6,U6.m,U6.u.kp⟩
 exact uL U33.u T MF mF ⟨g15,b15,U15.m,U15.u.kp⟩ ⟨g30,b30,U30.m,U30.u.kp⟩ ⟨g29,b29,U29.m,U29.u.kp⟩ ⟨g28,b28,U28.m,U28.u.kp⟩ ⟨g16,b16,U16.m,U16.u.kp⟩ ⟨g6,b6,U6.m,U6.u.kp⟩ ⟨g32,b32,U32.m,U32.u.kp⟩ g34 b34
end
theorem all_mk {l:W.OpenLaw} {w:World} {K:W.Frag} {h:Heap} {mg:Str→Option Value} {fa Cs:Addr} (X:K.In h) (G:h.Ns mainGlobals mg) (hfa:mg "law" = some (.ref fa))
  {f1 f2 f3 f4 f5 f6 f7 f8 f9 f10 f11 f12 f13 f14 f15 f16 f17 f18 f19 f20 f21 f22 f23 f24 f25 f26 f27 f28 f29 f30 f31 f32 f33 f34:Addr} {od1 an1 od2 an2 od3 an3 od4 an4 od5 an5 od6 an6 od7 an7 od8 an8 od9 an9 od10 an10 od11 an11 od12 an12 od13 an13 od14 an14 od15 an15 od16 an16 od17 an17 od18 an18 od19 an19 od20 an20 od21 an21 od22 an22 od23 an23 od24 an24 od25 an25 od26 an26 od27 an27 od28 an28 od29 an29 od30 an30 od31 an31 od32 an32 od33 an33 od34 an34:Option Addr} {sl1 sl2 sl3 sl4 sl5 sl6 sl7 sl8 sl9 sl10 sl11 sl12 sl13 sl14 sl15 sl16 sl17 sl18 sl19 sl20 sl21 sl22 sl23 sl24 sl25 sl26 sl27 sl28 sl29 sl30 sl31 sl32 sl33 sl34:Array (Option Value)} {oc1 kV1 dc1 pm1 cd1 ct1 oc2 kV2 dc2 pm2 cd2 ct2 oc3 kV3 dc3 pm3 cd3 ct3 oc4 kV4 dc4 pm4 cd4 ct4 oc5 kV5 dc5 pm5 cd5 ct5 oc6 kV6 dc6 pm6 cd6 ct6 oc7 kV7 dc7 pm7 cd7 ct7 oc8 kV8 dc8 pm8 cd8 ct8 oc9 kV9 dc9 pm9 cd9 ct9 oc10 kV10 dc10 pm10 cd10 ct10 oc11 kV11 dc11 pm11 cd11 ct11 oc12 kV12 dc12 pm12 cd12 ct12 oc13 kV13 dc13 pm13 cd13 ct13 oc14 kV14 dc14 pm14 cd14 ct14 oc15 kV15 dc15 pm15 cd15 ct15 oc16 kV16 dc16 pm16 cd16 ct16 oc17 kV17 dc17 pm17 cd17 ct17 oc18 kV18 dc18 pm18 cd18 ct18 oc19 kV19 dc19 pm19 cd19 ct19 oc20 kV20 dc20 pm20 cd20 ct20 oc21 kV21 dc21 pm21 cd21 ct21 oc22 kV22 dc22 pm22 cd22 ct22 oc23 kV23 dc23 pm23 cd23 ct23 oc24 kV24 dc24 pm24 cd24 ct24 oc25 kV25 dc25 pm25 cd25 ct25 oc26 kV26 dc26 pm26 cd26 ct26 oc27 kV27 dc27 pm27 cd27 ct27 oc28 kV28 dc28 pm28 cd28 ct28 oc29 kV29 dc29 pm29 cd29 ct29 oc30 kV30 dc30 pm30 cd30 ct30 oc31 kV31 dc31 pm31 cd31 ct31 oc32 kV32 dc32 pm32 cd32 ct32 oc33 kV33 dc33 pm33 cd33 ct33 oc34 kV34 dc34 pm34 cd34 ct34:Value}
  {tM:Tok}
  (a1:W.nsIn K mainGlobals "first_of" = some (some (.ref f1)))
  (l1:K.lookup f1=some ⟨oc1,od1,.func (W.fnOf "first_of" "first_of" (ao dG) (am dG) (af dG) .none kV1 dc1 pm1 an1 cd1 ct1),sl1⟩)
  (c1:W.codeIn K cd1 "first_of" = true)
  (k1:W.keepIn K (.ref f1)=true)
  (a2:W.nsIn K mainGlobals "walked" = some (some (.ref f2)))
  (l2:K.lookup f2=some ⟨oc2,od2,.func (W.fnOf "walked" "walked" (ao cM) (am cM) (af cM) .none kV2 dc2 pm2 an2 cd2 ct2),sl2⟩)
  (c2:W.codeIn K cd2 "walked" = true)
  (k2:W.keepIn K (.ref f2)=true)
  (a3:W.nsIn K mainGlobals "is_whole" = some (some (.ref f3)))
  (l3:K.lookup f3=some ⟨oc3,od3,.func (W.fnOf "is_whole" "is_whole" (ao du) (am du) (af du) .none kV3 dc3 pm3 an3 cd3 ct3),sl3⟩)
  (c3:W.codeIn K cd3 "is_whole" = true)
  (k3:W.keepIn K (.ref f3)=true)
  (a4:W.nsIn K mainGlobals "is_corner" = some (some (.ref f4)))
  (l4:K.lookup f4=some ⟨oc4,od4,.func (W.fnOf "is_corner" "is_corner" (ao bH) (am bH) (af bH) .none kV4 dc4 pm4 an4 cd4 ct4),sl4⟩)
  (c4:W.codeIn K cd4 "is_corner" = true)
  (k4:W.keepIn K (.ref f4)=true)
  (a5:W.nsIn K mainGlobals "rim_steps" = some (some (.ref f5)))
  (l5:K.lookup f5=some ⟨oc5,od5,.func (W.fnOf "rim_steps" "rim_steps" (ao bz) (am bz) (af bz) .none kV5 dc5 pm5 an5 cd5 ct5),sl5⟩)
  (c5:W.codeIn K cd5 "rim_steps" = true)
  (k5:W.keepIn K (.ref f5)=true)
  (a6:W.nsIn K mainGlobals "rims" = some (some (.ref f6)))
  (l6:K.lookup f6=some ⟨oc6,od6,.func (W.fnOf "rims" "rims" (ao e8) (am e8) (af e8) .none kV6 dc6 pm6 an6 cd6 ct6),sl6⟩)
  (c6:W.codeIn K cd6 "rims" = true)
  (k6:W.keepIn K (.ref f6)=true)
  (a7:W.nsIn K mainGlobals "is_triple" = some (some (.ref f7)))
  (l7:K.lookup f7=some ⟨oc7,od7,.func (W.fnOf "is_triple" "is_triple" (ao bE) (am bE) (af bE) .none kV7 dc7 pm7 an7 cd7 ct7),sl7⟩)
  (c7:W.codeIn K cd7 "is_triple" = true)
  (k7:W.keepIn K (.ref f7)=true)
  (a8:W.nsIn K mainGlobals "checked_triples" = some (some (.ref f8)))
  (l8:K.lookup f8=some ⟨oc8,od8,.func (W.fnOf "checked_triples" "checked_triples" (ao bZ) (am bZ) (af bZ) .none kV8 dc8 pm8 an8 cd8 ct8),sl8⟩)
  (c8:W.codeIn K cd8 "checked_triples" = true)
  (k8:W.keepIn K (.ref f8)=true)
  (a9:W.nsIn K mainGlobals "thirds_by_side" = some (some (.ref f9)))
  (l9:K.lookup f9=some ⟨oc9,od9,.func (W.fnOf "thirds_by_side" "thirds_by_side" (ao cR) (am cR) (af cR) .none kV9 dc9 pm9 an9 cd9 ct9),sl9⟩)
  (c9:W.codeIn K cd9 "thirds_by_side" = true)
  (k9:W.keepIn K (.ref f9)=true)
  (a10:W.nsIn K mainGlobals "steps_by_corner" = some (some (.ref f10)))
  (l10:K.lookup f10=some ⟨oc10,od10,.func (W.fnOf "steps_by_corner" "steps_by_corner" (ao dv) (am dv) (af dv) .none kV10 dc10 pm10 an10 cd10 ct10),sl10⟩)
  (c10:W.codeIn K cd10 "steps_by_corner" = true)
  (k10:W.keepIn K (.ref f10)=true)
  (a11:W.nsIn K mainGlobals "hang_together" = some (some (.ref f11)))
  (l11:K.lookup f11=some ⟨oc11,od11,.func (W.fnOf "hang_together" "hang_together" (ao e_) (am e_) (af e_) .none kV11 dc11 pm11 an11 cd11 ct11),sl11⟩)
  (c11:W.codeIn K cd11 "hang_together" = true)
  (k11:W.keepIn K (.ref f11)=true)
  (a12:W.nsIn K mainGlobals "look_rounds_through" = some (some (.ref f12)))
  (l12:K.lookup f12=some ⟨oc12,od12,.func (W.fnOf "look_rounds_through" "look_rounds_through" (ao dB) (am dB) (af dB) .none kV12 dc12 pm12 an12 cd12 ct12),sl12⟩)
  (c12:W.codeIn K cd12 "look_rounds_through" = true)
  (k12:W.keepIn K (.ref f12)=true)
  (a13:W.nsIn K mainGlobals "begun_least" = some (some (.ref f13)))
  (l13:K.lookup f13=some ⟨oc13,od13,.func (W.fnOf "begun_least" "begun_least" (ao dJ) (am dJ) (af dJ) .none kV13 dc13 pm13 an13 cd13 ct13),sl13⟩)
  (c13:W.codeIn K cd13 "begun_least" = true)
  (k13:W.keepIn K (.ref f13)=true)
  (a14:W.nsIn K mainGlobals "_law_at" = some (some (.ref f14)))
  (l14:K.lookup f14=some ⟨oc14,od14,.func (W.fnOf "_law_at" "_law_at" (ao sAt) (am sAt) (af sAt) .none kV14 dc14 pm14 an14 cd14 ct14),sl14⟩)
  (c14:W.codeIn K cd14 "_law_at" = true)
  (k14:W.keepIn K (.ref f14)=true)
  (a15:W.nsIn K mainGlobals "_law_pot" = some (some (.ref f15)))
  (l15:K.lookup f15=some ⟨oc15,od15,.func (W.fnOf "_law_pot" "_law_pot" (ao sPot) (am sPot) (af sPot) .none kV15 dc15 pm15 an15 cd15 ct15),sl15⟩)
  (c15:W.codeIn K cd15 "_law_pot" = true)
  (k15:W.keepIn K (.ref f15)=true)
  (a16:W.nsIn K mainGlobals "_law_digit" = some (some (.ref f16)))
  (l16:K.lookup f16=some ⟨oc16,od16,.func (W.fnOf "_law_digit" "_law_digit" (ao dI) (am dI) (af dI) .none kV16 dc16 pm16 an16 cd16 ct16),sl16⟩)
  (c16:W.codeIn K cd16 "_law_digit" = true)
  (k16:W.keepIn K (.ref f16)=true)
  (a17:W.nsIn K mainGlobals "_law_sides" = some (some (.ref f17)))
  (l17:K.lookup f17=some ⟨oc17,od17,.func (W.fnOf "_law_sides" "_law_sides" (ao dz) (am dz) (af dz) .none kV17 dc17 pm17 an17 cd17 ct17),sl17⟩)
  (c17:W.codeIn K cd17 "_law_sides" = true)
  (k17:W.keepIn K (.ref f17)=true)
  (a18:W.nsIn K mainGlobals "_law_thirds" = some (some (.ref f18)))
  (l18:K.lookup f18=some ⟨oc18,od18,.func (W.fnOf "_law_thirds" "_law_thirds" (ao cN) (am cN) (af cN) .none kV18 dc18 pm18 an18 cd18 ct18),sl18⟩)
  (c18:W.codeIn K cd18 "_law_thirds" = true)
  (k18:W.keepIn K (.ref f18)=true)
  (a19:W.nsIn K mainGlobals "_law_free" = some (some (.ref f19)))
  (l19:K.lookup f19=some ⟨oc19,od19,.func (W.fnOf "_law_free" "_law_free" (ao fc) (am fc) (af fc) .none kV19 dc19 pm19 an19 cd19 ct19),sl19⟩)
  (c19:W.codeIn K cd19 "_law_free" = true)
  (k19:W.keepIn K (.ref f19)=true)
  (a20:W.nsIn K mainGlobals "_law_corners" = some (some (.ref f20)))
  (l20:K.lookup f20=some ⟨oc20,od20,.func (W.fnOf "_law_corners" "_law_corners" (ao bY) (am bY) (af bY) .none kV20 dc20 pm20 an20 cd20 ct20),sl20⟩)
  (c20:W.codeIn K cd20 "_law_corners" = true)
  (k20:W.keepIn K (.ref f20)=true)
  (a21:W.nsIn K mainGlobals "_law_fans" = some (some (.ref f21)))
  (l21:K.lookup f21=some ⟨oc21,od21,.func (W.fnOf "_law_fans" "_law_fans" (ao fe) (am fe) (af fe) .none kV21 dc21 pm21 an21 cd21 ct21),sl21⟩)
  (c21:W.codeIn K cd21 "_law_fans" = true)
  (k21:W.keepIn K (.ref f21)=true)
  (a22:W.nsIn K mainGlobals "_law_split" = some (some (.ref f22)))
  (l22:K.lookup f22=some ⟨oc22,od22,.func (W.fnOf "_law_split" "_law_split" (ao dw) (am dw) (af dw) .none kV22 dc22 pm22 an22 cd22 ct22),sl22⟩)
  (c22:W.codeIn K cd22 "_law_split" = true)
  (k22:W.keepIn K (.ref f22)=true)
  (a23:W.nsIn K mainGlobals "_law_drawn" = some (some (.ref f23)))
  (l23:K.lookup f23=some ⟨oc23,od23,.func (W.fnOf "_law_drawn" "_law_drawn" (ao dH) (am dH) (af dH) .none kV23 dc23 pm23 an23 cd23 ct23),sl23⟩)
  (c23:W.codeIn K cd23 "_law_drawn" = true)
  (k23:W.keepIn K (.ref f23)=true)
  (a24:W.nsIn K mainGlobals "_law_rim_sides" = some (some (.ref f24)))
  (l24:K.lookup f24=some ⟨oc24,od24,.func (W.fnOf "_law_rim_sides" "_law_rim_sides" (ao bo) (am bo) (af bo) .none kV24 dc24 pm24 an24 cd24 ct24),sl24⟩)
  (c24:W.codeIn K cd24 "_law_rim_sides" = true)
  (k24:W.keepIn K (.ref f24)=true)
  (a25:W.nsIn K mainGlobals "_law_grown" = some (some (.ref f25)))
  (l25:K.lookup f25=some ⟨oc25,od25,.func (W.fnOf "_law_grown" "_law_grown" (ao cP) (am cP) (af cP) .none kV25 dc25 pm25 an25 cd25 ct25),sl25⟩)
  (c25:W.codeIn K cd25 "_law_grown" = true)
  (k25:W.keepIn K (.ref f25)=true)
  (a26:W.nsIn K mainGlobals "_law_ring" = some (some (.ref f26)))
  (l26:K.lookup f26=some ⟨oc26,od26,.func (W.fnOf "_law_ring" "_law_ring" (ao dD) (am dD) (af dD) .none kV26 dc26 pm26 an26 cd26 ct26),sl26⟩)
  (c26:W.codeIn K cd26 "_law_ring" = true)
  (k26:W.keepIn K (.ref f26)=true)
  (a27:W.nsIn K mainGlobals "_law_beside" = some (some (.ref f27)))
  (l27:K.lookup f27=some ⟨oc27,od27,.func (W.fnOf "_law_beside" "_law_beside" (ao bX) (am bX) (af bX) .none kV27 dc27 pm27 an27 cd27 ct27),sl27⟩)
  (c27:W.codeIn K cd27 "_law_beside" = true)
  (k27:W.keepIn K (.ref f27)=true)
  (a28:W.nsIn K mainGlobals "_law_skin" = some (some (.ref f28)))
  (l28:K.lookup f28=some ⟨oc28,od28,.func (W.fnOf "_law_skin" "_law_skin" (ao dC) (am dC) (af dC) .none kV28 dc28 pm28 an28 cd28 ct28),sl28⟩)
  (c28:W.codeIn K cd28 "_law_skin" = true)
  (k28:W.keepIn K (.ref f28)=true)
  (a29:W.nsIn K mainGlobals "_law_named" = some (some (.ref f29)))
  (l29:K.lookup f29=some ⟨oc29,od29,.func (W.fnOf "_law_named" "_law_named" (ao dA) (am dA) (af dA) .none kV29 dc29 pm29 an29 cd29 ct29),sl29⟩)
  (c29:W.codeIn K cd29 "_law_named" = true)
  (k29:W.keepIn K (.ref f29)=true)
  (a30:W.nsIn K mainGlobals "_law_handed" = some (some (.ref f30)))
  (l30:K.lookup f30=some ⟨oc30,od30,.func (W.fnOf "_law_handed" "_law_handed" (ao cQ) (am cQ) (af cQ) .none kV30 dc30 pm30 an30 cd30 ct30),sl30⟩)
  (c30:W.codeIn K cd30 "_law_handed" = true)
  (k30:W.keepIn K (.ref f30)=true)
  (a31:W.nsIn K mainGlobals "_law_rims" = some (some (.ref f31)))
  (l31:K.lookup f31=some ⟨oc31,od31,.func (W.fnOf "_law_rims" "_law_rims" (ao dE) (am dE) (af dE) .none kV31 dc31 pm31 an31 cd31 ct31),sl31⟩)
  (c31:W.codeIn K cd31 "_law_rims" = true)
  (k31:W.keepIn K (.ref f31)=true)
  (a32:W.nsIn K mainGlobals "_law_right" = some (some (.ref f32)))
  (l32:K.lookup f32=some ⟨oc32,od32,.func (W.fnOf "_law_right" "_law_right" (ao cO) (am cO) (af cO) .none kV32 dc32 pm32 an32 cd32 ct32),sl32⟩)
  (c32:W.codeIn K cd32 "_law_right" = true)
  (k32:W.keepIn K (.ref f32)=true)
  (a33:W.nsIn K mainGlobals "law" = some (some (.ref f33)))
  (l33:K.lookup f33=some ⟨oc33,od33,.func (W.fnOf "law" "law" (ao sLaw) (am sLaw) (af sLaw) .none kV33 dc33 pm33 an33 cd33 ct33),sl33⟩)
  (c33:W.codeIn K cd33 "law" = true)
  (k33:W.keepIn K (.ref f33)=true)
  (a34:W.findIn K (.ref Cs) "__init__" = some (some (.ref f34)))
  (i34:W.isFn K (.ref f34)=true)
  (l34:K.lookup f34=some ⟨oc34,od34,.func (W.fnOf "__init__" "Skin.__init__" (ao eA) (am eA) (af eA) .none kV34 dc34 pm34 an34 cd34 ct34),sl34⟩)
  (c34:W.codeIn K cd34 "Skin.__init__" = true)
  (k34:W.keepIn K (.ref f34)=true)
  (aCs:W.nsIn K mainGlobals "Skin" = some (some (.ref Cs)))
  (pg:W.plainGet K Cs Str.empty=true)
  (hd:W.hasDictIn K Cs=true)
  (po:W.plainOver K Cs=true)
  (sa:W.findIn K (.ref Cs) "__setattr__" = some (some (.builtin "object.__setattr__")))
  (mk:W.makesIn K Cs=true)
  (kc:W.keepIn K (.ref Cs)=true)
  (n_ordered:W.findIn K (.ref Cs) "ordered" = some none)
  (n_rising:W.findIn K (.ref Cs) "rising" = some none)
  (n_thirds:W.findIn K (.ref Cs) "thirds" = some none)
  (n_steps:W.findIn K (.ref Cs) "steps" = some none)
  (z_len:W.nsIn K mainGlobals "len" = some none)
  (z_int:W.nsIn K mainGlobals "int" = some none)
  (z_str:W.nsIn K mainGlobals "str" = some none)
  (z_isinstance:W.nsIn K mainGlobals "isinstance" = some none)
  (z_range:W.nsIn K mainGlobals "range" = some none)
  (z_list:W.nsIn K mainGlobals "list" = some none)
  (z_tuple:W.nsIn K mainGlobals "tuple" = some none)
  (z_bool:W.nsIn K mainGlobals "bool" = some none)
  (z_all:W.nsIn K mainGlobals "all" = some none)
  (z_ValueError:W.nsIn K mainGlobals "ValueError" = some none)
  (z_reversed:W.nsIn K mainGlobals "reversed" = some none)
  (z_enumerate:W.nsIn K mainGlobals "enumerate" = some none)
  (z_sorted:W.nsIn K mainGlobals "sorted" = some none)
  (z_min:W.nsIn K mainGlobals "min" = some none)
  (z_max:W.nsIn K mainGlobals "max" = some none)
  (z_dict:W.nsIn K mainGlobals "dict" = some none)
  (aM:W.nsIn K mainGlobals "MOST_TRIPLES" = some (some (.int 200 tM)))
  (t_t:W.kitOne K (.type "tuple") (.type "tuple")=some true)
  (t_i:W.kitOne K (.type "int") (.type "int")=some true)
  (t_b:W.kitOne K (.type "int") (.type "bool")=some false)
  (v_l:W.kitOne K (.type "list") (.type "list")=some true)
  : ∃fd:FuncData,(∀(s:Shared) (v:Value),BindsTo s fd ⟨[v],[]⟩ [("_law_script",v)])∧∀base:Heap,K.In base→base.Ns mainGlobals mg→FnOk l.prog w K mg base CX0 7 fa fd ["_law_script"] (ku K):=by
 have e:=hfa.symm.trans (W.mg_of X G a33)
 cases e
 have T:TxtN mg:=⟨W.mg_none_of X G z_len,W.mg_none_of X G z_int,W.mg_none_of X G z_str,W.mg_none_of X G z_isinstance,W.mg_none_of X G z_range,W.mg_none_of X G z_list,W.mg_none_of X G z_tuple,W.mg_none_of X G z_bool,W.mg_none_of X G z_all,W.mg_none_of X G z_ValueError,W.mg_none_of X G z_reversed,W.mg_none_of X G z_enumerate⟩
 have kt:KitI K:=⟨t_t,t_i,t_b⟩
 have SC:SCls K Cs:=⟨⟨pg,hd,po,sa⟩,n_ordered,n_rising,n_thirds,n_steps⟩
 have MF:Mk K Cs f34:=⟨mk,a34,i34,kc⟩
 have kb:KitL K:=⟨v_l⟩
 exact⟨W.fnOf "law" "law" (ao sLaw) (am sLaw) (af sLaw) .none kV33 dc33 pm33 an33 cd33 ct33,fun s v=>.of_eq rfl,fun base _ _=>all_ok T (W.mg_none_of X G z_sorted) (W.mg_none_of X G z_min) (W.mg_none_of X G z_max) (W.mg_none_of X G z_dict) kt kb SC MF (W.mg_of X G aCs) (W.mg_of X G aM)
  (aI (st:=dG) X G a1 l1 c1 k1)
  (aI (st:=cM) X G a2 l2 c2 k2)
  (aI (st:=du) X G a3 l3 c3 k3)
  (aI (st:=bH) X G a4 l4 c4 k4)
  (aI (st:=bz) X G a5 l5 c5 k5)
  (aI (st:=e8) X G a6 l6 c6 k6)
  (aI (st:=bE) X G a7 l7 c7 k7)
  (aI (st:=bZ) X G a8 l8 c8 k8)
  (aI (st:=cR) X G a9 l9 c9 k9)
  (aI (st:=dv) X G a10 l10 c10 k10)
  (aI (st:=e_) X G a11 l11 c11 k11)
  (aI (st:=dB) X G a12 l12 c12 k12)
  (aI (st:=dJ) X G a13 l13 c13 k13)
  (aI (st:=sAt) X G a14 l14 c14 k14)
  (aI (st:=sPot) X G a15 l15 c15 k15)
  (aI (st:=dI) X G a16 l16 c16 k16)
  (aI (st:=dz) X G a17 l17 c17 k17)
  (aI (st:=cN) X G a18 l18 c18 k18)
  (aI (st:=fc) X G a19 l19 c19 k19)
  (aI (st:=bY) X G a20 l20 c20 k20)
  (aI (st:=fe) X G a21 l21 c21 k21)
  (aI (st:=dw) X G a22 l22 c22 k22)
  (aI (st:=dH) X G a23 l23 c23 k23)
  (aI (st:=bo) X G a24 l24 c24 k24)
  (aI (st:=cP) X G a25 l25 c25 k25)
  (aI (st:=dD) X G a26 l26 c26 k26)
  (aI (st:=bX) X G a27 l27 c27 k27)
  (aI (st:=dC) X G a28 l28 c28 k28)
  (aI (st:=dA) X G a29 l29 c29 k29)
  (aI (st:=cQ) X G a30 l30 c30 k30)
  (aI (st:=dE) X G a31 l31 c31 k31)
  (aI (st:=cO) X G a32 l32 c32 k32)
  (aI (st:=sLaw) X G a33 l33 c33 k33)
  (u3 (st:=eA) a34 i34 l34 c34 k34)⟩
theorem walk {l:W.OpenLaw} {q:Program} {loose:List Str} {XP:(Str→Option Value)→Heap→Prop} {YP:World→Heap→Prop} {d:DefRec} {K:Params→W.Frag} (hn:l.most=some 63) (hdf:d.params.defaults=[])
  (hY:∀(w:World) (h:Heap),YP w h→(K w.params).In h)
  (F:∀(w:World) (mg:Str→Option Value) (fa:Addr) (h:Heap),(K w.params).In h→h.Ns mainGlobals mg→mg d.name=some (.ref fa) →
   ∃fd:FuncData,(∀(s:Shared) (u:Value),BindsTo s fd ⟨[u],[]⟩ [("_law_script",u)])∧∀base:Heap,(K w.params).In base→base.Ns mainGlobals mg→FnOk l.prog w (K w.params) mg base CX0 7 fa fd ["_law_script"] (ku (K w.params))) :
  W.WalkO q loose XP YP l.row.toRowW d [] (fun f vs=>PySem.call f vs):=
 L2.walk_of (n:=63) (k:=7) (x:="_law_script") (CX:=fun _=>CX0) (sp:=fun w=>ku (K w.params)) hn (by decide) hdf ⟨rfl,by decide,by decide,rfl⟩ hY F (fun _ _ a ns hl _ hS=>⟨a,ns,rfl,hS,hl,fun _=>rfl⟩) fun _ _ _ _ _ z=>z
end K15
end
def PySem.W.Fast.tw4895464087771767129:PySem.Program:=PySem.Challenge.pw_shapestring_k22_rims_told
theorem PySem.W.Fast.te4895464087771767129:PySem.Challenge.pw_shapestring_k22_rims_told=PySem.W.Fast.tw4895464087771767129:=rfl
open PySem PySem.W PyProof.Rows
set_option maxRecDepth 100000 in
set_option maxHeartbeats 0 in
theorem PySem.Challenge.cw_shapestring_k22_rims_told_holds : PySem.Challenge.rw_shapestring_k22_rims_told.Holds := by
 w_on;o_law
 refine W.holds_open (q:=K15.view) (loose:=[]) (Xt:=fun s=>xlAt K15.view [] s&&recOk [] s) (XP:=XL K15.view []) (Yf:=Hook.obs (kHook K15.kf [nat_lit 2,nat_lit 3,nat_lit 25,nat_lit 26,nat_lit 32,nat_lit 33,nat_lit 37,nat_lit 38,nat_lit 42,nat_lit 43,nat_lit 93,nat_lit 94,nat_lit 100,nat_lit 101,nat_lit 107,nat_lit 108,nat_lit 114,nat_lit 115,nat_lit 121,nat_lit 122,nat_lit 128,nat_lit 129,nat_lit 135,nat_lit 136,nat_lit 142,nat_lit 143,nat_lit 149,nat_lit 150,nat_lit 161,nat_lit 162,nat_lit 185,nat_lit 186,nat_lit 187,nat_lit 188,nat_lit 196,nat_lit 197,nat_lit 203,nat_lit 204,nat_lit 210,nat_lit 211,nat_lit 217,nat_lit 218,nat_lit 224,nat_lit 225,nat_lit 229,nat_lit 230,nat_lit 236,nat_lit 237,nat_lit 241,nat_lit 242,nat_lit 246,nat_lit 247,nat_lit 251,nat_lit 252,nat_lit 256,nat_lit 257,nat_lit 261,nat_lit 262,nat_lit 266,nat_lit 267,nat_lit 271,nat_lit 272,nat_lit 278,nat_lit 279,nat_lit 283,nat_lit 284,nat_lit 290,nat_lit 291,nat_lit 297,nat_lit 298,nat_lit 302,nat_lit 303,nat_lit 307,nat_lit 308] (fun _=>by kernel_rfl))) (Ya:=Hook.val (kHook K15.kf [nat_lit 2,nat_lit 3,nat_lit 25,nat_lit 26,nat_lit 32,nat_lit 33,nat_lit 37,nat_lit 38,nat_lit 42,nat_lit 43,nat_lit 93,nat_lit 94,nat_lit 100,nat_lit 101,nat_lit 107,nat_lit 108,nat_lit 114,nat_lit 115,nat_lit 121,nat_lit 122,nat_lit 128,nat_lit 129,nat_lit 135,nat_lit 136,nat_lit 142,nat_lit 143,nat_lit 149,nat_lit 150,nat_lit 161,nat_lit 162,nat_lit 185,nat_lit 186,nat_lit 187,nat_lit 188,nat_lit 196,nat_lit 197,nat_lit 203,nat_lit 204,nat_lit 210,nat_lit 211,nat_lit 217,nat_lit 218,nat_lit 224,nat_lit 225,nat_lit 229,nat_lit 230,nat_lit 236,nat_lit 237,nat_lit 241,nat_lit 242,nat_lit 246,nat_lit 247,nat_lit 251,nat_lit 252,nat_lit 256,nat_lit 257,nat_lit 261,nat_lit 262,nat_lit 266,nat_lit 267,nat_lit 271,nat_lit 272,nat_lit 278,nat_lit 279,nat_lit 283,nat_lit 284,nat_lit 290,nat_lit 291,nat_lit 297,nat_lit 298,nat_lit 302,nat_lit 303,nat_lit 307,nat_lit 308] (fun _=>by kernel_rfl))) (YP:=Hook.says (kHook K15.kf [nat_lit 2,nat_lit 3,nat_lit 25,nat_lit 26,nat_lit 32,nat_lit 33,nat_lit 37,nat_lit 38,nat_lit 42,nat_lit 43,nat_lit 93,nat_lit 94,nat_lit 100,nat_lit 101,nat_lit 107,nat_lit 108,nat_lit 114,nat_lit 115,nat_lit 121,nat_lit 122,nat_lit 128,nat_lit 129,nat_lit 135,nat_lit 136,nat_lit 142,nat_lit 143,nat_lit 149,nat_lit 150,nat_lit 161,nat_lit 162,nat_lit 185,nat_lit 186,nat_lit 187,nat_lit 188,nat_lit 196,nat_lit 197,nat_lit 203,nat_lit 204,nat_lit 210,nat_lit 211,nat_lit 217,nat_lit 218,nat_lit 224,nat_lit 225,nat_lit 229,nat_lit 230,nat_lit 236,nat_lit 237,nat_lit 241,nat_lit 242,nat_lit 246,nat_lit 247,nat_lit 251,nat_lit 252,nat_lit 256,nat_lit 257,nat_lit 261,nat_lit 262,nat_lit 266,nat_lit 267,nat_lit 271,nat_lit 272,nat_lit 278,nat_lit 279,nat_lit 283,nat_lit 284,nat_lit 290,nat_lit 291,nat_lit 297,nat_lit 298,nat_lit 302,nat_lit 303,nat_lit 307,nat_lit 308] (fun _=>by kernel_rfl))) (N:=4176) K15.left (Hook.of _) (Hook.keeps _)
  (fun s e=>xl_of s (Bool.and_eq_true_iff.mp e).1) XL.keeps (by rfl) (by rfl) (by rfl) (fun s e=>recFacts_of (Bool.and_eq_true_iff.mp e).2) (by rfl) (by assumption) (by decide +kernel) ⟨rfl,rfl,rfl,rfl,rfl,by decide +kernel⟩ ?hw ?hc
 case hw=>w_witness2
 k_fill
 refine K15.walk (l:=PySem.Challenge.rw_shapestring_k22_rims_told) rfl rfl (fun w h Y=>W.kIn_of Y) ?F
 case F=>
  intro w mg fa h KX G hmg
  refine' K15.all_mk KX G hmg ?a1 ?l1 ?c1 ?k1 ?a2 ?l2 ?c2 ?k2 ?a3 ?l3 ?c3 ?k3 ?a4 ?l4 ?c4 ?k4 ?a5 ?l5 ?c5 ?k5 ?a6 ?l6 ?c6 ?k6 ?a7 ?l7 ?c7 ?k7 ?a8 ?l8 ?c8 ?k8 ?a9 ?l9 ?c9 ?k9 ?a10 ?l10 ?c10 ?k10 ?a11 ?l11 ?c11 ?k11 ?a12 ?l12 ?c12 ?k12 ?a13 ?l13 ?c13 ?k13 ?a14 ?l14 ?c14 ?k14 ?a15 ?l15 ?c15 ?k15 ?a16 ?l16 ?c16 ?k16 ?a17 ?l17 ?c17 ?k17 ?a18 ?l18 ?c18 ?k18 ?a19 ?l19 ?c19 ?k19 ?a20 ?l20 ?c20 ?k20 ?a21 ?l21 ?c21 ?k21 ?a22 ?l22 ?c22 ?k22 ?a23 ?l23 ?c23 ?k23 ?a24 ?l24 ?c24 ?k24 ?a25 ?l25 ?c25 ?k25 ?a26 ?l26 ?c26 ?k26 ?a27 ?l27 ?c27 ?k27 ?a28 ?l28 ?c28 ?k28 ?a29 ?l29 ?c29 ?k29 ?a30 ?l30 ?c30 ?k30 ?a31 ?l31 ?c31 ?k31 ?a32 ?l32 ?c32 ?k32 ?a33 ?l33 ?c33 ?k33 ?a34 ?i34 ?l34 ?c34 ?k34 ?aCs ?pg ?hd ?po ?sa ?mk ?kc ?n_ordered ?n_rising ?n_thirds ?n_steps ?z_len ?z_int ?z_str ?z_isinstance ?z_range ?z_list ?z_tuple ?z_bool ?z_all ?z_ValueError ?z_reversed ?z_enumerate ?z_sorted ?z_min ?z_max ?z_dict ?aM ?t_t ?t_i ?t_b ?v_l
  (case aCs=>k_is);(case a1=>k_is);(case l1=>k_is);(case c1=>k_is);(case k1=>k_is);(case a2=>k_is);(case l2=>k_is);(case c2=>k_is)
  (case k2=>k_is);(case a3=>k_is);(case l3=>k_is);(case c3=>k_is);(case k3=>k_is);(case a4=>k_is);(case l4=>k_is);(case c4=>k_is)
  (case k4=>k_is);(case a5=>k_is);(case l5=>k_is);(case c5=>k_is);(case k5=>k_is);(case a6=>k_is);(case l6=>k_is);(case c6=>k_is)
  (case k6=>k_is);(case a7=>k_is);(case l7=>k_is);(case c7=>k_is);(case k7=>k_is);(case a8=>k_is);(case l8=>k_is);(case c8=>k_is)
  (case k8=>k_is);(case a9=>k_is);(case l9=>k_is);(case c9=>k_is);(case k9=>k_is);(case a10=>k_is);(case l10=>k_is);(case c10=>k_is)
  (case k10=>k_is);(case a11=>k_is);(case l11=>k_is);(case c11=>k_is);(case k11=>k_is);(case a12=>k_is);(case l12=>k_is);(case c12=>k_is)
  (case k12=>k_is);(case a13=>k_is);(case l13=>k_is);(case c13=>k_is);(case k13=>k_is);(case a14=>k_is);(case l14=>k_is);(case c14=>k_is)
  (case k14=>k_is);(case a15=>k_is);(case l15=>k_is);(case c15=>k_is);(case k15=>k_is);(case a16=>k_is);(case l16=>k_is);(case c16=>k_is)
  (case k16=>k_is);(case a17=>k_is);(case l17=>k_is);(case c17=>k_is);(case k17=>k_is);(case a18=>k_is);(case l18=>k_is);(case c18=>k_is)
  (case k18=>k_is);(case a19=>k_is);(case l19=>k_is);(case c19=>k_is);(case k19=>k_is);(case a20=>k_is);(case l20=>k_is);(case c20=>k_is)
  (case k20=>k_is);(case a21=>k_is);(case l21=>k_is);(case c21=>k_is);(case k21=>k_is);(case a22=>k_is);(case l22=>k_is);(case c22=>k_is)
  (case k22=>k_is);(case a23=>k_is);(case l23=>k_is);(case c23=>k_is);(case k23=>k_is);(case a24=>k_is);(case l24=>k_is);(case c24=>k_is)
  (case k24=>k_is);(case a25=>k_is);(case l25=>k_is);(case c25=>k_is);(case k25=>k_is);(case a26=>k_is);(case l26=>k_is);(case c26=>k_is)
  (case k26=>k_is);(case a27=>k_is);(case l27=>k_is);(case c27=>k_is);(case k27=>k_is);(case a28=>k_is);(case l28=>k_is);(case c28=>k_is)
  (case k28=>k_is);(case a29=>k_is);(case l29=>k_is);(case c29=>k_is);(case k29=>k_is);(case a30=>k_is);(case l30=>k_is);(case c30=>k_is)
  (case k30=>k_is);(case a31=>k_is);(case l31=>k_is);(case c31=>k_is);(case k31=>k_is);(case a32=>k_is);(case l32=>k_is);(case c32=>k_is)
  (case k32=>k_is);(case a33=>k_is);(case l33=>k_is);(case c33=>k_is);(case k33=>k_is);(case a34=>k_is);(case i34=>k_is);(case l34=>k_is)
  (case c34=>k_is);(case k34=>k_is);(case pg=>k_is);(case hd=>k_is);(case po=>k_is);(case sa=>k_is);(case mk=>k_is);(case kc=>k_is)
  (case n_ordered=>k_is);(case n_rising=>k_is);(case n_thirds=>k_is);(case n_steps=>k_is);(case z_len=>k_is);(case z_int=>k_is);(case z_str=>k_is);(case z_isinstance=>k_is)
  (case z_range=>k_is);(case z_list=>k_is);(case z_tuple=>k_is);(case z_bool=>k_is);(case z_all=>k_is);(case z_ValueError=>k_is);(case z_reversed=>k_is);(case z_enumerate=>k_is)
  (case z_sorted=>k_is);(case z_min=>k_is);(case z_max=>k_is);(case z_dict=>k_is);(case aM=>k_is);(case t_t=>kit_is);(case t_i=>kit_is);(case t_b=>kit_is)
  (case v_l=>kit_is)
#print axioms PySem.Challenge.cw_shapestring_k22_rims_told_holds

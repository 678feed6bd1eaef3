import PyProof.Rows.All
import Wide.All
import OpenK.AllK
import Wide.FinOn
import Lean
import PyProof.EqAt
import PyProof.EqKinds
import PyProof.TupleCall
import PyProof.NeData
import PyProof.P3In
import PyProof.DictItems
import KE.KPairComp
import PyProof.Rows.Chain
import PyProof.StrLawsTight
import PyProof.CallStr
import Open.Pieces
import KE.KRevIter
import KE.KRevSl
import PyProof.Draws
import PyProof.EnumMake
import KE.KItemsList
import PyProof.ReprRoads
import KE.KTryMore
import PySem.Challenge.RW_shapestring_k13_written_and_read
set_option Elab.async false
set_option linter.all false
set_option maxRecDepth 100000
set_option maxHeartbeats 0
section
namespace L2
open PySem
def aj (s:Stmt):Arguments:=match s with
 | .FunctionDef _ a _ _ _ _ _ _ _ _=>a
 |_=>{posonlyargs:=[],args:=[],vararg:=none,kwonlyargs:=[],kw_defaults:=[],kwarg:=none,defaults:=[]}
def ai (s:Stmt):List Stmt:=match s with
 | .FunctionDef _ _ b _ _ _ _ _ _ _=>b
 |_=>[]
def ae (s:Stmt):Scope:=match s with
 | .FunctionDef _ _ _ _ _ _ sc _ _ _=>sc
 |_=>{kind:=.function,names:=[],isGenerator:=false,isCoroutine:=false}
end L2
namespace K51
open PySem L2
def wF:Nat:=27
def topP (i:Nat):Stmt:=PySem.Challenge.pw_shapestring_k13_written_and_read.main.body.getD i (.Pass ⟨0,0,0,0⟩)
def top (i:Nat):Stmt:=topP (wF+i)
def ig (c j:Nat):Stmt:=match topP c with
 | .ClassDef _ _ _ body _ _ _ _ _ _ _=>body.getD j (.Pass ⟨0,0,0,0⟩)
 |_=>.Pass ⟨0,0,0,0⟩
abbrev dn:Stmt:=topP 6
abbrev bP:Stmt:=topP 7
abbrev bE:Stmt:=topP 8
abbrev dD:Stmt:=topP 10
abbrev bO:Stmt:=topP 13
abbrev cz:Stmt:=topP 14
abbrev cU:Stmt:=topP 15
abbrev dt:Stmt:=topP 16
abbrev fh:Stmt:=topP 17
abbrev dz:Stmt:=topP 18
abbrev dH:Stmt:=topP 19
abbrev eG:Stmt:=ig 20 0
abbrev br:Stmt:=ig 20 1
abbrev bu:Stmt:=ig 20 2
abbrev dq:Stmt:=ig 20 3
abbrev aP:Stmt:=topP 22
abbrev bM:Stmt:=topP 23
abbrev bh:Stmt:=topP 24
abbrev bN:Stmt:=topP 25
abbrev sAt:Stmt:=top 0
abbrev sPot:Stmt:=top 1
abbrev dG:Stmt:=top 2
abbrev dv:Stmt:=top 3
abbrev cR:Stmt:=top 4
abbrev fi:Stmt:=top 5
abbrev cy:Stmt:=top 6
abbrev fj:Stmt:=top 7
abbrev du:Stmt:=top 8
abbrev dE:Stmt:=top 9
abbrev bz:Stmt:=top 10
abbrev cS:Stmt:=top 11
abbrev dC:Stmt:=top 12
abbrev cw:Stmt:=top 13
abbrev dB:Stmt:=top 14
abbrev dw:Stmt:=top 15
abbrev cT:Stmt:=top 16
abbrev fg:Stmt:=top 17
abbrev dA:Stmt:=top 18
abbrev sLIs:Stmt:=top 19
abbrev sLaw:Stmt:=top 20
end K51
end
section
namespace K15
open PySem L2 PySem.W K51
noncomputable def kf:Params→Frag:=fun P=>
 (nat_lit 2,⟨.none,none,(.dict #[] 0),#[]⟩) ::
 (nat_lit 3,⟨(.type "dict"),none,(.dict #[(PySem.DictEntry.mk (PySem.PyData.keyHash P "__name__") (.str "__name__" 165) (.str "law_shapestring_k13_written_and_read" 460)),(PySem.DictEntry.mk (PySem.PyData.keyHash P "__doc__") (.str "__doc__" 166) .none),(PySem.DictEntry.mk (PySem.PyData.keyHash P "__package__") (.str "__package__" 167) .none),(PySem.DictEntry.mk (PySem.PyData.keyHash P "__loader__") (.str "__loader__" 168) (.builtin "__main__.__loader__#opaque")),(PySem.DictEntry.mk (PySem.PyData.keyHash P "__spec__") (.str "__spec__" 169) .none),(PySem.DictEntry.mk (PySem.PyData.keyHash P "__annotations__") (.str "__annotations__" 170) (.ref 6)),(PySem.DictEntry.mk (PySem.PyData.keyHash P "__builtins__") (.str "__builtins__" 171) (.ref 4)),(PySem.DictEntry.mk (PySem.PyData.keyHash P "__file__") (.str "__file__" 173) (.str "/claim/cut.py" 172)),(PySem.DictEntry.mk (PySem.PyData.keyHash P "__cached__") (.str "__cached__" 174) .none),(PySem.DictEntry.mk (PySem.PyData.keyHash P "ShapeError") (.str "ShapeError" 206) (.ref 24)),(PySem.DictEntry.mk (PySem.PyData.keyHash P "TooMany") (.str "TooMany" 222) (.ref 37)),(PySem.DictEntry.mk (PySem.PyData.keyHash P "NoText") (.str "NoText" 238) (.ref 49)),(PySem.DictEntry.mk (PySem.PyData.keyHash P "NoSkin") (.str "NoSkin" 263) (.ref 68)),(PySem.DictEntry.mk (PySem.PyData.keyHash P "is_whole") (.str "is_whole" 272) (.ref 77)),(PySem.DictEntry.mk (PySem.PyData.keyHash P "is_corner") (.str "is_corner" 279) (.ref 84)),(PySem.DictEntry.mk (PySem.PyData.keyHash P "is_figures") (.str "is_figures" 286) (.ref 91)),(PySem.DictEntry.mk (PySem.PyData.keyHash P "first_of") (.str "first_of" 294) (.ref 96)),(PySem.DictEntry.mk (PySem.PyData.keyHash P "MOST_TRIPLES") (.str "MOST_TRIPLES" 298) (.int 200 297)),(PySem.DictEntry.mk (PySem.PyData.keyHash P "is_triple") (.str "is_triple" 308) (.ref 103)),(PySem.DictEntry.mk (PySem.PyData.keyHash P "checked_triples") (.str "checked_triples" 321) (.ref 110)),(PySem.DictEntry.mk (PySem.PyData.keyHash P "thirds_by_side") (.str "thirds_by_side" 335) (.ref 117)),(PySem.DictEntry.mk (PySem.PyData.keyHash P "steps_by_corner") (.str "steps_by_corner" 347) (.ref 124)),(PySem.DictEntry.mk (PySem.PyData.keyHash P "hang_together") (.str "hang_together" 356) (.ref 131)),(PySem.DictEntry.mk (PySem.PyData.keyHash P "look_rounds_through") (.str "look_rounds_through" 364) (.ref 138)),(PySem.DictEntry.mk (PySem.PyData.keyHash P "begun_least") (.str "begun_least" 374) (.ref 145)),(PySem.DictEntry.mk (PySem.PyData.keyHash P "Skin") (.str "Skin" 427) (.ref 181)),(PySem.DictEntry.mk (PySem.PyData.keyHash P "show_triangle") (.str "show_triangle" 435) (.ref 190)),(PySem.DictEntry.mk (PySem.PyData.keyHash P "show_skin") (.str "show_skin" 441) (.ref 195)),(PySem.DictEntry.mk (PySem.PyData.keyHash P "read_triple") (.str "read_triple" 453) (.ref 202)),(PySem.DictEntry.mk (PySem.PyData.keyHash P "read_skin") (.str "read_skin" 459) (.ref 207)),(PySem.DictEntry.mk (PySem.PyData.keyHash P "_law_at") (.str "_law_at" 469) (.ref 214)),(PySem.DictEntry.mk (PySem.PyData.keyHash P "_law_pot") (.str "_law_pot" 480) (.ref 221)),(PySem.DictEntry.mk (PySem.PyData.keyHash P "_law_digit") (.str "_law_digit" 489) (.ref 228)),(PySem.DictEntry.mk (PySem.PyData.keyHash P "_law_sides") (.str "_law_sides" 499) (.ref 235)),(PySem.DictEntry.mk (PySem.PyData.keyHash P "_law_thirds") (.str "_law_thirds" 510) (.ref 242)),(PySem.DictEntry.mk (PySem.PyData.keyHash P "_law_free") (.str "_law_free" 516) (.ref 247)),(PySem.DictEntry.mk (PySem.PyData.keyHash P "_law_corners") (.str "_law_corners" 526) (.ref 254)),(PySem.DictEntry.mk (PySem.PyData.keyHash P "_law_fans") (.str "_law_fans" 532) (.ref 259)),(PySem.DictEntry.mk (PySem.PyData.keyHash P "_law_split") (.str "_law_split" 538) (.ref 264)),(PySem.DictEntry.mk (PySem.PyData.keyHash P "_law_drawn") (.str "_law_drawn" 544) (.ref 269)),(PySem.DictEntry.mk (PySem.PyData.keyHash P "_law_rim_sides") (.str "_law_rim_sides" 550) (.ref 274)),(PySem.DictEntry.mk (PySem.PyData.keyHash P "_law_grown") (.str "_law_grown" 556) (.ref 279)),(PySem.DictEntry.mk (PySem.PyData.keyHash P "_law_ring") (.str "_law_ring" 562) (.ref 284)),(PySem.DictEntry.mk (PySem.PyData.keyHash P "_law_beside") (.str "_law_beside" 568) (.ref 289)),(PySem.DictEntry.mk (PySem.PyData.keyHash P "_law_skin") (.str "_law_skin" 577) (.ref 296)),(PySem.DictEntry.mk (PySem.PyData.keyHash P "_law_named") (.str "_law_named" 583) (.ref 301)),(PySem.DictEntry.mk (PySem.PyData.keyHash P "_law_handed") (.str "_law_handed" 596) (.ref 308)),(PySem.DictEntry.mk (PySem.PyData.keyHash P "_law_told") (.str "_law_told" 606) (.ref 315)),(PySem.DictEntry.mk (PySem.PyData.keyHash P "_law_text") (.str "_law_text" 612) (.ref 320)),(PySem.DictEntry.mk (PySem.PyData.keyHash P "_law_is") (.str "_law_is" 624) (.ref 327)),(PySem.DictEntry.mk (PySem.PyData.keyHash P "law") (.str "law" 630) (.ref 332))] 51),#[]⟩) ::
 (nat_lit 76,⟨(.type "code"),none,(.fields #[(.str "is_whole" 266),(.str "is_whole" 267),(.str "/claim/cut.py" 268),(.int 14 0),(.int 1 0),(.int 0 0),(.int 0 0),(.int 3 0),(.ref 71),(.bool Bool.true),(.int 181 0),(.ref 72),.none,(.ref 73),(.ref 74),(.ref 75),(.int 270 0),(.int 14 0),(.str "/claim/cut.py" 271)]),#[]⟩) ::
 (nat_lit 77,⟨(.type "function"),none,(.func (fnOf "is_whole" "is_whole" (aj dn) (ai dn) (ae dn) .none .none .none (.str "shapestring.kinds" 264) none (.ref 76) .none)),#[]⟩) ::
 (nat_lit 83,⟨(.type "code"),none,(.fields #[(.str "is_corner" 273),(.str "is_corner" 274),(.str "/claim/cut.py" 275),(.int 16 0),(.int 1 0),(.int 0 0),(.int 0 0),(.int 3 0),(.ref 78),(.bool Bool.true),(.int 181 0),(.ref 79),.none,(.ref 80),(.ref 81),(.ref 82),(.int 277 0),(.int 16 0),(.str "/claim/cut.py" 278)]),#[]⟩) ::
 (nat_lit 84,⟨(.type "function"),none,(.func (fnOf "is_corner" "is_corner" (aj bP) (ai bP) (ae bP) .none .none .none (.str "shapestring.kinds" 264) none (.ref 83) .none)),#[]⟩) ::
 (nat_lit 90,⟨(.type "code"),none,(.fields #[(.str "is_figures" 280),(.str "is_figures" 281),(.str "/claim/cut.py" 282),(.int 18 0),(.int 1 0),(.int 0 0),(.int 0 0),(.int 3 0),(.ref 85),(.bool Bool.true),(.int 181 0),(.ref 86),.none,(.ref 87),(.ref 88),(.ref 89),(.int 284 0),(.int 18 0),(.str "/claim/cut.py" 285)]),#[]⟩) ::
 (nat_lit 91,⟨(.type "function"),none,(.func (fnOf "is_figures" "is_figures" (aj bE) (ai bE) (ae bE) .none .none .none (.str "shapestring.kinds" 264) none (.ref 90) .none)),#[]⟩) ::
 (nat_lit 95,⟨(.type "code"),none,(.fields #[(.str "first_of" 289),(.str "first_of" 290),(.str "/claim/cut.py" 291),(.int 23 0),(.int 1 0),(.int 0 0),(.int 0 0),(.int 3 0),(.ref 92),(.bool Bool.true),(.int 181 0),(.ref 93),.none,.none,.none,(.ref 94),(.int 292 0),(.int 23 0),(.str "/claim/cut.py" 293)]),#[]⟩) ::
 (nat_lit 96,⟨(.type "function"),none,(.func (fnOf "first_of" "first_of" (aj dD) (ai dD) (ae dD) .none .none .none (.str "shapestring.rings" 287) none (.ref 95) .none)),#[]⟩) ::
 (nat_lit 102,⟨(.type "code"),none,(.fields #[(.str "is_triple" 299),(.str "is_triple" 300),(.str "/claim/cut.py" 301),(.int 29 0),(.int 1 0),(.int 0 0),(.int 0 0),(.int 3 0),(.ref 97),(.bool Bool.true),(.int 181 0),(.ref 98),.none,(.ref 99),(.ref 100),(.ref 101),(.int 306 0),(.int 29 0),(.str "/claim/cut.py" 307)]),#[]⟩) ::
 (nat_lit 103,⟨(.type "function"),none,(.func (fnOf "is_triple" "is_triple" (aj bO) (ai bO) (ae bO) .none .none .none (.str "shapestring.skins" 295) none (.ref 102) .none)),#[]⟩) ::
 (nat_lit 109,⟨(.type "code"),none,(.fields #[(.str "checked_triples" 309),(.str "checked_triples" 310),(.str "/claim/cut.py" 311),(.int 36 0),(.int 1 0),(.int 0 0),(.int 0 0),(.int 3 0),(.ref 104),(.bool Bool.true),(.int 181 0),(.ref 105),.none,(.ref 106),(.ref 107),(.ref 108),(.int 319 0),(.int 36 0),(.str "/claim/cut.py" 320)]),#[]⟩) ::
 (nat_lit 110,⟨(.type "function"),none,(.func (fnOf "checked_triples" "checked_triples" (aj cz) (ai cz) (ae cz) .none .none .none (.str "shapestring.skins" 295) none (.ref 109) .none)),#[]⟩) ::
 (nat_lit 116,⟨(.type "code"),none,(.fields #[(.str "thirds_by_side" 322),(.str "thirds_by_side" 323),(.str "/claim/cut.py" 324),(.int 44 0),(.int 1 0),(.int 0 0),(.int 0 0),(.int 3 0),(.ref 111),(.bool Bool.true),(.int 181 0),(.ref 112),.none,(.ref 113),(.ref 114),(.ref 115),(.int 333 0),(.int 44 0),(.str "/claim/cut.py" 334)]),#[]⟩) ::
 (nat_lit 117,⟨(.type "function"),none,(.func (fnOf "thirds_by_side" "thirds_by_side" (aj cU) (ai cU) (ae cU) .none .none .none (.str "shapestring.skins" 295) none (.ref 116) .none)),#[]⟩) ::
 (nat_lit 123,⟨(.type "code"),none,(.fields #[(.str "steps_by_corner" 336),(.str "steps_by_corner" 337),(.str "/claim/cut.py" 338),(.int 52 0),(.int 1 0),(.int 0 0),(.int 0 0),(.int 3 0),(.ref 118),(.bool Bool.true),(.int 181 0),(.ref 119),.none,(.ref 120),(.ref 121),(.ref 122),(.int 345 0),(.int 52 0),(.str "/claim/cut.py" 346)]),#[]⟩) ::
 (nat_lit 124,⟨(.type "function"),none,(.func (fnOf "steps_by_corner" "steps_by_corner" (aj dt) (ai dt) (ae dt) .none .none .none (.str "shapestring.skins" 295) none (.ref 123) .none)),#[]⟩) ::
 (nat_lit 130,⟨(.type "code"),none,(.fields #[(.str "hang_together" 348),(.str "hang_together" 349),(.str "/claim/cut.py" 350),(.int 58 0),(.int 1 0),(.int 0 0),(.int 0 0),(.int 3 0),(.ref 125),(.bool Bool.true),(.int 181 0),(.ref 126),.none,(.ref 127),(.ref 128),(.ref 129),(.int 354 0),(.int 58 0),(.str "/claim/cut.py" 355)]),#[]⟩) ::
 (nat_lit 131,⟨(.type "function"),none,(.func (fnOf "hang_together" "hang_together" (aj fh) (ai fh) (ae fh) .none .none .none (.str "shapestring.skins" 295) none (.ref 130) .none)),#[]⟩) ::
 (nat_lit 137,⟨(.type "code"),none,(.fields #[(.str "look_rounds_through" 357),(.str "look_rounds_through" 358),(.str "/claim/cut.py" 359),(.int 64 0),(.int 1 0),(.int 0 0),(.int 0 0),(.int 3 0),(.ref 132),(.bool Bool.true),(.int 181 0),(.ref 133),.none,(.ref 134),(.ref 135),(.ref 136),(.int 362 0),(.int 64 0),(.str "/claim/cut.py" 363)]),#[]⟩) ::
 (nat_lit 138,⟨(.type "function"),none,(.func (fnOf "look_rounds_through" "look_rounds_through" (aj dz) (ai dz) (ae dz) .none .none .none (.str "shapestring.skins" 295) none (.ref 137) .none)),#[]⟩) ::
 (nat_lit 144,⟨(.type "code"),none,(.fields #[(.str "begun_least" 365),(.str "begun_least" 366),(.str "/claim/cut.py" 367),(.int 68 0),(.int 1 0),(.int 0 0),(.int 0 0),(.int 3 0),(.ref 139),(.bool Bool.true),(.int 181 0),(.ref 140),.none,(.ref 141),(.ref 142),(.ref 143),(.int 372 0),(.int 68 0),(.str "/claim/cut.py" 373)]),#[]⟩) ::
 (nat_lit 145,⟨(.type "function"),none,(.func (fnOf "begun_least" "begun_least" (aj dH) (ai dH) (ae dH) .none .none .none (.str "shapestring.skins" 295) none (.ref 144) .none)),#[]⟩) ::
 (nat_lit 156,⟨(.type "code"),none,(.fields #[(.str "__init__" 387),(.str "Skin.__init__" 388),(.str "/claim/cut.py" 389),(.int 73 0),(.int 2 0),(.int 0 0),(.int 0 0),(.int 3 0),(.ref 153),(.bool Bool.true),(.int 181 0),(.ref 154),.none,.none,.none,(.ref 155),(.int 390 0),(.int 73 0),(.str "/claim/cut.py" 391)]),#[]⟩) ::
 (nat_lit 157,⟨(.type "function"),none,(.func (fnOf "__init__" "Skin.__init__" (aj eG) (ai eG) (ae eG) .none .none .none (.str "shapestring.skins" 295) none (.ref 156) .none)),#[]⟩) ::
 (nat_lit 163,⟨(.type "code"),none,(.fields #[(.str "triangles" 393),(.str "Skin.triangles" 394),(.str "/claim/cut.py" 395),(.int 85 0),(.int 1 0),(.int 0 0),(.int 0 0),(.int 3 0),(.ref 158),(.bool Bool.true),(.int 181 0),(.ref 159),.none,(.ref 160),(.ref 161),(.ref 162),(.int 397 0),(.int 85 0),(.str "/claim/cut.py" 398)]),#[]⟩) ::
 (nat_lit 164,⟨(.type "function"),none,(.func (fnOf "triangles" "Skin.triangles" (aj br) (ai br) (ae br) .none .none .none (.str "shapestring.skins" 295) none (.ref 163) .none)),#[]⟩) ::
 (nat_lit 170,⟨(.type "code"),none,(.fields #[(.str "corners" 400),(.str "Skin.corners" 401),(.str "/claim/cut.py" 402),(.int 88 0),(.int 1 0),(.int 0 0),(.int 0 0),(.int 3 0),(.ref 165),(.bool Bool.true),(.int 181 0),(.ref 166),.none,(.ref 167),(.ref 168),(.ref 169),(.int 404 0),(.int 88 0),(.str "/claim/cut.py" 405)]),#[]⟩) ::
 (nat_lit 171,⟨(.type "function"),none,(.func (fnOf "corners" "Skin.corners" (aj bu) (ai bu) (ae bu) .none .none .none (.str "shapestring.skins" 295) none (.ref 170) .none)),#[]⟩) ::
 (nat_lit 177,⟨(.type "code"),none,(.fields #[(.str "third" 407),(.str "Skin.third" 408),(.str "/claim/cut.py" 409),(.int 91 0),(.int 3 0),(.int 0 0),(.int 0 0),(.int 3 0),(.ref 172),(.bool Bool.true),(.int 181 0),(.ref 173),.none,(.ref 174),(.ref 175),(.ref 176),(.int 413 0),(.int 91 0),(.str "/claim/cut.py" 414)]),#[]⟩) ::
 (nat_lit 178,⟨(.type "function"),none,(.func (fnOf "third" "Skin.third" (aj dq) (ai dq) (ae dq) .none .none .none (.str "shapestring.skins" 295) none (.ref 177) .none)),#[]⟩) ::
 (nat_lit 180,⟨(.type "dict"),none,(.dict #[(PySem.DictEntry.mk (PySem.PyData.keyHash P "__module__") (.str "__module__" 382) (.str "shapestring.skins" 295)),(PySem.DictEntry.mk (PySem.PyData.keyHash P "__firstlineno__") (.str "__firstlineno__" 386) (.int 71 385)),(PySem.DictEntry.mk (PySem.PyData.keyHash P "__init__") (.str "__init__" 392) (.ref 157)),(PySem.DictEntry.mk (PySem.PyData.keyHash P "triangles") (.str "triangles" 399) (.ref 164)),(PySem.DictEntry.mk (PySem.PyData.keyHash P "corners") (.str "corners" 406) (.ref 171)),(PySem.DictEntry.mk (PySem.PyData.keyHash P "third") (.str "third" 415) (.ref 178)),(PySem.DictEntry.mk (PySem.PyData.keyHash P "__static_attributes__") (.str "__static_attributes__" 420) (.ref 179)),(PySem.DictEntry.mk (PySem.PyData.keyHash P "__dict__") (.str "__dict__" 422) (.ref 182)),(PySem.DictEntry.mk (PySem.PyData.keyHash P "__weakref__") (.str "__weakref__" 424) (.ref 183)),(PySem.DictEntry.mk (PySem.PyData.keyHash P "__doc__") (.str "__doc__" 425) .none)] 4),#[]⟩) ::
 (nat_lit 181,⟨(.type "type"),none,(.cls (PySem.ClassData.mk "Skin" [(.type "object")] [(.ref 181),(.type "object")] 180 "Skin" Bool.true [] [] Bool.false none Bool.false)),#[none,none,(Option.some (.str "Skin" 375)),(Option.some (.str "Skin" 383)),(Option.some (.builtin "object.__new__")),(Option.some (.bool Bool.true))]⟩) ::
 (nat_lit 189,⟨(.type "code"),none,(.fields #[(.str "show_triangle" 430),(.str "show_triangle" 431),(.str "/claim/cut.py" 432),(.int 94 0),(.int 1 0),(.int 0 0),(.int 0 0),(.int 3 0),(.ref 186),(.bool Bool.true),(.int 181 0),(.ref 187),.none,.none,.none,(.ref 188),(.int 433 0),(.int 94 0),(.str "/claim/cut.py" 434)]),#[]⟩) ::
 (nat_lit 190,⟨(.type "function"),none,(.func (fnOf "show_triangle" "show_triangle" (aj aP) (ai aP) (ae aP) .none .none .none (.str "shapestring.skintexts" 428) none (.ref 189) .none)),#[]⟩) ::
 (nat_lit 194,⟨(.type "code"),none,(.fields #[(.str "show_skin" 436),(.str "show_skin" 437),(.str "/claim/cut.py" 438),(.int 96 0),(.int 1 0),(.int 0 0),(.int 0 0),(.int 3 0),(.ref 191),(.bool Bool.true),(.int 181 0),(.ref 192),.none,.none,.none,(.ref 193),(.int 439 0),(.int 96 0),(.str "/claim/cut.py" 440)]),#[]⟩) ::
 (nat_lit 195,⟨(.type "function"),none,(.func (fnOf "show_skin" "show_skin" (aj bM) (ai bM) (ae bM) .none .none .none (.str "shapestring.skintexts" 428) none (.ref 194) .none)),#[]⟩) ::
 (nat_lit 201,⟨(.type "code"),none,(.fields #[(.str "read_triple" 442),(.str "read_triple" 443),(.str "/claim/cut.py" 444),(.int 98 0),(.int 1 0),(.int 0 0),(.int 0 0),(.int 3 0),(.ref 196),(.bool Bool.true),(.int 181 0),(.ref 197),.none,(.ref 198),(.ref 199),(.ref 200),(.int 451 0),(.int 98 0),(.str "/claim/cut.py" 452)]),#[]⟩) ::
 (nat_lit 202,⟨(.type "function"),none,(.func (fnOf "read_triple" "read_triple" (aj bh) (ai bh) (ae bh) .none .none .none (.str "shapestring.skintexts" 428) none (.ref 201) .none)),#[]⟩) ::
 (nat_lit 206,⟨(.type "code"),none,(.fields #[(.str "read_skin" 454),(.str "read_skin" 455),(.str "/claim/cut.py" 456),(.int 107 0),(.int 1 0),(.int 0 0),(.int 0 0),(.int 3 0),(.ref 203),(.bool Bool.true),(.int 181 0),(.ref 204),.none,.none,.none,(.ref 205),(.int 457 0),(.int 107 0),(.str "/claim/cut.py" 458)]),#[]⟩) ::
 (nat_lit 207,⟨(.type "function"),none,(.func (fnOf "read_skin" "read_skin" (aj bN) (ai bN) (ae bN) .none .none .none (.str "shapestring.skintexts" 428) none (.ref 206) .none)),#[]⟩) ::
 (nat_lit 213,⟨(.type "code"),none,(.fields #[(.str "_law_at" 462),(.str "_law_at" 463),(.str "/claim/cut.py" 464),(.int 114 0),(.int 2 0),(.int 0 0),(.int 0 0),(.int 3 0),(.ref 208),(.bool Bool.true),(.int 181 0),(.ref 209),.none,(.ref 210),(.ref 211),(.ref 212),(.int 467 0),(.int 114 0),(.str "/claim/cut.py" 468)]),#[]⟩) ::
 (nat_lit 214,⟨(.type "function"),none,(.func (fnOf "_law_at" "_law_at" (aj sAt) (ai sAt) (ae sAt) .none .none .none (.str "law_shapestring_k13_written_and_read" 460) none (.ref 213) .none)),#[]⟩) ::
 (nat_lit 220,⟨(.type "code"),none,(.fields #[(.str "_law_pot" 470),(.str "_law_pot" 471),(.str "/claim/cut.py" 472),(.int 118 0),(.int 2 0),(.int 0 0),(.int 0 0),(.int 3 0),(.ref 215),(.bool Bool.true),(.int 181 0),(.ref 216),.none,(.ref 217),(.ref 218),(.ref 219),(.int 478 0),(.int 118 0),(.str "/claim/cut.py" 479)]),#[]⟩) ::
 (nat_lit 221,⟨(.type "function"),none,(.func (fnOf "_law_pot" "_law_pot" (aj sPot) (ai sPot) (ae sPot) .none .none .none (.str "law_shapestring_k13_written_and_read" 460) none (.ref 220) .none)),#[]⟩) ::
 (nat_lit 227,⟨(.type "code"),none,(.fields #[(.str "_law_digit" 481),(.str "_law_digit" 482),(.str "/claim/cut.py" 483),(.int 126 0),(.int 2 0),(.int 0 0),(.int 0 0),(.int 3 0),(.ref 222),(.bool Bool.true),(.int 181 0),(.ref 223),.none,(.ref 224),(.ref 225),(.ref 226),(.int 487 0),(.int 126 0),(.str "/claim/cut.py" 488)]),#[]⟩) ::
 (nat_lit 228,⟨(.type "function"),none,(.func (fnOf "_law_digit" "_law_digit" (aj dG) (ai dG) (ae dG) .none .none .none (.str "law_shapestring_k13_written_and_read" 460) none (.ref 227) .none)),#[]⟩) ::
 (nat_lit 234,⟨(.type "code"),none,(.fields #[(.str "_law_sides" 490),(.str "_law_sides" 491),(.str "/claim/cut.py" 492),(.int 133 0),(.int 1 0),(.int 0 0),(.int 0 0),(.int 3 0),(.ref 229),(.bool Bool.true),(.int 181 0),(.ref 230),.none,(.ref 231),(.ref 232),(.ref 233),(.int 497 0),(.int 133 0),(.str "/claim/cut.py" 498)]),#[]⟩) ::
 (nat_lit 235,⟨(.type "function"),none,(.func (fnOf "_law_sides" "_law_sides" (aj dv) (ai dv) (ae dv) .none .none .none (.str "law_shapestring_k13_written_and_read" 460) none (.ref 234) .none)),#[]⟩) ::
 (nat_lit 241,⟨(.type "code"),none,(.fields #[(.str "_law_thirds" 500),(.str "_law_thirds" 501),(.str "/claim/cut.py" 502),(.int 136 0),(.int 1 0),(.int 0 0),(.int 0 0),(.int 3 0),(.ref 236),(.bool Bool.true),(.int 181 0),(.ref 237),.none,(.ref 238),(.ref 239),(.ref 240),(.int 508 0),(.int 136 0),(.str "/claim/cut.py" 509)]),#[]⟩) ::
 (nat_lit 242,⟨(.type "function"),none,(.func (fnOf "_law_thirds" "_law_thirds" (aj cR) (ai cR) (ae cR) .none .none .none (.str "law_shapestring_k13_written_and_read" 460) none (.ref 241) .none)),#[]⟩) ::
 (nat_lit 246,⟨(.type "code"),none,(.fields #[(.str "_law_free" 511),(.str "_law_free" 512),(.str "/claim/cut.py" 513),(.int 143 0),(.int 2 0),(.int 0 0),(.int 0 0),(.int 3 0),(.ref 243),(.bool Bool.true),(.int 181 0),(.ref 244),.none,.none,.none,(.ref 245),(.int 514 0),(.int 143 0),(.str "/claim/cut.py" 515)]),#[]⟩) ::
 (nat_lit 247,⟨(.type "function"),none,(.func (fnOf "_law_free" "_law_free" (aj fi) (ai fi) (ae fi) .none .none .none (.str "law_shapestring_k13_written_and_read" 460) none (.ref 246) .none)),#[]⟩) ::
 (nat_lit 253,⟨(.type "code"),none,(.fields #[(.str "_law_corners" 517),(.str "_law_corners" 518),(.str "/claim/cut.py" 519),(.int 145 0),(.int 1 0),(.int 0 0),(.int 0 0),(.int 3 0),(.ref 248),(.bool Bool.true),(.int 181 0),(.ref 249),.none,(.ref 250),(.ref 251),(.ref 252),(.int 524 0),(.int 145 0),(.str "/claim/cut.py" 525)]),#[]⟩) ::
 (nat_lit 254,⟨(.type "function"),none,(.func (fnOf "_law_corners" "_law_corners" (aj cy) (ai cy) (ae cy) .none .none .none (.str "law_shapestring_k13_written_and_read" 460) none (.ref 253) .none)),#[]⟩) ::
 (nat_lit 258,⟨(.type "code"),none,(.fields #[(.str "_law_fans" 527),(.str "_law_fans" 528),(.str "/claim/cut.py" 529),(.int 151 0),(.int 2 0),(.int 0 0),(.int 0 0),(.int 3 0),(.ref 255),(.bool Bool.true),(.int 181 0),(.ref 256),.none,.none,.none,(.ref 257),(.int 530 0),(.int 151 0),(.str "/claim/cut.py" 531)]),#[]⟩) ::
 (nat_lit 259,⟨(.type "function"),none,(.func (fnOf "_law_fans" "_law_fans" (aj fj) (ai fj) (ae fj) .none .none .none (.str "law_shapestring_k13_written_and_read" 460) none (.ref 258) .none)),#[]⟩) ::
 (nat_lit 263,⟨(.type "code"),none,(.fields #[(.str "_law_split" 533),(.str "_law_split" 534),(.str "/claim/cut.py" 535),(.int 164 0),(.int 1 0),(.int 0 0),(.int 0 0),(.int 3 0),(.ref 260),(.bool Bool.true),(.int 181 0),(.ref 261),.none,.none,.none,(.ref 262),(.int 536 0),(.int 164 0),(.str "/claim/cut.py" 537)]),#[]⟩) ::
 (nat_lit 264,⟨(.type "function"),none,(.func (fnOf "_law_split" "_law_split" (aj du) (ai du) (ae du) .none .none .none (.str "law_shapestring_k13_written_and_read" 460) none (.ref 263) .none)),#[]⟩) ::
 (nat_lit 268,⟨(.type "code"),none,(.fields #[(.str "_law_drawn" 539),(.str "_law_drawn" 540),(.str "/claim/cut.py" 541),(.int 178 0),(.int 2 0),(.int 0 0),(.int 0 0),(.int 3 0),(.ref 265),(.bool Bool.true),(.int 181 0),(.ref 266),.none,.none,.none,(.ref 267),(.int 542 0),(.int 178 0),(.str "/claim/cut.py" 543)]),#[]⟩) ::
 (nat_lit 269,⟨(.type "function"),none,(.func (fnOf "_law_drawn" "_law_drawn" (aj dE) (ai dE) (ae dE) .none .none .none (.str "law_shapestring_k13_written_and_read" 460) none (.ref 268) .none)),#[]⟩) ::
 (nat_lit 273,⟨(.type "code"),none,(.fields #[(.str "_law_rim_sides" 545),(.str "_law_rim_sides" 546),(.str "/claim/cut.py" 547),(.int 188 0),(.int 1 0),(.int 0 0),(.int 0 0),(.int 3 0),(.ref 270),(.bool Bool.true),(.int 181 0),(.ref 271),.none,.none,.none,(.ref 272),(.int 548 0),(.int 188 0),(.str "/claim/cut.py" 549)]),#[]⟩) ::
 (nat_lit 274,⟨(.type "function"),none,(.func (fnOf "_law_rim_sides" "_law_rim_sides" (aj bz) (ai bz) (ae bz) .none .none .none (.str "law_shapestring_k13_written_and_read" 460) none (.ref 273) .none)),#[]⟩) ::
 (nat_lit 278,⟨(.type "code"),none,(.fields #[(.str "_law_grown" 551),(.str "_law_grown" 552),(.str "/claim/cut.py" 553),(.int 191 0),(.int 2 0),(.int 0 0),(.int 0 0),(.int 3 0),(.ref 275),(.bool Bool.true),(.int 181 0),(.ref 276),.none,.none,.none,(.ref 277),(.int 554 0),(.int 191 0),(.str "/claim/cut.py" 555)]),#[]⟩) ::
 (nat_lit 279,⟨(.type "function"),none,(.func (fnOf "_law_grown" "_law_grown" (aj cS) (ai cS) (ae cS) .none .none .none (.str "law_shapestring_k13_written_and_read" 460) none (.ref 278) .none)),#[]⟩) ::
 (nat_lit 283,⟨(.type "code"),none,(.fields #[(.str "_law_ring" 557),(.str "_law_ring" 558),(.str "/claim/cut.py" 559),(.int 206 0),(.int 1 0),(.int 0 0),(.int 0 0),(.int 3 0),(.ref 280),(.bool Bool.true),(.int 181 0),(.ref 281),.none,.none,.none,(.ref 282),(.int 560 0),(.int 206 0),(.str "/claim/cut.py" 561)]),#[]⟩) ::
 (nat_lit 284,⟨(.type "function"),none,(.func (fnOf "_law_ring" "_law_ring" (aj dC) (ai dC) (ae dC) .none .none .none (.str "law_shapestring_k13_written_and_read" 460) none (.ref 283) .none)),#[]⟩) ::
 (nat_lit 288,⟨(.type "code"),none,(.fields #[(.str "_law_beside" 563),(.str "_law_beside" 564),(.str "/claim/cut.py" 565),(.int 218 0),(.int 2 0),(.int 0 0),(.int 0 0),(.int 3 0),(.ref 285),(.bool Bool.true),(.int 181 0),(.ref 286),.none,.none,.none,(.ref 287),(.int 566 0),(.int 218 0),(.str "/claim/cut.py" 567)]),#[]⟩) ::
 (nat_lit 289,⟨(.type "function"),none,(.func (fnOf "_law_beside" "_law_beside" (aj cw) (ai cw) (ae cw) .none .none .none (.str "law_shapestring_k13_written_and_read" 460) none (.ref 288) .none)),#[]⟩) ::
 (nat_lit 295,⟨(.type "code"),none,(.fields #[(.str "_law_skin" 569),(.str "_law_skin" 570),(.str "/claim/cut.py" 571),(.int 221 0),(.int 2 0),(.int 0 0),(.int 0 0),(.int 3 0),(.ref 290),(.bool Bool.true),(.int 181 0),(.ref 291),.none,(.ref 292),(.ref 293),(.ref 294),(.int 575 0),(.int 221 0),(.str "/claim/cut.py" 576)]),#[]⟩) ::
 (nat_lit 296,⟨(.type "function"),none,(.func (fnOf "_law_skin" "_law_skin" (aj dB) (ai dB) (ae dB) .none .none .none (.str "law_shapestring_k13_written_and_read" 460) none (.ref 295) .none)),#[]⟩) ::
 (nat_lit 300,⟨(.type "code"),none,(.fields #[(.str "_law_named" 578),(.str "_law_named" 579),(.str "/claim/cut.py" 580),(.int 230 0),(.int 2 0),(.int 0 0),(.int 0 0),(.int 3 0),(.ref 297),(.bool Bool.true),(.int 181 0),(.ref 298),.none,.none,.none,(.ref 299),(.int 581 0),(.int 230 0),(.str "/claim/cut.py" 582)]),#[]⟩) ::
 (nat_lit 301,⟨(.type "function"),none,(.func (fnOf "_law_named" "_law_named" (aj dw) (ai dw) (ae dw) .none .none .none (.str "law_shapestring_k13_written_and_read" 460) none (.ref 300) .none)),#[]⟩) ::
 (nat_lit 307,⟨(.type "code"),none,(.fields #[(.str "_law_handed" 584),(.str "_law_handed" 585),(.str "/claim/cut.py" 586),(.int 240 0),(.int 2 0),(.int 0 0),(.int 0 0),(.int 3 0),(.ref 302),(.bool Bool.true),(.int 181 0),(.ref 303),.none,(.ref 304),(.ref 305),(.ref 306),(.int 594 0),(.int 240 0),(.str "/claim/cut.py" 595)]),#[]⟩) ::
 (nat_lit 308,⟨(.type "function"),none,(.func (fnOf "_law_handed" "_law_handed" (aj cT) (ai cT) (ae cT) .none .none .none (.str "law_shapestring_k13_written_and_read" 460) none (.ref 307) .none)),#[]⟩) ::
 (nat_lit 314,⟨(.type "code"),none,(.fields #[(.str "_law_told" 597),(.str "_law_told" 598),(.str "/claim/cut.py" 599),(.int 246 0),(.int 1 0),(.int 0 0),(.int 0 0),(.int 3 0),(.ref 309),(.bool Bool.true),(.int 181 0),(.ref 310),.none,(.ref 311),(.ref 312),(.ref 313),(.int 604 0),(.int 246 0),(.str "/claim/cut.py" 605)]),#[]⟩) ::
 (nat_lit 315,⟨(.type "function"),none,(.func (fnOf "_law_told" "_law_told" (aj fg) (ai fg) (ae fg) .none .none .none (.str "law_shapestring_k13_written_and_read" 460) none (.ref 314) .none)),#[]⟩) ::
 (nat_lit 319,⟨(.type "code"),none,(.fields #[(.str "_law_text" 607),(.str "_law_text" 608),(.str "/claim/cut.py" 609),(.int 252 0),(.int 1 0),(.int 0 0),(.int 0 0),(.int 3 0),(.ref 316),(.bool Bool.true),(.int 181 0),(.ref 317),.none,.none,.none,(.ref 318),(.int 610 0),(.int 252 0),(.str "/claim/cut.py" 611)]),#[]⟩) ::
 (nat_lit 320,⟨(.type "function"),none,(.func (fnOf "_law_text" "_law_text" (aj dA) (ai dA) (ae dA) .none .none .none (.str "law_shapestring_k13_written_and_read" 460) none (.ref 319) .none)),#[]⟩) ::
 (nat_lit 326,⟨(.type "code"),none,(.fields #[(.str "_law_is" 613),(.str "_law_is" 614),(.str "/claim/cut.py" 615),(.int 254 0),(.int 2 0),(.int 0 0),(.int 0 0),(.int 3 0),(.ref 321),(.bool Bool.true),(.int 181 0),(.ref 322),.none,(.ref 323),(.ref 324),(.ref 325),(.int 622 0),(.int 254 0),(.str "/claim/cut.py" 623)]),#[]⟩) ::
 (nat_lit 327,⟨(.type "function"),none,(.func (fnOf "_law_is" "_law_is" (aj sLIs) (ai sLIs) (ae sLIs) .none .none .none (.str "law_shapestring_k13_written_and_read" 460) none (.ref 326) .none)),#[]⟩) ::
 (nat_lit 331,⟨(.type "code"),none,(.fields #[(.str "law" 625),(.str "law" 626),(.str "/claim/cut.py" 627),(.int 264 0),(.int 1 0),(.int 0 0),(.int 0 0),(.int 3 0),(.ref 328),(.bool Bool.true),(.int 181 0),(.ref 329),.none,.none,.none,(.ref 330),(.int 628 0),(.int 264 0),(.str "/claim/cut.py" 629)]),#[]⟩) ::
 (nat_lit 332,⟨(.type "function"),none,(.func (fnOf "law" "law" (aj sLaw) (ai sLaw) (ae sLaw) .none .none .none (.str "law_shapestring_k13_written_and_read" 460) none (.ref 331) .none)),#[]⟩)::[]
end K15
end
section
namespace L2
open PySem PySem.W PySem.Calls PyProof.Rows
def fK (tb:String→Option Builtin) (p:Program) (w:World) (n₀:Nat) (ann:Option Value):Nat→SharedT→Thread→Option SharedT
 |0,_,_=>none
 |n+1,s,t=>match through t with
  |true=>some s
  |false=>match stepOk n₀ ann t with
   |false=>none
   |true=>match stepT (denote tb) p w s t with
    |some (s',t')=>fK tb p w n₀ ann n s' t'
    |none=>none
theorem iy {tb:String→Option Builtin} {p:Program} {w:World} {n₀:Nat} {ann:Option Value}:∀{n:Nat} {s s':SharedT} {t:Thread},fK tb p w n₀ ann n s t=some s'→topRun tb p w n₀ ann n s.abs t=some s'.abs
 |0,_,_,_,h=>by cases h
 |n+1,s,s',t,h=>by
  unfold fK at h
  unfold topRun
  cases ht:through t with
  |true=>rw[ht] at h;cases h;rfl
  |false=>
   rw[ht] at h
   cases hk:stepOk n₀ ann t with
   |false=>rw[hk] at h;cases h
   |true=>
    rw[hk] at h
    cases hs:stepT (denote tb) p w s t with
    |none=>rw[hs] at h;cases h
    |some r=>obtain⟨s₂,t₂⟩:=r;rw[hs] at h;rw[stepT_spec hs];exact iy h
def p7:List Obj→Nat→BT→BT
 | [],_,t=>t
 |o::os,n,t=>p7 os (n+1) (t.ins n o)
noncomputable def st0 (w:World) (os:OsState):SharedT:=⟨p7 (boot_heap w.params).objs.toList 0 .nil,(boot_heap w.params).objs.size,(boot_heap w.params).life,Array.mk [],boot_drawn,boot_toks,os⟩
theorem sX (w:World) (os:OsState):(st0 w os).abs=⟨boot_heap w.params,Array.mk [],boot_drawn,boot_toks,os⟩:=by kernel_rfl
theorem ur (w:World):((boot_heap w.params).isNs mainGlobals&&(Array.mk []:Array GenState).size==0)=true:=by kernel_rfl
theorem wa (w:World):(boot_heap w.params).objs.size=11:=by kernel_rfl
theorem sy (w:World):(boot_heap w.params).nsMap mainGlobals "__annotations__" = some (.ref 6):=by kernel_rfl
noncomputable def jV (p:Program) (w:World) (s:Shared):Bool:=staticsOk (importedModules p.main.body) (boot_heap w.params) s.heap&&namesBound p s.heap&&gensDone s&&laidKept (boot_heap w.params) s.heap
theorem t8 {p q:Program} {loose:List Str} {Xt:Shared→Bool} {α:Type} {Yf:Shared→α} {Ya:World→α} {N:Nat} {g0:Bool} {run:World→OsState→Option SharedT} (hr:∀w os,run w os=fK treeTable p w 11 (some (.ref 6)) N (st0 w os) (topStub p)) (hN:Nat.ble 600 N=true)
  (e:opening p=plainProg p.main.scope.names) (f:∀s,fenceModules? p s=some s)
  (a:∀(w:World) (os:OsState),(run w os).map (fun s=>(openSeen q loose (importedModules p.main.body) Xt g0 s.abs).1)=some (openGood q loose).1)
  (a2:∀(w:World) (os:OsState),(run w os).map (fun s=>((openSeen q loose (importedModules p.main.body) Xt g0 s.abs).2.1,(openSeen q loose (importedModules p.main.body) Xt g0 s.abs).2.2.1))=some ((openGood q loose).2.1,(openGood q loose).2.2.1))
  (a3:∀(w:World) (os:OsState),(run w os).map (fun s=>(openSeen q loose (importedModules p.main.body) Xt g0 s.abs).2.2.2)=some (openGood q loose).2.2.2)
  (b:∀(w:World) (os:OsState),(run w os).map (fun s=>(jV p w s.abs,Yf s.abs))=some (true,Ya w)):LeftO p q loose Xt Yf Ya N g0:=fun w=>by
 obtain⟨⟨h,gs,d,k,os⟩,e1,e'⟩:=Option.map_eq_some_iff.mp (boot_open e hN f w)
 obtain⟨rfl,rfl,rfl,rfl⟩:h=boot_heap w.params∧gs=Array.mk []∧d=boot_drawn∧k=boot_toks:=by simpa using e'
 obtain⟨s1,r1,o1⟩:=Option.map_eq_some_iff.mp (a w os)
 have a2:=a2 w os
 have a3:=a3 w os
 have b:=b w os
 rw[r1,Option.map_some] at a2 a3 b
 have a2:=Prod.mk.inj (Option.some.inj a2)
 have a3:=Option.some.inj a3
 obtain⟨l1,o2⟩:=Prod.mk.inj (Option.some.inj b)
 have l2:openSeen q loose (importedModules p.main.body) Xt g0 s1.abs=openGood q loose:=Prod.ext o1 (Prod.ext a2.1 (Prod.ext a2.2 a3))
 rw[hr] at r1
 have r:=iy r1
 rw[sX] at r
 have t:topFrom treeTable p w N ⟨boot_heap w.params,Array.mk [],boot_drawn,boot_toks,os⟩=some s1.abs:=by
  unfold topFrom
  dsimp only
  rw[ur,wa,sy,r]
  unfold jV at l1
  show (match staticsOk (importedModules p.main.body) (boot_heap w.params) s1.abs.heap&&namesBound p s1.abs.heap&&gensDone s1.abs&&laidKept (boot_heap w.params) s1.abs.heap with|true=>_|false=>_)=_
  rw[l1]
 unfold openEnds
 rw[e1]
 show (topFrom treeTable p w N _).map _=_
 rw[t]
 exact congrArg some (Prod.ext l2 o2)
end L2
end
section
namespace K15
open PySem L2 PySem.W K51
noncomputable def view:Program:={PySem.Challenge.pw_shapestring_k13_written_and_read with main:={(PySem.Challenge.pw_shapestring_k13_written_and_read).main with body:=[topP 1,topP 2,topP 3,topP 4,topP 6,topP 7,topP 8,topP 10,topP 12,topP 13,topP 14,topP 15,topP 16,topP 17,topP 18,topP 19,topP 20,topP 22,topP 23,topP 24,topP 25,topP 27,topP 28,topP 29,topP 30,topP 31,topP 32,topP 33,topP 34,topP 35,topP 36,topP 37,topP 38,topP 39,topP 40,topP 41,topP 42,topP 43,topP 44,topP 45,topP 46,topP 47]}}
noncomputable abbrev run (w:World) (os:OsState):Option SharedT:=fK treeTable PySem.Challenge.pw_shapestring_k13_written_and_read w 11 (some (.ref 6)) 4726 (st0 w os) (topStub PySem.Challenge.pw_shapestring_k13_written_and_read)
noncomputable abbrev seenAt (s:SharedT):=openSeen view [] (importedModules (PySem.Challenge.pw_shapestring_k13_written_and_read).main.body) (fun s=>xlAt view [] s&&recOk [] s) true s.abs
theorem leftA (w:World) (os:OsState):(run w os).map (fun s=>(seenAt s).1)=some (openGood view []).1:=by
 kernel_rfl
theorem leftA2 (w:World) (os:OsState):(run w os).map (fun s=>((seenAt s).2.1,(seenAt s).2.2.1))=some ((openGood view []).2.1,(openGood view []).2.2.1):=by
 kernel_rfl
theorem leftA3 (w:World) (os:OsState):(run w os).map (fun s=>(seenAt s).2.2.2)=some (openGood view []).2.2.2:=by
 kernel_rfl
theorem leftB (w:World) (os:OsState):(run w os).map (fun s=>(jV PySem.Challenge.pw_shapestring_k13_written_and_read w s.abs,Hook.obs (kHook K15.kf [nat_lit 2,nat_lit 3,nat_lit 76,nat_lit 77,nat_lit 83,nat_lit 84,nat_lit 90,nat_lit 91,nat_lit 95,nat_lit 96,nat_lit 102,nat_lit 103,nat_lit 109,nat_lit 110,nat_lit 116,nat_lit 117,nat_lit 123,nat_lit 124,nat_lit 130,nat_lit 131,nat_lit 137,nat_lit 138,nat_lit 144,nat_lit 145,nat_lit 156,nat_lit 157,nat_lit 163,nat_lit 164,nat_lit 170,nat_lit 171,nat_lit 177,nat_lit 178,nat_lit 180,nat_lit 181,nat_lit 189,nat_lit 190,nat_lit 194,nat_lit 195,nat_lit 201,nat_lit 202,nat_lit 206,nat_lit 207,nat_lit 213,nat_lit 214,nat_lit 220,nat_lit 221,nat_lit 227,nat_lit 228,nat_lit 234,nat_lit 235,nat_lit 241,nat_lit 242,nat_lit 246,nat_lit 247,nat_lit 253,nat_lit 254,nat_lit 258,nat_lit 259,nat_lit 263,nat_lit 264,nat_lit 268,nat_lit 269,nat_lit 273,nat_lit 274,nat_lit 278,nat_lit 279,nat_lit 283,nat_lit 284,nat_lit 288,nat_lit 289,nat_lit 295,nat_lit 296,nat_lit 300,nat_lit 301,nat_lit 307,nat_lit 308,nat_lit 314,nat_lit 315,nat_lit 319,nat_lit 320,nat_lit 326,nat_lit 327,nat_lit 331,nat_lit 332] (fun _=>by kernel_rfl)) s.abs))=some (true,Hook.val (kHook K15.kf [nat_lit 2,nat_lit 3,nat_lit 76,nat_lit 77,nat_lit 83,nat_lit 84,nat_lit 90,nat_lit 91,nat_lit 95,nat_lit 96,nat_lit 102,nat_lit 103,nat_lit 109,nat_lit 110,nat_lit 116,nat_lit 117,nat_lit 123,nat_lit 124,nat_lit 130,nat_lit 131,nat_lit 137,nat_lit 138,nat_lit 144,nat_lit 145,nat_lit 156,nat_lit 157,nat_lit 163,nat_lit 164,nat_lit 170,nat_lit 171,nat_lit 177,nat_lit 178,nat_lit 180,nat_lit 181,nat_lit 189,nat_lit 190,nat_lit 194,nat_lit 195,nat_lit 201,nat_lit 202,nat_lit 206,nat_lit 207,nat_lit 213,nat_lit 214,nat_lit 220,nat_lit 221,nat_lit 227,nat_lit 228,nat_lit 234,nat_lit 235,nat_lit 241,nat_lit 242,nat_lit 246,nat_lit 247,nat_lit 253,nat_lit 254,nat_lit 258,nat_lit 259,nat_lit 263,nat_lit 264,nat_lit 268,nat_lit 269,nat_lit 273,nat_lit 274,nat_lit 278,nat_lit 279,nat_lit 283,nat_lit 284,nat_lit 288,nat_lit 289,nat_lit 295,nat_lit 296,nat_lit 300,nat_lit 301,nat_lit 307,nat_lit 308,nat_lit 314,nat_lit 315,nat_lit 319,nat_lit 320,nat_lit 326,nat_lit 327,nat_lit 331,nat_lit 332] (fun _=>by kernel_rfl)) w):=by
 kernel_rfl
theorem left:LeftO PySem.Challenge.pw_shapestring_k13_written_and_read view [] (fun s=>xlAt view [] s&&recOk [] s) (Hook.obs (kHook K15.kf [nat_lit 2,nat_lit 3,nat_lit 76,nat_lit 77,nat_lit 83,nat_lit 84,nat_lit 90,nat_lit 91,nat_lit 95,nat_lit 96,nat_lit 102,nat_lit 103,nat_lit 109,nat_lit 110,nat_lit 116,nat_lit 117,nat_lit 123,nat_lit 124,nat_lit 130,nat_lit 131,nat_lit 137,nat_lit 138,nat_lit 144,nat_lit 145,nat_lit 156,nat_lit 157,nat_lit 163,nat_lit 164,nat_lit 170,nat_lit 171,nat_lit 177,nat_lit 178,nat_lit 180,nat_lit 181,nat_lit 189,nat_lit 190,nat_lit 194,nat_lit 195,nat_lit 201,nat_lit 202,nat_lit 206,nat_lit 207,nat_lit 213,nat_lit 214,nat_lit 220,nat_lit 221,nat_lit 227,nat_lit 228,nat_lit 234,nat_lit 235,nat_lit 241,nat_lit 242,nat_lit 246,nat_lit 247,nat_lit 253,nat_lit 254,nat_lit 258,nat_lit 259,nat_lit 263,nat_lit 264,nat_lit 268,nat_lit 269,nat_lit 273,nat_lit 274,nat_lit 278,nat_lit 279,nat_lit 283,nat_lit 284,nat_lit 288,nat_lit 289,nat_lit 295,nat_lit 296,nat_lit 300,nat_lit 301,nat_lit 307,nat_lit 308,nat_lit 314,nat_lit 315,nat_lit 319,nat_lit 320,nat_lit 326,nat_lit 327,nat_lit 331,nat_lit 332] (fun _=>by kernel_rfl))) (Hook.val (kHook K15.kf [nat_lit 2,nat_lit 3,nat_lit 76,nat_lit 77,nat_lit 83,nat_lit 84,nat_lit 90,nat_lit 91,nat_lit 95,nat_lit 96,nat_lit 102,nat_lit 103,nat_lit 109,nat_lit 110,nat_lit 116,nat_lit 117,nat_lit 123,nat_lit 124,nat_lit 130,nat_lit 131,nat_lit 137,nat_lit 138,nat_lit 144,nat_lit 145,nat_lit 156,nat_lit 157,nat_lit 163,nat_lit 164,nat_lit 170,nat_lit 171,nat_lit 177,nat_lit 178,nat_lit 180,nat_lit 181,nat_lit 189,nat_lit 190,nat_lit 194,nat_lit 195,nat_lit 201,nat_lit 202,nat_lit 206,nat_lit 207,nat_lit 213,nat_lit 214,nat_lit 220,nat_lit 221,nat_lit 227,nat_lit 228,nat_lit 234,nat_lit 235,nat_lit 241,nat_lit 242,nat_lit 246,nat_lit 247,nat_lit 253,nat_lit 254,nat_lit 258,nat_lit 259,nat_lit 263,nat_lit 264,nat_lit 268,nat_lit 269,nat_lit 273,nat_lit 274,nat_lit 278,nat_lit 279,nat_lit 283,nat_lit 284,nat_lit 288,nat_lit 289,nat_lit 295,nat_lit 296,nat_lit 300,nat_lit 301,nat_lit 307,nat_lit 308,nat_lit 314,nat_lit 315,nat_lit 319,nat_lit 320,nat_lit 326,nat_lit 327,nat_lit 331,nat_lit 332] (fun _=>by kernel_rfl))) 4726:=
 t8 (run:=run) (fun _ _=>rfl) (by decide) (by kernel_rfl) (fun s=>by kernel_rfl) leftA leftA2 leftA3 leftB
end K15
end
section
namespace L2
open PySem PySem.Spec PyProof.Rows
abbrev Key:=Sum Int Str
def jG:Key→Value→Bool
 | .inl k,v=>Value.isInt k v
 | .inr x,v=>Value.isStrOf x v
def keyH (w:World):Key→Int
 | .inl k=>hashInt k
 | .inr x=>hashStr w x
theorem aZ:∀{k:Key} {v:Value},jG k v=true→(∃i t,k=Sum.inl i∧v=Value.int i t)∨(∃x t,k=Sum.inr x∧v=Value.str x t)
 | .inl i,v,h=>by
  obtain⟨t,e⟩:=Value.isInt_shape (k:=i) (v:=v) h
  exact .inl ⟨i,t,rfl,e⟩
 | .inr x,v,h=>by
  obtain⟨t,e⟩:=Value.isStrOf_shape (x:=x) (v:=v) h
  exact .inr ⟨x,t,rfl,e⟩
theorem pC (i:Int) (t:Tok):jG (.inl i) (.int i t)=true:=by simp[jG,Value.isInt]
theorem pB (x:Str) (t:Tok):jG (.inr x) (.str x t)=true:=by simp[jG,Value.isStrOf]
theorem vN (a b:Int):decide ((Sum.inl a:Key)=Sum.inl b)=(a==b):=by
 by_cases e:a=b
 ·subst e;simp
 ·have h:¬(Sum.inl a:Key)=Sum.inl b:=fun q=>e (Sum.inl.inj q)
  rw[decide_eq_false h]
  exact (beq_eq_false_iff_ne.mpr e).symm
theorem vK (a b:Str):decide ((Sum.inr a:Key)=Sum.inr b)=decide (a=b):=by
 by_cases e:a=b
 ·subst e;simp
 ·have h:¬(Sum.inr a:Key)=Sum.inr b:=fun q=>e (Sum.inr.inj q)
  rw[decide_eq_false h,decide_eq_false e]
theorem vM (a:Int) (b:Str):decide ((Sum.inl a:Key)=Sum.inr b)=false:=decide_eq_false (fun q=>nomatch q)
theorem vL (a:Str) (b:Int):decide ((Sum.inr a:Key)=Sum.inl b)=false:=decide_eq_false (fun q=>nomatch q)
def aT (prog:Program) (w:World):PySem.KeyKind prog w Key where
 is:=jG
 hash:=keyH w
 inj:=fun v a b ha hb=>by
  rcases aZ ha with ⟨i,t,rfl,rfl⟩|⟨x,t,rfl,rfl⟩
  ·rcases aZ hb with ⟨j,u,rfl,e⟩|⟨y,u,rfl,e⟩
   ·injection e with e1 _;rw[e1]
   ·exact nomatch e
  ·rcases aZ hb with ⟨j,u,rfl,e⟩|⟨y,u,rfl,e⟩
   ·exact nomatch e
   ·injection e with e1 _;rw[e1]
 byValue:=fun k v h=>by
  rcases aZ h with ⟨i,t,rfl,rfl⟩|⟨x,t,rfl,rfl⟩ <;> rfl
 pyHash:=fun hv h=>by
  rcases aZ hv with ⟨i,t,rfl,rfl⟩|⟨x,t,rfl,rfl⟩
  ·exact wpAny_pyHash_int h
  ·exact wpAny_pyHash_str h
 eqBool:=fun hu hv h=>by
  rcases aZ hu with ⟨i,t,rfl,rfl⟩|⟨x,t,rfl,rfl⟩
  ·rcases aZ hv with ⟨j,u,rfl,rfl⟩|⟨y,u,rfl,rfl⟩
   ·rw[vN] at h;exact wpAny_eqBool_int h
   ·rw[vM] at h;exact SeqAt.EqAt.int_str i t y u _ _ _ _ h
  ·rcases aZ hv with ⟨j,u,rfl,rfl⟩|⟨y,u,rfl,rfl⟩
   ·rw[vL] at h;exact SeqAt.EqAt.str_int x t j u _ _ _ _ h
   ·rw[vK] at h;exact wpAny_eqBool_str h
 «strs»:=fun k x t v h=>by
  rcases aZ h with ⟨i,u,rfl,e⟩|⟨y,u,rfl,e⟩
  ·exact nomatch e
  ·injection e with e1 _
   subst e1
   cases v <;> rfl
theorem lQ (prog:Program) (w:World) (i:Int) (t:Tok):(aT prog w).is (.inl i) (.int i t)=true:=pC i t
theorem lP (prog:Program) (w:World) (x:Str) (t:Tok):(aT prog w).is (.inr x) (.str x t)=true:=pB x t
end L2
namespace L2
open PySem PySem.Spec PyProof.Rows
inductive V where
 |non|bl (b:Bool)|int (i:Int)|str (x:Str)|byt (b:Array UInt8)|flt (b:UInt64)|ref (a:Addr)|ty (n:String)
 deriving DecidableEq
def RelV:V→Value→Prop
 | .non,u=>u=Value.none
 | .bl b,u=>u=Value.bool b
 | .int i,u=>∃t,u=Value.int i t
 | .str x,u=>∃t,u=Value.str x t
 | .byt b,u=>∃t,u=Value.bytes b t
 | .flt b,u=>∃t,u=Value.float b t
 | .ref a,u=>u=Value.ref a
 | .ty n,u=>u=Value.type n
abbrev Vals:List V→List Value→Prop:=Paired RelV
theorem Vals.length {xs:List V} {us:List Value} (r:Vals xs us):xs.length=us.length:=Paired.length r
theorem Vals.get:∀{xs:List V} {us:List Value} {i:Nat} {x:V},Vals xs us→xs[i]? = some x→∃u,us[i]? = some u∧RelV x u
 |_,_,_,_,.nil,e=>by simp at e
 |_,_,0,_,.cons r _,e=>by simp at e;subst e;exact⟨_,rfl,r⟩
 |_,_,i+1,x,.cons _ t,e=>by
  obtain⟨u,h1,h2⟩:=Vals.get (i:=i) (x:=x) t (by simpa using e)
  exact⟨u,by simpa using h1,h2⟩
theorem Vals.set {x:V} {u:Value} (r:RelV x u):∀{xs:List V} {us:List Value} (i:Nat),Vals xs us→Vals (xs.set i x) (us.set i u)
 |_,_,_,.nil=>.nil
 |_,_,0,.cons _ t=>.cons r t
 |_,_,i+1,.cons q t=>.cons q (Vals.set r i t)
theorem Vals.append:∀{xs ys:List V} {us ws:List Value},Vals xs us→Vals ys ws→Vals (xs++ys) (us++ws)
 |_,_,_,_,.nil,s=>s
 |_,_,_,_,.cons r t,s=>.cons r (Vals.append t s)
theorem Vals.take:∀{xs:List V} {us:List Value} (n:Nat),Vals xs us→Vals (xs.take n) (us.take n)
 |_,_,0,_=>.nil
 |_,_,_+1,.nil=>.nil
 |_,_,n+1,.cons r t=>.cons r (Vals.take n t)
theorem Vals.drop:∀{xs:List V} {us:List Value} (n:Nat),Vals xs us→Vals (xs.drop n) (us.drop n)
 |_,_,0,r=>r
 |_,_,_+1,.nil=>.nil
 |_,_,n+1,.cons _ t=>Vals.drop n t
def RelO:Option V→Option Value→Prop
 |some v,some u=>RelV v u
 |none,none=>True
 |_,_=>False
def KV {κ:Type}:List (κ × V)→List (κ × Value)→Prop:=Paired fun (p:κ × V) (q:κ × Value)=>p.1=q.1∧RelV p.2 q.2
def kV:Key→V
 | .inl i=>.int i
 | .inr x=>.str x
inductive HO where
 |lst (xs:List V)
 |tup (xs:List V)
 |dK (kvs:List (Key × V))|dT (kvs:List (List Key × V))
 |set (S:Int→Bool) (n:Nat)
 |ins (C dx:Addr) (fs:List (Str × V))
 |own (x:Addr)
 |xd (fs:List (Str × V))
 |met (f x:Addr)
 |rng (lo hi:Int)
 |frz (o:Obj) (u:HO)
 |tbl (ps:Array Value)
 |ext (φ:Heap→Prop)
abbrev Hp:=Addr→Option HO
def upd (H:Hp) (a:Addr) (o:HO):Hp:=fun b=>if b=a then some o else H b
theorem ao {H:Hp} {a:Addr} {o:HO}:upd H a o a=some o:=by unfold upd;rw[if_pos rfl]
theorem au {H:Hp} {a b:Addr} {o:HO} (h:b≠a):upd H a o b=H b:=by unfold upd;rw[if_neg h]
theorem cF {H:Hp} {a:Addr} {o u:HO}:upd (upd H a o) a u=upd H a u:=by
 funext b;unfold upd;split <;> rfl
theorem bi {H:Hp} {a b:Addr} {o u:HO} (h:H a=some o) (h':H b=some u) (d:o≠u):a≠b:=by
 intro e;subst e;rw[h] at h';exact d (Option.some.inj h')
theorem ag {H:Hp} {a b:Addr} {o:HO} (h:H a=some o) (h':H b=none):a≠b:=by
 intro e;subst e;rw[h] at h';cases h'
section
variable (P:Program) (w:World)
def aU (H:Hp) (h:Heap) (a:Addr):HO→Prop
 | .lst xs=>xs.length≤sizeLine∧∃(its:List Value) (n:Nat),Vals xs its∧h.get? a=some {cls:=.type "list",data:=.seq its.toArray n}
 | .tup xs=>(xs.length≤sizeLine∧∃o,h.get? a=some o∧o.dict=none)∧∃its:List Value,Vals xs its∧IsTup h a its.toArray
 | .dK kvs=>kvs.length≤sizeLine∧(a==sysModules)=false∧∃vs,KV kvs vs∧h.DictOf (aT P w) a vs
 | .dT kvs=>kvs.length≤sizeLine∧(a==sysModules)=false∧∃xs:List (List Key × Addr × Value),
   Paired (fun (p:List Key × V) (q:List Key × Addr × Value)=>p.1=q.1∧H q.2.1=some (.tup (p.1.map kV))∧RelV p.2 q.2.2) kvs xs ∧
   ∃o es ep,h.get? a=some o∧o.ExactDict∧o.data=.dict es ep∧es.toList=xs.map (entryOfKey (tupleKind (aT P w)))∧(xs.map (·.1)).Nodup
 | .set S n=>h.SetOf (intKind P w) a S n
 | .ins C dx fs=>H dx=some (.own a)∧fs.length≤1000∧dx≠a∧h.get? a=some (W.instObj C dx) ∧
   ∃mA,h.Ns1 dx mA∧(∀f,RelO (fs.lookup f) (mA f))∧PySem.Within mA (fs.map (·.1))
 | .own _=>∃o,h.get? a=some o
 | .xd fs=>∃mA,h.Ns1 a mA∧∀f,RelO (fs.lookup f) (mA f)
 | .rng lo hi=>∃t u v,h.get? a=some {cls:=.type "range",data:=.fields #[.int lo t,.int hi u,.int 1 v]}
 | .frz o u=>h.get? a=some o∧aU H h a u
 | .tbl ps=>h.get? a=some {cls:=.none,data:=.fields ps}
 | .met f x=>h.get? a=some (W.methodObj (.ref f) (.ref x))
 | .ext φ=>φ h∧(∃o,h.get? a=some o)∧∀h1 h2:Heap,φ h1→(∀o,h1.get? a=some o→h2.get? a=some o)→φ h2
def HOk (H:Hp) (h:Heap):Prop:=∀a o,H a=some o→aU P w H h a o
end
section
variable {P:Program} {w:World} {H H':Hp} {h h':Heap} {a:Addr} {o:HO}
theorem aU.lt (x:aU P w H h a o):a < h.objs.size:=by
 cases o with
 |lst xs=>obtain⟨_,_,_,_,e⟩:=x;exact Heap.lt_size e
 |tup xs=>obtain⟨_,_,_,p⟩:=x;exact p.lt
 |dK kvs=>obtain⟨_,_,_,_,o,_,_,e,_⟩:=x;exact Heap.lt_size e
 |dT kvs=>obtain⟨_,_,_,_,o,_,_,e,_⟩:=x;exact Heap.lt_size e
 |set S n=>obtain⟨o,_,_,_,e,_⟩:=x;exact Heap.lt_size e
 |ins C dx fs=>obtain⟨_,_,_,e,_⟩:=x;exact Heap.lt_size e
 |own y=>obtain⟨_,e⟩:=x;exact Heap.lt_size e
 |xd fs=>obtain⟨_,⟨_,_,_,e,_⟩,_⟩:=x;exact Heap.lt_size e
 |rng lo hi=>obtain⟨_,_,_,e⟩:=x;exact Heap.lt_size e
 |frz ob u=>obtain⟨e,_⟩:=x;exact Heap.lt_size e
 |tbl ps=>exact Heap.lt_size (show h.get? a=some _ from x)
 |met f y=>exact Heap.lt_size (show h.get? a=some _ from x)
 |ext φ=>obtain⟨_,⟨_,e⟩,_⟩:=x;exact Heap.lt_size e
theorem Paired.mapP {α β:Type} {F G:α→β→Prop}:∀{l₁:List α} {l₂:List β},Paired F l₁ l₂→(∀a b,F a b→G a b)→Paired G l₁ l₂
 |_,_,.nil,_=>.nil
 |_,_,.cons r t,f=>.cons (f _ _ r) (Paired.mapP t f)
theorem Paired.imp' {α β:Type} {F G:α→β→Prop} (f:∀a b,F a b→G a b) {l₁:List α} {l₂:List β} (r:Paired F l₁ l₂):Paired G l₁ l₂:=Paired.mapP r f
theorem aU.stay (x:aU P w H h a o) (k:∀b u,(b=a∨H b=some (.own a))→h.get? b=some u→h'.get? b=some u)
  (ho:∀b,H b=some (.own a)→H' b=some (.own a)) (ht:∀b xs,H b=some (.tup xs)→H' b=some (.tup xs)):aU P w H' h' a o:=by
 induction o with
 |lst xs=>obtain⟨z,its,n,r,e⟩:=x;exact⟨z,its,n,r,k _ _ (.inl rfl) e⟩
 |tup xs=>obtain⟨⟨z,o',e',d'⟩,its,r,ob,e,c⟩:=x;exact⟨⟨z,o',k _ _ (.inl rfl) e',d'⟩,its,r,ob,k _ _ (.inl rfl) e,c⟩
 |dK kvs=>obtain⟨z,y,vs,r,ob,es,ep,e,c⟩:=x;exact⟨z,y,vs,r,ob,es,ep,k _ _ (.inl rfl) e,c⟩
 |dT kvs=>
  obtain⟨z,y,xs,r,ob,es,ep,e,c⟩:=x
  exact⟨z,y,xs,Paired.mapP r fun p q z=>⟨z.1,ht _ _ z.2.1,z.2.2⟩,ob,es,ep,k _ _ (.inl rfl) e,c⟩
 |set S n=>obtain⟨ob,es,ep,t,e,c⟩:=x;exact⟨ob,es,ep,t,k _ _ (.inl rfl) e,c⟩
 |ins C dx fs=>
  obtain⟨d,z,ne,e,mA,⟨od,es,ep,e2,c⟩,r⟩:=x
  exact⟨ho _ d,z,ne,k _ _ (.inl rfl) e,mA,⟨od,es,ep,k _ _ (.inr d) e2,c⟩,r⟩
 |own y=>obtain⟨ob,e⟩:=x;exact⟨ob,k _ _ (.inl rfl) e⟩
 |xd fs=>obtain⟨mA,⟨od,es,ep,e,c⟩,r⟩:=x;exact⟨mA,⟨od,es,ep,k _ _ (.inl rfl) e,c⟩,r⟩
 |rng lo hi=>obtain⟨t,u,v,e⟩:=x;exact⟨t,u,v,k _ _ (.inl rfl) e⟩
 |frz ob u ih=>obtain⟨e,q⟩:=x;exact⟨k _ _ (.inl rfl) e,ih q⟩
 |tbl ps=>
  have e:h.get? a=some {cls:=.none,data:=.fields ps}:=x
  show h'.get? a=some {cls:=.none,data:=.fields ps}
  exact k a _ (.inl rfl) e
 |met f y=>
  have e:h.get? a=some (W.methodObj (.ref f) (.ref y)):=x
  show h'.get? a=some (W.methodObj (.ref f) (.ref y))
  exact k a _ (.inl rfl) e
 |ext φ=>obtain⟨p,⟨o,e⟩,st⟩:=x;exact⟨st _ _ p fun o q=>k _ _ (.inl rfl) q,⟨o,k _ _ (.inl rfl) e⟩,st⟩
theorem HOk.lt (x:HOk P w H h) (e:H a=some o):a < h.objs.size:=(x a o e).lt
theorem HOk.fresh (x:HOk P w H h) (e:h.objs.size≤a):H a=none:=by
 cases q:H a with
 |none=>rfl
 |some u=>exact absurd (Nat.lt_of_lt_of_le (x.lt q) e) (Nat.lt_irrefl _)
theorem HOk.kept (x:HOk P w H h) (k:∀b u,h.get? b=some u→h'.get? b=some u):HOk P w H h':=fun a o e=>
 (x a o e).stay (fun b u _ q=>k b u q) (fun _ q=>q) fun _ _ q=>q
theorem HOk.laid (x:HOk P w H h) (k:∀b u,h.get? b=some u→h'.get? b=some u) (hp:h.objs.size≤a) (new:aU P w (upd H a o) h' a o):HOk P w (upd H a o) h':=fun b u e=>by
 have hn:=x.fresh hp
 by_cases hb:b=a
 ·subst hb;rw[ao] at e;cases e;exact new
 ·rw[au hb] at e
  exact (x b u e).stay (fun c v _ q=>k c v q) (fun c q=>by rw[au (ag q hn)];exact q) fun c xs q=>by rw[au (ag q hn)];exact q
end
def Rd (H:Hp) (a:Addr) (u:HO):Prop:=H a=some u∨∃o,H a=some (.frz o u)
theorem Rd.ok {P:Program} {w:World} {H:Hp} {h:Heap} {a:Addr} {u:HO} (r:Rd H a u) (x:HOk P w H h):aU P w H h a u:=by
 rcases r with r|⟨o,r⟩
 ·exact x a u r
 ·obtain⟨_,q⟩:=x a _ r
  exact q
def Mut:Option HO→Prop
 |some (.lst _)=>True
 |some (.dK _)=>True
 |some (.dT _)=>True
 |some (.set _ _)=>True
 |some (.ins _ _ _)=>True
 |some (.ext _)=>True
 |_=>False
section
variable {P:Program} {w:World} {H:Hp} {h h':Heap} {x e:Addr} {o':HO}
theorem HOk.write (ok:HOk P w H h) (mu:Mut (H x)) (he:e=x∨H e=some (.own x)) (k:∀b u,b≠e→h.get? b=some u→h'.get? b=some u) (heo:∃u,h'.get? e=some u)
  (new:aU P w (upd H x o') h' x o'):HOk P w (upd H x o') h':=fun b u q=>by
 have nown:∀c y,H c=some (.own y)→c≠x:=fun c y r z=>by subst z;rw[r] at mu;exact mu
 have ntup:∀c xs,H c=some (.tup xs)→c≠x:=fun c xs r z=>by subst z;rw[r] at mu;exact mu
 by_cases hb:b=x
 ·subst hb;rw[ao] at q;cases q;exact new
 ·rw[au hb] at q
  by_cases hbe:b=e
  ·have q':H b=some (.own x):=by
    rcases he with z|z
    ·exact absurd (hbe.trans z) hb
    ·rw[hbe];exact z
   rw[q] at q';cases q'
   obtain⟨v,hv⟩:=heo
   exact⟨v,by rw[hbe];exact hv⟩
  ·refine (ok b u q).stay (fun c v hc r=>k c v ?_ r) (fun c r=>by rw[au (nown c b r)];exact r) fun c xs r=>by rw[au (ntup c xs r)];exact r
   rcases hc with rfl|hc
   ·exact hbe
   ·rintro rfl
    rcases he with z|z
    ·exact nown c b hc z
    ·rw[hc] at z;cases z;exact hb rfl
end
structure Un (fs ex:List Addr) (H H':Hp) (h h':Heap):Prop where
 keep:∀b o,h.get? b=some o→H b=none→b∉fs→b∉ex→h'.get? b=some o
 slot:∀b o,h.get? b=some o→H b=none→b∈fs→b∉ex→∃sl,h'.get? b=some {o with slots:=sl}
 free:∀b o,h.get? b=some o→H b=none→b∉ex→H' b=none
 there:∀b o,h.get? b=some o→b∉ex→∃o',h'.get? b=some o'
 tups:∀b xs,H b=some (.tup xs)→H' b=some (.tup xs)
 frzs:∀b o u,H b=some (.frz o u)→H' b=some (.frz o u)
 tbls:∀b ps,H b=some (.tbl ps)→∃more,H' b=some (.tbl (ps++more))
section
variable {fs fs' ex ex':List Addr} {H H1 H2:Hp} {h h1 h2 h':Heap} {a x e:Addr} {o:HO}
theorem Un.any (u:Un fs ex H H1 h h1) {b:Addr} {ob:Obj} (q:h.get? b=some ob) (n:H b=none) (hx:b∉ex):∃sl,h1.get? b=some {ob with slots:=sl}:=by
 by_cases hb:b∈fs
 ·exact u.slot b ob q n hb hx
 ·exact⟨ob.slots,u.keep b ob q n hb hx⟩
theorem Un.kept (k:∀b u,h.get? b=some u→h'.get? b=some u):Un fs ex H H h h':=
 ⟨fun b ob q _ _ _=>k b ob q,fun b ob q _ _ _=>⟨ob.slots,k b ob q⟩,fun _ _ _ n _=>n,fun b ob q _=>⟨ob,k b ob q⟩,fun _ _ q=>q,fun _ _ _ q=>q,fun _ ps q=>⟨#[],by rw[q];simp⟩⟩
theorem Un.refl:Un fs ex H H h h:=Un.kept fun _ _ q=>q
theorem Un.laid (k:∀b u,h.get? b=some u→h'.get? b=some u) (hp:h.objs.size≤a) (hn:H a=none):Un fs ex H (upd H a o) h h' where
 keep:=fun b u q _ _ _=>k b u q
 slot:=fun b u q _ _ _=>⟨u.slots,k b u q⟩
 free:=fun b u q n _=>by rw[au (Nat.ne_of_lt (Nat.lt_of_lt_of_le (Heap.lt_size q) hp))];exact n
 there:=fun b u q _=>⟨u,k b u q⟩
 tups:=fun b xs q=>by rw[au (ag q hn)];exact q
 frzs:=fun b u xs q=>by rw[au (ag q hn)];exact q
 tbls:=fun b ps q=>⟨#[],by rw[au (ag q hn),q];simp⟩
theorem Un.write (mu:Mut (H x)) (he:e=x∨H e=some (.own x)) (k:∀b u,b≠e→h.get? b=some u→h'.get? b=some u) (heo:∃u,h'.get? e=some u):Un fs ex H (upd H x o) h h':=by
 have hx:∀b,H b=none→b≠x:=fun b n z=>by subst z;rw[n] at mu;exact mu
 have hb:∀b,H b=none→b≠e:=fun b n z=>by
  subst z
  rcases he with r|r
  ·exact hx b n r
  ·rw[n] at r;cases r
 have hm:∀b u,H b=some u→¬Mut (some u)→b≠x:=fun b u q nm z=>by subst z;rw[q] at mu;exact nm mu
 refine⟨fun b u q n _ _=>k b u (hb b n) q,fun b u q n _ _=>⟨u.slots,k b u (hb b n) q⟩,fun b u q n _=>by rw[au (hx b n)];exact n,fun b u q _=>?_,
  fun b xs q=>by rw[au (hm b _ q fun z=>z)];exact q,fun b u xs q=>by rw[au (hm b _ q fun z=>z)];exact q,fun b ps q=>⟨#[],by rw[au (hm b _ q fun z=>z),q];simp⟩⟩
 by_cases hbe:b=e
 ·subst hbe;exact heo
 ·exact⟨u,k b u hbe q⟩
end
def trk (h:Heap) (H:Hp):List Addr:=(List.range h.objs.size).filter fun a=>(H a).isSome
def hidT (h:Heap) (H:Hp):Heap:=W.hideAll h (trk h H)
theorem pF (h:Heap) (H:Hp):(hidT h H).objs.size=h.objs.size:=W.hideAll_size _ _
theorem rf {h:Heap} {H:Hp} {b:Addr} {o:Obj} (e:h.get? b=some o) (n:H b=none):(hidT h H).get? b=some o:=
 W.hideAll_get _ e fun hm=>by
  have q:(H b).isSome=true:=(List.mem_filter.mp hm).2
  rw[n] at q;simp at q
theorem tZ {h:Heap} {H:Hp} {b:Addr} {o:Obj} (e:(hidT h H).get? b=some o):h.get? b=some o∧H b=none:=by
 have e':h.get? b=some o:=W.of_hideAll (trk h H) e
 refine⟨e',?_⟩
 cases q:H b with
 |none=>rfl
 |some x=>
  have hm:b∈trk h H:=List.mem_filter.mpr ⟨List.mem_range.mpr (Heap.lt_size e'),by simp[q]⟩
  have z:(hidT h H).get? b=none:=W.hideAll_none (trk h H) hm
  rw[z] at e;cases e
def im (g h:Heap) (L:Addr):List (Addr × Obj):=(List.range h.objs.size).filterMap fun a=>if a=L∨(g.get? a).isSome=true then none else (h.get? a).map fun o=>(a,o)
theorem eP {g h:Heap} {L a:Addr} {o:Obj} (h1:a≠L) (h2:g.get? a=none) (h3:h.get? a=some o):(a,o)∈im g h L:=
 List.mem_filterMap.mpr ⟨a,List.mem_range.mpr (Heap.lt_size h3),by simp[h1,h2,h3]⟩
theorem iN {g h:Heap} {L:Addr} {p:Addr × Obj} (hp:p∈im g h L):p.1≠L∧g.get? p.1=none∧h.get? p.1=some p.2:=by
 obtain⟨b,_,e⟩:=List.mem_filterMap.mp hp
 split at e
 ·cases e
 ·rename_i hn
  cases q:h.get? b with
  |none=>rw[q] at e;simp at e
  |some u=>
   rw[q] at e
   simp only[Option.map_some,Option.some.injEq] at e
   subst e
   refine⟨fun z=>hn (.inl z),?_,q⟩
   show g.get? b=none
   cases r:g.get? b with
   |none=>rfl
   |some v=>exact (hn (.inr (by simp[r]))).elim
theorem iP {g h:Heap} {L:Addr}:News g L h (im g h L):=fun p hp=>let ⟨a,b,c⟩:=iN hp;⟨c,a,b⟩
end L2
namespace L2
open PySem PySem.Spec PyProof.Rows
structure Mod (K:W.Frag) (mg:Str→Option Value) (base:Heap):Prop where
 kin:K.In base
 glob:base.Ns mainGlobals mg
 blt:∃mb,base.Ns builtinsNs mb∧∀x:Str,x≠"__name__"→mb x=bootBuiltins x
 nolimit:base.NoLimit
structure Cx where
 prog:Program
 w:World
 K:W.Frag
 mg:Str→Option Value
 base:Heap
 A:Around
 N:List Str
 s₀:Shared
 H₀:Hp
 env:Env
 outer:List Env
 stack:List Env
 ex:List Addr
 fn:Str→Bool
 calm:Bool
 pn:List (Addr × Obj)
 xe:Value→Shared→Prop
def frs (l:List Env):List Addr:=l.filterMap (·.frame)
abbrev Cx.fs (X:Cx):List Addr:=frs X.outer
def Vis (sc:Scope) (x:Str):Prop:=sc.names.lookup x=some .local∨sc.names.lookup x=some .cell∨sc.names.lookup x=some .free
def Loc (sc:Scope) (x:Str):Prop:=sc.names.lookup x=some .local∨sc.names.lookup x=some .cell
def Look (env:Env) (h:Heap) (m:Str→Option Value) (x:Str) (u:Value):Prop:=
 (env.kindOf x=some .local∧m x=some u)∨((env.kindOf x=some .cell∨env.kindOf x=some .free)∧∃c,env.cells.lookup x=some c∧h.IsCell c (some u))
structure Cx.Ok (X:Cx):Prop where
 mod:Mod X.K X.mg X.base
 kind:X.env.scope.kind=.function
 glob:X.env.globals=mainGlobals
 blt:X.env.builtins=builtinsNs
 above:X.s₀.heap.objs.size≤X.env.locals
 inj:∀x y c,X.env.cells.lookup x=some c→X.env.cells.lookup y=some c→x=y
 has:∀x,(X.env.kindOf x=some .cell∨X.env.kindOf x=some .free)→∃c,X.env.cells.lookup x=some c
 cab:∀x c,X.fn x=true→X.env.cells.lookup x=some c→X.s₀.heap.objs.size≤c
 hd:X.calm=true→X.A.handled=none
 frames:X.A.frames=some X.stack
 stk:X.stack=X.outer∨(X.stack=X.env::X.outer∧X.env.frame=some X.env.locals)
 exf:∀b∈X.ex,b≠X.env.locals∧∀x c,X.env.cells.lookup x=some c→c≠b
 bs:∀b o,X.base.get? b=some o→X.s₀.heap.get? b=some o∧X.H₀ b=none
 bsz:X.base.objs.size≤X.s₀.heap.objs.size
 noex:∀b o,X.base.get? b=some o→b∉X.ex
 exfs:∀b∈X.ex,b∉X.fs
 funs:X.s₀.heap.FunFrames X.base X.outer
 frf:∀b∈X.fs,X.H₀ b=none
structure Inv (X:Cx) (pins:List (Addr × Obj)) (σ:List (Option V)) (H:Hp) (s:Shared):Prop where
 ok:X.Ok
 os:s.os=X.s₀.os
 bare:AllBare s.gens
 base:Un X.fs X.ex X.H₀ H X.s₀.heap s.heap
 loc:∃m,s.heap.Ns X.env.locals m∧∀(i:Nat) (x:Str) (v:V),X.N[i]? = some x→σ[i]? = some (some v)→Vis X.env.scope x→∃u,RelV v u∧Look X.env s.heap m x u
 cell:∀x c,X.env.cells.lookup x=some c→∃v,s.heap.IsCell c v
 free:H X.env.locals=none
 freeC:∀x c,X.env.cells.lookup x=some c→H c=none
 pin:∀p∈X.pn++pins,s.heap.get? p.1=some p.2∧H p.1=none∧p.1≠X.env.locals∧p.1∉X.fs∧∀v,p.2.data≠.cell v
 hok:HOk X.prog X.w H s.heap
 len:σ.length=X.N.length
section
variable {X:Cx} {pins:List (Addr × Obj)} {σ:List (Option V)} {H H':Hp} {s:Shared} {h':Heap}
theorem Cx.Ok.nofr (ok:X.Ok) {b:Addr} {o:Obj} (e:X.base.get? b=some o):b∉X.fs:=fun hb=>by
 have:=(ok.funs.mem hb).1
 rw[e] at this;cases this
theorem Inv.bs (I:Inv X pins σ H s):∀b o,X.base.get? b=some o→s.heap.get? b=some o∧H b=none:=fun b o e=>
 ⟨I.base.keep b o (I.ok.bs b o e).1 (I.ok.bs b o e).2 (I.ok.nofr e) (I.ok.noex b o e),I.base.free b o (I.ok.bs b o e).1 (I.ok.bs b o e).2 (I.ok.noex b o e)⟩
theorem Inv.bk (I:Inv X pins σ H s):∀b o,X.base.get? b=some o→s.heap.get? b=some o:=fun b o e=>(I.bs b o e).1
theorem Inv.mod (I:Inv X pins σ H s):Mod X.K X.mg X.base:=I.ok.mod
theorem Inv.kIn (I:Inv X pins σ H s):X.K.In s.heap:=I.ok.mod.kin.keeps I.bk
theorem Inv.fr (I:Inv X pins σ H s):∃m,Fr X.base X.env.locals s.heap m:=
 let ⟨m,hn,_⟩:=I.loc
 ⟨m,hn,I.bk,Nat.le_trans I.ok.bsz I.ok.above⟩
theorem Inv.lt (I:Inv X pins σ H s):X.env.locals < s.heap.objs.size:=let ⟨_,hn,_⟩:=I.loc;hn.lt
theorem Inv.sz (I:Inv X pins σ H s):X.s₀.heap.objs.size≤s.heap.objs.size:=Nat.le_trans I.ok.above (Nat.le_of_lt I.lt)
theorem Inv.nofs (I:Inv X pins σ H s) {a:Addr} (h:s.heap.objs.size≤a):a∉X.fs:=fun hb=>by
 obtain⟨_,o,ho,_⟩:=I.ok.funs.mem hb
 exact absurd (Nat.lt_of_lt_of_le (Heap.lt_size ho) (Nat.le_trans I.sz h)) (Nat.lt_irrefl _)
theorem Inv.cne (I:Inv X pins σ H s):∀x c,X.env.cells.lookup x=some c→c≠X.env.locals:=fun x c e z=>by
 obtain⟨v,o,ho,hd⟩:=I.cell x c e
 obtain⟨m,⟨o',es,ep,ho',hd',_⟩,_⟩:=I.loc
 rw[z,ho'] at ho;cases ho;rw[hd'] at hd;cases hd
theorem Inv.funs (I:Inv X pins σ H s):s.heap.FunFrames X.base X.outer:=by
 have all:∀(l:List Env),(∀b∈frs l,b∈X.fs)→X.s₀.heap.FunFrames X.base l→s.heap.FunFrames X.base l:=by
  intro l
  induction l with
  |nil=>intro _ _;trivial
  |cons env r ih=>
   intro hs hl
   obtain⟨hk,⟨L,o,hf,hn,ho,hd⟩,hr⟩:=hl
   have hL:L∈X.fs:=hs L (by unfold frs;rw[List.filterMap_cons,hf];exact List.mem_cons_self)
   obtain⟨sl,e⟩:=I.base.slot L o ho (I.ok.frf L hL) hL fun z=>I.ok.exfs L z hL
   exact⟨hk,⟨L,_,hf,hn,e,hd⟩,ih (fun b hb=>hs b (by unfold frs;rw[List.filterMap_cons,hf];exact List.mem_cons_of_mem _ hb)) hr⟩
 exact all X.outer (fun _ hb=>hb) I.ok.funs
theorem Inv.stack (I:Inv X pins σ H s):s.heap.FunFrames X.base X.stack:=by
 rcases I.ok.stk with e|⟨e,hf⟩
 ·rw[e];exact I.funs
 ·rw[e]
  obtain⟨m,hn,_⟩:=I.loc
  refine .cons (by rw[I.ok.kind];decide) hf hn ?_ I.funs
  exact Heap.get?_none_of_le (Nat.le_trans I.ok.bsz I.ok.above)
theorem Inv.stkSub (I:Inv X pins σ H s):∀b∈frs X.stack,b∈X.env.locals::X.fs:=fun b hb=>by
 rcases I.ok.stk with e|⟨e,hf⟩
 ·rw[e] at hb;exact List.mem_cons_of_mem _ hb
 ·rw[e] at hb
  unfold frs at hb
  rw[List.filterMap_cons,hf] at hb
  exact hb
theorem Inv.stkFree (I:Inv X pins σ H s):∀b∈frs X.stack,H b=none:=fun b hb=>by
 rcases List.mem_cons.mp (I.stkSub b hb) with e|hb
 ·rw[e];exact I.free
 ·obtain⟨_,o,ho,_⟩:=I.ok.funs.mem hb
  exact I.base.free b o ho (I.ok.frf b hb) fun z=>I.ok.exfs b z hb
theorem Inv.step {g':Array GenState} {t':Nat} {d':Drawn} {ch:List Addr} (I:Inv X pins σ H s)
  (hch:∀b∈ch,(b∈X.ex∨X.s₀.heap.objs.size≤b)∧b≠X.env.locals∧(∀x c,X.env.cells.lookup x=some c→c≠b)∧∀p∈X.pn++pins,p.1≠b)
  (keep:∀b o,b≠X.env.locals→b∉X.fs→b∉ch→s.heap.get? b=some o→H b=none→h'.get? b=some o)
  (slot:∀b o,b≠X.env.locals→b∈X.fs→b∉ch→s.heap.get? b=some o→H b=none→∃sl,h'.get? b=some {o with slots:=sl}) (free:∀b o,b∉ch→s.heap.get? b=some o→H b=none→H' b=none)
  (there:∀b o,b∉ch→s.heap.get? b=some o→∃o',h'.get? b=some o')
  (tups:∀b xs,H b=some (.tup xs)→H' b=some (.tup xs)) (frzs:∀b o u,H b=some (.frz o u)→H' b=some (.frz o u)) (tbls:∀b ps,H b=some (.tbl ps)→∃more,H' b=some (.tbl (ps++more)))
  (ns:∀m,s.heap.Ns X.env.locals m→h'.Ns X.env.locals m) (hok:HOk X.prog X.w H' h') (hg:AllBare g') :
  Inv X pins σ H' {s with heap:=h',gens:=g',drawn:=d',toks:=t'}:=by
 have neL:∀b o,X.s₀.heap.get? b=some o→b≠X.env.locals:=fun b o e=>Nat.ne_of_lt (Nat.lt_of_lt_of_le (Heap.lt_size e) I.ok.above)
 have neC:∀b o,X.s₀.heap.get? b=some o→b∉X.ex→b∉ch:=fun b o e hx hb=>by
  rcases (hch b hb).1 with z|z
  ·exact hx z
  ·exact absurd (Nat.lt_of_lt_of_le (Heap.lt_size e) z) (Nat.lt_irrefl _)
 have cellK:∀x c,X.env.cells.lookup x=some c→∀v,s.heap.IsCell c v→h'.IsCell c v:=fun x c e v ⟨o,ho,hd⟩=>by
  have nch:c∉ch:=fun z=>(hch c z).2.2.1 x c e rfl
  by_cases hc:c∈X.fs
  ·obtain⟨sl,q⟩:=slot c o (I.cne x c e) hc nch ho (I.freeC x c e)
   exact⟨_,q,hd⟩
  ·exact⟨o,keep c o (I.cne x c e) hc nch ho (I.freeC x c e),hd⟩
 refine⟨I.ok,I.os,hg,⟨fun b o e n hb hx=>?_,fun b o e n hb hx=>?_,fun b o e n hx=>?_,fun b o e hx=>?_,fun b xs e=>tups b xs (I.base.tups b xs e),fun b o xs e=>frzs b o xs (I.base.frzs b o xs e),fun b ps e=>?_⟩,?_,fun x c e=>?_,?_,fun x c e=>?_,fun p hp=>?_,hok,I.len⟩
 ·exact keep b o (neL b o e) hb (neC b o e hx) (I.base.keep b o e n hb hx) (I.base.free b o e n hx)
 ·obtain⟨sl,e1⟩:=I.base.slot b o e n hb hx
  obtain⟨sl',e2⟩:=slot b _ (neL b o e) hb (neC b o e hx) e1 (I.base.free b o e n hx)
  exact⟨sl',e2⟩
 ·obtain⟨o',e1⟩:=I.base.there b o e hx
  exact free b o' (neC b o e hx) e1 (I.base.free b o e n hx)
 ·obtain⟨o',e1⟩:=I.base.there b o e hx
  exact there b o' (neC b o e hx) e1
 ·obtain⟨m1,e1⟩:=I.base.tbls b ps e
  obtain⟨m2,e2⟩:=tbls b _ e1
  exact⟨m1++m2,by rw[e2,Array.append_assoc]⟩
 ·obtain⟨m,hn,hl⟩:=I.loc
  refine⟨m,ns m hn,fun i x v e1 e2 e3=>?_⟩
  obtain⟨u,r,l⟩:=hl i x v e1 e2 e3
  refine⟨u,r,?_⟩
  rcases l with l|⟨k,c,e,z⟩
  ·exact .inl l
  ·exact .inr ⟨k,c,e,cellK x c e _ z⟩
 ·obtain⟨v,z⟩:=I.cell x c e
  exact⟨v,cellK x c e v z⟩
 ·obtain⟨m,⟨o,_,_,ho,_⟩,_⟩:=I.loc
  exact free _ o (fun z=>(hch _ z).2.1 rfl) ho I.free
 ·obtain⟨v,o,ho,hd⟩:=I.cell x c e
  exact free c o (fun z=>(hch c z).2.2.1 x c e rfl) ho (I.freeC x c e)
 ·obtain⟨e,n,ne,nf,d⟩:=I.pin p hp
  have nch:p.1∉ch:=fun z=>(hch p.1 z).2.2.2 p hp rfl
  exact⟨keep p.1 p.2 ne nf nch e n,free p.1 p.2 nch e n,ne,nf,d⟩
theorem Inv.un {t':Nat} (I:Inv X pins σ H s) (u:Un X.fs [] H H' s.heap h') (hok:HOk X.prog X.w H' h'):Inv X pins σ H' {s with heap:=h',toks:=t'}:=by
 obtain⟨m,⟨o,es,ep,ho,r⟩,_⟩:=id I.loc
 obtain⟨sl,hL⟩:=u.any ho I.free (by simp)
 exact I.step (g':=s.gens) (d':=s.drawn) (ch:=[]) (fun _ z=>nomatch z) (fun b o _ hb _ e n=>u.keep b o e n hb (by simp)) (fun b o _ hb _ e n=>u.slot b o e n hb (by simp)) (fun b o _ e n=>u.free b o e n (by simp)) (fun b o _ e=>u.there b o e (by simp)) u.tups u.frzs u.tbls (fun m' hm=>by
  obtain⟨o',es',ep',ho',r'⟩:=hm
  rw[ho] at ho';cases ho'
  exact⟨_,es',ep',hL,r'⟩) hok I.bare
theorem Inv.call {g':Array GenState} {t':Nat} {d':Drawn} {ch:List Addr} (I:Inv X pins σ H s) (u:Un (frs X.stack) ch H H' s.heap h') (hok:HOk X.prog X.w H' h') (hg:AllBare g')
  (hch:∀b∈ch,(b∈X.ex∨X.s₀.heap.objs.size≤b)∧b≠X.env.locals∧(∀x c,X.env.cells.lookup x=some c→c≠b)∧∀p∈X.pn++pins,p.1≠b) :
  Inv X pins σ H' {s with heap:=h',gens:=g',drawn:=d',toks:=t'}:=by
 obtain⟨m,⟨o,es,ep,ho,r⟩,_⟩:=id I.loc
 obtain⟨sl,hL⟩:=u.any ho I.free fun z=>(hch _ z).2.1 rfl
 exact I.step (ch:=ch) hch (fun b o hL hb hc e n=>u.keep b o e n (fun z=>(List.mem_cons.mp (I.stkSub b z)).elim hL hb) hc) (fun b o _ _ hc e n=>u.any e n hc) (fun b o hc e n=>u.free b o e n hc) (fun b o hc e=>u.there b o e hc) u.tups u.frzs u.tbls (fun m' hm=>by
  obtain⟨o',es',ep',ho',r'⟩:=hm
  rw[ho] at ho';cases ho'
  exact⟨_,es',ep',hL,r'⟩) hok hg
theorem Inv.turned {t':Nat} {it:Addr} (I:Inv X pins σ H s) (k:∀b o,b≠it→s.heap.get? b=some o→h'.get? b=some o) (hn:H it=none) (hL:it≠X.env.locals)
  (h1:it∈X.ex∨X.s₀.heap.objs.size≤it) (h2:∀x c,X.env.cells.lookup x=some c→c≠it) (h3:∀p∈X.pn++pins,p.1≠it):Inv X pins σ H {s with heap:=h',toks:=t'}:=by
 have nit:∀b u,H b=some u→b≠it:=fun b u e z=>by rw[z,hn] at e;cases e
 refine I.step (g':=s.gens) (d':=s.drawn) (ch:=[it]) (fun b hb=>?_) (fun b o _ _ hc e _=>k b o (fun z=>hc (by simp[z])) e) (fun b o _ _ hc e _=>⟨o.slots,k b o (fun z=>hc (by simp[z])) e⟩) (fun _ _ _ _ n=>n)
  (fun b o hc e=>⟨o,k b o (fun z=>hc (by simp[z])) e⟩) (fun _ _ e=>e) (fun _ _ _ e=>e) (fun b ps e=>⟨#[],by rw[e];simp⟩) (fun m hm=>?_) (fun b u e=>?_) I.bare
 ·have e:b=it:=by simpa using hb
  subst e
  exact⟨h1,hL,h2,h3⟩
 ·obtain⟨o,es,ep,ho,r⟩:=hm
  exact⟨o,es,ep,k _ o (Ne.symm hL) ho,r⟩
 ·refine (I.hok b u e).stay (fun c v hc q=>k c v ?_ q) (fun _ q=>q) fun _ _ q=>q
  rcases hc with z|z
  ·rw[z];exact nit b u e
  ·exact nit c _ z
theorem Inv.tok (I:Inv X pins σ H s) (t:Nat):Inv X pins σ H {s with toks:=t}:=I.un (h':=s.heap) (t':=t) Un.refl I.hok
theorem Inv.kept {t':Nat} (I:Inv X pins σ H s) (k:∀b u,s.heap.get? b=some u→h'.get? b=some u):Inv X pins σ H {s with heap:=h',toks:=t'}:=I.un (Un.kept k) (I.hok.kept k)
theorem Inv.laid {a:Addr} {o:HO} {t':Nat} (I:Inv X pins σ H s) (k:∀b u,s.heap.get? b=some u→h'.get? b=some u) (hp:s.heap.objs.size≤a) (new:aU X.prog X.w (upd H a o) h' a o) :
  Inv X pins σ (upd H a o) {s with heap:=h',toks:=t'}:=I.un (Un.laid k hp (I.hok.fresh hp)) (I.hok.laid k hp new)
theorem Inv.write {x e:Addr} {o:HO} {t':Nat} (I:Inv X pins σ H s) (mu:Mut (H x)) (he:e=x∨H e=some (.own x)) (k:∀b u,b≠e→s.heap.get? b=some u→h'.get? b=some u) (heo:∃u,h'.get? e=some u)
  (new:aU X.prog X.w (upd H x o) h' x o):Inv X pins σ (upd H x o) {s with heap:=h',toks:=t'}:=I.un (Un.write mu he k heo) (I.hok.write mu he k heo new)
theorem Inv.pins_of {pins':List (Addr × Obj)} (I:Inv X pins σ H s) (h:∀p∈pins',s.heap.get? p.1=some p.2∧H p.1=none∧p.1≠X.env.locals∧p.1∉X.fs∧∀v,p.2.data≠.cell v):Inv X pins' σ H s:=
 ⟨I.ok,I.os,I.bare,I.base,I.loc,I.cell,I.free,I.freeC,fun p hp=>(List.mem_append.mp hp).elim (fun z=>I.pin p (List.mem_append_left _ z)) (h p),I.hok,I.len⟩
theorem lM {N:List Str} (hN:N.Nodup) {i j:Nat} {x:Str} (a:N[i]? = some x) (b:N[j]? = some x):i=j:=by
 obtain⟨h1,e1⟩:=List.getElem?_eq_some_iff.mp a
 obtain⟨h2,e2⟩:=List.getElem?_eq_some_iff.mp b
 exact (List.getElem_inj hN).mp (e1.trans e2.symm)
theorem jr {M:Model} {A:Around} {E:Value→Shared→Prop} {i:Nat} {x:Str} {v:V} {u:Value} {Q:Unit→Shared→Prop} (I:Inv X pins σ H s) (hN:X.N.Nodup) (hi:X.N[i]? = some x) (hx:Loc X.env.scope x) (r:RelV v u)
  (h:∀s',Inv X pins (σ.set i (some v)) H s'→(∃a,Heap.SameBut a s.heap s'.heap∧(a=X.env.locals∨X.env.cells.lookup x=some a))→Q () s') (hf:X.fn x=true∨X.env.scope.names.lookup x=some .local:=by first|exact .inl rfl|exact .inr rfl|assumption):wpAny M A (storeName X.env x u) Q E s:=by
 obtain⟨m,hn,hl⟩:=id I.loc
 have hcls:(X.env.scope.kind==.class||(X.env.scope.kind==.module&&X.env.locals != X.env.globals))=false:=by rw[I.ok.kind];rfl
 have hiσ:i < σ.length:=by rw[I.len];exact (List.getElem?_eq_some_iff.mp hi).1
 have cne:=I.cne
 have tracked:∀{a:Addr} {h':Heap},(∃o,s.heap.get? a=some o∧H a=none)→Heap.SameBut a s.heap h'→HOk X.prog X.w H h':=fun {a h'} ha hs b ob e=>by
  obtain⟨_,_,hfree⟩:=ha
  refine (I.hok b ob e).stay (fun c w' hc q=>(hs.2 c ?_).trans q) (fun _ q=>q) fun _ _ q=>q
  rintro rfl
  rcases hc with rfl|hc
  ·rw[hfree] at e;cases e
  ·rw[hfree] at hc;cases hc
 rcases hx with hk|hk
 ·refine wpAny_storeName_local hk hn (fun h' hn' hs=>?_) hcls
  obtain⟨oL,_,_,hoL,_⟩:=id hn
  refine h _ ⟨I.ok,I.os,I.bare,⟨fun b o e n hb hx=>?_,fun b o e n hb hx=>?_,I.base.free,fun b o e hx=>?_,I.base.tups,I.base.frzs,I.base.tbls⟩,⟨_,hn',fun j y v' e1 e2 e3=>?_⟩,fun y c e=>?_,I.free,I.freeC,fun p hp=>?_,tracked ⟨oL,hoL,I.free⟩ hs,by simpa using I.len⟩ ⟨_,hs,.inl rfl⟩
  ·exact (hs.2 b (Nat.ne_of_lt (Nat.lt_of_lt_of_le (Heap.lt_size e) I.ok.above))).trans (I.base.keep b o e n hb hx)
  ·obtain⟨sl,e1⟩:=I.base.slot b o e n hb hx
   exact⟨sl,(hs.2 b (Nat.ne_of_lt (Nat.lt_of_lt_of_le (Heap.lt_size e) I.ok.above))).trans e1⟩
  ·obtain⟨o',e1⟩:=I.base.there b o e hx
   exact⟨o',(hs.2 b (Nat.ne_of_lt (Nat.lt_of_lt_of_le (Heap.lt_size e) I.ok.above))).trans e1⟩
  ·by_cases hj:j=i
   ·subst hj
    rw[hi] at e1;cases e1
    rw[List.getElem?_set_self hiσ] at e2
    cases e2
    exact⟨u,r,.inl ⟨hk,by simp⟩⟩
   ·rw[List.getElem?_set_ne (Ne.symm hj)] at e2
    obtain⟨u',r',q⟩:=hl j y v' e1 e2 e3
    refine⟨u',r',?_⟩
    rcases q with ⟨k,e⟩|⟨k,c,e,z⟩
    ·refine .inl ⟨k,?_⟩
     have:y≠x:=fun e=>hj (lM hN e1 (e ▸ hi))
     simp[this,e]
    ·exact .inr ⟨k,c,e,z.sameBut hs (cne y c e)⟩
  ·obtain⟨w',z⟩:=I.cell y c e
   exact⟨w',z.sameBut hs (cne y c e)⟩
  ·obtain⟨e,n,ne,nf,d⟩:=I.pin p hp
   exact⟨(hs.2 p.1 ne).trans e,n,ne,nf,d⟩
 ·have hfn:X.fn x=true:=by
   rcases hf with z|z
   ·exact z
   ·rw[z] at hk;cases hk
  obtain⟨c,hc⟩:=I.ok.has x (.inl hk)
  obtain⟨w',z⟩:=I.cell x c hc
  refine wpAny_storeName_cell I.ok.kind hk hc z (fun h' hc' hs=>?_)
  obtain⟨oc,hoc,hocd⟩:=id z
  refine h {s with heap:=h'} ⟨I.ok,I.os,I.bare,⟨fun b o e n hb hx=>?_,fun b o e n hb hx=>?_,I.base.free,fun b o e hx=>?_,I.base.tups,I.base.frzs,I.base.tbls⟩,⟨m,hn.sameBut hs (Ne.symm (cne x c hc)),fun j y v' e1 e2 e3=>?_⟩,fun y c' e=>?_,I.free,I.freeC,fun p hp=>?_,tracked ⟨oc,hoc,I.freeC x c hc⟩ hs,by simpa using I.len⟩ ⟨c,hs,.inr hc⟩
  ·exact (hs.2 b (Nat.ne_of_lt (Nat.lt_of_lt_of_le (Heap.lt_size e) (I.ok.cab x c hfn hc)))).trans (I.base.keep b o e n hb hx)
  ·obtain⟨sl,e1⟩:=I.base.slot b o e n hb hx
   exact⟨sl,(hs.2 b (Nat.ne_of_lt (Nat.lt_of_lt_of_le (Heap.lt_size e) (I.ok.cab x c hfn hc)))).trans e1⟩
  ·obtain⟨o',e1⟩:=I.base.there b o e hx
   exact⟨o',(hs.2 b (Nat.ne_of_lt (Nat.lt_of_lt_of_le (Heap.lt_size e) (I.ok.cab x c hfn hc)))).trans e1⟩
  ·by_cases hj:j=i
   ·subst hj
    rw[hi] at e1;cases e1
    rw[List.getElem?_set_self hiσ] at e2
    cases e2
    exact⟨u,r,.inr ⟨.inl hk,c,hc,hc'⟩⟩
   ·rw[List.getElem?_set_ne (Ne.symm hj)] at e2
    obtain⟨u',r',q⟩:=hl j y v' e1 e2 e3
    refine⟨u',r',?_⟩
    rcases q with q|⟨k,c',e,z'⟩
    ·exact .inl q
    ·refine .inr ⟨k,c',e,z'.sameBut hs ?_⟩
     rintro rfl
     exact hj (lM hN e1 (I.ok.inj _ _ _ e hc ▸ hi))
  ·by_cases hcc:c' = c
   ·subst hcc;exact⟨_,hc'⟩
   ·obtain⟨w2,z2⟩:=I.cell y c' e
    exact⟨w2,z2.sameBut hs hcc⟩
  ·obtain⟨e,n,ne,nf,d⟩:=I.pin p hp
   refine⟨(hs.2 p.1 ?_).trans e,n,ne,nf,d⟩
   intro q
   rw[q,hoc] at e
   have q':oc=p.2:=Option.some.inj e
   exact d w' (by rw[←q'];exact hocd)
theorem ln {M:Model} {A:Around} {E:Value→Shared→Prop} {i:Nat} {x:Str} {v:V} {u:Value} {Q:Unit→Shared→Prop} (I:Inv X pins σ H s) (hN:X.N.Nodup) (hi:X.N[i]? = some x) (hx:Loc X.env.scope x) (r:RelV v u)
  (h:∀s',Inv X pins (σ.set i (some v)) H s'→Q () s') (hf:X.fn x=true∨X.env.scope.names.lookup x=some .local:=by first|exact .inl rfl|exact .inr rfl|assumption):wpAny M A (storeName X.env x u) Q E s:=
 jr I hN hi hx r (fun s' I' _=>h s' I') hf
theorem Inv.call' {s':Shared} {ch:List Addr} (I:Inv X pins σ H s) (ho:s'.os=s.os) (u:Un (frs X.stack) ch H H' s.heap s'.heap) (hok:HOk X.prog X.w H' s'.heap) (hg:AllBare s'.gens)
  (hch:∀b∈ch,(b∈X.ex∨X.s₀.heap.objs.size≤b)∧b≠X.env.locals∧(∀x c,X.env.cells.lookup x=some c→c≠b)∧∀p∈X.pn++pins,p.1≠b):Inv X pins σ H' s':=by
 obtain⟨h',g',d',t',o'⟩:=s'
 have e:o' = s.os:=ho
 subst e
 exact I.call (g':=g') (t':=t') (d':=d') u hok hg hch
end
abbrev XK:=Value→Option Addr→Hp→Prop
abbrev St:=List (Option V)
abbrev VK:=V→Hp→Prop
abbrev TE:=St→Hp→VK→Prop
abbrev TT:=St→Hp→(Bool→Hp→Prop)→Prop
abbrev TA:=St→Hp→(List V→Hp→Prop)→Prop
structure Ends where
 nx:St→Hp→Prop
 rt:VK
 bk:St→Hp→Prop:=fun _ _=>False
 ct:St→Hp→Prop:=fun _ _=>False
abbrev TS:=Ends→St→Hp→Prop
def EP (X:Cx) (pins:List (Addr × Obj)) (σ:St) (Q:VK) (u:Value) (s':Shared):Prop:=∃v H',Inv X pins σ H' s'∧RelV v u∧Q v H'
def TP (X:Cx) (pins:List (Addr × Obj)) (σ:St) (Q:Bool→Hp→Prop) (b:Bool) (s':Shared):Prop:=∃H',Inv X pins σ H' s'∧Q b H'
def AP (X:Cx) (pins:List (Addr × Obj)) (σ:St) (Q:List V→Hp→Prop) (us:List Value) (s':Shared):Prop:=∃vs H',Inv X pins σ H' s'∧Vals vs us∧Q vs H'
def SP (X:Cx) (pins:List (Addr × Obj)) (D:Ends) (f:Flow) (s':Shared):Prop:=
 match f with
 | .next=>∃σ' H',Inv X pins σ' H' s'∧D.nx σ' H'
 | .brk=>∃σ' H',Inv X pins σ' H' s'∧D.bk σ' H'
 | .cont=>∃σ' H',Inv X pins σ' H' s'∧D.ct σ' H'
 | .ret u=>∃v σ' H',Inv X pins σ' H' s'∧RelV v u∧D.rt v H'
def PE (X:Cx) (e:Expr) (t:TE):Prop:=
 ∀(pins:List (Addr × Obj)) (s:Shared) (σ:St) (H:Hp) (Q:VK),Inv X pins σ H s→t σ H Q→wpAny (model X.prog X.w) X.A (eval e X.env) (EP X pins σ Q) X.xe s
def PT (X:Cx) (e:Expr) (t:TT):Prop:=
 ∀(pins:List (Addr × Obj)) (s:Shared) (σ:St) (H:Hp) (Q:Bool→Hp→Prop),Inv X pins σ H s→t σ H Q→wpAny (model X.prog X.w) X.A (isTrue e X.env (eval e X.env)) (TP X pins σ Q) X.xe s
def PW (X:Cx) (e:Expr) (t:TT):Prop:=
 ∀(whole:Sem Value) (pins:List (Addr × Obj)) (s:Shared) (σ:St) (H:Hp) (Q:Bool→Hp→Prop),Inv X pins σ H s→t σ H Q→wpAny (model X.prog X.w) X.A (isTrue e X.env whole) (TP X pins σ Q) X.xe s
theorem PW.pt {X:Cx} {e:Expr} {t:TT} (h:PW X e t):PT X e t:=h _
def PA (X:Cx) (es:List Expr) (t:TA):Prop:=
 ∀(pos:Pos) (pins:List (Addr × Obj)) (s:Shared) (σ:St) (H:Hp) (Q:List V→Hp→Prop),Inv X pins σ H s→t σ H Q→wpAny (model X.prog X.w) X.A (spliced (backTo pos (starEach es X.env))) (AP X pins σ Q) X.xe s
def PS (X:Cx) (st:Stmt) (t:TS):Prop:=
 ∀(pins:List (Addr × Obj)) (s:Shared) (σ:St) (H:Hp) (D:Ends),Inv X pins σ H s→t D σ H→wpAny (model X.prog X.w) X.A (exec st X.env) (SP X pins D) X.xe s
def PSs (X:Cx) (st:List Stmt) (t:TS):Prop:=
 ∀(pins:List (Addr × Obj)) (s:Shared) (σ:St) (H:Hp) (D:Ends),Inv X pins σ H s→t D σ H→wpAny (model X.prog X.w) X.A (execs st X.env) (SP X pins D) X.xe s
theorem thn {α:Type} {t:Sem α} {Q Q':α→Shared→Prop} {M:Model} {A:Around} {E:Value→Shared→Prop} {s:Shared} (h:wpAny M A t Q E s) (hQ:∀a s,Q a s→Q' a s):wpAny M A t Q' E s:=wpAny_mono h hQ fun _ _ x=>x
end L2
namespace L2
open PySem PySem.Spec PyProof.Rows
section
variable {X:Cx}
def tVar (i:Nat):TE:=fun σ H Q=>∃v,σ[i]? = some (some v)∧Q v H
def tC (v:V):TE:=fun _ H Q=>Q v H
theorem vx {i:Nat} {x:Str} {pos:Pos} (hN:X.N[i]? = some x) (hv:Vis X.env.scope x) (hd:(x==("__debug__" : Str))=false:=by decide) (hcd:(x==("__classdict__" : Str))=false:=by decide):PE X (.Name x pos) (tVar i):=by
 intro pins s σ H Q I h
 obtain⟨v,e,h⟩:=h
 obtain⟨m,hn,hl⟩:=I.loc
 obtain⟨u,r,l⟩:=hl i x v hN e hv
 have fin:EP X pins σ Q u s:=⟨v,H,I,r,h⟩
 rcases l with ⟨hk,hm⟩|⟨hk,c,hc,hcell⟩
 ·exact wpAny_Name (wpAny_loadName_local I.ok.kind hk hn hm fin) hd
 ·rcases hk with hk|hk
  ·exact wpAny_Name (wpAny_loadName_cell I.ok.kind hk hc hcell fin) hd
  ·exact wpAny_Name (wpAny_loadName_free I.ok.kind hk hc hcell fin hcd) hd
theorem al {i j pos}:PE X (.Constant (.int i) j pos) (tC (.int i)):=fun _ _ _ H _ I h=>wpAny_Constant_int ⟨.int i,H,I.tok _,⟨_,rfl⟩,h⟩
theorem lH {b j pos}:PE X (.Constant (.bool b) j pos) (tC (.bl b)):=fun _ _ _ H _ I h=>Constant_bool ⟨.bl b,H,I,rfl,h⟩
theorem d_ {x j pos}:PE X (.Constant (.str x) j pos) (tC (.str x)):=fun _ _ _ H _ I h=>Calls.Constant_str ⟨.str x,H,I.tok _,⟨_,rfl⟩,h⟩
def Gl (X:Cx) (x:Str):Prop:=X.env.kindOf x=some .globalImplicit
theorem kN {E:Value→Shared→Prop} {pins:List (Addr × Obj)} {s:Shared} {σ:St} {H:Hp} {x:Str} {u:Value} {pos:Pos} {Q:Value→Shared→Prop} (I:Inv X pins σ H s) (hg:Gl X x) (hm:X.mg x=some u) (h:Q u s)
  (hd:(x==("__debug__" : Str))=false:=by decide):wpAny (model X.prog X.w) X.A (eval (.Name x pos) X.env) Q E s:=
 Calls.Name_function_global I.ok.kind hg (Calls.loadGlobal_global (by rw[I.ok.glob];exact I.mod.glob.keeps I.bk) hm h) hd
theorem iU {E:Value→Shared→Prop} {pins:List (Addr × Obj)} {s:Shared} {σ:St} {H:Hp} {x:Str} {u:Value} {pos:Pos} {Q:Value→Shared→Prop} (I:Inv X pins σ H s) (hg:Gl X x) (hm:X.mg x=none) (hv:bootBuiltins x=some u) (h:Q u s)
  (hn:x≠"__name__":=by decide) (hd:(x==("__debug__" : Str))=false:=by decide):wpAny (model X.prog X.w) X.A (eval (.Name x pos) X.env) Q E s:=by
 obtain⟨mb,h1,h2⟩:=I.mod.blt
 exact Calls.Name_function_global I.ok.kind hg (Calls.loadGlobal_builtin (by rw[I.ok.glob];exact I.mod.glob.keeps I.bk) hm (by rw[I.ok.blt];exact h1.keeps I.bk) ((h2 x hn).trans hv) h) hd
theorem oj {x:Str} {v:V} {u:Value} {pos:Pos} (hg:Gl X x) (hm:X.mg x=some u) (r:RelV v u) (hd:(x==("__debug__" : Str))=false:=by decide):PE X (.Name x pos) (tC v):=
 fun _ _ _ H _ I h=>kN I hg hm ⟨v,H,I,r,h⟩ hd
theorem fT {x:Str} {v:V} {u:Value} {pos:Pos} (hg:Gl X x) (hm:X.mg x=none) (hv:bootBuiltins x=some u) (r:RelV v u) (hn:x≠"__name__":=by decide) (hd:(x==("__debug__" : Str))=false:=by decide):PE X (.Name x pos) (tC v):=
 fun _ _ _ H _ I h=>iU I hg hm hv ⟨v,H,I,r,h⟩ hn hd
variable {a b:Expr} {ta tb:TE} {pos:Pos}
def PC (X:Cx) (op:CmpOp) (a b:Expr) (t:TE):Prop:=
 ∀(pins:List (Addr × Obj)) (s:Shared) (σ:St) (H:Hp) (Q:VK),Inv X pins σ H s→t σ H Q →
  wpAny (model X.prog X.w) X.A (eval a X.env) (fun v s₁=>wpAny (model X.prog X.w) X.A (eval b X.env) (fun u s₂=>wpAny (model X.prog X.w) X.A (compareOp op v u) (EP X pins σ Q) X.xe s₂) X.xe s₁) X.xe s
def tB (t:TE):TT:=fun σ H Q=>t σ H fun x H1=>∃c,x=.bl c∧Q c H1
theorem vy {op:CmpOp} {t:TE} (h:PC X op a b t) (h1:behindInMarks op b=false:=by first|exact nobehind _ (by decide) (by decide)|rfl):PE X (.Compare a [op] [b] pos) t:=fun pins s σ H Q I hw=>wpAny_Compare1 (h pins s σ H Q I hw) h1
theorem kq {op:CmpOp} {t:TE} (h:PC X op a b t) (h1:behindInMarks op b=false:=by first|exact nobehind _ (by decide) (by decide)|rfl):PT X (.Compare a [op] [b] pos) (tB t):=by
 intro pins s σ H Q I hw
 refine wpAny_isTrue_Compare1 (thn (h pins s σ H _ I hw) fun v s1 h1=>thn h1 fun u s2 h2=>thn h2 fun c s3 ⟨x,H1,I1,r1,q1⟩=>?_) h1
 obtain⟨d,rfl,q⟩:=q1
 cases r1
 exact wpAny_truthy_bool ⟨H1,I1,q⟩
theorem cr {e:Expr} {t:TE} (h:PE X e t) (he:∀whole,isTrue e X.env whole=(do let v ←whole;standAt e.pos;holding [v] (truthy v)):=by intro _;rfl):PT X e (tB t):=by
 intro pins s σ H Q I hw
 refine isTrue_plain (thn (h pins s σ H _ I hw) fun v s1 ⟨x,H1,I1,r1,q1⟩=>?_) (he _)
 obtain⟨d,rfl,q⟩:=q1
 cases r1
 exact wpAny_truthy_bool ⟨H1,I1,q⟩
variable {tA tB':TT} {rest:List Expr}
def tAnd (t u:TT):TT:=fun σ H Q=>t σ H fun c H1=>if c=true then u σ H1 Q else Q false H1
def tOr (t u:TT):TT:=fun σ H Q=>t σ H fun c H1=>if c=true then Q true H1 else u σ H1 Q
def tNot (t:TT):TT:=fun σ H Q=>t σ H fun c H1=>Q (!c) H1
theorem fO (ha:PT X a tA):PW X (.BoolOp .And [a] pos) tA:=by
 intro wh pins s σ H Q I h
 refine isTrue_and (thn (ha pins s σ H Q I h) fun c s1 e=>?_)
 cases c with
 |true=>exact isTrue_and_nil e
 |false=>exact e
theorem eM (ha:PT X a tA):PW X (.BoolOp .Or [a] pos) tA:=by
 intro wh pins s σ H Q I h
 refine isTrue_or (thn (ha pins s σ H Q I h) fun c s1 e=>?_)
 cases c with
 |false=>exact isTrue_or_nil e
 |true=>exact e
theorem iG (ha:PT X a tA) (hb:PW X (.BoolOp .And (b::rest) pos) tB'):PW X (.BoolOp .And (a::b::rest) pos) (tAnd tA tB'):=by
 intro wh pins s σ H Q I h
 refine isTrue_and (thn (ha pins s σ H _ I h) fun c s1 ⟨H1,I1,q1⟩=>?_)
 cases c with
 |true=>exact hb wh pins s1 σ H1 Q I1 q1
 |false=>exact⟨H1,I1,q1⟩
theorem fN (ha:PT X a tA) (hb:PW X (.BoolOp .Or (b::rest) pos) tB'):PW X (.BoolOp .Or (a::b::rest) pos) (tOr tA tB'):=by
 intro wh pins s σ H Q I h
 refine isTrue_or (thn (ha pins s σ H _ I h) fun c s1 ⟨H1,I1,q1⟩=>?_)
 cases c with
 |true=>exact⟨H1,I1,q1⟩
 |false=>exact hb wh pins s1 σ H1 Q I1 q1
theorem cI (ha:PT X a tA):PT X (.UnaryOp .Not a pos) (tNot tA):=by
 intro pins s σ H Q I h
 exact isTrue_not (ha pins s σ H (fun c H1=>Q (!c) H1) I h)
def wn (ta tb:TE):TE:=fun σ H Q=>ta σ H fun x H1=>∃c,x=.bl c∧if c=true then tb σ H1 Q else Q (.bl false) H1
def tOrV (ta tb:TE):TE:=fun σ H Q=>ta σ H fun x H1=>∃c,x=.bl c∧if c=true then Q (.bl true) H1 else tb σ H1 Q
def wg (ta:TE):TE:=fun σ H Q=>ta σ H fun x H1=>∃c,x=.bl c∧Q (.bl (!c)) H1
theorem kx {op} {t:TE} (h:PE X a t):PE X (.BoolOp op [a] pos) t:=fun pins s σ H Q I hw=>BoolOp_one (h pins s σ H Q I hw)
theorem kH (ha:PE X a ta) (hb:PE X (.BoolOp .And (b::rest) pos) tb):PE X (.BoolOp .And (a::b::rest) pos) (wn ta tb):=by
 intro pins s σ H Q I h
 refine BoolOp_and (thn (ha pins s σ H _ I h) fun v s1 ⟨x,H1,I1,r1,q1⟩=>?_)
 obtain⟨c,rfl,q1⟩:=q1
 cases r1
 refine wpAny_truthy_bool ?_
 cases c with
 |true=>exact hb pins s1 σ H1 Q I1 q1
 |false=>exact⟨.bl false,H1,I1,rfl,q1⟩
theorem wA (ha:PE X a ta) (hb:PE X (.BoolOp .Or (b::rest) pos) tb):PE X (.BoolOp .Or (a::b::rest) pos) (tOrV ta tb):=by
 intro pins s σ H Q I h
 refine BoolOp_or (thn (ha pins s σ H _ I h) fun v s1 ⟨x,H1,I1,r1,q1⟩=>?_)
 obtain⟨c,rfl,q1⟩:=q1
 cases r1
 refine wpAny_truthy_bool ?_
 cases c with
 |false=>exact hb pins s1 σ H1 Q I1 q1
 |true=>exact⟨.bl true,H1,I1,rfl,q1⟩
theorem qx (ha:PE X a ta):PE X (.UnaryOp .Not a pos) (wg ta):=by
 intro pins s σ H Q I h
 refine UnaryOp_ (thn (ha pins s σ H _ I h) fun v s1 ⟨x,H1,I1,r1,q1⟩=>?_)
 obtain⟨c,rfl,q1⟩:=q1
 cases r1
 exact not_of (wpAny_truthy_bool ⟨.bl (!c),H1,I1,rfl,q1⟩)
def tIf (t:TT) (ta tb:TE):TE:=fun σ H Q=>t σ H fun c H1=>if c=true then ta σ H1 Q else tb σ H1 Q
theorem qy {c:Expr} (hc:PT X c tA) (ha:PE X a ta) (hb:PE X b tb):PE X (.IfExp c a b pos) (tIf tA ta tb):=by
 intro pins s σ H Q I h
 refine wpAny_IfExp (thn (hc pins s σ H _ I h) fun d s1 ⟨H1,I1,q1⟩=>?_)
 cases d with
 |true=>exact ha pins s1 σ H1 Q I1 q1
 |false=>exact hb pins s1 σ H1 Q I1 q1
end
end L2
namespace L2
open PySem PySem.Spec PyProof.Rows
def SqL (K:W.Frag) (H:Hp) (a:Addr) (xs:List V):Prop:=
 Rd H a (.lst xs) ∨
  ∃(o:Obj) (its:Array Value) (n:Nat),K.lookup a=some o∧o.cls=.type "list"∧o.dict=none∧o.data=.seq its n∧its.size≤sizeLine∧Vals xs its.toList
def SqT (K:W.Frag) (H:Hp) (a:Addr) (xs:List V):Prop:=
 Rd H a (.tup xs) ∨
  ∃(o:Obj) (its:Array Value) (n:Nat),K.lookup a=some o∧o.cls=.type "tuple"∧o.data=.seq its n∧its.size≤sizeLine∧Vals xs its.toList
def absV:Value→Option V
 | .none=>some .non
 | .bool b=>some (.bl b)
 | .int i _=>some (.int i)
 | .str x _=>some (.str x)
 | .bytes b _=>some (.byt b)
 | .float b _=>some (.flt b)
 | .ref a=>some (.ref a)
 | .type n=>some (.ty n)
 |_=>none
theorem RelV.abs {x:V} {u:Value} (r:RelV x u):absV u=some x:=by
 cases x with
 |non=>cases r;rfl
 |bl _=>cases r;rfl
 |int _=>obtain⟨t,rfl⟩:=r;rfl
 |str _=>obtain⟨t,rfl⟩:=r;rfl
 |byt _=>obtain⟨t,rfl⟩:=r;rfl
 |flt _=>obtain⟨t,rfl⟩:=r;rfl
 |ref _=>cases r;rfl
 |ty _=>cases r;rfl
theorem RelV.inj {x y:V} {u:Value} (r:RelV x u) (q:RelV y u):x=y:=Option.some.inj (r.abs.symm.trans q.abs)
theorem Vals.inj:∀{xs ys:List V} {us:List Value},Vals xs us→Vals ys us→xs=ys
 |_,_,_,.nil,.nil=>rfl
 |_,_,_,.cons r t,.cons r' t'=>by rw[r.inj r',Vals.inj t t']
section
variable {X:Cx} {pins:List (Addr × Obj)} {σ:St} {H:Hp} {s:Shared} {a:Addr} {xs ys:List V}
theorem SqL.of {K:W.Frag} (h:H a=some (.lst xs)):SqL K H a xs:=.inl (.inl h)
theorem SqT.of {K:W.Frag} (h:H a=some (.tup xs)):SqT K H a xs:=.inl (.inl h)
theorem Inv.list (I:Inv X pins σ H s) (h:SqL X.K H a xs):∃its:List Value,Vals xs its∧PlainL s.heap a its.toArray∧xs.length≤sizeLine:=by
 rcases h with h|⟨o,its,n,hk,hc,hd,hs,hz,r⟩
 ·obtain⟨z,its,n,r,e⟩:=h.ok I.hok
  exact⟨its,r,⟨_,n,e,rfl,rfl,rfl⟩,z⟩
 ·refine⟨its.toList,r,⟨o,n,I.kIn a o hk,hc,hd,by simpa using hs⟩,?_⟩
  have e:=r.length
  simp only[Array.length_toList] at e
  omega
theorem Inv.tuple (I:Inv X pins σ H s) (h:SqT X.K H a xs):∃its:List Value,Vals xs its∧IsTup s.heap a its.toArray∧xs.length≤sizeLine:=by
 rcases h with h|⟨o,its,n,hk,hc,hs,hz,r⟩
 ·obtain⟨⟨z,_⟩,its,r,p⟩:=h.ok I.hok
  exact⟨its,r,p,z⟩
 ·refine⟨its.toList,r,⟨o,I.kIn a o hk,hc,n,by simpa using hs⟩,?_⟩
  have e:=r.length
  simp only[Array.length_toList] at e
  omega
theorem Inv.list_inj (I:Inv X pins σ H s) (h:SqL X.K H a xs) (h':SqL X.K H a ys):xs=ys:=by
 obtain⟨its,r,⟨o,n,e,_,_,d⟩,_⟩:=I.list h
 obtain⟨its',r',⟨o',n',e',_,_,d'⟩,_⟩:=I.list h'
 rw[e] at e';cases e'
 rw[d] at d'
 injection d' with d1 _
 have:its=its':=by simpa using congrArg Array.toList d1
 subst this
 exact r.inj r'
theorem Inv.tuple_inj (I:Inv X pins σ H s) (h:SqT X.K H a xs) (h':SqT X.K H a ys):xs=ys:=by
 obtain⟨its,r,⟨o,e,_,n,d⟩,_⟩:=I.tuple h
 obtain⟨its',r',⟨o',e',_,n',d'⟩,_⟩:=I.tuple h'
 rw[e] at e';cases e'
 rw[d] at d'
 injection d' with d1 _
 have:its=its':=by simpa using congrArg Array.toList d1
 subst this
 exact r.inj r'
end
abbrev Cx.wish (X:Cx) (E:Value→Shared→Prop):Cx:={X with xe:=E}
abbrev Cx.nox (X:Cx):Cx:=X.wish fun _ _=>False
theorem Cx.Ok.wish {X:Cx} (ok:X.Ok) (E:Value→Shared→Prop):(X.wish E).Ok:=
 ⟨ok.mod,ok.kind,ok.glob,ok.blt,ok.above,ok.inj,ok.has,ok.cab,ok.hd,ok.frames,ok.stk,ok.exf,ok.bs,ok.bsz,ok.noex,ok.exfs,ok.funs,ok.frf⟩
theorem Cx.Ok.unwish {X:Cx} {E:Value→Shared→Prop} (ok:(X.wish E).Ok):X.Ok:=
 ⟨ok.mod,ok.kind,ok.glob,ok.blt,ok.above,ok.inj,ok.has,ok.cab,ok.hd,ok.frames,ok.stk,ok.exf,ok.bs,ok.bsz,ok.noex,ok.exfs,ok.funs,ok.frf⟩
section
variable {X:Cx} {pins:List (Addr × Obj)} {σ:St} {H:Hp} {s:Shared} {E:Value→Shared→Prop}
theorem Inv.wish (I:Inv X pins σ H s) (E:Value→Shared→Prop):Inv (X.wish E) pins σ H s:=⟨I.ok.wish E,I.os,I.bare,I.base,I.loc,I.cell,I.free,I.freeC,I.pin,I.hok,I.len⟩
theorem Inv.unwish (I:Inv (X.wish E) pins σ H s):Inv X pins σ H s:=⟨I.ok.unwish,I.os,I.bare,I.base,I.loc,I.cell,I.free,I.freeC,I.pin,I.hok,I.len⟩
theorem SP.unwish {D:Ends} {f:Flow} {s':Shared} (h:SP (X.wish E) pins D f s'):SP X pins D f s':=by
 cases f with
 |next=>obtain⟨σ',H',I,q⟩:=h;exact⟨σ',H',I.unwish,q⟩
 |brk=>obtain⟨σ',H',I,q⟩:=h;exact⟨σ',H',I.unwish,q⟩
 |cont=>obtain⟨σ',H',I,q⟩:=h;exact⟨σ',H',I.unwish,q⟩
 |ret u=>obtain⟨v,σ',H',I,r,q⟩:=h;exact⟨v,σ',H',I.unwish,r,q⟩
theorem PSs.nox {st:List Stmt} {t:TS} (h:PSs X.nox st t):PSs X st t:=fun pins s σ H D I hw=>
 wpAny_mono (h pins s σ H D (I.wish _) hw) (fun _ _ q=>q.unwish) fun _ _ z=>False.elim z
end
section
variable {X:Cx} {st:Stmt} {rest:List Stmt} {t u:TS} {e:Expr} {te:TE} {pos:Pos}
def uA:TS:=fun D σ H=>D.nx σ H
def tSeq (t u:TS):TS:=fun D σ H=>t {D with nx:=u D} σ H
theorem aJ:PSs X [] uA:=fun _ _ σ H _ I h=>wpAny_execs_nil ⟨σ,H,I,h⟩
theorem af (h1:PS X st t) (h2:PSs X rest u):PSs X (st::rest) (tSeq t u):=by
 intro pins s σ H D I h
 refine wpAny_execs_cons (thn (h1 pins s σ H {D with nx:=u D} I h) fun f s1 q=>?_)
 cases f with
 |next=>
  obtain⟨σ',H',I',q⟩:=q
  exact h2 pins s1 σ' H' D I' q
 |ret v=>exact q
 |brk=>exact q
 |cont=>exact q
theorem am (h1:PS X st t):PSs X [st] t:=by
 intro pins s σ H D I h
 refine wpAny_execs_cons (thn (h1 pins s σ H D I h) fun f s1 q=>?_)
 cases f with
 |next=>exact wpAny_execs_nil q
 |ret v=>exact q
 |brk=>exact q
 |cont=>exact q
def wl:TS:=fun D σ H=>D.ct σ H
theorem lE:PS X (.Continue pos) wl:=fun _ _ σ H _ I h=>wpAny_Continue ⟨σ,H,I,h⟩
theorem Inv.quiet {pins:List (Addr × Obj)} {σ:St} {H:Hp} {s:Shared} (I:Inv X pins σ H s):interactive X.env=false:=by simp[interactive,I.ok.kind]
def wk (te:TE):TS:=fun D σ H=>te σ H fun _ H1=>D.nx σ H1
theorem bI (he:PE X e te) (hs:swapsWith e none pos.line X.env=pure false:=by rfl):PS X (.Expr e pos) (wk te):=by
 intro pins s σ H D I h
 exact wpAny_Expr_any (thn (he pins s σ H _ I h) fun v s1 ⟨x,H1,I1,r1,q1⟩=>⟨σ,H1,I1,q1⟩) I.quiet hs
def tRet (te:TE):TS:=fun D σ H=>te σ H D.rt
theorem aD (he:PE X e te):PS X (.Return (some e) pos) (tRet te):=by
 intro pins s σ H D I h
 exact wpAny_Return_some (thn (he pins s σ H _ I h) fun v s1 ⟨x,H1,I1,r1,q1⟩=>⟨x,σ,H1,I1,r1,q1⟩)
def tIfS (c:TT) (t u:TS):TS:=fun D σ H=>c σ H fun b H1=>if b=true then t D σ H1 else u D σ H1
theorem bH {c:Expr} {a b:List Stmt} {tc:TT} (hc:PT X c tc) (ha:PSs X a t) (hb:PSs X b u):PS X (.If c a b pos) (tIfS tc t u):=by
 intro pins s σ H D I h
 refine wpAny_If (thn (hc pins s σ H _ I h) fun d s1 ⟨H1,I1,q1⟩=>?_)
 cases d with
 |true=>exact ha pins s1 σ H1 D I1 q1
 |false=>exact hb pins s1 σ H1 D I1 q1
def uX:TS:=fun _ _ _=>False
theorem bj {sts:List Stmt}:PSs X sts uX:=fun _ _ _ _ _ _ h=>h.elim
end
abbrev TG:=V→St→Hp→(St→Hp→Prop)→Prop
abbrev TGs:=List V→St→Hp→(St→Hp→Prop)→Prop
def PG (X:Cx) (target:Expr) (t:TG):Prop:=
 ∀(pins:List (Addr × Obj)) (s:Shared) (σ:St) (H:Hp) (v:V) (u:Value) (Q:St→Hp→Prop),Inv X pins σ H s→RelV v u→t v σ H Q →
  wpAny (model X.prog X.w) X.A (assign target X.env u) (fun _ s'=>∃σ' H',Inv X pins σ' H' s'∧Q σ' H') X.xe s
def PGs (X:Cx) (ts:List Expr) (t:TGs):Prop:=
 ∀(pins:List (Addr × Obj)) (s:Shared) (σ:St) (H:Hp) (vs:List V) (us:List Value) (Q:St→Hp→Prop),Inv X pins σ H s→Vals vs us→t vs σ H Q →
  wpAny (model X.prog X.w) X.A (assignInOrder ((assignEach ts X.env).map (·.2)) us) (fun _ s'=>∃σ' H',Inv X pins σ' H' s'∧Q σ' H') X.xe s
abbrev TSet:=V→V→V→Hp→(Hp→Prop)→Prop
def PSet (X:Cx) (t:TSet):Prop:=
 ∀(pins:List (Addr × Obj)) (s:Shared) (σ:St) (H:Hp) (o i v:V) (ov iv u:Value) (Q:Hp→Prop),Inv X pins σ H s→RelV o ov→RelV i iv→RelV v u→t o i v H Q →
  wpAny (model X.prog X.w) X.A (setItem ov iv u) (fun _ s'=>∃H',Inv X pins σ H' s'∧Q H') X.xe s
section
variable {X:Cx} {pos:Pos}
def cZ (i:Nat):TG:=fun v σ H Q=>Q (σ.set i (some v)) H
theorem aq {i:Nat} {x:Str} (hN:X.N.Nodup) (hi:X.N[i]? = some x) (hx:Loc X.env.scope x) (hf:X.fn x=true∨X.env.scope.names.lookup x=some .local:=by first|exact .inl rfl|exact .inr rfl|assumption):PG X (.Name x pos) (cZ i):=by
 intro pins s σ H v u Q I r h
 exact wpAny_assign_Name (ln I hN hi hx r (fun s' I'=>⟨_,H,I',h⟩) hf)
def gNil:TGs:=fun vs σ H Q=>vs=[]∧Q σ H
def iX (t:TG) (u:TGs):TGs:=fun vs σ H Q=>∃v r,vs=v::r∧t v σ H fun σ' H'=>u r σ' H' Q
theorem bf:PGs X [] gNil:=by
 intro pins s σ H vs us Q I r h
 obtain⟨e,h⟩:=h
 subst e
 cases r
 exact assignInOrder_nil ⟨σ,H,I,h⟩
theorem av {e:Expr} {es:List Expr} {t:TG} {u:TGs} (h1:PG X e t) (h2:PGs X es u)
  (hs:(assignEach (e::es) X.env).map (·.2)=assign e X.env::(assignEach es X.env).map (·.2):=by rfl):PGs X (e::es) (iX t u):=by
 intro pins s σ H vs us Q I r h
 obtain⟨v,vr,e1,h⟩:=h
 subst e1
 cases r with
 |cons r rr=>
  rw[hs]
  refine assignInOrder_cons (thn (h1 pins s σ H _ _ _ I r h) fun _ s1 ⟨σ1,H1,I1,q1⟩=>?_)
  exact h2 pins s1 σ1 H1 _ _ Q I1 rr q1
def gTup (K:W.Frag) (n:Nat) (t:TGs):TG:=fun v σ H Q=>∃a xs,v=.ref a∧SqT K H a xs∧xs.length=n∧t xs σ H Q
theorem bV {es:List Expr} {k:Nat} {t:TGs} {n:Nat} (hc:X.calm=true) (h:PGs X es t)
  (hn:(assignEach es X.env).length=n:=by rfl) (hst:(assignEach es X.env).findIdx? (·.1)=none:=by rfl):PG X (.Tuple es k pos) (gTup X.K n t):=by
 intro pins s σ H v u Q I r hw
 obtain⟨a,xs,e1,hq,hl,hw⟩:=hw
 subst e1
 cases r
 obtain⟨its,rv,ht,hz⟩:=I.tuple hq
 refine assign_Tuple_tuple (I.ok.hd hc) ht (by simp[hn,←hl,rv.length]) hst fun h' hx=>?_
 have I1:Inv X pins σ H {s with heap:=h'}:=I.kept (t':=s.toks) fun b o e=>hx b o (Nat.ne_of_lt (Heap.lt_size e)) e
 exact h pins _ σ H xs _ Q I1 (by simpa using rv) hw
def gSub (to ti:TE) (t:TSet):TG:=fun v σ H Q=>to σ H fun o H1=>ti σ H1 fun i H2=>t o i v H2 fun H3=>Q σ H3
theorem m7 {o i:Expr} {to ti:TE} {t:TSet} (ho:PE X o to) (hi:PE X i ti) (hs:PSet X t)
  (ha:∀v,assign (.Subscript o i pos) X.env v=(do
   let ov ←holding [v] (eval o X.env)
   let iv ←holding [v,ov] (eval i X.env)
   standAt pos
   holding [v,ov,iv] (setItem ov iv v)
   release [v,ov,iv] []):=by intro _;rfl):PG X (.Subscript o i pos) (gSub to ti t):=by
 intro pins s σ H v u Q I r h
 rw[ha]
 refine wpAny_bind (wpAny_holding (thn (ho pins s σ H _ I h) fun ov s1 ⟨x,H1,I1,r1,q1⟩=>?_))
 refine wpAny_bind (wpAny_holding (thn (hi pins s1 σ H1 _ I1 q1) fun iv s2 ⟨y,H2,I2,r2,q2⟩=>?_))
 refine wpAny_bind (wpAny_standAt (wpAny_bind (wpAny_holding (thn (hs pins s2 σ H2 x y v ov iv u _ I2 r1 r2 r q2) fun _ s3 ⟨H3,I3,q3⟩=>?_))))
 exact wpAny_release ⟨σ,H3,I3,q3⟩
def tAsg (te:TE) (g:TG):TS:=fun D σ H=>te σ H fun x H1=>g x σ H1 D.nx
theorem dI {tg e:Expr} {te:TE} {g:TG} (he:PE X e te) (hg:PG X tg g) (hs:swapsWithSole [tg] e pos.line X.env=pure false:=by rfl) (hw:swappedStores [tg] e X.env=pure none:=by rfl)
  (h1:(assignEach [tg] X.env).map (·.2)=[assign tg X.env]:=by rfl):PS X (.Assign [tg] e pos) (tAsg te g):=by
 intro pins s σ H D I h
 refine wpAny_Assign_stores (thn (he pins s σ H _ I h) fun v s1 ⟨x,H1,I1,r1,q1⟩=>?_) hs hw
 rw[h1]
 exact thn (hg pins s1 σ H1 x v _ I1 r1 q1) fun _ s2 q=>q
theorem ax {i:Nat} {x:Str} {e:Expr} {te:TE} {pos':Pos} (hN:X.N.Nodup) (hi:X.N[i]? = some x) (hx:Loc X.env.scope x) (he:PE X e te) (hs:swapsWith e (some (.Name x pos')) pos.line X.env=pure false:=by rfl) (hf:X.fn x=true∨X.env.scope.names.lookup x=some .local:=by first|exact .inl rfl|exact .inr rfl|assumption) :
  PS X (.Assign [.Name x pos'] e pos) (tAsg te (cZ i)):=by
 intro pins s σ H D I h
 refine wpAny_Assign_Name (thn (he pins s σ H _ I h) fun v s1 ⟨y,H1,I1,r1,q1⟩=>?_) hs
 exact ln I1 hN hi hx r1 (fun s2 I2=>⟨_,H1,I2,q1⟩) hf
end
section
variable {X:Cx} {pos:Pos}
def mx (c:TT) (tb:TS):TS:=fun D σ H=>∃W:Nat→St→Hp→Prop,(∃m,W m σ H)∧∀m σ H,W m σ H →
 c σ H fun b H1=>if b=true then ∃N:St→Hp→Prop,(∀σ' H',N σ' H'→∃m',m' < m∧W m' σ' H')∧tb {D with nx:=N,ct:=N,bk:=D.nx} σ H1 else D.nx σ H1
theorem fQ {c:Expr} {body:List Stmt} {tc:TT} {tb:TS} (hp:PassesOwn (model X.prog X.w) X.A X.env X.xe) (hc:PT X c tc) (hb:PSs X body tb):PS X (.While c body [] pos) (mx tc tb):=by
 intro pins s σ H D I h
 obtain⟨W,⟨m0,w0⟩,turn⟩:=h
 refine wpAny_While (codeAny_whileLoop (fun n s'=>∃σ' H',Inv X pins σ' H' s'∧W n σ' H') ?_ m0 ⟨σ,H,I,w0⟩)
 rintro n s1 ⟨σ1,H1,I1,w1⟩
 refine wpAny_passesOwn hp (thn (hc pins s1 σ1 H1 _ I1 (turn n σ1 H1 w1)) fun b s2 ⟨H2,I2,q2⟩=>?_)
 cases b with
 |true=>
  obtain⟨N,hN,q2⟩:=q2
  rw[if_pos rfl]
  refine wpAny_passesOwn hp (thn (hb pins s2 σ1 H2 _ I2 q2) fun f s3 q3=>?_)
  cases f with
  |next=>
   obtain⟨σ3,H3,I3,n3⟩:=q3
   obtain⟨m',hm,w3⟩:=hN σ3 H3 n3
   exact⟨m',hm,σ3,H3,I3,w3⟩
  |cont=>
   obtain⟨σ3,H3,I3,n3⟩:=q3
   obtain⟨m',hm,w3⟩:=hN σ3 H3 n3
   exact⟨m',hm,σ3,H3,I3,w3⟩
  |brk=>exact q3
  |ret v=>exact q3
 |false=>
  rw[if_neg Bool.false_ne_true]
  exact wpAny_execs_nil ⟨σ1,H2,I2,q2⟩
end
structure It where
 go:Nat→Hp→Prop
 yld:Nat→Hp→V→Hp→Prop
 stop:Nat→Hp→Prop
def FpOk (X:Cx) (pins:List (Addr × Obj)) (H:Hp) (b:Addr):Prop:=
 H b=none∧b≠X.env.locals∧b∉X.fs∧(b∈X.ex∨X.s₀.heap.objs.size≤b)∧(∀x c,X.env.cells.lookup x=some c→c≠b)∧∀p∈X.pn++pins,p.1≠b
theorem Inv.fpOk {X:Cx} {pins:List (Addr × Obj)} {σ:St} {H H':Hp} {s:Shared} {b:Addr} (I:Inv X pins σ H s) (hb:s.heap.objs.size≤b) (hn:H' b=none):FpOk X pins H' b:=by
 refine⟨hn,Nat.ne_of_gt (Nat.lt_of_lt_of_le I.lt hb),I.nofs hb,.inr (Nat.le_trans I.sz hb),fun x c e z=>?_,fun p hp z=>?_⟩
 ·obtain⟨v,q⟩:=I.cell x c e
  exact absurd (Nat.lt_of_lt_of_le q.lt (by rw[z];exact hb)) (Nat.lt_irrefl _)
 ·exact absurd (Nat.lt_of_lt_of_le (Heap.lt_size (I.pin p hp).1) (by rw[z];exact hb)) (Nat.lt_irrefl _)
structure Turn (P:Program) (w:World) (K:W.Frag) (tg:Expr) (J:It) (fp:List Addr) (it:Addr) (tn:Nat→Heap→Prop):Prop where
 mem:it∈fp
 obj:∀i h,tn i h→∀b∈fp,∃o,h.get? b=some o∧∀v,o.data≠.cell v
 keep:∀i h h',tn i h→(∀b∈fp,∀o,h.get? b=some o→h'.get? b=some o)→tn i h'
 item:∀(X:Cx),X.prog=P→X.w=w→X.K=K→X.calm=true→∀(i:Nat) (pins:List (Addr × Obj)) (s:Shared) (σ:St) (H:Hp) (E:Value→Shared→Prop),Inv X pins σ H s→(∀b∈fp,FpOk X pins H b)→tn i s.heap→J.go i H →
  wpAny (model P w) X.A (pyNext (.ref it)) (fun r s1=>∃u,r=some u ∧
   wpAny (model P w) X.A (letOwnedTupleGo tg (.ref it) u) (fun _ s2=>∃x H',Inv X pins σ H' s2∧RelV x u∧J.yld i H x H'∧tn (i+1) s2.heap∧∀b∈fp,H' b=none) E s1) E s
 done:∀(X:Cx),X.prog=P→X.w=w→X.K=K→X.calm=true→∀(i:Nat) (pins:List (Addr × Obj)) (s:Shared) (σ:St) (H:Hp) (E:Value→Shared→Prop),Inv X pins σ H s→(∀b∈fp,FpOk X pins H b)→tn i s.heap→J.stop i H →
  wpAny (model P w) X.A (pyNext (.ref it)) (fun r s1=>r=none∧Inv X pins σ H s1) E s
 self:∀(A:Around) (i:Nat) (s:Shared) (Q:Value→Shared→Prop) (E:Value→Shared→Prop),tn i s.heap→Q (.ref it) s→wpAny (model P w) A (pyIter (.ref it)) Q E s
abbrev TI:=St→Hp→(It→Hp→Prop)→Prop
def PIE (X:Cx) (pins:List (Addr × Obj)) (σ:St) (tg:Expr) (R:It→Hp→Prop) (itv:Value) (s2:Shared):Prop:=
 ∃(it:Addr) (fp:List Addr) (tn:Nat→Heap→Prop) (J:It) (H':Hp),itv=.ref it∧Inv X pins σ H' s2∧Turn X.prog X.w X.K tg J fp it tn∧tn 0 s2.heap∧(∀b∈fp,FpOk X pins H' b)∧R J H'
def PI (X:Cx) (tg iter:Expr) (wi:TI):Prop:=
 ∀(pins:List (Addr × Obj)) (s:Shared) (σ:St) (H:Hp) (R:It→Hp→Prop),Inv X pins σ H s→wi σ H R →
  wpAny (model X.prog X.w) X.A (eval iter X.env) (fun v s1=>wpAny (model X.prog X.w) X.A (pyIter v) (PIE X pins σ tg R) X.xe s1) X.xe s
theorem ow {M:Model} {A:Around} {E:Value→Shared→Prop} {s:Shared} {tg:Expr} {it:Addr} {u:Value} {o:Obj} {n:String} {vs:Array Value} {Q:Unit→Shared→Prop} (ho:s.heap.get? it=some o) (hc:o.cls=.type n) (hd:o.data=.fields vs)
  (hn:["enumerate","zip","dict_itemiterator","dict_reverseitemiterator","odict_iterator","itertools.zip_longest","itertools.pairwise"].contains n=false) (hQ:Q () s):wpAny M A (letOwnedTupleGo tg (.ref it) u) Q E s:=by
 unfold letOwnedTupleGo
 cases tg <;> first
  |exact wpAny_pure hQ
  |(cases u <;> first
    |exact wpAny_pure hQ
    |(refine wpAny_bind (wpAny_load ho ?_)
      rw[hc,hd]
      show wpAny M A (if (["enumerate","zip","dict_itemiterator","dict_reverseitemiterator","odict_iterator","itertools.zip_longest","itertools.pairwise"].contains n&&vs[0]?==some (rawInt _))=true then _ else _) Q E s
      rw[if_neg (by intro h;rw[hn,Bool.false_and] at h;cases h)]
      exact wpAny_pure hQ))
def Itl (K:W.Frag) (a:Addr):It:=
 ⟨fun i H=>∃xs x,SqL K H a xs∧xs[i]? = some x,fun i H x H'=>H' = H∧∀xs,SqL K H a xs→xs[i]? = some x,fun i H=>∃xs,SqL K H a xs∧xs.length≤i⟩
def Itt (K:W.Frag) (a:Addr):It:=
 ⟨fun i H=>∃xs x,SqT K H a xs∧xs[i]? = some x,fun i H x H'=>H' = H∧∀xs,SqT K H a xs→xs[i]? = some x,fun i H=>∃xs,SqT K H a xs∧xs.length≤i⟩
def Itr (lo:Int) (n:Nat):It:=⟨fun i _=>i < n,fun i H x H'=>H' = H∧x=.int (lo+i),fun i _=>n≤i⟩
theorem oQ {P:Program} {w:World} {K:W.Frag} {tg:Expr} (a it:Addr):Turn P w K tg (Itl K a) [it] it (fun i h=>h.IsListIter it a i) where
 mem:=by simp
 obj:=fun i h st b hb=>by
  have e:b=it:=by simpa using hb
  subst e
  obtain⟨o,e,c,d⟩:=st
  exact⟨o,e,fun v z=>by rw[d] at z;cases z⟩
 keep:=fun i h h' st k=>st.at fun o e=>k it (by simp) o e
 item:=by
  intro X hP hw hK hc i pins s σ H E I hf st hg
  subst hP hw hK
  obtain⟨xs,x,hq,hx⟩:=hg
  obtain⟨its,rv,p,hz⟩:=I.list hq
  obtain⟨u,hu,ru⟩:=rv.get hx
  obtain⟨f0,f1,f2,f3,f4,f5⟩:=hf it (by simp)
  refine wpAny_pyNext_list_item st p.isList (x:=u) (by simpa using hu) fun h' st' sb=>?_
  have I1:Inv X pins σ H {s with heap:=h'}:=I.turned (t':=s.toks) (fun b o hb e=>(sb.2 b hb).trans e) f0 f1 f3 f4 f5
  obtain⟨o,e,c,d⟩:=id st'
  exact⟨u,rfl,ow (s:={s with heap:=h'}) e c d (by decide) ⟨x,H,I1,ru,⟨rfl,fun ys hy=>by rw[I.list_inj hy hq];exact hx⟩,st',fun b hb=>(hf b hb).1⟩⟩
 done:=by
  intro X hP hw hK hc i pins s σ H E I hf st hg
  subst hP hw hK
  obtain⟨xs,hq,hx⟩:=hg
  obtain⟨its,rv,p,hz⟩:=I.list hq
  obtain⟨f0,f1,f2,f3,f4,f5⟩:=hf it (by simp)
  have hl:=rv.length
  exact wpAny_pyNext_list_end (I.ok.hd hc) st p.isList (by simp;omega) fun h' eb=>⟨rfl,I.turned (t':=s.toks) (fun b o hb e=>eb b o hb e) f0 f1 f3 f4 f5⟩
 self:=fun _ _ _ _ _ st h=>wpAny_pyIter_listiter st h
theorem mt {P:Program} {w:World} {K:W.Frag} {tg:Expr} (a it:Addr):Turn P w K tg (Itt K a) [it] it (fun i h=>h.IsTupleIter it a i) where
 mem:=by simp
 obj:=fun i h st b hb=>by
  have e:b=it:=by simpa using hb
  subst e
  obtain⟨o,e,c,d⟩:=st
  exact⟨o,e,fun v z=>by rw[d] at z;cases z⟩
 keep:=fun i h h' st k=>st.at fun o e=>k it (by simp) o e
 item:=by
  intro X hP hw hK hc i pins s σ H E I hf st hg
  subst hP hw hK
  obtain⟨xs,x,hq,hx⟩:=hg
  obtain⟨its,rv,p,hz⟩:=I.tuple hq
  obtain⟨u,hu,ru⟩:=rv.get hx
  obtain⟨f0,f1,f2,f3,f4,f5⟩:=hf it (by simp)
  refine wpAny_pyNext_tuple_item st (show s.heap.IsTuple a its.toArray from p) (x:=u) (by simpa using hu) fun h' st' sb=>?_
  have I1:Inv X pins σ H {s with heap:=h'}:=I.turned (t':=s.toks) (fun b o hb e=>(sb.2 b hb).trans e) f0 f1 f3 f4 f5
  obtain⟨o,e,c,d⟩:=id st'
  exact⟨u,rfl,ow (s:={s with heap:=h'}) e c d (by decide) ⟨x,H,I1,ru,⟨rfl,fun ys hy=>by rw[I.tuple_inj hy hq];exact hx⟩,st',fun b hb=>(hf b hb).1⟩⟩
 done:=by
  intro X hP hw hK hc i pins s σ H E I hf st hg
  subst hP hw hK
  obtain⟨xs,hq,hx⟩:=hg
  obtain⟨its,rv,p,hz⟩:=I.tuple hq
  obtain⟨f0,f1,f2,f3,f4,f5⟩:=hf it (by simp)
  have hl:=rv.length
  exact wpAny_pyNext_tuple_end (I.ok.hd hc) st (show s.heap.IsTuple a its.toArray from p) (by simp;omega) fun h' eb=>⟨rfl,I.turned (t':=s.toks) (fun b o hb e=>eb b o hb e) f0 f1 f3 f4 f5⟩
 self:=fun _ _ _ _ _ st h=>wpAny_pyIter_tupleiter st h
theorem mv {P:Program} {w:World} {K:W.Frag} {tg:Expr} (it:Addr) (lo:Int) (n:Nat):Turn P w K tg (Itr lo n) [it] it (fun i h=>IsRangeIter h it (lo+(i:Nat) * 1) ((n:Int) - (i:Nat)) 1) where
 mem:=by simp
 obj:=fun i h st b hb=>by
  have e:b=it:=by simpa using hb
  subst e
  exact⟨_,st,fun v z=>by
   have z':Data.fields _=Data.cell v:=z
   cases z'⟩
 keep:=fun i h h' st k=>k it (by simp) _ st
 item:=by
  intro X hP hw hK hc i pins s σ H E I hf st hg
  subst hP hw hK
  obtain⟨f0,f1,f2,f3,f4,f5⟩:=hf it (by simp)
  have W:=Walks.range (prog:=X.prog) (w:=X.w) (I.ok.hd hc) it lo 1 n
  refine W.item i s _ _ hg st fun v h' tk hv st' kk=>?_
  obtain⟨t,rfl⟩:=hv
  have I1:Inv X pins σ H {s with heap:=h',toks:=tk}:=I.turned (fun b o hb e=>kk b o (by simpa using hb) e) f0 f1 f3 f4 f5
  refine⟨_,rfl,ow (s:={s with heap:=h',toks:=tk}) (n:="range_iterator") st' rfl rfl (by decide) ⟨.int (lo+i),H,I1,⟨t,?_⟩,⟨rfl,rfl⟩,st',fun b hb=>(hf b hb).1⟩⟩
  rw[Int.mul_one]
 done:=by
  intro X hP hw hK hc i pins s σ H E I hf st hg
  subst hP hw hK
  obtain⟨f0,f1,f2,f3,f4,f5⟩:=hf it (by simp)
  exact wpAny_pyNext_range_end (I.ok.hd hc) st (by have:n≤i:=hg;omega) fun h' eb=>⟨rfl,I.turned (t':=s.toks) (fun b o hb e=>eb b o hb e) f0 f1 f3 f4 f5⟩
 self:=fun _ _ _ _ _ st h=>wpAny_pyIter_rangeiter st h
end L2
namespace L2
open PySem PySem.Spec PyProof.Rows
section
variable {X:Cx} {tg:Expr}
def wH (K:W.Frag) (tl:TE):TI:=fun σ H R=>tl σ H fun x H1=>∃a,x=.ref a∧(∃xs,SqL K H1 a xs)∧R (Itl K a) H1
def iTup (K:W.Frag) (tl:TE):TI:=fun σ H R=>tl σ H fun x H1=>∃a,x=.ref a∧(∃xs,SqT K H1 a xs)∧R (Itt K a) H1
theorem aG {l:Expr} {tl:TE} (hl:PE X l tl):PI X tg l (wH X.K tl):=by
 intro pins s σ H R I h
 refine thn (hl pins s σ H _ I h) fun v s1 ⟨x,H1,I1,r1,q1⟩=>?_
 obtain⟨a,e,⟨xs,hq⟩,q⟩:=q1
 subst e
 cases r1
 obtain⟨its,rv,p,hz⟩:=I1.list hq
 refine wpAny_pyIter_list p.isList ?_
 refine⟨s1.heap.objs.size,[s1.heap.objs.size],_,_,H1,rfl,I1.kept (t':=s1.toks) fun b o e=>Heap.get?_push_of_some _ e,oQ a _,⟨_,Heap.get?_push_size _ rfl,rfl,rfl⟩,fun b hb=>?_,q⟩
 have e:b=s1.heap.objs.size:=by simpa using hb
 subst e
 exact I1.fpOk (Nat.le_refl _) (I1.hok.fresh (Nat.le_refl _))
theorem gq {l:Expr} {tl:TE} (hl:PE X l tl):PI X tg l (iTup X.K tl):=by
 intro pins s σ H R I h
 refine thn (hl pins s σ H _ I h) fun v s1 ⟨x,H1,I1,r1,q1⟩=>?_
 obtain⟨a,e,⟨xs,hq⟩,q⟩:=q1
 subst e
 cases r1
 obtain⟨its,rv,p,hz⟩:=I1.tuple hq
 refine wpAny_pyIter_tuple (show s1.heap.IsTuple a its.toArray from p) ?_
 refine⟨s1.heap.objs.size,[s1.heap.objs.size],_,_,H1,rfl,I1.kept (t':=s1.toks) fun b o e=>Heap.get?_push_of_some _ e,mt a _,⟨_,Heap.get?_push_size _ rfl,rfl,rfl⟩,fun b hb=>?_,q⟩
 have e:b=s1.heap.objs.size:=by simpa using hb
 subst e
 exact I1.fpOk (Nat.le_refl _) (I1.hok.fresh (Nat.le_refl _))
theorem ql {pins:List (Addr × Obj)} {σ:St} {H:Hp} {s:Shared} {R:It→Hp→Prop} {E:Value→Shared→Prop} {lo hi:Int} {t u v:Tok} {tk:Nat} (I:Inv X pins σ H s) (h1:-(2 ^ 62)≤lo) (h2:lo < 2 ^ 62) (h3:-(2 ^ 62)≤hi) (h4:hi < 2 ^ 62)
  (q:R (Itr lo (hi - lo).toNat) H):wpAny (model X.prog X.w) X.A (pyIter (.ref s.heap.objs.size)) (PIE X pins σ tg R) E {s with heap:=s.heap.push {cls:=.type "range",data:=.fields #[.int lo t,.int hi u,.int 1 v]},toks:=tk}:=by
 refine wpAny_pyIter_range (IsRange.new ..) (small_one h1 h2 h3 h4) ?_
 have I1:Inv X pins σ H {s with heap:=s.heap.push {cls:=.type "range",data:=.fields #[.int lo t,.int hi u,.int 1 v]},toks:=tk}:=I.kept fun b o e=>Heap.get?_push_of_some _ e
 refine⟨(s.heap.push {cls:=.type "range",data:=.fields #[.int lo t,.int hi u,.int 1 v]}).objs.size,[(s.heap.push {cls:=.type "range",data:=.fields #[.int lo t,.int hi u,.int 1 v]}).objs.size],_,_,H,rfl,
  I1.kept (t':=tk) fun b o e=>Heap.get?_push_of_some _ e,mv _ lo (hi - lo).toNat,?_,fun b hb=>?_,q⟩
 ·have e1:lo+((0:Nat):Int) * 1=lo:=by simp
  have e2:(((hi - lo).toNat:Nat):Int) - ((0:Nat):Int)=Builtin.Range.rangeSize lo hi 1:=by rw[rangeSize_one];split <;> omega
  show IsRangeIter _ _ (lo+((0:Nat):Int) * 1) ((((hi - lo).toNat:Nat):Int) - ((0:Nat):Int)) 1
  rw[e1,e2]
  exact Heap.get?_push_size _ rfl
 ·have e:b=(s.heap.push {cls:=.type "range",data:=.fields #[.int lo t,.int hi u,.int 1 v]}).objs.size:=by simpa using hb
  subst e
  exact I1.fpOk (Nat.le_refl _) (I1.hok.fresh (Nat.le_refl _))
def wG (ta:TA):TI:=fun σ H R=>ta σ H fun vs H1=>∃j:Int,vs=[.int j]∧-(2 ^ 62)≤j∧j < 2 ^ 62∧R (Itr 0 j.toNat) H1
theorem de {a:Expr} {ta:TA} {p pos:Pos} (hg:Gl X "range") (hm:X.mg "range" = none) (ha:PA X [a] ta) (hs:starEach [a] X.env=[(false,eval a X.env)]:=by rfl):PI X tg (.Call (.Name "range" p) [a] [] pos) (wG ta):=by
 intro pins s σ H R I h
 refine Call_ (iU I hg hm boot_range (PyProof.Rows.callWith_type1 (thn (ha pos pins s σ H _ I h) fun us s1 ⟨vs,H1,I1,r1,q1⟩=>?_) hs rfl))
 obtain⟨j,e,q1,q2,q⟩:=q1
 subst e
 cases r1 with
 |cons r rr=>
  cases rr
  obtain⟨t,rfl⟩:=r
  exact call_range_1 (ql I1 (by omega) (by omega) q1 q2 (by simpa using q))
def tFor (wi:TI) (g:TG) (tb:TS):TS:=fun D σ H=>wi σ H fun J H1=>∃W:Nat→Nat→St→Hp→Prop,(∃m,W 0 m σ H1)∧∀i m σ H,W i m σ H →
 (J.stop i H∧D.nx σ H)∨(J.go i H∧∃N:St→Hp→Prop,(∀σ' H',N σ' H'→∃m',m' < m∧W (i+1) m' σ' H')∧∀x H',J.yld i H x H'→g x σ H' fun σ2 H2=>tb {D with nx:=N,ct:=N,bk:=D.nx} σ2 H2)
def iH (fp:List Addr) (h:Heap):List (Addr × Obj):=fp.filterMap fun b=>(h.get? b).map fun o=>(b,o)
theorem eg {fp:List Addr} {h:Heap} {b:Addr} {o:Obj} (hb:b∈fp) (e:h.get? b=some o):(b,o)∈iH fp h:=List.mem_filterMap.mpr ⟨b,hb,by rw[e];rfl⟩
theorem pp {fp:List Addr} {h:Heap} {p:Addr × Obj} (hp:p∈iH fp h):p.1∈fp∧h.get? p.1=some p.2:=by
 obtain⟨b,hb,e⟩:=List.mem_filterMap.mp hp
 cases q:h.get? b with
 |none=>rw[q] at e;cases e
 |some o=>
  rw[q] at e
  have e':(b,o)=p:=Option.some.inj e
  subst e'
  exact⟨hb,q⟩
theorem Inv.pinned {pins:List (Addr × Obj)} {σ:St} {H:Hp} {s:Shared} {fp:List Addr} (I:Inv X pins σ H s) (hf:∀b∈fp,FpOk X pins H b) (ho:∀b∈fp,∃o,s.heap.get? b=some o∧∀v,o.data≠.cell v):Inv X (pins++iH fp s.heap) σ H s:=
 I.pins_of fun p hp=>(List.mem_append.mp hp).elim (fun z=>I.pin p (List.mem_append_right _ z)) fun z=>by
  obtain⟨hb,e⟩:=pp z
  obtain⟨f0,f1,f2,_⟩:=hf p.1 hb
  obtain⟨o,e',d⟩:=ho p.1 hb
  rw[e] at e';cases e'
  exact⟨e,f0,f1,f2,d⟩
theorem Inv.unpinned {pins pl:List (Addr × Obj)} {σ:St} {H:Hp} {s:Shared} (I:Inv X (pins++pl) σ H s):Inv X pins σ H s:=I.pins_of fun p hp=>I.pin p (List.mem_append_right _ (List.mem_append_left _ hp))
theorem ba {iter:Expr} {body:List Stmt} {wi:TI} {g:TG} {tb:TS} {pos:Pos} (hp:PassesOwn (model X.prog X.w) X.A X.env X.xe) (hc:X.calm=true) (hi:PI X tg iter wi) (hg:PG X tg g) (hb:PSs X body tb)
  (hs:∀x,foldedSetIterable iter X.env x=pure x:=by intro _;rfl):PS X (.For tg iter body [] pos) (tFor wi g tb):=by
 intro pins s σ H D I h
 refine wpAny_For (thn (hi pins s σ H _ I h) fun v s1 h1=>thn h1 fun itv s2 h2=>?_) hs
 obtain⟨it,fp,tn,J,H2,e,I2,T,st2,f2,W,⟨m0,w0⟩,turn⟩:=h2
 subst e
 have stat:∀{H':Hp},(∀b∈fp,H' b=none)→∀b∈fp,FpOk X pins H' b:=fun hn b hb=>⟨hn b hb,(f2 b hb).2⟩
 refine codeAny_forLoop_any (fun n s'=>∃i σ' H',Inv X pins σ' H' s'∧tn i s'.heap∧(∀b∈fp,H' b=none)∧W i n σ' H') ?_ m0 ⟨0,σ,H2,I2,st2,fun b hb=>(f2 b hb).1,w0⟩
 rintro n s3 ⟨i,σ3,H3,I3,st3,fr3,w3⟩
 rcases turn i n σ3 H3 w3 with ⟨stop,qn⟩|⟨go,N,hN,step⟩
 ·refine wpAny_passesOwn hp (thn (T.done X rfl rfl rfl hc i pins s3 σ3 H3 X.xe I3 (stat fr3) st3 stop) fun r s4 ⟨hr,I4⟩=>?_)
  subst hr
  exact wpAny_execs_nil ⟨σ3,H3,I4,qn⟩
 ·refine wpAny_passesOwn hp (thn (T.item X rfl rfl rfl hc i pins s3 σ3 H3 X.xe I3 (stat fr3) st3 go) fun r s4 ⟨u,hr,h4⟩=>?_)
  subst hr
  refine wpAny_passesOwn hp (thn h4 fun _ s5 ⟨x,H5,I5,r5,y5,st5,fr5⟩=>?_)
  have I5':=I5.pinned (stat fr5) (T.obj _ _ st5)
  refine wpAny_passesOwn hp (thn (hg _ s5 σ3 H5 x u _ I5' r5 (step x H5 y5)) fun _ s6 ⟨σ6,H6,I6,q6⟩=>?_)
  refine wpAny_passesOwn hp (thn (hb _ s6 σ6 H6 _ I6 q6) fun f s7 q7=>?_)
  have again:∀{σ7:St} {H7:Hp},Inv X (pins++iH fp s5.heap) σ7 H7 s7→N σ7 H7→∃m,m < n∧∃i σ' H',Inv X pins σ' H' s7∧tn i s7.heap∧(∀b∈fp,H' b=none)∧W i m σ' H':=fun {σ7 H7} I7 n7=>by
   obtain⟨m',hm,w7⟩:=hN σ7 H7 n7
   refine⟨m',hm,i+1,σ7,H7,I7.unpinned,T.keep _ _ _ st5 fun b hb o e=>(I7.pin (b,o) (List.mem_append_right _ (List.mem_append_right _ (eg hb e)))).1,fun b hb=>?_,w7⟩
   obtain⟨o,e,d⟩:=T.obj _ _ st5 b hb
   exact (I7.pin (b,o) (List.mem_append_right _ (List.mem_append_right _ (eg hb e)))).2.1
  cases f with
  |next=>obtain⟨σ7,H7,I7,n7⟩:=q7;exact again I7 n7
  |cont=>obtain⟨σ7,H7,I7,n7⟩:=q7;exact again I7 n7
  |brk=>obtain⟨σ7,H7,I7,q7⟩:=q7;exact⟨σ7,H7,I7.unpinned,q7⟩
  |ret v=>obtain⟨x7,σ7,H7,I7,r7,q7⟩:=q7;exact⟨x7,σ7,H7,I7.unpinned,r7,q7⟩
end
theorem bd {K:W.Frag} {a:Addr} {xs:List V} {g:TG} {tb:TS} {D:Ends} {σ:St} {H:Hp} (Pv:Nat→St→Hp→Prop) (h0:Pv 0 σ H) (hl:∀i σ H,i≤xs.length→Pv i σ H→SqL K H a xs)
  (hs:∀i x σ H,xs[i]? = some x→Pv i σ H→g x σ H fun σ2 H2=>tb {D with nx:=Pv (i+1),ct:=Pv (i+1),bk:=D.nx} σ2 H2) (hd:∀σ H,Pv xs.length σ H→D.nx σ H) :
  ∃W:Nat→Nat→St→Hp→Prop,(∃m,W 0 m σ H)∧∀i m σ H,W i m σ H →
   ((Itl K a).stop i H∧D.nx σ H)∨((Itl K a).go i H∧∃N:St→Hp→Prop,(∀σ' H',N σ' H'→∃m',m' < m∧W (i+1) m' σ' H')∧∀x H',(Itl K a).yld i H x H'→g x σ H' fun σ2 H2=>tb {D with nx:=N,ct:=N,bk:=D.nx} σ2 H2):=by
 refine⟨fun i m σ H=>m=xs.length - i∧i≤xs.length∧Pv i σ H,⟨xs.length,by simp,Nat.zero_le _,h0⟩,?_⟩
 rintro i m σ H ⟨rfl,hi,p⟩
 have q:=hl i σ H hi p
 by_cases hlt:i < xs.length
 ·refine .inr ⟨⟨xs,xs[i],q,by simp[hlt]⟩,Pv (i+1),fun σ' H' p'=>⟨xs.length - (i+1),by omega,rfl,hlt,p'⟩,fun x H' y=>?_⟩
  obtain⟨e,y⟩:=y
  subst e
  exact hs i x σ _ (y xs q) p
 ·have e:i=xs.length:=by omega
  subst e
  exact .inl ⟨⟨xs,q,Nat.le_refl _⟩,hd σ H p⟩
theorem ue {K:W.Frag} {a:Addr} {xs:List V} {g:TG} {tb:TS} {D:Ends} {σ:St} {H:Hp} (Pv:Nat→St→Hp→Prop) (h0:Pv 0 σ H) (hl:∀i σ H,i≤xs.length→Pv i σ H→SqT K H a xs)
  (hs:∀i x σ H,xs[i]? = some x→Pv i σ H→g x σ H fun σ2 H2=>tb {D with nx:=Pv (i+1),ct:=Pv (i+1),bk:=D.nx} σ2 H2) (hd:∀σ H,Pv xs.length σ H→D.nx σ H) :
  ∃W:Nat→Nat→St→Hp→Prop,(∃m,W 0 m σ H)∧∀i m σ H,W i m σ H →
   ((Itt K a).stop i H∧D.nx σ H)∨((Itt K a).go i H∧∃N:St→Hp→Prop,(∀σ' H',N σ' H'→∃m',m' < m∧W (i+1) m' σ' H')∧∀x H',(Itt K a).yld i H x H'→g x σ H' fun σ2 H2=>tb {D with nx:=N,ct:=N,bk:=D.nx} σ2 H2):=by
 refine⟨fun i m σ H=>m=xs.length - i∧i≤xs.length∧Pv i σ H,⟨xs.length,by simp,Nat.zero_le _,h0⟩,?_⟩
 rintro i m σ H ⟨rfl,hi,p⟩
 have q:=hl i σ H hi p
 by_cases hlt:i < xs.length
 ·refine .inr ⟨⟨xs,xs[i],q,by simp[hlt]⟩,Pv (i+1),fun σ' H' p'=>⟨xs.length - (i+1),by omega,rfl,hlt,p'⟩,fun x H' y=>?_⟩
  obtain⟨e,y⟩:=y
  subst e
  exact hs i x σ _ (y xs q) p
 ·have e:i=xs.length:=by omega
  subst e
  exact .inl ⟨⟨xs,q,Nat.le_refl _⟩,hd σ H p⟩
theorem dR {lo:Int} {n:Nat} {g:TG} {tb:TS} {D:Ends} {σ:St} {H:Hp} (Pv:Nat→St→Hp→Prop) (h0:Pv 0 σ H)
  (hs:∀i σ H,i < n→Pv i σ H→g (.int (lo+i)) σ H fun σ2 H2=>tb {D with nx:=Pv (i+1),ct:=Pv (i+1),bk:=D.nx} σ2 H2) (hd:∀σ H,Pv n σ H→D.nx σ H) :
  ∃W:Nat→Nat→St→Hp→Prop,(∃m,W 0 m σ H)∧∀i m σ H,W i m σ H →
   ((Itr lo n).stop i H∧D.nx σ H)∨((Itr lo n).go i H∧∃N:St→Hp→Prop,(∀σ' H',N σ' H'→∃m',m' < m∧W (i+1) m' σ' H')∧∀x H',(Itr lo n).yld i H x H'→g x σ H' fun σ2 H2=>tb {D with nx:=N,ct:=N,bk:=D.nx} σ2 H2):=by
 refine⟨fun i m σ H=>m=n - i∧i≤n∧Pv i σ H,⟨n,by simp,Nat.zero_le _,h0⟩,?_⟩
 rintro i m σ H ⟨rfl,hi,p⟩
 by_cases hlt:i < n
 ·refine .inr ⟨hlt,Pv (i+1),fun σ' H' p'=>⟨n - (i+1),by omega,rfl,hlt,p'⟩,fun x H' y=>?_⟩
  obtain⟨e,y⟩:=y
  subst e y
  exact hs i σ _ hlt p
 ·have e:i=n:=by omega
  subst e
  exact .inl ⟨Nat.le_refl _,hd σ H p⟩
end L2
namespace L2
open PySem PySem.Spec PyProof.Rows
abbrev R2:=V→V→Hp→VK→Prop
def OpR (X:Cx) (f:Value→Value→Sem Value) (r:R2):Prop:=
 ∀(pins:List (Addr × Obj)) (s:Shared) (σ:St) (H:Hp) (x y:V) (v u:Value) (Q:VK),Inv X pins σ H s→RelV x v→RelV y u→r x y H Q →
  wpAny (model X.prog X.w) X.A (f v u) (EP X pins σ Q) X.xe s
def UnR (X:Cx) (f:Value→Sem Value) (r:V→Hp→VK→Prop):Prop:=
 ∀(pins:List (Addr × Obj)) (s:Shared) (σ:St) (H:Hp) (x:V) (v:Value) (Q:VK),Inv X pins σ H s→RelV x v→r x H Q →
  wpAny (model X.prog X.w) X.A (f v) (EP X pins σ Q) X.xe s
def bZ (X:Cx) (f:Value) (r:List V→Hp→VK→Prop):Prop:=
 ∀(pins:List (Addr × Obj)) (s:Shared) (σ:St) (H:Hp) (xs:List V) (us:List Value) (Q:VK),Inv X pins σ H s→Vals xs us→r xs H Q →
  wpAny (model X.prog X.w) X.A (call f us) (EP X pins σ Q) X.xe s
def TruR (X:Cx) (r:V→Hp→(Bool→Hp→Prop)→Prop):Prop:=
 ∀(pins:List (Addr × Obj)) (s:Shared) (σ:St) (H:Hp) (x:V) (v:Value) (Q:Bool→Hp→Prop),Inv X pins σ H s→RelV x v→r x H Q →
  wpAny (model X.prog X.w) X.A (truthy v) (TP X pins σ Q) X.xe s
def tOp (r:R2) (ta tb:TE):TE:=fun σ H Q=>ta σ H fun x H1=>tb σ H1 fun y H2=>r x y H2 Q
def tUn (r:V→Hp→VK→Prop) (ta:TE):TE:=fun σ H Q=>ta σ H fun x H1=>r x H1 Q
def rI (C:Int→Int→Prop) (g:Int→Int→V):R2:=fun x y H Q=>∃i j,x=.int i∧y=.int j∧C i j∧Q (g i j) H
def rI0 (g:Int→Int→V):R2:=fun x y H Q=>∃i j,x=.int i∧y=.int j∧Q (g i j) H
def rU (g:Int→V):V→Hp→VK→Prop:=fun x H Q=>∃i,x=.int i∧Q (g i) H
section
variable {X:Cx} {a b c:Expr} {ta tb tc:TE} {pos:Pos}
theorem binT (ha:PE X a ta) (hb:PE X b tb) {pins:List (Addr × Obj)} {s:Shared} {σ:St} {H:Hp} {R:V→V→Hp→Prop} (I:Inv X pins σ H s)
  (h:ta σ H fun x H1=>tb σ H1 fun y H2=>R x y H2) {Q:Value→Shared→Prop} {f:Value→Value→Sem Value}
  (hf:∀v u s2 x y H2,Inv X pins σ H2 s2→RelV x v→RelV y u→R x y H2→wpAny (model X.prog X.w) X.A (f v u) Q X.xe s2) :
  wpAny (model X.prog X.w) X.A (eval a X.env) (fun v s₁=>wpAny (model X.prog X.w) X.A (eval b X.env) (fun u s₂=>wpAny (model X.prog X.w) X.A (f v u) Q X.xe s₂) X.xe s₁) X.xe s:=by
 refine thn (ha pins s σ H _ I h) fun v s1 ⟨x,H1,I1,r1,q1⟩=>?_
 refine thn (hb pins s1 σ H1 _ I1 q1) fun u s2 ⟨y,H2,I2,r2,q2⟩=>?_
 exact hf v u s2 x y H2 I2 r1 r2 q2
theorem aA {op:Operator} {r:R2} (ho:OpR X (binaryOp op) r) (ha:PE X a ta) (hb:PE X b tb):PE X (.BinOp a op b pos) (tOp r ta tb):=by
 intro pins s σ H Q I h
 exact wpAny_BinOp (binT ha hb I h fun v u s2 x y H2 I2 rx ry q=>ho pins s2 σ H2 x y v u Q I2 rx ry q)
theorem oi {op:UnaryOp} {r:V→Hp→VK→Prop} (ho:UnR X (unaryOp op) r) (ha:PE X a ta):PE X (.UnaryOp op a pos) (tUn r ta):=by
 intro pins s σ H Q I h
 exact UnaryOp_ (thn (ha pins s σ H _ I h) fun v s1 ⟨x,H1,I1,r1,q1⟩=>ho pins s1 σ H1 x v Q I1 r1 q1)
theorem opI {f:Value→Value→Sem Value} {C:Int→Int→Prop} {g:Int→Int→Int}
  (rule:∀(i j:Int) (t u:Tok) (s:Shared) (Q:Value→Shared→Prop) (E:Value→Shared→Prop),C i j→Q (.int (g i j) s.toks) {s with toks:=s.toks+1}→wpAny (model X.prog X.w) X.A (f (.int i t) (.int j u)) Q E s) :
  OpR X f (rI C fun i j=>.int (g i j)):=by
 intro pins s σ H x y v u Q I rx ry h
 obtain⟨i,j,rfl,rfl,hc,q⟩:=h
 obtain⟨t,rfl⟩:=rx
 obtain⟨t',rfl⟩:=ry
 exact rule i j t t' s _ _ hc ⟨.int (g i j),H,I.tok _,⟨_,rfl⟩,q⟩
theorem opI0 {f:Value→Value→Sem Value} {g:Int→Int→Int}
  (rule:∀(i j:Int) (t u:Tok) (s:Shared) (Q:Value→Shared→Prop) (E:Value→Shared→Prop),Q (.int (g i j) s.toks) {s with toks:=s.toks+1}→wpAny (model X.prog X.w) X.A (f (.int i t) (.int j u)) Q E s) :
  OpR X f (rI0 fun i j=>.int (g i j)):=by
 intro pins s σ H x y v u Q I rx ry h
 obtain⟨i,j,rfl,rfl,q⟩:=h
 obtain⟨t,rfl⟩:=rx
 obtain⟨t',rfl⟩:=ry
 exact rule i j t t' s _ _ ⟨.int (g i j),H,I.tok _,⟨_,rfl⟩,q⟩
theorem opB0 {f:Value→Value→Sem Value} {g:Int→Int→Bool}
  (rule:∀(i j:Int) (t u:Tok) (s:Shared) (Q:Value→Shared→Prop) (E:Value→Shared→Prop),Q (.bool (g i j)) s→wpAny (model X.prog X.w) X.A (f (.int i t) (.int j u)) Q E s) :
  OpR X f (rI0 fun i j=>.bl (g i j)):=by
 intro pins s σ H x y v u Q I rx ry h
 obtain⟨i,j,rfl,rfl,q⟩:=h
 obtain⟨t,rfl⟩:=rx
 obtain⟨t',rfl⟩:=ry
 exact rule i j t t' s _ _ ⟨.bl (g i j),H,I,rfl,q⟩
def CPow (i j:Int):Prop:=0≤j∧j≤1000000∧i.natAbs < 2 ^ 64
def CMul (i j:Int):Prop:=(-(2 ^ 64) < i∧i < 2 ^ 64)∨(-(2 ^ 64) < j∧j < 2 ^ 64)
theorem CMul.ok {i j:Int} (h:CMul i j):IntMulOk i j:=by
 rcases h with ⟨h1,h2⟩|⟨h1,h2⟩
 ·exact .of_left (intBits_le_64 h1 h2)
 ·exact .of_right (intBits_le_64 h1 h2)
theorem aV:OpR X (binaryOp .Add) (rI0 fun i j=>.int (i+j)):=opI0 fun _ _ _ _ _ _ _ q=>add_int q
theorem eN:OpR X (binaryOp .Sub) (rI0 fun i j=>.int (i - j)):=opI0 fun _ _ _ _ _ _ _ q=>sub_int q
theorem cX:OpR X (binaryOp .Mult) (rI CMul fun i j=>.int (i * j)):=opI fun _ _ _ _ _ _ _ hc q=>mul_int q hc.ok
theorem cY:OpR X (binaryOp .Mod) (rI (fun _ j=>0 < j) fun i j=>.int (i % j)):=opI fun i j _ _ _ _ _ hc q=>by
 have h1:(0:Int) < j:=hc
 exact mod_int' (by omega) (by rw[Int.fmod_eq_emod_of_nonneg i (by omega)];exact q)
theorem kI:OpR X (binaryOp .Pow) (rI CPow fun i j=>.int (i ^ j.toNat)):=opI fun _ _ _ _ _ _ _ hc q=>pow_int_small hc.1 hc.2.1 hc.2.2 q
theorem unI {f:Value→Sem Value} {g:Int→Int}
  (rule:∀(i:Int) (t:Tok) (s:Shared) (Q:Value→Shared→Prop) (E:Value→Shared→Prop),Q (.int (g i) s.toks) {s with toks:=s.toks+1}→wpAny (model X.prog X.w) X.A (f (.int i t)) Q E s) :
  UnR X f (rU fun i=>.int (g i)):=by
 intro pins s σ H x v Q I rx h
 obtain⟨i,rfl,q⟩:=h
 obtain⟨t,rfl⟩:=rx
 exact rule i t s _ _ ⟨.int (g i),H,I.tok _,⟨_,rfl⟩,q⟩
theorem jU:UnR X (unaryOp .USub) (rU fun i=>.int (-i)):=unI fun _ _ _ _ _ q=>neg_int q
end
def scal:V→V→Bool
 | .non,.non=>true | .non,.int _=>true | .int _,.non=>true | .non,.bl _=>true | .bl _,.non=>true | .non,.str _=>true | .str _,.non=>true
 | .int _,.int _=>true | .bl _,.bl _=>true | .str _,.str _=>true | .byt _,.byt _=>true
 | .int _,.str _=>true | .str _,.int _=>true | .bl _,.str _=>true | .str _,.bl _=>true
 |_,_=>false
def rEq:R2:=fun x y H Q=>scal x y=true∧Q (.bl (decide (x=y))) H
def rNe:R2:=fun x y H Q=>scal x y=true∧Q (.bl (!decide (x=y))) H
theorem oC {i j:Int}:decide (V.int i=V.int j)=(i==j):=by
 rw[Bool.eq_iff_iff]
 simp
theorem rV {i j:Bool}:decide (V.bl i=V.bl j)=(i==j):=by
 rw[Bool.eq_iff_iff]
 simp
theorem oB {i j:Str}:decide (V.str i=V.str j)=(i==j):=by
 rw[Bool.eq_iff_iff]
 simp
theorem oE {i j:Array UInt8}:decide (V.byt i=V.byt j)=(i.toList==j.toList):=by
 rw[Bool.eq_iff_iff]
 cases i
 cases j
 simp
section
variable {X:Cx} {a b c:Expr} {ta tb tc:TE} {pos:Pos}
theorem aO {pins:List (Addr × Obj)} {σ:St} {H:Hp} {s:Shared} {Q:VK} {k k':Bool} (I:Inv X pins σ H s) (q:Q (.bl k) H) (e:k=k'):EP X pins σ Q (.bool k') s:=by
 subst e
 exact⟨.bl k,H,I,rfl,q⟩
theorem fk:OpR X (compareOp .Eq) rEq:=by
 intro pins s σ H x y v u Q I rx ry h
 obtain⟨hs,q⟩:=h
 cases x with
 |non=>
  cases rx
  cases y with
  |non=>cases ry;exact PySem.EqNone.eq_none_none (aO I q (by simp))
  |bl j=>cases ry;exact PySem.EqNone.eq_none_bool (aO I q (by simp))
  |int j=>obtain⟨t',rfl⟩:=ry;exact PySem.EqNone.eq_none_int (aO I q (by simp))
  |str j=>obtain⟨t',rfl⟩:=ry;exact PySem.EqNone.eq_none_str (aO I q (by simp))
  |_=>exact absurd (show false=true from hs) Bool.false_ne_true
 |bl i=>
  cases rx
  cases y with
  |non=>cases ry;exact PySem.EqNone.eq_bool_none (aO I q (by simp))
  |bl j=>cases ry;exact eq_bool (aO I q rV)
  |str j=>obtain⟨t',rfl⟩:=ry;exact PySem.EqMixed.eq_bool_str (aO I q (by simp))
  |_=>exact absurd (show false=true from hs) Bool.false_ne_true
 |int i=>
  obtain⟨t,rfl⟩:=rx
  cases y with
  |non=>cases ry;exact PySem.EqNone.eq_int_none (aO I q (by simp))
  |int j=>obtain⟨t',rfl⟩:=ry;exact eq_int (aO I q oC)
  |str j=>obtain⟨t',rfl⟩:=ry;exact PySem.EqMixed.eq_int_str (aO I q (by simp))
  |_=>exact absurd (show false=true from hs) Bool.false_ne_true
 |str i=>
  obtain⟨t,rfl⟩:=rx
  cases y with
  |non=>cases ry;exact PySem.EqNone.eq_str_none (aO I q (by simp))
  |bl j=>cases ry;exact PySem.EqMixed.eq_str_bool (aO I q (by simp))
  |int j=>obtain⟨t',rfl⟩:=ry;exact PySem.EqMixed.eq_str_int (aO I q (by simp))
  |str j=>obtain⟨t',rfl⟩:=ry;exact eq_str (aO I q oB)
  |_=>exact absurd (show false=true from hs) Bool.false_ne_true
 |byt i=>
  obtain⟨t,rfl⟩:=rx
  cases y with
  |byt j=>obtain⟨t',rfl⟩:=ry;exact W.eq_bytes (aO I q oE)
  |_=>exact absurd (show false=true from hs) Bool.false_ne_true
 |_=>cases y <;> exact absurd (show false=true from hs) Bool.false_ne_true
theorem iL:OpR X (compareOp .NotEq) rNe:=by
 intro pins s σ H x y v u Q I rx ry h
 obtain⟨hs,q⟩:=h
 cases x with
 |non=>
  cases rx
  cases y with
  |non=>cases ry;exact PySem.EqNone.ne_none_none (aO I q (by simp))
  |bl j=>cases ry;exact PySem.EqNone.ne_none_bool (aO I q (by simp))
  |int j=>obtain⟨t',rfl⟩:=ry;exact PySem.EqNone.ne_none_int (aO I q (by simp))
  |str j=>obtain⟨t',rfl⟩:=ry;exact PySem.EqNone.ne_none_str (aO I q (by simp))
  |_=>exact absurd (show false=true from hs) Bool.false_ne_true
 |bl i=>
  cases rx
  cases y with
  |non=>cases ry;exact PySem.EqNone.ne_bool_none (aO I q (by simp))
  |bl j=>cases ry;exact ne_bool (aO I q (congrArg not rV))
  |str j=>obtain⟨t',rfl⟩:=ry;exact PySem.EqMixed.ne_bool_str (aO I q (by simp))
  |_=>exact absurd (show false=true from hs) Bool.false_ne_true
 |int i=>
  obtain⟨t,rfl⟩:=rx
  cases y with
  |non=>cases ry;exact PySem.EqNone.ne_int_none (aO I q (by simp))
  |int j=>obtain⟨t',rfl⟩:=ry;exact ne_int (aO I q (congrArg not oC))
  |str j=>obtain⟨t',rfl⟩:=ry;exact PySem.EqMixed.ne_int_str (aO I q (by simp))
  |_=>exact absurd (show false=true from hs) Bool.false_ne_true
 |str i=>
  obtain⟨t,rfl⟩:=rx
  cases y with
  |non=>cases ry;exact PySem.EqNone.ne_str_none (aO I q (by simp))
  |bl j=>cases ry;exact PySem.EqMixed.ne_str_bool (aO I q (by simp))
  |int j=>obtain⟨t',rfl⟩:=ry;exact PySem.EqMixed.ne_str_int (aO I q (by simp))
  |str j=>obtain⟨t',rfl⟩:=ry;exact ne_str (aO I q (congrArg not oB))
  |_=>exact absurd (show false=true from hs) Bool.false_ne_true
 |byt i=>
  obtain⟨t,rfl⟩:=rx
  cases y with
  |byt j=>obtain⟨t',rfl⟩:=ry;exact W.ne_bytes (aO I q (congrArg not oE))
  |_=>exact absurd (show false=true from hs) Bool.false_ne_true
 |_=>cases y <;> exact absurd (show false=true from hs) Bool.false_ne_true
theorem ol:OpR X (compareOp .Lt) (rI0 fun i j=>.bl (decide (i < j))):=opB0 fun _ _ _ _ _ _ _ q=>lt_int q
theorem uG:OpR X (compareOp .Gt) (rI0 fun i j=>.bl (decide (j < i))):=opB0 fun _ _ _ _ _ _ _ q=>gt_int q
theorem wB:OpR X (compareOp .GtE) (rI0 fun i j=>.bl (decide (j≤i))):=opB0 fun _ _ _ _ _ _ _ q=>ge_int q
theorem nomark (b:Expr) {op:CmpOp} (h:op≠.In:=by decide) (h2:op≠.NotIn:=by decide):behindInMarks op b=false:=by
 have e1:(op==CmpOp.In)=false:=by cases op <;> first|rfl|exact absurd rfl h
 have e2:(op==CmpOp.NotIn)=false:=by cases op <;> first|rfl|exact absurd rfl h2
 cases b <;> simp[behindInMarks,e1,e2]
theorem ef {op:CmpOp} {r:R2} (ho:OpR X (compareOp op) r) (ha:PE X a ta) (hb:PE X b tb) (hm:behindInMarks op b=false):PE X (.Compare a [op] [b] pos) (tOp r ta tb):=by
 intro pins s σ H Q I h
 exact wpAny_Compare1 (binT ha hb I h fun v u s2 x y H2 I2 rx ry q=>ho pins s2 σ H2 x y v u Q I2 rx ry q) hm
def p_ (t:TE):TT:=fun σ H Q=>t σ H fun x H'=>∃k,x=.bl k∧Q k H'
theorem aF {op:CmpOp} {r:R2} (ho:OpR X (compareOp op) r) (ha:PE X a ta) (hb:PE X b tb) (hm:behindInMarks op b=false):PT X (.Compare a [op] [b] pos) (p_ (tOp r ta tb)):=by
 intro pins s σ H Q I h
 refine wpAny_isTrue_Compare1 (thn (ha pins s σ H _ I h) fun v s1 ⟨x,H1,I1,r1,q1⟩=>thn (hb pins s1 σ H1 _ I1 q1) fun u s2 ⟨y,H2,I2,r2,q2⟩=>
  thn (ho pins s2 σ H2 x y v u _ I2 r1 r2 q2) fun c s3 ⟨z,H3,I3,r3,k,e,q3⟩=>?_) hm
 subst e
 cases r3
 exact wpAny_truthy_bool ⟨H3,I3,q3⟩
def TruV (K:W.Frag) (x:V) (H:Hp) (k:Bool):Prop:=
 match x with
 | .non=>k=false
 | .bl b=>k=b
 | .int i=>k=(i != 0)
 | .str y=>y.length≤sizeLine∧k=((y.length:Int) != 0)
 | .byt y=>y.size≤sizeLine∧k=((y.size:Int) != 0)
 | .ref p=>(∃xs,SqL K H p xs∧k=!xs.isEmpty)∨(∃xs,SqT K H p xs∧k=!xs.isEmpty)∨∃kvs,H p=some (.dK kvs)∧k=!kvs.isEmpty
 |_=>False
theorem nC {κ:Type} {kvs:List (κ × V)} {vs:List (κ × Value)} (r:KV kvs vs):(!vs.isEmpty)=!kvs.isEmpty:=by
 cases r <;> rfl
theorem iV {xs:List V} {its:List Value} (r:Vals xs its):(!its.toArray.isEmpty)=!xs.isEmpty:=by
 cases r <;> simp
theorem line63:(sizeLine:Nat) < 2 ^ 63:=by rw[sizeLine_eq];decide
theorem uU:TruR X (fun x H Q=>∃k,TruV X.K x H k∧Q k H):=by
 intro pins s σ H x v Q I rx h
 obtain⟨k,e,q⟩:=h
 have hl:=line63
 have hs:sizeLine=16777216:=sizeLine_eq
 cases x with
 |non=>
  cases rx
  have e':k=false:=e
  subst e'
  exact truthy_none ⟨H,I,q⟩
 |bl b=>
  cases rx
  have e':k=b:=e
  subst e'
  exact wpAny_truthy_bool ⟨H,I,q⟩
 |int i=>
  obtain⟨t,rfl⟩:=rx
  have e':k=(i != 0):=e
  subst e'
  exact PySem.P.truthy_int ⟨H,I,q⟩
 |str y=>
  obtain⟨t,rfl⟩:=rx
  obtain⟨hy,e'⟩:y.length≤sizeLine∧k=((y.length:Int) != 0):=e
  subst e'
  exact PySem.P.truthy_str (by omega) ⟨H,I.tok _,q⟩
 |byt y=>
  obtain⟨t,rfl⟩:=rx
  obtain⟨hy,e'⟩:y.size≤sizeLine∧k=((y.size:Int) != 0):=e
  subst e'
  exact W.truthy_bytes (by omega) ⟨H,I.tok _,q⟩
 |ref p=>
  cases rx
  have e':(∃xs,SqL X.K H p xs∧k=!xs.isEmpty)∨(∃xs,SqT X.K H p xs∧k=!xs.isEmpty)∨∃kvs,H p=some (.dK kvs)∧k=!kvs.isEmpty:=e
  rcases e' with ⟨xs,hx,e'⟩|⟨xs,hx,e'⟩|⟨kvs,hx,e'⟩
  ·subst e'
   obtain⟨its,r,pl,hz⟩:=I.list hx
   have hlen:=r.length
   exact wpAny_truthy_list pl.isList (by simp only[List.size_toArray];omega) ⟨H,I.tok _,by rw[iV r];exact q⟩
  ·subst e'
   obtain⟨its,r,pl,hz⟩:=I.tuple hx
   have hlen:=r.length
   exact truthy_tuple pl (by simp only[List.size_toArray];omega) ⟨H,I.tok _,by rw[iV r];exact q⟩
  ·subst e'
   obtain⟨hz,hS,vs,r,m⟩:kvs.length≤sizeLine∧(p==sysModules)=false∧∃vs,KV kvs vs∧s.heap.DictOf (aT X.prog X.w) p vs:=I.hok p _ hx
   have hlen:kvs.length=vs.length:=Paired.length r
   exact wpAny_truthy_dict hS m (by omega) ⟨H,I.tok _,by rw[nC r];exact q⟩
 |_=>exact (show False from e).elim
theorem qu (ha:PE X a ta) (he:∀whole,isTrue a X.env whole=(do let v ←whole;standAt a.pos;holding [v] (truthy v))) :
  PT X a (fun σ H Q=>ta σ H fun x H'=>∃k,TruV X.K x H' k∧Q k H'):=by
 intro pins s σ H Q I h
 exact isTrue_plain (thn (ha pins s σ H _ I h) fun v s1 ⟨x,H1,I1,r1,q1⟩=>uU pins s1 σ H1 x v Q I1 r1 q1) (he _)
theorem vals1 {x:V} {us:List Value} (r:Vals [x] us):∃u,us=[u]∧RelV x u:=by
 cases r with
 |cons r1 r2=>cases r2;exact⟨_,rfl,r1⟩
theorem vals2 {x y:V} {us:List Value} (r:Vals [x,y] us):∃u w',us=[u,w']∧RelV x u∧RelV y w':=by
 cases r with
 |cons r1 r2=>
  cases r2 with
  |cons r3 r4=>cases r4;exact⟨_,_,rfl,r1,r3⟩
theorem fe:bZ X (.type "int") (fun xs H Q=>(∃i,xs=[.int i]∧Q (.int i) H)∨∃k,xs=[.bl k]∧Q (.int (if k then 1 else 0)) H):=by
 intro pins s σ H xs us Q I r h
 rcases h with ⟨i,rfl,q⟩|⟨k,rfl,q⟩
 ·obtain⟨u,rfl,t,rfl⟩:=vals1 r
  exact call_int_int ⟨.int i,H,I,⟨_,rfl⟩,q⟩
 ·obtain⟨u,rfl,r1⟩:=vals1 r
  cases r1
  exact call_int_bool ⟨.int (if k then 1 else 0),H,I.tok _,⟨_,rfl⟩,q⟩
theorem fZ:bZ X (.type "str") (fun xs H Q=>∃i,xs=[.int i]∧i.natAbs.log2 < 1920∧Q (.str (toString i)) H):=by
 intro pins s σ H xs us Q I r h
 obtain⟨i,rfl,hz,q⟩:=h
 obtain⟨u,rfl,t,rfl⟩:=vals1 r
 exact PySem.P.str_of_int hz ⟨.str _,H,I.tok _,⟨_,rfl⟩,q⟩
end
end L2
namespace L2
open PySem PySem.Spec PyProof.Rows
structure ObjM (h:Heap) (x dx C:Addr) (mA:Str→Option Value):Prop where
 obj:h.get? x=some (W.instObj C dx)
 ns:h.Ns1 dx mA
 ne:dx≠x
theorem pA {h:Heap} {dx:Addr} {mA:Str→Option Value} (n:h.Ns1 dx mA):∃od,h.get? dx=some od∧∀name,W.lookIn name od=some (mA name):=by
 obtain⟨o,es,ep,ho,hd,hk,_,hm⟩:=n
 refine⟨o,ho,fun name=>?_⟩
 have e:=hm name
 unfold nsFind findBy at e
 rw[←Array.find?_toList] at e
 unfold W.lookIn
 rw[hd]
 dsimp only
 split
 ·rename_i y q
  rw[q] at e
  exact congrArg some e
 ·rename_i q
  rw[q] at e
  have a:es.toList.any (·.refKey)=false:=by
   rw[List.any_eq_false]
   intro y hy
   obtain⟨z,t,hkey⟩:=hk y (Array.mem_toList_iff.mp hy)
   simp[DictEntry.refKey,hkey]
  have a':¬es.toList.any (·.refKey)=true:=by rw[a];exact Bool.false_ne_true
  rw[if_neg a']
  exact congrArg some e
theorem ObjM.look {h:Heap} {x dx C:Addr} {mA:Str→Option Value} (I:ObjM h x dx C mA):∃od,W.InstAt h x (W.instObj C dx) C (some od)∧∀name,W.lookIn name od=some (mA name):=
 let ⟨od,ho,hl⟩:=pA I.ns
 ⟨od,⟨I.obj,rfl,rfl,ho⟩,hl⟩
section
variable {prog:Program} {w:World} {A:Around} {E:Value→Shared→Prop} {s:Shared} {K:W.Frag} {x dx C f:Addr} {mA:Str→Option Value} {name:Str} {v:Value}
theorem ud {expr:Bool} {Q:Value→Shared→Prop} (X:K.In s.heap) (I:ObjM s.heap x dx C mA) (hg:W.plainGet K C name=true) (hh:W.hasDictIn K C=true)
  (ha:W.findIn K (.ref C) name=some none) (hv:mA name=some v) (hv':W.handedIn v=true) (h:Q v {s with toks:=s.toks+1}) :
  wpAny (model prog w) A (getAttr (.ref x) name expr) Q E s:=by
 obtain⟨od,J,hl⟩:=I.look
 exact W.get_value X J (W.plainGet_of hg).1 (W.findObj_own hh ha rfl (by rw[hl,hv])) hv' h
theorem rm {pl:Sem Bool} {Q:Value × List Value→Shared→Prop} (X:K.In s.heap) (I:ObjM s.heap x dx C mA) (hg:W.plainGet K C name=true)
  (hf:W.findIn K (.ref C) name=some (some (.ref f))) (ht:W.isFn K (.ref f)=true) (hv:mA name=none) (h:Q (.ref f,[.ref x]) s) :
  wpAny (model prog w) A (getMethod (.ref x) name pl) Q E s:=by
 obtain⟨od,J,hl⟩:=I.look
 exact W.method_fn X J (W.plainGet_of hg).1 (W.plainGet_of hg).2 hf (beq_iff_eq.mp ht) (by show (W.lookIn name od).map (·.isSome)=some false;rw[hl,hv];rfl) h
theorem tj {ns:List Str} {Q:Unit→Shared→Prop} (X:K.In s.heap) (I:ObjM s.heap x dx C mA)
  (hs:W.findIn K (.ref C) "__setattr__" = some (some (.builtin "object.__setattr__"))) (hp:W.plainOver K C=true) (ht:W.takerIn K C name=some none) (hh:W.hasDictIn K C=true)
  (hw:PySem.Within mA ns) (hsz:ns.length≤sizeLine)
  (h:∀h',ObjM h' x dx C (fun y=>if y=name then some v else mA y)→Heap.SameBut dx s.heap h'→Q () {s with heap:=h',toks:=s.toks+2}) :
  wpAny (model prog w) A (setAttr (.ref x) name v) Q E s:=by
 obtain⟨od,J,hl⟩:=I.look
 refine W.set_plain X J hs (W.osa_open (s:={s with toks:=s.toks+1}) (r:=none) X J hp ht fun b=>?_)
 obtain⟨cd,hc,hd'⟩:=W.any_some hh
 have hx:s.heap.get? x=some ⟨.ref C,some dx,.plain,#[]⟩:=I.obj
 refine wpAny_bind (wpAny_pure (wpAny_bind (wpAny_bind (wpAny_loadPart hx (wpAny_bind (W.Looks.here (s:={s with toks:=s.toks+1}) (W.looks_clsIn X hc) ?_))))))
 rw[hd']
 refine wpAny_pure (a:=some dx) (wpAny_bind (wpAny_pure (wpAny_bind ?_)))
 refine wpAny_nsSet1 (s:={s with toks:=s.toks+1}) I.ns fun h' hn2 hs2=>?_
 obtain⟨oD,esD,epD,hoD,hdD,hcD⟩:=hn2.count (PySem.Within.cons name v hw)
 refine wpAny_bind (wpAny_lookBehind hoD (by rw[hdD];exact pastItsLine_dict (Nat.le_trans hcD (by rw[List.length_cons];omega))) ?_)
 exact wpAny_pure (h _ ⟨(hs2.2 _ (Ne.symm I.ne)).trans I.obj,hn2,I.ne⟩ hs2)
theorem qX {R:Result→Shared→Prop} {vs:List Value} {kw:List (Str × Value)} (X:K.In s.heap) (hm:W.makesIn K C=true)
  (hi:W.findIn K (.ref C) "__init__" = some (some (.ref f))) (hf:W.typeIn K (.ref f)=some (.type "function"))
  (h:codeAny (model prog w) (A.under (.builtin "type.__call__" ⟨.ref C::vs,kw⟩)) (.call (.ref f) ⟨.ref (s.heap.objs.size+1)::vs,kw⟩) (W.InitBack (s.heap.objs.size+1) R)
   {s with heap:=(s.heap.push W.emptyDict).push (W.instObj C s.heap.objs.size)}) :
  codeAny (model prog w) A (.call (.ref C) ⟨vs,kw⟩) R s:=by
 obtain⟨hh,g,d,t,os⟩:=s
 exact W.make_core (W.makes_of X hm) (W.looks_findIn X hi) (fun self=>W.bind_fn X self hf) (.inl rfl) h
end
def putF (f:Str) (v:V):List (Str × V)→List (Str × V)
 | []=>[(f,v)]
 |(g,x)::r=>if g=f then (g,v)::r else (g,x)::putF f v r
theorem gI (f g:Str) (v:V):∀fs:List (Str × V),(putF f v fs).lookup g=if g=f then some v else fs.lookup g
 | []=>by
  show List.lookup g [(f,v)]=_
  by_cases h:g=f
  ·have hb:(g==f)=true:=beq_iff_eq.mpr h
   simp only[List.lookup,hb,if_pos h]
  ·have hb:(g==f)=false:=beq_eq_false_iff_ne.mpr h
   simp only[List.lookup,hb,if_neg h]
 |(k,x)::r=>by
  have ih:=gI f g v r
  rw[show putF f v ((k,x)::r)=(if k=f then (k,v)::r else (k,x)::putF f v r) from rfl]
  by_cases hk:k=f
  ·rw[if_pos hk]
   by_cases h:g=k
   ·have hb:(g==k)=true:=beq_iff_eq.mpr h
    simp only[List.lookup,hb,if_pos (h.trans hk)]
   ·have hb:(g==k)=false:=beq_eq_false_iff_ne.mpr h
    simp only[List.lookup,hb,if_neg (fun e:g=f=>h (e.trans hk.symm))]
  ·rw[if_neg hk]
   by_cases h:g=k
   ·have hb:(g==k)=true:=beq_iff_eq.mpr h
    simp only[List.lookup,hb,if_neg (fun e:g=f=>hk (h.symm.trans e))]
   ·have hb:(g==k)=false:=beq_eq_false_iff_ne.mpr h
    simp only[List.lookup,hb]
    exact ih
theorem gz (f:Str) (v:V):∀fs:List (Str × V),f∈(putF f v fs).map (·.1)∧∀g,g∈fs.map (·.1)→g∈(putF f v fs).map (·.1)
 | []=>⟨by simp[putF],fun g h=>by simp at h⟩
 |(k,x)::r=>by
  obtain⟨i1,i2⟩:=gz f v r
  rw[show putF f v ((k,x)::r)=(if k=f then (k,v)::r else (k,x)::putF f v r) from rfl]
  by_cases hk:k=f
  ·rw[if_pos hk]
   subst hk
   exact⟨by simp,fun g h=>by simpa using h⟩
  ·rw[if_neg hk]
   refine⟨?_,fun g h=>?_⟩
   ·rw[List.map_cons]
    exact List.mem_cons_of_mem _ i1
   ·rw[List.map_cons] at h ⊢
    rcases List.mem_cons.mp h with e|e
    ·exact List.mem_cons.mpr (.inl e)
    ·exact List.mem_cons_of_mem _ (i2 g e)
theorem gJ (f:Str) (v:V):∀fs:List (Str × V),(putF f v fs).length≤fs.length+1
 | []=>by simp[putF]
 |(k,x)::r=>by
  have ih:=gJ f v r
  rw[show putF f v ((k,x)::r)=(if k=f then (k,v)::r else (k,x)::putF f v r) from rfl]
  by_cases hk:k=f
  ·rw[if_pos hk,List.length_cons,List.length_cons];omega
  ·rw[if_neg hk,List.length_cons,List.length_cons];omega
theorem RelO.some_of {v:V} {o:Option Value} (r:RelO (some v) o):∃u,o=some u∧RelV v u:=by
 cases o with
 |none=>exact (show False from r).elim
 |some u=>exact⟨u,rfl,r⟩
theorem RelO.none_of {o:Option Value} (r:RelO none o):o=none:=by
 cases o with
 |none=>rfl
 |some u=>exact (show False from r).elim
theorem pG {v:V} {u:Value} (r:RelV v u):W.handedIn u=true:=by
 cases v with
 |non=>cases (show u=Value.none from r);rfl
 |bl b=>cases (show u=Value.bool b from r);rfl
 |int i=>obtain⟨t,e⟩:=(show ∃t,u=Value.int i t from r);cases e;rfl
 |str x=>obtain⟨t,e⟩:=(show ∃t,u=Value.str x t from r);cases e;rfl
 |byt b=>obtain⟨t,e⟩:=(show ∃t,u=Value.bytes b t from r);cases e;rfl
 |flt b=>obtain⟨t,e⟩:=(show ∃t,u=Value.float b t from r);cases e;rfl
 |ref a=>cases (show u=Value.ref a from r);rfl
 |ty n=>cases (show u=Value.type n from r);rfl
section
variable {P:Program} {w:World} {H H':Hp} {h h':Heap} {a C dx:Addr} {fs fs':List (Str × V)}
theorem ie (hok:HOk P w H h) (e:H a=some (.ins C dx fs)):∃mA,ObjM h a dx C mA∧(∀f,RelO (fs.lookup f) (mA f))∧PySem.Within mA (fs.map (·.1))∧fs.length≤1000∧H dx=some (.own a):=by
 obtain⟨d,z,ne,ob,mA,n,r,q⟩:=(show aU P w H h a (.ins C dx fs) from hok a _ e)
 exact⟨mA,⟨ob,n,ne⟩,r,q,z,d⟩
end
structure Cls (K:W.Frag) (C:Addr):Prop where
 pg:W.plainGet K C Str.empty=true
 hd:W.hasDictIn K C=true
 po:W.plainOver K C=true
 sa:W.findIn K (.ref C) "__setattr__" = some (some (.builtin "object.__setattr__"))
theorem Cls.get {K:W.Frag} {C:Addr} (c:Cls K C) (f:Str):W.plainGet K C f=true:=c.pg
def dM (K:W.Frag) (C:Addr) (f:Str):Prop:=W.findIn K (.ref C) f=some none
theorem dM.taker {K:W.Frag} {C:Addr} {f:Str} (n:dM K C f):W.takerIn K C f=some none:=by
 unfold W.takerIn
 rw[show W.findIn K (.ref C) f=some none from n]
 rfl
structure Meth (K:W.Frag) (C:Addr) (m:Str) (f:Addr):Prop where
 at_:W.findIn K (.ref C) m=some (some (.ref f))
 fn:W.isFn K (.ref f)=true
 kp:W.keepIn K (.ref f)=true
section
variable {X:Cx} {pins:List (Addr × Obj)} {σ:St} {H:Hp} {s:Shared} {a C dx:Addr} {fs:List (Str × V)} {f:Str} {v:V} {A:Around} {E:Value→Shared→Prop}
theorem nG {b:Bool} {Q:Value→Shared→Prop} (I:Inv X pins σ H s) (e:H a=some (.ins C dx fs)) (c:Cls X.K C) (n:dM X.K C f) (l:fs.lookup f=some v)
  (h:∀u s',Inv X pins σ H s'→RelV v u→Q u s'):wpAny (model X.prog X.w) A (getAttr (.ref a) f b) Q E s:=by
 obtain⟨mA,O,r,_,_,_⟩:=ie I.hok e
 obtain⟨u,hu,ru⟩:=RelO.some_of (v:=v) (o:=mA f) (by rw[←l];exact r f)
 exact ud I.kIn O (c.get f) c.hd n hu (pG ru) (h u _ (I.tok _) ru)
theorem iW {m:Str} {g:Addr} {pl:Sem Bool} {Q:Value × List Value→Shared→Prop} (I:Inv X pins σ H s) (e:H a=some (.ins C dx fs)) (c:Cls X.K C) (k:Meth X.K C m g) (l:fs.lookup m=none)
  (h:Q (.ref g,[.ref a]) s):wpAny (model X.prog X.w) A (getMethod (.ref a) m pl) Q E s:=by
 obtain⟨mA,O,r,_,_,_⟩:=ie I.hok e
 have hn:mA m=none:=RelO.none_of (by rw[←l];exact r m)
 exact rm I.kIn O (c.get m) k.at_ k.fn hn h
theorem mL {y:V} {u:Value} {Q:Unit→Shared→Prop} (I:Inv X pins σ H s) (e:H a=some (.ins C dx fs)) (c:Cls X.K C) (n:dM X.K C f) (hl:fs.length < 1000) (ry:RelV y u)
  (h:∀s',Inv X pins σ (upd H a (.ins C dx (putF f y fs))) s'→Q () s'):wpAny (model X.prog X.w) A (setAttr (.ref a) f u) Q E s:=by
 obtain⟨mA,O,r,wi,_,ho⟩:=ie I.hok e
 have hz:(fs.map (·.1)).length≤sizeLine:=by rw[List.length_map,sizeLine_eq];omega
 refine tj I.kIn O c.sa c.po n.taker c.hd wi hz fun h' O' sb=>h _ ?_
 have hd:∃o,h'.get? dx=some o:=let ⟨o,_,_,e',_⟩:=O'.ns;⟨o,e'⟩
 refine I.write (x:=a) (e:=dx) (by rw[e];exact True.intro) (.inr ho) (fun b q hb z=>(sb.2 b hb).trans z) hd ?_
 refine⟨by rw[au O.ne];exact ho,?_,O.ne,O'.obj,_,O'.ns,fun g=>?_,fun g hg=>?_⟩
 ·have:=gJ f y fs;omega
 ·show RelO ((putF f y fs).lookup g) (if g=f then some u else mA g)
  rw[gI]
  by_cases q:g=f
  ·rw[if_pos q,if_pos q];exact ry
  ·rw[if_neg q,if_neg q];exact r g
 ·by_cases q:g=f
  ·rw[q];exact (gz f y fs).1
  ·refine (gz f y fs).2 g (wi g fun z=>hg ?_)
   show (if g=f then some u else mA g)=none
   rw[if_neg q];exact z
theorem Inv.made (I:Inv X pins σ H s):Inv X pins σ (upd (upd H s.heap.objs.size (.own (s.heap.objs.size+1))) (s.heap.objs.size+1) (.ins C s.heap.objs.size []))
  {s with heap:=(s.heap.push W.emptyDict).push (W.instObj C s.heap.objs.size)}:=by
 have e1:(s.heap.push W.emptyDict).get? s.heap.objs.size=some W.emptyDict:=Heap.get?_push_size s.heap rfl
 have e2:((s.heap.push W.emptyDict).push (W.instObj C s.heap.objs.size)).get? (s.heap.objs.size+1)=some (W.instObj C s.heap.objs.size):=by
  have:=Heap.get?_push_size (s.heap.push W.emptyDict) (o:=W.instObj C s.heap.objs.size) rfl
  rwa [Heap.size_push] at this
 have e3:(s.heap.push W.emptyDict).Ns s.heap.objs.size (fun _=>none):=⟨W.emptyDict,#[],_,e1,rfl,(fun e he=>absurd he (by simp)),fun _=>rfl⟩
 have I1:=I.laid (a:=s.heap.objs.size) (o:=.own (s.heap.objs.size+1)) (h':=s.heap.push W.emptyDict) (t':=s.toks) (fun b u q=>Heap.get?_push_of_some _ q) (Nat.le_refl _) ⟨_,e1⟩
 refine I1.laid (a:=s.heap.objs.size+1) (o:=.ins C s.heap.objs.size []) (t':=s.toks) (fun b u q=>Heap.get?_push_of_some _ q) (Nat.le_of_eq (Heap.size_push _ _)) ?_
 have ne:s.heap.objs.size≠s.heap.objs.size+1:=Nat.ne_of_lt (Nat.lt_succ_self _)
 refine⟨by rw[au ne,ao],Nat.zero_le _,ne,e2,fun _=>none,(Heap.Ns1.of_empty e3).at fun o q=>Heap.get?_push_of_some _ q,fun _=>True.intro,fun y hy=>absurd rfl hy⟩
theorem uw {prog:Program} {w:World} {env:Env} {e:Expr} {f:Str} {pos:Pos} {s:Shared} {Q:Value→Shared→Prop} (hb:attributeBase e f env (eval e env)=eval e env)
  (h:wpAny (model prog w) A (eval e env) (fun o s₁=>wpAny (model prog w) A (getAttr o f true) Q E s₁) E s):wpAny (model prog w) A (eval (.Attribute e f pos) env) Q E s:=
 Attribute_any_ h (by rw[arm_eval_Attribute,hb])
end
def tFld (K:W.Frag) (ta:TE) (f:Str):TE:=fun σ H Q=>ta σ H fun x H1=>∃a C dx fs v,x=.ref a∧H1 a=some (.ins C dx fs)∧Cls K C∧dM K C f∧fs.lookup f=some v∧Q v H1
def sFld (K:W.Frag) (ta tv:TE) (f:Str):TS:=fun D σ H=>tv σ H fun y H1=>ta σ H1 fun x H2=>∃a C dx fs,x=.ref a∧H2 a=some (.ins C dx fs)∧Cls K C∧dM K C f∧fs.length < 1000 ∧
 D.nx σ (upd H2 a (.ins C dx (putF f y fs)))
section
variable {X:Cx} {o e value:Expr} {f:Str} {pos pos' tpos:Pos} {ta tv:TE}
theorem m8 (he:PE X e ta) (hb:attributeBase e f X.env (eval e X.env)=eval e X.env):PE X (.Attribute e f pos) (tFld X.K ta f):=by
 intro pins s σ H Q I h
 refine uw hb (thn (he pins s σ H _ I h) fun u s1 ⟨x,H1,I1,rx,a,C,dx,fs,v,ex,ea,c,n,l,q⟩=>?_)
 subst ex
 obtain rfl:u=Value.ref a:=rx
 exact nG I1 ea c n l fun u' s2 I2 ru=>⟨v,H1,I2,ru,q⟩
theorem kr (ha:PE X o ta) (hv:PE X value tv) (hs:swapsWith value (some (.Attribute o f pos')) pos.line X.env=pure false):PS X (.Assign [.Attribute o f pos'] value pos) (sFld X.K ta tv f):=by
 intro pins s σ H D I h
 refine plainObj_wpAny_Assign_Attribute (thn (hv pins s σ H _ I h) fun u s1 ⟨y,H1,I1,ry,q⟩=>thn (ha pins s1 σ H1 _ I1 q) fun ov s2 ⟨x,H2,I2,rx,a,C,dx,fs,ex,ea,c,n,l,q2⟩=>?_) hs
 subst ex
 obtain rfl:ov=Value.ref a:=rx
 exact mL I2 ea c n l ry fun s3 I3=>⟨σ,_,I3,q2⟩
end
section
variable {X:Cx} {pins:List (Addr × Obj)} {σ:St} {H:Hp} {s:Shared} {A:Around} {E:Value→Shared→Prop} {Q:Value→Shared→Prop} {c:Value} {b:Bool}
inductive TyOf (K:W.Frag) (H:Hp):V→Value→Prop where
 |non:TyOf K H .non (.type "NoneType")
 |bl (x:Bool):TyOf K H (.bl x) (.type "bool")
 |int (i:Int):TyOf K H (.int i) (.type "int")
 |str (x:Str):TyOf K H (.str x) (.type "str")
 |flt (x:UInt64):TyOf K H (.flt x) (.type "float")
 |lst {a:Addr} {xs:List V} (e:H a=some (.lst xs)):TyOf K H (.ref a) (.type "list")
 |frz {a:Addr} {o:Obj} {xs:List V} (e:H a=some (.frz o (.lst xs))):TyOf K H (.ref a) (.type "list")
 |tup {a:Addr} {xs:List V} (e:H a=some (.tup xs)):TyOf K H (.ref a) (.type "tuple")
 |dK {a:Addr} {kvs:List (Key × V)} (e:H a=some (.dK kvs)):TyOf K H (.ref a) (.type "dict")
 |dT {a:Addr} {kvs:List (List Key × V)} (e:H a=some (.dT kvs)):TyOf K H (.ref a) (.type "dict")
 |ins {a C dx:Addr} {fs:List (Str × V)} (e:H a=some (.ins C dx fs)) (cl:Cls K C) (ha:W.findIn K (.ref C) "__class__" = some (some (.builtin "object.__class__")))
   (hn:W.specialIn K (.builtin "object.__class__") "__get__" = some (some (.builtin "getset_descriptor.__get__"))) (htk:W.takesIn K (.builtin "object.__class__")=some true)
   (hm:W.mroIn K C (.type "object")=some true):TyOf K H (.ref a) (.ref C)
theorem jJ {x:V} {u t:Value} (I:Inv X pins σ H s) (rx:RelV x u) (ty:TyOf X.K H x t) (e:W.kitOne X.K t c=some b) (h:∀tk,Q (.bool b) {s with toks:=tk}) :
  wpAny (model X.prog X.w) A (call (.builtin "isinstance") [u,c]) Q E s:=by
 cases ty with
 |non=>cases (show u=Value.none from rx);exact W.kia_one W.kitx_none I.kIn True.intro e (fun z=>nomatch z) h
 |bl y=>cases (show u=Value.bool y from rx);exact W.kia_one W.kitx_bool I.kIn True.intro e (fun z=>nomatch z) h
 |int i=>obtain⟨t,q⟩:=(show ∃t,u=Value.int i t from rx);cases q;exact W.kia_one W.kitx_int I.kIn True.intro e (fun z=>nomatch z) h
 |str y=>obtain⟨t,q⟩:=(show ∃t,u=Value.str y t from rx);cases q;exact W.kia_one W.kitx_str I.kIn True.intro e (fun z=>nomatch z) h
 |flt y=>obtain⟨t,q⟩:=(show ∃t,u=Value.float y t from rx);cases q;exact W.kia_one W.kitx_float I.kIn True.intro e (fun z=>nomatch z) h
 | @lst a xs ea=>
  cases (show u=Value.ref a from rx)
  obtain⟨_,_,n,_,h1⟩:=(show aU X.prog X.w H s.heap a (.lst xs) from I.hok a _ ea)
  exact W.kia_one W.kitx_list I.kIn ⟨_,h1,rfl⟩ e (fun z=>nomatch z) h
 | @frz a ob xs ea=>
  cases (show u=Value.ref a from rx)
  obtain⟨_,_,_,n,_,h1⟩:=(show aU X.prog X.w H s.heap a (.frz ob (.lst xs)) from I.hok a _ ea)
  exact W.kia_one W.kitx_list I.kIn ⟨_,h1,rfl⟩ e (fun z=>nomatch z) h
 | @tup a xs ea=>
  cases (show u=Value.ref a from rx)
  obtain⟨_,_,_,p⟩:=(show aU X.prog X.w H s.heap a (.tup xs) from I.hok a _ ea)
  obtain⟨o,h1,h2,_⟩:=p
  exact W.kia_one W.kitx_tuple I.kIn ⟨o,h1,h2⟩ e (fun z=>nomatch z) h
 | @dK a kvs ea=>
  cases (show u=Value.ref a from rx)
  obtain⟨_,_,vs,_,p⟩:=(show aU X.prog X.w H s.heap a (.dK kvs) from I.hok a _ ea)
  obtain⟨o,es,ep,h1,h2,_⟩:=p
  exact W.kia_one W.kitx_dict I.kIn ⟨o,h1,h2.1⟩ e (fun z=>nomatch z) h
 | @dT a kvs ea=>
  cases (show u=Value.ref a from rx)
  obtain⟨_,_,xs,_,o,es,ep,h1,h2,_⟩:=(show aU X.prog X.w H s.heap a (.dT kvs) from I.hok a _ ea)
  exact W.kia_one W.kitx_dict I.kIn ⟨o,h1,h2.1⟩ e (fun z=>nomatch z) h
 | @ins a C dx fs ea cl ha hn htk hm=>
  cases (show u=Value.ref a from rx)
  obtain⟨mA,O,_⟩:=ie I.hok ea
  obtain⟨od,J,_⟩:=O.look
  exact W.kia_one (W.kitx_own (cl.get _) cl.hd ha hn htk hm) I.kIn J e (fun z=>nomatch z) h
end
end L2
namespace L2
open PySem PySem.Spec PyProof.Rows
structure Room (k:Nat) (A:Around):Prop where
 hd:A.handled=none
 dp:A.depth+3 * k+5 < recursionLimit
 un:A.units+16 * k+200 < cLine
 gu:A.guards=some []
theorem Room.mono {j k:Nat} {A:Around} (r:Room k A) (h:j≤k):Room j A:=⟨r.hd,by have:=r.dp;omega,by have:=r.un;omega,r.gu⟩
theorem Room.deeper {k:Nat} {A:Around} (r:Room (k+1) A) (env:Env):Room k (A.deeper env):=
 ⟨r.hd,by have:=r.dp;show A.depth+1+3 * k+5 < _;omega,by have:=r.un;show A.units+3+16 * k+200 < _;omega,r.gu⟩
theorem nB {A:Around} {C:Addr} {us:List Value} {kw:List (Str × Value)}:(A.under (.builtin "type.__call__" ⟨.ref C::us,kw⟩)).depth=A.depth+1:=by
 first|rfl|simp[Around.under,Code.weight,Code.isCreation,Code.isGuard,Code.isCaller,Code.frames,Code.isFrame,guardIds]
theorem nA {A:Around} {C:Addr} {us:List Value} {kw:List (Str × Value)}:(A.under (.builtin "type.__call__" ⟨.ref C::us,kw⟩)).units=A.units+1:=by
 first|rfl|simp[Around.under,Code.cUnits,Code.frames,Code.isFrame]
theorem lV {A:Around} {C:Addr} {us:List Value} {kw:List (Str × Value)} (h:A.guards=some []):(A.under (.builtin "type.__call__" ⟨.ref C::us,kw⟩)).guards=some []:=by
 first|exact h|simp[Around.under,Code.isGuard,guardIds,h]
theorem Room.make {k:Nat} {A:Around} (r:Room (k+1) A) (C:Addr) (us:List Value) (kw:List (Str × Value)):Room k (A.under (.builtin "type.__call__" ⟨.ref C::us,kw⟩)):=
 ⟨r.hd,by have:=r.dp;rw[nB];omega,by have:=r.un;rw[nA];omega,lV r.gu⟩
theorem Room.depth {k:Nat} {A:Around} (r:Room k A):A.depth < recursionLimit:=by have:=r.dp;omega
theorem Room.units {k:Nat} {A:Around} (r:Room k A):A.units+64 < cLine:=by have:=r.un;omega
def tNil:TA:=fun _ H Q=>Q [] H
def eD (ta:TE) (tr:TA):TA:=fun σ H Q=>ta σ H fun x H1=>tr σ H1 fun xs H2=>Q (x::xs) H2
section
variable {X:Cx} {e:Expr} {es:List Expr} {te:TE} {t:TA} {pos:Pos}
theorem ac:PA X [] tNil:=fun _ _ _ _ H Q I h=>Calls.spliced_nil ⟨[],H,I,.nil,h⟩
theorem aa (ha:PE X e te) (hr:PA X es t) (hs:starEach (e::es) X.env=(false,eval e X.env)::starEach es X.env:=by rfl):PA X (e::es) (eD te t):=by
 intro pos pins s σ H Q I h
 rw[hs]
 show wpAny _ _ (spliced ((false,eval e X.env)::backTo pos (starEach es X.env))) _ _ s
 refine Calls.spliced_cons (thn (ha pins s σ H _ I h) fun u s1 ⟨x,H1,I1,r1,q1⟩=>?_)
 exact thn (hr pos pins s1 σ H1 _ I1 q1) fun us s2 ⟨xs,H2,I2,r2,q2⟩=>⟨x::xs,H2,I2,.cons r1 r2,q2⟩
def tTup (t:TA):TE:=fun σ H Q=>t σ H fun xs H1=>xs.length≤sizeLine∧∀p,H1 p=none→Q (.ref p) (upd H1 p (.tup xs))
def tLst (t:TA):TE:=fun σ H Q=>t σ H fun xs H1=>xs.length≤sizeLine∧∀p,H1 p=none→Q (.ref p) (upd H1 p (.lst xs))
theorem aE {x1} (h:PA X es t):PE X (.Tuple es x1 pos) (tTup t):=by
 intro pins s σ H Q I hq
 refine wpAny_Tuple_spliced (thn (h pos pins s σ H _ I hq) fun us s1 ⟨xs,H1,I1,r,z,q⟩=>⟨by rw[←r.length];exact z,?_⟩)
 have hf:H1 s1.heap.objs.size=none:=I1.hok.fresh (Nat.le_refl _)
 refine⟨.ref s1.heap.objs.size,upd H1 s1.heap.objs.size (.tup xs),I1.laid (t':=s1.toks) (fun b u e=>Heap.get?_push_of_some _ e) (Nat.le_refl _) ?_,rfl,q _ hf⟩
 exact⟨⟨z,_,Heap.get?_push_size _ rfl,rfl⟩,us,r,⟨_,Heap.get?_push_size _ rfl,rfl,_,rfl⟩⟩
theorem bc (h:PA X es t):PE X (.List es pos) (tLst t):=by
 intro pins s σ H Q I hq
 refine wpAny_List_spliced (thn (h pos pins s σ H _ I hq) fun us s1 ⟨xs,H1,I1,r,z,q⟩=>⟨by rw[←r.length];exact z,?_⟩)
 have hf:H1 s1.heap.objs.size=none:=I1.hok.fresh (Nat.le_refl _)
 refine⟨.ref s1.heap.objs.size,upd H1 s1.heap.objs.size (.lst xs),I1.laid (t':=s1.toks) (fun b u e=>Heap.get?_push_of_some _ e) (Nat.le_refl _) ?_,rfl,q _ hf⟩
 exact⟨z,us,0,r,Heap.get?_push_size _ rfl⟩
end
abbrev Sp:=List V→Hp→VK→XK→Prop
abbrev CXT:=List Env→Hp→Shared→XK→Value→Shared→Prop
structure Env0 (P:Program) (w:World) (K:W.Frag) (mg:Str→Option Value) (base:Heap) (A:Around) (outer:List Env) (s:Shared) (H:Hp):Prop where
 frames:A.frames=some outer
 mod:Mod K mg base
 bs:∀b o,base.get? b=some o→s.heap.get? b=some o∧H b=none
 bsz:base.objs.size≤s.heap.objs.size
 funs:s.heap.FunFrames base outer
 frf:∀b∈frs outer,H b=none
 hok:HOk P w H s.heap
 bare:AllBare s.gens
def CE (outer:List Env) (P:Program) (w:World) (H:Hp) (s:Shared) (Q:VK) (u:Value) (s':Shared):Prop:=
 ∃v H',s'.os=s.os∧AllBare s'.gens∧Un (frs outer) [] H H' s.heap s'.heap∧HOk P w H' s'.heap∧RelV v u∧Q v H'
def CR (CX:CXT) (outer:List Env) (P:Program) (w:World) (H:Hp) (s:Shared) (Q:VK) (E:XK) (r:Result) (s':Shared):Prop:=
 match r with
 | .ok (.ret u)=>CE outer P w H s Q u s'
 | .ok _=>False
 | .error e=>CX outer H s E e s'
structure FnOk (P:Program) (w:World) (K:W.Frag) (mg:Str→Option Value) (base:Heap) (CX:CXT) (k:Nat) (f:Addr) (fd:FuncData) (ps:List Str) (sp:Sp):Prop where
 len:∀vs H Q E,sp vs H Q E→vs.length=ps.length
 run:∀(A:Around) (outer:List Env) (s:Shared) (H:Hp) (args:Args) (us:List Value) (vs:List V) (Q:VK) (E:XK),Room k A→Env0 P w K mg base A outer s H→BindsTo s fd args (ps.zip us)→Vals vs us→sp vs H Q E →
  codeAny (model P w) A (.call (.ref f) args) (CR CX outer P w H s Q E) s
theorem FnOk.mono {P:Program} {w:World} {K:W.Frag} {mg:Str→Option Value} {base:Heap} {CX:CXT} {j k:Nat} {f:Addr} {fd:FuncData} {ps:List Str} {sp:Sp} (F:FnOk P w K mg base CX j f fd ps sp) (h:j≤k) :
  FnOk P w K mg base CX k f fd ps sp:=⟨F.len,fun A outer s H args us vs Q E hr=>F.run A outer s H args us vs Q E (hr.mono h)⟩
theorem Env0.make {P:Program} {w:World} {K:W.Frag} {mg:Str→Option Value} {base:Heap} {A:Around} {outer:List Env} {s:Shared} {H:Hp} (e:Env0 P w K mg base A outer s H) (C:Addr) (us:List Value) (kw:List (Str × Value)) :
  Env0 P w K mg base (A.under (.builtin "type.__call__" ⟨.ref C::us,kw⟩)) outer s H:=⟨by first|exact e.frames|(simpa [Around.under,Code.envs,Code.isFrame,pushEnvs] using e.frames),e.mod,e.bs,e.bsz,e.funs,e.frf,e.hok,e.bare⟩
section
variable {X:Cx} {pins:List (Addr × Obj)} {σ:St} {H:Hp} {s s':Shared}
theorem Inv.env0 (I:Inv X pins σ H s):Env0 X.prog X.w X.K X.mg X.base X.A X.stack s H:=
 ⟨I.ok.frames,I.ok.mod,I.bs,Nat.le_trans I.ok.bsz I.sz,I.stack,I.stkFree,I.hok,I.bare⟩
theorem Inv.after {Q:VK} {u:Value} (I:Inv X pins σ H s) (h:CE X.stack X.prog X.w H s Q u s'):EP X pins σ Q u s':=by
 obtain⟨v,H',os,bare,un,hok,r,q⟩:=h
 obtain⟨hh,g,d,t,os'⟩:=s'
 obtain rfl:os' = s.os:=os
 exact⟨v,H',I.call (h':=hh) (g':=g) (d':=d) (t':=t) (ch:=[]) un hok bare (fun b z=>absurd z (by simp)),r,q⟩
end
def wm (sp:Sp) (dvs:List V) (E:XK) (t:TA):TE:=fun σ H Q=>t σ H fun vs H1=>sp (vs++dvs) H1 Q E
def uB (C:Addr) (m:Str) (sp:Sp) (dvs:List V) (E:XK) (ta:TE) (t:TA):TE:=fun σ H Q=>ta σ H fun x H1=>∃a dx fs,x=.ref a∧H1 a=some (.ins C dx fs)∧fs.lookup m=none ∧
 t σ H1 fun vs H2=>sp (x::(vs++dvs)) H2 Q E
def wj (C:Addr) (sp:Sp) (dvs:List V) (E:XK) (t:TA):TE:=fun σ H Q=>t σ H fun vs H1=>∀x dx,H1 x=none→H1 dx=none→dx≠x →
 sp (.ref x::(vs++dvs)) (upd (upd H1 dx (.own x)) x (.ins C dx [])) (fun v H2=>v=.non∧Q (.ref x) H2) E
def Binds (K:W.Frag) (fd:FuncData) (ps:List Str) (ds:List Value):Prop:=
 ∀(s:Shared) (us:List Value),K.In s.heap→(us++ds).length=ps.length→BindsTo s fd ⟨us,[]⟩ (ps.zip (us++ds))
theorem Binds.all {K:W.Frag} {fd:FuncData} {ps:List Str} (h:∀us:List Value,us.length=ps.length→bindArgs fd ⟨us,[]⟩=pure (ps.zip us)):Binds K fd ps []:=fun s us _ hl=>by
 rw[List.append_nil] at hl ⊢
 exact .of_eq (h us hl)
def Passes (CX:CXT) (X:Cx) (E:XK):Prop:=∀(pins:List (Addr × Obj)) (σ:St) (H:Hp) (s:Shared) (e:Value) (s':Shared),Inv X pins σ H s→CX X.stack H s E e s'→X.xe e s'
section
variable {X:Cx} {CX:CXT} {k:Nat} {f C:Addr} {fd:FuncData} {ps:List Str} {sp:Sp} {dvs:List V} {ds:List Value} {E:XK} {x m:Str} {p pos apos:Pos} {e o:Expr} {es:List Expr} {ta:TE} {t:TA}
theorem mU {pins:List (Addr × Obj)} {σ:St} {H:Hp} {s:Shared} {Q:VK} {us:List Value} {vs:List V} (F:FnOk X.prog X.w X.K X.mg X.base CX k f fd ps sp) (hr:Room k X.A) (hb:Binds X.K fd ps ds) (hd:Vals dvs ds) (hx:Passes CX X E)
  (I:Inv X pins σ H s) (r:Vals vs us) (h:sp (vs++dvs) H Q E):wpAny (model X.prog X.w) X.A (call (.ref f) us) (EP X pins σ Q) X.xe s:=by
 have r2:Vals (vs++dvs) (us++ds):=r.append hd
 have hl:(us++ds).length=ps.length:=by rw[←r2.length];exact F.len _ _ _ _ h
 refine wpAny_call (codeAny_mono (F.run X.A X.stack s H ⟨us,[]⟩ (us++ds) (vs++dvs) Q E hr I.env0 (hb s us I.kIn hl) r2 h) fun r s' hq=>?_)
 cases r with
 |error e=>exact hx pins σ H s e s' I hq
 |ok fl=>
  cases fl with
  |ret u=>exact I.after hq
  |next=>exact False.elim hq
  |brk=>exact False.elim hq
  |cont=>exact False.elim hq
theorem ar (F:FnOk X.prog X.w X.K X.mg X.base CX k f fd ps sp) (hr:Room k X.A) (hg:Gl X x) (hm:X.mg x=some (.ref f)) (hk:W.keepIn X.K (.ref f)=true) (hb:Binds X.K fd ps ds) (hd:Vals dvs ds) (hx:Passes CX X E)
  (ha:PA X (e::es) t) (hdb:(x==("__debug__" : Str))=false:=by decide) (he:starEach (e::es) X.env=(false,eval e X.env)::starEach es X.env:=by rfl) (hpl:(backTo pos (starEach es X.env)).any (·.1)=false:=by rfl) :
  PE X (.Call (.Name x p) (e::es) [] pos) (wm sp dvs E t):=by
 intro pins s σ H Q I h
 refine wpAny_Call_Name_kw (kN I hg hm ?_ hdb)
 refine W.callWith_K (h₀:=X.base) I.ok.mod.kin hk (thn (ha pos pins s σ H _ I h) fun us s1 ⟨vs,H1,I1,r,q⟩=>⟨I1.kIn,?_⟩) he hpl
 exact mU F hr hb hd hx I1 r q
theorem tP {pl:Sem Bool} (he:PE X o ta) (c:Cls X.K C) (hm:Meth X.K C m f) (F:FnOk X.prog X.w X.K X.mg X.base CX k f fd ps sp) (hr:Room k X.A) (hb:Binds X.K fd ps ds) (hd:Vals dvs ds) (hx:Passes CX X E) (ha:PA X (e::es) t)
  (hst:starEach (e::es) X.env=(false,eval e X.env)::starEach es X.env:=by rfl) (hpl:(backTo pos (starEach es X.env)).any (·.1)=false:=by rfl)
  (ht:eval (.Call (.Attribute o m apos) (e::es) [] pos) X.env=(do
   let ov ←eval o X.env
   standAt apos.atName
   let (f,first) ←holding [ov] (getMethod ov m pl)
   callWith pos f first (backTo pos (starEach (e::es) X.env)) (backToKw pos (keywordEach [] X.env))):=by rfl) :
  PE X (.Call (.Attribute o m apos) (e::es) [] pos) (uB C m sp dvs E ta t):=by
 intro pins s σ H Q I h
 refine W.methodCall_KW (pl:=pl) (thn (he pins s σ H _ I h) fun u s1 ⟨x,H1,I1,rx,a,dx,fs,ex,ea,l,q⟩=>?_) ht
 subst ex
 obtain rfl:u=Value.ref a:=rx
 refine iW I1 ea c hm l ?_
 refine W.callWith_K (first:=[.ref a]) (h₀:=X.base) I.ok.mod.kin hm.kp (thn (ha pos pins s1 σ H1 _ I1 q) fun us s2 ⟨vs,H2,I2,r,q2⟩=>⟨I2.kIn,?_⟩) hst hpl
 exact mU (us:=.ref a::us) (vs:=.ref a::vs) F hr hb hd hx I2 (.cons rfl r) q2
theorem iJ {pl:Sem Bool} (he:PE X o ta) (c:Cls X.K C) (hm:Meth X.K C m f) (F:FnOk X.prog X.w X.K X.mg X.base CX k f fd ps sp) (hr:Room k X.A) (hb:Binds X.K fd ps ds) (hd:Vals dvs ds) (hx:Passes CX X E)
  (ht:eval (.Call (.Attribute o m apos) [] [] pos) X.env=(do
   let ov ←eval o X.env
   standAt apos.atName
   let (f,first) ←holding [ov] (getMethod ov m pl)
   callWith pos f first (backTo pos (starEach [] X.env)) (backToKw pos (keywordEach [] X.env))):=by rfl) :
  PE X (.Call (.Attribute o m apos) [] [] pos) (uB C m sp dvs E ta tNil):=by
 intro pins s σ H Q I h
 refine W.methodCall_KW (pl:=pl) (thn (he pins s σ H _ I h) fun u s1 ⟨x,H1,I1,rx,a,dx,fs,ex,ea,l,q⟩=>?_) ht
 subst ex
 obtain rfl:u=Value.ref a:=rx
 refine iW I1 ea c hm l ?_
 exact W.callWith_K0 (first:=[.ref a]) I1.kIn hm.kp (mU (us:=[.ref a]) (vs:=[.ref a]) F hr hb hd hx I1 (.cons rfl .nil) q)
structure Mk (K:W.Frag) (C f:Addr):Prop where
 makes:W.makesIn K C=true
 init:W.findIn K (.ref C) "__init__" = some (some (.ref f))
 fn:W.isFn K (.ref f)=true
 kp:W.keepIn K (.ref C)=true
theorem qj {pins:List (Addr × Obj)} {σ:St} {H:Hp} {s:Shared} {Q:VK} {us:List Value} {vs:List V} (M:Mk X.K C f) (F:FnOk X.prog X.w X.K X.mg X.base CX k f fd ps sp) (hr:Room (k+1) X.A) (hb:Binds X.K fd ps ds) (hd:Vals dvs ds)
  (hx:Passes CX X E) (I:Inv X pins σ H s) (r:Vals vs us)
  (h:∀x dx,H x=none→H dx=none→dx≠x→sp (.ref x::(vs++dvs)) (upd (upd H dx (.own x)) x (.ins C dx [])) (fun v H2=>v=.non∧Q (.ref x) H2) E) :
  wpAny (model X.prog X.w) X.A (call (.ref C) us) (EP X pins σ Q) X.xe s:=by
 have hq:=h (s.heap.objs.size+1) s.heap.objs.size (I.hok.fresh (Nat.le_succ _)) (I.hok.fresh (Nat.le_refl _)) (Nat.ne_of_lt (Nat.lt_succ_self _))
 have I2:=Inv.made (C:=C) I
 have r2:Vals (V.ref (s.heap.objs.size+1)::(vs++dvs)) (Value.ref (s.heap.objs.size+1)::(us++ds)):=.cons rfl (r.append hd)
 have hl:(Value.ref (s.heap.objs.size+1)::us++ds).length=ps.length:=by
  have e:=r2.length
  rw[F.len _ _ _ _ hq] at e
  exact e.symm
 refine wpAny_call (qX (f:=f) I.kIn M.makes M.init (beq_iff_eq.mp M.fn) (codeAny_mono (F.run _ X.stack _ _ ⟨Value.ref (s.heap.objs.size+1)::us,[]⟩ (Value.ref (s.heap.objs.size+1)::(us++ds)) _ _ E (hr.make C us [])
  (I2.env0.make C us []) (hb _ (Value.ref (s.heap.objs.size+1)::us) I2.kIn hl) r2 hq) fun r s' hq'=>?_))
 cases r with
 |error e=>exact hx pins σ _ _ e s' I2 hq'
 |ok fl=>
  cases fl with
  |ret u=>
   obtain⟨v,H',I3,rv,ev,q3⟩:=I2.after hq'
   subst ev
   exact⟨rv,⟨V.ref (s.heap.objs.size+1),H',I3,rfl,q3⟩⟩
  |next=>exact False.elim hq'
  |brk=>exact False.elim hq'
  |cont=>exact False.elim hq'
theorem kE (M:Mk X.K C f) (F:FnOk X.prog X.w X.K X.mg X.base CX k f fd ps sp) (hr:Room (k+1) X.A) (hg:Gl X x) (hm:X.mg x=some (.ref C)) (hb:Binds X.K fd ps ds) (hd:Vals dvs ds) (hx:Passes CX X E)
  (ha:PA X (e::es) t) (hdb:(x==("__debug__" : Str))=false:=by decide) (he:starEach (e::es) X.env=(false,eval e X.env)::starEach es X.env:=by rfl) (hpl:(backTo pos (starEach es X.env)).any (·.1)=false:=by rfl) :
  PE X (.Call (.Name x p) (e::es) [] pos) (wj C sp dvs E t):=by
 intro pins s σ H Q I h
 refine wpAny_Call_Name_kw (kN I hg hm ?_ hdb)
 refine W.callWith_K (h₀:=X.base) I.ok.mod.kin M.kp (thn (ha pos pins s σ H _ I h) fun us s1 ⟨vs,H1,I1,r,q⟩=>⟨I1.kIn,?_⟩) he hpl
 exact qj M F hr hb hd hx I1 r q
end
section
variable {X:Cx} {CX:CXT} {k:Nat} {f C:Addr} {fd:FuncData} {ps ks:List Str} {sp:Sp} {E:XK} {x m:Str} {p pos apos kpos:Pos} {e o:Expr} {es:List Expr} {kws:List Keyword} {te ta:TE} {t tk:TA} {nm:Option Str}
variable {g:List Value→List Value→List Value} {gV:List V→List V→List V}
end
structure aB (N P:List Str) (sc:Scope):Prop where
 kind:sc.kind=.function
 co:sc.isCoroutine=false
 gen:sc.isGenerator=false
 nd:N.Nodup
 pre:N.take P.length=P
 par:∀x∈P,sc.names.lookup x=some .local∨sc.names.lookup x=some .cell
 nofree:∀y∈sc.names,y.2≠.free
theorem jM {kindOf:Str→Option NameKind} {x:Str}:∀{binds:List (Str × Value)} {m:Str→Option Value},(∀v,(x,v)∉binds)→bindL kindOf binds m x=m x
 | [],_,_=>rfl
 |(n,v)::r,m,h=>by
  unfold bindL
  rw[jM fun w hw=>h w (List.mem_cons_of_mem _ hw)]
  split
  ·have:x≠n:=by rintro rfl;exact h v List.mem_cons_self
   simp[this]
  ·rfl
theorem jO {kindOf:Str→Option NameKind} {x:Str}:∀{binds:List (Str × Value)} {m:Str→Option Value},(∀v,(x,v)∉binds)→bindC kindOf binds m x=m x
 | [],_,_=>rfl
 |(n,v)::r,m,h=>by
  unfold bindC
  rw[jO fun w hw=>h w (List.mem_cons_of_mem _ hw)]
  split
  ·rfl
  ·have:x≠n:=by rintro rfl;exact h v List.mem_cons_self
   simp[this]
theorem jN {kindOf:Str→Option NameKind} {x:Str} {v:Value}:∀{P:List Str} {vs:List Value} {i:Nat} {m:Str→Option Value},P.Nodup→P[i]? = some x→vs[i]? = some v→kindOf x=some .local →
  bindL kindOf (P.zip vs) m x=some v
 | [],_,_,_,_,h,_,_=>by simp at h
 |_::_,[],_,_,_,_,h,_=>by simp at h
 |p::P,w::vs,0,m,nd,h1,h2,hk=>by
  simp at h1 h2;subst h1;subst h2
  show bindL kindOf ((p,w)::P.zip vs) m p=_
  unfold bindL
  rw[jM fun v hv=>(List.nodup_cons.mp nd).1 (List.of_mem_zip hv).1,if_pos hk]
  simp
 |p::P,w::vs,i+1,m,nd,h1,h2,hk=>by
  show bindL kindOf ((p,w)::P.zip vs) m x=_
  unfold bindL
  exact jN (i:=i) (List.nodup_cons.mp nd).2 (by simpa using h1) (by simpa using h2) hk
theorem jP {kindOf:Str→Option NameKind} {x:Str} {v:Value}:∀{P:List Str} {vs:List Value} {i:Nat} {m:Str→Option Value},P.Nodup→P[i]? = some x→vs[i]? = some v→kindOf x≠some .local →
  bindC kindOf (P.zip vs) m x=some v
 | [],_,_,_,_,h,_,_=>by simp at h
 |_::_,[],_,_,_,_,h,_=>by simp at h
 |p::P,w::vs,0,m,nd,h1,h2,hk=>by
  simp at h1 h2;subst h1;subst h2
  show bindC kindOf ((p,w)::P.zip vs) m p=_
  unfold bindC
  rw[jO fun v hv=>(List.nodup_cons.mp nd).1 (List.of_mem_zip hv).1,if_neg hk]
  simp
 |p::P,w::vs,i+1,m,nd,h1,h2,hk=>by
  show bindC kindOf ((p,w)::P.zip vs) m x=_
  unfold bindC
  exact jP (i:=i) (List.nodup_cons.mp nd).2 (by simpa using h1) (by simpa using h2) hk
def start (N:List Str) (vs:List V):St:=vs.map some++List.replicate (N.length - vs.length) none
def cxOf (CX:CXT) (P:Program) (w:World) (K:W.Frag) (mg:Str→Option Value) (base:Heap) (N:List Str) (qual:Str) (scope:Scope) (f:Addr) (cd:Value) (A:Around) (outer:List Env) (s:Shared) (H:Hp) (E:XK):Cx where
 prog:=P
 w:=w
 K:=K
 mg:=mg
 base:=base
 A:=A.deeper (envOfC qual scope s.heap.objs.size f cd)
 N:=N
 s₀:=s
 H₀:=H
 env:=envOfC qual scope s.heap.objs.size f cd
 outer:=outer
 stack:=envOfC qual scope s.heap.objs.size f cd::outer
 ex:=[]
 calm:=true
 fn:=fun _=>true
 pn:=[]
 xe:=fun e s'=>wpAny (model P w) (A.deeper (envOfC qual scope s.heap.objs.size f cd)) (leaving (envOfC qual scope s.heap.objs.size f cd) e) (fun _ s''=>CX outer H s E e s'') (fun e' s''=>CX outer H s E e' s'') s'
theorem mm {sc:Scope} {n:Nat} {x:Str} (h:sc.names.lookup x=some .cell):∃c,(cellsFrom n sc.names []).lookup x=some c:=by
 have q:=W.cellsFrom_some sc.names n [] (.inl h)
 exact Option.isSome_iff_exists.mp q
theorem pE {CX:CXT} {P:Program} {w:World} {K:W.Frag} {mg:Str→Option Value} {base:Heap} {N ps:List Str} {qual:Str} {scope:Scope} {f:Addr} {cd:Value} {A:Around} {outer:List Env} {s s1:Shared} {H:Hp} {E:XK} {us:List Value} {vs:List V}
  (S:aB N ps scope) (hd:A.handled=none) (e0:Env0 P w K mg base A outer s H) (hl:vs.length=ps.length) (r:Vals vs us)
  (x:InCallC s s.heap.objs.size (bindL (envOfC qual scope s.heap.objs.size f cd).kindOf (ps.zip us) fun _=>none) (cellsFrom (s.heap.objs.size+1) scope.names []) (bindC (envOfC qual scope s.heap.objs.size f cd).kindOf (ps.zip us) fun _=>none) s1) :
  Inv (cxOf CX P w K mg base N qual scope f cd A outer s H E) [] (start N vs) H s1:=by
 have hpl:ps.length≤N.length:=by have:=congrArg List.length S.pre;rw[List.length_take] at this;omega
 obtain⟨h1,tk,rfl,hk⟩:=x.done
 have noA:∀b:Addr,b∉(cxOf CX P w K mg base N qual scope f cd A outer s H E).ex:=fun b z=>absurd (show b∈([]:List Addr) from z) (by simp)
 refine⟨⟨e0.mod,S.kind,rfl,rfl,Nat.le_refl _,fun y z c h1 h2=>?_,fun y hy=>?_,fun y c _ h=>?_,fun _=>hd,Around.frames_deeper e0.frames,.inr ⟨rfl,rfl⟩,fun b z=>absurd z (noA b),e0.bs,e0.bsz,fun b _ _=>noA b,fun b z=>absurd z (noA b),e0.funs,e0.frf⟩,
  rfl,e0.bare,Un.kept hk,⟨_,x.toInCall.ns,fun i y v h1 h2 h3=>?_⟩,fun y c h=>⟨_,x.cell y c h⟩,e0.hok.fresh (Nat.le_refl _),fun y c h=>?_,fun p hp=>absurd (show p∈([]:List (Addr × Obj)) from hp) (by simp),e0.hok.kept hk,?_⟩
 ·exact name_of_addr x.apart (PySem.mem_of_lookup h1) (PySem.mem_of_lookup h2)
 ·have hy:scope.names.lookup y=some .cell∨scope.names.lookup y=some .free:=hy
  rcases hy with hy|hy
  ·exact mm hy
  ·exact absurd rfl (S.nofree _ (PySem.mem_of_lookup hy))
 ·exact Nat.le_of_lt (x.above y c (PySem.mem_of_lookup h))
 ·have hi:i < vs.length:=by
   unfold start at h2
   by_cases hi:i < vs.length
   ·exact hi
   ·rw[List.getElem?_append_right (by simpa using hi)] at h2
    rw[List.getElem?_replicate] at h2
    split at h2 <;> cases h2
  have ha:vs[i]? = some v:=by
   unfold start at h2
   rw[List.getElem?_append_left (by simpa using hi),List.getElem?_map] at h2
   cases e:vs[i]? with
   |none=>rw[e] at h2;cases h2
   |some a=>rw[e] at h2;cases h2;rfl
  obtain⟨u,hu,rv⟩:=r.get ha
  have hp:ps[i]? = some y:=by
   rw[←S.pre,List.getElem?_take_of_lt (by omega)];exact h1
  have ndP:ps.Nodup:=by rw[←S.pre];exact S.nd.sublist (List.take_sublist _ _)
  refine⟨u,rv,?_⟩
  rcases S.par y (List.mem_of_getElem? hp) with k|k
  ·exact .inl ⟨k,jN ndP hp hu k⟩
  ·obtain⟨c,e⟩:=mm (n:=s.heap.objs.size+1) k
   refine .inr ⟨.inl k,c,e,?_⟩
   have q:=x.cell y c e
   rw[jP ndP hp hu (by show scope.names.lookup y≠_;rw[k];decide)] at q
   exact q
 ·exact e0.hok.fresh (Nat.le_of_lt (x.above y c (PySem.mem_of_lookup h)))
 ·unfold start
  show _=N.length
  rw[List.length_append,List.length_map,List.length_replicate]
  omega
theorem wL {CX:CXT} {P:Program} {w:World} {K:W.Frag} {mg:Str→Option Value} {base:Heap} {k:Nat} {f:Addr} {name qual:Str} {params:Arguments} {body:List Stmt} {scope:Scope} {dV kV doc pm cdv ct oc:Value} {an od:Option Addr}
  {osl:Array (Option Value)} {N ps:List Str} {sp:Sp} (lk:K.lookup f=some ⟨oc,od,.func (W.fnOf name qual params body scope dV kV doc pm an cdv ct),osl⟩) (hcd:W.codeIn K cdv qual=true) (S:aB N ps scope)
  (len:∀vs H Q E,sp vs H Q E→vs.length=ps.length)
  (hbody:∀(A:Around) (outer:List Env) (s:Shared) (H:Hp) (vs:List V) (Q:VK) (E:XK),Room k (A.deeper (envOfC qual scope s.heap.objs.size f cdv))→sp vs H Q E →
   ∃t,PSs (cxOf CX P w K mg base N qual scope f cdv A outer s H E) body t∧t {nx:=fun _ H'=>Q .non H',rt:=Q} (start N vs) H) :
  FnOk P w K mg base CX (k+1) f (W.fnOf name qual params body scope dV kV doc pm an cdv ct) ps sp:=by
 refine⟨len,fun A outer s H args us vs Q E hr e0 hb r hsp=>?_⟩
 have hl:=len _ _ _ _ hsp
 have KX:K.In s.heap:=e0.mod.kin.keeps fun b o e=>(e0.bs b o e).1
 have lim:s.heap.NoLimit:=e0.mod.nolimit.keeps fun b o e=>(e0.bs b o e).1
 have hkind:∀y∈ps.zip us,scope.names.lookup y.1=some .local∨(scope.names.lookup y.1=some .cell∧((cellsFrom (s.heap.objs.size+1) scope.names []).lookup y.1).isSome=true):=fun⟨n,v⟩ hy=>by
  rcases S.par n (List.of_mem_zip hy).1 with q|q
  ·exact .inl q
  ·exact .inr ⟨q,W.cellsFrom_some _ _ _ (.inl q)⟩
 refine codeAny_call_function hr.depth (KX _ _ lk) rfl S.co S.gen rfl (W.codeRec_of KX hcd) (hb _ _ _ _ ?_)
 refine wpAny_newFunctionEnv_cells S.kind hkind fun env he s1 x=>?_
 subst he
 refine⟨lim.keeps x.toInCall.keep,codeAny_func ?_⟩
 obtain⟨t,ht,hq⟩:=hbody A outer s H vs Q E (hr.deeper _) hsp
 have I:Inv (cxOf CX P w K mg base N qual scope f cdv A outer s H E) [] (start N vs) H s1:=pE S hr.hd e0 hl r x
 refine wpAny_mono (ht [] s1 (start N vs) H _ I hq) (fun fl s' hs=>?_) fun e s' hs=>hs
 have fin:∀{σ':St} {H':Hp} {v:V} {u:Value},Inv (cxOf CX P w K mg base N qual scope f cdv A outer s H E) [] σ' H' s'→RelV v u→Q v H'→CE outer P w H s Q u s':=
  fun {σ' H' v u} J rv q=>⟨v,H',J.os,J.bare,J.base,J.hok,rv,q⟩
 cases fl with
 |ret u=>
  obtain⟨v,σ',H',J,rv,q⟩:=hs
  exact fin J rv q
 |next=>
  obtain⟨σ',H',J,q⟩:=hs
  exact fin (v:=V.non) (u:=Value.none) J rfl q
 |brk=>
  obtain⟨_,_,_,q⟩:=hs
  exact False.elim q
 |cont=>
  obtain⟨_,_,_,q⟩:=hs
  exact False.elim q
end L2
namespace L2
open PySem PySem.Spec PyProof.Rows
section
variable {X:Cx} {x:Str} {p pos:Pos} {e:Expr} {es:List Expr} {t:TA} {id T:String} {r:List V→Hp→VK→Prop}
def tCB (r:List V→Hp→VK→Prop) (t:TA):TE:=fun σ H Q=>t σ H fun vs H1=>r vs H1 Q
theorem aC (hc:bZ X (.builtin id) r) (hg:Gl X x) (hm:X.mg x=none) (hv:bootBuiltins x=some (.builtin id)) (ha:PA X (e::es) t) (hn:x≠"__name__":=by decide) (hdb:(x==("__debug__" : Str))=false:=by decide)
  (he:starEach (e::es) X.env=(false,eval e X.env)::starEach es X.env:=by rfl) (hpl:(backTo pos (starEach es X.env)).any (·.1)=false:=by rfl):PE X (.Call (.Name x p) (e::es) [] pos) (tCB r t):=by
 intro pins s σ H Q I h
 refine wpAny_Call_Name_kw (iU I hg hm hv ?_ hn hdb)
 exact PyProof.Rows.callWith_builtin1 (thn (ha pos pins s σ H _ I h) fun us s1 ⟨vs,H1,I1,r1,q1⟩=>hc pins s1 σ H1 vs us Q I1 r1 q1) he hpl
theorem aI (hc:bZ X (.type T) r) (hg:Gl X x) (hm:X.mg x=none) (hv:bootBuiltins x=some (.type T)) (ha:PA X (e::es) t) (hn:x≠"__name__":=by decide) (hdb:(x==("__debug__" : Str))=false:=by decide)
  (he:starEach (e::es) X.env=(false,eval e X.env)::starEach es X.env:=by rfl) (hpl:(backTo pos (starEach es X.env)).any (·.1)=false:=by rfl):PE X (.Call (.Name x p) (e::es) [] pos) (tCB r t):=by
 intro pins s σ H Q I h
 refine wpAny_Call_Name_kw (iU I hg hm hv ?_ hn hdb)
 exact PyProof.Rows.callWith_type1 (thn (ha pos pins s σ H _ I h) fun us s1 ⟨vs,H1,I1,r1,q1⟩=>hc pins s1 σ H1 vs us Q I1 r1 q1) he hpl
end
end L2
namespace HT
open PySem PyProof.Rows
def lexLt:List Int→List Int→Bool
 | [],[]=>false
 | [],_::_=>true
 |_::_,[]=>false
 |x::xs,y::ys=>if x=y then lexLt xs ys else decide (x < y)
theorem lexLt_cons (x y:Int) (xs ys:List Int):lexLt (x::xs) (y::ys)=if x=y then lexLt xs ys else decide (x < y):=rfl
theorem jj:lexLt [] []=false:=rfl
theorem iS (y:Int) (ys:List Int):lexLt [] (y::ys)=true:=rfl
theorem iT (x:Int) (xs:List Int):lexLt (x::xs) []=false:=rfl
theorem rK (A:Around) (s:Shared) (a:Int) (t:Tok) (c:Int) (u:Tok):∃e,SeqAt.EqAt A s (.int a t) (.int c u) e∧(e=true↔a=c):=
 ⟨(a==c),SeqAt.EqAt.int_int a t c u,by simp⟩
theorem qk (A:Around) (s:Shared) (a:Int) (t:Tok) (c:Int) (u:Tok) (prog:Program) (w:World) (E:Value→Shared→Prop) (Q:Value→Shared→Prop) (h:Q (.bool (decide (a < c))) s) :
  wpAny (model prog w) A (richCompare .Lt (.int a t) (.int c u)) Q E s:=
 (PyProof.Rows.lt_int h:wpAny (model prog w) A (compareOp .Lt (.int a t) (.int c u)) Q E s)
section
open PySem.SeqAt
open PySem.AutoSeq1 (wpAny_loadPart')
open PySem.MeetsSeq PySem.MeetsSeq2 PySem.MeetsSeq3
theorem jf (l b:Addr) (items items2:Array Value) (n n2:Nat) (dd dd2:Option Addr) (sl sl2:Array (Option Value)) (ns ms:List Int) (hi:IntsAre items.toList ns) (hj:IntsAre items2.toList ms) :
  Meets (Builtin.«tuple.__lt__» ⟨[.ref l,.ref b],[]⟩)
   (fun _ R s=>s.heap.get? l=some {cls:=.type "tuple",dict:=dd,data:=.seq items n,slots:=sl}∧s.heap.get? b=some {cls:=.type "tuple",dict:=dd2,data:=.seq items2 n2,slots:=sl2} ∧
    R (.ok (.ret (.bool (lexLt ns ms)))) s):=
 .of_wp fun prog w A R s h=>by
  obtain⟨hp,g,d,tk,os⟩:=s;obtain⟨hl,hb,h⟩:=h
  have f2:=AutoSeq1.sub_tuple_tuple
  have z1:items.size=ns.length:=by rw[←hi.length];simp
  have z2:items2.size=ms.length:=by rw[←hj.length];simp
  wp_walk using wpAny_loadPart' hl,wpAny_loadPart' hb,wpAny_forIn_list _ (fun rest b s'=>b.1=none∧s' = ⟨hp,g,d,tk,os⟩∧∃(vs ws:List Value) (ns' ms':List Int),rest=vs.zip ws ∧
   IntsAre vs ns'∧IntsAre ws ms'∧ns'.length+items2.size=ms'.length+items.size∧R (.ok (.ret (.bool (lexLt ns' ms')))) ⟨hp,g,d,tk,os⟩) _
  case turn=>
   rintro⟨y,x⟩ rest b s' ⟨hb',rfl,vs,ws,ns',ms',hz,hvi,hwi,hlen,hR⟩
   cases hvi with
   |nil=>rw[List.zip_nil_left] at hz;cases hz
   |cons a t hvi'=>
    cases hwi with
    |nil=>rw[List.zip_nil_right] at hz;cases hz
    |cons c u hwi'=>
     rw[List.zip_cons_cons] at hz
     injection hz with hyx hrest
     injection hyx with hy hx
     subst hy hx
     rw[lexLt_cons] at hR
     simp only[List.length_cons] at hlen
     obtain⟨e,he,hiff⟩:=rK A.in1 ⟨hp,g,d,tk,os⟩ a t c u
     refine wpAny_bind (he prog w _ _ ?_)
     cases e with
     |true=>
      rw[if_pos (hiff.mp rfl)] at hR
      wp_walk
      exact⟨rfl,rfl,_,_,_,_,hrest,hvi',hwi',by omega,hR⟩
     |false=>
      rw[if_neg (fun q=>absurd (hiff.mpr q) Bool.false_ne_true)] at hR
      have hri:=qk A.in1 ⟨hp,g,d,tk,os⟩ a t c u prog w
      wp_walk using hri
      exact⟨_,rfl,by simpa using hR⟩
  case fin=>
   rintro⟨b1,b2⟩ s' ⟨hb',rfl,vs,ws,ns',ms',hz,hvi,hwi,hlen,hR⟩
   simp only at hb'
   subst hb'
   have hv:lexLt ns' ms' = decide (items.size < items2.size):=by
    cases hvi with
    |nil=>
     cases hwi with
     |nil=>
      simp only[List.length_nil] at hlen
      rw[jj]
      exact (decide_eq_false (by omega)).symm
     |cons c u hw=>
      simp only[List.length_nil,List.length_cons] at hlen
      rw[iS]
      exact (decide_eq_true (by omega)).symm
    |cons a t hv=>
     cases hwi with
     |nil=>
      simp only[List.length_nil,List.length_cons] at hlen
      rw[iT]
      exact (decide_eq_false (by omega)).symm
     |cons c u hw=>
      rw[List.zip_cons_cons] at hz
      cases hz
   rw[hv] at hR
   wp_walk
   exact⟨_,rfl,by simpa [Builtin.Tuple.tupleCompareSizes] using hR⟩
  case h=>
   exact⟨rfl,rfl,items.toList,items2.toList,ns,ms,rfl,hi,hj,by omega,h⟩
end
section
variable {prog:Program} {w:World} {A:Around} {E:Value→Shared→Prop} {s:Shared}
theorem lt_tupInts {l b:Addr} {items items2:Array Value} {ns ms:List Int} {Q:Value→Shared→Prop} (hl:IsTup s.heap l items) (hb:IsTup s.heap b items2) (hi:IntsAre items.toList ns) (hj:IntsAre items2.toList ms)
  (hu:A.units < cLine) (h:Q (.bool (lexLt ns ms)) s):wpAny (model prog w) A (compareOp .Lt (.ref l) (.ref b)) Q E s:=by
 obtain⟨⟨cls,dd,data,sl⟩,ho,hc,n,hd⟩:=id hl
 obtain⟨⟨cls2,dd2,data2,sl2⟩,ho2,hc2,n2,hd2⟩:=id hb
 simp only at hc hd hc2 hd2
 subst hc hd hc2 hd2
 exact richCompare_meets_room (op:=.Lt) ⟨_,ho,rfl⟩ ⟨_,ho2,rfl⟩ PySem.F.slot_tuple_lt PySem.F.entry_tuple_lt (PySem.F.args_tuple_lt_2 _ _) (jf l b items items2 n n2 dd dd2 sl sl2 ns ms hi hj)
  ⟨ho,ho2,show Value.bool (lexLt ns ms)≠Value.notImplemented∧Q (.bool (lexLt ns ms)) s from ⟨(fun x=>nomatch x),h⟩⟩ hu
theorem cat_tup {t b:Addr} {vs ws:List Value} {Q:Value→Shared→Prop} (ht:IsTup s.heap t vs.toArray) (hb:IsTup s.heap b ws.toArray) (hv:vs≠[])
  (h1:ws=[]→Q (.ref t) s) (h2:ws≠[]→Q (.ref s.heap.objs.size) {s with heap:=s.heap.push {cls:=.type "tuple",data:=.seq (vs++ws).toArray}})
  (hsz:vs.length+ws.length≤sizeLine):wpAny (model prog w) A (binaryOp .Add (.ref t) (.ref b)) Q E s:=by
 obtain⟨⟨cls,dd,data,sl⟩,ho,hc,n,hd⟩:=id ht
 obtain⟨⟨cls2,dd2,data2,sl2⟩,ho2,hc2,n2,hd2⟩:=id hb
 simp only at hc hd hc2 hd2
 subst hc hd hc2 hd2
 have e:vs.toArray++ws.toArray=(vs++ws).toArray:=by simp
 by_cases hw:ws=[]
 ·exact concat_meets ⟨_,ho,rfl⟩ ⟨_,ho2,rfl⟩ noFill_tuple_add seq_tuple_add PySem.F.slot_tuple_add PySem.F.entry_tuple_add (PySem.F.args_tuple_add_2 _ _)
   (tuple_addW1 t b vs.toArray ws.toArray n n2 dd dd2 sl sl2 (by simpa using hv) (by simp[hw])) ⟨ho,ho2,h1 hw⟩
 ·refine concat_meets ⟨_,ho,rfl⟩ ⟨_,ho2,rfl⟩ noFill_tuple_add seq_tuple_add PySem.F.slot_tuple_add PySem.F.entry_tuple_add (PySem.F.args_tuple_add_2 _ _)
   (tuple_addW2 t b vs.toArray ws.toArray n n2 dd dd2 sl sl2 (by simpa using hv) (by simpa using hw) (by rw[List.size_toArray,List.size_toArray];exact hsz)) ⟨ho,ho2,?_⟩
  rw[e]
  exact h2 hw
def sIx (n d:Nat):Option Int→Nat
 |none=>d
 |some v=>if v < 0 then (v+(n:Int)).toNat else min v.toNat n
theorem sIx_none (n d:Nat):sIx n d none=d:=rfl
theorem sIx_nat (n d k:Nat):sIx n d (some (k:Int))=min k n:=by
 show (if (k:Int) < 0 then ((k:Int)+(n:Int)).toNat else min (k:Int).toNat n)=min k n
 rw[if_neg (by omega),Int.toNat_natCast]
theorem u9 (n d:Nat) (hd:d≤n) (o:Option Int):sIx n d o≤n:=by
 cases o with
 |none=>exact hd
 |some v=>
  show (if v < 0 then (v+(n:Int)).toNat else min v.toNat n)≤n
  by_cases hv:v < 0
  ·rw[if_pos hv];omega
  ·rw[if_neg hv];exact Nat.min_le_right _ _
theorem oG (v:Int) (n d:Nat):(if v < 0 then max (v+(n:Int)) 0 else min v (n:Int))=((sIx n d (some v):Nat):Int):=by
 show (if v < 0 then max (v+(n:Int)) 0 else min v (n:Int))=(((if v < 0 then (v+(n:Int)).toNat else min v.toNat n):Nat):Int)
 by_cases hv:v < 0
 ·simp only[if_pos hv];omega
 ·simp only[if_neg hv];omega
theorem nM (lo hi:Option Int) (n:Nat):Builtin.Slice.sliceAdjust lo hi 1 (n:Int)=(((sIx n 0 lo:Nat):Int),((sIx n n hi:Nat):Int)):=by
 have h1:¬((1:Int) < 0):=by omega
 unfold Builtin.Slice.sliceAdjust
 simp only[h1,if_false]
 refine Prod.ext ?_ ?_
 ·cases lo with
  |none=>rfl
  |some v=>exact oG v n 0
 ·cases hi with
  |none=>rfl
  |some v=>exact oG v n n
theorem m6 (i j:Nat):Builtin.Slice.slicePlaces (i:Int) (j:Int) 1=j - i:=by
 unfold Builtin.Slice.slicePlaces
 have h1:(1:Int) > 0:=by omega
 simp only[h1,if_true,Int.ediv_one]
 split <;> omega
theorem iD {v:Value} {o:Option Int} {Q:Option Int→Shared→Prop} (p:IsPart v o) (h:Q o s):wpAny (model prog w) A (Builtin.Slice.slicePartIndex v) Q E s:=by
 cases p with
 |none=>exact slicePart_none h
 |int i t=>exact slicePart_int h
theorem dN {sl:Addr} {vl vu:Value} {lo hi:Option Int} {n:Nat} {Q:Int × Int × Nat→Shared→Prop} (hs:s.heap.IsSliceOf sl vl vu .none) (pl:IsPart vl lo) (pu:IsPart vu hi)
  (h:Q (((sIx n 0 lo:Nat):Int),1,sIx n n hi - sIx n 0 lo) s):wpAny (model prog w) A (Builtin.Slice.sliceApplied (.ref sl) (pure (n:Int))) Q E s:=by
 obtain⟨os,hos,hcs,hds⟩:=id hs
 unfold Builtin.Slice.sliceApplied Builtin.Slice.sliceFields
 refine wpAny_bind (wpAny_bind (wpAny_field hos hds (x:=vl) rfl (wpAny_bind (wpAny_field hos hds (x:=vu) rfl (wpAny_bind (wpAny_field hos hds (x:=.none) rfl (wpAny_pure ?_)))))))
 refine wpAny_bind (slicePart_none ?_)
 show wpAny _ _ (if ((1:Int)==0)=true then _ else _) _ _ s
 rw[if_neg (by decide)]
 refine wpAny_bind (iD pl (wpAny_bind (iD pu (wpAny_bind (wpAny_pure ?_)))))
 show wpAny _ _ (match Builtin.Slice.sliceAdjust lo hi 1 (n:Int) with|(lo,hi)=>pure (lo,(1:Int),Builtin.Slice.slicePlaces lo hi 1)) _ _ s
 rw[nM lo hi n]
 show wpAny _ _ (pure (((sIx n 0 lo:Nat):Int),(1:Int),Builtin.Slice.slicePlaces ((sIx n 0 lo:Nat):Int) ((sIx n n hi:Nat):Int) 1)) _ _ s
 rw[m6]
 exact wpAny_pure h
theorem qv (xs:Array Value) (i k:Nat):((List.range k).filterMap fun (m:Nat)=>xs[((i:Int)+(m:Int) * 1).toNat]?).toArray=((xs.toList.drop i).take k).toArray:=by
 have e:(fun (m:Nat)=>xs[((i:Int)+(m:Int) * 1).toNat]?)=fun m=>xs[i+m]?:=by
  funext m
  have:((i:Int)+(m:Int) * 1).toNat=i+m:=by omega
  rw[this]
 rw[e]
 have:=pick_run xs i k
 rw[List.filterMap_map] at this
 have e2:((fun x=>xs[x]?) ∘ fun x=>i+x)=fun m=>xs[i+m]?:=rfl
 rw[e2] at this
 rw[this]
theorem getItem_tuple_cut {t sl:Addr} {items:Array Value} {vl vu:Value} {lo hi:Option Int} {Q:Value→Shared→Prop} (ht:IsTup s.heap t items) (hs:s.heap.IsSliceOf sl vl vu .none) (pl:IsPart vl lo) (pu:IsPart vu hi)
  (hw:¬(sIx items.size 0 lo=0∧sIx items.size items.size hi=items.size))
  (h:Q (.ref s.heap.objs.size) {s with heap:=s.heap.push {cls:=.type "tuple",data:=.seq ((items.toList.drop (sIx items.size 0 lo)).take (sIx items.size items.size hi - sIx items.size 0 lo)).toArray}})
  (hsz:items.size≤sizeLine):wpAny (model prog w) A (getItem (.ref t) (.ref sl)) Q E s:=by
 have htake:sizeOk (.seq ((items.toList.drop (sIx items.size 0 lo)).take (sIx items.size items.size hi - sIx items.size 0 lo)).toArray):=by
  show ((items.toList.drop (sIx items.size 0 lo)).take (sIx items.size items.size hi - sIx items.size 0 lo)).toArray.size≤sizeLine
  rw[List.size_toArray,List.length_take,List.length_drop,Array.length_toList]
  omega
 have hj:sIx items.size items.size hi≤items.size:=u9 _ _ (Nat.le_refl _) hi
 obtain⟨os,hos,hcs,hds⟩:=id hs
 have hTs:s.TypeIs (.ref sl) "slice":=⟨os,hos,hcs⟩
 unfold getItem
 try with_reducible refine wpAny_holding ?_
 first|refine wpAny_bind (wpAny_pure ?_)|skip
 refine wpAny_bind (wpAny_sequenceKey ht.typeIs (by decide) ?_)
 refine wpAny_bind (wpAny_callSpecial?_slot (name:=Str.ofString "__getitem__") ht.typeIs PyProof.Rows.slot_tuple_getitem
  (wpAny_call_entry PyProof.Rows.slot_tuple_getitem ht.typeIs entry_tuple_getitem ?_ (args_tuple_getitem _ _)))
 show wpAny _ _ (Builtin.Tuple.tupleItemsOf (.ref t) >>= _) _ _ s
 refine wpAny_bind (tupleItemsOf_ ht ?_)
 refine wpAny_bind (wpAny_typeOf hTs ?_)
 rw[if_pos (by decide)]
 refine wpAny_bind (dN hs pl pu ?_)
 have hno:¬((((sIx items.size 0 lo:Nat):Int)==0&&(1:Int)==1&&(sIx items.size items.size hi - sIx items.size 0 lo)==items.size)=true):=by
  intro q
  rw[Bool.and_eq_true,Bool.and_eq_true] at q
  have q1:((sIx items.size 0 lo:Nat):Int)=0:=eq_of_beq q.1.1
  have q2:sIx items.size items.size hi - sIx items.size 0 lo=items.size:=eq_of_beq q.2
  exact hw ⟨by omega,by omega⟩
 show wpAny _ _ (if (((sIx items.size 0 lo:Nat):Int)==0&&(1:Int)==1&&(sIx items.size items.size hi - sIx items.size 0 lo)==items.size)=true then _ else _) _ _ s
 rw[if_neg hno,qv]
 first
  |exact wpAny_bind (m:=Builtin.Tuple.tupleExact _) (wpAny_newObj_type (wpAny_pure ⟨_,rfl,wpAny_pure h⟩) htake)
  |exact wpAny_bind (m:=Builtin.Tuple.tupleExact _) (wpAny_newObj_type (wpAny_bind (wpAny_pure (wpAny_pure ⟨_,rfl,wpAny_pure h⟩))) htake)
  |exact wpAny_bind (wpAny_bind (m:=Builtin.Tuple.tupleExact _) (wpAny_newObj_type (wpAny_pure (wpAny_pure ⟨_,rfl,wpAny_pure h⟩)) htake))
  |exact wpAny_bind (wpAny_bind (m:=Builtin.Tuple.tupleExact _) (wpAny_newObj_type (wpAny_pure ⟨_,rfl,wpAny_pure h⟩) htake))
end
end HT
namespace L2
open PySem PySem.Spec PyProof.Rows
abbrev TO:=St→Hp→(Option Int→Hp→Prop)→Prop
def PO (X:Cx) (e:Option Expr) (t:TO):Prop:=
 ∀(pins:List (Addr × Obj)) (s:Shared) (σ:St) (H:Hp) (Q:Option Int→Hp→Prop),Inv X pins σ H s→t σ H Q →
  wpAny (model X.prog X.w) X.A (evalPart e X.env) (fun u s'=>∃o H',Inv X pins σ H' s'∧IsPart u o∧Q o H') X.xe s
def sU:TO:=fun _ H Q=>Q none H
def we (t:TE):TO:=fun σ H Q=>t σ H fun x H1=>∃i,x=.int i∧Q (some i) H1
theorem er {ns:List Int}:∀{us:List Value},Vals (ns.map V.int) us→IntsAre us ns:=by
 induction ns with
 |nil=>intro us r;rw[List.map_nil] at r;cases r;exact .nil
 |cons n ns ih=>
  intro us r
  rw[List.map_cons] at r
  cases r with
  |cons r1 r2=>
   obtain⟨t,e⟩:=r1
   subst e
   exact .cons n t (ih r2)
section
variable {X:Cx} {e:Expr} {te:TE} {lo hi:Option Expr} {tl th:TO} {pos p2:Pos}
theorem ic:PO X none sU:=by
 intro pins s σ H Q I h
 rw[evalPart_none]
 exact wpAny_pure ⟨none,H,I,.none,h⟩
theorem ib (h:PE X e te):PO X (some e) (we te):=by
 intro pins s σ H Q I hw
 rw[evalPart_some]
 refine thn (h pins s σ H _ I hw) fun u s1 ⟨x,H1,I1,r1,q1⟩=>?_
 obtain⟨i,rfl,q⟩:=q1
 obtain⟨t,rfl⟩:=r1
 exact⟨some i,H1,I1,.int i t,q⟩
def SlR (X:Cx) (r:V→Option Int→Option Int→Hp→VK→Prop):Prop:=
 ∀(pins:List (Addr × Obj)) (s:Shared) (σ:St) (H:Hp) (x:V) (v vl vu:Value) (lo hi:Option Int) (sl:Addr) (Q:VK),Inv X pins σ H s→RelV x v→s.heap.IsSliceOf sl vl vu .none→IsPart vl lo→IsPart vu hi→r x lo hi H Q →
  ∃T id,typeLookup (.type T) "__getitem__" = pure (some (.builtin id))∧s.TypeIs v T∧wpAny (model X.prog X.w) X.A (getItem v (.ref sl)) (EP X pins σ Q) X.xe s
def tSl (r:V→Option Int→Option Int→Hp→VK→Prop) (te:TE) (tl th:TO):TE:=fun σ H Q=>te σ H fun x H1=>tl σ H1 fun l H2=>th σ H2 fun u H3=>r x l u H3 Q
theorem fR {r:V→Option Int→Option Int→Hp→VK→Prop} (hr:SlR X r) (he:PE X e te) (hl:PO X lo tl) (hu:PO X hi th):PE X (.Subscript e (.Slice lo hi none p2) pos) (tSl r te tl th):=by
 intro pins s σ H Q I h
 refine Subscript_ (thn (he pins s σ H _ I h) fun v s1 ⟨x,H1,I1,r1,q1⟩=>?_)
 refine wpAny_Slice (thn (hl pins s1 σ H1 _ I1 q1) fun vl s2 ⟨l,H2,I2,pl,q2⟩=>thn (hu pins s2 σ H2 _ I2 q2) fun vu s3 ⟨u,H3,I3,pu,q3⟩=>?_)
 rw[evalPart_none]
 refine wpAny_pure ?_
 have I4:Inv X pins σ H3 {s3 with heap:=s3.heap.push {cls:=.type "slice",data:=.fields #[vl,vu,.none]}}:=I3.kept (t':=s3.toks) fun b ob q=>Heap.get?_push_of_some _ q
 obtain⟨T,id,hT,ht,hg⟩:=hr pins {s3 with heap:=s3.heap.push {cls:=.type "slice",data:=.fields #[vl,vu,.none]}} σ H3 x v vl vu l u s3.heap.objs.size Q I4 r1 (Heap.IsSliceOf.new ..) pl pu q3
 show wpAny (model X.prog X.w) X.A (subscriptTail e (.Slice lo hi none p2) v (.ref s3.heap.objs.size)) (EP X pins σ Q) X.xe {s3 with heap:=s3.heap.push {cls:=.type "slice",data:=.fields #[vl,vu,.none]}}
 exact tail_any (ops:=[.ref s3.heap.objs.size,v]) ht hT hg (by with_unfolding_all rfl)
def cutV (xs:List V) (lo hi:Option Int):List V:=(xs.drop (HT.sIx xs.length 0 lo)).take (HT.sIx xs.length xs.length hi - HT.sIx xs.length 0 lo)
theorem gU (xs:List V) (lo hi:Option Int):(cutV xs lo hi).length≤xs.length:=by
 unfold cutV
 rw[List.length_take,List.length_drop]
 omega
def rSlT (K:W.Frag):V→Option Int→Option Int→Hp→VK→Prop:=fun x lo hi H Q=>∃a xs,x=.ref a∧SqT K H a xs ∧
 ¬(HT.sIx xs.length 0 lo=0∧HT.sIx xs.length xs.length hi=xs.length)∧∀p,H p=none→Q (.ref p) (upd H p (.tup (cutV xs lo hi)))
theorem u6:SlR X (rSlT X.K):=by
 intro pins s σ H x v vl vu lo hi sl Q I rx hs pl pu h
 obtain⟨a,xs,rfl,hx,hw,q⟩:=h
 cases rx
 obtain⟨its,r,ht,hz⟩:=I.tuple hx
 have hlen:its.toArray.size=xs.length:=by rw[List.size_toArray];exact r.length.symm
 refine⟨"tuple",_,PyProof.Rows.slot_tuple_getitem.lookup,ht.typeIs,?_⟩
 refine HT.getItem_tuple_cut ht hs pl pu (by rw[hlen];exact hw) ?_ (by rw[hlen];exact hz)
 rw[hlen]
 refine⟨.ref s.heap.objs.size,_,I.laid (t':=s.toks) (o:=.tup (cutV xs lo hi)) (fun b ob q=>Heap.get?_push_of_some _ q) (Nat.le_refl _) ?_,rfl,q _ (I.hok.fresh (Nat.le_refl _))⟩
 exact⟨⟨Nat.le_trans (gU xs lo hi) hz,_,Heap.get?_push_size _ rfl,rfl⟩,_,(r.drop (HT.sIx xs.length 0 lo)).take (HT.sIx xs.length xs.length hi - HT.sIx xs.length 0 lo),IsTup.new _ _⟩
def wz (K:W.Frag):R2:=fun x y H Q=>∃a b xs ys,x=.ref a∧y=.ref b∧SqT K H a xs∧SqT K H b ys∧xs≠[]∧xs.length+ys.length≤sizeLine ∧
 (ys=[]→Q (.ref a) H)∧(ys≠[]→∀p,H p=none→Q (.ref p) (upd H p (.tup (xs++ys))))
theorem Vals.nil_iff {xs:List V} {us:List Value} (r:Vals xs us):us=[]↔xs=[]:=by
 cases r with
 |nil=>simp
 |cons _ _=>simp
theorem tQ:OpR X (binaryOp .Add) (wz X.K):=by
 intro pins s σ H x y v u Q I rx ry h
 obtain⟨a,b,xs,ys,rfl,rfl,ha,hb,hx,hz,q1,q2⟩:=h
 cases rx
 cases ry
 obtain⟨its,r1,p1,_⟩:=I.tuple ha
 obtain⟨its2,r2,p2,_⟩:=I.tuple hb
 refine HT.cat_tup p1 p2 (fun z=>hx (r1.nil_iff.mp z)) (fun z=>⟨.ref a,H,I,rfl,q1 (r2.nil_iff.mp z)⟩) (fun z=>?_) (by rw[←r1.length,←r2.length];exact hz)
 refine⟨.ref s.heap.objs.size,_,I.laid (t':=s.toks) (o:=.tup (xs++ys)) (fun b ob q=>Heap.get?_push_of_some _ q) (Nat.le_refl _) ?_,rfl,q2 (fun w=>z (r2.nil_iff.mpr w)) _ (I.hok.fresh (Nat.le_refl _))⟩
 exact⟨⟨by rw[List.length_append];exact hz,_,Heap.get?_push_size _ rfl,rfl⟩,_,r1.append r2,IsTup.new _ _⟩
end
end L2
namespace L2
open PySem PySem.Spec PyProof.Rows
def ixN (n:Nat) (i:Int):Option Nat:=if 0≤i then (if i < n then some i.toNat else none) else if -(n:Int)≤i then some (i+n).toNat else none
def atI {α:Type} (xs:List α) (i:Int):Option α:=(ixN xs.length i).bind fun j=>xs[j]?
theorem kP {n:Nat} {i:Int} {j:Nat} (h:ixN n i=some j):seqIndex? i n=some j∧j < n∧-(n:Int)≤i∧i < n:=by
 unfold ixN at h
 by_cases h0:0≤i
 ·rw[if_pos h0] at h
  by_cases h1:i < n
  ·rw[if_pos h1] at h
   have e:i.toNat=j:=Option.some.inj h
   exact⟨by rw[seqIndex_of h0 h1,e],by omega,by omega,h1⟩
  ·rw[if_neg h1] at h;cases h
 ·rw[if_neg h0] at h
  by_cases h1:-(n:Int)≤i
  ·rw[if_pos h1] at h
   have e:(i+n).toNat=j:=Option.some.inj h
   exact⟨by rw[seqIndex_neg (by omega) h1,e],by omega,h1,by omega⟩
  ·rw[if_neg h1] at h;cases h
theorem oM {α:Type} {xs:List α} {i:Int} {v:α} (h:atI xs i=some v):∃j,seqIndex? i xs.length=some j∧xs[j]? = some v∧j < xs.length∧-(xs.length:Int)≤i∧i < xs.length:=by
 unfold atI at h
 cases e:ixN xs.length i with
 |none=>rw[e] at h;cases h
 |some j=>
  rw[e] at h
  obtain⟨h1,h2,h3,h4⟩:=kP e
  exact⟨j,h1,h,h2,h3,h4⟩
theorem bY {α:Type} {xs:List α} {j:Nat} {v:α} (h:xs[j]? = some v):atI xs (j:Int)=some v:=by
 have hj:j < xs.length:=(List.getElem?_eq_some_iff.mp h).1
 have e:ixN xs.length (j:Int)=some j:=by
  unfold ixN
  rw[if_pos (by omega),if_pos (by omega)];simp
 unfold atI;rw[e];exact h
def uy (b:Expr):Prop:=∀o i,subscripted b false o i=operate [o,i] (getItem o i)
def IxR (X:Cx) (r:R2):Prop:=
 ∀(value slice:Expr) (pins:List (Addr × Obj)) (s:Shared) (σ:St) (H:Hp) (x y:V) (v u:Value) (Q:VK),Inv X pins σ H s→RelV x v→RelV y u→r x y H Q →
  subscripted slice false v u=operate [v,u] (getItem v u)→wpAny (model X.prog X.w) X.A (subscriptTail value slice v u) (EP X pins σ Q) X.xe s
def MtR (X:Cx) (id:String) (r:V→List V→Hp→VK→Prop):Prop:=
 ∀(pins:List (Addr × Obj)) (s:Shared) (σ:St) (H:Hp) (x:V) (xs:List V) (v:Value) (us:List Value) (Q:VK),Inv X pins σ H s→RelV x v→Vals xs us→r x xs H Q →
  wpAny (model X.prog X.w) X.A (call (.builtin id) (v::us)) (EP X pins σ Q) X.xe s
section
variable {X:Cx} {a b:Expr} {ta tb:TE} {pos:Pos}
theorem cq {r:R2} (hr:IxR X r) (ha:PE X a ta) (hb:PE X b tb) (hs:uy b):PE X (.Subscript a b pos) (tOp r ta tb):=by
 intro pins s σ H Q I h
 exact Subscript_ (binT ha hb I h fun v u s2 x y H2 I2 rx ry q=>hr a b pins s2 σ H2 x y v u Q I2 rx ry q (hs _ _))
def rIxL (K:W.Frag):R2:=fun x y H Q=>∃p xs i v,x=.ref p∧y=.int i∧SqL K H p xs∧atI xs i=some v∧Q v H
def rIxT (K:W.Frag):R2:=fun x y H Q=>∃p xs i v,x=.ref p∧y=.int i∧SqT K H p xs∧atI xs i=some v∧Q v H
theorem aW:IxR X (rIxL X.K):=by
 intro value slice pins s σ H x y v u Q I rx ry h hs
 obtain⟨p,xs,i,z,rfl,rfl,hq,he,q⟩:=h
 cases rx
 obtain⟨t,rfl⟩:=ry
 obtain⟨its,r,pl,hz⟩:=I.list hq
 obtain⟨j,h1,h2,h3,h4,h5⟩:=oM he
 obtain⟨w,ew,rw'⟩:=r.get h2
 have hl:=r.length
 have hn:=line63
 have fin:EP X pins σ Q w s:=⟨z,H,I,rw',q⟩
 by_cases h0:0≤i
 ·have hj:i.toNat=j:=by
   rw[seqIndex_of h0 h5] at h1
   exact Option.some.inj h1
  exact item_listR pl.isList h0 (by omega) (by rw[hj];simpa using ew) fin hs
 ·have hj:(i+(its.toArray.size:Int)).toNat=j:=by
   rw[seqIndex_neg (by omega) h4] at h1
   rw[List.size_toArray,←hl]
   exact Option.some.inj h1
  exact subscriptTail_builtinR (x:=w) pl.isList.typeIs slot_list_getitem.lookup
   (wpAny_getItem_list_neg (Q:=fun r s'=>r=w∧EP X pins σ Q r s') pl.isList (by omega) (by rw[List.size_toArray] <;> omega) (by omega) (by rw[hj];simpa using ew) ⟨rfl,fin⟩) hs
theorem vQ:IxR X (rIxT X.K):=by
 intro value slice pins s σ H x y v u Q I rx ry h hs
 obtain⟨p,xs,i,z,rfl,rfl,hq,he,q⟩:=h
 cases rx
 obtain⟨t,rfl⟩:=ry
 obtain⟨its,r,pl,hz⟩:=I.tuple hq
 obtain⟨j,h1,h2,h3,h4,h5⟩:=oM he
 obtain⟨w,ew,rw'⟩:=r.get h2
 have hl:=r.length
 have hn:=line63
 have fin:EP X pins σ Q w s:=⟨z,H,I,rw',q⟩
 exact subscriptTail_builtinR (x:=w) pl.typeIs slot_tuple_getitem.lookup
  (getItem_tuple (j:=j) (Q:=fun r s'=>r=w∧EP X pins σ Q r s') pl (by omega) (by omega) (by rw[List.size_toArray,←hl];exact h1) (by simpa using ew) ⟨rfl,fin⟩) hs
theorem nz (its:List Value) (n j:Nat) (u:Value):Obj.mapSeq (·.setIfInBounds j u) {cls:=.type "list",data:=.seq its.toArray n}={cls:=.type "list",data:=.seq (its.set j u).toArray n}:=by
 simp[Obj.mapSeq]
theorem Inv.lst {pins:List (Addr × Obj)} {σ:St} {H:Hp} {s:Shared} {p:Addr} {xs:List V} (I:Inv X pins σ H s) (h:H p=some (.lst xs)) :
  ∃(its:List Value) (n:Nat),Vals xs its∧s.heap.get? p=some {cls:=.type "list",data:=.seq its.toArray n}∧xs.length≤sizeLine:=by
 obtain⟨z,its,n,r,e⟩:=I.hok p _ h
 exact⟨its,n,r,e,z⟩
theorem Inv.lstUpd {pins:List (Addr × Obj)} {σ:St} {H:Hp} {s:Shared} {p:Addr} {xs ys:List V} {its its':List Value} {n n':Nat} {f:Obj→Obj} (I:Inv X pins σ H s) (h:H p=some (.lst xs))
  (ho:s.heap.get? p=some {cls:=.type "list",data:=.seq its.toArray n}) (hf:f {cls:=.type "list",data:=.seq its.toArray n}={cls:=.type "list",data:=.seq its'.toArray n'}) (r:Vals ys its') (hz:ys.length≤sizeLine) (t:Nat) :
  Inv X pins σ (upd H p (.lst ys)) {s with heap:=s.heap.update p f,toks:=t}:=by
 have e:(s.heap.update p f).get? p=some {cls:=.type "list",data:=.seq its'.toArray n'}:=by
  rw[Heap.get?_update_self f ho (by rw[hf] <;> rfl),hf]
 refine I.write (x:=p) (e:=p) (by rw[h];trivial) (.inl rfl) (fun b u hb q=>(Heap.get?_update_other _ _ (Ne.symm hb)).trans q) ⟨_,e⟩ ?_
 exact⟨hz,its',n',r,e⟩
def wu:V→V→V→Hp→(Hp→Prop)→Prop:=fun o i v H Q=>∃p xs k j,o=.ref p∧i=.int k∧H p=some (.lst xs)∧ixN xs.length k=some j∧Q (upd H p (.lst (xs.set j v)))
theorem iE:PSet X wu:=by
 intro pins s σ H o i v ov iv u Q I ro ri rv h
 obtain⟨p,xs,k,j,rfl,rfl,hp,hj,q⟩:=h
 cases ro
 obtain⟨t,rfl⟩:=ri
 obtain⟨its,n,r,ho,hz⟩:=I.lst hp
 obtain⟨h1,h2,h3,h4⟩:=kP hj
 have hl:=r.length
 have hn:=line63
 have I':Inv X pins σ (upd H p (.lst (xs.set j v))) {s with heap:=s.heap.update p (Obj.mapSeq (·.setIfInBounds j u))}:=
  I.lstUpd hp ho (nz its n j u) (r.set rv j) (by rw[List.length_set];exact hz) s.toks
 by_cases h0:0≤k
 ·have hk:k.toNat=j:=by
   rw[seqIndex_of h0 h4] at h1
   exact Option.some.inj h1
  exact W.ki_setAt ho h0 (by omega) (by rw[List.size_toArray,←hl];exact h4) (by rw[hk];exact⟨_,I',q⟩)
 ·have hk:(k+(its.toArray.size:Int)).toNat=j:=by
   rw[seqIndex_neg (by omega) h3] at h1
   rw[List.size_toArray,←hl]
   exact Option.some.inj h1
  exact W.ki_setBack ho (by omega) (by rw[List.size_toArray,←hl];exact h3) (by omega) (by rw[hk];exact⟨_,I',q⟩)
theorem ke (lo hi:Option Int) (n:Nat):(sliceBounds lo hi none n).1=((HT.sIx n 0 lo:Nat):Int)∧(sliceBounds lo hi none n).2.1=((HT.sIx n n hi:Nat):Int)∧(sliceBounds lo hi none n).2.2=1:=by
 refine⟨?_,?_,rfl⟩
 ·cases lo with
  |none=>simp[sliceBounds,HT.sIx]
  |some i=>
   simp only[sliceBounds,HT.sIx,Option.getD_none,show (1:Int) > 0 by decide,if_true]
   by_cases h:i < 0
   ·simp only[h,if_true] <;> omega
   ·simp only[h,if_false] <;> omega
 ·cases hi with
  |none=>simp[sliceBounds,HT.sIx]
  |some i=>
   simp only[sliceBounds,HT.sIx,Option.getD_none,show (1:Int) > 0 by decide,if_true]
   by_cases h:i < 0
   ·simp only[h,if_true] <;> omega
   ·simp only[h,if_false] <;> omega
theorem jg (its:List Value) (lo hi:Option Int):slicePick its.toArray lo hi none=((its.drop (HT.sIx its.length 0 lo)).take (HT.sIx its.length its.length hi - HT.sIx its.length 0 lo)).toArray:=by
 obtain⟨h1,h2,h3⟩:=ke lo hi its.toArray.size
 unfold slicePick
 rw[h1,h2,h3]
 simp only[sliceRange_one,pick_run,List.size_toArray] <;> rfl
def rSlL (K:W.Frag):V→Option Int→Option Int→Hp→VK→Prop:=fun x lo hi H Q=>∃a xs,x=.ref a∧SqL K H a xs∧∀p,H p=none→Q (.ref p) (upd H p (.lst (cutV xs lo hi)))
theorem nX:SlR X (rSlL X.K):=by
 intro pins s σ H x v vl vu lo hi sl Q I rx hs pl pu h
 obtain⟨a,xs,rfl,hx,q⟩:=h
 cases rx
 obtain⟨its,r,ht,hz⟩:=I.list hx
 have hlen:=r.length
 refine⟨"list",_,slot_list_getitem.lookup,ht.isList.typeIs,?_⟩
 refine wpAny_getItem_list_slice ht.isList hs pl pu .none (by simp) ?_ (by rw[List.size_toArray] <;> omega)
 rw[jg,←hlen]
 refine⟨.ref s.heap.objs.size,_,I.laid (t':=s.toks) (o:=.lst (cutV xs lo hi)) (fun b ob q=>Heap.get?_push_of_some _ q) (Nat.le_refl _) ?_,rfl,q _ (I.hok.fresh (Nat.le_refl _))⟩
 exact⟨Nat.le_trans (gU xs lo hi) hz,_,0,(r.drop (HT.sIx xs.length 0 lo)).take (HT.sIx xs.length xs.length hi - HT.sIx xs.length 0 lo),Heap.get?_push_size _ rfl⟩
def fW:V→Bool
 | .non=>true
 | .bl _=>true
 | .int _=>true
 | .str _=>true
 |_=>false
def eqV:V→V→Bool
 | .non,.non=>true
 | .bl a,.bl b=>a==b
 | .bl a,.int b=>(if a then 1 else 0)==b
 | .int a,.bl b=>a==(if b then 1 else 0)
 | .int a,.int b=>a==b
 | .str a,.str b=>a==b
 |_,_=>false
theorem vW {A:Around} {s:Shared} {y x:V} {u v:Value} (ry:RelV y u) (rx:RelV x v) (fy:fW y=true) (fx:fW x=true):SeqAt.EqAt A s u v (eqV y x):=by
 cases y with
 |non=>
  cases ry
  cases x with
  |non=>cases rx;exact SeqAt.EqAt.same _
  |bl b=>cases rx;exact SeqAt.EqAt.none_bool b
  |int b=>obtain⟨t,rfl⟩:=rx;exact SeqAt.EqAt.none_int b t
  |str b=>obtain⟨t,rfl⟩:=rx;exact SeqAt.EqAt.none_str b t
  |_=>exact absurd (show false=true from fx) Bool.false_ne_true
 |bl a=>
  cases ry
  cases x with
  |non=>cases rx;exact SeqAt.EqAt.bool_none a
  |bl b=>cases rx;exact SeqAt.EqAt.bool_bool a b
  |int b=>obtain⟨t,rfl⟩:=rx;exact SeqAt.EqAt.bool_int a b t
  |str b=>obtain⟨t,rfl⟩:=rx;exact SeqAt.EqAt.bool_str a b t
  |_=>exact absurd (show false=true from fx) Bool.false_ne_true
 |int a=>
  obtain⟨t',rfl⟩:=ry
  cases x with
  |non=>cases rx;exact SeqAt.EqAt.int_none a t'
  |bl b=>cases rx;exact SeqAt.EqAt.int_bool a t' b
  |int b=>obtain⟨t,rfl⟩:=rx;exact SeqAt.EqAt.int_int a t' b t
  |str b=>obtain⟨t,rfl⟩:=rx;exact SeqAt.EqAt.int_str a t' b t
  |_=>exact absurd (show false=true from fx) Bool.false_ne_true
 |str a=>
  obtain⟨t',rfl⟩:=ry
  cases x with
  |non=>cases rx;exact SeqAt.EqAt.str_none a t'
  |bl b=>cases rx;exact SeqAt.EqAt.str_bool a t' b
  |int b=>obtain⟨t,rfl⟩:=rx;exact SeqAt.EqAt.str_int a t' b t
  |str b=>obtain⟨t,rfl⟩:=rx;exact SeqAt.EqAt.str_str a t' b t
  |_=>exact absurd (show false=true from fx) Bool.false_ne_true
 |_=>exact absurd (show false=true from fy) Bool.false_ne_true
def eqU (x:V) (u:Value):Bool:=match u with
 | .none=>eqV .non x
 | .bool b=>eqV (.bl b) x
 | .int i _=>eqV (.int i) x
 | .str z _=>eqV (.str z) x
 |_=>false
theorem rJ {x y:V} {u:Value} (r:RelV y u) (f:fW y=true):eqU x u=eqV y x:=by
 cases y with
 |non=>cases r;rfl
 |bl b=>cases r;rfl
 |int i=>obtain⟨t,rfl⟩:=r;rfl
 |str z=>obtain⟨t,rfl⟩:=r;rfl
 |_=>exact absurd (show false=true from f) Bool.false_ne_true
theorem gd {x:V}:∀{xs:List V} {us:List Value},Vals xs us→xs.all fW=true→us.any (eqU x)=xs.any fun y=>eqV y x
 |_,_,.nil,_=>rfl
 |y::xs,u::us,.cons r t,f=>by
  rw[List.all_cons,Bool.and_eq_true] at f
  rw[List.any_cons,List.any_cons,rJ r f.1,gd t f.2]
theorem eO {A:Around} {s:Shared} {x:V} {v:Value} (rx:RelV x v) (fx:fW x=true):∀{xs:List V} {us:List Value},Vals xs us→xs.all fW=true→∀u∈us,SeqAt.EqAt A s u v (eqU x u)
 |_,_,.nil,_=>fun u hu=>by cases hu
 |y::xs,u::us,.cons r t,f=>fun u' hu=>by
  rw[List.all_cons,Bool.and_eq_true] at f
  rcases List.mem_cons.mp hu with rfl|hu
  ·rw[rJ r f.1];exact vW r rx f.1 fx
  ·exact eO rx fx t f.2 u' hu
def inV (x:V) (xs:List V):Bool:=xs.any fun y=>eqV y x
def rIn (K:W.Frag) (neg:Bool):R2:=fun x y H Q=>∃p xs,y=.ref p∧(SqL K H p xs∨SqT K H p xs)∧fW x=true∧xs.all fW=true∧Q (.bl (if neg then !inV x xs else inV x xs)) H
theorem gr:OpR X (compareOp .In) (rIn X.K false):=by
 intro pins s σ H x y v u Q I rx ry h
 obtain⟨p,xs,rfl,hq,fx,fs,q⟩:=h
 cases ry
 rcases hq with hq|hq
 ·obtain⟨its,r,pl,hz⟩:=I.list hq
  refine SeqAt.in_listAt (eqU x) pl.isList (fun w hw=>eO rx fx r fs w (by simpa using hw)) ⟨.bl _,H,I,rfl,?_⟩
  rw[show its.toArray.any (eqU x)=its.any (eqU x) by simp,gd r fs]
  exact q
 ·obtain⟨its,r,pl,hz⟩:=I.tuple hq
  refine SeqAt.in_tupleAt (eqU x) pl (fun w hw=>eO rx fx r fs w (by simpa using hw)) ⟨.bl _,H,I,rfl,?_⟩
  rw[show its.toArray.any (eqU x)=its.any (eqU x) by simp,gd r fs]
  exact q
theorem cJ:OpR X (compareOp .NotIn) (rIn X.K true):=by
 intro pins s σ H x y v u Q I rx ry h
 obtain⟨p,xs,rfl,hq,fx,fs,q⟩:=h
 cases ry
 rcases hq with hq|hq
 ·obtain⟨its,r,pl,hz⟩:=I.list hq
  refine SeqAt.notIn_listAt (eqU x) pl.isList (fun w hw=>eO rx fx r fs w (by simpa using hw)) ⟨.bl _,H,I,rfl,?_⟩
  rw[show its.toArray.any (eqU x)=its.any (eqU x) by simp,gd r fs]
  exact q
 ·obtain⟨its,r,pl,hz⟩:=I.tuple hq
  refine SeqAt.notIn_tupleAt (eqU x) pl (fun w hw=>eO rx fx r fs w (by simpa using hw)) ⟨.bl _,H,I,rfl,?_⟩
  rw[show its.toArray.any (eqU x)=its.any (eqU x) by simp,gd r fs]
  exact q
theorem aX:bZ X (.builtin "len") (fun xs H Q=>∃p ys,xs=[.ref p]∧(SqL X.K H p ys∨SqT X.K H p ys)∧Q (.int ys.length) H):=by
 intro pins s σ H xs us Q I r h
 obtain⟨p,ys,rfl,hq,q⟩:=h
 obtain⟨u,rfl,rx⟩:=vals1 r
 cases rx
 have hn:=line63
 rcases hq with hq|hq
 ·obtain⟨its,r',pl,hz⟩:=I.list hq
  have hlen:=r'.length
  exact Calls.call_len_list pl.isList (by simp only[List.size_toArray] <;> omega) ⟨.int ys.length,H,I.tok _,⟨s.toks+1,by rw[List.size_toArray,hlen]⟩,q⟩
 ·obtain⟨its,r',pl,hz⟩:=I.tuple hq
  have hlen:=r'.length
  exact len_tuple pl (by simp only[List.size_toArray] <;> omega) ⟨.int ys.length,H,I.tok _,⟨s.toks+1,by rw[List.size_toArray,hlen]⟩,q⟩
theorem eB:bZ X (.type "list") (fun xs H Q=>∃p ys,xs=[.ref p]∧(SqL X.K H p ys∨SqT X.K H p ys)∧∀l,H l=none→Q (.ref l) (upd H l (.lst ys))):=by
 intro pins s σ H xs us Q I r h
 obtain⟨p,ys,rfl,hq,q⟩:=h
 obtain⟨u,rfl,rx⟩:=vals1 r
 cases rx
 have fin:∀(its:List Value),Vals ys its→ys.length≤sizeLine→∀(h':Heap) (c':Nat),(∀b o',s.heap.get? b=some o'→h'.get? b=some o') →
   h'.get? s.heap.objs.size=some {cls:=.type "list",dict:=none,data:=.seq its.toArray c',slots:=#[]}→EP X pins σ Q (.ref s.heap.objs.size) {s with heap:=h'}:=fun its r' hz h' c' kp e=>
  ⟨.ref s.heap.objs.size,_,I.laid (t':=s.toks) kp (Nat.le_refl _) (show aU X.prog X.w _ h' _ (.lst ys) from ⟨hz,its,c',r',e⟩),rfl,q _ (I.hok.fresh (Nat.le_refl _))⟩
 rcases hq with hq|hq
 ·obtain⟨its,r',pl,hz⟩:=I.list hq
  have hlen:=r'.length
  obtain⟨o,ho,hc,n,hd⟩:=pl.isList
  exact call_list_seq p (.inl rfl) ho hc hd (fun h' c' kp e=>fin its r' hz h' c' kp e) (by simp only[List.size_toArray] <;> omega)
 ·obtain⟨its,r',pl,hz⟩:=I.tuple hq
  have hlen:=r'.length
  obtain⟨o,ho,hc,n,hd⟩:=pl
  exact call_list_seq p (.inr rfl) ho hc hd (fun h' c' kp e=>fin its r' hz h' c' kp e) (by simp only[List.size_toArray] <;> omega)
theorem cV:bZ X (.type "tuple") (fun xs H Q=>∃p ys,xs=[.ref p]∧((SqL X.K H p ys∧∀l,H l=none→Q (.ref l) (upd H l (.tup ys)))∨(SqT X.K H p ys∧Q (.ref p) H))):=by
 intro pins s σ H xs us Q I r h
 obtain⟨p,ys,rfl,h⟩:=h
 obtain⟨u,rfl,rx⟩:=vals1 r
 cases rx
 rcases h with ⟨hq,q⟩|⟨hq,q⟩
 ·obtain⟨its,r',pl,hz⟩:=I.list hq
  have hlen:=r'.length
  refine call_tuple_list pl.isList (fun h' kp=>?_) (by simp only[List.size_toArray] <;> omega)
  have I1:Inv X pins σ H {s with heap:=h'}:=I.kept (t':=s.toks) kp
  have I2:Inv X pins σ (upd H h'.objs.size (.tup ys)) {s with heap:=h'.push {cls:=.type "tuple",data:=.seq its.toArray}}:=
   I1.laid (t':=s.toks) (fun b o e=>Heap.get?_push_of_some _ e) (Nat.le_refl _) (show aU X.prog X.w _ _ _ (.tup ys) from ⟨⟨hz,_,Heap.get?_push_size _ rfl,rfl⟩,its,r',IsTup.new _ _⟩)
  exact⟨.ref h'.objs.size,_,I2,rfl,q _ (I1.hok.fresh (Nat.le_refl _))⟩
 ·obtain⟨its,r',pl,hz⟩:=I.tuple hq
  exact call_tuple_same pl ⟨.ref p,H,I,rfl,q⟩
def tyV (K:W.Frag) (T:String) (x:V) (H:Hp):Prop:=match x with
 | .str _=>T = "str"
 | .int _=>T = "int"
 | .ref p=>(T = "list"∧∃xs,SqL K H p xs)∨(T = "tuple"∧∃o,K.lookup p=some o∧o.cls=.type "tuple"∧o.dict=none) ∨
   (T = "dict"∧((∃kvs,H p=some (.dK kvs))∨∃kvs,H p=some (.dT kvs)))∨(T = "set"∧∃S n,H p=some (.set S n))
 |_=>False
theorem pY {pins:List (Addr × Obj)} {σ:St} {H:Hp} {s:Shared} {T:String} {x:V} {v:Value} (I:Inv X pins σ H s) (r:RelV x v) (ty:tyV X.K T x H) :
  s.TypeIs v T∧∀a,v=.ref a→∃ob,s.heap.get? a=some ob∧ob.dict=none:=by
 cases x with
 |str z=>
  obtain⟨t,rfl⟩:=r
  cases (show T = "str" from ty)
  exact⟨typeIs_str s z t,fun _ e=>nomatch e⟩
 |int i=>
  obtain⟨t,rfl⟩:=r
  cases (show T = "int" from ty)
  exact⟨typeIs_int s i t,fun _ e=>nomatch e⟩
 |ref p=>
  cases r
  rcases ty with ⟨rfl,xs,hq⟩|⟨rfl,o,hk,hc,hd⟩|⟨rfl,hk⟩|⟨rfl,S,n,hk⟩
  ·obtain⟨its,_,pl,_⟩:=I.list hq
   refine⟨pl.isList.typeIs,fun a e=>?_⟩
   cases e
   obtain⟨o,n,e,c,hd,_⟩:=pl
   exact⟨o,e,hd⟩
  ·refine⟨⟨o,I.kIn p o hk,hc⟩,fun a e=>?_⟩
   cases e
   exact⟨o,I.kIn _ o hk,hd⟩
  ·have z:∃o,s.heap.get? p=some o∧o.ExactDict:=by
    rcases hk with ⟨kvs,hk⟩|⟨kvs,hk⟩
    ·obtain⟨_,_,_,_,o,_,_,e,ex,_⟩:=I.hok p _ hk
     exact⟨o,e,ex⟩
    ·obtain⟨_,_,_,_,o,_,_,e,ex,_⟩:=I.hok p _ hk
     exact⟨o,e,ex⟩
   obtain⟨o,e,ex⟩:=z
   refine⟨⟨o,e,ex.1⟩,fun a e2=>?_⟩
   cases e2
   exact⟨o,e,ex.2.1⟩
  ·obtain⟨o,_,_,_,e,ex,_⟩:=I.hok p _ hk
   refine⟨⟨o,e,ex.1⟩,fun a e2=>?_⟩
   cases e2
   exact⟨o,e,ex.2.1⟩
 |_=>exact False.elim ty
def tBM0 (K:W.Frag) (T:String) (r:V→List V→Hp→VK→Prop) (to:TE):TE:=fun σ H Q=>to σ H fun x H1=>tyV K T x H1∧r x [] H1 Q
def tBM (K:W.Frag) (T:String) (r:V→List V→Hp→VK→Prop) (to:TE) (t:TA):TE:=fun σ H Q=>to σ H fun x H1=>tyV K T x H1∧t σ H1 fun xs H2=>r x xs H2 Q
variable {o e:Expr} {es:List Expr} {to:TE} {t:TA} {name:Str} {apos cpos:Pos} {T id:String} {r:V→List V→Hp→VK→Prop}
theorem qB (pa:PlainAttrs T) (slot:Slot T name id) (hty:typeOf (.builtin id)=pure (.type "method_descriptor")) (hm:MtR X id r) (ho:PE X o to)
  (hbase:attributeBase o name X.env (eval o X.env)=eval o X.env:=by rfl) (hline:(apos.endLine==cpos.line)=true:=by rfl):PE X (.Call (.Attribute o name apos) [] [] cpos) (tBM0 X.K T r to):=by
 intro pins s σ H Q I h
 refine wpAny_Call_method0_late hbase hline (thn (ho pins s σ H _ I h) fun v s1 ⟨x,H1,I1,r1,ty,q1⟩=>?_)
 obtain⟨h1,h2⟩:=pY I1 r1 ty
 exact⟨T,id,pa,slot,hty,h1,h2,Calls.callWith_builtin rfl (PySem.evalArgs_none (hm pins s1 σ H1 x [] v [] Q I1 r1 .nil q1))⟩
theorem bX (pa:PlainAttrs T) (slot:Slot T name id) (hty:typeOf (.builtin id)=pure (.type "method_descriptor")) (hm:MtR X id r) (ho:PE X o to) (ha:PA X (e::es) t)
  (hbase:attributeBase o name X.env (eval o X.env)=eval o X.env:=by rfl)
  (hfew:((backTo cpos (starEach (e::es) X.env)).all (fun x=>!x.1)&&(backToKw cpos (keywordEach [] X.env)).all (fun x=>x.1.isSome)
   && decide ((e::es).length+([]:List Keyword).length+(if ([]:List Keyword).isEmpty then 0 else 1) < 30))=true:=by rfl)
  (hline:(apos.endLine==cpos.line)=true:=by rfl) (hs:starEach (e::es) X.env=(false,eval e X.env)::starEach es X.env:=by rfl) (hplain:(backTo cpos (starEach es X.env)).any (·.1)=false:=by rfl) :
  PE X (.Call (.Attribute o name apos) (e::es) [] cpos) (tBM X.K T r to t):=by
 intro pins s σ H Q I h
 refine wpAny_Call_method_late hbase hfew hline rfl (thn (ho pins s σ H _ I h) fun v s1 ⟨x,H1,I1,r1,ty,q1⟩=>?_)
 obtain⟨h1,h2⟩:=pY I1 r1 ty
 refine⟨T,id,pa,slot,hty,h1,h2,?_⟩
 have hA:=ha cpos pins s1 σ H1 _ I1 q1
 rw[hs] at hA ⊢
 refine Calls.callWith_builtin (by show (false||(backTo cpos (starEach es X.env)).any (·.1))=false;rw[hplain] <;> rfl) (Calls.evalArgs_plain ?_)
 exact thn hA fun us s2 ⟨vs,H2,I2,r2,q2⟩=>hm pins s2 σ H2 x vs v us Q I2 r1 r2 q2
end
end L2
namespace L2
open PySem PySem.Spec PyProof.Rows
def MtM (X:Cx) (id:String) (r:V→List V→Hp→VK→Prop):Prop:=
 ∀(pins:List (Addr × Obj)) (s:Shared) (σ:St) (H:Hp) (x:V) (xs:List V) (v:Value) (us:List Value) (Q:VK),Inv X pins σ H s→RelV x v→Vals xs us→r x xs H Q →
  wpAny (model X.prog X.w) X.A (call (.builtin id) (v::us)) (EP X pins σ Q) X.xe s
theorem Vals.one:∀{x:V} {us:List Value},Vals [x] us→∃u,us=[u]∧RelV x u
 |_,_,.cons r .nil=>⟨_,rfl,r⟩
theorem Vals.two:∀{x y:V} {us:List Value},Vals [x,y] us→∃u v,us=[u,v]∧RelV x u∧RelV y v
 |_,_,_,.cons r (.cons q .nil)=>⟨_,_,rfl,r,q⟩
theorem Vals.zero:∀{us:List Value},Vals [] us→us=[]
 |_,.nil=>rfl
theorem Vals.eraseIdx:∀{xs:List V} {us:List Value} (i:Nat),Vals xs us→Vals (xs.eraseIdx i) (us.eraseIdx i)
 |_,_,_,.nil=>.nil
 |_,_,0,.cons _ t=>t
 |_,_,i+1,.cons r t=>.cons r (Vals.eraseIdx i t)
theorem jF {α:Type}:∀(l:List α) (i:Nat),(l.eraseIdx i).length≤l.length
 | [],_=>Nat.le_refl _
 |_::_,0=>Nat.le_succ _
 |_::r,i+1=>Nat.succ_le_succ (jF r i)
section
variable {X:Cx} {pins:List (Addr × Obj)} {σ:St} {H:Hp} {s:Shared} {l b:Addr} {xs ys zs:List V}
theorem Inv.lset {its its':List Value} {n:Nat} {f:Array Value→Array Value} {t':Nat} (I:Inv X pins σ H s) (hH:H l=some (.lst xs))
  (e:s.heap.get? l=some {cls:=.type "list",data:=.seq its.toArray n}) (hf:f its.toArray=its'.toArray) (hv:Vals ys its') (hz:ys.length≤sizeLine) :
  Inv X pins σ (upd H l (.lst ys)) {s with heap:=s.heap.update l (Obj.mapSeq f),toks:=t'}:=by
 have q:=PySem.IsL.update e f
 rw[hf] at q
 refine I.write (x:=l) (e:=l) (by rw[hH];exact trivial) (.inl rfl) (fun b' u hb hu=>(Heap.get?_update_other s.heap (Obj.mapSeq f) (Ne.symm hb)).trans hu) ⟨_,q⟩ ?_
 exact⟨hz,its',_,hv,q⟩
theorem Inv.lnew {its:List Value} {t':Nat} (I:Inv X pins σ H s) (hv:Vals ys its) (hz:ys.length≤sizeLine) :
  Inv X pins σ (upd H s.heap.objs.size (.lst ys)) {s with heap:=s.heap.push {cls:=.type "list",data:=.seq its.toArray},toks:=t'}:=
 I.laid (fun _ _ q=>Heap.get?_push_of_some _ q) (Nat.le_refl _) ⟨hz,its,0,hv,Heap.get?_push_size _ rfl⟩
theorem Inv.fresh (I:Inv X pins σ H s):H s.heap.objs.size=none:=I.hok.fresh (Nat.le_refl _)
theorem Inv.lstM (I:Inv X pins σ H s) (hH:H l=some (.lst xs)):xs.length≤sizeLine∧∃(its:List Value) (n:Nat),Vals xs its∧xs.length=its.length∧s.heap.get? l=some {cls:=.type "list",data:=.seq its.toArray n}:=by
 obtain⟨z,its,n,r,e⟩:=I.hok l _ hH
 exact⟨z,its,n,r,r.length,e⟩
end
section
variable {X:Cx}
def tN:V→List V→Hp→VK→Prop:=fun x vs H Q=>∃l xs y,x=.ref l∧vs=[y]∧H l=some (.lst xs)∧xs.length < sizeLine∧Q .non (upd H l (.lst (xs++[y])))
theorem bo:MtM X "list.append" tN:=by
 intro pins s σ H x vs v us Q I rx rv h
 obtain⟨l,xs,y,rfl,rfl,hH,hz,q⟩:=h
 cases rx
 obtain⟨u,rfl,ru⟩:=rv.one
 obtain⟨z,its,n,r,hl,e⟩:=I.lstM hH
 refine call_meets F.slot_list_append ⟨_,e,rfl⟩ F.entry_list_append (F.args_list_append_2 _ _) (PySem.list_append l its.toArray n u (by rw[List.size_toArray];omega)) ⟨e,?_⟩
 refine⟨.non,_,I.lset (its':=its++[u]) hH e (by simp) (r.append (.cons ru .nil)) ?_,rfl,q⟩
 rw[List.length_append,List.length_singleton]
 omega
def qm:V→List V→Hp→VK→Prop:=fun x vs H Q=>∃l xs i k y,x=.ref l∧vs=[.int i]∧H l=some (.lst xs)∧-(2 ^ 63)≤i∧i < 2 ^ 63∧seqIndex? i xs.length=some k∧xs[k]? = some y∧Q y (upd H l (.lst (xs.eraseIdx k)))
theorem lN:MtM X "list.pop" qm:=by
 intro pins s σ H x vs v us Q I rx rv h
 obtain⟨l,xs,i,k,y,rfl,rfl,hH,h1,h2,hk,hy,q⟩:=h
 cases rx
 obtain⟨u,rfl,ru⟩:=rv.one
 obtain⟨t,rfl⟩:=ru
 obtain⟨z,its,n,r,hl,e⟩:=I.lstM hH
 obtain⟨w,hw,rw'⟩:=r.get hy
 refine call_meets F.slot_list_pop ⟨_,e,rfl⟩ F.entry_list_pop (F.args_list_pop_2 _ _)
  (MeetsSeq.list_pop_at l its.toArray n i t k w (fitsIndex_both h1 h2) (by rw[List.size_toArray,←hl];exact hk) (by rw[←Array.getElem?_toList];exact hw) (by rw[List.size_toArray];omega)) ⟨e,?_⟩
 refine⟨y,_,I.lset (its':=its.eraseIdx k) hH e ?_ (r.eraseIdx k) ?_,rw',q⟩
 ·show its.toArray.eraseIdxIfInBounds k=(its.eraseIdx k).toArray
  rw[List.eraseIdxIfInBounds_toArray]
 ·have:=jF xs k
  omega
def rCat:R2:=fun x y H Q=>∃l b xs zs,x=.ref l∧y=.ref b∧H l=some (.lst xs)∧H b=some (.lst zs)∧xs.length+zs.length≤sizeLine∧∀p,H p=none→Q (.ref p) (upd H p (.lst (xs++zs)))
theorem iM:OpR X (binaryOp .Add) rCat:=by
 intro pins s σ H x y v u Q I rx ry h
 obtain⟨l,b,xs,zs,rfl,rfl,hH,hB,hz,q⟩:=h
 cases rx
 cases ry
 obtain⟨z,its,n,r,hl,e⟩:=I.lstM hH
 obtain⟨z2,its2,n2,r2,hl2,e2⟩:=I.lstM hB
 refine PySem.P.add_list e e2 ?_ (by rw[List.size_toArray,List.size_toArray];omega)
 have ea:its.toArray++its2.toArray=(its++its2).toArray:=by simp
 rw[ea]
 exact⟨.ref _,_,I.lnew (t':=s.toks) (r.append r2) (by rw[List.length_append];omega),rfl,q _ I.fresh⟩
end
section
variable {prog:Program} {w:World} {A:Around} {E:Value→Shared→Prop} {s:Shared}
set_option maxRecDepth 100000 in
end
section
variable {X:Cx}
end
end L2
namespace L2
open PySem PySem.Spec PyProof.Rows
section
variable {κ:Type} [DecidableEq κ]
def valV (kvs:List (κ × V)) (k:κ):Option V:=(kvs.find? fun kv=>decide (kv.1=k)).map (·.2)
def putK (kvs:List (κ × V)) (k:κ) (v:V):List (κ × V):=
 if (kvs.any fun kv=>decide (kv.1=k))=true then kvs.map (fun kv=>if kv.1=k then (kv.1,v) else kv) else kvs++[(k,v)]
def i6 (kvs:List (κ × V)) (k:κ):List (κ × V):=kvs.filter fun kv=>decide (kv.1≠k)
theorem cE {p:κ × V} {r:List (κ × V)} {k:κ} (e:p.1=k):valV (p::r) k=some p.2:=by simp[valV,List.find?_cons,e]
theorem b_ {p:κ × V} {r:List (κ × V)} {k:κ} (e:¬p.1=k):valV (p::r) k=valV r k:=by simp[valV,List.find?_cons,e]
theorem fI (k:κ):∀kvs:List (κ × V),(kvs.any fun kv=>decide (kv.1=k))=(valV kvs k).isSome
 | []=>rfl
 |p::r=>by
  rw[List.any_cons]
  by_cases e:p.1=k
  ·simp only[cE e,decide_eq_true e,Bool.true_or,Option.isSome_some]
  ·rw[b_ e,decide_eq_false e,Bool.false_or];exact fI k r
theorem eR (kvs:List (κ × V)) (k:κ) (v:V):(putK kvs k v).length≤kvs.length+1:=by
 unfold putK
 split
 ·rw[List.length_map];omega
 ·rw[List.length_append,List.length_cons,List.length_nil];omega
theorem fP {kvs:List (κ × V)} {k:κ} (v:V) (h:valV kvs k=none):putK kvs k v=kvs++[(k,v)]:=by
 unfold putK
 rw[fI,h]
 exact if_neg (by decide)
theorem RelO.isSome_eq {o:Option V} {u:Option Value} (r:RelO o u):o.isSome=u.isSome:=by
 cases o with
 |none=>cases u with
  |none=>rfl
  |some _=>exact (show False from r).elim
 |some _=>cases u with
  |none=>exact (show False from r).elim
  |some _=>rfl
theorem RelO.getD {o:Option V} {u:Option Value} {d:V} {d':Value} (r:RelO o u) (rd:RelV d d'):RelV (o.getD d) (u.getD d'):=by
 cases o with
 |none=>cases u with
  |none=>exact rd
  |some _=>exact (show False from r).elim
 |some _=>cases u with
  |none=>exact (show False from r).elim
  |some _=>exact r
theorem KV.val {kvs:List (κ × V)} {vs:List (κ × Value)} (r:KV kvs vs) (k:κ):RelO (valV kvs k) (valueAt vs k):=by
 unfold KV at r
 induction r with
 |nil=>exact True.intro
 | @cons p q ps qs h t ih=>
  obtain⟨h1,h2⟩:=h
  by_cases e:p.1=k
  ·have e':q.1=k:=h1.symm.trans e
   have b:valueAt (q::qs) k=some q.2:=by simp[valueAt,List.find?_cons,e']
   rw[cE e,b];exact h2
  ·have e':¬q.1=k:=fun z=>e (h1.trans z)
   have b:valueAt (q::qs) k=valueAt qs k:=by simp[valueAt,List.find?_cons,e']
   rw[b_ e,b];exact ih
theorem KV.any {kvs:List (κ × V)} {vs:List (κ × Value)} (r:KV kvs vs) (k:κ):(kvs.any fun kv=>decide (kv.1=k))=vs.any fun kv=>decide (kv.1=k):=by
 unfold KV at r
 induction r with
 |nil=>rfl
 |cons h t ih=>rw[List.any_cons,List.any_cons,ih,h.1]
theorem KV.repl {kvs:List (κ × V)} {vs:List (κ × Value)} (r:KV kvs vs) (k:κ) {y:V} {u:Value} (ry:RelV y u) :
  KV (kvs.map fun kv=>if kv.1=k then (kv.1,y) else kv) (vs.map fun kv=>if kv.1=k then (kv.1,u) else kv):=by
 unfold KV at r ⊢
 induction r with
 |nil=>exact .nil
 | @cons p q ps qs h t ih=>
  rw[List.map_cons,List.map_cons]
  refine .cons ?_ ih
  obtain⟨h1,h2⟩:=h
  by_cases e:p.1=k
  ·rw[if_pos e,if_pos (h1.symm.trans e)];exact⟨h1,ry⟩
  ·rw[if_neg e,if_neg (fun z=>e (h1.trans z))];exact⟨h1,h2⟩
theorem KV.put {kvs:List (κ × V)} {vs:List (κ × Value)} (r:KV kvs vs) (k:κ) {y:V} {u:Value} (ry:RelV y u):KV (putK kvs k y) (stored vs k u):=by
 unfold putK stored
 rw[r.any k]
 by_cases e:(vs.any fun kv=>decide (kv.1=k))=true
 ·rw[if_pos e,if_pos e];exact r.repl k ry
 ·rw[if_neg e,if_neg e];exact Paired.snoc r ⟨rfl,ry⟩
theorem KV.drop {kvs:List (κ × V)} {vs:List (κ × Value)} (r:KV kvs vs) (k:κ):KV (i6 kvs k) (without vs k):=by
 unfold KV at r ⊢
 unfold i6 without
 induction r with
 |nil=>exact .nil
 | @cons p q ps qs h t ih=>
  obtain⟨h1,h2⟩:=h
  rw[List.filter_cons,List.filter_cons]
  by_cases e:p.1=k
  ·have a:¬decide (p.1≠k)=true:=by simp[e]
   have b:¬decide (q.1≠k)=true:=by simp[h1.symm.trans e]
   rw[if_neg a,if_neg b];exact ih
  ·have e':¬q.1=k:=fun z=>e (h1.trans z)
   have a:decide (p.1≠k)=true:=by simp[e]
   have b:decide (q.1≠k)=true:=by simp[e']
   rw[if_pos a,if_pos b];exact .cons ⟨h1,h2⟩ ih
theorem KV.length {kvs:List (κ × V)} {vs:List (κ × Value)} (r:KV kvs vs):kvs.length=vs.length:=Paired.length r
theorem rR (kvs:List (κ × V)) (k:κ):(i6 kvs k).length≤kvs.length:=List.length_filter_le _ _
end
theorem gK {P:Program} {w:World} {k:Key} {u:Value} (r:RelV (kV k) u):(aT P w).is k u=true:=by
 cases k with
 |inl i=>obtain⟨t,e⟩:=(show ∃t,u=Value.int i t from r);subst e;exact lQ P w i t
 |inr x=>obtain⟨t,e⟩:=(show ∃t,u=Value.str x t from r);subst e;exact lP P w x t
theorem jI {P:Program} {w:World}:∀{ks:List Key} {us:List Value},Vals (ks.map kV) us→ItemsAre (aT P w) ks us
 | [],_,r=>by rw[List.map_nil] at r;cases r;exact .nil
 |k::ks,_,r=>by
  rw[List.map_cons] at r
  cases r with
  |cons h t=>exact .cons (gK h) (jI t)
abbrev KT (H:Hp):List (List Key × V)→List (List Key × Addr × Value)→Prop:=Paired fun p q=>p.1=q.1∧H q.2.1=some (.tup (p.1.map kV))∧RelV p.2 q.2.2
theorem KT.val {H:Hp} {kvs:List (List Key × V)} {xs:List (List Key × Addr × Value)} (r:KT H kvs xs) (k:List Key):RelO (valV kvs k) ((atKey xs k).map (·.2)):=by
 induction r with
 |nil=>exact True.intro
 | @cons p q ps qs h t ih=>
  obtain⟨h1,_,h2⟩:=h
  by_cases e:p.1=k
  ·have e':q.1=k:=h1.symm.trans e
   have b:atKey (q::qs) k=some q.2:=by simp[atKey,List.find?_cons,e']
   rw[cE e,b];exact h2
  ·have e':¬q.1=k:=fun z=>e (h1.trans z)
   have b:atKey (q::qs) k=atKey qs k:=by simp[atKey,List.find?_cons,e']
   rw[b_ e,b];exact ih
theorem KT.repl {H:Hp} {kvs:List (List Key × V)} {xs:List (List Key × Addr × Value)} (r:KT H kvs xs) (k:List Key) {y:V} {u:Value} (ry:RelV y u) :
  KT H (kvs.map fun kv=>if kv.1=k then (kv.1,y) else kv) (xs.map (putAt k u)):=by
 induction r with
 |nil=>exact .nil
 | @cons p q ps qs h t ih=>
  rw[List.map_cons,List.map_cons]
  refine .cons ?_ ih
  obtain⟨h1,h2,h3⟩:=h
  unfold putAt
  by_cases e:p.1=k
  ·rw[if_pos e,if_pos (h1.symm.trans e)];exact⟨h1,h2,ry⟩
  ·rw[if_neg e,if_neg (fun z=>e (h1.trans z))];exact⟨h1,h2,h3⟩
theorem KT.put {H:Hp} {kvs:List (List Key × V)} {xs:List (List Key × Addr × Value)} (r:KT H kvs xs) (k:List Key) {b:Addr} {y:V} {u:Value} (hb:H b=some (.tup (k.map kV))) (ry:RelV y u) :
  KT H (putK kvs k y) (storedH xs k b u):=by
 have e:(kvs.any fun kv=>decide (kv.1=k))=(atKey xs k).isSome:=by
  rw[fI,(r.val k).isSome_eq,Option.isSome_map]
 unfold putK storedH
 rw[e]
 by_cases q:(atKey xs k).isSome=true
 ·rw[if_pos q,if_pos q];exact r.repl k ry
 ·rw[if_neg q,if_neg q];exact Paired.snoc r ⟨rfl,hb,ry⟩
theorem KT.keeps {H H':Hp} {kvs:List (List Key × V)} {xs:List (List Key × Addr × Value)} (r:KT H kvs xs) (ht:∀b ys,H b=some (.tup ys)→H' b=some (.tup ys)):KT H' kvs xs:=
 Paired.mapP r fun _ _ z=>⟨z.1,ht _ _ z.2.1,z.2.2⟩
section
variable {P:Program} {w:World} {H:Hp} {h:Heap} {a:Addr}
theorem uE {u:HO} (ok:HOk P w H h) (e:Rd H a u):aU P w H h a u:=e.ok ok
theorem eI {kvs:List (Key × V)} (ok:HOk P w H h) (e:Rd H a (.dK kvs)):kvs.length≤sizeLine∧(a==sysModules)=false∧∃vs,KV kvs vs∧h.DictOf (aT P w) a vs:=
 show aU P w H h a (.dK kvs) from uE ok e
theorem oz {kvs:List (Key × V)} (ok:HOk P w H h) (e:H a=some (.dK kvs)):kvs.length≤sizeLine∧(a==sysModules)=false∧∃vs,KV kvs vs∧h.DictOf (aT P w) a vs:=eI ok (.inl e)
theorem gB {ks:List Key} (ok:HOk P w H h) (e:H a=some (.tup (ks.map kV))):(tupleKind (aT P w)).is h ks a:=by
 obtain⟨_,its,r,o,h1,h2,n,h3⟩:=(show aU P w H h a (.tup (ks.map kV)) from ok a _ e)
 exact⟨o,its.toArray,n,h1,h2,h3,by simpa using jI r⟩
theorem gP {kvs:List (List Key × V)} (ok:HOk P w H h) (e:Rd H a (.dT kvs)):kvs.length≤sizeLine∧(a==sysModules)=false ∧
  ∃xs,KT H kvs xs∧h.DictOfH (tupleKind (aT P w)) a xs:=by
 obtain⟨z,y,xs,r,o,es,ep,h1,h2,h3,h4,h5⟩:=(show aU P w H h a (.dT kvs) from uE ok e)
 refine⟨z,y,xs,r,o,es,ep,h1,h2,h3,h4,fun x hx=>?_,h5⟩
 have all:∀{l:List (List Key × V)} {m:List (List Key × Addr × Value)},KT H l m→∀x∈m,(tupleKind (aT P w)).is h x.1 x.2.1:=by
  intro l m q
  induction q with
  |nil=>intro x hx;exact nomatch hx
  | @cons p q ps qs hq t ih=>
   intro x hx
   rcases List.mem_cons.mp hx with e|hx
   ·subst e
    exact gB ok (by rw[←hq.1];exact hq.2.1)
   ·exact ih x hx
 exact all r x hx
theorem uK {kvs:List (List Key × V)} (ok:HOk P w H h) (e:H a=some (.dT kvs)):kvs.length≤sizeLine∧(a==sysModules)=false ∧
  ∃xs,KT H kvs xs∧h.DictOfH (tupleKind (aT P w)) a xs:=gP ok (.inl e)
end
def DGet (H:Hp) (a:Addr) (y:V) (r:Option V):Prop:=
 (∃kvs k,Rd H a (.dK kvs)∧y=kV k∧r=valV kvs k)∨∃kvs k b,Rd H a (.dT kvs)∧y=.ref b∧H b=some (.tup (k.map kV))∧r=valV kvs k
def DPut (H:Hp) (a:Addr) (y v:V) (H':Hp):Prop:=
 (∃kvs k,H a=some (.dK kvs)∧y=kV k∧kvs.length < sizeLine∧H' = upd H a (.dK (putK kvs k v))) ∨
 ∃kvs k b,H a=some (.dT kvs)∧y=.ref b∧H b=some (.tup (k.map kV))∧kvs.length < sizeLine∧H' = upd H a (.dT (putK kvs k v))
theorem DGet.k {H:Hp} {a:Addr} {kvs:List (Key × V)} {k:Key} (e:H a=some (.dK kvs)):DGet H a (kV k) (valV kvs k):=.inl ⟨kvs,k,.inl e,rfl,rfl⟩
theorem DGet.t {H:Hp} {a b:Addr} {kvs:List (List Key × V)} {k:List Key} (e:H a=some (.dT kvs)) (eb:H b=some (.tup (k.map kV))):DGet H a (.ref b) (valV kvs k):=.inr ⟨kvs,k,b,.inl e,rfl,eb,rfl⟩
theorem DPut.k {H:Hp} {a:Addr} {kvs:List (Key × V)} {k:Key} {v:V} (e:H a=some (.dK kvs)) (hl:kvs.length < sizeLine):DPut H a (kV k) v (upd H a (.dK (putK kvs k v))):=.inl ⟨kvs,k,e,rfl,hl,rfl⟩
theorem DPut.t {H:Hp} {a b:Addr} {kvs:List (List Key × V)} {k:List Key} {v:V} (e:H a=some (.dT kvs)) (eb:H b=some (.tup (k.map kV))) (hl:kvs.length < sizeLine) :
  DPut H a (.ref b) v (upd H a (.dT (putK kvs k v))):=.inr ⟨kvs,k,b,e,rfl,eb,hl,rfl⟩
section
variable {X:Cx} {pins:List (Addr × Obj)} {σ:St} {H:Hp} {s:Shared} {a:Addr} {y v:V} {u r:Value} {o:Option V} {A:Around} {E:Value→Shared→Prop}
theorem Inv.big (I:Inv X pins σ H s):sysModules < s.heap.objs.size:=by
 have h:mainGlobals < s.heap.objs.size:=(I.mod.glob.keeps I.bk).lt
 exact Nat.lt_trans (by decide) h
theorem pN {Q:Value→Shared→Prop} (hu:A.units+1 < cLine) (I:Inv X pins σ H s) (g:DGet H a y (some v)) (ry:RelV y u) (h:∀w' s',Inv X pins σ H s'→RelV v w'→Q w' s') :
  wpAny (model X.prog X.w) A (getItem (.ref a) u) Q E s:=by
 rcases g with ⟨kvs,k,e,ey,l⟩|⟨kvs,k,b,e,ey,eb,l⟩
 ·subst ey
  obtain⟨z,hd,vs,rel,dd⟩:=eI I.hok e
  obtain⟨w',hw,rw'⟩:=RelO.some_of (v:=v) (o:=valueAt vs k) (by rw[l];exact rel.val k)
  exact wpAny_getItem_of (gK ry) dd.mapOf hw (h w' _ (I.tok _) rw')
 ·subst ey
  cases (show u=Value.ref b from ry)
  obtain⟨z,hd,xs,rel,dd⟩:=gP I.hok e
  obtain⟨w',hw,rw'⟩:=RelO.some_of (v:=v) (o:=(atKey xs k).map (·.2)) (by rw[l];exact rel.val k)
  obtain⟨p,hp,hp2⟩:=Option.map_eq_some_iff.mp hw
  refine wpAny_getItem_heap (tupleKind_room_in1 hu) (gB I.hok eb) dd hp ?_
  rw[hp2]
  exact h w' _ (I.tok _) rw'
theorem d_in {Q:Value→Shared→Prop} (hu:A.units+1 < cLine) (I:Inv X pins σ H s) (g:DGet H a y o) (ry:RelV y u) (h:∀s',Inv X pins σ H s'→Q (.bool o.isSome) s') :
  wpAny (model X.prog X.w) A (compareOp .In u (.ref a)) Q E s:=by
 rcases g with ⟨kvs,k,e,ey,l⟩|⟨kvs,k,b,e,ey,eb,l⟩
 ·subst ey
  obtain⟨z,hd,vs,rel,dd⟩:=eI I.hok e
  refine wpAny_in_of (gK ry) hd dd.mapOf ?_
  rw[←(rel.val k).isSome_eq,←l]
  exact h _ (I.tok _)
 ·subst ey
  cases (show u=Value.ref b from ry)
  obtain⟨z,hd,xs,rel,dd⟩:=gP I.hok e
  refine wpAny_in_heap (tupleKind_room_in1 hu) (gB I.hok eb) hd dd ?_
  have q:=(rel.val k).isSome_eq
  rw[Option.isSome_map] at q
  rw[←q,←l]
  exact h _ (I.tok _)
theorem um {Q:Value→Shared→Prop} (hu:A.units+1 < cLine) (I:Inv X pins σ H s) (g:DGet H a y o) (ry:RelV y u) (h:∀s',Inv X pins σ H s'→Q (.bool (!o.isSome)) s') :
  wpAny (model X.prog X.w) A (compareOp .NotIn u (.ref a)) Q E s:=by
 rcases g with ⟨kvs,k,e,ey,l⟩|⟨kvs,k,b,e,ey,eb,l⟩
 ·subst ey
  obtain⟨z,hd,vs,rel,dd⟩:=eI I.hok e
  refine wpAny_notIn_of (gK ry) hd dd.mapOf ?_
  rw[←(rel.val k).isSome_eq,←l]
  exact h _ (I.tok _)
 ·subst ey
  cases (show u=Value.ref b from ry)
  obtain⟨z,hd,xs,rel,dd⟩:=gP I.hok e
  refine wpAny_notIn_heap (tupleKind_room_in1 hu) (gB I.hok eb) hd dd ?_
  have q:=(rel.val k).isSome_eq
  rw[Option.isSome_map] at q
  rw[←q,←l]
  exact h _ (I.tok _)
theorem ik {h':Heap} {t':Nat} {ob:HO} (I:Inv X pins σ H s) (mu:Mut (H a)) (hs:Heap.SameBut a s.heap h') (he:∃q,h'.get? a=some q) (new:aU X.prog X.w (upd H a ob) h' a ob) :
  Inv X pins σ (upd H a ob) {s with heap:=h',toks:=t'}:=
 I.write (x:=a) (e:=a) mu (.inl rfl) (fun b q hb z=>(hs.2 b hb).trans z) he new
theorem k0 {P:Program} {w:World} {H':Hp} {h':Heap} {kvs:List (Key × V)} {vs:List (Key × Value)} (z:kvs.length≤sizeLine) (hd:(a==sysModules)=false) (rel:KV kvs vs) (dd:h'.DictOf (aT P w) a vs) :
  aU P w H' h' a (.dK kvs):=⟨z,hd,vs,rel,dd⟩
theorem pM {H':Hp} {Q:Unit→Shared→Prop} (hu:A.units+1 < cLine) (I:Inv X pins σ H s) (g:DPut H a y v H') (ry:RelV y u) (rv:RelV v r) (h:∀s',Inv X pins σ H' s'→Q () s') :
  wpAny (model X.prog X.w) A (setItem (.ref a) u r) Q E s:=by
 rcases g with ⟨kvs,k,e,ey,l,eH⟩|⟨kvs,k,b,e,ey,eb,l,eH⟩
 ·subst ey eH
  obtain⟨z,hd,vs,rel,dd⟩:=oz I.hok e
  have hz:vs.length≤sizeLine:=by rw[←rel.length];exact z
  have hl:(putK kvs k v).length≤sizeLine:=by have:=eR kvs k v;omega
  refine wpAny_setItem_pairs (hsz:=hz) (gK ry) dd fun h' dd' hs=>h _ ?_
  have he:∃q,h'.get? a=some q:=let ⟨q,_,_,hq,_⟩:=dd';⟨q,hq⟩
  exact ik I (by rw[e];exact True.intro) hs he (k0 hl hd (rel.put k rv) dd')
 ·subst ey eH
  cases (show u=Value.ref b from ry)
  obtain⟨z,hd,xs,rel,dd⟩:=uK I.hok e
  have hz:xs.length≤sizeLine:=by rw[←Paired.length rel];exact z
  have hl:(putK kvs k v).length≤sizeLine:=by have:=eR kvs k v;omega
  refine wpAny_setItem_heap (hsz:=hz) (tupleKind_room_in1 hu) (gB I.hok eb) dd fun h' dd' hs=>h _ ?_
  obtain⟨q,es,ep,hq,h2,h3,h4,_,h5⟩:=dd'
  refine ik I (by rw[e];exact True.intro) hs ⟨q,hq⟩ ⟨hl,hd,_,(rel.put k eb rv).keeps fun c ys ec=>?_,q,es,ep,hq,h2,h3,h4,h5⟩
  rw[au (bi ec e (fun z=>nomatch z))]
  exact ec
end
section
variable {X:Cx} {pins:List (Addr × Obj)} {σ:St} {H:Hp} {s:Shared} {a:Addr} {kvs:List (Key × V)} {k:Key} {u:Value} {A:Around} {E:Value→Shared→Prop}
theorem wN {v:V} {more:List Value} {Q:Value→Shared→Prop} (I:Inv X pins σ H s) (e:H a=some (.dK kvs)) (ry:RelV (kV k) u) (l:valV kvs k=some v) (hm:more=[]∨∃x,more=[x])
  (h:∀w' s',Inv X pins σ (upd H a (.dK (i6 kvs k))) s'→RelV v w'→Q w' s'):wpAny (model X.prog X.w) A (call (.builtin "dict.pop") (.ref a::u::more)) Q E s:=by
 obtain⟨z,hd,vs,rel,dd⟩:=oz I.hok e
 obtain⟨w',hw,rw'⟩:=RelO.some_of (v:=v) (o:=valueAt vs k) (by rw[←l];exact rel.val k)
 have hp:(keyPart u).isSome=true:=by
  cases k with
  |inl i=>obtain⟨t,q⟩:=(show ∃t,u=Value.int i t from ry);subst q;rfl
  |inr x=>obtain⟨t,q⟩:=(show ∃t,u=Value.str x t from ry);subst q;rfl
 have ha:argsOk "dict.pop" ⟨.ref a::u::more,[]⟩:=by
  rcases hm with q|⟨x,q⟩
  ·subst q;exact PySem.F.args_dict_pop_2 _ _
  ·subst q;exact PySem.F.args_dict_pop_3 _ _ _
 refine call_meetsIn PySem.F.slot_dict_pop dd.typeIs PySem.F.entry_dict_pop ha (meets_dict_pop_there (aT X.prog X.w) a (gK ry) more hm hp)
  ⟨vs,w',dd,by rw[←rel.length];exact z,hw,fun h' dd' hs=>h w' _ ?_ rw'⟩
 have he:∃q,h'.get? a=some q:=let ⟨q,_,_,hq,_⟩:=dd';⟨q,hq⟩
 exact ik I (by rw[e];exact True.intro) hs he (k0 (Nat.le_trans (rR kvs k) z) hd (rel.drop k) dd')
theorem wO {Q:Value→Shared→Prop} (I:Inv X pins σ H s) (e:Rd H a (.dK kvs)) (h:∀t s',Inv X pins σ H s'→Q (.int kvs.length t) s'):wpAny (model X.prog X.w) A (call (.builtin "len") [.ref a]) Q E s:=by
 obtain⟨z,hd,vs,rel,dd⟩:=eI I.hok e
 refine call_len_dict hd dd (by rw[←rel.length];rw[sizeLine_eq] at z;omega) ?_
 rw[←rel.length]
 exact h _ _ (I.tok _)
end
def NoSl (i:Expr):Prop:=∀ov iv,subscripted i false ov iv=operate [ov,iv] (getItem ov iv)
theorem sW {prog:Program} {w:World} {A:Around} {E:Value→Shared→Prop} {s:Shared} {env:Env} {value slice:Expr} {pos:Pos} {T id:String} {Q:Value→Shared→Prop}
  (hl:typeLookup (.type T) "__getitem__" = pure (some (.builtin id))) (hs:NoSl slice)
  (h:wpAny (model prog w) A (eval value env) (fun o s₁=>wpAny (model prog w) A (eval slice env) (fun i s₂=>s₂.TypeIs o T∧wpAny (model prog w) A (getItem o i) Q E s₂) E s₁) E s) :
  wpAny (model prog w) A (eval (.Subscript value slice pos) env) Q E s:=by
 refine Subscript_ (wpAny_mono h (fun o s₁ h₁=>wpAny_mono h₁ (fun i s₂ h₂=>?_) fun _ _ x=>x) fun _ _ x=>x)
 obtain⟨hT,h₂⟩:=h₂
 unfold subscriptTail
 refine wpAny_bind ?_
 rw[getitemInPython_of_ne hT.not_modules]
 refine wpAny_bind (wpAny_specialOf hT hl ?_)
 have fin:wpAny (model prog w) A (subscripted slice false o i) (fun r s₃=>wpAny (model prog w) A (letTemporaryGo value o r >>= fun _=>pure r) Q E s₃) E s₂:=by
  rw[hs o i]
  exact wpAny_operating (wpAny_mono h₂ (fun r s₃ h₃=>wpAny_bind (wpAny_letTemporaryGo (wpAny_pure h₃))) fun _ _ x=>x)
 first
  |exact wpAny_pure (wpAny_bind fin)
  |exact wpAny_bind (wpAny_pure (wpAny_bind fin))
  |exact wpAny_bind fin
theorem ml {X:Cx} {pins:List (Addr × Obj)} {σ:St} {H:Hp} {s:Shared} {a:Addr} {y:V} {o:Option V} (I:Inv X pins σ H s) (g:DGet H a y o):s.TypeIs (.ref a) "dict":=by
 rcases g with ⟨kvs,k,e,_,_⟩|⟨kvs,k,b,e,_,_,_⟩
 ·obtain⟨_,_,vs,_,dd⟩:=eI I.hok e
  exact dd.typeIs
 ·obtain⟨_,_,xs,_,dd⟩:=gP I.hok e
  exact dd.typeIs
def qb (td ty:TE):TE:=fun σ H Q=>td σ H fun x H1=>ty σ H1 fun y H2=>∃a v,x=.ref a∧DGet H2 a y (some v)∧Q v H2
def tDIn (ty td:TE):TE:=fun σ H Q=>ty σ H fun y H1=>td σ H1 fun x H2=>∃a o,x=.ref a∧DGet H2 a y o∧Q (.bl o.isSome) H2
def sV (ty td:TE):TE:=fun σ H Q=>ty σ H fun y H1=>td σ H1 fun x H2=>∃a o,x=.ref a∧DGet H2 a y o∧Q (.bl (!o.isSome)) H2
def wp (td ty tv:TE):TS:=fun D σ H=>tv σ H fun v H1=>td σ H1 fun x H2=>ty σ H2 fun y H3=>∃a H4,x=.ref a∧DPut H3 a y v H4∧D.nx σ H4
section
variable {X:Cx} {o i e value:Expr} {pos pos' tpos:Pos} {td ty tv:TE}
theorem e6 (hu:X.A.units+1 < cLine) (ho:PE X o td) (hi:PE X i ty) (hs:NoSl i):PE X (.Subscript o i pos) (qb td ty):=by
 intro pins s σ H Q I h
 refine sW PySem.F.slot_dict_getitem.lookup hs (thn (ho pins s σ H _ I h) fun u s1 ⟨x,H1,I1,rx,q1⟩=>thn (hi pins s1 σ H1 _ I1 q1) fun iv s2 ⟨y,H2,I2,ry,a,v,ex,g,q2⟩=>?_)
 subst ex
 obtain rfl:u=Value.ref a:=rx
 exact⟨ml I2 g,pN hu I2 g ry fun w' s3 I3 rw'=>⟨v,H2,I3,rw',q2⟩⟩
theorem m9 (hu:X.A.units+1 < cLine) (hi:PE X i ty) (ho:PE X o td):PC X .In i o (tDIn ty td):=by
 intro pins s σ H Q I h
 refine thn (hi pins s σ H _ I h) fun iv s1 ⟨y,H1,I1,ry,q1⟩=>thn (ho pins s1 σ H1 _ I1 q1) fun u s2 ⟨x,H2,I2,rx,a,ov,ex,g,q2⟩=>?_
 subst ex
 obtain rfl:u=Value.ref a:=rx
 exact d_in hu I2 g ry fun s3 I3=>⟨.bl ov.isSome,H2,I3,rfl,q2⟩
theorem jx (hu:X.A.units+1 < cLine) (hi:PE X i ty) (ho:PE X o td):PC X .NotIn i o (sV ty td):=by
 intro pins s σ H Q I h
 refine thn (hi pins s σ H _ I h) fun iv s1 ⟨y,H1,I1,ry,q1⟩=>thn (ho pins s1 σ H1 _ I1 q1) fun u s2 ⟨x,H2,I2,rx,a,ov,ex,g,q2⟩=>?_
 subst ex
 obtain rfl:u=Value.ref a:=rx
 exact um hu I2 g ry fun s3 I3=>⟨.bl (!ov.isSome),H2,I3,rfl,q2⟩
theorem dZ (hu:X.A.units+1 < cLine) (ho:PE X o td) (hi:PE X i ty) (hv:PE X value tv) (hs:swapsWith value (some (.Subscript o i pos')) pos.line X.env=pure false) :
  PS X (.Assign [.Subscript o i pos'] value pos) (wp td ty tv):=by
 intro pins s σ H D I h
 refine wpAny_Assign_Subscript (thn (hv pins s σ H _ I h) fun r s1 ⟨v,H1,I1,rv,q1⟩=>thn (ho pins s1 σ H1 _ I1 q1) fun u s2 ⟨x,H2,I2,rx,q2⟩=>thn (hi pins s2 σ H2 _ I2 q2) fun iv s3 ⟨y,H3,I3,ry,a,H4,ex,g,q3⟩=>?_) hs
 subst ex
 obtain rfl:u=Value.ref a:=rx
 exact pM hu I3 g ry rv fun s4 I4=>⟨σ,H4,I4,q3⟩
end
theorem rS {P:Program} {w:World} {H:Hp} (h:Heap) (hb:sysModules < h.objs.size):aU P w H (h.push {cls:=.type "dict",data:=.dict #[]}) h.objs.size (.dK []):=
 ⟨Nat.zero_le _,beq_eq_false_iff_ne.mpr (Ne.symm (Nat.ne_of_lt hb)),[],.nil,Heap.DictOf.new h⟩
theorem rQ {P:Program} {w:World} {H:Hp} (h:Heap) (hb:sysModules < h.objs.size):aU P w H (h.push {cls:=.type "dict",data:=.dict #[]}) h.objs.size (.dT []):=
 ⟨Nat.zero_le _,beq_eq_false_iff_ne.mpr (Ne.symm (Nat.ne_of_lt hb)),[],.nil,_,#[],0,Heap.get?_push_size _ rfl,⟨rfl,rfl,rfl⟩,rfl,rfl,List.nodup_nil⟩
def u3:TE:=fun _ H Q=>∀p,H p=none→Q (.ref p) (upd H p (.dK []))
def uZ:TE:=fun _ H Q=>∀p,H p=none→Q (.ref p) (upd H p (.dT []))
section
variable {X:Cx} {pos:Pos}
theorem fS:PE X (.Dict [] [] pos) u3:=fun pins s σ H Q I h=>
 wpAny_Dict_empty ⟨.ref s.heap.objs.size,_,I.laid (a:=s.heap.objs.size) (o:=.dK []) (t':=s.toks) (fun _ _ q=>Heap.get?_push_of_some _ q) (Nat.le_refl _) (rS s.heap I.big),rfl,h _ (I.hok.fresh (Nat.le_refl _))⟩
theorem lG:PE X (.Dict [] [] pos) uZ:=fun pins s σ H Q I h=>
 wpAny_Dict_empty ⟨.ref s.heap.objs.size,_,I.laid (a:=s.heap.objs.size) (o:=.dT []) (t':=s.toks) (fun _ _ q=>Heap.get?_push_of_some _ q) (Nat.le_refl _) (rQ s.heap I.big),rfl,h _ (I.hok.fresh (Nat.le_refl _))⟩
end
structure M1 (X:Cx) (o:Expr) (m:Str) (apos:Pos) (e:Expr) (cpos:Pos):Prop where
 base:attributeBase o m X.env (eval o X.env)=eval o X.env
 few:((backTo cpos (starEach [e] X.env)).all (fun x=>!x.1)&&(backToKw cpos (keywordEach [] X.env)).all (fun x=>x.1.isSome)
  && decide (([e]:List Expr).length+([]:List Keyword).length+(if ([]:List Keyword).isEmpty then 0 else 1) < 30))=true
 line:(apos.endLine==cpos.line)=true
 trees:backTo cpos (starEach [e] X.env)=[(false,eval e X.env)]
def IsD (H:Hp) (a:Addr):Prop:=(∃kvs,Rd H a (.dK kvs))∨∃kvs,Rd H a (.dT kvs)
theorem nE {X:Cx} {pins:List (Addr × Obj)} {σ:St} {H:Hp} {s:Shared} {a:Addr} (I:Inv X pins σ H s) (d:IsD H a) :
  s.TypeIs (.ref a) "dict"∧(∀b,Value.ref a=.ref b→∃ob,s.heap.get? b=some ob∧ob.dict=none)∧(a==sysModules)=false:=by
 rcases d with ⟨kvs,e⟩|⟨kvs,e⟩
 ·obtain⟨_,hd,vs,_,dd⟩:=eI I.hok e
  refine⟨dd.typeIs,fun b q=>?_,hd⟩
  cases q
  obtain⟨ob,_,_,h1,h2,_⟩:=dd
  exact⟨ob,h1,h2.2.1⟩
 ·obtain⟨_,hd,xs,_,dd⟩:=gP I.hok e
  refine⟨dd.typeIs,fun b q=>?_,hd⟩
  cases q
  obtain⟨ob,_,_,h1,h2,_⟩:=dd
  exact⟨ob,h1,h2.2.1⟩
section
variable {X:Cx} {pins:List (Addr × Obj)} {σ:St} {H:Hp} {s:Shared} {a:Addr} {y d:V} {u r:Value} {o:Option V} {A:Around} {E:Value→Shared→Prop}
theorem v9 {Q:Value→Shared→Prop} (hu:A.units+1 < cLine) (I:Inv X pins σ H s) (g:DGet H a y o) (ry:RelV y u) (h:∀w' s',Inv X pins σ H s'→RelV (o.getD .non) w'→Q w' s') :
  wpAny (model X.prog X.w) A (call (.builtin "dict.get") [.ref a,u]) Q E s:=by
 rcases g with ⟨kvs,k,e,ey,l⟩|⟨kvs,k,b,e,ey,eb,l⟩
 ·subst ey
  obtain⟨z,hd,vs,rel,dd⟩:=eI I.hok e
  refine call_meetsIn PySem.F.slot_dict_get dd.typeIs PySem.F.entry_dict_get (PySem.F.args_dict_get_2 _ _) (meets_dict_get (aT X.prog X.w) a (gK ry) hd) ⟨_,dd.mapOf,h _ _ (I.tok _) ?_⟩
  rw[l]
  exact (rel.val k).getD rfl
 ·subst ey
  cases (show u=Value.ref b from ry)
  obtain⟨z,hd,xs,rel,dd⟩:=gP I.hok e
  refine call_meetsIn PySem.F.slot_dict_get dd.typeIs PySem.F.entry_dict_get (PySem.F.args_dict_get_2 _ _) (meetsH_dict_get (tupleKind (aT X.prog X.w)) a b hd) ⟨tupleKind_room_in1 hu,k,xs,gB I.hok eb,dd,h _ _ (I.tok _) ?_⟩
  rw[l]
  exact (rel.val k).getD rfl
end
def u4 (td ty:TE):TE:=fun σ H Q=>td σ H fun x H1=>∃a,x=.ref a∧IsD H1 a∧ty σ H1 fun y H2=>∃o,DGet H2 a y o∧Q (o.getD .non) H2
def uY (td ty:TE):TE:=fun σ H Q=>td σ H fun x H1=>∃a,x=.ref a∧IsD H1 a∧ty σ H1 fun y H2=>∃kvs k v,H2 a=some (.dK kvs)∧y=kV k∧valV kvs k=some v∧Q v (upd H2 a (.dK (i6 kvs k)))
section
variable {X:Cx} {o e f:Expr} {apos cpos:Pos} {td ty tx:TE}
theorem iK (hu:X.A.units+1 < cLine) (ho:PE X o td) (he:PE X e ty) (m:M1 X o "get" apos e cpos):PE X (.Call (.Attribute o "get" apos) [e] [] cpos) (u4 td ty):=by
 intro pins s σ H Q I h
 refine wpAny_Call_method m.base m.few m.line PySem.F.plainAttrs_dict PySem.F.slot_dict_get PySem.F.type_dict_get (thn (ho pins s σ H _ I h) fun u s1 ⟨x,H1,I1,rx,a,ex,d,q1⟩=>?_)
 subst ex
 obtain rfl:u=Value.ref a:=rx
 obtain⟨t1,t2,_⟩:=nE I1 d
 refine⟨t1,t2,?_⟩
 rw[m.trees]
 refine Calls.callWith_builtin rfl (Calls.evalArgs_plain (Calls.spliced_cons (thn (he pins s1 σ H1 _ I1 q1) fun iv s2 ⟨y,H2,I2,ry,ov,g,q2⟩=>Calls.spliced_nil ?_)))
 exact v9 hu I2 g ry fun w' s3 I3 rw'=>⟨_,H2,I3,rw',q2⟩
theorem qz (ho:PE X o td) (he:PE X e ty) (m:M1 X o "pop" apos e cpos):PE X (.Call (.Attribute o "pop" apos) [e] [] cpos) (uY td ty):=by
 intro pins s σ H Q I h
 refine wpAny_Call_method m.base m.few m.line PySem.F.plainAttrs_dict PySem.F.slot_dict_pop PySem.F.type_dict_pop (thn (ho pins s σ H _ I h) fun u s1 ⟨x,H1,I1,rx,a,ex,d,q1⟩=>?_)
 subst ex
 obtain rfl:u=Value.ref a:=rx
 obtain⟨t1,t2,_⟩:=nE I1 d
 refine⟨t1,t2,?_⟩
 rw[m.trees]
 refine Calls.callWith_builtin rfl (Calls.evalArgs_plain (Calls.spliced_cons (thn (he pins s1 σ H1 _ I1 q1) fun iv s2 ⟨y,H2,I2,ry,kvs,k,v,ea,ey,l,q2⟩=>Calls.spliced_nil ?_)))
 subst ey
 exact wN I2 ea ry l (.inl rfl) fun w' s3 I3 rw'=>⟨v,_,I3,rw',q2⟩
end
section
variable {X:Cx} {pins:List (Addr × Obj)} {σ:St} {H:Hp} {s:Shared} {a:Addr} {kvs:List (Key × V)} {A:Around} {E:Value→Shared→Prop}
theorem rX {Q:Value→Shared→Prop} (I:Inv X pins σ H s) (e:Rd H a (.dK kvs)) (h:∀p s',H p=none→Inv X pins σ (upd H p (.dK kvs)) s'→Q (.ref p) s'):wpAny (model X.prog X.w) A (call (.type "dict") [.ref a]) Q E s:=by
 obtain⟨z,hd,vs,rel,dd⟩:=eI I.hok e
 refine kt_call_dict hd dd (by rw[←rel.length];exact z) fun h' dd' hs=>?_
 refine h _ _ (I.hok.fresh (Nat.le_refl _)) (I.laid (a:=s.heap.objs.size) (o:=.dK kvs) (t':=s.toks) (fun b q hq=>?_) (Nat.le_refl _) (k0 z (beq_eq_false_iff_ne.mpr (Ne.symm (Nat.ne_of_lt I.big))) rel dd'))
 exact (hs.2 b (Nat.ne_of_lt (Heap.lt_size hq))).trans (Heap.get?_push_of_some _ hq)
end
section
variable {X:Cx} {pins:List (Addr × Obj)} {σ:St} {H:Hp} {s:Shared} {a:Addr} {y:V} {u:Value} {A:Around} {E:Value→Shared→Prop}
end
end L2
namespace Att
open PySem PySem.W PySem.Calls PyProof.Rows
theorem gW {P:Params} {h:Heap}:∀(ns:List Int) (vs:List Value),WellAll P h vs (ns.map WData.int)→IntsAre vs ns:=by
 intro ns
 induction ns with
 |nil=>
  intro vs w
  rw[List.map_nil] at w
  cases w
  exact .nil
 |cons n ns ih=>
  intro vs w
  rw[List.map_cons] at w
  cases w with
  |cons a b=>
   cases a
   exact .cons _ _ (ih _ b)
theorem oU {l:OpenLaw} {n:Nat} (hn:l.most=some n) {P:Params} {h:Heap} {args:List WData} {vals:List Value}
  (hpre:l.row.toRowW.claim.pre args=true) (hwl:WellAll P h vals args) :
  ∃a vs ns,vals=[Value.ref a]∧args=[WData.list (ns.map WData.int)]∧h.get? a=some {cls:=.type "list",data:=.seq vs.toArray}∧IntsAre vs ns∧ns.length≤n:=by
 have hsh:WShape.hasAll [] args [.list .int]=true:=(pre_splitW hpre).1
 have hc:l.pre.holds [] {args:=args}=true:=(pre_splitW hpre).2
 obtain⟨d,r,rfl,h1,h2⟩:=hasAllW_cons hsh
 obtain rfl:=hasAllW_nil h2
 obtain⟨xs,rfl,h3⟩:=hasW_list h1
 obtain⟨ns,rfl⟩:=items_int h3
 have hlen:ns.length≤n:=by
  unfold OpenLaw.pre at hc
  have h4:(WTm.not (.lt (.lit (.int (n:Int))) (.len (.arg 0)))).holds [] {args:=[.list (ns.map .int)]}=true:=by
   have h4:=(holds_andW hc).1
   rw[hn] at h4
   exact h4
  have h5:=condW_of h4 (w_not (w_lt w_lit (w_len_list (w_arg rfl))))
  rw[List.length_map] at h5
  refine Nat.le_of_not_lt fun q=>?_
  have q':(n:Int) < ((ns.length:Nat):Int):=by omega
  first
   |(rw[decide_eq_true q'] at h5;exact absurd h5 (by decide))
   |(simp at h5;omega)
 cases hwl with
 |cons w1 w2=>
  cases w2
  cases w1 with
  |list ho hall=>exact⟨_,_,ns,rfl,rfl,ho,gW ns _ hall,hlen⟩
theorem oY (l:OpenLaw) (args:List WData):l.row.toRowW.claim.post args (.bool true) args=true:=
 postW_of (r:=l.row.toRowW) (X:=(true==true))
  (show WShape.has [] (.bool true) .bool=true by first|rfl|decide|simp[WShape.has,WShape.arms,WShape.armsAll])
  (show (WTm.eq .res (.lit (.bool true))).value [] {args:=args,res:=some (.bool true),after:=args}=some (.bool (true==true)) from w_eq_bool (w_res rfl) w_lit) rfl
theorem attach_call {l:OpenLaw} {n:Nat} {q:Program} {loose:List Str} {XP:(Str→Option Value)→Heap→Prop} {YP:World→Heap→Prop} {d:DefRec}
  (hn:l.most=some n) (hdf:d.params.defaults=[])
  (call:∀(w:World) (s₀ s₁:Shared) (mg mb:Str→Option Value) (fa:Addr) (o:Obj) (pm cd doc:Value) (a:Addr) (vs:List Value) (ns:List Int),
   Ground q loose [] XP w s₀ mg mb s₁.heap→YP w s₁.heap →
   s₁.heap.get? fa=some o→o.data=.func (docDef d.name d.params d.body d.scope pm cd doc)→s₁.heap.CodeRec cd d.name→mg d.name=some (.ref fa) →
   s₁.heap.get? a=some {cls:=.type "list",data:=.seq vs.toArray}→IntsAre vs ns→ns.length≤n→s₁.gens=#[] →
   codeAny (model l.prog w) callerA (.call (.ref fa) ⟨[.ref a],[]⟩) (fun r s'=>r=.ok (.ret (.bool true))∧OldK s₁.heap s'.heap∧s'.os=s₁.os∧AllBare s'.gens) s₁) :
  WalkO q loose XP YP l.row.toRowW d [] (fun f vs=>PySem.call f vs):=by
 intro w s₀ s₁ mg mb G Y fa o pm cd doc dV kV ho hd hcd hD hmg hg args vals as hpre hlay hrd hwl hlo
 obtain rfl:dV=.none:=Dflts.none hD hdf
 obtain rfl:kV=.none:=Dflts.noKw hD
 obtain⟨a,vs,ns,rfl,rfl,hobj,hints,hlen⟩:=oU hn hpre hwl
 refine enter_call (codeAny_mono (call w s₀ s₁ mg mb fa o pm cd doc a vs ns G Y ho (fd_plain hd) hcd hmg hobj hints hlen hg) fun r s' hq=>?_)
 obtain⟨rfl,h2,h3,h4⟩:=hq
 exact⟨.inl ⟨.bool true,.bool true,[],rfl,fun _=>rfl,.bool true,oY l _,fun _=>⟨List.Pairwise.nil,fun _ hm=>(nomatch hm)⟩⟩,h2,h3,h4⟩
section
variable {prog:Program} {w:World} {A:Around} {E:Value→Shared→Prop} {s:Shared} {K:Frag}
end
end Att
namespace L2
open PySem PySem.Spec PyProof.Rows
theorem jq:∀{vs:List Value} {ns:List Int},IntsAre vs ns→Vals (ns.map V.int) vs
 |_,_,.nil=>.nil
 |_,_,.cons n t h=>.cons ⟨t,rfl⟩ (jq h)
def Only (H:Hp):Prop:=∀b,H b=none∨∃o xs,H b=some (.frz o (.lst xs))
theorem q0 {P:Program} {w:World} {K:W.Frag} {mg mb:Str→Option Value} {CX:CXT} {k:Nat} {fa a:Addr} {fd:FuncData} {x:Str} {sp:Sp} {s₁:Shared} {vs:List Value} {ns:List Int}
  (KX:K.In s₁.heap) (hns:s₁.heap.Ns mainGlobals mg) (hb:s₁.heap.Ns builtinsNs mb) (hbb:∀x:Str,x≠"__name__"→mb x=bootBuiltins x) (hlim:s₁.heap.NoLimit) (hg:s₁.gens=#[])
  (ha:s₁.heap.get? a=some {cls:=.type "list",data:=.seq vs.toArray}) (hi:IntsAre vs ns) (hl:ns.length≤sizeLine) (hr:Room k callerA)
  (F:∀base:Heap,K.In base→base.Ns mainGlobals mg→FnOk P w K mg base CX k fa fd [x] sp) (hbind:∀(s:Shared) (u:Value),BindsTo s fd ⟨[u],[]⟩ [(x,u)])
  (hsp:∀H:Hp,Only H→SqL K H a (ns.map V.int)→sp [.ref a] H (fun v _=>v=.bl true) fun _ _ _=>False)
  (hCX:∀H e s',CX [] H s₁ (fun _ _ _=>False) e s'→False) :
  codeAny (model P w) callerA (.call (.ref fa) ⟨[.ref a],[]⟩) (fun r s'=>r=.ok (.ret (.bool true))∧OldK s₁.heap s'.heap∧s'.os=s₁.os∧AllBare s'.gens) s₁:=by
 have rv:=jq hi
 have lenV:=hi.length
 have core:∀H:Hp,Only H→SqL K H a (ns.map V.int)→HOk P w H s₁.heap→(∀b,H b≠none→b=a)→(H a≠none→K.lookup a=none) →
   codeAny (model P w) callerA (.call (.ref fa) ⟨[.ref a],[]⟩) (fun r s'=>r=.ok (.ret (.bool true))∧OldK s₁.heap s'.heap∧s'.os=s₁.os∧AllBare s'.gens) s₁:=by
  intro H hO hS hok hA hK
  have base_of:∀{b:Addr} {o:Obj},s₁.heap.get? b=some o→H b=none→(hidT s₁.heap H).get? b=some o:=fun e n=>rf e n
  have noA:∀{b:Addr} {o:Obj} {es:Array DictEntry} {ep:Nat},s₁.heap.get? b=some o→o.data=.dict es ep→H b=none:=fun {b o es ep} e d=>by
   cases q:H b with
   |none=>rfl
   |some u=>
    have e':b=a:=hA b (by rw[q];simp)
    subst e'
    rw[ha] at e;cases e
    have d':Data.seq vs.toArray _=Data.dict es ep:=d
    cases d'
  have nsK:∀{b:Addr} {m:Str→Option Value},s₁.heap.Ns b m→(hidT s₁.heap H).Ns b m:=fun {b m} ⟨o,es,ep,e,d,r⟩=>⟨o,es,ep,base_of e (noA e d),d,r⟩
  have hKb:K.In (hidT s₁.heap H):=fun b o e=>base_of (KX b o e) (by
   cases q:H b with
   |none=>rfl
   |some u=>
    have e':b=a:=hA b (by rw[q];simp)
    subst e'
    rw[hK (by rw[q];simp)] at e;cases e)
  have hM:Mod K mg (hidT s₁.heap H):=⟨hKb,nsK hns,⟨mb,nsK hb,hbb⟩,let ⟨mc,h1,h2⟩:=hlim;⟨mc,nsK h1,h2⟩⟩
  have e0:Env0 P w K mg (hidT s₁.heap H) callerA [] s₁ H:=⟨rfl,hM,fun b o e=>tZ e,Nat.le_of_eq (pF _ _),trivial,fun b hb=>absurd (show b∈([]:List Addr) from hb) (by simp),hok,.of_eq hg⟩
  refine codeAny_mono ((F _ hKb (nsK hns)).run callerA [] s₁ H ⟨[.ref a],[]⟩ [.ref a] [.ref a] _ _ hr e0 (hbind s₁ (.ref a)) (.cons rfl .nil) (hsp H hO hS)) fun r s' h=>?_
  cases r with
  |error e=>exact (hCX H e s' h).elim
  |ok fl=>
   cases fl with
   |next=>exact False.elim h
   |brk=>exact False.elim h
   |cont=>exact False.elim h
   |ret u=>
    obtain⟨v,H',os,bare,un,hok',r',q⟩:=h
    have q':v=.bl true:=q
    subst q'
    obtain rfl:u=Value.bool true:=r'
    refine⟨rfl,OldK.of_keep fun b o e=>?_,os,bare⟩
    cases q:H b with
    |none=>exact un.keep b o e q (by intro z;exact absurd (show b∈([]:List Addr) from z) (by simp)) (by simp)
    |some u=>
     rcases hO b with z|⟨ob,xs,z⟩
     ·rw[q] at z;cases z
     ·have z2:=un.frzs b ob _ z
      obtain⟨e1,_⟩:=hok b _ z
      obtain⟨e2,_⟩:=hok' b _ z2
      rw[e] at e1;cases e1
      exact e2
 cases hk:K.lookup a with
 |some o=>
  have e:=KX a o hk
  rw[ha] at e
  cases e
  refine core (fun _=>none) (fun _=>.inl rfl) (.inr ⟨_,vs.toArray,_,hk,rfl,rfl,rfl,by rw[List.size_toArray,lenV];exact hl,by simpa using rv⟩) (fun b u z=>by have z':(none:Option HO)=some u:=z;cases z') (fun b z=>absurd rfl z) fun z=>absurd rfl z
 |none=>
  refine core (fun b=>if b=a then some (.frz {cls:=.type "list",data:=.seq vs.toArray} (.lst (ns.map V.int))) else none) (fun b=>?_) (.inl (.inr ⟨{cls:=.type "list",data:=.seq vs.toArray},if_pos rfl⟩)) (fun b u z=>?_) (fun b z=>?_) fun _=>hk
  ·by_cases hb:b=a
   ·exact .inr ⟨_,_,if_pos hb⟩
   ·exact .inl (if_neg hb)
  ·by_cases hb:b=a
   ·have z':=(if_pos hb).symm.trans z
    cases z'
    subst hb
    exact⟨ha,by rw[List.length_map];exact hl,vs,_,rv,ha⟩
   ·have z':=(if_neg hb).symm.trans z
    cases z'
  ·by_cases hb:b=a
   ·exact hb
   ·exact absurd (if_neg hb) z
end L2
namespace L2
open PySem PySem.Spec PyProof.Rows
theorem walk_of {l:W.OpenLaw} {n k:Nat} {q:Program} {loose:List Str} {XP:(Str→Option Value)→Heap→Prop} {YP:World→Heap→Prop} {d:DefRec} {K:Params→W.Frag} {CX:World→CXT} {sp:World→Sp} {x:Str}
  (hn:l.most=some n) (hn2:n≤sizeLine) (hdf:d.params.defaults=[]) (hr:Room k callerA)
  (hY:∀(w:World) (h:Heap),YP w h→(K w.params).In h)
  (F:∀(w:World) (mg:Str→Option Value) (fa:Addr) (h:Heap),(K w.params).In h→h.Ns mainGlobals mg→mg d.name=some (.ref fa) →
   ∃fd:FuncData,(∀(s:Shared) (u:Value),BindsTo s fd ⟨[u],[]⟩ [(x,u)]) ∧
    ∀base:Heap,(K w.params).In base→base.Ns mainGlobals mg→FnOk l.prog w (K w.params) mg base (CX w) k fa fd [x] (sp w))
  (hsp:∀(w:World) (H:Hp) (a:Addr) (ns:List Int),ns.length≤n→Only H→SqL (K w.params) H a (ns.map V.int)→sp w [.ref a] H (fun v _=>v=.bl true) fun _ _ _=>False)
  (hCX:∀(w:World) (H:Hp) (s:Shared) (e:Value) (s':Shared),CX w [] H s (fun _ _ _=>False) e s'→False) :
  W.WalkO q loose XP YP l.row.toRowW d [] (fun f vs=>PySem.call f vs):=by
 refine Att.attach_call hn hdf fun w s₀ s₁ mg mb fa o pm cd doc a vs ns G Y ho hd hcd hmg hobj hints hlen hg=>?_
 have KX:=hY w _ Y
 obtain⟨fd,hb,hF⟩:=F w mg fa _ KX G.T.g hmg
 exact q0 KX G.T.g G.T.b G.T.builtins G.T.nolimit hg hobj hints (Nat.le_trans hlen hn2) hr hF hb (fun H hO hS=>hsp w H a ns hlen hO hS) fun H e s'=>hCX w H s₁ e s'
end L2
namespace L2
open PySem PySem.Spec PyProof.Rows
abbrev CX0:CXT:=fun _ _ _ _ _ _=>False
abbrev E0:XK:=fun _ _ _=>False
theorem pass0 {X:Cx}:Passes CX0 X E0:=fun _ _ _ _ _ _ _ h=>h.elim
structure Fun (K:W.Frag) (x qual:Str) (st:Stmt) (f:Addr) (fd:FuncData):Prop where
 ex:∃(oc:Value) (od:Option Addr) (kV doc pm:Value) (an:Option Addr) (cdv ct:Value) (osl:Array (Option Value)),
  fd=W.fnOf x qual (aj st) (ai st) (ae st) .none kV doc pm an cdv ct∧K.lookup f=some ⟨oc,od,.func fd,osl⟩∧W.codeIn K cdv qual=true
 kp:W.keepIn K (.ref f)=true
section
variable {P:Program} {w:World} {K:W.Frag} {mg:Str→Option Value} {base:Heap}
theorem Fun.ok {x qual:Str} {st:Stmt} {f:Addr} {fd:FuncData} {N ps:List Str} {k:Nat} {sp:Sp} (F:Fun K x qual st f fd) (S:aB N ps (ae st)) (len:∀vs H Q E,sp vs H Q E→vs.length=ps.length)
  (hbody:∀(cdv:Value) (A:Around) (outer:List Env) (s:Shared) (H:Hp) (vs:List V) (Q:VK) (E:XK),Room k (A.deeper (envOfC qual (ae st) s.heap.objs.size f cdv))→sp vs H Q E →
   ∃t,PSs (cxOf CX0 P w K mg base N qual (ae st) f cdv A outer s H E).nox (ai st) t∧t {nx:=fun _ H'=>Q .non H',rt:=Q} (start N vs) H):FnOk P w K mg base CX0 (k+1) f fd ps sp:=by
 obtain⟨oc,od,kV,doc,pm,an,cdv,ct,osl,rfl,lk,hcd⟩:=F.ex
 refine wL lk hcd S len fun A outer s H vs Q E hr hsp=>?_
 obtain⟨t,h,q⟩:=hbody cdv A outer s H vs Q E hr hsp
 exact⟨t,h.nox,q⟩
theorem Fun.binds {x qual:Str} {st:Stmt} {f:Addr} {fd:FuncData} {ps:List Str} (F:Fun K x qual st f fd)
  (h:∀(kV doc pm:Value) (an:Option Addr) (cdv ct:Value) (us:List Value),us.length=ps.length→bindArgs (W.fnOf x qual (aj st) (ai st) (ae st) .none kV doc pm an cdv ct) ⟨us,[]⟩=pure (ps.zip us)):Binds K fd ps []:=by
 obtain⟨oc,od,kV,doc,pm,an,cdv,ct,osl,rfl,lk,hcd⟩:=F.ex
 exact .all (h kV doc pm an cdv ct)
theorem rA {x qual:Str} {st:Stmt} {f:Addr} {oc:Value} {od an:Option Addr} {osl:Array (Option Value)} {kV doc pm cdv ct:Value} (l:K.lookup f=some ⟨oc,od,.func (W.fnOf x qual (aj st) (ai st) (ae st) .none kV doc pm an cdv ct),osl⟩)
  (c:W.codeIn K cdv qual=true) (k:W.keepIn K (.ref f)=true):Fun K x qual st f (W.fnOf x qual (aj st) (ai st) (ae st) .none kV doc pm an cdv ct):=⟨⟨oc,od,kV,doc,pm,an,cdv,ct,osl,rfl,l,c⟩,k⟩
end
theorem cL {A:Around} {k:Nat} (hr:Room k A):A.units+1 < cLine:=Nat.lt_of_le_of_lt (Nat.add_le_add_left (by decide:1≤64) _) hr.units
section
variable {X:Cx}
theorem pv (i:Nat) {x:Str} {pos:Pos} (hN:X.N[i]? = some x:=by rfl) (hv:Vis X.env.scope x:=by first|exact Or.inl rfl|exact Or.inr (Or.inl rfl)|exact Or.inr (Or.inr rfl)) (hd:(x==("__debug__" : Str))=false:=by decide)
  (hcd:(x==("__classdict__" : Str))=false:=by decide):PE X (.Name x pos) (tVar i):=vx hN hv hd hcd
theorem pR:bZ X (.builtin "len") (fun xs H Q=>∃a kvs,xs=[V.ref a]∧H a=some (.dK kvs)∧Q (.int kvs.length) H):=by
 intro pins s σ H xs us Q I r h
 obtain⟨a,kvs,rfl,ha,q⟩:=h
 obtain⟨u,rfl,ru⟩:=vals1 r
 cases ru
 exact wO I (.inl ha) fun t s' I'=>⟨.int kvs.length,H,I',⟨t,rfl⟩,q⟩
end
theorem iteF {A B:Prop} (h:B):if false=true then A else B:=by
 rw[if_neg Bool.false_ne_true]
 exact h
theorem iteT {A B:Prop} (h:A):if true=true then A else B:=by
 rw[if_pos rfl]
 exact h
theorem ite2 {c A B:Prop} [Decidable c] (h1:c→A) (h2:¬c→B):if c then A else B:=by
 by_cases h:c
 ·rw[if_pos h]
  exact h1 h
 ·rw[if_neg h]
  exact h2 h
def Same (H H':Hp):Prop:=∀b o,H b=some o→H' b=some o
theorem Same.refl (H:Hp):Same H H:=fun _ _ h=>h
theorem Same.trans {H H1 H2:Hp} (a:Same H H1) (b:Same H1 H2):Same H H2:=fun c o h=>b c o (a c o h)
theorem Same.free {H H':Hp} (e:Same H H') {l:Addr} (h:H' l=Option.none):H l=Option.none:=by
 cases q:H l with
 |none=>rfl
 |some o=>
  rw[e l o q] at h
  cases h
theorem Same.seq {K:W.Frag} {H H':Hp} {a:Addr} {xs:List V} (e:Same H H') (h:SqL K H a xs):SqL K H' a xs:=by
 rcases h with (h|⟨o,h⟩)|h
 ·exact .inl (.inl (e _ _ h))
 ·exact .inl (.inr ⟨o,e _ _ h⟩)
 ·exact .inr h
section
variable {κ:Type} [DecidableEq κ]
theorem sQ {kvs:List (κ × V)} {k:κ} {v:V} (h:valV kvs k=some v):k∈kvs.map (·.1):=by
 have q:(kvs.any fun kv=>decide (kv.1=k))=true:=by
  rw[fI,h]
  all_goals rfl
 obtain⟨p,hp,e⟩:=List.any_eq_true.mp q
 exact List.mem_map.mpr ⟨p,hp,of_decide_eq_true e⟩
end
end L2
end
section
namespace L2
open PySem PySem.Spec PyProof.Rows
def clGo (env:Env):List (Str × NameKind)→List (Str × Addr)→List (Str × Addr)
 | [],cs=>cs
 |(n,k)::r,cs=>clGo env r (if k==.free then (n,(env.cells.lookup n).getD 0)::cs else cs)
theorem ja (env:Env):∀(names:List (Str × NameKind)) (cs:List (Str × Addr)),(∀x∈names,x.2=.free→∃c,env.cells.lookup x.1=some c) →
  (forIn names cs (fun (x:Str × NameKind) (r:List (Str × Addr))=>(do
   if x.2==NameKind.free then
    let a ←cellOf env x.1
    pure (ForInStep.yield ((x.1,a)::r))
   else pure (ForInStep.yield r):Sem (ForInStep (List (Str × Addr))))))=pure (clGo env names cs)
 | [],cs,_=>rfl
 |(n,k)::r,cs,h=>by
  have ih:=fun cs=>ja env r cs fun x hx=>h x (List.mem_cons_of_mem _ hx)
  rw[List.forIn_cons]
  by_cases hk:k=.free
  ·subst hk
   obtain⟨c,hc⟩:=h (n,.free) List.mem_cons_self rfl
   have e:cellOf env n=pure c:=by
    have hc':env.cells.lookup n=some c:=hc
    unfold cellOf
    rw[hc']
    try rfl
   rw[if_pos (show (((n,NameKind.free).2==NameKind.free)=true) from rfl),e]
   refine Eq.trans ?_ ((ih ((n,c)::cs)).trans ?_)
   ·rfl
   ·have hc':env.cells.lookup n=some c:=hc
    show pure (clGo env r ((n,c)::cs))=pure (clGo env r ((n,(env.cells.lookup n).getD 0)::cs))
    rw[hc']
    rfl
  ·have hb:(k==NameKind.free)=false:=by simpa using hk
   rw[if_neg (show ¬(((n,k).2==NameKind.free)=true) by rw[show ((n,k).2==NameKind.free)=false from hb];simp)]
   refine Eq.trans ?_ ((ih cs).trans ?_)
   ·rfl
   ·show pure (clGo env r cs)=pure (clGo env r (if (k==NameKind.free)=true then _ else cs))
    rw[hb]
    rfl
theorem i9 {scope:Scope} {env:Env} (h:∀x∈scope.names,x.2=.free→∃c,env.cells.lookup x.1=some c):closureFor scope env=pure (clGo env scope.names []):=by
 have e:=ja env scope.names [] h
 unfold closureFor
 simp only[bind_pure_comp,map_pure] at e ⊢
 first
  |(rw[e];rfl)
  |exact e
theorem oH {env:Env}:∀{names:List (Str × NameKind)} {cs:List (Str × Addr)} {x:Str} {c:Addr},(∀y∈names,y.2=.free→∃c,env.cells.lookup y.1=some c) →
  (clGo env names cs).lookup x=some c→env.cells.lookup x=some c∨cs.lookup x=some c
 | [],cs,x,c,_,h=>.inr h
 |(n,k)::r,cs,x,c,hf,h=>by
  have hf':∀y∈r,y.2=.free→∃c,env.cells.lookup y.1=some c:=fun y hy=>hf y (List.mem_cons_of_mem _ hy)
  rcases oH (names:=r) hf' h with q|q
  ·exact .inl q
  ·by_cases hk:(k==NameKind.free)=true
   ·rw[if_pos hk] at q
    have hk':k=.free:=by simpa using hk
    obtain⟨c',e⟩:=hf (n,k) List.mem_cons_self hk'
    have e:env.cells.lookup n=some c':=e
    rw[List.lookup_cons] at q
    cases hx:x==n with
    |true=>
     rw[hx] at q
     have hx':x=n:=by simpa using hx
     subst hx'
     rw[e] at q
     have q':c' = c:=by simpa using q
     exact .inl (q' ▸ e)
    |false=>
     rw[hx] at q
     exact .inr q
   ·rw[if_neg hk] at q
    exact .inr q
theorem i_ {env:Env}:∀{names:List (Str × NameKind)} {cs:List (Str × Addr)} {x:Str},((x,NameKind.free)∈names∨(cs.lookup x).isSome=true)→((clGo env names cs).lookup x).isSome=true
 | [],cs,x,h=>by
  rcases h with h|h
  ·simp at h
  ·exact h
 |(n,k)::r,cs,x,h=>by
  refine i_ (names:=r) ?_
  rcases h with h|h
  ·rcases List.mem_cons.mp h with e|e
   ·cases e
    refine .inr ?_
    rw[if_pos (by rfl),List.lookup_cons,beq_self_eq_true]
    rfl
   ·exact .inl e
  ·refine .inr ?_
   by_cases hk:(k==NameKind.free)=true
   ·rw[if_pos hk,List.lookup_cons]
    cases hx:x==n with
    |true=>rfl
    |false=>exact h
   ·rw[if_neg hk]
    exact h
theorem eQ (env:Env):∀(names:List (Str × NameKind)) (x:Str),
  (names.map fun (n,k)=>if (k==NameKind.free&&env.scope.kind==.function&&env.kindOf n==some .cell) then (n,NameKind.cell) else (n,k)).lookup x=(names.lookup x).map fun k=>if (k==NameKind.free&&env.scope.kind==.function&&env.kindOf x==some .cell) then NameKind.cell else k
 | [],_=>rfl
 |(n,k)::r,x=>by
  have ih:=eQ env r x
  rw[List.map_cons]
  dsimp only at ih ⊢
  by_cases hc:(k==NameKind.free&&env.scope.kind==.function&&env.kindOf n==some .cell)=true
  ·rw[if_pos hc,List.lookup_cons,List.lookup_cons]
   cases hx:x==n with
   |true=>
    have hx':x=n:=by simpa using hx
    subst hx'
    simp only[Option.map_some,hc,if_true]
   |false=>exact ih
  ·rw[if_neg hc,List.lookup_cons,List.lookup_cons]
   cases hx:x==n with
   |true=>
    have hx':x=n:=by simpa using hx
    subst hx'
    simp only[Option.map_some]
    rw[if_neg hc]
   |false=>exact ih
def eT (X:Cx) (N:List Str) (scope:Scope) (C:Addr) (s:Shared) (H:Hp) (fp:List Addr) (pins:List (Addr × Obj)):Cx:=
 {X with N:=N,s₀:=s,H₀:=H,env:=compEnvC scope (clGo X.env scope.names []) C X.env,outer:=X.stack,ex:=fp,fn:=fun _=>false,pn:=X.pn++pins,xe:=fun _ _=>False}
def fG (fr:List (Option Nat)) (σ:St):St:=fr.map fun o=>o.bind fun i=>(σ[i]?).join
structure bQ (X:Cx) (N:List Str) (fr:List (Option Nat)) (scope:Scope):Prop where
 nd:N.Nodup
 len:fr.length=N.length
 kind:scope.kind=.function
 nocell:∀y∈scope.names,y.2≠.cell
 names:∀y∈scope.names,y.2=.local→scope.names.lookup y.1=some .local
 frees:∀y∈scope.names,y.2=.free→X.env.kindOf y.1=some .cell∨X.env.kindOf y.1=some .free
 fr:∀(j i:Nat) (x:Str),fr[j]? = some (some i)→N[j]? = some x→X.N[i]? = some x∧scope.names.lookup x=some .free
section
variable {X:Cx} {pins:List (Addr × Obj)} {σ:St} {H:Hp} {s:Shared} {N:List Str} {fr:List (Option Nat)} {scope:Scope} {fp:List Addr}
theorem bQ.cells (S:bQ X N fr scope) (ok:X.Ok):∀y∈scope.names,y.2=.free→∃c,X.env.cells.lookup y.1=some c:=fun y hy hf=>ok.has y.1 (S.frees y hy hf)
theorem cK {names:List (Str × NameKind)} {x:Str} {k:NameKind} (h:names.lookup x=some k):(x,k)∈names:=PySem.mem_of_lookup h
theorem jL {X:Cx} {C:Addr} {x:Str}:(compEnvC scope (clGo X.env scope.names []) C X.env).kindOf x=(scope.names.lookup x).map fun k=>if (k==NameKind.free&&X.env.scope.kind==.function&&X.env.kindOf x==some .cell) then NameKind.cell else k:=eQ X.env scope.names x
theorem bQ.free_of (S:bQ X N fr scope) {C:Addr} {x:Str} (h:(compEnvC scope (clGo X.env scope.names []) C X.env).kindOf x=some .cell∨(compEnvC scope (clGo X.env scope.names []) C X.env).kindOf x=some .free):scope.names.lookup x=some .free:=by
 rw[jL] at h
 cases e:scope.names.lookup x with
 |none=>rw[e] at h;simp at h
 |some k=>
  rw[e] at h
  have nc:=S.nocell _ (cK e)
  cases k with
  |free=>rfl
  |cell=>exact absurd rfl nc
  |_=>
   exfalso
   rcases h with h|h <;> simp at h
theorem pP {X:Cx} {C:Addr} {x:Str} (h:scope.names.lookup x=some .free):(compEnvC scope (clGo X.env scope.names []) C X.env).kindOf x=some .cell∨(compEnvC scope (clGo X.env scope.names []) C X.env).kindOf x=some .free:=by
 rw[jL,h,Option.map_some]
 by_cases c:(NameKind.free==NameKind.free&&X.env.scope.kind==.function&&X.env.kindOf x==some .cell)=true
 ·rw[if_pos c];exact .inl rfl
 ·rw[if_neg c];exact .inr rfl
end
end L2
end
section
namespace L2
open PySem PySem.Spec PyProof.Rows
section
variable {X:Cx} {pins:List (Addr × Obj)} {σ:St} {H:Hp} {s:Shared} {N:List Str} {fr:List (Option Nat)} {scope:Scope} {fp:List Addr}
theorem nI {C:Addr} {h1:Heap} {m:Str→Option Value} {t:Nat} (S:bQ X N fr scope) (I:Inv X pins σ H s) (hf:∀b∈fp,FpOk X pins H b) (hC:s.heap.objs.size≤C) (hfC:∀b∈fp,b≠C)
  (hn:h1.Ns C m) (hk:∀b o,s.heap.get? b=some o→h1.get? b=some o):Inv (eT X N scope C s H fp pins) [] (fG fr σ) H {s with heap:=h1,toks:=t}:=by
 have hcl:=S.cells I.ok
 have sub:∀x c,(clGo X.env scope.names []).lookup x=some c→X.env.cells.lookup x=some c:=fun x c e=>by
  rcases oH hcl e with q|q
  ·exact q
  ·simp at q
 have ok:(eT X N scope C s H fp pins).Ok:=by
  refine⟨I.ok.mod,S.kind,I.ok.glob,I.ok.blt,hC,fun x y c h1 h2=>I.ok.inj x y c (sub x c h1) (sub y c h2),fun x hx=>?_,fun x c e=>absurd e (by show ¬(false=true);decide),I.ok.hd,I.ok.frames,.inl rfl,fun b hb=>?_,fun b o e=>I.bs b o e,Nat.le_trans I.ok.bsz I.sz,fun b o e hb=>?_,fun b hb=>?_,I.stack,I.stkFree⟩
  ·have e:=S.free_of hx
   exact Option.isSome_iff_exists.mp (i_ (.inl (cK e)))
  ·exact⟨hfC b hb,fun x c e=>(hf b hb).2.2.2.2.1 x c (sub x c e)⟩
  ·rcases (hf b hb).2.2.2.1 with z|z
   ·exact I.ok.noex b o e z
   ·exact absurd (Nat.lt_of_lt_of_le (Heap.lt_size e) (Nat.le_trans I.ok.bsz z)) (Nat.lt_irrefl _)
  ·intro z
   rcases List.mem_cons.mp (I.stkSub b z) with q|q
   ·exact (hf b hb).2.1 q
   ·exact (hf b hb).2.2.1 q
 have hfresh:H C=none:=I.hok.fresh hC
 refine⟨ok,rfl,I.bare,Un.kept hk,⟨m,hn,fun j x v e1 e2 e3=>?_⟩,fun x c e=>?_,hfresh,fun x c e=>I.freeC x c (sub x c e),fun p hp=>?_,I.hok.kept hk,?_⟩
 ·have e2:(fG fr σ)[j]? = some (some v):=e2
  unfold fG at e2
  rw[List.getElem?_map] at e2
  cases q:fr[j]? with
  |none=>rw[q] at e2;cases e2
  |some o=>
   rw[q] at e2
   cases o with
   |none=>cases e2
   |some i=>
    have e2:(σ[i]?).join=some v:=Option.some.inj e2
    obtain⟨hi,hfree⟩:=S.fr j i x q e1
    have hσ:σ[i]? = some (some v):=by
     cases z:σ[i]? with
     |none=>rw[z] at e2;cases e2
     |some y=>rw[z] at e2;cases y with
      |none=>cases e2
      |some y'=>have e2:some y' = some v:=e2;rw[e2]
    obtain⟨m0,_,hl⟩:=I.loc
    have hcf:X.env.kindOf x=some .cell∨X.env.kindOf x=some .free:=S.frees (x,.free) (cK hfree) rfl
    have hvis:Vis X.env.scope x:=hcf.elim (fun z=>.inr (.inl z)) fun z=>.inr (.inr z)
    obtain⟨u,r,lk⟩:=hl i x v hi hσ hvis
    rcases lk with ⟨z,_⟩|⟨_,c,ec,hcell⟩
    ·rcases hcf with y|y <;> (rw[y] at z;cases z)
    ·refine⟨u,r,.inr ⟨pP hfree,?_⟩⟩
     obtain⟨c',ec'⟩:=Option.isSome_iff_exists.mp (i_ (env:=X.env) (names:=scope.names) (cs:=[]) (.inl (cK hfree)))
     have:=sub x c' ec'
     rw[ec] at this
     cases this
     obtain⟨o,ho,hd⟩:=hcell
     exact⟨c,ec',o,hk c o ho,hd⟩
 ·obtain⟨v,o,ho,hd⟩:=I.cell x c (sub x c e)
  exact⟨v,o,hk c o ho,hd⟩
 ·have hp:p∈(X.pn++pins)++[]:=hp
  rw[List.append_nil] at hp
  obtain⟨e,n,ne,nf,d⟩:=I.pin p hp
  refine⟨hk _ _ e,n,fun z=>?_,fun z=>?_,d⟩
  ·have z:p.1=C:=z
   exact absurd (Nat.lt_of_lt_of_le (Heap.lt_size e) hC) (by rw[z];exact Nat.lt_irrefl _)
  ·rcases List.mem_cons.mp (I.stkSub p.1 z) with q|q
   ·exact ne q
   ·exact nf q
 ·show (fG fr σ).length=N.length
  unfold fG
  rw[List.length_map]
  exact S.len
theorem sq {C:Addr} {H2:Hp} {s':Shared} {σ':St} {p':List (Addr × Obj)} (I:Inv X pins σ H s) (hf:∀b∈fp,FpOk X pins H b) (hC:s.heap.objs.size≤C) (J:Inv (eT X N scope C s H fp pins) p' σ' H2 s') :
  Inv X pins σ H2 s'∧FpOk X pins H2 C:=by
 have J0:Inv X pins σ H2 s':=I.call' J.os J.base J.hok J.bare fun b hb=>⟨(hf b hb).2.2.2.1,(hf b hb).2.1,(hf b hb).2.2.2.2.1,(hf b hb).2.2.2.2.2⟩
 exact⟨J0,I.fpOk hC J.free⟩
end
end L2
end
section
namespace L2
open PySem PySem.Spec PyProof.Rows
def PIf (X:Cx) (ifs:List Expr) (t:TT):Prop:=
 ∀(pins:List (Addr × Obj)) (s:Shared) (σ:St) (H:Hp) (Q:Bool→Hp→Prop),Inv X pins σ H s→t σ H Q →
  wpAny (model X.prog X.w) X.A (forIn ifs true fun c r=>if r=true then do let ok ←isTrue c X.env (eval c X.env);pure (ForInStep.yield ok) else pure (ForInStep.yield r)) (TP X pins σ Q) X.xe s
theorem bJ {X:Cx}:PIf X [] (fun _ H Q=>Q true H):=fun _ _ _ H _ I h=>wpAny_tests_nil ⟨H,I,h⟩
theorem eZ {X:Cx} {c:Expr} {t:TT} (h:PT X c t):PIf X [c] t:=fun pins s σ H Q I q=>wpAny_tests_one (h pins s σ H Q I q)
def fm (J:It) (g:TG) (tt:TT) (te:TE) (D:Addr) (σ':St) (H1:Hp) (Q:Hp→Prop):Prop:=
 ∃W:Nat→Nat→St→List V→Hp→Prop,(∃m,W 0 m σ' [] (upd H1 D (.lst [])))∧∀i m σ ys H,W i m σ ys H →
  (J.stop i H∧Q H)∨(J.go i H∧∃N:St→List V→Hp→Prop,(∀σ' ys' H',N σ' ys' H'→∃m',m' < m∧W (i+1) m' σ' ys' H')∧∀x H',J.yld i H x H'→g x σ H' fun σ2 H2=>tt σ2 H2 fun b H3=>
   if b=true then te σ2 H3 fun y H4=>H4 D=some (.lst ys)∧ys.length < sizeLine∧N σ2 (ys++[y]) (upd H4 D (.lst (ys++[y]))) else N σ2 ys H3)
theorem pO {P:Program} {w:World} {A:Around} {elt target iter:Expr} {ifs:List Expr} {scope:Scope} {pos:Pos} {it acc:Value} {env:Env} {R:Result→Shared→Prop} {s:Shared} (I:Nat→Shared→Prop)
  (turn:∀n s,I n s→wpAny (model P w) A (pyNext it) (fun r s1=>match r with
   |none=>R (.ok .next) s1
   |some v=>wpAny (model P w) A (letOwnedTupleGo target it v) (fun _ s1'=>wpAny (model P w) A (assign target env v) (fun _ s2=>
     wpAny (model P w) A (forIn ifs true fun c r=>if r=true then do let ok ←isTrue c env (eval c env);pure (ForInStep.yield ok) else pure (ForInStep.yield r)) (fun ok s3=>
      if ok=true then wpAny (model P w) A (eval elt env) (fun x s4=>
       wpAny (model P w) A (call (.builtin "list.append") [acc,x]) (fun _ s5=>∃m,m < n∧I m s5) (fun _ _=>False) s4) (fun _ _=>False) s3
      else ∃m,m < n∧I m s3) (fun _ _=>False) s2) (fun _ _=>False) s1') (fun _ _=>False) s1) (fun _ _=>False) s)
  (n:Nat) (h:I n s) :
  codeAny (model P w) A (.compLoop (.ListComp elt [⟨target,iter,ifs,0⟩] scope pos) 0 it acc env) R s:=by
 have no:∀(e:Value) (t:Shared),False→notedBy (model P w) A env (fun e s'=>R (.error e) s') e t:=fun _ _ z=>z.elim
 refine codeAny_loop rfl I (fun n s hI=>?_) n h
 refine wpAny_noted ?_
 rw[compTurn_list]
 refine wpAny_bind (wpAny_standAt (wpAny_bind (wpAny_mono (turn n s hI) (fun r s1 h1=>?_) no)))
 cases r with
 |none=>exact wpAny_pure h1
 |some v=>
  refine wpAny_bind (wpAny_mono h1 (fun _ s1' h1'=>?_) no)
  refine wpAny_bind (wpAny_mono h1' (fun _ s2 h2=>wpAny_bind (wpAny_mono h2 (fun ok s3 h3=>?_) no)) no)
  cases ok with
  |false=>exact wpAny_pure ⟨rfl,h3⟩
  |true=>
   exact wpAny_bind (wpAny_bind (wpAny_mono h3 (fun x s4 h4=>wpAny_bind (wpAny_mono h4 (fun _ s5 h5=>wpAny_pure (wpAny_pure ⟨rfl,h5⟩)) no)) no))
section
variable {X:Cx} {pins:List (Addr × Obj)} {σ:St} {H:Hp} {s:Shared} {N:List Str} {fr:List (Option Nat)} {scope:Scope} {fp:List Addr}
theorem sn {elt target iter:Expr} {ifs:List Expr} {pos:Pos} {it D:Addr} {tn:Nat→Heap→Prop} {J:It} {g:TG} {tt:TT} {te:TE} {R:Result→Shared→Prop} {s1:Shared} {σ1:St} {H1:Hp} {Q:Hp→Prop}
  {Y:Cx} (hY:Y.xe=fun _ _=>False) (hc:Y.calm=true) (I:Inv Y [] σ1 (upd H1 D (.lst [])) s1) (T:Turn Y.prog Y.w Y.K target J fp it tn) (ht:tn 0 s1.heap) (hf:∀b∈fp,FpOk Y [] (upd H1 D (.lst [])) b)
  (hg:PG Y target g) (hi:PIf Y ifs tt) (he:PE Y elt te) (h:fm J g tt te D σ1 H1 Q) (hR:∀s' σ' H',Inv Y [] σ' H' s'→Q H'→R (.ok .next) s') :
  codeAny (model Y.prog Y.w) Y.A (.compLoop (.ListComp elt [⟨target,iter,ifs,0⟩] scope pos) 0 (.ref it) (.ref D) Y.env) R s1:=by
 obtain⟨W,⟨m0,w0⟩,turn⟩:=h
 have stat:∀{H':Hp},(∀b∈fp,H' b=none)→∀b∈fp,FpOk Y [] H' b:=fun hn b hb=>⟨hn b hb,(hf b hb).2⟩
 refine pO (fun n s'=>∃i σ' ys H',Inv Y [] σ' H' s'∧tn i s'.heap∧(∀b∈fp,H' b=none)∧W i n σ' ys H') ?_ m0 ⟨0,σ1,[],_,I,ht,fun b hb=>(hf b hb).1,w0⟩
 rintro n s3 ⟨i,σ3,ys,H3,I3,st3,fr3,w3⟩
 have back:∀{α:Type} {t:Sem α} {Q:α→Shared→Prop} {s:Shared},wpAny (model Y.prog Y.w) Y.A t Q Y.xe s→wpAny (model Y.prog Y.w) Y.A t Q (fun _ _=>False) s:=fun h=>by rw[hY] at h;exact h
 rcases turn i n σ3 ys H3 w3 with ⟨stop,qn⟩|⟨go,N',hN',step⟩
 ·refine thn (T.done Y rfl rfl rfl hc i [] s3 σ3 H3 _ I3 (stat fr3) st3 stop) fun r s4 ⟨hr,I4⟩=>?_
  subst hr
  exact hR s4 σ3 H3 I4 qn
 ·refine thn (T.item Y rfl rfl rfl hc i [] s3 σ3 H3 _ I3 (stat fr3) st3 go) fun r s4 ⟨u,hr,h4⟩=>?_
  subst hr
  refine thn h4 fun _ s5 ⟨x,H5,I5,r5,y5,st5,fr5⟩=>?_
  have I5':=I5.pinned (stat fr5) (T.obj _ _ st5)
  rw[List.nil_append] at I5'
  refine thn (back (hg _ s5 σ3 H5 x u _ I5' r5 (step x H5 y5))) fun _ s6 ⟨σ6,H6,I6,q6⟩=>?_
  refine thn (back (hi _ s6 σ6 H6 _ I6 q6)) fun b s7 ⟨H7,I7,q7⟩=>?_
  have again:∀{σ7:St} {H7:Hp} {s7:Shared} {ys':List V},Inv Y (iH fp s5.heap) σ7 H7 s7→(∃m',m' < n∧W (i+1) m' σ7 ys' H7)→∃m,m < n∧∃i σ' ys H',Inv Y [] σ' H' s7∧tn i s7.heap∧(∀b∈fp,H' b=none)∧W i m σ' ys H':=fun {σ7 H7 s7 ys'} I7 ⟨m',hm,w7⟩=>by
   refine⟨m',hm,i+1,σ7,ys',H7,I7.pins_of (fun p hp=>by simp at hp),T.keep _ _ _ st5 fun b hb o e=>(I7.pin (b,o) (List.mem_append_right _ (eg hb e))).1,fun b hb=>?_,w7⟩
   obtain⟨o,e,d⟩:=T.obj _ _ st5 b hb
   exact (I7.pin (b,o) (List.mem_append_right _ (eg hb e))).2.1
  cases b with
  |false=>
   rw[if_neg Bool.false_ne_true] at q7
   rw[if_neg Bool.false_ne_true]
   exact again I7 (hN' _ _ _ q7)
  |true=>
   rw[if_pos rfl] at q7
   rw[if_pos rfl]
   refine thn (back (he _ s7 σ6 H7 _ I7 q7)) fun v s8 ⟨y,H8,I8,r8,hD,hl,q8⟩=>?_
   refine thn (back (bo _ s8 σ6 H8 (.ref D) [y] (.ref D) [v] (fun _ H'=>N' σ6 (ys++[y]) H') I8 rfl (.cons r8 .nil) ⟨D,ys,y,rfl,rfl,hD,hl,q8⟩)) fun _ s9 ⟨_,H9,I9,_,q9⟩=>?_
   exact again I9 (hN' _ _ _ q9)
end
end L2
end
section
namespace L2
open PySem PySem.Spec PyProof.Rows
def lm (wi:TI) (g:TG) (tt:TT) (te:TE) (fr:List (Option Nat)):TE:=fun σ H Q=>wi σ H fun J H1=>∀D,H1 D=none→fm J g tt te D (fG fr σ) H1 fun H2=>Q (.ref D) H2
section
variable {X:Cx} {N:List Str} {fr:List (Option Nat)} {scope:Scope} {elt tg iter:Expr} {ifs:List Expr} {pos:Pos} {wi:TI} {g:TG} {tt:TT} {te:TE}
def PComp (X:Cx) (N:List Str) (scope:Scope) (tg:Expr) (ifs:List Expr) (elt:Expr) (g:TG) (tt:TT) (te:TE):Prop:=
 ∀(C:Addr) (s:Shared) (H:Hp) (fp:List Addr) (pins:List (Addr × Obj)),PG (eT X N scope C s H fp pins) tg g∧PIf (eT X N scope C s H fp pins) ifs tt∧PE (eT X N scope C s H fp pins) elt te
theorem i8 {pins:List (Addr × Obj)} {σ:St} {s:Shared} {itv:Value} {Z:Value→Addr→Result→Shared→Prop} {QQ:Addr→Hp→Prop} {E:Value→Shared→Prop} (S:bQ X N fr scope) (hc:X.calm=true)
  (hb:PComp X N scope tg ifs elt g tt te) (h2:PIE X pins σ tg (fun J H1=>∀D,H1 D=none→fm J g tt te D (fG fr σ) H1 (QQ D)) itv s)
  (hZ:∀D C s' H',Inv X pins σ H' s'→FpOk X pins H' C→(∃m,s'.heap.Ns C m)→QQ D H'→Z (.ref D) C (.ok .next) s') :
  wpAny (model X.prog X.w) X.A (newList []) (fun acc s3=>wpAny (model X.prog X.w) X.A (newFunctionEnv scope X.env.globals (clGo X.env scope.names []) [] X.env.qual none .none (some X.env)) (fun cenv s4=>
   codeAny (model X.prog X.w) X.A (.compStart (.ListComp elt [⟨tg,iter,ifs,0⟩] scope pos) 0 itv acc {cenv with scope:=relabel scope X.env}) (Z acc cenv.locals) s4) E s3) E s:=by
 obtain⟨it,fp,tn,J,H1,e,I2,T,st2,f2,q⟩:=h2
 subst e
 have hD:H1 s.heap.objs.size=none:=I2.hok.fresh (Nat.le_refl _)
 have old:∀b∈fp,b < s.heap.objs.size:=fun b hb=>by
  obtain⟨o,e,_⟩:=T.obj _ _ st2 b hb
  exact Heap.lt_size e
 refine wpAny_newObj_type (wpAny_newFunctionEnv S.nocell (by intro y hy;simp at hy) (fun h1 hns hsb=>?_) S.kind)
 dsimp only at hns hsb ⊢
 have I3:Inv X pins σ (upd H1 s.heap.objs.size (.lst [])) {s with heap:=s.heap.push {cls:=.type "list",dict:=none,data:=.seq ([]:List Value).toArray}}:=by
  refine I2.laid (t':=s.toks) (fun b u e=>Heap.get?_push_of_some _ e) (Nat.le_refl _) ?_
  exact⟨Nat.zero_le _,[],_,.nil,Heap.get?_push_size _ rfl⟩
 have f3:∀b∈fp,FpOk X pins (upd H1 s.heap.objs.size (.lst [])) b:=fun b hb=>⟨by rw[au (Nat.ne_of_lt (old b hb))];exact (f2 b hb).1,(f2 b hb).2⟩
 have hsz:(s.heap.push {cls:=.type "list",dict:=none,data:=.seq ([]:List Value).toArray}).objs.size=s.heap.objs.size+1:=Heap.size_push ..
 have I4:=nI (C:=(s.heap.push {cls:=.type "list",dict:=none,data:=.seq ([]:List Value).toArray}).objs.size) (h1:=h1) (t:=s.toks+([]:List (Str × Value)).length) (fp:=fp) S I3 f3 (Nat.le_refl _)
  (fun b hb=>by rw[hsz];exact Nat.ne_of_lt (Nat.lt_succ_of_lt (old b hb))) hns fun b o e=>hsb.extBut b o (Nat.ne_of_lt (Heap.lt_size e)) (Heap.get?_push_of_some _ e)
 have st4:tn 0 h1:=T.keep _ _ _ st2 fun b hb o e=>by
  have e1:=Heap.get?_push_of_some {cls:=.type "list",dict:=none,data:=.seq ([]:List Value).toArray} e
  exact hsb.extBut b o (Nat.ne_of_lt (Heap.lt_size e1)) (Heap.get?_push_of_some _ e1)
 have f4:∀b∈fp,FpOk (eT X N scope (s.heap.push {cls:=.type "list",dict:=none,data:=.seq ([]:List Value).toArray}).objs.size {s with heap:=s.heap.push {cls:=.type "list",dict:=none,data:=.seq ([]:List Value).toArray}} (upd H1 s.heap.objs.size (.lst [])) fp pins) [] (upd H1 s.heap.objs.size (.lst [])) b:=fun b hb=>by
  refine⟨(f3 b hb).1,(I4.ok.exf b hb).1,I4.ok.exfs b hb,.inl hb,(I4.ok.exf b hb).2,fun p hp=>?_⟩
  have hp:p∈(X.pn++pins)++[]:=hp
  rw[List.append_nil] at hp
  exact (f3 b hb).2.2.2.2.2 p hp
 obtain⟨b1,b2,b3⟩:=hb (s.heap.push {cls:=.type "list",dict:=none,data:=.seq ([]:List Value).toArray}).objs.size {s with heap:=s.heap.push {cls:=.type "list",dict:=none,data:=.seq ([]:List Value).toArray}} (upd H1 s.heap.objs.size (.lst [])) fp pins
 have run:=sn (Y:=eT X N scope (s.heap.push {cls:=.type "list",dict:=none,data:=.seq ([]:List Value).toArray}).objs.size {s with heap:=s.heap.push {cls:=.type "list",dict:=none,data:=.seq ([]:List Value).toArray}} (upd H1 s.heap.objs.size (.lst [])) fp pins) (elt:=elt) (iter:=iter) (pos:=pos) (scope:=scope) (R:=Z (.ref s.heap.objs.size) (s.heap.push {cls:=.type "list",dict:=none,data:=.seq ([]:List Value).toArray}).objs.size) rfl hc I4 T st4 f4 b1 b2 b3 (q _ hD) fun s' σ' H' I' q'=>by
  obtain⟨J1,F1⟩:=sq I3 f3 (Nat.le_refl _) I'
  obtain⟨m,hm,_⟩:=I'.loc
  exact hZ _ _ s' H' J1 F1 ⟨m,hm⟩ q'
 exact codeAny_compStart_list run (T.self _ 0 _ _ _ st4 run)
theorem bp (S:bQ X N fr scope) (hc:X.calm=true) (hi:PI X tg iter wi) (hb:PComp X N scope tg ifs elt g tt te)
  (hs:∀x,foldedSetIterable iter X.env x=pure x:=by intro _;rfl):PE X (.ListComp elt [⟨tg,iter,ifs,0⟩] scope pos) (lm wi g tt te fr):=by
 intro pins s σ H Q I h
 rw[eval_ListComp]
 refine wpAny_comprehension_free (use:=none) rfl hs (i9 (S.cells I.ok)) S.kind S.names (thn (hi pins s σ H _ I h) fun v s1 h1=>thn h1 fun itv s2 h2=>?_)
 refine i8 (QQ:=fun D H2=>Q (.ref D) H2) (Z:=fun acc C=>compPost (model X.prog X.w) X.A X.xe none (EP X pins σ Q) acc C) S hc hb h2 fun D C s' H' J F hm q=>?_
 obtain⟨m,hm⟩:=hm
 refine⟨m,hm,fun h' hs'=>⟨.ref D,H',?_,rfl,q⟩⟩
 exact J.turned (t':=s'.toks) (fun b o hb e=>hs'.extBut b o hb e) F.1 F.2.1 F.2.2.2.1 F.2.2.2.2.1 F.2.2.2.2.2
theorem ia {i:Nat} {x:Str} {pos' spos:Pos} (S:bQ X N fr scope) (hc:X.calm=true) (hi:PI X tg iter wi) (hb:PComp X N scope tg ifs elt g tt te) (hN:X.N.Nodup) (hx:X.N[i]? = some x) (hl:Loc X.env.scope x)
  (hsw:swapsWith (.ListComp elt [⟨tg,iter,ifs,0⟩] scope pos) (some (.Name x pos')) spos.line X.env=pure true:=by rfl)
  (hf:X.fn x=true∨X.env.scope.names.lookup x=some .local:=by first|exact .inl rfl|exact .inr rfl|assumption)
  (hs:∀x,foldedSetIterable iter X.env x=pure x:=by intro _;rfl):PS X (.Assign [.Name x pos'] (.ListComp elt [⟨tg,iter,ifs,0⟩] scope pos) spos) (tAsg (lm wi g tt te fr) (cZ i)):=by
 intro pins s σ H D I h
 rw[exec_Assign_Name_used _ _ _ _ hsw]
 refine wpAny_bind (wpAny_standAt (wpAny_bind ?_))
 show wpAny _ _ (do let _ ←comprehension (.ListComp elt [⟨tg,iter,ifs,0⟩] scope pos) scope X.env _ (newList []) false (eval iter X.env) (some (assign (.Name x pos') X.env))) _ _ s
 refine wpAny_bind (thn (wpAny_comprehension_free (use:=some (assign (.Name x pos') X.env)) (Q:=fun _ s'=>SP X pins D .next s') rfl hs (i9 (S.cells I.ok)) S.kind S.names (thn (hi pins s σ H _ I h) fun v s1 h1=>thn h1 fun itv s2 h2=>?_)) fun _ s' hq=>wpAny_pure (wpAny_pure hq))
 refine i8 (QQ:=fun d H2=>D.nx (σ.set i (some (.ref d))) H2) (Z:=fun acc C=>compPost (model X.prog X.w) X.A X.xe (some (assign (.Name x pos') X.env)) (fun _ s'=>SP X pins D .next s') acc C) S hc hb h2 fun d C s' H' J F hm q=>?_
 obtain⟨m,hm⟩:=hm
 show wpAny _ _ (assign (.Name x pos') X.env (.ref d)) _ _ s'
 refine wpAny_assign_Name (jr J hN hx hl (v:=.ref d) rfl (fun s2 I2 ⟨a,sb,ha⟩=>?_) hf)
 have hCa:C≠a:=by
  rcases ha with e|e
  ·rw[e];exact F.2.1
  ·exact fun z=>F.2.2.2.2.1 x a e z.symm
 refine⟨m,hm.sameBut sb hCa,fun h' hs'=>⟨_,H',?_,q⟩⟩
 exact I2.turned (t':=s2.toks) (fun b o hb e=>hs'.extBut b o hb e) F.1 F.2.1 F.2.2.2.1 F.2.2.2.2.1 F.2.2.2.2.2
end
section
variable {K:W.Frag} {a D:Addr} {xs:List V} {g:TG} {tt:TT} {te:TE} {σ':St} {H1:Hp} {Q:Hp→Prop}
theorem a_ (Pv:Nat→St→List V→Hp→Prop) (h0:Pv 0 σ' [] (upd H1 D (.lst []))) (hl:∀i σ ys H,i≤xs.length→Pv i σ ys H→SqL K H a xs)
  (hs:∀i x σ ys H,xs[i]? = some x→Pv i σ ys H→g x σ H fun σ2 H2=>tt σ2 H2 fun b H3=>
   if b=true then te σ2 H3 fun y H4=>H4 D=some (.lst ys)∧ys.length < sizeLine∧Pv (i+1) σ2 (ys++[y]) (upd H4 D (.lst (ys++[y]))) else Pv (i+1) σ2 ys H3)
  (hd:∀σ ys H,Pv xs.length σ ys H→Q H):fm (Itl K a) g tt te D σ' H1 Q:=by
 refine⟨fun i m σ ys H=>m=xs.length - i∧i≤xs.length∧Pv i σ ys H,⟨xs.length,by simp,Nat.zero_le _,h0⟩,?_⟩
 rintro i m σ ys H ⟨rfl,hi,p⟩
 have q:=hl i σ ys H hi p
 by_cases hlt:i < xs.length
 ·refine .inr ⟨⟨xs,xs[i],q,by simp[hlt]⟩,Pv (i+1),fun σ' ys' H' p'=>⟨xs.length - (i+1),by omega,rfl,hlt,p'⟩,fun x H' y=>?_⟩
  obtain⟨e,y⟩:=y
  subst e
  exact hs i x σ ys _ (y xs q) p
 ·have e:i=xs.length:=by omega
  subst e
  exact .inl ⟨⟨xs,q,Nat.le_refl _⟩,hd σ ys H p⟩
theorem eU (Pv:Nat→St→List V→Hp→Prop) (h0:Pv 0 σ' [] (upd H1 D (.lst []))) (hl:∀i σ ys H,i≤xs.length→Pv i σ ys H→SqT K H a xs)
  (hs:∀i x σ ys H,xs[i]? = some x→Pv i σ ys H→g x σ H fun σ2 H2=>tt σ2 H2 fun b H3=>
   if b=true then te σ2 H3 fun y H4=>H4 D=some (.lst ys)∧ys.length < sizeLine∧Pv (i+1) σ2 (ys++[y]) (upd H4 D (.lst (ys++[y]))) else Pv (i+1) σ2 ys H3)
  (hd:∀σ ys H,Pv xs.length σ ys H→Q H):fm (Itt K a) g tt te D σ' H1 Q:=by
 refine⟨fun i m σ ys H=>m=xs.length - i∧i≤xs.length∧Pv i σ ys H,⟨xs.length,by simp,Nat.zero_le _,h0⟩,?_⟩
 rintro i m σ ys H ⟨rfl,hi,p⟩
 have q:=hl i σ ys H hi p
 by_cases hlt:i < xs.length
 ·refine .inr ⟨⟨xs,xs[i],q,by simp[hlt]⟩,Pv (i+1),fun σ' ys' H' p'=>⟨xs.length - (i+1),by omega,rfl,hlt,p'⟩,fun x H' y=>?_⟩
  obtain⟨e,y⟩:=y
  subst e
  exact hs i x σ ys _ (y xs q) p
 ·have e:i=xs.length:=by omega
  subst e
  exact .inl ⟨⟨xs,q,Nat.le_refl _⟩,hd σ ys H p⟩
theorem nJ {lo:Int} {n:Nat} (Pv:Nat→St→List V→Hp→Prop) (h0:Pv 0 σ' [] (upd H1 D (.lst [])))
  (hs:∀i σ ys H,i < n→Pv i σ ys H→g (.int (lo+i)) σ H fun σ2 H2=>tt σ2 H2 fun b H3=>
   if b=true then te σ2 H3 fun y H4=>H4 D=some (.lst ys)∧ys.length < sizeLine∧Pv (i+1) σ2 (ys++[y]) (upd H4 D (.lst (ys++[y]))) else Pv (i+1) σ2 ys H3)
  (hd:∀σ ys H,Pv n σ ys H→Q H):fm (Itr lo n) g tt te D σ' H1 Q:=by
 refine⟨fun i m σ ys H=>m=n - i∧i≤n∧Pv i σ ys H,⟨n,by simp,Nat.zero_le _,h0⟩,?_⟩
 rintro i m σ ys H ⟨rfl,hi,p⟩
 by_cases hlt:i < n
 ·refine .inr ⟨hlt,Pv (i+1),fun σ' ys' H' p'=>⟨n - (i+1),by omega,rfl,hlt,p'⟩,fun x H' y=>?_⟩
  obtain⟨e,y⟩:=y
  subst e y
  exact hs i σ ys _ hlt p
 ·have e:i=n:=by omega
  subst e
  exact .inl ⟨Nat.le_refl _,hd σ ys H p⟩
end
end L2
end
section
namespace TimS
open PySem PySem.W PyProof.Rows
theorem half {u w:Nat} (h:¬u ≥ w):u≤(u+w) / 2∧(u+w) / 2 < w:=by omega
theorem half' {u w:Nat} (h:¬u ≥ w):u≤u+(w - u) / 2∧u+(w - u) / 2 < w:=by omega
theorem fewer {u w k t m:Nat} (h:w - u≤k - t) (h1:m < w) (h2:u≤m):m - u≤k - (t+1):=by omega
theorem fewer' {u w k t m:Nat} (h:w - u≤k - t) (h1:m < w) (h2:u≤m):w - (m+1)≤k - (t+1):=by omega
abbrev SM:=StateT SortSt Sem
def gal:Bool→Keyed→Array Keyed→Nat→Nat→Nat→SM (Option Nat):=sortPriv% PySem.Builtin.gallop
def mlo:Array Keyed→Array Keyed→SM (Array Keyed):=sortPriv% PySem.Builtin.mergeLo
def mhi:Array Keyed→Array Keyed→SM (Array Keyed):=sortPriv% PySem.Builtin.mergeHi
def smg:Nat→SM Unit:=sortPriv% PySem.Builtin.setMinGallop
def bey (l:Bool) (q:Keyed) (v:Array Keyed) (o i:Nat):SM (Option Bool):=do
 let x ←elem' v (o+i)
 if l then lt' x q else return (←lt' q x).map (!·)
theorem vU (l:Bool) (q:Keyed) (v:Array Keyed) (o n h:Nat):gal l q v o n h=(do
 let mut z:=0
 let mut c:=1
 let mut u:=0
 let mut w:=0
 let some r ←bey l q v o h|return none
 if r then
  let m:=n - h
  for _ in [0:n] do
   if c ≥ m then break
   let some g ←bey l q v o (h+c)|return none
   if !g then break
   z:=c
   c:=2 * c+1
  u:=h+z+1
  w:=h+min c m
 else
  let m:=h+1
  for _ in [0:n] do
   if c ≥ m then break
   let some g ←bey l q v o (h - c)|return none
   if g then break
   z:=c
   c:=2 * c+1
  u:=h+1 - min c m
  w:=h - z
 for _ in [0:n] do
  if u ≥ w then break
  let m:=u+(w - u) / 2
  let some g ←bey l q v o m|return none
  if g then u:=m+1 else w:=m
 return some w):=rfl
theorem vG (x y:Array Keyed):mlo x y=(do
 rule "list.sort.merge-lo"
 let T:=x.size+y.size
 let fa (v:Array Keyed) (i j:Nat):=v++x.extract i x.size++y.extract j y.size
 let fb (v:Array Keyed) (i j:Nat):=v++y.extract j y.size++x.extract i x.size
 let mut v:Array Keyed:=#[←elem' y 0]
 let mut i:=0
 let mut j:=1
 if j==y.size then return fa v i j
 if i+1==x.size then return fb v i j
 let mut g:=gallopOf (←get)
 for _ in [0:T] do
  let mut c:=0
  let mut d:=0
  for _ in [0:T] do
   let some b ←lt' (←elem' y j) (←elem' x i)|return fa v i j
   if b then
    v:=v.push (←elem' y j);j:=j+1;d:=d+1;c:=0
    if j==y.size then return fa v i j
    if d ≥ g then break
   else
    v:=v.push (←elem' x i);i:=i+1;c:=c+1;d:=0
    if i+1==x.size then return fb v i j
    if c ≥ g then break
  rule "list.sort.gallop"
  g:=g+1
  for _ in [0:T] do
   if g > 1 then g:=g - 1
   smg g
   let some k ←gal false (←elem' y j) x i (x.size - i) 0|return fa v i j
   c:=k
   if k > 0 then
    v:=v++x.extract i (i+k);i:=i+k
    if i+1==x.size then return fb v i j
    if i==x.size then return fa v i j
   v:=v.push (←elem' y j);j:=j+1
   if j==y.size then return fa v i j
   let some k ←gal true (←elem' x i) y j (y.size - j) 0|return fa v i j
   d:=k
   if k > 0 then
    v:=v++y.extract j (j+k);j:=j+k
    if j==y.size then return fa v i j
   v:=v.push (←elem' x i);i:=i+1
   if i+1==x.size then return fb v i j
   if c < 7&&d < 7 then break
  g:=g+1
  smg g
 unsupported "internal:list.sort.merge-bound"):=rfl
def G (a:Array Keyed) (i:Nat):Keyed:=a.getD i (Value.none,Value.none)
structure Cmp (M:Model) (A:Around) (E:Value→Shared→Prop) (s:Shared) (κ:SortKind) (N:Keyed→Prop) (lt:Keyed→Keyed→Bool):Prop where
 asym:∀x y,lt x y=true→lt y x=false
 tr:∀x y z,lt y x=false→lt z y=false→lt z x=false
 ask:∀{x y:Keyed} {st:SortSt} {Q:Option Bool→SortSt→Prop},N x→N y→kindOf st=κ→Q (some (lt x y)) st→wpS M A E s (lt' x y) Q st
section
variable {M:Model} {A:Around} {E:Value→Shared→Prop} {s:Shared} {κ:SortKind} {N:Keyed→Prop} {lt:Keyed→Keyed→Bool}
theorem oP {a:Array Keyed} {i:Nat} (h:i < a.size):a[i]? = some (G a i):=by
 simp[G,Array.getD,h]
theorem aQ {a:Array Keyed} {i:Nat} {Q:Keyed→SortSt→Prop} {st:SortSt} (h:i < a.size) (q:Q (G a i) st):wpS M A E s (elem' a i) Q st:=by
 rw[elem'_eq,oP h];exact wpS_pure q
theorem Cmp.refl (C:Cmp M A E s κ N lt) (x:Keyed):lt x x=false:=by
 cases h:lt x x with
 |false=>rfl
 |true=>have z:=C.asym x x h;rw[h] at z;cases z
theorem Cmp.ltle (C:Cmp M A E s κ N lt) {x y z:Keyed} (h:lt x y=true) (h2:lt z y=false):lt x z=true:=by
 cases q:lt x z with
 |true=>rfl
 |false=>have:=C.tr _ _ _ h2 q;rw[h] at this;cases this
theorem Cmp.lelt (C:Cmp M A E s κ N lt) {x y z:Keyed} (h:lt y x=false) (h2:lt y z=true):lt x z=true:=by
 cases q:lt x z with
 |true=>rfl
 |false=>have:=C.tr _ _ _ q h;rw[h2] at this;cases this
theorem eV {x:String} {Q:Unit→SortSt→Prop} {st:SortSt} (h:Q () st):wpS M A E s (liftM (rule x):SM Unit) Q st:=wpS_lift (wpAny_rule ⟨rfl,h⟩)
def bv (lt:Keyed→Keyed→Bool) (l:Bool) (q:Keyed) (v:Array Keyed) (o i:Nat):Bool:=if l then lt (G v (o+i)) q else !lt q (G v (o+i))
theorem gg (C:Cmp M A E s κ N lt) {l:Bool} {q:Keyed} {v:Array Keyed} {o i:Nat} {st:SortSt} {Q:Option Bool→SortSt→Prop} (hN:∀i,i < v.size→N (G v i)) (hq:N q) (hi:o+i < v.size) (hk:kindOf st=κ) (h:Q (some (bv lt l q v o i)) st):wpS M A E s (bey l q v o i) Q st:=by
 unfold bey
 refine wpS_bind (aQ hi ?_)
 cases l with
 |true=>exact C.ask (hN _ hi) hq hk h
 |false=>exact wpS_bind (C.ask hq (hN _ hi) hk (wpS_pure h))
theorem ge {l:Bool} {q:Keyed} {v:Array Keyed} {o n h:Nat} {st:SortSt} {Q:Option Nat→SortSt→Prop} (b:Nat→Bool) (hb:∀i,i < n→∀Q:Option Bool→SortSt→Prop,Q (some (b i)) st→wpS M A E s (bey l q v o i) Q st)
  (mo:∀i j,i≤j→j < n→b j=true→b i=true) (hh:h < n) (hQ:∀k,k≤n→(∀i,i < k→b i=true)→(∀i,k≤i→i < n→b i=false)→Q (some k) st):wpS M A E s (gal l q v o n h) Q st:=by
 have mf:∀i j,i≤j→j < n→b i=false→b j=false:=fun i j a c d=>by
  cases e:b j with
  |false=>rfl
  |true=>rw[mo i j a c e] at d;cases d
 have tail:∀(u w:Nat),u≤w→w≤n→(∀i,i < u→b i=true)→(∀i,w≤i→i < n→b i=false)→wpS M A E s (do
   let mut u:=u
   let mut w:=w
   for _ in [0:n] do
    if u ≥ w then break
    let m:=u+(w - u) / 2
    let some g ←bey l q v o m|return none
    if g then u:=m+1 else w:=m
   return some w) Q st:=by
  intro u w h1 h2 h3 h4
  dsimp only
  refine wpS_bind (wpS_mono (wpS_forRange (I:=fun i x st'=>st' = st∧x.1=none∧x.2.1≤x.2.2∧x.2.2≤n∧x.2.2 - x.2.1≤n - i∧(∀i,i < x.2.1→b i=true)∧(∀i,x.2.2≤i→i < n→b i=false)) (Q:=fun x st'=>st' = st∧x.1=none∧x.2.1=x.2.2∧x.2.2≤n∧(∀i,i < x.2.1→b i=true)∧(∀i,x.2.2≤i→i < n→b i=false)) ?step ?fin ⟨rfl,rfl,h1,h2,by show w - u≤n - 0;omega,h3,h4⟩) ?post)
  case fin=>
   rintro⟨r,u,w⟩ st' ⟨rfl,e,a1,a2,a3,a4,a5⟩
   have a1:u≤w:=a1
   have a3:w - u≤n - max 0 n:=a3
   exact⟨rfl,e,by show u=w;omega,a2,a4,a5⟩
  case step=>
   rintro i ⟨r,u,w⟩ st' _ hi ⟨rfl,e,a1,a2,a3,a4,a5⟩
   have a1:u≤w:=a1
   have a2:w≤n:=a2
   have a3:w - u≤n - i:=a3
   have a4:∀i,i < u→b i=true:=a4
   have a5:∀i,w≤i→i < n→b i=false:=a5
   dsimp only
   by_cases c:u ≥ w
   ·rw[if_pos c]
    exact wpS_pure ⟨rfl,rfl,by show u=w;omega,a2,a4,a5⟩
   ·rw[if_neg c]
    obtain⟨m1,m2⟩:=half' c
    generalize u+(w - u) / 2=m at m1 m2 ⊢
    refine wpS_bind (hb _ (Nat.lt_of_lt_of_le m2 a2) _ ?_)
    dsimp only
    cases hm:b m with
    |true=>
     rw[if_pos rfl]
     exact wpS_pure ⟨rfl,rfl,m2,a2,fewer' a3 m2 m1,fun k hk=>mo k m (Nat.le_of_lt_succ hk) (Nat.lt_of_lt_of_le m2 a2) hm,a5⟩
    |false=>
     rw[if_neg (by decide)]
     exact wpS_pure ⟨rfl,rfl,m1,Nat.le_of_lt (Nat.lt_of_lt_of_le m2 a2),fewer a3 m2 m1,a4,fun k hk h'=>mf _ k hk h' hm⟩
  case post=>
   rintro⟨r,u,w⟩ st' ⟨rfl,e,a1,a2,a3,a4⟩
   have e:r=none:=e
   cases e
   cases (show u=w from a1)
   exact wpS_pure (hQ u a2 a3 a4)
 rw[vU]
 dsimp only
 refine wpS_bind (hb h hh _ ?_)
 dsimp only
 cases b0:b h with
 |true=>
  rw[if_pos rfl]
  refine wpS_bind (wpS_mono (wpS_forRange (β:=Option (Option Nat) × Nat × Nat) (I:=fun i x st'=>st' = st∧x.1=none∧b (h+x.2.1)=true∧h+x.2.1 < n∧x.2.1 < x.2.2∧i < x.2.2) (Q:=fun x st'=>st' = st∧x.1=none∧b (h+x.2.1)=true∧h+x.2.1 < n∧x.2.1 < x.2.2∧(x.2.2 ≥ n - h∨b (h+x.2.2)=false)) ?s1 ?f1 ⟨rfl,rfl,b0,hh,Nat.lt_succ_self 0,Nat.lt_succ_self 0⟩) ?p1)
  case f1=>
   rintro⟨r,z,c⟩ st' ⟨rfl,e,a1,a2,a3,a4⟩
   have a4:max 0 n < c:=a4
   exact⟨rfl,e,a1,a2,a3,.inl (by show c ≥ n - h;omega)⟩
  case s1=>
   rintro i ⟨r,z,c⟩ st' _ hi ⟨rfl,e,a1,a2,a3,a4⟩
   have a1:b (h+z)=true:=a1
   have a2:h+z < n:=a2
   have a3:z < c:=a3
   have a4:i < c:=a4
   dsimp only
   by_cases c1:c ≥ n - h
   ·rw[if_pos c1];exact wpS_pure ⟨rfl,rfl,a1,a2,a3,.inl c1⟩
   ·rw[if_neg c1]
    refine wpS_bind (hb _ (by omega) _ ?_)
    dsimp only
    cases hm:b (h+c) with
    |true=>
     rw[if_neg (by decide)]
     exact wpS_pure ⟨rfl,rfl,hm,by show h+c < n;omega,by show c < 2 * c+1;omega,by show i+1 < 2 * c+1;omega⟩
    |false=>
     rw[if_pos (by decide)]
     exact wpS_pure ⟨rfl,rfl,a1,a2,a3,.inr hm⟩
  case p1=>
   rintro⟨r,z,c⟩ st' ⟨rfl,e,a1,a2,a3,a4⟩
   have e:r=none:=e
   subst e
   have a1:b (h+z)=true:=a1
   have a2:h+z < n:=a2
   have a3:z < c:=a3
   have a4:c ≥ n - h∨b (h+c)=false:=a4
   dsimp only
   refine tail (h+z+1) (h+min c (n - h)) (by omega) (by omega) (fun i hi=>mo i (h+z) (by omega) a2 a1) (fun i hi hn=>?_)
   rcases a4 with a4|a4
   ·omega
   ·by_cases c1:c ≥ n - h
    ·omega
    ·exact mf (h+c) i (by omega) hn a4
 |false=>
  rw[if_neg (by decide)]
  refine wpS_bind (wpS_mono (wpS_forRange (β:=Option (Option Nat) × Nat × Nat) (I:=fun i x st'=>st' = st∧x.1=none∧b (h - x.2.1)=false∧x.2.1≤h∧x.2.1 < x.2.2∧i < x.2.2) (Q:=fun x st'=>st' = st∧x.1=none∧b (h - x.2.1)=false∧x.2.1≤h∧x.2.1 < x.2.2∧(x.2.2 ≥ h+1∨b (h - x.2.2)=true)) ?s2 ?f2 ⟨rfl,rfl,b0,Nat.zero_le _,Nat.lt_succ_self 0,Nat.lt_succ_self 0⟩) ?p2)
  case f2=>
   rintro⟨r,z,c⟩ st' ⟨rfl,e,a1,a2,a3,a4⟩
   have a4:max 0 n < c:=a4
   exact⟨rfl,e,a1,a2,a3,.inl (by show c ≥ h+1;omega)⟩
  case s2=>
   rintro i ⟨r,z,c⟩ st' _ hi ⟨rfl,e,a1,a2,a3,a4⟩
   have a1:b (h - z)=false:=a1
   have a2:z≤h:=a2
   have a3:z < c:=a3
   have a4:i < c:=a4
   dsimp only
   by_cases c1:c ≥ h+1
   ·rw[if_pos c1];exact wpS_pure ⟨rfl,rfl,a1,a2,a3,.inl c1⟩
   ·rw[if_neg c1]
    refine wpS_bind (hb _ (by omega) _ ?_)
    dsimp only
    cases hm:b (h - c) with
    |true=>
     rw[if_pos rfl]
     exact wpS_pure ⟨rfl,rfl,a1,a2,a3,.inr hm⟩
    |false=>
     rw[if_neg (by decide)]
     exact wpS_pure ⟨rfl,rfl,hm,by show c≤h;omega,by show c < 2 * c+1;omega,by show i+1 < 2 * c+1;omega⟩
  case p2=>
   rintro⟨r,z,c⟩ st' ⟨rfl,e,a1,a2,a3,a4⟩
   have e:r=none:=e
   subst e
   have a1:b (h - z)=false:=a1
   have a2:z≤h:=a2
   have a3:z < c:=a3
   have a4:c ≥ h+1∨b (h - c)=true:=a4
   dsimp only
   refine tail (h+1 - min c (h+1)) (h - z) (by omega) (by omega) (fun i hi=>?_) (fun i hi hn=>mf (h - z) i (by omega) hn a1)
   rcases a4 with a4|a4
   ·omega
   ·by_cases c1:c ≥ h+1
    ·omega
    ·exact mo i (h - c) (by omega) (by omega) a4
end
theorem vH (x y:Array Keyed):mhi x y=(do
 rule "list.sort.merge-hi"
 let T:=x.size+y.size
 let fa (v:Array Keyed) (i j:Nat):=x.extract 0 i++y.extract 0 j++v.reverse
 let fb (v:Array Keyed) (i j:Nat):=y.extract 0 j++x.extract 0 i++v.reverse
 let mut i:=x.size - 1
 let mut j:=y.size
 let mut v:Array Keyed:=#[←elem' x i]
 if i==0 then return fa v i j
 if j==1 then return fb v i j
 let mut g:=gallopOf (←get)
 for _ in [0:T] do
  let mut c:=0
  let mut d:=0
  for _ in [0:T] do
   let some b ←lt' (←elem' y (j - 1)) (←elem' x (i - 1))|return fa v i j
   if b then
    i:=i - 1;v:=v.push (←elem' x i);c:=c+1;d:=0
    if i==0 then return fa v i j
    if c ≥ g then break
   else
    j:=j - 1;v:=v.push (←elem' y j);d:=d+1;c:=0
    if j==1 then return fb v i j
    if d ≥ g then break
  rule "list.sort.gallop"
  g:=g+1
  for _ in [0:T] do
   if g > 1 then g:=g - 1
   smg g
   let some p ←gal false (←elem' y (j - 1)) x 0 i (i - 1)|return fa v i j
   let k:=i - p
   c:=k
   if k > 0 then
    v:=v++(x.extract p i).reverse;i:=p
    if i==0 then return fa v i j
   j:=j - 1;v:=v.push (←elem' y j)
   if j==1 then return fb v i j
   let some p ←gal true (←elem' x (i - 1)) y 0 j (j - 1)|return fa v i j
   let k:=j - p
   d:=k
   if k > 0 then
    v:=v++(y.extract p j).reverse;j:=p
    if j==1 then return fb v i j
    if j==0 then return fa v i j
   i:=i - 1;v:=v.push (←elem' x i)
   if i==0 then return fa v i j
   if c < 7&&d < 7 then break
  g:=g+1
  smg g
 unsupported "internal:list.sort.merge-bound"):=rfl
theorem u5 (g:Nat):smg g=modify fun s=>SortSt.mk' (kindOf s) (arrOf s) (pendingOf s) g (failedOf s):=rfl
theorem vI (i:Nat):mergeAt' i=(do
 let s ←get
 let (some (p,m,e),some (q,n,_)):=((pendingOf s)[i]?,(pendingOf s)[i+1]?)|unsupported "internal:list.sort.pending"
 set (setPending s (((pendingOf s).setIfInBounds i (p,m+n,e)).eraseIdxIfInBounds (i+1)))
 let some k ←gal false (←elem' (arrOf s) q) (arrOf s) p m 0|return false
 let (p,m):=(p+k,m - k)
 if m==0 then return true
 let some n ←gal true (←elem' (arrOf s) (p+m - 1)) (arrOf s) q n (n - 1)|return false
 if n==0 then return true
 let x:=(arrOf s).extract p q
 let y:=(arrOf s).extract q (q+n)
 let r ←if m≤n then mlo x y else mhi x y
 modify fun s=>setArr s (r.toList.zipIdx.foldl (fun a (z,j)=>a.setIfInBounds (p+j) z) (arrOf s))
 return (failedOf (←get)).isNone):=rfl
section
variable {M:Model} {A:Around} {E:Value→Shared→Prop} {s:Shared} {κ:SortKind} {N:Keyed→Prop} {lt:Keyed→Keyed→Bool}
def Asc (lt:Keyed→Keyed→Bool) (x:Array Keyed):Prop:=∀i j,i≤j→j < x.size→lt (G x j) (G x i)=false
def Srt (lt:Keyed→Keyed→Bool) (l:List Keyed):Prop:=l.Pairwise fun a b=>lt b a=false
structure MI (lt:Keyed→Keyed→Bool) (x y v:Array Keyed) (i j:Nat):Prop where
 ix:i≤x.size
 jy:j≤y.size
 pm:v.toList.Perm (x.toList.take i++y.toList.take j)
 so:Srt lt v.toList
 bx:∀a∈v.toList,∀k,i≤k→k < x.size→lt (G x k) a=false
 by_:∀a∈v.toList,∀k,j≤k→k < y.size→lt (G y k) a=false
def Good (lt:Keyed→Keyed→Bool) (x y v:Array Keyed):Prop:=v.toList.Perm (x.toList++y.toList)∧Srt lt v.toList
theorem MI.sw {x y v:Array Keyed} {i j:Nat} (h:MI lt x y v i j):MI lt y x v j i:=⟨h.jy,h.ix,h.pm.trans List.perm_append_comm,h.so,h.by_,h.bx⟩
theorem uW {x:Array Keyed} {i:Nat} (h:i < x.size):x.toList.take (i+1)=x.toList.take i++[G x i]:=by
 rw[List.take_add_one,Array.getElem?_toList,oP h];rfl
theorem MI.push {x y v:Array Keyed} {i j:Nat} (hx:Asc lt x) (h:MI lt x y v i j) (hi:i < x.size) (hy:∀k,j≤k→k < y.size→lt (G y k) (G x i)=false):MI lt x y (v.push (G x i)) (i+1) j:=by
 refine⟨hi,h.jy,?_,?_,fun a ha k h1 h2=>?_,fun a ha k h1 h2=>?_⟩
 ·rw[Array.toList_push,uW hi,List.append_assoc]
  refine (h.pm.append_right _).trans ?_
  rw[List.append_assoc]
  exact List.Perm.append_left _ List.perm_append_comm
 ·unfold Srt
  rw[Array.toList_push,List.pairwise_append]
  refine⟨h.so,List.pairwise_singleton _ _,fun a ha b hb=>?_⟩
  rw[List.mem_singleton.mp hb]
  exact h.bx a ha i (Nat.le_refl _) hi
 ·rw[Array.toList_push] at ha
  rcases List.mem_append.mp ha with ha|ha
  ·exact h.bx a ha k (by omega) h2
  ·rw[List.mem_singleton.mp ha];exact hx i k (by omega) h2
 ·rw[Array.toList_push] at ha
  rcases List.mem_append.mp ha with ha|ha
  ·exact h.by_ a ha k h1 h2
  ·rw[List.mem_singleton.mp ha];exact hy k h1 h2
theorem uJ {x v:Array Keyed} {i k:Nat} (h:i+k < x.size):v++x.extract i (i+(k+1))=(v++x.extract i (i+k)).push (G x (i+k)):=by
 apply Array.toList_inj.mp
 rw[Array.toList_push,Array.toList_append,Array.toList_append,Array.toList_extract,Array.toList_extract,List.extract_eq_take_drop,List.extract_eq_take_drop,List.append_assoc]
 congr 1
 rw[show i+(k+1) - i=k+1 by omega,show i+k - i=k by omega,List.take_add_one,List.getElem?_drop,Array.getElem?_toList,oP h]
 rfl
theorem MI.chunk {x y v:Array Keyed} {i j:Nat} (hx:Asc lt x) (h:MI lt x y v i j):∀(k:Nat),i+k≤x.size→(∀m,m < k→∀k',j≤k'→k' < y.size→lt (G y k') (G x (i+m))=false)→MI lt x y (v++x.extract i (i+k)) (i+k) j
 |0,_,_=>by
  have e:v++x.extract i (i+0)=v:=by
   apply Array.toList_inj.mp
   simp
  rw[e];exact h
 |k+1,hk,hm=>by
  rw[uJ (by omega)]
  exact (MI.chunk hx h k (by omega) fun m hm'=>hm m (by omega)).push hx (by omega) (hm k (Nat.lt_succ_self _))
theorem MI.fin {x y v:Array Keyed} (h:MI lt x y v x.size y.size):Good lt x y v:=by
 refine⟨?_,h.so⟩
 have:=h.pm
 rwa [List.take_of_length_le (by simp),List.take_of_length_le (by simp)] at this
theorem MI.fa {x y v:Array Keyed} {i j:Nat} (hx:Asc lt x) (hy:Asc lt y) (h:MI lt x y v i j) (hr:∀m,i≤m→m < x.size→∀k,j≤k→k < y.size→lt (G y k) (G x m)=false):Good lt x y (v++x.extract i x.size++y.extract j y.size):=by
 have hi:=h.ix
 have hj:=h.jy
 have a1:=MI.chunk hx h (x.size - i) (by omega) fun m hm k h1 h2=>hr _ (by omega) (by omega) k h1 h2
 rw[show i+(x.size - i)=x.size by omega] at a1
 have a2:=MI.chunk hy a1.sw (y.size - j) (by omega) fun m hm k h1 h2=>absurd h1 (by omega)
 rw[show j+(y.size - j)=y.size by omega] at a2
 exact a2.sw.fin
theorem Good.sw {x y v:Array Keyed} (h:Good lt y x v):Good lt x y v:=⟨h.1.trans List.perm_append_comm,h.2⟩
def Fr (st st':SortSt):Prop:=kindOf st' = kindOf st∧arrOf st' = arrOf st∧pendingOf st' = pendingOf st∧failedOf st' = failedOf st
theorem jS {g:Nat} {st st':SortSt} {Q:Unit→SortSt→Prop} (f:Fr st st') (h:∀st'',Fr st st''→Q () st''):wpS M A E s (smg g) Q st':=by
 rw[u5];exact wpS_modify (h _ f)
structure J (lt:Keyed→Keyed→Bool) (x y:Array Keyed) (st:SortSt) (lo:Nat) (r:Option (Array Keyed)) (v:Array Keyed) (i j:Nat) (st':SortSt):Prop where
 f:Fr st st'
 yes:∀a,r=some a→Good lt x y a
 no:r=none→MI lt x y v i j∧i+1 < x.size∧j < y.size∧lo≤i+j
theorem J.on {x y:Array Keyed} {st st':SortSt} {lo i j:Nat} {v:Array Keyed} (f:Fr st st') (h:MI lt x y v i j) (hi:i+1 < x.size) (hj:j < y.size) (hl:lo≤i+j):J lt x y st lo none v i j st':=⟨f,fun _ z=>(nomatch z),fun _=>⟨h,hi,hj,hl⟩⟩
theorem J.end_ {x y:Array Keyed} {st st':SortSt} {lo i j:Nat} {v a:Array Keyed} (f:Fr st st') (h:Good lt x y a):J lt x y st lo (some a) v i j st':=⟨f,fun _ z=>Option.some.inj z ▸ h,fun z=>(nomatch z)⟩
theorem uN (C:Cmp M A E s κ N lt) {x y:Array Keyed} {st:SortSt} {Q:Array Keyed→SortSt→Prop} (hk:kindOf st=κ) (Nx:∀i,i < x.size→N (G x i)) (Ny:∀i,i < y.size→N (G y i)) (hx:Asc lt x) (hy:Asc lt y) (h0:0 < x.size) (h1:0 < y.size)
  (hb:lt (G y 0) (G x 0)=true) (hl:∀j,j < y.size→lt (G y j) (G x (x.size - 1))=true) (q:∀r st',Fr st st'→Good lt x y r→Q r st'):wpS M A E s (mlo x y) Q st:=by
 have m0:MI lt x y #[G y 0] 0 1:=by
  have z:MI lt y x #[] 0 0:=⟨Nat.zero_le _,Nat.zero_le _,by simp,List.Pairwise.nil,by simp,by simp⟩
  exact (z.push hy h1 fun k _ hk'=>C.tr _ _ _ (C.asym _ _ hb) (hx 0 k (Nat.zero_le _) hk')).sw
 have fa:∀{v:Array Keyed} {i j:Nat},MI lt x y v i j→j=y.size∨i=x.size→Good lt x y (v++x.extract i x.size++y.extract j y.size):=fun {v i j} m e=>m.fa hx hy fun a h2 h3 b h4 h5=>absurd e (by omega)
 have fb:∀{v:Array Keyed} {i j:Nat},MI lt x y v i j→i+1=x.size→Good lt x y (v++y.extract j y.size++x.extract i x.size):=fun {v i j} m e=>(m.sw.fa hy hx fun a h2 h3 b h4 h5=>by
  rw[show b=x.size - 1 by omega];exact C.asym _ _ (hl a h3)).sw
 have eqt:∀{a b:Nat},(a==b)=true→a=b:=fun h=>by simpa using h
 have eqf:∀{a b:Nat},¬(a==b)=true→a≠b:=fun h=>by simpa using h
 rw[vG]
 dsimp only
 refine wpS_bind (eV (wpS_bind (aQ h1 ?_)))
 by_cases e1:(1==y.size)=true
 ·rw[if_pos e1];exact wpS_pure (q _ _ ⟨rfl,rfl,rfl,rfl⟩ (fa m0 (.inl (eqt e1))))
 rw[if_neg e1]
 by_cases e2:(0+1==x.size)=true
 ·rw[if_pos e2];exact wpS_pure (q _ _ ⟨rfl,rfl,rfl,rfl⟩ (fb m0 (eqt e2)))
 rw[if_neg e2]
 have e1:=eqf e1
 have e2:=eqf e2
 have j0:=J.on (lo:=0) (show Fr st st from ⟨rfl,rfl,rfl,rfl⟩) m0 (by omega) (by omega) (Nat.zero_le _)
 refine wpS_bind (wpS_get (wpS_bind (wpS_mono (wpS_forRange (β:=Option (Array Keyed) × Array Keyed × Nat × Nat × Nat) (I:=fun t z st'=>z.1=none∧J lt x y st t none z.2.1 z.2.2.1 z.2.2.2.1 st') (Q:=fun z st'=>J lt x y st (x.size+y.size) z.1 z.2.1 z.2.2.1 z.2.2.2.1 st') ?step ?fin ⟨rfl,j0⟩) ?post)))
 case fin=>
  rintro⟨r,v,i,j,g⟩ st' ⟨e,h⟩
  have e:r=none:=e
  subst e
  exact⟨h.f,h.yes,fun z=>by
   obtain⟨a1,a2,a3,a4⟩:=h.no z
   exact⟨a1,a2,a3,by rw[Nat.max_eq_right (Nat.zero_le _)] at a4;exact a4⟩⟩
 case post=>
  rintro⟨r,v,i,j,g⟩ st' h
  cases r with
  |some r=>exact wpS_pure (q _ _ h.f (h.yes _ rfl))
  |none=>
   obtain⟨_,a2,a3,a4⟩:=h.no rfl
   have a2:i+1 < x.size:=a2
   have a3:j < y.size:=a3
   have a4:x.size+y.size≤i+j:=a4
   omega
 case step=>
  rintro t ⟨r,v,i,j,g⟩ st1 _ ht ⟨e,h⟩
  have e:r=none:=e
  subst e
  dsimp only at h ⊢
  refine wpS_bind (wpS_mono (wpS_forRange (β:=Option (Array Keyed) × Array Keyed × Nat × Nat × Nat × Nat) (I:=fun k z st'=>z.1=none∧J lt x y st (t+k) none z.2.1 z.2.2.1 z.2.2.2.1 st') (Q:=fun z st'=>J lt x y st (t+1) z.1 z.2.1 z.2.2.1 z.2.2.2.1 st') ?s1 ?f1 ⟨rfl,h⟩) ?p1)
  case f1=>
   rintro⟨r,v,i,j,c,d⟩ st' ⟨e,h⟩
   have e:r=none:=e
   subst e
   exact⟨h.f,h.yes,fun z=>by
    obtain⟨a1,a2,a3,a4⟩:=h.no z
    exact⟨a1,a2,a3,by rw[Nat.max_eq_right (Nat.zero_le _)] at a4;omega⟩⟩
  case s1=>
   rintro k ⟨r,v,i,j,c,d⟩ st' _ hk' ⟨e,h⟩
   obtain⟨m,a2,a3,a4⟩:=h.no rfl
   have f:=h.f
   clear h e
   dsimp only at m a2 a3 a4 ⊢
   refine wpS_bind (aQ a3 (wpS_bind (aQ (by omega) (wpS_bind (C.ask (Ny _ a3) (Nx _ (by omega)) (f.1.trans hk) ?_)))))
   dsimp only
   cases hc:lt (G y j) (G x i) with
   |true=>
    rw[if_pos rfl]
    have m':=(m.sw.push hy a3 fun k h2 h3=>C.tr _ _ _ (C.asym _ _ hc) (hx i k h2 h3)).sw
    refine wpS_bind (aQ a3 ?_)
    split
    ·rename_i e;exact wpS_pure (J.end_ f (fa m' (.inl (eqt e))))
    ·rename_i e;have e:=eqf e
     have j1:=J.on (lo:=t+1) f m' a2 (by omega) (by omega)
     have j2:=J.on (lo:=t+(k+1)) f m' a2 (by omega) (by omega)
     split
     ·exact wpS_pure j1
     ·exact wpS_pure ⟨rfl,j2⟩
   |false=>
    rw[if_neg (by decide)]
    have m':=m.push hx (by omega) fun k h2 h3=>C.tr _ _ _ hc (hy j k h2 h3)
    refine wpS_bind (aQ (by omega) ?_)
    split
    ·rename_i e;exact wpS_pure (J.end_ f (fb m' (eqt e)))
    ·rename_i e;have e:=eqf e
     have j1:=J.on (lo:=t+1) f m' (by omega) a3 (by omega)
     have j2:=J.on (lo:=t+(k+1)) f m' (by omega) a3 (by omega)
     split
     ·exact wpS_pure j1
     ·exact wpS_pure ⟨rfl,j2⟩
  case p1=>
   rintro⟨r,v,i,j,c,d⟩ st' h
   cases r with
   |some r=>exact wpS_pure ⟨h.f,h.yes,fun z=>nomatch z⟩
   |none=>
   dsimp only at h ⊢
   refine wpS_bind (eV (wpS_bind (wpS_mono (wpS_forRange (β:=Option (Array Keyed) × Array Keyed × Nat × Nat × Nat × Nat × Nat) (I:=fun k z st'=>z.1=none∧J lt x y st (t+1) none z.2.1 z.2.2.1 z.2.2.2.1 st') (Q:=fun z st'=>J lt x y st (t+1) z.1 z.2.1 z.2.2.1 z.2.2.2.1 st') ?s2 ?f2 ⟨rfl,h⟩) ?p2)))
   case f2=>
    rintro⟨r,v,i,j,g,c,d⟩ st' ⟨e,h⟩
    have e:r=none:=e
    subst e
    exact h
   case p2=>
    rintro⟨r,v,i,j,g,c,d⟩ st' h
    cases r with
    |some r=>exact wpS_pure ⟨h.f,h.yes,fun z=>nomatch z⟩
    |none=>exact wpS_bind (jS h.f fun st'' f'=>wpS_pure ⟨rfl,f',fun _ z=>(nomatch z),h.no⟩)
   case s2=>
    rintro k ⟨r,v,i,j,g,c,d⟩ st2 _ hk' ⟨e,h⟩
    obtain⟨m,a2,a3,a4⟩:=h.no rfl
    have f:=h.f
    clear h e
    dsimp only at m a2 a3 a4 ⊢
    have tl:∀{o:Nat},bv lt false (G y j) x i o=true→lt (G y j) (G x (i+o))=false:=fun h=>by simpa [bv] using h
    have fl:∀{o:Nat},bv lt false (G y j) x i o=false→lt (G y j) (G x (i+o))=true:=fun h=>by simpa [bv] using h
    by_cases hg:g > 1
    rw[if_pos hg]
    rotate_left
    rw[if_neg hg]
    all_goals
     refine wpS_bind (jS f fun st3 f3=>wpS_bind (aQ a3 (wpS_bind (ge (bv lt false (G y j) x i) (fun o ho Q' q'=>gg C Nx (Ny _ a3) (by omega) (f3.1.trans hk) q') (fun o p ho hp hb'=>?_) (by omega) fun k hk1 hk2 hk3=>?_))))
     ·cases hc:lt (G y j) (G x (i+o)) with
      |false=>show (!lt _ _)=true;rw[hc];rfl
      |true=>have:=C.ltle hc (hx (i+o) (i+p) (by omega) (by omega));rw[tl hb'] at this;cases this
     dsimp only
     have m1:=m.chunk hx k (by omega) fun o ho k' h2 h3=>C.tr _ _ _ (tl (hk2 o ho)) (hy j k' h2 h3)
     have nx1:i+k < x.size→lt (G y j) (G x (i+k))=true:=fun z=>fl (hk3 k (Nat.le_refl _) (by omega))
     have i0:t+1≤i+k+j:=by omega
     by_cases hk0:k > 0
     rw[if_pos hk0]
     by_cases c1:(i+k+1==x.size)=true
     ·rw[if_pos c1];exact wpS_pure (J.end_ f3 (fb m1 (eqt c1)))
     rw[if_neg c1]
     by_cases c2:(i+k==x.size)=true
     ·rw[if_pos c2];exact wpS_pure (J.end_ f3 (fa m1 (.inr (eqt c2))))
     rw[if_neg c2]
     have c1:=eqf c1
     have c2:=eqf c2
     have b2:i+k+1 < x.size:=by omega
     have n1:=nx1 (by omega)
     generalize i+k=i1 at m1 b2 n1 i0 ⊢
     generalize v++x.extract i i1=v1 at m1 ⊢
     rotate_left
     rw[if_neg hk0]
     have b2:=a2
     have n1:=nx1 (by omega)
     have m1:=m
     have i0:=a4
     rw[show i+k=i by omega] at n1
     clear nx1
     generalize i=i1 at m1 b2 n1 i0 ⊢
     generalize v=v1 at m1 ⊢
     all_goals
      have m2:=(m1.sw.push hy a3 fun k h2 h3=>C.tr _ _ _ (C.asym _ _ n1) (hx i1 k h2 h3)).sw
      refine wpS_bind (aQ a3 ?_)
      by_cases c3:(j+1==y.size)=true
      ·rw[if_pos c3];exact wpS_pure (J.end_ f3 (fa m2 (.inl (eqt c3))))
      rw[if_neg c3]
      have c3:=eqf c3
      refine wpS_bind (aQ (by omega) (wpS_bind (ge (bv lt true (G x i1) y (j+1)) (fun o ho Q' q'=>gg C Ny (Nx _ (by omega)) (by omega) (f3.1.trans hk) q') (fun o p ho hp hb'=>C.lelt (hy _ _ (by omega) (by omega)) hb') (by omega) fun k' hk1' hk2' hk3'=>?_)))
      dsimp only
      have m3:=(m2.sw.chunk hy k' (by omega) fun o ho k'' h2 h3=>C.tr _ _ _ (C.asym _ _ (hk2' o ho)) (hx i1 k'' h2 h3)).sw
      have ny1:j+1+k' < y.size→lt (G y (j+1+k')) (G x i1)=false:=fun z=>hk3' k' (Nat.le_refl _) (by omega)
      have j0:j≤j+1+k':=by omega
      by_cases hk0':k' > 0
      rw[if_pos hk0']
      by_cases c4:(j+1+k'==y.size)=true
      ·rw[if_pos c4];exact wpS_pure (J.end_ f3 (fa m3 (.inl (eqt c4))))
      rw[if_neg c4]
      have c4:=eqf c4
      have b3:j+1+k' < y.size:=by omega
      have n2:=ny1 b3
      generalize j+1+k' = j1 at m3 b3 n2 j0 ⊢
      generalize v1.push (G y j)++y.extract (j+1) j1=v3 at m3 ⊢
      rotate_left
      rw[if_neg hk0']
      have b3:j+1 < y.size:=by omega
      have n2:=ny1 (by omega)
      have m3:=m2
      have j0:j≤j+1:=Nat.le_succ _
      rw[show j+1+k' = j+1 by omega] at n2
      clear ny1 hk1' hk2' hk3' c3
      generalize j+1=j1 at m3 b3 n2 j0 ⊢
      generalize v1.push (G y j)=v3 at m3 ⊢
      all_goals
       have m4:=m3.push hx (by omega) fun k h2 h3=>C.tr _ _ _ n2 (hy j1 k h2 h3)
       refine wpS_bind (aQ (by omega) ?_)
       by_cases c5:(i1+1+1==x.size)=true
       ·rw[if_pos c5];exact wpS_pure (J.end_ f3 (fb m4 (eqt c5)))
       rw[if_neg c5]
       have c5:=eqf c5
       have j2:=J.on (lo:=t+1) f3 m4 (by omega) b3 (by omega)
       split
       ·exact wpS_pure j2
       ·exact wpS_pure ⟨rfl,j2⟩
end
section
variable {M:Model} {A:Around} {E:Value→Shared→Prop} {s:Shared} {κ:SortKind} {N:Keyed→Prop} {lt:Keyed→Keyed→Bool}
structure HI (lt:Keyed→Keyed→Bool) (x y v:Array Keyed) (i j:Nat):Prop where
 ix:i≤x.size
 jy:j≤y.size
 pm:v.toList.Perm (x.toList.drop i++y.toList.drop j)
 so:v.toList.Pairwise fun a b=>lt a b=false
 bx:∀a∈v.toList,∀k,k < i→lt a (G x k)=false
 by_:∀a∈v.toList,∀k,k < j→lt a (G y k)=false
theorem HI.sw {x y v:Array Keyed} {i j:Nat} (h:HI lt x y v i j):HI lt y x v j i:=⟨h.jy,h.ix,h.pm.trans List.perm_append_comm,h.so,h.by_,h.bx⟩
theorem vY {x:Array Keyed} {i:Nat} (h:i < x.size):x.toList.drop i=G x i::x.toList.drop (i+1):=by
 rw[List.drop_eq_getElem_cons (by simpa using h)]
 simp[G,h]
theorem HI.push {x y v:Array Keyed} {i j:Nat} (hx:Asc lt x) (h:HI lt x y v (i+1) j) (hy:∀k,k < j→lt (G x i) (G y k)=false):HI lt x y (v.push (G x i)) i j:=by
 have hi:=h.ix
 refine⟨by omega,h.jy,?_,?_,fun a ha k h1=>?_,fun a ha k h1=>?_⟩
 ·rw[Array.toList_push,vY (show i < x.size by omega)]
  exact (List.perm_append_comm.trans (List.Perm.cons _ h.pm))
 ·rw[Array.toList_push,List.pairwise_append]
  refine⟨h.so,List.pairwise_singleton _ _,fun a ha b hb=>?_⟩
  rw[List.mem_singleton.mp hb]
  exact h.bx a ha i (Nat.lt_succ_self _)
 ·rw[Array.toList_push] at ha
  rcases List.mem_append.mp ha with ha|ha
  ·exact h.bx a ha k (by omega)
  ·rw[List.mem_singleton.mp ha];exact hx k i (by omega) (by omega)
 ·rw[Array.toList_push] at ha
  rcases List.mem_append.mp ha with ha|ha
  ·exact h.by_ a ha k h1
  ·rw[List.mem_singleton.mp ha];exact hy k h1
theorem wt {x v:Array Keyed} {p k:Nat} (h:p+k < x.size):v++(x.extract p (p+(k+1))).reverse=v.push (G x (p+k))++(x.extract p (p+k)).reverse:=by
 have e:=uJ (v:=#[]) h
 simp only[Array.empty_append] at e
 rw[e]
 apply Array.toList_inj.mp
 simp
theorem HI.chunk {x y:Array Keyed} {p j:Nat} (hx:Asc lt x):∀(k:Nat) {v:Array Keyed},HI lt x y v (p+k) j→(∀m,m < k→∀k',k' < j→lt (G x (p+m)) (G y k')=false)→HI lt x y (v++(x.extract p (p+k)).reverse) p j
 |0,v,h,_=>by
  have e:v++(x.extract p (p+0)).reverse=v:=by
   apply Array.toList_inj.mp
   simp
  rw[e];exact h
 |k+1,v,h,hm=>by
  have hi:=h.ix
  rw[wt (by omega)]
  exact HI.chunk hx k (h.push hx (hm k (Nat.lt_succ_self _))) fun m hm'=>hm m (by omega)
theorem HI.fa {x y v:Array Keyed} {i j:Nat} (hx:Asc lt x) (hy:Asc lt y) (h:HI lt x y v i j) (hr:∀m,m < j→∀k,k < i→lt (G y m) (G x k)=false):Good lt x y (x.extract 0 i++y.extract 0 j++v.reverse):=by
 have a1:=HI.chunk (p:=0) hy j (by rw[Nat.zero_add];exact h.sw) fun m hm k hk=>by rw[Nat.zero_add];exact hr m hm k hk
 have a2:=HI.chunk (p:=0) hx i (by rw[Nat.zero_add];exact a1.sw) fun m hm k hk=>absurd hk (Nat.not_lt_zero _)
 rw[Nat.zero_add,Nat.zero_add] at a2
 have e:(x.extract 0 i++y.extract 0 j++v.reverse)=(v++(y.extract 0 j).reverse++(x.extract 0 i).reverse).reverse:=by
  apply Array.toList_inj.mp
  simp
 rw[e]
 refine⟨?_,?_⟩
 ·rw[Array.toList_reverse]
  have:=a2.pm
  simp only[List.drop_zero] at this
  exact (List.reverse_perm _).trans this
 ·unfold Srt
  rw[Array.toList_reverse,List.pairwise_reverse]
  exact a2.so
structure JH (lt:Keyed→Keyed→Bool) (x y:Array Keyed) (st:SortSt) (lo:Nat) (r:Option (Array Keyed)) (v:Array Keyed) (i j:Nat) (st':SortSt):Prop where
 f:Fr st st'
 yes:∀a,r=some a→Good lt x y a
 no:r=none→HI lt x y v i j∧0 < i∧1 < j∧lo+(i+j)≤x.size+y.size
theorem JH.on {x y:Array Keyed} {st st':SortSt} {lo i j:Nat} {v:Array Keyed} (f:Fr st st') (h:HI lt x y v i j) (hi:0 < i) (hj:1 < j) (hl:lo+(i+j)≤x.size+y.size):JH lt x y st lo none v i j st':=⟨f,fun _ z=>(nomatch z),fun _=>⟨h,hi,hj,hl⟩⟩
theorem JH.end_ {x y:Array Keyed} {st st':SortSt} {lo i j:Nat} {v a:Array Keyed} (f:Fr st st') (h:Good lt x y a):JH lt x y st lo (some a) v i j st':=⟨f,fun _ z=>Option.some.inj z ▸ h,fun z=>(nomatch z)⟩
theorem uO (C:Cmp M A E s κ N lt) {x y:Array Keyed} {st:SortSt} {Q:Array Keyed→SortSt→Prop} (hk:kindOf st=κ) (Nx:∀i,i < x.size→N (G x i)) (Ny:∀i,i < y.size→N (G y i)) (hx:Asc lt x) (hy:Asc lt y) (h0:0 < x.size) (h1:0 < y.size)
  (hb:lt (G y 0) (G x 0)=true) (hl:∀j,j < y.size→lt (G y j) (G x (x.size - 1))=true) (q:∀r st',Fr st st'→Good lt x y r→Q r st'):wpS M A E s (mhi x y) Q st:=by
 have m0:HI lt x y #[G x (x.size - 1)] (x.size - 1) y.size:=by
  have z:HI lt x y #[] (x.size - 1+1) y.size:=⟨by omega,Nat.le_refl _,by rw[show x.size - 1+1=x.size by omega];simp,List.Pairwise.nil,by simp,by simp⟩
  exact z.push hx fun k hk'=>C.asym _ _ (hl k hk')
 have fa:∀{v:Array Keyed} {i j:Nat},HI lt x y v i j→i=0∨j=0→Good lt x y (x.extract 0 i++y.extract 0 j++v.reverse):=fun {v i j} m e=>m.fa hx hy fun a h2 b h4=>absurd e (by omega)
 have fb:∀{v:Array Keyed} {i j:Nat},HI lt x y v i j→j=1→Good lt x y (y.extract 0 j++x.extract 0 i++v.reverse):=fun {v i j} m e=>(m.sw.fa hy hx fun a h2 b h4=>by
  have:=m.ix
  rw[show b=0 by omega];exact C.asym _ _ (C.ltle hb (hx 0 a (Nat.zero_le _) (by omega)))).sw
 have eqt:∀{a b:Nat},(a==b)=true→a=b:=fun h=>by simpa using h
 have eqf:∀{a b:Nat},¬(a==b)=true→a≠b:=fun h=>by simpa using h
 rw[vH]
 dsimp only
 refine wpS_bind (eV (wpS_bind (aQ (by omega) ?_)))
 by_cases e1:(x.size - 1==0)=true
 ·rw[if_pos e1];exact wpS_pure (q _ _ ⟨rfl,rfl,rfl,rfl⟩ (fa m0 (.inl (eqt e1))))
 rw[if_neg e1]
 by_cases e2:(y.size==1)=true
 ·rw[if_pos e2];exact wpS_pure (q _ _ ⟨rfl,rfl,rfl,rfl⟩ (fb m0 (eqt e2)))
 rw[if_neg e2]
 have e1:=eqf e1
 have e2:=eqf e2
 have j0:=JH.on (lo:=0) (show Fr st st from ⟨rfl,rfl,rfl,rfl⟩) m0 (by omega) (by omega) (by omega)
 refine wpS_bind (wpS_get (wpS_bind (wpS_mono (wpS_forRange (β:=Option (Array Keyed) × Nat × Nat × Array Keyed × Nat) (I:=fun t z st'=>z.1=none∧JH lt x y st t none z.2.2.2.1 z.2.1 z.2.2.1 st') (Q:=fun z st'=>JH lt x y st (x.size+y.size) z.1 z.2.2.2.1 z.2.1 z.2.2.1 st') ?step ?fin ⟨rfl,j0⟩) ?post)))
 case fin=>
  rintro⟨r,i,j,v,g⟩ st' ⟨e,h⟩
  have e:r=none:=e
  subst e
  exact⟨h.f,h.yes,fun z=>by
   obtain⟨a1,a2,a3,a4⟩:=h.no z
   exact⟨a1,a2,a3,by rw[Nat.max_eq_right (Nat.zero_le _)] at a4;exact a4⟩⟩
 case post=>
  rintro⟨r,i,j,v,g⟩ st' h
  cases r with
  |some r=>exact wpS_pure (q _ _ h.f (h.yes _ rfl))
  |none=>
   obtain⟨_,a2,a3,a4⟩:=h.no rfl
   have a2:0 < i:=a2
   have a4:x.size+y.size+(i+j)≤x.size+y.size:=a4
   omega
 case step=>
  rintro t ⟨r,i,j,v,g⟩ st1 _ ht ⟨e,h⟩
  have e:r=none:=e
  subst e
  dsimp only at h ⊢
  refine wpS_bind (wpS_mono (wpS_forRange (β:=Option (Array Keyed) × Nat × Nat × Array Keyed × Nat × Nat) (I:=fun k z st'=>z.1=none∧JH lt x y st (t+k) none z.2.2.2.1 z.2.1 z.2.2.1 st') (Q:=fun z st'=>JH lt x y st (t+1) z.1 z.2.2.2.1 z.2.1 z.2.2.1 st') ?s1 ?f1 ⟨rfl,h⟩) ?p1)
  case f1=>
   rintro⟨r,i,j,v,c,d⟩ st' ⟨e,h⟩
   have e:r=none:=e
   subst e
   exact⟨h.f,h.yes,fun z=>by
    obtain⟨a1,a2,a3,a4⟩:=h.no z
    exact⟨a1,a2,a3,by rw[Nat.max_eq_right (Nat.zero_le _)] at a4;omega⟩⟩
  case s1=>
   rintro k ⟨r,i,j,v,c,d⟩ st' _ hk' ⟨e,h⟩
   obtain⟨m,a2,a3,a4⟩:=h.no rfl
   have f:=h.f
   clear h e
   dsimp only at m a2 a3 a4 ⊢
   have mi:=m.ix
   have mj:=m.jy
   obtain⟨i,rfl⟩:∃i',i=i' + 1:=⟨i - 1,by omega⟩
   obtain⟨j,rfl⟩:∃j',j=j' + 1:=⟨j - 1,by omega⟩
   simp only[Nat.add_sub_cancel]
   refine wpS_bind (aQ (by omega) (wpS_bind (aQ (by omega) (wpS_bind (C.ask (Ny _ (by omega)) (Nx _ (by omega)) (f.1.trans hk) ?_)))))
   dsimp only
   cases hc:lt (G y j) (G x i) with
   |true=>
    rw[if_pos rfl]
    have m':=m.push hx fun k h2=>C.tr _ _ _ (hy k j (by omega) (by omega)) (C.asym _ _ hc)
    refine wpS_bind (aQ (by omega) ?_)
    by_cases c1:(i==0)=true
    ·rw[if_pos c1];exact wpS_pure (JH.end_ f (fa m' (.inl (eqt c1))))
    rw[if_neg c1]
    have c1:=eqf c1
    have j1:=JH.on (lo:=t+1) f m' (by omega) (by omega) (by omega)
    have j2:=JH.on (lo:=t+(k+1)) f m' (by omega) (by omega) (by omega)
    split
    ·exact wpS_pure j1
    ·exact wpS_pure ⟨rfl,j2⟩
   |false=>
    rw[if_neg (by decide)]
    have m':=(m.sw.push hy fun k h2=>C.tr _ _ _ (hx k i (by omega) (by omega)) hc).sw
    refine wpS_bind (aQ (by omega) ?_)
    by_cases c1:(j==1)=true
    ·rw[if_pos c1];exact wpS_pure (JH.end_ f (fb m' (eqt c1)))
    rw[if_neg c1]
    have c1:=eqf c1
    have j1:=JH.on (lo:=t+1) f m' (by omega) (by omega) (by omega)
    have j2:=JH.on (lo:=t+(k+1)) f m' (by omega) (by omega) (by omega)
    split
    ·exact wpS_pure j1
    ·exact wpS_pure ⟨rfl,j2⟩
  case p1=>
   rintro⟨r,i,j,v,c,d⟩ st' h
   cases r with
   |some r=>exact wpS_pure ⟨h.f,h.yes,fun z=>nomatch z⟩
   |none=>
   dsimp only at h ⊢
   refine wpS_bind (eV (wpS_bind (wpS_mono (wpS_forRange (β:=Option (Array Keyed) × Nat × Nat × Array Keyed × Nat × Nat × Nat) (I:=fun k z st'=>z.1=none∧JH lt x y st (t+1) none z.2.2.2.1 z.2.1 z.2.2.1 st') (Q:=fun z st'=>JH lt x y st (t+1) z.1 z.2.2.2.1 z.2.1 z.2.2.1 st') ?s2 ?f2 ⟨rfl,h⟩) ?p2)))
   case f2=>
    rintro⟨r,i,j,v,g,c,d⟩ st' ⟨e,h⟩
    have e:r=none:=e
    subst e
    exact h
   case p2=>
    rintro⟨r,i,j,v,g,c,d⟩ st' h
    cases r with
    |some r=>exact wpS_pure ⟨h.f,h.yes,fun z=>nomatch z⟩
    |none=>exact wpS_bind (jS h.f fun st'' f'=>wpS_pure ⟨rfl,f',fun _ z=>(nomatch z),h.no⟩)
   case s2=>
    rintro k ⟨r,i,j,v,g,c,d⟩ st2 _ hk' ⟨e,h⟩
    obtain⟨m,a2,a3,a4⟩:=h.no rfl
    have f:=h.f
    clear h e
    dsimp only at m a2 a3 a4 ⊢
    have mi:=m.ix
    have mj:=m.jy
    obtain⟨j,rfl⟩:∃j',j=j' + 1:=⟨j - 1,by omega⟩
    simp only[Nat.add_sub_cancel]
    have tl:∀{o:Nat},bv lt false (G y j) x 0 o=true→lt (G y j) (G x o)=false:=fun h=>by simpa [bv] using h
    have fl:∀{o:Nat},bv lt false (G y j) x 0 o=false→lt (G y j) (G x o)=true:=fun h=>by simpa [bv] using h
    by_cases hg:g > 1
    rw[if_pos hg]
    rotate_left
    rw[if_neg hg]
    all_goals
     refine wpS_bind (jS f fun st3 f3=>wpS_bind (aQ (by omega) (wpS_bind (ge (bv lt false (G y j) x 0) (fun o ho Q' q'=>gg C Nx (Ny _ (by omega)) (by omega) (f3.1.trans hk) q') (fun o p ho hp hb'=>?_) (by omega) fun p hp1 hp2 hp3=>?_))))
     ·cases hc:lt (G y j) (G x o) with
      |false=>show (!lt _ (G x (0+o)))=true;rw[Nat.zero_add,hc];rfl
      |true=>have:=C.ltle hc (hx o p (by omega) (by omega));rw[tl hb'] at this;cases this
     dsimp only
     have m1:=HI.chunk (p:=p) (v:=v) (j:=j+1) hx (i - p) (by rw[show p+(i - p)=i by omega];exact m) fun o ho k' h2=>C.tr _ _ _ (hy k' j (by omega) (by omega)) (C.asym _ _ (fl (hp3 (p+o) (by omega) (by omega))))
     rw[show p+(i - p)=i by omega] at m1
     have n1:∀o,o < p→lt (G y j) (G x o)=false:=fun o ho=>tl (hp2 o ho)
     have i0:t+1+(p+(j+1))≤x.size+y.size:=by omega
     have mi1:p≤x.size:=by omega
     by_cases hk0:i - p > 0
     rw[if_pos hk0]
     by_cases c1:(p==0)=true
     ·rw[if_pos c1];exact wpS_pure (JH.end_ f3 (fa m1 (.inl (eqt c1))))
     rw[if_neg c1]
     have b2:0 < p:=by have:=eqf c1;omega
     generalize v++(x.extract p i).reverse=v1 at m1 ⊢
     generalize hkk:i - p=kk
     clear hp1 hp2 hp3 hk0 hkk
     rotate_left
     rw[if_neg hk0]
     have hpi:i=p:=by omega
     have b2:0 < p:=by omega
     have m1:=m
     rw[hpi] at m1 ⊢
     generalize v=v1 at m1 ⊢
     generalize hkk:p - p=kk
     clear hp1 hp2 hp3 hk0 hkk hpi
     all_goals
      obtain⟨p,rfl⟩:∃p',p=p' + 1:=⟨p - 1,by omega⟩
      have m2:=(m1.sw.push hy n1).sw
      refine wpS_bind (aQ (by omega) ?_)
      by_cases c3:(j==1)=true
      ·rw[if_pos c3];exact wpS_pure (JH.end_ f3 (fb m2 (eqt c3)))
      rw[if_neg c3]
      have c3:=eqf c3
      simp only[Nat.add_sub_cancel]
      refine wpS_bind (aQ (by omega) (wpS_bind (ge (bv lt true (G x p) y 0) (fun o ho Q' q'=>gg C Ny (Nx _ (by omega)) (by omega) (f3.1.trans hk) q') (fun o p ho hp hb'=>C.lelt (hy _ _ (by omega) (by omega)) hb') (by omega) fun p' hp1' hp2' hp3'=>?_)))
      have tl':∀{o:Nat},bv lt true (G x p) y 0 o=lt (G y o) (G x p):=fun {o}=>by simp[bv]
      dsimp only
      have m3:=(HI.chunk (p:=p') (v:=v1.push (G y j)) hy (j - p') (by rw[show p' + (j - p')=j by omega];exact m2.sw) fun o ho k' h2=>C.tr _ _ _ (hx k' p (by omega) (by omega)) (tl' ▸ hp3' (p' + o) (by omega) (by omega))).sw
      rw[show p' + (j - p')=j by omega] at m3
      have n2:∀o,o < p'→lt (G x p) (G y o)=false:=fun o ho=>C.asym _ _ (tl' ▸ hp2' o ho)
      have j0:t+1+(p+1+p')≤x.size+y.size:=by omega
      by_cases hk0':j - p' > 0
      rw[if_pos hk0']
      by_cases c4:(p'==1)=true
      ·rw[if_pos c4];exact wpS_pure (JH.end_ f3 (fb m3 (eqt c4)))
      rw[if_neg c4]
      by_cases c5:(p'==0)=true
      ·rw[if_pos c5];exact wpS_pure (JH.end_ f3 (fa m3 (.inr (eqt c5))))
      rw[if_neg c5]
      have b3:1 < p':=by have:=eqf c4;have:=eqf c5;omega
      generalize v1.push (G y j)++(y.extract p' j).reverse=v3 at m3 ⊢
      generalize hkk':j - p' = kk'
      clear hkk' hk0'
      rotate_left
      rw[if_neg hk0']
      have b3:1 < p':=by omega
      have m3:=m2
      rw[show j=p' by omega] at m3 ⊢
      generalize v1.push (G y p')=v3 at m3 ⊢
      generalize p' - p' = kk'
      all_goals
       have m4:=m3.push hx n2
       refine wpS_bind (aQ (by omega) ?_)
       by_cases c6:(p==0)=true
       ·rw[if_pos c6];exact wpS_pure (JH.end_ f3 (fa m4 (.inl (eqt c6))))
       rw[if_neg c6]
       have c6:=eqf c6
       have j2:=JH.on (lo:=t+1) f3 m4 (by omega) b3 (by omega)
       split
       ·exact wpS_pure j2
       ·exact wpS_pure ⟨rfl,j2⟩
end
def Seg (lt:Keyed→Keyed→Bool) (a:Array Keyed) (lo hi:Nat):Prop:=∀i j,lo≤i→i≤j→j < hi→lt (G a j) (G a i)=false
def Dn (lt:Keyed→Keyed→Bool) (a:Array Keyed) (lo hi:Nat):Prop:=∀i j,lo≤i→i≤j→j < hi→lt (G a i) (G a j)=false
def Tl (lt:Keyed→Keyed→Bool) (a:Array Keyed) (hi q:Nat):Prop:=∀i j,hi≤i+(q+1)→i < hi→hi≤j+(q+1)→j < hi→lt (G a i) (G a j)=false
structure Cg (lo hi:Nat) (a a':Array Keyed):Prop where
 pm:a'.Perm a
 at_:∀k,k < lo∨hi≤k→G a' k=G a k
theorem Cg.size {lo hi:Nat} {a a':Array Keyed} (h:Cg lo hi a a'):a'.size=a.size:=h.pm.size_eq
theorem Cg.refl (lo hi:Nat) (a:Array Keyed):Cg lo hi a a:=⟨Array.Perm.refl _,fun _ _=>rfl⟩
theorem Cg.trans {lo hi:Nat} {a b c:Array Keyed} (h:Cg lo hi a b) (h2:Cg lo hi b c):Cg lo hi a c:=⟨h2.pm.trans h.pm,fun k hk=>(h2.at_ k hk).trans (h.at_ k hk)⟩
theorem Cg.mono {lo hi lo' hi':Nat} {a b:Array Keyed} (h:Cg lo hi a b) (h1:lo'≤lo) (h2:hi≤hi'):Cg lo' hi' a b:=⟨h.pm,fun k hk=>h.at_ k (by omega)⟩
theorem G_eq {p q:Array Keyed} {i j:Nat} (h:p[i]? = q[j]?):G p i=G q j:=by
 have e:∀(a:Array Keyed) (k:Nat),G a k=(a[k]?).getD (Value.none,Value.none):=fun a k=>by simp[G]
 rw[e,e,h]
theorem dg {p:Array Keyed} {i j:Nat} (hj:j≤p.size) (k:Nat):G (mirror p i j ((j - i) / 2)) k=if i≤k∧k < j then G p (i+j - 1 - k) else G p k:=by
 have h:=getElem?_mirror_all (xs:=p) (i:=i) hj k
 split
 ·rename_i c;rw[if_pos c] at h;exact G_eq h
 ·rename_i c;rw[if_neg c] at h;exact G_eq h
theorem kM {p:Array Keyed} {i j:Nat} (hj:j≤p.size):Cg i j p (mirror p i j ((j - i) / 2)):=⟨mirror_perm _ _ _ _,fun k hk=>by rw[dg hj,if_neg (by omega)]⟩
abbrev sa (st:SortSt) (a:Array Keyed):SortSt:=setArr st a
section
variable {M:Model} {A:Around} {E:Value→Shared→Prop} {s:Shared} {κ:SortKind} {N:Keyed→Prop} {lt:Keyed→Keyed→Bool}
def Nm (N:Keyed→Prop) (a:Array Keyed):Prop:=∀x,x∈a→N x
theorem Nm.at {a:Array Keyed} (h:Nm N a) {i:Nat} (hi:i < a.size):N (G a i):=h _ (Array.mem_of_getElem? (oP hi))
theorem Nm.perm {a b:Array Keyed} (h:Nm N a) (e:b.Perm a):Nm N b:=fun x hx=>h x (e.mem_iff.mp hx)
theorem fH (C:Cmp M A E s κ N lt) {st:SortSt} {a:Array Keyed} {i j:Nat} {Q:Option Bool→SortSt→Prop} (hk:kindOf st=κ) (hN:Nm N a) (hi:i < a.size) (hj:j < a.size) (h:Q (some (lt (G a i) (G a j))) (sa st a)):wpS M A E s (ltAt' i j) Q (sa st a):=by
 rw[ltAt'_eq]
 refine wpS_bind (wpS_get ?_)
 show wpS _ _ _ _ (do let x ←elem' a i;let y ←elem' a j;lt' x y) Q _
 exact wpS_bind (aQ hi (wpS_bind (aQ hj (C.ask (hN.at hi) (hN.at hj) hk h))))
theorem tm (C:Cmp M A E s κ N lt) {a:Array Keyed} {l:Nat}:Seg lt a l (l+1):=fun i j h1 h2 h3=>by
 have:i=j:=by omega
 subst this;exact C.refl _
theorem qh (C:Cmp M A E s κ N lt) {a:Array Keyed} {l n:Nat} (h:Seg lt a l (l+n)) (h1:1≤n) (hl:lt (G a (l+n)) (G a (l+n - 1))=false):Seg lt a l (l+(n+1)):=fun i j hi hij hj=>by
 by_cases e:j=l+n
 ·subst e
  by_cases e2:i=l+n
  ·subst e2;exact C.refl _
  ·exact C.tr _ (G a (l+n - 1)) _ (h i (l+n - 1) hi (by omega) (by omega)) hl
 ·exact h i j hi hij (by omega)
theorem fY (C:Cmp M A E s κ N lt) {a:Array Keyed} {l n:Nat} (h:Dn lt a l (l+n)) (h1:1≤n) (hl:lt (G a (l+n - 1)) (G a (l+n))=false):Dn lt a l (l+(n+1)):=fun i j hi hij hj=>by
 by_cases e:j=l+n
 ·subst e
  by_cases e2:i=l+n
  ·subst e2;exact C.refl _
  ·exact C.tr _ (G a (l+n - 1)) _ hl (h i (l+n - 1) hi (by omega) (by omega))
 ·exact h i j hi hij (by omega)
theorem pV (C:Cmp M A E s κ N lt) {st:SortSt} {a:Array Keyed} {l m:Nat} {Q:Option Nat→SortSt→Prop} (hk:kindOf st=κ) (hN:Nm N a) (h1:1≤m) (hs:l+m≤a.size)
  (q:∀n a',Cg l (l+m) a a'→1≤n→n≤m→Seg lt a' l (l+n)→Q (some n) (sa st a')):wpS M A E s (countRun' l m) Q (sa st a):=by
 have asc:∀(n:Nat) (a':Array Keyed) (Q':Option (Option Nat) × Nat→SortSt→Prop),Cg l (l+m) a a'→1≤n→n≤m→Seg lt a' l (l+n)→(∀n',n≤n'→n'≤m→Seg lt a' l (l+n')→(n' < m→lt (G a' (l+n')) (G a' (l+n' - 1))=true)→Q' (none,n') (sa st a')) →
   wpS M A E s (forIn [n:m] ((none,n):Option (Option Nat) × Nat) fun _ x=>do
    let z ←ltAt' (l+x.2) (l+x.2 - 1)
    match z with
    |some z=>if z=true then pure (ForInStep.done (none,x.2)) else pure (ForInStep.yield (none,x.2+1))
    |_=>pure (ForInStep.done (some none,x.2))) Q' (sa st a'):=by
  intro n a' Q' cg n1 nm sg q'
  refine wpS_forRange (β:=Option (Option Nat) × Nat) (I:=fun t x st'=>st' = sa st a'∧x.1=none∧x.2=t∧n≤t∧t≤m∧Seg lt a' l (l+t)) (Q:=Q') ?_ ?_ ⟨rfl,rfl,rfl,Nat.le_refl _,nm,sg⟩
  ·rintro t ⟨r,n'⟩ st' _ ht ⟨rfl,e1,e2,e3,e4,e5⟩
   have e2:n' = t:=e2
   subst e2
   have hz:=cg.size
   refine wpS_bind (fH C hk (hN.perm cg.pm) (by omega) (by omega) ?_)
   cases hc:lt (G a' (l+n')) (G a' (l+n' - 1)) with
   |true=>exact wpS_pure (q' n' e3 (by omega) e5 fun _=>hc)
   |false=>exact wpS_pure ⟨rfl,rfl,rfl,by omega,by omega,qh C e5 (by omega) hc⟩
  ·rintro⟨r,n'⟩ st' ⟨rfl,e1,e2,e3,e4,e5⟩
   have e1:r=none:=e1
   have e2:n' = max n m:=e2
   subst e1
   have:n' = m:=by omega
   subst this
   rw[show max n n' = n' by omega] at e5
   exact q' n' nm (Nat.le_refl _) e5 fun z=>absurd z (by omega)
 have rv:∀{a':Array Keyed} {n:Nat},Cg l (l+m) a a'→n≤m→Dn lt a' l (l+n)→Seg lt (mirror a' l (l+n) ((l+n - l) / 2)) l (l+n):=fun {a' n} cg nm d i j hi hij hj=>by
  have hz:=cg.size
  rw[dg (by omega),dg (by omega),if_pos (by omega),if_pos (by omega)]
  exact d _ _ (by omega) (by omega) (by omega)
 have rt:∀{a':Array Keyed} {n q:Nat},Cg l (l+m) a a'→n≤m→q < n→Dn lt a' l (l+n)→Tl lt a' (l+n) q→Dn lt (mirror a' (l+n - (q+1)) (l+n) ((l+n - (l+n - (q+1))) / 2)) l (l+n):=fun {a' n q} cg nm hq d tl i j hi hij hj=>by
  have hz:=cg.size
  rw[dg (by omega),dg (by omega)]
  split
  ·split
   ·exact tl _ _ (by omega) (by omega) (by omega) (by omega)
   ·omega
  ·split
   ·exact d _ _ hi (by omega) (by omega)
   ·exact d _ _ hi hij hj
 have t0:∀{a':Array Keyed} {h:Nat},Tl lt a' h 0:=fun {a' h} i j h1 h2 h3 h4=>by
  have:i=j:=by omega
  subst this;exact C.refl _
 have dl:∀(n:Nat) (a':Array Keyed),Cg l (l+m) a a'→1≤n→n≤m→Dn lt a' l (l+n)→wpS M A E s (do
   rule "list.sort.descending-run"
   let mut n:=n
   let mut q:=0
   for _ in [n:m] do
    let some z ←ltAt' (l+n) (l+n - 1)|return none
    if z then
     if q > 0 then reverseSlice' (l+n - (q+1)) (l+n)
     q:=0
    else
     let some z ←ltAt' (l+n - 1) (l+n)|return none
     if z then break
     q:=q+1
    n:=n+1
   if q > 0 then reverseSlice' (l+n - (q+1)) (l+n)
   reverseSlice' l (l+n)
   for _ in [n:m] do
    let some z ←ltAt' (l+n) (l+n - 1)|return none
    if z then break
    n:=n+1
   return some n) Q (sa st a'):=by
  intro n a1 cg n1 nm d
  dsimp only
  refine wpS_bind (eV (wpS_bind (wpS_mono (wpS_forRange (β:=Option (Option Nat) × Nat × Nat) (I:=fun t x st'=>x.1=none∧x.2.1=t∧n≤t∧t≤m∧x.2.2 < t∧∃a',st' = sa st a'∧Cg l (l+m) a a'∧Dn lt a' l (l+t)∧Tl lt a' (l+t) x.2.2)
   (Q:=fun x st'=>x.1=none∧n≤x.2.1∧x.2.1≤m∧x.2.2 < x.2.1∧∃a',st' = sa st a'∧Cg l (l+m) a a'∧Dn lt a' l (l+x.2.1)∧Tl lt a' (l+x.2.1) x.2.2) ?_ ?_ ⟨rfl,rfl,Nat.le_refl _,nm,n1,a1,rfl,cg,d,t0⟩) ?_)))
  ·rintro t ⟨r,n',q'⟩ st' _ ht ⟨e1,e2,e3,e4,e5,a',rfl,cg',d',tl⟩
   have e2:n' = t:=e2
   subst e2
   have e5:q' < n':=e5
   have hz:=cg'.size
   dsimp only at tl ⊢
   refine wpS_bind (fH C hk (hN.perm cg'.pm) (by omega) (by omega) ?_)
   dsimp only
   cases hc:lt (G a' (l+n')) (G a' (l+n' - 1)) with
   |true=>
    rw[if_pos rfl]
    by_cases hq:q' > 0
    ·rw[if_pos hq,reverseSlice'_eq]
     refine wpS_bind (wpS_modify (wpS_pure ⟨rfl,rfl,by omega,by omega,by show 0 < n' + 1;omega,_,rfl,cg'.trans ((kM (by omega)).mono (by omega) (by omega)),?_,t0⟩))
     refine fY C (rt cg' (by omega) e5 d' tl) (by omega) ?_
     rw[dg (by show l+n'≤a'.size;omega),dg (by show l+n'≤a'.size;omega),if_pos (by omega),if_neg (by omega)]
     exact C.tr _ (G a' (l+n' - 1)) _ (C.asym _ _ hc) (d' _ _ (by omega) (by omega) (by omega))
    ·rw[if_neg hq]
     exact wpS_pure ⟨rfl,rfl,by omega,by omega,by show 0 < n' + 1;omega,a',rfl,cg',fY C d' (by omega) (C.asym _ _ hc),t0⟩
   |false=>
    rw[if_neg (by decide)]
    refine wpS_bind (fH C hk (hN.perm cg'.pm) (by omega) (by omega) ?_)
    dsimp only
    cases hc2:lt (G a' (l+n' - 1)) (G a' (l+n')) with
    |true=>
     rw[if_pos rfl]
     exact wpS_pure ⟨rfl,e3,e4,e5,a',rfl,cg',d',tl⟩
    |false=>
     rw[if_neg (by decide)]
     refine wpS_pure ⟨rfl,rfl,by omega,by omega,by show q' + 1 < n' + 1;omega,a',rfl,cg',fY C d' (by omega) hc2,fun i j b1 b2 b3 b4=>?_⟩
     have b1:l+(n' + 1)≤i+(q' + 1+1):=b1
     have b3:l+(n' + 1)≤j+(q' + 1+1):=b3
     by_cases ei:i=l+n'
     ·by_cases ej:j=l+n'
      ·subst ei;subst ej;exact C.refl _
      ·subst ei;exact C.tr _ (G a' (l+n' - 1)) _ (tl _ _ (by omega) (by omega) (by omega) (by omega)) hc
     ·by_cases ej:j=l+n'
      ·subst ej;exact C.tr _ (G a' (l+n' - 1)) _ hc2 (tl _ _ (by omega) (by omega) (by omega) (by omega))
      ·exact tl _ _ (by omega) (by omega) (by omega) (by omega)
  ·rintro⟨r,n',q'⟩ st' ⟨e1,e2,e3,e4,e5,a',rfl,cg',d',tl⟩
   have e2:n' = max n m:=e2
   have:n' = m:=by omega
   subst this
   rw[show max n n' = n' by omega] at d' tl e5 e3
   exact⟨e1,e3,Nat.le_refl _,e5,a',rfl,cg',d',tl⟩
  ·rintro⟨r,n',q'⟩ st' ⟨e1,e3,e4,e5,a',rfl,cg',d',tl⟩
   cases e1
   dsimp only at e3 e4 e5 d' tl ⊢
   have hz:=cg'.size
   by_cases hq:q' > 0
   rw[if_pos hq,reverseSlice'_eq]
   refine wpS_bind (wpS_modify ?_)
   have cg2:=cg'.trans ((kM (i:=l+n' - (q' + 1)) (j:=l+n') (p:=a') (by omega)).mono (show l≤_ by omega) (show _≤l+m by omega))
   have d2:=rt cg' e4 e5 d' tl
   show wpS _ _ _ _ _ _ (sa st (mirror a' (l+n' - (q' + 1)) (l+n') ((l+n' - (l+n' - (q' + 1))) / 2)))
   generalize mirror a' (l+n' - (q' + 1)) (l+n') ((l+n' - (l+n' - (q' + 1))) / 2)=a2 at cg2 d2 ⊢
   rotate_left
   rw[if_neg hq]
   have cg2:=cg'
   have d2:=d'
   generalize a' = a2 at cg2 d2 ⊢
   all_goals
    have hz2:=cg2.size
    rw[reverseSlice'_eq]
    refine wpS_bind (wpS_modify ?_)
    have cg3:=cg2.trans ((kM (i:=l) (j:=l+n') (p:=a2) (by omega)).mono (Nat.le_refl _) (show _≤l+m by omega))
    refine wpS_bind (asc n' _ _ cg3 (by omega) e4 (rv cg2 e4 d2) fun n'' b1 b2 b3 b4=>?_)
    exact wpS_pure (q n'' _ cg3 (by omega) b2 b3)
 rw[countRun'_eq]
 dsimp only
 refine wpS_bind (asc 1 a _ (Cg.refl _ _ _) (Nat.le_refl _) h1 (tm C) fun n b1 b2 b3 b4=>?_)
 dsimp only
 by_cases c1:(n==m)=true
 ·rw[if_pos c1];exact wpS_pure (q n a (Cg.refl _ _ _) b1 b2 b3)
 rw[if_neg c1]
 have c1:n≠m:=by simpa using c1
 have hl:=b4 (by omega)
 by_cases c2:n > 1
 ·rw[if_pos c2]
  refine wpS_bind (fH C hk hN (by omega) (by omega) ?_)
  dsimp only
  cases hc:lt (G a l) (G a (l+n - 1)) with
  |true=>rw[if_pos rfl];exact wpS_pure (q n a (Cg.refl _ _ _) b1 b2 b3)
  |false=>
   rw[if_neg (by decide),reverseSlice'_eq]
   refine wpS_bind (wpS_modify ?_)
   have cg:=(kM (i:=l) (j:=l+n) (p:=a) (by omega)).mono (Nat.le_refl _) (show l+n≤l+m by omega)
   show wpS _ _ _ _ _ _ (sa st (mirror a l (l+n) ((l+n - l) / 2)))
   refine dl (n+1) _ cg (by omega) (by omega) (fY C (fun i j hi hij hj=>?_) (by omega) ?_)
   ·rw[dg (by omega),dg (by omega),if_pos (by omega),if_pos (by omega)]
    exact b3 _ _ (by omega) (by omega) (by omega)
   ·rw[dg (by omega),dg (by omega),if_pos (by omega),if_neg (by omega),show l+(l+n) - 1 - (l+n - 1)=l by omega]
    exact C.tr _ (G a (l+n - 1)) _ (C.asym _ _ hl) hc
 ·rw[if_neg c2]
  have:n=1:=by omega
  subst this
  refine dl 2 a (Cg.refl _ _ _) (by omega) (by omega) (fY C (fun i j hi hij hj=>?_) (Nat.le_refl _) (C.asym _ _ hl))
  have:i=j:=by omega
  subst this;exact C.refl _
end
section
variable {M:Model} {A:Around} {E:Value→Shared→Prop} {s:Shared} {κ:SortKind} {N:Keyed→Prop} {lt:Keyed→Keyed→Bool}
theorem nL {p:Array Keyed} {k z:Nat} (hk:k < p.size) (hl:z≤k) (i:Nat):G (bubble p k (k - z)) i=if i=z then G p k else if z < i∧i≤k then G p (i - 1) else G p i:=by
 have h:=getElem?_bubble (xs:=p) (src:=k) hk (k - z) (by omega) i
 have e:k - (k - z)=z:=by omega
 rw[e] at h
 repeat' split at h
 ·rename_i c;rw[if_pos c];exact G_eq h
 ·rename_i c c2;rw[if_neg c,if_pos c2];exact G_eq h
 ·rename_i c c2;rw[if_neg c,if_neg c2];exact G_eq h
theorem uQ (C:Cmp M A E s κ N lt) {st:SortSt} {a:Array Keyed} {l n o:Nat} {Q:Bool→SortSt→Prop} (hk:kindOf st=κ) (hN:Nm N a) (h1:1≤o) (h2:o≤n) (hs:l+n≤a.size) (sg:Seg lt a l (l+o))
  (q:∀a',Cg l (l+n) a a'→Seg lt a' l (l+n)→Q true (sa st a')):wpS M A E s (binarySort' l n o) Q (sa st a):=by
 rw[binarySort'_eq]
 dsimp only
 refine wpS_bind (wpS_mono (wpS_forRange (I:=fun k x st'=>x.1=none∧1≤k∧k≤n∧∃a',st' = sa st a'∧Cg l (l+n) a a'∧Seg lt a' l (l+k)) (Q:=fun x st'=>x.1=none∧∃a',st' = sa st a'∧Cg l (l+n) a a'∧Seg lt a' l (l+n)) ?step ?fin ⟨rfl,by omega,by omega,a,rfl,Cg.refl _ _ _,by rw[show max o 1=o by omega];exact sg⟩) ?post)
 case fin=>
  rintro⟨r,u⟩ st' ⟨e,e1,e2,a',rfl,cg,sg'⟩
  rw[show max (max o 1) n=n by omega] at sg'
  exact⟨e,a',rfl,cg,sg'⟩
 case post=>
  rintro⟨r,u⟩ st' ⟨e,a',rfl,cg,sg'⟩
  cases e
  exact wpS_pure (q a' cg sg')
 case step=>
  rintro k ⟨r,u⟩ st' _ hkn ⟨e,e1,e2,a',rfl,cg,sg'⟩
  have hz:=cg.size
  refine wpS_bind (wpS_mono (wpS_forRange (β:=Option Bool × Nat × Nat) (I:=fun t x st'=>st' = sa st a'∧x.1=none∧x.2.1≤x.2.2∧x.2.2≤k∧x.2.2 - x.2.1≤k - t∧(∀i,i < x.2.1→lt (G a' (l+k)) (G a' (l+i))=false)∧(∀i,x.2.2≤i→i < k→lt (G a' (l+i)) (G a' (l+k))=false))
   (Q:=fun x st'=>st' = sa st a'∧x.1=none∧x.2.1≤k∧(∀i,i < x.2.1→lt (G a' (l+k)) (G a' (l+i))=false)∧(∀i,x.2.1≤i→i < k→lt (G a' (l+i)) (G a' (l+k))=false)) ?s8 ?f8 ⟨rfl,rfl,Nat.zero_le _,Nat.le_refl _,Nat.le_refl _,fun i hi=>absurd hi (Nat.not_lt_zero _),fun i hi hj=>absurd hi (Nat.not_le_of_lt hj)⟩) ?p8)
  case f8=>
   rintro⟨r,u,w⟩ st' ⟨rfl,e,b1,b2,b3,b4,b5⟩
   have b1:u≤w:=b1
   have b3:w - u≤k - max 0 k:=b3
   have:u=w:=by omega
   subst this
   exact⟨rfl,e,b2,b4,b5⟩
  case s8=>
   rintro t ⟨r,u,w⟩ st' _ ht ⟨rfl,e,b1,b2,b3,b4,b5⟩
   have b1:u≤w:=b1
   have b2:w≤k:=b2
   have b3:w - u≤k - t:=b3
   dsimp only at b4 b5 ⊢
   by_cases c1:u ≥ w
   ·rw[if_pos c1]
    have:u=w:=by omega
    subst this
    exact wpS_pure ⟨rfl,rfl,b2,b4,b5⟩
   rw[if_neg c1]
   obtain⟨m1,m2⟩:=half c1
   generalize (u+w) / 2=m at m1 m2 ⊢
   refine wpS_bind (fH C hk (hN.perm cg.pm) (by omega) (by omega) ?_)
   dsimp only
   cases hc:lt (G a' (l+k)) (G a' (l+m)) with
   |true=>
    rw[if_pos rfl]
    refine wpS_pure ⟨rfl,rfl,m1,Nat.le_of_lt (Nat.lt_of_lt_of_le m2 b2),fewer b3 m2 m1,b4,fun i hi hik=>?_⟩
    exact C.asym _ _ (C.ltle hc (sg' _ _ (Nat.le_add_right _ _) (Nat.add_le_add_left hi l) (Nat.add_lt_add_left hik l)))
   |false=>
    rw[if_neg (by decide)]
    refine wpS_pure ⟨rfl,rfl,m2,b2,fewer' b3 m2 m1,fun i hi=>?_,b5⟩
    exact C.tr _ _ _ (sg' _ _ (Nat.le_add_right _ _) (Nat.add_le_add_left (Nat.le_of_lt_succ hi) l) (Nat.add_lt_add_left (Nat.lt_of_lt_of_le m2 b2) l)) hc
  case p8=>
   rintro⟨r,u,w⟩ st' ⟨rfl,e,b2,b4,b5⟩
   cases e
   have b2:u≤k:=b2
   dsimp only at b4 b5 ⊢
   rw[moveDown'_eq]
   refine wpS_bind (wpS_modify (wpS_pure ⟨rfl,by omega,by omega,bubble a' (l+k) (l+k - (l+u)),rfl,cg.trans ⟨bubble_perm _ _ _,fun i hi=>?_⟩,fun i j hi hij hj=>?_⟩))
   ·rw[nL (by omega) (by omega),if_neg (by omega),if_neg (by omega)]
   ·rw[nL (by omega) (by omega),nL (by omega) (by omega)]
    repeat' split
    ·exact C.refl _
    all_goals first
     |omega
     |exact sg' _ _ (by omega) (by omega) (by omega)
     |(have z:=b5 (j - 1 - l) (by omega) (by omega);rw[show l+(j - 1 - l)=j - 1 by omega] at z;exact (by
       rename_i h1 h2 h3
       cases hcc:lt (G a' (j - 1)) (G a' (l+k)) with
       |false=>rfl
       |true=>rw[hcc] at z;cases z))
     |(have z:=b4 (i - l) (by omega);rw[show l+(i - l)=i by omega] at z;exact z)
end
theorem uz (p:Nat):∀(l:List Keyed) (n:Nat) (a:Array Keyed),p+n+l.length≤a.size →
  ((l.zipIdx n).foldl (fun a (z:Keyed × Nat)=>a.setIfInBounds (p+z.2) z.1) a).size=a.size∧∀m:Nat,((l.zipIdx n).foldl (fun a (z:Keyed × Nat)=>a.setIfInBounds (p+z.2) z.1) a)[m]? = if p+n≤m∧m < p+n+l.length then l[m - (p+n)]? else a[m]?
 | [],n,a,h=>⟨rfl,fun m=>by rw[if_neg (by simp only[List.length_nil];omega)];rfl⟩
 |x::l,n,a,h=>by
  rw[List.length_cons] at h
  obtain⟨h1,h2⟩:=uz p l (n+1) (a.setIfInBounds (p+n) x) (by rw[Array.size_setIfInBounds];omega)
  rw[List.zipIdx_cons,List.foldl_cons]
  refine⟨h1.trans Array.size_setIfInBounds,fun m=>?_⟩
  rw[h2 m,List.length_cons,Array.getElem?_setIfInBounds]
  by_cases c:m=p+n
  ·subst c
   rw[if_neg (by omega),if_pos rfl,if_pos (by omega),if_pos (by omega),Nat.sub_self];rfl
  ·by_cases c2:p+(n+1)≤m∧m < p+(n+1)+l.length
   ·rw[if_pos c2,if_pos (by omega),show m - (p+n)=m - (p+(n+1))+1 by omega];rfl
   ·rw[if_neg c2,if_neg (fun z=>c z.symm),if_neg (by omega)]
theorem G_of {a:Array Keyed} {k:Nat} {x:Keyed} (h:a[k]? = some x):G a k=x:=by
 have e:G a k=(a[k]?).getD (Value.none,Value.none):=by simp[G]
 rw[e,h];rfl
theorem kY {a:Array Keyed} {p q k:Nat} (h:p+k < q) (hq:q≤a.size):G (a.extract p q) k=G a (p+k):=by
 apply G_eq
 rw[Array.getElem?_extract,if_pos (by omega)]
theorem qV {a:Array Keyed} {p q r:Nat} (h1:p≤q) (h2:q≤r) (h3:r≤a.size):a.toList=a.toList.take p++((a.extract p q).toList++(a.extract q r).toList)++a.toList.drop r:=by
 rw[Array.toList_extract,Array.toList_extract,List.extract_eq_take_drop,List.extract_eq_take_drop]
 have e1:(a.toList.drop p).take (q - p)++(a.toList.drop q).take (r - q)=(a.toList.drop p).take (r - p):=by
  rw[show r - p=(q - p)+(r - q) by omega,List.take_add,List.drop_drop,show p+(q - p)=q by omega]
 rw[e1,List.append_assoc]
 have e2:(a.toList.drop p).take (r - p)++a.toList.drop r=a.toList.drop p:=by
  conv=>rhs;rw[←List.take_append_drop (r - p) (a.toList.drop p)]
  rw[List.drop_drop,show p+(r - p)=r by omega]
 rw[e2,List.take_append_drop]
section
variable {M:Model} {A:Around} {E:Value→Shared→Prop} {s:Shared} {κ:SortKind} {N:Keyed→Prop} {lt:Keyed→Keyed→Bool}
theorem ju {α:Type} (u v w:α) (l2:List α):∀l1:List α,((l1++u::w::l2).set l1.length v).eraseIdx (l1.length+1)=l1++v::l2
 | []=>rfl
 |x::l1=>by
  show x::((l1++u::w::l2).set l1.length v).eraseIdx (l1.length+1)=_
  rw[ju u v w l2 l1];rfl
theorem dS {a:Array Keyed} {i j:Nat} (h:j≤a.size):(a.extract i j).size=j - i:=by rw[Array.size_extract,Nat.min_eq_left h]
theorem uH {a:Array Keyed} {x:Keyed} (h:x∈a.toList):∃k,k < a.size∧G a k=x:=by
 obtain⟨k,hk⟩:=List.mem_iff_getElem?.mp h
 rw[Array.getElem?_toList] at hk
 exact⟨k,(Array.getElem?_eq_some_iff.mp hk).1,G_of hk⟩
theorem qt (C:Cmp M A E s κ N lt) {a r:Array Keyed} {p p1 q n1 z:Nat} (h1:p≤p1) (h2:p1≤q) (h3:q+n1≤z) (hs:z≤a.size) (g:Good lt (a.extract p1 q) (a.extract q (q+n1)) r)
  (s1:Seg lt a p q) (s2:Seg lt a q z) (lo:∀k,p≤k→k < p1→∀j,q≤j→j < z→lt (G a j) (G a k)=false) (hi:∀j,q+n1≤j→j < z→∀k,p≤k→k < q→lt (G a j) (G a k)=false) :
  Cg p z a (r.toList.zipIdx.foldl (fun a (z:Keyed × Nat)=>a.setIfInBounds (p1+z.2) z.1) a)∧Seg lt (r.toList.zipIdx.foldl (fun a (z:Keyed × Nat)=>a.setIfInBounds (p1+z.2) z.1) a) p z:=by
 have q1s:q+n1≤a.size:=Nat.le_trans h3 hs
 have qs:q≤a.size:=Nat.le_trans (Nat.le_add_right q n1) q1s
 have lt1:(a.toList.take p1).length=p1:=by rw[List.length_take,Array.length_toList,Nat.min_eq_left (Nat.le_trans h2 qs)]
 have len:r.toList.length=q - p1+n1:=by
  rw[g.1.length_eq,List.length_append,Array.length_toList,Array.length_toList,dS qs,dS q1s,Nat.add_sub_cancel_left]
 obtain⟨w1,w2⟩:=uz p1 r.toList 0 a (by omega)
 generalize (r.toList.zipIdx.foldl (fun a (z:Keyed × Nat)=>a.setIfInBounds (p1+z.2) z.1) a)=a' at w1 w2 ⊢
 rw[len] at w2
 simp only[Nat.add_zero] at w2
 have out:∀k,k < p1∨q+n1≤k→G a' k=G a k:=fun k hk=>G_eq (by rw[w2 k,if_neg (by omega)])
 have inn:∀k,p1≤k→k < q+n1→∃c,p1≤c∧c < q+n1∧G a' k=G a c:=fun k hk1 hk2=>by
  have e:=w2 k
  rw[if_pos (by omega)] at e
  have hl:k - p1 < r.toList.length:=by omega
  rw[List.getElem?_eq_getElem hl] at e
  have e:=G_of e
  have mem:r.toList[k - p1]∈r.toList:=List.getElem_mem _
  rcases List.mem_append.mp (g.1.mem_iff.mp mem) with h|h
  ·obtain⟨c,c1,c2⟩:=uH h
   rw[dS qs] at c1
   exact⟨p1+c,by omega,by omega,by rw[e,←c2,kY (by omega) (by omega)]⟩
  ·obtain⟨c,c1,c2⟩:=uH h
   rw[dS q1s,Nat.add_sub_cancel_left] at c1
   exact⟨q+c,by omega,by omega,by rw[e,←c2,kY (by omega) (by omega)]⟩
 have srt:∀i j,p1≤i→i≤j→j < q+n1→lt (G a' j) (G a' i)=false:=fun i j i1 ij j1=>by
  have ei:=w2 i
  have ej:=w2 j
  rw[if_pos (by omega)] at ei ej
  have li:i - p1 < r.toList.length:=by omega
  have lj:j - p1 < r.toList.length:=by omega
  rw[List.getElem?_eq_getElem li] at ei
  rw[List.getElem?_eq_getElem lj] at ej
  rw[G_of ei,G_of ej]
  by_cases e:i=j
  ·subst e;exact C.refl _
  ·exact List.pairwise_iff_getElem.mp g.2 (i - p1) (j - p1) li lj (by omega)
 refine⟨⟨?_,fun k hk=>out k (by omega)⟩,fun i j hi1 hij hj=>?_⟩
 ·rw[Array.perm_iff_toList_perm]
  have e:a'.toList=a.toList.take p1++r.toList++a.toList.drop (q+n1):=by
   apply List.ext_getElem?
   intro m
   rw[Array.getElem?_toList,w2 m]
   by_cases c1:m < p1
   ·rw[if_neg (by omega),List.append_assoc,List.getElem?_append_left (by rw[lt1];exact c1),List.getElem?_take_of_lt c1,Array.getElem?_toList]
   ·by_cases c2:m < q+n1
    ·rw[if_pos (by omega),List.append_assoc,List.getElem?_append_right (by rw[lt1];omega),List.getElem?_append_left (by rw[lt1];omega),lt1]
    ·rw[if_neg (by omega),List.getElem?_append_right (by rw[List.length_append,lt1];omega),List.getElem?_drop,Array.getElem?_toList,List.length_append,lt1]
     congr 1
     omega
  rw[e]
  exact ((g.1.append_left _).append_right _).trans (List.Perm.of_eq (qV (a:=a) h2 (Nat.le_add_right q n1) (by omega)).symm)
 ·by_cases ci:i < p1
  ·rw[out i (.inl ci)]
   by_cases cj:j < p1
   ·rw[out j (.inl cj)];exact s1 i j hi1 hij (by omega)
   ·have hc:∀c,p1≤c→c < z→lt (G a c) (G a i)=false:=fun c c1 c2=>by
     by_cases cc:c < q
     ·exact s1 i c hi1 (by omega) cc
     ·exact lo i hi1 ci c (by omega) c2
    by_cases cj2:j < q+n1
    ·obtain⟨c,c1,c2,e⟩:=inn j (by omega) cj2
     rw[e];exact hc c c1 (by omega)
    ·rw[out j (.inr (by omega))];exact hc j (by omega) hj
  ·by_cases cj:j < q+n1
   ·exact srt i j (by omega) hij cj
   ·rw[out j (.inr (by omega))]
    have hc:∀c,p≤c→c < j→lt (G a j) (G a c)=false:=fun c c1 c2=>by
     by_cases cc:c < q
     ·exact hi j (by omega) hj c c1 cc
     ·exact s2 c j (by omega) (by omega) hj
    by_cases ci2:i < q+n1
    ·obtain⟨c,c1,c2,e⟩:=inn i (by omega) ci2
     rw[e];exact hc c (by omega) (by omega)
    ·rw[out i (.inr (by omega))]
     by_cases e:i=j
     ·subst e;exact C.refl _
     ·exact hc i hi1 (by omega)
theorem uM {st st':SortSt} {Q:PUnit→SortSt→Prop} (h:Q ⟨⟩ st'):wpS M A E s (set st':SM PUnit) Q st:=by
 unfold wpS;rw[StateT.run_set];exact wpAny_pure ⟨rfl,h⟩
theorem uP (C:Cmp M A E s κ N lt) {st:SortSt} {a:Array Keyed} {i p m e q n e':Nat} {l1 l2:List (Nat × Nat × Nat)} {Q:Bool→SortSt→Prop} (hk:kindOf st=κ) (hf:failedOf st=none) (hN:Nm N a) (hp:(pendingOf st).toList=l1++(p,m,e)::(q,n,e')::l2) (hi:l1.length=i)
  (hq:q=p+m) (hm:1≤m) (hn:1≤n) (hs:q+n≤a.size) (s1:Seg lt a p q) (s2:Seg lt a q (q+n))
  (h:∀(a':Array Keyed) (st':SortSt),PyProof.Rows.kindOf st' = κ→failedOf st' = none→arrOf st' = a'→(pendingOf st').toList=l1++(p,m+n,e)::l2→Cg p (q+n) a a'→Seg lt a' p (q+n)→Q true st'):wpS M A E s (mergeAt' i) Q (sa st a):=by
 have e1:(pendingOf st)[i]? = some (p,m,e):=by rw[←Array.getElem?_toList,hp,←hi];simp
 have e2:(pendingOf st)[i+1]? = some (q,n,e'):=by rw[←Array.getElem?_toList,hp,←hi];simp
 have e3:(((pendingOf st).setIfInBounds i (p,m+n,e)).eraseIdxIfInBounds (i+1)).toList=l1++(p,m+n,e)::l2:=by
  rw[Array.toList_eraseIdxIfInBounds,Array.toList_setIfInBounds,hp,←hi];exact ju _ _ _ _ _
 have eqt:∀{a b:Nat},(a==b)=true→a=b:=fun h=>by simpa using h
 have eqf:∀{a b:Nat},¬(a==b)=true→a≠b:=fun h=>by simpa using h
 rw[vI]
 refine wpS_bind (wpS_get ?_)
 show wpS _ _ _ _ (match ((pendingOf st)[i]?,(pendingOf st)[i+1]?) with|(some (p,m,e),some (q,n,_))=>_|_=>_) _ _
 rw[e1,e2]
 dsimp only
 refine wpS_bind (uM ?_)
 have tl:∀{o:Nat},bv lt false (G a q) a p o=true→lt (G a q) (G a (p+o))=false:=fun h=>by simpa [bv] using h
 have fl:∀{o:Nat},bv lt false (G a q) a p o=false→lt (G a q) (G a (p+o))=true:=fun h=>by simpa [bv] using h
 refine wpS_bind (aQ (show q < a.size by omega) (wpS_bind (ge (bv lt false (G a q) a p) (fun o ho Q' q'=>gg C (fun _ z=>hN.at z) (hN.at (by omega)) (show p+o < a.size by omega) hk q') (fun o o' ho hp' hb'=>?_) (by omega) fun k hk1 hk2 hk3=>?_)))
 ·cases hc:lt (G a q) (G a (p+o)) with
  |false=>show (!lt _ _)=true;rw[hc];rfl
  |true=>have:=C.ltle hc (s1 (p+o) (p+o') (by omega) (by omega) (by omega));rw[tl hb'] at this;cases this
 dsimp only
 have seg:(∀i,p≤i→i < q→∀j,q≤j→j < q+n→lt (G a j) (G a i)=false)→Seg lt a p (q+n):=fun hh i j h1 h2 h3=>by
  by_cases c:j < q
  ·exact s1 i j h1 h2 c
  ·by_cases c2:i < q
   ·exact hh i h1 c2 j (by omega) h3
   ·exact s2 i j (by omega) h2 h3
 have low:∀i,p≤i→i < p+k→∀j,q≤j→j < q+n→lt (G a j) (G a i)=false:=fun i h1 h2 j h3 h4=>by
  have z:=tl (hk2 (i - p) (by omega))
  rw[show p+(i - p)=i by omega] at z
  exact C.tr _ _ _ z (s2 q j (Nat.le_refl _) h3 h4)
 by_cases c1:(m - k==0)=true
 ·rw[if_pos c1]
  have c1:=eqt c1
  exact wpS_pure (h a _ hk hf rfl e3 (Cg.refl _ _ _) (seg fun i h1 h2=>low i h1 (by omega)))
 rw[if_neg c1]
 have c1:=eqf c1
 rw[show p+k+(m - k) - 1=q - 1 by omega]
 refine wpS_bind (aQ (show q - 1 < a.size by omega) (wpS_bind (ge (bv lt true (G a (q - 1)) a q) (fun o ho Q' q'=>gg C (fun _ z=>hN.at z) (hN.at (by omega)) (show q+o < a.size by omega) hk q') (fun o o' ho hp' hb'=>C.lelt (s2 _ _ (by omega) (by omega) (by omega)) hb') (by omega) fun n1 hn1 hn2 hn3=>?_)))
 dsimp only
 have hig:∀j,q+n1≤j→j < q+n→∀i,p≤i→i < q→lt (G a j) (G a i)=false:=fun j h1 h2 i h3 h4=>by
  have z:=hn3 (j - q) (by omega) (by omega)
  have z:lt (G a (q+(j - q))) (G a (q - 1))=false:=z
  rw[show q+(j - q)=j by omega] at z
  exact C.tr _ _ _ (s1 i (q - 1) h3 (by omega) (by omega)) z
 by_cases c2:(n1==0)=true
 ·rw[if_pos c2]
  have c2:=eqt c2
  exact wpS_pure (h a _ hk hf rfl e3 (Cg.refl _ _ _) (seg fun i h1 h2 j h3 h4=>hig j (by omega) h4 i h1 h2))
 rw[if_neg c2]
 have c2:=eqf c2
 have zx:(a.extract (p+k) q).size=q - (p+k):=dS (by omega)
 have zy:(a.extract q (q+n1)).size=n1:=by rw[dS (by omega),Nat.add_sub_cancel_left]
 have gx:∀i,i < (a.extract (p+k) q).size→G (a.extract (p+k) q) i=G a (p+k+i):=fun i hi=>kY (by omega) (by omega)
 have gy:∀i,i < (a.extract q (q+n1)).size→G (a.extract q (q+n1)) i=G a (q+i):=fun i hi=>kY (by omega) (by omega)
 have hx:Asc lt (a.extract (p+k) q):=fun i j hij hj=>by rw[gx i (by omega),gx j hj];exact s1 _ _ (by omega) (by omega) (by omega)
 have hy:Asc lt (a.extract q (q+n1)):=fun i j hij hj=>by rw[gy i (by omega),gy j hj];exact s2 _ _ (by omega) (by omega) (by omega)
 have Nx:∀i,i < (a.extract (p+k) q).size→N (G (a.extract (p+k) q) i):=fun i hi=>by rw[gx i hi];exact hN.at (by omega)
 have Ny:∀i,i < (a.extract q (q+n1)).size→N (G (a.extract q (q+n1)) i):=fun i hi=>by rw[gy i hi];exact hN.at (by omega)
 have hb:lt (G (a.extract q (q+n1)) 0) (G (a.extract (p+k) q) 0)=true:=by
  rw[gx 0 (by omega),gy 0 (by omega)]
  exact fl (hk3 k (Nat.le_refl _) (by omega))
 have hl:∀j,j < (a.extract q (q+n1)).size→lt (G (a.extract q (q+n1)) j) (G (a.extract (p+k) q) ((a.extract (p+k) q).size - 1))=true:=fun j hj=>by
  rw[gx _ (by omega),gy j hj,zx,show p+k+(q - (p+k) - 1)=q - 1 by omega]
  exact hn2 j (by omega)
 have fin:∀(r:Array Keyed) (st2:SortSt),Fr (SortSt.mk' (kindOf st) a (((pendingOf st).setIfInBounds i (p,m+n,e)).eraseIdxIfInBounds (i+1)) (gallopOf st) (failedOf st)) st2→Good lt (a.extract (p+k) q) (a.extract q (q+n1)) r →
   wpS M A E s (do
    modify fun s=>setArr s (r.toList.zipIdx.foldl (fun a (z,j)=>a.setIfInBounds (p+k+j) z) (arrOf s))
    return (failedOf (←get)).isNone) Q st2:=fun r st2 f g=>by
  obtain⟨f1,f2,f3,f4⟩:=f
  have f2:arrOf st2=a:=f2
  refine wpS_bind (wpS_modify (wpS_bind (wpS_get ?_)))
  obtain⟨b1,b2⟩:=qt C (p:=p) (z:=q+n) (by omega) (by omega) (by omega) hs g s1 s2 low hig
  have fn:failedOf st2=none:=f4.trans hf
  have e9:(failedOf (setArr st2 (r.toList.zipIdx.foldl (fun a (z:Keyed × Nat)=>a.setIfInBounds (p+k+z.2) z.1) (arrOf st2)))).isNone=true:=by
   show (failedOf st2).isNone=true;rw[fn];rfl
  show wpS _ _ _ _ (pure (failedOf (setArr st2 (r.toList.zipIdx.foldl (fun a (z:Keyed × Nat)=>a.setIfInBounds (p+k+z.2) z.1) (arrOf st2)))).isNone) _ (setArr st2 (r.toList.zipIdx.foldl (fun a (z:Keyed × Nat)=>a.setIfInBounds (p+k+z.2) z.1) (arrOf st2)))
  rw[e9]
  refine wpS_pure (h _ _ (f1.trans hk) fn rfl ?_ ?_ ?_)
  ·exact (congrArg Array.toList f3).trans e3
  ·rw[f2];exact b1
  ·rw[f2];exact b2
 by_cases c3:m - k≤n1
 ·rw[if_pos c3]
  exact wpS_bind (uN C hk Nx Ny hx hy (show 0 < (a.extract (p+k) q).size by omega) (show 0 < (a.extract q (q+n1)).size by omega) hb hl fun r st2 f g=>fin r st2 f g)
 ·rw[if_neg c3]
  exact wpS_bind (uO C hk Nx Ny hx hy (show 0 < (a.extract (p+k) q).size by omega) (show 0 < (a.extract q (q+n1)).size by omega) hb hl fun r st2 f g=>fin r st2 f g)
end
def Runs (lt:Keyed→Keyed→Bool) (a:Array Keyed):List (Nat × Nat × Nat)→Nat→Nat→Prop
 | [],b,e=>b=e
 |x::l,b,e=>x.1=b∧1≤x.2.1∧Seg lt a b (b+x.2.1)∧Runs lt a l (b+x.2.1) e
section
variable {M:Model} {A:Around} {E:Value→Shared→Prop} {s:Shared} {κ:SortKind} {N:Keyed→Prop} {lt:Keyed→Keyed→Bool}
theorem Runs.len {a:Array Keyed}:∀{l:List (Nat × Nat × Nat)} {b e:Nat},Runs lt a l b e→b+l.length≤e
 | [],_,_,h=>Nat.le_of_eq h
 |x::l,b,e,h=>by
  have:=Runs.len h.2.2.2
  have:=h.2.1
  rw[List.length_cons];omega
theorem Seg.congr {a a':Array Keyed} {b e:Nat} (h:∀k,b≤k→k < e→G a' k=G a k) (r:Seg lt a b e):Seg lt a' b e:=fun i j h1 h2 h3=>by
 rw[h i h1 (by omega),h j (by omega) h3];exact r i j h1 h2 h3
theorem Runs.congr {a a':Array Keyed}:∀{l:List (Nat × Nat × Nat)} {b e:Nat},(∀k,b≤k→k < e→G a' k=G a k)→Runs lt a l b e→Runs lt a' l b e
 | [],_,_,_,r=>r
 |x::l,b,e,h,r=>by
  have:=Runs.len r.2.2.2
  exact⟨r.1,r.2.1,r.2.2.1.congr fun k h1 h2=>h k h1 (by omega),Runs.congr (fun k h1 h2=>h k (by omega) h2) r.2.2.2⟩
theorem Runs.app {a:Array Keyed} {l2:List (Nat × Nat × Nat)}:∀{l1:List (Nat × Nat × Nat)} {b e:Nat},Runs lt a (l1++l2) b e↔∃m,Runs lt a l1 b m∧Runs lt a l2 m e
 | [],b,e=>⟨fun h=>⟨b,rfl,h⟩,fun⟨m,h1,h2⟩=>by cases h1;exact h2⟩
 |x::l1,b,e=>by
  constructor
  ·rintro⟨h1,h2,h3,h4⟩
   obtain⟨m,h5,h6⟩:=Runs.app.mp h4
   exact⟨m,⟨h1,h2,h3,h5⟩,h6⟩
  ·rintro⟨m,⟨h1,h2,h3,h4⟩,h5⟩
   exact⟨h1,h2,h3,Runs.app.mpr ⟨m,h4,h5⟩⟩
structure RS (κ:SortKind) (N:Keyed→Prop) (lt:Keyed→Keyed→Bool) (a0:Array Keyed) (lo:Nat) (st:SortSt):Prop where
 k:PyProof.Rows.kindOf st=κ
 f:failedOf st=none
 pm:(arrOf st).Perm a0
 r:Runs lt (arrOf st) (pendingOf st).toList 0 lo
theorem pU (C:Cmp M A E s κ N lt) {a0:Array Keyed} {lo i:Nat} {st:SortSt} {Q:Bool→SortSt→Prop} (hN:Nm N a0) (R:RS κ N lt a0 lo st) (hlo:lo≤a0.size) (hi:i+1 < (pendingOf st).size)
  (q:∀st',RS κ N lt a0 lo st'→(pendingOf st').size+1=(pendingOf st).size→(∀k,lo≤k→G (arrOf st') k=G (arrOf st) k)→Q true st'):wpS M A E s (mergeAt' i) Q st:=by
 have hz:=R.pm.size_eq
 have hN':Nm N (arrOf st):=hN.perm R.pm
 obtain⟨l1,x,y,l2,e,hl⟩:∃l1 x y l2,(pendingOf st).toList=l1++x::y::l2∧l1.length=i:=by
  have h1:i < (pendingOf st).toList.length:=by rw[Array.length_toList];omega
  have h2:i+1 < (pendingOf st).toList.length:=by rw[Array.length_toList];omega
  refine⟨(pendingOf st).toList.take i,(pendingOf st).toList[i],(pendingOf st).toList[i+1],(pendingOf st).toList.drop (i+1+1),?_,by rw[List.length_take];omega⟩
  rw[←List.drop_eq_getElem_cons h2,←List.drop_eq_getElem_cons h1,List.take_append_drop]
 obtain⟨p,m,w⟩:=x
 obtain⟨q',n,w'⟩:=y
 have r:=R.r
 rw[e] at r
 obtain⟨b,r1,h1,h2,h3,h4,h5,h6,h7⟩:=Runs.app.mp r
 have h1:p=b:=h1
 subst h1
 have h4:q' = p+m:=h4
 dsimp only at h2 h3 h5 h6 h7
 have le:=h7.len
 show wpS M A E s (mergeAt' i) Q (sa st (arrOf st))
 refine uP C R.k R.f hN' e hl h4 h2 h5 (by omega) (by rw[h4];exact h3) (by rw[h4];exact h6) fun a' st' k1 k2 k3 k4 k5 k6=>q st' ⟨k1,k2,by rw[k3];exact k5.pm.trans R.pm,?_⟩ ?_ fun k hk=>by rw[k3];exact k5.at_ k (by omega)
 ·rw[k3,k4]
  have le1:=r1.len
  refine Runs.app.mpr ⟨p,r1.congr fun k _ hk=>k5.at_ k (by omega),rfl,by show 1≤m+n;omega,?_,?_⟩
  ·show Seg lt a' p (p+(m+n))
   rw[h4,Nat.add_assoc] at k6;exact k6
  ·show Runs lt a' l2 (p+(m+n)) lo
   rw[←Nat.add_assoc]
   exact h7.congr fun k hk _=>k5.at_ k (by omega)
 ·have z1:=congrArg List.length e
  have z2:=congrArg List.length k4
  simp only[Array.length_toList,List.length_append,List.length_cons] at z1 z2
  omega
theorem lO {a:Array Keyed} {w:Nat}:∀{l:List (Nat × Nat × Nat)} {i b e:Nat},Runs lt a l b e→Runs lt a (l.modify i fun x=>(x.1,x.2.1,w)) b e
 | [],i,_,_,h=>by
  simpa using h
 |x::l,0,_,_,h=>h
 |x::l,i+1,_,_,h=>⟨h.1,h.2.1,h.2.2.1,lO h.2.2.2⟩
theorem wp_runs (C:Cmp M A E s κ N lt) {a0:Array Keyed} {st:SortSt} {Q:Unit→SortSt→Prop} (hN:Nm N a0) (hk:PyProof.Rows.kindOf st=κ) (hf:failedOf st=none) (ha:arrOf st=a0) (hp:pendingOf st=#[]) (h2:2≤a0.size)
  (q:∀st',failedOf st' = none→(arrOf st').Perm a0→Seg lt (arrOf st') 0 a0.size→Q () st'):wpS M A E s sortRuns' Q st:=by
 rw[sortRuns'_eq]
 refine wpS_bind (wpS_get ?_)
 dsimp only
 rw[ha]
 generalize minRun' a0.size a0.size 0=mr
 have R0:RS κ N lt a0 0 st:=⟨hk,hf,ha ▸ Array.Perm.refl _,by rw[hp];exact rfl⟩
 refine wpS_bind (wpS_mono (wpS_forRange (I:=fun t x st'=>x.1=none∧t≤x.2∧x.2≤a0.size∧RS κ N lt a0 x.2 st') (Q:=fun x st'=>x.1=none∧x.2=a0.size∧RS κ N lt a0 x.2 st') ?step ?fin ⟨rfl,Nat.le_refl _,Nat.zero_le _,R0⟩) ?post)
 case fin=>
  rintro⟨r,lo⟩ st' ⟨e1,e2,e3,e4⟩
  have e2:max 0 a0.size≤lo:=e2
  have e3:lo≤a0.size:=e3
  exact⟨e1,by show lo=_;omega,e4⟩
 case post=>
  rintro⟨r,lo⟩ st' ⟨e1,e2,R⟩
  cases e1
  have e2:lo=a0.size:=e2
  subst e2
  dsimp only at R ⊢
  have l0:=R.r.len
  rw[Array.length_toList] at l0
  refine wpS_bind (wpS_mono (wpS_forRange (I:=fun t x st'=>x.1=none∧RS κ N lt a0 a0.size st'∧((pendingOf st').size+t≤a0.size∨(pendingOf st').size≤1)) (Q:=fun x st'=>x.1=none∧RS κ N lt a0 a0.size st'∧(pendingOf st').size≤1) ?s2 ?f2 ⟨rfl,R,.inl (by omega)⟩) ?p2)
  case f2=>
   rintro⟨r,u⟩ st' ⟨e1,R,e2⟩
   exact⟨e1,R,by omega⟩
  case p2=>
   rintro⟨r,u⟩ st' ⟨e1,R,e2⟩
   cases e1
   refine wpS_pure (q st' R.f R.pm ?_)
   have r:=R.r
   have z:(pendingOf st').toList.length≤1:=by rw[Array.length_toList];exact e2
   match hh:(pendingOf st').toList,r,z with
   | [],r,_=>have:0=a0.size:=r;omega
   | [x],r,_=>
    have r3:=r.2.2.1
    have e:0+x.2.1=a0.size:=r.2.2.2
    rw[e] at r3;exact r3
   |x::y::l,r,z=>simp only[List.length_cons] at z;omega
  case s2=>
   rintro t ⟨r,u⟩ st' _ ht ⟨e1,R,e2⟩
   refine wpS_bind (wpS_get ?_)
   by_cases c:(pendingOf st').size≤1
   ·rw[if_pos c];exact wpS_pure ⟨rfl,R,c⟩
   rw[if_neg c]
   refine wpS_bind (pU C hN R (Nat.le_refl _) ?_ fun st'' R' hz _=>wpS_pure ⟨rfl,R',by omega⟩)
   repeat' split
   all_goals omega
 case step=>
  rintro t ⟨r,lo⟩ st' _ ht ⟨e1,e2,e3,R⟩
  cases e1
  dsimp only at e2 e3 R ⊢
  by_cases c:lo ≥ a0.size
  ·rw[if_pos c];exact wpS_pure ⟨rfl,by show lo=_;omega,R⟩
  rw[if_neg c]
  have hz:=R.pm.size_eq
  show wpS M A E s _ _ (sa st' (arrOf st'))
  refine wpS_bind (pV C R.k (hN.perm R.pm) (by omega) (by omega) fun n a1 cg n1 n2 sg=>?_)
  dsimp only
  have R1:RS κ N lt a0 lo (sa st' a1):=⟨R.k,R.f,cg.pm.trans R.pm,R.r.congr fun k _ hk'=>cg.at_ k (.inl hk')⟩
  have z1:=cg.size
  by_cases c2:n < mr
  rw[if_pos c2]
  refine wpS_bind (eV (wpS_bind (uQ C R.k (hN.perm R1.pm) (o:=n) n1 (by omega) (by omega) sg fun a2 cg2 sg2=>?_)))
  rw[if_neg (by decide)]
  have R2:RS κ N lt a0 lo (sa st' a2):=⟨R.k,R.f,cg2.pm.trans R1.pm,R1.r.congr fun k _ hk'=>cg2.at_ k (.inl hk')⟩
  have n3:1≤min (a0.size - lo) mr:=by omega
  have n4:lo+min (a0.size - lo) mr≤a0.size:=by omega
  generalize min (a0.size - lo) mr=nn at sg2 n3 n4 ⊢
  rotate_left
  rw[if_neg c2]
  have sg2:=sg
  have R2:=R1
  have n3:=n1
  have n4:lo+n≤a0.size:=by omega
  clear n1 n2 sg c2
  generalize n=nn at sg2 n3 n4 ⊢
  generalize a1=a2 at sg2 R2 ⊢
  all_goals
   refine wpS_bind (wpS_get ?_)
   have last:∀st3,RS κ N lt a0 lo st3→Seg lt (arrOf st3) lo (lo+nn)→wpS M A E s (do
     modify fun s=>setPending s ((pendingOf s).push (lo,nn,0))
     pure (ForInStep.yield ((none:Option Unit),lo+nn))) (fun (r:ForInStep (Option Unit × Nat)) st'=>match r with | .done x=>x.1=none∧x.2=a0.size∧RS κ N lt a0 x.2 st' | .yield x=>x.1=none∧t+1≤x.2∧x.2≤a0.size∧RS κ N lt a0 x.2 st') st3:=fun st3 R3 sg3=>by
    refine wpS_bind (wpS_modify (wpS_pure ⟨rfl,by show t+1≤lo+nn;omega,n4,R3.k,R3.f,R3.pm,?_⟩))
    show Runs lt (arrOf st3) ((pendingOf st3).push (lo,nn,0)).toList 0 (lo+nn)
    rw[Array.toList_push]
    exact Runs.app.mpr ⟨lo,R3.r,rfl,n3,sg3,rfl⟩
   cases hb:(pendingOf (sa st' a2)).back? with
   |none=>exact last _ R2 sg2
   |some y=>
    obtain⟨s1,n5,w⟩:=y
    dsimp only
    generalize power' _ _ _ _=pw
    refine wpS_bind (wpS_mono (wpS_forRange (I:=fun _ x st3=>x.1=none∧RS κ N lt a0 lo st3∧Seg lt (arrOf st3) lo (lo+nn)) (Q:=fun x st3=>x.1=none∧RS κ N lt a0 lo st3∧Seg lt (arrOf st3) lo (lo+nn)) ?_ (fun _ _ z=>z) ⟨rfl,R2,sg2⟩) ?_)
    ·rintro t3 ⟨r,u⟩ st3 _ ht3 ⟨e1,R3,sg3⟩
     refine wpS_bind (wpS_get ?_)
     by_cases c3:(pendingOf st3).size > 1
     ·rw[if_pos c3,Array.getElem?_eq_getElem (show (pendingOf st3).size - 2 < (pendingOf st3).size by omega)]
      dsimp only
      split
      ·exact wpS_pure ⟨rfl,R3,sg3⟩
      ·exact wpS_bind (pU C hN R3 e3 (by omega) fun st4 R4 _ k4=>wpS_pure ⟨rfl,R4,sg3.congr fun k hk1 _=>k4 k hk1⟩)
     ·rw[if_neg c3]
      exact wpS_pure ⟨rfl,R3,sg3⟩
    ·rintro⟨r,u⟩ st3 ⟨e1,R3,sg3⟩
     cases e1
     refine wpS_bind (wpS_modify (last _ ⟨R3.k,R3.f,R3.pm,?_⟩ sg3))
     show Runs lt (arrOf st3) ((pendingOf st3).modify _ _).toList 0 lo
     rw[Array.toList_modify]
     exact lO R3.r
end
end TimS
end
section
namespace L2
open PySem PySem.Spec PyProof.Rows PySem.W
open HT (lexLt)
theorem lW:∀a b:List Int,lexLt a b=true→lexLt b a=false
 | [],[],h=>rfl
 | [],_::_,_=>rfl
 |_::_,[],h=>by cases h
 |x::xs,y::ys,h=>by
  rw[HT.lexLt_cons] at h ⊢
  by_cases e:x=y
  ·rw[if_pos e] at h;rw[if_pos e.symm];exact lW xs ys h
  ·rw[if_neg e] at h;rw[if_neg fun z=>e z.symm]
   have:x < y:=of_decide_eq_true h
   exact decide_eq_false (by omega)
theorem qZ:∀a b c:List Int,lexLt b a=false→lexLt c b=false→lexLt c a=false
 | [],b,[],_,_=>rfl
 | [],[],_::_,_,h=>rfl
 | [],_::_,_::_,_,_=>rfl
 |_::_,[],_,h,_=>by cases h
 |_::_,_::_,[],_,h=>by cases h
 |x::xs,y::ys,z::zs,h1,h2=>by
  rw[HT.lexLt_cons] at h1 h2 ⊢
  by_cases e1:y=x
  ·subst e1
   rw[if_pos rfl] at h1
   by_cases e2:z=y
   ·rw[if_pos e2] at h2 ⊢;exact qZ xs ys zs h1 h2
   ·rw[if_neg e2] at h2 ⊢;exact h2
  ·rw[if_neg e1] at h1
   have l1:¬y < x:=of_decide_eq_false h1
   by_cases e2:z=y
   ·subst e2
    rw[if_neg e1];exact h1
   ·rw[if_neg e2] at h2
    have l2:¬z < y:=of_decide_eq_false h2
    rw[if_neg (by omega)]
    exact decide_eq_false (by omega)
def Tups (K:Frag) (H:Hp) (ys:List V) (ks:List (List Int)):Prop:=Paired (fun y k=>∃b,y=V.ref b∧SqT K H b (k.map V.int)∧k≠[]) ys ks
theorem vE {h h':Heap} {a:Addr} {m m':Str→Option Value} (h1:h.Ns a m) (h2:h.Ns a m'):m=m':=by
 obtain⟨o,es,ep,e1,e2,_,e4⟩:=h1
 obtain⟨o',es',ep',f1,f2,_,f4⟩:=h2
 rw[e1] at f1;cases f1
 rw[e2] at f2;cases f2
 funext x
 rw[←e4,←f4]
section
variable {X:Cx} {pins:List (Addr × Obj)} {σ:St} {H:Hp} {s:Shared}
theorem Inv.newsKept {h':Heap} {m:Str→Option Value} {t':Nat} {more:List (Addr × Obj)} (I:Inv X pins σ H s) (F:Fr X.base X.env.locals s.heap m) (F':Fr X.base X.env.locals h' m) (N:News X.base X.env.locals h' (more++im X.base s.heap X.env.locals)) :
  (∀b o,b≠X.env.locals→s.heap.get? b=some o→h'.get? b=some o)∧(∀m,s.heap.Ns X.env.locals m→h'.Ns X.env.locals m):=by
 refine⟨fun b o hb e=>?_,fun m' hm=>by rw[←vE (h':=h') F.ns hm];exact F'.ns⟩
 cases q:X.base.get? b with
 |some u=>
  have e2:=I.bk b u q
  rw[e] at e2;cases e2
  exact F'.keep b _ q
 |none=>exact (N (b,o) (List.mem_append_right _ (eP hb q e))).1
theorem aU.there {P:Program} {w:World} {H:Hp} {h:Heap} {a:Addr} {o:HO} (x:aU P w H h a o):∃ob,h.get? a=some ob:=by
 cases o with
 |lst xs=>obtain⟨_,_,_,_,e⟩:=x;exact⟨_,e⟩
 |tup xs=>obtain⟨_,_,_,ob,e,_⟩:=x;exact⟨_,e⟩
 |dK kvs=>obtain⟨_,_,_,_,o,_,_,e,_⟩:=x;exact⟨_,e⟩
 |dT kvs=>obtain⟨_,_,_,_,o,_,_,e,_⟩:=x;exact⟨_,e⟩
 |set S n=>obtain⟨o,_,_,_,e,_⟩:=x;exact⟨_,e⟩
 |ins C dx fs=>obtain⟨_,_,_,e,_⟩:=x;exact⟨_,e⟩
 |own y=>exact x
 |xd fs=>obtain⟨_,⟨_,_,_,e,_⟩,_⟩:=x;exact⟨_,e⟩
 |rng lo hi=>obtain⟨_,_,_,e⟩:=x;exact⟨_,e⟩
 |frz ob u=>obtain⟨e,_⟩:=x;exact⟨_,e⟩
 |tbl ps=>exact⟨_,(show h.get? a=some _ from x)⟩
 |met f y=>exact⟨_,(show h.get? a=some _ from x)⟩
 |ext φ=>obtain⟨_,e,_⟩:=x;exact e
theorem HOk.none_of {P:Program} {w:World} {H:Hp} {h:Heap} {a:Addr} (x:HOk P w H h) (e:h.get? a=none):H a=none:=by
 cases q:H a with
 |none=>rfl
 |some u=>
  obtain⟨o,z⟩:=(x a u q).there
  rw[e] at z;cases z
theorem Inv.laidN {h':Heap} {t':Nat} {a:Addr} {o:HO} (I:Inv X pins σ H s) (k:∀b o,b≠X.env.locals→s.heap.get? b=some o→h'.get? b=some o) (kn:∀m,s.heap.Ns X.env.locals m→h'.Ns X.env.locals m)
  (ha:s.heap.get? a=none) (new:∀H',aU X.prog X.w H' h' a o) (hx:∀y fs,o≠.ins y fs []):Inv X pins σ (upd H a o) {s with heap:=h',toks:=t'}:=by
 have hn:H a=none:=I.hok.none_of ha
 have hL:∀b u,H b=some u→b≠X.env.locals:=fun b u e z=>by rw[z,I.free] at e;cases e
 refine I.step (g':=s.gens) (d':=s.drawn) (ch:=[]) (fun _ z=>nomatch z) (fun b o hb _ _ e _=>k b o hb e) (fun b o hb _ _ e _=>⟨o.slots,k b o hb e⟩) (fun b o _ e n=>?_) (fun b o _ e=>?_) (fun b xs e=>?_) (fun b o u e=>?_) (fun b ps e=>⟨#[],?_⟩) kn (fun b u e=>?_) I.bare
 ·rw[au (fun z=>by rw[z,ha] at e;cases e)];exact n
 ·by_cases hb:b=X.env.locals
  ·subst hb
   obtain⟨m,hm,_⟩:=I.loc
   obtain⟨o',_,_,e',_⟩:=kn m hm
   exact⟨o',e'⟩
  ·exact⟨o,k b o hb e⟩
 ·rw[au (ag e hn)];exact e
 ·rw[au (ag e hn)];exact e
 ·rw[au (ag e hn),e];simp
 ·by_cases hb:b=a
  ·subst hb;rw[ao] at e;cases e;exact new _
  ·rw[au hb] at e
   refine (I.hok b u e).stay (fun c v hc q=>k c v ?_ q) (fun c q=>by rw[au (ag q hn)];exact q) fun c xs q=>by rw[au (ag q hn)];exact q
   rcases hc with z|z
   ·rw[z];exact hL b u e
   ·exact hL c _ z
theorem Inv.keptN {h':Heap} {t':Nat} (I:Inv X pins σ H s) (k:∀b o,b≠X.env.locals→s.heap.get? b=some o→h'.get? b=some o) (kn:∀m,s.heap.Ns X.env.locals m→h'.Ns X.env.locals m):Inv X pins σ H {s with heap:=h',toks:=t'}:=by
 have hL:∀b u,H b=some u→b≠X.env.locals:=fun b u e z=>by rw[z,I.free] at e;cases e
 refine I.step (g':=s.gens) (d':=s.drawn) (ch:=[]) (fun _ z=>nomatch z) (fun b o hb _ _ e _=>k b o hb e) (fun b o hb _ _ e _=>⟨o.slots,k b o hb e⟩) (fun b o _ e n=>n) (fun b o _ e=>?_) (fun b xs e=>e) (fun b o u e=>e) (fun b ps e=>⟨#[],by rw[e];simp⟩) kn (fun b u e=>?_) I.bare
 ·by_cases hb:b=X.env.locals
  ·subst hb
   obtain⟨m,hm,_⟩:=I.loc
   obtain⟨o',_,_,e',_⟩:=kn m hm
   exact⟨o',e'⟩
  ·exact⟨o,k b o hb e⟩
 ·refine (I.hok b u e).stay (fun c v hc q=>k c v ?_ q) (fun c q=>q) fun c xs q=>q
  rcases hc with z|z
  ·rw[z];exact hL b u e
  ·exact hL c _ z
end
end L2
end
section
namespace L2
open PySem PySem.Spec PyProof.Rows PySem.W
def cM (h:Heap) (a:Addr) (vs:List Value):Heap:=((h.update a (Obj.mapSeq fun _=>#[])).push (seqObj "tuple" vs.toArray 0)).push (seqObj "list" #[] 0)
section
variable {prog:Program} {w:World} {A:Around} {E:Value→Shared→Prop} {κ:SortKind} {rk:Value→List Int}
theorem jD {s:Shared} {a:Addr} {vs:List Value} {n:Nat} {P:PySem.Fin→Shared→Prop} (ho:s.heap.get? a=some (seqObj "list" vs.toArray n)) (hz:vs.length≤sizeLine)
  (hk:2≤vs.length→∀Q:SortKind→Shared→Prop,Q κ {s with heap:=cM s.heap a vs}→wpAny (model prog w) A (keyKind' vs.toArray) Q E {s with heap:=cM s.heap a vs})
  (hc:2≤vs.length→∀x∈vs,∀y∈vs,∀C:Bool→Shared→Prop,C (HT.lexLt (rk x) (rk y)) {s with heap:=cM s.heap a vs}→wpAny (model prog w) A (keyLt' κ x y) C (fun _ _=>False) {s with heap:=cM s.heap a vs})
  (h:∀out:List Value,out.Perm vs→out.Pairwise (fun u v=>HT.lexLt (rk v) (rk u)=false)→P (.done (.ret .none)) {s with heap:=sortedHeap s.heap a vs out.toArray}):wpAny (model prog w) A (Builtin.«list.sort» ⟨[.ref a],[]⟩) P E s:=by
 have lt:a < s.heap.objs.size:=Heap.lt_size ho
 obtain⟨e1,h1⟩:∃e1,(s.heap.update a (Obj.mapSeq fun _=>(#[]:Array Value))).get? a=some (seqObj "list" #[] e1):=⟨_,get?_update_seq ho fun _=>#[]⟩
 have h3:(cM s.heap a vs).get? a=some (seqObj "list" #[] e1):=Heap.get?_push_of_some _ (Heap.get?_push_of_some _ h1)
 have zs:(vs.toArray.zip vs.toArray).map (·.2)=vs.toArray:=by
  apply Array.toList_inj.mp
  simp only[Array.toList_map,List.zip_toArray]
  exact List.map_snd_zip (Nat.le_refl _)
 rw[list_sort_plain]
 refine wpAny_bind (listItems_at ho rfl (wpAny_bind (listUpdate_at ho rfl (wpAny_bind (seqEpoch_at h1 rfl (wpAny_bind (wpAny_newTuple (wpAny_bind (wpAny_newList (wpAny_holding ?_) (Nat.zero_le _))) hz)))) (by rw[List.size_toArray];omega) (Nat.zero_le _))))
 show wpAny _ _ _ _ _ {s with heap:=cM s.heap a vs}
 have fin:∀st:SortSt,failedOf st=none→((arrOf st).map (·.2)).toList.Perm vs→((arrOf st).map (·.2)).toList.Pairwise (fun u v=>HT.lexLt (rk v) (rk u)=false)→∀s':Shared,s' = {s with heap:=cM s.heap a vs}→wpAny (model prog w) A (do
   let touched:=(←seqEpoch a) != e1
   Builtin.List.listUpdate (.ref a) fun _=>(arrOf st).map (·.2)
   if let some e:=failedOf st then rule "list.sort.comparison-raised";throw e
   if touched then rule "list.sort.modified";raiseError "ValueError" "list modified during sort"
   ret .none) P E s':=by
  rintro st hf hp hs _ rfl
  refine wpAny_bind (seqEpoch_at h3 rfl (wpAny_bind (listUpdate_at h3 rfl ?_ (Nat.zero_le _) (by have:=hp.length_eq;rw[Array.length_toList] at this;omega))))
  rw[hf]
  simp only[bne_self_eq_false,Bool.false_eq_true,if_false]
  exact wpAny_pure (by
   have z:=h _ hp hs
   rwa [Array.toArray_toList] at z)
 dsimp only
 by_cases h2:vs.length < 2
 ·have hs2:vs.toArray.size < 2:=by rw[List.size_toArray];exact h2
  rw[if_pos hs2,if_pos hs2]
  refine wpAny_bind (wpAny_pure ?_)
  rw[StateT.run_pure]
  refine wpAny_bind (wpAny_pure ?_)
  refine fin (SortSt.mk' general' (vs.toArray.zip vs.toArray) #[] 7 none) rfl ?_ ?_ _ rfl
  ·show (((vs.toArray.zip vs.toArray).map (·.2)).toList).Perm vs
   rw[zs]
  ·show (((vs.toArray.zip vs.toArray).map (·.2)).toList).Pairwise _
   rw[zs]
   match vs,h2 with
   | [],_=>exact .nil
   | [_],_=>exact List.pairwise_singleton _ _
 ·have nt:¬vs.toArray.size < 2:=by rw[List.size_toArray];omega
  rw[if_neg nt,if_neg nt]
  refine wpAny_bind (hk (by omega) _ ?_)
  have mem:∀x∈(vs.toArray.zip vs.toArray),x.1∈vs∧x.1=x.2:=fun x hx=>by
   have hx:x∈vs.zip vs:=by simpa using hx
   obtain⟨i,hi⟩:=List.mem_iff_getElem?.mp hx
   rw[List.getElem?_zip_eq_some] at hi
   exact⟨List.mem_of_getElem? hi.1,Option.some.inj (hi.1.symm.trans hi.2)⟩
  have C:TimS.Cmp (model prog w) A E {s with heap:=cM s.heap a vs} κ (fun x=>x∈(vs.toArray.zip vs.toArray)) (fun x y=>HT.lexLt (rk x.1) (rk y.1)):=by
   refine⟨fun _ _=>lW _ _,fun _ _ _=>qZ _ _ _,fun {x y st Q} hx hy hk' q=>?_⟩
   rw[lt'_eq]
   refine wpS_bind (wpS_get ?_)
   rw[hk']
   refine wpS_bind (wpS_lift (wpAny_attempt (wpAny_mono (hc (by omega) _ (mem x hx).1 _ (mem y hy).1 (fun b s'=>b=HT.lexLt (rk x.1) (rk y.1)∧s' = {s with heap:=cM s.heap a vs}) ⟨rfl,rfl⟩) (fun b s' ⟨e,e'⟩=>?_) fun _ _ z=>z.elim)))
   subst e e'
   exact⟨rfl,wpS_pure q⟩
  have hzz:(vs.toArray.zip vs.toArray).size=vs.length:=by simp
  refine wpAny_bind (wpAny_mono (TimS.wp_runs C (st:=SortSt.mk' κ (vs.toArray.zip vs.toArray) #[] 7 none) (fun x hx=>hx) rfl rfl rfl rfl (by rw[hzz];omega) (Q:=fun _ st=>failedOf st=none∧(arrOf st).Perm (vs.toArray.zip vs.toArray)∧TimS.Seg (fun x y=>HT.lexLt (rk x.1) (rk y.1)) (arrOf st) 0 vs.length) fun st' f p g=>⟨f,p,by rw[hzz] at g;exact g⟩) ?_ fun _ _ e=>e)
  rintro⟨⟨⟩,st'⟩ s' ⟨e,hf,hp,hg⟩
  refine fin st' hf ?_ ?_ s' e
  ·have:=(Array.perm_iff_toList_perm.mp hp).map (·.2)
   rw[←Array.toList_map,←Array.toList_map,zs] at this
   exact this
  ·rw[Array.toList_map,List.pairwise_map]
   refine List.pairwise_iff_getElem.mpr fun i j hi hj hij=>?_
   have hz2:(arrOf st').size=vs.length:=hp.size_eq.trans hzz
   have hi':i < (arrOf st').size:=by simpa using hi
   have hj':j < (arrOf st').size:=by simpa using hj
   have g:=hg i j (Nat.zero_le _) (by omega) (by omega)
   have e2:∀k (hk:k < (arrOf st').size),TimS.G (arrOf st') k=(arrOf st')[k]:=fun k hk=>by simp[TimS.G,hk]
   have e3:∀k (hk:k < (arrOf st').size),((arrOf st')[k]).1=((arrOf st')[k]).2:=fun k hk=>(mem _ (hp.mem_iff.mp (Array.getElem_mem hk))).2
   have g:HT.lexLt (rk (TimS.G (arrOf st') j).1) (rk (TimS.G (arrOf st') i).1)=false:=g
   rw[e2 i hi',e2 j hj',e3 i hi',e3 j hj'] at g
   simpa using g
theorem mK {s:Shared} {l:Addr} {vs:List Value} {Q:Value→Shared→Prop} (hl:s.heap.IsList l vs.toArray) (hz:vs.length+1≤sizeLine)
  (hk:∀h':Heap,(∀b o,s.heap.get? b=some o→h'.get? b=some o)→2≤vs.length→∀Q:SortKind→Shared→Prop,Q κ {s with heap:=h'}→wpAny (model prog w) A.in1.in1 (keyKind' vs.toArray) Q E {s with heap:=h'})
  (hc:∀h':Heap,(∀b o,s.heap.get? b=some o→h'.get? b=some o)→2≤vs.length→∀x∈vs,∀y∈vs,∀C:Bool→Shared→Prop,C (HT.lexLt (rk x) (rk y)) {s with heap:=h'}→wpAny (model prog w) A.in1.in1 (keyLt' κ x y) C (fun _ _=>False) {s with heap:=h'})
  (h:∀out:List Value,out.Perm vs→out.Pairwise (fun u v=>HT.lexLt (rk v) (rk u)=false)→Q (.ref (s.heap.objs.size+1)) {s with heap:=sortedAll s.heap vs out.toArray}):wpAny (model prog w) A (call (.builtin "sorted") [.ref l]) Q E s:=by
 refine Calls.call_function_entry kind_sorted plain_sorted entry_sorted (args_sorted1 _) ?_
 unfold Builtin.«sorted»
 refine wpAny_bind (m:=checkCount "sorted" 1 1 _) (wpAny_pure (wpAny_bind (collect_list hl (wpAny_bind (wpAny_newList ?_ (by omega))) (by omega))))
 generalize hG:(s.heap.push (seqObj "list" #[] 0)).update s.heap.objs.size (Obj.mapSeq (·++vs.toArray))=G
 have hz':G.objs.size=s.heap.objs.size+1:=by rw[←hG,Heap.size_update,size_push']
 have ho:(G.push (seqObj "list" vs.toArray 0)).get? (s.heap.objs.size+1)=some (seqObj "list" vs.toArray 0):=by rw[←hz'];exact Heap.get?_push_size _ rfl
 have hA:∀out:List Value,sortedAll s.heap vs out.toArray=sortedHeap (G.push (seqObj "list" vs.toArray 0)) (s.heap.objs.size+1) vs out.toArray:=fun out=>by rw[←hG];rfl
 have old:∀b o,s.heap.get? b=some o→(cM (G.push (seqObj "list" vs.toArray 0)) (s.heap.objs.size+1) vs).get? b=some o:=fun b o q=>by
  have lt:=Heap.lt_size q
  have g:G.get? b=some o:=by
   rw[←hG,Heap.get?_update_ne _ _ _ _ (Nat.ne_of_lt lt)]
   exact Heap.get?_push_of_some _ q
  refine Heap.get?_push_of_some _ (Heap.get?_push_of_some _ ?_)
  rw[Heap.get?_update_ne _ _ _ _ (Nat.ne_of_lt (Nat.lt_succ_of_lt lt))]
  exact Heap.get?_push_of_some _ g
 show wpAny _ _ _ _ _ {s with heap:=G.push (seqObj "list" vs.toArray 0)}
 rw[hz']
 refine wpAny_bind (wpAny_holding (wpAny_call_entry slot_list_sort ⟨_,ho,rfl⟩ entry_list_sort ?body (args_list_sort _)))
 case body=>
  refine jD (rk:=rk) (κ:=κ) (s:={s with heap:=G.push (seqObj "list" vs.toArray 0)}) ho (by omega) (hk _ old) (hc _ old) fun out p1 p2=>?_
  exact⟨_,rfl,wpAny_pure ⟨_,rfl,(hA out) ▸ h out p1 p2⟩⟩
end
section
variable {X:Cx}
theorem Paired.getE {α β:Type} {F:α→β→Prop}:∀{l1:List α} {l2:List β} {i:Nat} {x:α},Paired F l1 l2→l1[i]? = some x→∃y,l2[i]? = some y∧F x y
 |_,_,_,_,.nil,e=>by simp at e
 |_,_,0,_,.cons r _,e=>by simp at e;subst e;exact⟨_,rfl,r⟩
 |_,_,i+1,x,.cons _ t,e=>by
  obtain⟨u,h1,h2⟩:=Paired.getE (i:=i) (x:=x) t (by simpa using e)
  exact⟨u,by simpa using h1,h2⟩
theorem jp {ys:List V} {its:List Value} (r:Vals ys its):∀(ix:List Nat),(∀i∈ix,i < ys.length)→Vals (ix.map fun i=>ys.getD i .non) (ix.map fun i=>its.getD i Value.none)
 | [],_=>.nil
 |i::ix,h=>by
  refine .cons ?_ (jp r ix fun j hj=>h j (List.mem_cons_of_mem _ hj))
  have hi:=h i List.mem_cons_self
  obtain⟨u,e1,e2⟩:=r.get (i:=i) (x:=ys[i]) (by simp[hi])
  have e3:ys.getD i .non=ys[i]:=by simp[List.getD,hi]
  have e4:its.getD i Value.none=u:=by rw[List.getD,e1];rfl
  show RelV (ys.getD i .non) (its.getD i Value.none)
  rw[e3,e4];exact e2
theorem oN {prog:Program} {w:World} {A:Around}:∀(us ws:List Value) (ns ms:List Int) (i:Nat) (s:Shared) {fin:Bool} {Q:Bool→Shared→Prop},IntsAre us ns→IntsAre ws ms→fin=decide (ns.length < ms.length)→Q (HT.lexLt ns ms) s→KatLex prog w A true fin Q (us.zip ws) i s
 | [],[],_,_,_,s,fin,Q,.nil,.nil,e,q=>by subst e;exact q
 | [],_::_,_,_,_,s,fin,Q,.nil,.cons _ _ _,e,q=>by subst e;exact kat_nil (by simpa [HT.lexLt] using q)
 |_::_,[],_,_,_,s,fin,Q,.cons _ _ _,.nil,e,q=>by subst e;exact kat_nil (by simpa [HT.lexLt] using q)
 |_::us,_::ws,_,_,i,s,fin,Q,.cons a t r1,.cons b u r2,e,q=>by
  rw[HT.lexLt_cons] at q
  refine kat_cons (wpAny_eqBool_int ?_)
  by_cases h:a=b
  ·rw[if_pos h] at q
   rw[show (a==b)=true by simpa using h]
   refine kat_yes (oN us ws _ _ (i+1) s r1 r2 ?_ q)
   rw[e];simp
  ·rw[if_neg h] at q
   rw[show (a==b)=false by simpa using h]
   refine kat_no ?_
   cases hb:(true&&i==0) with
   |true=>exact oneLt_int q
   |false=>exact kat_one _ _ (lt_int q)
theorem oZ {α β:Type} {f:α→β}:∀{l l':List β},l'.Perm l→∀ix:List α,l=ix.map f→∃ix':List α,ix'.Perm ix∧l' = ix'.map f:=by
 intro l l' h
 induction h with
 |nil=>exact fun ix e=>⟨ix,.refl _,e⟩
 |cons x _ ih=>
  intro ix e
  cases ix with
  |nil=>cases e
  |cons i ix=>
   rw[List.map_cons] at e
   injection e with e1 e2
   obtain⟨ix',p,q⟩:=ih ix e2
   exact⟨i::ix',p.cons i,by rw[List.map_cons,e1,q]⟩
 |swap x y l=>
  intro ix e
  match ix,e with
  |i::j::ix,e=>
   simp only[List.map_cons,List.cons.injEq] at e
   exact⟨j::i::ix,.swap _ _ _,by rw[List.map_cons,List.map_cons,e.1,e.2.1,e.2.2]⟩
 |trans _ _ ih1 ih2=>
  intro ix e
  obtain⟨ix2,p2,q2⟩:=ih2 ix e
  obtain⟨ix1,p1,q1⟩:=ih1 ix2 q2
  exact⟨ix1,p1.trans p2,q1⟩
def Ky (K:Frag) (H:Hp) (ys:List V) (ks:List (List Int)):Prop:=Paired (fun y k=>∃n,y=V.int n∧k=[n]) ys ks∨Tups K H ys ks
def rkV (h:Heap):Value→List Int
 | .int n _=>[n]
 | .ref b=>match h.get? b with
  |some o=>match o.data with
   | .seq xs _=>xs.toList.map fun v=>match v with | .int n _=>n|_=>0
   |_=>[]
  |none=>[]
 |_=>[]
theorem n_:∀{us:List Value} {ns:List Int},IntsAre us ns→(us.map fun v=>match v with | .int n _=>n|_=>0)=ns
 |_,_,.nil=>rfl
 |_,_,.cons n t r=>by rw[List.map_cons,n_ r]
theorem q_ {s:Shared} {σ:St} {H:Hp} {pins:List (Addr × Obj)} (I:Inv X pins σ H s) {ys:List V} {ks:List (List Int)} {its:List Value} (h:Ky X.K H ys ks) (rv:Vals ys its):∃κ:SortKind,(∀i,i < its.length→rkV s.heap (its.getD i Value.none)=ks.getD i []) ∧
  ∀{A:Around} {E:Value→Shared→Prop} (h':Heap),(∀b o,s.heap.get? b=some o→o.cls=.type "tuple"→h'.get? b=some o)→2≤its.length →
   (∀Q:SortKind→Shared→Prop,Q κ {s with heap:=h'}→wpAny (model X.prog X.w) A (keyKind' its.toArray) Q E {s with heap:=h'}) ∧
   ∀x∈its,∀y∈its,∀C:Bool→Shared→Prop,C (HT.lexLt (rkV s.heap x) (rkV s.heap y)) {s with heap:=h'}→wpAny (model X.prog X.w) A (keyLt' κ x y) C (fun _ _=>False) {s with heap:=h'}:=by
 rcases h with h|h
 ·obtain⟨ns,rfl,rfl⟩:∃ns:List Int,ys=ns.map V.int∧ks=ns.map fun n=>[n]:=by
   clear rv
   induction h with
   |nil=>exact⟨[],rfl,rfl⟩
   |cons r _ ih=>
    obtain⟨n,rfl,rfl⟩:=r
    obtain⟨ns,rfl,rfl⟩:=ih
    exact⟨n::ns,rfl,rfl⟩
  have hI:=er rv
  have hv:∀{its:List Value} {ns:List Int},IntsAre its ns→∀x∈its,∃n t,x=Value.int n t:=fun {its ns} hI x hx=>by
   induction hI with
   |nil=>cases hx
   |cons n t _ ih=>
    rcases List.mem_cons.mp hx with rfl|hx
    ·exact⟨n,t,rfl⟩
    ·exact ih hx
  refine⟨oneType',fun i hi=>?_,fun {A E} h' _ h2=>⟨fun Q q=>?_,fun x hx y hy C q=>?_⟩⟩
  ·obtain⟨u,e1,e2⟩:=rv.get (i:=i) (x:=(ns.map V.int)[i]'(by rw[rv.length];exact hi)) (by simp)
   have hi':i < ns.length:=by have:=rv.length;rw[List.length_map] at this;omega
   rw[List.getElem_map] at e2
   obtain⟨t,rfl⟩:=e2
   rw[List.getD,e1,List.getD,List.getElem?_map,List.getElem?_eq_getElem hi']
   rfl
  ·match its,h2,hI with
   |v1::v2::rest,_,hI=>rw[keyKind_ints hI];exact wpAny_pure q
  ·obtain⟨n,t,rfl⟩:=hv hI x hx
   obtain⟨m,u,rfl⟩:=hv hI y hy
   refine kat_lt_int ?_
   have e:HT.lexLt (rkV s.heap (Value.int n t)) (rkV s.heap (Value.int m u))=decide (n < m):=by
    show HT.lexLt [n] [m]=_
    rw[HT.lexLt_cons]
    by_cases z:n=m
    ·rw[if_pos z,decide_eq_false (by omega)];rfl
    ·rw[if_neg z]
   rw[←e];exact q
 ·have at_:∀(ks:List (List Int)) (ys:List V) (its:List Value),Tups X.K H ys ks→Vals ys its→Paired (fun v k=>k≠[]∧∃b us o n,v=Value.ref b∧IntsAre us k∧s.heap.get? b=some o∧o.cls=.type "tuple"∧o.data=.seq us.toArray n) its ks:=by
   intro ks
   induction ks with
   |nil=>intro ys its a b;cases a;cases b;exact .nil
   |cons k ks ih=>
    intro ys its a b
    cases a with
    |cons hh tt=>
     obtain⟨bb,e0,hq,hne⟩:=hh
     subst e0
     cases b with
     |cons r rr=>
      cases r
      obtain⟨us,r5,⟨o,p1,p2,n,p3⟩,_⟩:=I.tuple hq
      exact .cons ⟨hne,bb,us,o,n,rfl,er r5,p1,p2,p3⟩ (ih _ _ tt rr)
  have P:=at_ ks ys its h rv
  have rkk:∀{b:Addr} {us:List Value} {o:Obj} {n:Nat} {k:List Int},IntsAre us k→s.heap.get? b=some o→o.data=.seq us.toArray n→rkV s.heap (Value.ref b)=k:=fun {b us o n k} i1 i2 i3=>by
   show (match s.heap.get? b with|some o=>_|none=>_)=_
   rw[i2]
   show (match o.data with | .seq xs _=>_|_=>_)=_
   rw[i3]
   exact n_ i1
  refine⟨tuples' (Value.type "int" != Value.type "tuple"),fun i hi=>?_,fun {A E} h' old h2=>⟨fun Q q=>?_,fun x hx y hy C q=>?_⟩⟩
  ·obtain⟨k,e1,_,b,us,o,n,e2,i1,i2,_,i3⟩:=Paired.getE (i:=i) (x:=its[i]) P (by simp[hi])
   rw[show its.getD i Value.none=its[i] by simp[List.getD,hi],e2,rkk i1 i2 i3,List.getD,e1];rfl
  ·obtain⟨fs,hk,hfl,hfi⟩:∃fs,KatTups h' its fs∧fs.length=its.length∧∀v∈fs,∃n t,v=Value.int n t:=by
    clear rv h2 h at_
    induction P with
    |nil=>exact⟨[],.nil,rfl,fun _ h=>nomatch h⟩
    |cons r _ ih=>
     obtain⟨hne,b,us,o,n,rfl,i1,i2,i4,i3⟩:=r
     obtain⟨fs,k1,hl1,hi1⟩:=ih
     cases i1 with
     |nil=>exact absurd rfl hne
     |cons z tk r2=>
      refine⟨Value.int z tk::fs,.cons (old _ _ i2 i4) i4 i3 (by simp) k1,by simp[hl1],fun v hv=>?_⟩
      rcases List.mem_cons.mp hv with rfl|hv
      ·exact⟨_,_,rfl⟩
      ·exact hi1 v hv
   refine kat_kind (T:=.type "int") hk (by omega) (fun v hv=>?_) (by decide) q
   obtain⟨n,t,rfl⟩:=hfi v hv
   exact Looks.of_pure rfl
  ·obtain⟨i,hi⟩:=List.mem_iff_getElem?.mp hx
   obtain⟨j,hj⟩:=List.mem_iff_getElem?.mp hy
   obtain⟨k1,_,_,b1,u1,o1,n1,rfl,i1,x1,c1,z1⟩:=Paired.getE P hi
   obtain⟨k2,_,_,b2,u2,o2,n2,rfl,i2,x2,c2,z2⟩:=Paired.getE P hj
   rw[rkk i1 x1 z1,rkk i2 x2 z2] at q
   rw[show (Value.type "int" != Value.type "tuple")=true by decide]
   refine kat_lt (old _ _ x1 c1) z1 (old _ _ x2 c2) z2 (oN u1 u2 _ _ 0 _ i1 i2 ?_ q)
   rw[←i1.length,←i2.length];simp
theorem q5 {s:Shared} {ys:List V} {ks:List (List Int)} {its out:List Value} (rv:Vals ys its) (hr:∀i,i < its.length→rkV s.heap (its.getD i Value.none)=ks.getD i []) (p:out.Perm its) (pw:out.Pairwise (fun u v=>HT.lexLt (rkV s.heap v) (rkV s.heap u)=false)) :
  ∃ix:List Nat,ix.Perm (List.range ys.length)∧(ix.map fun i=>ks.getD i []).Pairwise (fun a b=>HT.lexLt b a=false)∧Vals (ix.map fun i=>ys.getD i .non) out:=by
 have e:its=(List.range its.length).map fun i=>its.getD i Value.none:=by
  refine List.ext_getElem (by simp) fun i h1 h2=>?_
  simp[h1]
 obtain⟨ix,p2,rfl⟩:=oZ p _ e
 have hb:∀i∈ix,i < its.length:=fun i hi=>List.mem_range.mp (p2.mem_iff.mp hi)
 refine⟨ix,by rw[rv.length];exact p2,?_,jp rv ix fun i hi=>by rw[rv.length];exact hb i hi⟩
 rw[List.pairwise_map] at pw ⊢
 refine List.Pairwise.imp_of_mem (fun {a b} ha hb' h=>?_) pw
 rw[hr _ (hb a ha),hr _ (hb b hb')] at h
 exact h
def vk (K:Frag):List V→Hp→VK→Prop:=fun xs H Q=>∃(a:Addr) (ys:List V) (ks:List (List Int)),xs=[.ref a]∧SqL K H a ys∧Ky K H ys ks∧ys.length < 5000 ∧
 ∀p (ix:List Nat),H p=none→ix.Perm (List.range ys.length)→(ix.map fun i=>ks.getD i []).Pairwise (fun a b=>HT.lexLt b a=false)→Q (.ref p) (upd H p (.lst (ix.map fun i=>ys.getD i .non)))
theorem gX:bZ X (.builtin "sorted") (vk X.K):=by
 intro pins s σ H xs us Q I r h
 obtain⟨a,ys,ks,rfl,hq,hy,hz,q⟩:=h
 obtain⟨u,rfl,ru⟩:=Vals.one r
 cases ru
 obtain⟨its,rv,p,_⟩:=I.list hq
 have hl:=rv.length
 obtain⟨κ,hr,ask⟩:=q_ I hy rv
 refine mK (κ:=κ) (rk:=rkV s.heap) p.isList (by rw[sizeLine_eq];omega) (fun h' old h2=>(ask h' (fun b o e _=>old b o e) h2).1) (fun h' old h2=>(ask (E:=fun _ _=>False) h' (fun b o e _=>old b o e) h2).2) fun out p1 p2=>?_
 obtain⟨ix,x1,x2,x3⟩:=q5 rv hr p1 p2
 obtain⟨e,he⟩:=sortedAll_at s.heap its out.toArray
 have hp:s.heap.objs.size≤s.heap.objs.size+1:=Nat.le_succ _
 exact⟨.ref (s.heap.objs.size+1),upd H (s.heap.objs.size+1) (.lst (ix.map fun i=>ys.getD i .non)),I.laid (t':=s.toks) (fun b o e=>sortedAll_old e) hp ⟨by rw[List.length_map,x1.length_eq,List.length_range,sizeLine_eq];omega,out,e,x3,by rw[he]⟩,rfl,q _ ix (I.hok.fresh hp) x1 x2⟩
theorem vJ {K:Frag} {H:Hp} (ns:List Int):Ky K H (ns.map V.int) (ns.map fun n=>[n]):=.inl (by
 induction ns with
 |nil=>exact .nil
 |cons n ns ih=>exact .cons ⟨n,rfl,rfl⟩ ih)
theorem vR {ns:List Int} {ix:List Nat} (p:ix.Perm (List.range (ns.map V.int).length)) (w:(ix.map fun i=>(ns.map fun n=>[n]).getD i []).Pairwise (fun a b=>HT.lexLt b a=false)) :
  ∃ms:List Int,ms.Perm ns∧ms.Pairwise (·≤·)∧(ix.map fun i=>(ns.map V.int).getD i .non)=ms.map V.int:=by
 rw[List.length_map] at p
 have hb:∀i∈ix,i < ns.length:=fun i hi=>List.mem_range.mp (p.mem_iff.mp hi)
 refine⟨ix.map fun i=>ns.getD i 0,?_,?_,?_⟩
 ·have:=p.map fun i=>ns.getD i 0
  refine this.trans (List.Perm.of_eq (List.ext_getElem (by simp) fun i h1 h2=>?_))
  simp[h2]
 ·rw[List.pairwise_map] at w ⊢
  refine List.Pairwise.imp_of_mem (fun {a b} ha hb' h=>?_) w
  have h1:=hb a ha
  have h2:=hb b hb'
  simp only[List.getD,List.getElem?_map,List.getElem?_eq_getElem h1,List.getElem?_eq_getElem h2,Option.map_some,Option.getD_some] at h ⊢
  rw[HT.lexLt_cons] at h
  by_cases z:ns[b]=ns[a]
  ·omega
  ·rw[if_neg z] at h
   have:=of_decide_eq_false h
   omega
 ·rw[List.map_map]
  refine List.map_congr_left fun i hi=>?_
  have:=hb i hi
  simp[List.getD,this]
def vh (K:Frag):List V→Hp→VK→Prop:=fun xs H Q=>∃(a:Addr) (ys:List V) (ks:List (List Int)),xs=[.ref a]∧SqL K H a ys∧Tups K H ys ks∧ys.length < 5000 ∧
 ∀p (ix:List Nat),H p=none→ix.Perm (List.range ys.length)→(ix.map fun i=>ks.getD i []).Pairwise (fun a b=>HT.lexLt b a=false)→Q (.ref p) (upd H p (.lst (ix.map fun i=>ys.getD i .non)))
theorem dU:bZ X (.builtin "sorted") (vh X.K):=by
 intro pins s σ H xs us Q I r h
 obtain⟨a,ys,ks,rfl,hq,ht,hz,q⟩:=h
 exact gX pins s σ H _ us Q I r ⟨a,_,_,rfl,hq,.inr ht,hz,q⟩
end
end L2
end
section
namespace L2
open PySem PySem.Spec PyProof.Rows PySem.W
def DAt (h:Heap) (d:Addr) (es:Array DictEntry) (ep:Nat):Prop:=∃o,h.get? d=some o∧o.ExactDict∧o.data=.dict es ep
theorem DAt.lt {h:Heap} {d:Addr} {es:Array DictEntry} {ep:Nat} (x:DAt h d es ep):d < h.objs.size:=let ⟨_,e,_⟩:=x;Heap.lt_size e
theorem DAt.at {h h':Heap} {d:Addr} {es:Array DictEntry} {ep:Nat} (x:DAt h d es ep) (k:∀o,h.get? d=some o→h'.get? d=some o):DAt h' d es ep:=let ⟨o,e,r⟩:=x;⟨o,k o e,r⟩
theorem DAt.ty {s:Shared} {d:Addr} {es:Array DictEntry} {ep:Nat} (x:DAt s.heap d es ep):s.TypeIs (.ref d) "dict":=let ⟨o,e,c,_⟩:=x;⟨o,e,c.1⟩
section
variable {prog:Program} {w:World} {A:Around} {E:Value→Shared→Prop} {s:Shared} {d it:Addr} {es:Array DictEntry} {ep i:Nat}
theorem rZ {Q:Value→Shared→Prop} (lo:(d==sysModules)=false) (m:DAt s.heap d es ep)
  (q:Q (.ref s.heap.objs.size) {s with heap:=s.heap.push {cls:=.type "dict_keyiterator",data:=.fields #[.ref d,.int 0 0,.int es.size 0,.int ep 0]}}):wpAny (model prog w) A (pyIter (.ref d)) Q E s:=by
 obtain⟨o,eo,_,ed⟩:=id m
 refine wpAny_pyIter_slot m.ty PySem.F.slot_dict_iter (wpAny_call_entry PySem.F.slot_dict_iter m.ty PySem.F.entry_dict_iter ?tree (PySem.F.args_dict_iter_1 _))
 unfold Builtin.«dict.__iter__» Builtin.Dict.dictSlotNone
 refine wpAny_bind (wpAny_bind (wpAny_notOrdered_dict m.ty ?_))
 refine wpAny_pure (show wpAny _ _ (Builtin.Dict.showsAll d >>= _) _ _ s from ?_)
 unfold Builtin.Dict.showsAll
 rw[if_neg (show ¬(d==sysModules)=true by rw[lo];simp)]
 refine wpAny_bind (wpAny_pure (wpAny_bind (wpAny_dictEntries eo ed (wpAny_bind (wpAny_dictEpoch eo ed ?_)))))
 refine wpAny_bind (wpAny_newObj_type (wpAny_pure ⟨_,rfl,"dict_keyiterator",_,⟨_,Heap.get?_push_size _ rfl,rfl⟩,PySem.F.slot_dict_keyiterator_next.lookup,?_⟩))
 simpa [rawInt] using q
theorem uL {Q:Option Value→Shared→Prop} (hit:s.heap.IsKeyIter it d i es.size ep) (m:DAt s.heap d es ep) (hi:i < es.size)
  (q:∀h',h'.IsKeyIter it d (i+1) es.size ep→Heap.SameBut it s.heap h'→Q (some es[i].key) {s with heap:=h'}):wpAny (model prog w) A (pyNext (.ref it)) Q E s:=by
 obtain⟨o,ho,hc,hd⟩:=id hit
 obtain⟨od,eo,_,ed⟩:=id m
 unfold pyNext
 refine wpAny_bind (wpAny_attempt (wpAny_callSpecial?_slot (name:=Str.ofString "__next__") hit.typeIs PySem.F.slot_dict_keyiterator_next (wpAny_call_entry PySem.F.slot_dict_keyiterator_next hit.typeIs PySem.F.entry_dict_keyiterator_next ?tree (PySem.F.args_dict_keyiterator_next_1 _))))
 refine wpAny_bind (wpAny_pure (wpAny_bind (wpAny_bind ?_)))
 first|refine wpAny_bind (wpAny_typeNameOfWhole_keyiter hit.typeIs (wpAny_pure (wpAny_bind (wpAny_fieldsOf ho hd ?_))))|refine wpAny_bind (wpAny_typeNameOf_keyiter hit.typeIs (wpAny_pure (wpAny_bind (wpAny_fieldsOf ho hd ?_))))
 simp only[show Builtin.Dict_items.ownsTuple "dict_keyiterator" = false by decide,Bool.false_eq_true,if_false]
 refine (show wpAny _ _ (if (Value.ref d==Value.none)=true then _ else _) _ _ s from ?_);rw[if_neg (show ¬(Value.ref d==Value.none)=true from Bool.false_ne_true)]
 refine wpAny_bind (wpAny_pure (wpAny_bind (wpAny_dictEntries eo ed ?_)))
 rw[if_neg (by simp)]
 refine wpAny_bind (wpAny_pure (wpAny_bind (wpAny_dictEpoch eo ed ?_)))
 rw[if_neg (by simp)]
 refine wpAny_pure ?_
 simp only[show ¬((i:Int) < 0) by omega,if_false,Int.toNat_natCast,Array.getElem?_eq_getElem hi]
 refine wpAny_bind ?_
 first|refine wpAny_bind (wpAny_typeNameOfWhole_keyiter hit.typeIs (wpAny_pure (wpAny_bind (wpAny_isOneOf_keyiter hit.typeIs ?_))))|refine wpAny_bind (wpAny_typeNameOf_keyiter hit.typeIs (wpAny_pure (wpAny_bind (wpAny_isOneOf_keyiter hit.typeIs ?_))))
 show wpAny _ _ (setField (.ref it) 1 (rawInt ((i:Int)+1)) >>= _) _ _ s
 refine wpAny_bind (wpAny_setField ho hd (by simp) ?_)
 have t':(s.heap.update it (Obj.mapFields (·.setIfInBounds 1 (rawInt ((i:Int)+1))))).IsKeyIter it d (i+1) es.size ep:=
  ⟨_,Heap.get?_update_self _ ho (Obj.isFreed_of_fields (Obj.data_mapFields hd _)),(Obj.cls_mapFields ..).trans hc,by rw[Obj.data_mapFields hd];simp[rawInt]⟩
 refine wpAny_bind (wpAny_holding (wpAny_bind (wpAny_isOneOf_keyiter (s:={s with heap:=s.heap.update it (Obj.mapFields (·.setIfInBounds 1 (rawInt ((i:Int)+1))))}) t'.typeIs ?_)))
 show wpAny _ _ (pure es[i].key) _ _ _
 exact wpAny_pure (wpAny_pure ⟨_,rfl,wpAny_pure (q _ t' (Heap.SameBut.update ..))⟩)
theorem dEnd {Q:Option Value→Shared→Prop} (hh:A.handled=none) (hit:s.heap.IsKeyIter it d i es.size ep) (m:DAt s.heap d es ep) (hi:es.size≤i)
  (q:∀h',Heap.ExtBut it s.heap h'→Q none {s with heap:=h'}):wpAny (model prog w) A (pyNext (.ref it)) Q E s:=by
 obtain⟨o,ho,hc,hd⟩:=id hit
 obtain⟨od,eo,_,ed⟩:=id m
 unfold pyNext
 refine wpAny_bind (wpAny_attempt (wpAny_callSpecial?_slot (name:=Str.ofString "__next__") hit.typeIs PySem.F.slot_dict_keyiterator_next (wpAny_call_entry PySem.F.slot_dict_keyiterator_next hit.typeIs PySem.F.entry_dict_keyiterator_next ?tree (PySem.F.args_dict_keyiterator_next_1 _))))
 refine wpAny_bind (wpAny_pure (wpAny_bind (wpAny_bind ?_)))
 first|refine wpAny_bind (wpAny_typeNameOfWhole_keyiter hit.typeIs (wpAny_pure (wpAny_bind (wpAny_fieldsOf ho hd ?_))))|refine wpAny_bind (wpAny_typeNameOf_keyiter hit.typeIs (wpAny_pure (wpAny_bind (wpAny_fieldsOf ho hd ?_))))
 simp only[show Builtin.Dict_items.ownsTuple "dict_keyiterator" = false by decide,Bool.false_eq_true,if_false]
 refine (show wpAny _ _ (if (Value.ref d==Value.none)=true then _ else _) _ _ s from ?_);rw[if_neg (show ¬(Value.ref d==Value.none)=true from Bool.false_ne_true)]
 refine wpAny_bind (wpAny_pure (wpAny_bind (wpAny_dictEntries eo ed ?_)))
 rw[if_neg (by simp)]
 refine wpAny_bind (wpAny_pure (wpAny_bind (wpAny_dictEpoch eo ed ?_)))
 rw[if_neg (by simp)]
 refine wpAny_pure ?_
 simp only[show ¬((i:Int) < 0) by omega,if_false,Int.toNat_natCast,Array.getElem?_eq_none hi]
 refine wpAny_bind ?_
 first|refine wpAny_bind (wpAny_typeNameOfWhole_keyiter hit.typeIs (wpAny_pure ?_))|refine wpAny_bind (wpAny_typeNameOf_keyiter hit.typeIs (wpAny_pure ?_))
 refine (show wpAny _ _ (setField (.ref it) 0 .none >>= _) _ _ s from wpAny_bind (wpAny_setField ho hd (by simp) ?_))
 show wpAny _ _ (newExc (.type "StopIteration") [] >>= _) _ _ _
 refine wpAny_bind ?_
 simp only[newExc,newTuple]
 refine wpAny_bind (wpAny_newObj_type (wpAny_bind (m:=firstArgMember _ _) (wpAny_of_eq (a:=Value.none) (by first|rfl|(simp only[firstArgMember];rfl)) (wpAny_newObj_type ?_ (by size_fits)))) (by size_fits))
 simp only[raiseNew]
 refine wpAny_bind (wpAny_handled ?_)
 rw[show A.in1.handled=none from hh]
 refine wpAny_bind (wpAny_pure (wpAny_throw ?_))
 refine wpAny_bind (wpAny_isInstance (b:=true) (T:="StopIteration") ⟨_,Heap.get?_push_size _ rfl,rfl⟩ isSubtype_stop ?_)
 exact wpAny_pure (q _ (((Heap.SameBut.update ..).extBut.push _).push _))
theorem rY (hh:A.handled=none) (I:Addr) (hne:d≠I):Walks prog w A I [I,d] [I] es.size (fun i v=>∃(h:i < es.size),v=es[i].key) (fun i h=>h.IsKeyIter I d i es.size ep∧DAt h d es ep) where
 sub:=fun b hb=>by simp at hb;simp[hb]
 frame:=fun _ _ _ st hk=>⟨st.1.at fun o e=>hk I (by simp) o e,st.2.at fun o e=>hk d (by simp) o e⟩
 item:=fun i s Q E hi st hQ=>uL st.1 st.2 hi fun h' t' sb=>hQ _ h' s.toks ⟨hi,rfl⟩ ⟨t',st.2.at fun o e=>(sb.2 d hne).trans e⟩ fun b o hb e=>sb.extBut b o (fun h=>hb (by simp[h])) e
 done:=fun s Q E st hQ=>dEnd hh st.1 st.2 (Nat.le_refl _) fun h' x=>hQ h' s.toks fun b o hb e=>x b o (fun h=>hb (by simp[h])) e
 self:=fun _ _ _ _ st hQ=>wpAny_pyIter_keyiter st.1 hQ
theorem dSrc (lo:(d==sysModules)=false):KdlSrc prog w "dict" d d es.size (fun i v=>∃(h:i < es.size),v=es[i].key) (fun h=>DAt h d es ep) where
 type:=fun _ m=>m.ty
 there:=fun _ m=>⟨m.lt,m.lt⟩
 keep:=fun _ _ m hk=>m.at fun o e=>hk d (.inl rfl) o e
 notList:=by decide
 notTuple:=by decide
 hint:=fun _ _ _ _ m hq=>kdl_hint_dict m.ty hq
 iter:=fun _ _ hh m=>⟨_,_,(fun _ _ hq=>rZ lo m hq),rY hh _ (Nat.ne_of_lt m.lt),⟨⟨_,Heap.get?_push_size _ rfl,rfl,rfl⟩,m.at fun o e=>Heap.get?_push_of_some _ e⟩⟩
end
end L2
end
section
namespace L2
open PySem PySem.Spec PyProof.Rows PySem.W
def DKeys (H:Hp) (d:Addr) (ks vs:List V):Prop:=
 (∃kvs,H d=some (.dK kvs)∧ks=kvs.map (fun p=>kV p.1)∧vs=kvs.map (·.2)) ∨
 ∃kvs as,H d=some (.dT kvs)∧Paired (fun (p:List Key × V) a=>H a=some (.tup (p.1.map kV))) kvs as∧ks=as.map V.ref∧vs=kvs.map (·.2)
def DIs (H:Hp) (d:Addr):Prop:=(∃kvs,H d=some (.dK kvs))∨∃kvs,H d=some (.dT kvs)
theorem dview {X:Cx} {pins:List (Addr × Obj)} {σ:St} {H:Hp} {s:Shared} {d:Addr} (I:Inv X pins σ H s) (hd:DIs H d) :
  (d==sysModules)=false∧∃ks vs es ep,DKeys H d ks vs∧ks.length≤sizeLine∧DAt s.heap d es ep∧Vals ks (es.toList.map (·.key))∧Vals vs (es.toList.map (·.val)):=by
 rcases hd with ⟨kvs,e⟩|⟨kvs,e⟩
 ·obtain⟨z,lo,us,rel,o,es,ep,h1,h2,h3,_,h5,_⟩:=oz I.hok e
  refine⟨lo,_,_,es,ep,.inl ⟨kvs,e,rfl,rfl⟩,by rw[List.length_map];exact z,⟨o,h1,h2,h3⟩,?_⟩
  generalize es.toList=l at h5
  have go:∀{kvs:List (Key × V)} {us:List (Key × Value)} {l:List DictEntry},KV kvs us→Pairs (aT X.prog X.w) l us→Vals (kvs.map fun p=>kV p.1) (l.map (·.key))∧Vals (kvs.map (·.2)) (l.map (·.val)):=by
   intro kvs us l r
   induction r generalizing l with
   |nil=>intro p;cases p;exact⟨.nil,.nil⟩
   | @cons a b l1 l2 h1 h2 ih=>
    intro p
    cases p with
    |cons p1 p2 p3=>
     obtain⟨i1,i2⟩:=ih p3
     refine⟨.cons ?_ i1,.cons ?_ i2⟩
     ·dsimp only
      rw[h1.1]
      rcases aZ p1 with ⟨i,t,e1,e2⟩|⟨x,t,e1,e2⟩
      ·rw[e1,e2];exact⟨t,rfl⟩
      ·rw[e1,e2];exact⟨t,rfl⟩
     ·dsimp only;rw[p2];exact h1.2
  exact go rel h5
 ·obtain⟨z,lo,xs,rel,o,es,ep,h1,h2,h3,h4,hz⟩:=uK I.hok e
  clear hz
  have go:∀{kvs:List (List Key × V)} {xs:List (List Key × Addr × Value)},KT H kvs xs→Paired (fun (p:List Key × V) a=>H a=some (.tup (p.1.map kV))) kvs (xs.map (·.2.1))∧Vals (kvs.map (·.2)) (xs.map (·.2.2)):=by
   intro kvs xs r
   induction r with
   |nil=>exact⟨.nil,.nil⟩
   |cons h1 h2 ih=>exact⟨.cons h1.2.1 ih.1,.cons h1.2.2 ih.2⟩
  obtain⟨g1,g2⟩:=go rel
  have hl:=Paired.length g1
  refine⟨lo,_,_,es,ep,.inr ⟨kvs,_,e,g1,rfl,rfl⟩,by rw[List.length_map,←hl];exact z,⟨o,h1,h2,h3⟩,?_,?_⟩
  ·rw[h4,List.map_map,List.map_map]
   clear h4 rel g1 g2 hl
   induction xs with
   |nil=>exact .nil
   |cons x r ih=>exact .cons rfl ih
  ·rw[h4,List.map_map]
   exact g2
abbrev oF (X:Cx):Cx:={X with A:=X.A.in1}
section
variable {X:Cx} {pins:List (Addr × Obj)} {σ:St} {H:Hp} {s:Shared}
theorem Inv.toIn1 (I:Inv X pins σ H s):Inv (oF X) pins σ H s:=
 ⟨⟨I.ok.mod,I.ok.kind,I.ok.glob,I.ok.blt,I.ok.above,I.ok.inj,I.ok.has,I.ok.cab,I.ok.hd,I.ok.frames,I.ok.stk,I.ok.exf,I.ok.bs,I.ok.bsz,I.ok.noex,I.ok.exfs,I.ok.funs,I.ok.frf⟩,I.os,I.bare,I.base,I.loc,I.cell,I.free,I.freeC,I.pin,I.hok,I.len⟩
theorem Inv.ofIn1 (I:Inv (oF X) pins σ H s):Inv X pins σ H s:=
 ⟨⟨I.ok.mod,I.ok.kind,I.ok.glob,I.ok.blt,I.ok.above,I.ok.inj,I.ok.has,I.ok.cab,I.ok.hd,I.ok.frames,I.ok.stk,I.ok.exf,I.ok.bs,I.ok.bsz,I.ok.noex,I.ok.exfs,I.ok.funs,I.ok.frf⟩,I.os,I.bare,I.base,I.loc,I.cell,I.free,I.freeC,I.pin,I.hok,I.len⟩
end
section
variable {X:Cx}
def oe (K:Frag):V→List V→Hp→VK→Prop:=fun x vs H Q=>∃(l:Addr) (ys:List V) (ks:List (List Int)),x=.ref l∧vs=[]∧H l=some (.lst ys)∧Ky K H ys ks∧ys.length < 5000 ∧
 ∀(ix:List Nat),ix.Perm (List.range ys.length)→(ix.map fun i=>ks.getD i []).Pairwise (fun a b=>HT.lexLt b a=false)→Q .non (upd H l (.lst (ix.map fun i=>ys.getD i .non)))
theorem gH:MtM X "list.sort" (oe X.K):=by
 intro pins s σ H x vs v us Q I rx rv h
 obtain⟨l,ys,ks,rfl,rfl,hl,hy,hz,q⟩:=h
 cases rx
 cases rv
 obtain⟨z,its,n,r,hlen,e⟩:=I.lstM hl
 have hn:=r.length
 obtain⟨κ,hr,ask⟩:=q_ I hy r
 have old:∀b o,s.heap.get? b=some o→o.cls=.type "tuple"→(cM s.heap l its).get? b=some o:=fun b o hb hc=>by
  refine Heap.get?_push_of_some _ (Heap.get?_push_of_some _ ?_)
  rw[Heap.get?_update_ne _ _ _ _ (fun y=>by rw[y,e] at hb;cases hb;exact absurd (show Value.type "list" = Value.type "tuple" from hc) (by decide))]
  exact hb
 refine wpAny_call_entry slot_list_sort ⟨_,e,rfl⟩ entry_list_sort (jD (κ:=κ) (rk:=rkV s.heap) e (by rw[sizeLine_eq];omega) (fun h2=>(ask _ old h2).1) (fun h2=>(ask (E:=fun _ _=>False) _ old h2).2) fun out p1 p2=>⟨_,rfl,?_⟩) (args_list_sort _)
 obtain⟨ix,x1,x2,x3⟩:=q5 r hr p1 p2
 obtain⟨e',he⟩:=sortedHeap_at (out:=out.toArray) e
 exact⟨.non,_,I.write (x:=l) (e:=l) (o:=.lst (ix.map fun i=>ys.getD i .non)) (t':=s.toks) (by rw[hl];exact True.intro) (.inl rfl) (fun b u hb q=>(sortedHeap_old hb (Heap.lt_size q)).trans q) ⟨_,he⟩ ⟨by rw[List.length_map,x1.length_eq,List.length_range,sizeLine_eq];omega,out,e',x3,by rw[he]⟩,rfl,q ix x1 x2⟩
end
end L2
end
section
namespace L2
open PySem PySem.Spec PyProof.Rows PySem.W
theorem Tups.mono {K:Frag} {H H':Hp} {ys:List V} {ks:List (List Int)} (h:Tups K H ys ks) (k:∀a xs,H a=some (.tup xs)→H' a=some (.tup xs)) (kf:∀a o xs,H a=some (.frz o (.tup xs))→H' a=some (.frz o (.tup xs))):Tups K H' ys ks:=by
 refine Paired.mapP h fun y z ⟨b,e,q,n⟩=>⟨b,e,?_,n⟩
 rcases q with (q|⟨o,q⟩)|q
 ·exact .inl (.inl (k _ _ q))
 ·exact .inl (.inr ⟨o,kf _ _ _ q⟩)
 ·exact .inr q
theorem lr {K:Frag} {H:Hp} {D:Addr} {ks:List V} {Q:V→Hp→Prop} (hn:H D=none)
  (k:(∃ns:List Int,ks=ns.map V.int∧ns.length < 5000∧∀(p:Addr) (ms:List Int),H p=none→ms.Perm ns→ms.Pairwise (·≤·)→Q (.ref p) (upd H p (.lst (ms.map V.int)))) ∨
   ∃kz:List (List Int),Tups K H ks kz∧ks.length < 5000∧∀(p:Addr) (ix:List Nat),H p=none→ix.Perm (List.range ks.length)→(ix.map fun i=>kz.getD i []).Pairwise (fun a b=>HT.lexLt b a=false)→Q (.ref p) (upd H p (.lst (ix.map fun i=>ks.getD i .non)))) :
  oe K (.ref D) [] (upd H D (.lst ks)) fun _ H'=>Q (.ref D) H':=by
 rcases k with ⟨ns,e0,hl,q⟩|⟨kz,ht,hl,q⟩
 ·subst e0
  refine⟨D,_,_,rfl,rfl,ao,vJ ns,by rw[List.length_map];exact hl,fun ix h1 h2=>?_⟩
  obtain⟨ms,m1,m2,m3⟩:=vR h1 h2
  rw[cF,m3];exact q D ms hn m1 m2
 ·refine⟨D,ks,kz,rfl,rfl,ao,.inr (ht.mono (fun b xs e=>by rw[au (ag e hn)];exact e) fun b o xs e=>by rw[au (ag e hn)];exact e),hl,fun ix h1 h2=>?_⟩
  rw[cF];exact q D ix hn h1 h2
end L2
end
section
namespace L2
open PySem PySem.Spec PyProof.Rows PySem.W
section
variable {X:Cx}
def vn (K:Frag):List V→Hp→VK→Prop:=fun xs H Q=>∃a:Addr,xs=[.ref a]∧DIs H a∧∀ks vs,DKeys H a ks vs →
 (∃ns:List Int,ks=ns.map V.int∧ns.length < 5000∧∀(p:Addr) (ms:List Int),H p=none→ms.Perm ns→ms.Pairwise (·≤·)→Q (.ref p) (upd H p (.lst (ms.map V.int)))) ∨
 ∃kz:List (List Int),Tups K H ks kz∧ks.length < 5000∧∀(p:Addr) (ix:List Nat),H p=none→ix.Perm (List.range ks.length)→(ix.map fun i=>kz.getD i []).Pairwise (fun a b=>HT.lexLt b a=false)→Q (.ref p) (upd H p (.lst (ix.map fun i=>ks.getD i .non)))
theorem iR {α:Type} {l m:List α} (hl:l.length=m.length) (h:∀(j:Nat) (v:α),l[j]? = some v→m[j]? = some v):l=m:=by
 refine List.ext_getElem? fun i=>?_
 cases e:l[i]? with
 |some v=>rw[h i v e]
 |none=>
  have:l.length≤i:=List.getElem?_eq_none_iff.mp e
  exact (List.getElem?_eq_none_iff.mpr (by omega)).symm
theorem cn (hc:X.calm=true):bZ X (.builtin "sorted") (vn X.K):=by
 intro pins s σ H xs us Q I r h
 obtain⟨a,rfl,hd,k⟩:=h
 obtain⟨u,rfl,ru⟩:=Vals.one r
 cases ru
 obtain⟨lo,ks,vs,es,ep,dk,hz,dm,r1,r2⟩:=dview I hd
 obtain⟨m,F⟩:=I.fr
 have hl1:ks.length=es.size:=by have:=r1.length;simpa using this
 refine kdu_sorted (dSrc (es:=es) (ep:=ep) lo) (I.ok.hd hc) F (iP (g:=X.base) (L:=X.env.locals)) dm (by rw[←hl1];exact hz) fun D h' tk vs' F' N' hD hl hv=>?_
 obtain⟨k1,k2⟩:=I.newsKept (t':=s.toks) (more:=[(D,listOf vs'.toArray 0)]) F F' N'
 have nD:=N' (D,listOf vs'.toArray 0) (.head _)
 have hD0:s.heap.get? D=none:=by
  cases e:s.heap.get? D with
  |none=>rfl
  |some o=>exact absurd (hD (D,o) (eP nD.2.1 nD.2.2 e)) (Nat.lt_irrefl _)
 have ev:vs' = es.toList.map (·.key):=by
  refine iR (by rw[hl];simp) fun j v e=>?_
  obtain⟨hj,rfl⟩:=hv j v e
  rw[List.getElem?_map]
  simp[hj]
 have I':Inv X pins σ (upd H D (.lst ks)) {s with heap:=h',toks:=tk}:=I.laidN (t':=tk) k1 k2 hD0 (fun H'=>⟨hz,vs',0,by rw[ev];exact r1,nD.1⟩) (fun _ _ z=>by cases z)
 have z:=gH (X:=oF X) pins _ σ _ (.ref D) [] (.ref D) [] (fun _ H'=>Q (.ref D) H') I'.toIn1 rfl .nil (lr (I.hok.none_of hD0) (k ks vs dk))
 exact thn z fun _ s' ⟨_,H',J,_,q'⟩=>⟨.ref D,H',J.ofIn1,rfl,q'⟩
end
end L2
end
section
namespace L2
open PySem PySem.Spec PyProof.Rows PySem.W
section
variable {X:Cx}
def tK:V→List V→Hp→VK→Prop:=fun x vs H Q=>∃(l:Addr) (xs:List V) (i:Nat) (y:V),x=.ref l∧vs=[.int i,y]∧H l=some (.lst xs)∧i≤xs.length∧xs.length < sizeLine∧Q .non (upd H l (.lst (xs.take i++y::xs.drop i)))
theorem uf {i n:Nat} (hi:i≤n) (hz:n < sizeLine):¬(!Builtin.List.listFitsIndex (i:Int))=true:=by
 rw[sizeLine_eq] at hz
 have f:=fitsIndex_both (k:=(i:Int)) (by omega) (by omega)
 intro y
 rw[f] at y
 cases y
theorem re {prog:Program} {w:World} {A:Around} {E:Value→Shared→Prop} {s:Shared} {Q:Value→Shared→Prop} {l:Addr} {its:Array Value} {n:Nat} {i:Int} {t:Tok} {u2:Value} (hT:s.TypeIs (Value.ref l) "list") (hfit:¬(!Builtin.List.listFitsIndex i)=true) (hsz:its.size≤sizeLine)
  (e:s.heap.get? l=some {cls:=.type "list",data:=.seq its n})
  (h:Q .none {s with heap:=s.heap.update l (Obj.mapSeq fun xs=>(xs.extract 0 (if i < 0 then (i+(xs.size:Int)).toNat else min i.toNat xs.size)).push u2++xs.extract (if i < 0 then (i+(xs.size:Int)).toNat else min i.toNat xs.size))}) :
  wpAny (model prog w) A (call (Value.builtin "list.insert") [Value.ref l,Value.int i t,u2]) Q E s:=
 PySem.call_meets PySem.F.slot_list_insert hT PySem.F.entry_list_insert (PySem.F.args_list_insert_3 _ _ _) (PySem.AutoSeq1.list_insert_list_int_val_1 l its n i t u2 hfit hsz) ⟨e,h⟩
theorem gw:MtM X "list.insert" tK:=by
 intro pins s σ H x vs v us Q I rx rv h
 obtain⟨l,xs,i,y,rfl,rfl,hH,hi,hz,q⟩:=h
 cases rx
 obtain⟨u1,u2,rfl,r1,r2⟩:=rv.two
 obtain⟨t,rfl⟩:=r1
 obtain⟨z,its,n,r,hl,e⟩:=I.lstM hH
 have hfit:=uf hi hz
 have hsz:its.toArray.size≤sizeLine:=by rw[List.size_toArray,←hl];exact z
 refine re (s:=s) ⟨_,e,rfl⟩ hfit hsz e ?_
 refine⟨.non,_,I.lset (its':=its.take i++u2::its.drop i) hH e ?_ (Vals.append (r.take i) (.cons r2 (r.drop i))) ?_,rfl,q⟩
 ·have e1:(if (i:Int) < 0 then ((i:Int)+(its.toArray.size:Int)).toNat else min (i:Int).toNat its.toArray.size)=i:=by
   rw[if_neg (by omega),Int.toNat_natCast,List.size_toArray];omega
  show ((its.toArray.extract 0 _).push u2++its.toArray.extract _)=_
  rw[e1]
  have hd:(its.drop i).take (its.length - i)=its.drop i:=List.take_of_length_le (by rw[List.length_drop];exact Nat.le_refl _)
  simp[List.extract_eq_drop_take,hd]
 ·rw[List.length_append,List.length_cons,List.length_take,List.length_drop]
  omega
def wx (K:Frag):List V→Hp→VK→Prop:=fun xs H Q=>∃(a:Addr) (ns:List Int),xs=[.ref a]∧SqL K H a (ns.map V.int)∧ns≠[]∧∀m,m∈ns→(∀n∈ns,n≤m)→Q (.int m) H
theorem gZ {xs:List V} {us:List Value} (r:Vals xs us) {i:Nat} {v:Value} (e:us[i]? = some v):∃x,xs[i]? = some x∧RelV x v:=by
 have hl:=r.length
 have hi:i < xs.length:=by have:=(List.getElem?_eq_some_iff.mp e).1;omega
 obtain⟨u,e1,e2⟩:=r.get (i:=i) (x:=xs[i]) (by simp[hi])
 rw[e] at e1;cases e1
 exact⟨_,by simp[hi],e2⟩
theorem kU {ns:List Int} {us:List Value} (r:Vals (ns.map V.int) us) (i:Nat) (v:Value) (e:us.toArray[i]? = some v):∃t,v=.int (ns.getD i 0) t:=by
 obtain⟨x,e1,e2⟩:=gZ r (i:=i) (v:=v) (by simpa using e)
 rw[List.getElem?_map] at e1
 obtain⟨n,e3,rfl⟩:=Option.map_eq_some_iff.mp e1
 obtain⟨t,rfl⟩:=e2
 exact⟨t,by rw[List.getD,e3];rfl⟩
theorem dL (hc:X.calm=true):bZ X (.builtin "max") (wx X.K):=by
 intro pins s σ H xs us Q I r h
 obtain⟨a,ns,rfl,hq,hne,q⟩:=h
 obtain⟨u,rfl,ru⟩:=Vals.one r
 cases ru
 obtain⟨its,rv,p,hz⟩:=I.list hq
 obtain⟨m,F⟩:=I.fr
 refine max_list_N (I.ok.hd hc) F (iP (g:=X.base) (L:=X.env.locals)) p.isList (er rv) (List.length_pos_iff.mpr hne) fun h' M t tk F' N' h1 h2=>?_
 obtain⟨k1,k2⟩:=I.newsKept (t':=tk) (more:=[]) F F' N'
 exact⟨.int M,H,I.keptN (t':=tk) k1 k2,⟨t,rfl⟩,q M h1 h2⟩
def wv (K:Frag):List V→Hp→VK→Prop:=fun xs H Q=>∃(a:Addr) (ns:List Int),xs=[.ref a]∧SqT K H a (ns.map V.int)∧ns≠[]∧∀m,m∈ns→(∀n∈ns,m≤n)→Q (.int m) H
theorem mn (ns:List Int) (hne:ns≠[]):(ns.getD (argBest (fun i j=>decide (ns.getD i 0 < ns.getD j 0)) (ns.length - 1)) 0)∈ns∧∀n∈ns,ns.getD (argBest (fun i j=>decide (ns.getD i 0 < ns.getD j 0)) (ns.length - 1)) 0≤n:=by
 obtain⟨h1,h2⟩:=argBest_lt (fun i=>ns.getD i 0) (ns.length - 1)
 have hp:=List.length_pos_iff.mpr hne
 refine⟨?_,fun n hn=>?_⟩
 ·have hb:argBest (fun i j=>decide (ns.getD i 0 < ns.getD j 0)) (ns.length - 1) < ns.length:=by omega
  rw[List.getD,List.getElem?_eq_getElem hb]
  exact List.getElem_mem hb
 ·obtain⟨j,hj,rfl⟩:=List.getElem_of_mem hn
  have:=h2 j (by omega)
  have e:ns.getD j 0=ns[j]:=by simp[List.getD,hj]
  rw[e] at this
  exact this
theorem lb (hc:X.calm=true):bZ X (.builtin "min") (wv X.K):=by
 intro pins s σ H xs us Q I r h
 obtain⟨a,ns,rfl,hq,hne,q⟩:=h
 obtain⟨u,rfl,ru⟩:=Vals.one r
 cases ru
 obtain⟨its,rv,p,hz⟩:=I.tuple hq
 have ht:s.heap.IsTuple a its.toArray:=p
 have hl:=rv.length
 rw[List.length_map] at hl
 have hlt:a < s.heap.objs.size:=by obtain⟨_,e,_⟩:=p;exact Heap.lt_size e
 refine call_min_walk (wpAny_pyIter_tuple ht ?_)
 refine⟨s.heap.objs.size,_,_,_,_,_,_,rfl,Walks.tuple (A:=X.A.in1) (I.ok.hd hc) _ a (Nat.ne_of_lt hlt) its.toArray,⟨⟨_,Heap.get?_push_size _ rfl,rfl,rfl⟩,?_⟩,fun b hb=>?_,?_,CmpOf.ints_lt (fun i=>ns.getD i 0) (fun i v e=>kU rv i v e),fun v h' tk hP hk=>?_⟩
 ·obtain⟨o,e,r⟩:=ht
  exact⟨o,Heap.get?_push_of_some _ e,r⟩
 ·show b < (s.heap.push _).objs.size
  rw[Heap.size_push]
  rcases List.mem_cons.mp hb with rfl|hb
  ·exact Nat.lt_succ_self _
  ·rw[List.mem_singleton.mp hb];exact Nat.lt_succ_of_lt hlt
 ·rw[List.size_toArray,←hl];exact List.length_pos_iff.mpr hne
 ·obtain⟨t,rfl⟩:=kU rv _ v hP
  obtain⟨b1,b2⟩:=mn ns hne
  have e:its.toArray.size - 1=ns.length - 1:=by rw[List.size_toArray,hl]
  rw[e]
  exact⟨.int _,H,I.kept (t':=tk) fun b o e=>hk b o (fun z=>by rw[List.mem_singleton.mp z] at e;exact absurd (Heap.lt_size e) (Nat.lt_irrefl _)) (Heap.get?_push_of_some _ e),⟨t,rfl⟩,q _ b1 b2⟩
end
end L2
end
section
namespace L2
open PySem PySem.Spec PyProof.Rows
section
variable {X:Cx}
def tJ:List V→Hp→VK→Prop:=fun xs H Q=>∃j:Int,xs=[.int j]∧∀r,H r=none→Q (.ref r) (upd H r (.rng 0 j))
theorem jb:bZ X (.type "range") tJ:=by
 intro pins s σ H xs us Q I r h
 obtain⟨j,rfl,q⟩:=h
 obtain⟨u,rfl,t,rfl⟩:=Vals.one r
 refine call_range_1 ⟨.ref s.heap.objs.size,upd H s.heap.objs.size (.rng 0 j),I.laid (t':=s.toks+1+1) (fun b o e=>Heap.get?_push_of_some _ e) (Nat.le_refl _) ⟨_,_,_,Heap.get?_push_size _ rfl⟩,rfl,q _ (I.hok.fresh (Nat.le_refl _))⟩
def qo:List V→Hp→VK→Prop:=fun xs H Q=>∃(a:Addr) (n:Nat),xs=[.ref a]∧H a=some (.rng 0 (n:Int))∧n≤1000∧∀l,H l=none→Q (.ref l) (upd H l (.lst ((List.range n).map fun (i:Nat)=>V.int (i:Int))))
theorem ip {xs:List V} {us:List Value} (hl:us.length=xs.length) (h:∀(j:Nat) (v:Value),us[j]? = some v→∃x,xs[j]? = some x∧RelV x v):Vals xs us:=by
 induction xs generalizing us with
 |nil=>cases us with
  |nil=>exact .nil
  |cons _ _=>simp at hl
 |cons x xs ih=>cases us with
  |nil=>simp at hl
  |cons u us=>
   obtain⟨y,e,r⟩:=h 0 u rfl
   cases e
   exact .cons r (ih (by simpa using hl) fun j v e=>by simpa using h (j+1) v (by simpa using e))
theorem jm (hc:X.calm=true):bZ X (.type "list") qo:=by
 intro pins s σ H xs us Q I r h
 obtain⟨a,n,rfl,ha,hn,q⟩:=h
 obtain⟨u,rfl,ru⟩:=Vals.one r
 cases ru
 obtain⟨t1,t2,t3,e⟩:=(show aU X.prog X.w H s.heap a (.rng 0 (n:Int)) from I.hok a _ ha)
 have hr:IsRange s.heap a 0 (n:Int) 1 t1 t2 t3:=e
 have hsz:Builtin.Range.rangeSize 0 (n:Int) 1=(n:Nat):=by rw[rangeSize_one];split <;> omega
 refine call_list_range (I.ok.hd hc) hr (small_one (by omega) (by omega) (by omega) (by omega)) hsz (by omega) fun h' tk acc c kp e' it=>?_
 have hp:s.heap.objs.size≤s.heap.objs.size:=Nat.le_refl _
 refine⟨.ref s.heap.objs.size,upd H s.heap.objs.size (.lst ((List.range n).map fun (i:Nat)=>V.int (i:Int))),I.laid (t':=tk) kp hp ⟨by simp;rw[sizeLine_eq];omega,acc.toList,c,ip (by simp[it.1]) fun j v ej=>?_,by rw[e']⟩,rfl,q _ (I.hok.fresh hp)⟩
 obtain⟨tv,hv⟩:=it.2 j v (by simpa using ej)
 have hj:j < n:=by
  have:=(List.getElem?_eq_some_iff.mp ej).1
  rw[Array.length_toList,it.1] at this;exact this
 refine⟨.int (j:Int),by simp[hj],tv,?_⟩
 rw[hv]
 simp
def rAll (K:W.Frag):List V→Hp→VK→Prop:=fun xs H Q=>∃(a:Addr) (bs:List Bool),xs=[.ref a]∧SqL K H a (bs.map V.bl)∧Q (.bl (bs.all id)) H
theorem jn (hc:X.calm=true):bZ X (.builtin "all") (rAll X.K):=by
 intro pins s σ H xs us Q I r h
 obtain⟨a,bs,rfl,hq,q⟩:=h
 obtain⟨u,rfl,ru⟩:=Vals.one r
 cases ru
 obtain⟨its,rv,p,hz⟩:=I.list hq
 have hl:=rv.length
 rw[List.length_map] at hl
 have hil:=p.isList
 have hlt:a < s.heap.objs.size:=by obtain⟨_,e,_⟩:=hil;exact Heap.lt_size e
 refine call_all_walk (wpAny_pyIter_list hil ?_)
 refine⟨s.heap.objs.size,_,_,_,_,_,(fun i=>bs.getD i false),rfl,Walks.list (A:=X.A.in1) (I.ok.hd hc) _ a (Nat.ne_of_lt hlt) its.toArray,⟨⟨_,Heap.get?_push_size _ rfl,rfl,rfl⟩,hil.push _⟩,fun i v s' Q' E' hP hQ=>?_,fun h' tk hk=>?_⟩
 ·obtain⟨x,e1,e2⟩:=gZ rv (i:=i) (v:=v) (by simpa using hP)
  rw[List.getElem?_map] at e1
  obtain⟨b,e3,rfl⟩:=Option.map_eq_some_iff.mp e1
  cases e2
  have:bs.getD i false=b:=by rw[List.getD,e3];rfl
  dsimp only at hQ
  rw[this] at hQ
  exact wpAny_truthy_bool hQ
 ·have e:(List.range its.toArray.size).all (fun i=>bs.getD i false)=bs.all id:=by
   rw[List.size_toArray,←hl]
   have e2:bs=(List.range bs.length).map fun i=>bs.getD i false:=by
    refine List.ext_getElem (by simp) fun i h1 h2=>?_
    simp[h1]
   conv=>rhs;rw[e2,List.all_map]
   rfl
  rw[e]
  exact⟨.bl _,H,I.kept (t':=tk) fun b o e=>hk b o (fun z=>by rw[List.mem_singleton.mp z] at e;exact absurd (Heap.lt_size e) (Nat.lt_irrefl _)) (Heap.get?_push_of_some _ e),rfl,q⟩
def oX:List V→Hp→VK→Prop:=fun xs H Q=>∃(a:Addr) (kvs:List (Key × V)),xs=[.ref a]∧Rd H a (.dK kvs)∧∀p,H p=none→Q (.ref p) (upd H p (.dK kvs))
theorem jd:bZ X (.type "dict") oX:=by
 intro pins s σ H xs us Q I r h
 obtain⟨a,kvs,rfl,ha,q⟩:=h
 obtain⟨u,rfl,ru⟩:=Vals.one r
 cases ru
 exact rX I ha fun p s' hp I'=>⟨.ref p,_,I',rfl,q p hp⟩
end
end L2
end
section
namespace L2
open PySem PySem.Spec PyProof.Rows
mutual
inductive Dt (K:W.Frag) (H:Hp):V→PyData→Prop
 |non:Dt K H .non .none
 |bl (b:Bool):Dt K H (.bl b) (.bool b)
 |int (i:Int):Dt K H (.int i) (.int i)
 |str (x:Str) (h:(PyData.str x).canLay0=true):Dt K H (.str x) (.str x)
 |lst {a:Addr} {xs:List V} {ds:List PyData} (h:SqL K H a xs) (r:Dts K H xs ds):Dt K H (.ref a) (.list ds)
 |tup {a:Addr} {xs:List V} {ds:List PyData} (h:SqT K H a xs) (r:Dts K H xs ds):Dt K H (.ref a) (.tuple ds)
inductive Dts (K:W.Frag) (H:Hp):List V→List PyData→Prop
 |nil:Dts K H [] []
 |cons {x:V} {d:PyData} {xs:List V} {ds:List PyData} (h:Dt K H x d) (r:Dts K H xs ds):Dts K H (x::xs) (d::ds)
end
section
variable {X:Cx} {pins:List (Addr × Obj)} {σ:St} {H H':Hp} {s:Shared}
mutual
theorem Dt.reads (I:Inv X pins σ H s):∀(d:PyData) (v:V) (u:Value),Dt X.K H v d→RelV v u→∃as,Reads s.heap u d as
 | .none,_,_,.non,r=>by cases r;exact⟨_,.none⟩
 | .bool b,_,_,.bl _,r=>by cases r;exact⟨_,.bool b⟩
 | .int i,_,_,.int _,r=>by obtain⟨t,rfl⟩:=r;exact⟨_,.int i t⟩
 | .str x,_,_,.str _ _,r=>by obtain⟨t,rfl⟩:=r;exact⟨_,.str x t⟩
 | .list ds,_,_,.lst h hs,r=>by
  cases r
  obtain⟨its,rv,⟨o,n,e,c,_,dd⟩,_⟩:=I.list h
  obtain⟨as,q⟩:=Dts.reads I ds _ _ hs rv
  exact⟨_,.list e c dd (by simpa using q)⟩
 | .tuple ds,_,_,.tup h hs,r=>by
  cases r
  obtain⟨its,rv,⟨o,e,c,n,dd⟩,_⟩:=I.tuple h
  obtain⟨as,q⟩:=Dts.reads I ds _ _ hs rv
  exact⟨_,.tuple e c dd (by simpa using q)⟩
 | .dict _,_,_,h,_=>nomatch h
theorem Dts.reads (I:Inv X pins σ H s):∀(ds:List PyData) (xs:List V) (us:List Value),Dts X.K H xs ds→Vals xs us→∃as,ReadsAll s.heap us ds as
 | [],_,_,.nil,r=>by cases r;exact⟨_,.nil⟩
 |d::ds,_,_,.cons h hs,r=>by
  cases r with
  |cons r rs=>
   obtain⟨as,q⟩:=Dt.reads I d _ _ h r
   obtain⟨bs,p⟩:=Dts.reads I ds _ _ hs rs
   exact⟨_,.cons q p⟩
end
mutual
theorem Dt.can {K:W.Frag}:∀(d:PyData) (v:V),Dt K H v d→d.canLay0=true
 | .none,_,_=>rfl
 | .bool b,_,_=>rfl
 | .int i,_,_=>rfl
 | .str x,_,.str _ h=>h
 | .list ds,_,.lst _ hs=>Dts.can ds _ hs
 | .tuple ds,_,.tup _ hs=>Dts.can ds _ hs
 | .dict _,_,h=>nomatch h
theorem Dts.can {K:W.Frag}:∀(ds:List PyData) (xs:List V),Dts K H xs ds→PyData.canLayAll0 ds=true
 | [],_,_=>rfl
 |d::ds,_,.cons h hs=>by rw[PyData.canLayAll0,Dt.can d _ h,Dts.can ds _ hs];rfl
end
mutual
def noBl:PyData→Bool
 | .bool _=>false
 | .list ds=>cm ds
 | .tuple ds=>cm ds
 | .dict _=>false
 |_=>true
def cm:List PyData→Bool
 | []=>true
 |d::ds=>noBl d&&cm ds
end
mutual
theorem fX:∀(d e:PyData),noBl d=true→noBl e=true→(PyData.eqv d e=true↔d=e)
 | .none,e,_,h=>by cases e <;> simp[PyData.eqv]
 | .bool b,_,h,_=>nomatch h
 | .int i,e,_,h=>by
  cases e with
  |bool _=>exact nomatch h
  |_=>simp[PyData.eqv]
 | .str i,e,_,h=>by
  cases e with
  |bool _=>exact nomatch h
  |_=>simp[PyData.eqv]
 | .list xs,e,h1,h=>by
  cases e with
  |list ys=>rw[PyData.eqv,fC xs ys h1 h];simp
  |_=>simp[PyData.eqv]
 | .tuple xs,e,h1,h=>by
  cases e with
  |tuple ys=>rw[PyData.eqv,fC xs ys h1 h];simp
  |_=>simp[PyData.eqv]
 | .dict _,_,h,_=>nomatch h
theorem fC:∀(ds es:List PyData),cm ds=true→cm es=true→(PyData.eqvAll ds es=true↔ds=es)
 | [],[],_,_=>by simp[PyData.eqvAll]
 | [],_::_,_,_=>by simp[PyData.eqvAll]
 |_::_,[],_,_=>by simp[PyData.eqvAll]
 |d::ds,e::es,h1,h2=>by
  have a1:noBl d=true∧cm ds=true:=by simpa [cm] using h1
  have a2:noBl e=true∧cm es=true:=by simpa [cm] using h2
  rw[PyData.eqvAll,Bool.and_eq_true,fX d e a1.1 a2.1,fC ds es a1.2 a2.2]
  simp
end
def rEqD (K:W.Frag) (neg:Bool):R2:=fun x y H Q=>∃d e:PyData,Dt K H x d∧Dt K H y e∧d.depth≤60∧Q (.bl (if neg then !PyData.eqv d e else PyData.eqv d e)) H
theorem min60 {u a b:Nat} (h:u+64 < cLine) (h':a≤60):u+min a b < cLine:=by
 have:min a b≤a:=Nat.min_le_left _ _
 omega
theorem vz (hu:X.A.units+64 < cLine):OpR X (compareOp .Eq) (rEqD X.K false):=by
 intro pins s σ H x y v u Q I rx ry h
 obtain⟨d,e,hd,he,hz,q⟩:=h
 obtain⟨as,ra⟩:=Dt.reads I d x v hd rx
 obtain⟨bs,rb⟩:=Dt.reads I e y u he ry
 exact PySem.SeqAt.compareEq_reads ra rb (Dt.can d x hd) (Dt.can e y he) (min60 hu hz) ⟨.bl _,H,I,rfl,q⟩
theorem kJ (hu:X.A.units+64 < cLine):OpR X (compareOp .NotEq) (rEqD X.K true):=by
 intro pins s σ H x y v u Q I rx ry h
 obtain⟨d,e,hd,he,hz,q⟩:=h
 obtain⟨as,ra⟩:=Dt.reads I d x v hd rx
 obtain⟨bs,rb⟩:=Dt.reads I e y u he ry
 exact PySem.SeqAt.compareNe_reads ra rb (Dt.can d x hd) (Dt.can e y he) (min60 hu hz) ⟨.bl _,H,I,rfl,q⟩
def rInD (K:W.Frag) (neg:Bool):R2:=fun x y H Q=>∃(d:PyData) (a:Addr) (xs:List V) (ds:List PyData),Dt K H x d∧y=.ref a∧(SqL K H a xs∨SqT K H a xs)∧Dts K H xs ds∧d.depth≤60 ∧
 Q (.bl (if neg then !(ds.any fun z=>PyData.eqv z d) else ds.any fun z=>PyData.eqv z d)) H
theorem min61 {u a b:Nat} (h:u+64 < cLine) (h':b≤60):u+1+min a b < cLine:=by
 have:min a b≤b:=Nat.min_le_right _ _
 omega
theorem qC (hu:X.A.units+64 < cLine):OpR X (compareOp .In) (rInD X.K false):=by
 intro pins s σ H x y v u Q I rx ry h
 obtain⟨d,a,xs,ds,hd,rfl,hq,hs,hz,q⟩:=h
 cases ry
 obtain⟨as,ra⟩:=Dt.reads I d x v hd rx
 rcases hq with hq|hq
 ·obtain⟨bs,rb⟩:=Dt.reads I (.list ds) (.ref a) _ (.lst hq hs) rfl
  exact PySem.SeqAt.in_list_reads rb ra (Dts.can ds _ hs) (Dt.can d x hd) (min61 hu hz) ⟨.bl _,H,I,rfl,q⟩
 ·obtain⟨bs,rb⟩:=Dt.reads I (.tuple ds) (.ref a) _ (.tup hq hs) rfl
  exact PySem.SeqAt.in_tuple_reads rb ra (Dts.can ds _ hs) (Dt.can d x hd) (min61 hu hz) ⟨.bl _,H,I,rfl,q⟩
end
end L2
end
section
namespace L2
open PySem PySem.Spec PyProof.Rows
section
variable {X:Cx} {pins:List (Addr × Obj)} {σ:St} {H:Hp} {s:Shared}
theorem Inv.turnLaid {h':Heap} {t':Nat} {a:Addr} {o:HO} {ch:List Addr} (I:Inv X pins σ H s) (hch:∀b∈ch,FpOk X pins H b) (k:∀b o,b∉ch→s.heap.get? b=some o→h'.get? b=some o)
  (ha:s.heap.get? a=none) (new:∀H',aU X.prog X.w H' h' a o):Inv X pins σ (upd H a o) {s with heap:=h',toks:=t'}:=by
 have hn:H a=none:=I.hok.none_of ha
 have nch:∀b u,H b=some u→b∉ch:=fun b u e z=>by
  have:=(hch b z).1
  rw[this] at e;cases e
 refine I.step (g':=s.gens) (d':=s.drawn) (ch:=ch) (fun b hb=>?_) (fun b o _ _ hc e _=>k b o hc e) (fun b o _ _ hc e _=>⟨o.slots,k b o hc e⟩) (fun b o _ e n=>?_) (fun b o hc e=>⟨o,k b o hc e⟩) (fun b xs e=>?_) (fun b o u e=>?_) (fun b ps e=>⟨#[],?_⟩) (fun m hm=>?_) (fun b u e=>?_) I.bare
 ·obtain⟨_,f1,_,f3,f4,f5⟩:=hch b hb
  exact⟨f3,f1,f4,f5⟩
 ·rw[au (fun z=>by rw[z,ha] at e;cases e)];exact n
 ·rw[au (ag e hn)];exact e
 ·rw[au (ag e hn)];exact e
 ·rw[au (ag e hn),e];simp
 ·obtain⟨o,es,ep,ho,r⟩:=hm
  exact⟨o,es,ep,k _ o (fun z=>(hch _ z).2.1 rfl) ho,r⟩
 ·by_cases hb:b=a
  ·subst hb;rw[ao] at e;cases e;exact new _
  ·rw[au hb] at e
   refine (I.hok b u e).stay (fun c v hc q=>k c v ?_ q) (fun c q=>by rw[au (ag q hn)];exact q) fun c xs q=>by rw[au (ag q hn)];exact q
   rcases hc with z|z
   ·rw[z];exact nch b u e
   ·exact nch c _ z
end
def Ite (K:W.Frag) (a:Addr):It:=
 ⟨fun i H=>∃xs x,SqL K H a xs∧xs[i]? = some x,
  fun i H v H'=>∃p x,H p=none∧v=.ref p∧H' = upd H p (.tup [.int (i:Int),x])∧∀xs,SqL K H a xs→xs[i]? = some x,
  fun i H=>∃xs,SqL K H a xs∧xs.length≤i⟩
theorem oS {P:Program} {w:World} {K:W.Frag} {elts:List Expr} {x1} {pos:Pos} (a it e:Addr) (hne:e≠it) :
  Turn P w K (.Tuple elts x1 pos) (Ite K a) [e,it] e (fun i h=>(∃old,IsEnum h e it (i:Int) old)∧h.IsListIter it a i) where
 mem:=by simp
 obj:=fun i h st b hb=>by
  obtain⟨⟨old,st1⟩,o,e2,c,d⟩:=st
  rcases List.mem_cons.mp hb with z|z
  ·subst z
   exact⟨_,st1,fun v z=>by
    have z':Data.fields _=Data.cell v:=z
    cases z'⟩
  ·have z:b=it:=by simpa using z
   subst z
   exact⟨o,e2,fun v z=>by rw[d] at z;cases z⟩
 keep:=fun i h h' st k=>by
  obtain⟨⟨old,st1⟩,st2⟩:=st
  exact⟨⟨old,k e (by simp) _ st1⟩,st2.at fun o q=>k it (by simp) o q⟩
 item:=by
  intro X hP hw hK hc i pins s σ H E I hf st hg
  subst hP hw hK
  obtain⟨xs,x,hq,hx⟩:=hg
  obtain⟨⟨old,st1⟩,st2⟩:=st
  obtain⟨its,rv,p,hz⟩:=I.list hq
  obtain⟨u,hu,ru⟩:=rv.get hx
  refine wpAny_pyNext_enum_item st1 st2 p.isList (x:=u) (by simpa using hu) hne fun h1 heo hit1 ht1 hz1 hk1=>?_
  refine⟨_,rfl,?_⟩
  refine wpAny_letOwnedTupleGo_enum heo fun h2 he2 hs2=>?_
  replace hs2:Heap.SameBut e h1 h2:=hs2
  have hfr:s.heap.get? s.heap.objs.size=none:=Heap.get?_none_of_le (Nat.le_refl _)
  have hee:e < s.heap.objs.size:=Heap.lt_size st1
  have hit2:it < s.heap.objs.size:=by obtain⟨_,q,_⟩:=st2;exact Heap.lt_size q
  have hn:H s.heap.objs.size=none:=I.hok.fresh (Nat.le_refl _)
  have ht2:h2.get? s.heap.objs.size=some {cls:=.type "tuple",data:=.seq #[.int i s.toks,u]}:=(hs2.2 _ (Nat.ne_of_gt hee)).trans ht1
  have I2:Inv X pins σ (upd H s.heap.objs.size (.tup [.int (i:Int),x])) {s with heap:=h2,toks:=s.toks+1}:=by
   refine I.turnLaid (ch:=[e,it]) hf (fun b o hb q=>?_) hfr fun H'=>?_
   ·have hb1:b≠e:=fun z=>hb (by simp[z])
    have hb2:b≠it:=fun z=>hb (by simp[z])
    exact (hs2.2 b hb1).trans (hk1 b o hb1 hb2 q)
   ·exact⟨⟨by simp;rw[sizeLine_eq];omega,_,ht2,rfl⟩,[.int i s.toks,u],.cons ⟨_,rfl⟩ (.cons ru .nil),⟨_,ht2,rfl,_,rfl⟩⟩
  refine⟨.ref s.heap.objs.size,_,I2,rfl,⟨s.heap.objs.size,x,hn,rfl,rfl,fun ys hy=>by rw[I.list_inj hy hq];exact hx⟩,⟨⟨_,he2⟩,?_⟩,fun b hb=>?_⟩
  ·obtain⟨o,q1,q2⟩:=hit1
   exact⟨o,(hs2.2 it (Ne.symm hne)).trans q1,q2⟩
  ·have:b≠s.heap.objs.size:=by
    rcases List.mem_cons.mp hb with z|z
    ·rw[z];exact Nat.ne_of_lt hee
    ·rw[(by simpa using z:b=it)];exact Nat.ne_of_lt hit2
   rw[au this]
   exact (hf b hb).1
 done:=by
  intro X hP hw hK hc i pins s σ H E I hf st hg
  subst hP hw hK
  obtain⟨xs,hq,hx⟩:=hg
  obtain⟨⟨old,st1⟩,st2⟩:=st
  obtain⟨its,rv,p,hz⟩:=I.list hq
  obtain⟨f0,f1,f2,f3,f4,f5⟩:=hf it (by simp)
  have hl:=rv.length
  exact wpAny_pyNext_enum_end (I.ok.hd hc) st1 st2 p.isList (by simp;omega) fun h' eb=>⟨rfl,I.turned (t':=s.toks) (fun b o hb q=>eb b o hb q) f0 f1 f3 f4 f5⟩
 self:=fun _ _ _ _ _ st h=>by
  obtain⟨⟨old,st1⟩,_⟩:=st
  exact wpAny_pyIter_enum st1 h
section
variable {X:Cx}
def wI (K:W.Frag) (ta:TA):TI:=fun σ H R=>ta σ H fun vs H1=>∃(a:Addr) (xs:List V),vs=[.ref a]∧SqL K H1 a xs∧R (Ite K a) H1
theorem ku {elts:List Expr} {x1} {tpos:Pos} {a:Expr} {ta:TA} {p pos:Pos} (hg:Gl X "enumerate") (hm:X.mg "enumerate" = none) (ha:PA X [a] ta) (hs:starEach [a] X.env=[(false,eval a X.env)]:=by rfl) :
  PI X (.Tuple elts x1 tpos) (.Call (.Name "enumerate" p) [a] [] pos) (wI X.K ta):=by
 intro pins s σ H R I h
 refine Call_ (iU I hg hm boot_enumerate (PyProof.Rows.callWith_type1 (thn (ha pos pins s σ H _ I h) fun us s1 ⟨vs,H1,I1,r1,q1⟩=>?_) hs rfl))
 obtain⟨a,xs,e,hq,q⟩:=q1
 subst e
 obtain⟨u,rfl,ru⟩:=Vals.one r1
 cases ru
 obtain⟨its,rv,pl,hz⟩:=I1.list hq
 refine call_enumerate_list pl.isList fun h' he hi hsz hk=>?_
 refine wpAny_pyIter_enum he ?_
 have I2:Inv X pins σ H1 {s1 with heap:=h'}:=I1.kept (t':=s1.toks) hk
 refine⟨_,[s1.heap.objs.size+1,s1.heap.objs.size],_,_,H1,rfl,I2,oS a _ _ (Nat.succ_ne_self _),⟨⟨.none,he⟩,hi⟩,fun b hb=>?_,q⟩
 have hb':s1.heap.objs.size≤b:=by
  rcases List.mem_cons.mp hb with z|z
  ·rw[z];exact Nat.le_succ _
  ·have:b=s1.heap.objs.size:=by simpa using z
   exact Nat.le_of_eq this.symm
 exact I1.fpOk hb' (I1.hok.fresh hb')
end
end L2
end
section
namespace L2
open PySem PySem.Spec PyProof.Rows PySem.W
section
variable {prog:Program} {w:World} {A:Around} {E:Value→Shared→Prop} {s:Shared} {d it v:Addr} {es:Array DictEntry} {ep i:Nat}
theorem v8 {Q:Value→Shared→Prop} (hv:s.heap.IsItemsView v d) (m:DAt s.heap d es ep)
  (q:Q (.ref s.heap.objs.size) {s with heap:=s.heap.push {cls:=.type "dict_itemiterator",data:=.fields #[.none,.bool false,.ref d,.int 0 0,.int es.size 0,.int ep 0,.none,.none]}}):wpAny (model prog w) A (pyIter (.ref v)) Q E s:=by
 obtain⟨o1,e1,_,d1⟩:=id hv
 obtain⟨o,eo,_,ed⟩:=id m
 refine wpAny_pyIter_slot hv.typeIs PySem.F.slot_dict_items_iter (wpAny_call_entry PySem.F.slot_dict_items_iter hv.typeIs PySem.F.entry_dict_items_iter ?_ (PySem.F.args_dict_items_iter_1 _))
 unfold Builtin.«dict_items.__iter__» Builtin.Dict_items.dictOf Builtin.Dict_items.newIterator
 refine wpAny_bind (wpAny_pure (wpAny_bind (wpAny_bind (wpAny_field e1 d1 (x:=.ref d) rfl (wpAny_pure (wpAny_bind (wpAny_bind (wpAny_dictEntries eo ed (wpAny_bind (wpAny_dictEpoch eo ed ?_))))))))))
 simp only[show Builtin.Dict_items.ownsTuple "dict_itemiterator" = true by decide,if_true]
 refine wpAny_newObj_type (wpAny_pure ⟨_,rfl,"dict_itemiterator",_,⟨_,Heap.get?_push_size _ rfl,rfl⟩,PySem.F.slot_dict_itemiterator_next.lookup,by simpa [rawInt,Builtin.Dict_items.ownedTupleFields] using q⟩)
  (by simp only[sizeOk,Builtin.Dict_items.ownedTupleFields,List.size_toArray,List.length_append,List.length_cons,List.length_nil];rw[sizeLine_eq];omega)
theorem vZ {x y:Value} {Q:Option Value→Shared→Prop} (hit:IsItemIter s.heap it d i es.size ep x y) (m:DAt s.heap d es ep) (hi:i < es.size)
  (q:∀h',IsItemIterOut h' it d (i+1) es.size ep es[i].key es[i].val s.heap.objs.size→h'.get? s.heap.objs.size=some {cls:=.type "tuple",data:=.seq #[es[i].key,es[i].val]} →
   (∀b o,b≠it→s.heap.get? b=some o→h'.get? b=some o)→Q (some (.ref s.heap.objs.size)) {s with heap:=h'}):wpAny (model prog w) A (pyNext (.ref it)) Q E s:=by
 obtain⟨hp,g,dr,tk,os⟩:=s
 obtain⟨od,eo,_,ed⟩:=id m
 have ty:Shared.TypeIs ⟨hp,g,dr,tk,os⟩ (.ref it) "dict_itemiterator":=⟨_,hit,rfl⟩
 unfold pyNext
 refine wpAny_bind (wpAny_attempt (wpAny_callSpecial?_slot (name:=Str.ofString "__next__") ty PySem.F.slot_dict_itemiterator_next (wpAny_call_entry PySem.F.slot_dict_itemiterator_next ty PySem.F.entry_dict_itemiterator_next ?tree (PySem.F.args_dict_itemiterator_next_1 _))))
 refine wpAny_bind (wpAny_pure (wpAny_bind (wpAny_bind ?_)))
 first|refine wpAny_bind (wpAny_typeNameOfWhole_itemiter ty (wpAny_pure (wpAny_bind (wpAny_fieldsOf hit rfl ?_))))|refine wpAny_bind (wpAny_typeNameOf_itemiter ty (wpAny_pure (wpAny_bind (wpAny_fieldsOf hit rfl ?_))))
 simp only[show Builtin.Dict_items.ownsTuple "dict_itemiterator" = true by decide,if_true]
 refine (show wpAny _ _ (if (Value.ref d==Value.none)=true then _ else _) _ _ _ from ?_);rw[if_neg (show ¬(Value.ref d==Value.none)=true from Bool.false_ne_true)]
 refine wpAny_bind (wpAny_pure (wpAny_bind (wpAny_dictEntries eo ed ?_)));rw[if_neg (by simp)]
 refine wpAny_bind (wpAny_pure (wpAny_bind (wpAny_dictEpoch eo ed ?_)));rw[if_neg (by simp)]
 refine wpAny_pure ?_
 simp only[show ¬((i:Int) < 0) by omega,if_false,Int.toNat_natCast,Array.getElem?_eq_getElem hi]
 refine wpAny_bind ?_
 first|refine wpAny_bind (wpAny_typeNameOfWhole_itemiter ty (wpAny_pure (wpAny_bind (wpAny_isOneOf_itemiter ty ?_))))|refine wpAny_bind (wpAny_typeNameOf_itemiter ty (wpAny_pure (wpAny_bind (wpAny_isOneOf_itemiter ty ?_))))
 refine (show wpAny _ _ (setField (.ref it) 3 (rawInt ((i:Int)+1)) >>= _) _ _ ⟨hp,g,dr,tk,os⟩ from wpAny_bind (wpAny_setField_rec hit (by simp) fun h1 r1 b1=>?_))
 replace b1:Heap.SameBut it hp h1:=b1
 replace r1:IsItemIter h1 it d (i+1) es.size ep x y:=by
  unfold IsItemIter;rw[show ((i+1:Nat):Int)=(i:Int)+1 by omega];simpa [rawInt] using r1
 have ty1:Shared.TypeIs ⟨h1,g,dr,tk,os⟩ (.ref it) "dict_itemiterator":=⟨_,r1,rfl⟩
 refine wpAny_bind (wpAny_holding (wpAny_bind (wpAny_isOneOf_itemiter ty1 (wpAny_bind (wpAny_isOneOf_itemiter ty1 ?_)))))
 refine (show wpAny _ _ (Builtin.Dict_items.pairFromOwner (.ref it) 6 es[i].key es[i].val) _ _ ⟨h1,g,dr,tk,os⟩ from ?_)
 unfold Builtin.Dict_items.pairFromOwner
 refine wpAny_bind (wpAny_newTuple ?_)
 have z1:h1.objs.size=hp.objs.size:=b1.1
 have lt:it < hp.objs.size:=Heap.lt_size hit
 have ne:hp.objs.size≠it:=Nat.ne_of_gt lt
 obtain⟨h2,r2,t2,k2,eh⟩:∃h2:Heap,IsItemIter h2 it d (i+1) es.size ep x y∧h2.get? hp.objs.size=some {cls:=.type "tuple",data:=.seq #[es[i].key,es[i].val]}∧(∀b o,b≠it→hp.get? b=some o→h2.get? b=some o) ∧
   h1.push {cls:=.type "tuple",data:=.seq #[es[i].key,es[i].val]}=h2:=
  ⟨_,Heap.get?_push_of_some _ r1,by rw[←z1];exact Heap.get?_push_size _ rfl,fun b o hb e=>Heap.get?_push_of_some _ (b1.extBut b o hb e),rfl⟩
 refine (show wpAny _ _ (Builtin.Dict_items.ownedTupleIsFree (.ref it) >>= _) _ _ ⟨h1.push {cls:=.type "tuple",data:=.seq #[es[i].key,es[i].val]},g,dr,tk,os⟩ from ?_)
 rw[z1,eh]
 unfold Builtin.Dict_items.ownedTupleIsFree
 refine wpAny_bind (wpAny_bind (wpAny_field r2 rfl (x:=.none) rfl (wpAny_pure ?_)))
 simp only[if_true]
 refine wpAny_bind (wpAny_field r2 rfl (x:=x) rfl (wpAny_bind (wpAny_field r2 rfl (x:=y) rfl (wpAny_bind (wpAny_setField_rec r2 (by simp) fun h3 r3 b3=>?_)))))
 replace b3:Heap.SameBut it h2 h3:=b3
 replace r3:IsItemIter h3 it d (i+1) es.size ep es[i].key y:=r3
 refine wpAny_bind (wpAny_setField_rec r3 (by simp) fun h4 r4 b4=>?_)
 replace b4:Heap.SameBut it h3 h4:=b4
 replace r4:IsItemIter h4 it d (i+1) es.size ep es[i].key es[i].val:=r4
 refine wpAny_bind (wpAny_setField_rec r4 (by simp) fun h5 r5 b5=>?_)
 replace b5:Heap.SameBut it h4 h5:=b5
 replace r5:IsItemIterOut h5 it d (i+1) es.size ep es[i].key es[i].val hp.objs.size:=r5
 refine wpAny_bind (wpAny_setField_rec r5 (by simp) fun h6 r6 b6=>?_)
 replace b6:Heap.SameBut it h5 h6:=b6
 replace r6:IsItemIterOut h6 it d (i+1) es.size ep es[i].key es[i].val hp.objs.size:=r6
 have up:∀b o,b≠it→h2.get? b=some o→h6.get? b=some o:=fun b o hb e=>b6.extBut b o hb (b5.extBut b o hb (b4.extBut b o hb (b3.extBut b o hb e)))
 exact wpAny_bind (wpAny_letGo (wpAny_pure (wpAny_pure ⟨_,rfl,wpAny_pure (q h6 r6 (up _ _ ne t2) fun b o hb e=>up b o hb (k2 b o hb e))⟩)))
theorem wM {x y:Value} {Q:Option Value→Shared→Prop} (hh:A.handled=none) (hit:IsItemIter s.heap it d i es.size ep x y) (m:DAt s.heap d es ep) (hi:es.size≤i)
  (q:∀h',Heap.ExtBut it s.heap h'→Q none {s with heap:=h'}):wpAny (model prog w) A (pyNext (.ref it)) Q E s:=by
 obtain⟨od,eo,_,ed⟩:=id m
 have ty:s.TypeIs (.ref it) "dict_itemiterator":=⟨_,hit,rfl⟩
 unfold pyNext
 refine wpAny_bind (wpAny_attempt (wpAny_callSpecial?_slot (name:=Str.ofString "__next__") ty PySem.F.slot_dict_itemiterator_next (wpAny_call_entry PySem.F.slot_dict_itemiterator_next ty PySem.F.entry_dict_itemiterator_next ?tree (PySem.F.args_dict_itemiterator_next_1 _))))
 refine wpAny_bind (wpAny_pure (wpAny_bind (wpAny_bind ?_)))
 first|refine wpAny_bind (wpAny_typeNameOfWhole_itemiter ty (wpAny_pure (wpAny_bind (wpAny_fieldsOf hit rfl ?_))))|refine wpAny_bind (wpAny_typeNameOf_itemiter ty (wpAny_pure (wpAny_bind (wpAny_fieldsOf hit rfl ?_))))
 simp only[show Builtin.Dict_items.ownsTuple "dict_itemiterator" = true by decide,if_true]
 refine (show wpAny _ _ (if (Value.ref d==Value.none)=true then _ else _) _ _ s from ?_);rw[if_neg (show ¬(Value.ref d==Value.none)=true from Bool.false_ne_true)]
 refine wpAny_bind (wpAny_pure (wpAny_bind (wpAny_dictEntries eo ed ?_)));rw[if_neg (by simp)]
 refine wpAny_bind (wpAny_pure (wpAny_bind (wpAny_dictEpoch eo ed ?_)));rw[if_neg (by simp)]
 refine wpAny_pure ?_
 simp only[show ¬((i:Int) < 0) by omega,if_false,Int.toNat_natCast,Array.getElem?_eq_none hi]
 refine wpAny_bind ?_
 first|refine wpAny_bind (wpAny_typeNameOfWhole_itemiter ty (wpAny_pure ?_))|refine wpAny_bind (wpAny_typeNameOf_itemiter ty (wpAny_pure ?_))
 refine (show wpAny _ _ (setField (.ref it) 2 .none >>= _) _ _ s from wpAny_bind (wpAny_setField hit rfl (by simp) ?_))
 refine (show wpAny _ _ (newExc (.type "StopIteration") [] >>= _) _ _ _ from wpAny_bind ?_)
 simp only[newExc,newTuple]
 refine wpAny_bind (wpAny_newObj_type (wpAny_bind (m:=firstArgMember _ _) (wpAny_of_eq (a:=Value.none) (by first|rfl|(simp only[firstArgMember];rfl)) (wpAny_newObj_type ?_ (by size_fits)))) (by size_fits))
 simp only[raiseNew]
 refine wpAny_bind (wpAny_handled ?_);rw[show A.in1.handled=none from hh]
 refine wpAny_bind (wpAny_pure (wpAny_throw ?_))
 refine wpAny_bind (wpAny_isInstance (b:=true) (T:="StopIteration") ⟨_,Heap.get?_push_size _ rfl,rfl⟩ isSubtype_stop ?_)
 exact wpAny_pure (q _ (((Heap.SameBut.update ..).extBut.push _).push _))
end
section
variable {X:Cx} {pins:List (Addr × Obj)} {σ:St} {H:Hp} {s:Shared} {d:Addr} {u:HO}
def IsDO:HO→Prop
 | .dK _=>True
 | .dT _=>True
 |_=>False
theorem IsDO.notT {u:HO} (h:IsDO u):(∀xs,u≠.tup xs)∧(∀o v,u≠.frz o v)∧(∀ps,u≠.tbl ps)∧∀y,u≠.own y:=by
 cases u <;> first|exact False.elim h|exact⟨fun _ z=>(nomatch z),fun _ _ z=>(nomatch z),fun _ z=>(nomatch z),fun _ z=>(nomatch z)⟩
theorem Inv.freeze (I:Inv X pins σ H s) (hd:H d=some u) (hu:IsDO u) {o:Obj} (ho:s.heap.get? d=some o):Inv X pins σ (upd H d (.frz o u)) s:=by
 obtain⟨n1,n2,n3,n4⟩:=hu.notT
 have ne:∀{b v},H b=some v→v≠u→b≠d:=fun e z y=>z (by rw[y,hd] at e;exact (Option.some.inj e).symm)
 refine I.step (h':=s.heap) (g':=s.gens) (d':=s.drawn) (t':=s.toks) (ch:=[]) (fun _ z=>nomatch z) (fun b o _ _ _ e _=>e) (fun b o _ _ _ e _=>⟨o.slots,e⟩) (fun b o _ _ n=>?_) (fun b o _ e=>⟨o,e⟩) (fun b xs e=>?_) (fun b o v e=>?_) (fun b ps e=>⟨#[],?_⟩) (fun _ m=>m) (fun b v e=>?_) I.bare
 ·rw[au (fun z=>by rw[z,hd] at n;cases n)];exact n
 ·rw[au (ne e fun z=>n1 xs z.symm)];exact e
 ·rw[au (ne e fun z=>n2 o v z.symm)];exact e
 ·rw[au (ne e fun z=>n3 ps z.symm),e];simp
 ·have st:∀{b v},aU X.prog X.w H s.heap b v→aU X.prog X.w (upd H d (.frz o u)) s.heap b v:=fun x=>
   x.stay (fun _ _ _ q=>q) (fun c q=>by rw[au (ne q fun z=>n4 _ z.symm)];exact q) fun c xs q=>by rw[au (ne q fun z=>n1 xs z.symm)];exact q
  by_cases hb:b=d
  ·subst hb;rw[ao] at e;cases e;exact⟨ho,st (I.hok _ _ hd)⟩
  ·rw[au hb] at e
   exact st (I.hok b v e)
def Fz (H H2:Hp) (d:Addr) (o:Obj) (u:HO):Prop:=(H d=some u∨H d=some (.frz o u))∧IsDO u∧H2=upd H d (.frz o u)
theorem Fz.at {H2:Hp} {o:Obj} (f:Fz H H2 d o u):H2 d=some (.frz o u):=by rw[f.2.2,ao]
theorem Fz.ne {H2:Hp} {o:Obj} {b:Addr} (f:Fz H H2 d o u) (h:b≠d):H2 b=H b:=by rw[f.2.2,au h]
theorem Inv.fz (I:Inv X pins σ H s) (hd:Rd H d u) (hu:IsDO u):∃o,s.heap.get? d=some o∧Fz H (upd H d (.frz o u)) d o u∧Inv X pins σ (upd H d (.frz o u)) s:=by
 rcases hd with hd|⟨o,hd⟩
 ·obtain⟨o,ho⟩:=(I.hok d u hd).there
  exact⟨o,ho,⟨.inl hd,hu,rfl⟩,I.freeze hd hu ho⟩
 ·have e:upd H d (.frz o u)=H:=by
   funext b;unfold upd;split
   ·rename_i z;rw[z,hd]
   ·rfl
  exact⟨o,(I.hok d _ hd).1,⟨.inr hd,hu,rfl⟩,by rw[e];exact I⟩
def DKV (H:Hp) (u:HO) (ks vs:List V):Prop:=
 (∃kvs,u=.dK kvs∧ks=kvs.map (fun p=>kV p.1)∧vs=kvs.map (·.2)) ∨
 ∃kvs as,u=.dT kvs∧Paired (fun (p:List Key × V) a=>H a=some (.tup (p.1.map kV))) kvs as∧ks=as.map V.ref∧vs=kvs.map (·.2)
theorem i5 (I:Inv X pins σ H s) (hd:Rd H d u) (hu:IsDO u) :
  (d==sysModules)=false∧∃ks vs es ep,DKV H u ks vs∧ks.length≤sizeLine∧DAt s.heap d es ep∧Vals ks (es.toList.map (·.key))∧Vals vs (es.toList.map (·.val)):=by
 cases u <;> first|exact False.elim hu|skip
 case dK kvs=>
  obtain⟨z,lo,us,rel,o,es,ep,h1,h2,h3,_,h5,_⟩:=eI I.hok hd
  refine⟨lo,_,_,es,ep,.inl ⟨kvs,rfl,rfl,rfl⟩,by rw[List.length_map];exact z,⟨o,h1,h2,h3⟩,?_⟩
  generalize es.toList=l at h5
  have go:∀{kvs:List (Key × V)} {us:List (Key × Value)} {l:List DictEntry},KV kvs us→Pairs (aT X.prog X.w) l us→Vals (kvs.map fun p=>kV p.1) (l.map (·.key))∧Vals (kvs.map (·.2)) (l.map (·.val)):=by
   intro kvs us l r
   induction r generalizing l with
   |nil=>intro p;cases p;exact⟨.nil,.nil⟩
   | @cons a b l1 l2 h1 h2 ih=>
    intro p
    cases p with
    |cons p1 p2 p3=>
     obtain⟨i1,i2⟩:=ih p3
     refine⟨.cons ?_ i1,.cons ?_ i2⟩
     ·dsimp only
      rw[h1.1]
      rcases aZ p1 with ⟨i,t,e1,e2⟩|⟨x,t,e1,e2⟩
      ·rw[e1,e2];exact⟨t,rfl⟩
      ·rw[e1,e2];exact⟨t,rfl⟩
     ·dsimp only;rw[p2];exact h1.2
  exact go rel h5
 case dT kvs=>
  obtain⟨z,lo,xs,rel,o,es,ep,h1,h2,h3,h4,hz⟩:=gP I.hok hd
  clear hz
  have go:∀{kvs:List (List Key × V)} {xs:List (List Key × Addr × Value)},KT H kvs xs→Paired (fun (p:List Key × V) a=>H a=some (.tup (p.1.map kV))) kvs (xs.map (·.2.1))∧Vals (kvs.map (·.2)) (xs.map (·.2.2)):=by
   intro kvs xs r
   induction r with
   |nil=>exact⟨.nil,.nil⟩
   |cons h1 h2 ih=>exact⟨.cons h1.2.1 ih.1,.cons h1.2.2 ih.2⟩
  obtain⟨g1,g2⟩:=go rel
  have hl:=Paired.length g1
  refine⟨lo,_,_,es,ep,.inr ⟨kvs,_,rfl,g1,rfl,rfl⟩,by rw[List.length_map,←hl];exact z,⟨o,h1,h2,h3⟩,?_,?_⟩
  ·rw[h4,List.map_map,List.map_map]
   clear h4 rel g1 g2 hl
   induction xs with
   |nil=>exact .nil
   |cons x r ih=>exact .cons rfl ih
  ·rw[h4,List.map_map]
   exact g2
end
end L2
end
section
namespace L2
open PySem PySem.Spec PyProof.Rows PySem.W
def Itk (d:Addr) (o:Obj) (ks:List V):It:=
 ⟨fun i H=>i < ks.length∧∃u,H d=some (.frz o u),fun i H x H'=>H' = H∧ks[i]? = some x,fun i H=>ks.length≤i∧∃u,H d=some (.frz o u)⟩
theorem ii {X:Cx} {pins:List (Addr × Obj)} {σ:St} {H:Hp} {s:Shared} {d:Addr} {o:Obj} {u:HO} {es:Array DictEntry} {ep:Nat} (I:Inv X pins σ H s) (h:H d=some (.frz o u)) (x:o.ExactDict) (e:o.data=.dict es ep):DAt s.heap d es ep:=
 ⟨o,(I.hok d _ h).1,x,e⟩
theorem oR {P:Program} {w:World} {K:W.Frag} {tg:Expr} {d it:Addr} {o:Obj} {es:Array DictEntry} {ep:Nat} {ks:List V} (x:o.ExactDict) (e:o.data=.dict es ep) (r:Vals ks (es.toList.map (·.key))) :
  Turn P w K tg (Itk d o ks) [it] it (fun i h=>h.IsKeyIter it d i es.size ep) where
 mem:=by simp
 obj:=fun i h st b hb=>by
  have e:b=it:=by simpa using hb
  subst e
  obtain⟨o,e,c,d⟩:=st
  exact⟨o,e,fun v z=>by rw[d] at z;cases z⟩
 keep:=fun i h h' st k=>st.at fun o e=>k it (by simp) o e
 item:=by
  intro X hP hw hK hc i pins s σ H E I hf st hg
  subst hP hw hK
  obtain⟨hi,u,hu⟩:=hg
  have hl:ks.length=es.size:=by have:=r.length;simpa using this
  obtain⟨y,hy⟩:∃y,ks[i]? = some y:=⟨ks[i],by simp[hi]⟩
  obtain⟨z,hz,rz⟩:=r.get hy
  have hi':i < es.size:=by omega
  have ez:z=es[i].key:=by
   rw[List.getElem?_map] at hz
   simp[hi'] at hz
   exact hz.symm
  obtain⟨f0,f1,f2,f3,f4,f5⟩:=hf it (by simp)
  refine uL st (ii I hu x e) hi' fun h' st' sb=>?_
  have I1:Inv X pins σ H {s with heap:=h'}:=I.turned (t':=s.toks) (fun b o hb e=>(sb.2 b hb).trans e) f0 f1 f3 f4 f5
  obtain⟨o',e',c',d'⟩:=id st'
  exact⟨_,rfl,ow (s:={s with heap:=h'}) e' c' d' (by decide) ⟨y,H,I1,by rw[←ez];exact rz,⟨rfl,hy⟩,st',fun b hb=>(hf b hb).1⟩⟩
 done:=by
  intro X hP hw hK hc i pins s σ H E I hf st hg
  subst hP hw hK
  obtain⟨hi,u,hu⟩:=hg
  have hl:ks.length=es.size:=by have:=r.length;simpa using this
  obtain⟨f0,f1,f2,f3,f4,f5⟩:=hf it (by simp)
  exact dEnd (I.ok.hd hc) st (ii I hu x e) (by omega) fun h' eb=>⟨rfl,I.turned (t':=s.toks) (fun b o hb e=>eb b o hb e) f0 f1 f3 f4 f5⟩
 self:=fun _ _ _ _ _ st h=>wpAny_pyIter_keyiter st h
section
variable {X:Cx} {tg:Expr}
def wJ (td:TE):TI:=fun σ H R=>td σ H fun x H1=>∃(d:Addr) (u:HO),x=.ref d∧Rd H1 d u∧IsDO u∧∀ks vs o H2,DKV H1 u ks vs→Fz H1 H2 d o u→R (Itk d o ks) H2
theorem rW {h:Heap} {d:Addr} {es:Array DictEntry} {ep:Nat} {o:Obj} (m:DAt h d es ep) (e:h.get? d=some o):o.ExactDict∧o.data=.dict es ep:=by
 obtain⟨o',e',x⟩:=m
 rw[e] at e';cases e'
 exact x
theorem tO {l:Expr} {td:TE} (hl:PE X l td):PI X tg l (wJ td):=by
 intro pins s σ H R I h
 refine thn (hl pins s σ H _ I h) fun v s1 ⟨x,H1,I1,r1,q1⟩=>?_
 obtain⟨d,u,e,hd,hu,q⟩:=q1
 subst e
 cases r1
 obtain⟨lo,ks,vs,es,ep,dk,hz,dm,rk,rv⟩:=i5 I1 hd hu
 obtain⟨o,ho,fz,I2⟩:=I1.fz hd hu
 obtain⟨ex,ed⟩:=rW dm ho
 refine rZ lo dm ?_
 refine⟨s1.heap.objs.size,[s1.heap.objs.size],_,_,_,rfl,I2.kept (t':=s1.toks) fun b o e=>Heap.get?_push_of_some _ e,oR (d:=d) (o:=o) ex ed rk,⟨_,Heap.get?_push_size _ rfl,rfl,rfl⟩,fun b hb=>?_,q ks vs o _ dk fz⟩
 have e:b=s1.heap.objs.size:=by simpa using hb
 subst e
 exact I2.fpOk (Nat.le_refl _) (I2.hok.fresh (Nat.le_refl _))
end
def kQ (v d:Addr):HO:=.ext fun h=>h.IsItemsView v d
def Iti (d:Addr) (o:Obj) (ks vs:List V):It:=
 ⟨fun i H=>i < ks.length∧∃u,H d=some (.frz o u),
  fun i H v H'=>∃p x y,H p=none∧v=.ref p∧H' = upd H p (.tup [x,y])∧ks[i]? = some x∧vs[i]? = some y,fun i H=>ks.length≤i∧∃u,H d=some (.frz o u)⟩
theorem mw {P:Program} {w:World} {K:W.Frag} {elts:List Expr} {x1} {pos:Pos} {d it:Addr} {o:Obj} {es:Array DictEntry} {ep:Nat} {ks vs:List V} (x:o.ExactDict) (e:o.data=.dict es ep) (r:Vals ks (es.toList.map (·.key))) (r':Vals vs (es.toList.map (·.val))) :
  Turn P w K (.Tuple elts x1 pos) (Iti d o ks vs) [it] it (fun i h=>∃a b,IsItemIter h it d i es.size ep a b) where
 mem:=by simp
 obj:=fun i h st b hb=>by
  have e:b=it:=by simpa using hb
  subst e
  obtain⟨_,_,st⟩:=st
  exact⟨_,st,fun v z=>by
   have z':Data.fields _=Data.cell v:=z
   cases z'⟩
 keep:=fun i h h' st k=>let ⟨a,b,st⟩:=st;⟨a,b,k it (by simp) _ st⟩
 item:=by
  intro X hP hw hK hc i pins s σ H E I hf st hg
  subst hP hw hK
  obtain⟨hi,u,hu⟩:=hg
  obtain⟨_,_,st⟩:=st
  have hl:ks.length=es.size:=by have:=r.length;simpa using this
  have hl':vs.length=es.size:=by have:=r'.length;simpa using this
  obtain⟨y,hy⟩:∃y,ks[i]? = some y:=⟨ks[i],by simp[hi]⟩
  obtain⟨y',hy'⟩:∃y,vs[i]? = some y:=⟨vs[i]'(by omega),by simp⟩
  obtain⟨z,hz,rz⟩:=r.get hy
  obtain⟨z',hz',rz'⟩:=r'.get hy'
  have hi':i < es.size:=by omega
  have ez:z=es[i].key:=by
   rw[List.getElem?_map] at hz
   simp[hi'] at hz
   exact hz.symm
  have ez':z' = es[i].val:=by
   rw[List.getElem?_map] at hz'
   simp[hi'] at hz'
   exact hz'.symm
  refine vZ st (ii I hu x e) hi' fun h1 st1 t1 k1=>?_
  refine⟨_,rfl,wpAny_letOwnedTupleGo_items st1 fun h2 st2 sb=>?_⟩
  replace sb:Heap.SameBut it h1 h2:=sb
  have hee:it < s.heap.objs.size:=Heap.lt_size st
  have hfr:s.heap.get? s.heap.objs.size=none:=Heap.get?_none_of_le (Nat.le_refl _)
  have hn:H s.heap.objs.size=none:=I.hok.fresh (Nat.le_refl _)
  have I2:Inv X pins σ (upd H s.heap.objs.size (.tup [y,y'])) {s with heap:=h2}:=by
   refine I.turnLaid (t':=s.toks) (ch:=[it]) hf (fun b o hb q=>?_) hfr fun H'=>?_
   ·have hb1:b≠it:=fun z=>hb (by simp[z])
    exact (sb.2 b hb1).trans (k1 b o hb1 q)
   ·exact⟨⟨by simp;rw[sizeLine_eq];omega,_,(sb.2 _ (Nat.ne_of_gt hee)).trans t1,rfl⟩,[es[i].key,es[i].val],.cons (by rw[←ez];exact rz) (.cons (by rw[←ez'];exact rz') .nil),⟨_,(sb.2 _ (Nat.ne_of_gt hee)).trans t1,rfl,_,rfl⟩⟩
  refine⟨.ref s.heap.objs.size,_,I2,rfl,⟨s.heap.objs.size,y,y',hn,rfl,rfl,hy,hy'⟩,⟨_,_,st2⟩,fun b hb=>?_⟩
  have hb':b=it:=by simpa using hb
  rw[hb',au (Nat.ne_of_lt hee)]
  exact (hf it (by simp)).1
 done:=by
  intro X hP hw hK hc i pins s σ H E I hf st hg
  subst hP hw hK
  obtain⟨hi,u,hu⟩:=hg
  obtain⟨_,_,st⟩:=st
  have hl:ks.length=es.size:=by have:=r.length;simpa using this
  obtain⟨f0,f1,f2,f3,f4,f5⟩:=hf it (by simp)
  exact wM (I.ok.hd hc) st (ii I hu x e) (by omega) fun h' eb=>⟨rfl,I.turned (t':=s.toks) (fun b o hb e=>eb b o hb e) f0 f1 f3 f4 f5⟩
 self:=fun _ _ _ _ _ st h=>by
  obtain⟨_,_,st⟩:=st
  exact kcp_self st h
section
variable {X:Cx}
def vq:V→List V→Hp→VK→Prop:=fun x xs H Q=>∃(d:Addr) (u:HO),x=.ref d∧xs=[]∧Rd H d u∧IsDO u∧∀v,H v=none→Q (.ref v) (upd H v (kQ v d))
theorem qS:MtM X "dict.items" vq:=by
 intro pins s σ H x xs v us Q I rx rs h
 obtain⟨d,u,rfl,rfl,hd,hu,q⟩:=h
 cases rx
 cases rs
 obtain⟨lo,ks,vs,es,ep,dk,hz,dm,rk,rv⟩:=i5 I hd hu
 refine PySem.call_meets PySem.F.slot_dict_items dm.ty PySem.F.entry_dict_items (PySem.F.args_dict_items_1 _) (S:=fun A R s=>(∃es ep,DAt s.heap d es ep)∧R (.ok (.ret (.ref s.heap.objs.size))) {s with heap:=s.heap.push {cls:=.type "dict_items",data:=.fields #[.ref d]}}) (.of_wp fun prog w A R s h=>?_) ⟨⟨es,ep,dm⟩,?_⟩
 ·obtain⟨⟨es,ep,dm⟩,h⟩:=h
  unfold Builtin.«dict.items» Builtin.Dict.noArgs
  refine wpAny_bind (wpAny_bind (wpAny_notOrdered_dict dm.ty ?_))
  refine (show wpAny _ _ (pure d) _ _ s from wpAny_pure ?_)
  refine (show wpAny _ _ (Builtin.Dict.showsAll d >>= _) _ _ s from ?_)
  unfold Builtin.Dict.showsAll
  rw[if_neg (show ¬(d==sysModules)=true by rw[lo];simp)]
  exact wpAny_bind (wpAny_pure (wpAny_bind (wpAny_newObj_type (wpAny_pure ⟨_,rfl,h⟩))))
 ·refine⟨.ref s.heap.objs.size,_,I.laid (a:=s.heap.objs.size) (o:=kQ s.heap.objs.size d) (t':=s.toks) (fun b o e=>Heap.get?_push_of_some _ e) (Nat.le_refl _) ⟨⟨_,Heap.get?_push_size _ rfl,rfl,rfl⟩,⟨_,Heap.get?_push_size _ rfl⟩,fun h1 h2 p k=>?_⟩,rfl,q _ (I.hok.fresh (Nat.le_refl _))⟩
  obtain⟨o,e,c⟩:=p
  exact⟨o,k o e,c⟩
def vT (td:TE):TI:=fun σ H R=>td σ H fun x H1=>∃(v d:Addr) (u:HO),x=.ref v∧H1 v=some (kQ v d)∧Rd H1 d u∧IsDO u∧∀ks vs o H2,DKV H1 u ks vs→Fz H1 H2 d o u→R (Iti d o ks vs) H2
theorem qw {l:Expr} {td:TE} {elts:List Expr} {x1} {pos:Pos} (hl:PE X l td):PI X (.Tuple elts x1 pos) l (vT td):=by
 intro pins s σ H R I h
 refine thn (hl pins s σ H _ I h) fun v s1 ⟨x,H1,I1,r1,q1⟩=>?_
 obtain⟨v,d,u,e,hv,hd,hu,q⟩:=q1
 subst e
 cases r1
 have iv:s1.heap.IsItemsView v d:=(show aU X.prog X.w H1 s1.heap v (kQ v d) from I1.hok v _ hv).1
 obtain⟨lo,ks,vs,es,ep,dk,hz,dm,rk,rv⟩:=i5 I1 hd hu
 obtain⟨o,ho,fz,I2⟩:=I1.fz hd hu
 obtain⟨ex,ed⟩:=rW dm ho
 refine v8 iv dm ?_
 refine⟨s1.heap.objs.size,[s1.heap.objs.size],_,_,_,rfl,I2.kept (t':=s1.toks) fun b o e=>Heap.get?_push_of_some _ e,mw (d:=d) (o:=o) ex ed rk rv,⟨_,_,Heap.get?_push_size _ rfl⟩,fun b hb=>?_,q ks vs o _ dk fz⟩
 have e:b=s1.heap.objs.size:=by simpa using hb
 subst e
 exact I2.fpOk (Nat.le_refl _) (I2.hok.fresh (Nat.le_refl _))
end
end L2
end
section
namespace L2
open PySem PySem.Spec PyProof.Rows PySem.W
section
variable {X:Cx}
def gY (v d:Addr):HO:=.ext fun h=>h.IsValuesView v d
def tF:V→List V→Hp→VK→Prop:=fun x xs H Q=>∃(d:Addr) (kvs:List (Key × V)),x=.ref d∧xs=[]∧Rd H d (.dK kvs)∧∀v,H v=none→Q (.ref v) (upd H v (gY v d))
theorem px:MtM X "dict.values" tF:=by
 intro pins s σ H x xs v us Q I rx rs h
 obtain⟨d,kvs,rfl,rfl,hd,q⟩:=h
 cases rx
 cases rs
 obtain⟨z,lo,vs,rel,dd⟩:=eI I.hok hd
 refine call_meetsIn PySem.F.slot_dict_values dd.typeIs PySem.F.entry_dict_values (PySem.F.args_dict_values_1 _) (meets_dict_values (aT X.prog X.w) d lo) ⟨⟨_,dd⟩,?_⟩
 refine⟨.ref s.heap.objs.size,_,I.laid (a:=s.heap.objs.size) (o:=gY s.heap.objs.size d) (t':=s.toks) (fun b o e=>Heap.get?_push_of_some _ e) (Nat.le_refl _) ⟨⟨_,Heap.get?_push_size _ rfl,rfl,rfl⟩,⟨_,Heap.get?_push_size _ rfl⟩,fun h1 h2 p k=>?_⟩,rfl,q _ (I.hok.fresh (Nat.le_refl _))⟩
 obtain⟨o,e,c⟩:=p
 exact⟨o,k o e,c⟩
def oW:List V→Hp→VK→Prop:=fun xs H Q=>∃(v d:Addr) (kvs:List (Key × V)),xs=[.ref v]∧H v=some (gY v d)∧Rd H d (.dK kvs)∧∀l,H l=none→Q (.ref l) (upd H l (.lst (kvs.map (·.2))))
theorem jc (hc:X.calm=true):bZ X (.type "list") oW:=by
 intro pins s σ H xs us Q I r h
 obtain⟨v,d,kvs,rfl,hv,hd,q⟩:=h
 obtain⟨u,rfl,ru⟩:=Vals.one r
 cases ru
 have iv:s.heap.IsValuesView v d:=(show aU X.prog X.w H s.heap v (gY v d) from I.hok v _ hv).1
 obtain⟨z,lo,vs,rel,dd⟩:=eI I.hok hd
 have hl:kvs.length=vs.length:=rel.length
 obtain⟨ep,da⟩:=dd.dictAt
 refine kdl_call (kdl_values (knd:=aT X.prog X.w) (r:=v) (d:=d) (kvs:=vs) (ep:=ep)) (I.ok.hd hc) ⟨iv,da⟩ (by omega) fun h' tk acc c kp e it=>?_
 have hp:s.heap.objs.size≤s.heap.objs.size:=Nat.le_refl _
 refine⟨.ref s.heap.objs.size,_,I.laid (t':=tk) (o:=.lst (kvs.map (·.2))) kp hp ⟨by rw[List.length_map];exact z,acc.toList,c,ip (by rw[List.length_map,hl];simp[it.1]) fun j y ej=>?_,by rw[e]⟩,rfl,q _ (I.hok.fresh hp)⟩
 obtain⟨k,hk⟩:=it.2 j y (by simpa using ej)
 have hj:j < kvs.length:=by have:=(List.getElem?_eq_some_iff.mp hk).1;omega
 refine⟨kvs[j].2,by simp[hj],?_⟩
 have at_:∀{l:List (Key × V)} {m:List (Key × Value)} {j:Nat} {p:Key × V} {q:Key × Value},KV l m→l[j]? = some p→m[j]? = some q→RelV p.2 q.2:=by
  intro l m j p q r
  induction r generalizing j with
  |nil=>intro e;simp at e
  |cons h1 h2 ih=>
   intro e1 e2
   cases j with
   |zero=>simp at e1 e2;subst e1 e2;exact h1.2
   |succ j=>exact ih (by simpa using e1) (by simpa using e2)
 exact at_ rel (by simp[hj]:kvs[j]? = some kvs[j]) hk
def tI:V→List V→Hp→VK→Prop:=fun x xs H Q=>∃(d:Addr) (kvs:List (Key × V)) (k:Key) (z:V),x=.ref d∧xs=[kV k,z]∧H d=some (.dK kvs)∧kvs.length < sizeLine ∧
 (∀v,valV kvs k=some v→Q v H)∧(valV kvs k=none→Q z (upd H d (.dK (putK kvs k z))))
theorem ji:MtM X "dict.setdefault" tI:=by
 intro pins s σ H x xs v us Q I rx rs h
 obtain⟨d,kvs,k,z,rfl,rfl,hd,hz,q1,q2⟩:=h
 cases rx
 obtain⟨u1,u2,rfl,r1,r2⟩:=rs.two
 obtain⟨z0,lo,vs,rel,dd⟩:=oz I.hok hd
 have hl:kvs.length=vs.length:=rel.length
 have rv:=rel.val k
 refine call_meetsIn PySem.F.slot_dict_setdefault dd.typeIs PySem.F.entry_dict_setdefault (PySem.F.args_dict_setdefault_3 _ _ _) (kt_meets_setdefault (aT X.prog X.w) d (gK r1) lo u2) ⟨vs,dd,by omega,fun v hv=>?_,fun hn h' dd' hs=>?_⟩
 ·rw[hv] at rv
  cases e:valV kvs k with
  |none=>rw[e] at rv;exact False.elim rv
  |some y=>
   rw[e] at rv
   exact⟨y,H,I.tok _,rv,q1 y e⟩
 ·rw[hn] at rv
  cases e:valV kvs k with
  |some y=>rw[e] at rv;exact False.elim rv
  |none=>
   have hl2:(putK kvs k z).length≤sizeLine:=by have:=eR kvs k z;omega
   have he:∃q,h'.get? d=some q:=let ⟨q,_,_,hq,_⟩:=dd';⟨q,hq⟩
   exact⟨z,_,ik I (by rw[hd];exact True.intro) hs he (k0 hl2 lo (rel.put k r2) dd'),r2,q2 e⟩
end
end L2
end
section
namespace L2
open PySem PySem.Spec PyProof.Rows PySem.W
section
variable {X:Cx}
def ww:List V→Hp→VK→Prop:=fun xs H Q=>∃(d:Addr) (kvs:List (Key × V)) (ns:List Int),xs=[.ref d]∧Rd H d (.dK kvs)∧kvs.map (fun p=>kV p.1)=ns.map V.int∧ns≠[]∧∀m,m∈ns→(∀n∈ns,m≤n)→Q (.int m) H
theorem vO (es:Array DictEntry) {i:Nat} (hi:i < es.size):(es.toList.map (·.key)).toArray[i]? = some es[i].key:=by simp[hi]
theorem jl (hc:X.calm=true):bZ X (.builtin "min") ww:=by
 intro pins s σ H xs us Q I r h
 obtain⟨d,kvs,ns,rfl,hd,hk0,hne,q⟩:=h
 obtain⟨u,rfl,ru⟩:=Vals.one r
 cases ru
 obtain⟨lo,ks,vs,es,ep,dk,hz,dm,rk,rv⟩:=i5 I hd (u:=.dK kvs) trivial
 have ek:ks=ns.map V.int:=by
  rcases dk with ⟨kvs',e,e1,_⟩|⟨_,_,e,_⟩
  ·cases e;rw[e1,hk0]
  ·cases e
 subst ek
 have hl:ns.length=es.size:=by have:=rk.length;simpa using this
 refine call_min_walk (rZ lo dm ?_)
 refine⟨s.heap.objs.size,_,_,_,_,_,_,rfl,rY (A:=X.A.in1) (es:=es) (ep:=ep) (d:=d) (I.ok.hd hc) _ (Nat.ne_of_lt dm.lt),⟨⟨_,Heap.get?_push_size _ rfl,rfl,rfl⟩,dm.at fun o e=>Heap.get?_push_of_some _ e⟩,fun b hb=>?_,?_,CmpOf.ints_lt (fun i=>ns.getD i 0) (fun i v e=>?_),fun v h' tk hP hk=>?_⟩
 ·show b < (s.heap.push _).objs.size
  rw[Heap.size_push]
  rcases List.mem_cons.mp hb with rfl|hb
  ·exact Nat.lt_succ_self _
  ·rw[List.mem_singleton.mp hb];exact Nat.lt_succ_of_lt dm.lt
 ·rw[←hl];exact List.length_pos_iff.mpr hne
 ·obtain⟨hi,rfl⟩:=e
  exact kU rk i _ (by simp[hi])
 ·obtain⟨hi,rfl⟩:=hP
  obtain⟨t,et⟩:=kU rk _ _ (vO es hi)
  obtain⟨b1,b2⟩:=mn ns hne
  have e:es.size - 1=ns.length - 1:=by rw[hl]
  refine⟨.int _,H,I.kept (t':=tk) fun b o e=>hk b o (fun z=>by rw[List.mem_singleton.mp z] at e;exact absurd (Heap.lt_size e) (Nat.lt_irrefl _)) (Heap.get?_push_of_some _ e),⟨t,et⟩,?_⟩
  rw[e]
  exact q _ b1 b2
end
open PySem.SeqAt in
theorem ir (l:Addr) (items:Array Value) (n:Nat) (dd:Option Addr) (sl:Array (Option Value)) (x:Value) (e:Nat→Bool) (j:Nat) (hj:j < items.size) (hit:e j=true) (hno:∀m,m < j→e m=false) :
  Meets (Builtin.«tuple.index» ⟨[.ref l,x],[]⟩)
   (fun A R s=>s.heap.get? l=some {cls:=.type "tuple",dict:=dd,data:=.seq items n,slots:=sl}∧(∀m (h:m < items.size),EqAt A.in1 s items[m] x (e m))∧R (.ok (.ret (.int j s.toks))) {s with toks:=s.toks+1}):=
 .of_wp fun prog w A R s h=>by
  obtain⟨hp,g,d,tk,os⟩:=s;obtain⟨hl,he,h⟩:=h
  unfold Builtin.«tuple.index»
  simp only[Std.Legacy.Range.forIn_eq_forIn_range']
  wp_walk using PySem.AutoSeq1.wpAny_loadPart' hl,wpAny_forIn_list _ (fun rest b s'=>b.1=none∧s' = ⟨hp,g,d,tk,os⟩∧∃i,i≤j∧rest=List.range' i (items.size - i)) _
  case turn=>
   rintro y rest b s' ⟨hb,rfl,i,hij,hr⟩
   have e0:items.size - i=(items.size - (i+1))+1:=by omega
   rw[e0,List.range'_succ] at hr
   injection hr with h1 h2
   subst h1
   have hy:y < items.size:=by omega
   have hg:items[y]? = some items[y]:=by simp[hy]
   rw[hg]
   refine wpAny_bind (he y hy prog w _ _ ?_)
   by_cases z:y=j
   ·subst z
    rw[hit]
    wp_walk
    exact⟨_,rfl,h⟩
   ·rw[hno y (by omega)]
    wp_walk
    exact⟨rfl,rfl,y+1,by omega,h2⟩
  case fin=>
   rintro b s' ⟨_,_,i,hij,hr⟩
   have:=congrArg List.length hr
   simp at this
   omega
  case h=>
   exact⟨rfl,rfl,0,Nat.zero_le _,by simp[Std.Legacy.Range.size]⟩
section
variable {X:Cx}
def tL (K:Frag):V→List V→Hp→VK→Prop:=fun x vs H Q=>∃(a:Addr) (xs:List V) (ds:List PyData) (y:V) (d:PyData) (j:Nat),x=.ref a∧vs=[y]∧SqT K H a xs∧Dts K H xs ds∧Dt K H y d∧d.depth≤60 ∧
 j < ds.length∧PyData.eqv (ds.getD j .none) d=true∧(∀m,m < j→PyData.eqv (ds.getD m .none) d=false)∧Q (.int (j:Int)) H
theorem jC (hu:X.A.units+64 < cLine):MtM X "tuple.index" (tL X.K):=by
 intro pins s σ H x vs v us Q I rx rv h
 obtain⟨a,xs,ds,y,d,j,rfl,rfl,hq,hs,hd,hz,hj,e1,e2,q⟩:=h
 cases rx
 obtain⟨u,rfl,ru⟩:=rv.one
 obtain⟨its,rs,p,hsz⟩:=I.tuple hq
 obtain⟨as,ra⟩:=Dts.reads I ds xs its hs rs
 obtain⟨bs,rb⟩:=Dt.reads I d y u hd ru
 have hl:its.length=ds.length:=PySem.SeqAt.ReadsAll.length _ _ _ ra
 obtain⟨⟨cls,dd,data,sl⟩,eo,hc,n,hdt⟩:=id p
 simp only at hc hdt
 subst hc hdt
 refine PySem.call_meets PySem.F.slot_tuple_index ⟨_,eo,rfl⟩ PySem.F.entry_tuple_index (PySem.F.args_tuple_index_2 _ _) (ir a its.toArray n dd sl u (fun m=>PyData.eqv (ds.getD m .none) d) j (by simp;omega) e1 e2) ⟨eo,fun m hm=>?_,?_⟩
 ·have hm':m < ds.length:=by rw[List.size_toArray] at hm;omega
  obtain⟨dy,cs,ry,hcy,hle⟩:∃dy cs,PySem.Reads s.heap its.toArray[m] dy cs∧dy.canLay0=true∧dy=ds.getD m .none:=by
   have go:∀(ds:List PyData) (its:List Value) (as:List Addr) (m:Nat) (h:m < its.length),ReadsAll s.heap its ds as→PyData.canLayAll0 ds=true→∃cs,PySem.Reads s.heap its[m] (ds.getD m .none) cs∧(ds.getD m .none).canLay0=true:=by
    intro ds
    induction ds with
    |nil=>intro its as m h r _;cases r;simp at h
    |cons d ds ih=>
     intro its as m h r c
     have c':d.canLay0=true∧PyData.canLayAll0 ds=true:=by simpa [PyData.canLayAll0] using c
     cases r with
     |cons r1 r2=>
      cases m with
      |zero=>exact⟨_,r1,c'.1⟩
      |succ m=>exact ih _ _ m (by simpa using h) r2 c'.2
   obtain⟨cs,h1,h2⟩:=go ds its as m (by simpa using hm) ra (Dts.can ds _ hs)
   exact⟨_,cs,by simpa using h1,h2,rfl⟩
  rw[←hle]
  refine PySem.SeqAt.eqAt_reads dy d X.A.in1 s _ _ _ _ ry rb hcy (Dt.can d y hd) ?_
  show X.A.units+1+min _ _ < cLine
  exact min61 hu hz
 ·exact⟨.int (j:Int),H,I.tok _,⟨_,rfl⟩,q⟩
end
end L2
end
section
namespace L2
open PySem PySem.Spec PyProof.Rows PySem.W
section
variable {prog:Program} {w:World} {A:Around} {R:Result→Shared→Prop} {I:Addr} {fp wr:List Addr} {n:Nat} {P:Nat→Value→Prop} {St:Nat→Heap→Prop} {OK:Heap→Prop}
def sN (prog:Program) (w:World) (A:Around) (OK:Heap→Prop) (P:Nat→Value→Prop) (bt:Nat→Nat→Bool):Prop:=
 ∀i j vi vj (s:Shared) (Q:Value→Shared→Prop) (E:Value→Shared→Prop),OK s.heap→P i vi→P j vj→Q (.bool (bt i j)) s→wpAny (model prog w) A (richCompare .Lt vi vj) Q E s
theorem ny (W:Walks prog w A.in1 I fp wr n P St) (bt:Nat→Nat→Bool) (hcmp:sN prog w A.in1 OK P bt) (S:Addr) (hSf:S∉fp)
  (ok:∀h h':Heap,OK h→(∀b o,b∉wr→b≠S→h.get? b=some o→h'.get? b=some o)→OK h') :
  ∀(k j:Nat) (s:Shared) (vb:Value) (c:Nat),n - (j+1)=k→j+1≤n→OK s.heap→St (j+1) s.heap→P (argBest bt j) vb →
  s.heap.get? S=some {cls:=.type "list",dict:=none,data:=.seq #[vb,vb] c,slots:=#[]} →
  (∀v h' tk,P (argBest bt (n - 1)) v→(∀b o,b∉wr→b≠S→s.heap.get? b=some o→h'.get? b=some o)→R (.ok (.ret v)) {s with heap:=h',toks:=tk}) →
  codeAny (model prog w) A (.builtin "min.loop" ⟨[.ref I,.none,.ref S],[]⟩) R s:=by
 have nw:S∉wr:=fun h=>hSf (W.sub _ h)
 have nm:(toString "min"++toString ".loop" : String) = "min.loop":=by decide
 intro k
 induction k with
 |zero=>
  intro j s vb c hk hj h0 hst hPb hS hR
  have z:j+1=n:=by omega
  refine codeAny_builtin PySem.F.entry_min_loop ?_;rw[Around.under_plainId PySem.F.plain_min_loop _]
  refine (show wpAny _ A.in1 (seqItems? (.ref S) >>= _) _ _ s from wpAny_bind (wpAny_seqItems hS rfl ?_))
  refine (show wpAny _ A.in1 (tryCatch (pyNext (.ref I)) _ >>= _) _ _ s from wpAny_bind (wpAny_tryCatch (W.done s _ _ (z ▸ hst) fun h' tk k'=>?_)))
  refine (show wpAny _ A.in1 (updateSeq S (fun _=>#[]) >>= _) _ _ _ from wpAny_bind (wpAny_updateSeq (k' S _ nw hS) rfl (wpAny_bind (wpAny_letGo (wpAny_pure ?_)))))
  exact hR vb _ tk (by rw[←z];exact hPb) fun b o hbw hbS e=>(Heap.get?_update_other _ _ (Ne.symm hbS)).trans (k' b o hbw e)
 |succ k ih=>
  intro j s vb c hk hj h0 hst hPb hS hR
  have lt:j+1 < n:=by omega
  refine codeAny_builtin PySem.F.entry_min_loop ?_;rw[Around.under_plainId PySem.F.plain_min_loop _]
  refine (show wpAny _ A.in1 (seqItems? (.ref S) >>= _) _ _ s from wpAny_bind (wpAny_seqItems hS rfl ?_))
  refine (show wpAny _ A.in1 (tryCatch (pyNext (.ref I)) _ >>= _) _ _ s from wpAny_bind (wpAny_tryCatch (W.item (j+1) s _ _ lt hst fun v h' tk hP st' k'=>?_)))
  have S':=k' S _ nw hS
  have h1:OK h':=ok _ _ h0 fun b o hb _ e=>k' b o hb e
  refine (show wpAny _ A.in1 (tryCatch (holding [v,v] (richCompare .Lt v vb >>= _)) _ >>= _) _ _ _ from wpAny_bind (wpAny_tryCatch (wpAny_holding (wpAny_bind (hcmp (j+1) (argBest bt j) v vb _ _ _ h1 hP hPb ?_)))))
  refine wpAny_bind (wpAny_holding (wpAny_truthy_bool (wpAny_bind (wpAny_letGo (wpAny_pure ?_)))))
  cases hb:bt (j+1) (argBest bt j) with
  |true=>
   simp only[if_true]
   refine wpAny_bind (wpAny_updateSeq S' rfl (wpAny_bind (wpAny_letGo ?_)));rw[nm]
   have up:∀b o,b≠S→h'.get? b=some o→(h'.update S (Obj.mapSeq fun _=>#[v,v])).get? b=some o:=fun b o hbS e=>(Heap.get?_update_other _ _ (Ne.symm hbS)).trans e
   exact wpAny_pure ⟨plainId_quiet PySem.F.plain_min_loop _,ih (j+1) _ v _ (by omega) lt (ok _ _ h1 fun b o _ hbS e=>up b o hbS e) (W.frame _ _ _ st' fun b hbf o e=>up b o (fun h=>hSf (by rw[←h];exact hbf)) e) (by simp only[argBest,hb,if_true];exact hP) (Heap.get?_update_self _ S' rfl)
    fun v' h'' tk'' P' k''=>hR v' h'' tk'' P' fun b o hbw hbS e=>k'' b o hbw hbS (up b o hbS (k' b o hbw e))⟩
  |false=>
   simp only[Bool.false_eq_true,if_false]
   refine wpAny_bind (wpAny_letGo ?_);rw[nm]
   exact wpAny_pure ⟨plainId_quiet PySem.F.plain_min_loop _,ih (j+1) _ vb c (by omega) lt h1 st' (by simp only[argBest,hb,Bool.false_eq_true,if_false];exact hPb) S' fun v' h'' tk'' P' k''=>hR v' h'' tk'' P' fun b o hbw hbS e=>k'' b o hbw hbS (k' b o hbw e)⟩
theorem lU (W:Walks prog w A.in1 I fp wr n P St) (bt:Nat→Nat→Bool) (hcmp:sN prog w A.in1 OK P bt) (S:Addr) (hSf:S∉fp) (ok:∀h h':Heap,OK h→(∀b o,b∉wr→b≠S→h.get? b=some o→h'.get? b=some o)→OK h') (hn:0 < n) {s:Shared} {c:Nat} (h0:OK s.heap) (hst:St 0 s.heap)
  (hS:s.heap.get? S=some {cls:=.type "list",dict:=none,data:=.seq #[] c,slots:=#[]})
  (hR:∀v h' tk,P (argBest bt (n - 1)) v→(∀b o,b∉wr→b≠S→s.heap.get? b=some o→h'.get? b=some o)→R (.ok (.ret v)) {s with heap:=h',toks:=tk}) :
  codeAny (model prog w) A (.builtin "min.loop" ⟨[.ref I,.none,.ref S],[]⟩) R s:=by
 have nw:S∉wr:=fun h=>hSf (W.sub _ h)
 have nm:(toString "min"++toString ".loop" : String) = "min.loop":=by decide
 refine codeAny_builtin PySem.F.entry_min_loop ?_;rw[Around.under_plainId PySem.F.plain_min_loop _]
 refine (show wpAny _ A.in1 (seqItems? (.ref S) >>= _) _ _ s from wpAny_bind (wpAny_seqItems hS rfl ?_))
 refine (show wpAny _ A.in1 (tryCatch (pyNext (.ref I)) _ >>= _) _ _ s from wpAny_bind (wpAny_tryCatch (W.item 0 s _ _ hn hst fun v h' tk hP st' k'=>?_)))
 have S':=k' S _ nw hS
 have h1:OK h':=ok _ _ h0 fun b o hb _ e=>k' b o hb e
 refine (show wpAny _ A.in1 (updateSeq S (fun _=>#[v,v]) >>= _) _ _ _ from wpAny_bind (wpAny_updateSeq S' rfl ?_));rw[nm]
 have up:∀b o,b≠S→h'.get? b=some o→(h'.update S (Obj.mapSeq fun _=>#[v,v])).get? b=some o:=fun b o hbS e=>(Heap.get?_update_other _ _ (Ne.symm hbS)).trans e
 exact wpAny_pure ⟨plainId_quiet PySem.F.plain_min_loop _,ny W bt hcmp S hSf ok _ 0 _ v _ rfl hn (ok _ _ h1 fun b o _ hbS e=>up b o hbS e) (W.frame _ _ _ st' fun b hbf o e=>up b o (fun h=>hSf (by rw[←h];exact hbf)) e) hP (Heap.get?_update_self _ S' rfl)
  fun v' h'' tk'' P' k''=>hR v' h'' tk'' P' fun b o hbw hbS e=>k'' b o hbw hbS (up b o hbS (k' b o hbw e))⟩
end
section
variable {prog:Program} {w:World} {A:Around} {E:Value→Shared→Prop} {s:Shared}
theorem nK {x:Value} {Q:Value→Shared→Prop} {OK:Heap→Prop}
  (h:wpAny (model prog w) A.in1 (pyIter x) (fun it s₂=>∃I fp wr n P St bt,it=.ref I∧Walks prog w A.in1 I fp wr n P St∧St 0 s₂.heap∧OK s₂.heap∧(∀S,s₂.heap.objs.size≤S→∀h h':Heap,OK h→(∀b o,b∉wr→b≠S→h.get? b=some o→h'.get? b=some o)→OK h')∧(∀b∈fp,b < s₂.heap.objs.size)∧0 < n∧sN prog w A.in1 OK P bt ∧
   ∀v h' tk,P (argBest bt (n - 1)) v→(∀b o,b∉wr→s₂.heap.get? b=some o→h'.get? b=some o)→Q v {s₂ with heap:=h',toks:=tk}) E s) :
  wpAny (model prog w) A (call (.builtin "min") [x]) Q E s:=by
 have nm:(toString "min"++toString ".loop" : String) = "min.loop":=by decide
 refine call_function_tree PySem.F.kind_min PySem.F.plain_min PySem.F.entry_min (PySem.F.args_min1 _) ?_
 refine (show wpAny _ A.in1 (Builtin.Builtins.bindParams "min" ["key","default"] 0 ⟨[],[]⟩ >>= _) _ _ s from wpAny_bind (wpAny_of_eq (show Builtin.Builtins.bindParams "min" ["key","default"] 0 ⟨[],[]⟩=pure [none,none] from rfl) (wpAny_bind (wpAny_pure ?_))))
 refine wpAny_bind (wpAny_mono h (fun it s2 h2=>?_) fun _ _ e=>e)
 obtain⟨I,fp,wr,n,P,St,bt,rfl,W,hst,h0,ok,hfp,hn,hcmp,hQ⟩:=h2
 have hSf:s2.heap.objs.size∉fp:=fun hm=>Nat.lt_irrefl _ (hfp _ hm)
 refine wpAny_bind (wpAny_newObj_type ?_);rw[nm]
 have pu:∀b o,s2.heap.get? b=some o→(s2.heap.push {cls:=.type "list",data:=.seq #[]}).get? b=some o:=fun b o e=>Heap.get?_push_of_some _ e
 refine wpAny_pure ⟨plainId_quiet PySem.F.plain_min_loop _,lU W bt hcmp s2.heap.objs.size hSf (ok _ (Nat.le_refl _)) hn (ok _ (Nat.le_refl _) _ _ h0 fun b o _ _ e=>pu b o e) (W.frame _ _ _ hst fun b _ o e=>pu b o e) (Heap.get?_push_size _ rfl) fun v h' tk hP hk=>?_⟩
 exact hQ v h' tk hP fun b o hbw e=>hk b o hbw (Nat.ne_of_lt (Heap.lt_size e)) (pu b o e)
end
end L2
end
section
namespace L2
open PySem PySem.Spec PyProof.Rows PySem.W
theorem jE:∀a:List Int,HT.lexLt a a=false
 | []=>rfl
 |x::r=>by
  unfold HT.lexLt
  simp[jE r]
theorem lX:∀a b c:List Int,HT.lexLt a b=true→HT.lexLt b c=true→HT.lexLt a c=true
 | [],[],_,h,_=>nomatch h
 | [],_::_,[],_,h=>nomatch h
 | [],_::_,_::_,_,_=>rfl
 |_::_,[],_,h,_=>nomatch h
 |_::_,_::_,[],_,h=>nomatch h
 |x::r,y::t,z::u,h1,h2=>by
  unfold HT.lexLt at h1 h2 ⊢
  have ih:=lX r t u
  by_cases e1:x=y <;> by_cases e2:y=z <;> by_cases e3:x=z <;> simp_all <;> omega
theorem oJ (bt:Nat→Nat→Bool) (irr:∀i,bt i i=false) (tr:∀i j k,bt i j=true→bt j k=true→bt i k=true):∀m,argBest bt m≤m∧∀j,j≤m→bt j (argBest bt m)=false
 |0=>⟨Nat.le_refl _,fun j hj=>by
  have:j=0:=by omega
  subst this
  exact irr 0⟩
 |m+1=>by
  obtain⟨h1,h2⟩:=oJ bt irr tr m
  cases hb:bt (m+1) (argBest bt m) with
  |true=>
   have e:argBest bt (m+1)=m+1:=by simp only[argBest,hb,if_true]
   rw[e]
   refine⟨Nat.le_refl _,fun j hj=>?_⟩
   by_cases z:j=m+1
   ·rw[z];exact irr _
   ·cases q:bt j (m+1) with
    |false=>rfl
    |true=>
     have:=tr _ _ _ q hb
     rw[h2 j (by omega)] at this
     cases this
  |false=>
   have e:argBest bt (m+1)=argBest bt m:=by simp only[argBest,hb,Bool.false_eq_true,if_false]
   rw[e]
   refine⟨by omega,fun j hj=>?_⟩
   by_cases z:j=m+1
   ·rw[z];exact hb
   ·exact h2 j (by omega)
section
variable {X:Cx}
def vp (K:Frag):List V→Hp→VK→Prop:=fun xs H Q=>∃(a:Addr) (ys:List V) (kz:List (List Int)),xs=[.ref a]∧SqL K H a ys∧Tups K H ys kz∧ys≠[] ∧
 ∀i y,ys[i]? = some y→(∀j,j < ys.length→HT.lexLt (kz.getD j []) (kz.getD i [])=false)→Q y H
theorem jk (hc:X.calm=true) (hu:X.A.units+64 < cLine):bZ X (.builtin "min") (vp X.K):=by
 intro pins s σ H xs us Q I r h
 obtain⟨a,ys,kz,rfl,hq,ht,hne,q⟩:=h
 obtain⟨u,rfl,ru⟩:=Vals.one r
 cases ru
 obtain⟨its,rv,p,hz⟩:=I.list hq
 have hl:=rv.length
 have hil:=p.isList
 have hlt:a < s.heap.objs.size:=by obtain⟨_,e,_⟩:=hil;exact Heap.lt_size e
 have get:∀(i:Nat) (v:Value),its[i]? = some v→∃(b:Addr) (js:List Value),v=.ref b∧b < s.heap.objs.size∧IsTup s.heap b js.toArray∧IntsAre js (kz.getD i []):=by
  intro i v e
  obtain⟨y,ey,ry⟩:=gZ rv e
  have go:∀{ys:List V} {kz:List (List Int)} {i:Nat} {y:V},Tups X.K H ys kz→ys[i]? = some y→∃b,y=V.ref b∧SqT X.K H b ((kz.getD i []).map V.int):=by
   intro ys kz i y t
   induction t generalizing i with
   |nil=>intro e;simp at e
   |cons h1 h2 ih=>
    intro e
    cases i with
    |zero=>simp at e;subst e;obtain⟨b,e1,e2,_⟩:=h1;exact⟨b,e1,e2⟩
    |succ i=>exact ih (by simpa using e)
  obtain⟨b,rfl,hb⟩:=go ht ey
  cases ry
  obtain⟨js,r1,p1,_⟩:=I.tuple hb
  exact⟨b,js,rfl,p1.lt,p1,er r1⟩
 refine nK (OK:=fun h=>∀(i:Nat) (v:Value),its.toArray[i]? = some v→∃(b:Addr) (js:List Value),v=.ref b∧b < s.heap.objs.size∧IsTup h b js.toArray∧IntsAre js (kz.getD i [])) (wpAny_pyIter_list hil ?_)
 refine⟨s.heap.objs.size,_,_,_,_,_,(fun i j=>HT.lexLt (kz.getD i []) (kz.getD j [])),rfl,Walks.list (A:=X.A.in1) (I.ok.hd hc) _ a (Nat.ne_of_lt hlt) its.toArray,⟨⟨_,Heap.get?_push_size _ rfl,rfl,rfl⟩,hil.push _⟩,fun i v e=>?_,fun S hS h h' ok k i v e=>?_,fun b hb=>?_,?_,fun i j vi vj s' Q' E' ok hi hj hQ=>?_,fun v h' tk hP hk=>?_⟩
 ·obtain⟨b,js,e1,e2,⟨o,e3,e4⟩,e5⟩:=get i v (by simpa using e)
  exact⟨b,js,e1,e2,⟨o,Heap.get?_push_of_some _ e3,e4⟩,e5⟩
 ·obtain⟨b,js,e1,e2,⟨o,e3,e4⟩,e5⟩:=ok i v e
  have hS':s.heap.objs.size+1≤S:=by rw[←Heap.size_push];exact hS
  exact⟨b,js,e1,e2,⟨o,k b o (fun z=>by rw[List.mem_singleton.mp z] at e2;exact Nat.lt_irrefl _ e2) (fun z=>by rw[z] at e2;exact absurd (Nat.lt_trans e2 hS') (Nat.lt_irrefl _)) e3,e4⟩,e5⟩
 ·show b < (s.heap.push _).objs.size
  rw[Heap.size_push]
  rcases List.mem_cons.mp hb with rfl|hb
  ·exact Nat.lt_succ_self _
  ·rw[List.mem_singleton.mp hb];exact Nat.lt_succ_of_lt hlt
 ·rw[List.size_toArray,←hl];exact List.length_pos_iff.mpr hne
 ·obtain⟨b,js,rfl,_,p1,i1⟩:=ok i vi hi
  obtain⟨b',js',rfl,_,p2,i2⟩:=ok j vj hj
  exact HT.lt_tupInts (A:=X.A.in1) p1 p2 (by simpa using i1) (by simpa using i2) (by show X.A.units+1 < cLine;omega) hQ
 ·obtain⟨y,ey,ry⟩:=gZ rv (by simpa using hP)
  have hb:=oJ (fun i j=>HT.lexLt (kz.getD i []) (kz.getD j [])) (fun i=>jE _) (fun i j k=>lX _ _ _) (its.toArray.size - 1)
  refine⟨y,H,I.kept (t':=tk) fun b o e=>hk b o (fun z=>by rw[List.mem_singleton.mp z] at e;exact absurd (Heap.lt_size e) (Nat.lt_irrefl _)) (Heap.get?_push_of_some _ e),ry,q _ y ey fun j hj=>hb.2 j ?_⟩
  rw[List.size_toArray];omega
end
end L2
end
section
namespace L2
open PySem PySem.Spec PyProof.Rows
section
variable {X:Cx}
def ou (z:Str):Bool:=decide (z.length > 0)&&z.cps.all Unicode.isDigit
def qq:V→List V→Hp→VK→Prop:=fun x vs H Q=>∃z,x=.str z∧vs=[]∧Q (.bl (ou z)) H
theorem nr:MtR X "str.isdigit" qq:=by
 intro pins s σ H x vs v us Q I rx rv h
 obtain⟨z,rfl,rfl,q⟩:=h
 obtain⟨t,rfl⟩:=rx
 cases rv.zero
 exact call_gives F.slot_str_isdigit (typeIs_str s z t) F.entry_str_isdigit (F.args_str_isdigit_1 _) (gives_str_isdigit z t) ⟨.bl (ou z),H,I,rfl,q⟩
def qr:V→List V→Hp→VK→Prop:=fun x vs H Q=>∃z,x=.str z∧vs=[]∧Q (.bl (z.cps.all (· < 128))) H
theorem nv:MtR X "str.isascii" qr:=by
 intro pins s σ H x vs v us Q I rx rv h
 obtain⟨z,rfl,rfl,q⟩:=h
 obtain⟨t,rfl⟩:=rx
 cases rv.zero
 exact call_gives F.slot_str_isascii (typeIs_str s z t) F.entry_str_isascii (F.args_str_isascii_1 _) (gives_str_isascii z t) ⟨.bl (z.cps.all (· < 128)),H,I,rfl,q⟩
def lC:V→List V→Hp→VK→Prop:=fun x vs H Q=>∃z y,x=.str z∧vs=[.str y]∧Q (.bl (decide (0+y.length≤z.length)&&Builtin.Str.subAt z y 0)) H
theorem jh:MtR X "str.startswith" lC:=by
 intro pins s σ H x vs v us Q I rx rv h
 obtain⟨z,y,rfl,rfl,q⟩:=h
 obtain⟨t,rfl⟩:=rx
 obtain⟨u,rfl,t',rfl⟩:=rv.one
 exact call_gives F.slot_str_startswith (typeIs_str s z t) F.entry_str_startswith (F.args_str_startswith_2 _ _) (gives_str_startswith z y t t') ⟨.bl _,H,I,rfl,q⟩
def txt (l:List Nat):Str:=⟨l.toArray⟩
theorem cP (l:List Nat):(txt l).cps.toList=l:=by simp[txt]
theorem bm (l:List Nat):(txt l).length=l.length:=by simp[txt,Str.length]
theorem sS (z:Str):txt z.cps.toList=z:=by cases z;simp[txt]
theorem sR {a b:List Nat} (h:txt a=txt b):a=b:=by have:=congrArg (fun z:Str=>z.cps.toList) h;simpa [txt] using this
def cutA {α:Type} (xs:List α) (lo hi:Option Int):List α:=(xs.drop (HT.sIx xs.length 0 lo)).take (HT.sIx xs.length xs.length hi - HT.sIx xs.length 0 lo)
theorem ff:∀(xs:List Str) (t:Nat),Vals (xs.map fun z=>V.str z) (strsFrom t xs)
 | [],_=>.nil
 |x::r,t=>.cons ⟨_,rfl⟩ (ff r (t+1))
theorem m_ (z:Str) (cuts:List Nat) (w:Nat):(Builtin.Str.partsBetween z cuts w).length=cuts.length+1:=by
 unfold Builtin.Str.partsBetween
 simp
end
end L2
end
section
namespace L2
open PySem PySem.Spec PyProof.Rows
section
variable {X:Cx}
theorem ld:∀{ls:List (List Nat)} {us:List Value},Vals (ls.map fun l=>V.str (txt l)) us→∃l:List (Str × Tok),us=strValues l∧l.map (·.1)=ls.map txt
 | [],_,r=>by cases r;exact⟨[],rfl,rfl⟩
 |l::ls,_,r=>by
  cases r with
  |cons r1 r2=>
   obtain⟨t,rfl⟩:=r1
   obtain⟨p,rfl,e⟩:=ld r2
   exact⟨(txt l,t)::p,rfl,by simp[e]⟩
theorem eC:bZ X (.type "int") (fun xs H Q=>∃l:List Nat,xs=[.str (txt l)]∧NumText.AllDigits l∧l≠[]∧l.length≤640∧Q (.int ((NumText.digitsVal l:Nat):Int)) H):=by
 intro pins s σ H xs us Q I r h
 obtain⟨l,rfl,hd,hne,hz,q⟩:=h
 obtain⟨u,rfl,t,rfl⟩:=vals1 r
 refine W.KIN.call_text (n:=((NumText.digitsVal l:Nat):Int)) ?_ (by rw[bm];exact hz) ⟨.int _,H,I.tok _,⟨_,rfl⟩,q⟩
 have:=intText_digits (x:=txt l) (by rw[cP];exact hd) (by rw[cP];exact hne) (by rw[bm];omega)
 rw[cP] at this
 exact this
end
end L2
end
section
namespace K51
open PySem L2
def dig (c:Nat):Bool:=decide (48≤c)&&decide (c≤57)
def digits (n:Nat):List Nat:=(Nat.toDigits 10 n).map Char.toNat
def fig (l:List Nat):Bool:=!l.isEmpty&&l.all dig&&(l==[48]||l.head? != some 48)
def val (l:List Nat):Nat:=NumText.digitsVal l
theorem k_ {c:Nat}:dig c=true↔48≤c∧c≤57:=by simp[dig]
theorem oy {l:List Nat} (h:fig l=true):∀c∈l,dig c=true:=by
 unfold fig at h
 simp only[Bool.and_eq_true,List.all_eq_true] at h
 exact h.1.2
theorem fE (n:Nat):∀c∈digits n,dig c=true:=by
 intro c hc
 obtain⟨ch,hch,e⟩:=List.mem_map.mp hc
 have r:=PyProof.Rows.digit_range (Nat.isDigit_of_mem_toDigits (by decide) (by decide) hch)
 rw[←e]
 exact k_.mpr r
theorem dc {n:Nat} (h:n < 10):digits n=[48+n]:=by
 unfold digits
 rw[Nat.toDigits_of_lt_base h]
 have:∀d:Nat,d < 10→(Nat.digitChar d).toNat=48+d:=by decide
 simp[this n h]
theorem gQ {n:Nat} (h:10≤n):digits n=digits (n / 10)++[48+n % 10]:=by
 have hm:n % 10 < 10:=Nat.mod_lt n (by decide)
 have t:Nat.toDigits 10 (n / 10)++Nat.toDigits 10 (n % 10)=Nat.toDigits 10 (10 * (n / 10)+n % 10):=Nat.toDigits_append_toDigits (by decide) (by omega) hm
 rw[Nat.div_add_mod] at t
 rw[←dc hm]
 unfold digits
 rw[←t,List.map_append]
theorem mh:∀(n:Nat),0 < n→∃c r,digits n=c::r∧c≠48:=by
 intro n
 induction n using Nat.strongRecOn with
 |_ n ih=>
  intro h0
  by_cases h:n < 10
  ·exact⟨48+n,[],dc h,by omega⟩
  ·obtain⟨c,r,e,hc⟩:=ih (n / 10) (by omega) (by omega)
   exact⟨c,r++[48+n % 10],by rw[gQ (by omega),e];rfl,hc⟩
theorem fD (n:Nat):fig (digits n)=true:=by
 have hd:(digits n).all dig=true:=List.all_eq_true.mpr (fE n)
 unfold fig
 rw[hd]
 by_cases h:n=0
 ·subst h
  rfl
 ·obtain⟨c,r,e,hc⟩:=mh n (by omega)
  rw[e]
  simp[hc]
theorem nH (n:Nat):val (digits n)=n:=W.KIN.val_back n
theorem i7:∀(m n:Nat),n < 10 ^ (m+1)→(digits n).length≤m+1
 |0,n,h=>by
  rw[dc (by simpa using h)]
  simp
 |m+1,n,h=>by
  by_cases h10:n < 10
  ·rw[dc h10];simp
  ·rw[gQ (by omega),List.length_append,List.length_singleton]
   have:=i7 m (n / 10) (by rw[Nat.pow_succ] at h;omega)
   omega
theorem nU (n:Nat):((toString ((n:Nat):Int):String):Str)=txt (digits n):=by
 rw[←sS (Str.ofString (toString ((n:Nat):Int))),W.KIN.signs_num]
 rfl
def asc (l:List Nat):Prop:=∀c∈l,c < 128
theorem ul {c:Nat} (h:dig c=true):c < 128:=by have:=k_.mp h;omega
end K51
end
section
namespace L2
open PySem PySem.Spec PyProof.Rows PySem.W
section
variable {prog:Program} {w:World} {A:Around} {E:Value→Shared→Prop} {s:Shared} {K:W.Frag} {x D:Addr} {ox:Obj}
end
section
variable {X:Cx}
theorem dW {c:String}:bZ X (.builtin "isinstance") (fun xs H Q=>∃(x:V) (ty:Value) (b:Bool),xs=[x,.ty c]∧TyOf X.K H x ty∧W.kitOne X.K ty (.type c)=some b∧Q (.bl b) H):=by
 intro pins s σ H xs us Q I r h
 obtain⟨x,ty,b,rfl,hty,e,q⟩:=h
 obtain⟨u,w',rfl,ru,rw'⟩:=vals2 r
 cases (show w' = Value.type c from rw')
 exact jJ I ru hty e fun tk=>⟨.bl b,H,I.tok _,rfl,q⟩
end
end L2
end
section
namespace K51
open PySem L2
theorem jQ:∀c:Nat,c < 128→Unicode.isDigit c=dig c:=by decide +kernel
theorem pT {l:List Nat} (h:asc l):(txt l).cps.all (· < 128)=true:=by
 rw[←Array.all_toList,cP,List.all_eq_true]
 exact fun c hc=>decide_eq_true (h c hc)
theorem pD {l:List Nat} (h:asc l):ou (txt l)=(!l.isEmpty&&l.all dig):=by
 unfold ou
 rw[bm,←Array.all_toList,cP]
 have e:l.all Unicode.isDigit=l.all dig:=by
  rw[Bool.eq_iff_iff,List.all_eq_true,List.all_eq_true]
  exact⟨fun q c hc=>by rw[←jQ c (h c hc)];exact q c hc,fun q c hc=>by rw[jQ c (h c hc)];exact q c hc⟩
 rw[e]
 cases l <;> simp
theorem s48:("0" : Str)=txt [48]:=by decide +kernel
theorem oA (a b:List Nat):decide (V.str (txt a)=V.str (txt b))=(a==b):=by
 rw[Bool.eq_iff_iff,decide_eq_true_eq,beq_iff_eq]
 constructor
 ·intro h;injection h with h;exact sR h
 ·rintro rfl;rfl
structure TxtN (mg:Str→Option Value):Prop where
 len:mg "len" = none
 int:mg "int" = none
 str:mg "str" = none
 isi:mg "isinstance" = none
 range:mg "range" = none
 list:mg "list" = none
 tuple:mg "tuple" = none
 bool:mg "bool" = none
 all:mg "all" = none
 ve:mg "ValueError" = none
 rev:mg "reversed" = none
 enum:mg "enumerate" = none
theorem uo {α:Type} (l:List α) (a b:Nat):cutA l (some (a:Int)) (some (b:Int))=(l.drop a).take (b - a):=by
 unfold cutA
 rw[HT.sIx_nat,HT.sIx_nat]
 by_cases h:a≤l.length
 ·rw[Nat.min_eq_left h]
  by_cases hb:b≤l.length
  ·rw[Nat.min_eq_left hb]
  ·rw[Nat.min_eq_right (by omega),List.take_of_length_le (by rw[List.length_drop];omega),List.take_of_length_le (by rw[List.length_drop];omega)]
 ·rw[List.drop_of_length_le (show l.length≤a by omega),List.drop_of_length_le (show l.length≤min a l.length by omega)]
  simp
theorem r9 {α:Type} (l:List α) (a:Nat):cutA l (some (a:Int)) none=l.drop a:=by
 have h:=uo l a l.length
 rw[List.take_of_length_le (by rw[List.length_drop];omega)] at h
 rw[←h]
 unfold cutA
 rw[HT.sIx_none,HT.sIx_nat,HT.sIx_nat,Nat.min_self]
theorem line5000:5010≤sizeLine:=by rw[sizeLine_eq];decide
theorem aw {H:Hp} {t:Addr} {o:HO} (h:H t=none):Same H (upd H t o):=fun b u e=>by rw[au (ag e h)];exact e
theorem jt {n:Nat} (h:n < 10 ^ 60):((n:Nat):Int).natAbs.log2 < 1920:=by
 show n.log2 < 1920
 by_cases h0:n=0
 ·subst h0;decide
 ·exact (Nat.log2_lt h0).mpr (Nat.lt_of_lt_of_le (Nat.lt_trans h (show 10 ^ 60 < 2 ^ 200 by decide)) (Nat.pow_le_pow_right (by decide) (by decide)))
theorem cB {X:Cx} {N:List Str} {scope:Scope} (nd:N.Nodup) (kind:scope.kind=.function) (nc:scope.names.all (fun y=>y.2 != .cell&&y.2 != .free)=true)
  (nm:scope.names.all (fun y=>y.2 != .local||scope.names.lookup y.1==some .local)=true):bQ X N (N.map fun _=>none) scope:=by
 have h1:∀y∈scope.names,y.2≠.cell∧y.2≠.free:=fun y hy=>by
  have:=List.all_eq_true.mp nc y hy
  simpa using this
 refine⟨nd,by simp,kind,fun y hy=>(h1 y hy).1,fun y hy e=>?_,fun y hy e=>absurd e (h1 y hy).2,fun j i x e _=>?_⟩
 ·have:=List.all_eq_true.mp nm y hy
  rw[e] at this
  simpa using this
 ·rw[List.getElem?_map] at e
  cases q:N[j]? with
  |none=>rw[q] at e;cases e
  |some z=>rw[q] at e;cases e
theorem decI (a b:Int):decide (V.int a=V.int b)=decide (a=b):=by
 rw[Bool.eq_iff_iff];simp
end K51
end
section
namespace K31
open K51
abbrev Side:=Nat × Nat
abbrev Lps:=List (List Nat)
end K31
end
section
namespace L2
open PySem PySem.Spec PyProof.Rows
section
variable {X:Cx}
end
theorem iY {K:W.Frag} {a:Addr} {xs:List V} {g:TG} {tb:TS} {D:Ends} {σ:St} {H:Hp} (Pv:Nat→St→Hp→Prop) (h0:Pv 0 σ H) (hl:∀i σ H,i≤xs.length→Pv i σ H→SqL K H a xs)
  (hs:∀i x p σ H,xs[i]? = some x→Pv i σ H→H p=none→g (.ref p) σ (upd H p (.tup [.int (i:Int),x])) fun σ2 H2=>tb {D with nx:=Pv (i+1),ct:=Pv (i+1),bk:=D.nx} σ2 H2) (hd:∀σ H,Pv xs.length σ H→D.nx σ H) :
  ∃W:Nat→Nat→St→Hp→Prop,(∃m,W 0 m σ H)∧∀i m σ H,W i m σ H →
   ((Ite K a).stop i H∧D.nx σ H)∨((Ite K a).go i H∧∃N:St→Hp→Prop,(∀σ' H',N σ' H'→∃m',m' < m∧W (i+1) m' σ' H')∧∀x H',(Ite K a).yld i H x H'→g x σ H' fun σ2 H2=>tb {D with nx:=N,ct:=N,bk:=D.nx} σ2 H2):=by
 refine⟨fun i m σ H=>m=xs.length - i∧i≤xs.length∧Pv i σ H,⟨xs.length,by simp,Nat.zero_le _,h0⟩,?_⟩
 rintro i m σ H ⟨rfl,hi,p⟩
 have q:=hl i σ H hi p
 by_cases hlt:i < xs.length
 ·refine .inr ⟨⟨xs,xs[i],q,List.getElem?_eq_getElem hlt⟩,Pv (i+1),fun σ' H' p'=>⟨xs.length - (i+1),by omega,rfl,hlt,p'⟩,fun x H' y=>?_⟩
  obtain⟨b,v,hb,rfl,rfl,y⟩:=y
  exact hs i v b σ H (y xs q) p hb
 ·have e:i=xs.length:=by omega
  subst e
  exact .inl ⟨⟨xs,q,Nat.le_refl _⟩,hd σ H p⟩
end L2
end
section
namespace L2
open PySem PySem.Spec PyProof.Rows
section
variable {prog:Program} {w:World} {A:Around} {E:Value→Shared→Prop} {s:Shared}
theorem jK {it t:Addr} {items:Array Value} (hne:t≠it):∀(n i:Nat) (s:Shared) (Q:List Value→Shared→Prop),s.heap.IsListIter it t i→s.heap.IsList t items→i+n≤items.size →
  (∀h',h'.IsListIter it t (i+n)→Heap.SameBut it s.heap h'→Q ((items.toList.drop i).take n) {s with heap:=h'})→wpAny (model prog w) A (draw (.ref it) n) Q E s
 |0,i,s,Q,hit,_,_,hQ=>by
  show wpAny _ _ (pure []) Q E s
  exact wpAny_pure (by simpa using hQ s.heap hit (Heap.SameBut.refl ..))
 |n+1,i,s,Q,hit,ht,hle,hQ=>by
  have hlt:i < items.size:=by omega
  show wpAny _ _ (pyNext (.ref it) >>= _) Q E s
  refine wpAny_bind (wpAny_pyNext_list_item hit ht (x:=items[i]) (by simp[hlt]) fun h1 hit1 sb1=>?_)
  refine wpAny_bind (wpAny_holding (jK hne n (i+1) _ _ hit1 (ht.extBut sb1.extBut hne) (by omega) fun h2 hit2 sb2=>wpAny_pure ?_))
  have hd:items.toList.drop i=items[i]::items.toList.drop (i+1):=by simp[List.drop_eq_getElem_cons,hlt]
  have z:=hQ h2 (by rw[show i+(n+1)=i+1+n by omega];exact hit2) (sb1.trans sb2)
  rw[hd,List.take_succ_cons] at z
  exact z
theorem jT {t:Addr} {items:Array Value} {Q:List Value→Shared→Prop} (hh:A.handled=none) (ht:s.heap.IsList t items)
  (hQ:∀h',Heap.ExtBut s.heap.objs.size s.heap h'→Q items.toList {s with heap:=h'}):wpAny (model prog w) A (unpackItems (.ref t) items.size none) Q E s:=by
 have hlt:t≠s.heap.objs.size:=by obtain⟨o,ho,_⟩:=ht;exact Nat.ne_of_lt (Heap.lt_size ho)
 unfold unpackItems
 refine wpAny_bind ?_
 unfold notIterableAtAll
 refine wpAny_bind (wpAny_specialOf ht.typeIs slot_list_iter.lookup (wpAny_pure ?_))
 simp only[Bool.false_eq_true,if_false]
 refine wpAny_bind (wpAny_holding (wpAny_pyIter_list ht ?_))
 refine wpAny_bind (wpAny_holding (jK hlt items.size 0 _ _ ⟨_,Heap.get?_push_size _ rfl,rfl,rfl⟩ (ht.push _) (by omega) fun h1 hit1 sb1=>?_))
 have hall:List.take items.size (List.drop 0 items.toList)=items.toList:=by
  rw[List.drop_zero];exact List.take_of_length_le (by simp)
 rw[hall,if_neg (by simp)]
 have ht1:h1.IsList t items:=(ht.push _).extBut sb1.extBut hlt
 refine wpAny_bind (wpAny_holding (wpAny_pyNext_list_end hh (by simpa using hit1) ht1 (by simp) fun h2 he2=>?_))
 simp only[Option.isSome_none,Bool.false_eq_true,if_false]
 exact wpAny_pure (hQ h2 fun b o hb e=>he2 b o hb (sb1.extBut b o hb (Heap.get?_push_of_some _ e)))
end
section
variable {X:Cx} {pos:Pos}
def gLst (K:W.Frag) (n:Nat) (t:TGs):TG:=fun v σ H Q=>∃a xs,v=.ref a∧SqL K H a xs∧xs.length=n∧t xs σ H Q
theorem vw {es:List Expr} {k:Nat} {t:TGs} {n:Nat} (hc:X.calm=true) (h:PGs X es t)
  (hn:(assignEach es X.env).length=n:=by rfl) (hst:(assignEach es X.env).findIdx? (·.1)=none:=by rfl):PG X (.Tuple es k pos) (gLst X.K n t):=by
 intro pins s σ H v u Q I r hw
 obtain⟨a,xs,rfl,hq,hl,hw⟩:=hw
 cases r
 obtain⟨its,rv,p,hz⟩:=I.list hq
 rw[assign_Tuple]
 refine wpAny_bind (wpAny_standAt ?_)
 unfold unpack
 have hsz:(assignEach es X.env).length=its.toArray.size:=by simp[hn,←hl,rv.length]
 rw[hsz,hst]
 refine wpAny_bind (wpAny_holding (jT (I.ok.hd hc) p.isList fun h' hx=>?_))
 have I1:Inv X pins σ H {s with heap:=h'}:=I.kept (t':=s.toks) fun b o e=>hx b o (Nat.ne_of_lt (Heap.lt_size e)) e
 exact h pins _ σ H xs _ Q I1 (by simpa using rv) hw
end
end L2
end
section
namespace K15
abbrev Tri:=Nat × Nat × Nat
abbrev Ent:=(Nat × Nat) × Nat
def ents (ts:List Tri):List Ent:=ts.flatMap fun t=>[((t.1,t.2.1),t.2.2),((t.2.1,t.2.2),t.1),((t.2.2,t.1),t.2.1)]
theorem bq {ts:List Tri} {a b c:Nat}:((a,b),c)∈ents ts↔(a,b,c)∈ts∨(c,a,b)∈ts∨(b,c,a)∈ts:=by
 unfold ents
 rw[List.mem_flatMap]
 constructor
 ·rintro⟨⟨x,y,z⟩,ht,h⟩
  simp only[List.mem_cons,List.not_mem_nil,or_false,Prod.mk.injEq] at h
  rcases h with ⟨⟨rfl,rfl⟩,rfl⟩|⟨⟨rfl,rfl⟩,rfl⟩|⟨⟨rfl,rfl⟩,rfl⟩
  ·exact .inl ht
  ·exact .inr (.inl ht)
  ·exact .inr (.inr ht)
 ·rintro (h|h|h)
  ·exact⟨_,h,by simp⟩
  ·exact⟨_,h,by simp⟩
  ·exact⟨_,h,by simp⟩
structure Sk (E:Nat→Nat→Nat→Prop):Prop where
 rot:∀{a b c},E a b c→E b c a
 one:∀{a b c d},E a b c→E a b d→c=d
 ne:∀{a b c},E a b c→a≠b
def En (ts:List Tri) (a b c:Nat):Prop:=((a,b),c)∈ents ts
structure Good (ts:List Tri):Prop where
 ne:∀t∈ts,t.1≠t.2.1∧t.2.1≠t.2.2∧t.2.2≠t.1
 nd:((ents ts).map (·.1)).Nodup
theorem jA {α β:Type} {l:List (α × β)} (h:(l.map (·.1)).Nodup) {a:α} {b c:β} (hb:(a,b)∈l) (hc:(a,c)∈l):b=c:=by
 induction l with
 |nil=>cases hb
 |cons x l ih=>
  rw[List.map_cons,List.nodup_cons] at h
  rcases List.mem_cons.mp hb with e|hb'
  ·rcases List.mem_cons.mp hc with e' | hc'
   ·rw[←e] at e';exact (Prod.mk.inj e').2.symm
   ·exact (h.1 (List.mem_map.mpr ⟨_,hc',by rw[←e]⟩)).elim
  ·rcases List.mem_cons.mp hc with e' | hc'
   ·exact (h.1 (List.mem_map.mpr ⟨_,hb',by rw[←e']⟩)).elim
   ·exact ih h.2 hb' hc'
theorem e8 {l:List Nat} (h:l.Nodup):∀{i j x:Nat},l[i]? = some x→l[j]? = some x→i=j:=by
 induction l with
 |nil=>intro i j x h1;simp at h1
 |cons a l ih=>
  intro i j x h1 h2
  rw[List.nodup_cons] at h
  cases i with
  |zero=>
   cases j with
   |zero=>rfl
   |succ j=>
    simp at h1 h2
    subst h1
    exact (h.1 (List.mem_of_getElem? h2)).elim
  |succ i=>
   cases j with
   |zero=>
    simp at h1 h2
    subst h2
    exact (h.1 (List.mem_of_getElem? h1)).elim
   |succ j=>
    simp at h1 h2
    rw[ih h.2 h1 h2]
theorem Good.sk {ts:List Tri} (g:Good ts):Sk (En ts):=by
 refine⟨fun {a b c} h=>?_,fun {a b c d} h1 h2=>jA g.nd h1 h2,fun {a b c} h=>?_⟩
 ·unfold En at *
  rw[bq] at *
  rcases h with h|h|h
  ·exact .inr (.inl h)
  ·exact .inr (.inr h)
  ·exact .inl h
 ·unfold En at h
  rw[bq] at h
  rcases h with h|h|h
  ·exact (g.ne _ h).1
  ·exact (g.ne _ h).2.1
  ·exact (g.ne _ h).2.2
section
variable {E:Nat→Nat→Nat→Prop}
theorem Sk.inj (k:Sk E) {v p p' q:Nat} (h:E v p q) (h':E v p' q):p=p':=k.one (k.rot (k.rot h)) (k.rot (k.rot h'))
structure Fan (E:Nat→Nat→Nat→Prop) (v:Nat) (F:List Nat):Prop where
 ne:F≠[]
 nd:F.Nodup
 ch:∀i p q,F[i]? = some p→F[i+1]? = some q→E v p q
 key:∀p∈F,∃q,E v p q
 clF:∀p∈F,∀q,E v p q→(∃r,E v q r)→q∈F
 clB:∀p∈F,∀o,E v o p→o∈F
def One (E:Nat→Nat→Nat→Prop) (v:Nat):Prop:=∃F,Fan E v F∧∀p,(∃q,E v p q)→p∈F
theorem rg (k:Sk E) {v:Nat} {L:List Nat} {at_:Nat} (hne:L≠[]) (nd:L.Nodup) (hkey:∀p∈L,∃q,E v p q) (ch:∀i p q,L[i]? = some p→L[i+1]? = some q→E v p q)
  (hlast:∀p,L.getLast? = some p→E v p at_) (hstop:(∃q,E v at_ q)→at_∈L) {s:Nat} (hs:L.head? = some s) (hfirst:(∀o,¬E v o s)∨∀p,(∃q,E v p q)→∃o,E v o p) :
  (∀p,(∃q,E v p q)→p∈L)↔One E v:=by
 constructor
 ·intro hall
  exact⟨L,⟨hne,nd,ch,hkey,fun p _ q _ hq=>hall q hq,fun p _ o ho=>hall o ⟨p,ho⟩⟩,hall⟩
 ·rintro⟨F,hF,hall⟩
  have hsL:s∈L:=by cases L with|nil=>cases hs|cons a l=>cases hs;simp
  have clo:∀x∈L,∀y,E v x y→(∃r,E v y r)→y∈L:=by
   intro x hx y hy hr
   obtain⟨i,hi⟩:=List.getElem?_of_mem hx
   have hil:=(List.getElem?_eq_some_iff.mp hi).1
   by_cases h:i+1 < L.length
   ·have h1:L[i+1]? = some L[i+1]:=List.getElem?_eq_getElem h
    have:=k.one hy (ch i _ _ hi h1)
    rw[this];exact List.mem_of_getElem? h1
   ·have e:L.getLast? = some x:=by rw[List.getLast?_eq_getElem?,show L.length - 1=i by omega];exact hi
    have:=k.one hy (hlast x e)
    rw[this] at hr ⊢
    exact hstop hr
  have hsF:s∈F:=hall s (hkey s hsL)
  obtain⟨j,hj⟩:=List.getElem?_of_mem hsF
  have fw:∀i0:Nat,(∀y,F[i0]? = some y→y∈L)→∀(m:Nat) (y:Nat),F[i0+m]? = some y→y∈L:=by
   intro i0 h0 m
   induction m with
   |zero=>intro y hy;exact h0 y hy
   |succ m ih=>
    intro y hy
    have hl:i0+m < F.length:=by have:=(List.getElem?_eq_some_iff.mp hy).1;omega
    have h1:F[i0+m]? = some F[i0+m]:=List.getElem?_eq_getElem hl
    exact clo _ (ih _ h1) y (hF.ch _ _ _ h1 hy) (hF.key y (List.mem_of_getElem? hy))
  have fromj:=fw j (fun y hy=>by rw[hj] at hy;cases hy;exact hsL)
  have zero:∀y,F[0]? = some y→y∈L:=by
   intro y hy
   by_cases hj0:j=0
   ·subst hj0;rw[hj] at hy;cases hy;exact hsL
   ·have hjl:=(List.getElem?_eq_some_iff.mp hj).1
    have h1:F[j - 1]? = some F[j - 1]:=List.getElem?_eq_getElem (by omega)
    have hin:=hF.ch (j - 1) _ _ h1 (by rw[show j - 1+1=j by omega];exact hj)
    rcases hfirst with h|h
    ·exact (h _ hin).elim
    ·obtain⟨o,ho⟩:=h y (hF.key y (List.mem_of_getElem? hy))
     have hoF:=hF.clB y (List.mem_of_getElem? hy) o ho
     obtain⟨i,hi⟩:=List.getElem?_of_mem hoF
     have hil:=(List.getElem?_eq_some_iff.mp hi).1
     by_cases hlt:i+1 < F.length
     ·have h2:F[i+1]? = some F[i+1]:=List.getElem?_eq_getElem hlt
      have e:=k.one (hF.ch i _ _ hi h2) ho
      rw[e] at h2
      have:=e8 hF.nd h2 hy
      omega
     ·have:o∈L:=fromj (i - j) o (by rw[show j+(i - j)=i by omega];exact hi)
      exact clo o this y ho (hF.key y (List.mem_of_getElem? hy))
  intro p hp
  obtain⟨i,hi⟩:=List.getElem?_of_mem (hall p hp)
  exact fw 0 zero i p (by rw[Nat.zero_add];exact hi)
theorem sv {v:Nat} {F G:List Nat} (ch:∀i p q,F[i]? = some p→F[i+1]? = some q→E v p q) (key:∀p∈F,∃q,E v p q) (hG:Fan E v G) {x:Nat} (x1:x∈F) (x2:x∈G):∀y∈F,y∈G:=by
 obtain⟨j,hj⟩:=List.getElem?_of_mem x1
 have fw:∀(m:Nat) (y:Nat),F[j+m]? = some y→y∈G:=by
  intro m
  induction m with
  |zero=>intro y hy;rw[Nat.add_zero,hj] at hy;cases hy;exact x2
  |succ m ih=>
   intro y hy
   have hl:j+m < F.length:=by have:=(List.getElem?_eq_some_iff.mp hy).1;omega
   have h1:F[j+m]? = some F[j+m]:=List.getElem?_eq_getElem hl
   exact hG.clF _ (ih _ h1) y (ch (j+m) _ _ h1 hy) (key y (List.mem_of_getElem? hy))
 have bw:∀m:Nat,m≤j→∀y:Nat,F[j - m]? = some y→y∈G:=by
  intro m
  induction m with
  |zero=>intro _ y hy;rw[Nat.sub_zero,hj] at hy;cases hy;exact x2
  |succ m ih=>
   intro hm y hy
   have hl:j - m < F.length:=by have:=(List.getElem?_eq_some_iff.mp hj).1;omega
   have h1:F[j - m]? = some F[j - m]:=List.getElem?_eq_getElem hl
   have e:j - (m+1)+1=j - m:=by omega
   exact hG.clB _ (ih (by omega) _ h1) y (ch (j - (m+1)) _ _ hy (by rw[e];exact h1))
 intro y hy
 obtain⟨i,hi⟩:=List.getElem?_of_mem hy
 by_cases h:j≤i
 ·exact fw (i - j) y (by rw[show j+(i - j)=i by omega];exact hi)
 ·exact bw (j - i) (by omega) y (by rw[show j - (j - i)=i by omega];exact hi)
theorem rD (k:Sk E) {v:Nat} {fs:List (List Nat)} {left F:List Nat} {x0:Nat} (hfs:∀G∈fs,Fan E v G) (hleft:∀p,(∃q,E v p q)→p∈left∨∃G∈fs,p∈G) (hdis:∀p∈left,∀G∈fs,p∉G)
  (nd:F.Nodup) (key:∀p∈F,∃q,E v p q) (ch:∀i p q,F[i]? = some p→F[i+1]? = some q→E v p q) (x1:x0∈F) (x2:x0∈left)
  (hend:∀p,F.getLast? = some p→∀q,E v p q→q∈left→q∈F) (hbeg:∀p,F.head? = some p→∀o,E v o p→o∈F):Fan E v F∧∀p∈F,∀G∈fs,p∉G:=by
 have dis:∀p∈F,∀G∈fs,p∉G:=fun p hp G hG hpG=>hdis x0 x2 G hG (sv ch key (hfs G hG) hp hpG x0 x1)
 refine⟨⟨fun z=>(by rw[z] at x1;cases x1),nd,ch,key,fun p hp q hq hr=>?_,fun p hp o ho=>?_⟩,dis⟩
 ·obtain⟨i,hi⟩:=List.getElem?_of_mem hp
  have hil:=(List.getElem?_eq_some_iff.mp hi).1
  by_cases h:i+1 < F.length
  ·have h1:F[i+1]? = some F[i+1]:=List.getElem?_eq_getElem h
   rw[k.one hq (ch i _ _ hi h1)];exact List.mem_of_getElem? h1
  ·have e:F.getLast? = some p:=by rw[List.getLast?_eq_getElem?,show F.length - 1=i by omega];exact hi
   rcases hleft q hr with z|⟨G,hG,hqG⟩
   ·exact hend p e q hq z
   ·exact (dis p hp G hG ((hfs G hG).clB q hqG p hq)).elim
 ·obtain⟨i,hi⟩:=List.getElem?_of_mem hp
  cases i with
  |zero=>exact hbeg p (by rw[List.head?_eq_getElem?];exact hi) o ho
  |succ i=>
   have hil:=(List.getElem?_eq_some_iff.mp hi).1
   have h1:F[i]? = some F[i]:=List.getElem?_eq_getElem (by omega)
   rw[k.inj ho (ch i _ _ h1 hi)];exact List.mem_of_getElem? h1
structure Fans (E:Nat→Nat→Nat→Prop) (v:Nat) (fs:List (List Nat)):Prop where
 fan:∀F∈fs,Fan E v F
 all:∀p,(∃q,E v p q)→∃F∈fs,p∈F
 dis:fs.Pairwise fun F G=>∀p∈F,p∉G
def rn (v n:Nat) (F:List Nat) (a b:Nat):Nat:=if a=v∧b∈F then n else a
def ren (v n:Nat) (F:List Nat) (t:Tri):Tri:=(rn v n F t.1 t.2.1,rn v n F t.2.1 t.2.2,rn v n F t.2.2 t.1)
def Rn (E:Nat→Nat→Nat→Prop) (v n:Nat) (F:List Nat) (x y z:Nat):Prop:=∃a b c,E a b c∧x=rn v n F a b∧y=rn v n F b c∧z=rn v n F c a
theorem vX {ts:List Tri} {v n:Nat} {F:List Nat} {x y z:Nat}:En (ts.map (ren v n F)) x y z↔Rn (En ts) v n F x y z:=by
 unfold En Rn
 rw[bq]
 constructor
 ·intro h
  have key:∀p q r,(p,q,r)∈ts.map (ren v n F)→∃a b c,(a,b,c)∈ts∧p=rn v n F a b∧q=rn v n F b c∧r=rn v n F c a:=by
   intro p q r hp
   obtain⟨⟨a,b,c⟩,ht,e⟩:=List.mem_map.mp hp
   unfold ren at e
   simp only[Prod.mk.injEq] at e
   exact⟨a,b,c,ht,e.1.symm,e.2.1.symm,e.2.2.symm⟩
  rcases h with h|h|h
  ·obtain⟨a,b,c,ht,e1,e2,e3⟩:=key _ _ _ h
   exact⟨a,b,c,bq.mpr (.inl ht),e1,e2,e3⟩
  ·obtain⟨a,b,c,ht,e1,e2,e3⟩:=key _ _ _ h
   exact⟨b,c,a,bq.mpr (.inr (.inl ht)),e2,e3,e1⟩
  ·obtain⟨a,b,c,ht,e1,e2,e3⟩:=key _ _ _ h
   exact⟨c,a,b,bq.mpr (.inr (.inr ht)),e3,e1,e2⟩
 ·rintro⟨a,b,c,h,rfl,rfl,rfl⟩
  rcases bq.mp h with h|h|h
  ·exact .inl (List.mem_map.mpr ⟨_,h,rfl⟩)
  ·exact .inr (.inl (List.mem_map.mpr ⟨_,h,rfl⟩))
  ·exact .inr (.inr (List.mem_map.mpr ⟨_,h,rfl⟩))
theorem ce {v n:Nat} {F:List Nat} {a b:Nat} (h:a≠v):rn v n F a b=a:=by unfold rn;rw[if_neg fun z=>h z.1]
theorem n9 {v n:Nat} {F:List Nat} {b:Nat} (h:b∈F):rn v n F v b=n:=by unfold rn;rw[if_pos ⟨rfl,h⟩]
theorem mV {v n:Nat} {F:List Nat} {b:Nat} (h:b∉F):rn v n F v b=v:=by unfold rn;rw[if_neg fun z=>h z.2]
section
variable {v n:Nat} {F:List Nat}
theorem rn_n {a b:Nat} (ha:a≠n) (h:rn v n F a b=n):a=v∧b∈F:=by
 unfold rn at h
 split at h
 ·assumption
 ·exact (ha h).elim
theorem cH {a b:Nat} (h:rn v n F a b≠n):rn v n F a b=a:=by
 unfold rn at h ⊢
 split
 ·rename_i z;rw[if_pos z] at h;exact (h rfl).elim
 ·rfl
variable (k:Sk E) (fr:∀a b c,E a b c→a≠n) (hF:Fan E v F)
include k fr
theorem fM {p q:Nat}:Rn E v n F n p q↔E v p q∧p∈F:=by
 constructor
 ·rintro⟨a,b,c,h,e1,rfl,rfl⟩
  obtain⟨rfl,hb⟩:=rn_n (fr _ _ _ h) e1.symm
  rw[ce (Ne.symm (k.ne h)),ce (k.ne (k.rot (k.rot h)))]
  exact⟨h,hb⟩
 ·rintro⟨h,hp⟩
  exact⟨v,p,q,h,(n9 hp).symm,(ce (Ne.symm (k.ne h))).symm,(ce (k.ne (k.rot (k.rot h)))).symm⟩
theorem eY (hv:v≠n) {p q:Nat}:Rn E v n F v p q↔E v p q∧p∉F:=by
 constructor
 ·rintro⟨a,b,c,h,e1,rfl,rfl⟩
  have:a=v:=by
   have e2:=cH (v:=v) (n:=n) (F:=F) (a:=a) (b:=b) (by rw[←e1];exact hv)
   rw[e1,e2]
  subst this
  have hb:b∉F:=fun z=>by rw[n9 z] at e1;exact hv e1
  rw[ce (Ne.symm (k.ne h)),ce (k.ne (k.rot (k.rot h)))]
  exact⟨h,hb⟩
 ·rintro⟨h,hp⟩
  exact⟨v,p,q,h,(mV hp).symm,(ce (Ne.symm (k.ne h))).symm,(ce (k.ne (k.rot (k.rot h)))).symm⟩
theorem wq:Sk (Rn E v n F):=by
 refine⟨?_,?_,?_⟩
 ·rintro x y z ⟨a,b,c,h,e1,e2,e3⟩
  exact⟨b,c,a,k.rot h,e2,e3,e1⟩
 ·rintro x y z z' ⟨a,b,c,h,e1,e2,e3⟩ ⟨a',b',c',h',e1',e2',e3'⟩
  have fa:a≠n:=fr _ _ _ h
  have fa':a'≠n:=fr _ _ _ h'
  have fb:b≠n:=fr _ _ _ (k.rot h)
  have fb':b'≠n:=fr _ _ _ (k.rot h')
  have ea:a=a':=by
   by_cases hx:x=n
   ·rw[(rn_n fa (e1.symm.trans hx)).1,(rn_n fa' (e1'.symm.trans hx)).1]
   ·rw[←cH (v:=v) (n:=n) (F:=F) (a:=a) (b:=b) (by rw[←e1];exact hx),←cH (v:=v) (n:=n) (F:=F) (a:=a') (b:=b') (by rw[←e1'];exact hx),←e1,←e1']
  have eb:b=b':=by
   by_cases hy:y=n
   ·rw[(rn_n fb (e2.symm.trans hy)).1,(rn_n fb' (e2'.symm.trans hy)).1]
   ·rw[←cH (v:=v) (n:=n) (F:=F) (a:=b) (b:=c) (by rw[←e2];exact hy),←cH (v:=v) (n:=n) (F:=F) (a:=b') (b:=c') (by rw[←e2'];exact hy),←e2,←e2']
  subst ea eb
  rw[e3,e3',k.one h h']
 ·rintro x y z ⟨a,b,c,h,rfl,rfl,_⟩
  have fa:a≠n:=fr _ _ _ h
  have fb:b≠n:=fr _ _ _ (k.rot h)
  have nab:=k.ne h
  intro e
  by_cases hx:rn v n F a b=n
  ·have h1:=(rn_n fa hx).1
   have h2:=(rn_n fb (e.symm.trans hx)).1
   exact nab (h1.trans h2.symm)
  ·have h1:=cH hx
   have h2:=cH (v:=v) (n:=n) (F:=F) (a:=b) (b:=c) (by rw[←e];exact hx)
   exact nab (by rw[←h1,e,h2])
include hF
theorem qD:One (Rn E v n F) n:=by
 refine⟨F,⟨hF.ne,hF.nd,fun i p q hp hq=>(fM k fr).mpr ⟨hF.ch i p q hp hq,List.mem_of_getElem? hp⟩,fun p hp=>?_,fun p hp q hq hr=>?_,fun p hp o ho=>((fM k fr).mp ho).2⟩,fun p ⟨q,hq⟩=>((fM k fr).mp hq).2⟩
 ·obtain⟨q,hq⟩:=hF.key p hp
  exact⟨q,(fM k fr).mpr ⟨hq,hp⟩⟩
 ·obtain⟨r,hr⟩:=hr
  exact ((fM k fr).mp hr).2
omit hF in
theorem rC (hv:v≠n) {G:List Nat} (hG:Fan E v G) (hd:∀p∈F,p∉G):Fan (Rn E v n F) v G:=by
 have out:∀p∈G,p∉F:=fun p hp z=>hd p z hp
 refine⟨hG.ne,hG.nd,fun i p q hp hq=>(eY k fr hv).mpr ⟨hG.ch i p q hp hq,out p (List.mem_of_getElem? hp)⟩,fun p hp=>?_,fun p hp q hq hr=>?_,fun p hp o ho=>hG.clB p hp o ((eY k fr hv).mp ho).1⟩
 ·obtain⟨q,hq⟩:=hG.key p hp
  exact⟨q,(eY k fr hv).mpr ⟨hq,out p hp⟩⟩
 ·obtain⟨r,hr⟩:=hr
  exact hG.clF p hp q ((eY k fr hv).mp hq).1 ⟨r,((eY k fr hv).mp hr).1⟩
theorem o_ (hv:v≠n) {u:Nat} (huv:u≠v) (hun:u≠n) (h:One E u):One (Rn E v n F) u:=by
 obtain⟨G,hG,hall⟩:=h
 let cond:Prop:=(∃q∈F,E u v q)∨((∃p,E u p v)∧u∈F)
 have dec:=Classical.propDecidable cond
 let ρ:Nat→Nat:=fun x=>if x=v then (if cond then n else v) else x
 have ρo:∀x,x≠v→ρ x=x:=fun x hx=>if_neg hx
 have ρv:ρ v=if cond then n else v:=if_pos rfl
 have rp:∀p q,E u p q→rn v n F p q=ρ p:=by
  intro p q h
  by_cases hp:p=v
  ·subst hp
   by_cases hq:q∈F
   ·rw[n9 hq,ρv,if_pos (.inl ⟨q,hq,h⟩)]
   ·rw[mV hq,ρv,if_neg]
    rintro (⟨q',hq',h'⟩|⟨⟨p',hp'⟩,huF⟩)
    ·exact hq (by rw[k.one h h'];exact hq')
    ·exact hq (hF.clB u huF q (k.rot h))
  ·rw[ce hp,ρo p hp]
 have rq:∀p q,E u p q→rn v n F q u=ρ q:=by
  intro p q h
  by_cases hq:q=v
  ·subst hq
   by_cases hu:u∈F
   ·rw[n9 hu,ρv,if_pos (.inr ⟨⟨p,h⟩,hu⟩)]
   ·rw[mV hu,ρv,if_neg]
    rintro (⟨q',hq',h'⟩|⟨_,huF⟩)
    ·exact hu (hF.clF q' hq' u (k.rot h') ⟨p,k.rot (k.rot h)⟩)
    ·exact hu huF
  ·rw[ce hq,ρo q hq]
 have ru:∀b,rn v n F u b=u:=fun b=>ce huv
 have to:∀p q,E u p q→Rn E v n F u (ρ p) (ρ q):=fun p q h=>⟨u,p,q,h,(ru p).symm,(rp p q h).symm,(rq p q h).symm⟩
 have back:∀x y,Rn E v n F u x y→∃p q,E u p q∧x=ρ p∧y=ρ q:=by
  rintro x y ⟨a,b,c,h,e1,e2,e3⟩
  have ha:a=u:=by
   by_cases hx:rn v n F a b=n
   ·exact (hun (e1.trans hx)).elim
   ·rw[e1,cH hx]
  subst ha
  exact⟨b,c,h,e2.trans (rp b c h),e3.trans (rq b c h)⟩
 have fresh:∀p q,E u p q→p≠n∧q≠n:=fun p q h=>⟨fr _ _ _ (k.rot h),fr _ _ _ (k.rot (k.rot h))⟩
 have inj:∀x y,x≠n→y≠n→ρ x=ρ y→x=y:=by
  intro x y hx hy e
  by_cases h1:x=v
  ·by_cases h2:y=v
   ·rw[h1,h2]
   ·rw[h1,ρo y h2,ρv] at e
    split at e
    ·exact (hy e.symm).elim
    ·exact (h2 e.symm).elim
  ·by_cases h2:y=v
   ·rw[h2,ρo x h1,ρv] at e
    split at e
    ·exact (hx e).elim
    ·exact (h1 e).elim
   ·rw[ρo x h1,ρo y h2] at e;exact e
 have gn:∀x∈G,x≠n:=fun x hx=>by
  obtain⟨q,hq⟩:=hG.key x hx
  exact (fresh x q hq).1
 have gm:∀x,x≠n→ρ x∈G.map ρ→x∈G:=fun x hx h=>by
  obtain⟨y,hy,e⟩:=List.mem_map.mp h
  rw[←inj y x (gn y hy) hx e];exact hy
 have get:∀(i:Nat) (x:Nat),(G.map ρ)[i]? = some x→∃p,G[i]? = some p∧x=ρ p:=fun i x h=>by
  rw[List.getElem?_map] at h
  cases e:G[i]? with
  |none=>rw[e] at h;cases h
  |some p=>rw[e] at h;cases h;exact⟨p,rfl,rfl⟩
 refine⟨G.map ρ,⟨by simpa using hG.ne,?_,fun i p q hp hq=>?_,fun p hp=>?_,fun x hx y hy hr=>?_,fun x hx y hy=>?_⟩,?_⟩
 ·have:∀l:List Nat,(∀x∈l,x≠n)→l.Nodup→(l.map ρ).Nodup:=by
   intro l
   induction l with
   |nil=>intro _ _;exact List.nodup_nil
   |cons a l ih=>
    intro h1 h2
    rw[List.nodup_cons] at h2
    rw[List.map_cons,List.nodup_cons]
    refine⟨fun z=>?_,ih (fun x hx=>h1 x (List.mem_cons_of_mem _ hx)) h2.2⟩
    obtain⟨y,hy,e⟩:=List.mem_map.mp z
    have:=inj y a (h1 y (List.mem_cons_of_mem _ hy)) (h1 a (by simp)) e
    exact h2.1 (this ▸ hy)
  exact this G gn hG.nd
 ·obtain⟨p',hp',rfl⟩:=get i p hp
  obtain⟨q',hq',rfl⟩:=get (i+1) q hq
  exact to p' q' (hG.ch i p' q' hp' hq')
 ·obtain⟨p',hp',rfl⟩:=List.mem_map.mp hp
  obtain⟨q,hq⟩:=hG.key p' hp'
  exact⟨_,to p' q hq⟩
 ·obtain⟨p',hp',rfl⟩:=List.mem_map.mp hx
  obtain⟨p,q,h1,e1,rfl⟩:=back _ _ hy
  have ep:=inj p' p (gn p' hp') (fresh p q h1).1 e1
  subst ep
  obtain⟨r,hr⟩:=hr
  obtain⟨p2,q2,h2,e2,_⟩:=back _ _ hr
  have eq:=inj q p2 (fresh p' q h1).2 (fresh p2 q2 h2).1 e2
  subst eq
  exact List.mem_map.mpr ⟨q,hG.clF p' hp' q h1 ⟨q2,h2⟩,rfl⟩
 ·obtain⟨p',hp',rfl⟩:=List.mem_map.mp hx
  obtain⟨p,q,h1,rfl,e1⟩:=back _ _ hy
  have eq:=inj p' q (gn p' hp') (fresh p q h1).2 e1
  subst eq
  exact List.mem_map.mpr ⟨p,hG.clB p' hp' p h1,rfl⟩
 ·rintro x ⟨y,hy⟩
  obtain⟨p,q,h1,rfl,_⟩:=back _ _ hy
  exact List.mem_map.mpr ⟨p,hall p ⟨q,h1⟩,rfl⟩
end
end
end K15
end
section
namespace K31
open PySem L2 K51
theorem ah {H H1:Hp} {p:Addr} {o:HO} (g:H p=none) (e:upd H p o=H1):Same H H1:=by rw[←e];exact aw g
theorem ak {H H1:Hp} {p:Addr} {o:HO} (e:upd H p o=H1):H1 p=some o:=by rw[←e];exact ao
def nV (l:List Nat):List V:=l.map fun n:Nat=>V.int (n:Int)
def LpAt (H:Hp) (v:V) (l:List Nat):Prop:=∃a,v=.ref a∧H a=some (.lst (nV l))
abbrev jR (H:Hp):List V→Lps→Prop:=Paired (LpAt H)
def TrAt (H:Hp) (v:V) (t:Nat × Nat × Nat):Prop:=∃a,v=.ref a∧H a=some (.tup [.int (t.1:Int),.int (t.2.1:Int),.int (t.2.2:Int)])
abbrev ay (H:Hp):List V→List (Nat × Nat × Nat)→Prop:=Paired (TrAt H)
theorem LpAt.same {H H':Hp} {v:V} {l:List Nat} (s:Same H H') (h:LpAt H v l):LpAt H' v l:=by
 obtain⟨a,e,h⟩:=h
 exact⟨a,e,s a _ h⟩
theorem jR.same {H H':Hp} {vs:List V} {ls:Lps} (s:Same H H') (h:jR H vs ls):jR H' vs ls:=Paired.imp' (fun _ _ q=>q.same s) h
theorem TrAt.same {H H':Hp} {v:V} {t:Nat × Nat × Nat} (s:Same H H') (h:TrAt H v t):TrAt H' v t:=by
 obtain⟨a,e,h⟩:=h
 exact⟨a,e,s a _ h⟩
theorem ay.same {H H':Hp} {vs:List V} {ls:List (Nat × Nat × Nat)} (s:Same H H') (h:ay H vs ls):ay H' vs ls:=Paired.imp' (fun _ _ q=>q.same s) h
section
variable {α β:Type} {F:α→β→Prop}
theorem az:∀{xs:List α} {ys:List β},Paired F xs ys→xs.length=ys.length
 |_,_,.nil=>rfl
 |_,_,.cons _ t=>by rw[List.length_cons,List.length_cons,az t]
theorem bU:∀{xs:List α} {ys:List β} {xs':List α} {ys':List β},Paired F xs ys→Paired F xs' ys'→Paired F (xs++xs') (ys++ys')
 |_,_,_,_,.nil,h=>h
 |_,_,_,_,.cons a t,h=>.cons a (bU t h)
theorem og:∀{xs:List α} {ys:List β} (k:Nat),Paired F xs ys→Paired F (xs.take k) (ys.take k)
 |_,_,0,_=>by simp only[List.take_zero];exact .nil
 |_,_,_+1,.nil=>by simp only[List.take_nil];exact .nil
 |_,_,k+1,.cons a t=>.cons a (og k t)
theorem mZ:∀{xs:List α} {ys:List β} {i:Nat} {y:β},Paired F xs ys→ys[i]? = some y→∃x,xs[i]? = some x∧F x y
 |_,_,_,_,.nil,h=>by simp at h
 |_,_,0,_,.cons a t,h=>by
  simp at h
  subst h
  exact⟨_,rfl,a⟩
 |_,_,i+1,_,.cons a t,h=>by simpa using mZ (i:=i) t (by simpa using h)
theorem aS:∀{xs:List α} {ys:List β} {i:Nat} {x:α},Paired F xs ys→xs[i]? = some x→∃y,ys[i]? = some y∧F x y
 |_,_,_,_,.nil,h=>by simp at h
 |_,_,0,_,.cons a t,h=>by
  simp at h
  subst h
  exact⟨_,rfl,a⟩
 |_,_,i+1,_,.cons a t,h=>by simpa using aS (i:=i) t (by simpa using h)
end
theorem aN (l:List Nat):(nV l).length=l.length:=List.length_map ..
theorem dJ (l r:List Nat):nV l++nV r=nV (l++r):=(List.map_append ..).symm
theorem nq (n:Nat):[V.int (n:Int)]=nV [n]:=rfl
theorem vF {l:List Nat} {i n:Nat} (h:l[i]? = some n):(nV l)[i]? = some (.int (n:Int)):=by
 unfold nV
 rw[List.getElem?_map,h];rfl
theorem aK {H H1:Hp} {p:Addr} {o:HO} (e:upd H p o=H1):∀b,b≠p→H1 b=H b:=fun b hb=>by rw[←e,au hb]
def ky (p q:Nat):List Key:=[Sum.inl (p:Int),Sum.inl (q:Int)]
theorem kO {p q p' q':Nat}:ky p q=ky p' q'↔(p,q)=(p',q'):=by
 unfold ky
 constructor
 ·intro h
  injection h with h1 h2
  injection h2 with h2 _
  injection h1 with h1
  injection h2 with h2
  have:p=p':=by omega
  have:q=q':=by omega
  simp[*]
 ·intro h
  injection h with h1 h2
  rw[h1,h2]
def SdAt (H:Hp) (v:V) (s:Side):Prop:=∃a,v=.ref a∧H a=some (.tup ((ky s.1 s.2).map kV))
abbrev SdsAt (H:Hp):List V→List Side→Prop:=Paired (SdAt H)
theorem lit1:1≤sizeLine:=by show 1≤sizeLine;decide
theorem lit2:2≤sizeLine:=by show 2≤sizeLine;decide
theorem lit3:3≤sizeLine:=by show 3≤sizeLine;decide
theorem aR {X:Cx} {N:List Str} {fr:List (Option Nat)} {scope:Scope} (nd:N.Nodup) (len:fr.length=N.length) (kind:scope.kind=.function) (nc:scope.names.all (fun y=>y.2 != .cell)=true)
  (nm:scope.names.all (fun y=>y.2 != .local||scope.names.lookup y.1==some .local)=true)
  (frc:∀y∈scope.names,y.2=.free→X.env.kindOf y.1=some .cell∨X.env.kindOf y.1=some .free)
  (frn:∀(j i:Nat) (x:Str),fr[j]? = some (some i)→N[j]? = some x→X.N[i]? = some x∧scope.names.lookup x=some .free):bQ X N fr scope:=by
 refine⟨nd,len,kind,fun y hy=>?_,fun y hy e=>?_,frc,frn⟩
 ·have:=List.all_eq_true.mp nc y hy
  simpa using this
 ·have:=List.all_eq_true.mp nm y hy
  rw[e] at this
  simpa using this
end K31
end
section
namespace K51
open PySem L2
def mixed (ns:List Int) (k:Int):Int:=(ns.take 40).foldl (fun s c=>(s * 48271+c) % 2147483647) (7+1009 * k)
def gE (ns:List Int) (k:Int):Int:=if k < (ns.length:Int) then ns.getD k.toNat 0 else 0
def potOf (ns:List Int) (k:Int):Int × Int:=(if gE ns k < 1000000000000000000 then 0 else gE ns k,mixed ns k)
def refill (p:Int × Int):Int × Int:=if p.1=0 then (((p.2 * 16807+11) % 2147483647) * ((p.2 * 16807+11) % 2147483647) % 2147483629,(p.2 * 16807+11) % 2147483647) else p
def digO (p:Int × Int) (b:Int):Int:=(refill p).1 % b
def nxt (p:Int × Int) (b:Int):Int × Int:=((refill p).1 / b,(refill p).2)
def potV (p:Int × Int):List V:=[.int p.1,.int p.2]
def bn (p:Int × Int):Prop:=-(2 ^ 60) < p.2∧p.2 < 2 ^ 60
theorem oV {p:Int × Int} (h:bn p):bn (refill p):=by
 unfold refill
 split
 ·have:=Int.emod_lt_of_pos (p.2 * 16807+11) (show (0:Int) < 2147483647 by decide)
  have:=Int.emod_nonneg (p.2 * 16807+11) (show (2147483647:Int)≠0 by decide)
  unfold bn
  constructor <;> (show _ < _;omega)
 ·exact h
theorem aY {p:Int × Int} {b:Int} (h:bn p):bn (nxt p b):=oV h
theorem iQ (ns:List Int) {k:Int} (h0:0≤k) (h1:k < 1000):-(2 ^ 60) < mixed ns k∧mixed ns k < 2 ^ 60:=by
 unfold mixed
 have:∀(l:List Int) (s:Int),(-(2 ^ 60) < s∧s < 2 ^ 60)→(-(2 ^ 60) < l.foldl (fun s c=>(s * 48271+c) % 2147483647) s∧l.foldl (fun s c=>(s * 48271+c) % 2147483647) s < 2 ^ 60):=by
  intro l
  induction l with
  |nil=>intro s h;exact h
  |cons c r ih=>
   intro s h
   rw[List.foldl_cons]
   refine ih _ ?_
   have:=Int.emod_lt_of_pos (s * 48271+c) (show (0:Int) < 2147483647 by decide)
   have:=Int.emod_nonneg (s * 48271+c) (show (2147483647:Int)≠0 by decide)
   constructor <;> omega
 exact this _ _ (by constructor <;> omega)
theorem dP {X:Cx}:OpR X (binaryOp .FloorDiv) (rI (fun _ j=>0 < j∧j.natAbs.log2 < 9000) fun i j=>.int (i / j)):=opI fun i j _ _ _ _ _ hc q=>by
 have e:i.fdiv j=i / j:=by rw[Int.fdiv_eq_ediv_of_nonneg _ (Int.le_of_lt hc.1)]
 rw[←e] at q
 exact PyProof.Rows.floordiv_int (by omega) q (.inl (PyProof.noPylong_of_log2 hc.2))
def spAt (K:W.Frag):Sp:=fun vs H Q _=>∃(a:Addr) (ns:List Int) (k:Int),vs=[.ref a,.int k]∧SqL K H a (ns.map V.int)∧0≤k∧Q (.int (gE ns k)) H
def qe (K:W.Frag):Sp:=fun vs H Q _=>∃(a:Addr) (ns:List Int) (k:Int),vs=[.ref a,.int k]∧SqL K H a (ns.map V.int)∧0≤k∧k < 1000 ∧
 ∀(p:Addr) (H':Hp),H p=none→Same H H'→H' p=some (.lst (potV (potOf ns k)))→Q (.ref p) H'
def c_:Sp:=fun vs H Q _=>∃(p:Addr) (q:Int × Int) (b:Int),vs=[.ref p,.int b]∧H p=some (.lst (potV q))∧bn q∧0 < b∧b.natAbs.log2 < 9000∧Q (.int (digO q b)) (upd H p (.lst (potV (nxt q b))))
section
variable {P:Program} {w:World} {K:W.Frag} {mg:Str→Option Value} {base:Heap}
theorem scAt:aB ["_law_script","_law_k"] ["_law_script","_law_k"] (ae sAt):=⟨rfl,rfl,rfl,by decide +kernel,rfl,by decide +kernel,by decide +kernel⟩
theorem wD {f:Addr} {fd:FuncData} (U:Fun K "_law_at" "_law_at" sAt f fd) (T:TxtN mg):FnOk P w K mg base CX0 1 f fd ["_law_script","_law_k"] (spAt K):=by
 refine U.ok scAt (fun vs H Q E h=>?_) (fun cdv A outer s H vs Q E hr h=>?_)
 ·obtain⟨a,ns,k,rfl,_⟩:=h
  rfl
 ·obtain⟨a,ns,k,rfl,hS,h0,q⟩:=h
  refine⟨_,af (bH (aF ol (pv 1) (aC aX (by rfl) T.len PySem.boot_len (aa (pv 0) ac)) (nomark _)) (am (aD (cq aW (pv 0) (pv 1) (fun _ _=>rfl)))) aJ) (am (aD al)),?_⟩
  refine⟨_,rfl,_,rfl,a,_,rfl,.inl hS,_,_,rfl,rfl,_,rfl,?_⟩
  unfold gE at q
  rw[List.length_map]
  refine ite2 (fun c=>?_) (fun c=>?_)
  ·have c:k < (ns.length:Int):=of_decide_eq_true c
   rw[if_pos c] at q
   have hk:k.toNat < ns.length:=by omega
   refine⟨_,rfl,_,rfl,a,_,k,.int (ns.getD k.toNat 0),rfl,rfl,hS,?_,q⟩
   have e:((k.toNat:Nat):Int)=k:=by omega
   rw[←e]
   refine bY ?_
   have e2:ns[k.toNat]? = some (ns.getD k.toNat 0):=by simp[List.getD,hk]
   rw[List.getElem?_map,e2]
   rfl
  ·have c:¬k < (ns.length:Int):=fun z=>c (decide_eq_true z)
   rw[if_neg c] at q
   exact q
theorem n8:aB ["_law_pot_here","_law_base","_law_digit_here"] ["_law_pot_here","_law_base"] (ae dG):=⟨rfl,rfl,rfl,by decide +kernel,rfl,by decide +kernel,by decide +kernel⟩
theorem qP {f:Addr} {fd:FuncData} (U:Fun K "_law_digit" "_law_digit" dG f fd):FnOk P w K mg base CX0 1 f fd ["_law_pot_here","_law_base"] c_:=by
 refine U.ok n8 (fun vs H Q E h=>?_) (fun cdv A outer s H vs Q E hr h=>?_)
 ·obtain⟨p,q,b,rfl,_⟩:=h
  rfl
 ·obtain⟨p,⟨n,z⟩,b,rfl,hp,hok,hb0,hb1,q⟩:=h
  refine⟨_,af (bH (aF fk (cq aW (pv 0) al (fun _ _=>rfl)) al (nomark _))
    (af (dI (aA cY (aA aV (aA cX (cq aW (pv 0) al (fun _ _=>rfl)) al) al) al) (m7 (pv 0) al iE))
     (am (dI (aA cY (aA cX (cq aW (pv 0) al (fun _ _=>rfl)) (cq aW (pv 0) al (fun _ _=>rfl))) al) (m7 (pv 0) al iE)))) aJ)
   (af (ax (i:=2) n8.nd rfl (Or.inl rfl) (aA cY (cq aW (pv 0) al (fun _ _=>rfl)) (pv 1)))
   (af (dI (aA dP (cq aW (pv 0) al (fun _ _=>rfl)) (pv 1)) (m7 (pv 0) al iE))
   (am (aD (pv 2))))),?_⟩
  have a0:∀(x y:Int),atI [V.int x,V.int y] 0=some (V.int x):=fun _ _=>rfl
  have a1:∀(x y:Int),atI [V.int x,V.int y] 1=some (V.int y):=fun _ _=>rfl
  have b0:∀(x y:V),ixN [x,y].length 0=some 0:=fun _ _=>rfl
  have b1:∀(x y:V),ixN [x,y].length 1=some 1:=fun _ _=>rfl
  have hz1:=hok.1
  have hz2:=hok.2
  refine⟨_,rfl,p,_,0,_,rfl,rfl,SqL.of hp,a0 _ _,rfl,_,rfl,?_⟩
  have hz1:-(2 ^ 60) < z:=hz1
  have hz2:z < 2 ^ 60:=hz2
  refine ite2 (fun c=>?_) (fun c=>?_)
  ·have c:n=0:=by
    have:=of_decide_eq_true c
    injection this
   have m1:=Int.emod_lt_of_pos (z * 16807+11) (show (0:Int) < 2147483647 by decide)
   have m2:=Int.emod_nonneg (z * 16807+11) (show (2147483647:Int)≠0 by decide)
   have u1:=ao (H:=H) (a:=p) (o:=.lst [V.int n,V.int ((z * 16807+11) % 2147483647)])
   refine⟨_,rfl,p,_,1,_,rfl,rfl,SqL.of hp,a1 _ _,_,_,rfl,rfl,.inl ⟨by omega,by omega⟩,_,_,rfl,rfl,_,_,rfl,rfl,(show (0:Int) < 2147483647 by decide),_,rfl,p,_,_,_,rfl,rfl,hp,b1 _ _,?_⟩
   refine⟨_,rfl,p,_,1,_,rfl,rfl,SqL.of u1,a1 _ _,_,rfl,p,_,1,_,rfl,rfl,SqL.of u1,a1 _ _,_,_,rfl,rfl,.inl ⟨by omega,by omega⟩,_,_,rfl,rfl,(show (0:Int) < 2147483629 by decide),_,rfl,p,_,_,_,rfl,rfl,u1,b0 _ _,?_⟩
   have u2:=ao (H:=upd H p (.lst [V.int n,V.int ((z * 16807+11) % 2147483647)])) (a:=p) (o:=.lst [V.int ((z * 16807+11) % 2147483647 * ((z * 16807+11) % 2147483647) % 2147483629),V.int ((z * 16807+11) % 2147483647)])
   refine⟨_,rfl,p,_,0,_,rfl,rfl,SqL.of u2,a0 _ _,_,rfl,_,_,rfl,rfl,hb0,?_⟩
   refine⟨_,rfl,p,_,0,_,rfl,rfl,SqL.of u2,a0 _ _,_,rfl,_,_,rfl,rfl,⟨hb0,hb1⟩,_,rfl,p,_,_,_,rfl,rfl,u2,b0 _ _,?_⟩
   refine⟨_,rfl,?_⟩
   rw[cF,cF]
   have e:refill (n,z)=((z * 16807+11) % 2147483647 * ((z * 16807+11) % 2147483647) % 2147483629,(z * 16807+11) % 2147483647):=by
    unfold refill;rw[if_pos c]
   unfold digO nxt potV at q
   rw[e] at q
   exact q
  ·have c:¬n=0:=fun y=>c (by rw[y];exact decide_eq_true rfl)
   refine⟨_,rfl,p,_,0,_,rfl,rfl,SqL.of hp,a0 _ _,_,rfl,_,_,rfl,rfl,hb0,?_⟩
   refine⟨_,rfl,p,_,0,_,rfl,rfl,SqL.of hp,a0 _ _,_,rfl,_,_,rfl,rfl,⟨hb0,hb1⟩,_,rfl,p,_,_,_,rfl,rfl,hp,b0 _ _,?_⟩
   refine⟨_,rfl,?_⟩
   have e:refill (n,z)=(n,z):=by
    unfold refill;rw[if_neg c]
   unfold digO nxt potV at q
   rw[e] at q
   exact q
theorem jv:aB ["_law_script","_law_k","_law_seed","_law_cell","_law_number"] ["_law_script","_law_k"] (ae sPot):=⟨rfl,rfl,rfl,by decide +kernel,rfl,by decide +kernel,by decide +kernel⟩
theorem p9 (ns:List Int):cutV (ns.map V.int) none (some 40)=(ns.take 40).map V.int:=by
 unfold cutV
 have e1:HT.sIx (ns.map V.int).length 0 none=0:=rfl
 have e2:HT.sIx (ns.map V.int).length (ns.map V.int).length (some 40)=min 40 ns.length:=by
  rw[List.length_map]
  have:=HT.sIx_nat ns.length ns.length 40
  simpa using this
 rw[e1,e2,List.drop_zero,←List.map_take,Nat.sub_zero]
 congr 1
 rw[List.take_eq_take_iff]
 omega
theorem vB {f fA:Addr} {fd fdA:FuncData} (U:Fun K "_law_pot" "_law_pot" sPot f fd) (UA:Fun K "_law_at" "_law_at" sAt fA fdA) (bA:Binds K fdA ["_law_script","_law_k"] []) (mA:mg "_law_at" = some (.ref fA)) (kA:W.keepIn K (.ref fA)=true) (T:TxtN mg) :
  FnOk P w K mg base CX0 2 f fd ["_law_script","_law_k"] (qe K):=by
 have GA:FnOk P w K mg base CX0 1 fA fdA ["_law_script","_law_k"] (spAt K):=wD UA T
 refine U.ok jv (fun vs H Q E h=>?_) (fun cdv A outer s H vs Q E hr h=>?_)
 ·obtain⟨a,ns,k,rfl,_⟩:=h
  rfl
 ·obtain⟨a,ns,k,rfl,hS,h0,h1,q⟩:=h
  refine⟨_,af (ax (i:=2) jv.nd rfl (Or.inl rfl) (aA aV al (aA cX al (pv 1))))
   (af (ba PassesOwn.never rfl (aG (fR nX (pv 0) ic (ib al))) (aq (i:=3) jv.nd rfl (Or.inl rfl))
    (am (ax (i:=2) jv.nd rfl (Or.inl rfl) (aA cY (aA aV (aA cX (pv 2) al) (pv 3)) al))))
   (af (ax (i:=4) jv.nd rfl (Or.inl rfl) (ar GA hr rfl mA kA bA .nil pass0 (aa (pv 0) (aa (pv 1) ac))))
   (af (bH (aF ol (pv 4) (aA kI al al) (nomark _)) (am (ax (i:=4) jv.nd rfl (Or.inl rfl) al)) aJ)
   (am (aD (bc (aa (pv 4) (aa (pv 2) ac)))))))),?_⟩
  refine⟨_,rfl,_,_,rfl,rfl,.inl ⟨by omega,by omega⟩,_,_,rfl,rfl,?_⟩
  refine⟨_,rfl,40,rfl,a,_,rfl,hS,fun l hl=>?_⟩
  rw[p9]
  have sm:Same H (upd H l (.lst ((ns.take 40).map V.int))):=fun b o e=>by rw[au (ag e hl)];exact e
  refine⟨l,rfl,⟨_,SqL.of ao⟩,bd (K:=K) (a:=l) (xs:=(ns.take 40).map V.int) (fun i σ H2=>∃v,σ=[some (.ref a),some (.int k),some (.int (((ns.take 40).take i).foldl (fun s c=>(s * 48271+c) % 2147483647) (7+1009 * k))),v,none]∧H2=upd H l (.lst ((ns.take 40).map V.int)) ∧
   (-(2 ^ 60) < (((ns.take 40).take i).foldl (fun s c=>(s * 48271+c) % 2147483647) (7+1009 * k))∧(((ns.take 40).take i).foldl (fun s c=>(s * 48271+c) % 2147483647) (7+1009 * k)) < 2 ^ 60))
   ⟨none,rfl,rfl,by simp only[List.take_zero,List.foldl_nil];constructor <;> omega⟩ (fun i σ H2 _ ⟨_,_,e,_⟩=>by rw[e];exact SqL.of ao) ?_ ?_⟩
  ·rintro i y σ H2 hi ⟨v,rfl,rfl,hb1,hb2⟩
   obtain⟨c,hc,rfl⟩:∃c,(ns.take 40)[i]? = some c∧V.int c=y:=by
    rw[List.getElem?_map] at hi
    exact Option.map_eq_some_iff.mp hi
   have e:(ns.take 40).take (i+1)=(ns.take 40).take i++[c]:=by rw[List.take_add_one,hc];rfl
   refine⟨_,rfl,_,_,rfl,rfl,.inl ⟨by omega,by omega⟩,_,rfl,_,_,rfl,rfl,_,_,rfl,rfl,(show (0:Int) < 2147483647 by decide),?_⟩
   refine⟨some (.int c),?_,rfl,?_⟩
   ·rw[e,List.foldl_append];rfl
   ·rw[e,List.foldl_append]
    have m1:=Int.emod_lt_of_pos ((((ns.take 40).take i).foldl (fun s c=>(s * 48271+c) % 2147483647) (7+1009 * k)) * 48271+c) (show (0:Int) < 2147483647 by decide)
    have m2:=Int.emod_nonneg ((((ns.take 40).take i).foldl (fun s c=>(s * 48271+c) % 2147483647) (7+1009 * k)) * 48271+c) (show (2147483647:Int)≠0 by decide)
    simp only[List.foldl_cons,List.foldl_nil]
    constructor <;> omega
  ·rintro σ H2 ⟨v,rfl,rfl,_,_⟩
   rw[List.length_map,List.take_length]
   refine⟨_,rfl,_,rfl,a,ns,k,rfl,sm.seq hS,h0,?_⟩
   refine⟨_,rfl,_,_,rfl,rfl,⟨by decide,by decide,by decide⟩,_,_,rfl,rfl,_,rfl,?_⟩
   have fin:∀(r:Addr),upd H l (.lst ((ns.take 40).map V.int)) r=none→Q (.ref r) (upd (upd H l (.lst ((ns.take 40).map V.int))) r (.lst (potV (potOf ns k)))):=fun r hr'=>
    q r _ (sm.free hr') (sm.trans fun b o e=>by rw[au (ag e hr')];exact e) ao
   unfold potOf at fin
   refine ite2 (fun c=>?_) (fun c=>?_)
   ·have c:gE ns k < 1000000000000000000:=of_decide_eq_true c
    rw[if_pos c] at fin
    exact⟨_,rfl,_,rfl,(show 2≤sizeLine by decide),fun r hr'=>fin r hr'⟩
   ·have c:¬gE ns k < 1000000000000000000:=fun y=>c (decide_eq_true y)
    rw[if_neg c] at fin
    exact⟨_,rfl,_,rfl,(show 2≤sizeLine by decide),fun r hr'=>fin r hr'⟩
end
theorem be {q:Int × Int} {b:Int} (hb:0 < b):0≤digO q b∧digO q b < b:=⟨Int.emod_nonneg _ (by omega),Int.emod_lt_of_pos _ hb⟩
theorem df {b:Int} (h0:0 < b) (h:b≤10 ^ 60):b.natAbs.log2 < 9000:=by
 have h1:b.natAbs≠0:=by omega
 refine (Nat.log2_lt h1).mpr ?_
 have h2:b.natAbs≤10 ^ 60:=by omega
 exact Nat.lt_of_le_of_lt h2 (Nat.lt_of_lt_of_le (show 10 ^ 60 < 2 ^ 200 by decide) (Nat.pow_le_pow_right (by decide) (by decide)))
end K51
end
section
namespace K15
open PySem L2 K51 K31
def entV (e:Ent):List Key × V:=(ky e.1.1 e.1.2,V.int (e.2:Int))
theorem cu {l:List Ent} {p q:Nat}:valV (l.map entV) (ky p q)=none↔(p,q)∉l.map (·.1):=by
 induction l with
 |nil=>simp[valV]
 |cons e l ih=>
  rw[List.map_cons,List.map_cons,List.mem_cons]
  by_cases h:(entV e).1=ky p q
  ·rw[cE h]
   have:e.1=(p,q):=kO.mp h
   simp[this]
  ·rw[b_ h,ih]
   have:(p,q)≠e.1:=fun z=>h (kO.mpr (by rw[z]))
   simp[this]
theorem iq {l:List Ent} (nd:(l.map (·.1)).Nodup) {p q c:Nat}:valV (l.map entV) (ky p q)=some (V.int (c:Int))↔((p,q),c)∈l:=by
 induction l with
 |nil=>simp[valV]
 |cons e l ih=>
  rw[List.map_cons,List.nodup_cons] at nd
  rw[List.map_cons,List.mem_cons]
  by_cases h:(entV e).1=ky p q
  ·rw[cE h]
   have e1:e.1=(p,q):=kO.mp h
   constructor
   ·intro z
    injection z with z
    injection z with z
    left
    have:e.2=c:=by omega
    rw[←e1,←this]
   ·rintro (z|z)
    ·rw[←z];rfl
    ·exact (nd.1 (List.mem_map.mpr ⟨_,z,e1.symm⟩)).elim
  ·rw[b_ h,ih nd.2]
   constructor
   ·exact .inr
   ·rintro (z|z)
    ·exact (h (kO.mpr (by rw[←z]))).elim
    ·exact z
theorem sP {l:List Ent} {p q:Nat} {v:V} (h:valV (l.map entV) (ky p q)=some v):∃c:Nat,v=V.int (c:Int):=by
 induction l with
 |nil=>cases h
 |cons e l ih=>
  rw[List.map_cons] at h
  by_cases h1:(entV e).1=ky p q
  ·rw[cE h1] at h
   injection h with h
   exact⟨e.2,h.symm⟩
  ·rw[b_ h1] at h
   exact ih h
theorem nN {ts:List Tri} (g:Good ts) (p q:Nat):(∃c,En ts p q c∧valV ((ents ts).map entV) (ky p q)=some (V.int (c:Int)))∨((∀c,¬En ts p q c)∧valV ((ents ts).map entV) (ky p q)=none):=by
 cases h:valV ((ents ts).map entV) (ky p q) with
 |none=>
  refine .inr ⟨fun c hc=>?_,rfl⟩
  exact cu.mp h (List.mem_map.mpr ⟨_,hc,rfl⟩)
 |some v=>
  obtain⟨c,rfl⟩:=sP h
  exact .inl ⟨c,(iq g.nd).mp h,rfl⟩
theorem cA (a b:List Tri):ents (a++b)=ents a++ents b:=by simp[ents]
theorem cf (ts:List Tri):(ents ts).length=3 * ts.length:=by
 induction ts with
 |nil=>rfl
 |cons t ts ih=>
  rw[show t::ts=[t]++ts from rfl,cA,List.length_append,ih,List.length_append]
  show 3+_=3 * (1+_)
  omega
theorem hV {l:List Ent} {a b c:Nat} (h:((l++[((a,b),c)]).map (·.1)).Nodup):(l.map (·.1)).Nodup∧(a,b)∉l.map (·.1):=by
 rw[List.map_append,List.nodup_append] at h
 refine⟨h.1,fun z=>?_⟩
 exact h.2.2 _ z (a,b) (by simp) rfl
theorem h_ {l:List Ent} {a b c:Nat} (h:(a,b)∉l.map (·.1)):putK (l.map entV) (ky a b) (V.int (c:Int))=(l++[((a,b),c)]).map entV:=by
 rw[fP _ (cu.mpr h),List.map_append];rfl
def ck (t:Tri):List (Nat × Nat):=[(t.1,t.2.1),(t.2.1,t.2.2),(t.2.2,t.1)]
def hJ:Sp:=fun vs H Q _=>∃(t:Addr) (x:Tri),vs=[.ref t]∧H t=some (.tup [.int (x.1:Int),.int (x.2.1:Int),.int (x.2.2:Int)]) ∧
 ∀r zs H',H r=none→Same H H'→H' r=some (.lst zs)→SdsAt H' zs (ck x)→Q (.ref r) H'
def cv:Sp:=fun vs H Q _=>∃(T:Addr) (vt:List V) (ts:List Tri),vs=[.ref T]∧H T=some (.lst vt)∧ay H vt ts∧ts.length≤400∧((ents ts).map (·.1)).Nodup ∧
 ∀D H',H D=none→Same H H'→H' D=some (.dT ((ents ts).map entV))→Q (.ref D) H'
def gO (ts:List Tri) (x:Tri):Bool:=(ck x).all fun s=>decide (s∉(ents ts).map (·.1))
def j8:Sp:=fun vs H Q _=>∃(D t:Addr) (ts:List Tri) (x:Tri),vs=[.ref D,.ref t]∧H D=some (.dT ((ents ts).map entV))∧H t=some (.tup [.int (x.1:Int),.int (x.2.1:Int),.int (x.2.2:Int)]) ∧
 ∀H',Same H H'→Q (.bl (gO ts x)) H'
section
variable {P:Program} {w:World} {K:W.Frag} {mg:Str→Option Value} {base:Heap}
theorem hW:aB ["_law_triple","_law_a","_law_b","_law_c"] ["_law_triple"] (ae dv):=⟨rfl,rfl,rfl,by decide +kernel,rfl,by decide +kernel,by decide +kernel⟩
theorem qJ {f:Addr} {fd:FuncData} (U:Fun K "_law_sides" "_law_sides" dv f fd):FnOk P w K mg base CX0 1 f fd ["_law_triple"] hJ:=by
 refine U.ok hW (fun vs H Q E h=>?_) (fun cdv A outer s H vs Q E hr h=>?_)
 ·obtain⟨t,x,rfl,_⟩:=h
  rfl
 ·obtain⟨t,x,rfl,ht,q⟩:=h
  refine⟨_,af (dI (pv 0) (bV rfl (av (aq (i:=1) hW.nd rfl (Or.inl rfl)) (av (aq (i:=2) hW.nd rfl (Or.inl rfl)) (av (aq (i:=3) hW.nd rfl (Or.inl rfl)) bf)))))
   (am (aD (bc (aa (aE (aa (pv 1) (aa (pv 2) ac))) (aa (aE (aa (pv 2) (aa (pv 3) ac))) (aa (aE (aa (pv 3) (aa (pv 1) ac))) ac)))))),?_⟩
  refine⟨_,rfl,t,_,rfl,SqT.of ht,rfl,_,_,rfl,_,_,rfl,_,_,rfl,rfl,?_⟩
  refine⟨_,rfl,_,rfl,lit2,fun t1 h1=>?_⟩
  (generalize z:upd H t1 _=H1;have s1:=ah h1 z;have y1:=ak z;clear z)
  refine⟨_,rfl,_,rfl,lit2,fun t2 h2=>?_⟩
  (generalize z:upd H1 t2 _=H2;have s2:=ah h2 z;have y2:=ak z;clear z)
  refine⟨_,rfl,_,rfl,lit2,fun t3 h3=>?_⟩
  (generalize z:upd H2 t3 _=H3;have s3:=ah h3 z;have y3:=ak z;clear z)
  refine⟨lit3,fun r h4=>?_⟩
  (generalize z:upd H3 r _=H4;have s4:=ah h4 z;have y4:=ak z;clear z)
  exact q r _ H4 (((s1.trans s2).trans s3).free h4) (((s1.trans s2).trans s3).trans s4) y4 (.cons ⟨t1,rfl,((s2.trans s3).trans s4) _ _ y1⟩ (.cons ⟨t2,rfl,(s3.trans s4) _ _ y2⟩ (.cons ⟨t3,rfl,s4 _ _ y3⟩ .nil)))
theorem eK:aB ["_law_triples","_law_thirds_here","_law_a","_law_b","_law_c"] ["_law_triples"] (ae cR):=⟨rfl,rfl,rfl,by decide +kernel,rfl,by decide +kernel,by decide +kernel⟩
theorem pb {f:Addr} {fd:FuncData} (U:Fun K "_law_thirds" "_law_thirds" cR f fd):FnOk P w K mg base CX0 1 f fd ["_law_triples"] cv:=by
 refine U.ok eK (fun vs H Q E h=>?_) (fun cdv A outer s H vs Q E hr h=>?_)
 ·obtain⟨T,vt,ts,rfl,_⟩:=h
  rfl
 ·obtain⟨T,vt,ts,rfl,hT,ht,hl,hnd,q⟩:=h
  have hu:=cL hr
  refine⟨_,af (ax (i:=1) eK.nd rfl (Or.inl rfl) lG)
   (af (ba PassesOwn.never rfl (aG (pv 0)) (bV rfl (av (aq (i:=2) eK.nd rfl (Or.inl rfl)) (av (aq (i:=3) eK.nd rfl (Or.inl rfl)) (av (aq (i:=4) eK.nd rfl (Or.inl rfl)) bf))))
    (af (dZ hu (pv 1) (aE (aa (pv 2) (aa (pv 3) ac))) (pv 4) rfl)
    (af (dZ hu (pv 1) (aE (aa (pv 3) (aa (pv 4) ac))) (pv 2) rfl)
    (am (dZ hu (pv 1) (aE (aa (pv 4) (aa (pv 2) ac))) (pv 3) rfl)))))
   (am (aD (pv 1)))),?_⟩
  have hline:=line5000
  have hlen:=az ht
  refine fun D h1=>?_
  (generalize z:upd H D _=H1;have s1:=ah h1 z;have y1:=ak z;clear z)
  refine⟨_,rfl,T,rfl,⟨_,SqL.of (s1 _ _ hT)⟩,bd (K:=K) (a:=T) (xs:=vt) (fun i σ H2=>∃v2 v3 v4,σ=[some (.ref T),some (.ref D),v2,v3,v4]∧Same H H2∧H2 D=some (.dT ((ents (ts.take i)).map entV)))
   ⟨none,none,none,rfl,s1,y1⟩ (fun i σ H2 _ ⟨_,_,_,_,e,_⟩=>SqL.of (e _ _ hT)) ?_ ?_⟩
  ·rintro i x σ H2 hi ⟨v2,v3,v4,rfl,sm,hD⟩
   obtain⟨⟨a,b,c⟩,hs,t,rfl,hb⟩:=aS ht hi
   have hb:H t=some (.tup [.int (a:Int),.int (b:Int),.int (c:Int)]):=hb
   have hil:i < ts.length:=(List.getElem?_eq_some_iff.mp hs).1
   have et:ts.take (i+1)=ts.take i++[(a,b,c)]:=by rw[List.take_add_one,hs];rfl
   have nd1:((ents (ts.take (i+1))).map (·.1)).Nodup:=by
    rw[←List.take_append_drop (i+1) ts,cA,List.map_append,List.nodup_append] at hnd
    exact hnd.1
   have ee:ents (ts.take (i+1))=((ents (ts.take i)++[((a,b),c)])++[((b,c),a)])++[((c,a),b)]:=by rw[et,cA];simp[ents]
   rw[ee] at nd1
   obtain⟨nd2,n3⟩:=hV nd1
   obtain⟨nd3,n2⟩:=hV nd2
   obtain⟨_,n1⟩:=hV nd3
   have l0:=cf (ts.take i)
   rw[List.length_take] at l0
   refine⟨t,_,rfl,SqT.of (sm _ _ hb),rfl,_,_,rfl,_,_,rfl,_,_,rfl,rfl,?_⟩
   refine⟨_,rfl,_,rfl,_,rfl,_,rfl,lit2,fun t1 g1=>?_⟩
   (generalize z:upd H2 t1 _=H3;have s3:=ah g1 z;have y3:=ak z;clear z)
   refine⟨D,_,rfl,DPut.t (k:=ky a b) (s3 _ _ hD) y3 (by rw[List.length_map];omega),?_⟩
   rw[h_ n1]
   (generalize z:upd H3 D _=H4;have k4:=aK z;have y4:=ak z;clear z)
   refine⟨_,rfl,_,rfl,_,rfl,_,rfl,lit2,fun t2 g2=>?_⟩
   (generalize z:upd H4 t2 _=H5;have s5:=ah g2 z;have y5:=ak z;clear z)
   refine⟨D,_,rfl,DPut.t (k:=ky b c) (s5 _ _ y4) y5 (by rw[List.length_map,List.length_append,List.length_singleton];omega),?_⟩
   rw[h_ n2]
   (generalize z:upd H5 D _=H6;have k6:=aK z;have y6:=ak z;clear z)
   refine⟨_,rfl,_,rfl,_,rfl,_,rfl,lit2,fun t3 g3=>?_⟩
   (generalize z:upd H6 t3 _=H7;have s7:=ah g3 z;have y7:=ak z;clear z)
   refine⟨D,_,rfl,DPut.t (k:=ky c a) (s7 _ _ y6) y7 (by rw[List.length_map,List.length_append,List.length_append,List.length_singleton,List.length_singleton];omega),?_⟩
   rw[h_ n3]
   (generalize z:upd H7 D _=H8;have k8:=aK z;have y8:=ak z;clear z)
   refine⟨_,_,_,rfl,fun b' o e=>?_,by rw[y8,ee]⟩
   have nb:=ag e h1
   exact (k8 b' nb).trans (s7 _ _ ((k6 b' nb).trans (s5 _ _ ((k4 b' nb).trans (s3 _ _ (sm _ _ e))))))
  ·rintro σ H2 ⟨v2,v3,v4,rfl,sm,hD⟩
   rw[hlen,List.take_length] at hD
   exact⟨_,rfl,q D H2 h1 sm hD⟩
end
end K15
end
section
namespace K15
open PySem L2 K51 K31
theorem sF:bootBuiltins "all" = some (.builtin "all"):=by decide +kernel
theorem bL:bootBuiltins "sorted" = some (.builtin "sorted"):=by decide +kernel
def flat (ts:List Tri):List Nat:=ts.flatMap fun t=>[t.1,t.2.1,t.2.2]
def kb (c:Nat):Key × V:=(Sum.inl (c:Int),V.bl true)
theorem vP {c d:Nat}:(kb c).1=(Sum.inl (d:Int):Key)↔c=d:=by
 unfold kb
 constructor
 ·intro h
  injection h with h
  omega
 ·rintro rfl;rfl
theorem vv (dd:List Nat) (c:Nat):putK (dd.map kb) (Sum.inl (c:Int)) (V.bl true)=(if c∈dd then dd else dd++[c]).map kb:=by
 by_cases h:c∈dd
 ·rw[if_pos h]
  have ha:((dd.map kb).any fun kv=>decide (kv.1=(Sum.inl (c:Int):Key)))=true:=List.any_eq_true.mpr ⟨kb c,List.mem_map.mpr ⟨c,h,rfl⟩,decide_eq_true rfl⟩
  unfold putK
  rw[if_pos ha,List.map_map]
  refine List.map_congr_left fun x _=>?_
  show (if (kb x).1=(Sum.inl (c:Int):Key) then ((kb x).1,V.bl true) else kb x)=kb x
  split <;> rfl
 ·rw[if_neg h,fP,List.map_append]
  ·rfl
  ·cases e:valV (dd.map kb) (Sum.inl (c:Int)) with
   |none=>rfl
   |some v=>
    have:=sQ e
    rw[List.map_map] at this
    obtain⟨x,hx,ex⟩:=List.mem_map.mp this
    exact (h (vP.mp ex ▸ hx)).elim
def Cs (ts:List Tri) (cs:List Nat):Prop:=cs.Pairwise (· < ·)∧∀c,c∈cs↔c∈flat ts
theorem fu {dd:List Nat} {ms:List Int} (nd:dd.Nodup) (hp:ms.Perm (dd.map fun c:Nat=>(c:Int))) (hs:ms.Pairwise (·≤·)):∃cs:List Nat,ms=cs.map (fun c:Nat=>(c:Int))∧cs.Pairwise (· < ·)∧cs.Perm dd:=by
 have e:ms=(ms.map Int.toNat).map (fun c:Nat=>(c:Int)):=by
  rw[List.map_map]
  have:∀x∈ms,((fun c:Nat=>(c:Int)) ∘ Int.toNat) x=id x:=by
   intro x hx
   obtain⟨c,_,rfl⟩:=List.mem_map.mp (hp.mem_iff.mp hx)
   simp
  rw[List.map_congr_left this,List.map_id]
 have pm:(ms.map Int.toNat).Perm dd:=by
  have:=hp.map Int.toNat
  rw[List.map_map] at this
  have e2:dd.map (Int.toNat ∘ fun c:Nat=>(c:Int))=dd:=by
   have:∀x∈dd,(Int.toNat ∘ fun c:Nat=>(c:Int)) x=id x:=fun x _=>by simp
   rw[List.map_congr_left this,List.map_id]
  rw[e2] at this
  exact this
 refine⟨ms.map Int.toNat,e,?_,pm⟩
 have nd':(ms.map Int.toNat).Nodup:=pm.nodup_iff.mpr nd
 rw[e] at hs
 rw[List.pairwise_map] at hs
 have:=hs.and nd'
 refine this.imp fun {a b} h=>?_
 have h1:=h.1
 have h2:=h.2
 omega
def cC:Sp:=fun vs H Q _=>∃(T:Addr) (vt:List V) (ts:List Tri),vs=[.ref T]∧H T=some (.lst vt)∧ay H vt ts∧ts.length≤200 ∧
 ∀r cs H',H r=none→Same H H'→H' r=some (.lst (nV cs))→Cs ts cs→cs.length≤3 * ts.length→Q (.ref r) H'
section
variable {P:Program} {w:World} {K:W.Frag} {mg:Str→Option Value} {base:Heap}
theorem u8:aB ["_law_thirds_here","_law_triple"] ["_law_thirds_here","_law_triple"] (ae fi):=⟨rfl,rfl,rfl,by decide +kernel,rfl,by decide +kernel,by decide +kernel⟩
theorem tX {f f1:Addr} {fd d1:FuncData} (U:Fun K "_law_free" "_law_free" fi f fd) (T:TxtN mg) (G:FnOk P w K mg base CX0 1 f1 d1 ["_law_triple"] hJ) (b1:Binds K d1 ["_law_triple"] []) (m1:mg "_law_sides" = some (.ref f1)) (k1:W.keepIn K (.ref f1)=true) :
  FnOk P w K mg base CX0 2 f fd ["_law_thirds_here","_law_triple"] j8:=by
 refine U.ok u8 (fun vs H Q E h=>?_) (fun cdv A outer s H vs Q E hr h=>?_)
 ·obtain⟨D,t,ts,x,rfl,_⟩:=h
  rfl
 ·obtain⟨D,t,ts,x,rfl,hD,ht,q⟩:=h
  have hu:=cL hr
  refine⟨_,am (aD (aC (jn rfl) (by rfl) T.all sF (aa (bp (N:=["_law_side","_law_thirds_here"]) (fr:=[none,some 0]) (aR (by decide +kernel) rfl rfl (by decide +kernel) (by decide +kernel) (by
      intro y hy e
      simp only[List.mem_cons,List.not_mem_nil,or_false] at hy
      rcases hy with rfl|rfl|rfl
      all_goals first|(cases e;done)|exact .inl rfl) (by
      intro j i y e1 e2
      match j,e1,e2 with
      |0,e1,_=>simp at e1
      |1,e1,e2=>simp at e1 e2;subst e1 e2;exact⟨rfl,rfl⟩
      |j+2,e1,_=>simp at e1)) rfl (aG (ar G hr rfl m1 k1 b1 .nil pass0 (aa (pv 1) ac)))
     (fun C' s' H' fp pins=>⟨aq (i:=0) (show (["_law_side","_law_thirds_here"]:List Str).Nodup by decide +kernel) rfl (Or.inl rfl) (.inr rfl),bJ,vy (jx hu (pv 0) (pv 1))⟩)) ac))),?_⟩
  have hline:=line5000
  refine⟨_,rfl,t,x,rfl,ht,fun r zs H1 hr1 s1 y1 sd=>?_⟩
  have hl:=az sd
  refine⟨r,rfl,⟨_,SqL.of y1⟩,fun Z hZ=>a_ (K:=K) (a:=r) (xs:=zs) (fun i σ ys H'=>∃o,σ=[o,some (.ref D)]∧ys=(((ck x).take i).map fun s=>decide (s∉(ents ts).map (·.1))).map V.bl∧H' = upd H1 Z (.lst ys)) ⟨none,rfl,rfl,rfl⟩ (fun i σ ys H' _ ⟨_,_,_,e⟩=>by rw[e];exact SqL.of (aw hZ _ _ y1)) ?_ ?_⟩
  ·rintro i y σ ys H' hi ⟨o,rfl,rfl,rfl⟩
   obtain⟨⟨a,b⟩,hs,c,rfl,hc⟩:=aS sd hi
   have hil:=(List.getElem?_eq_some_iff.mp hs).1
   have sZ:=aw (o:=.lst ((((ck x).take i).map fun s=>decide (s∉(ents ts).map (·.1))).map V.bl)) hZ
   refine⟨_,rfl,_,rfl,D,_,rfl,DGet.t (k:=ky a b) (sZ _ _ (s1 _ _ hD)) (sZ _ _ hc),ao,?_,_,rfl,?_,by rw[cF]⟩
   ·rw[List.length_map,List.length_map,List.length_take]
    have:(ck x).length=3:=rfl
    omega
   ·rw[List.take_add_one,hs]
    show _=((((ck x).take i)++[(a,b)]).map _).map _
    rw[List.map_append,List.map_append]
    congr 1
    show [V.bl _]=[V.bl _]
    congr 2
    cases hv:valV ((ents ts).map entV) (ky a b) with
    |none=>exact (decide_eq_true (cu.mp hv)).symm
    |some v=>exact (decide_eq_false fun z=>by rw[cu.mpr z] at hv;cases hv).symm
  ·rintro σ ys H' ⟨o,rfl,rfl,rfl⟩
   refine⟨Z,(ck x).map fun s=>decide (s∉(ents ts).map (·.1)),rfl,SqL.of ?_,?_⟩
   ·rw[ao,hl,List.take_length]
   ·rw[List.all_map]
    exact q _ (s1.trans (aw hZ))
theorem eX:aB ["_law_triples","_law_found","_law_triple","_law_corner"] ["_law_triples"] (ae cy):=⟨rfl,rfl,rfl,by decide +kernel,rfl,by decide +kernel,by decide +kernel⟩
theorem nj {f:Addr} {fd:FuncData} (U:Fun K "_law_corners" "_law_corners" cy f fd) (mS:mg "sorted" = none):FnOk P w K mg base CX0 1 f fd ["_law_triples"] cC:=by
 refine U.ok eX (fun vs H Q E h=>?_) (fun cdv A outer s H vs Q E hr h=>?_)
 ·obtain⟨T,vt,ts,rfl,_⟩:=h
  rfl
 ·obtain⟨T,vt,ts,rfl,hT,ht,hl,q⟩:=h
  have hu:=cL hr
  refine⟨_,af (ax (i:=1) eX.nd rfl (Or.inl rfl) fS)
   (af (ba PassesOwn.never rfl (aG (pv 0)) (aq (i:=2) eX.nd rfl (Or.inl rfl))
    (am (ba PassesOwn.never rfl (gq (pv 2)) (aq (i:=3) eX.nd rfl (Or.inl rfl)) (am (dZ hu (pv 1) (pv 3) lH rfl)))))
   (am (aD (aC (cn rfl) (by rfl) mS bL (aa (pv 1) ac))))),?_⟩
  have hline:=line5000
  have hlen:=az ht
  refine fun D h1=>?_
  (generalize z:upd H D _=H1;have s1:=ah h1 z;have y1:=ak z;clear z)
  refine⟨_,rfl,T,rfl,⟨_,SqL.of (s1 _ _ hT)⟩,bd (K:=K) (a:=T) (xs:=vt) (fun i σ H2=>∃v2 v3 dd,σ=[some (.ref T),some (.ref D),v2,v3]∧Same H H2∧H2 D=some (.dK (dd.map kb))∧dd.Nodup∧(∀c,c∈dd↔c∈flat (ts.take i))∧dd.length≤3 * i)
   ⟨none,none,[],rfl,s1,y1,List.nodup_nil,by simp[flat],Nat.zero_le _⟩ (fun i σ H2 _ ⟨_,_,_,_,e,_⟩=>SqL.of (e _ _ hT)) ?_ ?_⟩
  ·rintro i x σ H2 hi ⟨v2,v3,dd,rfl,sm,hD,nd,hm,hz⟩
   obtain⟨⟨a,b,c⟩,hs,t,rfl,hb⟩:=aS ht hi
   have hb:H t=some (.tup [.int (a:Int),.int (b:Int),.int (c:Int)]):=hb
   have hil:i < ts.length:=(List.getElem?_eq_some_iff.mp hs).1
   have et:flat (ts.take (i+1))=flat (ts.take i)++[a,b,c]:=by rw[List.take_add_one,hs];simp[flat]
   refine⟨_,rfl,t,rfl,⟨_,SqT.of (sm _ _ hb)⟩,ue (K:=K) (a:=t) (xs:=[.int (a:Int),.int (b:Int),.int (c:Int)]) (fun j σ H3=>∃v3 dd,σ=[some (.ref T),some (.ref D),some (.ref t),v3]∧Same H H3∧H3 D=some (.dK (dd.map kb))∧dd.Nodup∧(∀z,z∈dd↔z∈flat (ts.take i)++[a,b,c].take j)∧dd.length≤3 * i+j)
    ⟨_,dd,rfl,sm,hD,nd,by simpa using hm,hz⟩ (fun j σ H3 _ ⟨_,_,_,e,_⟩=>SqT.of (e _ _ hb)) ?_ ?_⟩
   ·rintro j y σ H3 hj ⟨v3,dd,rfl,sm3,hD3,nd3,hm3,hz3⟩
    obtain⟨n,hn,rfl⟩:∃n:Nat,[a,b,c][j]? = some n∧y=.int (n:Int):=by
     match j,hj with
     |0,hj=>simp at hj;exact⟨a,rfl,hj.symm⟩
     |1,hj=>simp at hj;exact⟨b,rfl,hj.symm⟩
     |2,hj=>simp at hj;exact⟨c,rfl,hj.symm⟩
     |j+3,hj=>simp at hj
    have hj3:j < 3:=(List.getElem?_eq_some_iff.mp hn).1
    refine⟨_,rfl,_,rfl,D,_,rfl,DPut.k (k:=Sum.inl (n:Int)) hD3 (by rw[List.length_map];omega),?_⟩
    rw[vv]
    (generalize z:upd H3 D _=H4;have k4:=aK z;have y4:=ak z;clear z)
    refine⟨_,_,rfl,fun b' o e=>(k4 b' (ag e h1)).trans (sm3 _ _ e),y4,?_,fun z=>?_,?_⟩
    ·split
     ·exact nd3
     ·rename_i h
      exact List.nodup_append.mpr ⟨nd3,by simp,fun x hx y hy=>by rw[List.mem_singleton.mp hy];rintro rfl;exact h hx⟩
    ·rw[List.take_add_one,hn,←List.append_assoc]
     show _↔z∈(flat (ts.take i)++[a,b,c].take j)++[n]
     rw[List.mem_append,←hm3 z]
     split
     ·rename_i h
      constructor
      ·exact .inl
      ·rintro (h' | h')
       ·exact h'
       ·rw[List.mem_singleton.mp h'];exact h
     ·rw[List.mem_append]
    ·split
     ·omega
     ·rw[List.length_append,List.length_singleton];omega
   ·rintro σ H3 ⟨v3,dd,rfl,sm3,hD3,nd3,hm3,hz3⟩
    refine⟨_,_,dd,rfl,sm3,hD3,nd3,fun z=>?_,?_⟩
    ·rw[et];exact hm3 z
    ·have:([V.int (a:Int),.int (b:Int),.int (c:Int)]:List V).length=3:=rfl
     omega
  ·rintro σ H2 ⟨v2,v3,dd,rfl,sm,hD,nd,hm,hz⟩
   rw[hlen,List.take_length] at hm
   refine⟨_,rfl,D,rfl,.inl ⟨_,hD⟩,fun ks vs hk=>.inl ⟨dd.map (fun c:Nat=>(c:Int)),?_,by rw[List.length_map];omega,fun p ms hp pm ps=>?_⟩⟩
   ·rcases hk with ⟨kvs,e,rfl,_⟩|⟨kvs,as,e,_⟩
    ·rw[hD] at e
     cases e
     rw[List.map_map,List.map_map]
     rfl
    ·rw[hD] at e;cases e
   ·obtain⟨cs,rfl,pl,pc⟩:=fu nd pm ps
    have hcl:=pc.length_eq
    have e:(cs.map (fun c:Nat=>(c:Int))).map V.int=nV cs:=by rw[List.map_map];rfl
    rw[e]
    exact q p cs _ (sm.free hp) (sm.trans (aw hp)) ao ⟨pl,fun c=>by rw[pc.mem_iff];exact hm c⟩ (by omega)
end
end K15
end
section
namespace K15
open PySem L2 K51 K31
theorem eA (l:List Nat):(nV l).all fW=true:=by
 rw[List.all_eq_true]
 intro v hv
 obtain⟨n,_,rfl⟩:=List.mem_map.mp hv
 rfl
theorem eS (c:Nat) (l:List Nat):inV (V.int (c:Int)) (nV l)=decide (c∈l):=by
 unfold inV nV
 rw[List.any_map,Bool.eq_iff_iff,decide_eq_true_eq,List.any_eq_true]
 constructor
 ·rintro⟨x,hx,e⟩
  have:(x:Int)=(c:Int):=by simpa [eqV] using e
  have:x=c:=by omega
  rw[←this];exact hx
 ·intro h
  exact⟨c,h,by simp[eqV]⟩
theorem t9 (l:List Nat):inV V.non (nV l)=false:=by
 unfold inV nV
 rw[List.any_map,List.any_eq_false]
 intro x _
 simp[eqV]
theorem pq {l m:List Nat} (h:l.Nodup) (hs:∀x∈l,x∈m):l.length≤m.length:=by
 induction l generalizing m with
 |nil=>exact Nat.zero_le _
 |cons a l ih=>
  rw[List.nodup_cons] at h
  have ha:=hs a (by simp)
  have:=ih (m:=m.erase a) h.2 fun x hx=>by
   have hne:x≠a:=fun z=>h.1 (z ▸ hx)
   exact (List.mem_erase_of_ne hne).mpr (hs x (List.mem_cons_of_mem _ hx))
  rw[List.length_erase_of_mem ha] at this
  have hpos:0 < m.length:=List.length_pos_of_mem ha
  rw[List.length_cons]
  omega
theorem cD {K:W.Frag} {H:Hp} {D:Addr} {l:List Ent} {ks vs:List V} (hD:H D=some (.dT (l.map entV))) (hk:DKeys H D ks vs):SdsAt H ks (l.map (·.1)):=by
 rcases hk with ⟨kvs,e,_⟩|⟨kvs,as,e,hp,rfl,_⟩
 ·rw[hD] at e;cases e
 ·rw[hD] at e
  cases e
  rename_i hv
  clear hD hv
  induction l generalizing as with
  |nil=>cases hp;exact .nil
  |cons x l ih=>
   cases hp with
   |cons h t=>exact .cons ⟨_,rfl,h⟩ (ih _ t)
theorem lw {K:W.Frag} {H:Hp} {ks:List V} {ss:List (Nat × Nat)} (h:SdsAt H ks ss):Tups K H ks (ss.map fun s=>[(s.1:Int),(s.2:Int)]):=by
 induction h with
 |nil=>exact .nil
 |cons q _ ih=>
  obtain⟨a,rfl,ha⟩:=q
  exact .cons ⟨a,rfl,SqT.of ha,by simp⟩ ih
theorem iF {H:Hp} {ks:List V} {ss:List (Nat × Nat)} (h:SdsAt H ks ss):∀ix:List Nat,(∀i∈ix,i < ks.length)→SdsAt H (ix.map fun i=>ks.getD i .non) (ix.map fun i=>ss.getD i (0,0))
 | [],_=>.nil
 |i::ix,hi=>by
  have hik:=hi i (by simp)
  have h1:ks[i]? = some ks[i]:=List.getElem?_eq_getElem hik
  obtain⟨y,hy,hf⟩:=aS h h1
  refine .cons ?_ (iF h ix fun j hj=>hi j (List.mem_cons_of_mem _ hj))
  simp only[List.getD,h1,hy,Option.getD_some]
  exact hf
theorem jw {ss:List (Nat × Nat)} {ix:List Nat} (h:ix.Perm (List.range ss.length)):(ix.map fun i=>ss.getD i (0,0)).Perm ss:=by
 have:=h.map fun i=>ss.getD i (0,0)
 refine this.trans (List.Perm.of_eq ?_)
 refine List.ext_getElem? fun i=>?_
 rw[List.getElem?_map]
 by_cases hi:i < ss.length
 ·rw[List.getElem?_range hi]
  simp[List.getD,List.getElem?_eq_getElem hi]
 ·rw[List.getElem?_eq_none (by simpa using hi),List.getElem?_eq_none (by omega)];rfl
theorem rP {K:W.Frag} {H:Hp} (l:List Nat):Dts K H (nV l) (l.map fun n:Nat=>PyData.int (n:Int)):=by
 induction l with
 |nil=>exact .nil
 |cons a l ih=>exact .cons (.int _) ih
theorem rT (l:List Nat):(PyData.list (l.map fun n:Nat=>PyData.int (n:Int))).depth≤3:=by
 have:PyData.depthAll (l.map fun n:Nat=>PyData.int (n:Int))≤1:=by
  induction l with
  |nil=>simp[PyData.depthAll]
  |cons a l ih=>simp only[List.map_cons,PyData.depthAll,PyData.depth];omega
 simp only[PyData.depth]
 omega
theorem rH (ds:List PyData):PyData.eqv (.list ds) (.list [])=ds.isEmpty:=by
 cases ds <;> simp[PyData.eqv,PyData.eqvAll]
structure Run (ts:List Tri) (v x0:Nat) (F:List Nat):Prop where
 nd:F.Nodup
 key:∀p∈F,∃q,En ts v p q
 ch:∀i p q,F[i]? = some p→F[i+1]? = some q→En ts v p q
 x1:x0∈F
section
variable {ts:List Tri} {v x0 p c o:Nat} {F:List Nat}
theorem tu (h:∃q,En ts v x0 q):Run ts v x0 [x0]:=⟨by simp,fun p hp=>by rw[List.mem_singleton.mp hp];exact h,fun i p q _ h2=>by simp at h2,by simp⟩
theorem tz (r:Run ts v x0 F) (hl:F.getLast? = some p) (e:En ts v p c) (hk:∃q,En ts v c q) (hc:c∉F):Run ts v x0 (F++[c]):=by
 refine⟨List.nodup_append.mpr ⟨r.nd,by simp,fun x hx y hy=>by rw[List.mem_singleton.mp hy];rintro rfl;exact hc hx⟩,fun q hq=>?_,fun i a b h1 h2=>?_,List.mem_append_left _ r.x1⟩
 ·rcases List.mem_append.mp hq with h|h
  ·exact r.key q h
  ·rw[List.mem_singleton.mp h];exact hk
 ·by_cases hi:i+1 < F.length
  ·rw[List.getElem?_append_left hi] at h2
   rw[List.getElem?_append_left (by omega)] at h1
   exact r.ch i a b h1 h2
  ·have hb:=(List.getElem?_eq_some_iff.mp h2).1
   rw[List.length_append,List.length_singleton] at hb
   have ei:i+1=F.length:=by omega
   rw[List.getLast?_eq_getElem?,←ei,Nat.add_sub_cancel] at hl
   rw[List.getElem?_append_left (by omega),hl] at h1
   rw[ei,List.getElem?_append_right (Nat.le_refl _),Nat.sub_self] at h2
   cases h1
   cases h2
   exact e
theorem tw (r:Run ts v x0 F) (hh:F.head? = some p) (e:En ts v o p) (ho:o∉F):Run ts v x0 (o::F):=by
 refine⟨List.nodup_cons.mpr ⟨ho,r.nd⟩,fun q hq=>?_,fun i a b h1 h2=>?_,List.mem_cons_of_mem _ r.x1⟩
 ·rcases List.mem_cons.mp hq with rfl|h
  ·exact⟨p,e⟩
  ·exact r.key q h
 ·cases i with
  |zero=>
   rw[List.getElem?_cons_succ,←List.head?_eq_getElem?,hh] at h2
   cases h1
   cases h2
   exact e
  |succ i=>
   rw[List.getElem?_cons_succ] at h1 h2
   exact r.ch i a b h1 h2
theorem km (r:Run ts v x0 F) (hl:ts.length≤20):F.length≤60:=by
 have:=pq (m:=(ents ts).map (·.1.2)) r.nd fun x hx=>by
  obtain⟨q,hq⟩:=r.key x hx
  exact List.mem_map.mpr ⟨_,hq,rfl⟩
 rw[List.length_map,cf] at this
 omega
theorem mQ (r:Run ts v x0 F):F≠[]:=fun z=>by have:=r.x1;rw[z] at this;cases this
theorem oq (h:F≠[]):∃p,F.getLast? = some p:=⟨_,List.getLast?_eq_some_getLast h⟩
theorem t_ (h:F≠[]):∃p,F.head? = some p:=by
 cases F with
 |nil=>exact (h rfl).elim
 |cons a l=>exact⟨a,rfl⟩
theorem wb {α:Type} {l:List α} {x:α} (h:l[l.length - 1]? = some x):atI l (-1)=some x:=by
 have hl:=(List.getElem?_eq_some_iff.mp h).1
 unfold atI ixN
 rw[if_neg (by decide),if_pos (by omega)]
 rw[show ((-1:Int)+(l.length:Int)).toNat=l.length - 1 by omega]
 exact h
theorem ux (h:F.getLast? = some p):atI (nV F) (-1)=some (V.int (p:Int)):=by
 refine wb ?_
 rw[aN,nV,List.getElem?_map,←List.getLast?_eq_getElem?,h]
 rfl
theorem oK (h:F.head? = some p):atI (nV F) 0=some (V.int (p:Int)):=by
 have:(nV F)[0]? = some (V.int (p:Int)):=by rw[nV,List.getElem?_map,←List.head?_eq_getElem?,h];rfl
 exact bY this
end
theorem jo {c:TT} {tb:TS} {D:Ends} {σ:St} {H:Hp} (R:St→Hp→Prop) (h:∀NX:St→Hp→Prop,(∀σ H,R σ H→NX σ H)→mx c tb {D with nx:=NX} σ H) (out:∀σ H,R σ H→D.nx σ H):mx c tb D σ H:=h D.nx out
theorem mY {α β:Type} {F G:α→β→Prop} {xs:List α} {ys:List β} (h:∀x y,x∈xs→F x y→G x y) (p:Paired F xs ys):Paired G xs ys:=by
 induction p with
 |nil=>exact .nil
 |cons a _ ih=>exact .cons (h _ _ (by simp) a) (ih fun x y hx=>h x y (List.mem_cons_of_mem _ hx))
def mJ:Sp:=fun vs H Q _=>∃(T:Addr) (vt:List V) (ts:List Tri) (v:Nat),vs=[.ref T,.int (v:Int)]∧H T=some (.lst vt)∧ay H vt ts∧ts.length≤20∧Good ts ∧
 ∀r gs fs H',H r=none→Same H H'→H' r=some (.lst gs)→jR H' gs fs→Fans (En ts) v fs→fs.length≤60→Q (.ref r) H'
section
variable {P:Program} {w:World} {K:W.Frag} {mg:Str→Option Value} {base:Heap}
theorem gk:aB ["_law_triples","_law_corner","_law_thirds_here","_law_left","_law_found","_law_fan"] ["_law_triples","_law_corner"] (ae fj):=⟨rfl,rfl,rfl,by decide +kernel,rfl,by decide +kernel,by decide +kernel⟩
theorem tY {f f1:Addr} {fd d1:FuncData} (U:Fun K "_law_fans" "_law_fans" fj f fd) (mS:mg "sorted" = none) (G:FnOk P w K mg base CX0 1 f1 d1 ["_law_triples"] cv) (b1:Binds K d1 ["_law_triples"] []) (m1:mg "_law_thirds" = some (.ref f1)) (k1:W.keepIn K (.ref f1)=true) :
  FnOk P w K mg base CX0 2 f fd ["_law_triples","_law_corner"] mJ:=by
 refine U.ok gk (fun vs H Q E h=>?_) (fun cdv A outer s H vs Q E hr h=>?_)
 ·obtain⟨T,vt,ts,v,rfl,_⟩:=h
  rfl
 ·obtain⟨T,vt,ts,v,rfl,hT,ht,hl,g,q⟩:=h
  have hu:=cL hr
  refine⟨_,af (ax (i:=2) gk.nd rfl (Or.inl rfl) (ar G hr rfl m1 k1 b1 .nil pass0 (aa (pv 0) ac)))
   (af (ia (i:=3) (N:=["_law_a","_law_p","_law_corner"]) (fr:=[none,none,some 1]) (g:=gTup K 2 (iX (cZ 0) (iX (cZ 1) gNil))) (aR (by decide +kernel) rfl rfl (by decide +kernel) (by decide +kernel) (by
      intro y hy e
      simp only[List.mem_cons,List.not_mem_nil,or_false] at hy
      rcases hy with rfl|rfl|rfl|rfl
      all_goals first|(cases e;done)|exact .inl rfl) (by
      intro j i y e1 e2
      match j,e1,e2 with
      |0,e1,_=>simp at e1
      |1,e1,_=>simp at e1
      |2,e1,e2=>simp at e1 e2;subst e1 e2;exact⟨rfl,rfl⟩
      |j+3,e1,_=>simp at e1)) rfl (aG (aC (cn rfl) (by rfl) mS bL (aa (pv 2) ac)))
     (fun C' s' H' fp pins=>⟨bV rfl (av (aq (i:=0) (show (["_law_a","_law_p","_law_corner"]:List Str).Nodup by decide +kernel) rfl (Or.inl rfl) (.inr rfl)) (av (aq (i:=1) (show (["_law_a","_law_p","_law_corner"]:List Str).Nodup by decide +kernel) rfl (Or.inl rfl) (.inr rfl)) bf)),eZ (aF fk (pv 0) (pv 2) (nomark _)),pv 1⟩) gk.nd rfl (Or.inl rfl))
   (af (ax (i:=4) gk.nd rfl (Or.inl rfl) (bc ac))
   (af (fQ PassesOwn.never (aF (kJ hr.units) (pv 3) (bc ac) (nomark _)) (af (ax (i:=5) gk.nd rfl (Or.inr rfl) (bc (aa (cq aW (pv 3) al (fun _ _=>rfl)) ac)))
    (af (fQ PassesOwn.never (PW.pt (iG (aF gr (iK hu (pv 2) (aE (aa (pv 1) (aa (cq aW (pv 5) (oi jU al) (fun _ _=>rfl)) ac))) ⟨rfl,rfl,rfl,rfl⟩) (pv 3) rfl) (fO (aF cJ (e6 hu (pv 2) (aE (aa (pv 1) (aa (cq aW (pv 5) (oi jU al) (fun _ _=>rfl)) ac))) (fun _ _=>rfl)) (pv 5) rfl)))) (am (bI (bX PySem.F.plainAttrs_list PySem.F.slot_list_append PySem.F.type_list_append bo (pv 5) (aa (e6 hu (pv 2) (aE (aa (pv 1) (aa (cq aW (pv 5) (oi jU al) (fun _ _=>rfl)) ac))) (fun _ _=>rfl)) ac)))))
    (af (fQ PassesOwn.never (PW.pt (iG (kq (m9 hu (aE (aa (cq aW (pv 5) al (fun _ _=>rfl)) (aa (pv 1) ac))) (pv 2))) (fO (aF cJ (e6 hu (pv 2) (aE (aa (cq aW (pv 5) al (fun _ _=>rfl)) (aa (pv 1) ac))) (fun _ _=>rfl)) (pv 5) rfl)))) (am (bI (bX PySem.F.plainAttrs_list PySem.F.slot_list_insert PySem.F.type_list_insert gw (pv 5) (aa al (aa (e6 hu (pv 2) (aE (aa (cq aW (pv 5) al (fun _ _=>rfl)) (aa (pv 1) ac))) (fun _ _=>rfl)) ac))))))
    (af (ia (i:=3) (N:=["_law_p","_law_fan"]) (fr:=[none,some 5]) (tt:=p_ (tOp (rIn K true) (tVar 0) (tVar 1))) (aR (by decide +kernel) rfl rfl (by decide +kernel) (by decide +kernel) (by
      intro y hy e
      simp only[List.mem_cons,List.not_mem_nil,or_false] at hy
      rcases hy with rfl|rfl|rfl
      all_goals first|(cases e;done)|exact .inl rfl) (by
      intro j i y e1 e2
      match j,e1,e2 with
      |0,e1,_=>simp at e1
      |1,e1,e2=>simp at e1 e2;subst e1 e2;exact⟨rfl,rfl⟩
      |j+2,e1,_=>simp at e1)) rfl (aG (pv 3))
     (fun C' s' H' fp pins=>⟨aq (i:=0) (show (["_law_p","_law_fan"]:List Str).Nodup by decide +kernel) rfl (Or.inl rfl) (.inr rfl),eZ (aF cJ (pv 0) (pv 1) rfl),pv 0⟩) gk.nd rfl (Or.inl rfl))
    (am (bI (bX PySem.F.plainAttrs_list PySem.F.slot_list_append PySem.F.type_list_append bo (pv 4) (aa (pv 5) ac)))))))))
   (am (aD (pv 4)))))),?_⟩
  have hline:=line5000
  have k:=g.sk
  refine⟨_,rfl,T,vt,ts,rfl,hT,ht,by omega,g.nd,fun D H1 hD0 s1 hD=>?_⟩
  refine⟨_,rfl,D,rfl,.inr ⟨_,hD⟩,fun ks vs hk=>.inr ⟨_,lw (cD (K:=K) hD hk),?_,fun p ix hp pm _=>?_⟩⟩
  ·rw[az (cD (K:=K) hD hk),List.length_map,cf];omega
  have sd0:=cD (K:=K) hD hk
  have lk:=az sd0
  (generalize z:upd H1 p _=H2;have s2:=ah hp z;have y2:=ak z;clear z)
  have ixb:∀i∈ix,i < ks.length:=fun i hi=>List.mem_range.mp (pm.mem_iff.mp hi)
  have sdz:=iF (Paired.imp' (fun _ _ ⟨a,e,h⟩=>⟨a,e,s2 _ _ h⟩) sd0:SdsAt H2 ks ((ents ts).map (·.1))) ix ixb
  have pss:(ix.map fun i=>((ents ts).map (·.1)).getD i (0,0)).Perm ((ents ts).map (·.1)):=jw (by rw[←lk];exact pm)
  generalize (ix.map fun i=>((ents ts).map (·.1)).getD i (0,0))=ss at sdz pss
  generalize (ix.map fun i=>ks.getD i .non)=zs at sdz y2
  have lz:=az sdz
  have lss:ss.length≤60:=by rw[pss.length_eq,List.length_map,cf];omega
  refine⟨p,rfl,⟨_,SqL.of y2⟩,fun Z hZ=>a_ (K:=K) (a:=p) (xs:=zs) (fun i σ ys H'=>∃o1 o2,σ=[o1,o2,some (.int (v:Int))]∧ys=nV (((ss.take i).filter fun s=>decide (s.1=v)).map (·.2))∧H' = upd H2 Z (.lst ys)) ⟨none,none,rfl,rfl,rfl⟩ (fun i σ ys H' _ ⟨_,_,_,_,e⟩=>by rw[e];exact SqL.of (aw hZ _ _ y2)) ?_ ?_⟩
  ·rintro i y σ ys H' hi ⟨o1,o2,rfl,rfl,rfl⟩
   obtain⟨⟨a,b⟩,hs,c,rfl,hc⟩:=aS sdz hi
   have sZ:=aw (o:=.lst (nV (((ss.take i).filter fun s=>decide (s.1=v)).map (·.2)))) hZ
   have et:ss.take (i+1)=ss.take i++[(a,b)]:=by rw[List.take_add_one,hs];rfl
   refine⟨c,_,rfl,SqT.of (sZ _ _ hc),rfl,_,_,rfl,_,_,rfl,rfl,?_⟩
   refine⟨_,rfl,_,rfl,rfl,_,rfl,?_⟩
   show if decide (V.int (a:Int)=V.int (v:Int))=true then _ else _
   rw[decI]
   by_cases hav:a=v
   ·rw[decide_eq_true (by rw[hav])]
    refine iteT ⟨_,rfl,ao,?_,_,_,rfl,?_,by rw[cF]⟩
    ·rw[aN,List.length_map]
     have h1:=List.length_filter_le (fun s:Nat × Nat=>decide (s.1=v)) (ss.take i)
     rw[List.length_take] at h1
     omega
    ·rw[et,List.filter_append,List.filter_cons,if_pos (decide_eq_true hav),List.filter_nil,List.map_append,←dJ];rfl
   ·rw[decide_eq_false (by omega)]
    refine iteF ⟨_,_,rfl,?_,rfl⟩
    rw[et,List.filter_append,List.filter_cons,if_neg (by simp[hav]),List.filter_nil,List.append_nil]
  ·rintro σ ys H' ⟨o1,o2,rfl,rfl,rfl⟩
   rw[lz,List.take_length]
   have hlf:∀x,x∈((ss.filter fun s=>decide (s.1=v)).map (·.2))↔∃q,En ts v x q:=by
    intro x
    rw[List.mem_map]
    constructor
    ·rintro⟨⟨a,b⟩,hm,rfl⟩
     rw[List.mem_filter,pss.mem_iff] at hm
     obtain⟨hm,ha⟩:=hm
     have ha:a=v:=of_decide_eq_true ha
     obtain⟨⟨e1,c⟩,he,e2⟩:=List.mem_map.mp hm
     have e2:e1=(a,b):=e2
     subst e2 ha
     exact⟨c,he⟩
    ·rintro⟨c,hc⟩
     exact⟨(v,x),List.mem_filter.mpr ⟨pss.mem_iff.mpr (List.mem_map.mpr ⟨_,hc,rfl⟩),decide_eq_true rfl⟩,rfl⟩
   have ndlf:((ss.filter fun s=>decide (s.1=v)).map (·.2)).Nodup:=by
    have nd1:ss.Nodup:=pss.nodup_iff.mpr g.nd
    have:∀l:List (Nat × Nat),l.Nodup→((l.filter fun s=>decide (s.1=v)).map (·.2)).Nodup:=by
     intro l
     induction l with
     |nil=>intro _;exact List.nodup_nil
     |cons x l ih=>
      intro h
      rw[List.nodup_cons] at h
      rw[List.filter_cons]
      split
      ·rename_i hx
       rw[List.map_cons,List.nodup_cons]
       refine⟨fun z=>?_,ih h.2⟩
       obtain⟨y,hy,e⟩:=List.mem_map.mp z
       rw[List.mem_filter] at hy
       have h1:y.1=v:=of_decide_eq_true hy.2
       have h2:x.1=v:=of_decide_eq_true hx
       have:y=x:=Prod.ext (h1.trans h2.symm) e
       exact h.1 (this ▸ hy.1)
      ·exact ih h.2
    exact this ss nd1
   have llf:((ss.filter fun s=>decide (s.1=v)).map (·.2)).length≤60:=by
    rw[List.length_map]
    exact Nat.le_trans (List.length_filter_le _ _) lss
   generalize ((ss.filter fun s=>decide (s.1=v)).map (·.2))=lf0 at hlf ndlf llf ⊢
   have sZ:=aw (o:=.lst (nV lf0)) hZ
   have yZ:upd H2 Z (.lst (nV lf0)) Z=some (.lst (nV lf0)):=ao
   generalize upd H2 Z (.lst (nV lf0))=H3 at sZ yZ ⊢
   have q3:=(s1.trans s2).trans sZ
   refine⟨Nat.zero_le _,fun Fd hFd=>?_⟩
   (generalize z:upd H3 Fd _=H4;have s4:=ah hFd z;have y4:=ak z;clear z)
   have q4:=q3.trans s4
   have hD4:=((s2.trans sZ).trans s4) _ _ hD
   refine⟨fun m σ H'=>∃v5 Lf lf Fd gs fs,σ=[some (V.ref T),some (.int (v:Int)),some (.ref D),some (.ref Lf),some (.ref Fd),v5]∧m=lf.length∧H Fd=none∧Same H H'∧H' D=some (.dT ((ents ts).map entV))∧H' Lf=some (.lst (nV lf))∧H' Fd=some (.lst gs)∧jR H' gs fs∧lf.Nodup ∧
     (∀x∈lf,∃q,En ts v x q)∧(∀F∈fs,Fan (En ts) v F)∧(∀x,(∃q,En ts v x q)→x∈lf∨∃F∈fs,x∈F)∧(∀x∈lf,∀F∈fs,x∉F)∧(fs.Pairwise fun F G=>∀x∈F,x∉G)∧fs.length+lf.length≤60∧V.ref Fd∉gs,
    ⟨_,none,Z,lf0,Fd,[],[],rfl,rfl,q3.free hFd,q4,hD4,s4 _ _ yZ,y4,.nil,ndlf,fun x hx=>(hlf x).mp hx,by simp,fun x hx=>.inl ((hlf x).mpr hx),by simp,List.Pairwise.nil,by simpa using llf,by simp⟩,?_⟩
   rintro m σ H5 ⟨v5,Lf,lf,Fd,gs,fs,rfl,rfl,hFd0,sm,hD5,hLf,hFd5,hgs,ndl,hkey,hfan,hcov,hdis,hpw,hsz,hnot⟩
   refine⟨_,rfl,Nat.zero_le _,fun pe hpe=>?_⟩
   (generalize z:upd H5 pe _=H6;have s6:=ah hpe z;have y6:=ak z;clear z)
   refine⟨_,_,.lst (SqL.of (s6 _ _ hLf)) (rP lf),.lst (SqL.of y6) .nil,Nat.le_trans (rT lf) (by decide),_,rfl,?_⟩
   rw[if_pos rfl,rH]
   cases lf with
   |nil=>
    refine iteF ?_
    refine⟨_,rfl,q Fd gs fs H6 hFd0 (sm.trans s6) (s6 _ _ hFd5) (hgs.same s6) ⟨hfan,fun x hx=>?_,hpw⟩ (by simp at hsz;omega)⟩
    exact (hcov x hx).resolve_left (by simp)
   |cons x0 lf=>
    refine iteT ?_
    have hx0:=hkey x0 (by simp)
    refine⟨_,fun σ' H' h=>h,?_⟩
    refine⟨_,rfl,Lf,_,0,V.int (x0:Int),rfl,rfl,SqL.of (s6 _ _ hLf),oK rfl,lit1,fun fa hfa=>?_⟩
    (generalize z:upd H6 fa _=H7;have s7:=ah hfa z;have y7:=ak z;clear z)
    have nD:∀{b:Addr} {ob:HO},H6 b=some ob→b≠fa:=fun e=>ag e hfa
    have hD6:=s6 _ _ hD5
    have hL6:=s6 _ _ hLf
    refine jo (fun σ H'=>∃F,σ=[some (V.ref T),some (.int (v:Int)),some (.ref D),some (.ref Lf),some (.ref Fd),some (.ref fa)]∧Same H6 H'∧H' fa=some (.lst (nV F))∧Run ts v x0 F∧∀p,F.getLast? = some p→∀q,En ts v p q→q∈x0::lf→q∈F) (fun NX z=>?_) ?_
    ·refine⟨fun m σ H'=>∃F,σ=[some (V.ref T),some (.int (v:Int)),some (.ref D),some (.ref Lf),some (.ref Fd),some (.ref fa)]∧m=100 - F.length∧Same H6 H'∧H' fa=some (.lst (nV F))∧Run ts v x0 F,⟨_,[x0],rfl,rfl,s7,y7,tu hx0⟩,?_⟩
     rintro m σ H8 ⟨F,rfl,rfl,sm8,y8,rn⟩
     have hFl:=km rn hl
     obtain⟨p,hp⟩:=oq (mQ rn)
     have ap:=ux hp
     refine⟨_,rfl,D,rfl,.inr ⟨_,.inl (sm8 _ _ hD6)⟩,_,rfl,_,rfl,_,rfl,fa,_,_,_,rfl,rfl,SqL.of y8,ap,lit2,fun k1 g1=>?_⟩
     (generalize z:upd H8 k1 _=H9;have s9:=ah g1 z;have y9:=ak z;clear z)
     have sm9:=sm8.trans s9
     rcases nN g v p with ⟨c,hc,e⟩|⟨hc,e⟩
     ·refine⟨_,e ▸ DGet.t (k:=ky v p) (sm9 _ _ hD6) y9,_,rfl,Lf,_,rfl,.inl (SqL.of (sm9 _ _ hL6)),rfl,eA _,_,rfl,?_⟩
      show if (if false=true then _ else inV (V.int (c:Int)) (nV (x0::lf)))=true then _ else _
      rw[if_neg Bool.false_ne_true,eS]
      by_cases hcl:c∈x0::lf
      ·rw[decide_eq_true hcl]
       refine iteT ?_
       refine⟨_,rfl,_,rfl,_,rfl,_,rfl,fa,_,_,_,rfl,rfl,SqL.of (s9 _ _ y8),ap,lit2,fun k2 g2=>?_⟩
       (generalize z:upd H9 k2 _=H10;have s10:=ah g2 z;have y10:=ak z;clear z)
       have sm10:=sm9.trans s10
       refine⟨D,V.int (c:Int),rfl,e ▸ DGet.t (k:=ky v p) (sm10 _ _ hD6) y10,_,rfl,fa,_,rfl,.inl (SqL.of (s10 _ _ (s9 _ _ y8))),rfl,eA _,_,rfl,?_⟩
       show if (if true=true then !inV (V.int (c:Int)) (nV F) else _)=true then _ else _
       rw[if_pos rfl,eS]
       by_cases hcF:c∈F
       ·rw[decide_eq_true hcF]
        refine iteF (z _ _ ⟨F,rfl,sm10,s10 _ _ (s9 _ _ y8),rn,fun p' hp' q hq _=>?_⟩)
        rw[hp] at hp'
        cases hp'
        rw[k.one hq hc];exact hcF
       ·rw[decide_eq_false hcF]
        refine iteT ⟨_,fun σ' H' h=>h,?_⟩
        refine⟨_,rfl,.inl ⟨rfl,_,SqL.of (s10 _ _ (s9 _ _ y8))⟩,_,rfl,_,rfl,_,rfl,_,rfl,fa,_,_,_,rfl,rfl,SqL.of (s10 _ _ (s9 _ _ y8)),ap,lit2,fun k3 g3=>?_⟩
        (generalize z:upd H10 k3 _=H11;have s11:=ah g3 z;have y11:=ak z;clear z)
        have sm11:=sm10.trans s11
        refine⟨D,V.int (c:Int),rfl,e ▸ DGet.t (k:=ky v p) (sm11 _ _ hD6) y11,fa,_,_,rfl,rfl,s11 _ _ (s10 _ _ (s9 _ _ y8)),by rw[aN];omega,?_⟩
        (generalize z:upd H11 fa _=H12;have k12:=aK z;have y12:=ak z;clear z)
        refine⟨_,?_,F++[c],rfl,rfl,fun b' o e=>(k12 b' (nD e)).trans (sm11 _ _ e),?_,tz rn hp hc (hkey c hcl) hcF⟩
        ·rw[List.length_append,List.length_singleton];omega
        ·rw[y12];simp[nV]
      ·rw[decide_eq_false hcl]
       refine iteF (iteF (z _ _ ⟨F,rfl,sm9,s9 _ _ y8,rn,fun p' hp' q hq hl'=>?_⟩))
       rw[hp] at hp'
       cases hp'
       rw[k.one hq hc] at hl';exact (hcl hl').elim
     ·refine⟨_,e ▸ DGet.t (k:=ky v p) (sm9 _ _ hD6) y9,_,rfl,Lf,_,rfl,.inl (SqL.of (sm9 _ _ hL6)),rfl,eA _,_,rfl,?_⟩
      show if (if false=true then _ else inV V.non (nV (x0::lf)))=true then _ else _
      rw[if_neg Bool.false_ne_true,t9]
      refine iteF (iteF (z _ _ ⟨F,rfl,sm9,s9 _ _ y8,rn,fun p' hp' q hq _=>?_⟩))
      rw[hp] at hp'
      cases hp'
      exact (hc q hq).elim
    rintro σ H8 ⟨F,rfl,sm8,y8,rn,hend⟩
    clear y7 s7 H7
    refine jo (fun σ H'=>∃F,σ=[some (V.ref T),some (.int (v:Int)),some (.ref D),some (.ref Lf),some (.ref Fd),some (.ref fa)]∧Same H6 H'∧H' fa=some (.lst (nV F))∧Run ts v x0 F∧(∀p,F.getLast? = some p→∀q,En ts v p q→q∈x0::lf→q∈F)∧∀p,F.head? = some p→∀o,En ts v o p→o∈F) (fun NX z=>?_) ?_
    ·refine⟨fun m σ H'=>∃F,σ=[some (V.ref T),some (.int (v:Int)),some (.ref D),some (.ref Lf),some (.ref Fd),some (.ref fa)]∧m=100 - F.length∧Same H6 H'∧H' fa=some (.lst (nV F))∧Run ts v x0 F∧∀p,F.getLast? = some p→∀q,En ts v p q→q∈x0::lf→q∈F,⟨_,F,rfl,rfl,sm8,y8,rn,hend⟩,?_⟩
     clear hend rn y8 sm8
     clear F H8
     rintro m σ H8 ⟨F,rfl,rfl,sm8,y8,rn,hend⟩
     have hFl:=km rn hl
     obtain⟨p,hp⟩:=t_ (mQ rn)
     have ap:=oK hp
     refine⟨_,rfl,fa,_,_,_,rfl,rfl,SqL.of y8,ap,_,rfl,lit2,fun k1 g1=>?_⟩
     (generalize z:upd H8 k1 _=H9;have s9:=ah g1 z;have y9:=ak z;clear z)
     have sm9:=sm8.trans s9
     rcases nN g p v with ⟨c,hc,e⟩|⟨hc,e⟩
     ·refine⟨_,rfl,D,_,rfl,e ▸ DGet.t (k:=ky p v) (sm9 _ _ hD6) y9,_,rfl,?_⟩
      refine iteT ?_
      refine⟨_,rfl,_,rfl,fa,_,_,_,rfl,rfl,SqL.of (s9 _ _ y8),ap,_,rfl,lit2,fun k2 g2=>?_⟩
      (generalize z:upd H9 k2 _=H10;have s10:=ah g2 z;have y10:=ak z;clear z)
      have sm10:=sm9.trans s10
      refine⟨D,V.int (c:Int),rfl,e ▸ DGet.t (k:=ky p v) (sm10 _ _ hD6) y10,_,rfl,fa,_,rfl,.inl (SqL.of (s10 _ _ (s9 _ _ y8))),rfl,eA _,_,rfl,?_⟩
      show if (if true=true then !inV (V.int (c:Int)) (nV F) else _)=true then _ else _
      rw[if_pos rfl,eS]
      by_cases hcF:c∈F
      ·rw[decide_eq_true hcF]
       refine iteF (z _ _ ⟨F,rfl,sm10,s10 _ _ (s9 _ _ y8),rn,hend,fun p' hp' o ho=>?_⟩)
       rw[hp] at hp'
       cases hp'
       rw[k.one (k.rot (k.rot ho)) hc];exact hcF
      ·rw[decide_eq_false hcF]
       refine iteT ⟨_,fun σ' H' h=>h,?_⟩
       refine⟨_,rfl,.inl ⟨rfl,_,SqL.of (s10 _ _ (s9 _ _ y8))⟩,_,rfl,_,rfl,fa,_,_,_,rfl,rfl,SqL.of (s10 _ _ (s9 _ _ y8)),ap,_,rfl,lit2,fun k3 g3=>?_⟩
       (generalize z:upd H10 k3 _=H11;have s11:=ah g3 z;have y11:=ak z;clear z)
       have sm11:=sm10.trans s11
       refine⟨D,V.int (c:Int),rfl,e ▸ DGet.t (k:=ky p v) (sm11 _ _ hD6) y11,fa,_,0,_,rfl,rfl,s11 _ _ (s10 _ _ (s9 _ _ y8)),Nat.zero_le _,by rw[aN];omega,?_⟩
       (generalize z:upd H11 fa _=H12;have k12:=aK z;have y12:=ak z;clear z)
       refine⟨_,?_,c::F,rfl,rfl,fun b' o e=>(k12 b' (nD e)).trans (sm11 _ _ e),?_,tw rn hp (k.rot hc) hcF,fun p' hp' q hq hql=>?_⟩
       ·rw[List.length_cons];omega
       ·rw[y12];simp[nV]
       ·refine List.mem_cons_of_mem _ (hend p' ?_ q hq hql)
        rw[←hp']
        obtain⟨z,hz⟩:=oq (mQ rn)
        rw[List.getLast?_cons,hz];rfl
     ·refine⟨_,rfl,D,_,rfl,e ▸ DGet.t (k:=ky p v) (sm9 _ _ hD6) y9,_,rfl,?_⟩
      refine iteF (iteF (z _ _ ⟨F,rfl,sm9,s9 _ _ y8,rn,hend,fun p' hp' o ho=>?_⟩))
      rw[hp] at hp'
      cases hp'
      exact (hc _ (k.rot (k.rot ho))).elim
    clear hend rn y8 sm8
    clear F H8
    rintro σ H8 ⟨F,rfl,sm8,y8,rn,hend,hbeg⟩
    have hFl:=km rn hl
    obtain⟨fF,dF⟩:=rD k hfan hcov hdis rn.nd rn.key rn.ch rn.x1 (by simp) hend hbeg
    have hL8:=sm8 _ _ hL6
    refine⟨_,rfl,Lf,rfl,⟨_,SqL.of hL8⟩,fun Z hZ=>a_ (K:=K) (a:=Lf) (xs:=nV (x0::lf)) (fun i σ ys H'=>∃o,σ=[o,some (.ref fa)]∧ys=nV (((x0::lf).take i).filter fun p=>decide (p∉F))∧H' = upd H8 Z (.lst ys)) ⟨none,rfl,rfl,rfl⟩ (fun i σ ys H' _ ⟨_,_,_,e⟩=>by rw[e];exact SqL.of (aw hZ _ _ hL8)) ?_ ?_⟩
    ·rintro i y σ ys H' hi ⟨o,rfl,rfl,rfl⟩
     rw[nV,List.getElem?_map] at hi
     obtain⟨n,hn,rfl⟩:=Option.map_eq_some_iff.mp hi
     have et:(x0::lf).take (i+1)=(x0::lf).take i++[n]:=by rw[List.take_add_one,hn];rfl
     refine⟨_,rfl,_,rfl,fa,_,rfl,.inl (SqL.of (aw hZ _ _ y8)),rfl,eA _,_,rfl,?_⟩
     show if (if true=true then !inV (V.int (n:Int)) (nV F) else _)=true then _ else _
     rw[if_pos rfl,eS]
     by_cases hnF:n∈F
     ·rw[decide_eq_true hnF]
      refine iteF ⟨_,rfl,?_,rfl⟩
      rw[et,List.filter_append,List.filter_cons,if_neg (by simp[hnF]),List.filter_nil,List.append_nil]
     ·rw[decide_eq_false hnF]
      refine iteT ⟨_,rfl,ao,?_,_,rfl,?_,by rw[cF]⟩
      ·rw[aN]
       have h1:=List.length_filter_le (fun p=>decide (p∉F)) ((x0::lf).take i)
       rw[List.length_take] at h1
       rw[List.length_cons] at hsz h1
       omega
      ·rw[et,List.filter_append,List.filter_cons,if_pos (by simp[hnF]),List.filter_nil,←dJ];rfl
    ·rintro σ ys H' ⟨o,rfl,rfl,rfl⟩
     rw[aN,List.take_length]
     have sZ:=aw (o:=.lst (nV ((x0::lf).filter fun p=>decide (p∉F)))) hZ
     have yZ:upd H8 Z (.lst (nV ((x0::lf).filter fun p=>decide (p∉F)))) Z=some (.lst (nV ((x0::lf).filter fun p=>decide (p∉F)))):=ao
     generalize upd H8 Z (.lst (nV ((x0::lf).filter fun p=>decide (p∉F))))=H9 at sZ yZ ⊢
     have e0:((x0::lf).filter fun p=>decide (p∉F))=lf.filter fun p=>decide (p∉F):=by
      rw[List.filter_cons,if_neg (by simp[rn.x1])]
     have l0:=List.length_filter_le (fun p=>decide (p∉F)) lf
     rw[←e0] at l0
     have hmem:∀x,x∈((x0::lf).filter fun p=>decide (p∉F))↔x∈x0::lf∧x∉F:=fun x=>by rw[List.mem_filter,decide_eq_true_eq]
     have ndf:((x0::lf).filter fun p=>decide (p∉F)).Nodup:=ndl.filter _
     generalize ((x0::lf).filter fun p=>decide (p∉F))=lf' at *
     have sm9:=sm8.trans sZ
     have hF6:=s6 _ _ hFd5
     have hF9:=sm9 _ _ hF6
     have hg:=az hgs
     rw[List.length_cons] at hsz
     refine⟨_,rfl,.inl ⟨rfl,_,SqL.of hF9⟩,_,rfl,Fd,gs,_,rfl,rfl,hF9,by rw[hg];omega,?_⟩
     (generalize z:upd H9 Fd _=H10;have k10:=aK z;have y10:=ak z;clear z)
     have nFa:Fd≠fa:=nD hF6
     have nFD:D≠Fd:=fun z=>by rw[z,hF6] at hD6;cases hD6
     have nFZ:Z≠Fd:=fun z=>by rw[z,sm8 _ _ hF6] at hZ;cases hZ
     have sH:Same H H9:=(sm.trans s6).trans sm9
     refine⟨lf'.length,by rw[List.length_cons];omega,_,Z,lf',Fd,gs++[V.ref fa],fs++[F],rfl,rfl,hFd0,fun b' o e=>(k10 b' (ag e hFd0)).trans (sH _ _ e),(k10 D nFD).trans (sm9 _ _ hD6),(k10 Z nFZ).trans yZ,y10,?_,ndf,fun x hx=>hkey x ((hmem x).mp hx).1,?_,?_,?_,?_,?_,?_⟩
     ·refine bU ?_ (.cons ⟨fa,rfl,(k10 fa (Ne.symm nFa)).trans (sZ _ _ y8)⟩ .nil)
      refine mY (fun u l hu ⟨a,e1,e2⟩=>⟨a,e1,(k10 a fun z=>hnot (by rw[←z,←e1];exact hu)).trans (sm9 _ _ (s6 _ _ e2))⟩) hgs
     ·intro G hG
      rcases List.mem_append.mp hG with h|h
      ·exact hfan G h
      ·rw[List.mem_singleton.mp h];exact fF
     ·intro x hx
      rcases hcov x hx with h|⟨G,hG,h⟩
      ·by_cases hxF:x∈F
       ·exact .inr ⟨F,by simp,hxF⟩
       ·exact .inl ((hmem x).mpr ⟨h,hxF⟩)
      ·exact .inr ⟨G,List.mem_append_left _ hG,h⟩
     ·intro x hx G hG
      rcases List.mem_append.mp hG with h|h
      ·exact hdis x ((hmem x).mp hx).1 G h
      ·rw[List.mem_singleton.mp h];exact ((hmem x).mp hx).2
     ·refine List.pairwise_append.mpr ⟨hpw,List.pairwise_singleton _ _,fun G hG F' hF' x hx hxF=>?_⟩
      rw[List.mem_singleton.mp hF'] at hxF
      exact dF x hxF G hG hx
     ·rw[List.length_append,List.length_singleton];omega
     ·intro z
      rcases List.mem_append.mp z with h|h
      ·exact hnot h
      ·have:=List.mem_singleton.mp h
       cases this
       exact nFa rfl
end
end K15
end
section
namespace K15
def reE (v n:Nat) (F:List Nat) (e:Ent):Ent:=((rn v n F e.1.1 e.1.2,rn v n F e.1.2 e.2),rn v n F e.2 e.1.1)
theorem rM {ts:List Tri} {v n:Nat} {F:List Nat}:ents (ts.map (ren v n F))=(ents ts).map (reE v n F):=by
 induction ts with
 |nil=>rfl
 |cons t ts ih=>
  have h1:ents ((t::ts).map (ren v n F))=ents [ren v n F t]++ents (ts.map (ren v n F)):=by simp[ents]
  have h2:ents (t::ts)=ents [t]++ents ts:=by simp[ents]
  rw[h1,h2,List.map_append,ih]
  rfl
def Co (ts:List Tri) (u:Nat):Prop:=∃p q,En ts u p q
theorem rh {ts:List Tri} {v n:Nat} {F:List Nat} (g:Good ts) (fr:∀a b c,En ts a b c→a≠n):Good (ts.map (ren v n F)):=by
 have k:=g.sk
 have ks:=wq (v:=v) (F:=F) k fr
 refine⟨fun t ht=>?_,?_⟩
 ·obtain⟨⟨a,b,c⟩,h,rfl⟩:=List.mem_map.mp ht
  have e1:En ts a b c:=bq.mpr (.inl h)
  have e2:=k.rot e1
  have e3:=k.rot e2
  exact⟨ks.ne (c:=rn v n F c a) ⟨a,b,c,e1,rfl,rfl,rfl⟩,ks.ne (c:=rn v n F a b) ⟨b,c,a,e2,rfl,rfl,rfl⟩,ks.ne (c:=rn v n F b c) ⟨c,a,b,e3,rfl,rfl,rfl⟩⟩
 ·rw[rM,List.map_map]
  have nd:=g.nd
  have mem:∀e∈ents ts,En ts e.1.1 e.1.2 e.2:=fun e he=>he
  rw[List.Nodup,List.pairwise_map] at nd ⊢
  refine nd.imp_of_mem fun {x y} hx hy h z=>h ?_
  have z:=Prod.mk.inj z
  obtain⟨⟨a,b⟩,c⟩:=x
  obtain⟨⟨a',b'⟩,c'⟩:=y
  have e:En ts a b c:=mem _ hx
  have e':En ts a' b' c':=mem _ hy
  have z1:rn v n F a b=rn v n F a' b':=z.1
  have z2:rn v n F b c=rn v n F b' c':=z.2
  have key:∀{p q p' q'},p≠n→p'≠n→rn v n F p q=rn v n F p' q'→p=p':=by
   intro p q p' q' h1 h2 h3
   by_cases hx:rn v n F p q=n
   ·rw[(rn_n h1 hx).1,(rn_n h2 (h3 ▸ hx)).1]
   ·rw[←cH hx,h3,cH (h3 ▸ hx)]
  show (a,b)=(a',b')
  rw[key (fr _ _ _ e) (fr _ _ _ e') z1,key (fr _ _ _ (k.rot e)) (fr _ _ _ (k.rot e')) z2]
structure Mid (ts:List Tri) (v:Nat) (F0:List Nat) (fs:List (List Nat)) (rest:List Nat):Prop where
 good:Good ts
 fans:Fans (En ts) v (F0::fs)
 oth:∀u,Co ts u→u=v∨u∈rest∨One (En ts) u
theorem tS {E E':Nat→Nat→Nat→Prop} (h:∀a b c,E a b c↔E' a b c):E=E':=by
 funext a b c
 exact propext (h a b c)
theorem qT {ts:List Tri} {v n:Nat} {F0 F:List Nat} {fs:List (List Nat)} {rest:List Nat} (m:Mid ts v F0 (F::fs) rest) (fr:∀u,Co ts u→u≠n):Mid (ts.map (ren v n F)) v F0 fs rest:=by
 have fr':∀a b c,En ts a b c→a≠n:=fun a b c h=>fr a ⟨b,c,h⟩
 have k:=m.good.sk
 have eE:En (ts.map (ren v n F))=Rn (En ts) v n F:=tS fun _ _ _=>vX
 have hF:=m.fans.fan F (by simp)
 have hv:v≠n:=by
  obtain⟨p,hp⟩:=List.exists_mem_of_ne_nil _ hF.ne
  obtain⟨q,hq⟩:=hF.key p hp
  exact fr' _ _ _ hq
 have dis:=m.fans.dis
 rw[List.pairwise_cons,List.pairwise_cons] at dis
 obtain⟨d0,d1,d2⟩:=dis
 have dF:∀G∈F0::fs,∀p∈F,p∉G:=by
  intro G hG p hp hpG
  rcases List.mem_cons.mp hG with rfl|h
  ·exact d0 F (by simp) p hpG hp
  ·exact d1 G h p hp hpG
 refine⟨rh m.good fr',?_,?_⟩
 ·rw[eE]
  refine⟨fun G hG=>?_,fun p ⟨q,hq⟩=>?_,?_⟩
  ·refine rC k fr' hv (m.fans.fan G ?_) (dF G hG)
   rcases List.mem_cons.mp hG with rfl|h
   ·simp
   ·exact List.mem_cons_of_mem _ (List.mem_cons_of_mem _ h)
  ·obtain⟨h1,h2⟩:=(eY k fr' hv).mp hq
   obtain⟨G,hG,hp⟩:=m.fans.all p ⟨q,h1⟩
   rcases List.mem_cons.mp hG with rfl|h
   ·exact⟨G,by simp,hp⟩
   ·rcases List.mem_cons.mp h with rfl|h
    ·exact (h2 hp).elim
    ·exact⟨G,List.mem_cons_of_mem _ h,hp⟩
  ·rw[List.pairwise_cons]
   exact⟨fun G hG=>d0 G (List.mem_cons_of_mem _ hG),d2⟩
 ·rintro u ⟨p,q,h⟩
  rw[eE] at h ⊢
  by_cases hun:u=n
  ·subst hun
   exact .inr (.inr (qD k fr' hF))
  ·obtain⟨a,b,c,h,e1,_,_⟩:=h
   have ea:u=a:=by rw[e1];exact cH (by rw[←e1];exact hun)
   subst ea
   rcases m.oth u ⟨b,c,h⟩ with h1|h1|h1
   ·exact .inl h1
   ·exact .inr (.inl h1)
   ·by_cases huv:u=v
    ·exact .inl huv
    ·exact .inr (.inr (o_ k fr' hF hv huv hun h1))
theorem t6 {ts:List Tri} {v:Nat} {F0:List Nat} {rest:List Nat} (m:Mid ts v F0 [] rest) (u:Nat) (hu:Co ts u):u∈rest∨One (En ts) u:=by
 rcases m.oth u hu with rfl|h
 ·refine .inr ⟨F0,m.fans.fan F0 (by simp),fun p hp=>?_⟩
  obtain⟨G,hG,h⟩:=m.fans.all p hp
  rw[List.mem_singleton.mp hG] at h
  exact h
 ·exact h
theorem pz {ts:List Tri} {v:Nat} {F0:List Nat} {fs:List (List Nat)} {rest:List Nat} (g:Good ts) (h:Fans (En ts) v (F0::fs)) (o:∀u,Co ts u→u∈v::rest∨One (En ts) u):Mid ts v F0 fs rest:=
 ⟨g,h,fun u hu=>(o u hu).elim (fun z=>(List.mem_cons.mp z).elim .inl fun z=>.inr (.inl z)) fun z=>.inr (.inr z)⟩
theorem qU {ts:List Tri} {v:Nat} {rest:List Nat} (h:Fans (En ts) v []) (o:∀u,Co ts u→u∈v::rest∨One (En ts) u) (u:Nat) (hu:Co ts u):u∈rest∨One (En ts) u:=by
 rcases o u hu with z|z
 ·rcases List.mem_cons.mp z with rfl|z
  ·obtain⟨p,q,hp⟩:=hu
   obtain⟨G,hG,_⟩:=h.all p ⟨q,hp⟩
   cases hG
  ·exact .inl z
 ·exact .inr z
theorem aL {ts:List Tri} {u:Nat}:Co ts u↔∃t∈ts,u=t.1∨u=t.2.1∨u=t.2.2:=by
 constructor
 ·rintro⟨p,q,h⟩
  rcases bq.mp h with h|h|h
  ·exact⟨_,h,.inl rfl⟩
  ·exact⟨_,h,.inr (.inl rfl)⟩
  ·exact⟨_,h,.inr (.inr rfl)⟩
 ·rintro⟨⟨a,b,c⟩,h,rfl|rfl|rfl⟩
  ·exact⟨b,c,bq.mpr (.inl h)⟩
  ·exact⟨c,a,bq.mpr (.inr (.inl h))⟩
  ·exact⟨a,b,bq.mpr (.inr (.inr h))⟩
end K15
end
section
namespace L2
open PySem PySem.Spec PyProof.Rows
section
variable {X:Cx}
theorem Inv.bareTup {pins:List (Addr × Obj)} {σ:St} {H:Hp} {s:Shared} {a:Addr} {xs:List V} (I:Inv X pins σ H s) (h:Rd H a (.tup xs)) :
  s.TypeIs (.ref a) "tuple"∧∃ob,s.heap.get? a=some ob∧ob.dict=none:=by
 obtain⟨⟨_,b⟩,its,r,p⟩:=h.ok I.hok
 exact⟨p.typeIs,b⟩
def tTM (r:V→List V→Hp→VK→Prop) (to:TE) (t:TA):TE:=fun σ H Q=>to σ H fun x H1=>(∃a xs,x=.ref a∧Rd H1 a (.tup xs))∧t σ H1 fun vs H2=>r x vs H2 Q
theorem uF {o e:Expr} {es:List Expr} {to:TE} {t:TA} {name:Str} {apos cpos:Pos} {id:String} {r:V→List V→Hp→VK→Prop} (pa:PlainAttrs "tuple") (slot:Slot "tuple" name id) (hty:typeOf (.builtin id)=pure (.type "method_descriptor")) (hm:MtM X id r) (ho:PE X o to) (ha:PA X (e::es) t)
  (hbase:attributeBase o name X.env (eval o X.env)=eval o X.env:=by rfl)
  (hfew:((backTo cpos (starEach (e::es) X.env)).all (fun x=>!x.1)&&(backToKw cpos (keywordEach [] X.env)).all (fun x=>x.1.isSome)
   && decide ((e::es).length+([]:List Keyword).length+(if ([]:List Keyword).isEmpty then 0 else 1) < 30))=true:=by rfl)
  (hline:(apos.endLine==cpos.line)=true:=by rfl) (hs:starEach (e::es) X.env=(false,eval e X.env)::starEach es X.env:=by rfl) (hplain:(backTo cpos (starEach es X.env)).any (·.1)=false:=by rfl) :
  PE X (.Call (.Attribute o name apos) (e::es) [] cpos) (tTM r to t):=by
 intro pins s σ H Q I h
 refine wpAny_Call_method_late hbase hfew hline rfl (thn (ho pins s σ H _ I h) fun v s1 ⟨x,H1,I1,r1,⟨a,xs,ex,hx⟩,q1⟩=>?_)
 subst ex
 obtain rfl:v=Value.ref a:=r1
 obtain⟨h1,h2⟩:=I1.bareTup hx
 refine⟨"tuple",id,pa,slot,hty,h1,fun b e=>by cases e;exact h2,?_⟩
 have hA:=ha cpos pins s1 σ H1 _ I1 q1
 rw[hs] at hA ⊢
 refine Calls.callWith_builtin (by show (false||(backTo cpos (starEach es X.env)).any (·.1))=false;rw[hplain] <;> rfl) (Calls.evalArgs_plain ?_)
 exact thn hA fun us s2 ⟨vs,H2,I2,r2,q2⟩=>hm pins s2 σ H2 (.ref a) vs (.ref a) us Q I2 rfl r2 q2
end
end L2
end
section
namespace K15
open PySem L2 K51 K31
theorem kg {A B:TS} {D:Ends} {σ:St} {H:Hp} (R:St→Hp→Prop) (hA:∀NX:St→Hp→Prop,(∀σ H,R σ H→NX σ H)→A {D with nx:=NX} σ H) (hB:∀σ H,R σ H→B D σ H):tSeq A B D σ H:=hA (B D) hB
theorem sM {x:V} {i:Nat} {B:TS} {D:Ends} {σ:St} {H:Hp} (h:B D (σ.set i (some x)) H):tSeq (tAsg (tC x) (cZ i)) B D σ H:=h
theorem tD {v n a b c:Nat} {F:List Nat} (h1:a=v→b∉F) (h2:b=v→c∉F) (h3:c=v→a∉F):rn v n F a b=a∧rn v n F b c=b∧rn v n F c a=c:=by
 unfold rn
 exact⟨if_neg fun z=>h1 z.1 z.2,if_neg fun z=>h2 z.1 z.2,if_neg fun z=>h3 z.1 z.2⟩
theorem vg {v n a b c:Nat} {F:List Nat} (h:a=v∧b∈F∨b=v∧c∈F∨c=v∧a∈F) (n1:a≠b) (n2:b≠c) (n3:c≠a) :
  rn v n F a b=(if a=v then n else a)∧rn v n F b c=(if b=v then n else b)∧rn v n F c a=if c=v then n else c:=by
 unfold rn
 rcases h with ⟨rfl,h⟩|⟨rfl,h⟩|⟨rfl,h⟩
 ·exact⟨by rw[if_pos ⟨rfl,h⟩,if_pos rfl],by rw[if_neg fun z=>n1 z.1.symm,if_neg fun z=>n1 z.symm],by rw[if_neg fun z=>n3 z.1,if_neg n3]⟩
 ·exact⟨by rw[if_neg fun z=>n1 z.1,if_neg n1],by rw[if_pos ⟨rfl,h⟩,if_pos rfl],by rw[if_neg fun z=>n2 z.1.symm,if_neg fun z=>n2 z.symm]⟩
 ·exact⟨by rw[if_neg fun z=>n3 z.1.symm,if_neg fun z=>n3 z.symm],by rw[if_neg fun z=>n2 z.1,if_neg n2],by rw[if_pos ⟨rfl,h⟩,if_pos rfl]⟩
def fL:Sp:=fun vs H Q _=>∃(T:Addr) (vt:List V) (ts:List Tri),vs=[.ref T]∧H T=some (.lst vt)∧ay H vt ts∧ts.length≤20∧Good ts ∧
 ∀r vr ts' H',Same H H'→H' r=some (.lst vr)→ay H' vr ts'→ts'.length=ts.length→Good ts'→(∀u,Co ts' u→One (En ts') u)→Q (.ref r) H'
section
variable {P:Program} {w:World} {K:W.Frag} {mg:Str→Option Value} {base:Heap}
theorem cQ:aB ["_law_triples","_law_corner","_law_fan","_law_new","_law_made","_law_triple","_law_at_here"] ["_law_triples"] (ae du):=⟨rfl,rfl,rfl,by decide +kernel,rfl,by decide +kernel,by decide +kernel⟩
theorem qH {f f1 f2:Addr} {fd d1 d2:FuncData} (U:Fun K "_law_split" "_law_split" du f fd) (T:TxtN mg) (mM:mg "max" = none)
  (G1:FnOk P w K mg base CX0 2 f1 d1 ["_law_triples"] cC) (b1:Binds K d1 ["_law_triples"] []) (m1:mg "_law_corners" = some (.ref f1)) (k1:W.keepIn K (.ref f1)=true)
  (G2:FnOk P w K mg base CX0 2 f2 d2 ["_law_triples","_law_corner"] mJ) (b2:Binds K d2 ["_law_triples","_law_corner"] []) (m2:mg "_law_fans" = some (.ref f2)) (k2:W.keepIn K (.ref f2)=true) :
  FnOk P w K mg base CX0 3 f fd ["_law_triples"] fL:=by
 refine U.ok cQ (fun vs H Q E h=>?_) (fun cdv A outer s H vs Q E hr h=>?_)
 ·obtain⟨T,vt,ts,rfl,_⟩:=h
  rfl
 ·obtain⟨T0,vt,ts,rfl,hT,ht,hl,g,q⟩:=h
  have hu:=cL hr
  refine⟨_,(af (ba PassesOwn.never rfl (aG (ar G1 hr rfl m1 k1 b1 .nil pass0 (aa (pv 0) ac))) (aq (i:=1) cQ.nd rfl (Or.inr rfl)) (am (ba PassesOwn.never rfl (aG (fR nX (ar G2 hr rfl m2 k2 b2 .nil pass0 (aa (pv 0) (aa (pv 1) ac))) (ib al) ic)) (aq (i:=2) cQ.nd rfl (Or.inl rfl)) (af (ax (i:=3) cQ.nd rfl (Or.inr rfl) (aA aV (aC (dL rfl) (by rfl) mM PyProof.Rows.boot_max (aa (ar G1 hr rfl m1 k1 b1 .nil pass0 (aa (pv 0) ac)) ac)) al))
   (af (ax (i:=4) cQ.nd rfl (Or.inl rfl) (bc ac))
   (af (ba PassesOwn.never rfl (aG (pv 0)) (aq (i:=5) cQ.nd rfl (Or.inl rfl)) (af (ax (i:=6) cQ.nd rfl (Or.inl rfl) al)
   (af (bH (aF gr (pv 1) (pv 5) rfl) (am (ax (i:=6) cQ.nd rfl (Or.inl rfl) (uF PySem.F.plainAttrs_tuple PySem.F.slot_tuple_index PySem.F.type_tuple_index (jC hr.units) (pv 5) (aa (pv 1) ac)))) aJ)
   (af (bH (PW.pt (iG (aF ol (pv 6) al (nomark _)) (fO (aF gr (cq vQ (pv 5) (aA cY (aA aV (pv 6) al) al) (fun _ _=>rfl)) (pv 2) rfl)))) (am (ax (i:=5) cQ.nd rfl (Or.inl rfl) (aI cV (by rfl) T.tuple PyProof.Rows.boot_tuple (aa (bp (N:=["_law_one","_law_new","_law_corner"]) (fr:=[none,some 3,some 1]) (te:=tOp (rIxL K) (tLst (eD (tVar 0) (eD (tVar 1) tNil))) (tCB (fun xs H Q=>(∃i,xs=[.int i]∧Q (.int i) H)∨∃k,xs=[.bl k]∧Q (.int (if k then 1 else 0)) H) (eD (tOp rEq (tVar 0) (tVar 2)) tNil))) (aR (by decide +kernel) rfl rfl (by decide +kernel) (by decide +kernel) (by
      intro y hy e
      simp only[List.mem_cons,List.not_mem_nil,or_false] at hy
      rcases hy with rfl|rfl|rfl|rfl|rfl
      all_goals first|(cases e;done)|exact .inl rfl) (by
      intro j i y e1 e2
      match j,e1,e2 with
      |0,e1,_=>simp at e1
      |1,e1,e2=>simp at e1 e2;subst e1 e2;exact⟨rfl,rfl⟩
      |2,e1,e2=>simp at e1 e2;subst e1 e2;exact⟨rfl,rfl⟩
      |j+3,e1,_=>simp at e1)) rfl (gq (pv 5))
     (fun C' s' H' fp pins=>⟨aq (i:=0) (show (["_law_one","_law_new","_law_corner"]:List Str).Nodup by decide +kernel) rfl (Or.inl rfl) (.inr rfl),bJ,cq aW (bc (aa (pv 0) (aa (pv 1) ac))) (aI fe (by rfl) T.int PyProof.Rows.boot_int (aa (ef fk (pv 0) (pv 2) (nomark _)) ac)) (fun _ _=>rfl)⟩)) ac)))) aJ)
   (am (bI (bX PySem.F.plainAttrs_list PySem.F.slot_list_append PySem.F.type_list_append bo (pv 4) (aa (pv 5) ac))))))))
   (am (ax (i:=0) cQ.nd rfl (Or.inl rfl) (pv 4)))))))))
   (am (aD (pv 0)))),?_⟩
  have hline:=line5000
  refine⟨_,rfl,T0,vt,ts,rfl,hT,ht,by omega,fun r0 cs H1 hr0 s1 y1 hcs hcl=>?_⟩
  refine⟨r0,rfl,⟨_,SqL.of y1⟩,bd (K:=K) (a:=r0) (xs:=nV cs) (fun i σ H'=>∃v1 v2 v3 v4 v5 v6 Tc vc tc,σ=[some (V.ref Tc),v1,v2,v3,v4,v5,v6]∧Same H1 H'∧H' Tc=some (.lst vc)∧ay H' vc tc∧tc.length=ts.length∧Good tc∧∀u,Co tc u→u∈cs.drop i∨One (En tc) u)
   ⟨none,none,none,none,none,none,T0,vt,ts,rfl,Same.refl _,s1 _ _ hT,ht.same s1,rfl,g,fun u hu=>.inl ?_⟩ (fun i σ H' _ ⟨_,_,_,_,_,_,_,_,_,_,e,_⟩=>SqL.of (e _ _ y1)) ?_ ?_⟩
  ·rw[List.drop_zero,hcs.2]
   obtain⟨t,htm,hu⟩:=aL.mp hu
   exact List.mem_flatMap.mpr ⟨t,htm,by simpa using hu⟩
  ·rintro i x σ H2 hi ⟨v1,v2,v3,v4,v5,v6,Tc,vc,tc,rfl,sm2,hTc,htc,hlc,gc,oc⟩
   rw[nV,List.getElem?_map] at hi
   obtain⟨v,hv,rfl⟩:=Option.map_eq_some_iff.mp hi
   have hil:=(List.getElem?_eq_some_iff.mp hv).1
   have edr:cs.drop i=v::cs.drop (i+1):=by
    rw[List.drop_eq_getElem_cons hil,(List.getElem?_eq_some_iff.mp hv).2]
   rw[edr] at oc
   refine⟨_,rfl,_,rfl,Tc,vc,tc,v,rfl,hTc,htc,by omega,gc,fun r gs fs H3 hr3 s3 y3 lps hfn hfl=>?_⟩
   refine⟨1,rfl,r,gs,rfl,SqL.of y3,fun p hp=>?_⟩
   rw[show cutV gs (some 1) none=gs.drop 1 from r9 gs 1]
   (generalize z:upd H3 p _=H4;have s4:=ah hp z;have y4:=ak z;clear z)
   have sm4:=(sm2.trans s3).trans s4
   cases fs with
   |nil=>
    cases lps
    refine⟨p,rfl,⟨_,SqL.of y4⟩,bd (K:=K) (a:=p) (xs:=[]) (fun j σ H'=>σ=[some (V.ref Tc),some (.int (v:Int)),v2,v3,v4,v5,v6]∧H' = H4) ⟨rfl,rfl⟩ (fun j σ H' _ ⟨_,e⟩=>by rw[e];exact SqL.of y4) (fun j x σ H' h=>by simp at h) ?_⟩
    rintro σ H' ⟨rfl,rfl⟩
    exact⟨_,_,_,_,_,_,Tc,vc,tc,rfl,sm4,s4 _ _ (s3 _ _ hTc),(htc.same s3).same s4,hlc,gc,qU hfn oc⟩
   |cons F0 fs=>
    obtain⟨g0,gs,rfl,hg0,hgs⟩:∃g0 gs',gs=g0::gs'∧LpAt H3 g0 F0∧jR H3 gs' fs:=by
     cases lps with
     |cons a b=>exact⟨_,_,rfl,a,b⟩
    refine⟨p,rfl,⟨_,SqL.of y4⟩,bd (K:=K) (a:=p) (xs:=gs) (fun j σ H'=>∃v2 v3 v4 v5 v6 Tc vc tc,σ=[some (V.ref Tc),some (.int (v:Int)),v2,v3,v4,v5,v6]∧Same H4 H'∧H' Tc=some (.lst vc)∧ay H' vc tc∧tc.length=ts.length∧Mid tc v F0 (fs.drop j) (cs.drop (i+1)))
     ⟨v2,v3,v4,v5,v6,Tc,vc,tc,rfl,Same.refl _,s4 _ _ (s3 _ _ hTc),(htc.same s3).same s4,hlc,pz gc hfn oc⟩ (fun j σ H' _ ⟨_,_,_,_,_,_,_,_,_,e,_⟩=>SqL.of (e _ _ y4)) ?_ ?_⟩
    ·rintro j x σ H5 hj ⟨v2,v3,v4,v5,v6,Tc,vc,tc,rfl,sm5,hTc,htc,hlc,md⟩
     obtain⟨F,hF,fa,rfl,hfa⟩:=aS hgs hj
     have hjl:=(List.getElem?_eq_some_iff.mp hF).1
     have efs:fs.drop j=F::fs.drop (j+1):=by
      rw[List.drop_eq_getElem_cons hjl,(List.getElem?_eq_some_iff.mp hF).2]
     rw[efs] at md
     have hfa5:=sm5 _ _ (s4 _ _ hfa)
     refine⟨_,rfl,Tc,vc,tc,rfl,hTc,htc,by omega,fun rc cs2 H6 hrc s6 y6 hcs2 hcl2=>?_⟩
     have ev:nV cs2=(cs2.map (fun c:Nat=>(c:Int))).map V.int:=by rw[List.map_map];rfl
     have hco:∀u,Co tc u→u∈cs2:=fun u hu=>by
      rw[hcs2.2]
      obtain⟨t,htm,hu⟩:=aL.mp hu
      exact List.mem_flatMap.mpr ⟨t,htm,by simpa using hu⟩
     have hvc:Co tc v:=by
      have fF:=md.fans.fan F (by simp)
      obtain⟨p,hp⟩:=List.exists_mem_of_ne_nil _ fF.ne
      obtain⟨q,hq⟩:=fF.key p hp
      exact⟨p,q,hq⟩
     refine⟨rc,_,rfl,SqL.of (by rw[y6,ev]),fun z=>?_,fun m hm hmax=>⟨_,_,rfl,rfl,?_⟩⟩
     ·have:=hco v hvc
      rw[List.map_eq_nil_iff.mp z] at this
      cases this
     obtain⟨n0,hn0,rfl⟩:=List.mem_map.mp hm
     have hfr:∀u,Co tc u→u≠n0+1:=fun u hu z=>by
      have:=hmax (u:Int) (List.mem_map.mpr ⟨u,hco u hu,rfl⟩)
      omega
     have en:V.int ((n0:Int)+1)=V.int ((n0+1:Nat):Int):=rfl
     have mdS:=qT md hfr
     have hvn:=hfr v hvc
     generalize n0+1=n at hfr en mdS hvn
     refine⟨Nat.zero_le _,fun mo hmo=>?_⟩
     (generalize z:upd H6 mo _=H7;have s7:=ah hmo z;have y7:=ak z;clear z)
     have hT7:=s7 _ _ (s6 _ _ hTc)
     have ht7:=(htc.same s6).same s7
     refine⟨_,rfl,Tc,rfl,⟨_,SqL.of hT7⟩,bd (K:=K) (a:=Tc) (xs:=vc) (fun k σ H'=>∃v5 v6 vm,σ=[some (V.ref Tc),some (.int (v:Int)),some (.ref fa),some (.int (n:Int)),some (.ref mo),v5,v6]∧Same H6 H'∧H' mo=some (.lst vm)∧ay H' vm ((tc.take k).map (ren v n F)))
      ⟨v5,v6,[],by rw[←en];rfl,s7,y7,.nil⟩ (fun k σ H' _ ⟨_,_,_,_,e,_⟩=>SqL.of (e _ _ (s6 _ _ hTc))) ?_ ?_⟩
     ·rintro k x σ H8 hk ⟨v5,v6,vm,rfl,sm8,hmo8,hvm⟩
      obtain⟨⟨a,b,c⟩,hs,t,rfl,hb⟩:=aS htc hk
      have hb:H5 t=some (.tup [.int (a:Int),.int (b:Int),.int (c:Int)]):=hb
      have hb8:=sm8 _ _ (s6 _ _ hb)
      have hF8:=sm8 _ _ (s6 _ _ hfa5)
      obtain⟨n1,n2,n3⟩:a≠b∧b≠c∧c≠a:=md.good.ne (a,b,c) (List.mem_of_getElem? hs)
      have et:(tc.take (k+1)).map (ren v n F)=(tc.take k).map (ren v n F)++[(rn v n F a b,rn v n F b c,rn v n F c a)]:=by rw[List.take_add_one,hs,List.map_append];rfl
      have vml:vm.length≤20:=by
       rw[az hvm,List.length_map,List.length_take];omega
      refine sM ?_
      refine kg (fun σ H'=>∃j:Nat,σ=[some (V.ref Tc),some (.int (v:Int)),some (.ref fa),some (.int (n:Int)),some (.ref mo),some (.ref t),some (.int (j:Int))]∧H' = H8∧(j=3∧a≠v∧b≠v∧c≠v∨j=0∧a=v∨j=1∧b=v∨j=2∧c=v)) (fun NX z=>?_) ?_
      ·refine⟨_,rfl,_,rfl,t,_,rfl,.inr (SqT.of hb8),rfl,rfl,_,rfl,?_⟩
       show if (if false=true then _ else inV (V.int (v:Int)) (nV [a,b,c]))=true then _ else _
       rw[if_neg Bool.false_ne_true,eS]
       by_cases hv3:v∈[a,b,c]
       ·rw[decide_eq_true hv3]
        refine iteT ⟨_,rfl,⟨t,_,rfl,.inl hb8⟩,_,rfl,?_⟩
        have dts:Dts K H8 [V.int (a:Int),.int (b:Int),.int (c:Int)] [.int (a:Int),.int (b:Int),.int (c:Int)]:=.cons (.int _) (.cons (.int _) (.cons (.int _) .nil))
        have eqi:∀x y:Nat,PyData.eqv (.int (x:Int)) (.int (y:Int))=decide (x=y):=fun x y=>by
         rw[Bool.eq_iff_iff];simp[PyData.eqv];omega
        have dd:(PyData.int (v:Int)).depth≤60:=by simp[PyData.depth]
        by_cases ha:a=v
        ·exact⟨t,_,_,_,_,0,rfl,rfl,SqT.of hb8,dts,.int _,dd,by simp,by show PyData.eqv (.int (a:Int)) _=true;rw[eqi];exact decide_eq_true ha,fun m hm=>by omega,z _ _ ⟨0,rfl,rfl,.inr (.inl ⟨rfl,ha⟩)⟩⟩
        ·have f0:PyData.eqv (.int (a:Int)) (.int (v:Int))=false:=by rw[eqi];exact decide_eq_false ha
         by_cases hbv:b=v
         ·refine⟨t,_,_,_,_,1,rfl,rfl,SqT.of hb8,dts,.int _,dd,by simp,by show PyData.eqv (.int (b:Int)) _=true;rw[eqi];exact decide_eq_true hbv,fun m hm=>?_,z _ _ ⟨1,rfl,rfl,.inr (.inr (.inl ⟨rfl,hbv⟩))⟩⟩
          obtain rfl:m=0:=by omega
          exact f0
         ·have f1:PyData.eqv (.int (b:Int)) (.int (v:Int))=false:=by rw[eqi];exact decide_eq_false hbv
          have hcv:c=v:=by
           simp only[List.mem_cons,List.not_mem_nil,or_false] at hv3
           rcases hv3 with h|h|h
           ·exact (ha h.symm).elim
           ·exact (hbv h.symm).elim
           ·exact h.symm
          refine⟨t,_,_,_,_,2,rfl,rfl,SqT.of hb8,dts,.int _,dd,by simp,by show PyData.eqv (.int (c:Int)) _=true;rw[eqi];exact decide_eq_true hcv,fun m hm=>?_,z _ _ ⟨2,rfl,rfl,.inr (.inr (.inr ⟨rfl,hcv⟩))⟩⟩
          obtain rfl|rfl:m=0∨m=1:=by omega
          ·exact f0
          ·exact f1
       ·rw[decide_eq_false hv3]
        simp only[List.mem_cons,List.not_mem_nil,or_false,not_or] at hv3
        exact iteF (z _ _ ⟨3,rfl,rfl,.inl ⟨rfl,Ne.symm hv3.1,Ne.symm hv3.2.1,Ne.symm hv3.2.2⟩⟩)
      rintro σ H9 ⟨j,rfl,rfl,hj3⟩
      refine kg (fun σ H'=>∃t' w6,σ=[some (V.ref Tc),some (.int (v:Int)),some (.ref fa),some (.int (n:Int)),some (.ref mo),some (.ref t'),w6]∧Same H9 H'∧H' t' = some (.tup [.int (rn v n F a b:Int),.int (rn v n F b c:Int),.int (rn v n F c a:Int)])) (fun NX z=>?_) ?_
      ·obtain⟨y,hy,hyr⟩:∃y:Nat,(j < 3→atI [V.int (a:Int),.int (b:Int),.int (c:Int)] (((j:Int)+1) % 3)=some (V.int (y:Int)))∧(j < 3→(y∈F→a=v∧b∈F∨b=v∧c∈F∨c=v∧a∈F)∧(y∉F→(a=v→b∉F)∧(b=v→c∉F)∧(c=v→a∉F))):=by
        rcases hj3 with ⟨rfl,_⟩|⟨rfl,h⟩|⟨rfl,h⟩|⟨rfl,h⟩
        ·exact⟨0,fun z=>by omega,fun z=>by omega⟩
        ·exact⟨b,fun _=>bY (j:=1) rfl,fun _=>⟨fun z=>.inl ⟨h,z⟩,fun z=>⟨fun _=>z,fun e=>(n1 (h.trans e.symm)).elim,fun e=>(n3 (e.trans h.symm)).elim⟩⟩⟩
        ·exact⟨c,fun _=>bY (j:=2) rfl,fun _=>⟨fun z=>.inr (.inl ⟨h,z⟩),fun z=>⟨fun e=>(n1 (e.trans h.symm)).elim,fun _=>z,fun e=>(n2 (h.trans e.symm)).elim⟩⟩⟩
        ·exact⟨a,fun _=>bY (j:=0) rfl,fun _=>⟨fun z=>.inr (.inr ⟨h,z⟩),fun z=>⟨fun e=>(n3 (h.trans e.symm)).elim,fun e=>(n2 (e.trans h.symm)).elim,fun _=>z⟩⟩⟩
       have same:(a=v→b∉F)∧(b=v→c∉F)∧(c=v→a∉F)→NX [some (V.ref Tc),some (.int (v:Int)),some (.ref fa),some (.int (n:Int)),some (.ref mo),some (.ref t),some (.int (j:Int))] H9:=fun h=>by
        obtain⟨e1,e2,e3⟩:=tD (n:=n) h.1 h.2.1 h.2.2
        exact z _ _ ⟨t,_,rfl,Same.refl _,by rw[e1,e2,e3];exact hb8⟩
       refine⟨_,rfl,_,_,rfl,rfl,_,rfl,?_⟩
       show if decide ((j:Int) < 3)=true then _ else _
       by_cases hj:j < 3
       ·rw[decide_eq_true (show (j:Int) < 3 by omega)]
        refine iteT ?_
        refine⟨_,rfl,_,rfl,_,_,rfl,rfl,_,_,rfl,rfl,by omega,t,_,_,_,rfl,rfl,SqT.of hb8,hy hj,_,rfl,fa,_,rfl,.inl (SqL.of hF8),rfl,eA _,_,rfl,?_⟩
        show if (if false=true then _ else inV (V.int (y:Int)) (nV F))=true then _ else _
        rw[if_neg Bool.false_ne_true,eS]
        by_cases hyF:y∈F
        ·rw[decide_eq_true hyF]
         refine iteT ?_
         obtain⟨e1,e2,e3⟩:=vg (n:=n) ((hyr hj).1 hyF) n1 n2 n3
         have fv:∀z:Nat,atI [V.int (z:Int),V.int (n:Int)] (if decide ((z:Int)=(v:Int))=true then 1 else 0)=some (V.int ((if z=v then n else z:Nat):Int)):=fun z=>by
          by_cases h:z=v
          ·rw[if_pos (decide_eq_true (by omega)),if_pos h];exact bY (j:=1) rfl
          ·rw[if_neg (by simp;omega),if_neg h];exact bY (j:=0) rfl
         refine⟨_,rfl,t,rfl,⟨_,SqT.of hb8⟩,fun Z hZ=>eU (K:=K) (a:=t) (xs:=nV [a,b,c]) (fun i σ ys H'=>∃o,σ=[o,some (.int (n:Int)),some (.int (v:Int))]∧ys=nV (([a,b,c].take i).map fun z=>if z=v then n else z)∧Same H9 H'∧H' Z=some (.lst ys)) ⟨none,rfl,rfl,aw hZ,ao⟩ (fun i σ ys H' _ ⟨_,_,_,e,_⟩=>SqT.of (e _ _ hb8)) ?_ ?_⟩
         ·rintro i x σ ys H' hi ⟨o,rfl,rfl,sm',hZ'⟩
          rw[nV,List.getElem?_map] at hi
          obtain⟨z,hz,rfl⟩:=Option.map_eq_some_iff.mp hi
          have hil:i < 3:=(List.getElem?_eq_some_iff.mp hz).1
          refine⟨_,rfl,_,rfl,lit2,fun l2 hl2=>?_⟩
          (generalize z:upd H' l2 _=H'';have s'':=ah hl2 z;have y'':=ak z;clear z)
          refine⟨_,rfl,_,rfl,rfl,.inr ⟨_,rfl,l2,_,_,V.int ((if z=v then n else z:Nat):Int),rfl,rfl,SqL.of y'',?_,s'' _ _ hZ',?_,_,rfl,?_,fun b' o e=>?_,ao⟩⟩
          ·rw[decI];exact fv z
          ·rw[aN,List.length_map,List.length_take];simp;omega
          ·rw[List.take_add_one,hz,List.map_append,←dJ];rfl
          ·rw[au (fun q=>by rw[q] at e;rw[e] at hZ;cases hZ)]
           exact s'' _ _ (sm' _ _ e)
         ·rintro σ ys H' ⟨o,rfl,rfl,sm',hZ'⟩
          refine⟨Z,_,rfl,.inl ⟨SqL.of hZ',fun t' ht'=>?_⟩⟩
          exact z _ _ ⟨t',_,rfl,sm'.trans (aw ht'),by rw[ao,e1,e2,e3];rfl⟩
        ·rw[decide_eq_false hyF]
         exact iteF (same ((hyr hj).2 hyF))
       ·rw[decide_eq_false (show ¬(j:Int) < 3 by omega)]
        refine iteF (iteF (same ?_))
        rcases hj3 with ⟨_,h1,h2,h3⟩|⟨h,_⟩|⟨h,_⟩|⟨h,_⟩
        ·exact⟨fun z=>(h1 z).elim,fun z=>(h2 z).elim,fun z=>(h3 z).elim⟩
        all_goals omega
      ·rintro σ H10 ⟨t',w6,rfl,sm10,ht'⟩
       have hm10:=sm10 _ _ hmo8
       refine⟨_,rfl,.inl ⟨rfl,_,SqL.of hm10⟩,_,rfl,mo,vm,_,rfl,rfl,hm10,by omega,?_⟩
       (generalize z:upd H10 mo _=H11;have k11:=aK z;have y11:=ak z;clear z)
       refine⟨_,_,_,rfl,fun b' o e=>(k11 b' (ag e hmo)).trans ((sm8.trans sm10) _ _ e),y11,?_⟩
       rw[et]
       have tn:∀{b':Addr} {xs:List V},H10 b' = some (.tup xs)→b'≠mo:=fun e=>bi e hm10 (by simp)
       refine bU (Paired.imp' (fun _ _ ⟨b',e1,e2⟩=>⟨b',e1,(k11 b' (tn (sm10 _ _ e2))).trans (sm10 _ _ e2)⟩) hvm) (.cons ⟨t',rfl,(k11 t' (tn ht')).trans ht'⟩ .nil)
     ·rintro σ H8 ⟨v5,v6,vm,rfl,sm8,hmo8,hvm⟩
      rw[az htc,List.take_length] at hvm
      exact⟨_,rfl,_,_,_,_,_,mo,vm,_,rfl,(sm5.trans s6).trans sm8,hmo8,hvm,by rw[List.length_map];exact hlc,mdS⟩
    ·rintro σ H5 ⟨v2,v3,v4,v5,v6,Tc,vc,tc,rfl,sm5,hTc,htc,hlc,md⟩
     rw[az hgs,List.drop_length] at md
     exact⟨_,_,_,_,_,_,Tc,vc,tc,rfl,sm4.trans sm5,hTc,htc,hlc,md.good,t6 md⟩
  ·rintro σ H2 ⟨v1,v2,v3,v4,v5,v6,Tc,vc,tc,rfl,sm2,hTc,htc,hlc,gc,oc⟩
   rw[aN,List.drop_length] at oc
   exact⟨_,rfl,q Tc vc tc H2 (s1.trans sm2) hTc htc hlc gc fun u hu=>(oc u hu).resolve_left (by simp)⟩
end
end K15
end
section
namespace K15
open PySem L2 K51 K31
def But (p:Addr) (H H':Hp):Prop:=∀b o,b≠p→H b=some o→H' b=some o
theorem But.refl {p:Addr} {H:Hp}:But p H H:=fun _ _ _ e=>e
theorem But.same {p:Addr} {H H' H'':Hp} (h:But p H H') (s:Same H' H''):But p H H'':=fun b o n e=>s _ _ (h b o n e)
theorem fc {ts ts':List Tri} (g:Good ts) (h:(ents ts').Perm (ents ts)):Good ts':=by
 refine⟨fun t ht=>?_,(h.map _).nodup_iff.mpr g.nd⟩
 have k:=g.sk
 obtain⟨a,b,c⟩:=t
 have e:En ts a b c:=h.mem_iff.mp (bq.mpr (.inl ht))
 exact⟨k.ne e,k.ne (k.rot e),k.ne (k.rot (k.rot e))⟩
theorem lg20 {n:Nat} (h:n≤1000):((n:Int)+1).natAbs.log2 < 9000:=by
 have e:((n:Int)+1).natAbs=n+1:=by omega
 rw[e]
 have:=Nat.log2_lt (n:=n+1) (k:=9000) (by omega)
 rw[this]
 exact Nat.lt_of_lt_of_le (show n+1 < 2 ^ 10 by omega) (Nat.pow_le_pow_right (by decide) (by decide))
theorem oh {α β:Type} {F:α→β→Prop}:∀{xs:List α} {ys:List β} (k:Nat),Paired F xs ys→Paired F (xs.drop k) (ys.drop k)
 |_,_,0,h=>h
 |_,_,_+1,.nil=>.nil
 |_,_,k+1,.cons _ t=>oh k t
def iB:Sp:=fun vs H Q _=>∃(p T:Addr) (q:Int × Int) (vt:List V) (ts:List Tri),vs=[.ref p,.ref T]∧H p=some (.lst (potV q))∧bn q∧H T=some (.lst vt)∧T≠p∧ay H vt ts∧ts.length≤200 ∧
 ∀r vr ts' q' H',H r=none→But p H H'→H' p=some (.lst (potV q'))→bn q'→H' r=some (.lst vr)→ay H' vr ts'→ts'.length=ts.length→(ents ts').Perm (ents ts)→Q (.ref r) H'
section
variable {P:Program} {w:World} {K:W.Frag} {mg:Str→Option Value} {base:Heap}
theorem dO:aB ["_law_pot_here","_law_triples","_law_found","_law_a","_law_b","_law_c","_law_triple"] ["_law_pot_here","_law_triples"] (ae cT):=⟨rfl,rfl,rfl,by decide +kernel,rfl,by decide +kernel,by decide +kernel⟩
theorem pi {f f1:Addr} {fd d1:FuncData} (U:Fun K "_law_handed" "_law_handed" cT f fd) (T:TxtN mg)
  (GD:FnOk P w K mg base CX0 1 f1 d1 ["_law_pot_here","_law_base"] c_) (bD:Binds K d1 ["_law_pot_here","_law_base"] []) (mD:mg "_law_digit" = some (.ref f1)) (kD:W.keepIn K (.ref f1)=true) :
  FnOk P w K mg base CX0 2 f fd ["_law_pot_here","_law_triples"] iB:=by
 refine U.ok dO (fun vs H Q E h=>?_) (fun cdv A outer s H vs Q E hr h=>?_)
 ·obtain⟨p,T,q,vt,ts,rfl,_⟩:=h
  rfl
 ·obtain⟨p,T0,q,vt,ts,rfl,hp,pok,hT,nTp,ht,hl,Qq⟩:=h
  have hu:=cL hr
  refine⟨_,(af (ax (i:=2) dO.nd rfl (Or.inl rfl) (bc ac))
   (af (ba PassesOwn.never rfl (aG (pv 1)) (bV rfl (av (aq (i:=3) dO.nd rfl (Or.inl rfl)) (av (aq (i:=4) dO.nd rfl (Or.inl rfl)) (av (aq (i:=5) dO.nd rfl (Or.inl rfl)) bf)))) (af (ax (i:=6) dO.nd rfl (Or.inl rfl) (cq aW (bc (aa (aE (aa (pv 3) (aa (pv 4) (aa (pv 5) ac)))) (aa (aE (aa (pv 4) (aa (pv 5) (aa (pv 3) ac)))) (aa (aE (aa (pv 5) (aa (pv 3) (aa (pv 4) ac)))) ac)))) (ar GD hr rfl mD kD bD .nil pass0 (aa (pv 0) (aa al ac))) (fun _ _=>rfl)))
   (am (bI (bX PySem.F.plainAttrs_list PySem.F.slot_list_insert PySem.F.type_list_insert gw (pv 2) (aa (ar GD hr rfl mD kD bD .nil pass0 (aa (pv 0) (aa (aA aV (aC aX (by rfl) T.len PySem.boot_len (aa (pv 2) ac)) al) ac))) (aa (pv 6) ac)))))))
   (am (aD (pv 2))))),?_⟩
  have hline:=line5000
  refine⟨Nat.zero_le _,fun fo hfo=>?_⟩
  (generalize z:upd H fo _=H1;have s1:=ah hfo z;have y1:=ak z;clear z)
  have nfp:p≠fo:=ag hp hfo
  refine⟨_,rfl,T0,rfl,⟨_,SqL.of (s1 _ _ hT)⟩,bd (K:=K) (a:=T0) (xs:=vt) (fun i σ H'=>∃oa ob oc ot vf tf q',σ=[some (V.ref p),some (.ref T0),some (.ref fo),oa,ob,oc,ot]∧But p H H'∧H' p=some (.lst (potV q'))∧bn q'∧H' fo=some (.lst vf)∧ay H' vf tf∧tf.length=i∧(ents tf).Perm (ents (ts.take i)))
   ⟨none,none,none,none,[],[],q,rfl,But.refl.same s1,s1 _ _ hp,pok,y1,.nil,rfl,by simp[ents]⟩ (fun i σ H' _ ⟨_,_,_,_,_,_,_,_,e,_⟩=>SqL.of (e _ _ nTp hT)) ?_ ?_⟩
  ·rintro i x σ H2 hi ⟨oa,ob,oc,ot,vf,tf,q2,rfl,sm,hp2,pok2,hfo2,hvf,htl,hpm⟩
   obtain⟨⟨a,b,c⟩,hs,t,rfl,hb⟩:=aS ht hi
   have hb:H t=some (.tup [.int (a:Int),.int (b:Int),.int (c:Int)]):=hb
   have hil:i < ts.length:=(List.getElem?_eq_some_iff.mp hs).1
   have hb2:=sm _ _ (bi hb hp (by simp)) hb
   refine⟨t,_,rfl,SqT.of hb2,rfl,_,_,rfl,_,_,rfl,_,_,rfl,rfl,?_⟩
   refine⟨_,rfl,_,rfl,_,rfl,lit3,fun t1 g1=>?_⟩
   (generalize z:upd H2 t1 _=H3;have s3:=ah g1 z;have y3:=ak z;clear z)
   refine⟨_,rfl,_,rfl,_,rfl,lit3,fun t2 g2=>?_⟩
   (generalize z:upd H3 t2 _=H4;have s4:=ah g2 z;have y4:=ak z;clear z)
   refine⟨_,rfl,_,rfl,_,rfl,lit3,fun t3 g3=>?_⟩
   (generalize z:upd H4 t3 _=H5;have s5:=ah g3 z;have y5:=ak z;clear z)
   refine⟨lit3,fun l g4=>?_⟩
   (generalize z:upd H5 l _=H6;have s6:=ah g4 z;have y6:=ak z;clear z)
   have sm26:=((s3.trans s4).trans s5).trans s6
   have hp6:=sm26 _ _ hp2
   have z1:=((s4.trans s5).trans s6) _ _ y3
   have z2:=(s5.trans s6) _ _ y4
   have z3:=s6 _ _ y5
   refine⟨_,rfl,p,q2,3,rfl,hp6,pok2,by decide,by decide +kernel,?_⟩
   (generalize z:upd H6 p _=H7;have k7:=aK z;have y7:=ak z;clear z)
   have nl:l≠p:=fun z=>by rw[z,((s3.trans s4).trans s5) _ _ hp2] at g4;cases g4
   have tn:∀{b':Addr} {xs:List V},H6 b' = some (.tup xs)→b'≠p:=fun e=>bi e hp6 (by simp)
   obtain⟨dp1,dp2⟩:=be (q:=q2) (b:=3) (by decide)
   obtain⟨tr,x,hat,htr,hpx⟩:∃(tr:Addr) (x:Tri),atI [V.ref t1,.ref t2,.ref t3] (digO q2 3)=some (.ref tr)∧H6 tr=some (.tup [.int (x.1:Int),.int (x.2.1:Int),.int (x.2.2:Int)])∧(ents [x]).Perm (ents [(a,b,c)]):=by
    obtain h|h|h:digO q2 3=(0:Nat)∨digO q2 3=(1:Nat)∨digO q2 3=(2:Nat):=by omega
    ·rw[h];exact⟨t1,(a,b,c),bY rfl,z1,List.Perm.refl _⟩
    ·rw[h]
     refine⟨t2,(b,c,a),bY rfl,z2,?_⟩
     show List.Perm [((b,c),a),((c,a),b),((a,b),c)] [((a,b),c),((b,c),a),((c,a),b)]
     exact List.perm_append_comm (l₁:=[((b,c),a),((c,a),b)]) (l₂:=[((a,b),c)])
    ·rw[h]
     refine⟨t3,(c,a,b),bY rfl,z3,?_⟩
     show List.Perm [((c,a),b),((a,b),c),((b,c),a)] [((a,b),c),((b,c),a),((c,a),b)]
     exact List.perm_append_comm (l₁:=[((c,a),b)]) (l₂:=[((a,b),c),((b,c),a)])
   refine⟨l,_,_,_,rfl,rfl,SqL.of ((k7 l nl).trans y6),hat,?_⟩
   have hfo7:=(k7 fo (Ne.symm nfp)).trans (sm26 _ _ hfo2)
   have vfl:vf.length=i:=by rw[az hvf];exact htl
   refine⟨_,rfl,.inl ⟨rfl,_,SqL.of hfo7⟩,_,rfl,_,rfl,fo,vf,rfl,.inl (SqL.of hfo7),_,_,rfl,rfl,p,nxt q2 3,_,rfl,y7,aY pok2,by omega,by rw[vfl];exact lg20 (by omega),?_⟩
   (generalize z:upd H7 p _=H8;have k8:=aK z;have y8:=ak z;clear z)
   obtain⟨dq1,dq2⟩:=be (q:=nxt q2 3) (b:=(vf.length:Int)+1) (by omega)
   obtain⟨d,hd⟩:∃d:Nat,digO (nxt q2 3) ((vf.length:Int)+1)=(d:Int):=⟨_,(Int.toNat_of_nonneg dq1).symm⟩
   rw[hd] at dq2 ⊢
   have hfo8:=(k8 fo (Ne.symm nfp)).trans hfo7
   refine⟨_,rfl,fo,vf,d,_,rfl,rfl,hfo8,by omega,by omega,?_⟩
   (generalize z:upd H8 fo _=H9;have k9:=aK z;have y9:=ak z;clear z)
   have keep:∀{b':Addr} {xs:List V},H6 b' = some (.tup xs)→H9 b' = some (.tup xs):=fun e=>(k9 _ (bi e (sm26 _ _ hfo2) (by simp))).trans ((k8 _ (tn e)).trans ((k7 _ (tn e)).trans e))
   refine⟨_,_,_,_,_,tf.take d++x::tf.drop d,_,rfl,fun b' o n e=>?_,(k9 p nfp).trans y8,aY (aY pok2),y9,?_,?_,?_⟩
   ·have e2:=sm26 _ _ (sm _ _ n e)
    exact (k9 b' (ag e hfo)).trans ((k8 b' n).trans ((k7 b' n).trans e2))
   ·have h1:ay H9 vf tf:=Paired.imp' (fun _ _ ⟨b',e1,e2⟩=>⟨b',e1,keep (sm26 _ _ e2)⟩) hvf
    exact bU (og d h1) (.cons ⟨tr,rfl,keep htr⟩ (oh d h1))
   ·rw[List.length_append,List.length_cons,List.length_take,List.length_drop];omega
   ·have e1:ts.take (i+1)=ts.take i++[(a,b,c)]:=by rw[List.take_add_one,hs];rfl
    rw[e1,cA,cA]
    have e2:ents (x::tf.drop d)=ents [x]++ents (tf.drop d):=cA [x] _
    rw[e2]
    have e3:(ents tf)=ents (tf.take d)++ents (tf.drop d):=by rw[←cA,List.take_append_drop]
    refine List.Perm.trans ?_ (hpm.append hpx)
    rw[e3,List.append_assoc]
    exact List.Perm.append_left _ List.perm_append_comm
  ·rintro σ H2 ⟨oa,ob,oc,ot,vf,tf,q2,rfl,sm,hp2,pok2,hfo2,hvf,htl,hpm⟩
   rw[az ht,List.take_length] at hpm
   rw[az ht] at htl
   exact⟨_,rfl,Qq fo vf tf q2 H2 hfo sm hp2 pok2 hfo2 hvf htl hpm⟩
end
end K15
end
section
namespace K15
open PySem L2 K51 K31
theorem gG {l:List Nat} (nd:l.Nodup) {i a:Nat} (h:l[i]? = some a):a∉l.eraseIdx i∧(l.eraseIdx i).Nodup∧(∀x∈l.eraseIdx i,x∈l)∧(l.eraseIdx i).length=l.length - 1:=by
 have hi:=(List.getElem?_eq_some_iff.mp h).1
 refine⟨fun z=>?_,nd.sublist (List.eraseIdx_sublist l i),fun x hx=>(List.eraseIdx_sublist l i).subset hx,List.length_eraseIdx_of_lt hi⟩
 obtain⟨j,hj⟩:=List.getElem?_of_mem z
 rw[List.getElem?_eraseIdx] at hj
 split at hj
 ·have:=e8 nd h hj;omega
 ·have:=e8 nd h hj;omega
theorem pops3 {n s0 s1 s2:Nat} (h0:s0 < n) (h1:s1 < n - 1) (h2:s2 < n - 2):∃a b c,(List.range n)[s0]? = some a∧((List.range n).eraseIdx s0)[s1]? = some b∧(((List.range n).eraseIdx s0).eraseIdx s1)[s2]? = some c∧a≠b∧b≠c∧c≠a:=by
 have g0:s0 < (List.range n).length:=by rw[List.length_range];exact h0
 obtain⟨a1,a2,a3,a4⟩:=gG (List.nodup_range (n:=n)) (List.getElem?_eq_getElem g0)
 rw[List.length_range] at a4
 have g1:s1 < ((List.range n).eraseIdx s0).length:=by omega
 obtain⟨b1,b2,b3,b4⟩:=gG a2 (List.getElem?_eq_getElem g1)
 have g2:s2 < (((List.range n).eraseIdx s0).eraseIdx s1).length:=by omega
 refine⟨_,_,_,List.getElem?_eq_getElem g0,List.getElem?_eq_getElem g1,List.getElem?_eq_getElem g2,fun z=>a1 ?_,fun z=>b1 ?_,fun z=>a1 ?_⟩
 ·rw[z];exact List.getElem_mem g1
 ·rw[z];exact List.getElem_mem g2
 ·rw[←z];exact b3 _ (List.getElem_mem g2)
theorem rG (l:List Nat) (k:Nat):(nV l).eraseIdx k=nV (l.eraseIdx k):=by
 induction l generalizing k with
 |nil=>rfl
 |cons a l ih=>
  cases k with
  |zero=>rfl
  |succ k=>
   show _::(nV l).eraseIdx k=_
   rw[ih];rfl
theorem nY {n k:Nat} (h:k < n):seqIndex? (k:Int) n=some k:=by
 refine (kP ?_).1
 unfold ixN
 rw[if_pos (by omega),if_pos (by omega)];simp
theorem e_ {ts:List Tri} {x:Tri} (g:Good ts) (hne:x.1≠x.2.1∧x.2.1≠x.2.2∧x.2.2≠x.1) (hf:gO ts x=true):Good (ts++[x]):=by
 refine⟨fun t ht=>?_,?_⟩
 ·rcases List.mem_append.mp ht with h|h
  ·exact g.ne t h
  ·rw[List.mem_singleton.mp h];exact hne
 ·rw[cA,List.map_append,List.nodup_append]
  obtain⟨a,b,c⟩:=x
  obtain⟨n1,n2,n3⟩:a≠b∧b≠c∧c≠a:=hne
  have hf':∀s∈ck (a,b,c),s∉(ents ts).map (·.1):=by
   intro s hs
   unfold gO at hf
   exact of_decide_eq_true (List.all_eq_true.mp hf s hs)
  have ek:(ents [(a,b,c)]).map (·.1)=[(a,b),(b,c),(c,a)]:=rfl
  rw[ek]
  refine⟨g.nd,?_,fun s hs s' hs' z=>hf' s' hs' (z ▸ hs)⟩
  simp[n1,n2,n3,Ne.symm n1,Ne.symm n2,Ne.symm n3]
theorem uv {n:Nat} (h:3≤n):(n:Int) * ((n:Int) - 1) * ((n:Int) - 2)=((n * (n - 1) * (n - 2):Nat):Int):=by
 have e1:(n:Int) - 1=((n - 1:Nat):Int):=by omega
 have e2:(n:Int) - 2=((n - 2:Nat):Int):=by omega
 rw[e1,e2,Int.natCast_mul,Int.natCast_mul]
theorem sK {n:Nat} (h:3≤n):0 < n * (n - 1) * (n - 2):=Nat.mul_pos (Nat.mul_pos (by omega) (by omega)) (by omega)
theorem uu {n:Nat} (h:n≤9):n * (n - 1) * (n - 2)≤504:=Nat.mul_le_mul (Nat.mul_le_mul h (show n - 1≤8 by omega)) (show n - 2≤7 by omega)
theorem lg {n m:Nat} (h:3≤n) (hm:m < n * (n - 1) * (n - 2)):m / n / (n - 1) < n - 2:=by
 rw[Nat.div_div_eq_div_mul]
 exact Nat.div_lt_of_lt_mul hm
def hU:Sp:=fun vs H Q _=>∃(p:Addr) (q:Int × Int) (m:Nat),vs=[.ref p,.int (m:Int)]∧H p=some (.lst (potV q))∧bn q∧m≤16 ∧
 ∀r vr ts q' H',H r=none→But p H H'→H' p=some (.lst (potV q'))→bn q'→H' r=some (.lst vr)→ay H' vr ts→ts.length≤m→Good ts→Q (.ref r) H'
section
variable {P:Program} {w:World} {K:W.Frag} {mg:Str→Option Value} {base:Heap}
theorem dY:aB ["_law_pot_here","_law_most","_law_n","_law_triples","_law_k","_law_number","_law_left","_law_triple"] ["_law_pot_here","_law_most"] (ae dE):=⟨rfl,rfl,rfl,by decide +kernel,rfl,by decide +kernel,by decide +kernel⟩
theorem qO {f f1 f2 f3:Addr} {fd d1 d2 d3:FuncData} (U:Fun K "_law_drawn" "_law_drawn" dE f fd) (T:TxtN mg)
  (GD:FnOk P w K mg base CX0 2 f1 d1 ["_law_pot_here","_law_base"] c_) (bD:Binds K d1 ["_law_pot_here","_law_base"] []) (mD:mg "_law_digit" = some (.ref f1)) (kD:W.keepIn K (.ref f1)=true)
  (GT:FnOk P w K mg base CX0 2 f2 d2 ["_law_triples"] cv) (bT:Binds K d2 ["_law_triples"] []) (mT:mg "_law_thirds" = some (.ref f2)) (kT:W.keepIn K (.ref f2)=true)
  (GF:FnOk P w K mg base CX0 2 f3 d3 ["_law_thirds_here","_law_triple"] j8) (bF:Binds K d3 ["_law_thirds_here","_law_triple"] []) (mF:mg "_law_free" = some (.ref f3)) (kF:W.keepIn K (.ref f3)=true) :
  FnOk P w K mg base CX0 3 f fd ["_law_pot_here","_law_most"] hU:=by
 refine U.ok dY (fun vs H Q E h=>?_) (fun cdv A outer s H vs Q E hr h=>?_)
 ·obtain⟨p,q,m,rfl,_⟩:=h
  rfl
 ·obtain⟨p,q,m,rfl,hp,pok,hm,Qq⟩:=h
  have hu:=cL hr
  refine⟨_,(af (ax (i:=2) dY.nd rfl (Or.inl rfl) (aA aV al (ar GD hr rfl mD kD bD .nil pass0 (aa (pv 0) (aa al ac)))))
   (af (ax (i:=3) dY.nd rfl (Or.inl rfl) (bc ac))
   (af (ba PassesOwn.never rfl (de rfl T.range (aa (ar GD hr rfl mD kD bD .nil pass0 (aa (pv 0) (aa (aA aV (pv 1) al) ac))) ac)) (aq (i:=4) dY.nd rfl (Or.inl rfl)) (af (ax (i:=5) dY.nd rfl (Or.inl rfl) (ar GD hr rfl mD kD bD .nil pass0 (aa (pv 0) (aa (aA cX (aA cX (pv 2) (aA eN (pv 2) al)) (aA eN (pv 2) al)) ac))))
   (af (ax (i:=6) dY.nd rfl (Or.inr rfl) (aI (jm rfl) (by rfl) T.list PyProof.Rows.boot_list (aa (aI jb (by rfl) T.range PyProof.Rows.boot_range (aa (pv 2) ac)) ac)))
   (af (ax (i:=7) dY.nd rfl (Or.inl rfl) (aI cV (by rfl) T.tuple PyProof.Rows.boot_tuple (aa (bp (N:=["_law_spot","_law_left"]) (fr:=[none,some 6]) (te:=tBM K "list" qm (tVar 1) (eD (tVar 0) tNil)) (aR (by decide +kernel) rfl rfl (by decide +kernel) (by decide +kernel) (by
      intro y hy e
      simp only[List.mem_cons,List.not_mem_nil,or_false] at hy
      rcases hy with rfl|rfl|rfl
      all_goals first|(cases e;done)|exact .inl rfl) (by
      intro j i y e1 e2
      match j,e1,e2 with
      |0,e1,_=>simp at e1
      |1,e1,e2=>simp at e1 e2;subst e1 e2;exact⟨rfl,rfl⟩
      |j+2,e1,_=>simp at e1)) rfl (aG (bc (aa (aA cY (pv 5) (pv 2)) (aa (aA cY (aA dP (pv 5) (pv 2)) (aA eN (pv 2) al)) (aa (aA dP (aA dP (pv 5) (pv 2)) (aA eN (pv 2) al)) ac)))))
     (fun C' s' H' fp pins=>⟨aq (i:=0) (show (["_law_spot","_law_left"]:List Str).Nodup by decide +kernel) rfl (Or.inl rfl) (.inr rfl),bJ,bX PySem.F.plainAttrs_list PySem.F.slot_list_pop PySem.F.type_list_pop lN (pv 1) (aa (pv 0) ac)⟩)) ac)))
   (am (bH (cr (ar GF hr rfl mF kF bF .nil pass0 (aa (ar GT hr rfl mT kT bT .nil pass0 (aa (pv 3) ac)) (aa (pv 7) ac)))) (am (bI (bX PySem.F.plainAttrs_list PySem.F.slot_list_append PySem.F.type_list_append bo (pv 3) (aa (pv 7) ac)))) aJ))))))
   (am (aD (pv 3)))))),?_⟩
  have hline:=line5000
  obtain⟨d1,d2⟩:=be (q:=q) (b:=7) (by decide)
  refine⟨_,rfl,p,q,7,rfl,hp,pok,by decide,by decide +kernel,_,_,rfl,rfl,?_⟩
  (generalize z:upd H p _=H1;have k1:=aK z;have y1:=ak z;clear z)
  obtain⟨n,en,hn3,hn9⟩:∃n:Nat,3+digO q 7=(n:Int)∧3≤n∧n≤9:=⟨(3+digO q 7).toNat,by omega,by omega,by omega⟩
  show cZ 2 (V.int (3+digO q 7)) _ _ _
  rw[en]
  refine⟨Nat.zero_le _,fun fo hfo=>?_⟩
  have nfp:p≠fo:=ag y1 hfo
  have hfo0:H fo=none:=(k1 fo (Ne.symm nfp)).symm.trans hfo
  (generalize z:upd H1 fo _=H2;have s2:=ah hfo z;have y2:=ak z;clear z)
  obtain⟨d3,d4⟩:=be (q:=nxt q 7) (b:=(m:Int)+1) (by omega)
  refine⟨_,rfl,_,rfl,_,_,rfl,rfl,p,nxt q 7,_,rfl,s2 _ _ y1,aY pok,by omega,lg20 (by omega),_,rfl,by omega,by omega,?_⟩
  (generalize z:upd H2 p _=H3;have k3:=aK z;have y3:=ak z;clear z)
  have hN:(digO (nxt q 7) ((m:Int)+1)).toNat≤m:=by omega
  generalize (digO (nxt q 7) ((m:Int)+1)).toNat=N at hN
  refine dR (lo:=0) (n:=N) (fun i σ H'=>∃o4 o5 o6 o7 vf tf q',σ=[some (V.ref p),some (.int (m:Int)),some (.int (n:Int)),some (.ref fo),o4,o5,o6,o7]∧But p H H'∧H' p=some (.lst (potV q'))∧bn q'∧H' fo=some (.lst vf)∧ay H' vf tf∧tf.length≤i∧Good tf)
   ⟨none,none,none,none,[],[],_,rfl,fun b' o nb e=>(k3 b' nb).trans (s2 _ _ ((k1 b' nb).trans e)),y3,aY (aY pok),(k3 fo (Ne.symm nfp)).trans y2,.nil,Nat.le_refl _,⟨by simp,by simp[ents]⟩⟩ ?_ ?_
  ·rintro i σ H4 hi ⟨o4,o5,o6,o7,vf,tf,q4,rfl,sm,hp4,pok4,hfo4,hvf,htl,gf⟩
   have hB:=uv hn3
   have hB0:=sK hn3
   have hB1:=uu hn9
   refine⟨_,rfl,_,rfl,_,rfl,_,_,rfl,rfl,_,_,rfl,rfl,.inl ⟨by omega,by omega⟩,_,rfl,_,_,rfl,rfl,_,_,rfl,rfl,.inr ⟨by omega,by omega⟩,p,q4,_,rfl,hp4,pok4,by rw[hB];omega,df (by rw[hB];omega) (by rw[hB];exact Int.le_trans (show ((n * (n - 1) * (n - 2):Nat):Int)≤504 by omega) (by decide)),?_⟩
   (generalize z:upd H4 p _=H5;have k5:=aK z;have y5:=ak z;clear z)
   obtain⟨d5,d6⟩:=be (q:=q4) (b:=(n:Int) * ((n:Int) - 1) * ((n:Int) - 2)) (by rw[hB];omega)
   obtain⟨num,enum⟩:∃num:Nat,digO q4 ((n:Int) * ((n:Int) - 1) * ((n:Int) - 2))=(num:Int):=⟨_,(Int.toNat_of_nonneg d5).symm⟩
   rw[enum] at d6 ⊢
   rw[hB] at d6
   have hnum:num < n * (n - 1) * (n - 2):=by omega
   clear d6 d5
   refine⟨_,rfl,_,rfl,fun ra hra=>?_⟩
   (generalize z:upd H5 ra _=H6;have s6:=ah hra z;have y6:=ak z;clear z)
   refine⟨ra,n,rfl,y6,by omega,fun Lf hLf=>?_⟩
   (generalize z:upd H6 Lf _=H7;have s7:=ah hLf z;have y7:=ak z;clear z)
   have y7:H7 Lf=some (.lst (nV (List.range n))):=y7
   have lgn:(n:Int).natAbs.log2 < 9000:=df (by omega) (Int.le_trans (show (n:Int)≤9 by omega) (by decide))
   have lgn1:((n:Int) - 1).natAbs.log2 < 9000:=df (by omega) (Int.le_trans (show (n:Int) - 1≤9 by omega) (by decide))
   refine⟨_,rfl,_,rfl,_,_,rfl,rfl,by omega,_,rfl,_,rfl,_,_,rfl,rfl,⟨by omega,lgn⟩,_,rfl,_,_,rfl,rfl,_,_,rfl,rfl,by omega,_,rfl,_,rfl,_,_,rfl,rfl,⟨by omega,lgn⟩,_,rfl,_,_,rfl,rfl,_,_,rfl,rfl,⟨by omega,lgn1⟩,lit3,fun dl hdl=>?_⟩
   have ed:([V.int ((num:Int) % (n:Int)),V.int ((num:Int) / (n:Int) % ((n:Int) - 1)),V.int ((num:Int) / (n:Int) / ((n:Int) - 1))]:List V)=nV [num % n,num / n % (n - 1),num / n / (n - 1)]:=by
    have e1:(n:Int) - 1=((n - 1:Nat):Int):=by omega
    rw[e1];rfl
   rw[ed]
   (generalize z:upd H7 dl _=H8;have s8:=ah hdl z;have y8:=ak z;clear z)
   obtain⟨a,b,c,ha,hb,hc,n1,n2,n3⟩:=pops3 (n:=n) (s0:=num % n) (s1:=num / n % (n - 1)) (s2:=num / n / (n - 1)) (Nat.mod_lt _ (by omega)) (Nat.mod_lt _ (by omega)) (lg hn3 hnum)
   have yL:=s8 _ _ y7
   have nLd:dl≠Lf:=Ne.symm (ag y7 hdl)
   refine⟨dl,rfl,⟨_,SqL.of y8⟩,fun Z hZ=>?_⟩
   have nLZ:Lf≠Z:=ag yL hZ
   have nz1:num % n < 100:=Nat.lt_of_lt_of_le (Nat.mod_lt _ (by omega)) (by omega)
   have nz2:num / n % (n - 1) < 100:=Nat.lt_of_lt_of_le (Nat.mod_lt _ (by omega)) (by omega)
   have nz3:num / n / (n - 1) < 100:=Nat.lt_of_lt_of_le (lg hn3 hnum) (by omega)
   have sm6:But p H H6:=fun b' o nb e=>s6 _ _ ((k5 b' nb).trans (sm _ _ nb e))
   have hfo6:H6 fo=some (.lst vf):=s6 _ _ ((k5 fo (Ne.symm nfp)).trans hfo4)
   have hp6:=s6 _ _ y5
   have hvf6:ay H6 vf tf:=Paired.imp' (fun _ _ ⟨b',e1,e2⟩=>⟨b',e1,s6 _ _ ((k5 b' (bi e2 hp4 (by simp))).trans e2)⟩) hvf
   generalize num % n=s0 at *
   generalize num / n % (n - 1)=s1 at *
   generalize num / n / (n - 1)=s2' at *
   refine a_ (K:=K) (a:=dl) (xs:=nV [s0,s1,s2']) (fun i σ ys H'=>∃o l,σ=[o,some (V.ref Lf)]∧(i=0∧l=List.range n∧ys=[]∨i=1∧l=(List.range n).eraseIdx s0∧ys=nV [a]∨i=2∧l=((List.range n).eraseIdx s0).eraseIdx s1∧ys=nV [a,b]∨i=3∧ys=nV [a,b,c])∧But Lf H8 H'∧H' Lf=some (.lst (nV l))∧H' Z=some (.lst ys))
    ⟨none,_,rfl,.inl ⟨rfl,rfl,rfl⟩,But.refl.same (aw hZ),aw hZ _ _ yL,ao⟩ (fun i σ ys H' _ ⟨_,_,_,_,e,_⟩=>SqL.of (e _ _ nLd y8)) ?_ ?_
   ·rintro i x σ ys H' hi ⟨o,l,rfl,hc3,bt,hL',hZ'⟩
    rw[nV,List.getElem?_map] at hi
    obtain⟨s,hs,rfl⟩:=Option.map_eq_some_iff.mp hi
    obtain⟨y,hy,hs100,hyl,hnext⟩:∃y:Nat,l[s]? = some y∧s < 100∧ys.length≤3∧(i+1=0∧l.eraseIdx s=List.range n∧ys++[V.int (y:Int)]=[]∨i+1=1∧l.eraseIdx s=(List.range n).eraseIdx s0∧ys++[V.int (y:Int)]=nV [a]∨i+1=2∧l.eraseIdx s=((List.range n).eraseIdx s0).eraseIdx s1∧ys++[V.int (y:Int)]=nV [a,b]∨i+1=3∧ys++[V.int (y:Int)]=nV [a,b,c]):=by
     rcases hc3 with ⟨rfl,rfl,rfl⟩|⟨rfl,rfl,rfl⟩|⟨rfl,rfl,rfl⟩|⟨rfl,rfl⟩
     ·cases hs;exact⟨a,ha,nz1,by simp,.inr (.inl ⟨rfl,rfl,rfl⟩)⟩
     ·cases hs;exact⟨b,hb,nz2,by simp[nV],.inr (.inr (.inl ⟨rfl,rfl,rfl⟩))⟩
     ·cases hs;exact⟨c,hc,nz3,by simp[nV],.inr (.inr (.inr ⟨rfl,rfl⟩))⟩
     ·cases hs
    have hsl:=(List.getElem?_eq_some_iff.mp hy).1
    refine⟨_,rfl,.inl ⟨rfl,_,SqL.of hL'⟩,_,rfl,Lf,nV l,(s:Int),s,V.int (y:Int),rfl,rfl,hL',by omega,by omega,nY (by rw[aN];exact hsl),by rw[nV,List.getElem?_map,hy];rfl,?_⟩
    (generalize z:upd H' Lf _=H'';have k'':=aK z;have y'':=ak z;clear z)
    refine⟨(k'' Z (Ne.symm nLZ)).trans hZ',by omega,_,_,rfl,hnext,fun b' o nb e=>?_,?_,ao⟩
    ·rw[au (ag e hZ)]
     exact (k'' b' nb).trans (bt _ _ nb e)
    ·rw[au nLZ,y'',rG]
   ·rintro σ ys H' ⟨o,l,rfl,hc3,bt,hL',hZ'⟩
    obtain rfl:ys=nV [a,b,c]:=by
     have e3:(nV [s0,s1,s2']).length=3:=rfl
     rw[e3] at hc3
     rcases hc3 with ⟨h,_⟩|⟨h,_⟩|⟨h,_⟩|⟨_,h⟩
     ·cases h
     ·cases h
     ·cases h
     ·exact h
    refine⟨Z,_,rfl,.inl ⟨SqL.of hZ',fun t ht=>?_⟩⟩
    (generalize z:upd H' t _=H9;have s9:=ah ht z;have y9:=ak z;clear z)
    have st9:Same H6 H9:=fun b' o e=>s9 _ _ (bt _ _ (ag e hLf) (s8 _ _ (s7 _ _ e)))
    refine⟨_,rfl,fo,vf,tf,rfl,st9 _ _ hfo6,hvf6.same st9,by omega,gf.nd,fun D H10 hD0 s10 hD=>?_⟩
    refine⟨_,rfl,D,t,tf,(a,b,c),rfl,hD,s10 _ _ y9,fun H11 s11=>?_⟩
    have st:=(st9.trans s10).trans s11
    have y11:=s11 _ _ (s10 _ _ y9)
    refine⟨_,rfl,?_⟩
    cases hfr:gO tf (a,b,c) with
    |false=>
     exact iteF ⟨_,_,_,_,vf,tf,_,rfl,fun b' o nb e=>st _ _ (sm6 _ _ nb e),st _ _ hp6,aY pok4,st _ _ hfo6,hvf6.same st,by omega,gf⟩
    |true=>
     have hfo11:=st _ _ hfo6
     refine iteT ⟨_,rfl,.inl ⟨rfl,_,SqL.of hfo11⟩,_,rfl,fo,vf,_,rfl,rfl,hfo11,by rw[az hvf];omega,?_⟩
     (generalize z:upd H11 fo _=H12;have k12:=aK z;have y12:=ak z;clear z)
     have tn:∀{b':Addr} {xs:List V},H11 b' = some (.tup xs)→b'≠fo:=fun e=>bi e hfo11 (by simp)
     refine⟨_,_,_,_,_,tf++[(a,b,c)],_,rfl,fun b' o nb e=>(k12 b' (ag e hfo0)).trans (st _ _ (sm6 _ _ nb e)),(k12 p nfp).trans (st _ _ hp6),aY pok4,y12,?_,by rw[List.length_append,List.length_singleton];omega,e_ gf ⟨n1,n2,n3⟩ hfr⟩
     exact bU (Paired.imp' (fun _ _ ⟨b',e1,e2⟩=>⟨b',e1,(k12 b' (tn (st _ _ e2))).trans (st _ _ e2)⟩) hvf6) (.cons ⟨t,rfl,(k12 t (tn y11)).trans y11⟩ .nil)
  ·rintro σ H4 ⟨o4,o5,o6,o7,vf,tf,q4,rfl,sm,hp4,pok4,hfo4,hvf,htl,gf⟩
   exact⟨_,rfl,Qq fo vf tf q4 H4 hfo0 sm hp4 pok4 hfo4 hvf (by omega) gf⟩
end
end K15
end
section
namespace K15
def nam (f:Nat→Nat) (t:Tri):Tri:=(f t.1,f t.2.1,f t.2.2)
def naE (f:Nat→Nat) (e:Ent):Ent:=((f e.1.1,f e.1.2),f e.2)
theorem iZ {f:Nat→Nat} {ts:List Tri}:ents (ts.map (nam f))=(ents ts).map (naE f):=by
 induction ts with
 |nil=>rfl
 |cons t ts ih=>
  have h1:ents ((t::ts).map (nam f))=ents [nam f t]++ents (ts.map (nam f)):=by simp[ents]
  have h2:ents (t::ts)=ents [t]++ents ts:=by simp[ents]
  rw[h1,h2,List.map_append,ih]
  rfl
theorem lY {f:Nat→Nat} {ts:List Tri} (g:Good ts) (inj:∀a b,Co ts a→Co ts b→f a=f b→a=b):Good (ts.map (nam f)):=by
 have k:=g.sk
 refine⟨fun t ht=>?_,?_⟩
 ·obtain⟨⟨a,b,c⟩,h,rfl⟩:=List.mem_map.mp ht
  have ca:Co ts a:=aL.mpr ⟨_,h,.inl rfl⟩
  have cb:Co ts b:=aL.mpr ⟨_,h,.inr (.inl rfl)⟩
  have cc:Co ts c:=aL.mpr ⟨_,h,.inr (.inr rfl)⟩
  obtain⟨n1,n2,n3⟩:a≠b∧b≠c∧c≠a:=g.ne _ h
  exact⟨fun z=>n1 (inj _ _ ca cb z),fun z=>n2 (inj _ _ cb cc z),fun z=>n3 (inj _ _ cc ca z)⟩
 ·rw[iZ,List.map_map]
  have nd:=g.nd
  rw[List.Nodup,List.pairwise_map] at nd ⊢
  refine nd.imp_of_mem fun {x y} hx hy h z=>h ?_
  obtain⟨⟨a,b⟩,c⟩:=x
  obtain⟨⟨a',b'⟩,c'⟩:=y
  have z:=Prod.mk.inj z
  have e:En ts a b c:=hx
  have e':En ts a' b' c':=hy
  have z1:f a=f a':=z.1
  have z2:f b=f b':=z.2
  show (a,b)=(a',b')
  rw[inj a a' ⟨b,c,e⟩ ⟨b',c',e'⟩ z1,inj b b' ⟨c,a,k.rot e⟩ ⟨c',a',k.rot e'⟩ z2]
theorem su {f:Nat→Nat} {ts:List Tri} {u:Nat} (h:Co (ts.map (nam f)) u):∃a,Co ts a∧u=f a:=by
 obtain⟨t,ht,hu⟩:=aL.mp h
 obtain⟨⟨a,b,c⟩,hm,rfl⟩:=List.mem_map.mp ht
 rcases hu with rfl|rfl|rfl
 ·exact⟨a,aL.mpr ⟨_,hm,.inl rfl⟩,rfl⟩
 ·exact⟨b,aL.mpr ⟨_,hm,.inr (.inl rfl)⟩,rfl⟩
 ·exact⟨c,aL.mpr ⟨_,hm,.inr (.inr rfl)⟩,rfl⟩
def Win (w j x:Nat):Prop:=w=0∧x=j∨w=1∧7 * j≤x∧x < 7 * j+7∨w=2∧x+(j+1) * 10 ^ 9+1≤10 ^ 60∧10 ^ 60 < x+(j+2) * 10 ^ 9+1
theorem sO {w i j x:Nat} (h:Win w i x) (h':Win w j x):i=j:=by
 rcases h with ⟨rfl,h⟩|⟨rfl,h1,h2⟩|⟨rfl,h1,h2⟩
 ·rcases h' with ⟨_,h'⟩|⟨z,_⟩|⟨z,_⟩
  ·omega
  ·cases z
  ·cases z
 ·rcases h' with ⟨z,_⟩|⟨_,h3,h4⟩|⟨z,_⟩
  ·cases z
  ·omega
  ·cases z
 ·rcases h' with ⟨z,_⟩|⟨z,_⟩|⟨_,h3,h4⟩
  ·cases z
  ·cases z
  ·omega
theorem uR {w j x:Nat} (hj:j≤1000) (h:Win w j x):x < 10 ^ 60:=by
 rcases h with ⟨_,h⟩|⟨_,_,h⟩|⟨_,h,_⟩
 ·omega
 ·omega
 ·omega
end K15
end
section
namespace K15
theorem rO {f:Nat→Nat} {ts:List Tri} (g:Good ts) (inj:∀a b,Co ts a→Co ts b→f a=f b→a=b) {a b c:Nat} (h:En (ts.map (nam f)) a b c):∃a' b' c',En ts a' b' c'∧a=f a'∧b=f b'∧c=f c':=by
 unfold En at h
 rw[iZ] at h
 obtain⟨⟨⟨a',b'⟩,c'⟩,h1,h2⟩:=List.mem_map.mp h
 have h2:=Prod.mk.inj h2
 have h3:=Prod.mk.inj h2.1
 exact⟨a',b',c',h1,h3.1.symm,h3.2.symm,h2.2.symm⟩
theorem qR {f:Nat→Nat} {ts:List Tri} {a b c:Nat} (h:En ts a b c):En (ts.map (nam f)) (f a) (f b) (f c):=by
 unfold En
 rw[iZ]
 exact List.mem_map.mpr ⟨_,h,rfl⟩
theorem tR {f:Nat→Nat} {ts:List Tri} (g:Good ts) (inj:∀a b,Co ts a→Co ts b→f a=f b→a=b) {v:Nat} (hv:Co ts v) (h:One (En ts) v):One (En (ts.map (nam f))) (f v):=by
 obtain⟨F,hF,hall⟩:=h
 have k:=g.sk
 have key:∀p∈F,Co ts p:=fun p hp=>by
  obtain⟨q,hq⟩:=hF.key p hp
  exact⟨q,v,k.rot hq⟩
 have nx:∀{x y z:Nat},En ts x y z→Co ts y:=fun {x y z} e=>⟨z,x,k.rot e⟩
 have nx2:∀{x y z:Nat},En ts x y z→Co ts z:=fun {x y z} e=>⟨x,y,k.rot (k.rot e)⟩
 have back:∀{p q:Nat},En (ts.map (nam f)) (f v) p q→∃p' q',En ts v p' q'∧p=f p'∧q=f q':=fun {p q} e=>by
  obtain⟨a',b',c',h1,h2,h3,h4⟩:=rO g inj e
  have:v=a':=inj v a' hv ⟨b',c',h1⟩ h2
  subst this
  exact⟨b',c',h1,h3,h4⟩
 refine⟨F.map f,⟨fun z=>hF.ne (List.map_eq_nil_iff.mp z),?_,fun i p q hp hq=>?_,fun p hp=>?_,fun p hp q hq hr=>?_,fun p hp o ho=>?_⟩,fun p ⟨q,hq⟩=>?_⟩
 ·have:=hF.nd
  rw[List.Nodup] at this ⊢
  rw[List.pairwise_map]
  exact this.imp_of_mem fun {x y} hx hy hn z=>hn (inj x y (key x hx) (key y hy) z)
 ·rw[List.getElem?_map] at hp hq
  obtain⟨p',h1,rfl⟩:=Option.map_eq_some_iff.mp hp
  obtain⟨q',h2,rfl⟩:=Option.map_eq_some_iff.mp hq
  exact qR (hF.ch i p' q' h1 h2)
 ·obtain⟨p',h1,rfl⟩:=List.mem_map.mp hp
  obtain⟨q,hq⟩:=hF.key p' h1
  exact⟨f q,qR hq⟩
 ·obtain⟨p',h1,rfl⟩:=List.mem_map.mp hp
  obtain⟨p2,q2,e,h2,rfl⟩:=back hq
  have:p' = p2:=inj p' p2 (key p' h1) (nx e) h2
  subst this
  obtain⟨r,hr⟩:=hr
  obtain⟨q3,r3,e3,h3,_⟩:=back hr
  have:q2=q3:=inj q2 q3 (nx2 e) (nx e3) h3
  subst this
  exact List.mem_map.mpr ⟨q2,hF.clF p' h1 q2 e ⟨r3,e3⟩,rfl⟩
 ·obtain⟨p',h1,rfl⟩:=List.mem_map.mp hp
  obtain⟨o2,p2,e,rfl,h2⟩:=back ho
  have:p' = p2:=inj p' p2 (key p' h1) (nx2 e) h2
  subst this
  exact List.mem_map.mpr ⟨o2,hF.clB p' h1 o2 e,rfl⟩
 ·obtain⟨p2,q2,e,rfl,rfl⟩:=back hq
  exact List.mem_map.mpr ⟨p2,hall p2 ⟨q2,e⟩,rfl⟩
theorem jz {E E':Nat→Nat→Nat→Prop} (h:∀a b c,E a b c↔E' a b c) (v:Nat):One E v↔One E' v:=by
 have:E=E':=by funext a b c;exact propext (h a b c)
 rw[this]
theorem cO (a:Tri) (l:List Tri):ents (a::l)=ents [a]++ents l:=by simp[ents]
theorem rL {ts ts':List Tri} (h:ts'.Sublist ts):(ents ts').Sublist (ents ts):=by
 induction h with
 |slnil=>exact List.Sublist.refl _
 |cons a _ ih=>rw[cO a];exact ih.trans (List.sublist_append_right _ _)
 |cons_cons a _ ih=>rw[cO a,cO a];exact List.Sublist.append (List.Sublist.refl _) ih
theorem fV {ts ts':List Tri} (g:Good ts) (h:ts'.Sublist ts):Good ts':=by
 refine⟨fun t ht=>g.ne t (h.subset ht),g.nd.sublist (List.Sublist.map _ ?_)⟩
 exact rL h
theorem rj {as bs:List Tri} (g:Good as) (g':Good bs) (h:∀a,Co as a→¬Co bs a):Good (as++bs):=by
 have e:ents (as++bs)=ents as++ents bs:=by simp[ents]
 refine⟨fun t ht=>(List.mem_append.mp ht).elim (g.ne t) (g'.ne t),?_⟩
 rw[e,List.map_append,List.nodup_append]
 refine⟨g.nd,g'.nd,fun s hs s' hs' z=>?_⟩
 obtain⟨⟨⟨a,b⟩,c⟩,h1,h2⟩:=List.mem_map.mp hs
 obtain⟨⟨⟨a',b'⟩,c'⟩,h1',h2'⟩:=List.mem_map.mp hs'
 have h2:(a,b)=s:=h2
 have h2':(a',b')=s':=h2'
 have:(a,b)=(a',b'):=by rw[h2,h2',z]
 cases this
 exact h a ⟨b,c,h1⟩ ⟨b,c',h1'⟩
theorem pH {l:List Tri} {a b c n:Nat} (g:Good (l++[(a,b,c)])) (hn:¬Co (l++[(a,b,c)]) n):Good (l++[(a,b,n),(b,c,n),(c,a,n)]):=by
 have e:∀m,ents (l++m)=ents l++ents m:=fun m=>by simp[ents]
 have gl:Good l:=fV g (by simp)
 have nd:=g.nd
 rw[e,List.map_append,List.nodup_append] at nd
 obtain⟨n1,n2,n3⟩:a≠b∧b≠c∧c≠a:=g.ne (a,b,c) (by simp)
 have co:∀x,x=a∨x=b∨x=c→Co (l++[(a,b,c)]) x:=fun x hx=>aL.mpr ⟨(a,b,c),by simp,hx⟩
 have na:n≠a:=fun z=>hn (co n (.inl z))
 have nb:n≠b:=fun z=>hn (co n (.inr (.inl z)))
 have nc:n≠c:=fun z=>hn (co n (.inr (.inr z)))
 have nl:∀s∈(ents l).map (·.1),s.1≠n∧s.2≠n:=fun s hs=>by
  obtain⟨⟨⟨x,y⟩,z⟩,h1,rfl⟩:=List.mem_map.mp hs
  have h1:En l x y z:=h1
  have cx:∀u,Co l u→Co (l++[(a,b,c)]) u:=fun u ⟨p,q,hu⟩=>⟨p,q,by unfold En at *;rw[e];exact List.mem_append_left _ hu⟩
  exact⟨fun w=>hn (w ▸ cx x ⟨y,z,h1⟩),fun w=>hn (w ▸ cx y ⟨z,x,gl.sk.rot h1⟩)⟩
 have dj:∀s∈(ents l).map (·.1),s≠(a,b)∧s≠(b,c)∧s≠(c,a):=fun s hs=>by
  have h:=nd.2.2 s hs
  exact⟨h (a,b) (by simp[ents]),h (b,c) (by simp[ents]),h (c,a) (by simp[ents])⟩
 refine⟨fun t ht=>?_,?_⟩
 ·rcases List.mem_append.mp ht with h|h
  ·exact gl.ne t h
  ·simp only[List.mem_cons,List.not_mem_nil,or_false] at h
   rcases h with rfl|rfl|rfl
   ·exact⟨n1,Ne.symm nb,na⟩
   ·exact⟨n2,Ne.symm nc,nb⟩
   ·exact⟨n3,Ne.symm na,nc⟩
 ·rw[e,List.map_append,List.nodup_append]
  refine⟨gl.nd,?_,fun s hs s' hs' z=>?_⟩
  ·simp[ents,n1,n2,n3,na,nb,nc,Ne.symm n1,Ne.symm n2,Ne.symm n3,Ne.symm na,Ne.symm nb,Ne.symm nc]
  ·subst z
   obtain⟨m1,m2⟩:=nl s hs
   obtain⟨d1,d2,d3⟩:=dj s hs
   simp[ents] at hs'
   rcases hs' with rfl|rfl|rfl|rfl|rfl|rfl|rfl|rfl|rfl
   all_goals first|exact d1 rfl|exact d2 rfl|exact d3 rfl|exact m1 rfl|exact m2 rfl
end K15
end
section
namespace K15
open PySem L2 K51 K31
theorem vS (cl:List Nat) (d v:Nat):(nV cl).take d++V.int (v:Int)::(nV cl).drop d=nV (cl.take d++v::cl.drop d):=by
 unfold nV
 rw[List.map_append,List.map_cons,List.map_take,List.map_drop]
def nmV (x:Nat × Nat):Key × V:=(Sum.inl (x.1:Int),V.int (x.2:Int))
theorem pX {nm:List (Nat × Nat)} {c:Nat} (h:c∉nm.map (·.1)):valV (nm.map nmV) (Sum.inl (c:Int):Key)=none:=by
 induction nm with
 |nil=>simp[valV]
 |cons x nm ih=>
  rw[List.map_cons,List.mem_cons,not_or] at h
  rw[List.map_cons,b_ (fun z=>h.1 ?_)]
  ·exact ih h.2
  ·have:(x.1:Int)=(c:Int):=Sum.inl.inj z
   omega
theorem mX {nm:List (Nat × Nat)} {c x:Nat} (h:c∉nm.map (·.1)):putK (nm.map nmV) (Sum.inl (c:Int):Key) (V.int (x:Int))=(nm++[(c,x)]).map nmV:=by
 rw[fP _ (pX h),List.map_append];rfl
def nmF (nm:List (Nat × Nat)) (c:Nat):Nat:=(nm.lookup c).getD 0
theorem iO {nm:List (Nat × Nat)} {c:Nat} (h:c∈nm.map (·.1)):∃k x:Nat,nm[k]? = some (c,x)∧valV (nm.map nmV) (Sum.inl (c:Int):Key)=some (V.int (x:Int))∧nmF nm c=x:=by
 induction nm with
 |nil=>cases h
 |cons y nm ih=>
  obtain⟨c',x⟩:=y
  by_cases e:c' = c
  ·subst e
   exact⟨0,x,rfl,cE (p:=nmV (c',x)) (r:=nm.map nmV) rfl,by simp[nmF]⟩
  ·rw[List.map_cons] at h
   obtain⟨k,x',h1,h2,h3⟩:=ih ((List.mem_cons.mp h).resolve_left fun z=>e z.symm)
   refine⟨k+1,x',h1,?_,?_⟩
   ·rw[List.map_cons,b_ (fun z=>e ?_)]
    ·exact h2
    ·have:(c':Int)=(c:Int):=Sum.inl.inj z
     omega
   ·have:(c==c')=false:=by simpa using fun z:c=c'=>e z.symm
    unfold nmF at h3 ⊢
    rw[List.lookup_cons,this]
    exact h3
def j4:Sp:=fun vs H Q _=>∃(p T:Addr) (q:Int × Int) (vt:List V) (ts:List Tri),vs=[.ref p,.ref T]∧H p=some (.lst (potV q))∧bn q∧H T=some (.lst vt)∧T≠p∧ay H vt ts∧ts.length≤200∧Good ts ∧
 ∀r vr ts' q' H',H r=none→But p H H'→H' p=some (.lst (potV q'))→bn q'→H' r=some (.lst vr)→ay H' vr ts'→ts'.length=ts.length→Good ts'→(∀u,Co ts' u→u < 10 ^ 60)→((∀c,Co ts c→One (En ts) c)→∀c,Co ts' c→One (En ts') c)→Q (.ref r) H'
section
variable {P:Program} {w:World} {K:W.Frag} {mg:Str→Option Value} {base:Heap}
theorem di:aB ["_law_pot_here","_law_triples","_law_way","_law_corners_here","_law_corner","_law_names","_law_i","_law_far"] ["_law_pot_here","_law_triples"] (ae dw):=⟨rfl,rfl,rfl,by decide +kernel,rfl,by decide +kernel,by decide +kernel⟩
theorem qK {f f1 f2:Addr} {fd d1 d2:FuncData} (U:Fun K "_law_named" "_law_named" dw f fd) (T:TxtN mg)
  (GD:FnOk P w K mg base CX0 1 f1 d1 ["_law_pot_here","_law_base"] c_) (bD:Binds K d1 ["_law_pot_here","_law_base"] []) (mD:mg "_law_digit" = some (.ref f1)) (kD:W.keepIn K (.ref f1)=true)
  (GC:FnOk P w K mg base CX0 1 f2 d2 ["_law_triples"] cC) (bC:Binds K d2 ["_law_triples"] []) (mC:mg "_law_corners" = some (.ref f2)) (kC:W.keepIn K (.ref f2)=true) :
  FnOk P w K mg base CX0 2 f fd ["_law_pot_here","_law_triples"] j4:=by
 refine U.ok di (fun vs H Q E h=>?_) (fun cdv A outer s H vs Q E hr h=>?_)
 ·obtain⟨p,T,q,vt,ts,rfl,_⟩:=h
  rfl
 ·obtain⟨p,T0,q,vt,ts,rfl,hp,pok,hT,nTp,ht,hl,g,Qq⟩:=h
  have hu:=cL hr
  refine⟨_,(af (ax (i:=2) di.nd rfl (Or.inl rfl) (ar GD hr rfl mD kD bD .nil pass0 (aa (pv 0) (aa al ac))))
   (af (ax (i:=3) di.nd rfl (Or.inl rfl) (bc ac))
   (af (ba PassesOwn.never rfl (aG (ar GC hr rfl mC kC bC .nil pass0 (aa (pv 1) ac))) (aq (i:=4) di.nd rfl (Or.inl rfl)) (am (bI (bX PySem.F.plainAttrs_list PySem.F.slot_list_insert PySem.F.type_list_insert gw (pv 3) (aa (ar GD hr rfl mD kD bD .nil pass0 (aa (pv 0) (aa (aA aV (aC aX (by rfl) T.len PySem.boot_len (aa (pv 3) ac)) al) ac))) (aa (pv 4) ac))))))
   (af (ax (i:=5) di.nd rfl (Or.inr rfl) fS)
   (af (ba PassesOwn.never rfl (ku rfl T.enum (aa (pv 3) ac)) (bV rfl (av (aq (i:=6) di.nd rfl (Or.inl rfl)) (av (aq (i:=4) di.nd rfl (Or.inl rfl)) bf))) (af (ax (i:=7) di.nd rfl (Or.inl rfl) (aA eN (aA eN (aA eN (aA kI al al) al) (aA cX (aA aV (pv 6) al) (aA kI al al))) (ar GD hr rfl mD kD bD .nil pass0 (aa (pv 0) (aa (aA kI al al) ac)))))
   (am (dZ hu (pv 5) (pv 4) (cq aW (bc (aa (pv 6) (aa (aA aV (aA cX al (pv 6)) (ar GD hr rfl mD kD bD .nil pass0 (aa (pv 0) (aa al ac)))) (aa (pv 7) ac)))) (pv 2) (fun _ _=>rfl)) rfl))))
   (am (aD (bp (N:=["_law_triple","_law_names"]) (fr:=[none,some 5]) (te:=tCB (fun xs H Q=>∃p ys,xs=[.ref p]∧((SqL K H p ys∧∀l,H l=none→Q (.ref l) (upd H l (.tup ys)))∨(SqT K H p ys∧Q (.ref p) H))) (eD (lm (iTup K (tVar 0)) (cZ 0) (fun _ H Q=>Q true H) (qb (tVar 1) (tVar 0)) [none,some 1]) tNil)) (aR (by decide +kernel) rfl rfl (by decide +kernel) (by decide +kernel) (by
      intro y hy e
      simp only[List.mem_cons,List.not_mem_nil,or_false] at hy
      rcases hy with rfl|rfl|rfl|rfl
      all_goals first|(cases e;done)|exact .inl rfl|exact .inr rfl) (by
      intro j i y e1 e2
      match j,e1,e2 with
      |0,e1,_=>simp at e1
      |1,e1,e2=>simp at e1 e2;subst e1 e2;exact⟨rfl,rfl⟩
      |j+2,e1,_=>simp at e1)) rfl (aG (pv 1))
     (fun C' s' H' fp pins=>⟨aq (i:=0) (show (["_law_triple","_law_names"]:List Str).Nodup by decide +kernel) rfl (Or.inl rfl) (.inr rfl),bJ,aI cV (by rfl) T.tuple PyProof.Rows.boot_tuple (aa (bp (N:=["_law_corner","_law_names"]) (fr:=[none,some 1]) (te:=qb (tVar 1) (tVar 0)) (aR (by decide +kernel) rfl rfl (by decide +kernel) (by decide +kernel) (by
      intro y hy e
      simp only[List.mem_cons,List.not_mem_nil,or_false] at hy
      rcases hy with rfl|rfl|rfl
      all_goals first|(cases e;done)|exact .inl rfl|exact .inr rfl) (by
      intro j i y e1 e2
      match j,e1,e2 with
      |0,e1,_=>simp at e1
      |1,e1,e2=>simp at e1 e2;subst e1 e2;exact⟨rfl,rfl⟩
      |j+2,e1,_=>simp at e1)) rfl (gq (pv 0))
     (fun C2 s2 H2 fp2 pins2=>⟨aq (i:=0) (show (["_law_corner","_law_names"]:List Str).Nodup by decide +kernel) rfl (Or.inl rfl) (.inr rfl),bJ,e6 hu (pv 1) (pv 0) (fun _ _=>rfl)⟩)) ac)⟩))))))))),?_⟩
  have hline:=line5000
  obtain⟨d1,d2⟩:=be (q:=q) (b:=3) (by decide)
  obtain⟨wy,ew⟩:∃wy:Nat,digO q 3=(wy:Int):=⟨_,(Int.toNat_of_nonneg d1).symm⟩
  refine⟨_,rfl,p,q,3,rfl,hp,pok,by decide,by decide +kernel,?_⟩
  (generalize z:upd H p _=H1;have k1:=aK z;have y1:=ak z;clear z)
  rw[ew] at d2 ⊢
  have hwy:wy < 3:=by omega
  refine⟨Nat.zero_le _,fun ch hch=>?_⟩
  have ncp:p≠ch:=ag y1 hch
  have hch0:H ch=none:=(k1 ch (Ne.symm ncp)).symm.trans hch
  (generalize z:upd H1 ch _=H2;have s2:=ah hch z;have y2:=ak z;clear z)
  have hT2:=s2 _ _ ((k1 T0 nTp).trans hT)
  have ht2:ay H2 vt ts:=Paired.imp' (fun _ _ ⟨b',e1,e2⟩=>⟨b',e1,s2 _ _ ((k1 b' (bi e2 hp (by simp))).trans e2)⟩) ht
  refine⟨_,rfl,T0,vt,ts,rfl,hT2,ht2,hl,fun r0 cs H3 hr0 s3 y3 hcs hcl=>?_⟩
  have nrp:r0≠p:=Ne.symm (ag (s2 _ _ y1) hr0)
  have nrc:r0≠ch:=Ne.symm (ag y2 hr0)
  refine⟨r0,rfl,⟨_,SqL.of y3⟩,bd (K:=K) (a:=r0) (xs:=nV cs) (fun i σ H'=>∃o4 cl q',σ=[some (V.ref p),some (.ref T0),some (.int (wy:Int)),some (.ref ch),o4,none,none,none]∧(∀b o,b≠p→b≠ch→H3 b=some o→H' b=some o)∧H' p=some (.lst (potV q'))∧bn q'∧H' ch=some (.lst (nV cl))∧cl.Perm (cs.take i))
   ⟨none,[],_,rfl,fun _ _ _ _ e=>e,s3 _ _ (s2 _ _ y1),aY pok,s3 _ _ y2,List.Perm.refl _⟩ (fun i σ H' _ ⟨_,_,_,_,e,_⟩=>SqL.of (e _ _ nrp nrc y3)) ?_ ?_⟩
  ·rintro i x σ H4 hi ⟨o4,cl,q4,rfl,sm,hp4,pok4,hch4,hpm⟩
   rw[nV,List.getElem?_map] at hi
   obtain⟨v,hv,rfl⟩:=Option.map_eq_some_iff.mp hi
   have hil:=(List.getElem?_eq_some_iff.mp hv).1
   have cll:(nV cl).length=i:=by
    rw[aN,hpm.length_eq,List.length_take];omega
   refine⟨_,rfl,.inl ⟨rfl,_,SqL.of hch4⟩,_,rfl,_,rfl,ch,nV cl,rfl,.inl (SqL.of hch4),_,_,rfl,rfl,p,q4,_,rfl,hp4,pok4,by omega,by rw[cll];exact lg20 (by omega),?_⟩
   (generalize z:upd H4 p _=H5;have k5:=aK z;have y5:=ak z;clear z)
   obtain⟨dq1,dq2⟩:=be (q:=q4) (b:=((nV cl).length:Int)+1) (by omega)
   obtain⟨d,hd⟩:∃d:Nat,digO q4 (((nV cl).length:Int)+1)=(d:Int):=⟨_,(Int.toNat_of_nonneg dq1).symm⟩
   rw[hd] at dq2 ⊢
   have hch5:=(k5 ch (Ne.symm ncp)).trans hch4
   refine⟨_,rfl,ch,nV cl,d,_,rfl,rfl,hch5,by omega,by omega,?_⟩
   (generalize z:upd H5 ch _=H6;have k6:=aK z;have y6:=ak z;clear z)
   refine⟨_,cl.take d++v::cl.drop d,_,rfl,fun b' o n1 n2 e=>(k6 b' n2).trans ((k5 b' n1).trans (sm _ _ n1 n2 e)),(k6 p ncp).trans y5,aY pok4,by rw[y6,vS],?_⟩
   have e1:cs.take (i+1)=cs.take i++[v]:=by rw[List.take_add_one,hv];rfl
   rw[e1]
   refine List.Perm.trans List.perm_middle ?_
   rw[List.take_append_drop]
   exact (List.Perm.cons v hpm).trans (List.perm_append_comm (l₁:=[v]) (l₂:=cs.take i))
  ·rintro σ H4 ⟨o4,cl,q4,rfl,sm,hp4,pok4,hch4,hpm⟩
   rw[aN,List.take_length] at hpm
   refine fun Nd hNd=>?_
   (generalize z:upd H4 Nd _=H5;have s5:=ah hNd z;have y5:=ak z;clear z)
   have cll:cl.length≤600:=by rw[hpm.length_eq];omega
   have ndc:cl.Nodup:=hpm.nodup_iff.mpr (hcs.1.imp fun h=>Nat.ne_of_lt h)
   have nNp:p≠Nd:=ag hp4 hNd
   have hch5:=s5 _ _ hch4
   have nNc:ch≠Nd:=ag hch4 hNd
   refine⟨_,rfl,ch,nV cl,rfl,SqL.of hch5,iY (K:=K) (a:=ch) (xs:=nV cl) (fun j σ H'=>∃o4 o6 o7 nm q',σ=[some (V.ref p),some (.ref T0),some (.int (wy:Int)),some (.ref ch),o4,some (.ref Nd),o6,o7]∧(∀b o,b≠p→b≠Nd→H5 b=some o→H' b=some o)∧H' p=some (.lst (potV q'))∧bn q'∧H' Nd=some (.dK (nm.map nmV))∧nm.map (·.1)=cl.take j∧∀k c x,nm[k]? = some (c,x)→Win wy k x)
    ⟨_,none,none,[],_,rfl,fun _ _ _ _ e=>e,s5 _ _ hp4,pok4,y5,rfl,fun k c x h=>by simp at h⟩ (fun j σ H' _ ⟨_,_,_,_,_,_,e,_⟩=>SqL.of (e _ _ (Ne.symm ncp) nNc hch5)) ?_ ?_⟩
   ·rintro j x pt σ H6 hj ⟨o4,o6,o7,nm,q6,rfl,sm6,hp6,pok6,hN6,hnm,hwin⟩ hpt
    rw[nV,List.getElem?_map] at hj
    obtain⟨c,hc,rfl⟩:=Option.map_eq_some_iff.mp hj
    have hjl:=(List.getElem?_eq_some_iff.mp hc).1
    (generalize z:upd H6 pt _=H7;have s7:=ah hpt z;have y7:=ak z;clear z)
    refine⟨pt,_,rfl,SqT.of y7,rfl,_,_,rfl,_,_,rfl,rfl,?_⟩
    have cp:∀k:Int,0≤k→k≤100→CPow 10 k:=fun k h1 h2=>⟨h1,by omega,by decide⟩
    have hp7:=s7 _ _ hp6
    refine⟨_,_,rfl,rfl,cp _ (by decide) (by decide),_,_,rfl,rfl,_,rfl,_,_,rfl,rfl,_,_,rfl,rfl,cp _ (by decide) (by decide),_,_,rfl,rfl,.inl ⟨by omega,by omega⟩,_,_,rfl,rfl,_,rfl,_,_,rfl,rfl,cp _ (by decide) (by decide),p,q6,(10:Int) ^ 9,rfl,hp7,pok6,by decide,by decide +kernel,_,_,rfl,rfl,?_⟩
    (generalize z:upd H7 p _=H8;have k8:=aK z;have y8:=ak z;clear z)
    obtain⟨f1,f2⟩:=be (q:=q6) (b:=(10:Int) ^ 9) (by decide)
    obtain⟨d9,e9⟩:∃d9:Nat,digO q6 ((10:Int) ^ 9)=(d9:Int):=⟨_,(Int.toNat_of_nonneg f1).symm⟩
    rw[e9] at f2
    have hd9:d9 < 10 ^ 9:=by omega
    show cZ 7 (V.int (10 ^ 60 - 1 - ((j:Int)+1) * 10 ^ 9 - digO q6 ((10:Int) ^ 9))) _ _ _
    rw[e9]
    have efar:(10:Int) ^ 60 - 1 - ((j:Int)+1) * 10 ^ 9 - (d9:Int)=((10 ^ 60 - 1 - (j+1) * 10 ^ 9 - d9:Nat):Int):=by omega
    rw[efar]
    refine⟨_,rfl,_,rfl,_,_,rfl,rfl,.inl ⟨by decide,by decide⟩,_,rfl,p,_,7,rfl,y8,aY pok6,by decide,by decide +kernel,_,_,rfl,rfl,?_⟩
    (generalize z:upd H8 p _=H9;have k9:=aK z;have y9:=ak z;clear z)
    obtain⟨f3,f4⟩:=be (q:=nxt q6 ((10:Int) ^ 9)) (b:=7) (by decide)
    obtain⟨d7,e7⟩:∃d7:Nat,digO (nxt q6 ((10:Int) ^ 9)) 7=(d7:Int):=⟨_,(Int.toNat_of_nonneg f3).symm⟩
    rw[e7] at f4
    refine⟨_,rfl,lit3,fun l hl9=>?_⟩
    rw[show ([V.int (j:Int),(fun i j=>V.int (i+j)) (7 * (j:Int)) (digO (nxt q6 ((10:Int) ^ 9)) 7),V.int ((10 ^ 60 - 1 - (j+1) * 10 ^ 9 - d9:Nat):Int)]:List V)=nV [j,7 * j+d7,10 ^ 60 - 1 - (j+1) * 10 ^ 9 - d9] by rw[e7];rfl]
    (generalize z:upd H9 l _=H10;have s10:=ah hl9 z;have y10:=ak z;clear z)
    obtain⟨x,hx,hw⟩:∃x:Nat,[j,7 * j+d7,10 ^ 60 - 1 - (j+1) * 10 ^ 9 - d9][wy]? = some x∧Win wy j x:=by
     obtain rfl|rfl|rfl:wy=0∨wy=1∨wy=2:=by omega
     ·exact⟨_,rfl,.inl ⟨rfl,rfl⟩⟩
     ·exact⟨_,rfl,.inr (.inl ⟨rfl,by omega,by omega⟩)⟩
     ·exact⟨_,rfl,.inr (.inr ⟨rfl,by omega,by omega⟩)⟩
    have hN10:H10 Nd=some (.dK (nm.map nmV)):=s10 _ _ ((k9 Nd (Ne.symm nNp)).trans ((k8 Nd (Ne.symm nNp)).trans (s7 _ _ hN6)))
    have nml:nm.length=j:=by
     have:=congrArg List.length hnm
     rw[List.length_map,List.length_take] at this
     omega
    have hcn:c∉nm.map (·.1):=by
     rw[hnm]
     intro z
     obtain⟨k,hk⟩:=List.getElem?_of_mem z
     have hkl:=(List.getElem?_eq_some_iff.mp hk).1
     rw[List.length_take] at hkl
     rw[List.getElem?_take_of_lt (by omega)] at hk
     have:=e8 ndc hk hc
     omega
    refine⟨_,rfl,l,_,_,V.int (x:Int),rfl,rfl,SqL.of y10,bY (by rw[nV,List.getElem?_map,hx];rfl),_,rfl,_,rfl,Nd,_,rfl,DPut.k (k:=Sum.inl (c:Int)) hN10 (by rw[List.length_map];omega),?_⟩
    rw[mX hcn]
    (generalize z:upd H10 Nd _=H11;have k11:=aK z;have y11:=ak z;clear z)
    refine⟨_,_,_,nm++[(c,x)],_,rfl,fun b' o n1 n2 e=>?_,(k11 p nNp).trans (s10 _ _ y9),aY (aY pok6),y11,?_,fun k c' x' h=>?_⟩
    ·exact (k11 b' n2).trans (s10 _ _ ((k9 b' n1).trans ((k8 b' n1).trans (s7 _ _ (sm6 _ _ n1 n2 e)))))
    ·rw[List.map_append,hnm,List.take_add_one,hc];rfl
    ·by_cases hk:k < nm.length
     ·rw[List.getElem?_append_left hk] at h
      exact hwin k c' x' h
     ·have hk2:=(List.getElem?_eq_some_iff.mp h).1
      rw[List.length_append,List.length_singleton] at hk2
      have ek:k=nm.length:=by omega
      rw[ek,List.getElem?_append_right (Nat.le_refl _),Nat.sub_self] at h
      cases h
      rw[ek,nml];exact hw
   ·rintro σ H6 ⟨o4,o6,o7,nm,q6,rfl,sm6,hp6,pok6,hN6,hnm,hwin⟩
    rw[aN,List.take_length] at hnm
    have st:But p H H6:=fun b' o nb e=>by
     have e3:H3 b' = some o:=s3 _ _ (s2 _ _ ((k1 b' nb).trans e))
     have e4:H4 b' = some o:=sm _ _ nb (ag e hch0) e3
     exact sm6 _ _ nb (ag e4 hNd) (s5 _ _ e4)
    have hT6:=st _ _ nTp hT
    have ht6:ay H6 vt ts:=Paired.imp' (fun _ _ ⟨b',e1,e2⟩=>⟨b',e1,st _ _ (bi e2 hp (by simp)) e2⟩) ht
    have hin:∀c,Co ts c→c∈nm.map (·.1):=fun c hc=>by
     rw[hnm,hpm.mem_iff,hcs.2]
     obtain⟨t,htm,hu⟩:=aL.mp hc
     exact List.mem_flatMap.mpr ⟨t,htm,by simpa using hu⟩
    have nml:nm.length≤600:=by
     have:=congrArg List.length hnm
     rw[List.length_map] at this
     omega
    have inj:∀a b,Co ts a→Co ts b→nmF nm a=nmF nm b→a=b:=fun a b ha hb e=>by
     obtain⟨k,x,h1,_,h3⟩:=iO (hin a ha)
     obtain⟨k',x',h1',_,h3'⟩:=iO (hin b hb)
     have ex:x=x':=by rw[←h3,←h3',e]
     subst ex
     have ek:=sO (hwin _ _ _ h1) (hwin _ _ _ h1')
     subst ek
     rw[h1] at h1'
     exact (Prod.mk.inj (Option.some.inj h1')).1
    have lt60:∀a,Co ts a→nmF nm a < 10 ^ 60:=fun a ha=>by
     obtain⟨k,x,h1,_,h3⟩:=iO (hin a ha)
     have hk:=(List.getElem?_eq_some_iff.mp h1).1
     rw[h3]
     exact uR (by omega) (hwin _ _ _ h1)
    refine⟨_,rfl,T0,rfl,⟨_,SqL.of hT6⟩,fun Z hZ=>a_ (K:=K) (a:=T0) (xs:=vt) (fun i σ ys H'=>∃o,σ=[o,some (V.ref Nd)]∧ay H' ys ((ts.take i).map (nam (nmF nm)))∧Same H6 H'∧H' Z=some (.lst ys)) ⟨none,rfl,.nil,aw hZ,ao⟩ (fun i σ ys H' _ ⟨_,_,_,e,_⟩=>SqL.of (e _ _ hT6)) ?_ ?_⟩
    ·rintro i x σ ys H' hi ⟨o,rfl,hys,sm',hZ'⟩
     obtain⟨⟨a,b,c⟩,hs,t,rfl,hb⟩:=aS ht6 hi
     have hb:H6 t=some (.tup (nV [a,b,c])):=hb
     have hb':=sm' _ _ hb
     have htm:=List.mem_of_getElem? hs
     have hil:=(List.getElem?_eq_some_iff.mp hs).1
     have ysl:ys.length≤200:=by rw[az hys,List.length_map,List.length_take];omega
     have cor:∀z∈[a,b,c],Co ts z:=fun z hz=>by
      refine aL.mpr ⟨_,htm,?_⟩
      simpa using hz
     refine⟨_,rfl,t,rfl,⟨_,SqT.of hb'⟩,fun Y hY=>eU (K:=K) (a:=t) (xs:=nV [a,b,c]) (fun k σ ys2 H''=>∃o,σ=[o,some (V.ref Nd)]∧ys2=nV (([a,b,c].take k).map (nmF nm))∧H'' = upd H' Y (.lst ys2)) ⟨none,rfl,rfl,rfl⟩ (fun k σ ys2 H'' _ ⟨_,_,_,e⟩=>by rw[e];exact SqT.of (aw hY _ _ hb')) ?_ ?_⟩
     ·rintro k x σ ys2 H'' hk ⟨o,rfl,rfl,rfl⟩
      rw[nV,List.getElem?_map] at hk
      obtain⟨z,hz,rfl⟩:=Option.map_eq_some_iff.mp hk
      have hkl:k < 3:=(List.getElem?_eq_some_iff.mp hz).1
      obtain⟨_,x',_,h2,h3⟩:=iO (hin z (cor z (List.mem_of_getElem? hz)))
      subst h3
      refine⟨_,rfl,_,rfl,Nd,V.int (nmF nm z:Int),rfl,h2 ▸ DGet.k (k:=Sum.inl (z:Int)) (aw hY _ _ (sm' _ _ hN6)),ao,?_,_,rfl,?_,by rw[cF]⟩
      ·rw[aN,List.length_map,List.length_take]
       have:([a,b,c]:List Nat).length=3:=rfl
       omega
      ·rw[List.take_add_one,hz,List.map_append,←dJ];rfl
     ·rintro σ ys2 H'' ⟨o,rfl,rfl,rfl⟩
      refine⟨Y,_,rfl,.inl ⟨SqL.of ao,fun t' ht'=>?_⟩⟩
      have sY:=aw (o:=.lst (nV (([a,b,c].take (nV [a,b,c]).length).map (nmF nm)))) hY
      generalize upd H' Y (HO.lst (nV (([a,b,c].take (nV [a,b,c]).length).map (nmF nm))))=H8 at ht' sY
      (generalize z:upd H8 t' _=H9;have s9:=ah ht' z;have y9:=ak z;clear z)
      have hZ9:=s9 _ _ (sY _ _ hZ')
      have tn:∀{b':Addr} {xs:List V},H9 b' = some (.tup xs)→b'≠Z:=fun e=>bi e hZ9 (by simp)
      have et:(ts.take (i+1)).map (nam (nmF nm))=(ts.take i).map (nam (nmF nm))++[nam (nmF nm) (a,b,c)]:=by rw[List.take_add_one,hs,List.map_append];rfl
      refine⟨hZ9,by omega,_,rfl,?_,fun b' o e=>?_,ao⟩
      ·rw[et]
       refine bU (Paired.imp' (fun _ _ ⟨b',e1,e2⟩=>⟨b',e1,by have e3:=s9 _ _ (sY _ _ e2);rw[au (tn e3)];exact e3⟩) hys) (.cons ⟨t',rfl,by rw[au (tn y9)];exact y9⟩ .nil)
      ·rw[au (ag e hZ)]
       exact s9 _ _ (sY _ _ (sm' _ _ e))
    ·rintro σ ys H' ⟨o,rfl,hys,sm',hZ'⟩
     rw[az ht6,List.take_length] at hys
     have hZ0:H Z=none:=by
      cases e:H Z with
      |none=>rfl
      |some o=>
       have nZp:Z≠p:=fun z=>by rw[z,hp6] at hZ;cases hZ
       rw[st _ _ nZp e] at hZ;cases hZ
     exact Qq Z ys _ q6 H' hZ0 (st.same sm') (sm' _ _ hp6) pok6 hZ' hys (List.length_map ..) (lY g inj) (fun u hu=>by
      obtain⟨a,ha,rfl⟩:=su hu
      exact lt60 a ha) fun hall c hc=>by
      obtain⟨a,ha,rfl⟩:=su hc
      exact tR g inj ha (hall a ha)
end
end K15
end
section
namespace HT
open PySem PySem.Spec PyProof.Rows
section
variable {prog:Program} {w:World} {A:Around} {E:Value→Shared→Prop} {s:Shared}
theorem getItem_tuple_all {t sl:Addr} {items:Array Value} {vl vu:Value} {lo hi:Option Int} {Q:Value→Shared→Prop} (ht:IsTup s.heap t items) (hs:s.heap.IsSliceOf sl vl vu .none) (pl:IsPart vl lo) (pu:IsPart vu hi)
  (hw:sIx items.size 0 lo=0∧sIx items.size items.size hi=items.size) (h:Q (.ref t) s):wpAny (model prog w) A (getItem (.ref t) (.ref sl)) Q E s:=by
 obtain⟨os,hos,hcs,hds⟩:=id hs
 have hTs:s.TypeIs (.ref sl) "slice":=⟨os,hos,hcs⟩
 unfold getItem
 try with_reducible refine wpAny_holding ?_
 first|refine wpAny_bind (wpAny_pure ?_)|skip
 refine wpAny_bind (wpAny_sequenceKey ht.typeIs (by decide) ?_)
 refine wpAny_bind (wpAny_callSpecial?_slot (name:=Str.ofString "__getitem__") ht.typeIs PyProof.Rows.slot_tuple_getitem
  (wpAny_call_entry PyProof.Rows.slot_tuple_getitem ht.typeIs entry_tuple_getitem ?_ (args_tuple_getitem _ _)))
 show wpAny _ _ (Builtin.Tuple.tupleItemsOf (.ref t) >>= _) _ _ s
 refine wpAny_bind (tupleItemsOf_ ht ?_)
 refine wpAny_bind (wpAny_typeOf hTs ?_)
 rw[if_pos (by decide)]
 refine wpAny_bind (dN hs pl pu ?_)
 have yes:(((sIx items.size 0 lo:Nat):Int)==0&&(1:Int)==1&&(sIx items.size items.size hi - sIx items.size 0 lo)==items.size)=true:=by
  rw[hw.1,hw.2];simp
 show wpAny _ _ (if (((sIx items.size 0 lo:Nat):Int)==0&&(1:Int)==1&&(sIx items.size items.size hi - sIx items.size 0 lo)==items.size)=true then _ else _) _ _ s
 rw[if_pos yes]
 unfold Builtin.Tuple.tupleIsExact
 refine wpAny_bind (wpAny_bind (wpAny_typeOf ht.typeIs (wpAny_pure ?_)))
 rw[if_pos (by decide)]
 refine wpAny_bind (wpAny_rule (wpAny_pure ⟨_,rfl,wpAny_pure h⟩))
end
end HT
namespace L2
open PySem PySem.Spec PyProof.Rows
section
variable {X:Cx}
def rSlW (K:W.Frag):V→Option Int→Option Int→Hp→VK→Prop:=fun x lo hi H Q=>∃a xs,x=.ref a∧SqT K H a xs ∧
 ((HT.sIx xs.length 0 lo=0∧HT.sIx xs.length xs.length hi=xs.length)→Q (.ref a) H)∧(¬(HT.sIx xs.length 0 lo=0∧HT.sIx xs.length xs.length hi=xs.length)→∀p,H p=none→Q (.ref p) (upd H p (.tup (cutV xs lo hi))))
theorem nW:SlR X (rSlW X.K):=by
 intro pins s σ H x v vl vu lo hi sl Q I rx hs pl pu h
 obtain⟨a,xs,ex,hx,q1,q2⟩:=h
 by_cases hw:HT.sIx xs.length 0 lo=0∧HT.sIx xs.length xs.length hi=xs.length
 ·subst ex
  cases rx
  obtain⟨its,r,ht,hz⟩:=I.tuple hx
  have hlen:its.toArray.size=xs.length:=by rw[List.size_toArray];exact r.length.symm
  refine⟨"tuple",_,PyProof.Rows.slot_tuple_getitem.lookup,ht.typeIs,?_⟩
  exact HT.getItem_tuple_all ht hs pl pu (by rw[hlen];exact hw) ⟨.ref a,H,I,rfl,q1 hw⟩
 ·exact u6 pins s σ H x v vl vu lo hi sl Q I rx hs pl pu ⟨a,xs,ex,hx,hw,q2 hw⟩
end
end L2
end
section
namespace K15
open PySem L2 K51 K31
theorem gF:bootBuiltins "min" = some (.builtin "min"):=by decide +kernel
def Bg (t u:Tri):Prop:=(u=t∨u=(t.2.1,t.2.2,t.1)∨u=(t.2.2,t.1,t.2.1))∧u.1≤u.2.1∧u.1≤u.2.2
def kyT (u:Tri):List Int:=[(u.1:Int),(u.2.1:Int),(u.2.2:Int)]
theorem iu {K:W.Frag} {H:Hp} {vs:List V} {us:List Tri} (h:ay H vs us):Tups K H vs (us.map kyT):=by
 induction h with
 |nil=>exact .nil
 |cons q _ ih=>
  obtain⟨a,rfl,ha⟩:=q
  exact .cons ⟨a,rfl,SqT.of ha,by simp[kyT]⟩ ih
theorem iw {H:Hp} {ks:List V} {ss:List Tri} (h:ay H ks ss):∀ix:List Nat,(∀i∈ix,i < ks.length)→ay H (ix.map fun i=>ks.getD i .non) (ix.map fun i=>ss.getD i (0,0,0))
 | [],_=>.nil
 |i::ix,hi=>by
  have hik:=hi i (by simp)
  have h1:ks[i]? = some ks[i]:=List.getElem?_eq_getElem hik
  obtain⟨y,hy,hf⟩:=aS h h1
  refine .cons ?_ (iw h ix fun j hj=>hi j (List.mem_cons_of_mem _ hj))
  simp only[List.getD,h1,hy,Option.getD_some]
  exact hf
theorem iI {ss:List Tri} {ix:List Nat} (h:ix.Perm (List.range ss.length)):(ix.map fun i=>ss.getD i (0,0,0)).Perm ss:=by
 have:=h.map fun i=>ss.getD i (0,0,0)
 refine this.trans (List.Perm.of_eq ?_)
 refine List.ext_getElem? fun i=>?_
 rw[List.getElem?_map]
 by_cases hi:i < ss.length
 ·rw[List.getElem?_range hi]
  simp[List.getD,List.getElem?_eq_getElem hi]
 ·rw[List.getElem?_eq_none (by simpa using hi),List.getElem?_eq_none (by omega)];rfl
def jY:Sp:=fun vs H Q _=>∃(T:Addr) (vt:List V) (ts:List Tri),vs=[.ref T]∧H T=some (.lst vt)∧ay H vt ts∧ts.length≤200∧(∀t∈ts,t.1≠t.2.1∧t.2.1≠t.2.2∧t.2.2≠t.1) ∧
 ∀r vr us ws H',H r=none→Same H H'→H' r=some (.lst vr)→ay H' vr us→us.Perm ws→Paired Bg ts ws→us.Pairwise (fun a b=>HT.lexLt [(b.1:Int),(b.2.1:Int),(b.2.2:Int)] [(a.1:Int),(a.2.1:Int),(a.2.2:Int)]=false)→Q (.ref r) H'
section
variable {P:Program} {w:World} {K:W.Frag} {mg:Str→Option Value} {base:Heap}
theorem kh:aB ["_law_triples","_law_found","_law_triple","_law_at_here"] ["_law_triples"] (ae fg):=⟨rfl,rfl,rfl,by decide +kernel,rfl,by decide +kernel,by decide +kernel⟩
theorem tT {f:Addr} {fd:FuncData} (U:Fun K "_law_told" "_law_told" fg f fd) (mN:mg "min" = none) (mS:mg "sorted" = none):FnOk P w K mg base CX0 1 f fd ["_law_triples"] jY:=by
 refine U.ok kh (fun vs H Q E h=>?_) (fun cdv A outer s H vs Q E hr h=>?_)
 ·obtain⟨T,vt,ts,rfl,_⟩:=h
  rfl
 ·obtain⟨T0,vt,ts,rfl,hT,ht,hl,hne,Qq⟩:=h
  have hu:=cL hr
  refine⟨_,(af (ax (i:=1) kh.nd rfl (Or.inl rfl) (bc ac))
   (af (ba PassesOwn.never rfl (aG (pv 0)) (aq (i:=2) kh.nd rfl (Or.inl rfl)) (af (ax (i:=3) kh.nd rfl (Or.inl rfl) (uF PySem.F.plainAttrs_tuple PySem.F.slot_tuple_index PySem.F.type_tuple_index (jC hr.units) (pv 2) (aa (aC (lb rfl) (by rfl) mN gF (aa (pv 2) ac)) ac)))
   (am (bI (bX PySem.F.plainAttrs_list PySem.F.slot_list_append PySem.F.type_list_append bo (pv 1) (aa (aA tQ (fR nW (pv 2) (ib (pv 3)) ic) (fR nW (pv 2) ic (ib (pv 3)))) ac))))))
   (am (aD (aC dU (by rfl) mS bL (aa (pv 1) ac)))))),?_⟩
  have hline:=line5000
  refine⟨Nat.zero_le _,fun fo hfo=>?_⟩
  (generalize z:upd H fo _=H1;have s1:=ah hfo z;have y1:=ak z;clear z)
  refine⟨_,rfl,T0,rfl,⟨_,SqL.of (s1 _ _ hT)⟩,bd (K:=K) (a:=T0) (xs:=vt) (fun i σ H'=>∃o2 o3 vf wf,σ=[some (V.ref T0),some (.ref fo),o2,o3]∧Same H H'∧H' fo=some (.lst vf)∧ay H' vf wf∧Paired Bg (ts.take i) wf)
   ⟨none,none,[],[],rfl,s1,y1,.nil,.nil⟩ (fun i σ H' _ ⟨_,_,_,_,_,e,_⟩=>SqL.of (e _ _ hT)) ?_ ?_⟩
  ·rintro i x σ H2 hi ⟨o2,o3,vf,wf,rfl,sm,hfo2,hvf,hbg⟩
   obtain⟨⟨a,b,c⟩,hs,t,rfl,hb⟩:=aS ht hi
   have hb:H t=some (.tup [.int (a:Int),.int (b:Int),.int (c:Int)]):=hb
   have hb2:=sm _ _ hb
   obtain⟨n1,n2,n3⟩:a≠b∧b≠c∧c≠a:=hne _ (List.mem_of_getElem? hs)
   have vfl:vf.length≤200:=by
    rw[az hvf,←az hbg,List.length_take];omega
   refine kg (fun σ H'=>∃j:Nat,σ=[some (V.ref T0),some (.ref fo),some (.ref t),some (.int (j:Int))]∧H' = H2∧(j=0∧a≤b∧a≤c∨j=1∧b≤c∧b≤a∨j=2∧c≤a∧c≤b)) (fun NX z=>?_) ?_
   ·refine⟨_,rfl,⟨t,_,rfl,.inl hb2⟩,_,rfl,t,[(a:Int),(b:Int),(c:Int)],rfl,SqT.of hb2,by simp,fun m hm hmin=>?_⟩
    have dts:Dts K H2 [V.int (a:Int),.int (b:Int),.int (c:Int)] [.int (a:Int),.int (b:Int),.int (c:Int)]:=.cons (.int _) (.cons (.int _) (.cons (.int _) .nil))
    have eqi:∀x y:Int,PyData.eqv (.int x) (.int y)=decide (x=y):=fun x y=>by
     rw[Bool.eq_iff_iff];simp[PyData.eqv]
    have dd:(PyData.int m).depth≤60:=by simp[PyData.depth]
    have ma:=hmin a (by simp)
    have mb:=hmin b (by simp)
    have mc:=hmin c (by simp)
    by_cases ha:m=a
    ·exact⟨t,_,_,_,_,0,rfl,rfl,SqT.of hb2,dts,.int _,dd,by simp,by show PyData.eqv (.int (a:Int)) _=true;rw[eqi];exact decide_eq_true ha.symm,fun k hk=>by omega,z _ _ ⟨0,rfl,rfl,.inl ⟨rfl,by omega,by omega⟩⟩⟩
    ·have f0:PyData.eqv (.int (a:Int)) (.int m)=false:=by rw[eqi];exact decide_eq_false fun z=>ha z.symm
     by_cases hbm:m=b
     ·refine⟨t,_,_,_,_,1,rfl,rfl,SqT.of hb2,dts,.int _,dd,by simp,by show PyData.eqv (.int (b:Int)) _=true;rw[eqi];exact decide_eq_true hbm.symm,fun k hk=>?_,z _ _ ⟨1,rfl,rfl,.inr (.inl ⟨rfl,by omega,by omega⟩)⟩⟩
      obtain rfl:k=0:=by omega
      exact f0
     ·have f1:PyData.eqv (.int (b:Int)) (.int m)=false:=by rw[eqi];exact decide_eq_false fun z=>hbm z.symm
      have hcm:m=c:=by
       simp only[List.mem_cons,List.not_mem_nil,or_false] at hm
       rcases hm with h|h|h
       ·exact (ha h).elim
       ·exact (hbm h).elim
       ·exact h
      refine⟨t,_,_,_,_,2,rfl,rfl,SqT.of hb2,dts,.int _,dd,by simp,by show PyData.eqv (.int (c:Int)) _=true;rw[eqi];exact decide_eq_true hcm.symm,fun k hk=>?_,z _ _ ⟨2,rfl,rfl,.inr (.inr ⟨rfl,by omega,by omega⟩)⟩⟩
      obtain rfl|rfl:k=0∨k=1:=by omega
      ·exact f0
      ·exact f1
   ·rintro σ H2' ⟨j,rfl,rfl,hj⟩
    have fin:∀(t':Addr) (u:Tri) (H3:Hp),Same H2' H3→H3 t' = some (.tup [.int (u.1:Int),.int (u.2.1:Int),.int (u.2.2:Int)])→Bg (a,b,c) u→∃o2 o3 vf' wf',[some (V.ref T0),some (.ref fo),some (.ref t),some (.int (j:Int))]=[some (V.ref T0),some (.ref fo),o2,o3]∧Same H (upd H3 fo (.lst (vf++[V.ref t'])))∧upd H3 fo (.lst (vf++[V.ref t'])) fo=some (.lst vf')∧ay (upd H3 fo (.lst (vf++[V.ref t']))) vf' wf'∧Paired Bg (ts.take (i+1)) wf':=by
     intro t' u H3 s3 ht' hb'
     have hf3:=s3 _ _ hfo2
     have tn:∀{b':Addr} {xs:List V},H3 b' = some (.tup xs)→b'≠fo:=fun e=>bi e hf3 (by simp)
     refine⟨_,_,_,wf++[u],rfl,fun b' o e=>?_,ao,?_,?_⟩
     ·rw[au (ag e hfo)];exact s3 _ _ (sm _ _ e)
     ·exact bU (Paired.imp' (fun _ _ ⟨b',e1,e2⟩=>⟨b',e1,by have e3:=s3 _ _ e2;rw[au (tn e3)];exact e3⟩) hvf) (.cons ⟨t',rfl,by rw[au (tn ht')];exact ht'⟩ .nil)
     ·rw[List.take_add_one,hs];exact bU hbg (.cons hb' .nil)
    rcases hj with ⟨rfl,h1,h2⟩|⟨rfl,h1,h2⟩|⟨rfl,h1,h2⟩
    ·refine⟨_,rfl,.inl ⟨rfl,_,SqL.of hfo2⟩,_,rfl,_,rfl,_,rfl,t,_,rfl,SqT.of hb2,fun _=>?_,fun z=>(z ⟨by simp[HT.sIx],by simp[HT.sIx]⟩).elim⟩
     refine⟨_,rfl,_,rfl,_,rfl,t,_,rfl,SqT.of hb2,fun z=>absurd z.2 (by simp[HT.sIx]),fun _ pe hpe=>?_⟩
     (generalize z:upd H2' pe _=H3;have s3:=ah hpe z;have y3:=ak z;clear z)
     exact⟨t,pe,_,[],rfl,rfl,SqT.of (s3 _ _ hb2),SqT.of y3,by simp,lit3,fun _=>⟨fo,vf,_,rfl,rfl,s3 _ _ hfo2,by omega,fin t (a,b,c) H3 s3 (s3 _ _ hb2) ⟨.inl rfl,h1,h2⟩⟩,fun z=>(z rfl).elim⟩
    ·refine⟨_,rfl,.inl ⟨rfl,_,SqL.of hfo2⟩,_,rfl,_,rfl,_,rfl,t,_,rfl,SqT.of hb2,fun z=>absurd z.1 (by simp[HT.sIx]),fun _ pa hpa=>?_⟩
     (generalize z:upd H2' pa _=H3;have s3:=ah hpa z;have y3:=ak z;clear z)
     refine⟨_,rfl,_,rfl,_,rfl,t,_,rfl,SqT.of (s3 _ _ hb2),fun z=>absurd z.2 (by simp[HT.sIx]),fun _ pe hpe=>?_⟩
     (generalize z:upd H3 pe _=H4;have s4:=ah hpe z;have y4:=ak z;clear z)
     refine⟨pa,pe,[.int (b:Int),.int (c:Int)],[.int (a:Int)],rfl,rfl,SqT.of (s4 _ _ y3),SqT.of y4,by simp,lit3,fun z=>(by cases z),fun _ pn hpn=>?_⟩
     (generalize z:upd H4 pn _=H5;have s5:=ah hpn z;have y5:=ak z;clear z)
     have s25:=(s3.trans s4).trans s5
     exact⟨fo,vf,_,rfl,rfl,s25 _ _ hfo2,by omega,fin pn (b,c,a) H5 s25 y5 ⟨.inr (.inl rfl),h1,h2⟩⟩
    ·refine⟨_,rfl,.inl ⟨rfl,_,SqL.of hfo2⟩,_,rfl,_,rfl,_,rfl,t,_,rfl,SqT.of hb2,fun z=>absurd z.1 (by simp[HT.sIx]),fun _ pa hpa=>?_⟩
     (generalize z:upd H2' pa _=H3;have s3:=ah hpa z;have y3:=ak z;clear z)
     refine⟨_,rfl,_,rfl,_,rfl,t,_,rfl,SqT.of (s3 _ _ hb2),fun z=>absurd z.2 (by simp[HT.sIx]),fun _ pe hpe=>?_⟩
     (generalize z:upd H3 pe _=H4;have s4:=ah hpe z;have y4:=ak z;clear z)
     refine⟨pa,pe,[.int (c:Int)],[.int (a:Int),.int (b:Int)],rfl,rfl,SqT.of (s4 _ _ y3),SqT.of y4,by simp,lit3,fun z=>(by cases z),fun _ pn hpn=>?_⟩
     (generalize z:upd H4 pn _=H5;have s5:=ah hpn z;have y5:=ak z;clear z)
     have s25:=(s3.trans s4).trans s5
     exact⟨fo,vf,_,rfl,rfl,s25 _ _ hfo2,by omega,fin pn (c,a,b) H5 s25 y5 ⟨.inr (.inr rfl),h1,h2⟩⟩
  ·rintro σ H2 ⟨o2,o3,vf,wf,rfl,sm,hfo2,hvf,hbg⟩
   rw[az ht,List.take_length] at hbg
   have vfl:vf.length≤200:=by rw[az hvf,←az hbg];exact hl
   refine⟨_,rfl,fo,vf,wf.map kyT,rfl,SqL.of hfo2,iu hvf,by omega,fun p ix hp pm ps=>?_⟩
   have ixb:∀i∈ix,i < vf.length:=fun i hi=>List.mem_range.mp (pm.mem_iff.mp hi)
   have s3:=aw (o:=.lst (ix.map fun i=>vf.getD i .non)) hp
   refine Qq p _ _ wf _ (sm.free hp) (sm.trans s3) ao ((iw hvf ix ixb).same s3) (iI (by rw[←az hvf];exact pm)) hbg ?_
   rw[List.pairwise_map] at ps ⊢
   refine ps.imp_of_mem fun {i j} hi hj h=>?_
   have gt:∀i,i∈ix→(wf.map kyT).getD i []=kyT (wf.getD i (0,0,0)):=fun i hi=>by
    have hil:i < wf.length:=by rw[←az hvf];exact ixb i hi
    simp[List.getD,List.getElem?_eq_getElem hil]
   rw[gt i hi,gt j hj] at h
   exact h
end
end K15
end
section
namespace K15
open PySem L2 K51 K31
structure KitI (K:W.Frag):Prop where
 t:W.kitOne K (.type "tuple") (.type "tuple")=some true
 i:W.kitOne K (.type "int") (.type "int")=some true
 b:W.kitOne K (.type "int") (.type "bool")=some false
def jX:Sp:=fun vs H Q _=>∃n:Int,vs=[.int n]∧Q (.bl true) H
def ft:Sp:=fun vs H Q _=>∃n:Nat,vs=[.int (n:Int)]∧Q (.bl true) H
section
variable {P:Program} {w:World} {K:W.Frag} {mg:Str→Option Value} {base:Heap}
theorem tp:aB ["thing"] ["thing"] (ae dn):=⟨rfl,rfl,rfl,by decide +kernel,rfl,by decide +kernel,by decide +kernel⟩
theorem qE {f:Addr} {fd:FuncData} (U:Fun K "is_whole" "is_whole" dn f fd) (T:TxtN mg) (F:KitI K):FnOk P w K mg base CX0 1 f fd ["thing"] jX:=by
 refine U.ok tp (fun vs H Q E h=>?_) (fun cdv A outer s H vs Q E hr h=>?_)
 ·obtain⟨n,rfl,_⟩:=h
  rfl
 ·obtain⟨n,rfl,q⟩:=h
  refine⟨_,am (aD (kH (aC (dW (c:="int")) (by rfl) T.isi PyProof.Rows.boot_isinstance (aa (pv 0) (aa (fT (v:=.ty "int") rfl T.int PyProof.Rows.boot_int rfl) ac)))
   (kx (qx (aC (dW (c:="bool")) (by rfl) T.isi PyProof.Rows.boot_isinstance (aa (pv 0) (aa (fT (v:=.ty "bool") rfl T.bool PyProof.Rows.boot_bool rfl) ac))))))),?_⟩
  exact⟨_,rfl,_,_,true,rfl,.int n,F.i,true,rfl,iteT ⟨_,rfl,_,_,false,rfl,.int n,F.b,false,rfl,q⟩⟩
theorem mP:aB ["thing"] ["thing"] (ae bP):=⟨rfl,rfl,rfl,by decide +kernel,rfl,by decide +kernel,by decide +kernel⟩
theorem lK {f f1:Addr} {fd d1:FuncData} (U:Fun K "is_corner" "is_corner" bP f fd) (G:FnOk P w K mg base CX0 1 f1 d1 ["thing"] jX) (b1:Binds K d1 ["thing"] []) (m1:mg "is_whole" = some (.ref f1)) (k1:W.keepIn K (.ref f1)=true) :
  FnOk P w K mg base CX0 2 f fd ["thing"] ft:=by
 refine U.ok mP (fun vs H Q E h=>?_) (fun cdv A outer s H vs Q E hr h=>?_)
 ·obtain⟨n,rfl,_⟩:=h
  rfl
 ·obtain⟨n,rfl,q⟩:=h
  refine⟨_,am (aD (kH (ar G hr rfl m1 k1 b1 .nil pass0 (aa (pv 0) ac)) (kx (ef wB (pv 0) al (nomark _))))),?_⟩
  refine⟨_,rfl,(n:Int),rfl,true,rfl,iteT ⟨_,rfl,_,_,rfl,rfl,?_⟩⟩
  show Q (.bl (decide ((n:Int) ≥ 0))) H
  rw[decide_eq_true (by omega)]
  exact q
end
end K15
end
section
namespace K15
open PySem L2 K51 K31
def fq:Sp:=fun vs H Q _=>∃(t:Addr) (x:Tri),vs=[.ref t]∧H t=some (.tup [.int (x.1:Int),.int (x.2.1:Int),.int (x.2.2:Int)])∧(x.1≠x.2.1∧x.2.1≠x.2.2∧x.2.2≠x.1)∧Q (.bl true) H
section
variable {P:Program} {w:World} {K:W.Frag} {mg:Str→Option Value} {base:Heap}
theorem dX:aB ["thing","a","b","c"] ["thing"] (ae bO):=⟨rfl,rfl,rfl,by decide +kernel,rfl,by decide +kernel,by decide +kernel⟩
theorem lJ {f f1:Addr} {fd d1:FuncData} (U:Fun K "is_triple" "is_triple" bO f fd) (T:TxtN mg) (F:KitI K) (G:FnOk P w K mg base CX0 2 f1 d1 ["thing"] ft) (b1:Binds K d1 ["thing"] []) (m1:mg "is_corner" = some (.ref f1)) (k1:W.keepIn K (.ref f1)=true) :
  FnOk P w K mg base CX0 3 f fd ["thing"] fq:=by
 refine U.ok dX (fun vs H Q E h=>?_) (fun cdv A outer s H vs Q E hr h=>?_)
 ·obtain⟨t,x,rfl,_⟩:=h
  rfl
 ·obtain⟨t,⟨a,b,c⟩,rfl,ht,⟨n1,n2,n3⟩,q⟩:=h
  have ht:H t=some (.tup [.int (a:Int),.int (b:Int),.int (c:Int)]):=ht
  have n1:a≠b:=n1
  have n2:b≠c:=n2
  have n3:c≠a:=n3
  refine⟨_,af (bH (PW.pt (fN (cI (cr (aC (dW (c:="tuple")) (by rfl) T.isi PyProof.Rows.boot_isinstance (aa (pv 0) (aa (fT (v:=.ty "tuple") rfl T.tuple PyProof.Rows.boot_tuple rfl) ac)))))
     (eM (aF iL (aC aX (by rfl) T.len PySem.boot_len (aa (pv 0) ac)) al (nomark _))))) (am (aD lH)) aJ)
   (af (dI (pv 0) (bV rfl (av (aq (i:=1) dX.nd rfl (Or.inl rfl)) (av (aq (i:=2) dX.nd rfl (Or.inl rfl)) (av (aq (i:=3) dX.nd rfl (Or.inl rfl)) bf)))))
   (af (bH (PW.pt (fN (cI (cr (ar G hr rfl m1 k1 b1 .nil pass0 (aa (pv 1) ac)))) (fN (cI (cr (ar G hr rfl m1 k1 b1 .nil pass0 (aa (pv 2) ac)))) (eM (cI (cr (ar G hr rfl m1 k1 b1 .nil pass0 (aa (pv 3) ac)))))))) (am (aD lH)) aJ)
   (am (aD (kH (ef iL (pv 1) (pv 2) (nomark _)) (kH (ef iL (pv 2) (pv 3) (nomark _)) (kx (ef iL (pv 3) (pv 1) (nomark _))))))))),?_⟩
  refine⟨_,rfl,_,_,true,rfl,.tup ht,F.t,_,rfl,iteF ?_⟩
  refine⟨_,rfl,t,_,rfl,.inr (SqT.of ht),rfl,_,rfl,?_⟩
  refine iteF ⟨_,rfl,t,_,rfl,SqT.of ht,rfl,_,_,rfl,_,_,rfl,_,_,rfl,rfl,?_⟩
  have ne:∀{x y:Nat},x≠y→(!decide (V.int (x:Int)=V.int (y:Int)))=true:=fun h=>by
   rw[decI,decide_eq_false (by omega)];rfl
  refine⟨_,rfl,a,rfl,_,rfl,iteF ⟨_,rfl,b,rfl,_,rfl,iteF ⟨_,rfl,c,rfl,_,rfl,iteF ?_⟩⟩⟩
  refine⟨_,rfl,_,rfl,rfl,_,rfl,?_⟩
  rw[ne n1]
  refine iteT ⟨_,rfl,_,rfl,rfl,_,rfl,?_⟩
  rw[ne n2]
  refine iteT ⟨_,rfl,_,rfl,rfl,?_⟩
  rw[ne n3]
  exact q
end
end K15
end
section
namespace K15
open PySem L2 K51 K31
def j_:Sp:=fun vs H Q _=>∃(t:Addr) (x:Tri),vs=[.ref t]∧H t=some (.tup [.int (x.1:Int),.int (x.2.1:Int),.int (x.2.2:Int)]) ∧
 ∀r u H',Same H H'→H' r=some (.tup [.int (u.1:Int),.int (u.2.1:Int),.int (u.2.2:Int)])→Bg x u→Q (.ref r) H'
theorem dQ {a b:Int} {xs ys:List Int} (h:HT.lexLt (b::ys) (a::xs)=false):a≤b:=by
 unfold HT.lexLt at h
 split at h
 ·omega
 ·have:=of_decide_eq_false h;omega
section
variable {P:Program} {w:World} {K:W.Frag} {mg:Str→Option Value} {base:Heap}
theorem hX:aB ["triple","a","b","c"] ["triple"] (ae dH):=⟨rfl,rfl,rfl,by decide +kernel,rfl,by decide +kernel,by decide +kernel⟩
theorem qQ {f:Addr} {fd:FuncData} (U:Fun K "begun_least" "begun_least" dH f fd) (mN:mg "min" = none):FnOk P w K mg base CX0 1 f fd ["triple"] j_:=by
 refine U.ok hX (fun vs H Q E h=>?_) (fun cdv A outer s H vs Q E hr h=>?_)
 ·obtain⟨t,x,rfl,_⟩:=h
  rfl
 ·obtain⟨t,⟨a,b,c⟩,rfl,ht,q⟩:=h
  have ht:H t=some (.tup [.int (a:Int),.int (b:Int),.int (c:Int)]):=ht
  refine⟨_,af (dI (pv 0) (bV rfl (av (aq (i:=1) hX.nd rfl (Or.inl rfl)) (av (aq (i:=2) hX.nd rfl (Or.inl rfl)) (av (aq (i:=3) hX.nd rfl (Or.inl rfl)) bf)))))
   (am (aD (aC (jk rfl hr.units) (by rfl) mN gF (aa (bc (aa (aE (aa (pv 1) (aa (pv 2) (aa (pv 3) ac)))) (aa (aE (aa (pv 2) (aa (pv 3) (aa (pv 1) ac)))) (aa (aE (aa (pv 3) (aa (pv 1) (aa (pv 2) ac)))) ac)))) ac)))),?_⟩
  refine⟨_,rfl,t,_,rfl,SqT.of ht,rfl,_,_,rfl,_,_,rfl,_,_,rfl,rfl,?_⟩
  refine⟨_,rfl,_,rfl,_,rfl,lit3,fun t1 g1=>?_⟩
  (generalize z:upd H t1 _=H1;have s1:=ah g1 z;have y1:=ak z;clear z)
  refine⟨_,rfl,_,rfl,_,rfl,lit3,fun t2 g2=>?_⟩
  (generalize z:upd H1 t2 _=H2;have s2:=ah g2 z;have y2:=ak z;clear z)
  refine⟨_,rfl,_,rfl,_,rfl,lit3,fun t3 g3=>?_⟩
  (generalize z:upd H2 t3 _=H3;have s3:=ah g3 z;have y3:=ak z;clear z)
  refine⟨lit3,fun l g4=>?_⟩
  (generalize z:upd H3 l _=H4;have s4:=ah g4 z;have y4:=ak z;clear z)
  have z1:=((s2.trans s3).trans s4) _ _ y1
  have z2:=(s3.trans s4) _ _ y2
  have z3:=s4 _ _ y3
  have hs:=((s1.trans s2).trans s3).trans s4
  have tr:ay H4 [V.ref t1,.ref t2,.ref t3] [(a,b,c),(b,c,a),(c,a,b)]:=.cons ⟨t1,rfl,z1⟩ (.cons ⟨t2,rfl,z2⟩ (.cons ⟨t3,rfl,z3⟩ .nil))
  refine⟨l,_,_,rfl,SqL.of y4,iu tr,by simp,fun i y hy hmin=>?_⟩
  have m0:=hmin 0 (by simp)
  have m1:=hmin 1 (by simp)
  have m2:=hmin 2 (by simp)
  match i,hy with
  |0,hy=>
   cases hy
   have h1:(a:Int)≤b:=dQ m1
   have h2:(a:Int)≤c:=dQ m2
   exact q t1 (a,b,c) H4 hs z1 ⟨.inl rfl,by show a≤b;omega,by show a≤c;omega⟩
  |1,hy=>
   cases hy
   have h1:(b:Int)≤a:=dQ m0
   have h2:(b:Int)≤c:=dQ m2
   exact q t2 (b,c,a) H4 hs z2 ⟨.inr (.inl rfl),by show b≤c;omega,by show b≤a;omega⟩
  |2,hy=>
   cases hy
   have h1:(c:Int)≤a:=dQ m0
   have h2:(c:Int)≤b:=dQ m1
   exact q t3 (c,a,b) H4 hs z3 ⟨.inr (.inr rfl),by show c≤a;omega,by show c≤b;omega⟩
  |i+3,hy=>simp at hy
end
end K15
end
section
namespace L2
open PySem PySem.Spec PyProof.Rows
section
variable {X:Cx}
def tDM0 (r:V→List V→Hp→VK→Prop) (to:TE):TE:=fun σ H Q=>to σ H fun x H1=>(∃a,x=.ref a∧IsD H1 a)∧r x [] H1 Q
theorem qA {o:Expr} {to:TE} {name:Str} {apos cpos:Pos} {id:String} {r:V→List V→Hp→VK→Prop} (slot:Slot "dict" name id) (hty:typeOf (.builtin id)=pure (.type "method_descriptor")) (hm:MtM X id r) (ho:PE X o to)
  (hbase:attributeBase o name X.env (eval o X.env)=eval o X.env:=by rfl) (hline:(apos.endLine==cpos.line)=true:=by rfl):PE X (.Call (.Attribute o name apos) [] [] cpos) (tDM0 r to):=by
 intro pins s σ H Q I h
 refine wpAny_Call_method0_late hbase hline (thn (ho pins s σ H _ I h) fun v s1 ⟨x,H1,I1,r1,⟨a,ex,hd⟩,q1⟩=>?_)
 subst ex
 obtain rfl:v=Value.ref a:=r1
 obtain⟨t1,t2,_⟩:=nE I1 hd
 exact⟨"dict",id,PySem.F.plainAttrs_dict,slot,hty,t1,t2,Calls.callWith_builtin rfl (PySem.evalArgs_none (hm pins s1 σ H1 (.ref a) [] (.ref a) [] Q I1 rfl .nil q1))⟩
end
section
variable {X:Cx}
open PySem.W in
def tH (K:W.Frag):List V→Hp→VK→Prop:=fun xs H Q=>∃(a:Addr) (u:HO),xs=[.ref a]∧Rd H a u∧IsDO u∧∀ks vs,DKV H u ks vs →
 (∃ns:List Int,ks=ns.map V.int∧ns.length < 5000∧∀(p:Addr) (ms:List Int),H p=none→ms.Perm ns→ms.Pairwise (·≤·)→Q (.ref p) (upd H p (.lst (ms.map V.int)))) ∨
 ∃kz:List (List Int),Tups K H ks kz∧ks.length < 5000∧∀(p:Addr) (ix:List Nat),H p=none→ix.Perm (List.range ks.length)→(ix.map fun i=>kz.getD i []).Pairwise (fun a b=>HT.lexLt b a=false)→Q (.ref p) (upd H p (.lst (ix.map fun i=>ks.getD i .non)))
open PySem.W in
theorem f_ (hc:X.calm=true):bZ X (.builtin "sorted") (tH X.K):=by
 intro pins s σ H xs us Q I r h
 obtain⟨a,u0,rfl,hd,hu,k⟩:=h
 obtain⟨u,rfl,ru⟩:=Vals.one r
 cases ru
 obtain⟨lo,ks,vs,es,ep,dk,hz,dm,r1,r2⟩:=i5 I hd hu
 obtain⟨m,F⟩:=I.fr
 have hl1:ks.length=es.size:=by have:=r1.length;simpa using this
 refine kdu_sorted (dSrc (es:=es) (ep:=ep) lo) (I.ok.hd hc) F (iP (g:=X.base) (L:=X.env.locals)) dm (by rw[←hl1];exact hz) fun D h' tk vs' F' N' hD hl hv=>?_
 obtain⟨k1,k2⟩:=I.newsKept (t':=s.toks) (more:=[(D,listOf vs'.toArray 0)]) F F' N'
 have nD:=N' (D,listOf vs'.toArray 0) (.head _)
 have hD0:s.heap.get? D=none:=by
  cases e:s.heap.get? D with
  |none=>rfl
  |some o=>exact absurd (hD (D,o) (eP nD.2.1 nD.2.2 e)) (Nat.lt_irrefl _)
 have ev:vs' = es.toList.map (·.key):=by
  refine iR (by rw[hl];simp) fun j v e=>?_
  obtain⟨hj,rfl⟩:=hv j v e
  rw[List.getElem?_map]
  simp[hj]
 have I':Inv X pins σ (upd H D (.lst ks)) {s with heap:=h',toks:=tk}:=I.laidN (t':=tk) k1 k2 hD0 (fun H'=>⟨hz,vs',0,by rw[ev];exact r1,nD.1⟩) (fun _ _ z=>by cases z)
 have z:=gH (X:=oF X) pins _ σ _ (.ref D) [] (.ref D) [] (fun _ H'=>Q (.ref D) H') I'.toIn1 rfl .nil (lr (I.hok.none_of hD0) (k ks vs dk))
 exact thn z fun _ s' ⟨_,H',J,_,q'⟩=>⟨.ref D,H',J.ofIn1,rfl,q'⟩
end
def Sm (H H':Hp):Prop:=∀b o,H b=some o→H' b=some o∨(IsDO o∧∃ob,H' b=some (.frz ob o))
theorem Sm.refl (H:Hp):Sm H H:=fun _ _ e=>.inl e
theorem Sm.of {H H':Hp} (s:Same H H'):Sm H H':=fun b o e=>.inl (s b o e)
theorem Sm.trans {H H1 H2:Hp} (a:Sm H H1) (b:Sm H1 H2):Sm H H2:=fun c o e=>by
 rcases a c o e with e1|⟨hd,ob,e1⟩
 ·exact b c o e1
 ·rcases b c _ e1 with e2|⟨hd2,_⟩
  ·exact .inr ⟨hd,ob,e2⟩
  ·exact False.elim hd2
theorem Sm.free {H H':Hp} (s:Sm H H') {l:Addr} (h:H' l=none):H l=none:=by
 cases q:H l with
 |none=>rfl
 |some o=>rcases s l o q with e|⟨_,_,e⟩ <;> (rw[h] at e;cases e)
theorem Sm.keep {H H':Hp} (s:Sm H H') {b:Addr} {o:HO} (e:H b=some o) (hn:¬IsDO o):H' b=some o:=(s b o e).elim id fun z=>(hn z.1).elim
theorem Sm.rd {H H':Hp} (s:Sm H H') {b:Addr} {o:HO} (e:Rd H b o):Rd H' b o:=by
 rcases e with e|⟨ob,e⟩
 ·rcases s b o e with z|⟨_,ob,z⟩
  ·exact .inl z
  ·exact .inr ⟨ob,z⟩
 ·exact .inr ⟨ob,s.keep e (fun z=>z)⟩
theorem Fz.sm {H H2:Hp} {d:Addr} {o:Obj} {u:HO} (f:Fz H H2 d o u):Sm H H2:=fun b w e=>by
 by_cases hb:b=d
 ·subst hb
  rcases f.1 with z|z
  ·rw[z] at e;cases e;exact .inr ⟨f.2.1,o,f.at⟩
  ·rw[z] at e;cases e;exact .inl f.at
 ·exact .inl ((f.ne hb).trans e)
section
variable {d D:Addr} {o:Obj} {u:HO} {ks vs:List V} {g:TG} {tt:TT} {te:TE} {σ':St} {H1:Hp} {Q:Hp→Prop}
theorem pQ (Pv:Nat→St→List V→Hp→Prop) (h0:Pv 0 σ' [] (upd H1 D (.lst []))) (hl:∀i σ ys H,i≤ks.length→Pv i σ ys H→H d=some (.frz o u))
  (hs:∀i x σ ys H,ks[i]? = some x→Pv i σ ys H→g x σ H fun σ2 H2=>tt σ2 H2 fun b H3=>
   if b=true then te σ2 H3 fun y H4=>H4 D=some (.lst ys)∧ys.length < sizeLine∧Pv (i+1) σ2 (ys++[y]) (upd H4 D (.lst (ys++[y]))) else Pv (i+1) σ2 ys H3)
  (hd:∀σ ys H,Pv ks.length σ ys H→Q H):fm (Itk d o ks) g tt te D σ' H1 Q:=by
 refine⟨fun i m σ ys H=>m=ks.length - i∧i≤ks.length∧Pv i σ ys H,⟨ks.length,by simp,Nat.zero_le _,h0⟩,?_⟩
 rintro i m σ ys H ⟨rfl,hi,p⟩
 have q:=hl i σ ys H hi p
 by_cases hlt:i < ks.length
 ·refine .inr ⟨⟨hlt,u,q⟩,Pv (i+1),fun σ' ys' H' p'=>⟨ks.length - (i+1),by omega,rfl,hlt,p'⟩,fun x H' y=>?_⟩
  obtain⟨e,y⟩:=y
  subst e
  exact hs i x σ ys _ y p
 ·have e:i=ks.length:=by omega
  subst e
  exact .inl ⟨⟨Nat.le_refl _,u,q⟩,hd σ ys H p⟩
theorem pI {tb:TS} {D:Ends} {σ:St} {H:Hp} (Pv:Nat→St→Hp→Prop) (h0:Pv 0 σ H) (hl:∀i σ H,i≤ks.length→Pv i σ H→H d=some (.frz o u))
  (hs:∀i x y p σ H,ks[i]? = some x→vs[i]? = some y→Pv i σ H→H p=none→g (.ref p) σ (upd H p (.tup [x,y])) fun σ2 H2=>tb {D with nx:=Pv (i+1),ct:=Pv (i+1),bk:=D.nx} σ2 H2) (hd:∀σ H,Pv ks.length σ H→D.nx σ H) :
  ∃W:Nat→Nat→St→Hp→Prop,(∃m,W 0 m σ H)∧∀i m σ H,W i m σ H →
   ((Iti d o ks vs).stop i H∧D.nx σ H)∨((Iti d o ks vs).go i H∧∃N:St→Hp→Prop,(∀σ' H',N σ' H'→∃m',m' < m∧W (i+1) m' σ' H')∧∀x H',(Iti d o ks vs).yld i H x H'→g x σ H' fun σ2 H2=>tb {D with nx:=N,ct:=N,bk:=D.nx} σ2 H2):=by
 refine⟨fun i m σ H=>m=ks.length - i∧i≤ks.length∧Pv i σ H,⟨ks.length,by simp,Nat.zero_le _,h0⟩,?_⟩
 rintro i m σ H ⟨rfl,hi,p⟩
 have q:=hl i σ H hi p
 by_cases hlt:i < ks.length
 ·refine .inr ⟨⟨hlt,u,q⟩,Pv (i+1),fun σ' H' p'=>⟨ks.length - (i+1),by omega,rfl,hlt,p'⟩,fun x H' y=>?_⟩
  obtain⟨b,k,v,hb,rfl,rfl,y1,y2⟩:=y
  exact hs i k v b σ H y1 y2 p hb
 ·have e:i=ks.length:=by omega
  subst e
  exact .inl ⟨⟨Nat.le_refl _,u,q⟩,hd σ H p⟩
end
end L2
end
section
namespace K15
open PySem L2 K51 K31
def j9:Sp:=fun vs H Q _=>∃(d:Addr) (l:List (Nat × Nat)),vs=[.ref d]∧Rd H d (.dK (l.map nmV))∧l≠[]∧l.length≤1000 ∧
 ∀(s:Nat) H',Sm H H'→s∈l.map (·.1)→((∀o,(o,s)∉l)∨∀p,p∈l.map (·.1)→∃o,(o,p)∈l)→Q (.int (s:Int)) H'
theorem oo (l:List (Nat × Nat)):(l.map nmV).map (fun p=>kV p.1)=nV (l.map (·.1)):=by
 rw[List.map_map];unfold nV;rw[List.map_map];rfl
theorem t4 (l:List (Nat × Nat)):(l.map nmV).map (·.2)=nV (l.map (·.2)):=by
 rw[List.map_map];unfold nV;rw[List.map_map];rfl
section
variable {P:Program} {w:World} {K:W.Frag} {mg:Str→Option Value} {base:Heap}
theorem kl:aB ["onward","reached","begins"] ["onward"] (ae dD):=⟨rfl,rfl,rfl,by decide +kernel,rfl,by decide +kernel,by decide +kernel⟩
theorem qN {f:Addr} {fd:FuncData} (U:Fun K "first_of" "first_of" dD f fd) (T:TxtN mg) (mN:mg "min" = none):FnOk P w K mg base CX0 1 f fd ["onward"] j9:=by
 refine U.ok kl (fun vs H Q E h=>?_) (fun cdv A outer s H vs Q E hr h=>?_)
 ·obtain⟨d,l,rfl,_⟩:=h
  rfl
 ·obtain⟨d,l,rfl,hd,hne,hl,q⟩:=h
  refine⟨_,af (ax (i:=1) kl.nd rfl (Or.inr rfl) (aI (jc rfl) (by rfl) T.list PyProof.Rows.boot_list (aa (qA PySem.F.slot_dict_values PySem.F.type_dict_values px (pv 0)) ac)))
   (af (ia (i:=2) (N:=["p","reached"]) (fr:=[none,some 1]) (tt:=p_ (tOp (rIn K true) (tVar 0) (tVar 1))) (aR (by decide +kernel) rfl rfl (by decide +kernel) (by decide +kernel) (by
      intro y hy e
      simp only[List.mem_cons,List.not_mem_nil,or_false] at hy
      rcases hy with rfl|rfl|rfl
      all_goals first|(cases e;done)|exact .inl rfl) (by
      intro j i y e1 e2
      match j,e1,e2 with
      |0,e1,_=>simp at e1
      |1,e1,e2=>simp at e1 e2;subst e1 e2;exact⟨rfl,rfl⟩
      |j+2,e1,_=>simp at e1)) rfl (tO (pv 0))
     (fun C' s' H' fp pins=>⟨aq (i:=0) (show (["p","reached"]:List Str).Nodup by decide +kernel) rfl (Or.inl rfl) (.inr rfl),eZ (aF cJ (pv 0) (pv 1) rfl),pv 0⟩) kl.nd rfl (Or.inl rfl))
   (am (aD (qy (qu (pv 2) (fun _=>rfl)) (cq aW (pv 2) al (fun _ _=>rfl)) (aC (jl rfl) (by rfl) mN gF (aa (pv 0) ac)))))),?_⟩
  have hline:=line5000
  refine⟨_,rfl,⟨d,rfl,.inl ⟨_,hd⟩⟩,d,_,rfl,rfl,hd,fun v hv=>?_⟩
  (generalize z:upd H v _=H1;have s1:=ah hv z;have y1:=ak z;clear z)
  have hd1:=(Sm.of s1).rd hd
  refine⟨v,d,_,rfl,y1,hd1,fun r hr0=>?_⟩
  (generalize z:upd H1 r _=H2;have s2:=ah hr0 z;have y2:=ak z;clear z)
  have hd2:=(Sm.of s2).rd hd1
  rw[t4] at y2
  refine⟨_,rfl,d,_,rfl,hd2,True.intro,fun ks vs o H3 hk hz=>?_⟩
  have ek:ks=nV (l.map (·.1)):=by
   rcases hk with ⟨kvs,e,e1,_⟩|⟨kvs,as,e,_⟩
   ·cases e;rw[e1,oo]
   ·cases e
  subst ek
  have y3:H3 r=some (.lst (nV (l.map (·.2)))):=hz.sm.keep y2 (fun z=>z)
  refine fun Z hZ=>pQ (d:=d) (o:=o) (u:=.dK (l.map nmV)) (ks:=nV (l.map (·.1))) (fun i σ ys H'=>∃o,σ=[o,some (.ref r)]∧ys=nV (((l.map (·.1)).take i).filter fun p=>decide (p∉l.map (·.2)))∧H' = upd H3 Z (.lst ys)) ⟨none,rfl,rfl,rfl⟩ (fun i σ ys H' _ ⟨_,_,_,e⟩=>by rw[e];exact aw hZ _ _ hz.at) ?_ ?_
  ·rintro i y σ ys H' hi ⟨o,rfl,rfl,rfl⟩
   rw[nV,List.getElem?_map] at hi
   obtain⟨n,hn,rfl⟩:=Option.map_eq_some_iff.mp hi
   have et:(l.map (·.1)).take (i+1)=(l.map (·.1)).take i++[n]:=by rw[List.take_add_one,hn];rfl
   refine⟨_,rfl,_,rfl,r,_,rfl,.inl (SqL.of (aw hZ _ _ y3)),rfl,eA _,_,rfl,?_⟩
   show if (if true=true then !inV (V.int (n:Int)) (nV (l.map (·.2))) else _)=true then _ else _
   rw[if_pos rfl,eS]
   by_cases hnF:n∈l.map (·.2)
   ·rw[decide_eq_true hnF]
    refine iteF ⟨_,rfl,?_,rfl⟩
    rw[et,List.filter_append,List.filter_cons,if_neg (by simpa using hnF),List.filter_nil,List.append_nil]
   ·rw[decide_eq_false hnF]
    refine iteT ⟨_,rfl,ao,?_,_,rfl,?_,by rw[cF]⟩
    ·rw[aN]
     have h1:=List.length_filter_le (fun p=>decide (p∉l.map (·.2))) ((l.map (·.1)).take i)
     rw[List.length_take,List.length_map] at h1
     omega
    ·rw[et,List.filter_append,List.filter_cons,if_pos (by simpa using hnF),List.filter_nil,←dJ];rfl
  ·rintro σ ys H' ⟨o',rfl,rfl,rfl⟩
   rw[aN,List.take_length]
   have sZ:=aw (o:=.lst (nV ((l.map (·.1)).filter fun p=>decide (p∉l.map (·.2))))) hZ
   have yZ:upd H3 Z (.lst (nV ((l.map (·.1)).filter fun p=>decide (p∉l.map (·.2))))) Z=some (.lst (nV ((l.map (·.1)).filter fun p=>decide (p∉l.map (·.2))))):=ao
   generalize upd H3 Z (.lst (nV ((l.map (·.1)).filter fun p=>decide (p∉l.map (·.2)))))=H4 at sZ yZ ⊢
   have sm4:Sm H H4:=((Sm.of (s1.trans s2)).trans hz.sm).trans (Sm.of sZ)
   have hmem:∀x,x∈((l.map (·.1)).filter fun p=>decide (p∉l.map (·.2)))↔x∈l.map (·.1)∧x∉l.map (·.2):=fun x=>by rw[List.mem_filter,decide_eq_true_eq]
   have rch:∀x,x∉l.map (·.2)→∀o,(o,x)∉l:=fun x hx o ho=>hx (List.mem_map.mpr ⟨_,ho,rfl⟩)
   generalize ((l.map (·.1)).filter fun p=>decide (p∉l.map (·.2)))=bs at hmem yZ
   refine⟨_,rfl,_,.inl ⟨_,SqL.of yZ,rfl⟩,?_⟩
   cases bs with
   |cons b bs=>
    refine iteT ⟨_,rfl,Z,_,_,_,rfl,rfl,SqL.of yZ,bY (j:=0) rfl,?_⟩
    obtain⟨h1,h2⟩:=(hmem b).mp (by simp)
    exact q b H4 sm4 h1 (.inl (rch b h2))
   |nil=>
    refine iteF ⟨_,rfl,d,_,(l.map (·.1)).map (fun n:Nat=>(n:Int)),rfl,(Sm.of sZ).rd (.inr ⟨_,hz.at⟩),by rw[oo,List.map_map];rfl,?_,fun m hm hmin=>?_⟩
    ·cases l with
     |nil=>exact absurd rfl hne
     |cons a l=>simp
    ·obtain⟨n,hn,rfl⟩:=List.mem_map.mp hm
     refine q n H4 sm4 hn (.inr fun p hp=>?_)
     have:p∈l.map (·.2):=Classical.byContradiction fun z=>by
      have:=(hmem p).mpr ⟨hp,z⟩
      cases this
     obtain⟨⟨o,p'⟩,ho,rfl⟩:=List.mem_map.mp this
     exact⟨o,ho⟩
end
end K15
end
section
namespace K15
open PySem L2 K51 K31
structure Abt (E:Nat→Nat→Nat→Prop) (v:Nat) (l:List (Nat × Nat)):Prop where
 nd:(l.map (·.1)).Nodup
 mem:∀p q,(p,q)∈l↔E v p q
def mI:Sp:=fun vs H Q _=>∃(d:Addr) (l:List (Nat × Nat)) (E:Nat→Nat→Nat→Prop) (v:Nat),vs=[.ref d]∧Rd H d (.dK (l.map nmV))∧l≠[]∧l.length≤1000∧Sk E∧Abt E v l ∧
 ∀(b:Bool) H',Sm H H'→(b=true↔One E v)→Q (.bl b) H'
theorem uk (l:List (Nat × Nat)) (c:Nat):i6 (l.map nmV) (Sum.inl (c:Int):Key)=(l.filter fun x=>decide (x.1≠c)).map nmV:=by
 unfold i6
 rw[List.filter_map]
 congr 1
 apply List.filter_congr
 intro x _
 show decide ((Sum.inl (x.1:Int):Key)≠Sum.inl (c:Int))=decide (x.1≠c)
 by_cases h:x.1=c
 ·simp[h]
 ·have z:¬(Sum.inl (x.1:Int):Key)=Sum.inl (c:Int):=fun z=>h (by have:(x.1:Int)=(c:Int):=Sum.inl.inj z;omega)
  simp only[ne_eq,h,z,not_false_eq_true]
theorem pJ {α:Type} (l:List α) (f:α→Bool) {x:α} (hx:x∈l) (hf:f x=false):(l.filter f).length < l.length:=by
 induction l with
 |nil=>cases hx
 |cons a l ih=>
  rw[List.filter_cons]
  have:=List.length_filter_le f l
  rcases List.mem_cons.mp hx with e|h
  ·subst e
   rw[if_neg (by rw[hf];decide),List.length_cons];omega
  ·have:=ih h
   split <;> simp only[List.length_cons] <;> omega
section
variable {P:Program} {w:World} {K:W.Frag} {mg:Str→Option Value} {base:Heap}
theorem kj:aB ["about","at","left"] ["about"] (ae fh):=⟨rfl,rfl,rfl,by decide +kernel,rfl,by decide +kernel,by decide +kernel⟩
theorem tW {f f1:Addr} {fd d1:FuncData} (U:Fun K "hang_together" "hang_together" fh f fd) (T:TxtN mg) (mD:mg "dict" = none) (G:FnOk P w K mg base CX0 1 f1 d1 ["onward"] j9) (b1:Binds K d1 ["onward"] []) (m1:mg "first_of" = some (.ref f1)) (k1:W.keepIn K (.ref f1)=true) :
  FnOk P w K mg base CX0 2 f fd ["about"] mI:=by
 refine U.ok kj (fun vs H Q E h=>?_) (fun cdv A outer s H vs Q E hr h=>?_)
 ·obtain⟨d,l,E,v,rfl,_⟩:=h
  rfl
 ·obtain⟨d,l,E,v,rfl,hd,hne,hl,k,ab,q⟩:=h
  have hu:=cL hr
  refine⟨_,af (ax (i:=1) kj.nd rfl (Or.inl rfl) (ar G hr rfl m1 k1 b1 .nil pass0 (aa (pv 0) ac)))
   (af (ax (i:=2) kj.nd rfl (Or.inl rfl) (aI jd (by rfl) mD PyProof.Rows.boot_dict (aa (pv 0) ac)))
   (af (fQ PassesOwn.never (kq (m9 hu (pv 1) (pv 2))) (am (ax (i:=1) kj.nd rfl (Or.inl rfl) (qz (pv 2) (pv 1) ⟨rfl,rfl,rfl,rfl⟩))))
   (am (aD (ef fk (aC pR (by rfl) T.len PySem.boot_len (aa (pv 2) ac)) al (nomark _)))))),?_⟩
  refine⟨_,rfl,d,l,rfl,hd,hne,hl,fun s1 H1 sm1 hs1 hfirst=>?_⟩
  refine⟨_,rfl,d,_,rfl,sm1.rd hd,fun p hp=>?_⟩
  (generalize z:upd H1 p _=H2;have s2:=ah hp z;have y2:=ak z;clear z)
  have hfirst':(∀o,¬E v o s1)∨∀p,(∃q,E v p q)→∃o,E v o p:=by
   rcases hfirst with h|h
   ·exact .inl fun o ho=>h o ((ab.mem _ _).mpr ho)
   ·refine .inr fun p ⟨q,hq⟩=>?_
    obtain⟨o,ho⟩:=h p (List.mem_map.mpr ⟨_,(ab.mem _ _).mpr hq,rfl⟩)
    exact⟨o,(ab.mem _ _).mp ho⟩
  refine⟨fun m σ H'=>∃(L:List Nat) (at_:Nat) (lf:List (Nat × Nat)),σ=[some (.ref d),some (.int (at_:Int)),some (.ref p)]∧m=lf.length∧Sm H H'∧H' p=some (.dK (lf.map nmV))∧lf.length≤1000∧(lf.map (·.1)).Nodup∧(∀x,x∈lf↔x∈l∧x.1∉L) ∧
   L.Nodup∧(∀p∈L,∃q,E v p q)∧(∀i p q,L[i]? = some p→L[i+1]? = some q→E v p q)∧(L=[]∧at_=s1∨L.head? = some s1∧∀p,L.getLast? = some p→E v p at_),
   ⟨_,[],s1,l,rfl,rfl,sm1.trans (Sm.of s2),y2,hl,ab.nd,by simp,List.nodup_nil,by simp,by simp,.inl ⟨rfl,rfl⟩⟩,?_⟩
  rintro m σ H' ⟨L,at_,lf,rfl,rfl,sm,hp',hlf,nd,mem,ndL,key,ch,hat⟩
  refine⟨_,rfl,_,rfl,p,_,rfl,DGet.k (k:=Sum.inl (at_:Int)) hp',?_⟩
  by_cases hin:at_∈lf.map (·.1)
  ·obtain⟨i,x,h1,h2,_⟩:=iO hin
   have hx:(at_,x)∈lf:=List.mem_of_getElem? h1
   obtain⟨hxl,hxL⟩:=(mem _).mp hx
   have hE:E v at_ x:=(ab.mem _ _).mp hxl
   refine⟨true,by rw[h2];rfl,?_⟩
   refine iteT ⟨fun σ' H''=>∃(L:List Nat) (at':Nat) (lf':List (Nat × Nat)),σ' = [some (.ref d),some (.int (at':Int)),some (.ref p)]∧lf'.length < lf.length∧Sm H H''∧H'' p=some (.dK (lf'.map nmV))∧lf'.length≤1000∧(lf'.map (·.1)).Nodup∧(∀x,x∈lf'↔x∈l∧x.1∉L) ∧
    L.Nodup∧(∀p∈L,∃q,E v p q)∧(∀i p q,L[i]? = some p→L[i+1]? = some q→E v p q)∧(L=[]∧at' = s1∨L.head? = some s1∧∀p,L.getLast? = some p→E v p at'),
    fun σ' H'' ⟨L,at',lf',e,hlt,r⟩=>⟨_,hlt,L,at',lf',e,rfl,r⟩,?_⟩
   refine⟨_,rfl,p,rfl,.inl ⟨_,.inl hp'⟩,_,rfl,_,Sum.inl (at_:Int),_,hp',rfl,h2,?_⟩
   rw[uk]
   have hpH:H p=none:=(sm1.free hp)
   have hlt:=pJ lf (fun y=>decide (y.1≠at_)) hx (by simp)
   refine⟨L++[at_],x,lf.filter fun y=>decide (y.1≠at_),rfl,hlt,fun b o e=>?_,ao,by omega,?_,fun y=>?_,?_,fun y hy=>?_,fun i p q hp hq=>?_,.inr ⟨?_,fun p hp=>?_⟩⟩
   ·rw[au (ag e hpH)];exact sm b o e
   ·exact nd.sublist (List.Sublist.map _ List.filter_sublist)
   ·rw[List.mem_filter,mem y,List.mem_append,List.mem_singleton,decide_eq_true_eq]
    constructor
    ·rintro⟨⟨a,b⟩,c⟩;exact⟨a,fun z=>z.elim b c⟩
    ·rintro⟨a,b⟩;exact⟨⟨a,fun z=>b (.inl z)⟩,fun z=>b (.inr z)⟩
   ·rw[List.nodup_append]
    exact⟨ndL,by simp,fun a ha b hb=>by rw[List.mem_singleton] at hb;rintro rfl;rw[hb] at ha;exact hxL ha⟩
   ·rcases List.mem_append.mp hy with h|h
    ·exact key y h
    ·rw[List.mem_singleton.mp h];exact⟨x,hE⟩
   ·by_cases hi:i+1 < L.length
    ·rw[List.getElem?_append_left (by omega)] at hp
     rw[List.getElem?_append_left hi] at hq
     exact ch i p q hp hq
    ·by_cases hi2:i+1=L.length
     ·rw[List.getElem?_append_left (by omega)] at hp
      rw[List.getElem?_append_right (by omega)] at hq
      have:i+1 - L.length=0:=by omega
      rw[this] at hq
      simp at hq
      subst hq
      rcases hat with ⟨rfl,_⟩|⟨_,h⟩
      ·simp at hi2
      ·exact h p (by rw[List.getLast?_eq_getElem?,show L.length - 1=i by omega];exact hp)
     ·rw[List.getElem?_append_right (by omega)] at hq
      have:=(List.getElem?_eq_some_iff.mp hq).1
      rw[List.length_singleton] at this
      omega
   ·rcases hat with ⟨rfl,rfl⟩|⟨h,_⟩
    ·rfl
    ·cases L with
     |nil=>cases h
     |cons a L=>exact h
   ·rw[List.getLast?_append] at hp
    simp at hp
    subst hp
    exact hE
  ·refine⟨false,by rw[pX hin];rfl,iteF ?_⟩
   have hLne:L≠[]:=by
    rintro rfl
    rcases hat with ⟨_,rfl⟩|⟨h,_⟩
    ·obtain⟨⟨a,b⟩,h1,rfl⟩:=List.mem_map.mp hs1
     exact hin (List.mem_map.mpr ⟨_,(mem _).mpr ⟨h1,by simp⟩,rfl⟩)
    ·cases h
   obtain⟨hh,hlast⟩:L.head? = some s1∧∀p,L.getLast? = some p→E v p at_:=hat.resolve_left fun z=>hLne z.1
   have hend:=rg k hLne ndL key ch hlast (fun⟨r,hr'⟩=>Classical.byContradiction fun z=>hin (List.mem_map.mpr ⟨_,(mem (at_,r)).mpr ⟨(ab.mem _ _).mpr hr',z⟩,rfl⟩)) hh hfirst'
   refine⟨_,rfl,p,_,rfl,hp',rfl,?_⟩
   rw[List.length_map]
   refine q _ H' sm ?_
   rw[decI,decide_eq_true_eq,←hend]
   constructor
   ·intro h0 p ⟨r,hr'⟩
    have:lf=[]:=List.length_eq_zero_iff.mp (by omega)
    refine Classical.byContradiction fun z=>?_
    have:=(mem (p,r)).mpr ⟨(ab.mem _ _).mpr hr',z⟩
    rw[‹lf=[]›] at this
    cases this
   ·intro hall
    have:lf=[]:=by
     cases lf with
     |nil=>rfl
     |cons y lf=>
      obtain⟨h1,h2⟩:=(mem y).mp (by simp)
      obtain⟨a,b⟩:=y
      exact absurd (hall a ⟨b,(ab.mem _ _).mp h1⟩) h2
    rw[this];rfl
end
end K15
end
section
namespace K15
open PySem L2 K51 K31
def gj:Sp:=fun vs H Q _=>∃(T:Addr) (vt:List V) (ts:List Tri),vs=[.ref T]∧H T=some (.lst vt)∧ay H vt ts∧ts.length≤400∧(∀t∈ts,t.1≠t.2.1∧t.2.1≠t.2.2∧t.2.2≠t.1) ∧
 ∀r vr H',H r=none→Same H H'→H' r=some (.lst vr)→ay H' vr ts→Q (.ref r) H'
def EnAt (H:Hp) (v:V) (e:Ent):Prop:=∃u s,v=.ref u∧H u=some (.tup [.ref s,.int (e.2:Int)])∧H s=some (.tup ((ky e.1.1 e.1.2).map kV))
section
variable {P:Program} {w:World} {K:W.Frag} {mg:Str→Option Value} {base:Heap}
theorem cN:aB ["things","triples","k","thing","a","b","c"] ["things"] (ae cz):=⟨rfl,rfl,rfl,by decide +kernel,rfl,by decide +kernel,by decide +kernel⟩
theorem np {f f1:Addr} {fd d1:FuncData} (U:Fun K "checked_triples" "checked_triples" cz f fd) (T:TxtN mg) (G:FnOk P w K mg base CX0 3 f1 d1 ["thing"] fq) (b1:Binds K d1 ["thing"] []) (m1:mg "is_triple" = some (.ref f1)) (k1:W.keepIn K (.ref f1)=true) :
  FnOk P w K mg base CX0 4 f fd ["things"] gj:=by
 refine U.ok cN (fun vs H Q E h=>?_) (fun cdv A outer s H vs Q E hr h=>?_)
 ·obtain⟨T,vt,ts,rfl,_⟩:=h
  rfl
 ·obtain⟨T0,vt,ts,rfl,hT,ht,hl,hne,q⟩:=h
  refine⟨_,af (ax (i:=1) cN.nd rfl (Or.inl rfl) (bc ac))
   (af (ba PassesOwn.never rfl (ku rfl T.enum (aa (pv 0) ac)) (bV rfl (av (aq (i:=2) cN.nd rfl (Or.inl rfl)) (av (aq (i:=3) cN.nd rfl (Or.inl rfl)) bf)))
    (af (bH (cI (cr (ar G hr rfl m1 k1 b1 .nil pass0 (aa (pv 3) ac)))) bj aJ)
    (af (dI (pv 3) (bV rfl (av (aq (i:=4) cN.nd rfl (Or.inl rfl)) (av (aq (i:=5) cN.nd rfl (Or.inl rfl)) (av (aq (i:=6) cN.nd rfl (Or.inl rfl)) bf)))))
    (am (bI (bX PySem.F.plainAttrs_list PySem.F.slot_list_append PySem.F.type_list_append bo (pv 1) (aa (aE (aa (aI fe (by rfl) T.int PyProof.Rows.boot_int (aa (pv 4) ac)) (aa (aI fe (by rfl) T.int PyProof.Rows.boot_int (aa (pv 5) ac)) (aa (aI fe (by rfl) T.int PyProof.Rows.boot_int (aa (pv 6) ac)) ac)))) ac)))))))
   (am (aD (pv 1)))),?_⟩
  have hline:=line5000
  have hlen:=az ht
  refine⟨Nat.zero_le _,fun r hr0=>?_⟩
  (generalize z:upd H r _=H1;have s1:=ah hr0 z;have y1:=ak z;clear z)
  refine⟨_,rfl,T0,vt,rfl,SqL.of (s1 _ _ hT),iY (K:=K) (a:=T0) (xs:=vt) (fun i σ H'=>∃o2 o3 o4 o5 o6 vr,σ=[some (V.ref T0),some (.ref r),o2,o3,o4,o5,o6]∧Same H H'∧H' r=some (.lst vr)∧ay H' vr (ts.take i))
   ⟨none,none,none,none,none,[],rfl,s1,y1,.nil⟩ (fun i σ H' _ ⟨_,_,_,_,_,_,_,e,_⟩=>SqL.of (e _ _ hT)) ?_ ?_⟩
  ·rintro i x p σ H2 hi ⟨o2,o3,o4,o5,o6,vr,rfl,sm,hv,tr⟩ hp
   obtain⟨⟨a,b,c⟩,hs,t,rfl,hb⟩:=aS ht hi
   have hb:H t=some (.tup [.int (a:Int),.int (b:Int),.int (c:Int)]):=hb
   have et:ts.take (i+1)=ts.take i++[(a,b,c)]:=by rw[List.take_add_one,hs];rfl
   (generalize z:upd H2 p _=H3;have s3:=ah hp z;have y3:=ak z;clear z)
   refine⟨p,_,rfl,SqT.of y3,rfl,_,_,rfl,_,_,rfl,rfl,?_⟩
   refine⟨_,rfl,t,(a,b,c),rfl,s3 _ _ (sm _ _ hb),hne _ (List.mem_of_getElem? hs),_,rfl,iteF ?_⟩
   refine⟨_,rfl,t,_,rfl,SqT.of (s3 _ _ (sm _ _ hb)),rfl,_,_,rfl,_,_,rfl,_,_,rfl,rfl,?_⟩
   refine⟨_,rfl,.inl ⟨rfl,_,SqL.of (s3 _ _ hv)⟩,_,rfl,.inl ⟨_,rfl,_,rfl,.inl ⟨_,rfl,_,rfl,.inl ⟨_,rfl,lit3,fun t1 g1=>?_⟩⟩⟩⟩
   (generalize z:upd H3 t1 _=H4;have s4:=ah g1 z;have y4:=ak z;clear z)
   have hv4:=s4 _ _ (s3 _ _ hv)
   have l1:=az tr
   rw[List.length_take] at l1
   refine⟨r,_,_,rfl,rfl,hv4,by omega,?_⟩
   (generalize z:upd H4 r _=H5;have k5:=aK z;have y5:=ak z;clear z)
   have hrH:H r=none:=hr0
   have n1:∀b' o,H b' = some o→b'≠r:=fun b' o e=>ag e hrH
   refine⟨_,_,_,_,_,_,rfl,fun b' o e=>(k5 b' (n1 b' o e)).trans (s4 _ _ (s3 _ _ (sm _ _ e))),y5,?_⟩
   rw[et]
   exact bU (Paired.imp' (fun v' t' ⟨a',e,hh⟩=>⟨a',e,(k5 a' (fun z=>by rw[z,hv] at hh;cases hh)).trans (s4 _ _ (s3 _ _ hh))⟩) tr) (.cons ⟨t1,rfl,(k5 t1 (fun z=>by rw[←z,y4] at hv4;cases hv4)).trans y4⟩ .nil)
  ·rintro σ H2 ⟨o2,o3,o4,o5,o6,vr,rfl,sm,hv,tr⟩
   rw[hlen,List.take_length] at tr
   exact⟨_,rfl,q r vr H2 hr0 sm hv tr⟩
theorem cW:aB ["triples","thirds","k","a","b","c","side","third"] ["triples"] (ae cU):=⟨rfl,rfl,rfl,by decide +kernel,rfl,by decide +kernel,by decide +kernel⟩
theorem pj {f:Addr} {fd:FuncData} (U:Fun K "thirds_by_side" "thirds_by_side" cU f fd) (T:TxtN mg):FnOk P w K mg base CX0 1 f fd ["triples"] cv:=by
 refine U.ok cW (fun vs H Q E h=>?_) (fun cdv A outer s H vs Q E hr h=>?_)
 ·obtain⟨T,vt,ts,rfl,_⟩:=h
  rfl
 ·obtain⟨T0,vt,ts,rfl,hT,ht,hl,hnd,q⟩:=h
  have hu:=cL hr
  refine⟨_,af (ax (i:=1) cW.nd rfl (Or.inl rfl) lG)
   (af (ba PassesOwn.never rfl (ku rfl T.enum (aa (pv 0) ac)) (bV rfl (av (aq (i:=2) cW.nd rfl (Or.inl rfl)) (av (bV rfl (av (aq (i:=3) cW.nd rfl (Or.inl rfl)) (av (aq (i:=4) cW.nd rfl (Or.inl rfl)) (av (aq (i:=5) cW.nd rfl (Or.inl rfl)) bf)))) bf)))
    (am (ba PassesOwn.never rfl (aG (bc (aa (aE (aa (aE (aa (pv 3) (aa (pv 4) ac))) (aa (pv 5) ac))) (aa (aE (aa (aE (aa (pv 4) (aa (pv 5) ac))) (aa (pv 3) ac))) (aa (aE (aa (aE (aa (pv 5) (aa (pv 3) ac))) (aa (pv 4) ac))) ac))))) (bV rfl (av (aq (i:=6) cW.nd rfl (Or.inl rfl)) (av (aq (i:=7) cW.nd rfl (Or.inl rfl)) bf)))
     (af (bH (kq (m9 hu (pv 6) (pv 1))) bj aJ)
     (am (dZ hu (pv 1) (pv 6) (pv 7) rfl))))))
   (am (aD (pv 1)))),?_⟩
  have hline:=line5000
  have hlen:=az ht
  refine fun D h1=>?_
  (generalize z:upd H D _=H1;have s1:=ah h1 z;have y1:=ak z;clear z)
  refine⟨_,rfl,T0,vt,rfl,SqL.of (s1 _ _ hT),iY (K:=K) (a:=T0) (xs:=vt) (fun i σ H2=>∃v2 v3 v4 v5 v6 v7,σ=[some (.ref T0),some (.ref D),v2,v3,v4,v5,v6,v7]∧Same H H2∧H2 D=some (.dT ((ents (ts.take i)).map entV)))
   ⟨none,none,none,none,none,none,rfl,s1,y1⟩ (fun i σ H2 _ ⟨_,_,_,_,_,_,_,e,_⟩=>SqL.of (e _ _ hT)) ?_ ?_⟩
  ·rintro i x p σ H2 hi ⟨v2,v3,v4,v5,v6,v7,rfl,sm,hD⟩ hp
   obtain⟨⟨a,b,c⟩,hs,t,rfl,hb⟩:=aS ht hi
   have hb:H t=some (.tup [.int (a:Int),.int (b:Int),.int (c:Int)]):=hb
   have et:ts.take (i+1)=ts.take i++[(a,b,c)]:=by rw[List.take_add_one,hs];rfl
   (generalize z:upd H2 p _=H3;have s3:=ah hp z;have y3:=ak z;clear z)
   refine⟨p,_,rfl,SqT.of y3,rfl,_,_,rfl,_,_,rfl,t,_,rfl,SqT.of (s3 _ _ (sm _ _ hb)),rfl,_,_,rfl,_,_,rfl,_,_,rfl,rfl,rfl,?_⟩
   refine⟨_,rfl,_,rfl,lit2,fun sa ga=>?_⟩
   (generalize z:upd H3 sa _=H4;have s4:=ah ga z;have y4:=ak z;clear z)
   refine⟨_,rfl,lit2,fun ua gua=>?_⟩
   (generalize z:upd H4 ua _=H5;have s5:=ah gua z;have y5:=ak z;clear z)
   refine⟨_,rfl,_,rfl,lit2,fun sb gb=>?_⟩
   (generalize z:upd H5 sb _=H6;have s6:=ah gb z;have y6:=ak z;clear z)
   refine⟨_,rfl,lit2,fun ub gub=>?_⟩
   (generalize z:upd H6 ub _=H7;have s7:=ah gub z;have y7:=ak z;clear z)
   refine⟨_,rfl,_,rfl,lit2,fun sc gc=>?_⟩
   (generalize z:upd H7 sc _=H8;have s8:=ah gc z;have y8:=ak z;clear z)
   refine⟨_,rfl,lit2,fun uc guc=>?_⟩
   (generalize z:upd H8 uc _=H9;have s9:=ah guc z;have y9:=ak z;clear z)
   refine⟨lit3,fun M gM=>?_⟩
   (generalize z:upd H9 M _=Ha;have sA:=ah gM z;have yM:=ak z;clear z)
   have s37:Same H3 H7:=((s4.trans s5).trans s6).trans s7
   have s7a:Same H7 Ha:=(s8.trans s9).trans sA
   have s3a:Same H3 Ha:=s37.trans s7a
   have en:Paired (EnAt Ha) [V.ref ua,.ref ub,.ref uc] [((a,b),c),((b,c),a),((c,a),b)]:=
    .cons ⟨ua,sa,rfl,s7a _ _ (s7 _ _ (s6 _ _ y5)),s7a _ _ (s7 _ _ (s6 _ _ (s5 _ _ y4)))⟩ (.cons ⟨ub,sb,rfl,s7a _ _ y7,s7a _ _ (s7 _ _ y6)⟩ (.cons ⟨uc,sc,rfl,sA _ _ y9,sA _ _ (s9 _ _ y8)⟩ .nil))
   have hDa:Ha D=some (.dT ((ents (ts.take i)).map entV)):=s3a _ _ (s3 _ _ hD)
   have nd1:((ents (ts.take (i+1))).map (·.1)).Nodup:=by
    rw[←List.take_append_drop (i+1) ts,cA,List.map_append,List.nodup_append] at hnd
    exact hnd.1
   have ee:ents (ts.take (i+1))=ents (ts.take i)++[((a,b),c),((b,c),a),((c,a),b)]:=by rw[et,cA];simp[ents]
   rw[ee] at nd1
   have l0:=cf (ts.take i)
   rw[List.length_take] at l0
   have smA:Same H Ha:=(sm.trans s3).trans s3a
   generalize he3:[((a,b),c),((b,c),a),((c,a),b)]=e3 at en nd1 ee
   have le3:e3.length=3:=by rw[←he3];rfl
   have hMD:M≠D:=fun z=>by rw[z,hDa] at yM;cases yM
   refine⟨M,rfl,⟨_,SqL.of yM⟩,bd (K:=K) (a:=M) (xs:=[V.ref ua,.ref ub,.ref uc]) (fun j σ H'=>∃w6 w7,σ=[some (.ref T0),some (.ref D),some (.int (i:Int)),some (.int (a:Int)),some (.int (b:Int)),some (.int (c:Int)),w6,w7]∧(∀b' o,b'≠D→Ha b' = some o→H' b' = some o)∧H' D=some (.dT ((ents (ts.take i)++e3.take j).map entV)))
    ⟨v6,v7,rfl,fun _ _ _ e=>e,by rw[List.take_zero,List.append_nil];exact hDa⟩ (fun j σ H' _ ⟨_,_,_,e,_⟩=>SqL.of (e _ _ hMD yM)) ?_ ?_⟩
   ·rintro j x σ H' hj ⟨w6,w7,rfl,but,hD'⟩
    obtain⟨⟨⟨m,n⟩,o⟩,ho,u,sd,rfl,hu1,hs1⟩:=aS en hj
    have hu1:Ha u=some (.tup [.ref sd,.int (o:Int)]):=hu1
    have hs1:Ha sd=some (.tup ((ky m n).map kV)):=hs1
    have ej:e3.take (j+1)=e3.take j++[((m,n),o)]:=by rw[List.take_add_one,ho];rfl
    have hjl:j < e3.length:=(List.getElem?_eq_some_iff.mp ho).1
    have notin:(m,n)∉(ents (ts.take i)++e3.take j).map (·.1):=by
     rw[←List.take_append_drop (j+1) e3,ej,List.append_assoc,←List.append_assoc,List.map_append,List.nodup_append] at nd1
     exact fun z=>nd1.2.2 _ z (m,n) (by simp) rfl
    have nu:u≠D:=fun z=>by rw[z,hDa] at hu1;cases hu1
    have ns:sd≠D:=fun z=>by rw[z,hDa] at hs1;cases hs1
    refine⟨u,_,rfl,SqT.of (but _ _ nu hu1),rfl,_,_,rfl,_,_,rfl,rfl,?_⟩
    refine⟨_,rfl,_,rfl,D,_,rfl,DGet.t (k:=ky m n) hD' (but _ _ ns hs1),false,by rw[cu.mpr notin];rfl,iteF ?_⟩
    refine⟨_,rfl,_,rfl,_,rfl,D,_,rfl,DPut.t (k:=ky m n) hD' (but _ _ ns hs1) (by rw[List.length_map,List.length_append,List.length_take];omega),?_⟩
    rw[h_ notin]
    (generalize z:upd H' D _=Hb;have kb:=aK z;have yb:=ak z;clear z)
    exact⟨_,_,rfl,fun b' o e1 e2=>(kb b' e1).trans (but b' o e1 e2),by rw[yb,ej,List.append_assoc]⟩
   ·rintro σ H' ⟨w6,w7,rfl,but,hD'⟩
    have:e3.take [V.ref ua,.ref ub,.ref uc].length=e3:=List.take_of_length_le (by rw[le3];exact Nat.le_refl 3)
    rw[this] at hD'
    exact⟨_,_,_,_,_,_,rfl,fun b' o e=>but b' o (ag e h1) (smA _ _ e),by rw[hD',ee]⟩
  ·rintro σ H2 ⟨v2,v3,v4,v5,v6,v7,rfl,sm,hD⟩
   rw[hlen,List.take_length] at hD
   exact⟨_,rfl,q D H2 h1 sm hD⟩
end
end K15
end
section
namespace K15
open PySem L2 K51 K31
def stV (x:Nat × Addr):Key × V:=(Sum.inl (x.1:Int),V.ref x.2)
theorem uS {L:List (Nat × Addr)} {c:Nat} (h:c∉L.map (·.1)):valV (L.map stV) (Sum.inl (c:Int):Key)=none:=by
 induction L with
 |nil=>simp[valV]
 |cons x L ih=>
  rw[List.map_cons,List.mem_cons,not_or] at h
  rw[List.map_cons,b_ (fun z=>h.1 ?_)]
  ·exact ih h.2
  ·have:(x.1:Int)=(c:Int):=Sum.inl.inj z
   omega
theorem mz {L:List (Nat × Addr)} {c:Nat} (h:c∈L.map (·.1)):∃a,(c,a)∈L∧valV (L.map stV) (Sum.inl (c:Int):Key)=some (V.ref a):=by
 induction L with
 |nil=>cases h
 |cons y L ih=>
  obtain⟨c',x⟩:=y
  by_cases e:c' = c
  ·subst e
   exact⟨x,by simp,cE (p:=stV (c',x)) (r:=L.map stV) rfl⟩
  ·rw[List.map_cons] at h
   obtain⟨a,h1,h2⟩:=ih ((List.mem_cons.mp h).resolve_left fun z=>e z.symm)
   refine⟨a,List.mem_cons_of_mem _ h1,?_⟩
   rw[List.map_cons,b_ (fun z=>e ?_)]
   ·exact h2
   ·have:(c':Int)=(c:Int):=Sum.inl.inj z
    omega
def abt (es:List Ent) (c:Nat):List (Nat × Nat):=(es.filter fun e=>decide (e.1.1=c)).map fun e=>(e.1.2,e.2)
theorem io {es:List Ent} {c p q:Nat}:(p,q)∈abt es c↔((c,p),q)∈es:=by
 unfold abt
 rw[List.mem_map]
 constructor
 ·rintro⟨⟨⟨a,b⟩,d⟩,h1,h2⟩
  rw[List.mem_filter,decide_eq_true_eq] at h1
  obtain⟨h1,rfl⟩:=h1
  cases h2
  exact h1
 ·intro h
  exact⟨_,List.mem_filter.mpr ⟨h,decide_eq_true rfl⟩,rfl⟩
theorem oO (es:List Ent) (c:Nat):(abt es c).length≤es.length:=by
 unfold abt
 rw[List.length_map]
 exact List.length_filter_le _ _
theorem mq {es:List Ent} {c p:Nat} (h:p∈(abt es c).map (·.1)):(c,p)∈es.map (·.1):=by
 obtain⟨⟨p',q⟩,h1,rfl⟩:=List.mem_map.mp h
 exact List.mem_map.mpr ⟨_,io.mp h1,rfl⟩
theorem wd {es:List Ent} (h:(es.map (·.1)).Nodup) (c:Nat):((abt es c).map (·.1)).Nodup:=by
 induction es with
 |nil=>simp[abt]
 |cons e es ih=>
  rw[List.map_cons,List.nodup_cons] at h
  by_cases he:e.1.1=c
  ·have e1:abt (e::es) c=(e.1.2,e.2)::abt es c:=by unfold abt;rw[List.filter_cons,if_pos (decide_eq_true he)];rfl
   rw[e1,List.map_cons,List.nodup_cons]
   refine⟨fun z=>h.1 ?_,ih h.2⟩
   have:=mq z
   rw[←he] at this
   exact this
  ·have e1:abt (e::es) c=abt es c:=by unfold abt;rw[List.filter_cons,if_neg (by simpa using he)]
   rw[e1];exact ih h.2
theorem je (es:List Ent) (c p q c':Nat):abt (es++[((c,p),q)]) c' = if c=c' then abt es c'++[(p,q)] else abt es c':=by
 unfold abt
 rw[List.filter_append,List.map_append,List.filter_cons]
 by_cases h:c=c'
 ·rw[if_pos h,if_pos (decide_eq_true h)];rfl
 ·rw[if_neg h,if_neg (by simpa using h)];simp
structure StAt (H0 H:Hp) (S:Addr) (es:List Ent) (L:List (Nat × Addr)):Prop where
 at_:H S=some (.dK (L.map stV))
 len:L.length≤es.length
 nk:(L.map (·.1)).Nodup
 na:(L.map (·.2)).Nodup
 fr:∀x∈L,H0 x.2=none∧x.2≠S
 ab:∀x∈L,H x.2=some (.dK ((abt es x.1).map nmV))
 key:∀c,c∈L.map (·.1)↔∃p q,((c,p),q)∈es
def j3:Sp:=fun vs H Q _=>∃(D:Addr) (es:List Ent),vs=[.ref D]∧H D=some (.dT (es.map entV))∧(es.map (·.1)).Nodup∧es.length≤1200 ∧
 ∀S L H',H S=none→Sm H H'→StAt H H' S es L→Q (.ref S) H'
theorem t7 {L:List (Nat × Addr)} (nk:(L.map (·.1)).Nodup) (na:(L.map (·.2)).Nodup) {c c':Nat} {a:Addr} (h:(c,a)∈L) (h':(c',a)∈L):c=c':=by
 induction L with
 |nil=>cases h
 |cons x L ih=>
  rw[List.map_cons,List.nodup_cons] at nk na
  rcases List.mem_cons.mp h with e|h
  ·rcases List.mem_cons.mp h' with e' | h'
   ·rw[←e] at e';cases e';rfl
   ·exact (na.1 (List.mem_map.mpr ⟨_,h',by rw[←e]⟩)).elim
  ·rcases List.mem_cons.mp h' with e' | h'
   ·exact (na.1 (List.mem_map.mpr ⟨_,h,by rw[←e']⟩)).elim
   ·exact ih nk.2 na.2 h h'
section
variable {P:Program} {w:World} {K:W.Frag} {mg:Str→Option Value} {base:Heap}
theorem eW:aB ["thirds","steps","c","p","q","about"] ["thirds"] (ae dt):=⟨rfl,rfl,rfl,by decide +kernel,rfl,by decide +kernel,by decide +kernel⟩
theorem qG {f:Addr} {fd:FuncData} (U:Fun K "steps_by_corner" "steps_by_corner" dt f fd):FnOk P w K mg base CX0 1 f fd ["thirds"] j3:=by
 refine U.ok eW (fun vs H Q E h=>?_) (fun cdv A outer s H vs Q E hr h=>?_)
 ·obtain⟨D,es,rfl,_⟩:=h
  rfl
 ·obtain⟨D,es,rfl,hD,hnd,hl,q⟩:=h
  have hu:=cL hr
  refine⟨_,af (ax (i:=1) eW.nd rfl (Or.inl rfl) fS)
   (af (ba PassesOwn.never rfl (qw (qA PySem.F.slot_dict_items PySem.F.type_dict_items qS (pv 0))) (bV rfl (av (bV rfl (av (aq (i:=2) eW.nd rfl (Or.inl rfl)) (av (aq (i:=3) eW.nd rfl (Or.inl rfl)) bf))) (av (aq (i:=4) eW.nd rfl (Or.inl rfl)) bf)))
    (af (ax (i:=5) eW.nd rfl (Or.inl rfl) (bX PySem.F.plainAttrs_dict PySem.F.slot_dict_setdefault PySem.F.type_dict_setdefault ji (pv 1) (aa (pv 2) (aa fS ac))))
    (am (dZ hu (pv 5) (pv 3) (pv 4) rfl))))
   (am (aD (pv 1)))),?_⟩
  have hline:=line5000
  refine fun S hS=>?_
  (generalize z:upd H S _=H1;have s1:=ah hS z;have y1:=ak z;clear z)
  have hD1:=s1 _ _ hD
  refine⟨_,rfl,⟨D,rfl,.inr ⟨_,.inl hD1⟩⟩,D,_,rfl,rfl,.inl hD1,True.intro,fun v hv=>?_⟩
  (generalize z:upd H1 v _=H2;have s2:=ah hv z;have y2:=ak z;clear z)
  have hD2:=s2 _ _ hD1
  refine⟨v,D,_,rfl,y2,.inl hD2,True.intro,fun ks vs o H3 hk hz=>?_⟩
  obtain⟨as,pa,rfl,rfl⟩:∃as,Paired (fun (p:List Key × V) a=>H2 a=some (.tup (p.1.map kV))) (es.map entV) as∧ks=as.map V.ref∧vs=(es.map entV).map (·.2):=by
   rcases hk with ⟨kvs,e,_⟩|⟨kvs,as,e,h1,h2,h3⟩
   ·cases e
   ·cases e;exact⟨as,h1,h2,h3⟩
  have lk:as.length=es.length:=by rw[←az pa,List.length_map]
  have sm3:Sm H H3:=(Sm.of (s1.trans s2)).trans hz.sm
  have yS3:H3 S=some (.dK (([]:List (Nat × Addr)).map stV)):=by
   rw[hz.ne (fun z=>by rw[z,hD1] at y1;cases y1)];exact s2 _ _ y1
  refine pI (d:=D) (o:=o) (u:=.dT (es.map entV)) (ks:=as.map V.ref) (vs:=(es.map entV).map (·.2)) (fun i σ H'=>∃v2 v3 v4 v5 L,σ=[some (.ref D),some (.ref S),v2,v3,v4,v5]∧Sm H H'∧H' D=some (.frz o (.dT (es.map entV)))∧(∀a xs,H2 a=some (.tup xs)→H' a=some (.tup xs))∧StAt H H' S (es.take i) L)
   ⟨none,none,none,none,[],rfl,sm3,hz.at,fun a xs e=>hz.sm.keep e (fun z=>z),⟨yS3,Nat.zero_le _,List.nodup_nil,List.nodup_nil,by simp,by simp,by simp⟩⟩ (fun i σ H' _ ⟨_,_,_,_,_,_,_,e,_⟩=>e) ?_ ?_
  ·rintro i x y pr σ H' hx hy ⟨v2,v3,v4,v5,L,rfl,sm,hfz,tps,st⟩ hpr
   rw[List.getElem?_map] at hx hy
   obtain⟨a,ha,rfl⟩:=Option.map_eq_some_iff.mp hx
   rw[List.getElem?_map] at hy
   obtain⟨kv,hkv,rfl⟩:=Option.map_eq_some_iff.mp hy
   obtain⟨⟨⟨c,p⟩,w'⟩,he,rfl⟩:=Option.map_eq_some_iff.mp hkv
   have hat:H2 a=some (.tup [.int (c:Int),.int (p:Int)]):=by
    obtain⟨kv',h1,h2⟩:=aS pa (show (es.map entV)[i]? = some (entV ((c,p),w')) by rw[List.getElem?_map,he];rfl)
    rw[ha] at h1;cases h1
    exact h2
   have et:es.take (i+1)=es.take i++[((c,p),w')]:=by rw[List.take_add_one,he];rfl
   have hil:i < es.length:=(List.getElem?_eq_some_iff.mp he).1
   have nd1:((es.take (i+1)).map (·.1)).Nodup:=by
    rw[←List.take_append_drop (i+1) es,List.map_append,List.nodup_append] at hnd
    exact hnd.1
   rw[et] at nd1
   obtain⟨nd0,notin⟩:=hV nd1
   have hp0:p∉(abt (es.take i) c).map (·.1):=fun z=>notin (mq z)
   rw[show (entV ((c,p),w')).2=V.int (w':Int) from rfl]
   (generalize z:upd H' pr _=H4;have s4:=ah hpr z;have y4:=ak z;clear z)
   refine⟨pr,_,rfl,SqT.of y4,rfl,_,_,rfl,a,_,rfl,SqT.of (s4 _ _ (tps _ _ hat)),rfl,_,_,rfl,_,_,rfl,rfl,_,_,rfl,rfl,?_⟩
   have hS4:=s4 _ _ st.at_
   have lt:(es.take i).length≤1200:=by rw[List.length_take];omega
   refine⟨_,rfl,.inr (.inr (.inl ⟨rfl,.inl ⟨_,hS4⟩⟩)),_,rfl,fun z hz0=>?_⟩
   (generalize z:upd H4 z _=H5;have s5:=ah hz0 z;have y5:=ak z;clear z)
   have hS5:=s5 _ _ hS4
   have sm5:Sm H H5:=(sm.trans (Sm.of s4)).trans (Sm.of s5)
   have zH:H z=none:=(sm.trans (Sm.of s4)).free hz0
   have zH':H' z=none:=s4.free hz0
   have s45:=s4.trans s5
   have la:=oO (es.take i) c
   refine⟨S,_,Sum.inl (c:Int),.ref z,rfl,rfl,hS5,by rw[List.length_map];have:=st.len;omega,fun u hu'=>?_,fun hn=>?_⟩
   ·have hc:c∈L.map (·.1):=Classical.byContradiction fun zz=>by rw[uS zz] at hu';cases hu'
    obtain⟨ad,hL,hval⟩:=mz hc
    rw[hval] at hu'
    cases hu'
    have hab:H5 ad=some (.dK ((abt (es.take i) c).map nmV)):=s45 _ _ (st.ab _ hL)
    obtain⟨adH,adS⟩:H ad=none∧ad≠S:=st.fr _ hL
    refine⟨_,rfl,_,rfl,_,rfl,ad,_,rfl,DPut.k (k:=Sum.inl (p:Int)) hab (by rw[List.length_map];omega),?_⟩
    rw[mX hp0]
    (generalize z:upd H5 ad _=H6;have k6:=aK z;have y6:=ak z;clear z)
    refine⟨_,_,_,_,L,rfl,fun b o e=>?_,?_,fun b xs e=>?_,⟨(k6 S adS.symm).trans hS5,?_,st.nk,st.na,st.fr,fun x hx'=>?_,fun c'=>?_⟩⟩
    ·rw[k6 b (ag e adH)];exact sm5 b o e
    ·rw[k6 D (fun zz=>by rw[zz,adH] at hD;cases hD)];exact s45 _ _ hfz
    ·have e2:=s45 _ _ (tps b xs e)
     rw[k6 b (fun zz=>by rw[zz,hab] at e2;cases e2)];exact e2
    ·rw[et,List.length_append];have:=st.len;omega
    ·obtain⟨c',b⟩:=x
     rw[et,je]
     by_cases hcc:c=c'
     ·subst hcc
      rw[if_pos rfl]
      have:b=ad:=jA st.nk hx' hL
      subst this
      exact y6
     ·rw[if_neg hcc]
      have nb:b≠ad:=fun zz=>hcc (by subst zz;exact t7 st.nk st.na hL hx')
      rw[k6 b nb];exact s45 _ _ (st.ab _ hx')
    ·rw[st.key c',et]
     constructor
     ·rintro⟨p1,q1,h1⟩;exact⟨p1,q1,List.mem_append_left _ h1⟩
     ·rintro⟨p1,q1,h1⟩
      rcases List.mem_append.mp h1 with h1|h1
      ·exact⟨p1,q1,h1⟩
      ·rw[List.mem_singleton] at h1
       cases h1
       exact (st.key _).mp hc
   ·have hc:c∉L.map (·.1):=fun zz=>by
     obtain⟨_,_,h⟩:=mz zz
     rw[hn] at h;cases h
    have putS:putK (L.map stV) (Sum.inl (c:Int):Key) (V.ref z)=(L++[(c,z)]).map stV:=by rw[fP _ hn,List.map_append];rfl
    rw[putS]
    have zS:z≠S:=fun zz=>by rw[zz,hS] at zH;rw[zz] at hz0;rw[hS4] at hz0;cases hz0
    (generalize z:upd H5 S _=H6;have k6:=aK z;have y6:=ak z;clear z)
    have a0:abt (es.take i) c=[]:=by
     cases e:abt (es.take i) c with
     |nil=>rfl
     |cons x r=>
      obtain⟨p1,q1⟩:=x
      have:(p1,q1)∈abt (es.take i) c:=by rw[e];simp
      exact (hc ((st.key c).mpr ⟨p1,q1,io.mp this⟩)).elim
    have hz6:H6 z=some (.dK (([]:List (Nat × Nat)).map nmV)):=(k6 z zS).trans y5
    refine⟨_,rfl,_,rfl,_,rfl,z,_,rfl,DPut.k (k:=Sum.inl (p:Int)) hz6 (by simp;omega),?_⟩
    rw[mX (by simp)]
    (generalize z:upd H6 z _=H7;have k7:=aK z;have y7:=ak z;clear z)
    have nbS:∀b,H b≠none→b≠S:=fun b h zz=>h (by rw[zz];exact hS)
    refine⟨_,_,_,_,L++[(c,z)],rfl,fun b o e=>?_,?_,fun b xs e=>?_,⟨(k7 S zS.symm).trans y6,?_,?_,?_,fun x hx'=>?_,fun x hx'=>?_,fun c'=>?_⟩⟩
    ·rw[k7 b (ag e zH),k6 b (ag e hS)];exact sm5 b o e
    ·have e1:=s45 _ _ hfz
     rw[k7 D (fun zz=>by rw[zz,zH] at hD;cases hD),k6 D (fun zz=>by rw[zz,hS] at hD;cases hD)];exact e1
    ·have e2:=tps b xs e
     rw[k7 b (ag e2 zH'),k6 b (fun zz=>by rw[zz,st.at_] at e2;cases e2)];exact s45 _ _ e2
    ·rw[et,List.length_append,List.length_append];have:=st.len;simp only[List.length_singleton];omega
    ·rw[List.map_append,List.nodup_append]
     refine⟨st.nk,by simp,fun a1 h1 b1 h2=>?_⟩
     simp at h2
     subst h2
     rintro rfl
     exact hc h1
    ·rw[List.map_append,List.nodup_append]
     refine⟨st.na,by simp,fun a1 h1 b1 h2=>?_⟩
     simp at h2
     subst h2
     rintro rfl
     obtain⟨x,hx1,hx2⟩:=List.mem_map.mp h1
     have:=st.ab x hx1
     rw[hx2,zH'] at this;cases this
    ·rcases List.mem_append.mp hx' with h|h
     ·exact st.fr x h
     ·rw[List.mem_singleton.mp h];exact⟨zH,zS⟩
    ·rcases List.mem_append.mp hx' with h|h
     ·have hne:x.1≠c:=fun zz=>hc (List.mem_map.mpr ⟨x,h,zz⟩)
      rw[et,je,if_neg (fun zz=>hne zz.symm)]
      have e1:=st.ab x h
      rw[k7 x.2 (ag e1 zH'),k6 x.2 (st.fr x h).2];exact s45 _ _ e1
     ·rw[List.mem_singleton.mp h,et,je,if_pos rfl,a0]
      exact y7
    ·rw[List.map_append,List.mem_append,st.key c',et]
     constructor
     ·rintro (⟨p1,q1,h1⟩|h1)
      ·exact⟨p1,q1,List.mem_append_left _ h1⟩
      ·simp at h1
       subst h1
       exact⟨p,w',by simp⟩
     ·rintro⟨p1,q1,h1⟩
      rcases List.mem_append.mp h1 with h1|h1
      ·exact .inl ⟨p1,q1,h1⟩
      ·rw[List.mem_singleton] at h1
       cases h1
       exact .inr (by simp)
  ·rintro σ H' ⟨v2,v3,v4,v5,L,rfl,sm,hfz,tps,st⟩
   rw[List.length_map,lk,List.take_length] at st
   exact⟨_,rfl,q S L H' hS sm st⟩
end
end K15
end
section
namespace K15
open PySem L2 K51 K31
def j5:Sp:=fun vs H Q _=>∃(S:Addr) (ts:List Tri) (L:List (Nat × Addr)),vs=[.ref S]∧H S=some (.dK (L.map stV))∧(L.map (·.1)).Nodup∧(∀x∈L,Rd H x.2 (.dK ((abt (ents ts) x.1).map nmV))) ∧
 (∀c,c∈L.map (·.1)↔Co ts c)∧L.length < 5000∧ts.length≤200∧Good ts∧(∀c,Co ts c→One (En ts) c)∧∀H',Sm H H'→Q .non H'
theorem wc {ts:List Tri} (g:Good ts) (c:Nat):Abt (En ts) c (abt (ents ts) c):=⟨wd g.nd c,fun _ _=>io⟩
section
variable {P:Program} {w:World} {K:W.Frag} {mg:Str→Option Value} {base:Heap}
theorem nZ:aB ["steps","corner"] ["steps"] (ae dz):=⟨rfl,rfl,rfl,by decide +kernel,rfl,by decide +kernel,by decide +kernel⟩
theorem ph {f f1:Addr} {fd d1:FuncData} (U:Fun K "look_rounds_through" "look_rounds_through" dz f fd) (mS:mg "sorted" = none) (G:FnOk P w K mg base CX0 2 f1 d1 ["about"] mI) (b1:Binds K d1 ["about"] []) (m1:mg "hang_together" = some (.ref f1)) (k1:W.keepIn K (.ref f1)=true) :
  FnOk P w K mg base CX0 3 f fd ["steps"] j5:=by
 refine U.ok nZ (fun vs H Q E h=>?_) (fun cdv A outer s H vs Q E hr h=>?_)
 ·obtain⟨S,ts,L,rfl,_⟩:=h
  rfl
 ·obtain⟨S,ts,L,rfl,hS,nk,hab,hkey,hL,hl,g,hone,q1⟩:=h
  have hu:=cL hr
  refine⟨_,am (ba PassesOwn.never rfl (aG (aC (cn rfl) (by rfl) mS bL (aa (pv 0) ac))) (aq (i:=1) nZ.nd rfl (Or.inl rfl))
   (am (bH (cI (cr (ar G hr rfl m1 k1 b1 .nil pass0 (aa (e6 hu (pv 0) (pv 1) (fun _ _=>rfl)) ac)))) bj aJ))),?_⟩
  have hline:=line5000
  refine⟨_,rfl,S,rfl,.inl ⟨_,hS⟩,fun ks vs hk=>.inl ⟨(L.map (·.1)).map (fun c:Nat=>(c:Int)),?_,by rw[List.length_map,List.length_map];exact hL,fun p ms hp pm ps=>?_⟩⟩
  ·rcases hk with ⟨kvs,e,rfl,_⟩|⟨kvs,as,e,_⟩
   ·rw[hS] at e
    cases e
    rw[List.map_map,List.map_map,List.map_map]
    rfl
   ·rw[hS] at e;cases e
  obtain⟨cs,rfl,pl,pc⟩:=fu nk pm ps
  have e:(cs.map (fun c:Nat=>(c:Int))).map V.int=nV cs:=by rw[List.map_map];rfl
  rw[e]
  (generalize z:upd H p _=H1;have s1:=ah hp z;have y1:=ak z;clear z)
  refine⟨p,rfl,⟨_,SqL.of y1⟩,bd (K:=K) (a:=p) (xs:=nV cs) (fun i σ H'=>∃o1,σ=[some (.ref S),o1]∧Sm H1 H') ⟨none,rfl,Sm.refl _⟩ (fun i σ H' _ ⟨_,_,e⟩=>SqL.of (e.keep y1 (fun z=>z))) ?_ ?_⟩
  ·rintro i x σ H2 hi ⟨o1,rfl,sm⟩
   rw[nV,List.getElem?_map] at hi
   obtain⟨c,hc,rfl⟩:=Option.map_eq_some_iff.mp hi
   have hcm:c∈L.map (·.1):=pc.mem_iff.mp (List.mem_of_getElem? hc)
   have hco:Co ts c:=(hkey c).mp hcm
   obtain⟨a,ha,hval⟩:=mz hcm
   have smH:Sm H H2:=(Sm.of s1).trans sm
   have hrd:=smH.rd (hab _ ha)
   have hne:abt (ents ts) c≠[]:=fun z=>by
    obtain⟨p',q',h⟩:=hco
    have:=io.mpr h
    rw[z] at this;cases this
   have hlen:(abt (ents ts) c).length≤1000:=by have:=oO (ents ts) c;rw[cf] at this;omega
   refine⟨_,rfl,_,rfl,S,_,rfl,.inl ⟨_,Sum.inl (c:Int),smH.rd (.inl hS),rfl,hval.symm⟩,a,_,En ts,c,rfl,hrd,hne,hlen,g.sk,wc g c,fun b H3 sm3 hb=>?_⟩
   refine⟨_,rfl,?_⟩
   rw[hb.mpr (hone c hco)]
   exact iteF ⟨_,rfl,sm.trans sm3⟩
  ·rintro σ H2 ⟨o1,rfl,sm⟩
   exact q1 H2 ((Sm.of s1).trans sm)
end
end K15
end
section
namespace K15
open PySem L2 K51 K31
structure SCls (K:W.Frag) (C:Addr):Prop where
 cl:Cls K C
 ordered:dM K C "ordered"
 rising:dM K C "rising"
 thirds:dM K C "thirds"
 steps:dM K C "steps"
def sflds (O R D S:Addr):List (Str × V):=[("ordered",.ref O),("rising",.ref R),("thirds",.ref D),("steps",.ref S)]
def Srt (us:List Tri):Prop:=us.Pairwise (fun a b=>HT.lexLt [(b.1:Int),(b.2.1:Int),(b.2.2:Int)] [(a.1:Int),(a.2.1:Int),(a.2.2:Int)]=false)
structure SkAt (C:Addr) (H:Hp) (x:Addr) (ts:List Tri):Prop where
 ex:∃(dx O R D S:Addr) (vo:List V) (us ws:List Tri) (cs:List Nat),H x=some (.ins C dx (sflds O R D S))∧H O=some (.lst vo)∧ay H vo us∧us.Perm ws∧Paired Bg ts ws∧Srt us ∧
  H R=some (.lst (nV cs))∧cs.Pairwise (· < ·)∧(∀c,c∈cs↔Co ts c)∧cs.length≤600∧Rd H D (.dT ((ents ts).map entV))
theorem SkAt.sm {C:Addr} {H H':Hp} {x:Addr} {ts:List Tri} (s:Sm H H') (h:SkAt C H x ts):SkAt C H' x ts:=by
 obtain⟨dx,O,R,D,S,vo,us,ws,cs,h1,h2,h3,h4,h5,h6,h7,h8,h9,h10,h11⟩:=h
 exact⟨dx,O,R,D,S,vo,us,ws,cs,s.keep h1 (fun z=>z),s.keep h2 (fun z=>z),Paired.imp' (fun _ _ ⟨a',e,hh⟩=>⟨a',e,s.keep hh (fun z=>z)⟩) h3,h4,h5,h6,s.keep h7 (fun z=>z),h8,h9,h10,s.rd h11⟩
theorem s_ {C:Addr} {H H1 H2:Hp} {x l dx O R D S:Addr} {ts us ws:List Tri} {vo xs:List V} {cs:List Nat} (h1:H x=some (.ins C dx (sflds O R D S))) (h2:H O=some (.lst vo)) (h3:ay H vo us) (h4:us.Perm ws) (h5:Paired Bg ts ws) (h6:Srt us) (h7:H R=some (.lst (nV cs))) (h8:cs.Pairwise (· < ·)) (h9:∀c,c∈cs↔Co ts c) (h10:cs.length≤600) (h11:Rd H D (.dT ((ents ts).map entV)))
  (nO:O≠l) (nR:R≠l) (s:Sm H H1) (hl:H1 l=some (.lst xs)) (ch:∀b o,b≠l→H1 b=some o→H2 b=some o):SkAt C H2 x ts:=by
 have kp:∀{b:Addr} {o:HO},¬IsDO o→b≠l→H b=some o→H2 b=some o:=fun {b o} hd n e=>ch b o n (s.keep e hd)
 refine⟨dx,O,R,D,S,vo,us,ws,cs,kp (fun z=>z) (fun z=>?_) h1,kp (fun z=>z) nO h2,Paired.imp' (fun _ _ ⟨a',e,hh⟩=>⟨a',e,kp (fun z=>z) (fun z=>by have:=s.keep hh (fun z=>z);rw[z,hl] at this;cases this) hh⟩) h3,h4,h5,h6,kp (fun z=>z) nR h7,h8,h9,h10,?_⟩
 ·have:=s.keep h1 (fun z=>z);rw[z,hl] at this;cases this
 ·rcases s.rd h11 with e|⟨ob,e⟩
  ·exact .inl (ch _ _ (fun z=>by rw[z,hl] at e;cases e) e)
  ·exact .inr ⟨ob,ch _ _ (fun z=>by rw[z,hl] at e;cases e) e⟩
def SmB (x:Addr) (H H':Hp):Prop:=∀b o,b≠x→H b=some o→H' b=some o∨(IsDO o∧∃ob,H' b=some (.frz ob o))
def g_ (Cs:Addr):Sp:=fun vs H Q _=>∃(x dx T:Addr) (vt:List V) (ts:List Tri),vs=[.ref x,.ref T]∧H x=some (.ins Cs dx [])∧H T=some (.lst vt)∧ay H vt ts∧ts.length≤200∧Good ts∧(∀c,Co ts c→One (En ts) c) ∧
 ∀H',SmB x H H'→SkAt Cs H' x ts→(∀l xs H1 H2,H l≠none→Sm H' H1→H1 l=some (.lst xs)→(∀b o,b≠l→H1 b=some o→H2 b=some o)→SkAt Cs H2 x ts)→Q .non H'
section
variable {P:Program} {w:World} {K:W.Frag} {mg:Str→Option Value} {base:Heap}
theorem ki:aB ["self","triples","checked","thirds","steps"] ["self","triples"] (ae eG):=⟨rfl,rfl,rfl,by decide +kernel,rfl,by decide +kernel,by decide +kernel⟩
theorem qI {f f1 f2 f3 f4 f5 Cs:Addr} {fd d1 d2 d3 d4 d5:FuncData} (U:Fun K "__init__" "Skin.__init__" eG f fd) (T:TxtN mg) (mS:mg "sorted" = none) {tM:Tok} (mM:mg "MOST_TRIPLES" = some (.int 200 tM)) (X:SCls K Cs)
  (G1:FnOk P w K mg base CX0 4 f1 d1 ["things"] gj) (b1:Binds K d1 ["things"] []) (m1:mg "checked_triples" = some (.ref f1)) (k1:W.keepIn K (.ref f1)=true)
  (G2:FnOk P w K mg base CX0 1 f2 d2 ["triples"] cv) (b2:Binds K d2 ["triples"] []) (m2:mg "thirds_by_side" = some (.ref f2)) (k2:W.keepIn K (.ref f2)=true)
  (G3:FnOk P w K mg base CX0 1 f3 d3 ["thirds"] j3) (b3:Binds K d3 ["thirds"] []) (m3:mg "steps_by_corner" = some (.ref f3)) (k3:W.keepIn K (.ref f3)=true)
  (G4:FnOk P w K mg base CX0 3 f4 d4 ["steps"] j5) (b4:Binds K d4 ["steps"] []) (m4:mg "look_rounds_through" = some (.ref f4)) (k4:W.keepIn K (.ref f4)=true)
  (G5:FnOk P w K mg base CX0 1 f5 d5 ["triple"] j_) (b5:Binds K d5 ["triple"] []) (m5:mg "begun_least" = some (.ref f5)) (k5:W.keepIn K (.ref f5)=true) :
  FnOk P w K mg base CX0 5 f fd ["self","triples"] (g_ Cs):=by
 refine U.ok ki (fun vs H Q E h=>?_) (fun cdv A outer s H vs Q E hr h=>?_)
 ·obtain⟨x,dx,T,vt,ts,rfl,_⟩:=h
  rfl
 ·obtain⟨x,dx,T0,vt,ts,rfl,hx,hT,ht,hl,g,hone,q1⟩:=h
  have hr1:Room 1 (A.deeper (PyProof.Rows.envOfC "Skin.__init__" (ae eG) s.heap.objs.size f cdv)):=hr.mono (by decide)
  have hr3:Room 3 (A.deeper (PyProof.Rows.envOfC "Skin.__init__" (ae eG) s.heap.objs.size f cdv)):=hr.mono (by decide)
  refine⟨_,af (bH (aF uG (aC aX (by rfl) T.len PySem.boot_len (aa (pv 1) ac)) (oj (v:=.int 200) rfl mM ⟨_,rfl⟩) (nomark _)) bj aJ)
   (af (ax (i:=2) ki.nd rfl (Or.inl rfl) (ar G1 hr rfl m1 k1 b1 .nil pass0 (aa (pv 1) ac)))
   (af (ax (i:=3) ki.nd rfl (Or.inl rfl) (ar G2 hr1 rfl m2 k2 b2 .nil pass0 (aa (pv 2) ac)))
   (af (ax (i:=4) ki.nd rfl (Or.inl rfl) (ar G3 hr1 rfl m3 k3 b3 .nil pass0 (aa (pv 3) ac)))
   (af (bI (ar G4 hr3 rfl m4 k4 b4 .nil pass0 (aa (pv 4) ac)))
   (af (kr (pv 0) (aC dU (by rfl) mS bL (aa (bp (N:=["triple"]) (fr:=[none]) (cB (by decide +kernel) rfl (by decide +kernel) (by decide +kernel)) rfl (aG (pv 2))
     (fun C s H fp pins=>⟨aq (i:=0) (show (["triple"]:List Str).Nodup by decide +kernel) rfl (Or.inl rfl) (.inr rfl),bJ,ar G5 hr1 rfl m5 k5 b5 .nil pass0 (aa (pv 0) ac)⟩)) ac)) rfl)
   (af (kr (pv 0) (aC (f_ rfl) (by rfl) mS bL (aa (pv 4) ac)) rfl)
   (af (kr (pv 0) (pv 3) rfl)
   (am (kr (pv 0) (pv 4) rfl))))))))),?_⟩
  have hline:=line5000
  have hlen:=az ht
  refine⟨_,rfl,T0,_,rfl,.inl (SqL.of hT),_,_,rfl,rfl,_,rfl,?_⟩
  rw[decide_eq_false (by show ¬((200:Int) < (vt.length:Int));omega)]
  refine iteF ⟨_,rfl,T0,vt,ts,rfl,hT,ht,by omega,g.ne,fun r vr H1 hr0 s1 y1 tr1=>?_⟩
  refine⟨_,rfl,r,vr,ts,rfl,y1,tr1,by omega,g.nd,fun D H2 hD0 s2 y2=>?_⟩
  refine⟨_,rfl,D,ents ts,rfl,y2,g.nd,by rw[cf];omega,fun S L H3 hS0 sm3 st=>?_⟩
  have lL:L.length < 5000:=by have:=st.len;rw[cf] at this;omega
  refine⟨_,rfl,S,ts,L,rfl,st.at_,st.nk,fun z hz=>.inl (st.ab z hz),st.key,lL,by omega,g,hone,fun H4 sm4=>?_⟩
  ·have smH:Sm H H4:=((Sm.of (s1.trans s2)).trans sm3).trans sm4
   have hx4:H4 x=some (.ins Cs dx []):=smH.keep hx (fun z=>z)
   have sm24:Sm H2 H4:=sm3.trans sm4
   have hr4:H4 r=some (.lst vr):=sm24.keep (s2 _ _ y1) (fun z=>z)
   have tr4:ay H4 vr ts:=Paired.imp' (fun v' t' ⟨a',e,hh⟩=>⟨a',e,sm24.keep (s2 _ _ hh) (fun z=>z)⟩) tr1
   have hlr:=az tr4
   refine⟨_,rfl,r,rfl,⟨_,SqL.of hr4⟩,fun Z hZ=>a_ (K:=K) (a:=r) (xs:=vr) (fun i σ ys H'=>∃o us,σ=[o]∧Same H4 H'∧H' Z=some (.lst ys)∧ay H' ys us∧Paired Bg (ts.take i) us) ⟨none,[],rfl,aw hZ,ao,.nil,.nil⟩
    (fun i σ ys H' _ ⟨_,_,_,e,_⟩=>SqL.of (e _ _ hr4)) ?_ ?_⟩
   ·rintro i v σ ys H' hi ⟨o,us,rfl,sm,hZ',tr,bg⟩
    obtain⟨t3,hs,t,rfl,hb⟩:=aS tr4 hi
    have hil:i < ts.length:=(List.getElem?_eq_some_iff.mp hs).1
    have ly:ys.length≤200:=by rw[az tr,←az bg,List.length_take];omega
    refine⟨_,rfl,t,t3,rfl,sm _ _ hb,fun r' u H5 s5 y5 hbg=>⟨s5 _ _ hZ',by omega,some (.ref t),us++[u],rfl,fun b o e=>?_,ao,?_,?_⟩⟩
    ·rw[au (ag e hZ)];exact s5 _ _ (sm _ _ e)
    ·have hz5:=s5 _ _ hZ'
     have tn:∀{b':Addr} {xs:List V},H5 b' = some (.tup xs)→b'≠Z:=fun e=>bi e hz5 (by simp)
     exact bU (Paired.imp' (fun _ _ ⟨b',e1,e2⟩=>⟨b',e1,by have e3:=s5 _ _ e2;rw[au (tn e3)];exact e3⟩) tr) (.cons ⟨r',rfl,by rw[au (tn y5)];exact y5⟩ .nil)
    ·rw[List.take_add_one,hs];exact bU bg (.cons hbg .nil)
   ·rintro σ ys H5 ⟨o,ws,rfl,s5,hZ5,tr5,bg⟩
    rw[hlr,List.take_length] at bg
    have ly:ys.length≤200:=by rw[az tr5,←az bg];exact hl
    refine⟨Z,ys,ws.map kyT,rfl,SqL.of hZ5,iu tr5,by omega,fun O ix hO pm ps=>?_⟩
    have ixb:∀i∈ix,i < ys.length:=fun i hi=>List.mem_range.mp (pm.mem_iff.mp hi)
    have tro:=iw tr5 ix ixb
    have perm:(ix.map fun i=>ws.getD i (0,0,0)).Perm ws:=iI (by rw[←az tr5];exact pm)
    have srt:Srt (ix.map fun i=>ws.getD i (0,0,0)):=by
     unfold Srt
     rw[List.pairwise_map] at ps ⊢
     refine ps.imp_of_mem fun {i j} hi hj h=>?_
     have gt:∀i,i∈ix→(ws.map kyT).getD i []=kyT (ws.getD i (0,0,0)):=fun i hi=>by
      have hil:i < ws.length:=by rw[←az tr5];exact ixb i hi
      simp[List.getD,List.getElem?_eq_getElem hil]
     rw[gt i hi,gt j hj] at h
     exact h
    generalize (ix.map fun i=>ws.getD i (0,0,0))=us at tro perm srt
    generalize (ix.map fun i=>ys.getD i .non)=vo at tro ⊢
    (generalize z:upd H5 O _=H6;have s6:=ah hO z;have y6:=ak z;clear z)
    have s46:Same H4 H6:=s5.trans s6
    have tr6:ay H6 vo us:=Paired.imp' (fun v' t' ⟨a',e,hh⟩=>⟨a',e,s6 _ _ hh⟩) tro
    refine⟨_,rfl,x,Cs,dx,_,rfl,s46 _ _ hx4,X.cl,X.ordered,(by show 0 < 1000;decide),?_⟩
    have hS6:Rd H6 S (.dK (L.map stV)):=(Sm.of s46).rd (sm4.rd (.inl st.at_))
    have hx6:=s46 _ _ hx4
    (generalize z:upd H6 x _=H7;have k7:=aK z;have y7:=ak z;clear z)
    have rdn:∀{b:Addr} {u:HO},IsDO u→Rd H6 b u→b≠x:=fun {b u} hu hb z=>by
     subst z
     rcases hb with e|⟨ob,e⟩
     ·rw[hx6] at e;cases e;exact hu
     ·rw[hx6] at e;cases e
    have rd7:∀{b:Addr} {u:HO},IsDO u→Rd H6 b u→Rd H7 b u:=fun {b u} hu hb=>by
     have n:=rdn hu hb
     rcases hb with e|⟨ob,e⟩
     ·exact .inl ((k7 b n).trans e)
     ·exact .inr ⟨ob,(k7 b n).trans e⟩
    have hS7:=rd7 (u:=.dK (L.map stV)) True.intro hS6
    have hD6:Rd H6 D (.dT ((ents ts).map entV)):=(Sm.of s46).rd (sm24.rd (.inl y2))
    have hD7:=rd7 (u:=.dT ((ents ts).map entV)) True.intro hD6
    refine⟨_,rfl,S,_,rfl,hS7,True.intro,fun ks vs hk=>.inl ⟨(L.map (·.1)).map (fun c:Nat=>(c:Int)),?_,by rw[List.length_map,List.length_map];exact lL,fun R ms hR pm ps=>?_⟩⟩
    ·rcases hk with ⟨kvs,e,rfl,_⟩|⟨kvs,as,e,_⟩
     ·cases e
      rw[List.map_map,List.map_map,List.map_map]
      rfl
     ·cases e
    obtain⟨cs,rfl,pl,pc⟩:=fu st.nk pm ps
    have e:(cs.map (fun c:Nat=>(c:Int))).map V.int=nV cs:=by rw[List.map_map];rfl
    rw[e]
    (generalize z:upd H7 R _=H8;have s8:=ah hR z;have y8:=ak z;clear z)
    refine⟨_,rfl,x,Cs,dx,_,rfl,s8 _ _ y7,X.cl,X.rising,(by show 1 < 1000;decide),?_⟩
    (generalize z:upd H8 x _=H9;have k9:=aK z;have y9:=ak z;clear z)
    refine⟨_,rfl,_,rfl,x,Cs,dx,_,rfl,y9,X.cl,X.thirds,(by show 2 < 1000;decide),?_⟩
    (generalize z:upd H9 x _=Ha;have ka:=aK z;have ya:=ak z;clear z)
    refine⟨_,rfl,_,rfl,x,Cs,dx,_,rfl,ya,X.cl,X.steps,(by show 3 < 1000;decide),?_⟩
    (generalize z:upd Ha x _=Hb;have kb:=aK z;have yb:=ak z;clear z)
    have k8b:∀b,b≠x→Hb b=H8 b:=fun b n=>(kb b n).trans ((ka b n).trans (k9 b n))
    have k6b:∀b o,b≠x→H6 b=some o→Hb b=some o:=fun b o n e=>(k8b b n).trans (s8 _ _ ((k7 b n).trans e))
    have nO:O≠x:=fun z=>by rw[z,hx6] at y6;cases y6
    have nR:R≠x:=fun z=>by rw[z,y7] at hR;cases hR
    have z1:=k6b O _ nO y6
    have z2:ay Hb vo us:=Paired.imp' (fun v' t' ⟨a',e,hh⟩=>⟨a',e,k6b a' _ (fun z=>by rw[z,hx6] at hh;cases hh) hh⟩) tr6
    have z3:=(k8b R nR).trans y8
    have z4:∀c,c∈cs↔Co ts c:=fun c=>by rw[pc.mem_iff];exact st.key c
    have z5:cs.length≤600:=by rw[pc.length_eq,List.length_map];have:=st.len;rw[cf] at this;omega
    have z6:Rd Hb D (.dT ((ents ts).map entV)):=by
     have n:=rdn (u:=.dT ((ents ts).map entV)) True.intro hD6
     rcases hD6 with e|⟨ob,e⟩
     ·exact .inl (k6b D _ n e)
     ·exact .inr ⟨ob,k6b D _ n e⟩
    have fr6:∀{b:Addr},H b≠none→b≠x→H7 b≠none:=fun {b} h n=>by
     cases e:H b with
     |none=>exact (h e).elim
     |some o=>
      rw[k7 b n]
      rcases smH b o e with z|⟨_,ob,z⟩
      ·rw[s46 _ _ z];simp
      ·rw[s46 _ _ z];simp
    refine q1 Hb (fun b o n e=>?_) ⟨dx,O,R,D,S,vo,us,ws,cs,yb,z1,z2,perm,bg,srt,z3,pl,z4,z5,z6⟩ fun l xs H1 H2 hl s hl1 ch=>s_ yb z1 z2 perm bg srt z3 pl z4 z5 z6 (fun z=>?_) (fun z=>?_) s hl1 ch
    ·rcases smH b o e with z|⟨z1,ob,z⟩
     ·exact .inl (k6b b _ n (s46 _ _ z))
     ·exact .inr ⟨z1,ob,k6b b _ n (s46 _ _ z)⟩
    ·cases e:H l with
     |none=>exact hl e
     |some o=>
      rcases smH l o e with y|⟨_,ob,y⟩ <;> (have y':=s5 _ _ y;rw[←z,hO] at y';cases y')
    ·exact fr6 hl (by rw[←z];exact nR) (by rw[←z];exact hR)
end
end K15
end
section
namespace K15
open PySem L2 K51 K31
def dh (C:Addr):Sp:=fun vs H Q _=>∃(x:Addr) (ts:List Tri),vs=[.ref x]∧SkAt C H x ts ∧
 ∀l vo us ws H',H l=none→Same H H'→H' l=some (.lst vo)→ay H' vo us→us.Perm ws→Paired Bg ts ws→Srt us→Q (.ref l) H'
def eJ (C:Addr):Sp:=fun vs H Q _=>∃(x:Addr) (ts:List Tri),vs=[.ref x]∧SkAt C H x ts ∧
 ∀l cs H',H l=none→Same H H'→H' l=some (.lst (nV cs))→cs.Pairwise (· < ·)→(∀c,c∈cs↔Co ts c)→cs.length≤600→Q (.ref l) H'
def jZ (C:Addr):Sp:=fun vs H Q _=>∃(x:Addr) (ts:List Tri) (a b:Nat),vs=[.ref x,.int (a:Int),.int (b:Int)]∧SkAt C H x ts ∧
 ∀H',Same H H'→Q ((valV ((ents ts).map entV) (ky a b)).getD .non) H'
section
variable {P:Program} {w:World} {K:W.Frag} {mg:Str→Option Value} {base:Heap}
theorem lx:aB ["self"] ["self"] (ae br):=⟨rfl,rfl,rfl,by decide +kernel,rfl,by decide +kernel,by decide +kernel⟩
theorem kK {f C:Addr} {fd:FuncData} (U:Fun K "triangles" "Skin.triangles" br f fd) (X:SCls K C) (T:TxtN mg):FnOk P w K mg base CX0 1 f fd ["self"] (dh C):=by
 refine U.ok lx (fun vs H Q E h=>?_) (fun cdv A outer s H vs Q E hr h=>?_)
 ·obtain⟨x,ts,rfl,_⟩:=h
  rfl
 ·obtain⟨x,ts,rfl,⟨dx,O,R,D,S,vo,us,ws,cs,hx,hO,tr,pm,bg,srt,_⟩,q⟩:=h
  refine⟨_,am (aD (aI eB (by rfl) T.list PyProof.Rows.boot_list (aa (m8 (pv 0) rfl) ac))),?_⟩
  exact⟨_,rfl,x,C,dx,_,_,rfl,hx,X.cl,X.ordered,rfl,O,_,rfl,.inl (SqL.of hO),fun l hl=>q l _ us ws _ hl (aw hl) ao (Paired.imp' (fun _ _ ⟨b',e1,e2⟩=>⟨b',e1,aw hl _ _ e2⟩) tr) pm bg srt⟩
theorem lA:aB ["self"] ["self"] (ae bu):=⟨rfl,rfl,rfl,by decide +kernel,rfl,by decide +kernel,by decide +kernel⟩
theorem kL {f C:Addr} {fd:FuncData} (U:Fun K "corners" "Skin.corners" bu f fd) (X:SCls K C) (T:TxtN mg):FnOk P w K mg base CX0 1 f fd ["self"] (eJ C):=by
 refine U.ok lA (fun vs H Q E h=>?_) (fun cdv A outer s H vs Q E hr h=>?_)
 ·obtain⟨x,ts,rfl,_⟩:=h
  rfl
 ·obtain⟨x,ts,rfl,⟨dx,O,R,D,S,vo,us,ws,cs,hx,hO,tr,pm,bg,srt,hR,pl,hc,hl,_⟩,q⟩:=h
  refine⟨_,am (aD (aI eB (by rfl) T.list PyProof.Rows.boot_list (aa (m8 (pv 0) rfl) ac))),?_⟩
  exact⟨_,rfl,x,C,dx,_,_,rfl,hx,X.cl,X.rising,rfl,R,_,rfl,.inl (SqL.of hR),fun l hl'=>q l cs _ hl' (aw hl') ao pl hc hl⟩
theorem tq:aB ["self","a","b"] ["self","a","b"] (ae dq):=⟨rfl,rfl,rfl,by decide +kernel,rfl,by decide +kernel,by decide +kernel⟩
theorem qF {f C:Addr} {fd:FuncData} (U:Fun K "third" "Skin.third" dq f fd) (X:SCls K C):FnOk P w K mg base CX0 1 f fd ["self","a","b"] (jZ C):=by
 refine U.ok tq (fun vs H Q E h=>?_) (fun cdv A outer s H vs Q E hr h=>?_)
 ·obtain⟨x,ts,a,b,rfl,_⟩:=h
  rfl
 ·obtain⟨x,ts,a,b,rfl,⟨dx,O,R,D,S,vo,us,ws,cs,hx,hO,tr,pm,bg,srt,hR,pl,hc,hl,hD⟩,q⟩:=h
  have hu:=cL hr
  refine⟨_,am (aD (iK hu (m8 (pv 0) rfl) (aE (aa (pv 1) (aa (pv 2) ac))) ⟨rfl,rfl,rfl,rfl⟩)),?_⟩
  refine⟨_,rfl,x,C,dx,_,_,rfl,hx,X.cl,X.thirds,rfl,D,rfl,.inr ⟨_,hD⟩,_,rfl,_,rfl,lit2,fun t ht=>?_⟩
  have hD':Rd (upd H t (.tup [.int (a:Int),.int (b:Int)])) D (.dT ((ents ts).map entV)):=(Sm.of (aw ht)).rd hD
  exact⟨_,.inr ⟨_,ky a b,t,hD',rfl,ao,rfl⟩,q _ (aw ht)⟩
end
section
theorem kd {H H':Hp} {x dx:Addr} {Cs:Addr} (h1:H x=none) (h2:H dx=none) (s:SmB x (upd (upd H dx (.own x)) x (.ins Cs dx [])) H'):Sm H H':=fun b o e=>by
 have n1:=ag e h1
 have n2:=ag e h2
 exact s b o n1 (by rw[au n1,au n2];exact e)
theorem gp {H:Hp} {x dx:Addr} {Cs:Addr} (h1:H x=none) (h2:H dx=none):Same H (upd (upd H dx (.own x)) x (.ins Cs dx [])):=fun b o e=>by
 rw[au (ag e h1),au (ag e h2)];exact e
end
end K15
end
section
namespace K15
open PySem L2 K51 K31
def Rim (ts:List Tri) (s:Nat × Nat):Prop:=s∈(ents ts).map (·.1)∧(s.2,s.1)∉(ents ts).map (·.1)
theorem _root_.K31.SdsAt.same {H H':Hp} {vs:List V} {ls:List (Nat × Nat)} (s:Same H H') (h:SdsAt H vs ls):SdsAt H' vs ls:=Paired.imp' (fun _ _ ⟨a,e,q⟩=>⟨a,e,s _ _ q⟩) h
def qd:Sp:=fun vs H Q _=>∃(T:Addr) (vt:List V) (ts:List Tri),vs=[.ref T]∧H T=some (.lst vt)∧ay H vt ts∧ts.length≤20∧((ents ts).map (·.1)).Nodup ∧
 ∀r zs rs H',H r=none→Same H H'→H' r=some (.lst zs)→SdsAt H' zs rs→(∀s∈rs,Rim ts s)→rs.length≤60→Q (.ref r) H'
section
variable {P:Program} {w:World} {K:W.Frag} {mg:Str→Option Value} {base:Heap}
theorem uC:aB ["_law_triples","_law_thirds_here"] ["_law_triples"] (ae bz):=⟨rfl,rfl,rfl,by decide +kernel,rfl,by decide +kernel,by decide +kernel⟩
theorem vA {f f1:Addr} {fd d1:FuncData} (U:Fun K "_law_rim_sides" "_law_rim_sides" bz f fd) (mS:mg "sorted" = none) (G:FnOk P w K mg base CX0 1 f1 d1 ["_law_triples"] cv) (b1:Binds K d1 ["_law_triples"] []) (m1:mg "_law_thirds" = some (.ref f1)) (k1:W.keepIn K (.ref f1)=true) :
  FnOk P w K mg base CX0 2 f fd ["_law_triples"] qd:=by
 refine U.ok uC (fun vs H Q E h=>?_) (fun cdv A outer s H vs Q E hr h=>?_)
 ·obtain⟨T,vt,ts,rfl,_⟩:=h
  rfl
 ·obtain⟨T,vt,ts,rfl,hT,ht,hl,hnd,q⟩:=h
  have hu:=cL hr
  refine⟨_,af (ax (i:=1) uC.nd rfl (Or.inr rfl) (ar G hr rfl m1 k1 b1 .nil pass0 (aa (pv 0) ac)))
   (am (aD (bp (N:=["_law_a","_law_b","_law_thirds_here"]) (fr:=[none,none,some 1]) (g:=gTup K 2 (iX (cZ 0) (iX (cZ 1) gNil))) (aR (by decide +kernel) rfl rfl (by decide +kernel) (by decide +kernel) (by
      intro y hy e
      simp only[List.mem_cons,List.not_mem_nil,or_false] at hy
      rcases hy with rfl|rfl|rfl|rfl
      all_goals first|(cases e;done)|exact .inl rfl) (by
      intro j i y e1 e2
      match j,e1,e2 with
      |0,e1,_=>simp at e1
      |1,e1,_=>simp at e1
      |2,e1,e2=>simp at e1 e2;subst e1 e2;exact⟨rfl,rfl⟩
      |j+3,e1,_=>simp at e1)) rfl (aG (aC (cn rfl) (by rfl) mS bL (aa (pv 1) ac)))
     (fun C' s' H' fp pins=>⟨bV rfl (av (aq (i:=0) (show (["_law_a","_law_b","_law_thirds_here"]:List Str).Nodup by decide +kernel) rfl (Or.inl rfl) (.inr rfl)) (av (aq (i:=1) (show (["_law_a","_law_b","_law_thirds_here"]:List Str).Nodup by decide +kernel) rfl (Or.inl rfl) (.inr rfl)) bf)),
      eZ (kq (jx hu (aE (aa (pv 1) (aa (pv 0) ac))) (pv 2))),aE (aa (pv 0) (aa (pv 1) ac))⟩)))),?_⟩
  have hline:=line5000
  refine⟨_,rfl,T,vt,ts,rfl,hT,ht,by omega,hnd,fun D H1 hD0 s1 hD=>?_⟩
  refine⟨_,rfl,D,rfl,.inr ⟨_,hD⟩,fun ks vs hk=>.inr ⟨_,lw (cD (K:=K) hD hk),?_,fun p ix hp pm _=>?_⟩⟩
  ·rw[az (cD (K:=K) hD hk),List.length_map,cf];omega
  have sd0:=cD (K:=K) hD hk
  have lk:=az sd0
  (generalize z:upd H1 p _=H2;have s2:=ah hp z;have y2:=ak z;clear z)
  have ixb:∀i∈ix,i < ks.length:=fun i hi=>List.mem_range.mp (pm.mem_iff.mp hi)
  have sdz:=iF (Paired.imp' (fun _ _ ⟨a,e,h⟩=>⟨a,e,s2 _ _ h⟩) sd0:SdsAt H2 ks ((ents ts).map (·.1))) ix ixb
  have pss:(ix.map fun i=>((ents ts).map (·.1)).getD i (0,0)).Perm ((ents ts).map (·.1)):=jw (by rw[←lk];exact pm)
  generalize (ix.map fun i=>((ents ts).map (·.1)).getD i (0,0))=ss at sdz pss
  generalize (ix.map fun i=>ks.getD i .non)=zs at sdz y2
  have lz:=az sdz
  have lss:ss.length≤60:=by rw[pss.length_eq,List.length_map,cf];omega
  refine⟨p,rfl,⟨_,SqL.of y2⟩,fun Z hZ=>a_ (K:=K) (a:=p) (xs:=zs) (fun i σ ys H'=>∃o1 o2 rs,σ=[o1,o2,some (.ref D)]∧Same H2 H'∧H' Z=some (.lst ys)∧SdsAt H' ys rs∧(∀s∈rs,Rim ts s)∧rs.length≤i) ⟨none,none,[],rfl,aw hZ,ao,.nil,by simp,Nat.le_refl _⟩ (fun i σ ys H' _ ⟨_,_,_,_,e,_⟩=>SqL.of (e _ _ y2)) ?_ ?_⟩
  ·rintro i y σ ys H' hi ⟨o1,o2,rs,rfl,sm,hZ',sd,hrs,lrs⟩
   obtain⟨⟨a,b⟩,hs,c,rfl,hc⟩:=aS sdz hi
   have hil:i < ss.length:=(List.getElem?_eq_some_iff.mp hs).1
   have hm:(a,b)∈(ents ts).map (·.1):=pss.mem_iff.mp (List.mem_of_getElem? hs)
   refine⟨c,_,rfl,SqT.of (sm _ _ hc),rfl,_,_,rfl,_,_,rfl,rfl,?_⟩
   refine⟨_,rfl,_,rfl,lit2,fun t1 g1=>?_⟩
   (generalize z:upd H' t1 _=H3;have s3:=ah g1 z;have y3:=ak z;clear z)
   have lys:ys.length≤60:=by rw[az sd];omega
   refine⟨_,rfl,D,_,rfl,DGet.t (k:=ky b a) (s3 _ _ (sm _ _ (s2 _ _ hD))) y3,?_⟩
   by_cases hba:(b,a)∈(ents ts).map (·.1)
   ·have hv:(valV ((ents ts).map entV) (ky b a)).isSome=true:=by
     cases e:valV ((ents ts).map entV) (ky b a) with
     |none=>exact (cu.mp e hba).elim
     |some v=>rfl
    refine⟨false,by rw[hv];rfl,iteF ⟨_,_,rs,rfl,sm.trans s3,s3 _ _ hZ',K31.SdsAt.same s3 sd,hrs,by omega⟩⟩
   ·refine⟨true,by rw[cu.mpr hba];rfl,iteT ⟨_,rfl,_,rfl,lit2,fun t2 g2=>?_⟩⟩
    (generalize z:upd H3 t2 _=H4;have s4:=ah g2 z;have y4:=ak z;clear z)
    have hZ4:=s4 _ _ (s3 _ _ hZ')
    have tn:∀{b':Addr} {xs:List V},H4 b' = some (.tup xs)→b'≠Z:=fun e=>bi e hZ4 (by simp)
    refine⟨hZ4,by omega,_,_,rs++[(a,b)],rfl,fun b' o e=>?_,ao,?_,?_,by rw[List.length_append,List.length_singleton];omega⟩
    ·rw[au (ag e hZ)];exact s4 _ _ (s3 _ _ (sm _ _ e))
    ·exact bU (Paired.imp' (fun _ _ ⟨b',e1,e2⟩=>⟨b',e1,by have e3:=s4 _ _ (s3 _ _ e2);rw[au (tn e3)];exact e3⟩) sd) (.cons ⟨t2,rfl,by rw[au (tn y4)];exact y4⟩ .nil)
    ·intro s hs'
     rcases List.mem_append.mp hs' with h|h
     ·exact hrs s h
     ·rw[List.mem_singleton.mp h];exact⟨hm,hba⟩
  ·rintro σ ys H' ⟨o1,o2,rs,rfl,sm,hZ',sd,hrs,lrs⟩
   refine q Z ys rs H' ?_ ((s1.trans s2).trans sm) hZ' sd hrs (by omega)
   exact (s1.trans s2).free hZ
end
end K15
end
section
namespace K15
open PySem L2 K51 K31
def j7:Sp:=fun vs H Q _=>∃(p:Addr) (q:Int × Int) (m:Nat),vs=[.ref p,.int (m:Int)]∧H p=some (.lst (potV q))∧bn q∧m≤16 ∧
 ∀r vr ts q' H',H r=none→But p H H'→H' p=some (.lst (potV q'))→bn q'→H' r=some (.lst vr)→ay H' vr ts→ts.length≤m→Good ts→Q (.ref r) H'
def Cov (ts:List Tri) (n:Nat):Prop:=∀c,Co ts c↔c < n
theorem v_ {ts:List Tri} {cs:List Nat} {n:Nat} (h:Cs ts cs) (hc:Cov ts n):cs.length=n:=by
 have nd:cs.Nodup:=h.1.imp fun hab=>Nat.ne_of_lt hab
 have:cs.Perm (List.range n):=(List.perm_ext_iff_of_nodup nd List.nodup_range).mpr fun a=>by
  rw[List.mem_range,h.2 a]
  refine Iff.trans ?_ (hc a)
  rw[aL]
  unfold flat
  rw[List.mem_flatMap]
  constructor
  ·rintro⟨t,h1,h2⟩
   exact⟨t,h1,by simpa using h2⟩
  ·rintro⟨t,h1,h2⟩
   exact⟨t,h1,by simpa using h2⟩
 rw[this.length_eq,List.length_range]
theorem r_ {ts:List Tri} {n a b x:Nat} (hc:Cov ts n) (ha:a < n) (hb:b < n) (hx:x < n∨x=n):Cov (ts++[(b,a,x)]) (if x=n then n+1 else n):=fun c=>by
 have:Co (ts++[(b,a,x)]) c↔Co ts c∨c=b∨c=a∨c=x:=by
  rw[aL,aL]
  constructor
  ·rintro⟨t,h1,h2⟩
   rcases List.mem_append.mp h1 with h|h
   ·exact .inl ⟨t,h,h2⟩
   ·rw[List.mem_singleton] at h
    subst h
    exact .inr h2
  ·rintro (⟨t,h1,h2⟩|h)
   ·exact⟨t,List.mem_append_left _ h1,h2⟩
   ·exact⟨(b,a,x),by simp,h⟩
 rw[this,hc c]
 split <;> omega
theorem uq {ts:List Tri} {n:Nat} (hc:Cov ts n):Cov (ts++[(n,n+1,n+2)]) (n+3):=fun c=>by
 have:Co (ts++[(n,n+1,n+2)]) c↔Co ts c∨c=n∨c=n+1∨c=n+2:=by
  rw[aL,aL]
  constructor
  ·rintro⟨t,h1,h2⟩
   rcases List.mem_append.mp h1 with h|h
   ·exact .inl ⟨t,h,h2⟩
   ·rw[List.mem_singleton] at h
    subst h
    exact .inr h2
  ·rintro (⟨t,h1,h2⟩|h)
   ·exact⟨t,List.mem_append_left _ h1,h2⟩
   ·exact⟨(n,n+1,n+2),by simp,h⟩
 rw[this,hc c]
 omega
def sdD (s:Nat × Nat):PyData:=.tuple [.int (s.1:Int),.int (s.2:Int)]
theorem mO {K:W.Frag} {H:Hp} {vs:List V} {ss:List (Nat × Nat)} (h:SdsAt H vs ss):Dts K H vs (ss.map sdD):=by
 induction h with
 |nil=>exact .nil
 |cons q _ ih=>
  obtain⟨a,rfl,ha⟩:=q
  exact .cons (.tup (SqT.of ha) (.cons (.int _) (.cons (.int _) .nil))) ih
theorem qi (ss:List (Nat × Nat)):(PyData.list (ss.map sdD)).depth≤60:=by
 have:PyData.depthAll (ss.map sdD)≤1:=by
  induction ss with
  |nil=>exact Nat.zero_le _
  |cons u us ih=>
   rw[List.map_cons]
   show max (sdD u).depth _≤1
   have:(sdD u).depth=1:=by simp[sdD,PyData.depth,PyData.depthAll]
   omega
 show PyData.depthAll _+1≤60
 omega
theorem ui (ds:List PyData):PyData.eqv (.list ds) (.list [])=ds.isEmpty:=by cases ds <;> simp[PyData.eqv,PyData.eqvAll]
theorem free_of {ts:List Tri} (g:Good ts) {x:Tri} (h:∀s∈ck x,∀c,¬En ts s.1 s.2 c):gO ts x=true:=by
 unfold gO
 rw[List.all_eq_true]
 intro s hs
 refine decide_eq_true fun z=>?_
 obtain⟨⟨⟨a,b⟩,c⟩,h1,rfl⟩:=List.mem_map.mp z
 exact h (a,b) hs c h1
section
variable {P:Program} {w:World} {K:W.Frag} {mg:Str→Option Value} {base:Heap}
theorem cG:aB ["_law_pot_here","_law_most","_law_triples","_law_k","_law_rim","_law_come","_law_new","_law_a","_law_b","_law_thirds_here","_law_some","_law_near"] ["_law_pot_here","_law_most"] (ae cS):=⟨rfl,rfl,rfl,by decide +kernel,rfl,by decide +kernel,by decide +kernel⟩
theorem qM {f f1 f2 f3 f4 f5:Addr} {fd d1 d2 d3 d4 d5:FuncData} (U:Fun K "_law_grown" "_law_grown" cS f fd) (T:TxtN mg)
  (GD:FnOk P w K mg base CX0 2 f1 d1 ["_law_pot_here","_law_base"] c_) (bD:Binds K d1 ["_law_pot_here","_law_base"] []) (mD:mg "_law_digit" = some (.ref f1)) (kD:W.keepIn K (.ref f1)=true)
  (GT:FnOk P w K mg base CX0 2 f2 d2 ["_law_triples"] cv) (bT:Binds K d2 ["_law_triples"] []) (mT:mg "_law_thirds" = some (.ref f2)) (kT:W.keepIn K (.ref f2)=true)
  (GF:FnOk P w K mg base CX0 2 f3 d3 ["_law_thirds_here","_law_triple"] j8) (bF:Binds K d3 ["_law_thirds_here","_law_triple"] []) (mF:mg "_law_free" = some (.ref f3)) (kF:W.keepIn K (.ref f3)=true)
  (GR:FnOk P w K mg base CX0 2 f4 d4 ["_law_triples"] qd) (bR:Binds K d4 ["_law_triples"] []) (mR:mg "_law_rim_sides" = some (.ref f4)) (kR:W.keepIn K (.ref f4)=true)
  (GC:FnOk P w K mg base CX0 2 f5 d5 ["_law_triples"] cC) (bC:Binds K d5 ["_law_triples"] []) (mC:mg "_law_corners" = some (.ref f5)) (kC:W.keepIn K (.ref f5)=true) :
  FnOk P w K mg base CX0 3 f fd ["_law_pot_here","_law_most"] j7:=by
 refine U.ok cG (fun vs H Q E h=>?_) (fun cdv A outer s H vs Q E hr h=>?_)
 ·obtain⟨p,q,m,rfl,_⟩:=h
  rfl
 ·obtain⟨p,q,m,rfl,hp,pok,hm,Qq⟩:=h
  have hu:=cL hr
  refine⟨_,(af (ax (i:=2) cG.nd rfl (Or.inl rfl) (bc ac))
   (af (ba PassesOwn.never rfl (de rfl T.range (aa (ar GD hr rfl mD kD bD .nil pass0 (aa (pv 0) (aa (aA aV (pv 1) al) ac))) ac)) (aq (i:=3) cG.nd rfl (Or.inl rfl))
    (af (ax (i:=4) cG.nd rfl (Or.inr rfl) (ar GR hr rfl mR kR bR .nil pass0 (aa (pv 2) ac)))
   (af (ax (i:=5) cG.nd rfl (Or.inl rfl) (ar GC hr rfl mC kC bC .nil pass0 (aa (pv 2) ac)))
   (af (ax (i:=6) cG.nd rfl (Or.inl rfl) (aC aX (by rfl) T.len PySem.boot_len (aa (pv 5) ac)))
   (af (bH (aF (vz hr.units) (pv 4) (bc ac) (nomark _)) (af (bI (bX PySem.F.plainAttrs_list PySem.F.slot_list_append PySem.F.type_list_append bo (pv 2) (aa (aE (aa (pv 6) (aa (aA aV (pv 6) al) (aa (aA aV (pv 6) al) ac)))) ac)))
   (am lE)) aJ)
   (af (dI (cq aW (pv 4) (ar GD hr rfl mD kD bD .nil pass0 (aa (pv 0) (aa (aC aX (by rfl) T.len PySem.boot_len (aa (pv 4) ac)) ac))) (fun _ _=>rfl)) (bV rfl (av (aq (i:=7) cG.nd rfl (Or.inr rfl)) (av (aq (i:=8) cG.nd rfl (Or.inr rfl)) bf))))
   (af (ax (i:=9) cG.nd rfl (Or.inr rfl) (ar GT hr rfl mT kT bT .nil pass0 (aa (pv 2) ac)))
   (af (ax (i:=10) cG.nd rfl (Or.inl rfl) (aA iM (bp (N:=["_law_x","_law_a","_law_b","_law_thirds_here"]) (fr:=[none,some 7,some 8,some 9])  (aR (by decide +kernel) rfl rfl (by decide +kernel) (by decide +kernel) (by
      intro y hy e
      simp only[List.mem_cons,List.not_mem_nil,or_false] at hy
      rcases hy with rfl|rfl|rfl|rfl|rfl|rfl
      all_goals first|(cases e;done)|exact .inl rfl|exact .inr rfl) (by
      intro j i y e1 e2
      match j,e1,e2 with
      |0,e1,_=>simp at e1
      |1,e1,e2=>simp at e1 e2;subst e1 e2;exact⟨rfl,rfl⟩
      |2,e1,e2=>simp at e1 e2;subst e1 e2;exact⟨rfl,rfl⟩
      |3,e1,e2=>simp at e1 e2;subst e1 e2;exact⟨rfl,rfl⟩
      |j+4,e1,_=>simp at e1)) rfl (aG (pv 5))
     (fun C' s' H' fp pins=>⟨(aq (i:=0) (show (["_law_x","_law_a","_law_b","_law_thirds_here"]:List Str).Nodup by decide +kernel) rfl (Or.inl rfl) (.inr rfl)),eZ (PW.pt (iG (aF (show OpR _ (compareOp .NotIn) (rIn K true) from cJ) (pv 0) (aE (aa (pv 1) (aa (pv 2) ac))) rfl) (fO (cr (ar GF hr rfl mF kF bF .nil pass0 (aa (pv 3) (aa (aE (aa (pv 2) (aa (pv 1) (aa (pv 0) ac)))) ac))))))),(pv 0)⟩)) (bc (aa (pv 6) ac))))
   (af (ax (i:=11) cG.nd rfl (Or.inl rfl) (aA iM (bp (N:=["_law_x","_law_a","_law_b","_law_rim"]) (fr:=[none,some 7,some 8,some 4])  (aR (by decide +kernel) rfl rfl (by decide +kernel) (by decide +kernel) (by
      intro y hy e
      simp only[List.mem_cons,List.not_mem_nil,or_false] at hy
      rcases hy with rfl|rfl|rfl|rfl|rfl
      all_goals first|(cases e;done)|exact .inl rfl|exact .inr rfl) (by
      intro j i y e1 e2
      match j,e1,e2 with
      |0,e1,_=>simp at e1
      |1,e1,e2=>simp at e1 e2;subst e1 e2;exact⟨rfl,rfl⟩
      |2,e1,e2=>simp at e1 e2;subst e1 e2;exact⟨rfl,rfl⟩
      |3,e1,e2=>simp at e1 e2;subst e1 e2;exact⟨rfl,rfl⟩
      |j+4,e1,_=>simp at e1)) rfl (aG (pv 10))
     (fun C' s' H' fp pins=>⟨(aq (i:=0) (show (["_law_x","_law_a","_law_b","_law_rim"]:List Str).Nodup by decide +kernel) rfl (Or.inl rfl) (.inr rfl)),eZ (PW.pt (fN (aF (show OpR _ (compareOp .In) (rInD K false) from qC hr.units) (aE (aa (pv 2) (aa (pv 0) ac))) (pv 3) rfl) (eM (aF (show OpR _ (compareOp .In) (rInD K false) from qC hr.units) (aE (aa (pv 0) (aa (pv 1) ac))) (pv 3) rfl)))),(pv 0)⟩)) (pv 10)))
   (am (bI (bX PySem.F.plainAttrs_list PySem.F.slot_list_append PySem.F.type_list_append bo (pv 2) (aa (aE (aa (pv 8) (aa (pv 7) (aa (cq aW (pv 11) (ar GD hr rfl mD kD bD .nil pass0 (aa (pv 0) (aa (aC aX (by rfl) T.len PySem.boot_len (aa (pv 11) ac)) ac))) (fun _ _=>rfl)) ac)))) ac)))))))))))))
   (am (aD (pv 2))))),?_⟩
  have hline:=line5000
  refine⟨Nat.zero_le _,fun fo hfo=>?_⟩
  (generalize z:upd H fo _=H1;have s1:=ah hfo z;have y1:=ak z;clear z)
  obtain⟨d3,d4⟩:=be (q:=q) (b:=(m:Int)+1) (by omega)
  refine⟨_,rfl,_,rfl,_,_,rfl,rfl,p,q,_,rfl,s1 _ _ hp,pok,by omega,lg20 (by omega),_,rfl,by omega,by omega,?_⟩
  have nfp:fo≠p:=fun z=>by rw[z,hp] at hfo;cases hfo
  (generalize z:upd H1 p _=H2;have k2:=aK z;have y2:=ak z;clear z)
  have hN:(digO q ((m:Int)+1)).toNat≤m:=by omega
  generalize (digO q ((m:Int)+1)).toNat=N at hN
  refine dR (lo:=0) (n:=N) (fun i σ H'=>∃o3 o4 o5 o6 o7 o8 o9 oa ob vf tf q' n,σ=[some (V.ref p),some (.int (m:Int)),some (.ref fo),o3,o4,o5,o6,o7,o8,o9,oa,ob]∧But p H H'∧H' p=some (.lst (potV q'))∧bn q'∧H' fo=some (.lst vf)∧ay H' vf tf∧tf.length≤i∧Good tf∧Cov tf n)
   ⟨none,none,none,none,none,none,none,none,none,[],[],_,0,rfl,fun b' o nb e=>(k2 b' nb).trans (s1 _ _ e),y2,aY pok,(k2 fo nfp).trans y1,.nil,Nat.le_refl _,⟨by simp,by simp[ents]⟩,fun c=>by simp[aL]⟩ ?_ ?_
  ·rintro i σ H4 hi ⟨o3,o4,o5,o6,o7,o8,o9,oa,ob,vf,tf,q4,n,rfl,sm,hp4,pok4,hfo4,tr4,htl,gf,cov⟩
   have ltf:tf.length≤16:=by omega
   have lvf:=az tr4
   have fin:∀(t:Addr) (u:Tri) (H8:Hp) (q8:Int × Int) (n':Nat) (x3 x4 x5 x6 x7 x8 x9 xa xb:Option V),But p H H8→H8 p=some (.lst (potV q8))→bn q8→H8 fo=some (.lst vf)→ay H8 vf tf→H8 t=some (.tup [.int (u.1:Int),.int (u.2.1:Int),.int (u.2.2:Int)])→Good (tf++[u])→Cov (tf++[u]) n' →
     ∃o3 o4 o5 o6 o7 o8 o9 oa ob vf' tf' q' n',[some (V.ref p),some (.int (m:Int)),some (.ref fo),x3,x4,x5,x6,x7,x8,x9,xa,xb]=[some (V.ref p),some (.int (m:Int)),some (.ref fo),o3,o4,o5,o6,o7,o8,o9,oa,ob]∧But p H (upd H8 fo (.lst (vf++[V.ref t])))∧upd H8 fo (.lst (vf++[V.ref t])) p=some (.lst (potV q'))∧bn q'∧upd H8 fo (.lst (vf++[V.ref t])) fo=some (.lst vf')∧ay (upd H8 fo (.lst (vf++[V.ref t]))) vf' tf'∧tf'.length≤i+1∧Good tf'∧Cov tf' n':=by
    intro t u H8 q8 n' x3 x4 x5 x6 x7 x8 x9 xa xb b8 p8 k8 f8 tr8 ht g8 c8
    have tn:∀{b':Addr} {xs:List V},H8 b' = some (.tup xs)→b'≠fo:=fun e=>bi e f8 (by simp)
    refine⟨_,_,_,_,_,_,_,_,_,_,tf++[u],q8,n',rfl,fun b' o nb e=>?_,?_,k8,ao,?_,by rw[List.length_append,List.length_singleton];omega,g8,c8⟩
    ·rw[au (ag e hfo)];exact b8 b' o nb e
    ·rw[au (Ne.symm nfp)];exact p8
    ·exact bU (Paired.imp' (fun _ _ ⟨b',e1,e2⟩=>⟨b',e1,by rw[au (tn e2)];exact e2⟩) tr8) (.cons ⟨t,rfl,by rw[au (tn ht)];exact ht⟩ .nil)
   have notco:∀{a b c:Nat},En tf a b c→a < n∧b < n:=fun {a b c} e=>⟨(cov a).mp ⟨b,c,e⟩,(cov b).mp ⟨c,a,gf.sk.rot e⟩⟩
   refine⟨_,rfl,fo,vf,tf,rfl,hfo4,tr4,by omega,gf.nd,fun Rm zs rs H5 hR0 s5 y5 sd hrim lrs=>?_⟩
   refine⟨_,rfl,fo,vf,tf,rfl,s5 _ _ hfo4,tr4.same s5,by omega,fun L cs H6 hL0 s6 y6 hcs lcs=>?_⟩
   have lcn:=v_ hcs cov
   refine⟨_,rfl,L,_,rfl,.inl (SqL.of y6),?_⟩
   rw[aN,lcn]
   have s46:=s5.trans s6
   refine⟨_,rfl,Nat.zero_le _,fun z hz=>?_⟩
   (generalize z:upd H6 z _=H7;have s7:=ah hz z;have y7:=ak z;clear z)
   have s47:=s46.trans s7
   refine⟨.list (rs.map sdD),.list [],.lst (SqL.of (s7 _ _ (s6 _ _ y5))) (mO (K31.SdsAt.same s7 (K31.SdsAt.same s6 sd))),.lst (SqL.of y7) .nil,qi rs,_,rfl,?_⟩
   rw[if_neg Bool.false_ne_true,ui]
   cases rs with
   |nil=>
    refine iteT ⟨_,rfl,.inl ⟨rfl,_,SqL.of (s47 _ _ hfo4)⟩,_,rfl,_,rfl,_,_,rfl,rfl,_,rfl,_,_,rfl,rfl,lit3,fun t ht=>?_⟩
    (generalize z:upd H7 t _=H8;have s8:=ah ht z;have y8:=ak z;clear z)
    have s48:=s47.trans s8
    refine⟨fo,vf,_,rfl,rfl,s48 _ _ hfo4,by omega,?_⟩
    refine fin t (n,n+1,n+2) H8 q4 (n+3) _ _ _ _ _ _ _ _ _ (sm.same s48) (s48 _ _ hp4) pok4 (s48 _ _ hfo4) (tr4.same s48) y8 (e_ gf ⟨by show n≠n+1;omega,by show n+1≠n+2;omega,by show n+2≠n;omega⟩ (free_of gf fun s hs c e=>?_)) (uq cov)
    have:=notco e
    simp only[ck,List.mem_cons,List.not_mem_nil,or_false] at hs
    rcases hs with rfl|rfl|rfl <;> simp only at this <;> omega
   |cons r0 rs=>
    refine iteF ?_
    generalize hrs:r0::rs=rl at *
    have hrl:0 < rl.length:=by rw[←hrs];simp
    have lzs:=az sd
    obtain⟨e1,e2⟩:=be (q:=q4) (b:=(zs.length:Int)) (by omega)
    obtain⟨k,hk⟩:∃k:Nat,digO q4 (zs.length:Int)=(k:Int):=⟨_,(Int.toNat_of_nonneg e1).symm⟩
    have hkl:k < rl.length:=by omega
    obtain⟨⟨a,b⟩,hab⟩:∃s,rl[k]? = some s:=⟨_,List.getElem?_eq_getElem hkl⟩
    obtain⟨zv,hzv,tt,rfl,htt⟩:=mZ sd hab
    obtain⟨rim1,rim2⟩:=hrim (a,b) (List.mem_of_getElem? hab)
    refine⟨_,rfl,_,rfl,_,rfl,Rm,_,rfl,.inl (SqL.of (s7 _ _ (s6 _ _ y5))),p,q4,_,rfl,s47 _ _ hp4,pok4,by omega,df (by omega) (by omega),?_⟩
    rw[hk]
    have nRp:∀{b':Addr} {o:HO},H4 b' = none→H7 b' = some o→b'≠p:=fun h0 h1 z=>by rw[z,hp4] at h0;cases h0
    (generalize z:upd H7 p _=H8;have k8:=aK z;have y8:=ak z;clear z)
    have s78:∀b' o,b'≠p→H7 b' = some o→H8 b' = some o:=fun b' o nb e=>(k8 b' nb).trans e
    have hRm7:H7 Rm=some (.lst zs):=s7 _ _ (s6 _ _ y5)
    have hRm8:=s78 _ _ (nRp hR0 hRm7) hRm7
    have htt7:H7 tt=some (.tup [.int (a:Int),.int (b:Int)]):=s7 _ _ (s6 _ _ htt)
    have hp7:=s47 _ _ hp4
    have htt8:=s78 _ _ (bi htt7 hp7 (by simp)) htt7
    have sd8:SdsAt H8 zs rl:=Paired.imp' (fun _ _ ⟨b',e1,e2⟩=>⟨b',e1,by have e3:=s7 _ _ (s6 _ _ e2);exact s78 _ _ (bi e3 hp7 (by simp)) e3⟩) sd
    have hfo8:=s78 _ _ nfp (s47 _ _ hfo4)
    have tr8:ay H8 vf tf:=Paired.imp' (fun _ _ ⟨b',e1,e2⟩=>⟨b',e1,by have e3:=s47 _ _ e2;exact s78 _ _ (bi e3 hp7 (by simp)) e3⟩) tr4
    have hL7:H7 L=some (.lst (nV cs)):=s7 _ _ y6
    have nLp:L≠p:=fun zz=>by rw[zz,s5 _ _ hp4] at hL0;cases hL0
    have hL8:=s78 _ _ nLp hL7
    have but8:But p H H8:=fun b' o nb e=>s78 _ _ nb (s47 _ _ (sm b' o nb e))
    obtain⟨hab1,hab2⟩:a < n∧b < n:=by
     obtain⟨⟨⟨x,y⟩,c⟩,h1,h2⟩:=List.mem_map.mp rim1
     cases h2
     exact notco h1
    have hne:a≠b:=by
     obtain⟨⟨⟨x,y⟩,c⟩,h1,h2⟩:=List.mem_map.mp rim1
     cases h2
     exact gf.sk.ne h1
    refine⟨Rm,zs,(k:Int),_,rfl,rfl,SqL.of hRm8,bY hzv,tt,_,rfl,SqT.of htt8,rfl,_,_,rfl,_,_,rfl,rfl,?_⟩
    refine⟨_,rfl,fo,vf,tf,rfl,hfo8,tr8,by omega,gf.nd,fun D H9 hD0 s9 y9=>?_⟩
    refine⟨_,rfl,L,rfl,⟨_,SqL.of (s9 _ _ hL8)⟩,fun Z hZ=>a_ (K:=K) (a:=L) (xs:=nV cs) (fun i σ ys H'=>∃o sl,σ=[o,some (.int (a:Int)),some (.int (b:Int)),some (.ref D)]∧Same H9 H'∧H' Z=some (.lst ys)∧ys=nV sl∧(∀x∈sl,x < n∧x≠a∧x≠b∧gO tf (b,a,x)=true)∧sl.length≤i)
     ⟨none,[],rfl,aw hZ,ao,rfl,by simp,Nat.le_refl _⟩ (fun i σ ys H' _ ⟨_,_,_,e,_⟩=>SqL.of (e _ _ (s9 _ _ hL8))) ?_ ?_⟩
    ·rintro j y σ ys H' hj ⟨o,sl,rfl,sj,hZj,rfl,hsl,lsl⟩
     rw[nV,List.getElem?_map] at hj
     obtain⟨x,hx,rfl⟩:=Option.map_eq_some_iff.mp hj
     have hjl:=(List.getElem?_eq_some_iff.mp hx).1
     have hxn:x < n:=by
      refine (cov x).mp ?_
      have:=(hcs.2 x).mp (List.mem_of_getElem? hx)
      rw[aL]
      unfold flat at this
      rw[List.mem_flatMap] at this
      obtain⟨t,h1,h2⟩:=this
      exact⟨t,h1,by simpa using h2⟩
     refine⟨_,rfl,_,rfl,_,rfl,lit2,fun t1 g1=>?_⟩
     (generalize z:upd H' t1 _=Ha;have sA:=ah g1 z;have yA:=ak z;clear z)
     refine⟨t1,_,rfl,.inr (SqT.of yA),rfl,rfl,_,rfl,?_⟩
     show if (if true=true then !inV (V.int (x:Int)) (nV [a,b]) else _)=true then _ else _
     rw[if_pos rfl,eS]
     by_cases hxab:x∈[a,b]
     ·rw[decide_eq_true hxab]
      exact iteF (iteF ⟨_,sl,rfl,sj.trans sA,sA _ _ hZj,rfl,hsl,by omega⟩)
     ·rw[decide_eq_false hxab]
      refine iteT ⟨_,rfl,_,rfl,_,rfl,_,rfl,lit3,fun t2 g2=>?_⟩
      (generalize z:upd Ha t2 _=Hb;have sB:=ah g2 z;have yB:=ak z;clear z)
      refine⟨D,t2,tf,(b,a,x),rfl,sB _ _ (sA _ _ (sj _ _ y9)),yB,fun Hc sC=>?_⟩
      have sjC:=((sj.trans sA).trans sB).trans sC
      have hZc:=sC _ _ (sB _ _ (sA _ _ hZj))
      refine⟨_,rfl,?_⟩
      by_cases hfr:gO tf (b,a,x)=true
      ·rw[hfr]
       refine iteT ⟨_,rfl,hZc,by rw[aN];omega,_,sl++[x],rfl,fun b' o e=>?_,ao,by rw[nq,dJ],fun y hy=>?_,by rw[List.length_append,List.length_singleton];omega⟩
       ·rw[au (ag e hZ)];exact sjC _ _ e
       ·rcases List.mem_append.mp hy with h|h
        ·exact hsl y h
        ·rw[List.mem_singleton.mp h]
         simp at hxab
         exact⟨hxn,hxab.1,hxab.2,hfr⟩
      ·rw[Bool.eq_false_iff.mpr hfr]
       exact iteF ⟨_,sl,rfl,sjC,hZc,rfl,hsl,by omega⟩
    ·rintro σ ys Ha ⟨o,sl,rfl,sA,hZa,rfl,hsl,lsl⟩
     rw[aN,lcn] at lsl
     refine⟨_,rfl,lit1,fun l1 g1=>?_⟩
     (generalize z:upd Ha l1 _=Hb;have sB:=ah g1 z;have yB:=ak z;clear z)
     refine⟨Z,l1,_,_,rfl,rfl,sB _ _ hZa,yB,by rw[aN];simp only[List.length_singleton];omega,fun So g2=>?_⟩
     rw[nq,dJ]
     (generalize z:upd Hb So _=Hc;have sC:=ah g2 z;have yC:=ak z;clear z)
     have s9c:=(sA.trans sB).trans sC
     refine⟨_,rfl,So,rfl,⟨_,SqL.of yC⟩,fun Y hY=>a_ (K:=K) (a:=So) (xs:=nV (sl++[n])) (fun i σ ys H'=>∃o nl,σ=[o,some (.int (a:Int)),some (.int (b:Int)),some (.ref Rm)]∧Same Hc H'∧H' Y=some (.lst ys)∧ys=nV nl∧(∀x∈nl,x∈sl++[n])∧nl.length≤i)
      ⟨none,[],rfl,aw hY,ao,rfl,by simp,Nat.le_refl _⟩ (fun i σ ys H' _ ⟨_,_,_,e,_⟩=>SqL.of (e _ _ yC)) ?_ ?_⟩
     ·rintro j y σ ys H' hj ⟨o,nl,rfl,sj,hYj,rfl,hnl,lnl⟩
      rw[nV,List.getElem?_map] at hj
      obtain⟨x,hx,rfl⟩:=Option.map_eq_some_iff.mp hj
      have hjl:=(List.getElem?_eq_some_iff.mp hx).1
      rw[List.length_append,List.length_singleton] at hjl
      have hxm:=List.mem_of_getElem? hx
      have hRmj:∀{Hx:Hp},Same H' Hx→Hx Rm=some (.lst zs)∧SdsAt Hx zs rl:=fun sx=>⟨sx _ _ (sj _ _ (s9c _ _ (s9 _ _ hRm8))),K31.SdsAt.same (((s9.trans s9c).trans sj).trans sx) sd8⟩
      have take:∀Hx:Hp,Same H' Hx→Hx Y=some (.lst (nV nl))∧(nV nl).length < sizeLine∧∃o nl',[some (V.int (x:Int)),some (.int (a:Int)),some (.int (b:Int)),some (.ref Rm)]=[o,some (.int (a:Int)),some (.int (b:Int)),some (.ref Rm)]∧Same Hc (upd Hx Y (.lst (nV nl++[V.int (x:Int)])))∧upd Hx Y (.lst (nV nl++[V.int (x:Int)])) Y=some (.lst (nV nl++[V.int (x:Int)]))∧nV nl++[V.int (x:Int)]=nV nl'∧(∀y∈nl',y∈sl++[n])∧nl'.length≤j+1:=fun Hx sx=>by
       refine⟨sx _ _ hYj,by rw[aN];omega,_,nl++[x],rfl,fun b' o e=>?_,ao,by rw[nq,dJ],fun y hy=>?_,by rw[List.length_append,List.length_singleton];omega⟩
       ·rw[au (ag e hY)];exact sx _ _ (sj _ _ e)
       ·rcases List.mem_append.mp hy with h|h
        ·exact hnl y h
        ·rw[List.mem_singleton.mp h];exact hxm
      refine⟨_,rfl,_,rfl,lit2,fun t1 g1=>?_⟩
      (generalize z:upd H' t1 _=Hd;have sD:=ah g1 z;have yD:=ak z;clear z)
      obtain⟨r1,r2⟩:=hRmj sD
      refine⟨_,rfl,sdD (b,x),Rm,zs,_,.tup (SqT.of yD) (.cons (.int _) (.cons (.int _) .nil)),rfl,.inl (SqL.of r1),mO r2,by show max 0 (max 0 0)+1≤60;decide,_,rfl,?_⟩
      rw[if_neg Bool.false_ne_true]
      generalize (rl.map sdD).any _=b1
      cases b1 with
      |true=>exact iteT (iteT ⟨_,rfl,take Hd sD⟩)
      |false=>
       refine iteF ⟨_,rfl,_,rfl,lit2,fun t2 g2=>?_⟩
       (generalize z:upd Hd t2 _=He;have sE:=ah g2 z;have yE:=ak z;clear z)
       obtain⟨r1,r2⟩:=hRmj (sD.trans sE)
       refine⟨_,rfl,sdD (x,a),Rm,zs,_,.tup (SqT.of yE) (.cons (.int _) (.cons (.int _) .nil)),rfl,.inl (SqL.of r1),mO r2,by show max 0 (max 0 0)+1≤60;decide,_,rfl,?_⟩
       rw[if_neg Bool.false_ne_true]
       generalize (rl.map sdD).any _=b2
       cases b2 with
       |true=>exact iteT ⟨_,rfl,take He (sD.trans sE)⟩
       |false=>exact iteF ⟨_,nl,rfl,sj.trans (sD.trans sE),sE _ _ (sD _ _ hYj),rfl,hnl,by omega⟩
     ·rintro σ ys Hd ⟨o,nl,rfl,sD,hYd,rfl,hnl,lnl⟩
      rw[aN,List.length_append,List.length_singleton] at lnl
      refine⟨_,rfl,Y,So,_,_,rfl,rfl,hYd,sD _ _ yC,by rw[aN,aN,List.length_append,List.length_singleton];omega,fun Nr g3=>?_⟩
      rw[dJ]
      (generalize z:upd Hd Nr _=He;have sE:=ah g3 z;have yE:=ak z;clear z)
      have s8e:Same H8 He:=((s9.trans s9c).trans sD).trans sE
      have hpe:He p=some (.lst (potV (nxt q4 (zs.length:Int)))):=s8e _ _ y8
      obtain⟨e3,e4⟩:=be (q:=nxt q4 (zs.length:Int)) (b:=((nV (nl++(sl++[n]))).length:Int)) (by rw[aN];simp only[List.length_append,List.length_singleton];omega)
      obtain⟨k2',hk2⟩:∃k:Nat,digO (nxt q4 (zs.length:Int)) ((nV (nl++(sl++[n]))).length:Int)=(k:Int):=⟨_,(Int.toNat_of_nonneg e3).symm⟩
      have lne:(nV (nl++(sl++[n]))).length=nl.length+(sl.length+1):=by rw[aN];simp
      have hk2l:k2' < (nl++(sl++[n])).length:=by
       have l2:=aN (nl++(sl++[n]))
       omega
      have hxg:(nl++(sl++[n]))[k2']? = some (nl++(sl++[n]))[k2']:=List.getElem?_eq_getElem hk2l
      generalize (nl++(sl++[n]))[k2']=x at hxg
      have hxs:x∈sl++[n]:=by
       rcases List.mem_append.mp (List.mem_of_getElem? hxg) with h|h
       ·exact hnl x h
       ·exact h
      refine⟨_,rfl,.inl ⟨rfl,_,SqL.of (s8e _ _ hfo8)⟩,_,rfl,_,rfl,_,rfl,_,rfl,_,rfl,Nr,_,rfl,.inl (SqL.of yE),p,_,_,rfl,hpe,aY pok4,by omega,df (by omega) (by omega),?_⟩
      rw[hk2]
      (generalize z:upd He p _=Hf;have kf:=aK z;have yf:=ak z;clear z)
      have sef:∀b' o,b'≠p→He b' = some o→Hf b' = some o:=fun b' o nb e=>(kf b' nb).trans e
      have nNe:Nr≠p:=fun zz=>by rw[zz,sD _ _ (s9c _ _ (s9 _ _ y8))] at g3;cases g3
      refine⟨Nr,_,(k2':Int),_,rfl,rfl,SqL.of (sef _ _ nNe yE),bY (vF hxg),lit3,fun t ht=>?_⟩
      (generalize z:upd Hf t _=Hg;have sG:=ah ht z;have yG:=ak z;clear z)
      have hfog:=sG _ _ (sef _ _ nfp (s8e _ _ hfo8))
      refine⟨fo,vf,_,rfl,rfl,hfog,by omega,?_⟩
      have good:Good (tf++[(b,a,x)])∧(x < n∨x=n):=by
       rcases List.mem_append.mp hxs with h|h
       ·obtain⟨h1,h2,h3,h4⟩:=hsl x h
        exact⟨e_ gf ⟨Ne.symm hne,Ne.symm h2,h3⟩ h4,.inl h1⟩
       ·rw[List.mem_singleton.mp h]
        refine⟨e_ gf ⟨Ne.symm hne,by show a≠n;omega,by show n≠b;omega⟩ (free_of gf fun s hs c e=>?_),.inr rfl⟩
        have hn:=notco e
        simp only[ck,List.mem_cons,List.not_mem_nil,or_false] at hs
        rcases hs with rfl|rfl|rfl
        ·exact rim2 (List.mem_map.mpr ⟨_,e,rfl⟩)
        ·simp only at hn;omega
        ·simp only at hn;omega
      exact fin t (b,a,x) Hg _ _ _ _ _ _ _ _ _ _ _ (fun b' o nb e=>sG _ _ (sef _ _ nb (s8e _ _ (but8 b' o nb e)))) (sG _ _ yf) (aY (aY pok4)) hfog (Paired.imp' (fun _ _ ⟨b',e1,e2⟩=>⟨b',e1,by have e3:=s8e _ _ e2;exact sG _ _ (sef _ _ (bi e3 hpe (by simp)) e3)⟩) tr8) yG good.1 (r_ cov hab1 hab2 good.2)
  ·rintro σ H4 ⟨o3,o4,o5,o6,o7,o8,o9,oa,ob,vf,tf,q4,n,rfl,sm,hp4,pok4,hfo4,tr4,htl,gf,cov⟩
   exact⟨_,rfl,Qq fo vf tf q4 H4 hfo sm hp4 pok4 hfo4 tr4 (by omega) gf⟩
end
end K15
end
section
namespace K15
open PySem L2 K51 K31
def rtF (i:Nat):List Tri:=[(i,(i+1) % 7,(i+3) % 7),(i,(i+3) % 7,(i+2) % 7)]
def rt:List Tri:=(List.range 7).flatMap rtF
theorem ko:Good rt:=⟨by decide +kernel,by decide +kernel⟩
theorem u_:∀i:Fin 14,∀j:Fin 13,∃t∈(rt.eraseIdx i).eraseIdx j,6=t.1∨6=t.2.1∨6=t.2.2:=by decide +kernel
theorem uD:∀t∈rt,t.1 < 7∧t.2.1 < 7∧t.2.2 < 7:=by decide +kernel
theorem fB {α:Type}:∀{l:List α} {i:Nat} {x:α},l[i]? = some x→(l.eraseIdx i++[x]).Perm l
 | [],i,x,h=>by simp at h
 |a::l,0,x,h=>by
  simp at h;subst h
  exact (List.perm_append_comm (l₁:=l) (l₂:=[a]))
 |a::l,i+1,x,h=>(fB (l:=l) (i:=i) (by simpa using h)).cons a
theorem pL {as bs:List Tri} (h:as.Perm bs):(ents as).Perm (ents bs):=h.flatMap_right _
theorem fJ {H:Hp} {fo t:Addr} {vf:List V} {tf:List Tri} {u:Tri} (hf:H fo=some (.lst vf)) (tr:ay H vf tf) (ht:H t=some (.tup [.int (u.1:Int),.int (u.2.1:Int),.int (u.2.2:Int)])) :
  ay (upd H fo (.lst (vf++[V.ref t]))) (vf++[V.ref t]) (tf++[u]):=by
 have tn:∀{b':Addr} {xs:List V},H b' = some (.tup xs)→b'≠fo:=fun e=>bi e hf (by simp)
 exact bU (Paired.imp' (fun _ _ ⟨b',e1,e2⟩=>⟨b',e1,by rw[au (tn e2)];exact e2⟩) tr) (.cons ⟨t,rfl,by rw[au (tn ht)];exact ht⟩ .nil)
theorem sT {p:Addr} {H H':Hp} {vf pv:List V} {tf:List Tri} (b:But p H H') (hp:H p=some (.lst pv)) (h:ay H vf tf):ay H' vf tf:=
 Paired.imp' (fun _ _ ⟨b',e1,e2⟩=>⟨b',e1,b _ _ (bi e2 hp (by simp)) e2⟩) h
theorem lF {α β:Type} {F:α→β→Prop}:∀{xs:List α} {ys:List β} (k:Nat),Paired F xs ys→Paired F (xs.eraseIdx k) (ys.eraseIdx k)
 |_,_,_,.nil=>.nil
 |_,_,0,.cons _ t=>t
 |_,_,k+1,.cons h t=>.cons h (lF k t)
def mH:Sp:=fun vs H Q _=>∃(p:Addr) (q:Int × Int),vs=[.ref p]∧H p=some (.lst (potV q))∧bn q ∧
 ∀r vr ts q' H',H r=none→But p H H'→H' p=some (.lst (potV q'))→bn q'→H' r=some (.lst vr)→ay H' vr ts→ts.length≤16→Good ts→Q (.ref r) H'
section
variable {P:Program} {w:World} {K:W.Frag} {mg:Str→Option Value} {base:Heap}
theorem eL:aB ["_law_pot_here","_law_triples","_law_i","_law_way","_law_k","_law_gone","_law_new"] ["_law_pot_here"] (ae dC):=⟨rfl,rfl,rfl,by decide +kernel,rfl,by decide +kernel,by decide +kernel⟩
theorem tV {f f1 f2 f3:Addr} {fd d1 d2 d3:FuncData} (U:Fun K "_law_ring" "_law_ring" dC f fd) (T:TxtN mg) (mM:mg "max" = none)
  (GD:FnOk P w K mg base CX0 2 f1 d1 ["_law_pot_here","_law_base"] c_) (bD:Binds K d1 ["_law_pot_here","_law_base"] []) (mD:mg "_law_digit" = some (.ref f1)) (kD:W.keepIn K (.ref f1)=true)
  (GC:FnOk P w K mg base CX0 2 f2 d2 ["_law_triples"] cC) (bC:Binds K d2 ["_law_triples"] []) (mC:mg "_law_corners" = some (.ref f2)) (kC:W.keepIn K (.ref f2)=true)
  (GS:FnOk P w K mg base CX0 2 f3 d3 ["_law_triple"] hJ) (bS:Binds K d3 ["_law_triple"] []) (mS:mg "_law_sides" = some (.ref f3)) (kS:W.keepIn K (.ref f3)=true) :
  FnOk P w K mg base CX0 3 f fd ["_law_pot_here"] mH:=by
 refine U.ok eL (fun vs H Q E h=>?_) (fun cdv A outer s H vs Q E hr h=>?_)
 ·obtain⟨p,q,rfl,_⟩:=h
  rfl
 ·obtain⟨p,q,rfl,hp,pok,Qq⟩:=h
  have hu:=cL hr
  refine⟨_,(af (ax (i:=1) eL.nd rfl (Or.inl rfl) (bc ac))
   (af (ba PassesOwn.never rfl (de rfl T.range (aa al ac)) (aq (i:=2) eL.nd rfl (Or.inl rfl))
    (af (bI (bX PySem.F.plainAttrs_list PySem.F.slot_list_append PySem.F.type_list_append bo (pv 1) (aa (aE (aa (pv 2) (aa (aA cY (aA aV (pv 2) al) al) (aa (aA cY (aA aV (pv 2) al) al) ac)))) ac)))
   (am (bI (bX PySem.F.plainAttrs_list PySem.F.slot_list_append PySem.F.type_list_append bo (pv 1) (aa (aE (aa (pv 2) (aa (aA cY (aA aV (pv 2) al) al) (aa (aA cY (aA aV (pv 2) al) al) ac)))) ac))))))
   (af (ax (i:=3) eL.nd rfl (Or.inl rfl) (ar GD hr rfl mD kD bD .nil pass0 (aa (pv 0) (aa al ac))))
   (af (ba PassesOwn.never rfl (de rfl T.range (aa (aA cY (pv 3) al) ac)) (aq (i:=4) eL.nd rfl (Or.inl rfl))
    (af (ax (i:=5) eL.nd rfl (Or.inl rfl) (bX PySem.F.plainAttrs_list PySem.F.slot_list_pop PySem.F.type_list_pop lN (pv 1) (aa (ar GD hr rfl mD kD bD .nil pass0 (aa (pv 0) (aa (aC aX (by rfl) T.len PySem.boot_len (aa (pv 1) ac)) ac))) ac)))
   (am (bH (aF fk (pv 4) al (nomark _)) (af (ax (i:=6) eL.nd rfl (Or.inr rfl) (aA aV (aC (dL rfl) (by rfl) mM PyProof.Rows.boot_max (aa (ar GC hr rfl mC kC bC .nil pass0 (aa (pv 1) ac)) ac)) al))
   (am (ax (i:=1) eL.nd rfl (Or.inl rfl) (aA iM (pv 1) (bp (N:=["_law_p","_law_q","_law_new"]) (fr:=[none,none,some 6]) (g:=gTup K 2 (iX (cZ 0) (iX (cZ 1) gNil))) (te:=tTup (eD (tVar 0) (eD (tVar 1) (eD (tVar 2) tNil)))) (aR (by decide +kernel) rfl rfl (by decide +kernel) (by decide +kernel) (by
      intro y hy e
      simp only[List.mem_cons,List.not_mem_nil,or_false] at hy
      rcases hy with rfl|rfl|rfl|rfl
      all_goals first|(cases e;done)|exact .inl rfl|exact .inr rfl) (by
      intro j i y e1 e2
      match j,e1,e2 with
      |0,e1,_=>simp at e1
      |1,e1,_=>simp at e1
      |2,e1,e2=>simp at e1 e2;subst e1 e2;exact⟨rfl,rfl⟩
      |j+3,e1,_=>simp at e1)) rfl (aG (ar GS hr rfl mS kS bS .nil pass0 (aa (pv 5) ac)))
     (fun C' s' H' fp pins=>⟨(bV rfl (av (aq (i:=0) (show (["_law_p","_law_q","_law_new"]:List Str).Nodup by decide +kernel) rfl (Or.inl rfl) (.inr rfl)) (av (aq (i:=1) (show (["_law_p","_law_q","_law_new"]:List Str).Nodup by decide +kernel) rfl (Or.inl rfl) (.inr rfl)) bf))),bJ,(aE (aa (pv 0) (aa (pv 1) (aa (pv 2) ac))))⟩)))))) aJ))))
   (am (aD (pv 1))))))),?_⟩
  have hline:=line5000
  refine⟨Nat.zero_le _,fun fo hfo=>?_⟩
  (generalize z:upd H fo _=H1;have s1:=ah hfo z;have y1:=ak z;clear z)
  have nfp:fo≠p:=fun z=>by rw[z,hp] at hfo;cases hfo
  refine⟨_,rfl,by decide,by decide,?_⟩
  refine dR (lo:=0) (n:=7) (fun i σ H'=>∃o2 vf,σ=[some (V.ref p),some (.ref fo),o2,none,none,none,none]∧Same H H'∧H' fo=some (.lst vf)∧ay H' vf ((List.range i).flatMap rtF))
   ⟨none,[],rfl,s1,y1,.nil⟩ ?_ ?_
  ·rintro i σ H2 hi ⟨o2,vf,rfl,sm,hf2,tr2⟩
   have lvf:vf.length≤100:=by
    rw[az tr2,List.length_flatMap]
    have:((List.range i).map fun a=>(rtF a).length).sum=2 * i:=by
     have e:(List.range i).map (fun a=>(rtF a).length)=List.replicate i 2:=by
      rw[List.eq_replicate_iff]
      exact⟨by simp,fun b hb=>by obtain⟨x,_,rfl⟩:=List.mem_map.mp hb;rfl⟩
     rw[e];clear e
     have:∀n:Nat,(List.replicate n 2).sum=2 * n:=fun n=>by
      induction n with
      |zero=>rfl
      |succ n ih=>rw[List.replicate_succ,List.sum_cons,ih];omega
     exact this i
    omega
   refine⟨_,rfl,.inl ⟨rfl,_,SqL.of hf2⟩,_,rfl,_,rfl,_,_,rfl,rfl,_,_,rfl,rfl,(show (0:Int) < 7 by decide),_,rfl,_,_,rfl,rfl,_,_,rfl,rfl,(show (0:Int) < 7 by decide),lit3,fun t ht=>?_⟩
   (generalize z:upd H2 t _=H3;have s3:=ah ht z;have y3:=ak z;clear z)
   have y3':H3 t=some (.tup [.int (i:Int),.int (((i+1) % 7:Nat):Int),.int (((i+3) % 7:Nat):Int)]):=by
    rw[show (0+(i:Int))=(i:Int) by omega] at y3
    exact y3
   have hf3:=s3 _ _ hf2
   refine⟨fo,vf,_,rfl,rfl,hf3,by omega,?_⟩
   have tr4:=fJ (u:=(i,(i+1) % 7,(i+3) % 7)) hf3 (tr2.same s3) y3'
   have sm4:Same H (upd H3 fo (.lst (vf++[V.ref t]))):=fun b' o e=>by rw[au (ag e hfo)];exact s3 _ _ (sm _ _ e)
   have y4:upd H3 fo (.lst (vf++[V.ref t])) fo=some (.lst (vf++[V.ref t])):=ao
   generalize upd H3 fo (.lst (vf++[V.ref t]))=H4 at tr4 sm4 y4 ⊢
   refine⟨_,rfl,.inl ⟨rfl,_,SqL.of y4⟩,_,rfl,_,rfl,_,_,rfl,rfl,_,_,rfl,rfl,(show (0:Int) < 7 by decide),_,rfl,_,_,rfl,rfl,_,_,rfl,rfl,(show (0:Int) < 7 by decide),lit3,fun t2 ht2=>?_⟩
   (generalize z:upd H4 t2 _=H5;have s5:=ah ht2 z;have y5:=ak z;clear z)
   have y5':H5 t2=some (.tup [.int (i:Int),.int (((i+3) % 7:Nat):Int),.int (((i+2) % 7:Nat):Int)]):=by
    rw[show (0+(i:Int))=(i:Int) by omega] at y5
    exact y5
   have hf5:=s5 _ _ y4
   refine⟨fo,_,_,rfl,rfl,hf5,by rw[List.length_append,List.length_singleton];omega,?_⟩
   have tr6:=fJ (u:=(i,(i+3) % 7,(i+2) % 7)) hf5 (tr4.same s5) y5'
   refine⟨_,_,rfl,fun b' o e=>by rw[au (ag e hfo)];exact s5 _ _ (sm4 _ _ e),ao,?_⟩
   rw[List.range_succ,List.flatMap_append]
   simpa [rtF] using tr6
  ·rintro σ H2 ⟨o2,vf,rfl,sm,hf2,tr2⟩
   have tr2:ay H2 vf rt:=tr2
   obtain⟨d1,d2⟩:=be (q:=q) (b:=4) (by decide)
   obtain⟨wy,ew⟩:∃wy:Nat,digO q 4=(wy:Int):=⟨_,(Int.toNat_of_nonneg d1).symm⟩
   refine⟨_,rfl,p,q,4,rfl,sm _ _ hp,pok,by decide,by decide +kernel,?_⟩
   (generalize z:upd H2 p _=H3;have k3:=aK z;have y3:=ak z;clear z)
   rw[ew] at d2 ⊢
   refine⟨_,rfl,_,_,rfl,rfl,(show (0:Int) < 3 by decide),_,rfl,by omega,by omega,?_⟩
   have hw:((wy:Int) % 3).toNat≤2:=by omega
   generalize ((wy:Int) % 3).toNat=W at hw
   have b3:But p H H3:=fun b' o n e=>(k3 b' n).trans (sm _ _ e)
   refine dR (lo:=0) (n:=W) (fun i σ H'=>∃o2 o4 o5 o6 Tc vc tc q',σ=[some (V.ref p),some (.ref Tc),o2,some (.int (wy:Int)),o4,o5,o6]∧But p H H'∧H' p=some (.lst (potV q'))∧bn q'∧H Tc=none∧H' Tc=some (.lst vc)∧ay H' vc tc∧(i=0∧tc=rt∨(i=1∧∃j:Fin 14,tc=rt.eraseIdx j)∨i=2∧tc.length≤16∧Good tc))
    ⟨_,none,none,none,fo,vf,rt,_,rfl,b3,y3,aY pok,hfo,(k3 fo nfp).trans hf2,Paired.imp' (fun _ _ ⟨b',e1,e2⟩=>⟨b',e1,(k3 b' (bi e2 (sm _ _ hp) (by simp))).trans e2⟩) tr2,.inl ⟨rfl,rfl⟩⟩ ?_ ?_
   ·rintro i σ H4 hi ⟨o2,o4,o5,o6,Tc,vc,tc,q4,rfl,b4,hp4,pok4,hTc0,hT4,tr4,hcase⟩
    have hcase:i=0∧tc=rt∨(i=1∧∃j:Fin 14,tc=rt.eraseIdx j):=hcase.imp_right fun h=>h.resolve_right fun⟨z,_⟩=>by omega
    have ltc:13≤tc.length∧tc.length≤14:=by
     rcases hcase with ⟨_,rfl⟩|⟨_,j,rfl⟩
     ·decide
     ·rw[List.length_eraseIdx_of_lt (show (j:Nat) < rt.length from j.2)];decide
    have lvc:=az tr4
    obtain⟨e1,e2⟩:=be (q:=q4) (b:=(vc.length:Int)) (by omega)
    obtain⟨k,hk⟩:∃k:Nat,digO q4 (vc.length:Int)=(k:Int):=⟨_,(Int.toNat_of_nonneg e1).symm⟩
    have hkl:k < tc.length:=by omega
    obtain⟨⟨a,b,c⟩,habc⟩:∃s,tc[k]? = some s:=⟨_,List.getElem?_eq_getElem hkl⟩
    obtain⟨zv,hzv,tt,rfl,htt⟩:=mZ tr4 habc
    have nTp:Tc≠p:=fun z=>by rw[z,hp] at hTc0;cases hTc0
    refine⟨_,rfl,.inl ⟨rfl,_,SqL.of hT4⟩,_,rfl,_,rfl,Tc,_,rfl,.inl (SqL.of hT4),p,q4,_,rfl,hp4,pok4,by omega,df (by omega) (by omega),?_⟩
    rw[hk]
    (generalize z:upd H4 p _=H5;have k5:=aK z;have y5:=ak z;clear z)
    have hT5:=(k5 Tc nTp).trans hT4
    refine⟨Tc,vc,(k:Int),k,_,rfl,rfl,hT5,by omega,by omega,nY (by omega),hzv,?_⟩
    have b5:But p H H5:=fun b' o n e=>(k5 b' n).trans (b4 _ _ n e)
    have tr5:ay H5 vc tc:=Paired.imp' (fun _ _ ⟨b',e1,e2⟩=>⟨b',e1,(k5 b' (bi e2 hp4 (by simp))).trans e2⟩) tr4
    have htt5:H5 tt=some (.tup [.int (a:Int),.int (b:Int),.int (c:Int)]):=(k5 tt (bi htt hp4 (by simp))).trans htt
    (generalize z:upd H5 Tc _=H6;have k6:=aK z;have y6:=ak z;clear z)
    have b6:But p H H6:=fun b' o n e=>(k6 b' (ag e hTc0)).trans (b5 _ _ n e)
    have hp6:H6 p=some (.lst (potV (nxt q4 (vc.length:Int)))):=(k6 p (Ne.symm nTp)).trans y5
    have tr6:ay H6 (vc.eraseIdx k) (tc.eraseIdx k):=Paired.imp' (fun _ _ ⟨b',e1,e2⟩=>⟨b',e1,(k6 b' (bi e2 hT5 (by simp))).trans e2⟩) (lF k tr5)
    have htt6:=(k6 tt (bi htt5 hT5 (by simp))).trans htt5
    refine⟨_,rfl,rfl,_,rfl,?_⟩
    rcases hcase with ⟨rfl,rfl⟩|⟨rfl,j,rfl⟩
    ·exact iteF ⟨_,_,_,_,Tc,_,_,_,rfl,b6,hp6,aY pok4,hTc0,y6,tr6,.inr (.inl ⟨rfl,⟨k,hkl⟩,rfl⟩)⟩
    ·refine iteT ?_
     have l13:(rt.eraseIdx j).length=13:=by rw[List.length_eraseIdx_of_lt (show (j:Nat) < rt.length from j.2)];rfl
     have l12:((rt.eraseIdx j).eraseIdx k).length=12:=by rw[List.length_eraseIdx_of_lt hkl,l13]
     have lvk:=az tr6
     refine⟨_,rfl,Tc,_,_,rfl,y6,tr6,by omega,fun rc cs H7 hrc s7 y7 hcs lcs=>?_⟩
     have six:6∈cs:=by
      rw[hcs.2]
      obtain⟨t,h1,h2⟩:=u_ j ⟨k,by omega⟩
      exact List.mem_flatMap.mpr ⟨t,h1,by simpa using h2⟩
     have hle:∀x∈cs,x < 7:=fun x hx=>by
      rw[hcs.2] at hx
      obtain⟨t,h1,h2⟩:=List.mem_flatMap.mp hx
      have h3:=uD t ((List.eraseIdx_sublist _ _).subset ((List.eraseIdx_sublist _ _).subset h1))
      have h2:x=t.1∨x=t.2.1∨x=t.2.2:=by simpa using h2
      omega
     refine⟨rc,cs.map (fun c:Nat=>(c:Int)),rfl,SqL.of (by rw[y7];simp[nV]),fun z=>?_,fun m hm hmax=>⟨_,_,rfl,rfl,?_⟩⟩
     ·rw[List.map_eq_nil_iff.mp z] at six;cases six
     have em:m=6:=by
      obtain⟨x,hx,rfl⟩:=List.mem_map.mp hm
      have:=hmax 6 (List.mem_map.mpr ⟨6,six,rfl⟩)
      have:=hle x hx
      omega
     subst em
     refine⟨_,rfl,_,rfl,tt,(a,b,c),rfl,s7 _ _ htt6,fun Z zs H8 hZ0 s8 y8 sd=>?_⟩
     have s68:=s7.trans s8
     refine⟨Z,rfl,⟨_,SqL.of y8⟩,fun Y hY=>a_ (K:=K) (a:=Z) (xs:=zs) (fun i σ ys H'=>∃o1 o2,σ=[o1,o2,some (.int 7)]∧Same H8 H'∧H' Y=some (.lst ys)∧ay H' ys (((ck (a,b,c)).take i).map fun s=>(s.1,s.2,7)))
      ⟨none,none,rfl,aw hY,ao,.nil⟩ (fun i σ ys H' _ ⟨_,_,_,e,_⟩=>SqL.of (e _ _ y8)) ?_ ?_⟩
     ·rintro i x σ ys H' hi ⟨o1,o2',rfl,sm',hY',tr'⟩
      obtain⟨⟨x1,x2⟩,hs,c',rfl,hc'⟩:=aS sd hi
      refine⟨c',_,rfl,SqT.of (sm' _ _ hc'),rfl,_,_,rfl,_,_,rfl,rfl,?_⟩
      refine iteT ⟨_,rfl,_,rfl,_,rfl,lit3,fun t ht=>?_⟩
      (generalize z:upd H' t _=H9;have s9:=ah ht z;have y9:=ak z;clear z)
      have hY9:=s9 _ _ hY'
      have tr10:=fJ (u:=(x1,x2,7)) hY9 (tr'.same s9) y9
      refine⟨hY9,?_,_,_,rfl,fun b' o e=>?_,ao,?_⟩
      ·rw[az tr',List.length_map,List.length_take];simp[ck];omega
      ·rw[au (ag e hY)];exact s9 _ _ (sm' _ _ e)
      ·rw[List.take_add_one,hs,List.map_append];exact tr10
     ·rintro σ ys H9 ⟨o1,o2',rfl,sm',hY',tr'⟩
      have l3:zs.length=3:=az sd
      rw[l3] at tr'
      have tr':ay H9 ys [(a,b,7),(b,c,7),(c,a,7)]:=tr'
      have s69:=s68.trans sm'
      refine⟨Tc,Y,_,_,rfl,rfl,s69 _ _ y6,hY',by have:=az tr';simp at this;omega,fun R hR=>?_⟩
      (generalize z:upd H9 R _=H10;have s10:=ah hR z;have y10:=ak z;clear z)
      have st:=s69.trans s10
      have hR0:H R=none:=by
       cases e:H R with
       |none=>rfl
       |some o=>
        by_cases ep:R=p
        ·rw[ep,s69 _ _ hp6] at hR;cases hR
        ·rw[s69 _ _ (b6 _ _ ep e)] at hR;cases hR
      refine⟨_,_,_,_,R,_,_,_,rfl,fun b' o n e=>st _ _ (b6 _ _ n e),st _ _ hp6,aY pok4,hR0,y10,bU (tr6.same st) (tr'.same s10),.inr (.inr ⟨rfl,?_,?_⟩)⟩
      ·rw[List.length_append,l12];exact (show 12+3≤16 by decide)
      ·refine pH (fc (fV ko (List.eraseIdx_sublist rt j)) (pL (fB habc))) fun z=>?_
       obtain⟨t,h1,h2⟩:=aL.mp z
       have h3:=uD t ((List.eraseIdx_sublist _ _).subset ((fB habc).mem_iff.mp h1))
       omega
   ·rintro σ H4 ⟨o2,o4,o5,o6,Tc,vc,tc,q4,rfl,b4,hp4,pok4,hTc0,hT4,tr4,hcase⟩
    have hh:tc.length≤16∧Good tc:=by
     rcases hcase with ⟨_,rfl⟩|⟨_,j,rfl⟩|⟨_,h⟩
     ·exact⟨by decide,ko⟩
     ·exact⟨Nat.le_trans (List.eraseIdx_sublist rt j).length_le (by decide),fV ko (List.eraseIdx_sublist rt j)⟩
     ·exact h
    exact⟨_,rfl,Qq Tc vc tc q4 H4 hTc0 b4 hp4 pok4 hT4 tr4 hh.1 hh.2⟩
end
end K15
end
section
namespace K15
open PySem L2 K51 K31
def iC:Sp:=fun vs H Q _=>∃(S T:Addr) (vs' vt:List V) (ss ts:List Tri),vs=[.ref S,.ref T]∧H S=some (.lst vs')∧ay H vs' ss∧ss.length≤10∧Good ss∧H T=some (.lst vt)∧ay H vt ts∧ts.length≤10∧Good ts ∧
 ∀r vr rs H',H r=none→Same H H'→H' r=some (.lst vr)→ay H' vr rs→rs.length≤20→Good rs→Q (.ref r) H'
section
variable {P:Program} {w:World} {K:W.Frag} {mg:Str→Option Value} {base:Heap}
theorem lB:aB ["_law_one","_law_other","_law_more"] ["_law_one","_law_other"] (ae cw):=⟨rfl,rfl,rfl,by decide +kernel,rfl,by decide +kernel,by decide +kernel⟩
theorem pk {f f2:Addr} {fd d2:FuncData} (U:Fun K "_law_beside" "_law_beside" cw f fd) (T:TxtN mg) (mM:mg "max" = none)
  (GC:FnOk P w K mg base CX0 2 f2 d2 ["_law_triples"] cC) (bC:Binds K d2 ["_law_triples"] []) (mC:mg "_law_corners" = some (.ref f2)) (kC:W.keepIn K (.ref f2)=true) :
  FnOk P w K mg base CX0 3 f fd ["_law_one","_law_other"] iC:=by
 refine U.ok lB (fun vs H Q E h=>?_) (fun cdv A outer s H vs Q E hr h=>?_)
 ·obtain⟨S,T0,vs',vt,ss,ts,rfl,_⟩:=h
  rfl
 ·obtain⟨S,T0,vs',vt,ss,ts,rfl,hS,trS,lS,gS,hT,trT,lT,gT,Qq⟩:=h
  have hu:=cL hr
  refine⟨_,(af (ax (i:=2) lB.nd rfl (Or.inr rfl) (aA aV (aC (dL rfl) (by rfl) mM PyProof.Rows.boot_max (aa (aA iM (ar GC hr rfl mC kC bC .nil pass0 (aa (pv 0) ac)) (bc (aa (oi jU al) ac))) ac)) al))
   (am (aD (aA iM (pv 0) (bp (N:=["_law_triple","_law_more"]) (fr:=[none,some 2]) (te:=tCB (fun xs H Q=>∃p ys,xs=[.ref p]∧((SqL K H p ys∧∀l,H l=none→Q (.ref l) (upd H l (.tup ys)))∨(SqT K H p ys∧Q (.ref p) H))) (eD (lm (iTup K (tVar 0)) (cZ 0) (fun _ H Q=>Q true H) (tOp (rI0 fun i j=>.int (i+j)) (tVar 0) (tVar 1)) [none,some 1]) tNil)) (aR (by decide +kernel) rfl rfl (by decide +kernel) (by decide +kernel) (by
      intro y hy e
      simp only[List.mem_cons,List.not_mem_nil,or_false] at hy
      rcases hy with rfl|rfl|rfl|rfl
      all_goals first|(cases e;done)|exact .inl rfl|exact .inr rfl) (by
      intro j i y e1 e2
      match j,e1,e2 with
      |0,e1,_=>simp at e1
      |1,e1,e2=>simp at e1 e2;subst e1 e2;exact⟨rfl,rfl⟩
      |j+2,e1,_=>simp at e1)) rfl (aG (pv 1))
     (fun C' s' H' fp pins=>⟨(aq (i:=0) (show (["_law_triple","_law_more"]:List Str).Nodup by decide +kernel) rfl (Or.inl rfl) (.inr rfl)),bJ,(aI cV (by rfl) T.tuple PyProof.Rows.boot_tuple (aa (bp (N:=["_law_corner","_law_more"]) (fr:=[none,some 1]) (te:=tOp (rI0 fun i j=>.int (i+j)) (tVar 0) (tVar 1)) (aR (by decide +kernel) rfl rfl (by decide +kernel) (by decide +kernel) (by
      intro y hy e
      simp only[List.mem_cons,List.not_mem_nil,or_false] at hy
      rcases hy with rfl|rfl|rfl
      all_goals first|(cases e;done)|exact .inl rfl|exact .inr rfl) (by
      intro j i y e1 e2
      match j,e1,e2 with
      |0,e1,_=>simp at e1
      |1,e1,e2=>simp at e1 e2;subst e1 e2;exact⟨rfl,rfl⟩
      |j+2,e1,_=>simp at e1)) rfl (gq (pv 0))
     (fun C' s' H' fp pins=>⟨(aq (i:=0) (show (["_law_corner","_law_more"]:List Str).Nodup by decide +kernel) rfl (Or.inl rfl) (.inr rfl)),bJ,(aA aV (pv 0) (pv 1))⟩)) ac))⟩)))))),?_⟩
  have hline:=line5000
  refine⟨_,rfl,S,vs',ss,rfl,hS,trS,by omega,fun L cs H1 hL0 s1 y1 hcs lcs=>?_⟩
  refine⟨_,rfl,lit1,fun l1 g1=>?_⟩
  (generalize z:upd H1 l1 _=H2;have s2:=ah g1 z;have y2:=ak z;clear z)
  refine⟨L,l1,_,_,rfl,rfl,s2 _ _ y1,y2,by rw[aN];simp only[List.length_singleton];omega,fun l2 g2=>?_⟩
  (generalize z:upd H2 l2 _=H3;have s3:=ah g2 z;have y3:=ak z;clear z)
  refine⟨l2,cs.map (fun c:Nat=>(c:Int))++[-1],rfl,SqL.of (by rw[y3];simp[nV]),by simp,fun m hm hmax=>⟨_,_,rfl,rfl,?_⟩⟩
  obtain⟨n,hn⟩:∃n:Nat,m+1=(n:Int):=by
   have:=hmax (-1) (by simp)
   exact⟨(m+1).toNat,by omega⟩
  have hlt:∀c,Co ss c→c < n:=fun c hc=>by
   have:c∈cs:=by
    rw[hcs.2]
    obtain⟨t,h1,h2⟩:=aL.mp hc
    exact List.mem_flatMap.mpr ⟨t,h1,by simpa using h2⟩
   have:=hmax (c:Int) (List.mem_append_left _ (List.mem_map.mpr ⟨c,this,rfl⟩))
   omega
  show cZ 2 (V.int (m+1)) _ _ _
  rw[hn]
  have s03:=(s1.trans s2).trans s3
  have hT3:=s03 _ _ hT
  have trT3:=trT.same s03
  have gN:Good (ts.map (nam (· + n))):=lY gT (fun a b _ _ h=>by simpa using h)
  refine⟨_,rfl,_,rfl,T0,rfl,⟨_,SqL.of hT3⟩,fun Z hZ=>a_ (K:=K) (a:=T0) (xs:=vt) (fun i σ ys H'=>∃o,σ=[o,some (.int (n:Int))]∧Same H3 H'∧H' Z=some (.lst ys)∧ay H' ys ((ts.take i).map (nam (· + n))))
   ⟨none,rfl,aw hZ,ao,.nil⟩ (fun i σ ys H' _ ⟨_,_,e,_⟩=>SqL.of (e _ _ hT3)) ?_ ?_⟩
  ·rintro i x σ ys H' hi ⟨o,rfl,sm,hZ',tr'⟩
   obtain⟨⟨a,b,c⟩,hs,t,rfl,hb⟩:=aS trT3 hi
   have hb:H3 t=some (.tup [.int (a:Int),.int (b:Int),.int (c:Int)]):=hb
   have hil:=(List.getElem?_eq_some_iff.mp hs).1
   refine⟨_,rfl,t,rfl,⟨_,SqT.of (sm _ _ hb)⟩,fun Y hY=>eU (K:=K) (a:=t) (xs:=nV [a,b,c]) (fun i σ ys H''=>∃o,σ=[o,some (.int (n:Int))]∧ys=nV (([a,b,c].take i).map (· + n))∧Same H' H''∧H'' Y=some (.lst ys)) ⟨none,rfl,rfl,aw hY,ao⟩ (fun i σ ys H'' _ ⟨_,_,_,e,_⟩=>SqT.of (e _ _ (sm _ _ hb))) ?_ ?_⟩
   ·rintro j x σ zs H4 hj ⟨o,rfl,rfl,sm4,hY4⟩
    rw[nV,List.getElem?_map] at hj
    obtain⟨z,hz,rfl⟩:=Option.map_eq_some_iff.mp hj
    have hjl:j < 3:=(List.getElem?_eq_some_iff.mp hz).1
    refine⟨_,rfl,_,rfl,_,_,rfl,rfl,hY4,?_,_,rfl,?_,fun b' o e=>?_,ao⟩
    ·rw[aN,List.length_map,List.length_take];simp;omega
    ·rw[List.take_add_one,hz,List.map_append,←dJ];rfl
    ·rw[au (ag e hY)];exact sm4 _ _ e
   ·rintro σ zs H4 ⟨o,rfl,rfl,sm4,hY4⟩
    refine⟨Y,_,rfl,.inl ⟨SqL.of hY4,fun t' ht'=>?_⟩⟩
    (generalize z:upd H4 t' _=H5;have s5:=ah ht' z;have y5:=ak z;clear z)
    have st:=sm4.trans s5
    have hZ5:=st _ _ hZ'
    have tr6:=fJ (u:=(a+n,b+n,c+n)) hZ5 (tr'.same st) y5
    refine⟨hZ5,?_,_,rfl,fun b' o e=>?_,ao,?_⟩
    ·rw[az tr',List.length_map,List.length_take];omega
    ·rw[au (ag e hZ)];exact st _ _ (sm _ _ e)
    ·rw[List.take_add_one,hs,List.map_append];exact tr6
  ·rintro σ ys H4 ⟨o,rfl,sm,hZ',tr'⟩
   rw[az trT3,List.take_length] at tr'
   have lz:=az tr'
   rw[List.length_map] at lz
   have lv:=az trS
   have s04:=s03.trans sm
   refine⟨S,Z,_,_,rfl,rfl,s04 _ _ hS,hZ',by omega,fun R hR=>?_⟩
   (generalize z:upd H4 R _=H5;have s5:=ah hR z;have y5:=ak z;clear z)
   refine Qq R _ _ H5 (s04.free hR) (s04.trans s5) y5 (bU (trS.same (s04.trans s5)) (tr'.same s5)) ?_ ?_
   ·rw[List.length_append,List.length_map];omega
   ·refine rj gS gN fun a ha hb=>?_
    have:=hlt a ha
    obtain⟨b,c,e⟩:=hb
    obtain⟨a',b',c',_,h2,_⟩:=rO gT (fun a b _ _ h=>by simpa using h) e
    have h2:a=a' + n:=h2
    omega
end
end K15
end
section
namespace K15
open PySem L2 K51 K31
theorem nP {H:Hp} {r p:Addr} {vr:List V} {ts:List Tri} {q:Int × Int} (hr:H r=some (.lst vr)) (tr:ay H vr ts) (hp:H p=some (.lst (potV q))):r≠p:=fun z=>by
 rw[z,hp] at hr
 cases hr
 cases tr with
 |cons h _=>
  obtain⟨b,e,_⟩:=h
  cases e
def j6:Sp:=fun vs H Q _=>∃(p:Addr) (q:Int × Int) (m:Nat),vs=[.ref p,.int (m:Int)]∧m≤16∧H p=some (.lst (potV q))∧bn q ∧
 ∀r vr ts q' H',r≠p→But p H H'→H' p=some (.lst (potV q'))→bn q'→H' r=some (.lst vr)→ay H' vr ts→ts.length≤20→Good ts→(∀c,Co ts c→One (En ts) c)→Q (.ref r) H'
section
variable {P:Program} {w:World} {K:W.Frag} {mg:Str→Option Value} {base:Heap}
theorem n6:aB ["_law_pot_here","_law_most","_law_way"] ["_law_pot_here","_law_most"] (ae dB):=⟨rfl,rfl,rfl,by decide +kernel,rfl,by decide +kernel,by decide +kernel⟩
theorem qL {f f1 f2 f3 f4 f5 f6:Addr} {fd d1 d2 d3 d4 d5 d6:FuncData} (U:Fun K "_law_skin" "_law_skin" dB f fd)
  (GD:FnOk P w K mg base CX0 3 f1 d1 ["_law_pot_here","_law_base"] c_) (bD:Binds K d1 ["_law_pot_here","_law_base"] []) (mD:mg "_law_digit" = some (.ref f1)) (kD:W.keepIn K (.ref f1)=true)
  (GR:FnOk P w K mg base CX0 3 f2 d2 ["_law_pot_here"] mH) (bR:Binds K d2 ["_law_pot_here"] []) (mR:mg "_law_ring" = some (.ref f2)) (kR:W.keepIn K (.ref f2)=true)
  (GS:FnOk P w K mg base CX0 3 f3 d3 ["_law_triples"] fL) (bS:Binds K d3 ["_law_triples"] []) (mS:mg "_law_split" = some (.ref f3)) (kS:W.keepIn K (.ref f3)=true)
  (GB:FnOk P w K mg base CX0 3 f4 d4 ["_law_one","_law_other"] iC) (bB:Binds K d4 ["_law_one","_law_other"] []) (mB:mg "_law_beside" = some (.ref f4)) (kB:W.keepIn K (.ref f4)=true)
  (GG:FnOk P w K mg base CX0 3 f5 d5 ["_law_pot_here","_law_most"] j7) (bG:Binds K d5 ["_law_pot_here","_law_most"] []) (mG:mg "_law_grown" = some (.ref f5)) (kG:W.keepIn K (.ref f5)=true)
  (GW:FnOk P w K mg base CX0 3 f6 d6 ["_law_pot_here","_law_most"] hU) (bW:Binds K d6 ["_law_pot_here","_law_most"] []) (mW:mg "_law_drawn" = some (.ref f6)) (kW:W.keepIn K (.ref f6)=true) :
  FnOk P w K mg base CX0 4 f fd ["_law_pot_here","_law_most"] j6:=by
 refine U.ok n6 (fun vs H Q E h=>?_) (fun cdv A outer s H vs Q E hr h=>?_)
 ·obtain⟨p,q,m,rfl,_⟩:=h
  rfl
 ·obtain⟨p,q,m,rfl,hm,hp,pok,Qq⟩:=h
  refine⟨_,(af (ax (i:=2) n6.nd rfl (Or.inl rfl) (ar GD hr rfl mD kD bD .nil pass0 (aa (pv 0) (aa al ac))))
   (af (bH (PW.pt (iG (aF fk (pv 2) al (nomark _)) (fO (aF uG (pv 1) al (nomark _))))) (am (aD (ar GS hr rfl mS kS bS .nil pass0 (aa (ar GR hr rfl mR kR bR .nil pass0 (aa (pv 0) ac)) ac)))) aJ)
   (af (bH (aF fk (pv 2) al (nomark _)) (am (aD (ar GS hr rfl mS kS bS .nil pass0 (aa (ar GB hr rfl mB kB bB .nil pass0 (aa (ar GG hr rfl mG kG bG .nil pass0 (aa (pv 0) (aa (aA dP (pv 1) al) ac))) (aa (ar GW hr rfl mW kW bW .nil pass0 (aa (pv 0) (aa (aA dP (pv 1) al) ac))) ac))) ac)))) aJ)
   (af (bH (aF ol (pv 2) al (nomark _)) (am (aD (ar GS hr rfl mS kS bS .nil pass0 (aa (ar GW hr rfl mW kW bW .nil pass0 (aa (pv 0) (aa (pv 1) ac))) ac)))) aJ)
   (am (aD (ar GS hr rfl mS kS bS .nil pass0 (aa (ar GG hr rfl mG kG bG .nil pass0 (aa (pv 0) (aa (pv 1) ac))) ac)))))))),?_⟩
  obtain⟨d1,d2⟩:=be (q:=q) (b:=8) (by decide)
  refine⟨_,rfl,p,q,8,rfl,hp,pok,by decide,by decide +kernel,?_⟩
  (generalize z:upd H p _=H1;have k1:=aK z;have y1:=ak z;clear z)
  have b1:But p H H1:=fun b' o n e=>(k1 b' n).trans e
  have end_:∀(R:Addr) (vr:List V) (ts:List Tri) (q':Int × Int) (H2:Hp),But p H1 H2→H2 p=some (.lst (potV q'))→bn q'→H2 R=some (.lst vr)→ay H2 vr ts→ts.length≤20→Good ts→fL [.ref R] H2 Q E:=by
   intro R vr ts q' H2 b2 hp2 pok2 hR tr hl hg
   refine⟨R,vr,ts,rfl,hR,tr,hl,hg,fun r vr' ts' H3 s3 hr3 tr3 l3 g3 o3=>?_⟩
   exact Qq r vr' ts' q' H3 (nP hr3 tr3 (s3 _ _ hp2)) (fun b' o n e=>s3 _ _ (b2 b' o n (b1 b' o n e))) (s3 _ _ hp2) pok2 hr3 tr3 (by omega) g3 o3
  refine⟨_,rfl,rfl,_,rfl,?_⟩
  generalize digO q 8=wy at *
  have half:((m:Int) / 2)=((m / 2:Nat):Int):=by omega
  have dr:hU [.ref p,.int (m:Int)] H1 (fun x H2=>fL [x] H2 Q E) E:=⟨p,_,m,rfl,y1,aY pok,hm,fun R vr ts q2 H2 hR0 b2 hp2 pok2 hR tr hl hg=>end_ R vr ts q2 H2 b2 hp2 pok2 hR tr (by omega) hg⟩
  by_cases h0:wy=0
  ·subst h0
   refine iteT ⟨_,rfl,_,_,rfl,rfl,_,rfl,?_⟩
   show if decide ((15:Int) < (m:Int))=true then _ else _
   by_cases hb:(15:Int) < (m:Int)
   ·rw[decide_eq_true hb]
    refine iteT ?_
    refine⟨_,rfl,p,_,rfl,y1,aY pok,fun R vr ts q2 H2 hR0 b2 hp2 pok2 hR tr hl hg=>?_⟩
    exact end_ R vr ts q2 H2 b2 hp2 pok2 hR tr (by omega) hg
   ·rw[decide_eq_false hb]
    refine iteF ⟨_,rfl,rfl,_,rfl,?_⟩
    rw[show decide (V.int (0:Int)=V.int 1)=false from decide_eq_false fun z=>by cases z]
    exact iteF ⟨_,rfl,_,_,rfl,rfl,_,rfl,iteT ⟨_,rfl,_,rfl,dr⟩⟩
  ·rw[show decide (V.int wy=V.int 0)=false from decide_eq_false fun z=>h0 (V.int.inj z)]
   refine iteF (iteF ⟨_,rfl,rfl,_,rfl,?_⟩)
   by_cases h1:wy=1
   ·subst h1
    refine iteT ?_
    refine⟨_,rfl,_,rfl,_,_,rfl,rfl,⟨by decide,by decide +kernel⟩,p,_,m / 2,by rw[←half];rfl,y1,aY pok,by omega,fun R vr ts q2 H2 hR0 b2 hp2 pok2 hR tr hl hg=>?_⟩
    refine⟨_,rfl,_,rfl,_,_,rfl,rfl,⟨by decide,by decide +kernel⟩,p,_,m / 2,by rw[←half];rfl,hp2,pok2,by omega,fun R3 vr3 ts3 q3 H3 hR30 b3 hp3 pok3 hR3 tr3 hl3 hg3=>?_⟩
    have nRp:R≠p:=fun z=>by rw[z,y1] at hR0;cases hR0
    refine⟨R,R3,vr,vr3,ts,ts3,rfl,b3 _ _ nRp hR,sT b3 hp2 tr,by omega,hg,hR3,tr3,by omega,hg3,fun R4 vr4 ts4 H4 hR40 s4 hR4 tr4 hl4 hg4=>?_⟩
    exact end_ R4 vr4 ts4 q3 H4 (fun b' o n e=>s4 _ _ (b3 b' o n (b2 b' o n e))) (s4 _ _ hp3) pok3 hR4 tr4 (by omega) hg4
   ·rw[show decide (V.int wy=V.int 1)=false from decide_eq_false fun z=>h1 (V.int.inj z)]
    refine iteF ⟨_,rfl,_,_,rfl,rfl,_,rfl,?_⟩
    show if decide (wy < 5)=true then _ else _
    by_cases h5:wy < 5
    ·rw[decide_eq_true h5]
     exact iteT ⟨_,rfl,_,rfl,dr⟩
    ·rw[decide_eq_false h5]
     refine iteF ?_
     refine⟨_,rfl,_,rfl,p,_,m,rfl,y1,aY pok,hm,fun R vr ts q2 H2 hR0 b2 hp2 pok2 hR tr hl hg=>?_⟩
     exact end_ R vr ts q2 H2 b2 hp2 pok2 hR tr (by omega) hg
end
end K15
end
section
namespace K15
def nxt (n k:Nat):Nat:=(k+1) % n
def wtri (n k:Nat):Tri:=(0,1+k,1+nxt n k)
def wheel (n:Nat) (S:List Nat):List Tri:=S.map (wtri n)
theorem md {x n:Nat} (h:x < 2 * n):x % n=if x < n then x else x - n:=by
 split
 ·exact Nat.mod_eq_of_lt ‹_›
 ·rw[Nat.mod_eq_sub_mod (by omega),Nat.mod_eq_of_lt (by omega)]
theorem gv {n k:Nat} (h:k < n):nxt n k=if k+1 < n then k+1 else k+1 - n:=md (by omega)
theorem om {n k m:Nat} (h:k < n) (h':m < n) (e:nxt n k=nxt n m):k=m:=by
 rw[gv h,gv h'] at e
 split at e <;> split at e <;> omega
theorem me {n:Nat} {S:List Nat} {a b c:Nat}:En (wheel n S) a b c↔∃k∈S,(a=0∧b=1+k∧c=1+nxt n k)∨(a=1+k∧b=1+nxt n k∧c=0)∨(a=1+nxt n k∧b=0∧c=1+k):=by
 unfold En
 rw[bq]
 unfold wheel wtri
 simp only[List.mem_map,Prod.mk.injEq]
 constructor
 ·rintro (⟨k,hk,h1,h2,h3⟩|⟨k,hk,h1,h2,h3⟩|⟨k,hk,h1,h2,h3⟩)
  ·exact⟨k,hk,.inl ⟨h1.symm,h2.symm,h3.symm⟩⟩
  ·exact⟨k,hk,.inr (.inl ⟨h2.symm,h3.symm,h1.symm⟩)⟩
  ·exact⟨k,hk,.inr (.inr ⟨h3.symm,h1.symm,h2.symm⟩)⟩
 ·rintro⟨k,hk,⟨rfl,rfl,rfl⟩|⟨rfl,rfl,rfl⟩|⟨rfl,rfl,rfl⟩⟩
  ·exact .inl ⟨k,hk,rfl,rfl,rfl⟩
  ·exact .inr (.inl ⟨k,hk,rfl,rfl,rfl⟩)
  ·exact .inr (.inr ⟨k,hk,rfl,rfl,rfl⟩)
theorem nF {n:Nat} (hn:3≤n):Good (wheel n (List.range n)):=by
 refine⟨fun t ht=>?_,?_⟩
 ·obtain⟨k,hk,rfl⟩:=List.mem_map.mp ht
  have hk:=List.mem_range.mp hk
  have e:=gv hk
  refine⟨by show 0≠1+k;omega,?_,by show 1+nxt n k≠0;omega⟩
  show 1+k≠1+nxt n k
  rw[e];split <;> omega
 ·unfold ents wheel
  rw[List.map_flatMap,List.flatMap_map,List.Nodup,List.pairwise_flatMap]
  refine⟨fun k hk=>?_,List.pairwise_lt_range.imp_of_mem fun {a b} ha hb hab x hx y hy=>?_⟩
  ·have hk:=List.mem_range.mp hk
   have e:=gv hk
   simp only[wtri,List.map_cons,List.map_nil,List.pairwise_cons,List.mem_cons,List.not_mem_nil,or_false,ne_eq,forall_eq_or_imp,forall_eq,Prod.mk.injEq,List.Pairwise.nil,and_true,false_implies,implies_true]
   omega
  ·have ha:=List.mem_range.mp ha
   have hb:=List.mem_range.mp hb
   simp only[wtri,List.map_cons,List.map_nil,List.mem_cons,List.not_mem_nil,or_false] at hx hy
   have ni:nxt n a≠nxt n b:=fun z=>by have:=om ha hb z;omega
   rcases hx with rfl|rfl|rfl <;> rcases hy with rfl|rfl|rfl <;> simp only[ne_eq,Prod.mk.injEq] <;> omega
theorem o0 {n:Nat} {S:List Nat} (hS:∀k∈S,k < n) (hn:3≤n) (h0:One (En (wheel n S)) 0) (c:Nat):One (En (wheel n S)) c∨¬Co (wheel n S) c:=by
 by_cases hc:Co (wheel n S) c
 ·left
  by_cases c0:c=0
  ·subst c0;exact h0
  have st:∀p q,En (wheel n S) c p q↔(∃k∈S,c=1+k∧p=1+nxt n k∧q=0)∨(∃k∈S,c=1+nxt n k∧p=0∧q=1+k):=fun p q=>by
   rw[me]
   constructor
   ·rintro⟨k,hk,h|h|h⟩
    ·exact (c0 h.1).elim
    ·exact .inl ⟨k,hk,h⟩
    ·exact .inr ⟨k,hk,h⟩
   ·rintro (⟨k,hk,h⟩|⟨k,hk,h⟩)
    ·exact⟨k,hk,.inr (.inl h)⟩
    ·exact⟨k,hk,.inr (.inr h)⟩
  have u1:∀{k m},k∈S→m∈S→c=1+nxt n k→c=1+nxt n m→k=m:=fun hk hm e1 e2=>om (hS _ hk) (hS _ hm) (by omega)
  by_cases A:∃k∈S,c=1+k <;> by_cases B:∃k∈S,c=1+nxt n k
  ·obtain⟨a,ha,ea⟩:=A
   obtain⟨b,hb,eb⟩:=B
   have key:∀p,(∃q,En (wheel n S) c p q)→p∈[1+nxt n a,0]:=fun p ⟨q,h⟩=>by
    rcases (st p q).mp h with ⟨k,hk,e1,e2,_⟩|⟨k,hk,e1,e2,_⟩
    ·rw[show k=a by omega] at e2;rw[e2];simp
    ·rw[e2];simp
   refine⟨[1+nxt n a,0],⟨by simp,by simp,fun i p q h1 h2=>?_,fun p hp=>?_,fun p _ q _ hq=>key q hq,fun p _ o ho=>key o ⟨p,ho⟩⟩,key⟩
   ·match i with
    |0=>simp at h1 h2;exact (st p q).mpr (.inl ⟨a,ha,ea,h1.symm,h2.symm⟩)
    |i+1=>simp at h2
   ·simp only[List.mem_cons,List.not_mem_nil,or_false] at hp
    rcases hp with rfl|rfl
    ·exact⟨0,(st _ _).mpr (.inl ⟨a,ha,ea,rfl,rfl⟩)⟩
    ·exact⟨1+b,(st _ _).mpr (.inr ⟨b,hb,eb,rfl,rfl⟩)⟩
  ·obtain⟨a,ha,ea⟩:=A
   have key:∀p,(∃q,En (wheel n S) c p q)→p∈[1+nxt n a]:=fun p ⟨q,h⟩=>by
    rcases (st p q).mp h with ⟨k,hk,e1,e2,_⟩|⟨k,hk,e1,_⟩
    ·rw[show k=a by omega] at e2;rw[e2];simp
    ·exact (B ⟨k,hk,e1⟩).elim
   refine⟨[1+nxt n a],⟨by simp,by simp,fun i p q h1 h2=>by simp at h2,fun p hp=>?_,fun p _ q _ hq=>key q hq,fun p _ o ho=>key o ⟨p,ho⟩⟩,key⟩
   rw[List.mem_singleton.mp hp]
   exact⟨0,(st _ _).mpr (.inl ⟨a,ha,ea,rfl,rfl⟩)⟩
  ·obtain⟨b,hb,eb⟩:=B
   have key:∀p,(∃q,En (wheel n S) c p q)→p∈[0]:=fun p ⟨q,h⟩=>by
    rcases (st p q).mp h with ⟨k,hk,e1,_⟩|⟨k,hk,_,e2,_⟩
    ·exact (A ⟨k,hk,e1⟩).elim
    ·rw[e2];simp
   refine⟨[0],⟨by simp,by simp,fun i p q h1 h2=>by simp at h2,fun p hp=>?_,fun p _ q _ hq=>key q hq,fun p _ o ho=>key o ⟨p,ho⟩⟩,key⟩
   rw[List.mem_singleton.mp hp]
   exact⟨1+b,(st _ _).mpr (.inr ⟨b,hb,eb,rfl,rfl⟩)⟩
  ·obtain⟨p,q,h⟩:=hc
   rcases (st p q).mp h with ⟨k,hk,e1,_⟩|⟨k,hk,e1,_⟩
   ·exact (A ⟨k,hk,e1⟩).elim
   ·exact (B ⟨k,hk,e1⟩).elim
 ·exact .inr hc
theorem kZ {n:Nat} {S:List Nat} {p q:Nat}:En (wheel n S) 0 p q↔∃k∈S,p=1+k∧q=1+nxt n k:=by
 rw[me]
 constructor
 ·rintro⟨k,hk,⟨_,h⟩|⟨h,_⟩|⟨h,_⟩⟩
  ·exact⟨k,hk,h⟩
  ·omega
  ·omega
 ·rintro⟨k,hk,h⟩
  exact⟨k,hk,.inl ⟨rfl,h⟩⟩
theorem rB {n m:Nat} {S:List Nat} {w:Nat→Nat} (hm:1≤m) (hw:∀i,i < m→w i∈S) (cov:∀k∈S,∃i,i < m∧w i=k) (inj:∀i j,i < m→j < m→w i=w j→i=j) (ch:∀i,i+1 < m→w (i+1)=nxt n (w i)) :
  Fan (En (wheel n S)) 0 ((List.range m).map fun i=>1+w i)∧∀p,(∃q,En (wheel n S) 0 p q)→p∈(List.range m).map fun i=>1+w i:=by
 have all:∀p,(∃q,En (wheel n S) 0 p q)→p∈(List.range m).map fun i=>1+w i:=fun p ⟨q,h⟩=>by
  obtain⟨k,hk,rfl,_⟩:=kZ.mp h
  obtain⟨i,hi,rfl⟩:=cov k hk
  exact List.mem_map.mpr ⟨i,List.mem_range.mpr hi,rfl⟩
 refine⟨⟨fun z=>?_,?_,fun i p q h1 h2=>?_,fun p hp=>?_,fun p _ q _ hq=>all q hq,fun p _ o ho=>all o ⟨p,ho⟩⟩,all⟩
 ·have:=congrArg List.length z
  simp at this
  omega
 ·rw[List.Nodup,List.pairwise_map]
  refine List.pairwise_lt_range.imp_of_mem fun {a b} ha hb hab z=>?_
  have:=inj a b (List.mem_range.mp ha) (List.mem_range.mp hb) (by omega)
  omega
 ·rw[List.getElem?_map] at h1 h2
  obtain⟨i1,e1,rfl⟩:=Option.map_eq_some_iff.mp h1
  obtain⟨i2,e2,rfl⟩:=Option.map_eq_some_iff.mp h2
  obtain⟨l1,e1⟩:=List.getElem?_eq_some_iff.mp e1
  obtain⟨l2,e2⟩:=List.getElem?_eq_some_iff.mp e2
  rw[List.length_range] at l1 l2
  rw[List.getElem_range] at e1 e2
  subst e1 e2
  exact kZ.mpr ⟨w i,hw i l1,rfl,by rw[ch i l2]⟩
 ·obtain⟨i,hi,rfl⟩:=List.mem_map.mp hp
  exact⟨_,kZ.mpr ⟨w i,hw i (List.mem_range.mp hi),rfl,rfl⟩⟩
end K15
end
section
namespace K15
open PySem L2 K51 K31
theorem ut {t u v:Tri} (hne:t.1≠t.2.1∧t.2.1≠t.2.2∧t.2.2≠t.1) (h1:Bg t u) (h2:Bg t v):u=v:=by
 obtain⟨a,b,c⟩:=t
 obtain⟨n1,n2,n3⟩:=hne
 obtain⟨e1,p1,p2⟩:=h1
 obtain⟨e2,q1,q2⟩:=h2
 simp only at n1 n2 n3 e1 e2
 rcases e1 with rfl|rfl|rfl <;> rcases e2 with rfl|rfl|rfl <;> simp only at p1 p2 q1 q2 <;> first|rfl|(exfalso;omega)
theorem lex3 {a b:Tri} (h1:HT.lexLt [(b.1:Int),(b.2.1:Int),(b.2.2:Int)] [(a.1:Int),(a.2.1:Int),(a.2.2:Int)]=false) (h2:HT.lexLt [(a.1:Int),(a.2.1:Int),(a.2.2:Int)] [(b.1:Int),(b.2.1:Int),(b.2.2:Int)]=false):a=b:=by
 obtain⟨a1,a2,a3⟩:=a
 obtain⟨b1,b2,b3⟩:=b
 simp[HT.lexLt] at h1 h2
 have e1:a1=b1:=by split at h1 <;> split at h2 <;> omega
 subst e1
 rw[if_pos rfl] at h1 h2
 have e2:a2=b2:=by split at h1 <;> split at h2 <;> omega
 subst e2
 rw[if_pos rfl] at h1 h2
 have e3:a3=b3:=by omega
 rw[e3]
theorem qc {us vs:List Tri} (p:us.Perm vs) (h1:Srt us) (h2:Srt vs):us=vs:=by
 refine List.Perm.eq_of_pairwise (fun a b _ _ x y=>lex3 x y) h1 h2 p
def triD (u:Tri):PyData:=.tuple [.int (u.1:Int),.int (u.2.1:Int),.int (u.2.2:Int)]
theorem pZ {K:W.Frag} {H:Hp} {vs:List V} {us:List Tri} (h:ay H vs us):Dts K H vs (us.map triD):=by
 induction h with
 |nil=>exact .nil
 |cons q _ ih=>
  obtain⟨a,rfl,ha⟩:=q
  exact .cons (.tup (SqT.of ha) (.cons (.int _) (.cons (.int _) (.cons (.int _) .nil)))) ih
theorem oT (us:List Tri):(PyData.list (us.map triD)).depth≤60:=by
 have:PyData.depthAll (us.map triD)≤1:=by
  induction us with
  |nil=>exact Nat.zero_le _
  |cons u us ih=>
   rw[List.map_cons]
   show max (triD u).depth _≤1
   have:(triD u).depth=1:=by simp[triD,PyData.depth,PyData.depthAll]
   omega
 show PyData.depthAll _+1≤60
 omega
theorem p4 (us:List Tri):PyData.eqv (.list (us.map triD)) (.list (us.map triD))=true:=by
 have nb:noBl (.list (us.map triD))=true:=by
  show cm (us.map triD)=true
  induction us with
  |nil=>rfl
  |cons u us ih=>
   rw[List.map_cons]
   show (noBl (triD u)&&cm (us.map triD))=true
   rw[ih];rfl
 exact (fX _ _ nb nb).mpr rfl
theorem oI {t u:Tri} (h:Bg t u):((u.1,u.2.1),u.2.2)∈ents [t]:=by
 obtain⟨a,b,c⟩:=t
 obtain⟨e,_⟩:=h
 rcases e with rfl|rfl|rfl <;> simp[ents]
theorem wP {t u:Tri} (h:((u.1,u.2.1),u.2.2)∈ents [t]) (h1:u.1≤u.2.1∧u.1≤u.2.2):Bg t u:=by
 obtain⟨a,b,c⟩:=t
 obtain⟨x,y,z⟩:=u
 simp only[ents,List.flatMap_cons,List.flatMap_nil,List.append_nil,List.mem_cons,List.not_mem_nil,or_false,Prod.mk.injEq] at h
 refine⟨?_,h1⟩
 rcases h with ⟨⟨rfl,rfl⟩,rfl⟩|⟨⟨rfl,rfl⟩,rfl⟩|⟨⟨rfl,rfl⟩,rfl⟩
 ·exact .inl rfl
 ·exact .inr (.inl rfl)
 ·exact .inr (.inr rfl)
theorem lc {ts ws:List Tri} (hne:∀t∈ts,t.1≠t.2.1∧t.2.1≠t.2.2∧t.2.2≠t.1) (h:Paired Bg ts ws) (u:Tri):u∈ws↔((u.1,u.2.1),u.2.2)∈ents ts∧u.1≤u.2.1∧u.1≤u.2.2:=by
 induction h with
 |nil=>simp[ents]
 |cons r t ih=>
  rename_i x y l m
  have ih:=ih fun t ht=>hne t (List.mem_cons_of_mem _ ht)
  rw[List.mem_cons,ih,cO,List.mem_append]
  constructor
  ·rintro (rfl|h)
   ·exact⟨.inl (oI r),r.2⟩
   ·exact⟨.inr h.1,h.2⟩
  ·rintro⟨h|h,h2⟩
   ·exact .inl (ut (hne x (by simp)) (wP h h2) r)
   ·exact .inr ⟨h,h2⟩
theorem sJ {ts ws:List Tri} (nd:((ents ts).map (·.1)).Nodup) (hne:∀t∈ts,t.1≠t.2.1∧t.2.1≠t.2.2∧t.2.2≠t.1) (h:Paired Bg ts ws):ws.Nodup:=by
 induction h with
 |nil=>exact List.nodup_nil
 |cons r t ih=>
  rename_i x y l m
  have hne':∀t∈l,t.1≠t.2.1∧t.2.1≠t.2.2∧t.2.2≠t.1:=fun t ht=>hne t (List.mem_cons_of_mem _ ht)
  rw[cO,List.map_append,List.nodup_append] at nd
  rw[List.nodup_cons]
  refine⟨fun z=>?_,ih nd.2.1 hne'⟩
  have h1:=((lc hne' t y).mp z).1
  exact nd.2.2 _ (List.mem_map.mpr ⟨_,oI r,rfl⟩) _ (List.mem_map.mpr ⟨_,h1,rfl⟩) rfl
theorem sI {ss ts ws ws':List Tri} (g:Good ss) (g':Good ts) (p:(ents ss).Perm (ents ts)) (h:Paired Bg ss ws) (h':Paired Bg ts ws'):ws.Perm ws':=by
 rw[List.perm_ext_iff_of_nodup (sJ g.nd g.ne h) (sJ g'.nd g'.ne h')]
 intro u
 rw[lc g.ne h,lc g'.ne h',p.mem_iff]
theorem tE {l m:List Nat} (h1:l.Pairwise (· < ·)) (h2:m.Pairwise (· < ·)) (h:∀c,c∈l↔c∈m):l=m:=by
 have p:l.Perm m:=(List.perm_ext_iff_of_nodup (h1.imp fun {a b} z=>Nat.ne_of_lt z) (h2.imp fun {a b} z=>Nat.ne_of_lt z)).mpr h
 exact List.Perm.eq_of_pairwise (fun a b _ _ x y=>absurd x (Nat.lt_asymm y)) h1 h2 p
theorem pW {l m:List Ent} (nd:(l.map (·.1)).Nodup) (p:l.Perm m) (a b:Nat):valV (l.map entV) (ky a b)=valV (m.map entV) (ky a b):=by
 have nd':(m.map (·.1)).Nodup:=(p.map (·.1)).nodup_iff.mp nd
 cases h:valV (l.map entV) (ky a b) with
 |none=>
  have:=cu.mp h
  exact (cu.mpr fun z=>this ((p.map (·.1)).mem_iff.mpr z)).symm
 |some v=>
  by_cases hm:(a,b)∈l.map (·.1)
  ·obtain⟨⟨⟨a',b'⟩,c⟩,h1,h2⟩:=List.mem_map.mp hm
   cases h2
   have e:=(iq nd).mpr h1
   rw[h] at e
   rw[e,(iq nd').mpr (p.mem_iff.mp h1)]
  ·rw[cu.mpr hm] at h;cases h
end K15
end
section
namespace L2
open PySem PySem.Spec PyProof.Rows PySem.StrLaws
def inter (sep:List Nat):List (List Nat)→List Nat
 | []=>[]
 | [l]=>l
 |l::m::r=>l++sep++inter sep (m::r)
theorem nS (x:List Nat) (a b:Nat):Builtin.Str.strSub (txt x) a b=txt ((x.drop a).take (b - a)):=by
 apply Str.ext'
 apply Array.toList_inj.mp
 rw[strSub_toList,cP,cP]
theorem sL {x y:List Nat} {i:Nat}:At (txt x) (txt y) (txt x).length i↔i+y.length≤x.length∧(x.drop i).take y.length=y:=by
 unfold At
 rw[subAt_eq,bm,bm,cP,cP,beq_iff_eq]
theorem lI {s0:Nat} {sr:List Nat}:∀(ls:List (List Nat)) (l:List Nat) (pre:List Nat) (cuts:List Nat) (f:Nat),(∀p∈l::ls,s0∉p) →
  ChainG (txt (pre++inter (s0::sr) (l::ls))) (txt (s0::sr)) (txt (pre++inter (s0::sr) (l::ls))).length pre.length cuts f→(∀k,f≤k→¬At (txt (pre++inter (s0::sr) (l::ls))) (txt (s0::sr)) (txt (pre++inter (s0::sr) (l::ls))).length k) →
  partsFrom (txt (pre++inter (s0::sr) (l::ls))) (txt (s0::sr)).length pre.length cuts=(l::ls).map txt:=by
 intro ls
 have head:∀{x:List Nat} {k:Nat},At (txt x) (txt (s0::sr)) (txt x).length k→x[k]? = some s0:=fun {x k} h=>by
  obtain⟨h1,h2⟩:=sL.mp h
  have e:=congrArg (fun z=>z[0]?) h2
  simp only[List.length_cons,List.getElem?_take_of_lt (Nat.succ_pos _),List.getElem?_drop,Nat.add_zero,List.getElem?_cons_zero] at e
  exact e
 induction ls with
 |nil=>
  intro l pre cuts f hp ch fr
  have no:∀k,pre.length≤k→¬At (txt (pre++l)) (txt (s0::sr)) (txt (pre++l)).length k:=fun k hk z=>by
   have e:=head z
   rw[List.getElem?_append_right hk] at e
   exact hp l (by simp) (List.mem_of_getElem? e)
  cases cuts with
  |cons c r=>exact (no c ch.1 ch.2.1).elim
  |nil=>
   show [Builtin.Str.strSub _ _ _]=_
   rw[nS,bm]
   show [txt ((List.drop pre.length (pre++l)).take ((pre++l).length - pre.length))]=[txt l]
   rw[List.drop_left,List.length_append,Nat.add_sub_cancel_left,List.take_length]
 |cons m ls ih=>
  intro l pre cuts f hp ch fr
  have hx:pre++inter (s0::sr) (l::m::ls)=(pre++l++(s0::sr))++inter (s0::sr) (m::ls):=by
   show pre++(l++(s0::sr)++inter (s0::sr) (m::ls))=_
   simp[List.append_assoc]
  rw[hx] at ch fr ⊢
  have here:At (txt ((pre++l++(s0::sr))++inter (s0::sr) (m::ls))) (txt (s0::sr)) (txt ((pre++l++(s0::sr))++inter (s0::sr) (m::ls))).length (pre.length+l.length):=by
   rw[sL]
   refine⟨by simp only[List.length_append];omega,?_⟩
   rw[show pre.length+l.length=(pre++l).length by rw[List.length_append],List.append_assoc,List.drop_left,List.take_left]
  have no:∀k,pre.length≤k→k < pre.length+l.length→¬At (txt ((pre++l++(s0::sr))++inter (s0::sr) (m::ls))) (txt (s0::sr)) (txt ((pre++l++(s0::sr))++inter (s0::sr) (m::ls))).length k:=fun k h1 h2 z=>by
   have e:=head z
   rw[List.append_assoc,List.append_assoc,List.getElem?_append_right h1,List.getElem?_append_left (by omega)] at e
   exact hp l (by simp) (List.mem_of_getElem? e)
  cases cuts with
  |nil=>
   have e:f=pre.length:=ch
   exact (fr _ (by omega) here).elim
  |cons c r=>
   obtain⟨c1,c2,c3,c4⟩:=ch
   have ec:c=pre.length+l.length:=by
    rcases Nat.lt_trichotomy c (pre.length+l.length) with h|h|h
    ·exact (no c c1 h c2).elim
    ·exact h
    ·exact (c3 _ (by omega) h here).elim
   subst ec
   have hl:(pre++l++(s0::sr)).length=pre.length+l.length+(txt (s0::sr)).length:=by rw[bm,List.length_append,List.length_append]
   have z:=ih m (pre++l++(s0::sr)) r f (fun p h=>hp p (List.mem_cons_of_mem _ h)) (by rw[hl];exact c4) fr
   show Builtin.Str.strSub _ _ _::partsFrom _ _ _ _=_
   rw[←hl,z,nS,Nat.add_sub_cancel_left,List.append_assoc,List.append_assoc,List.drop_left,List.take_left]
   rfl
theorem lp {s0:Nat} {sr:List Nat} (h256:∀c∈s0::sr,c < 256) {ls:List (List Nat)} (hne:ls≠[]) (hp:∀p∈ls,s0∉p):Txt.split (txt (inter (s0::sr) ls)) (txt (s0::sr))=ls.map txt:=by
 obtain⟨l,ls,rfl⟩:=List.exists_cons_of_ne_nil hne
 obtain⟨f,ch,fr⟩:=occ_tight (txt (inter (s0::sr) (l::ls))) (txt (s0::sr)) (by rw[bm];simp)
 have key:=lI (s0:=s0) (sr:=sr) ls l [] _ f hp (by simpa using ch) (by simpa using fr)
 rw[List.nil_append,List.length_nil] at key
 have one:inter (s0::sr) (l::ls)=l∨∃m r,ls=m::r:=by cases ls with
  |nil=>exact .inl rfl
  |cons m r=>exact .inr ⟨m,r,rfl⟩
 have k1:Builtin.Str.strKind (txt (s0::sr))=1:=by
  unfold Builtin.Str.strKind
  rw[if_pos]
  rw[Array.all_eq_true]
  intro i hi
  have:=h256 ((txt (s0::sr)).cps[i]) (by have:=Array.getElem_mem hi;rw[←Array.mem_toList_iff,cP] at this;exact this)
  simpa using this
 have k2:∀z:Str,1≤Builtin.Str.strKind z:=fun z=>by
  unfold Builtin.Str.strKind
  split
  ·exact Nat.le_refl _
  ·split <;> omega
 unfold Txt.split
 split
 ·rename_i h
  rw[k1] at h
  have hl:(txt (inter (s0::sr) (l::ls))).length < (txt (s0::sr)).length:=by
   rcases Bool.or_eq_true_iff.mp h with h|h
   ·exact of_decide_eq_true h
   ·have:=of_decide_eq_true h;have:=k2 (txt (inter (s0::sr) (l::ls)));omega
  cases ls with
  |nil=>rfl
  |cons m r=>
   exfalso
   rw[bm,bm] at hl
   have:(inter (s0::sr) (l::m::r)).length=l.length+(s0::sr).length+(inter (s0::sr) (m::r)).length:=by
    show (l++(s0::sr)++inter (s0::sr) (m::r)).length=_
    rw[List.length_append,List.length_append]
   omega
 ·split
  ·rename_i h
   have e:Builtin.Str.occurrences (txt (inter (s0::sr) (l::ls))) (txt (s0::sr)) 0 (txt (inter (s0::sr) (l::ls))).length ((txt (inter (s0::sr) (l::ls))).length+1)=[]:=by simpa using h
   rw[e] at key
   have key:[Builtin.Str.strSub _ _ _]=_:=key
   rw[sub_whole] at key
   exact key
  ·rw[partsBetween_eq];exact key
section
variable {X:Cx}
def qp (K:W.Frag):V→List V→Hp→VK→Prop:=fun x vs H Q=>∃(sep:List Nat) (a:Addr) (ls:List (List Nat)),x=.str (txt sep)∧vs=[.ref a]∧SqL K H a (ls.map fun l=>V.str (txt l))∧ls.flatten.length+(ls.length+1) * sep.length≤sizeLine∧Q (.str (txt (inter sep ls))) H
theorem lZ (sep:List Nat):∀(ls:List (List Nat)) (acc:List Nat),(ls.map txt).foldl (fun (acc:Array Nat) p=>acc++(txt sep).cps++p.cps) acc.toArray=(match ls with | []=>acc|_=>acc++sep++inter sep ls).toArray
 | [],acc=>by simp
 | [l],acc=>by simp[txt,inter]
 |l::m::r,acc=>by
  rw[List.map_cons,List.foldl_cons]
  have e:acc.toArray++(txt sep).cps++(txt l).cps=(acc++sep++l).toArray:=by simp[txt]
  rw[e,lZ sep (m::r) (acc++sep++l)]
  simp[inter,List.append_assoc]
theorem wK (sep:List Nat) (ls:List (List Nat)):Builtin.Str.glued (txt sep) (ls.map txt)=txt (inter sep ls):=by
 unfold Builtin.Str.glued
 cases ls with
 |nil=>rfl
 |cons l ls=>
  have:=lZ sep ls l
  rw[List.map_cons,List.drop_one,List.tail_cons]
  show (⟨List.foldl _ (txt l).cps (ls.map txt)⟩:Str)=_
  rw[show (txt l).cps=l.toArray from rfl,this]
  cases ls <;> rfl
theorem sumS (sep:List Nat) (ls:List (List Nat)) (n:Nat):(ls.map txt).toArray.foldl (fun (a:Nat) (z:Str)=>a+z.length+(txt sep).length) n=n+ls.flatten.length+ls.length * sep.length:=by
 rw[←Array.foldl_toList]
 show (ls.map txt).foldl _ n=_
 induction ls generalizing n with
 |nil=>simp
 |cons l ls ih=>
  rw[List.map_cons,List.foldl_cons,ih,bm,bm,List.flatten_cons,List.length_append,List.length_cons,Nat.succ_mul]
  omega
theorem gC (sep:List Nat):∀ls:List (List Nat),(inter sep ls).length≤ls.flatten.length+ls.length * sep.length
 | []=>by simp[inter]
 | [l]=>by simp[inter]
 |l::m::r=>by
  have:=gC sep (m::r)
  show (l++sep++inter sep (m::r)).length≤_
  rw[List.length_append,List.length_append,List.flatten_cons,List.length_append,List.length_cons (as:=m::r),Nat.succ_mul]
  omega
theorem fU:MtR X "str.join" (qp X.K):=by
 intro pins s σ H x vs v us Q I rx rv h
 obtain⟨sep,a,ls,rfl,rfl,hq,hz,q⟩:=h
 obtain⟨t,rfl⟩:=rx
 obtain⟨u,rfl,ru⟩:=rv.one
 cases ru
 obtain⟨its,r,pl,hz'⟩:=I.list hq
 obtain⟨l,rfl,el⟩:=ld r
 have hs:=sumS sep ls 0
 rw[←el] at hs
 have hil:=gC sep ls
 rw[Nat.succ_mul] at hz
 refine call_meets F.slot_str_join (typeIs_str s _ t) F.entry_str_join (F.args_str_join_2 _ _) (meets_str_join_list (txt sep) t a l (by
  rw[hs]
  unfold Builtin.Str.tooLong
  exact decide_eq_false (by omega))) ⟨pl.isList,?_⟩
 have hg:=wK sep ls
 rw[←el] at hg
 have key:∀tk k,EP X pins σ Q (.str (txt (inter sep ls)) tk) {s with toks:=k}:=fun tk k=>⟨.str _,H,I.tok _,⟨_,rfl⟩,q⟩
 have hzz:(txt (inter sep ls)).length≤sizeLine:=by rw[bm];omega
 match l,hg with
 | [],hg=>
  show _∧_
  rw[hg]
  exact⟨hzz,key _ _⟩
 | [(p,t2)],hg=>
  have e:p=txt (inter sep ls):=by
   rw[←hg]
   show p=(⟨p.cps⟩:Str)
   rfl
  rw[e]
  exact key _ _
 |(p,t2)::p'::r',hg=>
  show _∧_
  rw[hg]
  exact⟨hzz,key _ _⟩
def tG:V→List V→Hp→VK→Prop:=fun x vs H Q=>∃(s0:Nat) (sr:List Nat) (ls:List (List Nat)),x=.str (txt (inter (s0::sr) ls))∧vs=[.str (txt (s0::sr))]∧ls≠[]∧(∀c∈s0::sr,c < 256)∧(∀p∈ls,s0∉p)∧(inter (s0::sr) ls).length+2≤sizeLine∧∀p,H p=none→Q (.ref p) (upd H p (.lst (ls.map fun z=>V.str (txt z))))
theorem jB:MtR X "str.split" tG:=by
 intro pins s σ H x vs v us Q I rx rv h
 obtain⟨s0,sr,ls,rfl,rfl,hne,h256,hp,hz,q⟩:=h
 obtain⟨t,rfl⟩:=rx
 obtain⟨u,rfl,t',rfl⟩:=rv.one
 have q:=q s.heap.objs.size I.fresh
 have e:=lp h256 hne hp
 rw[show (ls.map fun z=>V.str (txt z))=(Txt.split (txt (inter (s0::sr) ls)) (txt (s0::sr))).map fun z=>V.str z by rw[e,List.map_map];rfl] at q
 clear e
 generalize inter (s0::sr) ls=l at q hz
 unfold Txt.split at q
 by_cases h1:(decide ((txt l).length < (txt (s0::sr)).length)||decide (Builtin.Str.strKind (txt l) < Builtin.Str.strKind (txt (s0::sr))))=true
 ·rw[if_pos h1] at q
  refine call_meets F.slot_str_split (typeIs_str s _ t) F.entry_str_split (F.args_str_split_2 _ _) (meets_str_split_cannot_occur (txt l) (txt (s0::sr)) t t' h1) ?_
  exact⟨.ref _,_,I.lnew (ys:=[V.str (txt l)]) (its:=[Value.str (txt l) t]) (.cons ⟨t,rfl⟩ .nil) (by show 1≤sizeLine;decide),rfl,q⟩
 ·rw[if_neg h1] at q
  have h1:=Bool.eq_false_iff.mpr h1
  have hy:((txt (s0::sr)).length==0)=false:=by rw[bm];rfl
  by_cases hf:(Builtin.Str.occurrences (txt l) (txt (s0::sr)) 0 (txt l).length ((txt l).length+1)).isEmpty=true
  ·rw[if_pos hf] at q
   refine call_meets F.slot_str_split (typeIs_str s _ t) F.entry_str_split (F.args_str_split_2 _ _) (meets_str_split_not_found (txt l) (txt (s0::sr)) t t' h1 hy hf) ?_
   exact⟨.ref _,_,I.lnew (ys:=[V.str (txt l)]) (its:=[Value.str (txt l) t]) (.cons ⟨t,rfl⟩ .nil) (by show 1≤sizeLine;decide),rfl,q⟩
  ·rw[if_neg hf] at q
   have hf:=Bool.eq_false_iff.mpr hf
   have hn:(Builtin.Str.partsBetween (txt l) (Builtin.Str.occurrences (txt l) (txt (s0::sr)) 0 (txt l).length ((txt l).length+1)) (txt (s0::sr)).length).length≤sizeLine:=by
    rw[m_]
    have h2:=StrLaws.occ_length_le_len (txt l) (txt (s0::sr)) 0 ((txt l).length) ((txt l).length+1)
    have h3:=bm l
    omega
   refine call_meets F.slot_str_split (typeIs_str s _ t) F.entry_str_split (F.args_str_split_2 _ _) (meets_str_split_sep (txt l) (txt (s0::sr)) t t' h1 hy hf (by rw[bm];omega) hn) ?_
   exact⟨.ref _,_,I.lnew (ff _ _) (by rw[List.length_map];exact hn),rfl,q⟩
end
end L2
end
section
namespace K51
open PySem L2
theorem my (l:List Nat):(decide (0+(txt [48]).length≤(txt l).length)&&Builtin.Str.subAt (txt l) (txt [48]) 0)=(l.head?==some 48):=by
 unfold Builtin.Str.subAt
 rw[bm,bm]
 cases l with
 |nil=>simp
 |cons c r=>
  have e:(txt (c::r)).cps.extract 0 (0 + [48].length)=#[c]:=by
   show (c::r).toArray.extract 0 1=#[c]
   simp
  rw[e]
  simp[txt]
theorem uh {l:List Nat} (h:fig l=true):NumText.AllDigits l:=fun c hc=>k_.mp (oy h c hc)
theorem vV {l:List Nat} (h:fig l=true):l≠[]:=fun e=>by subst e;simp[fig] at h
theorem ug {l:List Nat} (h:fig l=true):asc l:=fun c hc=>ul (oy h c hc)
end K51
namespace K15
open PySem L2 K51 K31
def figs (t:Tri):List (List Nat):=[digits t.1,digits t.2.1,digits t.2.2]
def triT (t:Tri):List Nat:=inter [32] (figs t)
def skT (ts:List Tri):List Nat:=inter [59,32] (ts.map triT)
def Lo (t:Tri):Prop:=t.1 < 10 ^ 60∧t.2.1 < 10 ^ 60∧t.2.2 < 10 ^ 60
theorem fig60 {n:Nat} (h:n < 10 ^ 60):(digits n).length≤60:=i7 59 n h
theorem nQ {t:Tri} (h:Lo t):(triT t).length≤182:=by
 show (digits t.1++[32]++(digits t.2.1++[32]++digits t.2.2)).length≤182
 simp only[List.length_append,List.length_singleton]
 have:=fig60 h.1
 have:=fig60 h.2.1
 have:=fig60 h.2.2
 omega
theorem p6 {t:Tri}:59∉triT t:=by
 show 59∉digits t.1++[32]++(digits t.2.1++[32]++digits t.2.2)
 have h:∀n,59∉digits n:=fun n z=>by have:=fE n _ z;revert this;decide
 simp only[List.mem_append,List.mem_singleton,not_or]
 exact⟨⟨h _,by decide⟩,⟨h _,by decide⟩,h _⟩
theorem pK {t:Tri}:∀p∈figs t,32∉p:=fun p hp z=>by
 simp only[figs,List.mem_cons,List.not_mem_nil,or_false] at hp
 rcases hp with rfl|rfl|rfl
 all_goals (have:=fE _ _ z;revert this;decide)
theorem uV {t:Tri}:triT t≠[]:=fun z=>by
 have:(digits t.1++[32]++(digits t.2.1++[32]++digits t.2.2)).length=0:=by
  rw[show digits t.1++[32]++(digits t.2.1++[32]++digits t.2.2)=triT t from rfl,z];rfl
 simp at this
theorem u7 {t:Tri} {ts:List Tri}:skT (t::ts)≠[]:=by
 cases ts with
 |nil=>exact uV
 |cons u ts=>
  intro z
  have:(triT t++[59,32]++inter [59,32] ((u::ts).map triT)).length=0:=by
   rw[show triT t++[59,32]++inter [59,32] ((u::ts).map triT)=skT (t::u::ts) from rfl,z];rfl
  simp at this
theorem l_ {ts:List Tri} (h:∀t∈ts,Lo t):(ts.map triT).flatten.length≤182 * ts.length:=by
 induction ts with
 |nil=>exact Nat.zero_le _
 |cons t ts ih=>
  have:=ih fun u hu=>h u (List.mem_cons_of_mem _ hu)
  have:=nQ (h t (by simp))
  rw[List.map_cons,List.flatten_cons,List.length_append,List.length_cons]
  omega
theorem line40k:50000≤sizeLine:=by rw[sizeLine_eq];decide
theorem s_b:(Str.ofString " ")=txt [32]:=by decide +kernel
theorem s_sb:(Str.ofString "; ")=txt [59,32]:=by decide +kernel
def qf:Sp:=fun vs H Q _=>∃n,vs=[.str (txt (digits n))]∧Q (.bl true) H
def gh:Sp:=fun vs H Q _=>∃(x:Addr) (t:Tri),vs=[.ref x]∧H x=some (.tup [.int (t.1:Int),.int (t.2.1:Int),.int (t.2.2:Int)])∧Lo t∧∀H',Same H H'→Q (.str (txt (triT t))) H'
def gi:Sp:=fun vs H Q _=>∃t:Tri,vs=[.str (txt (triT t))]∧Lo t∧∀x H',H x=none→Same H H'→H' x=some (.tup [.int (t.1:Int),.int (t.2.1:Int),.int (t.2.2:Int)])→Q (.ref x) H'
structure Use (P:Program) (w:World) (K:W.Frag) (mg:Str→Option Value) (base:Heap) (n:Nat) (x:Str) (ps:List Str) (sp:Sp) (f:Addr) (fd:FuncData):Prop where
 g:FnOk P w K mg base CX0 n f fd ps sp
 b:Binds K fd ps []
 m:mg x=some (.ref f)
 k:W.keepIn K (.ref f)=true
structure UseM (P:Program) (w:World) (K:W.Frag) (mg:Str→Option Value) (base:Heap) (C:Addr) (n:Nat) (x:Str) (ps:List Str) (sp:Sp) (f:Addr) (fd:FuncData):Prop where
 g:FnOk P w K mg base CX0 n f fd ps sp
 b:Binds K fd ps []
 m:Meth K C x f
section
variable {P:Program} {w:World} {K:W.Frag} {mg:Str→Option Value} {base:Heap}
theorem wo:aB ["text"] ["text"] (ae bE):=⟨rfl,rfl,rfl,by decide +kernel,rfl,by decide +kernel,by decide +kernel⟩
theorem vD {f:Addr} {fd:FuncData} (U:Fun K "is_figures" "is_figures" bE f fd):FnOk P w K mg base CX0 1 f fd ["text"] qf:=by
 refine U.ok wo (fun vs H Q E h=>?_) (fun cdv A outer s H vs Q E hr h=>?_)
 ·obtain⟨n,rfl,_⟩:=h
  rfl
 ·obtain⟨n,rfl,q⟩:=h
  have hf:=fD n
  generalize digits n=l at hf
  have ha:=ug hf
  refine⟨_,af (bH (PW.pt (fN (cI (cr (qB F.plainAttrs_str F.slot_str_isascii F.type_str_isascii nv (pv 0)))) (eM (cI (cr (qB F.plainAttrs_str F.slot_str_isdigit F.type_str_isdigit nr (pv 0))))))) bj aJ)
   (am (aD (wA (ef fk (pv 0) d_ (nomark _)) (kx (qx (bX F.plainAttrs_str F.slot_str_startswith F.type_str_startswith jh (pv 0) (aa d_ ac))))))),?_⟩
  refine⟨_,rfl,rfl,_,rfl,rfl,_,rfl,?_⟩
  rw[pT ha]
  refine iteF ?_
  refine⟨_,rfl,rfl,_,rfl,rfl,_,rfl,?_⟩
  rw[pD ha]
  unfold fig at hf
  obtain⟨e,h3⟩:=(Bool.and_eq_true _ _).mp hf
  rw[e]
  refine iteF ?_
  refine⟨_,rfl,rfl,_,rfl,?_⟩
  rw[show (Str.ofString "0")=txt [48] from s48,oA]
  cases e2:(l==[48]) with
  |true=>exact iteT q
  |false=>
   rw[e2,Bool.false_or] at h3
   refine iteF ?_
   refine⟨_,rfl,rfl,_,_,rfl,rfl,_,rfl,?_⟩
   rw[my]
   have h3:(!(l.head?==some 48))=true:=h3
   rw[h3]
   exact q
theorem scST:aB ["triangle"] ["triangle"] (ae aP):=⟨rfl,rfl,rfl,by decide +kernel,rfl,by decide +kernel,by decide +kernel⟩
theorem ng {f:Addr} {fd:FuncData} (U:Fun K "show_triangle" "show_triangle" aP f fd) (T:TxtN mg):FnOk P w K mg base CX0 1 f fd ["triangle"] gh:=by
 refine U.ok scST (fun vs H Q E h=>?_) (fun cdv A outer s H vs Q E hr h=>?_)
 ·obtain⟨x,t,rfl,_⟩:=h
  rfl
 ·obtain⟨x,⟨a,b,c⟩,rfl,hx,⟨ha,hb,hc⟩,q⟩:=h
  have hline:=line40k
  have hx:H x=some (.tup (nV [a,b,c])):=hx
  refine⟨_,(am (aD (bX PySem.F.plainAttrs_str PySem.F.slot_str_join PySem.F.type_str_join fU d_ (aa (bp (N:=["corner"]) (fr:=[none])  (cB (by decide +kernel) rfl (by decide +kernel) (by decide +kernel)) rfl (gq (pv 0))
     (fun C' s' H' fp pins=>⟨(aq (i:=0) (show (["corner"]:List Str).Nodup by decide +kernel) rfl (Or.inl rfl) (.inr rfl)),bJ,(aI fZ (by rfl) T.str PyProof.Rows.boot_str (aa (pv 0) ac))⟩)) ac)))),?_⟩
  refine⟨rfl,_,rfl,x,rfl,⟨_,SqT.of hx⟩,fun Z hZ=>eU (K:=K) (a:=x) (xs:=nV [a,b,c]) (fun k σ ys H'=>∃o,σ=[o]∧ys=(([a,b,c].take k).map digits).map (fun l=>V.str (txt l))∧H' = upd H Z (.lst ys)) ⟨none,rfl,rfl,rfl⟩ (fun k σ ys H' _ ⟨_,_,_,e⟩=>SqT.of (by rw[e];exact aw hZ _ _ hx)) ?_ ?_⟩
  ·rintro k y σ ys H' hk ⟨o,rfl,rfl,rfl⟩
   have hkl:=(List.getElem?_eq_some_iff.mp hk).1
   rw[aN] at hkl
   have hkl:k < 3:=hkl
   rw[nV,List.getElem?_map] at hk
   obtain⟨n,hn,rfl⟩:=Option.map_eq_some_iff.mp hk
   have hn6:n < 10 ^ 60:=by
    have:=List.mem_of_getElem? hn
    simp only[List.mem_cons,List.not_mem_nil,or_false] at this
    rcases this with rfl|rfl|rfl <;> assumption
   refine⟨_,rfl,_,rfl,jt hn6,ao,by rw[List.length_map,List.length_map,List.length_take];omega,_,rfl,?_,by rw[cF]⟩
   rw[nU,List.take_add_one,hn,List.map_append,List.map_append];rfl
  ·rintro σ ys H' ⟨o,rfl,rfl,rfl⟩
   refine⟨[32],Z,[digits a,digits b,digits c],by rw[s_b],rfl,SqL.of ao,?_,q _ (aw hZ)⟩
   have h1:(digits a).length≤60:=fig60 ha
   have h2:(digits b).length≤60:=fig60 hb
   have h3:(digits c).length≤60:=fig60 hc
   simp only[List.flatten_cons,List.flatten_nil,List.length_append,List.length_cons,List.length_nil]
   omega
theorem scRT:aB ["part","figures","each","a","b","c"] ["part"] (ae bh):=⟨rfl,rfl,rfl,by decide +kernel,rfl,by decide +kernel,by decide +kernel⟩
theorem nh {f f1:Addr} {fd d1:FuncData} (U:Fun K "read_triple" "read_triple" bh f fd) (T:TxtN mg) (GF:Use P w K mg base 1 "is_figures" ["text"] qf f1 d1):FnOk P w K mg base CX0 2 f fd ["part"] gi:=by
 refine U.ok scRT (fun vs H Q E h=>?_) (fun cdv A outer s H vs Q E hr h=>?_)
 ·obtain⟨t,rfl,_⟩:=h
  rfl
 ·obtain⟨⟨a,b,c⟩,rfl,lo,q⟩:=h
  have hr1:=hr
  have hline:=line40k
  have hl:=nQ lo
  obtain⟨ha,hb,hc⟩:=lo
  refine⟨_,(af (ax (i:=1) scRT.nd rfl (Or.inl rfl) (bX PySem.F.plainAttrs_str PySem.F.slot_str_split PySem.F.type_str_split jB (pv 0) (aa d_ ac)))
   (af (bH (aF iL (aC aX (by rfl) T.len PySem.boot_len (aa (pv 1) ac)) al (nomark _)) bj aJ)
   (af (ba PassesOwn.never rfl (aG (pv 1)) (aq (i:=2) scRT.nd rfl (Or.inl rfl))
    (am (bH (cI (cr (ar GF.g hr1 rfl GF.m GF.k GF.b .nil pass0 (aa (pv 2) ac)))) bj aJ)))
   (af (dI (pv 1) (vw rfl (av (aq (i:=3) scRT.nd rfl (Or.inl rfl)) (av (aq (i:=4) scRT.nd rfl (Or.inl rfl)) (av (aq (i:=5) scRT.nd rfl (Or.inl rfl)) bf)))))
   (am (aD (aE (aa (aI eC (by rfl) T.int PyProof.Rows.boot_int (aa (pv 3) ac)) (aa (aI eC (by rfl) T.int PyProof.Rows.boot_int (aa (pv 4) ac)) (aa (aI eC (by rfl) T.int PyProof.Rows.boot_int (aa (pv 5) ac)) ac)))))))))),?_⟩
  refine⟨_,rfl,rfl,32,[],figs (a,b,c),rfl,by rw[s_b],by simp[figs],by decide,pK,by show (triT (a,b,c)).length+2≤_;omega,fun p hp=>?_⟩
  (generalize z:upd H p _=H1;have s1:=ah hp z;have y1:=ak z;clear z)
  refine⟨_,rfl,p,_,rfl,.inl (SqL.of y1),rfl,_,rfl,?_⟩
  refine iteF ?_
  refine⟨_,rfl,p,rfl,⟨_,SqL.of y1⟩,bd (K:=K) (a:=p) (xs:=(figs (a,b,c)).map fun z=>V.str (txt z)) (fun i σ H'=>∃o,σ=[some (.str (txt (triT (a,b,c)))),some (.ref p),o,none,none,none]∧H' = H1) ⟨none,rfl,rfl⟩ (fun i σ H' _ ⟨_,_,e⟩=>by rw[e];exact SqL.of y1) ?_ ?_⟩
  ·rintro i y σ H' hi ⟨o,rfl,rfl⟩
   rw[List.getElem?_map] at hi
   obtain⟨l,hl2,rfl⟩:=Option.map_eq_some_iff.mp hi
   obtain⟨n,rfl⟩:∃n,l=digits n:=by
    have:=List.mem_of_getElem? hl2
    simp only[figs,List.mem_cons,List.not_mem_nil,or_false] at this
    rcases this with rfl|rfl|rfl <;> exact⟨_,rfl⟩
   exact⟨_,rfl,n,rfl,_,rfl,iteF ⟨_,rfl,rfl⟩⟩
  ·rintro σ H' ⟨o,rfl,rfl⟩
   refine⟨_,rfl,p,_,rfl,SqL.of y1,rfl,_,_,rfl,_,_,rfl,_,_,rfl,rfl,?_⟩
   have one:∀{n:Nat},n < 10 ^ 60→NumText.AllDigits (digits n)∧digits n≠[]∧(digits n).length≤640:=fun {n} h=>⟨uh (fD n),vV (fD n),by have:=fig60 h;omega⟩
   refine⟨_,rfl,_,rfl,(one ha).1,(one ha).2.1,(one ha).2.2,_,rfl,_,rfl,(one hb).1,(one hb).2.1,(one hb).2.2,_,rfl,_,rfl,(one hc).1,(one hc).2.1,(one hc).2.2,lit3,fun t ht=>?_⟩
   have e:∀n,NumText.digitsVal (digits n)=n:=nH
   rw[e,e,e]
   (generalize z:upd H' t _=H2;have s2:=ah ht z;have y2:=ak z;clear z)
   exact q t H2 (s1.free ht) (s1.trans s2) y2
end
end K15
end
section
namespace K15
open PySem L2 K51 K31
theorem SkAt.obj {C:Addr} {H:Hp} {x:Addr} {ts:List Tri} (h:SkAt C H x ts):∃dx O R D S,H x=some (.ins C dx (sflds O R D S)):=by
 obtain⟨dx,O,R,D,S,vo,us,ws,cs,h1,_⟩:=h
 exact⟨dx,O,R,D,S,h1⟩
theorem wE {t u:Tri} (l:Lo t) (h:Bg t u):Lo u:=by
 obtain⟨a,b,c⟩:=t
 obtain⟨l1,l2,l3⟩:=l
 obtain⟨e,_⟩:=h
 rcases e with rfl|rfl|rfl
 ·exact⟨l1,l2,l3⟩
 ·exact⟨l2,l3,l1⟩
 ·exact⟨l3,l1,l2⟩
theorem qY {ts us ws:List Tri} (l:∀t∈ts,Lo t) (p:us.Perm ws) (h:Paired Bg ts ws):∀u∈us,Lo u:=by
 intro u hu
 have hu:=p.mem_iff.mp hu
 clear p
 induction h with
 |nil=>cases hu
 |cons r t ih=>
  rcases List.mem_cons.mp hu with rfl|hu
  ·exact wE (l _ (by simp)) r
  ·exact ih (fun t ht=>l t (List.mem_cons_of_mem _ ht)) hu
def iz (C:Addr):Sp:=fun vs H Q _=>∃(x:Addr) (ts:List Tri),vs=[.ref x]∧SkAt C H x ts∧ts.length≤200∧(∀t∈ts,Lo t) ∧
 ∀us ws H',Same H H'→us.Perm ws→Paired Bg ts ws→Srt us→Q (.str (txt (skT us))) H'
def mE:Sp:=fun vs H Q _=>∃(T:Addr) (vt:List V) (ts:List Tri),vs=[.ref T]∧H T=some (.lst vt)∧ay H vt ts∧ts.length≤200∧(∀t∈ts,Lo t)∧∀H',Same H H'→Q (.str (txt (skT ts))) H'
def iA (C:Addr):Sp:=fun vs H Q _=>∃ts:List Tri,vs=[.str (txt (skT ts))]∧ts.length≤200∧(∀t∈ts,Lo t)∧Good ts∧(∀c,Co ts c→One (En ts) c)∧∀x H',Sm H H'→SkAt C H' x ts→Q (.ref x) H'
theorem jH {ts:List Tri} (h:∀t∈ts,Lo t) (hl:ts.length≤200):(ts.map triT).flatten.length+((ts.map triT).length+1) * [59,32].length≤sizeLine:=by
 have:=l_ h
 have:=line40k
 rw[List.length_map]
 show _+(ts.length+1) * 2≤_
 omega
theorem qg {ts:List Tri} (h:∀t∈ts,Lo t) (hl:ts.length≤200):(skT ts).length+2≤sizeLine:=by
 have h1:=l_ h
 have h2:=line40k
 have h3:=gC [59,32] (ts.map triT)
 rw[List.length_map] at h3
 have h3:(skT ts).length≤(ts.map triT).flatten.length+ts.length * 2:=h3
 omega
theorem lh {ts:List Tri} {i:Nat} {t:Tri} (h:ts[i]? = some t):((ts.take (i+1)).map triT).map (fun l=>V.str (txt l))=((ts.take i).map triT).map (fun l=>V.str (txt l))++[V.str (txt (triT t))]:=by
 rw[List.take_add_one,h,List.map_append,List.map_append];rfl
def rStr:List V→Hp→VK→Prop:=fun xs H Q=>∃i:Int,xs=[.int i]∧i.natAbs.log2 < 1920∧Q (.str (toString i:String)) H
def teIn (K:W.Frag):TE:=tBM K "str" (qp K) (tC (.str (Str.ofString " "))) (eD (lm (iTup K (tVar 0)) (cZ 0) (fun _ H Q=>Q true H) (tCB rStr (eD (tVar 0) tNil)) [none]) tNil)
section
variable {P:Program} {w:World} {K:W.Frag} {mg:Str→Option Value} {base:Heap}
theorem scSS:aB ["skin"] ["skin"] (ae bM):=⟨rfl,rfl,rfl,by decide +kernel,rfl,by decide +kernel,by decide +kernel⟩
theorem pd {f f1 f2 Cs:Addr} {fd d1 d2:FuncData} (U:Fun K "show_skin" "show_skin" bM f fd) (X:SCls K Cs) (M1:UseM P w K mg base Cs 1 "triangles" ["self"] (dh Cs) f1 d1) (GS:Use P w K mg base 1 "show_triangle" ["triangle"] gh f2 d2) :
  FnOk P w K mg base CX0 2 f fd ["skin"] (iz Cs):=by
 refine U.ok scSS (fun vs H Q E h=>?_) (fun cdv A outer s H vs Q E hr h=>?_)
 ·obtain⟨x,ts,rfl,_⟩:=h
  rfl
 ·obtain⟨x,ts,rfl,sk,hl,lo,q⟩:=h
  have hr1:=hr
  have hline:=line40k
  refine⟨_,(am (aD (bX PySem.F.plainAttrs_str PySem.F.slot_str_join PySem.F.type_str_join fU d_ (aa (bp (N:=["triangle"]) (fr:=[none])  (cB (by decide +kernel) rfl (by decide +kernel) (by decide +kernel)) rfl (aG (iJ (pv 0) X.cl M1.m M1.g hr1 M1.b .nil pass0))
     (fun C' s' H' fp pins=>⟨(aq (i:=0) (show (["triangle"]:List Str).Nodup by decide +kernel) rfl (Or.inl rfl) (.inr rfl)),bJ,(ar GS.g hr1 rfl GS.m GS.k GS.b .nil pass0 (aa (pv 0) ac))⟩)) ac)))),?_⟩
  obtain⟨dx,O,R,D,S,ho⟩:=sk.obj
  refine⟨rfl,_,rfl,x,dx,_,rfl,ho,rfl,x,ts,rfl,sk,fun l vo us ws H1 hl0 s1 y1 tr pm bg srt=>?_⟩
  have lu:=qY lo pm bg
  have eu:us.length=ts.length:=by rw[pm.length_eq,az bg]
  have ev:=az tr
  refine⟨l,rfl,⟨_,SqL.of y1⟩,fun Z hZ=>a_ (K:=K) (a:=l) (xs:=vo) (fun k σ ys H'=>∃o,σ=[o]∧ys=((us.take k).map triT).map (fun l=>V.str (txt l))∧Same H1 H'∧H' Z=some (.lst ys)) ⟨none,rfl,rfl,aw hZ,ao⟩ (fun k σ ys H' _ ⟨_,_,_,e,_⟩=>SqL.of (e _ _ y1)) ?_ ?_⟩
  ·rintro k y σ ys H' hk ⟨o,rfl,rfl,sk',hZ'⟩
   obtain⟨t,ht,b,rfl,hb⟩:=aS tr hk
   refine⟨_,rfl,b,t,rfl,sk' _ _ hb,lu t (List.mem_of_getElem? ht),fun H2 s2=>?_⟩
   have hZ2:=s2 _ _ hZ'
   refine⟨hZ2,by rw[List.length_map,List.length_map,List.length_take];omega,?_⟩
   rw[←lh ht]
   (generalize z:upd H2 Z _=H3;have k3:=aK z;have y3:=ak z;clear z)
   exact⟨_,rfl,rfl,fun b' o' e=>(k3 b' (ag e hZ)).trans (s2 _ _ (sk' _ _ e)),y3⟩
  ·rintro σ ys H' ⟨o,rfl,rfl,sk',hZ'⟩
   rw[show vo.length=us.length from ev,List.take_length] at hZ'
   refine⟨[59,32],Z,us.map triT,by rw[s_sb],rfl,SqL.of hZ',jH lu (by omega),q us ws _ (s1.trans sk') pm bg srt⟩
theorem scTx:aB ["_law_triples"] ["_law_triples"] (ae dA):=⟨rfl,rfl,rfl,by decide +kernel,rfl,by decide +kernel,by decide +kernel⟩
theorem tU {f:Addr} {fd:FuncData} (U:Fun K "_law_text" "_law_text" dA f fd) (T:TxtN mg):FnOk P w K mg base CX0 1 f fd ["_law_triples"] mE:=by
 refine U.ok scTx (fun vs H Q E h=>?_) (fun cdv A outer s H vs Q E hr h=>?_)
 ·obtain⟨T,vt,ts,rfl,_⟩:=h
  rfl
 ·obtain⟨T0,vt,ts,rfl,hT,tr,hl,lo,q⟩:=h
  have hline:=line40k
  have ev:=az tr
  refine⟨_,(am (aD (bX PySem.F.plainAttrs_str PySem.F.slot_str_join PySem.F.type_str_join fU d_ (aa (bp (N:=["_law_triple"]) (fr:=[none]) (te:=teIn K) (cB (by decide +kernel) rfl (by decide +kernel) (by decide +kernel)) rfl (aG (pv 0))
     (fun C' s' H' fp pins=>⟨(aq (i:=0) (show (["_law_triple"]:List Str).Nodup by decide +kernel) rfl (Or.inl rfl) (.inr rfl)),bJ,(bX PySem.F.plainAttrs_str PySem.F.slot_str_join PySem.F.type_str_join fU d_ (aa (bp (N:=["_law_corner"]) (fr:=[none])  (cB (by decide +kernel) rfl (by decide +kernel) (by decide +kernel)) rfl (gq (pv 0))
     (fun C'' s'' H'' fp' pins'=>⟨(aq (i:=0) (show (["_law_corner"]:List Str).Nodup by decide +kernel) rfl (Or.inl rfl) (.inr rfl)),bJ,(aI fZ (by rfl) T.str PyProof.Rows.boot_str (aa (pv 0) ac))⟩)) ac))⟩)) ac)))),?_⟩
  refine⟨rfl,_,rfl,T0,rfl,⟨_,SqL.of hT⟩,fun Z hZ=>a_ (K:=K) (a:=T0) (xs:=vt) (fun k σ ys H'=>∃o,σ=[o]∧ys=((ts.take k).map triT).map (fun l=>V.str (txt l))∧Same H H'∧H' Z=some (.lst ys)) ⟨none,rfl,rfl,aw hZ,ao⟩ (fun k σ ys H' _ ⟨_,_,_,e,_⟩=>SqL.of (e _ _ hT)) ?_ ?_⟩
  ·rintro k y σ ys H1 hk ⟨o,rfl,rfl,sk',hZ'⟩
   obtain⟨⟨a,b,c⟩,ht,x,rfl,hb⟩:=aS tr hk
   have hx:H1 x=some (.tup (nV [a,b,c])):=sk' _ _ hb
   have ll:=lo _ (List.mem_of_getElem? ht)
   have ha:a < 10 ^ 60:=ll.1
   have hb':b < 10 ^ 60:=ll.2.1
   have hc:c < 10 ^ 60:=ll.2.2
   refine⟨rfl,_,rfl,x,rfl,⟨_,SqT.of hx⟩,fun Z2 hZ2=>eU (K:=K) (a:=x) (xs:=nV [a,b,c]) (fun k σ ys H'=>∃o,σ=[o]∧ys=(([a,b,c].take k).map digits).map (fun l=>V.str (txt l))∧H' = upd H1 Z2 (.lst ys)) ⟨none,rfl,rfl,rfl⟩ (fun k σ ys H' _ ⟨_,_,_,e⟩=>SqT.of (by rw[e];exact aw hZ2 _ _ hx)) ?_ ?_⟩
   ·rintro j y σ ys H' hj ⟨o,rfl,rfl,rfl⟩
    have hkl:=(List.getElem?_eq_some_iff.mp hj).1
    rw[aN] at hkl
    have hkl:j < 3:=hkl
    rw[nV,List.getElem?_map] at hj
    obtain⟨n,hn,rfl⟩:=Option.map_eq_some_iff.mp hj
    have hn6:n < 10 ^ 60:=by
     have:=List.mem_of_getElem? hn
     simp only[List.mem_cons,List.not_mem_nil,or_false] at this
     rcases this with rfl|rfl|rfl <;> assumption
    refine⟨_,rfl,_,rfl,jt hn6,ao,by rw[List.length_map,List.length_map,List.length_take];omega,_,rfl,?_,by rw[cF]⟩
    rw[nU,List.take_add_one,hn,List.map_append,List.map_append];rfl
   ·rintro σ ys H' ⟨o,rfl,rfl,rfl⟩
    have sz:Same H1 (upd H1 Z2 (.lst ((([a,b,c].take (nV [a,b,c]).length).map digits).map (fun l=>V.str (txt l))))):=aw hZ2
    refine⟨[32],Z2,[digits a,digits b,digits c],by rw[s_b],rfl,SqL.of ao,?_,sz _ _ hZ',by rw[List.length_map,List.length_map,List.length_take];omega,?_⟩
    ·have h1:(digits a).length≤60:=fig60 ha
     have h2:(digits b).length≤60:=fig60 hb'
     have h3:(digits c).length≤60:=fig60 hc
     simp only[List.flatten_cons,List.flatten_nil,List.length_append,List.length_cons,List.length_nil]
     omega
    ·have e:=lh ht
     rw[show inter [32] [digits a,digits b,digits c]=triT (a,b,c) from rfl,←e]
     exact⟨_,rfl,rfl,fun b' o' e=>by rw[au (ag e hZ)];exact sz _ _ (sk' _ _ e),ao⟩
  ·rintro σ ys H' ⟨o,rfl,rfl,sk',hZ'⟩
   rw[show vt.length=ts.length from ev,List.take_length] at hZ'
   refine⟨[59,32],Z,ts.map triT,by rw[s_sb],rfl,SqL.of hZ',jH lo hl,q _ sk'⟩
theorem scRK:aB ["text"] ["text"] (ae bN):=⟨rfl,rfl,rfl,by decide +kernel,rfl,by decide +kernel,by decide +kernel⟩
theorem pf {f f1 fa Cs:Addr} {fd d1 da:FuncData} (U:Fun K "read_skin" "read_skin" bN f fd) (T:TxtN mg) (hS:W.kitOne K (.type "str") (.type "str")=some true) (M:Mk K Cs fa) (mSk:mg "Skin" = some (.ref Cs)) (GR:Use P w K mg base 2 "read_triple" ["part"] gi f1 d1)
  (GK:FnOk P w K mg base CX0 5 fa da ["self","triples"] (g_ Cs)) (bK:Binds K da ["self","triples"] []):FnOk P w K mg base CX0 7 f fd ["text"] (iA Cs):=by
 refine U.ok scRK (fun vs H Q E h=>?_) (fun cdv A outer s H vs Q E hr h=>?_)
 ·obtain⟨ts,rfl,_⟩:=h
  rfl
 ·obtain⟨ts,rfl,hl,lo,g,one,q⟩:=h
  have hr2:=hr.mono (show 2≤6 by decide)
  have hr6:=hr
  have hline:=line40k
  refine⟨_,(af (bH (cI (cr (aC (dW (c:="str")) (by rfl) T.isi PyProof.Rows.boot_isinstance (aa (pv 0) (aa (fT (v:=.ty "str") rfl T.str PyProof.Rows.boot_str rfl) ac))))) bj aJ)
   (af (bH (aF fk (pv 0) d_ (nomark _)) (am (aD (kE M GK hr6 rfl mSk bK .nil pass0 (aa (bc ac) ac)))) aJ)
   (am (aD (kE M GK hr6 rfl mSk bK .nil pass0 (aa (bp (N:=["part"]) (fr:=[none])  (cB (by decide +kernel) rfl (by decide +kernel) (by decide +kernel)) rfl (aG (bX PySem.F.plainAttrs_str PySem.F.slot_str_split PySem.F.type_str_split jB (pv 0) (aa d_ ac)))
     (fun C' s' H' fp pins=>⟨(aq (i:=0) (show (["part"]:List Str).Nodup by decide +kernel) rfl (Or.inl rfl) (.inr rfl)),bJ,(ar GR.g hr2 rfl GR.m GR.k GR.b .nil pass0 (aa (pv 0) ac))⟩)) ac)))))),?_⟩
  refine⟨_,rfl,_,_,true,rfl,.str _,hS,_,rfl,iteF ?_⟩
  refine⟨_,rfl,rfl,_,rfl,?_⟩
  rw[show (Str.ofString "")=txt [] from by decide +kernel,oA]
  cases ts with
  |nil=>
   refine iteT ?_
   refine⟨Nat.zero_le _,fun l gl=>?_⟩
   (generalize z:upd H l _=H1;have s1:=ah gl z;have y1:=ak z;clear z)
   refine fun x dx hx hdx hne=>?_
   have sm0:=gp (Cs:=Cs) hx hdx
   exact⟨x,dx,l,[],[],rfl,ao,sm0 _ _ y1,.nil,by simp,g,one,fun Ha sma sk stay=>⟨rfl,q x Ha ((Sm.of s1).trans (kd hx hdx sma)) sk⟩⟩
  |cons t0 tr0=>
   rw[show (skT (t0::tr0)==[])=false from by rw[beq_eq_false_iff_ne];exact u7]
   refine iteF ?_
   obtain⟨ts,hts⟩:∃ts,ts=t0::tr0:=⟨_,rfl⟩
   have hne:ts.map triT≠[]:=by rw[hts];simp
   rw[←hts] at hl lo g one q ⊢
   refine⟨_,rfl,rfl,59,[32],ts.map triT,rfl,by rw[s_sb],hne,by decide,fun p hp=>?_,qg lo hl,fun p hp=>?_⟩
   ·obtain⟨t,_,rfl⟩:=List.mem_map.mp hp
    exact p6
   (generalize z:upd H p _=H1;have s1:=ah hp z;have y1:=ak z;clear z)
   refine⟨p,rfl,⟨_,SqL.of y1⟩,fun Z hZ=>a_ (K:=K) (a:=p) (xs:=(ts.map triT).map fun z=>V.str (txt z)) (fun k σ ys H'=>∃o,σ=[o]∧Same H1 H'∧H' Z=some (.lst ys)∧ay H' ys (ts.take k)) ⟨none,rfl,aw hZ,ao,.nil⟩ (fun k σ ys H' _ ⟨_,_,e,_⟩=>SqL.of (e _ _ y1)) ?_ ?_⟩
   ·rintro k y σ ys H' hk ⟨o,rfl,sk',hZ',tr⟩
    rw[List.getElem?_map,List.getElem?_map] at hk
    obtain⟨z,hz,rfl⟩:=Option.map_eq_some_iff.mp hk
    obtain⟨t,ht,rfl⟩:=Option.map_eq_some_iff.mp hz
    have hly:=az tr
    rw[List.length_take] at hly
    refine⟨_,rfl,t,rfl,lo t (List.mem_of_getElem? ht),fun x H2 hx s2 y2=>?_⟩
    have hZ2:=s2 _ _ hZ'
    refine⟨hZ2,by omega,?_⟩
    (generalize z:upd H2 Z _=H3;have k3:=aK z;have y3:=ak z;clear z)
    refine⟨_,rfl,fun b' o' e=>(k3 b' (ag e hZ)).trans (s2 _ _ (sk' _ _ e)),y3,?_⟩
    rw[List.take_add_one,ht]
    exact bU (Paired.imp' (fun _ _ ⟨b',e1,e2⟩=>⟨b',e1,(k3 b' (bi (s2 _ _ e2) hZ2 (by intro z;cases z))).trans (s2 _ _ e2)⟩) tr) (.cons ⟨x,rfl,(k3 x (bi y2 hZ2 (by intro z;cases z))).trans y2⟩ .nil)
   ·rintro σ ys H' ⟨o,rfl,sk',hZ',tr⟩
    rw[List.length_map,List.length_map,List.take_length] at tr
    refine fun x dx hx hdx hne=>?_
    have sm0:=gp (Cs:=Cs) hx hdx
    exact⟨x,dx,Z,ys,ts,rfl,ao,sm0 _ _ hZ',tr.same sm0,hl,g,one,fun Ha sma sk stay=>⟨rfl,q x Ha ((Sm.of (s1.trans sk')).trans (kd hx hdx sma)) sk⟩⟩
end
end K15
end
section
namespace K15
open PySem L2 K51 K31
theorem uT {K:W.Frag} {H:Hp} {l:List Ent} (k:List Key):∃dd:PyData,Dt K H ((valV (l.map entV) k).getD .non) dd∧dd.depth≤60∧PyData.eqv dd dd=true:=by
 have:∀l:List Ent,valV (l.map entV) k=none∨∃c:Nat,valV (l.map entV) k=some (V.int (c:Int)):=fun l=>by
  induction l with
  |nil=>left;simp[valV]
  |cons e l ih=>
   rw[List.map_cons]
   by_cases h:(entV e).1=k
   ·right;rw[cE h];exact⟨e.2,rfl⟩
   ·rw[b_ h];exact ih
 rcases this l with h|⟨c,h⟩
 ·rw[h];exact⟨.none,.non,Nat.zero_le _,(fX _ _ rfl rfl).mpr rfl⟩
 ·rw[h];exact⟨.int (c:Int),.int _,Nat.zero_le _,(fX _ _ rfl rfl).mpr rfl⟩
theorem t5 (l:List Nat):PyData.eqv (.list (l.map fun n:Nat=>PyData.int (n:Int))) (.list (l.map fun n:Nat=>PyData.int (n:Int)))=true:=by
 have nb:noBl (.list (l.map fun n:Nat=>PyData.int (n:Int)))=true:=by
  show cm _=true
  induction l with
  |nil=>rfl
  |cons a l ih=>rw[List.map_cons];show (noBl _&&cm _)=true;rw[ih];rfl
 exact (fX _ _ nb nb).mpr rfl
theorem qW {ts:List Tri} {c:Nat}:c∈flat ts↔Co ts c:=by
 rw[aL]
 unfold flat
 rw[List.mem_flatMap]
 constructor
 ·rintro⟨t,h1,h2⟩
  simp only[List.mem_cons,List.not_mem_nil,or_false] at h2
  exact⟨t,h1,h2⟩
 ·rintro⟨t,h1,h2⟩
  exact⟨t,h1,by simp only[List.mem_cons,List.not_mem_nil,or_false];exact h2⟩
theorem il {ts ts':List Tri} (h:(ents ts').Perm (ents ts)) (c:Nat):Co ts' c↔Co ts c:=by
 unfold Co En
 constructor
 ·rintro⟨p,q,h1⟩;exact⟨p,q,h.mem_iff.mp h1⟩
 ·rintro⟨p,q,h1⟩;exact⟨p,q,h.mem_iff.mpr h1⟩
theorem jW {ts ss us vs us' vs':List Tri} (g:Good ts) (gs:Good ss) (hpm:(ents ss).Perm (ents ts)) (p1:us.Perm vs) (b1:Paired Bg ss vs) (r1:Srt us) (p2:us'.Perm vs') (b2:Paired Bg ts vs') (r2:Srt us'):us=us':=
 qc ((p1.trans (sI gs g hpm b1 b2)).trans p2.symm) r1 r2
def spIs (Cs:Addr):Sp:=fun vs H Q _=>∃(x T:Addr) (vt:List V) (ts ss:List Tri),vs=[.ref x,.ref T]∧SkAt Cs H x ss∧H T=some (.lst vt)∧ay H vt ts∧ts.length≤200∧Good ts∧(ents ss).Perm (ents ts)∧∀H',Same H H'→Q (.bl true) H'
section
variable {P:Program} {w:World} {K:W.Frag} {mg:Str→Option Value} {base:Heap}
theorem scIs:aB ["_law_skin_here","_law_triples","_law_thirds_here","_law_corners_here","_law_a","_law_b"] ["_law_skin_here","_law_triples"] (ae sLIs):=⟨rfl,rfl,rfl,by decide +kernel,rfl,by decide +kernel,by decide +kernel⟩
theorem wC {f f1 f2 f3 f5 f6 f7 Cs:Addr} {fd d1 d2 d3 d5 d6 d7:FuncData} (U:Fun K "_law_is" "_law_is" sLIs f fd) (X:SCls K Cs)
  (GT:Use P w K mg base 1 "_law_thirds" ["_law_triples"] cv f1 d1) (GC:Use P w K mg base 1 "_law_corners" ["_law_triples"] cC f2 d2) (GO:Use P w K mg base 1 "_law_told" ["_law_triples"] jY f3 d3)
  (M1:UseM P w K mg base Cs 1 "triangles" ["self"] (dh Cs) f5 d5) (M2:UseM P w K mg base Cs 1 "corners" ["self"] (eJ Cs) f6 d6) (M3:UseM P w K mg base Cs 1 "third" ["self","a","b"] (jZ Cs) f7 d7) :
  FnOk P w K mg base CX0 2 f fd ["_law_skin_here","_law_triples"] (spIs Cs):=by
 refine U.ok scIs (fun vs H Q E h=>?_) (fun cdv A outer s H vs Q E hr h=>?_)
 ·obtain⟨x,T,vt,ts,ss,rfl,_⟩:=h
  rfl
 ·obtain⟨x,T0,vt,ts,ss,rfl,sk,hT,tr,hl,g,hpm,q⟩:=h
  have hr1:=hr
  have hu:=cL hr
  have hline:=line5000
  have gs:Good ss:=fc g hpm
  refine⟨_,(af (ax (i:=2) scIs.nd rfl (Or.inl rfl) (ar GT.g hr1 rfl GT.m GT.k GT.b .nil pass0 (aa (pv 1) ac)))
   (af (ax (i:=3) scIs.nd rfl (Or.inl rfl) (ar GC.g hr1 rfl GC.m GC.k GC.b .nil pass0 (aa (pv 1) ac)))
   (af (bH (PW.pt (fN (aF (kJ hr.units) (iJ (pv 0) X.cl M1.m M1.g hr1 M1.b .nil pass0) (ar GO.g hr1 rfl GO.m GO.k GO.b .nil pass0 (aa (pv 1) ac)) (nomark _)) (eM (aF (kJ hr.units) (iJ (pv 0) X.cl M2.m M2.g hr1 M2.b .nil pass0) (pv 3) (nomark _))))) bj aJ)
   (af (ba PassesOwn.never rfl (aG (pv 3)) (aq (i:=4) scIs.nd rfl (Or.inl rfl))
    (am (ba PassesOwn.never rfl (aG (pv 3)) (aq (i:=5) scIs.nd rfl (Or.inl rfl))
    (am (bH (aF (kJ hr.units) (tP (pv 0) X.cl M3.m M3.g hr1 M3.b .nil pass0 (aa (pv 4) (aa (pv 5) ac))) (iK hu (pv 2) (aE (aa (pv 4) (aa (pv 5) ac))) ⟨rfl,rfl,rfl,rfl⟩) (nomark _)) bj aJ)))))
   (am (aD lH)))))),?_⟩
  refine⟨_,rfl,T0,vt,ts,rfl,hT,tr,by omega,g.nd,fun D H1 hD0 s1 y1=>?_⟩
  refine⟨_,rfl,T0,vt,ts,rfl,s1 _ _ hT,tr.same s1,hl,fun L cs H2 hL0 s2 y2 hcs lcs=>?_⟩
  have s12:=s1.trans s2
  have sk2:=sk.sm (Sm.of s12)
  obtain⟨dx,O,R,D',S,ho⟩:=sk2.obj
  refine⟨_,rfl,x,dx,_,rfl,ho,rfl,x,ss,rfl,sk2,fun fo vo us ws H3 hfo s3 y3 tr3 pm3 bg3 srt3=>?_⟩
  have s13:=s12.trans s3
  have dcs:∀{Hn:Hp} {l:Addr},Hn l=some (.lst (nV cs))→Dt K Hn (.ref l) (.list (cs.map fun n:Nat=>PyData.int (n:Int))):=fun h=>.lst (SqL.of h) (rP _)
  have dpc:(PyData.list (cs.map fun n:Nat=>PyData.int (n:Int))).depth≤60:=by have:=rT cs;omega
  refine⟨_,rfl,T0,vt,ts,rfl,s13 _ _ hT,tr.same s13,hl,g.ne,fun r vr us' ws' H4 hr0 s4 y4 tr4 pm4 bg4 srt4=>?_⟩
  have e:=jW g gs hpm pm3 bg3 srt3 pm4 bg4 srt4
  subst e
  refine⟨_,_,.lst (SqL.of (s4 _ _ y3)) (pZ (tr3.same s4)),.lst (SqL.of y4) (pZ tr4),oT _,_,rfl,?_⟩
  rw[p4]
  refine iteF ?_
  have s24:=s3.trans s4
  refine⟨_,rfl,x,dx,_,rfl,s24 _ _ ho,rfl,x,ss,rfl,sk2.sm (Sm.of s24),fun l c5 H5 hl0 s5 y5 pl5 hc5 _=>?_⟩
  rw[show c5=cs from tE pl5 hcs.1 fun c=>by rw[hc5,hcs.2,qW,il hpm]] at y5
  have s25:=s24.trans s5
  refine⟨_,rfl,_,_,dcs y5,dcs (s25 _ _ y2),dpc,_,rfl,?_⟩
  rw[t5]
  refine iteF ?_
  have yL5:=s25 _ _ y2
  have yD5:H5 D=some (.dT ((ents ts).map entV)):=s25 _ _ (s2 _ _ y1)
  refine⟨_,rfl,L,rfl,⟨_,SqL.of yL5⟩,bd (K:=K) (a:=L) (xs:=nV cs) (fun i σ H'=>∃o4 o5,σ=[some (.ref x),some (.ref T0),some (.ref D),some (.ref L),o4,o5]∧Same H5 H') ⟨none,none,rfl,Same.refl _⟩ (fun i σ H' _ ⟨_,_,_,e⟩=>SqL.of (e _ _ yL5)) ?_ ?_⟩
  ·rintro i y σ H6 hi ⟨o4,o5,rfl,s6⟩
   rw[nV,List.getElem?_map] at hi
   obtain⟨a,_,rfl⟩:=Option.map_eq_some_iff.mp hi
   have yL6:=s6 _ _ yL5
   refine⟨_,rfl,L,rfl,⟨_,SqL.of yL6⟩,bd (K:=K) (a:=L) (xs:=nV cs) (fun j σ H'=>∃o5,σ=[some (.ref x),some (.ref T0),some (.ref D),some (.ref L),some (.int (a:Int)),o5]∧Same H6 H') ⟨_,rfl,Same.refl _⟩ (fun i σ H' _ ⟨_,_,e⟩=>SqL.of (e _ _ yL6)) ?_ ?_⟩
   ·rintro j y σ H8 hj ⟨o5,rfl,s8⟩
    rw[nV,List.getElem?_map] at hj
    obtain⟨b,_,rfl⟩:=Option.map_eq_some_iff.mp hj
    have s28:=(s25.trans s6).trans s8
    refine⟨_,rfl,x,dx,_,rfl,s28 _ _ ho,rfl,_,rfl,_,rfl,x,ss,a,b,rfl,sk2.sm (Sm.of s28),fun H9 s9=>?_⟩
    have yD9:H9 D=some (.dT ((ents ts).map entV)):=s9 _ _ (s8 _ _ (s6 _ _ yD5))
    refine⟨_,rfl,D,rfl,.inr ⟨_,.inl yD9⟩,_,rfl,_,rfl,lit2,fun t ht0=>?_⟩
    (generalize z:upd H9 t _=Ha;have sa:=ah ht0 z;have ya:=ak z;clear z)
    refine⟨_,.inr ⟨_,ky a b,t,.inl (sa _ _ yD9),rfl,ya,rfl⟩,?_⟩
    obtain⟨dd,e1,e2,e3⟩:=uT (K:=K) (H:=Ha) (l:=ents ts) (ky a b)
    refine⟨dd,dd,?_,e1,e2,_,rfl,?_⟩
    ·show Dt K Ha ((valV ((ents ss).map entV) (ky a b)).getD .non) dd
     rw[pW gs.nd hpm];exact e1
    rw[e3]
    exact iteF ⟨_,rfl,(s8.trans s9).trans sa⟩
   ·rintro σ H8 ⟨o5,rfl,s8⟩
    exact⟨_,_,rfl,s6.trans s8⟩
  ·rintro σ H6 ⟨o4,o5,rfl,s6⟩
   exact q H6 ((s12.trans s25).trans s6)
end
end K15
end
section
namespace L2
open PySem
section
variable {X:Cx}
theorem pS {C:Addr}:bZ X (.builtin "isinstance") (fun xs H Q=>∃(x:V) (ty:Value) (b:Bool),xs=[x,.ref C]∧TyOf X.K H x ty∧W.kitOne X.K ty (.ref C)=some b∧Q (.bl b) H):=by
 intro pins s σ H xs us Q I r h
 obtain⟨x,ty,b,rfl,hty,e,q⟩:=h
 obtain⟨u,w',rfl,ru,rw'⟩:=vals2 r
 cases (show w' = Value.ref C from rw')
 exact jJ I ru hty e fun tk=>⟨.bl b,H,I.tok _,rfl,q⟩
end
end L2
namespace K15
open PySem L2 K51 K31
structure KitS (K:W.Frag) (C:Addr):Prop where
 s:W.kitOne K (.type "str") (.type "str")=some true
 own:W.kitOne K (.ref C) (.ref C)=some true
 ha:W.findIn K (.ref C) "__class__" = some (some (.builtin "object.__class__"))
 hn:W.specialIn K (.builtin "object.__class__") "__get__" = some (some (.builtin "getset_descriptor.__get__"))
 htk:W.takesIn K (.builtin "object.__class__")=some true
 hm:W.mroIn K C (.type "object")=some true
def lq (K:W.Frag):Sp:=fun vs H Q _=>∃(a:Addr) (ns:List Int),vs=[.ref a]∧SqL K H a (ns.map V.int)∧ns.length≤63∧∀H',Q (.bl true) H'
theorem viaS {G:Prop} {Cd:St→Hp→Prop} (T:St→Hp→Prop) (h2:∀σ H',Cd σ H'→T σ H') (h1:(∀σ H',Cd σ H'→T σ H')→G):G:=h1 h2
structure Pr (S:Addr) (H:Hp) (v:V):Prop where
 ex:∃(p T D:Addr) (vt vd:List V) (ts hs:List Tri),v=.ref p∧H p=some (.tup [.ref T,.ref D])∧T≠S∧D≠S∧H T=some (.lst vt)∧ay H vt ts∧H D=some (.lst vd)∧ay H vd hs ∧
  ts.length≤200∧Good ts∧(∀c,Co ts c→One (En ts) c)∧(∀c,Co ts c→c < 10 ^ 60)∧hs.length=ts.length∧(ents hs).Perm (ents ts)
theorem Pr.sm {S:Addr} {H H':Hp} {v:V} (s:Sm H H') (h:Pr S H v):Pr S H' v:=by
 obtain⟨p,T,D,vt,vd,ts,hs,rfl,h1,n1,n2,h2,t1,h3,t2,r⟩:=h
 have tk:∀{vs:List V} {us:List Tri},ay H vs us→ay H' vs us:=fun t=>Paired.imp' (fun _ _ ⟨b',e1,e2⟩=>⟨b',e1,s.keep e2 (fun z=>z)⟩) t
 exact⟨p,T,D,vt,vd,ts,hs,rfl,s.keep h1 (fun z=>z),n1,n2,s.keep h2 (fun z=>z),tk t1,s.keep h3 (fun z=>z),tk t2,r⟩
theorem Pr.ch {S:Addr} {H H':Hp} {v:V} {xs:List V} (hS:H S=some (.lst xs)) (s:∀b o,b≠S→H b=some o→H' b=some o) (h:Pr S H v):Pr S H' v:=by
 obtain⟨p,T,D,vt,vd,ts,hs,rfl,h1,n1,n2,h2,t1,h3,t2,r⟩:=h
 have tk:∀{vs:List V} {us:List Tri},ay H vs us→ay H' vs us:=fun t=>Paired.imp' (fun _ _ ⟨b',e1,e2⟩=>⟨b',e1,s _ _ (bi e2 hS (by intro z;cases z)) e2⟩) t
 exact⟨p,T,D,vt,vd,ts,hs,rfl,s _ _ (bi h1 hS (by intro z;cases z)) h1,n1,n2,s _ _ n1 h2,tk t1,s _ _ n2 h3,tk t2,r⟩
theorem uI {ts:List Tri} (h:∀c,Co ts c→c < 10 ^ 60):∀t∈ts,Lo t:=fun t ht=>⟨h _ (aL.mpr ⟨t,ht,.inl rfl⟩),h _ (aL.mpr ⟨t,ht,.inr (.inl rfl)⟩),h _ (aL.mpr ⟨t,ht,.inr (.inr rfl)⟩)⟩
theorem uj {t u:Tri} (h:Bg t u):(ents [u]).Perm (ents [t]):=by
 obtain⟨a,b,c⟩:=t
 obtain⟨e,_⟩:=h
 rcases e with rfl|rfl|rfl
 ·exact List.Perm.refl _
 ·exact (List.perm_append_comm (l₁:=[((b,c),a),((c,a),b)]) (l₂:=[((a,b),c)]))
 ·exact (List.perm_append_comm (l₁:=[((c,a),b)]) (l₂:=[((a,b),c),((b,c),a)]))
theorem rN {ts us ws:List Tri} (p:us.Perm ws) (h:Paired Bg ts ws):(ents us).Perm (ents ts):=by
 have e1:(ents us).Perm (ents ws):=p.flatMap_right _
 refine e1.trans ?_
 clear e1 p
 induction h with
 |nil=>exact List.Perm.refl _
 |cons r t ih=>rename_i x y l m;rw[cO x l,cO y m];exact (uj r).append ih
theorem rE (m:Nat):((List.range m).map fun k=>((0,k+1,k+2):Tri))=wheel (m+1) (List.range m):=by
 unfold wheel
 refine List.map_congr_left fun k hk=>?_
 have hk:=List.mem_range.mp hk
 show _=(0,1+k,1+nxt (m+1) k)
 rw[gv (Nat.lt_succ_of_lt hk),if_pos (Nat.succ_lt_succ hk),Nat.add_comm 1 k,Nat.add_comm 1 (k+1)]
theorem rF {m:Nat} (hm:3≤m) (hm2:m≤201):Good ((List.range m).map fun k=>((0,k+1,k+2):Tri))∧(∀c,Co ((List.range m).map fun k=>((0,k+1,k+2):Tri)) c→One (En ((List.range m).map fun k=>((0,k+1,k+2):Tri))) c)∧∀c,Co ((List.range m).map fun k=>((0,k+1,k+2):Tri)) c→c < 10 ^ 60:=by
 have hlt:∀k∈List.range m,k < m+1:=fun k hk=>Nat.lt_succ_of_lt (List.mem_range.mp hk)
 refine⟨?_,?_,fun c hc=>?_⟩
 ·rw[rE];exact fV (nF (Nat.le_succ_of_le hm)) (List.Sublist.map _ (by rw[List.range_succ];exact List.sublist_append_left _ _))
 ·rw[rE]
  obtain⟨fan,all⟩:=rB (n:=m+1) (m:=m) (S:=List.range m) (w:=fun i=>i) (Nat.le_of_succ_le_succ (Nat.le_succ_of_le hm) |> fun h=>Nat.le_trans (by decide) h) (fun i hi=>List.mem_range.mpr hi) (fun k hk=>⟨k,List.mem_range.mp hk,rfl⟩) (fun _ _ _ _ e=>e) (fun i hi=>by rw[gv (Nat.lt_succ_of_lt (Nat.lt_of_succ_lt hi)),if_pos (Nat.lt_succ_of_lt hi)])
  exact fun c hc=>(o0 hlt (Nat.le_succ_of_le hm) ⟨_,fan,all⟩ c).resolve_right fun z=>z hc
 ·obtain⟨t,ht,h⟩:=aL.mp hc
  obtain⟨k,hk,rfl⟩:=List.mem_map.mp ht
  have hk:=List.mem_range.mp hk
  simp only at h
  have:c≤203:=by omega
  exact Nat.lt_of_le_of_lt this (by decide)
section
variable {P:Program} {w:World} {K:W.Frag} {mg:Str→Option Value} {base:Heap}
theorem eF:aB ["_law_script","_law_some","_law_k","_law_triples","_law_pot_here","_law_handed_here","_law_skin_here","_law_found","_law_again"] ["_law_script"] (ae sLaw):=⟨rfl,rfl,rfl,by decide +kernel,rfl,by decide +kernel,by decide +kernel⟩
theorem vC {f f1 f2 f3 f4 f5 f6 f7 f8 f9 fb fa Cs:Addr} {d d1 d2 d3 d4 d5 d6 d7 d8 d9 db da:FuncData} (U:Fun K "law" "law" sLaw f d) (T:TxtN mg) (X:SCls K Cs) (F:KitS K Cs) (M:Mk K Cs fa) (mSk:mg "Skin" = some (.ref Cs))
  (GP:Use P w K mg base 2 "_law_pot" ["_law_script","_law_k"] (qe K) f1 d1) (GH:Use P w K mg base 2 "_law_handed" ["_law_pot_here","_law_triples"] iB f2 d2) (GN:Use P w K mg base 2 "_law_named" ["_law_pot_here","_law_triples"] j4 f3 d3)
  (GL:Use P w K mg base 4 "_law_skin" ["_law_pot_here","_law_most"] j6 f4 d4) (GD:Use P w K mg base 1 "_law_digit" ["_law_pot_here","_law_base"] c_ f5 d5) (GO:Use P w K mg base 1 "_law_told" ["_law_triples"] jY f6 d6)
  (GS:Use P w K mg base 2 "show_skin" ["skin"] (iz Cs) f7 d7) (GX:Use P w K mg base 1 "_law_text" ["_law_triples"] mE f8 d8) (GR:Use P w K mg base 7 "read_skin" ["text"] (iA Cs) f9 d9) (GI:Use P w K mg base 2 "_law_is" ["_law_skin_here","_law_triples"] (spIs Cs) fb db)
  (GK:FnOk P w K mg base CX0 5 fa da ["self","triples"] (g_ Cs)) (bK:Binds K da ["self","triples"] []) :
  FnOk P w K mg base CX0 8 f d ["_law_script"] (lq K):=by
 refine U.ok eF (fun vs H Q E h=>?_) (fun cdv A outer s H vs Q E hr h=>?_)
 ·obtain⟨a,ns,rfl,_⟩:=h
  rfl
 ·obtain⟨a,ns,rfl,hns,hnl,q⟩:=h
  have hr1:=hr.mono (show 1≤7 by decide)
  have hr2:=hr.mono (show 2≤7 by decide)
  have hr4:=hr.mono (show 4≤7 by decide)
  have hr6:=hr.mono (show 6≤7 by decide)
  have hr7:=hr
  have hline:=line5000
  refine⟨_,(af (ax (i:=1) eF.nd rfl (Or.inl rfl) (bc ac))
   (af (ba PassesOwn.never rfl (de rfl T.range (aa al ac)) (aq (i:=2) eF.nd rfl (Or.inl rfl))
    (af (ax (i:=3) eF.nd rfl (Or.inl rfl) (ar GN.g hr2 rfl GN.m GN.k GN.b .nil pass0 (aa (ar GP.g hr2 rfl GP.m GP.k GP.b .nil pass0 (aa (pv 0) (aa (aA aV (aA cX al (pv 2)) al) ac))) (aa (ar GL.g hr4 rfl GL.m GL.k GL.b .nil pass0 (aa (ar GP.g hr2 rfl GP.m GP.k GP.b .nil pass0 (aa (pv 0) (aa (aA aV (aA cX al (pv 2)) al) ac))) (aa (aA eN al (aA cX al (pv 2))) ac))) ac))))
   (af (ax (i:=4) eF.nd rfl (Or.inl rfl) (ar GP.g hr2 rfl GP.m GP.k GP.b .nil pass0 (aa (pv 0) (aa (aA aV (aA cX al (pv 2)) al) ac))))
   (af (bH (aF fk (ar GD.g hr1 rfl GD.m GD.k GD.b .nil pass0 (aa (pv 4) (aa al ac))) al (nomark _)) (am (ia (i:=3) (N:=["_law_i"]) (fr:=[none])  (cB (by decide +kernel) rfl (by decide +kernel) (by decide +kernel)) rfl (de rfl T.range (aa (aA aV al (ar GD.g hr1 rfl GD.m GD.k GD.b .nil pass0 (aa (pv 4) (aa al ac)))) ac))
     (fun C' s' H' fp pins=>⟨(aq (i:=0) (show (["_law_i"]:List Str).Nodup by decide +kernel) rfl (Or.inl rfl) (.inr rfl)),bJ,(aE (aa al (aa (aA aV (pv 0) al) (aa (aA aV (pv 0) al) ac))))⟩) eF.nd rfl (Or.inl rfl))) aJ)
   (am (bI (bX PySem.F.plainAttrs_list PySem.F.slot_list_append PySem.F.type_list_append bo (pv 1) (aa (aE (aa (pv 3) (aa (ar GH.g hr2 rfl GH.m GH.k GH.b .nil pass0 (aa (pv 4) (aa (pv 3) ac))) ac))) ac))))))))
   (af (ba PassesOwn.never rfl (aG (bc (aa al (aa al (aa al ac))))) (aq (i:=2) eF.nd rfl (Or.inl rfl))
    (af (dI (cq aW (pv 1) (pv 2) (fun _ _=>rfl)) (bV rfl (av (aq (i:=3) eF.nd rfl (Or.inl rfl)) (av (aq (i:=5) eF.nd rfl (Or.inl rfl)) bf))))
   (af (ax (i:=6) eF.nd rfl (Or.inl rfl) (kE M GK hr6 rfl mSk bK .nil pass0 (aa (aI eB (by rfl) T.list PyProof.Rows.boot_list (aa (pv 5) ac)) ac)))
   (af (ax (i:=7) eF.nd rfl (Or.inl rfl) (ar GS.g hr2 rfl GS.m GS.k GS.b .nil pass0 (aa (pv 6) ac)))
   (af (bH (PW.pt (fN (cI (cr (aC (dW (c:="str")) (by rfl) T.isi PyProof.Rows.boot_isinstance (aa (pv 7) (aa (fT (v:=.ty "str") rfl T.str PyProof.Rows.boot_str rfl) ac))))) (eM (aF iL (pv 7) (ar GX.g hr1 rfl GX.m GX.k GX.b .nil pass0 (aa (ar GO.g hr1 rfl GO.m GO.k GO.b .nil pass0 (aa (pv 3) ac)) ac)) (nomark _))))) bj aJ)
   (af (ax (i:=8) eF.nd rfl (Or.inl rfl) (ar GR.g hr7 rfl GR.m GR.k GR.b .nil pass0 (aa (ar GX.g hr1 rfl GX.m GX.k GX.b .nil pass0 (aa (pv 5) ac)) ac)))
   (af (bH (PW.pt (fN (cI (cr (aC (pS (C:=Cs)) (by rfl) T.isi PyProof.Rows.boot_isinstance (aa (pv 8) (aa (oj (v:=.ref Cs) rfl mSk rfl) ac))))) (eM (cI (cr (ar GI.g hr2 rfl GI.m GI.k GI.b .nil pass0 (aa (pv 8) (aa (pv 3) ac)))))))) bj aJ)
   (am (bH (PW.pt (fN (aF iL (ar GS.g hr2 rfl GS.m GS.k GS.b .nil pass0 (aa (pv 8) ac)) (pv 7) (nomark _)) (eM (cI (cr (ar GI.g hr2 rfl GI.m GI.k GI.b .nil pass0 (aa (ar GR.g hr7 rfl GR.m GR.k GR.b .nil pass0 (aa (pv 7) ac)) (aa (pv 3) ac)))))))) bj aJ)))))))))
   (am (aD lH))))),?_⟩
  have sqs:∀{H':Hp},Same H H'→SqL K H' a (ns.map V.int):=fun s=>s.seq hns
  refine⟨Nat.zero_le _,fun S gS=>?_⟩
  (generalize z:upd H S _=H0;have s0:=ah gS z;have y0:=ak z;clear z)
  refine⟨_,rfl,by decide,by decide,dR (lo:=0) (n:=2) (fun i σ H'=>∃o2 o3 o4 vs,σ=[some (.ref a),some (.ref S),o2,o3,o4,none,none,none,none]∧Same H H'∧H' S=some (.lst vs)∧vs.length=i∧∀v∈vs,Pr S H' v) ⟨none,none,none,[],rfl,s0,y0,rfl,fun v hv=>by cases hv⟩ ?_ ?_⟩
  ·rintro i σ Hb hi ⟨o2,o3,o4,vs,rfl,sb,yS,lvs,prs⟩
   have kk:∀z:Int,0≤z→z≤3→0≤3 * (0+(i:Int))+z∧3 * (0+(i:Int))+z < 1000:=fun z h1 h2=>⟨by omega,by omega⟩
   refine⟨_,rfl,_,rfl,_,_,rfl,rfl,.inl ⟨by omega,by omega⟩,_,_,rfl,rfl,a,ns,_,rfl,sqs sb,(kk 2 (by decide) (by decide)).1,(kk 2 (by decide) (by decide)).2,fun p2 H2 hp2 s2 y2=>?_⟩
   refine⟨_,rfl,_,rfl,_,_,rfl,rfl,.inl ⟨by omega,by omega⟩,_,_,rfl,rfl,a,ns,_,rfl,sqs (sb.trans s2),(kk 1 (by decide) (by decide)).1,(kk 1 (by decide) (by decide)).2,fun p1 H3 hp1 s3 y3=>?_⟩
   refine⟨_,rfl,_,_,rfl,rfl,.inl ⟨by omega,by omega⟩,_,_,rfl,rfl,p1,_,16 - 8 * i,by show [V.ref p1,V.int ((16:Int) - 8 * (0+(i:Int)))]=_;rw[show (16:Int) - 8 * (0+(i:Int))=((16 - 8 * i:Nat):Int) by omega],by omega,y3,iQ ns (kk 1 (by decide) (by decide)).1 (kk 1 (by decide) (by decide)).2,fun r vr ts q1 H4 nrp but4 hp4 pok4 yr tr lts g one=>?_⟩
   have s24:Same H2 H4:=fun b o e=>but4 b o (ag e hp1) (s3 _ _ e)
   have n24:r≠p2:=nP yr tr (s24 _ _ y2)
   refine⟨p2,r,_,vr,ts,rfl,s24 _ _ y2,iQ ns (kk 2 (by decide) (by decide)).1 (kk 2 (by decide) (by decide)).2,yr,n24,tr,by omega,g,fun A1 va ta qa H5 hA but5 hp5' pok5 yA trA llA gA hbA oneA=>?_⟩
   have oneA:=oneA one
   have sb5:Same Hb H5:=fun b o e=>but5 b o (ag e hp2) (s24 _ _ (s2 _ _ e))
   have nAS:A1≠S:=(ag (s24 _ _ (s2 _ _ yS)) hA).symm
   refine⟨_,rfl,_,rfl,_,_,rfl,rfl,.inl ⟨by omega,by omega⟩,_,_,rfl,rfl,a,ns,_,rfl,sqs (sb.trans sb5),(kk 3 (by decide) (by decide)).1,(kk 3 (by decide) (by decide)).2,fun p5 H6 hp5 s6 y6=>?_⟩
   have pok:bn (potOf ns (3 * (0+(i:Int))+3)):=iQ ns (kk 3 (by decide) (by decide)).1 (kk 3 (by decide) (by decide)).2
   generalize potOf ns (3 * (0+(i:Int))+3)=pt at y6 pok
   refine⟨_,rfl,p5,pt,16,rfl,y6,pok,by decide,by decide +kernel,?_⟩
   (generalize z:upd H6 p5 _=H7;have k7:=aK z;have y7:=ak z;clear z)
   have s57:Same H5 H7:=fun b o e=>(k7 b (ag e hp5)).trans (s6 _ _ e)
   have sb7:=sb5.trans s57
   have hb5:Hb p5=none:=sb5.free hp5
   have pok7:bn (K51.nxt pt 16):=aY pok
   generalize K51.nxt pt 16=q7 at y7 pok7
   refine⟨rfl,_,rfl,?_⟩
   refine' viaS (Cd:=fun σ H'=>∃R vr ts q',σ=[some (.ref a),some (.ref S),some (.int (0+(i:Int))),some (.ref R),some (.ref p5),none,none,none,none]∧Same Hb H'∧H' p5=some (.lst (potV q'))∧bn q'∧H' R=some (.lst vr)∧R≠S∧R≠p5∧ay H' vr ts∧ts.length≤200∧Good ts∧(∀c,Co ts c→One (En ts) c)∧∀c,Co ts c→c < 10 ^ 60) _ ?rest ?main
   case main=>
    intro tail
    by_cases h5:¬digO pt 16=5
    ·rw[show decide (V.int (digO pt 16)=V.int 5)=false from decide_eq_false fun z=>h5 (V.int.inj z)]
     refine iteF ?_
     obtain⟨σ1,hσ1⟩:∃σ1:St,σ1=[some (V.ref a),some (.ref S),some (.int (0+(i:Int))),some (.ref A1),some (.ref p5),none,none,none,none]:=⟨_,rfl⟩
     show uA _ [some (V.ref a),some (.ref S),some (.int (0+(i:Int))),some (.ref A1),some (.ref p5),none,none,none,none] H7
     rw[←hσ1]
     exact tail σ1 H7 ⟨A1,va,ta,q7,hσ1,sb7,y7,pok7,s57 _ _ yA,nAS,ag yA hp5,trA.same s57,by omega,gA,oneA,hbA⟩
    ·have h5:=Classical.not_not.mp h5
     rw[show decide (V.int (digO pt 16)=V.int 5)=true from decide_eq_true (by rw[h5])]
     refine iteT ?_
     have dd1:=be (q:=q7) (b:=184) (by decide)
     obtain⟨m1,hm1⟩:∃m:Nat,digO q7 184=(m:Int):=⟨(digO q7 184).toNat,by omega⟩
     refine⟨_,rfl,p5,q7,184,rfl,y7,pok7,by decide,by decide +kernel,_,_,rfl,rfl,?_⟩
     rw[hm1] at dd1 ⊢
     (generalize z:upd H7 p5 _=H8;have k8:=aK z;have y8:=ak z;clear z)
     have sb8:Same Hb H8:=fun b o e=>(k8 b (ag e hb5)).trans (sb7 _ _ e)
     refine⟨_,rfl,by omega,by omega,fun Z hZ=>nJ (lo:=0) (n:=((17:Int)+(m1:Int)).toNat) (fun k σ ys H'=>∃o,σ=[o]∧Same H8 H'∧H' Z=some (.lst ys)∧ay H' ys ((List.range k).map fun k=>((0,k+1,k+2):Tri)))
      ⟨none,rfl,aw hZ,ao,.nil⟩ ?_ ?_⟩
     ·rintro k σ ys H' hk ⟨o,rfl,sk,hZ',htr⟩
      have hly:=az htr
      rw[List.length_map,List.length_range] at hly
      refine⟨_,rfl,_,_,rfl,rfl,_,rfl,_,_,rfl,rfl,lit3,fun tt gt=>?_⟩
      (generalize z:upd H' tt _=H9;have s9:=ah gt z;have y9:=ak z;clear z)
      have hZ9:=s9 _ _ hZ'
      refine⟨hZ9,by omega,?_⟩
      (generalize z:upd H9 Z _=Ha;have ka:=aK z;have ya:=ak z;clear z)
      refine⟨_,rfl,fun b' o' e=>(ka b' (ag e hZ)).trans (s9 _ _ (sk _ _ e)),ya,?_⟩
      rw[List.range_succ,List.map_append]
      refine bU (Paired.imp' (fun _ _ ⟨b',e1,e2⟩=>⟨b',e1,(ka b' (bi (s9 _ _ e2) hZ9 (by intro z;cases z))).trans (s9 _ _ e2)⟩) htr) (.cons ⟨tt,rfl,(ka tt (bi y9 hZ9 (by intro z;cases z))).trans ?_⟩ .nil)
      rw[y9]
      show some (HO.tup [V.int 0,V.int (0+(k:Int)+1),V.int (0+(k:Int)+2)])=some (HO.tup [V.int ((0:Nat):Int),V.int ((k+1:Nat):Int),V.int ((k+2:Nat):Int)])
      rw[Int.zero_add];rfl
     ·rintro σ ys H' ⟨o,rfl,sk,hZ',htr⟩
      rw[show ((17:Int)+(m1:Int)).toNat=17+m1 by omega] at htr
      obtain⟨f1',f2',f3'⟩:=rF (m:=17+m1) (by omega) (by omega)
      exact tail _ _ ⟨Z,ys,_,_,rfl,sb8.trans sk,sk _ _ y8,aY pok7,hZ',(ag (sb8 _ _ yS) hZ).symm,(ag y8 hZ).symm,htr,by rw[List.length_map,List.length_range];omega,f1',f2',f3'⟩
   clear pok7 y7 hp5' pok5 yA trA llA gA hbA oneA nAS s57 sb7 k7 y6 s6 hA but5 yr tr lts g one n24 s24 but4 hp4 pok4 nrp y3 s3 hp1
   rintro σ H7 ⟨R,vr,ts,q7,rfl,s7,y7,pok7,yR,nRS,nRp,trR,lR,gR,oneR,hbR⟩
   have yS7:=s7 _ _ yS
   refine⟨_,rfl,.inl ⟨rfl,_,SqL.of yS7⟩,_,rfl,_,rfl,_,rfl,p5,R,q7,vr,ts,rfl,y7,pok7,yR,nRp,trR,lR,fun D vd hs q8 H8 hD but8 hp8 pok8 yD trD llD pmD=>?_⟩
   have s78:Same Hb H8:=fun b o e=>but8 b o (ag e hb5) (s7 _ _ e)
   refine⟨lit2,fun t gt=>?_⟩
   (generalize z:upd H8 t _=H9;have s9:=ah gt z;have y9:=ak z;clear z)
   have s99:=s78.trans s9
   have yS9:=s99 _ _ yS
   refine⟨S,_,_,rfl,rfl,yS9,by omega,?_⟩
   (generalize z:upd H9 S _=Ha;have ka:=aK z;have ya:=ak z;clear z)
   have ch:∀b o,b≠S→H9 b=some o→Ha b=some o:=fun b o n e=>(ka b n).trans e
   have yR9:H9 R=some (.lst vr):=s9 _ _ (but8 _ _ nRp yR)
   have trR9:ay H9 vr ts:=Paired.imp' (fun _ _ ⟨b',e1,e2⟩=>⟨b',e1,s9 _ _ (but8 _ _ (bi e2 y7 (by intro z;cases z)) e2)⟩) trR
   have nDS:D≠S:=(ag yS7 hD).symm
   have pr9:Pr S H9 (.ref t):=⟨t,R,D,vr,vd,ts,hs,rfl,y9,nRS,nDS,yR9,trR9,s9 _ _ yD,trD.same s9,lR,gR,oneR,hbR,llD,pmD⟩
   refine⟨_,_,_,_,rfl,fun b o e=>ch b o (ag e gS) (s99 _ _ (sb _ _ e)),ya,by rw[List.length_append,List.length_singleton,lvs],fun v hv=>?_⟩
   rcases List.mem_append.mp hv with hv|hv
   ·exact ((prs v hv).sm (Sm.of s99)).ch yS9 ch
   ·rw[List.mem_singleton.mp hv];exact pr9.ch yS9 ch
  ·rintro σ H1 ⟨o2,o3,o4,vs,rfl,s1,yS,lvs,prs⟩
   obtain⟨v0,v1,rfl⟩:∃v0 v1,vs=[v0,v1]:=by
    match vs,lvs with
    | [v0,v1],_=>exact⟨v0,v1,rfl⟩
   have pr0:=prs v0 (by simp)
   have pr1:=prs v1 (by simp)
   clear prs lvs s1 s0 y0
   refine⟨lit3,fun L gL=>?_⟩
   (generalize z:upd H1 L _=H2;have s2:=ah gL z;have yL:=ak z;clear z)
   refine⟨L,rfl,⟨_,SqL.of yL⟩,bd (K:=K) (a:=L) (xs:=[V.int 0,V.int 1,V.int 0]) (fun i σ H'=>∃o2 o3 o4 o5 o6 o7 o8,σ=[some (.ref a),some (.ref S),o2,o3,o4,o5,o6,o7,o8]∧H' L=some (.lst [V.int 0,V.int 1,V.int 0])∧H' S=some (.lst [v0,v1])∧Pr S H' v0∧Pr S H' v1)
    ⟨_,_,_,_,_,_,_,rfl,yL,s2 _ _ yS,pr0.sm (Sm.of s2),pr1.sm (Sm.of s2)⟩ (fun i σ H' _ ⟨_,_,_,_,_,_,_,_,e,_⟩=>SqL.of e) ?_ ?_⟩
   ·rintro i y σ Hb hi ⟨o2,o3,o4,o5,o6,o7,o8,rfl,zL,zS,p0,p1⟩
    obtain⟨n,v,rfl,hv,pv⟩:∃(n:Int) (v:V),y=.int n∧atI [v0,v1] n=some v∧Pr S Hb v:=by
     match i,hi with
     |0,hi=>cases hi;exact⟨0,v0,rfl,rfl,p0⟩
     |1,hi=>cases hi;exact⟨1,v1,rfl,rfl,p1⟩
     |2,hi=>cases hi;exact⟨0,v0,rfl,rfl,p0⟩
     |n+3,hi=>simp at hi
    obtain⟨p,T0,D,vt,vd,ts,hs,rfl,hp,nT,nD,yT,trT,yD,trD,lT,gT,oneT,hbT,lD,pmD⟩:=pv
    refine⟨_,rfl,_,rfl,S,_,n,_,rfl,rfl,SqL.of zS,hv,p,_,rfl,SqT.of hp,rfl,_,_,rfl,_,_,rfl,rfl,?_⟩
    have loT:=uI hbT
    have loD:=uI (ts:=hs) fun c hc=>hbT c ((il pmD c).mp hc)
    have gD:Good hs:=fc gT pmD
    have oneD:∀c,Co hs c→One (En hs) c:=fun c hc=>(jz (fun _ _ _=>pmD.mem_iff) c).mpr (oneT c ((il pmD c).mp hc))
    refine⟨_,rfl,D,vd,rfl,.inl (SqL.of yD),fun l gl=>?_⟩
    (generalize z:upd Hb l _=Hc;have sc:=ah gl z;have yc:=ak z;clear z)
    refine fun x dx hx hdx hne=>?_
    have sm0:=gp (Cs:=Cs) hx hdx
    refine⟨x,dx,l,vd,hs,rfl,ao,sm0 _ _ yc,(trD.same sc).same sm0,by omega,gD,oneD,fun Hd smd sk stay=>⟨rfl,?_⟩⟩
    have sbd:Sm Hb Hd:=(Sm.of sc).trans (kd hx hdx smd)
    clear stay
    refine⟨_,rfl,x,hs,rfl,sk,by omega,loD,fun us ws He se pmu bgu srtu=>?_⟩
    have sbe:=sbd.trans (Sm.of se)
    have tk:∀{H':Hp} {vs:List V} {us:List Tri},Sm Hb H'→ay Hb vs us→ay H' vs us:=fun s t=>Paired.imp' (fun _ _ ⟨b',e1,e2⟩=>⟨b',e1,s.keep e2 (fun z=>z)⟩) t
    refine⟨_,rfl,_,_,true,rfl,.str _,F.s,_,rfl,iteF ?_⟩
    refine⟨_,rfl,_,rfl,T0,vt,ts,rfl,sbe.keep yT (fun z=>z),tk sbe trT,lT,gT.ne,fun r vr us' ws' Hf hf sf yf trf pmf bgf srtf=>?_⟩
    have e:=jW gT gD pmD pmu bgu srtu pmf bgf srtf
    subst e
    have lus:us.length≤200:=by have:=pmu.length_eq;have:=az bgu;omega
    have lou:=qY loD pmu bgu
    have eus:=rN pmu bgu
    have gu:Good us:=fc gD eus
    have oneu:∀c,Co us c→One (En us) c:=fun c hc=>(jz (fun _ _ _=>eus.mem_iff) c).mpr (oneD c ((il eus c).mp hc))
    refine⟨r,vr,us,rfl,yf,trf,lus,lou,fun Hg sg=>⟨rfl,_,rfl,?_⟩⟩
    rw[decide_eq_true (rfl:V.str (txt (skT us))=V.str (txt (skT us)))]
    refine iteF ?_
    have sbg:=(sbe.trans (Sm.of sf)).trans (Sm.of sg)
    refine⟨_,rfl,D,vd,hs,rfl,sbg.keep yD (fun z=>z),tk sbg trD,by omega,loD,fun Hh sh=>?_⟩
    have sbh:=sbg.trans (Sm.of sh)
    refine⟨hs,rfl,by omega,loD,gD,oneD,fun x2 Hi si sk2=>?_⟩
    have sbi:=sbh.trans si
    obtain⟨ex,O,R',D',S',ho⟩:=sk2.obj
    refine⟨_,rfl,_,_,true,rfl,.ins ho X.cl F.ha F.hn F.htk F.hm,F.own,_,rfl,iteF ?_⟩
    refine⟨_,rfl,_,rfl,x2,T0,vt,ts,hs,rfl,sk2,sbi.keep yT (fun z=>z),tk sbi trT,lT,gT,pmD,fun Hj sj=>⟨_,rfl,iteF ?_⟩⟩
    have sbj:=sbi.trans (Sm.of sj)
    refine⟨_,rfl,x2,hs,rfl,sk2.sm (Sm.of sj),by omega,loD,fun us2 ws2 Hk sk' pm2 bg2 srt2=>?_⟩
    have e:=jW gD gD (List.Perm.refl _) pmu bgu srtu pm2 bg2 srt2
    subst e
    have sbk:=sbj.trans (Sm.of sk')
    refine⟨_,rfl,rfl,_,rfl,?_⟩
    rw[decide_eq_true (rfl:V.str (txt (skT us))=V.str (txt (skT us)))]
    refine iteF ?_
    refine⟨_,rfl,us,rfl,lus,lou,gu,oneu,fun x3 Hl sl sk3=>?_⟩
    have sbl:=sbk.trans sl
    refine⟨_,rfl,x3,T0,vt,ts,us,rfl,sk3,sbl.keep yT (fun z=>z),tk sbl trT,lT,gT,eus.trans pmD,fun Hm sm=>⟨_,rfl,iteF ?_⟩⟩
    have sbm:=sbl.trans (Sm.of sm)
    exact⟨_,_,_,_,_,_,_,rfl,sbm.keep zL (fun z=>z),sbm.keep zS (fun z=>z),p0.sm sbm,p1.sm sbm⟩
   ·rintro σ Hb ⟨o2,o3,o4,o5,o6,o7,o8,rfl,_⟩
    exact q Hb
end
end K15
end
section
namespace K15
open PySem L2 K51 K31
theorem len1 {us:List Value} (h:us.length=1):∃a,us=[a]:=List.length_eq_one_iff.mp h
theorem len2 {us:List Value} (h:us.length=2):∃a b,us=[a,b]:=by
 obtain⟨a,r,rfl⟩:=List.exists_cons_of_length_eq_add_one h
 obtain⟨b,rfl⟩:=len1 (Nat.succ.inj h)
 exact⟨a,b,rfl⟩
theorem len3 {us:List Value} (h:us.length=3):∃a b c,us=[a,b,c]:=by
 obtain⟨a,r,rfl⟩:=List.exists_cons_of_length_eq_add_one h
 obtain⟨b,c,rfl⟩:=len2 (Nat.succ.inj h)
 exact⟨a,b,c,rfl⟩
structure Top (K:W.Frag) (mg:Str→Option Value) (x:Str) (st:Stmt) (f:Addr) (fd:FuncData):Prop where
 u:Fun K x x st f fd
 m:mg x=some (.ref f)
structure InC (K:W.Frag) (C:Addr) (x q:Str) (st:Stmt) (f:Addr) (fd:FuncData):Prop where
 u:Fun K x q st f fd
 m:Meth K C x f
theorem aH {K:W.Frag} {h:Heap} {mg:Str→Option Value} {x:Str} {st:Stmt} {f:Addr} {oc:Value} {od an:Option Addr} {osl:Array (Option Value)} {kV doc pm cdv ct:Value} (X:K.In h) (G:h.Ns mainGlobals mg)
  (a:W.nsIn K mainGlobals x=some (some (.ref f))) (l:K.lookup f=some ⟨oc,od,.func (W.fnOf x x (aj st) (ai st) (ae st) .none kV doc pm an cdv ct),osl⟩) (c:W.codeIn K cdv x=true) (k:W.keepIn K (.ref f)=true) :
  Top K mg x st f (W.fnOf x x (aj st) (ai st) (ae st) .none kV doc pm an cdv ct):=⟨rA (st:=st) l c k,W.mg_of X G a⟩
theorem kX {K:W.Frag} {C:Addr} {x q:Str} {st:Stmt} {f:Addr} {oc:Value} {od an:Option Addr} {osl:Array (Option Value)} {kV doc pm cdv ct:Value}
  (a:W.findIn K (.ref C) x=some (some (.ref f))) (i:W.isFn K (.ref f)=true) (l:K.lookup f=some ⟨oc,od,.func (W.fnOf x q (aj st) (ai st) (ae st) .none kV doc pm an cdv ct),osl⟩) (c:W.codeIn K cdv q=true) (k:W.keepIn K (.ref f)=true) :
  InC K C x q st f (W.fnOf x q (aj st) (ai st) (ae st) .none kV doc pm an cdv ct):=⟨rA (st:=st) l c k,⟨a,i,k⟩⟩
section
variable {P:Program} {w:World} {K:W.Frag} {mg:Str→Option Value} {base:Heap}
theorem all_ok {f1 f2 f3 f4 f5 f6 f7 f8 f9 f10 f11 f12 f13 f14 f15 f16 f17 f18 f19 f20 f21 f22 f23 f24 f25 f26 f27 f28 f29 f30 f31 f32 f33 f34 f35 f36 f37 f38 f39 f40 Cs:Addr} {d1 d2 d3 d4 d5 d6 d7 d8 d9 d10 d11 d12 d13 d14 d15 d16 d17 d18 d19 d20 d21 d22 d23 d24 d25 d26 d27 d28 d29 d30 d31 d32 d33 d34 d35 d36 d37 d38 d39 d40:FuncData} {tM:Tok} (T:TxtN mg) (mSo:mg "sorted" = none) (mMi:mg "min" = none) (mMa:mg "max" = none) (mDi:mg "dict" = none) (kt:KitI K) (kb:KitS K Cs) (X:SCls K Cs) (MF:Mk K Cs f37) (mF:mg "Skin" = some (.ref Cs)) (mM:mg "MOST_TRIPLES" = some (.int 200 tM))
  (U1:Top K mg "first_of" dD f1 d1)
  (U2:Top K mg "is_whole" dn f2 d2)
  (U3:Top K mg "is_corner" bP f3 d3)
  (U4:Top K mg "is_triple" bO f4 d4)
  (U5:Top K mg "checked_triples" cz f5 d5)
  (U6:Top K mg "thirds_by_side" cU f6 d6)
  (U7:Top K mg "steps_by_corner" dt f7 d7)
  (U8:Top K mg "hang_together" fh f8 d8)
  (U9:Top K mg "look_rounds_through" dz f9 d9)
  (U10:Top K mg "begun_least" dH f10 d10)
  (U11:Top K mg "is_figures" bE f11 d11)
  (U12:Top K mg "show_triangle" aP f12 d12)
  (U13:Top K mg "show_skin" bM f13 d13)
  (U14:Top K mg "read_triple" bh f14 d14)
  (U15:Top K mg "read_skin" bN f15 d15)
  (U16:Top K mg "_law_at" sAt f16 d16)
  (U17:Top K mg "_law_pot" sPot f17 d17)
  (U18:Top K mg "_law_digit" dG f18 d18)
  (U19:Top K mg "_law_sides" dv f19 d19)
  (U20:Top K mg "_law_thirds" cR f20 d20)
  (U21:Top K mg "_law_free" fi f21 d21)
  (U22:Top K mg "_law_corners" cy f22 d22)
  (U23:Top K mg "_law_fans" fj f23 d23)
  (U24:Top K mg "_law_split" du f24 d24)
  (U25:Top K mg "_law_drawn" dE f25 d25)
  (U26:Top K mg "_law_rim_sides" bz f26 d26)
  (U27:Top K mg "_law_grown" cS f27 d27)
  (U28:Top K mg "_law_ring" dC f28 d28)
  (U29:Top K mg "_law_beside" cw f29 d29)
  (U30:Top K mg "_law_skin" dB f30 d30)
  (U31:Top K mg "_law_named" dw f31 d31)
  (U32:Top K mg "_law_handed" cT f32 d32)
  (U33:Top K mg "_law_told" fg f33 d33)
  (U34:Top K mg "_law_text" dA f34 d34)
  (U35:Top K mg "_law_is" sLIs f35 d35)
  (U36:Top K mg "law" sLaw f36 d36)
  (U37:InC K Cs "__init__" "Skin.__init__" eG f37 d37)
  (U38:InC K Cs "triangles" "Skin.triangles" br f38 d38)
  (U39:InC K Cs "corners" "Skin.corners" bu f39 d39)
  (U40:InC K Cs "third" "Skin.third" dq f40 d40)
  : FnOk P w K mg base CX0 8 f36 d36 ["_law_script"] (lq K):=by
 have b1:=U1.u.binds (ps:=["onward"]) fun _ _ _ _ _ _ us hl=>by obtain⟨a,rfl⟩:=len1 hl;rfl
 have b2:=U2.u.binds (ps:=["thing"]) fun _ _ _ _ _ _ us hl=>by obtain⟨a,rfl⟩:=len1 hl;rfl
 have b3:=U3.u.binds (ps:=["thing"]) fun _ _ _ _ _ _ us hl=>by obtain⟨a,rfl⟩:=len1 hl;rfl
 have b4:=U4.u.binds (ps:=["thing"]) fun _ _ _ _ _ _ us hl=>by obtain⟨a,rfl⟩:=len1 hl;rfl
 have b5:=U5.u.binds (ps:=["things"]) fun _ _ _ _ _ _ us hl=>by obtain⟨a,rfl⟩:=len1 hl;rfl
 have b6:=U6.u.binds (ps:=["triples"]) fun _ _ _ _ _ _ us hl=>by obtain⟨a,rfl⟩:=len1 hl;rfl
 have b7:=U7.u.binds (ps:=["thirds"]) fun _ _ _ _ _ _ us hl=>by obtain⟨a,rfl⟩:=len1 hl;rfl
 have b8:=U8.u.binds (ps:=["about"]) fun _ _ _ _ _ _ us hl=>by obtain⟨a,rfl⟩:=len1 hl;rfl
 have b9:=U9.u.binds (ps:=["steps"]) fun _ _ _ _ _ _ us hl=>by obtain⟨a,rfl⟩:=len1 hl;rfl
 have b10:=U10.u.binds (ps:=["triple"]) fun _ _ _ _ _ _ us hl=>by obtain⟨a,rfl⟩:=len1 hl;rfl
 have b11:=U11.u.binds (ps:=["text"]) fun _ _ _ _ _ _ us hl=>by obtain⟨a,rfl⟩:=len1 hl;rfl
 have b12:=U12.u.binds (ps:=["triangle"]) fun _ _ _ _ _ _ us hl=>by obtain⟨a,rfl⟩:=len1 hl;rfl
 have b13:=U13.u.binds (ps:=["skin"]) fun _ _ _ _ _ _ us hl=>by obtain⟨a,rfl⟩:=len1 hl;rfl
 have b14:=U14.u.binds (ps:=["part"]) fun _ _ _ _ _ _ us hl=>by obtain⟨a,rfl⟩:=len1 hl;rfl
 have b15:=U15.u.binds (ps:=["text"]) fun _ _ _ _ _ _ us hl=>by obtain⟨a,rfl⟩:=len1 hl;rfl
 have b16:=U16.u.binds (ps:=["_law_script","_law_k"]) fun _ _ _ _ _ _ us hl=>by obtain⟨a,b,rfl⟩:=len2 hl;rfl
 have b17:=U17.u.binds (ps:=["_law_script","_law_k"]) fun _ _ _ _ _ _ us hl=>by obtain⟨a,b,rfl⟩:=len2 hl;rfl
 have b18:=U18.u.binds (ps:=["_law_pot_here","_law_base"]) fun _ _ _ _ _ _ us hl=>by obtain⟨a,b,rfl⟩:=len2 hl;rfl
 have b19:=U19.u.binds (ps:=["_law_triple"]) fun _ _ _ _ _ _ us hl=>by obtain⟨a,rfl⟩:=len1 hl;rfl
 have b20:=U20.u.binds (ps:=["_law_triples"]) fun _ _ _ _ _ _ us hl=>by obtain⟨a,rfl⟩:=len1 hl;rfl
 have b21:=U21.u.binds (ps:=["_law_thirds_here","_law_triple"]) fun _ _ _ _ _ _ us hl=>by obtain⟨a,b,rfl⟩:=len2 hl;rfl
 have b22:=U22.u.binds (ps:=["_law_triples"]) fun _ _ _ _ _ _ us hl=>by obtain⟨a,rfl⟩:=len1 hl;rfl
 have b23:=U23.u.binds (ps:=["_law_triples","_law_corner"]) fun _ _ _ _ _ _ us hl=>by obtain⟨a,b,rfl⟩:=len2 hl;rfl
 have b24:=U24.u.binds (ps:=["_law_triples"]) fun _ _ _ _ _ _ us hl=>by obtain⟨a,rfl⟩:=len1 hl;rfl
 have b25:=U25.u.binds (ps:=["_law_pot_here","_law_most"]) fun _ _ _ _ _ _ us hl=>by obtain⟨a,b,rfl⟩:=len2 hl;rfl
 have b26:=U26.u.binds (ps:=["_law_triples"]) fun _ _ _ _ _ _ us hl=>by obtain⟨a,rfl⟩:=len1 hl;rfl
 have b27:=U27.u.binds (ps:=["_law_pot_here","_law_most"]) fun _ _ _ _ _ _ us hl=>by obtain⟨a,b,rfl⟩:=len2 hl;rfl
 have b28:=U28.u.binds (ps:=["_law_pot_here"]) fun _ _ _ _ _ _ us hl=>by obtain⟨a,rfl⟩:=len1 hl;rfl
 have b29:=U29.u.binds (ps:=["_law_one","_law_other"]) fun _ _ _ _ _ _ us hl=>by obtain⟨a,b,rfl⟩:=len2 hl;rfl
 have b30:=U30.u.binds (ps:=["_law_pot_here","_law_most"]) fun _ _ _ _ _ _ us hl=>by obtain⟨a,b,rfl⟩:=len2 hl;rfl
 have b31:=U31.u.binds (ps:=["_law_pot_here","_law_triples"]) fun _ _ _ _ _ _ us hl=>by obtain⟨a,b,rfl⟩:=len2 hl;rfl
 have b32:=U32.u.binds (ps:=["_law_pot_here","_law_triples"]) fun _ _ _ _ _ _ us hl=>by obtain⟨a,b,rfl⟩:=len2 hl;rfl
 have b33:=U33.u.binds (ps:=["_law_triples"]) fun _ _ _ _ _ _ us hl=>by obtain⟨a,rfl⟩:=len1 hl;rfl
 have b34:=U34.u.binds (ps:=["_law_triples"]) fun _ _ _ _ _ _ us hl=>by obtain⟨a,rfl⟩:=len1 hl;rfl
 have b35:=U35.u.binds (ps:=["_law_skin_here","_law_triples"]) fun _ _ _ _ _ _ us hl=>by obtain⟨a,b,rfl⟩:=len2 hl;rfl
 have b37:=U37.u.binds (ps:=["self","triples"]) fun _ _ _ _ _ _ us hl=>by obtain⟨a,b,rfl⟩:=len2 hl;rfl
 have b38:=U38.u.binds (ps:=["self"]) fun _ _ _ _ _ _ us hl=>by obtain⟨a,rfl⟩:=len1 hl;rfl
 have b39:=U39.u.binds (ps:=["self"]) fun _ _ _ _ _ _ us hl=>by obtain⟨a,rfl⟩:=len1 hl;rfl
 have b40:=U40.u.binds (ps:=["self","a","b"]) fun _ _ _ _ _ _ us hl=>by obtain⟨a,b,c,rfl⟩:=len3 hl;rfl
 have g2:FnOk P w K mg base CX0 1 f2 d2 ["thing"] jX:=qE U2.u T kt
 have g3:FnOk P w K mg base CX0 2 f3 d3 ["thing"] ft:=lK U3.u g2 b2 U2.m U2.u.kp
 have g1:FnOk P w K mg base CX0 1 f1 d1 ["onward"] j9:=qN U1.u T mMi
 have g38:FnOk P w K mg base CX0 1 f38 d38 ["self"] (dh Cs):=kK U38.u X T
 have g39:FnOk P w K mg base CX0 1 f39 d39 ["self"] (eJ Cs):=kL U39.u X T
 have g40:FnOk P w K mg base CX0 1 f40 d40 ["self","a","b"] (jZ Cs):=qF U40.u X
 have g4:FnOk P w K mg base CX0 3 f4 d4 ["thing"] fq:=lJ U4.u T kt g3 b3 U3.m U3.u.kp
 have g5:FnOk P w K mg base CX0 4 f5 d5 ["things"] gj:=np U5.u T g4 b4 U4.m U4.u.kp
 have g6:FnOk P w K mg base CX0 1 f6 d6 ["triples"] cv:=pj U6.u T
 have g7:FnOk P w K mg base CX0 1 f7 d7 ["thirds"] j3:=qG U7.u
 have g8:FnOk P w K mg base CX0 2 f8 d8 ["about"] mI:=tW U8.u T mDi g1 b1 U1.m U1.u.kp
 have g9:FnOk P w K mg base CX0 3 f9 d9 ["steps"] j5:=ph U9.u mSo g8 b8 U8.m U8.u.kp
 have g10:FnOk P w K mg base CX0 1 f10 d10 ["triple"] j_:=qQ U10.u mMi
 have g37:FnOk P w K mg base CX0 5 f37 d37 ["self","triples"] (g_ Cs):=qI U37.u T mSo mM X g5 b5 U5.m U5.u.kp g6 b6 U6.m U6.u.kp g7 b7 U7.m U7.u.kp g9 b9 U9.m U9.u.kp g10 b10 U10.m U10.u.kp
 have g17:FnOk P w K mg base CX0 2 f17 d17 ["_law_script","_law_k"] (qe K):=vB U17.u U16.u b16 U16.m U16.u.kp T
 have g18:FnOk P w K mg base CX0 1 f18 d18 ["_law_pot_here","_law_base"] c_:=qP U18.u
 have g19:FnOk P w K mg base CX0 1 f19 d19 ["_law_triple"] hJ:=qJ U19.u
 have g20:FnOk P w K mg base CX0 1 f20 d20 ["_law_triples"] cv:=pb U20.u
 have g21:FnOk P w K mg base CX0 2 f21 d21 ["_law_thirds_here","_law_triple"] j8:=tX U21.u T g19 b19 U19.m U19.u.kp
 have g22:FnOk P w K mg base CX0 1 f22 d22 ["_law_triples"] cC:=nj U22.u mSo
 have g23:FnOk P w K mg base CX0 2 f23 d23 ["_law_triples","_law_corner"] mJ:=tY U23.u mSo g20 b20 U20.m U20.u.kp
 have g24:FnOk P w K mg base CX0 3 f24 d24 ["_law_triples"] fL:=qH U24.u T mMa (g22.mono (by decide)) b22 U22.m U22.u.kp g23 b23 U23.m U23.u.kp
 have g25:FnOk P w K mg base CX0 3 f25 d25 ["_law_pot_here","_law_most"] hU:=qO U25.u T (g18.mono (by decide)) b18 U18.m U18.u.kp (g20.mono (by decide)) b20 U20.m U20.u.kp g21 b21 U21.m U21.u.kp
 have g26:FnOk P w K mg base CX0 2 f26 d26 ["_law_triples"] qd:=vA U26.u mSo g20 b20 U20.m U20.u.kp
 have g27:FnOk P w K mg base CX0 3 f27 d27 ["_law_pot_here","_law_most"] j7:=qM U27.u T (g18.mono (by decide)) b18 U18.m U18.u.kp (g20.mono (by decide)) b20 U20.m U20.u.kp g21 b21 U21.m U21.u.kp g26 b26 U26.m U26.u.kp (g22.mono (by decide)) b22 U22.m U22.u.kp
 have g28:FnOk P w K mg base CX0 3 f28 d28 ["_law_pot_here"] mH:=tV U28.u T mMa (g18.mono (by decide)) b18 U18.m U18.u.kp (g22.mono (by decide)) b22 U22.m U22.u.kp (g19.mono (by decide)) b19 U19.m U19.u.kp
 have g29:FnOk P w K mg base CX0 3 f29 d29 ["_law_one","_law_other"] iC:=pk U29.u T mMa (g22.mono (by decide)) b22 U22.m U22.u.kp
 have g30:FnOk P w K mg base CX0 4 f30 d30 ["_law_pot_here","_law_most"] j6:=qL U30.u (g18.mono (by decide)) b18 U18.m U18.u.kp g28 b28 U28.m U28.u.kp g24 b24 U24.m U24.u.kp g29 b29 U29.m U29.u.kp g27 b27 U27.m U27.u.kp g25 b25 U25.m U25.u.kp
 have g31:FnOk P w K mg base CX0 2 f31 d31 ["_law_pot_here","_law_triples"] j4:=qK U31.u T g18 b18 U18.m U18.u.kp g22 b22 U22.m U22.u.kp
 have g32:FnOk P w K mg base CX0 2 f32 d32 ["_law_pot_here","_law_triples"] iB:=pi U32.u T g18 b18 U18.m U18.u.kp
 have g33:FnOk P w K mg base CX0 1 f33 d33 ["_law_triples"] jY:=tT U33.u mMi mSo
 have g11:FnOk P w K mg base CX0 1 f11 d11 ["text"] qf:=vD U11.u
 have g12:FnOk P w K mg base CX0 1 f12 d12 ["triangle"] gh:=ng U12.u T
 have g13:FnOk P w K mg base CX0 2 f13 d13 ["skin"] (iz Cs):=pd U13.u X ⟨g38,b38,U38.m⟩ ⟨g12,b12,U12.m,U12.u.kp⟩
 have g14:FnOk P w K mg base CX0 2 f14 d14 ["part"] gi:=nh U14.u T ⟨g11,b11,U11.m,U11.u.kp⟩
 have g15:FnOk P w K mg base CX0 7 f15 d15 ["text"] (iA Cs):=pf U15.u T kb.s MF mF ⟨g14,b14,U14.m,U14.u.kp⟩ g37 b37
 have g34:FnOk P w K mg base CX0 1 f34 d34 ["_law_triples"] mE:=tU U34.u T
 have g35:FnOk P w K mg base CX0 2 f35 d35 ["_law_skin_here","_law_triples"] (spIs Cs):=wC U35.u X ⟨g20,b20,U20.m,U20.u.kp⟩ ⟨g22,b22,U22.m,U22.u.kp⟩ ⟨g33,b33,U33.m,U33.u.kp⟩ ⟨g38,b38,U38.m⟩ ⟨g39,b39,U39.m⟩ ⟨g40,b40,U40.m⟩
 exact vC U36.u T X kb MF mF ⟨g17,b17,U17.m,U17.u.kp⟩ ⟨g32,b32,U32.m,U32.u.kp⟩ ⟨g31,b31,U31.m,U31.u.kp⟩ ⟨g30,b30,U30.m,U30.u.kp⟩ ⟨g18,b18,U18.m,U18.u.kp⟩ ⟨g33,b33,U33.m,U33.u.kp⟩ ⟨g13,b13,U13.m,U13.u.kp⟩ ⟨g34,b34,U34.m,U34.u.kp⟩ ⟨g15,b15,U15.m,U15.u.kp⟩ ⟨g35,b35,U35.m,U35.u.kp⟩ g37 b37
end
theorem all_mk {l:W.OpenLaw} {w:World} {K:W.Frag} {h:Heap} {mg:Str→Option Value} {fa Cs:Addr} (X:K.In h) (G:h.Ns mainGlobals mg) (hfa:mg "law" = some (.ref fa))
  {f1 f2 f3 f4 f5 f6 f7 f8 f9 f10 f11 f12 f13 f14 f15 f16 f17 f18 f19 f20 f21 f22 f23 f24 f25 f26 f27 f28 f29 f30 f31 f32 f33 f34 f35 f36 f37 f38 f39 f40:Addr} {od1 an1 od2 an2 od3 an3 od4 an4 od5 an5 od6 an6 od7 an7 od8 an8 od9 an9 od10 an10 od11 an11 od12 an12 od13 an13 od14 an14 od15 an15 od16 an16 od17 an17 od18 an18 od19 an19 od20 an20 od21 an21 od22 an22 od23 an23 od24 an24 od25 an25 od26 an26 od27 an27 od28 an28 od29 an29 od30 an30 od31 an31 od32 an32 od33 an33 od34 an34 od35 an35 od36 an36 od37 an37 od38 an38 od39 an39 od40 an40:Option Addr} {sl1 sl2 sl3 sl4 sl5 sl6 sl7 sl8 sl9 sl10 sl11 sl12 sl13 sl14 sl15 sl16 sl17 sl18 sl19 sl20 sl21 sl22 sl23 sl24 sl25 sl26 sl27 sl28 sl29 sl30 sl31 sl32 sl33 sl34 sl35 sl36 sl37 sl38 sl39 sl40:Array (Option Value)} {oc1 kV1 dc1 pm1 cd1 ct1 oc2 kV2 dc2 pm2 cd2 ct2 oc3 kV3 dc3 pm3 cd3 ct3 oc4 kV4 dc4 pm4 cd4 ct4 oc5 kV5 dc5 pm5 cd5 ct5 oc6 kV6 dc6 pm6 cd6 ct6 oc7 kV7 dc7 pm7 cd7 ct7 oc8 kV8 dc8 pm8 cd8 ct8 oc9 kV9 dc9 pm9 cd9 ct9 oc10 kV10 dc10 pm10 cd10 ct10 oc11 kV11 dc11 pm11 cd11 ct11 oc12 kV12 dc12 pm12 cd12 ct12 oc13 kV13 dc13 pm13 cd13 ct13 oc14 kV14 dc14 pm14 cd14 ct14 oc15 kV15 dc15 pm15 cd15 ct15 oc16 kV16 dc16 pm16 cd16 ct16 oc17 kV17 dc17 pm17 cd17 ct17 oc18 kV18 dc18 pm18 cd18 ct18 oc19 kV19 dc19 pm19 cd19 ct19 oc20 kV20 dc20 pm20 cd20 ct20 oc21 kV21 dc21 pm21 cd21 ct21 oc22 kV22 dc22 pm22 cd22 ct22 oc23 kV23 dc23 pm23 cd23 ct23 oc24 kV24 dc24 pm24 cd24 ct24 oc25 kV25 dc25 pm25 cd25 ct25 oc26 kV26 dc26 pm26 cd26 ct26 oc27 kV27 dc27 pm27 cd27 ct27 oc28 kV28 dc28 pm28 cd28 ct28 oc29 kV29 dc29 pm29 cd29 ct29 oc30 kV30 dc30 pm30 cd30 ct30 oc31 kV31 dc31 pm31 cd31 ct31 oc32 kV32 dc32 pm32 cd32 ct32 oc33 kV33 dc33 pm33 cd33 ct33 oc34 kV34 dc34 pm34 cd34 ct34 oc35 kV35 dc35 pm35 cd35 ct35 oc36 kV36 dc36 pm36 cd36 ct36 oc37 kV37 dc37 pm37 cd37 ct37 oc38 kV38 dc38 pm38 cd38 ct38 oc39 kV39 dc39 pm39 cd39 ct39 oc40 kV40 dc40 pm40 cd40 ct40:Value}
  {tM:Tok}
  (a1:W.nsIn K mainGlobals "first_of" = some (some (.ref f1)))
  (l1:K.lookup f1=some ⟨oc1,od1,.func (W.fnOf "first_of" "first_of" (aj dD) (ai dD) (ae dD) .none kV1 dc1 pm1 an1 cd1 ct1),sl1⟩)
  (c1:W.codeIn K cd1 "first_of" = true)
  (k1:W.keepIn K (.ref f1)=true)
  (a2:W.nsIn K mainGlobals "is_whole" = some (some (.ref f2)))
  (l2:K.lookup f2=some ⟨oc2,od2,.func (W.fnOf "is_whole" "is_whole" (aj dn) (ai dn) (ae dn) .none kV2 dc2 pm2 an2 cd2 ct2),sl2⟩)
  (c2:W.codeIn K cd2 "is_whole" = true)
  (k2:W.keepIn K (.ref f2)=true)
  (a3:W.nsIn K mainGlobals "is_corner" = some (some (.ref f3)))
  (l3:K.lookup f3=some ⟨oc3,od3,.func (W.fnOf "is_corner" "is_corner" (aj bP) (ai bP) (ae bP) .none kV3 dc3 pm3 an3 cd3 ct3),sl3⟩)
  (c3:W.codeIn K cd3 "is_corner" = true)
  (k3:W.keepIn K (.ref f3)=true)
  (a4:W.nsIn K mainGlobals "is_triple" = some (some (.ref f4)))
  (l4:K.lookup f4=some ⟨oc4,od4,.func (W.fnOf "is_triple" "is_triple" (aj bO) (ai bO) (ae bO) .none kV4 dc4 pm4 an4 cd4 ct4),sl4⟩)
  (c4:W.codeIn K cd4 "is_triple" = true)
  (k4:W.keepIn K (.ref f4)=true)
  (a5:W.nsIn K mainGlobals "checked_triples" = some (some (.ref f5)))
  (l5:K.lookup f5=some ⟨oc5,od5,.func (W.fnOf "checked_triples" "checked_triples" (aj cz) (ai cz) (ae cz) .none kV5 dc5 pm5 an5 cd5 ct5),sl5⟩)
  (c5:W.codeIn K cd5 "checked_triples" = true)
  (k5:W.keepIn K (.ref f5)=true)
  (a6:W.nsIn K mainGlobals "thirds_by_side" = some (some (.ref f6)))
  (l6:K.lookup f6=some ⟨oc6,od6,.func (W.fnOf "thirds_by_side" "thirds_by_side" (aj cU) (ai cU) (ae cU) .none kV6 dc6 pm6 an6 cd6 ct6),sl6⟩)
  (c6:W.codeIn K cd6 "thirds_by_side" = true)
  (k6:W.keepIn K (.ref f6)=true)
  (a7:W.nsIn K mainGlobals "steps_by_corner" = some (some (.ref f7)))
  (l7:K.lookup f7=some ⟨oc7,od7,.func (W.fnOf "steps_by_corner" "steps_by_corner" (aj dt) (ai dt) (ae dt) .none kV7 dc7 pm7 an7 cd7 ct7),sl7⟩)
  (c7:W.codeIn K cd7 "steps_by_corner" = true)
  (k7:W.keepIn K (.ref f7)=true)
  (a8:W.nsIn K mainGlobals "hang_together" = some (some (.ref f8)))
  (l8:K.lookup f8=some ⟨oc8,od8,.func (W.fnOf "hang_together" "hang_together" (aj fh) (ai fh) (ae fh) .none kV8 dc8 pm8 an8 cd8 ct8),sl8⟩)
  (c8:W.codeIn K cd8 "hang_together" = true)
  (k8:W.keepIn K (.ref f8)=true)
  (a9:W.nsIn K mainGlobals "look_rounds_through" = some (some (.ref f9)))
  (l9:K.lookup f9=some ⟨oc9,od9,.func (W.fnOf "look_rounds_through" "look_rounds_through" (aj dz) (ai dz) (ae dz) .none kV9 dc9 pm9 an9 cd9 ct9),sl9⟩)
  (c9:W.codeIn K cd9 "look_rounds_through" = true)
  (k9:W.keepIn K (.ref f9)=true)
  (a10:W.nsIn K mainGlobals "begun_least" = some (some (.ref f10)))
  (l10:K.lookup f10=some ⟨oc10,od10,.func (W.fnOf "begun_least" "begun_least" (aj dH) (ai dH) (ae dH) .none kV10 dc10 pm10 an10 cd10 ct10),sl10⟩)
  (c10:W.codeIn K cd10 "begun_least" = true)
  (k10:W.keepIn K (.ref f10)=true)
  (a11:W.nsIn K mainGlobals "is_figures" = some (some (.ref f11)))
  (l11:K.lookup f11=some ⟨oc11,od11,.func (W.fnOf "is_figures" "is_figures" (aj bE) (ai bE) (ae bE) .none kV11 dc11 pm11 an11 cd11 ct11),sl11⟩)
  (c11:W.codeIn K cd11 "is_figures" = true)
  (k11:W.keepIn K (.ref f11)=true)
  (a12:W.nsIn K mainGlobals "show_triangle" = some (some (.ref f12)))
  (l12:K.lookup f12=some ⟨oc12,od12,.func (W.fnOf "show_triangle" "show_triangle" (aj aP) (ai aP) (ae aP) .none kV12 dc12 pm12 an12 cd12 ct12),sl12⟩)
  (c12:W.codeIn K cd12 "show_triangle" = true)
  (k12:W.keepIn K (.ref f12)=true)
  (a13:W.nsIn K mainGlobals "show_skin" = some (some (.ref f13)))
  (l13:K.lookup f13=some ⟨oc13,od13,.func (W.fnOf "show_skin" "show_skin" (aj bM) (ai bM) (ae bM) .none kV13 dc13 pm13 an13 cd13 ct13),sl13⟩)
  (c13:W.codeIn K cd13 "show_skin" = true)
  (k13:W.keepIn K (.ref f13)=true)
  (a14:W.nsIn K mainGlobals "read_triple" = some (some (.ref f14)))
  (l14:K.lookup f14=some ⟨oc14,od14,.func (W.fnOf "read_triple" "read_triple" (aj bh) (ai bh) (ae bh) .none kV14 dc14 pm14 an14 cd14 ct14),sl14⟩)
  (c14:W.codeIn K cd14 "read_triple" = true)
  (k14:W.keepIn K (.ref f14)=true)
  (a15:W.nsIn K mainGlobals "read_skin" = some (some (.ref f15)))
  (l15:K.lookup f15=some ⟨oc15,od15,.func (W.fnOf "read_skin" "read_skin" (aj bN) (ai bN) (ae bN) .none kV15 dc15 pm15 an15 cd15 ct15),sl15⟩)
  (c15:W.codeIn K cd15 "read_skin" = true)
  (k15:W.keepIn K (.ref f15)=true)
  (a16:W.nsIn K mainGlobals "_law_at" = some (some (.ref f16)))
  (l16:K.lookup f16=some ⟨oc16,od16,.func (W.fnOf "_law_at" "_law_at" (aj sAt) (ai sAt) (ae sAt) .none kV16 dc16 pm16 an16 cd16 ct16),sl16⟩)
  (c16:W.codeIn K cd16 "_law_at" = true)
  (k16:W.keepIn K (.ref f16)=true)
  (a17:W.nsIn K mainGlobals "_law_pot" = some (some (.ref f17)))
  (l17:K.lookup f17=some ⟨oc17,od17,.func (W.fnOf "_law_pot" "_law_pot" (aj sPot) (ai sPot) (ae sPot) .none kV17 dc17 pm17 an17 cd17 ct17),sl17⟩)
  (c17:W.codeIn K cd17 "_law_pot" = true)
  (k17:W.keepIn K (.ref f17)=true)
  (a18:W.nsIn K mainGlobals "_law_digit" = some (some (.ref f18)))
  (l18:K.lookup f18=some ⟨oc18,od18,.func (W.fnOf "_law_digit" "_law_digit" (aj dG) (ai dG) (ae dG) .none kV18 dc18 pm18 an18 cd18 ct18),sl18⟩)
  (c18:W.codeIn K cd18 "_law_digit" = true)
  (k18:W.keepIn K (.ref f18)=true)
  (a19:W.nsIn K mainGlobals "_law_sides" = some (some (.ref f19)))
  (l19:K.lookup f19=some ⟨oc19,od19,.func (W.fnOf "_law_sides" "_law_sides" (aj dv) (ai dv) (ae dv) .none kV19 dc19 pm19 an19 cd19 ct19),sl19⟩)
  (c19:W.codeIn K cd19 "_law_sides" = true)
  (k19:W.keepIn K (.ref f19)=true)
  (a20:W.nsIn K mainGlobals "_law_thirds" = some (some (.ref f20)))
  (l20:K.lookup f20=some ⟨oc20,od20,.func (W.fnOf "_law_thirds" "_law_thirds" (aj cR) (ai cR) (ae cR) .none kV20 dc20 pm20 an20 cd20 ct20),sl20⟩)
  (c20:W.codeIn K cd20 "_law_thirds" = true)
  (k20:W.keepIn K (.ref f20)=true)
  (a21:W.nsIn K mainGlobals "_law_free" = some (some (.ref f21)))
  (l21:K.lookup f21=some ⟨oc21,od21,.func (W.fnOf "_law_free" "_law_free" (aj fi) (ai fi) (ae fi) .none kV21 dc21 pm21 an21 cd21 ct21),sl21⟩)
  (c21:W.codeIn K cd21 "_law_free" = true)
  (k21:W.keepIn K (.ref f21)=true)
  (a22:W.nsIn K mainGlobals "_law_corners" = some (some (.ref f22)))
  (l22:K.lookup f22=some ⟨oc22,od22,.func (W.fnOf "_law_corners" "_law_corners" (aj cy) (ai cy) (ae cy) .none kV22 dc22 pm22 an22 cd22 ct22),sl22⟩)
  (c22:W.codeIn K cd22 "_law_corners" = true)
  (k22:W.keepIn K (.ref f22)=true)
  (a23:W.nsIn K mainGlobals "_law_fans" = some (some (.ref f23)))
  (l23:K.lookup f23=some ⟨oc23,od23,.func (W.fnOf "_law_fans" "_law_fans" (aj fj) (ai fj) (ae fj) .none kV23 dc23 pm23 an23 cd23 ct23),sl23⟩)
  (c23:W.codeIn K cd23 "_law_fans" = true)
  (k23:W.keepIn K (.ref f23)=true)
  (a24:W.nsIn K mainGlobals "_law_split" = some (some (.ref f24)))
  (l24:K.lookup f24=some ⟨oc24,od24,.func (W.fnOf "_law_split" "_law_split" (aj du) (ai du) (ae du) .none kV24 dc24 pm24 an24 cd24 ct24),sl24⟩)
  (c24:W.codeIn K cd24 "_law_split" = true)
  (k24:W.keepIn K (.ref f24)=true)
  (a25:W.nsIn K mainGlobals "_law_drawn" = some (some (.ref f25)))
  (l25:K.lookup f25=some ⟨oc25,od25,.func (W.fnOf "_law_drawn" "_law_drawn" (aj dE) (ai dE) (ae dE) .none kV25 dc25 pm25 an25 cd25 ct25),sl25⟩)
  (c25:W.codeIn K cd25 "_law_drawn" = true)
  (k25:W.keepIn K (.ref f25)=true)
  (a26:W.nsIn K mainGlobals "_law_rim_sides" = some (some (.ref f26)))
  (l26:K.lookup f26=some ⟨oc26,od26,.func (W.fnOf "_law_rim_sides" "_law_rim_sides" (aj bz) (ai bz) (ae bz) .none kV26 dc26 pm26 an26 cd26 ct26),sl26⟩)
  (c26:W.codeIn K cd26 "_law_rim_sides" = true)
  (k26:W.keepIn K (.ref f26)=true)
  (a27:W.nsIn K mainGlobals "_law_grown" = some (some (.ref f27)))
  (l27:K.lookup f27=some ⟨oc27,od27,.func (W.fnOf "_law_grown" "_law_grown" (aj cS) (ai cS) (ae cS) .none kV27 dc27 pm27 an27 cd27 ct27),sl27⟩)
  (c27:W.codeIn K cd27 "_law_grown" = true)
  (k27:W.keepIn K (.ref f27)=true)
  (a28:W.nsIn K mainGlobals "_law_ring" = some (some (.ref f28)))
  (l28:K.lookup f28=some ⟨oc28,od28,.func (W.fnOf "_law_ring" "_law_ring" (aj dC) (ai dC) (ae dC) .none kV28 dc28 pm28 an28 cd28 ct28),sl28⟩)
  (c28:W.codeIn K cd28 "_law_ring" = true)
  (k28:W.keepIn K (.ref f28)=true)
  (a29:W.nsIn K mainGlobals "_law_beside" = some (some (.ref f29)))
  (l29:K.lookup f29=some ⟨oc29,od29,.func (W.fnOf "_law_beside" "_law_beside" (aj cw) (ai cw) (ae cw) .none kV29 dc29 pm29 an29 cd29 ct29),sl29⟩)
  (c29:W.codeIn K cd29 "_law_beside" = true)
  (k29:W.keepIn K (.ref f29)=true)
  (a30:W.nsIn K mainGlobals "_law_skin" = some (some (.ref f30)))
  (l30:K.lookup f30=some ⟨oc30,od30,.func (W.fnOf "_law_skin" "_law_skin" (aj dB) (ai dB) (ae dB) .none kV30 dc30 pm30 an30 cd30 ct30),sl30⟩)
  (c30:W.codeIn K cd30 "_law_skin" = true)
  (k30:W.keepIn K (.ref f30)=true)
  (a31:W.nsIn K mainGlobals "_law_named" = some (some (.ref f31)))
  (l31:K.lookup f31=some ⟨oc31,od31,.func (W.fnOf "_law_named" "_law_named" (aj dw) (ai dw) (ae dw) .none kV31 dc31 pm31 an31 cd31 ct31),sl31⟩)
  (c31:W.codeIn K cd31 "_law_named" = true)
  (k31:W.keepIn K (.ref f31)=true)
  (a32:W.nsIn K mainGlobals "_law_handed" = some (some (.ref f32)))
  (l32:K.lookup f32=some ⟨oc32,od32,.func (W.fnOf "_law_handed" "_law_handed" (aj cT) (ai cT) (ae cT) .none kV32 dc32 pm32 an32 cd32 ct32),sl32⟩)
  (c32:W.codeIn K cd32 "_law_handed" = true)
  (k32:W.keepIn K (.ref f32)=true)
  (a33:W.nsIn K mainGlobals "_law_told" = some (some (.ref f33)))
  (l33:K.lookup f33=some ⟨oc33,od33,.func (W.fnOf "_law_told" "_law_told" (aj fg) (ai fg) (ae fg) .none kV33 dc33 pm33 an33 cd33 ct33),sl33⟩)
  (c33:W.codeIn K cd33 "_law_told" = true)
  (k33:W.keepIn K (.ref f33)=true)
  (a34:W.nsIn K mainGlobals "_law_text" = some (some (.ref f34)))
  (l34:K.lookup f34=some ⟨oc34,od34,.func (W.fnOf "_law_text" "_law_text" (aj dA) (ai dA) (ae dA) .none kV34 dc34 pm34 an34 cd34 ct34),sl34⟩)
  (c34:W.codeIn K cd34 "_law_text" = true)
  (k34:W.keepIn K (.ref f34)=true)
  (a35:W.nsIn K mainGlobals "_law_is" = some (some (.ref f35)))
  (l35:K.lookup f35=some ⟨oc35,od35,.func (W.fnOf "_law_is" "_law_is" (aj sLIs) (ai sLIs) (ae sLIs) .none kV35 dc35 pm35 an35 cd35 ct35),sl35⟩)
  (c35:W.codeIn K cd35 "_law_is" = true)
  (k35:W.keepIn K (.ref f35)=true)
  (a36:W.nsIn K mainGlobals "law" = some (some (.ref f36)))
  (l36:K.lookup f36=some ⟨oc36,od36,.func (W.fnOf "law" "law" (aj sLaw) (ai sLaw) (ae sLaw) .none kV36 dc36 pm36 an36 cd36 ct36),sl36⟩)
  (c36:W.codeIn K cd36 "law" = true)
  (k36:W.keepIn K (.ref f36)=true)
  (a37:W.findIn K (.ref Cs) "__init__" = some (some (.ref f37)))
  (i37:W.isFn K (.ref f37)=true)
  (l37:K.lookup f37=some ⟨oc37,od37,.func (W.fnOf "__init__" "Skin.__init__" (aj eG) (ai eG) (ae eG) .none kV37 dc37 pm37 an37 cd37 ct37),sl37⟩)
  (c37:W.codeIn K cd37 "Skin.__init__" = true)
  (k37:W.keepIn K (.ref f37)=true)
  (a38:W.findIn K (.ref Cs) "triangles" = some (some (.ref f38)))
  (i38:W.isFn K (.ref f38)=true)
  (l38:K.lookup f38=some ⟨oc38,od38,.func (W.fnOf "triangles" "Skin.triangles" (aj br) (ai br) (ae br) .none kV38 dc38 pm38 an38 cd38 ct38),sl38⟩)
  (c38:W.codeIn K cd38 "Skin.triangles" = true)
  (k38:W.keepIn K (.ref f38)=true)
  (a39:W.findIn K (.ref Cs) "corners" = some (some (.ref f39)))
  (i39:W.isFn K (.ref f39)=true)
  (l39:K.lookup f39=some ⟨oc39,od39,.func (W.fnOf "corners" "Skin.corners" (aj bu) (ai bu) (ae bu) .none kV39 dc39 pm39 an39 cd39 ct39),sl39⟩)
  (c39:W.codeIn K cd39 "Skin.corners" = true)
  (k39:W.keepIn K (.ref f39)=true)
  (a40:W.findIn K (.ref Cs) "third" = some (some (.ref f40)))
  (i40:W.isFn K (.ref f40)=true)
  (l40:K.lookup f40=some ⟨oc40,od40,.func (W.fnOf "third" "Skin.third" (aj dq) (ai dq) (ae dq) .none kV40 dc40 pm40 an40 cd40 ct40),sl40⟩)
  (c40:W.codeIn K cd40 "Skin.third" = true)
  (k40:W.keepIn K (.ref f40)=true)
  (aCs:W.nsIn K mainGlobals "Skin" = some (some (.ref Cs)))
  (pg:W.plainGet K Cs Str.empty=true)
  (hd:W.hasDictIn K Cs=true)
  (po:W.plainOver K Cs=true)
  (sa:W.findIn K (.ref Cs) "__setattr__" = some (some (.builtin "object.__setattr__")))
  (mk:W.makesIn K Cs=true)
  (kc:W.keepIn K (.ref Cs)=true)
  (n_ordered:W.findIn K (.ref Cs) "ordered" = some none)
  (n_rising:W.findIn K (.ref Cs) "rising" = some none)
  (n_thirds:W.findIn K (.ref Cs) "thirds" = some none)
  (n_steps:W.findIn K (.ref Cs) "steps" = some none)
  (z_len:W.nsIn K mainGlobals "len" = some none)
  (z_int:W.nsIn K mainGlobals "int" = some none)
  (z_str:W.nsIn K mainGlobals "str" = some none)
  (z_isinstance:W.nsIn K mainGlobals "isinstance" = some none)
  (z_range:W.nsIn K mainGlobals "range" = some none)
  (z_list:W.nsIn K mainGlobals "list" = some none)
  (z_tuple:W.nsIn K mainGlobals "tuple" = some none)
  (z_bool:W.nsIn K mainGlobals "bool" = some none)
  (z_all:W.nsIn K mainGlobals "all" = some none)
  (z_ValueError:W.nsIn K mainGlobals "ValueError" = some none)
  (z_reversed:W.nsIn K mainGlobals "reversed" = some none)
  (z_enumerate:W.nsIn K mainGlobals "enumerate" = some none)
  (z_sorted:W.nsIn K mainGlobals "sorted" = some none)
  (z_min:W.nsIn K mainGlobals "min" = some none)
  (z_max:W.nsIn K mainGlobals "max" = some none)
  (z_dict:W.nsIn K mainGlobals "dict" = some none)
  (aM:W.nsIn K mainGlobals "MOST_TRIPLES" = some (some (.int 200 tM)))
  (t_t:W.kitOne K (.type "tuple") (.type "tuple")=some true)
  (t_i:W.kitOne K (.type "int") (.type "int")=some true)
  (t_b:W.kitOne K (.type "int") (.type "bool")=some false)
  (v_s:W.kitOne K (.type "str") (.type "str")=some true)
  (v_own:W.kitOne K (.ref Cs) (.ref Cs)=some true)
  (v_ha:W.findIn K (.ref Cs) "__class__" = some (some (.builtin "object.__class__")))
  (v_hn:W.specialIn K (.builtin "object.__class__") "__get__" = some (some (.builtin "getset_descriptor.__get__")))
  (v_htk:W.takesIn K (.builtin "object.__class__")=some true)
  (v_hm:W.mroIn K Cs (.type "object")=some true)
  : ∃fd:FuncData,(∀(s:Shared) (v:Value),BindsTo s fd ⟨[v],[]⟩ [("_law_script",v)])∧∀base:Heap,K.In base→base.Ns mainGlobals mg→FnOk l.prog w K mg base CX0 8 fa fd ["_law_script"] (lq K):=by
 have e:=hfa.symm.trans (W.mg_of X G a36)
 cases e
 have T:TxtN mg:=⟨W.mg_none_of X G z_len,W.mg_none_of X G z_int,W.mg_none_of X G z_str,W.mg_none_of X G z_isinstance,W.mg_none_of X G z_range,W.mg_none_of X G z_list,W.mg_none_of X G z_tuple,W.mg_none_of X G z_bool,W.mg_none_of X G z_all,W.mg_none_of X G z_ValueError,W.mg_none_of X G z_reversed,W.mg_none_of X G z_enumerate⟩
 have kt:KitI K:=⟨t_t,t_i,t_b⟩
 have SC:SCls K Cs:=⟨⟨pg,hd,po,sa⟩,n_ordered,n_rising,n_thirds,n_steps⟩
 have MF:Mk K Cs f37:=⟨mk,a37,i37,kc⟩
 have kb:KitS K Cs:=⟨v_s,v_own,v_ha,v_hn,v_htk,v_hm⟩
 exact⟨W.fnOf "law" "law" (aj sLaw) (ai sLaw) (ae sLaw) .none kV36 dc36 pm36 an36 cd36 ct36,fun s v=>.of_eq rfl,fun base _ _=>all_ok T (W.mg_none_of X G z_sorted) (W.mg_none_of X G z_min) (W.mg_none_of X G z_max) (W.mg_none_of X G z_dict) kt kb SC MF (W.mg_of X G aCs) (W.mg_of X G aM)
  (aH (st:=dD) X G a1 l1 c1 k1)
  (aH (st:=dn) X G a2 l2 c2 k2)
  (aH (st:=bP) X G a3 l3 c3 k3)
  (aH (st:=bO) X G a4 l4 c4 k4)
  (aH (st:=cz) X G a5 l5 c5 k5)
  (aH (st:=cU) X G a6 l6 c6 k6)
  (aH (st:=dt) X G a7 l7 c7 k7)
  (aH (st:=fh) X G a8 l8 c8 k8)
  (aH (st:=dz) X G a9 l9 c9 k9)
  (aH (st:=dH) X G a10 l10 c10 k10)
  (aH (st:=bE) X G a11 l11 c11 k11)
  (aH (st:=aP) X G a12 l12 c12 k12)
  (aH (st:=bM) X G a13 l13 c13 k13)
  (aH (st:=bh) X G a14 l14 c14 k14)
  (aH (st:=bN) X G a15 l15 c15 k15)
  (aH (st:=sAt) X G a16 l16 c16 k16)
  (aH (st:=sPot) X G a17 l17 c17 k17)
  (aH (st:=dG) X G a18 l18 c18 k18)
  (aH (st:=dv) X G a19 l19 c19 k19)
  (aH (st:=cR) X G a20 l20 c20 k20)
  (aH (st:=fi) X G a21 l21 c21 k21)
  (aH (st:=cy) X G a22 l22 c22 k22)
  (aH (st:=fj) X G a23 l23 c23 k23)
  (aH (st:=du) X G a24 l24 c24 k24)
  (aH (st:=dE) X G a25 l25 c25 k25)
  (aH (st:=bz) X G a26 l26 c26 k26)
  (aH (st:=cS) X G a27 l27 c27 k27)
  (aH (st:=dC) X G a28 l28 c28 k28)
  (aH (st:=cw) X G a29 l29 c29 k29)
  (aH (st:=dB) X G a30 l30 c30 k30)
  (aH (st:=dw) X G a31 l31 c31 k31)
  (aH (st:=cT) X G a32 l32 c32 k32)
  (aH (st:=fg) X G a33 l33 c33 k33)
  (aH (st:=dA) X G a34 l34 c34 k34)
  (aH (st:=sLIs) X G a35 l35 c35 k35)
  (aH (st:=sLaw) X G a36 l36 c36 k36)
  (kX (st:=eG) a37 i37 l37 c37 k37)
  (kX (st:=br) a38 i38 l38 c38 k38)
  (kX (st:=bu) a39 i39 l39 c39 k39)
  (kX (st:=dq) a40 i40 l40 c40 k40)⟩
theorem walk {l:W.OpenLaw} {q:Program} {loose:List Str} {XP:(Str→Option Value)→Heap→Prop} {YP:World→Heap→Prop} {d:DefRec} {K:Params→W.Frag} (hn:l.most=some 63) (hdf:d.params.defaults=[])
  (hY:∀(w:World) (h:Heap),YP w h→(K w.params).In h)
  (F:∀(w:World) (mg:Str→Option Value) (fa:Addr) (h:Heap),(K w.params).In h→h.Ns mainGlobals mg→mg d.name=some (.ref fa) →
   ∃fd:FuncData,(∀(s:Shared) (u:Value),BindsTo s fd ⟨[u],[]⟩ [("_law_script",u)])∧∀base:Heap,(K w.params).In base→base.Ns mainGlobals mg→FnOk l.prog w (K w.params) mg base CX0 8 fa fd ["_law_script"] (lq (K w.params))) :
  W.WalkO q loose XP YP l.row.toRowW d [] (fun f vs=>PySem.call f vs):=
 L2.walk_of (n:=63) (k:=8) (x:="_law_script") (CX:=fun _=>CX0) (sp:=fun w=>lq (K w.params)) hn (by decide) hdf ⟨rfl,by decide,by decide,rfl⟩ hY F (fun _ _ a ns hl _ hS=>⟨a,ns,rfl,hS,hl,fun _=>rfl⟩) fun _ _ _ _ _ z=>z
end K15
end
def PySem.W.Fast.tw5960478771025680879:PySem.Program:=PySem.Challenge.pw_shapestring_k13_written_and_read
theorem PySem.W.Fast.te5960478771025680879:PySem.Challenge.pw_shapestring_k13_written_and_read=PySem.W.Fast.tw5960478771025680879:=rfl
open PySem PySem.W PyProof.Rows
set_option maxRecDepth 100000 in
set_option maxHeartbeats 0 in
theorem PySem.Challenge.cw_shapestring_k13_written_and_read_holds : PySem.Challenge.rw_shapestring_k13_written_and_read.Holds := by
 w_on;o_law
 refine W.holds_open (q:=K15.view) (loose:=[]) (Xt:=fun s=>xlAt K15.view [] s&&recOk [] s) (XP:=XL K15.view []) (Yf:=Hook.obs (kHook K15.kf [nat_lit 2,nat_lit 3,nat_lit 76,nat_lit 77,nat_lit 83,nat_lit 84,nat_lit 90,nat_lit 91,nat_lit 95,nat_lit 96,nat_lit 102,nat_lit 103,nat_lit 109,nat_lit 110,nat_lit 116,nat_lit 117,nat_lit 123,nat_lit 124,nat_lit 130,nat_lit 131,nat_lit 137,nat_lit 138,nat_lit 144,nat_lit 145,nat_lit 156,nat_lit 157,nat_lit 163,nat_lit 164,nat_lit 170,nat_lit 171,nat_lit 177,nat_lit 178,nat_lit 180,nat_lit 181,nat_lit 189,nat_lit 190,nat_lit 194,nat_lit 195,nat_lit 201,nat_lit 202,nat_lit 206,nat_lit 207,nat_lit 213,nat_lit 214,nat_lit 220,nat_lit 221,nat_lit 227,nat_lit 228,nat_lit 234,nat_lit 235,nat_lit 241,nat_lit 242,nat_lit 246,nat_lit 247,nat_lit 253,nat_lit 254,nat_lit 258,nat_lit 259,nat_lit 263,nat_lit 264,nat_lit 268,nat_lit 269,nat_lit 273,nat_lit 274,nat_lit 278,nat_lit 279,nat_lit 283,nat_lit 284,nat_lit 288,nat_lit 289,nat_lit 295,nat_lit 296,nat_lit 300,nat_lit 301,nat_lit 307,nat_lit 308,nat_lit 314,nat_lit 315,nat_lit 319,nat_lit 320,nat_lit 326,nat_lit 327,nat_lit 331,nat_lit 332] (fun _=>by kernel_rfl))) (Ya:=Hook.val (kHook K15.kf [nat_lit 2,nat_lit 3,nat_lit 76,nat_lit 77,nat_lit 83,nat_lit 84,nat_lit 90,nat_lit 91,nat_lit 95,nat_lit 96,nat_lit 102,nat_lit 103,nat_lit 109,nat_lit 110,nat_lit 116,nat_lit 117,nat_lit 123,nat_lit 124,nat_lit 130,nat_lit 131,nat_lit 137,nat_lit 138,nat_lit 144,nat_lit 145,nat_lit 156,nat_lit 157,nat_lit 163,nat_lit 164,nat_lit 170,nat_lit 171,nat_lit 177,nat_lit 178,nat_lit 180,nat_lit 181,nat_lit 189,nat_lit 190,nat_lit 194,nat_lit 195,nat_lit 201,nat_lit 202,nat_lit 206,nat_lit 207,nat_lit 213,nat_lit 214,nat_lit 220,nat_lit 221,nat_lit 227,nat_lit 228,nat_lit 234,nat_lit 235,nat_lit 241,nat_lit 242,nat_lit 246,nat_lit 247,nat_lit 253,nat_lit 254,nat_lit 258,nat_lit 259,nat_lit 263,nat_lit 264,nat_lit 268,nat_lit 269,nat_lit 273,nat_lit 274,nat_lit 278,nat_lit 279,nat_lit 283,nat_lit 284,nat_lit 288,nat_lit 289,nat_lit 295,nat_lit 296,nat_lit 300,nat_lit 301,nat_lit 307,nat_lit 308,nat_lit 314,nat_lit 315,nat_lit 319,nat_lit 320,nat_lit 326,nat_lit 327,nat_lit 331,nat_lit 332] (fun _=>by kernel_rfl))) (YP:=Hook.says (kHook K15.kf [nat_lit 2,nat_lit 3,nat_lit 76,nat_lit 77,nat_lit 83,nat_lit 84,nat_lit 90,nat_lit 91,nat_lit 95,nat_lit 96,nat_lit 102,nat_lit 103,nat_lit 109,nat_lit 110,nat_lit 116,nat_lit 117,nat_lit 123,nat_lit 124,nat_lit 130,nat_lit 131,nat_lit 137,nat_lit 138,nat_lit 144,nat_lit 145,nat_lit 156,nat_lit 157,nat_lit 163,nat_lit 164,nat_lit 170,nat_lit 171,nat_lit 177,nat_lit 178,nat_lit 180,nat_lit 181,nat_lit 189,nat_lit 190,nat_lit 194,nat_lit 195,nat_lit 201,nat_lit 202,nat_lit 206,nat_lit 207,nat_lit 213,nat_lit 214,nat_lit 220,nat_lit 221,nat_lit 227,nat_lit 228,nat_lit 234,nat_lit 235,nat_lit 241,nat_lit 242,nat_lit 246,nat_lit 247,nat_lit 253,nat_lit 254,nat_lit 258,nat_lit 259,nat_lit 263,nat_lit 264,nat_lit 268,nat_lit 269,nat_lit 273,nat_lit 274,nat_lit 278,nat_lit 279,nat_lit 283,nat_lit 284,nat_lit 288,nat_lit 289,nat_lit 295,nat_lit 296,nat_lit 300,nat_lit 301,nat_lit 307,nat_lit 308,nat_lit 314,nat_lit 315,nat_lit 319,nat_lit 320,nat_lit 326,nat_lit 327,nat_lit 331,nat_lit 332] (fun _=>by kernel_rfl))) (N:=4726) K15.left (Hook.of _) (Hook.keeps _)
  (fun s e=>xl_of s (Bool.and_eq_true_iff.mp e).1) XL.keeps (by rfl) (by rfl) (by rfl) (fun s e=>recFacts_of (Bool.and_eq_true_iff.mp e).2) (by rfl) (by assumption) (by decide +kernel) ⟨rfl,rfl,rfl,rfl,rfl,by decide +kernel⟩ ?hw ?hc
 case hw=>w_witness2
 k_fill
 refine K15.walk (l:=PySem.Challenge.rw_shapestring_k13_written_and_read) rfl rfl (fun w h Y=>W.kIn_of Y) ?F
 case F=>
  intro w mg fa h KX G hmg
  refine' K15.all_mk KX G hmg ?a1 ?l1 ?c1 ?k1 ?a2 ?l2 ?c2 ?k2 ?a3 ?l3 ?c3 ?k3 ?a4 ?l4 ?c4 ?k4 ?a5 ?l5 ?c5 ?k5 ?a6 ?l6 ?c6 ?k6 ?a7 ?l7 ?c7 ?k7 ?a8 ?l8 ?c8 ?k8 ?a9 ?l9 ?c9 ?k9 ?a10 ?l10 ?c10 ?k10 ?a11 ?l11 ?c11 ?k11 ?a12 ?l12 ?c12 ?k12 ?a13 ?l13 ?c13 ?k13 ?a14 ?l14 ?c14 ?k14 ?a15 ?l15 ?c15 ?k15 ?a16 ?l16 ?c16 ?k16 ?a17 ?l17 ?c17 ?k17 ?a18 ?l18 ?c18 ?k18 ?a19 ?l19 ?c19 ?k19 ?a20 ?l20 ?c20 ?k20 ?a21 ?l21 ?c21 ?k21 ?a22 ?l22 ?c22 ?k22 ?a23 ?l23 ?c23 ?k23 ?a24 ?l24 ?c24 ?k24 ?a25 ?l25 ?c25 ?k25 ?a26 ?l26 ?c26 ?k26 ?a27 ?l27 ?c27 ?k27 ?a28 ?l28 ?c28 ?k28 ?a29 ?l29 ?c29 ?k29 ?a30 ?l30 ?c30 ?k30 ?a31 ?l31 ?c31 ?k31 ?a32 ?l32 ?c32 ?k32 ?a33 ?l33 ?c33 ?k33 ?a34 ?l34 ?c34 ?k34 ?a35 ?l35 ?c35 ?k35 ?a36 ?l36 ?c36 ?k36 ?a37 ?i37 ?l37 ?c37 ?k37 ?a38 ?i38 ?l38 ?c38 ?k38 ?a39 ?i39 ?l39 ?c39 ?k39 ?a40 ?i40 ?l40 ?c40 ?k40 ?aCs ?pg ?hd ?po ?sa ?mk ?kc ?n_ordered ?n_rising ?n_thirds ?n_steps ?z_len ?z_int ?z_str ?z_isinstance ?z_range ?z_list ?z_tuple ?z_bool ?z_all ?z_ValueError ?z_reversed ?z_enumerate ?z_sorted ?z_min ?z_max ?z_dict ?aM ?t_t ?t_i ?t_b ?v_s ?v_own ?v_ha ?v_hn ?v_htk ?v_hm
  (case aCs=>k_is);(case a1=>k_is);(case l1=>k_is);(case c1=>k_is);(case k1=>k_is);(case a2=>k_is);(case l2=>k_is);(case c2=>k_is)
  (case k2=>k_is);(case a3=>k_is);(case l3=>k_is);(case c3=>k_is);(case k3=>k_is);(case a4=>k_is);(case l4=>k_is);(case c4=>k_is)
  (case k4=>k_is);(case a5=>k_is);(case l5=>k_is);(case c5=>k_is);(case k5=>k_is);(case a6=>k_is);(case l6=>k_is);(case c6=>k_is)
  (case k6=>k_is);(case a7=>k_is);(case l7=>k_is);(case c7=>k_is);(case k7=>k_is);(case a8=>k_is);(case l8=>k_is);(case c8=>k_is)
  (case k8=>k_is);(case a9=>k_is);(case l9=>k_is);(case c9=>k_is);(case k9=>k_is);(case a10=>k_is);(case l10=>k_is);(case c10=>k_is)
  (case k10=>k_is);(case a11=>k_is);(case l11=>k_is);(case c11=>k_is);(case k11=>k_is);(case a12=>k_is);(case l12=>k_is);(case c12=>k_is)
  (case k12=>k_is);(case a13=>k_is);(case l13=>k_is);(case c13=>k_is);(case k13=>k_is);(case a14=>k_is);(case l14=>k_is);(case c14=>k_is)
  (case k14=>k_is);(case a15=>k_is);(case l15=>k_is);(case c15=>k_is);(case k15=>k_is);(case a16=>k_is);(case l16=>k_is);(case c16=>k_is)
  (case k16=>k_is);(case a17=>k_is);(case l17=>k_is);(case c17=>k_is);(case k17=>k_is);(case a18=>k_is);(case l18=>k_is);(case c18=>k_is)
  (case k18=>k_is);(case a19=>k_is);(case l19=>k_is);(case c19=>k_is);(case k19=>k_is);(case a20=>k_is);(case l20=>k_is);(case c20=>k_is)
  (case k20=>k_is);(case a21=>k_is);(case l21=>k_is);(case c21=>k_is);(case k21=>k_is);(case a22=>k_is);(case l22=>k_is);(case c22=>k_is)
  (case k22=>k_is);(case a23=>k_is);(case l23=>k_is);(case c23=>k_is);(case k23=>k_is);(case a24=>k_is);(case l24=>k_is);(case c24=>k_is)
  (case k24=>k_is);(case a25=>k_is);(case l25=>k_is);(case c25=>k_is);(case k25=>k_is);(case a26=>k_is);(case l26=>k_is);(case c26=>k_is)
  (case k26=>k_is);(case a27=>k_is);(case l27=>k_is);(case c27=>k_is);(case k27=>k_is);(case a28=>k_is);(case l28=>k_is);(case c28=>k_is)
  (case k28=>k_is);(case a29=>k_is);(case l29=>k_is);(case c29=>k_is);(case k29=>k_is);(case a30=>k_is);(case l30=>k_is);(case c30=>k_is)
  (case k30=>k_is);(case a31=>k_is);(case l31=>k_is);(case c31=>k_is);(case k31=>k_is);(case a32=>k_is);(case l32=>k_is);(case c32=>k_is)
  (case k32=>k_is);(case a33=>k_is);(case l33=>k_is);(case c33=>k_is);(case k33=>k_is);(case a34=>k_is);(case l34=>k_is);(case c34=>k_is)
  (case k34=>k_is);(case a35=>k_is);(case l35=>k_is);(case c35=>k_is);(case k35=>k_is);(case a36=>k_is);(case l36=>k_is);(case c36=>k_is)
  (case k36=>k_is);(case a37=>k_is);(case i37=>k_is);(case l37=>k_is);(case c37=>k_is);(case k37=>k_is);(case a38=>k_is);(case i38=>k_is)
  (case l38=>k_is);(case c38=>k_is);(case k38=>k_is);(case a39=>k_is);(case i39=>k_is);(case l39=>k_is);(case c39=>k_is);(case k39=>k_is)
  (case a40=>k_is);(case i40=>k_is);(case l40=>k_is);(case c40=>k_is);(case k40=>k_is);(case pg=>k_is);(case hd=>k_is);(case po=>k_is)
  (case sa=>k_is);(case mk=>k_is);(case kc=>k_is);(case n_ordered=>k_is);(case n_rising=>k_is);(case n_thirds=>k_is);(case n_steps=>k_is);(case z_len=>k_is)
  (case z_int=>k_is);(case z_str=>k_is);(case z_isinstance=>k_is);(case z_range=>k_is);(case z_list=>k_is);(case z_tuple=>k_is);(case z_bool=>k_is);(case z_all=>k_is)
  (case z_ValueError=>k_is);(case z_reversed=>k_is);(case z_enumerate=>k_is);(case z_sorted=>k_is);(case z_min=>k_is);(case z_max=>k_is);(case z_dict=>k_is);(case aM=>k_is)
  (case t_t=>kit_is);(case t_i=>kit_is);(case t_b=>kit_is);(case v_s=>kit_is);(case v_own=>kit_is);(case v_ha=>k_is);(case v_hn=>k_is);(case v_htk=>k_is)
  (case v_hm=>k_is)
#print axioms PySem.Challenge.cw_shapestring_k13_written_and_read_holds

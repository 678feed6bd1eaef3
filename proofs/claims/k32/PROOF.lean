import PyProof.Rows.All
import Wide.All
import OpenK.AllK
import Wide.FinOn
import Lean
import PyProof.EqAt
import PyProof.EqKinds
import PyProof.TupleCall
import PyProof.NeData
import PyProof.P3In
import KE.KTryMore
import KE.KRevIter
import PyProof.Draws
import PyProof.EnumMake
import PyProof.Rows.Chain
import PyProof.ReprRoads
import PySem.Challenge.RW_shapestring_k32_no_letter
section
set_option Elab.async false
set_option linter.all false
set_option maxRecDepth 100000
namespace L2
open PySem
def defArgs (s : Stmt) : Arguments := match s with
  | .FunctionDef _ a _ _ _ _ _ _ _ _ => a
  | _ => { posonlyargs := [], args := [], vararg := none, kwonlyargs := [], kw_defaults := [], kwarg := none, defaults := [] }
def defBody (s : Stmt) : List Stmt := match s with
  | .FunctionDef _ _ b _ _ _ _ _ _ _ => b
  | _ => []
def defScope (s : Stmt) : Scope := match s with
  | .FunctionDef _ _ _ _ _ _ sc _ _ _ => sc
  | _ => { kind := .function, names := [], isGenerator := false, isCoroutine := false }
end L2
namespace K51
open PySem L2
def lawAt : Nat := 23
def topP (i : Nat) : Stmt := PySem.Challenge.pw_shapestring_k32_no_letter.main.body.getD i (.Pass ⟨0, 0, 0, 0⟩)
def top (i : Nat) : Stmt := topP (lawAt + i)
def inClass (c j : Nat) : Stmt := match topP c with
  | .ClassDef _ _ _ body _ _ _ _ _ _ _ => body.getD j (.Pass ⟨0, 0, 0, 0⟩)
  | _ => .Pass ⟨0, 0, 0, 0⟩
abbrev sAt : Stmt := top 0
abbrev sPot : Stmt := top 1
abbrev sDigit : Stmt := top 2
abbrev sThirds : Stmt := top 3
abbrev sWanted : Stmt := top 4
abbrev sStep : Stmt := top 5
abbrev sThird : Stmt := top 6
abbrev sCan : Stmt := top 7
abbrev sLPut : Stmt := top 8
abbrev sPartings : Stmt := top 9
abbrev sDrawn : Stmt := top 10
abbrev sSame : Stmt := top 11
abbrev sLaw : Stmt := top 16
abbrev sThings : Stmt := top 12
abbrev sLetters : Stmt := top 13
abbrev sRefused : Stmt := top 14
abbrev sAllRef : Stmt := top 15
abbrev sWhole : Stmt := topP 10
abbrev sIsLetter : Stmt := topP 13
abbrev sAnew : Stmt := topP 14
abbrev sRight : Stmt := topP 15
abbrev sLeft : Stmt := topP 16
abbrev sEnded : Stmt := topP 17
abbrev sParted : Stmt := topP 18
abbrev sJoined : Stmt := topP 19
abbrev sOutcome : Stmt := topP 20
abbrev sInit : Stmt := inClass 21 0
abbrev sLoops : Stmt := inClass 21 1
end K51
namespace K31
open PySem L2 K51
abbrev sGate : Stmt := inClass 21 2
abbrev sCome : Stmt := inClass 21 3
abbrev sTriples : Stmt := inClass 21 4
abbrev sPut : Stmt := inClass 21 7
abbrev sLook : Stmt := inClass 21 8
abbrev sKnown : Stmt := inClass 21 9
abbrev sTake : Stmt := inClass 21 10
end K31
end
section
set_option Elab.async false
set_option linter.all false
set_option maxRecDepth 100000
namespace K31
open PySem L2 PySem.W K51
noncomputable def kf : Params → Frag := fun P =>
  (nat_lit 3, ⟨(.type "dict"), none, (.dict #[(PySem.DictEntry.mk (PySem.PyData.keyHash P "__name__") (.str "__name__" 165) (.str "law_shapestring_k32_no_letter" 528)), (PySem.DictEntry.mk (PySem.PyData.keyHash P "__doc__") (.str "__doc__" 166) .none), (PySem.DictEntry.mk (PySem.PyData.keyHash P "__package__") (.str "__package__" 167) .none), (PySem.DictEntry.mk (PySem.PyData.keyHash P "__loader__") (.str "__loader__" 168) (.builtin "__main__.__loader__#opaque")), (PySem.DictEntry.mk (PySem.PyData.keyHash P "__spec__") (.str "__spec__" 169) .none), (PySem.DictEntry.mk (PySem.PyData.keyHash P "__annotations__") (.str "__annotations__" 170) (.ref 6)), (PySem.DictEntry.mk (PySem.PyData.keyHash P "__builtins__") (.str "__builtins__" 171) (.ref 4)), (PySem.DictEntry.mk (PySem.PyData.keyHash P "__file__") (.str "__file__" 173) (.str "/claim/cut.py" 172)), (PySem.DictEntry.mk (PySem.PyData.keyHash P "__cached__") (.str "__cached__" 174) .none), (PySem.DictEntry.mk (PySem.PyData.keyHash P "_wall") (.str "_wall" 193) (.ref 21)), (PySem.DictEntry.mk (PySem.PyData.keyHash P "ShapeError") (.str "ShapeError" 213) (.ref 31)), (PySem.DictEntry.mk (PySem.PyData.keyHash P "NoText") (.str "NoText" 229) (.ref 44)), (PySem.DictEntry.mk (PySem.PyData.keyHash P "NoSide") (.str "NoSide" 245) (.ref 56)), (PySem.DictEntry.mk (PySem.PyData.keyHash P "NoLetter") (.str "NoLetter" 261) (.ref 68)), (PySem.DictEntry.mk (PySem.PyData.keyHash P "NoCode") (.str "NoCode" 277) (.ref 80)), (PySem.DictEntry.mk (PySem.PyData.keyHash P "NoDeed") (.str "NoDeed" 293) (.ref 92)), (PySem.DictEntry.mk (PySem.PyData.keyHash P "NoWord") (.str "NoWord" 318) (.ref 111)), (PySem.DictEntry.mk (PySem.PyData.keyHash P "is_whole") (.str "is_whole" 327) (.ref 120)), (PySem.DictEntry.mk (PySem.PyData.keyHash P "PLAIN_SIGNS") (.str "PLAIN_SIGNS" 334) (.ref 121)), (PySem.DictEntry.mk (PySem.PyData.keyHash P "is_letter") (.str "is_letter" 341) (.ref 128)), (PySem.DictEntry.mk (PySem.PyData.keyHash P "come_anew") (.str "come_anew" 350) (.ref 135)), (PySem.DictEntry.mk (PySem.PyData.keyHash P "gone_right") (.str "gone_right" 358) (.ref 142)), (PySem.DictEntry.mk (PySem.PyData.keyHash P "gone_left") (.str "gone_left" 366) (.ref 149)), (PySem.DictEntry.mk (PySem.PyData.keyHash P "loop_ended") (.str "loop_ended" 374) (.ref 156)), (PySem.DictEntry.mk (PySem.PyData.keyHash P "loop_parted") (.str "loop_parted" 383) (.ref 163)), (PySem.DictEntry.mk (PySem.PyData.keyHash P "loops_joined") (.str "loops_joined" 396) (.ref 170)), (PySem.DictEntry.mk (PySem.PyData.keyHash P "outcome") (.str "outcome" 410) (.ref 177)), (PySem.DictEntry.mk (PySem.PyData.keyHash P "Front") (.str "Front" 527) (.ref 260)), (PySem.DictEntry.mk (PySem.PyData.keyHash P "_law_at") (.str "_law_at" 537) (.ref 271)), (PySem.DictEntry.mk (PySem.PyData.keyHash P "_law_pot") (.str "_law_pot" 548) (.ref 278)), (PySem.DictEntry.mk (PySem.PyData.keyHash P "_law_digit") (.str "_law_digit" 557) (.ref 285)), (PySem.DictEntry.mk (PySem.PyData.keyHash P "_law_thirds") (.str "_law_thirds" 568) (.ref 292)), (PySem.DictEntry.mk (PySem.PyData.keyHash P "_law_wanted") (.str "_law_wanted" 580) (.ref 299)), (PySem.DictEntry.mk (PySem.PyData.keyHash P "_law_step") (.str "_law_step" 594) (.ref 306)), (PySem.DictEntry.mk (PySem.PyData.keyHash P "_law_third") (.str "_law_third" 604) (.ref 313)), (PySem.DictEntry.mk (PySem.PyData.keyHash P "_law_can") (.str "_law_can" 610) (.ref 318)), (PySem.DictEntry.mk (PySem.PyData.keyHash P "_law_put") (.str "_law_put" 620) (.ref 325)), (PySem.DictEntry.mk (PySem.PyData.keyHash P "_law_partings") (.str "_law_partings" 626) (.ref 330)), (PySem.DictEntry.mk (PySem.PyData.keyHash P "_law_letter_drawn") (.str "_law_letter_drawn" 632) (.ref 335)), (PySem.DictEntry.mk (PySem.PyData.keyHash P "_law_same") (.str "_law_same" 646) (.ref 342)), (PySem.DictEntry.mk (PySem.PyData.keyHash P "_law_things") (.str "_law_things" 653) (.ref 349)), (PySem.DictEntry.mk (PySem.PyData.keyHash P "_law_letters") (.str "_law_letters" 659) (.ref 354)), (PySem.DictEntry.mk (PySem.PyData.keyHash P "_law_refused") (.str "_law_refused" 668) (.ref 361)), (PySem.DictEntry.mk (PySem.PyData.keyHash P "_law_all_refused") (.str "_law_all_refused" 677) (.ref 368)), (PySem.DictEntry.mk (PySem.PyData.keyHash P "law") (.str "law" 690) (.ref 375))] 45), #[]⟩) ::
  (nat_lit 30, ⟨(.type "dict"), none, (.dict #[(PySem.DictEntry.mk (PySem.PyData.keyHash P "__module__") (.str "__module__" 203) (.str "shapestring.errors" 194)), (PySem.DictEntry.mk (PySem.PyData.keyHash P "__firstlineno__") (.str "__firstlineno__" 207) (.int 5 206)), (PySem.DictEntry.mk (PySem.PyData.keyHash P "__static_attributes__") (.str "__static_attributes__" 208) (.ref 29)), (PySem.DictEntry.mk (PySem.PyData.keyHash P "__weakref__") (.str "__weakref__" 210) (.ref 32)), (PySem.DictEntry.mk (PySem.PyData.keyHash P "__doc__") (.str "__doc__" 211) .none)] 3), #[]⟩) ::
  (nat_lit 31, ⟨(.type "type"), none, (.cls (PySem.ClassData.mk "ShapeError" [(.type "ValueError")] [(.ref 31), (.type "ValueError"), (.type "Exception"), (.type "BaseException"), (.type "object")] 30 "ShapeError" Bool.true [] [(.ref 44), (.ref 56), (.ref 68), (.ref 80), (.ref 92), (.ref 111)] Bool.false none Bool.false)), #[(Option.some (.ref 22)), none, (Option.some (.str "ShapeError" 196)), (Option.some (.str "ShapeError" 204)), (Option.some (.builtin "ValueError.__new__")), (Option.some (.bool Bool.true))]⟩) ::
  (nat_lit 44, ⟨(.type "type"), none, (.cls (PySem.ClassData.mk "NoText" [(.ref 31)] [(.ref 44), (.ref 31), (.type "ValueError"), (.type "Exception"), (.type "BaseException"), (.type "object")] 43 "NoText" Bool.true [] [] Bool.false none Bool.false)), #[(Option.some (.ref 35)), none, (Option.some (.str "NoText" 214)), (Option.some (.str "NoText" 222)), (Option.some (.builtin "ValueError.__new__")), (Option.some (.bool Bool.true))]⟩) ::
  (nat_lit 56, ⟨(.type "type"), none, (.cls (PySem.ClassData.mk "NoSide" [(.ref 31)] [(.ref 56), (.ref 31), (.type "ValueError"), (.type "Exception"), (.type "BaseException"), (.type "object")] 55 "NoSide" Bool.true [] [] Bool.false none Bool.false)), #[(Option.some (.ref 47)), none, (Option.some (.str "NoSide" 230)), (Option.some (.str "NoSide" 238)), (Option.some (.builtin "ValueError.__new__")), (Option.some (.bool Bool.true))]⟩) ::
  (nat_lit 67, ⟨(.type "dict"), none, (.dict #[(PySem.DictEntry.mk (PySem.PyData.keyHash P "__module__") (.str "__module__" 253) (.str "shapestring.errors" 194)), (PySem.DictEntry.mk (PySem.PyData.keyHash P "__firstlineno__") (.str "__firstlineno__" 257) (.int 11 256)), (PySem.DictEntry.mk (PySem.PyData.keyHash P "__static_attributes__") (.str "__static_attributes__" 258) (.ref 66)), (PySem.DictEntry.mk (PySem.PyData.keyHash P "__doc__") (.str "__doc__" 259) .none)] 2), #[]⟩) ::
  (nat_lit 68, ⟨(.type "type"), none, (.cls (PySem.ClassData.mk "NoLetter" [(.ref 31)] [(.ref 68), (.ref 31), (.type "ValueError"), (.type "Exception"), (.type "BaseException"), (.type "object")] 67 "NoLetter" Bool.true [] [] Bool.false none Bool.false)), #[(Option.some (.ref 59)), none, (Option.some (.str "NoLetter" 246)), (Option.some (.str "NoLetter" 254)), (Option.some (.builtin "ValueError.__new__")), (Option.some (.bool Bool.true))]⟩) ::
  (nat_lit 80, ⟨(.type "type"), none, (.cls (PySem.ClassData.mk "NoCode" [(.ref 31)] [(.ref 80), (.ref 31), (.type "ValueError"), (.type "Exception"), (.type "BaseException"), (.type "object")] 79 "NoCode" Bool.true [] [] Bool.false none Bool.false)), #[(Option.some (.ref 71)), none, (Option.some (.str "NoCode" 262)), (Option.some (.str "NoCode" 270)), (Option.some (.builtin "ValueError.__new__")), (Option.some (.bool Bool.true))]⟩) ::
  (nat_lit 92, ⟨(.type "type"), none, (.cls (PySem.ClassData.mk "NoDeed" [(.ref 31)] [(.ref 92), (.ref 31), (.type "ValueError"), (.type "Exception"), (.type "BaseException"), (.type "object")] 91 "NoDeed" Bool.true [] [] Bool.false none Bool.false)), #[(Option.some (.ref 83)), none, (Option.some (.str "NoDeed" 278)), (Option.some (.str "NoDeed" 286)), (Option.some (.builtin "ValueError.__new__")), (Option.some (.bool Bool.true))]⟩) ::
  (nat_lit 111, ⟨(.type "type"), none, (.cls (PySem.ClassData.mk "NoWord" [(.ref 31)] [(.ref 111), (.ref 31), (.type "ValueError"), (.type "Exception"), (.type "BaseException"), (.type "object")] 110 "NoWord" Bool.true [] [] Bool.false none Bool.false)), #[(Option.some (.ref 95)), none, (Option.some (.str "NoWord" 294)), (Option.some (.str "NoWord" 302)), (Option.some (.builtin "ValueError.__new__")), (Option.some (.bool Bool.true))]⟩) ::
  (nat_lit 119, ⟨(.type "code"), none, (.fields #[(.str "is_whole" 321), (.str "is_whole" 322), (.str "/claim/cut.py" 323), (.int 23 0), (.int 1 0), (.int 0 0), (.int 0 0), (.int 3 0), (.ref 114), (.bool Bool.true), (.int 181 0), (.ref 115), .none, (.ref 116), (.ref 117), (.ref 118), (.int 325 0), (.int 23 0), (.str "/claim/cut.py" 326)]), #[]⟩) ::
  (nat_lit 120, ⟨(.type "function"), none, (.func (fnOf "is_whole" "is_whole" (defArgs sWhole) (defBody sWhole) (defScope sWhole) .none .none .none (.str "shapestring.kinds" 319) none (.ref 119) .none)), #[]⟩) ::
  (nat_lit 121, ⟨(.type "tuple"), none, (.seq #[(.str "C" 330), (.str "R" 331), (.str "L" 332), (.str "E" 333)] 0), #[]⟩) ::
  (nat_lit 127, ⟨(.type "code"), none, (.fields #[(.str "is_letter" 335), (.str "is_letter" 336), (.str "/claim/cut.py" 337), (.int 27 0), (.int 1 0), (.int 0 0), (.int 0 0), (.int 3 0), (.ref 122), (.bool Bool.true), (.int 181 0), (.ref 123), .none, (.ref 124), (.ref 125), (.ref 126), (.int 339 0), (.int 27 0), (.str "/claim/cut.py" 340)]), #[]⟩) ::
  (nat_lit 128, ⟨(.type "function"), none, (.func (fnOf "is_letter" "is_letter" (defArgs sIsLetter) (defBody sIsLetter) (defScope sIsLetter) .none .none .none (.str "shapestring.fronts" 328) none (.ref 127) .none)), #[]⟩) ::
  (nat_lit 134, ⟨(.type "code"), none, (.fields #[(.str "come_anew" 342), (.str "come_anew" 343), (.str "/claim/cut.py" 344), (.int 35 0), (.int 3 0), (.int 0 0), (.int 0 0), (.int 3 0), (.ref 129), (.bool Bool.true), (.int 181 0), (.ref 130), .none, (.ref 131), (.ref 132), (.ref 133), (.int 348 0), (.int 35 0), (.str "/claim/cut.py" 349)]), #[]⟩) ::
  (nat_lit 135, ⟨(.type "function"), none, (.func (fnOf "come_anew" "come_anew" (defArgs sAnew) (defBody sAnew) (defScope sAnew) .none .none .none (.str "shapestring.fronts" 328) none (.ref 134) .none)), #[]⟩) ::
  (nat_lit 141, ⟨(.type "code"), none, (.fields #[(.str "gone_right" 351), (.str "gone_right" 352), (.str "/claim/cut.py" 353), (.int 37 0), (.int 2 0), (.int 0 0), (.int 0 0), (.int 3 0), (.ref 136), (.bool Bool.true), (.int 181 0), (.ref 137), .none, (.ref 138), (.ref 139), (.ref 140), (.int 356 0), (.int 37 0), (.str "/claim/cut.py" 357)]), #[]⟩) ::
  (nat_lit 142, ⟨(.type "function"), none, (.func (fnOf "gone_right" "gone_right" (defArgs sRight) (defBody sRight) (defScope sRight) .none .none .none (.str "shapestring.fronts" 328) none (.ref 141) .none)), #[]⟩) ::
  (nat_lit 148, ⟨(.type "code"), none, (.fields #[(.str "gone_left" 359), (.str "gone_left" 360), (.str "/claim/cut.py" 361), (.int 41 0), (.int 2 0), (.int 0 0), (.int 0 0), (.int 3 0), (.ref 143), (.bool Bool.true), (.int 181 0), (.ref 144), .none, (.ref 145), (.ref 146), (.ref 147), (.int 364 0), (.int 41 0), (.str "/claim/cut.py" 365)]), #[]⟩) ::
  (nat_lit 149, ⟨(.type "function"), none, (.func (fnOf "gone_left" "gone_left" (defArgs sLeft) (defBody sLeft) (defScope sLeft) .none .none .none (.str "shapestring.fronts" 328) none (.ref 148) .none)), #[]⟩) ::
  (nat_lit 155, ⟨(.type "code"), none, (.fields #[(.str "loop_ended" 367), (.str "loop_ended" 368), (.str "/claim/cut.py" 369), (.int 45 0), (.int 2 0), (.int 0 0), (.int 0 0), (.int 3 0), (.ref 150), (.bool Bool.true), (.int 181 0), (.ref 151), .none, (.ref 152), (.ref 153), (.ref 154), (.int 372 0), (.int 45 0), (.str "/claim/cut.py" 373)]), #[]⟩) ::
  (nat_lit 156, ⟨(.type "function"), none, (.func (fnOf "loop_ended" "loop_ended" (defArgs sEnded) (defBody sEnded) (defScope sEnded) .none .none .none (.str "shapestring.fronts" 328) none (.ref 155) .none)), #[]⟩) ::
  (nat_lit 162, ⟨(.type "code"), none, (.fields #[(.str "loop_parted" 375), (.str "loop_parted" 376), (.str "/claim/cut.py" 377), (.int 49 0), (.int 3 0), (.int 0 0), (.int 0 0), (.int 3 0), (.ref 157), (.bool Bool.true), (.int 181 0), (.ref 158), .none, (.ref 159), (.ref 160), (.ref 161), (.int 381 0), (.int 49 0), (.str "/claim/cut.py" 382)]), #[]⟩) ::
  (nat_lit 163, ⟨(.type "function"), none, (.func (fnOf "loop_parted" "loop_parted" (defArgs sParted) (defBody sParted) (defScope sParted) .none .none .none (.str "shapestring.fronts" 328) none (.ref 162) .none)), #[]⟩) ::
  (nat_lit 169, ⟨(.type "code"), none, (.fields #[(.str "loops_joined" 384), (.str "loops_joined" 385), (.str "/claim/cut.py" 386), (.int 53 0), (.int 4 0), (.int 0 0), (.int 0 0), (.int 3 0), (.ref 164), (.bool Bool.true), (.int 181 0), (.ref 165), .none, (.ref 166), (.ref 167), (.ref 168), (.int 394 0), (.int 53 0), (.str "/claim/cut.py" 395)]), #[]⟩) ::
  (nat_lit 170, ⟨(.type "function"), none, (.func (fnOf "loops_joined" "loops_joined" (defArgs sJoined) (defBody sJoined) (defScope sJoined) .none .none .none (.str "shapestring.fronts" 328) none (.ref 169) .none)), #[]⟩) ::
  (nat_lit 176, ⟨(.type "code"), none, (.fields #[(.str "outcome" 397), (.str "outcome" 398), (.str "/claim/cut.py" 399), (.int 62 0), (.int 3 0), (.int 0 0), (.int 0 0), (.int 3 0), (.ref 171), (.bool Bool.true), (.int 181 0), (.ref 172), .none, (.ref 173), (.ref 174), (.ref 175), (.int 408 0), (.int 62 0), (.str "/claim/cut.py" 409)]), #[]⟩) ::
  (nat_lit 177, ⟨(.type "function"), none, (.func (fnOf "outcome" "outcome" (defArgs sOutcome) (defBody sOutcome) (defScope sOutcome) .none .none .none (.str "shapestring.fronts" 328) none (.ref 176) .none)), #[]⟩) ::
  (nat_lit 190, ⟨(.type "code"), none, (.fields #[(.str "__init__" 423), (.str "Front.__init__" 424), (.str "/claim/cut.py" 425), (.int 79 0), (.int 1 0), (.int 0 0), (.int 0 0), (.int 3 0), (.ref 185), (.bool Bool.true), (.int 181 0), (.ref 186), .none, (.ref 187), (.ref 188), (.ref 189), (.int 427 0), (.int 79 0), (.str "/claim/cut.py" 428)]), #[]⟩) ::
  (nat_lit 191, ⟨(.type "function"), none, (.func (fnOf "__init__" "Front.__init__" (defArgs sInit) (defBody sInit) (defScope sInit) .none .none .none (.str "shapestring.fronts" 328) none (.ref 190) .none)), #[]⟩) ::
  (nat_lit 195, ⟨(.type "code"), none, (.fields #[(.str "loops" 430), (.str "Front.loops" 431), (.str "/claim/cut.py" 432), (.int 86 0), (.int 1 0), (.int 0 0), (.int 0 0), (.int 3 0), (.ref 192), (.bool Bool.true), (.int 181 0), (.ref 193), .none, .none, .none, (.ref 194), (.int 433 0), (.int 86 0), (.str "/claim/cut.py" 434)]), #[]⟩) ::
  (nat_lit 196, ⟨(.type "function"), none, (.func (fnOf "loops" "Front.loops" (defArgs sLoops) (defBody sLoops) (defScope sLoops) .none .none .none (.str "shapestring.fronts" 328) none (.ref 195) .none)), #[]⟩) ::
  (nat_lit 202, ⟨(.type "code"), none, (.fields #[(.str "gate" 436), (.str "Front.gate" 437), (.str "/claim/cut.py" 438), (.int 89 0), (.int 1 0), (.int 0 0), (.int 0 0), (.int 3 0), (.ref 197), (.bool Bool.true), (.int 181 0), (.ref 198), .none, (.ref 199), (.ref 200), (.ref 201), (.int 441 0), (.int 89 0), (.str "/claim/cut.py" 442)]), #[]⟩) ::
  (nat_lit 203, ⟨(.type "function"), none, (.func (fnOf "gate" "Front.gate" (defArgs sGate) (defBody sGate) (defScope sGate) .none .none .none (.str "shapestring.fronts" 328) none (.ref 202) .none)), #[]⟩) ::
  (nat_lit 209, ⟨(.type "code"), none, (.fields #[(.str "come" 444), (.str "Front.come" 445), (.str "/claim/cut.py" 446), (.int 95 0), (.int 1 0), (.int 0 0), (.int 0 0), (.int 3 0), (.ref 204), (.bool Bool.true), (.int 181 0), (.ref 205), .none, (.ref 206), (.ref 207), (.ref 208), (.int 448 0), (.int 95 0), (.str "/claim/cut.py" 449)]), #[]⟩) ::
  (nat_lit 210, ⟨(.type "function"), none, (.func (fnOf "come" "Front.come" (defArgs sCome) (defBody sCome) (defScope sCome) .none .none .none (.str "shapestring.fronts" 328) none (.ref 209) .none)), #[]⟩) ::
  (nat_lit 216, ⟨(.type "code"), none, (.fields #[(.str "triples" 451), (.str "Front.triples" 452), (.str "/claim/cut.py" 453), (.int 98 0), (.int 1 0), (.int 0 0), (.int 0 0), (.int 3 0), (.ref 211), (.bool Bool.true), (.int 181 0), (.ref 212), .none, (.ref 213), (.ref 214), (.ref 215), (.int 455 0), (.int 98 0), (.str "/claim/cut.py" 456)]), #[]⟩) ::
  (nat_lit 217, ⟨(.type "function"), none, (.func (fnOf "triples" "Front.triples" (defArgs sTriples) (defBody sTriples) (defScope sTriples) .none .none .none (.str "shapestring.fronts" 328) none (.ref 216) .none)), #[]⟩) ::
  (nat_lit 237, ⟨(.type "code"), none, (.fields #[(.str "put" 476), (.str "Front.put" 477), (.str "/claim/cut.py" 478), (.int 107 0), (.int 2 0), (.int 0 0), (.int 0 0), (.int 3 0), (.ref 232), (.bool Bool.true), (.int 181 0), (.ref 233), .none, (.ref 234), (.ref 235), (.ref 236), (.int 485 0), (.int 107 0), (.str "/claim/cut.py" 486)]), #[]⟩) ::
  (nat_lit 238, ⟨(.type "function"), none, (.func (fnOf "put" "Front.put" (defArgs sPut) (defBody sPut) (defScope sPut) .none .none .none (.str "shapestring.fronts" 328) none (.ref 237) .none)), #[]⟩) ::
  (nat_lit 244, ⟨(.type "code"), none, (.fields #[(.str "look_sides_through" 488), (.str "Front.look_sides_through" 489), (.str "/claim/cut.py" 490), (.int 121 0), (.int 3 0), (.int 0 0), (.int 0 0), (.int 3 0), (.ref 239), (.bool Bool.true), (.int 181 0), (.ref 240), .none, (.ref 241), (.ref 242), (.ref 243), (.int 496 0), (.int 121 0), (.str "/claim/cut.py" 497)]), #[]⟩) ::
  (nat_lit 245, ⟨(.type "function"), none, (.func (fnOf "look_sides_through" "Front.look_sides_through" (defArgs sLook) (defBody sLook) (defScope sLook) .none .none .none (.str "shapestring.fronts" 328) none (.ref 244) .none)), #[]⟩) ::
  (nat_lit 249, ⟨(.type "code"), none, (.fields #[(.str "is_known" 499), (.str "Front.is_known" 500), (.str "/claim/cut.py" 501), (.int 130 0), (.int 3 0), (.int 0 0), (.int 0 0), (.int 3 0), (.ref 246), (.bool Bool.true), (.int 181 0), (.ref 247), .none, .none, .none, (.ref 248), (.int 502 0), (.int 130 0), (.str "/claim/cut.py" 503)]), #[]⟩) ::
  (nat_lit 250, ⟨(.type "function"), none, (.func (fnOf "is_known" "Front.is_known" (defArgs sKnown) (defBody sKnown) (defScope sKnown) .none .none .none (.str "shapestring.fronts" 328) none (.ref 249) .none)), #[]⟩) ::
  (nat_lit 256, ⟨(.type "code"), none, (.fields #[(.str "take_sides" 505), (.str "Front.take_sides" 506), (.str "/claim/cut.py" 507), (.int 133 0), (.int 2 0), (.int 0 0), (.int 0 0), (.int 3 0), (.ref 251), (.bool Bool.true), (.int 181 0), (.ref 252), .none, (.ref 253), (.ref 254), (.ref 255), (.int 512 0), (.int 133 0), (.str "/claim/cut.py" 513)]), #[]⟩) ::
  (nat_lit 257, ⟨(.type "function"), none, (.func (fnOf "take_sides" "Front.take_sides" (defArgs sTake) (defBody sTake) (defScope sTake) .none .none .none (.str "shapestring.fronts" 328) none (.ref 256) .none)), #[]⟩) ::
  (nat_lit 259, ⟨(.type "dict"), none, (.dict #[(PySem.DictEntry.mk (PySem.PyData.keyHash P "__module__") (.str "__module__" 418) (.str "shapestring.fronts" 328)), (PySem.DictEntry.mk (PySem.PyData.keyHash P "__firstlineno__") (.str "__firstlineno__" 422) (.int 77 421)), (PySem.DictEntry.mk (PySem.PyData.keyHash P "__init__") (.str "__init__" 429) (.ref 191)), (PySem.DictEntry.mk (PySem.PyData.keyHash P "loops") (.str "loops" 435) (.ref 196)), (PySem.DictEntry.mk (PySem.PyData.keyHash P "gate") (.str "gate" 443) (.ref 203)), (PySem.DictEntry.mk (PySem.PyData.keyHash P "come") (.str "come" 450) (.ref 210)), (PySem.DictEntry.mk (PySem.PyData.keyHash P "triples") (.str "triples" 457) (.ref 217)), (PySem.DictEntry.mk (PySem.PyData.keyHash P "is_wanted") (.str "is_wanted" 466) (.ref 224)), (PySem.DictEntry.mk (PySem.PyData.keyHash P "place_of") (.str "place_of" 475) (.ref 231)), (PySem.DictEntry.mk (PySem.PyData.keyHash P "put") (.str "put" 487) (.ref 238)), (PySem.DictEntry.mk (PySem.PyData.keyHash P "look_sides_through") (.str "look_sides_through" 498) (.ref 245)), (PySem.DictEntry.mk (PySem.PyData.keyHash P "is_known") (.str "is_known" 504) (.ref 250)), (PySem.DictEntry.mk (PySem.PyData.keyHash P "take_sides") (.str "take_sides" 514) (.ref 257)), (PySem.DictEntry.mk (PySem.PyData.keyHash P "__static_attributes__") (.str "__static_attributes__" 520) (.ref 258)), (PySem.DictEntry.mk (PySem.PyData.keyHash P "__dict__") (.str "__dict__" 522) (.ref 261)), (PySem.DictEntry.mk (PySem.PyData.keyHash P "__weakref__") (.str "__weakref__" 524) (.ref 262)), (PySem.DictEntry.mk (PySem.PyData.keyHash P "__doc__") (.str "__doc__" 525) .none)] 4), #[]⟩) ::
  (nat_lit 260, ⟨(.type "type"), none, (.cls (PySem.ClassData.mk "Front" [(.type "object")] [(.ref 260), (.type "object")] 259 "Front" Bool.true [] [] Bool.false none Bool.false)), #[none, none, (Option.some (.str "Front" 411)), (Option.some (.str "Front" 419)), (Option.some (.builtin "object.__new__")), (Option.some (.bool Bool.true))]⟩) ::
  (nat_lit 261, ⟨(.type "getset_descriptor"), none, (.fields #[(.str "__dict__" 521), (.ref 260), (.builtin "function.__dict__"), (.builtin "function.__dict__#set")]), #[]⟩) ::
  (nat_lit 262, ⟨(.type "getset_descriptor"), none, (.fields #[(.str "__weakref__" 523), (.ref 260), (.builtin "ExceptionGroup.__weakref__"), .none]), #[]⟩) ::
  (nat_lit 270, ⟨(.type "code"), none, (.fields #[(.str "_law_at" 530), (.str "_law_at" 531), (.str "/claim/cut.py" 532), (.int 141 0), (.int 2 0), (.int 0 0), (.int 0 0), (.int 3 0), (.ref 265), (.bool Bool.true), (.int 181 0), (.ref 266), .none, (.ref 267), (.ref 268), (.ref 269), (.int 535 0), (.int 141 0), (.str "/claim/cut.py" 536)]), #[]⟩) ::
  (nat_lit 271, ⟨(.type "function"), none, (.func (fnOf "_law_at" "_law_at" (defArgs sAt) (defBody sAt) (defScope sAt) .none .none .none (.str "law_shapestring_k32_no_letter" 528) none (.ref 270) .none)), #[]⟩) ::
  (nat_lit 277, ⟨(.type "code"), none, (.fields #[(.str "_law_pot" 538), (.str "_law_pot" 539), (.str "/claim/cut.py" 540), (.int 145 0), (.int 2 0), (.int 0 0), (.int 0 0), (.int 3 0), (.ref 272), (.bool Bool.true), (.int 181 0), (.ref 273), .none, (.ref 274), (.ref 275), (.ref 276), (.int 546 0), (.int 145 0), (.str "/claim/cut.py" 547)]), #[]⟩) ::
  (nat_lit 278, ⟨(.type "function"), none, (.func (fnOf "_law_pot" "_law_pot" (defArgs sPot) (defBody sPot) (defScope sPot) .none .none .none (.str "law_shapestring_k32_no_letter" 528) none (.ref 277) .none)), #[]⟩) ::
  (nat_lit 284, ⟨(.type "code"), none, (.fields #[(.str "_law_digit" 549), (.str "_law_digit" 550), (.str "/claim/cut.py" 551), (.int 153 0), (.int 2 0), (.int 0 0), (.int 0 0), (.int 3 0), (.ref 279), (.bool Bool.true), (.int 181 0), (.ref 280), .none, (.ref 281), (.ref 282), (.ref 283), (.int 555 0), (.int 153 0), (.str "/claim/cut.py" 556)]), #[]⟩) ::
  (nat_lit 285, ⟨(.type "function"), none, (.func (fnOf "_law_digit" "_law_digit" (defArgs sDigit) (defBody sDigit) (defScope sDigit) .none .none .none (.str "law_shapestring_k32_no_letter" 528) none (.ref 284) .none)), #[]⟩) ::
  (nat_lit 291, ⟨(.type "code"), none, (.fields #[(.str "_law_thirds" 558), (.str "_law_thirds" 559), (.str "/claim/cut.py" 560), (.int 160 0), (.int 1 0), (.int 0 0), (.int 0 0), (.int 3 0), (.ref 286), (.bool Bool.true), (.int 181 0), (.ref 287), .none, (.ref 288), (.ref 289), (.ref 290), (.int 566 0), (.int 160 0), (.str "/claim/cut.py" 567)]), #[]⟩) ::
  (nat_lit 292, ⟨(.type "function"), none, (.func (fnOf "_law_thirds" "_law_thirds" (defArgs sThirds) (defBody sThirds) (defScope sThirds) .none .none .none (.str "law_shapestring_k32_no_letter" 528) none (.ref 291) .none)), #[]⟩) ::
  (nat_lit 298, ⟨(.type "code"), none, (.fields #[(.str "_law_wanted" 569), (.str "_law_wanted" 570), (.str "/claim/cut.py" 571), (.int 167 0), (.int 1 0), (.int 0 0), (.int 0 0), (.int 3 0), (.ref 293), (.bool Bool.true), (.int 181 0), (.ref 294), .none, (.ref 295), (.ref 296), (.ref 297), (.int 578 0), (.int 167 0), (.str "/claim/cut.py" 579)]), #[]⟩) ::
  (nat_lit 299, ⟨(.type "function"), none, (.func (fnOf "_law_wanted" "_law_wanted" (defArgs sWanted) (defBody sWanted) (defScope sWanted) .none .none .none (.str "law_shapestring_k32_no_letter" 528) none (.ref 298) .none)), #[]⟩) ::
  (nat_lit 305, ⟨(.type "code"), none, (.fields #[(.str "_law_step" 581), (.str "_law_step" 582), (.str "/claim/cut.py" 583), (.int 173 0), (.int 3 0), (.int 0 0), (.int 0 0), (.int 3 0), (.ref 300), (.bool Bool.true), (.int 181 0), (.ref 301), .none, (.ref 302), (.ref 303), (.ref 304), (.int 592 0), (.int 173 0), (.str "/claim/cut.py" 593)]), #[]⟩) ::
  (nat_lit 306, ⟨(.type "function"), none, (.func (fnOf "_law_step" "_law_step" (defArgs sStep) (defBody sStep) (defScope sStep) .none .none .none (.str "law_shapestring_k32_no_letter" 528) none (.ref 305) .none)), #[]⟩) ::
  (nat_lit 312, ⟨(.type "code"), none, (.fields #[(.str "_law_third" 595), (.str "_law_third" 596), (.str "/claim/cut.py" 597), (.int 189 0), (.int 2 0), (.int 0 0), (.int 0 0), (.int 3 0), (.ref 307), (.bool Bool.true), (.int 181 0), (.ref 308), .none, (.ref 309), (.ref 310), (.ref 311), (.int 602 0), (.int 189 0), (.str "/claim/cut.py" 603)]), #[]⟩) ::
  (nat_lit 313, ⟨(.type "function"), none, (.func (fnOf "_law_third" "_law_third" (defArgs sThird) (defBody sThird) (defScope sThird) .none .none .none (.str "law_shapestring_k32_no_letter" 528) none (.ref 312) .none)), #[]⟩) ::
  (nat_lit 317, ⟨(.type "code"), none, (.fields #[(.str "_law_can" 605), (.str "_law_can" 606), (.str "/claim/cut.py" 607), (.int 202 0), (.int 2 0), (.int 0 0), (.int 0 0), (.int 3 0), (.ref 314), (.bool Bool.true), (.int 181 0), (.ref 315), .none, .none, .none, (.ref 316), (.int 608 0), (.int 202 0), (.str "/claim/cut.py" 609)]), #[]⟩) ::
  (nat_lit 318, ⟨(.type "function"), none, (.func (fnOf "_law_can" "_law_can" (defArgs sCan) (defBody sCan) (defScope sCan) .none .none .none (.str "law_shapestring_k32_no_letter" 528) none (.ref 317) .none)), #[]⟩) ::
  (nat_lit 324, ⟨(.type "code"), none, (.fields #[(.str "_law_put" 611), (.str "_law_put" 612), (.str "/claim/cut.py" 613), (.int 219 0), (.int 2 0), (.int 0 0), (.int 0 0), (.int 3 0), (.ref 319), (.bool Bool.true), (.int 181 0), (.ref 320), .none, (.ref 321), (.ref 322), (.ref 323), (.int 618 0), (.int 219 0), (.str "/claim/cut.py" 619)]), #[]⟩) ::
  (nat_lit 325, ⟨(.type "function"), none, (.func (fnOf "_law_put" "_law_put" (defArgs sLPut) (defBody sLPut) (defScope sLPut) .none .none .none (.str "law_shapestring_k32_no_letter" 528) none (.ref 324) .none)), #[]⟩) ::
  (nat_lit 329, ⟨(.type "code"), none, (.fields #[(.str "_law_partings" 621), (.str "_law_partings" 622), (.str "/claim/cut.py" 623), (.int 228 0), (.int 1 0), (.int 0 0), (.int 0 0), (.int 3 0), (.ref 326), (.bool Bool.true), (.int 181 0), (.ref 327), .none, .none, .none, (.ref 328), (.int 624 0), (.int 228 0), (.str "/claim/cut.py" 625)]), #[]⟩) ::
  (nat_lit 330, ⟨(.type "function"), none, (.func (fnOf "_law_partings" "_law_partings" (defArgs sPartings) (defBody sPartings) (defScope sPartings) .none .none .none (.str "law_shapestring_k32_no_letter" 528) none (.ref 329) .none)), #[]⟩) ::
  (nat_lit 334, ⟨(.type "code"), none, (.fields #[(.str "_law_letter_drawn" 627), (.str "_law_letter_drawn" 628), (.str "/claim/cut.py" 629), (.int 233 0), (.int 2 0), (.int 0 0), (.int 0 0), (.int 3 0), (.ref 331), (.bool Bool.true), (.int 181 0), (.ref 332), .none, .none, .none, (.ref 333), (.int 630 0), (.int 233 0), (.str "/claim/cut.py" 631)]), #[]⟩) ::
  (nat_lit 335, ⟨(.type "function"), none, (.func (fnOf "_law_letter_drawn" "_law_letter_drawn" (defArgs sDrawn) (defBody sDrawn) (defScope sDrawn) .none .none .none (.str "law_shapestring_k32_no_letter" 528) none (.ref 334) .none)), #[]⟩) ::
  (nat_lit 341, ⟨(.type "code"), none, (.fields #[(.str "_law_same" 633), (.str "_law_same" 634), (.str "/claim/cut.py" 635), (.int 241 0), (.int 2 0), (.int 0 0), (.int 0 0), (.int 3 0), (.ref 336), (.bool Bool.true), (.int 181 0), (.ref 337), .none, (.ref 338), (.ref 339), (.ref 340), (.int 644 0), (.int 241 0), (.str "/claim/cut.py" 645)]), #[]⟩) ::
  (nat_lit 342, ⟨(.type "function"), none, (.func (fnOf "_law_same" "_law_same" (defArgs sSame) (defBody sSame) (defScope sSame) .none .none .none (.str "law_shapestring_k32_no_letter" 528) none (.ref 341) .none)), #[]⟩) ::
  (nat_lit 348, ⟨(.type "code"), none, (.fields #[(.str "_law_things" 647), (.str "_law_things" 648), (.str "/claim/cut.py" 649), (.int 255 0), (.int 0 0), (.int 0 0), (.int 0 0), (.int 3 0), (.ref 343), (.bool Bool.true), (.int 181 0), (.ref 344), .none, (.ref 345), (.ref 346), (.ref 347), (.int 651 0), (.int 255 0), (.str "/claim/cut.py" 652)]), #[]⟩) ::
  (nat_lit 349, ⟨(.type "function"), none, (.func (fnOf "_law_things" "_law_things" (defArgs sThings) (defBody sThings) (defScope sThings) .none .none .none (.str "law_shapestring_k32_no_letter" 528) none (.ref 348) .none)), #[]⟩) ::
  (nat_lit 353, ⟨(.type "code"), none, (.fields #[(.str "_law_letters" 654), (.str "_law_letters" 655), (.str "/claim/cut.py" 656), (.int 260 0), (.int 1 0), (.int 0 0), (.int 0 0), (.int 3 0), (.ref 350), (.bool Bool.true), (.int 181 0), (.ref 351), .none, .none, .none, (.ref 352), (.int 657 0), (.int 260 0), (.str "/claim/cut.py" 658)]), #[]⟩) ::
  (nat_lit 354, ⟨(.type "function"), none, (.func (fnOf "_law_letters" "_law_letters" (defArgs sLetters) (defBody sLetters) (defScope sLetters) .none .none .none (.str "law_shapestring_k32_no_letter" 528) none (.ref 353) .none)), #[]⟩) ::
  (nat_lit 360, ⟨(.type "code"), none, (.fields #[(.str "_law_refused" 660), (.str "_law_refused" 661), (.str "/claim/cut.py" 662), (.int 270 0), (.int 2 0), (.int 0 0), (.int 0 0), (.int 3 0), (.ref 355), (.bool Bool.true), (.int 181 0), (.ref 356), .none, (.ref 357), (.ref 358), (.ref 359), (.int 666 0), (.int 270 0), (.str "/claim/cut.py" 667)]), #[]⟩) ::
  (nat_lit 361, ⟨(.type "function"), none, (.func (fnOf "_law_refused" "_law_refused" (defArgs sRefused) (defBody sRefused) (defScope sRefused) .none .none .none (.str "law_shapestring_k32_no_letter" 528) none (.ref 360) .none)), #[]⟩) ::
  (nat_lit 367, ⟨(.type "code"), none, (.fields #[(.str "_law_all_refused" 669), (.str "_law_all_refused" 670), (.str "/claim/cut.py" 671), (.int 278 0), (.int 2 0), (.int 0 0), (.int 0 0), (.int 3 0), (.ref 362), (.bool Bool.true), (.int 181 0), (.ref 363), .none, (.ref 364), (.ref 365), (.ref 366), (.int 675 0), (.int 278 0), (.str "/claim/cut.py" 676)]), #[]⟩) ::
  (nat_lit 368, ⟨(.type "function"), none, (.func (fnOf "_law_all_refused" "_law_all_refused" (defArgs sAllRef) (defBody sAllRef) (defScope sAllRef) .none .none .none (.str "law_shapestring_k32_no_letter" 528) none (.ref 367) .none)), #[]⟩) ::
  (nat_lit 374, ⟨(.type "code"), none, (.fields #[(.str "law" 678), (.str "law" 679), (.str "/claim/cut.py" 680), (.int 283 0), (.int 1 0), (.int 0 0), (.int 0 0), (.int 3 0), (.ref 369), (.bool Bool.true), (.int 181 0), (.ref 370), .none, (.ref 371), (.ref 372), (.ref 373), (.int 688 0), (.int 283 0), (.str "/claim/cut.py" 689)]), #[]⟩) ::
  (nat_lit 375, ⟨(.type "function"), none, (.func (fnOf "law" "law" (defArgs sLaw) (defBody sLaw) (defScope sLaw) .none .none .none (.str "law_shapestring_k32_no_letter" 528) none (.ref 374) .none)), #[]⟩) :: []
end K31
end
section
set_option Elab.async false
set_option linter.all false
set_option maxRecDepth 100000
set_option maxHeartbeats 0
namespace K31
open PySem L2 PySem.W K51
noncomputable def view : Program := { PySem.Challenge.pw_shapestring_k32_no_letter with main := { (PySem.Challenge.pw_shapestring_k32_no_letter).main with body := [topP 0, topP 2, topP 3, topP 4, topP 5, topP 6, topP 7, topP 8, topP 10, topP 12, topP 13, topP 14, topP 15, topP 16, topP 17, topP 18, topP 19, topP 20, topP 21, topP 23, topP 24, topP 25, topP 26, topP 27, topP 28, topP 29, topP 30, topP 31, topP 32, topP 33, topP 34, topP 35, topP 36, topP 37, topP 38, topP 39] } }
theorem leftA (w : World) : (openEnds treeTable PySem.Challenge.pw_shapestring_k32_no_letter w 5984).map (fun s => openSeen view [] (importedModules (PySem.Challenge.pw_shapestring_k32_no_letter).main.body) (fun s => xlAt view [] s && recOk [] s) true s) = some (openGood view []) := by
  kernel_rfl
theorem leftB (w : World) : (openEnds treeTable PySem.Challenge.pw_shapestring_k32_no_letter w 5984).map (fun s => (Hook.obs (kHook K31.kf [nat_lit 3, nat_lit 30, nat_lit 31, nat_lit 44, nat_lit 56, nat_lit 67, nat_lit 68, nat_lit 80, nat_lit 92, nat_lit 111, nat_lit 119, nat_lit 120, nat_lit 121, nat_lit 127, nat_lit 128, nat_lit 134, nat_lit 135, nat_lit 141, nat_lit 142, nat_lit 148, nat_lit 149, nat_lit 155, nat_lit 156, nat_lit 162, nat_lit 163, nat_lit 169, nat_lit 170, nat_lit 176, nat_lit 177, nat_lit 190, nat_lit 191, nat_lit 195, nat_lit 196, nat_lit 202, nat_lit 203, nat_lit 209, nat_lit 210, nat_lit 216, nat_lit 217, nat_lit 237, nat_lit 238, nat_lit 244, nat_lit 245, nat_lit 249, nat_lit 250, nat_lit 256, nat_lit 257, nat_lit 259, nat_lit 260, nat_lit 261, nat_lit 262, nat_lit 270, nat_lit 271, nat_lit 277, nat_lit 278, nat_lit 284, nat_lit 285, nat_lit 291, nat_lit 292, nat_lit 298, nat_lit 299, nat_lit 305, nat_lit 306, nat_lit 312, nat_lit 313, nat_lit 317, nat_lit 318, nat_lit 324, nat_lit 325, nat_lit 329, nat_lit 330, nat_lit 334, nat_lit 335, nat_lit 341, nat_lit 342, nat_lit 348, nat_lit 349, nat_lit 353, nat_lit 354, nat_lit 360, nat_lit 361, nat_lit 367, nat_lit 368, nat_lit 374, nat_lit 375] (fun _ => by kernel_rfl))) s) = some ((Hook.val (kHook K31.kf [nat_lit 3, nat_lit 30, nat_lit 31, nat_lit 44, nat_lit 56, nat_lit 67, nat_lit 68, nat_lit 80, nat_lit 92, nat_lit 111, nat_lit 119, nat_lit 120, nat_lit 121, nat_lit 127, nat_lit 128, nat_lit 134, nat_lit 135, nat_lit 141, nat_lit 142, nat_lit 148, nat_lit 149, nat_lit 155, nat_lit 156, nat_lit 162, nat_lit 163, nat_lit 169, nat_lit 170, nat_lit 176, nat_lit 177, nat_lit 190, nat_lit 191, nat_lit 195, nat_lit 196, nat_lit 202, nat_lit 203, nat_lit 209, nat_lit 210, nat_lit 216, nat_lit 217, nat_lit 237, nat_lit 238, nat_lit 244, nat_lit 245, nat_lit 249, nat_lit 250, nat_lit 256, nat_lit 257, nat_lit 259, nat_lit 260, nat_lit 261, nat_lit 262, nat_lit 270, nat_lit 271, nat_lit 277, nat_lit 278, nat_lit 284, nat_lit 285, nat_lit 291, nat_lit 292, nat_lit 298, nat_lit 299, nat_lit 305, nat_lit 306, nat_lit 312, nat_lit 313, nat_lit 317, nat_lit 318, nat_lit 324, nat_lit 325, nat_lit 329, nat_lit 330, nat_lit 334, nat_lit 335, nat_lit 341, nat_lit 342, nat_lit 348, nat_lit 349, nat_lit 353, nat_lit 354, nat_lit 360, nat_lit 361, nat_lit 367, nat_lit 368, nat_lit 374, nat_lit 375] (fun _ => by kernel_rfl))) w) := by
  kernel_rfl
theorem two_maps {α β γ : Type} {o : Option α} {f : α → β} {g : α → γ} {x : β} {y : γ} (h1 : o.map f = some x) (h2 : o.map g = some y) : o.map (fun s => (f s, g s)) = some (x, y) := by
  cases o with
  | none => cases h1
  | some s => rw [Option.map_some] at h1 h2 ⊢; rw [Option.some.inj h1, Option.some.inj h2]
theorem left : LeftO PySem.Challenge.pw_shapestring_k32_no_letter view [] (fun s => xlAt view [] s && recOk [] s) (Hook.obs (kHook K31.kf [nat_lit 3, nat_lit 30, nat_lit 31, nat_lit 44, nat_lit 56, nat_lit 67, nat_lit 68, nat_lit 80, nat_lit 92, nat_lit 111, nat_lit 119, nat_lit 120, nat_lit 121, nat_lit 127, nat_lit 128, nat_lit 134, nat_lit 135, nat_lit 141, nat_lit 142, nat_lit 148, nat_lit 149, nat_lit 155, nat_lit 156, nat_lit 162, nat_lit 163, nat_lit 169, nat_lit 170, nat_lit 176, nat_lit 177, nat_lit 190, nat_lit 191, nat_lit 195, nat_lit 196, nat_lit 202, nat_lit 203, nat_lit 209, nat_lit 210, nat_lit 216, nat_lit 217, nat_lit 237, nat_lit 238, nat_lit 244, nat_lit 245, nat_lit 249, nat_lit 250, nat_lit 256, nat_lit 257, nat_lit 259, nat_lit 260, nat_lit 261, nat_lit 262, nat_lit 270, nat_lit 271, nat_lit 277, nat_lit 278, nat_lit 284, nat_lit 285, nat_lit 291, nat_lit 292, nat_lit 298, nat_lit 299, nat_lit 305, nat_lit 306, nat_lit 312, nat_lit 313, nat_lit 317, nat_lit 318, nat_lit 324, nat_lit 325, nat_lit 329, nat_lit 330, nat_lit 334, nat_lit 335, nat_lit 341, nat_lit 342, nat_lit 348, nat_lit 349, nat_lit 353, nat_lit 354, nat_lit 360, nat_lit 361, nat_lit 367, nat_lit 368, nat_lit 374, nat_lit 375] (fun _ => by kernel_rfl))) (Hook.val (kHook K31.kf [nat_lit 3, nat_lit 30, nat_lit 31, nat_lit 44, nat_lit 56, nat_lit 67, nat_lit 68, nat_lit 80, nat_lit 92, nat_lit 111, nat_lit 119, nat_lit 120, nat_lit 121, nat_lit 127, nat_lit 128, nat_lit 134, nat_lit 135, nat_lit 141, nat_lit 142, nat_lit 148, nat_lit 149, nat_lit 155, nat_lit 156, nat_lit 162, nat_lit 163, nat_lit 169, nat_lit 170, nat_lit 176, nat_lit 177, nat_lit 190, nat_lit 191, nat_lit 195, nat_lit 196, nat_lit 202, nat_lit 203, nat_lit 209, nat_lit 210, nat_lit 216, nat_lit 217, nat_lit 237, nat_lit 238, nat_lit 244, nat_lit 245, nat_lit 249, nat_lit 250, nat_lit 256, nat_lit 257, nat_lit 259, nat_lit 260, nat_lit 261, nat_lit 262, nat_lit 270, nat_lit 271, nat_lit 277, nat_lit 278, nat_lit 284, nat_lit 285, nat_lit 291, nat_lit 292, nat_lit 298, nat_lit 299, nat_lit 305, nat_lit 306, nat_lit 312, nat_lit 313, nat_lit 317, nat_lit 318, nat_lit 324, nat_lit 325, nat_lit 329, nat_lit 330, nat_lit 334, nat_lit 335, nat_lit 341, nat_lit 342, nat_lit 348, nat_lit 349, nat_lit 353, nat_lit 354, nat_lit 360, nat_lit 361, nat_lit 367, nat_lit 368, nat_lit 374, nat_lit 375] (fun _ => by kernel_rfl))) 5984 := fun w => two_maps (leftA w) (leftB w)
end K31
end
section
set_option Elab.async false
set_option linter.all false
set_option maxRecDepth 100000
namespace L2
open PySem PySem.Spec PyProof.Rows
abbrev Key := Sum Int Str
def keyIs : Key → Value → Bool
  | .inl k, v => Value.isInt k v
  | .inr x, v => Value.isStrOf x v
def keyH (w : World) : Key → Int
  | .inl k => hashInt k
  | .inr x => hashStr w x
theorem keyIs_shape : ∀ {k : Key} {v : Value}, keyIs k v = true → (∃ i t, k = Sum.inl i ∧ v = Value.int i t) ∨ (∃ x t, k = Sum.inr x ∧ v = Value.str x t)
  | .inl i, v, h => by
    obtain ⟨t, e⟩ := Value.isInt_shape (k := i) (v := v) h
    exact .inl ⟨i, t, rfl, e⟩
  | .inr x, v, h => by
    obtain ⟨t, e⟩ := Value.isStrOf_shape (x := x) (v := v) h
    exact .inr ⟨x, t, rfl, e⟩
theorem keyIs_int (i : Int) (t : Tok) : keyIs (.inl i) (.int i t) = true := by simp [keyIs, Value.isInt]
theorem keyIs_str (x : Str) (t : Tok) : keyIs (.inr x) (.str x t) = true := by simp [keyIs, Value.isStrOf]
theorem key_ll (a b : Int) : decide ((Sum.inl a : Key) = Sum.inl b) = (a == b) := by
  by_cases e : a = b
  · subst e; simp
  · have h : ¬ (Sum.inl a : Key) = Sum.inl b := fun q => e (Sum.inl.inj q)
    rw [decide_eq_false h]
    exact (beq_eq_false_iff_ne.mpr e).symm
theorem key_rr (a b : Str) : decide ((Sum.inr a : Key) = Sum.inr b) = decide (a = b) := by
  by_cases e : a = b
  · subst e; simp
  · have h : ¬ (Sum.inr a : Key) = Sum.inr b := fun q => e (Sum.inr.inj q)
    rw [decide_eq_false h, decide_eq_false e]
theorem key_lr (a : Int) (b : Str) : decide ((Sum.inl a : Key) = Sum.inr b) = false := decide_eq_false (fun q => nomatch q)
theorem key_rl (a : Str) (b : Int) : decide ((Sum.inr a : Key) = Sum.inl b) = false := decide_eq_false (fun q => nomatch q)
def mixKind (prog : Program) (w : World) : PySem.KeyKind prog w Key where
  is := keyIs
  hash := keyH w
  inj := fun v a b ha hb => by
    rcases keyIs_shape ha with ⟨i, t, rfl, rfl⟩ | ⟨x, t, rfl, rfl⟩
    · rcases keyIs_shape hb with ⟨j, u, rfl, e⟩ | ⟨y, u, rfl, e⟩
      · injection e with e1 _; rw [e1]
      · exact nomatch e
    · rcases keyIs_shape hb with ⟨j, u, rfl, e⟩ | ⟨y, u, rfl, e⟩
      · exact nomatch e
      · injection e with e1 _; rw [e1]
  byValue := fun k v h => by
    rcases keyIs_shape h with ⟨i, t, rfl, rfl⟩ | ⟨x, t, rfl, rfl⟩ <;> rfl
  pyHash := fun hv h => by
    rcases keyIs_shape hv with ⟨i, t, rfl, rfl⟩ | ⟨x, t, rfl, rfl⟩
    · exact wpAny_pyHash_int h
    · exact wpAny_pyHash_str h
  eqBool := fun hu hv h => by
    rcases keyIs_shape hu with ⟨i, t, rfl, rfl⟩ | ⟨x, t, rfl, rfl⟩
    · rcases keyIs_shape hv with ⟨j, u, rfl, rfl⟩ | ⟨y, u, rfl, rfl⟩
      · rw [key_ll] at h; exact wpAny_eqBool_int h
      · rw [key_lr] at h; exact SeqAt.EqAt.int_str i t y u _ _ _ _ h
    · rcases keyIs_shape hv with ⟨j, u, rfl, rfl⟩ | ⟨y, u, rfl, rfl⟩
      · rw [key_rl] at h; exact SeqAt.EqAt.str_int x t j u _ _ _ _ h
      · rw [key_rr] at h; exact wpAny_eqBool_str h
  «strs» := fun k x t v h => by
    rcases keyIs_shape h with ⟨i, u, rfl, e⟩ | ⟨y, u, rfl, e⟩
    · exact nomatch e
    · injection e with e1 _
      subst e1
      cases v <;> rfl
theorem mixKind_int (prog : Program) (w : World) (i : Int) (t : Tok) : (mixKind prog w).is (.inl i) (.int i t) = true := keyIs_int i t
theorem mixKind_str (prog : Program) (w : World) (x : Str) (t : Tok) : (mixKind prog w).is (.inr x) (.str x t) = true := keyIs_str x t
end L2
namespace L2
open PySem PySem.Spec PyProof.Rows
inductive V where
  | non | bl (b : Bool) | int (i : Int) | str (x : Str) | byt (b : Array UInt8) | flt (b : UInt64) | ref (a : Addr) | ty (n : String)
  deriving DecidableEq
def RelV : V → Value → Prop
  | .non, u => u = Value.none
  | .bl b, u => u = Value.bool b
  | .int i, u => ∃ t, u = Value.int i t
  | .str x, u => ∃ t, u = Value.str x t
  | .byt b, u => ∃ t, u = Value.bytes b t
  | .flt b, u => ∃ t, u = Value.float b t
  | .ref a, u => u = Value.ref a
  | .ty n, u => u = Value.type n
abbrev Vals : List V → List Value → Prop := Paired RelV
theorem Vals.length {xs : List V} {us : List Value} (r : Vals xs us) : xs.length = us.length := Paired.length r
theorem Vals.get : ∀ {xs : List V} {us : List Value} {i : Nat} {x : V}, Vals xs us → xs[i]? = some x → ∃ u, us[i]? = some u ∧ RelV x u
  | _, _, _, _, .nil, e => by simp at e
  | _, _, 0, _, .cons r _, e => by simp at e; subst e; exact ⟨_, rfl, r⟩
  | _, _, i + 1, x, .cons _ t, e => by
    obtain ⟨u, h1, h2⟩ := Vals.get (i := i) (x := x) t (by simpa using e)
    exact ⟨u, by simpa using h1, h2⟩
theorem Vals.set {x : V} {u : Value} (r : RelV x u) : ∀ {xs : List V} {us : List Value} (i : Nat), Vals xs us → Vals (xs.set i x) (us.set i u)
  | _, _, _, .nil => .nil
  | _, _, 0, .cons _ t => .cons r t
  | _, _, i + 1, .cons q t => .cons q (Vals.set r i t)
theorem Vals.append : ∀ {xs ys : List V} {us ws : List Value}, Vals xs us → Vals ys ws → Vals (xs ++ ys) (us ++ ws)
  | _, _, _, _, .nil, s => s
  | _, _, _, _, .cons r t, s => .cons r (Vals.append t s)
theorem Vals.take : ∀ {xs : List V} {us : List Value} (n : Nat), Vals xs us → Vals (xs.take n) (us.take n)
  | _, _, 0, _ => .nil
  | _, _, _ + 1, .nil => .nil
  | _, _, n + 1, .cons r t => .cons r (Vals.take n t)
theorem Vals.drop : ∀ {xs : List V} {us : List Value} (n : Nat), Vals xs us → Vals (xs.drop n) (us.drop n)
  | _, _, 0, r => r
  | _, _, _ + 1, .nil => .nil
  | _, _, n + 1, .cons _ t => Vals.drop n t
def RelO : Option V → Option Value → Prop
  | some v, some u => RelV v u
  | none, none => True
  | _, _ => False
def KV {κ : Type} : List (κ × V) → List (κ × Value) → Prop := Paired fun (p : κ × V) (q : κ × Value) => p.1 = q.1 ∧ RelV p.2 q.2
def kV : Key → V
  | .inl i => .int i
  | .inr x => .str x
inductive HO where
  | lst (xs : List V)
  | tup (xs : List V)
  | dK (kvs : List (Key × V)) | dT (kvs : List (List Key × V))
  | set (S : Int → Bool) (n : Nat)
  | ins (C dx : Addr) (fs : List (Str × V))
  | own (x : Addr)
  | xd (fs : List (Str × V))
  | met (f x : Addr)
  | rng (lo hi : Int)
  | frz (o : Obj) (u : HO)
  | tbl (ps : Array Value)
  | ext (φ : Heap → Prop)
abbrev Hp := Addr → Option HO
def upd (H : Hp) (a : Addr) (o : HO) : Hp := fun b => if b = a then some o else H b
theorem upd_same {H : Hp} {a : Addr} {o : HO} : upd H a o a = some o := by unfold upd; rw [if_pos rfl]
theorem upd_ne {H : Hp} {a b : Addr} {o : HO} (h : b ≠ a) : upd H a o b = H b := by unfold upd; rw [if_neg h]
theorem upd_upd {H : Hp} {a : Addr} {o u : HO} : upd (upd H a o) a u = upd H a u := by
  funext b; unfold upd; split <;> rfl
theorem ne_of {H : Hp} {a b : Addr} {o u : HO} (h : H a = some o) (h' : H b = some u) (d : o ≠ u) : a ≠ b := by
  intro e; subst e; rw [h] at h'; exact d (Option.some.inj h')
theorem ne_of_none {H : Hp} {a b : Addr} {o : HO} (h : H a = some o) (h' : H b = none) : a ≠ b := by
  intro e; subst e; rw [h] at h'; cases h'
section
variable (P : Program) (w : World)
def ObjOk (H : Hp) (h : Heap) (a : Addr) : HO → Prop
  | .lst xs => xs.length ≤ sizeLine ∧ ∃ (its : List Value) (n : Nat), Vals xs its ∧ h.get? a = some { cls := .type "list", data := .seq its.toArray n }
  | .tup xs => xs.length ≤ sizeLine ∧ ∃ its : List Value, Vals xs its ∧ IsTup h a its.toArray
  | .dK kvs => kvs.length ≤ sizeLine ∧ (a == sysModules) = false ∧ ∃ vs, KV kvs vs ∧ h.DictOf (mixKind P w) a vs
  | .dT kvs => kvs.length ≤ sizeLine ∧ (a == sysModules) = false ∧ ∃ xs : List (List Key × Addr × Value),
      Paired (fun (p : List Key × V) (q : List Key × Addr × Value) => p.1 = q.1 ∧ H q.2.1 = some (.tup (p.1.map kV)) ∧ RelV p.2 q.2.2) kvs xs ∧
      ∃ o es ep, h.get? a = some o ∧ o.ExactDict ∧ o.data = .dict es ep ∧ es.toList = xs.map (entryOfKey (tupleKind (mixKind P w))) ∧ (xs.map (·.1)).Nodup
  | .set S n => h.SetOf (intKind P w) a S n
  | .ins C dx fs => H dx = some (.own a) ∧ fs.length ≤ 1000 ∧ dx ≠ a ∧ h.get? a = some (PySem.W.instObj C dx) ∧
      ∃ mA, h.Ns1 dx mA ∧ (∀ f, RelO (fs.lookup f) (mA f)) ∧ PySem.Within mA (fs.map (·.1))
  | .own _ => ∃ o, h.get? a = some o
  | .xd fs => ∃ mA, h.Ns1 a mA ∧ ∀ f, RelO (fs.lookup f) (mA f)
  | .rng lo hi => ∃ t u v, h.get? a = some { cls := .type "range", data := .fields #[.int lo t, .int hi u, .int 1 v] }
  | .frz o u => h.get? a = some o ∧ ObjOk H h a u
  | .tbl ps => h.get? a = some { cls := .none, data := .fields ps }
  | .met f x => h.get? a = some (PySem.W.methodObj (.ref f) (.ref x))
  | .ext φ => φ h ∧ (∃ o, h.get? a = some o) ∧ ∀ h1 h2 : Heap, φ h1 → (∀ o, h1.get? a = some o → h2.get? a = some o) → φ h2
def HOk (H : Hp) (h : Heap) : Prop := ∀ a o, H a = some o → ObjOk P w H h a o
end
section
variable {P : Program} {w : World} {H H' : Hp} {h h' : Heap} {a : Addr} {o : HO}
theorem ObjOk.lt (x : ObjOk P w H h a o) : a < h.objs.size := by
  cases o with
  | lst xs => obtain ⟨_, _, _, _, e⟩ := x; exact Heap.lt_size e
  | tup xs => obtain ⟨_, _, _, p⟩ := x; exact p.lt
  | dK kvs => obtain ⟨_, _, _, _, o, _, _, e, _⟩ := x; exact Heap.lt_size e
  | dT kvs => obtain ⟨_, _, _, _, o, _, _, e, _⟩ := x; exact Heap.lt_size e
  | set S n => obtain ⟨o, _, _, _, e, _⟩ := x; exact Heap.lt_size e
  | ins C dx fs => obtain ⟨_, _, _, e, _⟩ := x; exact Heap.lt_size e
  | own y => obtain ⟨_, e⟩ := x; exact Heap.lt_size e
  | xd fs => obtain ⟨_, ⟨_, _, _, e, _⟩, _⟩ := x; exact Heap.lt_size e
  | rng lo hi => obtain ⟨_, _, _, e⟩ := x; exact Heap.lt_size e
  | frz ob u => obtain ⟨e, _⟩ := x; exact Heap.lt_size e
  | tbl ps => exact Heap.lt_size (show h.get? a = some _ from x)
  | met f y => exact Heap.lt_size (show h.get? a = some _ from x)
  | ext φ => obtain ⟨_, ⟨_, e⟩, _⟩ := x; exact Heap.lt_size e
theorem Paired.mapP {α β : Type} {F G : α → β → Prop} : ∀ {l₁ : List α} {l₂ : List β}, Paired F l₁ l₂ → (∀ a b, F a b → G a b) → Paired G l₁ l₂
  | _, _, .nil, _ => .nil
  | _, _, .cons r t, f => .cons (f _ _ r) (Paired.mapP t f)
theorem Paired.imp' {α β : Type} {F G : α → β → Prop} (f : ∀ a b, F a b → G a b) {l₁ : List α} {l₂ : List β} (r : Paired F l₁ l₂) : Paired G l₁ l₂ := Paired.mapP r f
theorem ObjOk.stay (x : ObjOk P w H h a o) (k : ∀ b u, (b = a ∨ H b = some (.own a)) → h.get? b = some u → h'.get? b = some u)
    (ho : ∀ b, H b = some (.own a) → H' b = some (.own a)) (ht : ∀ b xs, H b = some (.tup xs) → H' b = some (.tup xs)) : ObjOk P w H' h' a o := by
  induction o with
  | lst xs => obtain ⟨z, its, n, r, e⟩ := x; exact ⟨z, its, n, r, k _ _ (.inl rfl) e⟩
  | tup xs => obtain ⟨z, its, r, ob, e, c⟩ := x; exact ⟨z, its, r, ob, k _ _ (.inl rfl) e, c⟩
  | dK kvs => obtain ⟨z, y, vs, r, ob, es, ep, e, c⟩ := x; exact ⟨z, y, vs, r, ob, es, ep, k _ _ (.inl rfl) e, c⟩
  | dT kvs =>
    obtain ⟨z, y, xs, r, ob, es, ep, e, c⟩ := x
    exact ⟨z, y, xs, Paired.mapP r fun p q z => ⟨z.1, ht _ _ z.2.1, z.2.2⟩, ob, es, ep, k _ _ (.inl rfl) e, c⟩
  | set S n => obtain ⟨ob, es, ep, t, e, c⟩ := x; exact ⟨ob, es, ep, t, k _ _ (.inl rfl) e, c⟩
  | ins C dx fs =>
    obtain ⟨d, z, ne, e, mA, ⟨od, es, ep, e2, c⟩, r⟩ := x
    exact ⟨ho _ d, z, ne, k _ _ (.inl rfl) e, mA, ⟨od, es, ep, k _ _ (.inr d) e2, c⟩, r⟩
  | own y => obtain ⟨ob, e⟩ := x; exact ⟨ob, k _ _ (.inl rfl) e⟩
  | xd fs => obtain ⟨mA, ⟨od, es, ep, e, c⟩, r⟩ := x; exact ⟨mA, ⟨od, es, ep, k _ _ (.inl rfl) e, c⟩, r⟩
  | rng lo hi => obtain ⟨t, u, v, e⟩ := x; exact ⟨t, u, v, k _ _ (.inl rfl) e⟩
  | frz ob u ih => obtain ⟨e, q⟩ := x; exact ⟨k _ _ (.inl rfl) e, ih q⟩
  | tbl ps =>
    have e : h.get? a = some { cls := .none, data := .fields ps } := x
    show h'.get? a = some { cls := .none, data := .fields ps }
    exact k a _ (.inl rfl) e
  | met f y =>
    have e : h.get? a = some (PySem.W.methodObj (.ref f) (.ref y)) := x
    show h'.get? a = some (PySem.W.methodObj (.ref f) (.ref y))
    exact k a _ (.inl rfl) e
  | ext φ => obtain ⟨p, ⟨o, e⟩, st⟩ := x; exact ⟨st _ _ p fun o q => k _ _ (.inl rfl) q, ⟨o, k _ _ (.inl rfl) e⟩, st⟩
theorem HOk.lt (x : HOk P w H h) (e : H a = some o) : a < h.objs.size := (x a o e).lt
theorem HOk.fresh (x : HOk P w H h) (e : h.objs.size ≤ a) : H a = none := by
  cases q : H a with
  | none => rfl
  | some u => exact absurd (Nat.lt_of_lt_of_le (x.lt q) e) (Nat.lt_irrefl _)
theorem HOk.kept (x : HOk P w H h) (k : ∀ b u, h.get? b = some u → h'.get? b = some u) : HOk P w H h' := fun a o e =>
  (x a o e).stay (fun b u _ q => k b u q) (fun _ q => q) fun _ _ q => q
theorem HOk.laid (x : HOk P w H h) (k : ∀ b u, h.get? b = some u → h'.get? b = some u) (hp : h.objs.size ≤ a) (new : ObjOk P w (upd H a o) h' a o) : HOk P w (upd H a o) h' := fun b u e => by
  have hn := x.fresh hp
  by_cases hb : b = a
  · subst hb; rw [upd_same] at e; cases e; exact new
  · rw [upd_ne hb] at e
    exact (x b u e).stay (fun c v _ q => k c v q) (fun c q => by rw [upd_ne (ne_of_none q hn)]; exact q) fun c xs q => by rw [upd_ne (ne_of_none q hn)]; exact q
end
def Rd (H : Hp) (a : Addr) (u : HO) : Prop := H a = some u ∨ ∃ o, H a = some (.frz o u)
theorem Rd.ok {P : Program} {w : World} {H : Hp} {h : Heap} {a : Addr} {u : HO} (r : Rd H a u) (x : HOk P w H h) : ObjOk P w H h a u := by
  rcases r with r | ⟨o, r⟩
  · exact x a u r
  · obtain ⟨_, q⟩ := x a _ r
    exact q
def Mut : Option HO → Prop
  | some (.lst _) => True
  | some (.dK _) => True
  | some (.dT _) => True
  | some (.set _ _) => True
  | some (.ins _ _ _) => True
  | some (.ext _) => True
  | _ => False
section
variable {P : Program} {w : World} {H : Hp} {h h' : Heap} {x e : Addr} {o' : HO}
theorem HOk.write (ok : HOk P w H h) (mu : Mut (H x)) (he : e = x ∨ H e = some (.own x)) (k : ∀ b u, b ≠ e → h.get? b = some u → h'.get? b = some u) (heo : ∃ u, h'.get? e = some u)
    (new : ObjOk P w (upd H x o') h' x o') : HOk P w (upd H x o') h' := fun b u q => by
  have nown : ∀ c y, H c = some (.own y) → c ≠ x := fun c y r z => by subst z; rw [r] at mu; exact mu
  have ntup : ∀ c xs, H c = some (.tup xs) → c ≠ x := fun c xs r z => by subst z; rw [r] at mu; exact mu
  by_cases hb : b = x
  · subst hb; rw [upd_same] at q; cases q; exact new
  · rw [upd_ne hb] at q
    by_cases hbe : b = e
    · have q' : H b = some (.own x) := by
        rcases he with z | z
        · exact absurd (hbe.trans z) hb
        · rw [hbe]; exact z
      rw [q] at q'; cases q'
      obtain ⟨v, hv⟩ := heo
      exact ⟨v, by rw [hbe]; exact hv⟩
    · refine (ok b u q).stay (fun c v hc r => k c v ?_ r) (fun c r => by rw [upd_ne (nown c b r)]; exact r) fun c xs r => by rw [upd_ne (ntup c xs r)]; exact r
      rcases hc with rfl | hc
      · exact hbe
      · rintro rfl
        rcases he with z | z
        · exact nown c b hc z
        · rw [hc] at z; cases z; exact hb rfl
end
structure Un (fs ex : List Addr) (H H' : Hp) (h h' : Heap) : Prop where
  keep : ∀ b o, h.get? b = some o → H b = none → b ∉ fs → b ∉ ex → h'.get? b = some o
  slot : ∀ b o, h.get? b = some o → H b = none → b ∈ fs → b ∉ ex → ∃ sl, h'.get? b = some { o with slots := sl }
  free : ∀ b o, h.get? b = some o → H b = none → b ∉ ex → H' b = none
  there : ∀ b o, h.get? b = some o → b ∉ ex → ∃ o', h'.get? b = some o'
  tups : ∀ b xs, H b = some (.tup xs) → H' b = some (.tup xs)
  frzs : ∀ b o u, H b = some (.frz o u) → H' b = some (.frz o u)
  tbls : ∀ b ps, H b = some (.tbl ps) → ∃ more, H' b = some (.tbl (ps ++ more))
section
variable {fs fs' ex ex' : List Addr} {H H1 H2 : Hp} {h h1 h2 h' : Heap} {a x e : Addr} {o : HO}
theorem Un.any (u : Un fs ex H H1 h h1) {b : Addr} {ob : Obj} (q : h.get? b = some ob) (n : H b = none) (hx : b ∉ ex) : ∃ sl, h1.get? b = some { ob with slots := sl } := by
  by_cases hb : b ∈ fs
  · exact u.slot b ob q n hb hx
  · exact ⟨ob.slots, u.keep b ob q n hb hx⟩
theorem Un.kept (k : ∀ b u, h.get? b = some u → h'.get? b = some u) : Un fs ex H H h h' :=
  ⟨fun b ob q _ _ _ => k b ob q, fun b ob q _ _ _ => ⟨ob.slots, k b ob q⟩, fun _ _ _ n _ => n, fun b ob q _ => ⟨ob, k b ob q⟩, fun _ _ q => q, fun _ _ _ q => q, fun _ ps q => ⟨#[], by rw [q]; simp⟩⟩
theorem Un.refl : Un fs ex H H h h := Un.kept fun _ _ q => q
theorem Un.laid (k : ∀ b u, h.get? b = some u → h'.get? b = some u) (hp : h.objs.size ≤ a) (hn : H a = none) : Un fs ex H (upd H a o) h h' where
  keep := fun b u q _ _ _ => k b u q
  slot := fun b u q _ _ _ => ⟨u.slots, k b u q⟩
  free := fun b u q n _ => by rw [upd_ne (Nat.ne_of_lt (Nat.lt_of_lt_of_le (Heap.lt_size q) hp))]; exact n
  there := fun b u q _ => ⟨u, k b u q⟩
  tups := fun b xs q => by rw [upd_ne (ne_of_none q hn)]; exact q
  frzs := fun b u xs q => by rw [upd_ne (ne_of_none q hn)]; exact q
  tbls := fun b ps q => ⟨#[], by rw [upd_ne (ne_of_none q hn), q]; simp⟩
theorem Un.write (mu : Mut (H x)) (he : e = x ∨ H e = some (.own x)) (k : ∀ b u, b ≠ e → h.get? b = some u → h'.get? b = some u) (heo : ∃ u, h'.get? e = some u) : Un fs ex H (upd H x o) h h' := by
  have hx : ∀ b, H b = none → b ≠ x := fun b n z => by subst z; rw [n] at mu; exact mu
  have hb : ∀ b, H b = none → b ≠ e := fun b n z => by
    subst z
    rcases he with r | r
    · exact hx b n r
    · rw [n] at r; cases r
  have hm : ∀ b u, H b = some u → ¬ Mut (some u) → b ≠ x := fun b u q nm z => by subst z; rw [q] at mu; exact nm mu
  refine ⟨fun b u q n _ _ => k b u (hb b n) q, fun b u q n _ _ => ⟨u.slots, k b u (hb b n) q⟩, fun b u q n _ => by rw [upd_ne (hx b n)]; exact n, fun b u q _ => ?_,
    fun b xs q => by rw [upd_ne (hm b _ q fun z => z)]; exact q, fun b u xs q => by rw [upd_ne (hm b _ q fun z => z)]; exact q, fun b ps q => ⟨#[], by rw [upd_ne (hm b _ q fun z => z), q]; simp⟩⟩
  by_cases hbe : b = e
  · subst hbe; exact heo
  · exact ⟨u, k b u hbe q⟩
end
def trk (h : Heap) (H : Hp) : List Addr := (List.range h.objs.size).filter fun a => (H a).isSome
def hidT (h : Heap) (H : Hp) : Heap := PySem.W.hideAll h (trk h H)
theorem hidT_size (h : Heap) (H : Hp) : (hidT h H).objs.size = h.objs.size := PySem.W.hideAll_size _ _
theorem hidT_get {h : Heap} {H : Hp} {b : Addr} {o : Obj} (e : h.get? b = some o) (n : H b = none) : (hidT h H).get? b = some o :=
  PySem.W.hideAll_get _ e fun hm => by
    have q : (H b).isSome = true := (List.mem_filter.mp hm).2
    rw [n] at q; simp at q
theorem of_hidT {h : Heap} {H : Hp} {b : Addr} {o : Obj} (e : (hidT h H).get? b = some o) : h.get? b = some o ∧ H b = none := by
  have e' : h.get? b = some o := PySem.W.of_hideAll (trk h H) e
  refine ⟨e', ?_⟩
  cases q : H b with
  | none => rfl
  | some x =>
    have hm : b ∈ trk h H := List.mem_filter.mpr ⟨List.mem_range.mpr (Heap.lt_size e'), by simp [q]⟩
    have z : (hidT h H).get? b = none := PySem.W.hideAll_none (trk h H) hm
    rw [z] at e; cases e
end L2
namespace L2
open PySem PySem.Spec PyProof.Rows
structure Mod (K : PySem.W.Frag) (mg : Str → Option Value) (base : Heap) : Prop where
  kin : K.In base
  glob : base.Ns mainGlobals mg
  blt : ∃ mb, base.Ns builtinsNs mb ∧ ∀ x : Str, x ≠ "__name__" → mb x = bootBuiltins x
  nolimit : base.NoLimit
structure Cx where
  prog : Program
  w : World
  K : PySem.W.Frag
  mg : Str → Option Value
  base : Heap
  A : Around
  N : List Str
  s₀ : Shared
  H₀ : Hp
  env : Env
  outer : List Env
  stack : List Env
  ex : List Addr
  fn : Str → Bool
  calm : Bool
  pn : List (Addr × Obj)
  xe : Value → Shared → Prop
def frs (l : List Env) : List Addr := l.filterMap (·.frame)
abbrev Cx.fs (X : Cx) : List Addr := frs X.outer
def Vis (sc : Scope) (x : Str) : Prop := sc.names.lookup x = some .local ∨ sc.names.lookup x = some .cell ∨ sc.names.lookup x = some .free
def Loc (sc : Scope) (x : Str) : Prop := sc.names.lookup x = some .local ∨ sc.names.lookup x = some .cell
def Look (env : Env) (h : Heap) (m : Str → Option Value) (x : Str) (u : Value) : Prop :=
  (env.kindOf x = some .local ∧ m x = some u) ∨ ((env.kindOf x = some .cell ∨ env.kindOf x = some .free) ∧ ∃ c, env.cells.lookup x = some c ∧ h.IsCell c (some u))
structure Cx.Ok (X : Cx) : Prop where
  mod : Mod X.K X.mg X.base
  kind : X.env.scope.kind = .function
  glob : X.env.globals = mainGlobals
  blt : X.env.builtins = builtinsNs
  above : X.s₀.heap.objs.size ≤ X.env.locals
  inj : ∀ x y c, X.env.cells.lookup x = some c → X.env.cells.lookup y = some c → x = y
  has : ∀ x, (X.env.kindOf x = some .cell ∨ X.env.kindOf x = some .free) → ∃ c, X.env.cells.lookup x = some c
  cab : ∀ x c, X.fn x = true → X.env.cells.lookup x = some c → X.s₀.heap.objs.size ≤ c
  hd : X.calm = true → X.A.handled = none
  frames : X.A.frames = some X.stack
  stk : X.stack = X.outer ∨ (X.stack = X.env :: X.outer ∧ X.env.frame = some X.env.locals)
  exf : ∀ b ∈ X.ex, b ≠ X.env.locals ∧ ∀ x c, X.env.cells.lookup x = some c → c ≠ b
  bs : ∀ b o, X.base.get? b = some o → X.s₀.heap.get? b = some o ∧ X.H₀ b = none
  bsz : X.base.objs.size ≤ X.s₀.heap.objs.size
  noex : ∀ b o, X.base.get? b = some o → b ∉ X.ex
  exfs : ∀ b ∈ X.ex, b ∉ X.fs
  funs : X.s₀.heap.FunFrames X.base X.outer
  frf : ∀ b ∈ X.fs, X.H₀ b = none
structure Inv (X : Cx) (pins : List (Addr × Obj)) (σ : List (Option V)) (H : Hp) (s : Shared) : Prop where
  ok : X.Ok
  os : s.os = X.s₀.os
  bare : AllBare s.gens
  base : Un X.fs X.ex X.H₀ H X.s₀.heap s.heap
  loc : ∃ m, s.heap.Ns X.env.locals m ∧ ∀ (i : Nat) (x : Str) (v : V), X.N[i]? = some x → σ[i]? = some (some v) → Vis X.env.scope x → ∃ u, RelV v u ∧ Look X.env s.heap m x u
  cell : ∀ x c, X.env.cells.lookup x = some c → ∃ v, s.heap.IsCell c v
  free : H X.env.locals = none
  freeC : ∀ x c, X.env.cells.lookup x = some c → H c = none
  pin : ∀ p ∈ X.pn ++ pins, s.heap.get? p.1 = some p.2 ∧ H p.1 = none ∧ p.1 ≠ X.env.locals ∧ p.1 ∉ X.fs ∧ ∀ v, p.2.data ≠ .cell v
  hok : HOk X.prog X.w H s.heap
  len : σ.length = X.N.length
section
variable {X : Cx} {pins : List (Addr × Obj)} {σ : List (Option V)} {H H' : Hp} {s : Shared} {h' : Heap}
theorem Cx.Ok.nofr (ok : X.Ok) {b : Addr} {o : Obj} (e : X.base.get? b = some o) : b ∉ X.fs := fun hb => by
  have := (ok.funs.mem hb).1
  rw [e] at this; cases this
theorem Inv.bs (I : Inv X pins σ H s) : ∀ b o, X.base.get? b = some o → s.heap.get? b = some o ∧ H b = none := fun b o e =>
  ⟨I.base.keep b o (I.ok.bs b o e).1 (I.ok.bs b o e).2 (I.ok.nofr e) (I.ok.noex b o e), I.base.free b o (I.ok.bs b o e).1 (I.ok.bs b o e).2 (I.ok.noex b o e)⟩
theorem Inv.bk (I : Inv X pins σ H s) : ∀ b o, X.base.get? b = some o → s.heap.get? b = some o := fun b o e => (I.bs b o e).1
theorem Inv.mod (I : Inv X pins σ H s) : Mod X.K X.mg X.base := I.ok.mod
theorem Inv.kIn (I : Inv X pins σ H s) : X.K.In s.heap := I.ok.mod.kin.keeps I.bk
theorem Inv.lt (I : Inv X pins σ H s) : X.env.locals < s.heap.objs.size := let ⟨_, hn, _⟩ := I.loc; hn.lt
theorem Inv.sz (I : Inv X pins σ H s) : X.s₀.heap.objs.size ≤ s.heap.objs.size := Nat.le_trans I.ok.above (Nat.le_of_lt I.lt)
theorem Inv.nofs (I : Inv X pins σ H s) {a : Addr} (h : s.heap.objs.size ≤ a) : a ∉ X.fs := fun hb => by
  obtain ⟨_, o, ho, _⟩ := I.ok.funs.mem hb
  exact absurd (Nat.lt_of_lt_of_le (Heap.lt_size ho) (Nat.le_trans I.sz h)) (Nat.lt_irrefl _)
theorem Inv.cne (I : Inv X pins σ H s) : ∀ x c, X.env.cells.lookup x = some c → c ≠ X.env.locals := fun x c e z => by
  obtain ⟨v, o, ho, hd⟩ := I.cell x c e
  obtain ⟨m, ⟨o', es, ep, ho', hd', _⟩, _⟩ := I.loc
  rw [z, ho'] at ho; cases ho; rw [hd'] at hd; cases hd
theorem Inv.funs (I : Inv X pins σ H s) : s.heap.FunFrames X.base X.outer := by
  have all : ∀ (l : List Env), (∀ b ∈ frs l, b ∈ X.fs) → X.s₀.heap.FunFrames X.base l → s.heap.FunFrames X.base l := by
    intro l
    induction l with
    | nil => intro _ _; trivial
    | cons env r ih =>
      intro hs hl
      obtain ⟨hk, ⟨L, o, hf, hn, ho, hd⟩, hr⟩ := hl
      have hL : L ∈ X.fs := hs L (by unfold frs; rw [List.filterMap_cons, hf]; exact List.mem_cons_self)
      obtain ⟨sl, e⟩ := I.base.slot L o ho (I.ok.frf L hL) hL fun z => I.ok.exfs L z hL
      exact ⟨hk, ⟨L, _, hf, hn, e, hd⟩, ih (fun b hb => hs b (by unfold frs; rw [List.filterMap_cons, hf]; exact List.mem_cons_of_mem _ hb)) hr⟩
  exact all X.outer (fun _ hb => hb) I.ok.funs
theorem Inv.stack (I : Inv X pins σ H s) : s.heap.FunFrames X.base X.stack := by
  rcases I.ok.stk with e | ⟨e, hf⟩
  · rw [e]; exact I.funs
  · rw [e]
    obtain ⟨m, hn, _⟩ := I.loc
    refine .cons (by rw [I.ok.kind]; decide) hf hn ?_ I.funs
    exact Heap.get?_none_of_le (Nat.le_trans I.ok.bsz I.ok.above)
theorem Inv.stkSub (I : Inv X pins σ H s) : ∀ b ∈ frs X.stack, b ∈ X.env.locals :: X.fs := fun b hb => by
  rcases I.ok.stk with e | ⟨e, hf⟩
  · rw [e] at hb; exact List.mem_cons_of_mem _ hb
  · rw [e] at hb
    unfold frs at hb
    rw [List.filterMap_cons, hf] at hb
    exact hb
theorem Inv.stkFree (I : Inv X pins σ H s) : ∀ b ∈ frs X.stack, H b = none := fun b hb => by
  rcases List.mem_cons.mp (I.stkSub b hb) with e | hb
  · rw [e]; exact I.free
  · obtain ⟨_, o, ho, _⟩ := I.ok.funs.mem hb
    exact I.base.free b o ho (I.ok.frf b hb) fun z => I.ok.exfs b z hb
theorem Inv.step {g' : Array GenState} {t' : Nat} {d' : Drawn} {ch : List Addr} (I : Inv X pins σ H s)
    (hch : ∀ b ∈ ch, (b ∈ X.ex ∨ X.s₀.heap.objs.size ≤ b) ∧ b ≠ X.env.locals ∧ (∀ x c, X.env.cells.lookup x = some c → c ≠ b) ∧ ∀ p ∈ X.pn ++ pins, p.1 ≠ b)
    (keep : ∀ b o, b ≠ X.env.locals → b ∉ X.fs → b ∉ ch → s.heap.get? b = some o → H b = none → h'.get? b = some o)
    (slot : ∀ b o, b ≠ X.env.locals → b ∈ X.fs → b ∉ ch → s.heap.get? b = some o → H b = none → ∃ sl, h'.get? b = some { o with slots := sl }) (free : ∀ b o, b ∉ ch → s.heap.get? b = some o → H b = none → H' b = none)
    (there : ∀ b o, b ∉ ch → s.heap.get? b = some o → ∃ o', h'.get? b = some o')
    (tups : ∀ b xs, H b = some (.tup xs) → H' b = some (.tup xs)) (frzs : ∀ b o u, H b = some (.frz o u) → H' b = some (.frz o u)) (tbls : ∀ b ps, H b = some (.tbl ps) → ∃ more, H' b = some (.tbl (ps ++ more)))
    (ns : ∀ m, s.heap.Ns X.env.locals m → h'.Ns X.env.locals m) (hok : HOk X.prog X.w H' h') (hg : AllBare g') :
    Inv X pins σ H' { s with heap := h', gens := g', drawn := d', toks := t' } := by
  have neL : ∀ b o, X.s₀.heap.get? b = some o → b ≠ X.env.locals := fun b o e => Nat.ne_of_lt (Nat.lt_of_lt_of_le (Heap.lt_size e) I.ok.above)
  have neC : ∀ b o, X.s₀.heap.get? b = some o → b ∉ X.ex → b ∉ ch := fun b o e hx hb => by
    rcases (hch b hb).1 with z | z
    · exact hx z
    · exact absurd (Nat.lt_of_lt_of_le (Heap.lt_size e) z) (Nat.lt_irrefl _)
  have cellK : ∀ x c, X.env.cells.lookup x = some c → ∀ v, s.heap.IsCell c v → h'.IsCell c v := fun x c e v ⟨o, ho, hd⟩ => by
    have nch : c ∉ ch := fun z => (hch c z).2.2.1 x c e rfl
    by_cases hc : c ∈ X.fs
    · obtain ⟨sl, q⟩ := slot c o (I.cne x c e) hc nch ho (I.freeC x c e)
      exact ⟨_, q, hd⟩
    · exact ⟨o, keep c o (I.cne x c e) hc nch ho (I.freeC x c e), hd⟩
  refine ⟨I.ok, I.os, hg, ⟨fun b o e n hb hx => ?_, fun b o e n hb hx => ?_, fun b o e n hx => ?_, fun b o e hx => ?_, fun b xs e => tups b xs (I.base.tups b xs e), fun b o xs e => frzs b o xs (I.base.frzs b o xs e), fun b ps e => ?_⟩, ?_, fun x c e => ?_, ?_, fun x c e => ?_, fun p hp => ?_, hok, I.len⟩
  · exact keep b o (neL b o e) hb (neC b o e hx) (I.base.keep b o e n hb hx) (I.base.free b o e n hx)
  · obtain ⟨sl, e1⟩ := I.base.slot b o e n hb hx
    obtain ⟨sl', e2⟩ := slot b _ (neL b o e) hb (neC b o e hx) e1 (I.base.free b o e n hx)
    exact ⟨sl', e2⟩
  · obtain ⟨o', e1⟩ := I.base.there b o e hx
    exact free b o' (neC b o e hx) e1 (I.base.free b o e n hx)
  · obtain ⟨o', e1⟩ := I.base.there b o e hx
    exact there b o' (neC b o e hx) e1
  · obtain ⟨m1, e1⟩ := I.base.tbls b ps e
    obtain ⟨m2, e2⟩ := tbls b _ e1
    exact ⟨m1 ++ m2, by rw [e2, Array.append_assoc]⟩
  · obtain ⟨m, hn, hl⟩ := I.loc
    refine ⟨m, ns m hn, fun i x v e1 e2 e3 => ?_⟩
    obtain ⟨u, r, l⟩ := hl i x v e1 e2 e3
    refine ⟨u, r, ?_⟩
    rcases l with l | ⟨k, c, e, z⟩
    · exact .inl l
    · exact .inr ⟨k, c, e, cellK x c e _ z⟩
  · obtain ⟨v, z⟩ := I.cell x c e
    exact ⟨v, cellK x c e v z⟩
  · obtain ⟨m, ⟨o, _, _, ho, _⟩, _⟩ := I.loc
    exact free _ o (fun z => (hch _ z).2.1 rfl) ho I.free
  · obtain ⟨v, o, ho, hd⟩ := I.cell x c e
    exact free c o (fun z => (hch c z).2.2.1 x c e rfl) ho (I.freeC x c e)
  · obtain ⟨e, n, ne, nf, d⟩ := I.pin p hp
    have nch : p.1 ∉ ch := fun z => (hch p.1 z).2.2.2 p hp rfl
    exact ⟨keep p.1 p.2 ne nf nch e n, free p.1 p.2 nch e n, ne, nf, d⟩
theorem Inv.un {t' : Nat} (I : Inv X pins σ H s) (u : Un X.fs [] H H' s.heap h') (hok : HOk X.prog X.w H' h') : Inv X pins σ H' { s with heap := h', toks := t' } := by
  obtain ⟨m, ⟨o, es, ep, ho, r⟩, _⟩ := id I.loc
  obtain ⟨sl, hL⟩ := u.any ho I.free (by simp)
  exact I.step (g' := s.gens) (d' := s.drawn) (ch := []) (fun _ z => nomatch z) (fun b o _ hb _ e n => u.keep b o e n hb (by simp)) (fun b o _ hb _ e n => u.slot b o e n hb (by simp)) (fun b o _ e n => u.free b o e n (by simp)) (fun b o _ e => u.there b o e (by simp)) u.tups u.frzs u.tbls (fun m' hm => by
    obtain ⟨o', es', ep', ho', r'⟩ := hm
    rw [ho] at ho'; cases ho'
    exact ⟨_, es', ep', hL, r'⟩) hok I.bare
theorem Inv.call {g' : Array GenState} {t' : Nat} {d' : Drawn} {ch : List Addr} (I : Inv X pins σ H s) (u : Un (frs X.stack) ch H H' s.heap h') (hok : HOk X.prog X.w H' h') (hg : AllBare g')
    (hch : ∀ b ∈ ch, (b ∈ X.ex ∨ X.s₀.heap.objs.size ≤ b) ∧ b ≠ X.env.locals ∧ (∀ x c, X.env.cells.lookup x = some c → c ≠ b) ∧ ∀ p ∈ X.pn ++ pins, p.1 ≠ b) :
    Inv X pins σ H' { s with heap := h', gens := g', drawn := d', toks := t' } := by
  obtain ⟨m, ⟨o, es, ep, ho, r⟩, _⟩ := id I.loc
  obtain ⟨sl, hL⟩ := u.any ho I.free fun z => (hch _ z).2.1 rfl
  exact I.step (ch := ch) hch (fun b o hL hb hc e n => u.keep b o e n (fun z => (List.mem_cons.mp (I.stkSub b z)).elim hL hb) hc) (fun b o _ _ hc e n => u.any e n hc) (fun b o hc e n => u.free b o e n hc) (fun b o hc e => u.there b o e hc) u.tups u.frzs u.tbls (fun m' hm => by
    obtain ⟨o', es', ep', ho', r'⟩ := hm
    rw [ho] at ho'; cases ho'
    exact ⟨_, es', ep', hL, r'⟩) hok hg
theorem Inv.turned {t' : Nat} {it : Addr} (I : Inv X pins σ H s) (k : ∀ b o, b ≠ it → s.heap.get? b = some o → h'.get? b = some o) (hn : H it = none) (hL : it ≠ X.env.locals)
    (h1 : it ∈ X.ex ∨ X.s₀.heap.objs.size ≤ it) (h2 : ∀ x c, X.env.cells.lookup x = some c → c ≠ it) (h3 : ∀ p ∈ X.pn ++ pins, p.1 ≠ it) : Inv X pins σ H { s with heap := h', toks := t' } := by
  have nit : ∀ b u, H b = some u → b ≠ it := fun b u e z => by rw [z, hn] at e; cases e
  refine I.step (g' := s.gens) (d' := s.drawn) (ch := [it]) (fun b hb => ?_) (fun b o _ _ hc e _ => k b o (fun z => hc (by simp [z])) e) (fun b o _ _ hc e _ => ⟨o.slots, k b o (fun z => hc (by simp [z])) e⟩) (fun _ _ _ _ n => n)
    (fun b o hc e => ⟨o, k b o (fun z => hc (by simp [z])) e⟩) (fun _ _ e => e) (fun _ _ _ e => e) (fun b ps e => ⟨#[], by rw [e]; simp⟩) (fun m hm => ?_) (fun b u e => ?_) I.bare
  · have e : b = it := by simpa using hb
    subst e
    exact ⟨h1, hL, h2, h3⟩
  · obtain ⟨o, es, ep, ho, r⟩ := hm
    exact ⟨o, es, ep, k _ o (Ne.symm hL) ho, r⟩
  · refine (I.hok b u e).stay (fun c v hc q => k c v ?_ q) (fun _ q => q) fun _ _ q => q
    rcases hc with z | z
    · rw [z]; exact nit b u e
    · exact nit c _ z
theorem Inv.tok (I : Inv X pins σ H s) (t : Nat) : Inv X pins σ H { s with toks := t } := I.un (h' := s.heap) (t' := t) Un.refl I.hok
theorem Inv.kept {t' : Nat} (I : Inv X pins σ H s) (k : ∀ b u, s.heap.get? b = some u → h'.get? b = some u) : Inv X pins σ H { s with heap := h', toks := t' } := I.un (Un.kept k) (I.hok.kept k)
theorem Inv.laid {a : Addr} {o : HO} {t' : Nat} (I : Inv X pins σ H s) (k : ∀ b u, s.heap.get? b = some u → h'.get? b = some u) (hp : s.heap.objs.size ≤ a) (new : ObjOk X.prog X.w (upd H a o) h' a o) :
    Inv X pins σ (upd H a o) { s with heap := h', toks := t' } := I.un (Un.laid k hp (I.hok.fresh hp)) (I.hok.laid k hp new)
theorem Inv.write {x e : Addr} {o : HO} {t' : Nat} (I : Inv X pins σ H s) (mu : Mut (H x)) (he : e = x ∨ H e = some (.own x)) (k : ∀ b u, b ≠ e → s.heap.get? b = some u → h'.get? b = some u) (heo : ∃ u, h'.get? e = some u)
    (new : ObjOk X.prog X.w (upd H x o) h' x o) : Inv X pins σ (upd H x o) { s with heap := h', toks := t' } := I.un (Un.write mu he k heo) (I.hok.write mu he k heo new)
theorem Inv.pins_of {pins' : List (Addr × Obj)} (I : Inv X pins σ H s) (h : ∀ p ∈ pins', s.heap.get? p.1 = some p.2 ∧ H p.1 = none ∧ p.1 ≠ X.env.locals ∧ p.1 ∉ X.fs ∧ ∀ v, p.2.data ≠ .cell v) : Inv X pins' σ H s :=
  ⟨I.ok, I.os, I.bare, I.base, I.loc, I.cell, I.free, I.freeC, fun p hp => (List.mem_append.mp hp).elim (fun z => I.pin p (List.mem_append_left _ z)) (h p), I.hok, I.len⟩
theorem nodup_ix {N : List Str} (hN : N.Nodup) {i j : Nat} {x : Str} (a : N[i]? = some x) (b : N[j]? = some x) : i = j := by
  obtain ⟨h1, e1⟩ := List.getElem?_eq_some_iff.mp a
  obtain ⟨h2, e2⟩ := List.getElem?_eq_some_iff.mp b
  exact (List.getElem_inj hN).mp (e1.trans e2.symm)
theorem store_ok2 {M : Model} {A : Around} {E : Value → Shared → Prop} {i : Nat} {x : Str} {v : V} {u : Value} {Q : Unit → Shared → Prop} (I : Inv X pins σ H s) (hN : X.N.Nodup) (hi : X.N[i]? = some x) (hx : Loc X.env.scope x) (r : RelV v u)
    (h : ∀ s', Inv X pins (σ.set i (some v)) H s' → (∃ a, Heap.SameBut a s.heap s'.heap ∧ (a = X.env.locals ∨ X.env.cells.lookup x = some a)) → Q () s') (hf : X.fn x = true ∨ X.env.scope.names.lookup x = some .local := by first | exact .inl rfl | exact .inr rfl | assumption) : wpAny M A (storeName X.env x u) Q E s := by
  obtain ⟨m, hn, hl⟩ := id I.loc
  have hcls : (X.env.scope.kind == .class || (X.env.scope.kind == .module && X.env.locals != X.env.globals)) = false := by rw [I.ok.kind]; rfl
  have hiσ : i < σ.length := by rw [I.len]; exact (List.getElem?_eq_some_iff.mp hi).1
  have cne := I.cne
  have tracked : ∀ {a : Addr} {h' : Heap}, (∃ o, s.heap.get? a = some o ∧ H a = none) → Heap.SameBut a s.heap h' → HOk X.prog X.w H h' := fun {a h'} ha hs b ob e => by
    obtain ⟨_, _, hfree⟩ := ha
    refine (I.hok b ob e).stay (fun c w' hc q => (hs.2 c ?_).trans q) (fun _ q => q) fun _ _ q => q
    rintro rfl
    rcases hc with rfl | hc
    · rw [hfree] at e; cases e
    · rw [hfree] at hc; cases hc
  rcases hx with hk | hk
  · refine wpAny_storeName_local hk hn (fun h' hn' hs => ?_) hcls
    obtain ⟨oL, _, _, hoL, _⟩ := id hn
    refine h _ ⟨I.ok, I.os, I.bare, ⟨fun b o e n hb hx => ?_, fun b o e n hb hx => ?_, I.base.free, fun b o e hx => ?_, I.base.tups, I.base.frzs, I.base.tbls⟩, ⟨_, hn', fun j y v' e1 e2 e3 => ?_⟩, fun y c e => ?_, I.free, I.freeC, fun p hp => ?_, tracked ⟨oL, hoL, I.free⟩ hs, by simpa using I.len⟩ ⟨_, hs, .inl rfl⟩
    · exact (hs.2 b (Nat.ne_of_lt (Nat.lt_of_lt_of_le (Heap.lt_size e) I.ok.above))).trans (I.base.keep b o e n hb hx)
    · obtain ⟨sl, e1⟩ := I.base.slot b o e n hb hx
      exact ⟨sl, (hs.2 b (Nat.ne_of_lt (Nat.lt_of_lt_of_le (Heap.lt_size e) I.ok.above))).trans e1⟩
    · obtain ⟨o', e1⟩ := I.base.there b o e hx
      exact ⟨o', (hs.2 b (Nat.ne_of_lt (Nat.lt_of_lt_of_le (Heap.lt_size e) I.ok.above))).trans e1⟩
    · by_cases hj : j = i
      · subst hj
        rw [hi] at e1; cases e1
        rw [List.getElem?_set_self hiσ] at e2
        cases e2
        exact ⟨u, r, .inl ⟨hk, by simp⟩⟩
      · rw [List.getElem?_set_ne (Ne.symm hj)] at e2
        obtain ⟨u', r', q⟩ := hl j y v' e1 e2 e3
        refine ⟨u', r', ?_⟩
        rcases q with ⟨k, e⟩ | ⟨k, c, e, z⟩
        · refine .inl ⟨k, ?_⟩
          have : y ≠ x := fun e => hj (nodup_ix hN e1 (e ▸ hi))
          simp [this, e]
        · exact .inr ⟨k, c, e, z.sameBut hs (cne y c e)⟩
    · obtain ⟨w', z⟩ := I.cell y c e
      exact ⟨w', z.sameBut hs (cne y c e)⟩
    · obtain ⟨e, n, ne, nf, d⟩ := I.pin p hp
      exact ⟨(hs.2 p.1 ne).trans e, n, ne, nf, d⟩
  · have hfn : X.fn x = true := by
      rcases hf with z | z
      · exact z
      · rw [z] at hk; cases hk
    obtain ⟨c, hc⟩ := I.ok.has x (.inl hk)
    obtain ⟨w', z⟩ := I.cell x c hc
    refine wpAny_storeName_cell I.ok.kind hk hc z (fun h' hc' hs => ?_)
    obtain ⟨oc, hoc, hocd⟩ := id z
    refine h { s with heap := h' } ⟨I.ok, I.os, I.bare, ⟨fun b o e n hb hx => ?_, fun b o e n hb hx => ?_, I.base.free, fun b o e hx => ?_, I.base.tups, I.base.frzs, I.base.tbls⟩, ⟨m, hn.sameBut hs (Ne.symm (cne x c hc)), fun j y v' e1 e2 e3 => ?_⟩, fun y c' e => ?_, I.free, I.freeC, fun p hp => ?_, tracked ⟨oc, hoc, I.freeC x c hc⟩ hs, by simpa using I.len⟩ ⟨c, hs, .inr hc⟩
    · exact (hs.2 b (Nat.ne_of_lt (Nat.lt_of_lt_of_le (Heap.lt_size e) (I.ok.cab x c hfn hc)))).trans (I.base.keep b o e n hb hx)
    · obtain ⟨sl, e1⟩ := I.base.slot b o e n hb hx
      exact ⟨sl, (hs.2 b (Nat.ne_of_lt (Nat.lt_of_lt_of_le (Heap.lt_size e) (I.ok.cab x c hfn hc)))).trans e1⟩
    · obtain ⟨o', e1⟩ := I.base.there b o e hx
      exact ⟨o', (hs.2 b (Nat.ne_of_lt (Nat.lt_of_lt_of_le (Heap.lt_size e) (I.ok.cab x c hfn hc)))).trans e1⟩
    · by_cases hj : j = i
      · subst hj
        rw [hi] at e1; cases e1
        rw [List.getElem?_set_self hiσ] at e2
        cases e2
        exact ⟨u, r, .inr ⟨.inl hk, c, hc, hc'⟩⟩
      · rw [List.getElem?_set_ne (Ne.symm hj)] at e2
        obtain ⟨u', r', q⟩ := hl j y v' e1 e2 e3
        refine ⟨u', r', ?_⟩
        rcases q with q | ⟨k, c', e, z'⟩
        · exact .inl q
        · refine .inr ⟨k, c', e, z'.sameBut hs ?_⟩
          rintro rfl
          exact hj (nodup_ix hN e1 (I.ok.inj _ _ _ e hc ▸ hi))
    · by_cases hcc : c' = c
      · subst hcc; exact ⟨_, hc'⟩
      · obtain ⟨w2, z2⟩ := I.cell y c' e
        exact ⟨w2, z2.sameBut hs hcc⟩
    · obtain ⟨e, n, ne, nf, d⟩ := I.pin p hp
      refine ⟨(hs.2 p.1 ?_).trans e, n, ne, nf, d⟩
      intro q
      rw [q, hoc] at e
      have q' : oc = p.2 := Option.some.inj e
      exact d w' (by rw [← q']; exact hocd)
theorem store_ok {M : Model} {A : Around} {E : Value → Shared → Prop} {i : Nat} {x : Str} {v : V} {u : Value} {Q : Unit → Shared → Prop} (I : Inv X pins σ H s) (hN : X.N.Nodup) (hi : X.N[i]? = some x) (hx : Loc X.env.scope x) (r : RelV v u)
    (h : ∀ s', Inv X pins (σ.set i (some v)) H s' → Q () s') (hf : X.fn x = true ∨ X.env.scope.names.lookup x = some .local := by first | exact .inl rfl | exact .inr rfl | assumption) : wpAny M A (storeName X.env x u) Q E s :=
  store_ok2 I hN hi hx r (fun s' I' _ => h s' I') hf
theorem Inv.call' {s' : Shared} {ch : List Addr} (I : Inv X pins σ H s) (ho : s'.os = s.os) (u : Un (frs X.stack) ch H H' s.heap s'.heap) (hok : HOk X.prog X.w H' s'.heap) (hg : AllBare s'.gens)
    (hch : ∀ b ∈ ch, (b ∈ X.ex ∨ X.s₀.heap.objs.size ≤ b) ∧ b ≠ X.env.locals ∧ (∀ x c, X.env.cells.lookup x = some c → c ≠ b) ∧ ∀ p ∈ X.pn ++ pins, p.1 ≠ b) : Inv X pins σ H' s' := by
  obtain ⟨h', g', d', t', o'⟩ := s'
  have e : o' = s.os := ho
  subst e
  exact I.call (g' := g') (t' := t') (d' := d') u hok hg hch
end
abbrev XK := Value → Option Addr → Hp → Prop
abbrev St := List (Option V)
abbrev VK := V → Hp → Prop
abbrev TE := St → Hp → VK → Prop
abbrev TT := St → Hp → (Bool → Hp → Prop) → Prop
abbrev TA := St → Hp → (List V → Hp → Prop) → Prop
structure Ends where
  nx : St → Hp → Prop
  rt : VK
  bk : St → Hp → Prop := fun _ _ => False
  ct : St → Hp → Prop := fun _ _ => False
abbrev TS := Ends → St → Hp → Prop
def EP (X : Cx) (pins : List (Addr × Obj)) (σ : St) (Q : VK) (u : Value) (s' : Shared) : Prop := ∃ v H', Inv X pins σ H' s' ∧ RelV v u ∧ Q v H'
def TP (X : Cx) (pins : List (Addr × Obj)) (σ : St) (Q : Bool → Hp → Prop) (b : Bool) (s' : Shared) : Prop := ∃ H', Inv X pins σ H' s' ∧ Q b H'
def AP (X : Cx) (pins : List (Addr × Obj)) (σ : St) (Q : List V → Hp → Prop) (us : List Value) (s' : Shared) : Prop := ∃ vs H', Inv X pins σ H' s' ∧ Vals vs us ∧ Q vs H'
def SP (X : Cx) (pins : List (Addr × Obj)) (D : Ends) (f : Flow) (s' : Shared) : Prop :=
  match f with
  | .next => ∃ σ' H', Inv X pins σ' H' s' ∧ D.nx σ' H'
  | .brk => ∃ σ' H', Inv X pins σ' H' s' ∧ D.bk σ' H'
  | .cont => ∃ σ' H', Inv X pins σ' H' s' ∧ D.ct σ' H'
  | .ret u => ∃ v σ' H', Inv X pins σ' H' s' ∧ RelV v u ∧ D.rt v H'
def PE (X : Cx) (e : Expr) (t : TE) : Prop :=
  ∀ (pins : List (Addr × Obj)) (s : Shared) (σ : St) (H : Hp) (Q : VK), Inv X pins σ H s → t σ H Q → wpAny (model X.prog X.w) X.A (eval e X.env) (EP X pins σ Q) X.xe s
def PT (X : Cx) (e : Expr) (t : TT) : Prop :=
  ∀ (pins : List (Addr × Obj)) (s : Shared) (σ : St) (H : Hp) (Q : Bool → Hp → Prop), Inv X pins σ H s → t σ H Q → wpAny (model X.prog X.w) X.A (isTrue e X.env (eval e X.env)) (TP X pins σ Q) X.xe s
def PW (X : Cx) (e : Expr) (t : TT) : Prop :=
  ∀ (whole : Sem Value) (pins : List (Addr × Obj)) (s : Shared) (σ : St) (H : Hp) (Q : Bool → Hp → Prop), Inv X pins σ H s → t σ H Q → wpAny (model X.prog X.w) X.A (isTrue e X.env whole) (TP X pins σ Q) X.xe s
theorem PW.pt {X : Cx} {e : Expr} {t : TT} (h : PW X e t) : PT X e t := h _
def PA (X : Cx) (es : List Expr) (t : TA) : Prop :=
  ∀ (pos : Pos) (pins : List (Addr × Obj)) (s : Shared) (σ : St) (H : Hp) (Q : List V → Hp → Prop), Inv X pins σ H s → t σ H Q → wpAny (model X.prog X.w) X.A (spliced (backTo pos (starEach es X.env))) (AP X pins σ Q) X.xe s
def PS (X : Cx) (st : Stmt) (t : TS) : Prop :=
  ∀ (pins : List (Addr × Obj)) (s : Shared) (σ : St) (H : Hp) (D : Ends), Inv X pins σ H s → t D σ H → wpAny (model X.prog X.w) X.A (exec st X.env) (SP X pins D) X.xe s
def PSs (X : Cx) (st : List Stmt) (t : TS) : Prop :=
  ∀ (pins : List (Addr × Obj)) (s : Shared) (σ : St) (H : Hp) (D : Ends), Inv X pins σ H s → t D σ H → wpAny (model X.prog X.w) X.A (execs st X.env) (SP X pins D) X.xe s
theorem thn {α : Type} {t : Sem α} {Q Q' : α → Shared → Prop} {M : Model} {A : Around} {E : Value → Shared → Prop} {s : Shared} (h : wpAny M A t Q E s) (hQ : ∀ a s, Q a s → Q' a s) : wpAny M A t Q' E s := wpAny_mono h hQ fun _ _ x => x
end L2
namespace L2
open PySem PySem.Spec PyProof.Rows
section
variable {X : Cx}
def tVar (i : Nat) : TE := fun σ H Q => ∃ v, σ[i]? = some (some v) ∧ Q v H
def tC (v : V) : TE := fun _ H Q => Q v H
theorem pe_var {i : Nat} {x : Str} {pos : Pos} (hN : X.N[i]? = some x) (hv : Vis X.env.scope x) (hd : (x == ("__debug__" : Str)) = false := by decide) (hcd : (x == ("__classdict__" : Str)) = false := by decide) : PE X (.Name x pos) (tVar i) := by
  intro pins s σ H Q I h
  obtain ⟨v, e, h⟩ := h
  obtain ⟨m, hn, hl⟩ := I.loc
  obtain ⟨u, r, l⟩ := hl i x v hN e hv
  have fin : EP X pins σ Q u s := ⟨v, H, I, r, h⟩
  rcases l with ⟨hk, hm⟩ | ⟨hk, c, hc, hcell⟩
  · exact wpAny_Name (wpAny_loadName_local I.ok.kind hk hn hm fin) hd
  · rcases hk with hk | hk
    · exact wpAny_Name (wpAny_loadName_cell I.ok.kind hk hc hcell fin) hd
    · exact wpAny_Name (wpAny_loadName_free I.ok.kind hk hc hcell fin hcd) hd
theorem pe_int {i j pos} : PE X (.Constant (.int i) j pos) (tC (.int i)) := fun _ _ _ H _ I h => wpAny_Constant_int ⟨.int i, H, I.tok _, ⟨_, rfl⟩, h⟩
theorem pe_bl {b j pos} : PE X (.Constant (.bool b) j pos) (tC (.bl b)) := fun _ _ _ H _ I h => Constant_bool ⟨.bl b, H, I, rfl, h⟩
theorem pe_non {j pos} : PE X (.Constant .none j pos) (tC .non) := fun _ _ _ H _ I h => Constant_none ⟨.non, H, I, rfl, h⟩
theorem pe_str {x j pos} : PE X (.Constant (.str x) j pos) (tC (.str x)) := fun _ _ _ H _ I h => Calls.Constant_str ⟨.str x, H, I.tok _, ⟨_, rfl⟩, h⟩
def Gl (X : Cx) (x : Str) : Prop := X.env.kindOf x = some .globalImplicit
theorem ld_glob {E : Value → Shared → Prop} {pins : List (Addr × Obj)} {s : Shared} {σ : St} {H : Hp} {x : Str} {u : Value} {pos : Pos} {Q : Value → Shared → Prop} (I : Inv X pins σ H s) (hg : Gl X x) (hm : X.mg x = some u) (h : Q u s)
    (hd : (x == ("__debug__" : Str)) = false := by decide) : wpAny (model X.prog X.w) X.A (eval (.Name x pos) X.env) Q E s :=
  Calls.Name_function_global I.ok.kind hg (Calls.loadGlobal_global (by rw [I.ok.glob]; exact I.mod.glob.keeps I.bk) hm h) hd
theorem ld_blt {E : Value → Shared → Prop} {pins : List (Addr × Obj)} {s : Shared} {σ : St} {H : Hp} {x : Str} {u : Value} {pos : Pos} {Q : Value → Shared → Prop} (I : Inv X pins σ H s) (hg : Gl X x) (hm : X.mg x = none) (hv : bootBuiltins x = some u) (h : Q u s)
    (hn : x ≠ "__name__" := by decide) (hd : (x == ("__debug__" : Str)) = false := by decide) : wpAny (model X.prog X.w) X.A (eval (.Name x pos) X.env) Q E s := by
  obtain ⟨mb, h1, h2⟩ := I.mod.blt
  exact Calls.Name_function_global I.ok.kind hg (Calls.loadGlobal_builtin (by rw [I.ok.glob]; exact I.mod.glob.keeps I.bk) hm (by rw [I.ok.blt]; exact h1.keeps I.bk) ((h2 x hn).trans hv) h) hd
theorem pe_glob {x : Str} {v : V} {u : Value} {pos : Pos} (hg : Gl X x) (hm : X.mg x = some u) (r : RelV v u) (hd : (x == ("__debug__" : Str)) = false := by decide) : PE X (.Name x pos) (tC v) :=
  fun _ _ _ H _ I h => ld_glob I hg hm ⟨v, H, I, r, h⟩ hd
theorem pe_bltn {x : Str} {v : V} {u : Value} {pos : Pos} (hg : Gl X x) (hm : X.mg x = none) (hv : bootBuiltins x = some u) (r : RelV v u) (hn : x ≠ "__name__" := by decide) (hd : (x == ("__debug__" : Str)) = false := by decide) : PE X (.Name x pos) (tC v) :=
  fun _ _ _ H _ I h => ld_blt I hg hm hv ⟨v, H, I, r, h⟩ hn hd
variable {a b : Expr} {ta tb : TE} {pos : Pos}
def PC (X : Cx) (op : CmpOp) (a b : Expr) (t : TE) : Prop :=
  ∀ (pins : List (Addr × Obj)) (s : Shared) (σ : St) (H : Hp) (Q : VK), Inv X pins σ H s → t σ H Q →
    wpAny (model X.prog X.w) X.A (eval a X.env) (fun v s₁ => wpAny (model X.prog X.w) X.A (eval b X.env) (fun u s₂ => wpAny (model X.prog X.w) X.A (compareOp op v u) (EP X pins σ Q) X.xe s₂) X.xe s₁) X.xe s
def tB (t : TE) : TT := fun σ H Q => t σ H fun x H1 => ∃ c, x = .bl c ∧ Q c H1
theorem pe_cmp {op : CmpOp} {t : TE} (h : PC X op a b t) (h1 : behindInMarks op b = false := by first | exact nobehind _ (by decide) (by decide) | rfl) : PE X (.Compare a [op] [b] pos) t := fun pins s σ H Q I hw => wpAny_Compare1 (h pins s σ H Q I hw) h1
theorem pt_cmp {op : CmpOp} {t : TE} (h : PC X op a b t) (h1 : behindInMarks op b = false := by first | exact nobehind _ (by decide) (by decide) | rfl) : PT X (.Compare a [op] [b] pos) (tB t) := by
  intro pins s σ H Q I hw
  refine wpAny_isTrue_Compare1 (thn (h pins s σ H _ I hw) fun v s1 h1 => thn h1 fun u s2 h2 => thn h2 fun c s3 ⟨x, H1, I1, r1, q1⟩ => ?_) h1
  obtain ⟨d, rfl, q⟩ := q1
  cases r1
  exact wpAny_truthy_bool ⟨H1, I1, q⟩
theorem pt_val {e : Expr} {t : TE} (h : PE X e t) (he : ∀ whole, isTrue e X.env whole = (do let v ← whole; standAt e.pos; holding [v] (truthy v)) := by intro _; rfl) : PT X e (tB t) := by
  intro pins s σ H Q I hw
  refine isTrue_plain (thn (h pins s σ H _ I hw) fun v s1 ⟨x, H1, I1, r1, q1⟩ => ?_) (he _)
  obtain ⟨d, rfl, q⟩ := q1
  cases r1
  exact wpAny_truthy_bool ⟨H1, I1, q⟩
variable {tA tB' : TT} {rest : List Expr}
def tAnd (t u : TT) : TT := fun σ H Q => t σ H fun c H1 => if c = true then u σ H1 Q else Q false H1
def tOr (t u : TT) : TT := fun σ H Q => t σ H fun c H1 => if c = true then Q true H1 else u σ H1 Q
def tNot (t : TT) : TT := fun σ H Q => t σ H fun c H1 => Q (!c) H1
theorem pw_and1 (ha : PT X a tA) : PW X (.BoolOp .And [a] pos) tA := by
  intro wh pins s σ H Q I h
  refine isTrue_and (thn (ha pins s σ H Q I h) fun c s1 e => ?_)
  cases c with
  | true => exact isTrue_and_nil e
  | false => exact e
theorem pw_or1 (ha : PT X a tA) : PW X (.BoolOp .Or [a] pos) tA := by
  intro wh pins s σ H Q I h
  refine isTrue_or (thn (ha pins s σ H Q I h) fun c s1 e => ?_)
  cases c with
  | false => exact isTrue_or_nil e
  | true => exact e
theorem pw_and (ha : PT X a tA) (hb : PW X (.BoolOp .And (b :: rest) pos) tB') : PW X (.BoolOp .And (a :: b :: rest) pos) (tAnd tA tB') := by
  intro wh pins s σ H Q I h
  refine isTrue_and (thn (ha pins s σ H _ I h) fun c s1 ⟨H1, I1, q1⟩ => ?_)
  cases c with
  | true => exact hb wh pins s1 σ H1 Q I1 q1
  | false => exact ⟨H1, I1, q1⟩
theorem pw_or (ha : PT X a tA) (hb : PW X (.BoolOp .Or (b :: rest) pos) tB') : PW X (.BoolOp .Or (a :: b :: rest) pos) (tOr tA tB') := by
  intro wh pins s σ H Q I h
  refine isTrue_or (thn (ha pins s σ H _ I h) fun c s1 ⟨H1, I1, q1⟩ => ?_)
  cases c with
  | true => exact ⟨H1, I1, q1⟩
  | false => exact hb wh pins s1 σ H1 Q I1 q1
theorem pt_not (ha : PT X a tA) : PT X (.UnaryOp .Not a pos) (tNot tA) := by
  intro pins s σ H Q I h
  exact isTrue_not (ha pins s σ H (fun c H1 => Q (!c) H1) I h)
def tAndV (ta tb : TE) : TE := fun σ H Q => ta σ H fun x H1 => ∃ c, x = .bl c ∧ if c = true then tb σ H1 Q else Q (.bl false) H1
def tOrV (ta tb : TE) : TE := fun σ H Q => ta σ H fun x H1 => ∃ c, x = .bl c ∧ if c = true then Q (.bl true) H1 else tb σ H1 Q
def tNotV (ta : TE) : TE := fun σ H Q => ta σ H fun x H1 => ∃ c, x = .bl c ∧ Q (.bl (!c)) H1
theorem pe_one {op} {t : TE} (h : PE X a t) : PE X (.BoolOp op [a] pos) t := fun pins s σ H Q I hw => BoolOp_one (h pins s σ H Q I hw)
theorem pe_and (ha : PE X a ta) (hb : PE X (.BoolOp .And (b :: rest) pos) tb) : PE X (.BoolOp .And (a :: b :: rest) pos) (tAndV ta tb) := by
  intro pins s σ H Q I h
  refine BoolOp_and (thn (ha pins s σ H _ I h) fun v s1 ⟨x, H1, I1, r1, q1⟩ => ?_)
  obtain ⟨c, rfl, q1⟩ := q1
  cases r1
  refine wpAny_truthy_bool ?_
  cases c with
  | true => exact hb pins s1 σ H1 Q I1 q1
  | false => exact ⟨.bl false, H1, I1, rfl, q1⟩
theorem pe_or (ha : PE X a ta) (hb : PE X (.BoolOp .Or (b :: rest) pos) tb) : PE X (.BoolOp .Or (a :: b :: rest) pos) (tOrV ta tb) := by
  intro pins s σ H Q I h
  refine BoolOp_or (thn (ha pins s σ H _ I h) fun v s1 ⟨x, H1, I1, r1, q1⟩ => ?_)
  obtain ⟨c, rfl, q1⟩ := q1
  cases r1
  refine wpAny_truthy_bool ?_
  cases c with
  | false => exact hb pins s1 σ H1 Q I1 q1
  | true => exact ⟨.bl true, H1, I1, rfl, q1⟩
theorem pe_not (ha : PE X a ta) : PE X (.UnaryOp .Not a pos) (tNotV ta) := by
  intro pins s σ H Q I h
  refine UnaryOp_ (thn (ha pins s σ H _ I h) fun v s1 ⟨x, H1, I1, r1, q1⟩ => ?_)
  obtain ⟨c, rfl, q1⟩ := q1
  cases r1
  exact not_of (wpAny_truthy_bool ⟨.bl (!c), H1, I1, rfl, q1⟩)
end
end L2
namespace L2
open PySem PySem.Spec PyProof.Rows
def SqL (K : PySem.W.Frag) (H : Hp) (a : Addr) (xs : List V) : Prop :=
  Rd H a (.lst xs) ∨
    ∃ (o : Obj) (its : Array Value) (n : Nat), K.lookup a = some o ∧ o.cls = .type "list" ∧ o.dict = none ∧ o.data = .seq its n ∧ its.size ≤ sizeLine ∧ Vals xs its.toList
def SqT (K : PySem.W.Frag) (H : Hp) (a : Addr) (xs : List V) : Prop :=
  Rd H a (.tup xs) ∨
    ∃ (o : Obj) (its : Array Value) (n : Nat), K.lookup a = some o ∧ o.cls = .type "tuple" ∧ o.data = .seq its n ∧ its.size ≤ sizeLine ∧ Vals xs its.toList
def absV : Value → Option V
  | .none => some .non
  | .bool b => some (.bl b)
  | .int i _ => some (.int i)
  | .str x _ => some (.str x)
  | .bytes b _ => some (.byt b)
  | .float b _ => some (.flt b)
  | .ref a => some (.ref a)
  | .type n => some (.ty n)
  | _ => none
theorem RelV.abs {x : V} {u : Value} (r : RelV x u) : absV u = some x := by
  cases x with
  | non => cases r; rfl
  | bl _ => cases r; rfl
  | int _ => obtain ⟨t, rfl⟩ := r; rfl
  | str _ => obtain ⟨t, rfl⟩ := r; rfl
  | byt _ => obtain ⟨t, rfl⟩ := r; rfl
  | flt _ => obtain ⟨t, rfl⟩ := r; rfl
  | ref _ => cases r; rfl
  | ty _ => cases r; rfl
theorem RelV.inj {x y : V} {u : Value} (r : RelV x u) (q : RelV y u) : x = y := Option.some.inj (r.abs.symm.trans q.abs)
theorem Vals.inj : ∀ {xs ys : List V} {us : List Value}, Vals xs us → Vals ys us → xs = ys
  | _, _, _, .nil, .nil => rfl
  | _, _, _, .cons r t, .cons r' t' => by rw [r.inj r', Vals.inj t t']
section
variable {X : Cx} {pins : List (Addr × Obj)} {σ : St} {H : Hp} {s : Shared} {a : Addr} {xs ys : List V}
theorem SqL.of {K : PySem.W.Frag} (h : H a = some (.lst xs)) : SqL K H a xs := .inl (.inl h)
theorem SqT.of {K : PySem.W.Frag} (h : H a = some (.tup xs)) : SqT K H a xs := .inl (.inl h)
theorem Inv.list (I : Inv X pins σ H s) (h : SqL X.K H a xs) : ∃ its : List Value, Vals xs its ∧ PlainL s.heap a its.toArray ∧ xs.length ≤ sizeLine := by
  rcases h with h | ⟨o, its, n, hk, hc, hd, hs, hz, r⟩
  · obtain ⟨z, its, n, r, e⟩ := h.ok I.hok
    exact ⟨its, r, ⟨_, n, e, rfl, rfl, rfl⟩, z⟩
  · refine ⟨its.toList, r, ⟨o, n, I.kIn a o hk, hc, hd, by simpa using hs⟩, ?_⟩
    have e := r.length
    simp only [Array.length_toList] at e
    omega
theorem Inv.tuple (I : Inv X pins σ H s) (h : SqT X.K H a xs) : ∃ its : List Value, Vals xs its ∧ IsTup s.heap a its.toArray ∧ xs.length ≤ sizeLine := by
  rcases h with h | ⟨o, its, n, hk, hc, hs, hz, r⟩
  · obtain ⟨z, its, r, p⟩ := h.ok I.hok
    exact ⟨its, r, p, z⟩
  · refine ⟨its.toList, r, ⟨o, I.kIn a o hk, hc, n, by simpa using hs⟩, ?_⟩
    have e := r.length
    simp only [Array.length_toList] at e
    omega
theorem Inv.list_inj (I : Inv X pins σ H s) (h : SqL X.K H a xs) (h' : SqL X.K H a ys) : xs = ys := by
  obtain ⟨its, r, ⟨o, n, e, _, _, d⟩, _⟩ := I.list h
  obtain ⟨its', r', ⟨o', n', e', _, _, d'⟩, _⟩ := I.list h'
  rw [e] at e'; cases e'
  rw [d] at d'
  injection d' with d1 _
  have : its = its' := by simpa using congrArg Array.toList d1
  subst this
  exact r.inj r'
end
abbrev Cx.wish (X : Cx) (E : Value → Shared → Prop) : Cx := { X with xe := E }
abbrev Cx.nox (X : Cx) : Cx := X.wish fun _ _ => False
theorem Cx.Ok.wish {X : Cx} (ok : X.Ok) (E : Value → Shared → Prop) : (X.wish E).Ok :=
  ⟨ok.mod, ok.kind, ok.glob, ok.blt, ok.above, ok.inj, ok.has, ok.cab, ok.hd, ok.frames, ok.stk, ok.exf, ok.bs, ok.bsz, ok.noex, ok.exfs, ok.funs, ok.frf⟩
theorem Cx.Ok.unwish {X : Cx} {E : Value → Shared → Prop} (ok : (X.wish E).Ok) : X.Ok :=
  ⟨ok.mod, ok.kind, ok.glob, ok.blt, ok.above, ok.inj, ok.has, ok.cab, ok.hd, ok.frames, ok.stk, ok.exf, ok.bs, ok.bsz, ok.noex, ok.exfs, ok.funs, ok.frf⟩
section
variable {X : Cx} {pins : List (Addr × Obj)} {σ : St} {H : Hp} {s : Shared} {E : Value → Shared → Prop}
theorem Inv.wish (I : Inv X pins σ H s) (E : Value → Shared → Prop) : Inv (X.wish E) pins σ H s := ⟨I.ok.wish E, I.os, I.bare, I.base, I.loc, I.cell, I.free, I.freeC, I.pin, I.hok, I.len⟩
theorem Inv.unwish (I : Inv (X.wish E) pins σ H s) : Inv X pins σ H s := ⟨I.ok.unwish, I.os, I.bare, I.base, I.loc, I.cell, I.free, I.freeC, I.pin, I.hok, I.len⟩
theorem SP.unwish {D : Ends} {f : Flow} {s' : Shared} (h : SP (X.wish E) pins D f s') : SP X pins D f s' := by
  cases f with
  | next => obtain ⟨σ', H', I, q⟩ := h; exact ⟨σ', H', I.unwish, q⟩
  | brk => obtain ⟨σ', H', I, q⟩ := h; exact ⟨σ', H', I.unwish, q⟩
  | cont => obtain ⟨σ', H', I, q⟩ := h; exact ⟨σ', H', I.unwish, q⟩
  | ret u => obtain ⟨v, σ', H', I, r, q⟩ := h; exact ⟨v, σ', H', I.unwish, r, q⟩
theorem PSs.nox {st : List Stmt} {t : TS} (h : PSs X.nox st t) : PSs X st t := fun pins s σ H D I hw =>
  wpAny_mono (h pins s σ H D (I.wish _) hw) (fun _ _ q => q.unwish) fun _ _ z => False.elim z
end
section
variable {X : Cx} {st : Stmt} {rest : List Stmt} {t u : TS} {e : Expr} {te : TE} {pos : Pos}
def tNext : TS := fun D σ H => D.nx σ H
def tSeq (t u : TS) : TS := fun D σ H => t { D with nx := u D } σ H
theorem pss_nil : PSs X [] tNext := fun _ _ σ H _ I h => wpAny_execs_nil ⟨σ, H, I, h⟩
theorem pss_cons (h1 : PS X st t) (h2 : PSs X rest u) : PSs X (st :: rest) (tSeq t u) := by
  intro pins s σ H D I h
  refine wpAny_execs_cons (thn (h1 pins s σ H { D with nx := u D } I h) fun f s1 q => ?_)
  cases f with
  | next =>
    obtain ⟨σ', H', I', q⟩ := q
    exact h2 pins s1 σ' H' D I' q
  | ret v => exact q
  | brk => exact q
  | cont => exact q
theorem pss_one (h1 : PS X st t) : PSs X [st] t := by
  intro pins s σ H D I h
  refine wpAny_execs_cons (thn (h1 pins s σ H D I h) fun f s1 q => ?_)
  cases f with
  | next => exact wpAny_execs_nil q
  | ret v => exact q
  | brk => exact q
  | cont => exact q
theorem Inv.quiet {pins : List (Addr × Obj)} {σ : St} {H : Hp} {s : Shared} (I : Inv X pins σ H s) : interactive X.env = false := by simp [interactive, I.ok.kind]
def tDrop (te : TE) : TS := fun D σ H => te σ H fun _ H1 => D.nx σ H1
theorem ps_expr (he : PE X e te) (hs : swapsWith e none pos.line X.env = pure false := by rfl) : PS X (.Expr e pos) (tDrop te) := by
  intro pins s σ H D I h
  exact wpAny_Expr_any (thn (he pins s σ H _ I h) fun v s1 ⟨x, H1, I1, r1, q1⟩ => ⟨σ, H1, I1, q1⟩) I.quiet hs
def tRet (te : TE) : TS := fun D σ H => te σ H D.rt
theorem ps_ret (he : PE X e te) : PS X (.Return (some e) pos) (tRet te) := by
  intro pins s σ H D I h
  exact wpAny_Return_some (thn (he pins s σ H _ I h) fun v s1 ⟨x, H1, I1, r1, q1⟩ => ⟨x, σ, H1, I1, r1, q1⟩)
def tIfS (c : TT) (t u : TS) : TS := fun D σ H => c σ H fun b H1 => if b = true then t D σ H1 else u D σ H1
theorem ps_if {c : Expr} {a b : List Stmt} {tc : TT} (hc : PT X c tc) (ha : PSs X a t) (hb : PSs X b u) : PS X (.If c a b pos) (tIfS tc t u) := by
  intro pins s σ H D I h
  refine wpAny_If (thn (hc pins s σ H _ I h) fun d s1 ⟨H1, I1, q1⟩ => ?_)
  cases d with
  | true => exact ha pins s1 σ H1 D I1 q1
  | false => exact hb pins s1 σ H1 D I1 q1
def tNever : TS := fun _ _ _ => False
theorem pss_never {sts : List Stmt} : PSs X sts tNever := fun _ _ _ _ _ _ h => h.elim
end
abbrev TG := V → St → Hp → (St → Hp → Prop) → Prop
abbrev TGs := List V → St → Hp → (St → Hp → Prop) → Prop
def PG (X : Cx) (target : Expr) (t : TG) : Prop :=
  ∀ (pins : List (Addr × Obj)) (s : Shared) (σ : St) (H : Hp) (v : V) (u : Value) (Q : St → Hp → Prop), Inv X pins σ H s → RelV v u → t v σ H Q →
    wpAny (model X.prog X.w) X.A (assign target X.env u) (fun _ s' => ∃ σ' H', Inv X pins σ' H' s' ∧ Q σ' H') X.xe s
def PGs (X : Cx) (ts : List Expr) (t : TGs) : Prop :=
  ∀ (pins : List (Addr × Obj)) (s : Shared) (σ : St) (H : Hp) (vs : List V) (us : List Value) (Q : St → Hp → Prop), Inv X pins σ H s → Vals vs us → t vs σ H Q →
    wpAny (model X.prog X.w) X.A (assignInOrder ((assignEach ts X.env).map (·.2)) us) (fun _ s' => ∃ σ' H', Inv X pins σ' H' s' ∧ Q σ' H') X.xe s
abbrev TSet := V → V → V → Hp → (Hp → Prop) → Prop
def PSet (X : Cx) (t : TSet) : Prop :=
  ∀ (pins : List (Addr × Obj)) (s : Shared) (σ : St) (H : Hp) (o i v : V) (ov iv u : Value) (Q : Hp → Prop), Inv X pins σ H s → RelV o ov → RelV i iv → RelV v u → t o i v H Q →
    wpAny (model X.prog X.w) X.A (setItem ov iv u) (fun _ s' => ∃ H', Inv X pins σ H' s' ∧ Q H') X.xe s
section
variable {X : Cx} {pos : Pos}
def gName (i : Nat) : TG := fun v σ H Q => Q (σ.set i (some v)) H
theorem pg_name {i : Nat} {x : Str} (hN : X.N.Nodup) (hi : X.N[i]? = some x) (hx : Loc X.env.scope x) (hf : X.fn x = true ∨ X.env.scope.names.lookup x = some .local := by first | exact .inl rfl | exact .inr rfl | assumption) : PG X (.Name x pos) (gName i) := by
  intro pins s σ H v u Q I r h
  exact wpAny_assign_Name (store_ok I hN hi hx r (fun s' I' => ⟨_, H, I', h⟩) hf)
def gNil : TGs := fun vs σ H Q => vs = [] ∧ Q σ H
def gCons (t : TG) (u : TGs) : TGs := fun vs σ H Q => ∃ v r, vs = v :: r ∧ t v σ H fun σ' H' => u r σ' H' Q
theorem pgs_nil : PGs X [] gNil := by
  intro pins s σ H vs us Q I r h
  obtain ⟨e, h⟩ := h
  subst e
  cases r
  exact assignInOrder_nil ⟨σ, H, I, h⟩
theorem pgs_cons {e : Expr} {es : List Expr} {t : TG} {u : TGs} (h1 : PG X e t) (h2 : PGs X es u)
    (hs : (assignEach (e :: es) X.env).map (·.2) = assign e X.env :: (assignEach es X.env).map (·.2) := by rfl) : PGs X (e :: es) (gCons t u) := by
  intro pins s σ H vs us Q I r h
  obtain ⟨v, vr, e1, h⟩ := h
  subst e1
  cases r with
  | cons r rr =>
    rw [hs]
    refine assignInOrder_cons (thn (h1 pins s σ H _ _ _ I r h) fun _ s1 ⟨σ1, H1, I1, q1⟩ => ?_)
    exact h2 pins s1 σ1 H1 _ _ Q I1 rr q1
def gTup (K : PySem.W.Frag) (n : Nat) (t : TGs) : TG := fun v σ H Q => ∃ a xs, v = .ref a ∧ SqT K H a xs ∧ xs.length = n ∧ t xs σ H Q
theorem pg_tup {es : List Expr} {k : Nat} {t : TGs} {n : Nat} (hc : X.calm = true) (h : PGs X es t)
    (hn : (assignEach es X.env).length = n := by rfl) (hst : (assignEach es X.env).findIdx? (·.1) = none := by rfl) : PG X (.Tuple es k pos) (gTup X.K n t) := by
  intro pins s σ H v u Q I r hw
  obtain ⟨a, xs, e1, hq, hl, hw⟩ := hw
  subst e1
  cases r
  obtain ⟨its, rv, ht, hz⟩ := I.tuple hq
  refine assign_Tuple_tuple (I.ok.hd hc) ht (by simp [hn, ← hl, rv.length]) hst fun h' hx => ?_
  have I1 : Inv X pins σ H { s with heap := h' } := I.kept (t' := s.toks) fun b o e => hx b o (Nat.ne_of_lt (Heap.lt_size e)) e
  exact h pins _ σ H xs _ Q I1 (by simpa using rv) hw
def gSub (to ti : TE) (t : TSet) : TG := fun v σ H Q => to σ H fun o H1 => ti σ H1 fun i H2 => t o i v H2 fun H3 => Q σ H3
theorem pg_sub {o i : Expr} {to ti : TE} {t : TSet} (ho : PE X o to) (hi : PE X i ti) (hs : PSet X t)
    (ha : ∀ v, assign (.Subscript o i pos) X.env v = (do
      let ov ← holding [v] (eval o X.env)
      let iv ← holding [v, ov] (eval i X.env)
      standAt pos
      holding [v, ov, iv] (setItem ov iv v)
      release [v, ov, iv] []) := by intro _; rfl) : PG X (.Subscript o i pos) (gSub to ti t) := by
  intro pins s σ H v u Q I r h
  rw [ha]
  refine wpAny_bind (wpAny_holding (thn (ho pins s σ H _ I h) fun ov s1 ⟨x, H1, I1, r1, q1⟩ => ?_))
  refine wpAny_bind (wpAny_holding (thn (hi pins s1 σ H1 _ I1 q1) fun iv s2 ⟨y, H2, I2, r2, q2⟩ => ?_))
  refine wpAny_bind (wpAny_standAt (wpAny_bind (wpAny_holding (thn (hs pins s2 σ H2 x y v ov iv u _ I2 r1 r2 r q2) fun _ s3 ⟨H3, I3, q3⟩ => ?_))))
  exact wpAny_release ⟨σ, H3, I3, q3⟩
def tAsg (te : TE) (g : TG) : TS := fun D σ H => te σ H fun x H1 => g x σ H1 D.nx
theorem ps_asg {tg e : Expr} {te : TE} {g : TG} (he : PE X e te) (hg : PG X tg g) (hs : swapsWithSole [tg] e pos.line X.env = pure false := by rfl) (hw : swappedStores [tg] e X.env = pure none := by rfl)
    (h1 : (assignEach [tg] X.env).map (·.2) = [assign tg X.env] := by rfl) : PS X (.Assign [tg] e pos) (tAsg te g) := by
  intro pins s σ H D I h
  refine wpAny_Assign_stores (thn (he pins s σ H _ I h) fun v s1 ⟨x, H1, I1, r1, q1⟩ => ?_) hs hw
  rw [h1]
  exact thn (hg pins s1 σ H1 x v _ I1 r1 q1) fun _ s2 q => q
theorem ps_set {i : Nat} {x : Str} {e : Expr} {te : TE} {pos' : Pos} (hN : X.N.Nodup) (hi : X.N[i]? = some x) (hx : Loc X.env.scope x) (he : PE X e te) (hs : swapsWith e (some (.Name x pos')) pos.line X.env = pure false := by rfl) (hf : X.fn x = true ∨ X.env.scope.names.lookup x = some .local := by first | exact .inl rfl | exact .inr rfl | assumption) :
    PS X (.Assign [.Name x pos'] e pos) (tAsg te (gName i)) := by
  intro pins s σ H D I h
  refine wpAny_Assign_Name (thn (he pins s σ H _ I h) fun v s1 ⟨y, H1, I1, r1, q1⟩ => ?_) hs
  exact store_ok I1 hN hi hx r1 (fun s2 I2 => ⟨_, H1, I2, q1⟩) hf
end
section
variable {X : Cx} {pos : Pos}
end
structure It where
  go : Nat → Hp → Prop
  yld : Nat → Hp → V → Hp → Prop
  stop : Nat → Hp → Prop
def FpOk (X : Cx) (pins : List (Addr × Obj)) (H : Hp) (b : Addr) : Prop :=
  H b = none ∧ b ≠ X.env.locals ∧ b ∉ X.fs ∧ (b ∈ X.ex ∨ X.s₀.heap.objs.size ≤ b) ∧ (∀ x c, X.env.cells.lookup x = some c → c ≠ b) ∧ ∀ p ∈ X.pn ++ pins, p.1 ≠ b
theorem Inv.fpOk {X : Cx} {pins : List (Addr × Obj)} {σ : St} {H H' : Hp} {s : Shared} {b : Addr} (I : Inv X pins σ H s) (hb : s.heap.objs.size ≤ b) (hn : H' b = none) : FpOk X pins H' b := by
  refine ⟨hn, Nat.ne_of_gt (Nat.lt_of_lt_of_le I.lt hb), I.nofs hb, .inr (Nat.le_trans I.sz hb), fun x c e z => ?_, fun p hp z => ?_⟩
  · obtain ⟨v, q⟩ := I.cell x c e
    exact absurd (Nat.lt_of_lt_of_le q.lt (by rw [z]; exact hb)) (Nat.lt_irrefl _)
  · exact absurd (Nat.lt_of_lt_of_le (Heap.lt_size (I.pin p hp).1) (by rw [z]; exact hb)) (Nat.lt_irrefl _)
structure Turn (P : Program) (w : World) (K : PySem.W.Frag) (tg : Expr) (J : It) (fp : List Addr) (it : Addr) (tn : Nat → Heap → Prop) : Prop where
  mem : it ∈ fp
  obj : ∀ i h, tn i h → ∀ b ∈ fp, ∃ o, h.get? b = some o ∧ ∀ v, o.data ≠ .cell v
  keep : ∀ i h h', tn i h → (∀ b ∈ fp, ∀ o, h.get? b = some o → h'.get? b = some o) → tn i h'
  item : ∀ (X : Cx), X.prog = P → X.w = w → X.K = K → X.calm = true → ∀ (i : Nat) (pins : List (Addr × Obj)) (s : Shared) (σ : St) (H : Hp) (E : Value → Shared → Prop), Inv X pins σ H s → (∀ b ∈ fp, FpOk X pins H b) → tn i s.heap → J.go i H →
    wpAny (model P w) X.A (pyNext (.ref it)) (fun r s1 => ∃ u, r = some u ∧
      wpAny (model P w) X.A (letOwnedTupleGo tg (.ref it) u) (fun _ s2 => ∃ x H', Inv X pins σ H' s2 ∧ RelV x u ∧ J.yld i H x H' ∧ tn (i + 1) s2.heap ∧ ∀ b ∈ fp, H' b = none) E s1) E s
  done : ∀ (X : Cx), X.prog = P → X.w = w → X.K = K → X.calm = true → ∀ (i : Nat) (pins : List (Addr × Obj)) (s : Shared) (σ : St) (H : Hp) (E : Value → Shared → Prop), Inv X pins σ H s → (∀ b ∈ fp, FpOk X pins H b) → tn i s.heap → J.stop i H →
    wpAny (model P w) X.A (pyNext (.ref it)) (fun r s1 => r = none ∧ Inv X pins σ H s1) E s
  self : ∀ (A : Around) (i : Nat) (s : Shared) (Q : Value → Shared → Prop) (E : Value → Shared → Prop), tn i s.heap → Q (.ref it) s → wpAny (model P w) A (pyIter (.ref it)) Q E s
abbrev TI := St → Hp → (It → Hp → Prop) → Prop
def PIE (X : Cx) (pins : List (Addr × Obj)) (σ : St) (tg : Expr) (R : It → Hp → Prop) (itv : Value) (s2 : Shared) : Prop :=
  ∃ (it : Addr) (fp : List Addr) (tn : Nat → Heap → Prop) (J : It) (H' : Hp), itv = .ref it ∧ Inv X pins σ H' s2 ∧ Turn X.prog X.w X.K tg J fp it tn ∧ tn 0 s2.heap ∧ (∀ b ∈ fp, FpOk X pins H' b) ∧ R J H'
def PI (X : Cx) (tg iter : Expr) (wi : TI) : Prop :=
  ∀ (pins : List (Addr × Obj)) (s : Shared) (σ : St) (H : Hp) (R : It → Hp → Prop), Inv X pins σ H s → wi σ H R →
    wpAny (model X.prog X.w) X.A (eval iter X.env) (fun v s1 => wpAny (model X.prog X.w) X.A (pyIter v) (PIE X pins σ tg R) X.xe s1) X.xe s
theorem go_of {M : Model} {A : Around} {E : Value → Shared → Prop} {s : Shared} {tg : Expr} {it : Addr} {u : Value} {o : Obj} {n : String} {vs : Array Value} {Q : Unit → Shared → Prop} (ho : s.heap.get? it = some o) (hc : o.cls = .type n) (hd : o.data = .fields vs)
    (hn : ["enumerate", "zip", "dict_itemiterator", "dict_reverseitemiterator", "odict_iterator", "itertools.zip_longest", "itertools.pairwise"].contains n = false) (hQ : Q () s) : wpAny M A (letOwnedTupleGo tg (.ref it) u) Q E s := by
  unfold letOwnedTupleGo
  cases tg <;> first
    | exact wpAny_pure hQ
    | (cases u <;> first
        | exact wpAny_pure hQ
        | (refine wpAny_bind (wpAny_load ho ?_)
           rw [hc, hd]
           show wpAny M A (if (["enumerate", "zip", "dict_itemiterator", "dict_reverseitemiterator", "odict_iterator", "itertools.zip_longest", "itertools.pairwise"].contains n && vs[0]? == some (rawInt _)) = true then _ else _) Q E s
           rw [if_neg (by intro h; rw [hn, Bool.false_and] at h; cases h)]
           exact wpAny_pure hQ))
def Itl (K : PySem.W.Frag) (a : Addr) : It :=
  ⟨fun i H => ∃ xs x, SqL K H a xs ∧ xs[i]? = some x, fun i H x H' => H' = H ∧ ∀ xs, SqL K H a xs → xs[i]? = some x, fun i H => ∃ xs, SqL K H a xs ∧ xs.length ≤ i⟩
def Itr (lo : Int) (n : Nat) : It := ⟨fun i _ => i < n, fun i H x H' => H' = H ∧ x = .int (lo + i), fun i _ => n ≤ i⟩
theorem turn_list {P : Program} {w : World} {K : PySem.W.Frag} {tg : Expr} (a it : Addr) : Turn P w K tg (Itl K a) [it] it (fun i h => h.IsListIter it a i) where
  mem := by simp
  obj := fun i h st b hb => by
    have e : b = it := by simpa using hb
    subst e
    obtain ⟨o, e, c, d⟩ := st
    exact ⟨o, e, fun v z => by rw [d] at z; cases z⟩
  keep := fun i h h' st k => st.at fun o e => k it (by simp) o e
  item := by
    intro X hP hw hK hc i pins s σ H E I hf st hg
    subst hP hw hK
    obtain ⟨xs, x, hq, hx⟩ := hg
    obtain ⟨its, rv, p, hz⟩ := I.list hq
    obtain ⟨u, hu, ru⟩ := rv.get hx
    obtain ⟨f0, f1, f2, f3, f4, f5⟩ := hf it (by simp)
    refine wpAny_pyNext_list_item st p.isList (x := u) (by simpa using hu) fun h' st' sb => ?_
    have I1 : Inv X pins σ H { s with heap := h' } := I.turned (t' := s.toks) (fun b o hb e => (sb.2 b hb).trans e) f0 f1 f3 f4 f5
    obtain ⟨o, e, c, d⟩ := id st'
    exact ⟨u, rfl, go_of (s := { s with heap := h' }) e c d (by decide) ⟨x, H, I1, ru, ⟨rfl, fun ys hy => by rw [I.list_inj hy hq]; exact hx⟩, st', fun b hb => (hf b hb).1⟩⟩
  done := by
    intro X hP hw hK hc i pins s σ H E I hf st hg
    subst hP hw hK
    obtain ⟨xs, hq, hx⟩ := hg
    obtain ⟨its, rv, p, hz⟩ := I.list hq
    obtain ⟨f0, f1, f2, f3, f4, f5⟩ := hf it (by simp)
    have hl := rv.length
    exact wpAny_pyNext_list_end (I.ok.hd hc) st p.isList (by simp; omega) fun h' eb => ⟨rfl, I.turned (t' := s.toks) (fun b o hb e => eb b o hb e) f0 f1 f3 f4 f5⟩
  self := fun _ _ _ _ _ st h => wpAny_pyIter_listiter st h
theorem turn_range {P : Program} {w : World} {K : PySem.W.Frag} {tg : Expr} (it : Addr) (lo : Int) (n : Nat) : Turn P w K tg (Itr lo n) [it] it (fun i h => IsRangeIter h it (lo + (i : Nat) * 1) ((n : Int) - (i : Nat)) 1) where
  mem := by simp
  obj := fun i h st b hb => by
    have e : b = it := by simpa using hb
    subst e
    exact ⟨_, st, fun v z => by
      have z' : Data.fields _ = Data.cell v := z
      cases z'⟩
  keep := fun i h h' st k => k it (by simp) _ st
  item := by
    intro X hP hw hK hc i pins s σ H E I hf st hg
    subst hP hw hK
    obtain ⟨f0, f1, f2, f3, f4, f5⟩ := hf it (by simp)
    have W := Walks.range (prog := X.prog) (w := X.w) (I.ok.hd hc) it lo 1 n
    refine W.item i s _ _ hg st fun v h' tk hv st' kk => ?_
    obtain ⟨t, rfl⟩ := hv
    have I1 : Inv X pins σ H { s with heap := h', toks := tk } := I.turned (fun b o hb e => kk b o (by simpa using hb) e) f0 f1 f3 f4 f5
    refine ⟨_, rfl, go_of (s := { s with heap := h', toks := tk }) (n := "range_iterator") st' rfl rfl (by decide) ⟨.int (lo + i), H, I1, ⟨t, ?_⟩, ⟨rfl, rfl⟩, st', fun b hb => (hf b hb).1⟩⟩
    rw [Int.mul_one]
  done := by
    intro X hP hw hK hc i pins s σ H E I hf st hg
    subst hP hw hK
    obtain ⟨f0, f1, f2, f3, f4, f5⟩ := hf it (by simp)
    exact wpAny_pyNext_range_end (I.ok.hd hc) st (by have : n ≤ i := hg; omega) fun h' eb => ⟨rfl, I.turned (t' := s.toks) (fun b o hb e => eb b o hb e) f0 f1 f3 f4 f5⟩
  self := fun _ _ _ _ _ st h => wpAny_pyIter_rangeiter st h
end L2
namespace L2
open PySem PySem.Spec PyProof.Rows
section
variable {X : Cx} {tg : Expr}
def iList (K : PySem.W.Frag) (tl : TE) : TI := fun σ H R => tl σ H fun x H1 => ∃ a, x = .ref a ∧ (∃ xs, SqL K H1 a xs) ∧ R (Itl K a) H1
theorem pi_list {l : Expr} {tl : TE} (hl : PE X l tl) : PI X tg l (iList X.K tl) := by
  intro pins s σ H R I h
  refine thn (hl pins s σ H _ I h) fun v s1 ⟨x, H1, I1, r1, q1⟩ => ?_
  obtain ⟨a, e, ⟨xs, hq⟩, q⟩ := q1
  subst e
  cases r1
  obtain ⟨its, rv, p, hz⟩ := I1.list hq
  refine wpAny_pyIter_list p.isList ?_
  refine ⟨s1.heap.objs.size, [s1.heap.objs.size], _, _, H1, rfl, I1.kept (t' := s1.toks) fun b o e => Heap.get?_push_of_some _ e, turn_list a _, ⟨_, Heap.get?_push_size _ rfl, rfl, rfl⟩, fun b hb => ?_, q⟩
  have e : b = s1.heap.objs.size := by simpa using hb
  subst e
  exact I1.fpOk (Nat.le_refl _) (I1.hok.fresh (Nat.le_refl _))
theorem range_it {pins : List (Addr × Obj)} {σ : St} {H : Hp} {s : Shared} {R : It → Hp → Prop} {E : Value → Shared → Prop} {lo hi : Int} {t u v : Tok} {tk : Nat} (I : Inv X pins σ H s) (h1 : -(2 ^ 62) ≤ lo) (h2 : lo < 2 ^ 62) (h3 : -(2 ^ 62) ≤ hi) (h4 : hi < 2 ^ 62)
    (q : R (Itr lo (hi - lo).toNat) H) : wpAny (model X.prog X.w) X.A (pyIter (.ref s.heap.objs.size)) (PIE X pins σ tg R) E { s with heap := s.heap.push { cls := .type "range", data := .fields #[.int lo t, .int hi u, .int 1 v] }, toks := tk } := by
  refine wpAny_pyIter_range (IsRange.new ..) (small_one h1 h2 h3 h4) ?_
  have I1 : Inv X pins σ H { s with heap := s.heap.push { cls := .type "range", data := .fields #[.int lo t, .int hi u, .int 1 v] }, toks := tk } := I.kept fun b o e => Heap.get?_push_of_some _ e
  refine ⟨(s.heap.push { cls := .type "range", data := .fields #[.int lo t, .int hi u, .int 1 v] }).objs.size, [(s.heap.push { cls := .type "range", data := .fields #[.int lo t, .int hi u, .int 1 v] }).objs.size], _, _, H, rfl,
    I1.kept (t' := tk) fun b o e => Heap.get?_push_of_some _ e, turn_range _ lo (hi - lo).toNat, ?_, fun b hb => ?_, q⟩
  · have e1 : lo + ((0 : Nat) : Int) * 1 = lo := by simp
    have e2 : (((hi - lo).toNat : Nat) : Int) - ((0 : Nat) : Int) = Builtin.Range.rangeSize lo hi 1 := by rw [rangeSize_one]; split <;> omega
    show IsRangeIter _ _ (lo + ((0 : Nat) : Int) * 1) ((((hi - lo).toNat : Nat) : Int) - ((0 : Nat) : Int)) 1
    rw [e1, e2]
    exact Heap.get?_push_size _ rfl
  · have e : b = (s.heap.push { cls := .type "range", data := .fields #[.int lo t, .int hi u, .int 1 v] }).objs.size := by simpa using hb
    subst e
    exact I1.fpOk (Nat.le_refl _) (I1.hok.fresh (Nat.le_refl _))
def iRng1 (ta : TA) : TI := fun σ H R => ta σ H fun vs H1 => ∃ j : Int, vs = [.int j] ∧ -(2 ^ 62) ≤ j ∧ j < 2 ^ 62 ∧ R (Itr 0 j.toNat) H1
theorem pi_range1 {a : Expr} {ta : TA} {p pos : Pos} (hg : Gl X "range") (hm : X.mg "range" = none) (ha : PA X [a] ta) (hs : starEach [a] X.env = [(false, eval a X.env)] := by rfl) : PI X tg (.Call (.Name "range" p) [a] [] pos) (iRng1 ta) := by
  intro pins s σ H R I h
  refine Call_ (ld_blt I hg hm boot_range (PyProof.Rows.callWith_type1 (thn (ha pos pins s σ H _ I h) fun us s1 ⟨vs, H1, I1, r1, q1⟩ => ?_) hs rfl))
  obtain ⟨j, e, q1, q2, q⟩ := q1
  subst e
  cases r1 with
  | cons r rr =>
    cases rr
    obtain ⟨t, rfl⟩ := r
    exact call_range_1 (range_it I1 (by omega) (by omega) q1 q2 (by simpa using q))
def tFor (wi : TI) (g : TG) (tb : TS) : TS := fun D σ H => wi σ H fun J H1 => ∃ W : Nat → Nat → St → Hp → Prop, (∃ m, W 0 m σ H1) ∧ ∀ i m σ H, W i m σ H →
  (J.stop i H ∧ D.nx σ H) ∨ (J.go i H ∧ ∃ N : St → Hp → Prop, (∀ σ' H', N σ' H' → ∃ m', m' < m ∧ W (i + 1) m' σ' H') ∧ ∀ x H', J.yld i H x H' → g x σ H' fun σ2 H2 => tb { D with nx := N, ct := N, bk := D.nx } σ2 H2)
def pinsAt (fp : List Addr) (h : Heap) : List (Addr × Obj) := fp.filterMap fun b => (h.get? b).map fun o => (b, o)
theorem mem_pinsAt {fp : List Addr} {h : Heap} {b : Addr} {o : Obj} (hb : b ∈ fp) (e : h.get? b = some o) : (b, o) ∈ pinsAt fp h := List.mem_filterMap.mpr ⟨b, hb, by rw [e]; rfl⟩
theorem of_pinsAt {fp : List Addr} {h : Heap} {p : Addr × Obj} (hp : p ∈ pinsAt fp h) : p.1 ∈ fp ∧ h.get? p.1 = some p.2 := by
  obtain ⟨b, hb, e⟩ := List.mem_filterMap.mp hp
  cases q : h.get? b with
  | none => rw [q] at e; cases e
  | some o =>
    rw [q] at e
    have e' : (b, o) = p := Option.some.inj e
    subst e'
    exact ⟨hb, q⟩
theorem Inv.pinned {pins : List (Addr × Obj)} {σ : St} {H : Hp} {s : Shared} {fp : List Addr} (I : Inv X pins σ H s) (hf : ∀ b ∈ fp, FpOk X pins H b) (ho : ∀ b ∈ fp, ∃ o, s.heap.get? b = some o ∧ ∀ v, o.data ≠ .cell v) : Inv X (pins ++ pinsAt fp s.heap) σ H s :=
  I.pins_of fun p hp => (List.mem_append.mp hp).elim (fun z => I.pin p (List.mem_append_right _ z)) fun z => by
    obtain ⟨hb, e⟩ := of_pinsAt z
    obtain ⟨f0, f1, f2, _⟩ := hf p.1 hb
    obtain ⟨o, e', d⟩ := ho p.1 hb
    rw [e] at e'; cases e'
    exact ⟨e, f0, f1, f2, d⟩
theorem Inv.unpinned {pins pl : List (Addr × Obj)} {σ : St} {H : Hp} {s : Shared} (I : Inv X (pins ++ pl) σ H s) : Inv X pins σ H s := I.pins_of fun p hp => I.pin p (List.mem_append_right _ (List.mem_append_left _ hp))
theorem ps_for {iter : Expr} {body : List Stmt} {wi : TI} {g : TG} {tb : TS} {pos : Pos} (hp : PassesOwn (model X.prog X.w) X.A X.env X.xe) (hc : X.calm = true) (hi : PI X tg iter wi) (hg : PG X tg g) (hb : PSs X body tb)
    (hs : ∀ x, foldedSetIterable iter X.env x = pure x := by intro _; rfl) : PS X (.For tg iter body [] pos) (tFor wi g tb) := by
  intro pins s σ H D I h
  refine wpAny_For (thn (hi pins s σ H _ I h) fun v s1 h1 => thn h1 fun itv s2 h2 => ?_) hs
  obtain ⟨it, fp, tn, J, H2, e, I2, T, st2, f2, W, ⟨m0, w0⟩, turn⟩ := h2
  subst e
  have stat : ∀ {H' : Hp}, (∀ b ∈ fp, H' b = none) → ∀ b ∈ fp, FpOk X pins H' b := fun hn b hb => ⟨hn b hb, (f2 b hb).2⟩
  refine codeAny_forLoop_any (fun n s' => ∃ i σ' H', Inv X pins σ' H' s' ∧ tn i s'.heap ∧ (∀ b ∈ fp, H' b = none) ∧ W i n σ' H') ?_ m0 ⟨0, σ, H2, I2, st2, fun b hb => (f2 b hb).1, w0⟩
  rintro n s3 ⟨i, σ3, H3, I3, st3, fr3, w3⟩
  rcases turn i n σ3 H3 w3 with ⟨stop, qn⟩ | ⟨go, N, hN, step⟩
  · refine wpAny_passesOwn hp (thn (T.done X rfl rfl rfl hc i pins s3 σ3 H3 X.xe I3 (stat fr3) st3 stop) fun r s4 ⟨hr, I4⟩ => ?_)
    subst hr
    exact wpAny_execs_nil ⟨σ3, H3, I4, qn⟩
  · refine wpAny_passesOwn hp (thn (T.item X rfl rfl rfl hc i pins s3 σ3 H3 X.xe I3 (stat fr3) st3 go) fun r s4 ⟨u, hr, h4⟩ => ?_)
    subst hr
    refine wpAny_passesOwn hp (thn h4 fun _ s5 ⟨x, H5, I5, r5, y5, st5, fr5⟩ => ?_)
    have I5' := I5.pinned (stat fr5) (T.obj _ _ st5)
    refine wpAny_passesOwn hp (thn (hg _ s5 σ3 H5 x u _ I5' r5 (step x H5 y5)) fun _ s6 ⟨σ6, H6, I6, q6⟩ => ?_)
    refine wpAny_passesOwn hp (thn (hb _ s6 σ6 H6 _ I6 q6) fun f s7 q7 => ?_)
    have again : ∀ {σ7 : St} {H7 : Hp}, Inv X (pins ++ pinsAt fp s5.heap) σ7 H7 s7 → N σ7 H7 → ∃ m, m < n ∧ ∃ i σ' H', Inv X pins σ' H' s7 ∧ tn i s7.heap ∧ (∀ b ∈ fp, H' b = none) ∧ W i m σ' H' := fun {σ7 H7} I7 n7 => by
      obtain ⟨m', hm, w7⟩ := hN σ7 H7 n7
      refine ⟨m', hm, i + 1, σ7, H7, I7.unpinned, T.keep _ _ _ st5 fun b hb o e => (I7.pin (b, o) (List.mem_append_right _ (List.mem_append_right _ (mem_pinsAt hb e)))).1, fun b hb => ?_, w7⟩
      obtain ⟨o, e, d⟩ := T.obj _ _ st5 b hb
      exact (I7.pin (b, o) (List.mem_append_right _ (List.mem_append_right _ (mem_pinsAt hb e)))).2.1
    cases f with
    | next => obtain ⟨σ7, H7, I7, n7⟩ := q7; exact again I7 n7
    | cont => obtain ⟨σ7, H7, I7, n7⟩ := q7; exact again I7 n7
    | brk => obtain ⟨σ7, H7, I7, q7⟩ := q7; exact ⟨σ7, H7, I7.unpinned, q7⟩
    | ret v => obtain ⟨x7, σ7, H7, I7, r7, q7⟩ := q7; exact ⟨x7, σ7, H7, I7.unpinned, r7, q7⟩
end
theorem for_list {K : PySem.W.Frag} {a : Addr} {xs : List V} {g : TG} {tb : TS} {D : Ends} {σ : St} {H : Hp} (Pv : Nat → St → Hp → Prop) (h0 : Pv 0 σ H) (hl : ∀ i σ H, i ≤ xs.length → Pv i σ H → SqL K H a xs)
    (hs : ∀ i x σ H, xs[i]? = some x → Pv i σ H → g x σ H fun σ2 H2 => tb { D with nx := Pv (i + 1), ct := Pv (i + 1), bk := D.nx } σ2 H2) (hd : ∀ σ H, Pv xs.length σ H → D.nx σ H) :
    ∃ W : Nat → Nat → St → Hp → Prop, (∃ m, W 0 m σ H) ∧ ∀ i m σ H, W i m σ H →
      ((Itl K a).stop i H ∧ D.nx σ H) ∨ ((Itl K a).go i H ∧ ∃ N : St → Hp → Prop, (∀ σ' H', N σ' H' → ∃ m', m' < m ∧ W (i + 1) m' σ' H') ∧ ∀ x H', (Itl K a).yld i H x H' → g x σ H' fun σ2 H2 => tb { D with nx := N, ct := N, bk := D.nx } σ2 H2) := by
  refine ⟨fun i m σ H => m = xs.length - i ∧ i ≤ xs.length ∧ Pv i σ H, ⟨xs.length, by simp, Nat.zero_le _, h0⟩, ?_⟩
  rintro i m σ H ⟨rfl, hi, p⟩
  have q := hl i σ H hi p
  by_cases hlt : i < xs.length
  · refine .inr ⟨⟨xs, xs[i], q, by simp [hlt]⟩, Pv (i + 1), fun σ' H' p' => ⟨xs.length - (i + 1), by omega, rfl, hlt, p'⟩, fun x H' y => ?_⟩
    obtain ⟨e, y⟩ := y
    subst e
    exact hs i x σ _ (y xs q) p
  · have e : i = xs.length := by omega
    subst e
    exact .inl ⟨⟨xs, q, Nat.le_refl _⟩, hd σ H p⟩
theorem for_range {lo : Int} {n : Nat} {g : TG} {tb : TS} {D : Ends} {σ : St} {H : Hp} (Pv : Nat → St → Hp → Prop) (h0 : Pv 0 σ H)
    (hs : ∀ i σ H, i < n → Pv i σ H → g (.int (lo + i)) σ H fun σ2 H2 => tb { D with nx := Pv (i + 1), ct := Pv (i + 1), bk := D.nx } σ2 H2) (hd : ∀ σ H, Pv n σ H → D.nx σ H) :
    ∃ W : Nat → Nat → St → Hp → Prop, (∃ m, W 0 m σ H) ∧ ∀ i m σ H, W i m σ H →
      ((Itr lo n).stop i H ∧ D.nx σ H) ∨ ((Itr lo n).go i H ∧ ∃ N : St → Hp → Prop, (∀ σ' H', N σ' H' → ∃ m', m' < m ∧ W (i + 1) m' σ' H') ∧ ∀ x H', (Itr lo n).yld i H x H' → g x σ H' fun σ2 H2 => tb { D with nx := N, ct := N, bk := D.nx } σ2 H2) := by
  refine ⟨fun i m σ H => m = n - i ∧ i ≤ n ∧ Pv i σ H, ⟨n, by simp, Nat.zero_le _, h0⟩, ?_⟩
  rintro i m σ H ⟨rfl, hi, p⟩
  by_cases hlt : i < n
  · refine .inr ⟨hlt, Pv (i + 1), fun σ' H' p' => ⟨n - (i + 1), by omega, rfl, hlt, p'⟩, fun x H' y => ?_⟩
    obtain ⟨e, y⟩ := y
    subst e y
    exact hs i σ _ hlt p
  · have e : i = n := by omega
    subst e
    exact .inl ⟨Nat.le_refl _, hd σ H p⟩
end L2
namespace L2
open PySem PySem.Spec PyProof.Rows
abbrev R2 := V → V → Hp → VK → Prop
def OpR (X : Cx) (f : Value → Value → Sem Value) (r : R2) : Prop :=
  ∀ (pins : List (Addr × Obj)) (s : Shared) (σ : St) (H : Hp) (x y : V) (v u : Value) (Q : VK), Inv X pins σ H s → RelV x v → RelV y u → r x y H Q →
    wpAny (model X.prog X.w) X.A (f v u) (EP X pins σ Q) X.xe s
def UnR (X : Cx) (f : Value → Sem Value) (r : V → Hp → VK → Prop) : Prop :=
  ∀ (pins : List (Addr × Obj)) (s : Shared) (σ : St) (H : Hp) (x : V) (v : Value) (Q : VK), Inv X pins σ H s → RelV x v → r x H Q →
    wpAny (model X.prog X.w) X.A (f v) (EP X pins σ Q) X.xe s
def CallR (X : Cx) (f : Value) (r : List V → Hp → VK → Prop) : Prop :=
  ∀ (pins : List (Addr × Obj)) (s : Shared) (σ : St) (H : Hp) (xs : List V) (us : List Value) (Q : VK), Inv X pins σ H s → Vals xs us → r xs H Q →
    wpAny (model X.prog X.w) X.A (call f us) (EP X pins σ Q) X.xe s
def TruR (X : Cx) (r : V → Hp → (Bool → Hp → Prop) → Prop) : Prop :=
  ∀ (pins : List (Addr × Obj)) (s : Shared) (σ : St) (H : Hp) (x : V) (v : Value) (Q : Bool → Hp → Prop), Inv X pins σ H s → RelV x v → r x H Q →
    wpAny (model X.prog X.w) X.A (truthy v) (TP X pins σ Q) X.xe s
def tOp (r : R2) (ta tb : TE) : TE := fun σ H Q => ta σ H fun x H1 => tb σ H1 fun y H2 => r x y H2 Q
def tUn (r : V → Hp → VK → Prop) (ta : TE) : TE := fun σ H Q => ta σ H fun x H1 => r x H1 Q
def rI (C : Int → Int → Prop) (g : Int → Int → V) : R2 := fun x y H Q => ∃ i j, x = .int i ∧ y = .int j ∧ C i j ∧ Q (g i j) H
def rI0 (g : Int → Int → V) : R2 := fun x y H Q => ∃ i j, x = .int i ∧ y = .int j ∧ Q (g i j) H
def rU (g : Int → V) : V → Hp → VK → Prop := fun x H Q => ∃ i, x = .int i ∧ Q (g i) H
section
variable {X : Cx} {a b c : Expr} {ta tb tc : TE} {pos : Pos}
theorem binT (ha : PE X a ta) (hb : PE X b tb) {pins : List (Addr × Obj)} {s : Shared} {σ : St} {H : Hp} {R : V → V → Hp → Prop} (I : Inv X pins σ H s)
    (h : ta σ H fun x H1 => tb σ H1 fun y H2 => R x y H2) {Q : Value → Shared → Prop} {f : Value → Value → Sem Value}
    (hf : ∀ v u s2 x y H2, Inv X pins σ H2 s2 → RelV x v → RelV y u → R x y H2 → wpAny (model X.prog X.w) X.A (f v u) Q X.xe s2) :
    wpAny (model X.prog X.w) X.A (eval a X.env) (fun v s₁ => wpAny (model X.prog X.w) X.A (eval b X.env) (fun u s₂ => wpAny (model X.prog X.w) X.A (f v u) Q X.xe s₂) X.xe s₁) X.xe s := by
  refine thn (ha pins s σ H _ I h) fun v s1 ⟨x, H1, I1, r1, q1⟩ => ?_
  refine thn (hb pins s1 σ H1 _ I1 q1) fun u s2 ⟨y, H2, I2, r2, q2⟩ => ?_
  exact hf v u s2 x y H2 I2 r1 r2 q2
theorem pe_op {op : Operator} {r : R2} (ho : OpR X (binaryOp op) r) (ha : PE X a ta) (hb : PE X b tb) : PE X (.BinOp a op b pos) (tOp r ta tb) := by
  intro pins s σ H Q I h
  exact wpAny_BinOp (binT ha hb I h fun v u s2 x y H2 I2 rx ry q => ho pins s2 σ H2 x y v u Q I2 rx ry q)
theorem pe_un {op : UnaryOp} {r : V → Hp → VK → Prop} (ho : UnR X (unaryOp op) r) (ha : PE X a ta) : PE X (.UnaryOp op a pos) (tUn r ta) := by
  intro pins s σ H Q I h
  exact UnaryOp_ (thn (ha pins s σ H _ I h) fun v s1 ⟨x, H1, I1, r1, q1⟩ => ho pins s1 σ H1 x v Q I1 r1 q1)
theorem opI {f : Value → Value → Sem Value} {C : Int → Int → Prop} {g : Int → Int → Int}
    (rule : ∀ (i j : Int) (t u : Tok) (s : Shared) (Q : Value → Shared → Prop) (E : Value → Shared → Prop), C i j → Q (.int (g i j) s.toks) { s with toks := s.toks + 1 } → wpAny (model X.prog X.w) X.A (f (.int i t) (.int j u)) Q E s) :
    OpR X f (rI C fun i j => .int (g i j)) := by
  intro pins s σ H x y v u Q I rx ry h
  obtain ⟨i, j, rfl, rfl, hc, q⟩ := h
  obtain ⟨t, rfl⟩ := rx
  obtain ⟨t', rfl⟩ := ry
  exact rule i j t t' s _ _ hc ⟨.int (g i j), H, I.tok _, ⟨_, rfl⟩, q⟩
theorem opI0 {f : Value → Value → Sem Value} {g : Int → Int → Int}
    (rule : ∀ (i j : Int) (t u : Tok) (s : Shared) (Q : Value → Shared → Prop) (E : Value → Shared → Prop), Q (.int (g i j) s.toks) { s with toks := s.toks + 1 } → wpAny (model X.prog X.w) X.A (f (.int i t) (.int j u)) Q E s) :
    OpR X f (rI0 fun i j => .int (g i j)) := by
  intro pins s σ H x y v u Q I rx ry h
  obtain ⟨i, j, rfl, rfl, q⟩ := h
  obtain ⟨t, rfl⟩ := rx
  obtain ⟨t', rfl⟩ := ry
  exact rule i j t t' s _ _ ⟨.int (g i j), H, I.tok _, ⟨_, rfl⟩, q⟩
theorem opB0 {f : Value → Value → Sem Value} {g : Int → Int → Bool}
    (rule : ∀ (i j : Int) (t u : Tok) (s : Shared) (Q : Value → Shared → Prop) (E : Value → Shared → Prop), Q (.bool (g i j)) s → wpAny (model X.prog X.w) X.A (f (.int i t) (.int j u)) Q E s) :
    OpR X f (rI0 fun i j => .bl (g i j)) := by
  intro pins s σ H x y v u Q I rx ry h
  obtain ⟨i, j, rfl, rfl, q⟩ := h
  obtain ⟨t, rfl⟩ := rx
  obtain ⟨t', rfl⟩ := ry
  exact rule i j t t' s _ _ ⟨.bl (g i j), H, I, rfl, q⟩
def CPow (i j : Int) : Prop := 0 ≤ j ∧ j ≤ 1000000 ∧ i.natAbs < 2 ^ 64
def CMul (i j : Int) : Prop := (-(2 ^ 64) < i ∧ i < 2 ^ 64) ∨ (-(2 ^ 64) < j ∧ j < 2 ^ 64)
theorem CMul.ok {i j : Int} (h : CMul i j) : IntMulOk i j := by
  rcases h with ⟨h1, h2⟩ | ⟨h1, h2⟩
  · exact .of_left (intBits_le_64 h1 h2)
  · exact .of_right (intBits_le_64 h1 h2)
theorem op_add : OpR X (binaryOp .Add) (rI0 fun i j => .int (i + j)) := opI0 fun _ _ _ _ _ _ _ q => add_int q
theorem op_sub : OpR X (binaryOp .Sub) (rI0 fun i j => .int (i - j)) := opI0 fun _ _ _ _ _ _ _ q => sub_int q
theorem op_mul : OpR X (binaryOp .Mult) (rI CMul fun i j => .int (i * j)) := opI fun _ _ _ _ _ _ _ hc q => mul_int q hc.ok
theorem op_mod : OpR X (binaryOp .Mod) (rI (fun _ j => 0 < j) fun i j => .int (i % j)) := opI fun i j _ _ _ _ _ hc q => by
  have h1 : (0 : Int) < j := hc
  exact mod_int' (by omega) (by rw [Int.fmod_eq_emod_of_nonneg i (by omega)]; exact q)
theorem op_pow : OpR X (binaryOp .Pow) (rI CPow fun i j => .int (i ^ j.toNat)) := opI fun _ _ _ _ _ _ _ hc q => pow_int_small hc.1 hc.2.1 hc.2.2 q
theorem unI {f : Value → Sem Value} {g : Int → Int}
    (rule : ∀ (i : Int) (t : Tok) (s : Shared) (Q : Value → Shared → Prop) (E : Value → Shared → Prop), Q (.int (g i) s.toks) { s with toks := s.toks + 1 } → wpAny (model X.prog X.w) X.A (f (.int i t)) Q E s) :
    UnR X f (rU fun i => .int (g i)) := by
  intro pins s σ H x v Q I rx h
  obtain ⟨i, rfl, q⟩ := h
  obtain ⟨t, rfl⟩ := rx
  exact rule i t s _ _ ⟨.int (g i), H, I.tok _, ⟨_, rfl⟩, q⟩
theorem un_neg : UnR X (unaryOp .USub) (rU fun i => .int (-i)) := unI fun _ _ _ _ _ q => neg_int q
end
def scal : V → V → Bool
  | .non, .non => true | .non, .int _ => true | .int _, .non => true | .non, .bl _ => true | .bl _, .non => true | .non, .str _ => true | .str _, .non => true
  | .int _, .int _ => true | .bl _, .bl _ => true | .str _, .str _ => true | .byt _, .byt _ => true
  | .int _, .str _ => true | .str _, .int _ => true | .bl _, .str _ => true | .str _, .bl _ => true
  | _, _ => false
def rEq : R2 := fun x y H Q => scal x y = true ∧ Q (.bl (decide (x = y))) H
def rNe : R2 := fun x y H Q => scal x y = true ∧ Q (.bl (!decide (x = y))) H
theorem dec_int {i j : Int} : decide (V.int i = V.int j) = (i == j) := by
  rw [Bool.eq_iff_iff]
  simp
theorem dec_bl {i j : Bool} : decide (V.bl i = V.bl j) = (i == j) := by
  rw [Bool.eq_iff_iff]
  simp
theorem dec_str {i j : Str} : decide (V.str i = V.str j) = (i == j) := by
  rw [Bool.eq_iff_iff]
  simp
theorem dec_byt {i j : Array UInt8} : decide (V.byt i = V.byt j) = (i.toList == j.toList) := by
  rw [Bool.eq_iff_iff]
  cases i
  cases j
  simp
section
variable {X : Cx} {a b c : Expr} {ta tb tc : TE} {pos : Pos}
theorem fin_bl {pins : List (Addr × Obj)} {σ : St} {H : Hp} {s : Shared} {Q : VK} {k k' : Bool} (I : Inv X pins σ H s) (q : Q (.bl k) H) (e : k = k') : EP X pins σ Q (.bool k') s := by
  subst e
  exact ⟨.bl k, H, I, rfl, q⟩
theorem op_eq : OpR X (compareOp .Eq) rEq := by
  intro pins s σ H x y v u Q I rx ry h
  obtain ⟨hs, q⟩ := h
  cases x with
  | non =>
    cases rx
    cases y with
    | non => cases ry; exact PySem.EqNone.eq_none_none (fin_bl I q (by simp))
    | bl j => cases ry; exact PySem.EqNone.eq_none_bool (fin_bl I q (by simp))
    | int j => obtain ⟨t', rfl⟩ := ry; exact PySem.EqNone.eq_none_int (fin_bl I q (by simp))
    | str j => obtain ⟨t', rfl⟩ := ry; exact PySem.EqNone.eq_none_str (fin_bl I q (by simp))
    | _ => exact absurd (show false = true from hs) Bool.false_ne_true
  | bl i =>
    cases rx
    cases y with
    | non => cases ry; exact PySem.EqNone.eq_bool_none (fin_bl I q (by simp))
    | bl j => cases ry; exact eq_bool (fin_bl I q dec_bl)
    | str j => obtain ⟨t', rfl⟩ := ry; exact PySem.EqMixed.eq_bool_str (fin_bl I q (by simp))
    | _ => exact absurd (show false = true from hs) Bool.false_ne_true
  | int i =>
    obtain ⟨t, rfl⟩ := rx
    cases y with
    | non => cases ry; exact PySem.EqNone.eq_int_none (fin_bl I q (by simp))
    | int j => obtain ⟨t', rfl⟩ := ry; exact eq_int (fin_bl I q dec_int)
    | str j => obtain ⟨t', rfl⟩ := ry; exact PySem.EqMixed.eq_int_str (fin_bl I q (by simp))
    | _ => exact absurd (show false = true from hs) Bool.false_ne_true
  | str i =>
    obtain ⟨t, rfl⟩ := rx
    cases y with
    | non => cases ry; exact PySem.EqNone.eq_str_none (fin_bl I q (by simp))
    | bl j => cases ry; exact PySem.EqMixed.eq_str_bool (fin_bl I q (by simp))
    | int j => obtain ⟨t', rfl⟩ := ry; exact PySem.EqMixed.eq_str_int (fin_bl I q (by simp))
    | str j => obtain ⟨t', rfl⟩ := ry; exact eq_str (fin_bl I q dec_str)
    | _ => exact absurd (show false = true from hs) Bool.false_ne_true
  | byt i =>
    obtain ⟨t, rfl⟩ := rx
    cases y with
    | byt j => obtain ⟨t', rfl⟩ := ry; exact PySem.W.eq_bytes (fin_bl I q dec_byt)
    | _ => exact absurd (show false = true from hs) Bool.false_ne_true
  | _ => cases y <;> exact absurd (show false = true from hs) Bool.false_ne_true
theorem op_ne : OpR X (compareOp .NotEq) rNe := by
  intro pins s σ H x y v u Q I rx ry h
  obtain ⟨hs, q⟩ := h
  cases x with
  | non =>
    cases rx
    cases y with
    | non => cases ry; exact PySem.EqNone.ne_none_none (fin_bl I q (by simp))
    | bl j => cases ry; exact PySem.EqNone.ne_none_bool (fin_bl I q (by simp))
    | int j => obtain ⟨t', rfl⟩ := ry; exact PySem.EqNone.ne_none_int (fin_bl I q (by simp))
    | str j => obtain ⟨t', rfl⟩ := ry; exact PySem.EqNone.ne_none_str (fin_bl I q (by simp))
    | _ => exact absurd (show false = true from hs) Bool.false_ne_true
  | bl i =>
    cases rx
    cases y with
    | non => cases ry; exact PySem.EqNone.ne_bool_none (fin_bl I q (by simp))
    | bl j => cases ry; exact ne_bool (fin_bl I q (congrArg not dec_bl))
    | str j => obtain ⟨t', rfl⟩ := ry; exact PySem.EqMixed.ne_bool_str (fin_bl I q (by simp))
    | _ => exact absurd (show false = true from hs) Bool.false_ne_true
  | int i =>
    obtain ⟨t, rfl⟩ := rx
    cases y with
    | non => cases ry; exact PySem.EqNone.ne_int_none (fin_bl I q (by simp))
    | int j => obtain ⟨t', rfl⟩ := ry; exact ne_int (fin_bl I q (congrArg not dec_int))
    | str j => obtain ⟨t', rfl⟩ := ry; exact PySem.EqMixed.ne_int_str (fin_bl I q (by simp))
    | _ => exact absurd (show false = true from hs) Bool.false_ne_true
  | str i =>
    obtain ⟨t, rfl⟩ := rx
    cases y with
    | non => cases ry; exact PySem.EqNone.ne_str_none (fin_bl I q (by simp))
    | bl j => cases ry; exact PySem.EqMixed.ne_str_bool (fin_bl I q (by simp))
    | int j => obtain ⟨t', rfl⟩ := ry; exact PySem.EqMixed.ne_str_int (fin_bl I q (by simp))
    | str j => obtain ⟨t', rfl⟩ := ry; exact ne_str (fin_bl I q (congrArg not dec_str))
    | _ => exact absurd (show false = true from hs) Bool.false_ne_true
  | byt i =>
    obtain ⟨t, rfl⟩ := rx
    cases y with
    | byt j => obtain ⟨t', rfl⟩ := ry; exact PySem.W.ne_bytes (fin_bl I q (congrArg not dec_byt))
    | _ => exact absurd (show false = true from hs) Bool.false_ne_true
  | _ => cases y <;> exact absurd (show false = true from hs) Bool.false_ne_true
theorem op_lt : OpR X (compareOp .Lt) (rI0 fun i j => .bl (decide (i < j))) := opB0 fun _ _ _ _ _ _ _ q => lt_int q
theorem op_le : OpR X (compareOp .LtE) (rI0 fun i j => .bl (decide (i ≤ j))) := opB0 fun _ _ _ _ _ _ _ q => le_int q
theorem op_gt : OpR X (compareOp .Gt) (rI0 fun i j => .bl (decide (j < i))) := opB0 fun _ _ _ _ _ _ _ q => gt_int q
theorem op_ge : OpR X (compareOp .GtE) (rI0 fun i j => .bl (decide (j ≤ i))) := opB0 fun _ _ _ _ _ _ _ q => ge_int q
theorem op_isN : OpR X (compareOp .Is) (fun x y H Q => y = .non ∧ Q (.bl (decide (x = .non))) H) := by
  intro pins s σ H x y v u Q I rx ry h
  obtain ⟨rfl, q⟩ := h
  cases ry
  refine is_none_gen (fin_bl I q ?_)
  cases x <;> first
    | (cases rx; rfl)
    | (obtain ⟨t, rfl⟩ := rx; rfl)
theorem op_notN : OpR X (compareOp .IsNot) (fun x y H Q => y = .non ∧ Q (.bl (!decide (x = .non))) H) := by
  intro pins s σ H x y v u Q I rx ry h
  obtain ⟨rfl, q⟩ := h
  cases ry
  refine isnot_none_gen (fin_bl I q ?_)
  cases x <;> first
    | (cases rx; rfl)
    | (obtain ⟨t, rfl⟩ := rx; rfl)
theorem nomark (b : Expr) {op : CmpOp} (h : op ≠ .In := by decide) (h2 : op ≠ .NotIn := by decide) : behindInMarks op b = false := by
  have e1 : (op == CmpOp.In) = false := by cases op <;> first | rfl | exact absurd rfl h
  have e2 : (op == CmpOp.NotIn) = false := by cases op <;> first | rfl | exact absurd rfl h2
  cases b <;> simp [behindInMarks, e1, e2]
theorem pe_cmpR {op : CmpOp} {r : R2} (ho : OpR X (compareOp op) r) (ha : PE X a ta) (hb : PE X b tb) (hm : behindInMarks op b = false) : PE X (.Compare a [op] [b] pos) (tOp r ta tb) := by
  intro pins s σ H Q I h
  exact wpAny_Compare1 (binT ha hb I h fun v u s2 x y H2 I2 rx ry q => ho pins s2 σ H2 x y v u Q I2 rx ry q) hm
def tTest (t : TE) : TT := fun σ H Q => t σ H fun x H' => ∃ k, x = .bl k ∧ Q k H'
theorem pt_cmpR {op : CmpOp} {r : R2} (ho : OpR X (compareOp op) r) (ha : PE X a ta) (hb : PE X b tb) (hm : behindInMarks op b = false) : PT X (.Compare a [op] [b] pos) (tTest (tOp r ta tb)) := by
  intro pins s σ H Q I h
  refine wpAny_isTrue_Compare1 (thn (ha pins s σ H _ I h) fun v s1 ⟨x, H1, I1, r1, q1⟩ => thn (hb pins s1 σ H1 _ I1 q1) fun u s2 ⟨y, H2, I2, r2, q2⟩ =>
    thn (ho pins s2 σ H2 x y v u _ I2 r1 r2 q2) fun c s3 ⟨z, H3, I3, r3, k, e, q3⟩ => ?_) hm
  subst e
  cases r3
  exact wpAny_truthy_bool ⟨H3, I3, q3⟩
def TruV (K : PySem.W.Frag) (x : V) (H : Hp) (k : Bool) : Prop :=
  match x with
  | .non => k = false
  | .bl b => k = b
  | .int i => k = (i != 0)
  | .str y => y.length ≤ sizeLine ∧ k = ((y.length : Int) != 0)
  | .byt y => y.size ≤ sizeLine ∧ k = ((y.size : Int) != 0)
  | .ref p => (∃ xs, SqL K H p xs ∧ k = !xs.isEmpty) ∨ (∃ xs, SqT K H p xs ∧ k = !xs.isEmpty) ∨ ∃ kvs, H p = some (.dK kvs) ∧ k = !kvs.isEmpty
  | _ => False
theorem isEmpty_kv {κ : Type} {kvs : List (κ × V)} {vs : List (κ × Value)} (r : KV kvs vs) : (!vs.isEmpty) = !kvs.isEmpty := by
  cases r <;> rfl
theorem isEmpty_of {xs : List V} {its : List Value} (r : Vals xs its) : (!its.toArray.isEmpty) = !xs.isEmpty := by
  cases r <;> simp
theorem line63 : (sizeLine : Nat) < 2 ^ 63 := by rw [sizeLine_eq]; decide
theorem tru_ok : TruR X (fun x H Q => ∃ k, TruV X.K x H k ∧ Q k H) := by
  intro pins s σ H x v Q I rx h
  obtain ⟨k, e, q⟩ := h
  have hl := line63
  have hs : sizeLine = 16777216 := sizeLine_eq
  cases x with
  | non =>
    cases rx
    have e' : k = false := e
    subst e'
    exact truthy_none ⟨H, I, q⟩
  | bl b =>
    cases rx
    have e' : k = b := e
    subst e'
    exact wpAny_truthy_bool ⟨H, I, q⟩
  | int i =>
    obtain ⟨t, rfl⟩ := rx
    have e' : k = (i != 0) := e
    subst e'
    exact PySem.P.truthy_int ⟨H, I, q⟩
  | str y =>
    obtain ⟨t, rfl⟩ := rx
    obtain ⟨hy, e'⟩ : y.length ≤ sizeLine ∧ k = ((y.length : Int) != 0) := e
    subst e'
    exact PySem.P.truthy_str (by omega) ⟨H, I.tok _, q⟩
  | byt y =>
    obtain ⟨t, rfl⟩ := rx
    obtain ⟨hy, e'⟩ : y.size ≤ sizeLine ∧ k = ((y.size : Int) != 0) := e
    subst e'
    exact PySem.W.truthy_bytes (by omega) ⟨H, I.tok _, q⟩
  | ref p =>
    cases rx
    have e' : (∃ xs, SqL X.K H p xs ∧ k = !xs.isEmpty) ∨ (∃ xs, SqT X.K H p xs ∧ k = !xs.isEmpty) ∨ ∃ kvs, H p = some (.dK kvs) ∧ k = !kvs.isEmpty := e
    rcases e' with ⟨xs, hx, e'⟩ | ⟨xs, hx, e'⟩ | ⟨kvs, hx, e'⟩
    · subst e'
      obtain ⟨its, r, pl, hz⟩ := I.list hx
      have hlen := r.length
      exact wpAny_truthy_list pl.isList (by simp only [List.size_toArray]; omega) ⟨H, I.tok _, by rw [isEmpty_of r]; exact q⟩
    · subst e'
      obtain ⟨its, r, pl, hz⟩ := I.tuple hx
      have hlen := r.length
      exact truthy_tuple pl (by simp only [List.size_toArray]; omega) ⟨H, I.tok _, by rw [isEmpty_of r]; exact q⟩
    · subst e'
      obtain ⟨hz, hS, vs, r, m⟩ : kvs.length ≤ sizeLine ∧ (p == sysModules) = false ∧ ∃ vs, KV kvs vs ∧ s.heap.DictOf (mixKind X.prog X.w) p vs := I.hok p _ hx
      have hlen : kvs.length = vs.length := Paired.length r
      exact wpAny_truthy_dict hS m (by omega) ⟨H, I.tok _, by rw [isEmpty_kv r]; exact q⟩
  | _ => exact (show False from e).elim
theorem pt_truth (ha : PE X a ta) (he : ∀ whole, isTrue a X.env whole = (do let v ← whole; standAt a.pos; holding [v] (truthy v))) :
    PT X a (fun σ H Q => ta σ H fun x H' => ∃ k, TruV X.K x H' k ∧ Q k H') := by
  intro pins s σ H Q I h
  exact isTrue_plain (thn (ha pins s σ H _ I h) fun v s1 ⟨x, H1, I1, r1, q1⟩ => tru_ok pins s1 σ H1 x v Q I1 r1 q1) (he _)
theorem vals1 {x : V} {us : List Value} (r : Vals [x] us) : ∃ u, us = [u] ∧ RelV x u := by
  cases r with
  | cons r1 r2 => cases r2; exact ⟨_, rfl, r1⟩
theorem vals2 {x y : V} {us : List Value} (r : Vals [x, y] us) : ∃ u w', us = [u, w'] ∧ RelV x u ∧ RelV y w' := by
  cases r with
  | cons r1 r2 =>
    cases r2 with
    | cons r3 r4 => cases r4; exact ⟨_, _, rfl, r1, r3⟩
theorem call_max2 (hc : X.calm = true) : CallR X (.builtin "max") (fun xs H Q => ∃ i j, xs = [.int i, .int j] ∧ Q (.int (if j > i then j else i)) H) := by
  intro pins s σ H xs us Q I r h
  obtain ⟨i, j, rfl, q⟩ := h
  obtain ⟨u, w', rfl, ⟨t, rfl⟩, ⟨t', rfl⟩⟩ := vals2 r
  refine max_two_ints (I.ok.hd hc) fun h' tk k => ⟨_, H, I.kept k, ?_, q⟩
  by_cases hj : j > i
  · rw [if_pos hj, if_pos hj]; exact ⟨_, rfl⟩
  · rw [if_neg hj, if_neg hj]; exact ⟨_, rfl⟩
theorem call_min2 (hc : X.calm = true) : CallR X (.builtin "min") (fun xs H Q => ∃ i j, xs = [.int i, .int j] ∧ Q (.int (if j < i then j else i)) H) := by
  intro pins s σ H xs us Q I r h
  obtain ⟨i, j, rfl, q⟩ := h
  obtain ⟨u, w', rfl, ⟨t, rfl⟩, ⟨t', rfl⟩⟩ := vals2 r
  refine min_two_ints (I.ok.hd hc) fun h' tk k => ⟨_, H, I.kept k, ?_, q⟩
  by_cases hj : j < i
  · rw [if_pos hj, if_pos hj]; exact ⟨_, rfl⟩
  · rw [if_neg hj, if_neg hj]; exact ⟨_, rfl⟩
theorem call_int1 : CallR X (.type "int") (fun xs H Q => (∃ i, xs = [.int i] ∧ Q (.int i) H) ∨ ∃ k, xs = [.bl k] ∧ Q (.int (if k then 1 else 0)) H) := by
  intro pins s σ H xs us Q I r h
  rcases h with ⟨i, rfl, q⟩ | ⟨k, rfl, q⟩
  · obtain ⟨u, rfl, t, rfl⟩ := vals1 r
    exact call_int_int ⟨.int i, H, I, ⟨_, rfl⟩, q⟩
  · obtain ⟨u, rfl, r1⟩ := vals1 r
    cases r1
    exact call_int_bool ⟨.int (if k then 1 else 0), H, I.tok _, ⟨_, rfl⟩, q⟩
end
end L2
namespace L2
open PySem PySem.Spec PyProof.Rows
structure ObjM (h : Heap) (x dx C : Addr) (mA : Str → Option Value) : Prop where
  obj : h.get? x = some (PySem.W.instObj C dx)
  ns : h.Ns1 dx mA
  ne : dx ≠ x
theorem lookIn_ns {h : Heap} {dx : Addr} {mA : Str → Option Value} (n : h.Ns1 dx mA) : ∃ od, h.get? dx = some od ∧ ∀ name, PySem.W.lookIn name od = some (mA name) := by
  obtain ⟨o, es, ep, ho, hd, hk, _, hm⟩ := n
  refine ⟨o, ho, fun name => ?_⟩
  have e := hm name
  unfold nsFind findBy at e
  rw [← Array.find?_toList] at e
  unfold PySem.W.lookIn
  rw [hd]
  dsimp only
  split
  · rename_i y q
    rw [q] at e
    exact congrArg some e
  · rename_i q
    rw [q] at e
    have a : es.toList.any (·.refKey) = false := by
      rw [List.any_eq_false]
      intro y hy
      obtain ⟨z, t, hkey⟩ := hk y (Array.mem_toList_iff.mp hy)
      simp [DictEntry.refKey, hkey]
    have a' : ¬ es.toList.any (·.refKey) = true := by rw [a]; exact Bool.false_ne_true
    rw [if_neg a']
    exact congrArg some e
theorem ObjM.look {h : Heap} {x dx C : Addr} {mA : Str → Option Value} (I : ObjM h x dx C mA) : ∃ od, PySem.W.InstAt h x (PySem.W.instObj C dx) C (some od) ∧ ∀ name, PySem.W.lookIn name od = some (mA name) :=
  let ⟨od, ho, hl⟩ := lookIn_ns I.ns
  ⟨od, ⟨I.obj, rfl, rfl, ho⟩, hl⟩
section
variable {prog : Program} {w : World} {A : Around} {E : Value → Shared → Prop} {s : Shared} {K : PySem.W.Frag} {x dx C f : Addr} {mA : Str → Option Value} {name : Str} {v : Value}
theorem get_map {expr : Bool} {Q : Value → Shared → Prop} (X : K.In s.heap) (I : ObjM s.heap x dx C mA) (hg : PySem.W.plainGet K C name = true) (hh : PySem.W.hasDictIn K C = true)
    (ha : PySem.W.findIn K (.ref C) name = some none) (hv : mA name = some v) (hv' : PySem.W.handedIn v = true) (h : Q v { s with toks := s.toks + 1 }) :
    wpAny (model prog w) A (getAttr (.ref x) name expr) Q E s := by
  obtain ⟨od, J, hl⟩ := I.look
  exact PySem.W.get_value X J (PySem.W.plainGet_of hg).1 (PySem.W.findObj_own hh ha rfl (by rw [hl, hv])) hv' h
theorem get_meth {pl : Sem Bool} {Q : Value × List Value → Shared → Prop} (X : K.In s.heap) (I : ObjM s.heap x dx C mA) (hg : PySem.W.plainGet K C name = true)
    (hf : PySem.W.findIn K (.ref C) name = some (some (.ref f))) (ht : PySem.W.isFn K (.ref f) = true) (hv : mA name = none) (h : Q (.ref f, [.ref x]) s) :
    wpAny (model prog w) A (getMethod (.ref x) name pl) Q E s := by
  obtain ⟨od, J, hl⟩ := I.look
  exact PySem.W.method_fn X J (PySem.W.plainGet_of hg).1 (PySem.W.plainGet_of hg).2 hf (beq_iff_eq.mp ht) (by show (PySem.W.lookIn name od).map (·.isSome) = some false; rw [hl, hv]; rfl) h
theorem set_map {ns : List Str} {Q : Unit → Shared → Prop} (X : K.In s.heap) (I : ObjM s.heap x dx C mA)
    (hs : PySem.W.findIn K (.ref C) "__setattr__" = some (some (.builtin "object.__setattr__"))) (hp : PySem.W.plainOver K C = true) (ht : PySem.W.takerIn K C name = some none) (hh : PySem.W.hasDictIn K C = true)
    (hw : PySem.Within mA ns) (hsz : ns.length ≤ sizeLine)
    (h : ∀ h', ObjM h' x dx C (fun y => if y = name then some v else mA y) → Heap.SameBut dx s.heap h' → Q () { s with heap := h', toks := s.toks + 2 }) :
    wpAny (model prog w) A (setAttr (.ref x) name v) Q E s := by
  obtain ⟨od, J, hl⟩ := I.look
  refine PySem.W.set_plain X J hs (PySem.W.osa_open (s := { s with toks := s.toks + 1 }) (r := none) X J hp ht fun b => ?_)
  obtain ⟨cd, hc, hd'⟩ := PySem.W.any_some hh
  have hx : s.heap.get? x = some ⟨.ref C, some dx, .plain, #[]⟩ := I.obj
  refine wpAny_bind (wpAny_pure (wpAny_bind (wpAny_bind (wpAny_loadPart hx (wpAny_bind (PySem.W.Looks.here (s := { s with toks := s.toks + 1 }) (PySem.W.looks_clsIn X hc) ?_))))))
  rw [hd']
  refine wpAny_pure (a := some dx) (wpAny_bind (wpAny_pure (wpAny_bind ?_)))
  refine wpAny_nsSet1 (s := { s with toks := s.toks + 1 }) I.ns fun h' hn2 hs2 => ?_
  obtain ⟨oD, esD, epD, hoD, hdD, hcD⟩ := hn2.count (PySem.Within.cons name v hw)
  refine wpAny_bind (wpAny_lookBehind hoD (by rw [hdD]; exact pastItsLine_dict (Nat.le_trans hcD (by rw [List.length_cons]; omega))) ?_)
  exact wpAny_pure (h _ ⟨(hs2.2 _ (Ne.symm I.ne)).trans I.obj, hn2, I.ne⟩ hs2)
theorem make_map {R : Result → Shared → Prop} {vs : List Value} {kw : List (Str × Value)} (X : K.In s.heap) (hm : PySem.W.makesIn K C = true)
    (hi : PySem.W.findIn K (.ref C) "__init__" = some (some (.ref f))) (hf : PySem.W.typeIn K (.ref f) = some (.type "function"))
    (h : codeAny (model prog w) (A.under (.builtin "type.__call__" ⟨.ref C :: vs, kw⟩)) (.call (.ref f) ⟨.ref (s.heap.objs.size + 1) :: vs, kw⟩) (PySem.W.InitBack (s.heap.objs.size + 1) R)
      { s with heap := (s.heap.push PySem.W.emptyDict).push (PySem.W.instObj C s.heap.objs.size) }) :
    codeAny (model prog w) A (.call (.ref C) ⟨vs, kw⟩) R s := by
  obtain ⟨hh, g, d, t, os⟩ := s
  exact PySem.W.make_core (PySem.W.makes_of X hm) (PySem.W.looks_findIn X hi) (fun self => PySem.W.bind_fn X self hf) (.inl rfl) h
end
def putF (f : Str) (v : V) : List (Str × V) → List (Str × V)
  | [] => [(f, v)]
  | (g, x) :: r => if g = f then (g, v) :: r else (g, x) :: putF f v r
theorem lookup_putF (f g : Str) (v : V) : ∀ fs : List (Str × V), (putF f v fs).lookup g = if g = f then some v else fs.lookup g
  | [] => by
    show List.lookup g [(f, v)] = _
    by_cases h : g = f
    · have hb : (g == f) = true := beq_iff_eq.mpr h
      simp only [List.lookup, hb, if_pos h]
    · have hb : (g == f) = false := beq_eq_false_iff_ne.mpr h
      simp only [List.lookup, hb, if_neg h]
  | (k, x) :: r => by
    have ih := lookup_putF f g v r
    rw [show putF f v ((k, x) :: r) = (if k = f then (k, v) :: r else (k, x) :: putF f v r) from rfl]
    by_cases hk : k = f
    · rw [if_pos hk]
      by_cases h : g = k
      · have hb : (g == k) = true := beq_iff_eq.mpr h
        simp only [List.lookup, hb, if_pos (h.trans hk)]
      · have hb : (g == k) = false := beq_eq_false_iff_ne.mpr h
        simp only [List.lookup, hb, if_neg (fun e : g = f => h (e.trans hk.symm))]
    · rw [if_neg hk]
      by_cases h : g = k
      · have hb : (g == k) = true := beq_iff_eq.mpr h
        simp only [List.lookup, hb, if_neg (fun e : g = f => hk (h.symm.trans e))]
      · have hb : (g == k) = false := beq_eq_false_iff_ne.mpr h
        simp only [List.lookup, hb]
        exact ih
theorem keys_putF (f : Str) (v : V) : ∀ fs : List (Str × V), f ∈ (putF f v fs).map (·.1) ∧ ∀ g, g ∈ fs.map (·.1) → g ∈ (putF f v fs).map (·.1)
  | [] => ⟨by simp [putF], fun g h => by simp at h⟩
  | (k, x) :: r => by
    obtain ⟨i1, i2⟩ := keys_putF f v r
    rw [show putF f v ((k, x) :: r) = (if k = f then (k, v) :: r else (k, x) :: putF f v r) from rfl]
    by_cases hk : k = f
    · rw [if_pos hk]
      subst hk
      exact ⟨by simp, fun g h => by simpa using h⟩
    · rw [if_neg hk]
      refine ⟨?_, fun g h => ?_⟩
      · rw [List.map_cons]
        exact List.mem_cons_of_mem _ i1
      · rw [List.map_cons] at h ⊢
        rcases List.mem_cons.mp h with e | e
        · exact List.mem_cons.mpr (.inl e)
        · exact List.mem_cons_of_mem _ (i2 g e)
theorem length_putF (f : Str) (v : V) : ∀ fs : List (Str × V), (putF f v fs).length ≤ fs.length + 1
  | [] => by simp [putF]
  | (k, x) :: r => by
    have ih := length_putF f v r
    rw [show putF f v ((k, x) :: r) = (if k = f then (k, v) :: r else (k, x) :: putF f v r) from rfl]
    by_cases hk : k = f
    · rw [if_pos hk, List.length_cons, List.length_cons]; omega
    · rw [if_neg hk, List.length_cons, List.length_cons]; omega
theorem RelO.some_of {v : V} {o : Option Value} (r : RelO (some v) o) : ∃ u, o = some u ∧ RelV v u := by
  cases o with
  | none => exact (show False from r).elim
  | some u => exact ⟨u, rfl, r⟩
theorem RelO.none_of {o : Option Value} (r : RelO none o) : o = none := by
  cases o with
  | none => rfl
  | some u => exact (show False from r).elim
theorem handed_of {v : V} {u : Value} (r : RelV v u) : PySem.W.handedIn u = true := by
  cases v with
  | non => cases (show u = Value.none from r); rfl
  | bl b => cases (show u = Value.bool b from r); rfl
  | int i => obtain ⟨t, e⟩ := (show ∃ t, u = Value.int i t from r); cases e; rfl
  | str x => obtain ⟨t, e⟩ := (show ∃ t, u = Value.str x t from r); cases e; rfl
  | byt b => obtain ⟨t, e⟩ := (show ∃ t, u = Value.bytes b t from r); cases e; rfl
  | flt b => obtain ⟨t, e⟩ := (show ∃ t, u = Value.float b t from r); cases e; rfl
  | ref a => cases (show u = Value.ref a from r); rfl
  | ty n => cases (show u = Value.type n from r); rfl
section
variable {P : Program} {w : World} {H H' : Hp} {h h' : Heap} {a C dx : Addr} {fs fs' : List (Str × V)}
theorem ins_get (hok : HOk P w H h) (e : H a = some (.ins C dx fs)) : ∃ mA, ObjM h a dx C mA ∧ (∀ f, RelO (fs.lookup f) (mA f)) ∧ PySem.Within mA (fs.map (·.1)) ∧ fs.length ≤ 1000 ∧ H dx = some (.own a) := by
  obtain ⟨d, z, ne, ob, mA, n, r, q⟩ := (show ObjOk P w H h a (.ins C dx fs) from hok a _ e)
  exact ⟨mA, ⟨ob, n, ne⟩, r, q, z, d⟩
end
structure Cls (K : PySem.W.Frag) (C : Addr) : Prop where
  pg : PySem.W.plainGet K C Str.empty = true
  hd : PySem.W.hasDictIn K C = true
  po : PySem.W.plainOver K C = true
  sa : PySem.W.findIn K (.ref C) "__setattr__" = some (some (.builtin "object.__setattr__"))
theorem Cls.get {K : PySem.W.Frag} {C : Addr} (c : Cls K C) (f : Str) : PySem.W.plainGet K C f = true := c.pg
def NoAttr (K : PySem.W.Frag) (C : Addr) (f : Str) : Prop := PySem.W.findIn K (.ref C) f = some none
theorem NoAttr.taker {K : PySem.W.Frag} {C : Addr} {f : Str} (n : NoAttr K C f) : PySem.W.takerIn K C f = some none := by
  unfold PySem.W.takerIn
  rw [show PySem.W.findIn K (.ref C) f = some none from n]
  rfl
structure Meth (K : PySem.W.Frag) (C : Addr) (m : Str) (f : Addr) : Prop where
  at_ : PySem.W.findIn K (.ref C) m = some (some (.ref f))
  fn : PySem.W.isFn K (.ref f) = true
  kp : PySem.W.keepIn K (.ref f) = true
section
variable {X : Cx} {pins : List (Addr × Obj)} {σ : St} {H : Hp} {s : Shared} {a C dx : Addr} {fs : List (Str × V)} {f : Str} {v : V} {A : Around} {E : Value → Shared → Prop}
theorem getattr_ok {b : Bool} {Q : Value → Shared → Prop} (I : Inv X pins σ H s) (e : H a = some (.ins C dx fs)) (c : Cls X.K C) (n : NoAttr X.K C f) (l : fs.lookup f = some v)
    (h : ∀ u s', Inv X pins σ H s' → RelV v u → Q u s') : wpAny (model X.prog X.w) A (getAttr (.ref a) f b) Q E s := by
  obtain ⟨mA, O, r, _, _, _⟩ := ins_get I.hok e
  obtain ⟨u, hu, ru⟩ := RelO.some_of (v := v) (o := mA f) (by rw [← l]; exact r f)
  exact get_map I.kIn O (c.get f) c.hd n hu (handed_of ru) (h u _ (I.tok _) ru)
theorem getmeth_ok {m : Str} {g : Addr} {pl : Sem Bool} {Q : Value × List Value → Shared → Prop} (I : Inv X pins σ H s) (e : H a = some (.ins C dx fs)) (c : Cls X.K C) (k : Meth X.K C m g) (l : fs.lookup m = none)
    (h : Q (.ref g, [.ref a]) s) : wpAny (model X.prog X.w) A (getMethod (.ref a) m pl) Q E s := by
  obtain ⟨mA, O, r, _, _, _⟩ := ins_get I.hok e
  have hn : mA m = none := RelO.none_of (by rw [← l]; exact r m)
  exact get_meth I.kIn O (c.get m) k.at_ k.fn hn h
theorem setattr_ok {y : V} {u : Value} {Q : Unit → Shared → Prop} (I : Inv X pins σ H s) (e : H a = some (.ins C dx fs)) (c : Cls X.K C) (n : NoAttr X.K C f) (hl : fs.length < 1000) (ry : RelV y u)
    (h : ∀ s', Inv X pins σ (upd H a (.ins C dx (putF f y fs))) s' → Q () s') : wpAny (model X.prog X.w) A (setAttr (.ref a) f u) Q E s := by
  obtain ⟨mA, O, r, wi, _, ho⟩ := ins_get I.hok e
  have hz : (fs.map (·.1)).length ≤ sizeLine := by rw [List.length_map, sizeLine_eq]; omega
  refine set_map I.kIn O c.sa c.po n.taker c.hd wi hz fun h' O' sb => h _ ?_
  have hd : ∃ o, h'.get? dx = some o := let ⟨o, _, _, e', _⟩ := O'.ns; ⟨o, e'⟩
  refine I.write (x := a) (e := dx) (by rw [e]; exact True.intro) (.inr ho) (fun b q hb z => (sb.2 b hb).trans z) hd ?_
  refine ⟨by rw [upd_ne O.ne]; exact ho, ?_, O.ne, O'.obj, _, O'.ns, fun g => ?_, fun g hg => ?_⟩
  · have := length_putF f y fs; omega
  · show RelO ((putF f y fs).lookup g) (if g = f then some u else mA g)
    rw [lookup_putF]
    by_cases q : g = f
    · rw [if_pos q, if_pos q]; exact ry
    · rw [if_neg q, if_neg q]; exact r g
  · by_cases q : g = f
    · rw [q]; exact (keys_putF f y fs).1
    · refine (keys_putF f y fs).2 g (wi g fun z => hg ?_)
      show (if g = f then some u else mA g) = none
      rw [if_neg q]; exact z
theorem Inv.made (I : Inv X pins σ H s) : Inv X pins σ (upd (upd H s.heap.objs.size (.own (s.heap.objs.size + 1))) (s.heap.objs.size + 1) (.ins C s.heap.objs.size []))
    { s with heap := (s.heap.push PySem.W.emptyDict).push (PySem.W.instObj C s.heap.objs.size) } := by
  have e1 : (s.heap.push PySem.W.emptyDict).get? s.heap.objs.size = some PySem.W.emptyDict := Heap.get?_push_size s.heap rfl
  have e2 : ((s.heap.push PySem.W.emptyDict).push (PySem.W.instObj C s.heap.objs.size)).get? (s.heap.objs.size + 1) = some (PySem.W.instObj C s.heap.objs.size) := by
    have := Heap.get?_push_size (s.heap.push PySem.W.emptyDict) (o := PySem.W.instObj C s.heap.objs.size) rfl
    rwa [Heap.size_push] at this
  have e3 : (s.heap.push PySem.W.emptyDict).Ns s.heap.objs.size (fun _ => none) := ⟨PySem.W.emptyDict, #[], _, e1, rfl, (fun e he => absurd he (by simp)), fun _ => rfl⟩
  have I1 := I.laid (a := s.heap.objs.size) (o := .own (s.heap.objs.size + 1)) (h' := s.heap.push PySem.W.emptyDict) (t' := s.toks) (fun b u q => Heap.get?_push_of_some _ q) (Nat.le_refl _) ⟨_, e1⟩
  refine I1.laid (a := s.heap.objs.size + 1) (o := .ins C s.heap.objs.size []) (t' := s.toks) (fun b u q => Heap.get?_push_of_some _ q) (Nat.le_of_eq (Heap.size_push _ _)) ?_
  have ne : s.heap.objs.size ≠ s.heap.objs.size + 1 := Nat.ne_of_lt (Nat.lt_succ_self _)
  refine ⟨by rw [upd_ne ne, upd_same], Nat.zero_le _, ne, e2, fun _ => none, (Heap.Ns1.of_empty e3).at fun o q => Heap.get?_push_of_some _ q, fun _ => True.intro, fun y hy => absurd rfl hy⟩
theorem attr_of {prog : Program} {w : World} {env : Env} {e : Expr} {f : Str} {pos : Pos} {s : Shared} {Q : Value → Shared → Prop} (hb : attributeBase e f env (eval e env) = eval e env)
    (h : wpAny (model prog w) A (eval e env) (fun o s₁ => wpAny (model prog w) A (getAttr o f true) Q E s₁) E s) : wpAny (model prog w) A (eval (.Attribute e f pos) env) Q E s :=
  Attribute_any_ h (by rw [arm_eval_Attribute, hb])
end
def tFld (K : PySem.W.Frag) (ta : TE) (f : Str) : TE := fun σ H Q => ta σ H fun x H1 => ∃ a C dx fs v, x = .ref a ∧ H1 a = some (.ins C dx fs) ∧ Cls K C ∧ NoAttr K C f ∧ fs.lookup f = some v ∧ Q v H1
def sFld (K : PySem.W.Frag) (ta tv : TE) (f : Str) : TS := fun D σ H => tv σ H fun y H1 => ta σ H1 fun x H2 => ∃ a C dx fs, x = .ref a ∧ H2 a = some (.ins C dx fs) ∧ Cls K C ∧ NoAttr K C f ∧ fs.length < 1000 ∧
  D.nx σ (upd H2 a (.ins C dx (putF f y fs)))
section
variable {X : Cx} {o e value : Expr} {f : Str} {pos pos' tpos : Pos} {ta tv : TE}
theorem pe_fld (he : PE X e ta) (hb : attributeBase e f X.env (eval e X.env) = eval e X.env) : PE X (.Attribute e f pos) (tFld X.K ta f) := by
  intro pins s σ H Q I h
  refine attr_of hb (thn (he pins s σ H _ I h) fun u s1 ⟨x, H1, I1, rx, a, C, dx, fs, v, ex, ea, c, n, l, q⟩ => ?_)
  subst ex
  obtain rfl : u = Value.ref a := rx
  exact getattr_ok I1 ea c n l fun u' s2 I2 ru => ⟨v, H1, I2, ru, q⟩
theorem ps_fld (ha : PE X o ta) (hv : PE X value tv) (hs : swapsWith value (some (.Attribute o f pos')) pos.line X.env = pure false) : PS X (.Assign [.Attribute o f pos'] value pos) (sFld X.K ta tv f) := by
  intro pins s σ H D I h
  refine plainObj_wpAny_Assign_Attribute (thn (hv pins s σ H _ I h) fun u s1 ⟨y, H1, I1, ry, q⟩ => thn (ha pins s1 σ H1 _ I1 q) fun ov s2 ⟨x, H2, I2, rx, a, C, dx, fs, ex, ea, c, n, l, q2⟩ => ?_) hs
  subst ex
  obtain rfl : ov = Value.ref a := rx
  exact setattr_ok I2 ea c n l ry fun s3 I3 => ⟨σ, _, I3, q2⟩
end
section
variable {X : Cx} {pins : List (Addr × Obj)} {σ : St} {H : Hp} {s : Shared} {A : Around} {E : Value → Shared → Prop} {Q : Value → Shared → Prop} {c : Value} {b : Bool}
inductive TyOf (K : PySem.W.Frag) (H : Hp) : V → Value → Prop where
  | non : TyOf K H .non (.type "NoneType")
  | bl (x : Bool) : TyOf K H (.bl x) (.type "bool")
  | int (i : Int) : TyOf K H (.int i) (.type "int")
  | str (x : Str) : TyOf K H (.str x) (.type "str")
  | flt (x : UInt64) : TyOf K H (.flt x) (.type "float")
  | lst {a : Addr} {xs : List V} (e : H a = some (.lst xs)) : TyOf K H (.ref a) (.type "list")
  | frz {a : Addr} {o : Obj} {xs : List V} (e : H a = some (.frz o (.lst xs))) : TyOf K H (.ref a) (.type "list")
  | tup {a : Addr} {xs : List V} (e : H a = some (.tup xs)) : TyOf K H (.ref a) (.type "tuple")
  | dK {a : Addr} {kvs : List (Key × V)} (e : H a = some (.dK kvs)) : TyOf K H (.ref a) (.type "dict")
  | dT {a : Addr} {kvs : List (List Key × V)} (e : H a = some (.dT kvs)) : TyOf K H (.ref a) (.type "dict")
  | ins {a C dx : Addr} {fs : List (Str × V)} (e : H a = some (.ins C dx fs)) (cl : Cls K C) (ha : PySem.W.findIn K (.ref C) "__class__" = some (some (.builtin "object.__class__")))
      (hn : PySem.W.specialIn K (.builtin "object.__class__") "__get__" = some (some (.builtin "getset_descriptor.__get__"))) (htk : PySem.W.takesIn K (.builtin "object.__class__") = some true)
      (hm : PySem.W.mroIn K C (.type "object") = some true) : TyOf K H (.ref a) (.ref C)
theorem isinst_ok {x : V} {u t : Value} (I : Inv X pins σ H s) (rx : RelV x u) (ty : TyOf X.K H x t) (e : PySem.W.kitOne X.K t c = some b) (h : ∀ tk, Q (.bool b) { s with toks := tk }) :
    wpAny (model X.prog X.w) A (call (.builtin "isinstance") [u, c]) Q E s := by
  cases ty with
  | non => cases (show u = Value.none from rx); exact PySem.W.kia_one PySem.W.kitx_none I.kIn True.intro e (fun z => nomatch z) h
  | bl y => cases (show u = Value.bool y from rx); exact PySem.W.kia_one PySem.W.kitx_bool I.kIn True.intro e (fun z => nomatch z) h
  | int i => obtain ⟨t, q⟩ := (show ∃ t, u = Value.int i t from rx); cases q; exact PySem.W.kia_one PySem.W.kitx_int I.kIn True.intro e (fun z => nomatch z) h
  | str y => obtain ⟨t, q⟩ := (show ∃ t, u = Value.str y t from rx); cases q; exact PySem.W.kia_one PySem.W.kitx_str I.kIn True.intro e (fun z => nomatch z) h
  | flt y => obtain ⟨t, q⟩ := (show ∃ t, u = Value.float y t from rx); cases q; exact PySem.W.kia_one PySem.W.kitx_float I.kIn True.intro e (fun z => nomatch z) h
  | @lst a xs ea =>
    cases (show u = Value.ref a from rx)
    obtain ⟨_, _, n, _, h1⟩ := (show ObjOk X.prog X.w H s.heap a (.lst xs) from I.hok a _ ea)
    exact PySem.W.kia_one PySem.W.kitx_list I.kIn ⟨_, h1, rfl⟩ e (fun z => nomatch z) h
  | @frz a ob xs ea =>
    cases (show u = Value.ref a from rx)
    obtain ⟨_, _, _, n, _, h1⟩ := (show ObjOk X.prog X.w H s.heap a (.frz ob (.lst xs)) from I.hok a _ ea)
    exact PySem.W.kia_one PySem.W.kitx_list I.kIn ⟨_, h1, rfl⟩ e (fun z => nomatch z) h
  | @tup a xs ea =>
    cases (show u = Value.ref a from rx)
    obtain ⟨_, _, _, p⟩ := (show ObjOk X.prog X.w H s.heap a (.tup xs) from I.hok a _ ea)
    obtain ⟨o, h1, h2, _⟩ := p
    exact PySem.W.kia_one PySem.W.kitx_tuple I.kIn ⟨o, h1, h2⟩ e (fun z => nomatch z) h
  | @dK a kvs ea =>
    cases (show u = Value.ref a from rx)
    obtain ⟨_, _, vs, _, p⟩ := (show ObjOk X.prog X.w H s.heap a (.dK kvs) from I.hok a _ ea)
    obtain ⟨o, es, ep, h1, h2, _⟩ := p
    exact PySem.W.kia_one PySem.W.kitx_dict I.kIn ⟨o, h1, h2.1⟩ e (fun z => nomatch z) h
  | @dT a kvs ea =>
    cases (show u = Value.ref a from rx)
    obtain ⟨_, _, xs, _, o, es, ep, h1, h2, _⟩ := (show ObjOk X.prog X.w H s.heap a (.dT kvs) from I.hok a _ ea)
    exact PySem.W.kia_one PySem.W.kitx_dict I.kIn ⟨o, h1, h2.1⟩ e (fun z => nomatch z) h
  | @ins a C dx fs ea cl ha hn htk hm =>
    cases (show u = Value.ref a from rx)
    obtain ⟨mA, O, _⟩ := ins_get I.hok ea
    obtain ⟨od, J, _⟩ := O.look
    exact PySem.W.kia_one (PySem.W.kitx_own (cl.get _) cl.hd ha hn htk hm) I.kIn J e (fun z => nomatch z) h
end
end L2
namespace L2
open PySem PySem.Spec PyProof.Rows
structure Room (k : Nat) (A : Around) : Prop where
  hd : A.handled = none
  dp : A.depth + 3 * k + 5 < recursionLimit
  un : A.units + 16 * k + 200 < cLine
  gu : A.guards = some []
theorem Room.mono {j k : Nat} {A : Around} (r : Room k A) (h : j ≤ k) : Room j A := ⟨r.hd, by have := r.dp; omega, by have := r.un; omega, r.gu⟩
theorem Room.deeper {k : Nat} {A : Around} (r : Room (k + 1) A) (env : Env) : Room k (A.deeper env) :=
  ⟨r.hd, by have := r.dp; show A.depth + 1 + 3 * k + 5 < _; omega, by have := r.un; show A.units + 3 + 16 * k + 200 < _; omega, r.gu⟩
theorem make_depth {A : Around} {C : Addr} {us : List Value} {kw : List (Str × Value)} : (A.under (.builtin "type.__call__" ⟨.ref C :: us, kw⟩)).depth = A.depth + 1 := by
  first | rfl | simp [Around.under, Code.weight, Code.isCreation, Code.isGuard, Code.isCaller, Code.frames, Code.isFrame, guardIds]
theorem make_units {A : Around} {C : Addr} {us : List Value} {kw : List (Str × Value)} : (A.under (.builtin "type.__call__" ⟨.ref C :: us, kw⟩)).units = A.units + 1 := by
  first | rfl | simp [Around.under, Code.cUnits, Code.frames, Code.isFrame]
theorem make_guards {A : Around} {C : Addr} {us : List Value} {kw : List (Str × Value)} : (A.under (.builtin "type.__call__" ⟨.ref C :: us, kw⟩)).guards = A.guards := by
  first | rfl | simp [Around.under, Code.weight, Code.isCreation, Code.isGuard, Code.isCaller, Code.frames, Code.isFrame, guardIds]
theorem Room.make {k : Nat} {A : Around} (r : Room (k + 1) A) (C : Addr) (us : List Value) (kw : List (Str × Value)) : Room k (A.under (.builtin "type.__call__" ⟨.ref C :: us, kw⟩)) :=
  ⟨r.hd, by have := r.dp; rw [make_depth]; omega, by have := r.un; rw [make_units]; omega, by rw [make_guards]; exact r.gu⟩
theorem Room.depth {k : Nat} {A : Around} (r : Room k A) : A.depth < recursionLimit := by have := r.dp; omega
theorem Room.units {k : Nat} {A : Around} (r : Room k A) : A.units + 64 < cLine := by have := r.un; omega
def tNil : TA := fun _ H Q => Q [] H
def tCons (ta : TE) (tr : TA) : TA := fun σ H Q => ta σ H fun x H1 => tr σ H1 fun xs H2 => Q (x :: xs) H2
section
variable {X : Cx} {e : Expr} {es : List Expr} {te : TE} {t : TA} {pos : Pos}
theorem pa_nil : PA X [] tNil := fun _ _ _ _ H Q I h => Calls.spliced_nil ⟨[], H, I, .nil, h⟩
theorem pa_cons (ha : PE X e te) (hr : PA X es t) (hs : starEach (e :: es) X.env = (false, eval e X.env) :: starEach es X.env := by rfl) : PA X (e :: es) (tCons te t) := by
  intro pos pins s σ H Q I h
  rw [hs]
  show wpAny _ _ (spliced ((false, eval e X.env) :: backTo pos (starEach es X.env))) _ _ s
  refine Calls.spliced_cons (thn (ha pins s σ H _ I h) fun u s1 ⟨x, H1, I1, r1, q1⟩ => ?_)
  exact thn (hr pos pins s1 σ H1 _ I1 q1) fun us s2 ⟨xs, H2, I2, r2, q2⟩ => ⟨x :: xs, H2, I2, .cons r1 r2, q2⟩
def tTup (t : TA) : TE := fun σ H Q => t σ H fun xs H1 => xs.length ≤ sizeLine ∧ ∀ p, H1 p = none → Q (.ref p) (upd H1 p (.tup xs))
def tLst (t : TA) : TE := fun σ H Q => t σ H fun xs H1 => xs.length ≤ sizeLine ∧ ∀ p, H1 p = none → Q (.ref p) (upd H1 p (.lst xs))
theorem pe_tup {x1} (h : PA X es t) : PE X (.Tuple es x1 pos) (tTup t) := by
  intro pins s σ H Q I hq
  refine wpAny_Tuple_spliced (thn (h pos pins s σ H _ I hq) fun us s1 ⟨xs, H1, I1, r, z, q⟩ => ⟨by rw [← r.length]; exact z, ?_⟩)
  have hf : H1 s1.heap.objs.size = none := I1.hok.fresh (Nat.le_refl _)
  refine ⟨.ref s1.heap.objs.size, upd H1 s1.heap.objs.size (.tup xs), I1.laid (t' := s1.toks) (fun b u e => Heap.get?_push_of_some _ e) (Nat.le_refl _) ?_, rfl, q _ hf⟩
  exact ⟨z, us, r, ⟨_, Heap.get?_push_size _ rfl, rfl, _, rfl⟩⟩
theorem pe_lst (h : PA X es t) : PE X (.List es pos) (tLst t) := by
  intro pins s σ H Q I hq
  refine wpAny_List_spliced (thn (h pos pins s σ H _ I hq) fun us s1 ⟨xs, H1, I1, r, z, q⟩ => ⟨by rw [← r.length]; exact z, ?_⟩)
  have hf : H1 s1.heap.objs.size = none := I1.hok.fresh (Nat.le_refl _)
  refine ⟨.ref s1.heap.objs.size, upd H1 s1.heap.objs.size (.lst xs), I1.laid (t' := s1.toks) (fun b u e => Heap.get?_push_of_some _ e) (Nat.le_refl _) ?_, rfl, q _ hf⟩
  exact ⟨z, us, 0, r, Heap.get?_push_size _ rfl⟩
end
abbrev Sp := List V → Hp → VK → XK → Prop
abbrev CXT := List Env → Hp → Shared → XK → Value → Shared → Prop
structure Env0 (P : Program) (w : World) (K : PySem.W.Frag) (mg : Str → Option Value) (base : Heap) (A : Around) (outer : List Env) (s : Shared) (H : Hp) : Prop where
  frames : A.frames = some outer
  mod : Mod K mg base
  bs : ∀ b o, base.get? b = some o → s.heap.get? b = some o ∧ H b = none
  bsz : base.objs.size ≤ s.heap.objs.size
  funs : s.heap.FunFrames base outer
  frf : ∀ b ∈ frs outer, H b = none
  hok : HOk P w H s.heap
  bare : AllBare s.gens
def CE (outer : List Env) (P : Program) (w : World) (H : Hp) (s : Shared) (Q : VK) (u : Value) (s' : Shared) : Prop :=
  ∃ v H', s'.os = s.os ∧ AllBare s'.gens ∧ Un (frs outer) [] H H' s.heap s'.heap ∧ HOk P w H' s'.heap ∧ RelV v u ∧ Q v H'
def CR (CX : CXT) (outer : List Env) (P : Program) (w : World) (H : Hp) (s : Shared) (Q : VK) (E : XK) (r : Result) (s' : Shared) : Prop :=
  match r with
  | .ok (.ret u) => CE outer P w H s Q u s'
  | .ok _ => False
  | .error e => CX outer H s E e s'
structure FnOk (P : Program) (w : World) (K : PySem.W.Frag) (mg : Str → Option Value) (base : Heap) (CX : CXT) (k : Nat) (f : Addr) (fd : FuncData) (ps : List Str) (sp : Sp) : Prop where
  len : ∀ vs H Q E, sp vs H Q E → vs.length = ps.length
  run : ∀ (A : Around) (outer : List Env) (s : Shared) (H : Hp) (args : Args) (us : List Value) (vs : List V) (Q : VK) (E : XK), Room k A → Env0 P w K mg base A outer s H → BindsTo s fd args (ps.zip us) → Vals vs us → sp vs H Q E →
    codeAny (model P w) A (.call (.ref f) args) (CR CX outer P w H s Q E) s
theorem FnOk.imp {P : Program} {w : World} {K : PySem.W.Frag} {mg : Str → Option Value} {base : Heap} {CX : CXT} {k : Nat} {f : Addr} {fd : FuncData} {ps : List Str} {sp sp' : Sp} (F : FnOk P w K mg base CX k f fd ps sp)
    (h : ∀ vs H Q E, sp' vs H Q E → sp vs H Q E) : FnOk P w K mg base CX k f fd ps sp' :=
  ⟨fun vs H Q E q => F.len vs H Q E (h _ _ _ _ q), fun A outer s H args us vs Q E hr he hb hv hs => F.run A outer s H args us vs Q E hr he hb hv (h _ _ _ _ hs)⟩
theorem Env0.make {P : Program} {w : World} {K : PySem.W.Frag} {mg : Str → Option Value} {base : Heap} {A : Around} {outer : List Env} {s : Shared} {H : Hp} (e : Env0 P w K mg base A outer s H) (C : Addr) (us : List Value) (kw : List (Str × Value)) :
    Env0 P w K mg base (A.under (.builtin "type.__call__" ⟨.ref C :: us, kw⟩)) outer s H := ⟨by first | exact e.frames | (simpa [Around.under, Code.envs, Code.isFrame, pushEnvs] using e.frames), e.mod, e.bs, e.bsz, e.funs, e.frf, e.hok, e.bare⟩
section
variable {X : Cx} {pins : List (Addr × Obj)} {σ : St} {H : Hp} {s s' : Shared}
theorem Inv.env0 (I : Inv X pins σ H s) : Env0 X.prog X.w X.K X.mg X.base X.A X.stack s H :=
  ⟨I.ok.frames, I.ok.mod, I.bs, Nat.le_trans I.ok.bsz I.sz, I.stack, I.stkFree, I.hok, I.bare⟩
theorem Inv.after {Q : VK} {u : Value} (I : Inv X pins σ H s) (h : CE X.stack X.prog X.w H s Q u s') : EP X pins σ Q u s' := by
  obtain ⟨v, H', os, bare, un, hok, r, q⟩ := h
  obtain ⟨hh, g, d, t, os'⟩ := s'
  obtain rfl : os' = s.os := os
  exact ⟨v, H', I.call (h' := hh) (g' := g) (d' := d) (t' := t) (ch := []) un hok bare (fun b z => absurd z (by simp)), r, q⟩
end
def tCall (sp : Sp) (dvs : List V) (E : XK) (t : TA) : TE := fun σ H Q => t σ H fun vs H1 => sp (vs ++ dvs) H1 Q E
def tMeth (C : Addr) (m : Str) (sp : Sp) (dvs : List V) (E : XK) (ta : TE) (t : TA) : TE := fun σ H Q => ta σ H fun x H1 => ∃ a dx fs, x = .ref a ∧ H1 a = some (.ins C dx fs) ∧ fs.lookup m = none ∧
  t σ H1 fun vs H2 => sp (x :: (vs ++ dvs)) H2 Q E
def tMake (C : Addr) (sp : Sp) (dvs : List V) (E : XK) (t : TA) : TE := fun σ H Q => t σ H fun vs H1 => ∀ x dx, H1 x = none → H1 dx = none → dx ≠ x →
  sp (.ref x :: (vs ++ dvs)) (upd (upd H1 dx (.own x)) x (.ins C dx [])) (fun v H2 => v = .non ∧ Q (.ref x) H2) E
def Binds (K : PySem.W.Frag) (fd : FuncData) (ps : List Str) (ds : List Value) : Prop :=
  ∀ (s : Shared) (us : List Value), K.In s.heap → (us ++ ds).length = ps.length → BindsTo s fd ⟨us, []⟩ (ps.zip (us ++ ds))
theorem Binds.all {K : PySem.W.Frag} {fd : FuncData} {ps : List Str} (h : ∀ us : List Value, us.length = ps.length → bindArgs fd ⟨us, []⟩ = pure (ps.zip us)) : Binds K fd ps [] := fun s us _ hl => by
  rw [List.append_nil] at hl ⊢
  exact .of_eq (h us hl)
def Passes (CX : CXT) (X : Cx) (E : XK) : Prop := ∀ (pins : List (Addr × Obj)) (σ : St) (H : Hp) (s : Shared) (e : Value) (s' : Shared), Inv X pins σ H s → CX X.stack H s E e s' → X.xe e s'
section
variable {X : Cx} {CX : CXT} {k : Nat} {f C : Addr} {fd : FuncData} {ps : List Str} {sp : Sp} {dvs : List V} {ds : List Value} {E : XK} {x m : Str} {p pos apos : Pos} {e o : Expr} {es : List Expr} {ta : TE} {t : TA}
theorem run_fn {pins : List (Addr × Obj)} {σ : St} {H : Hp} {s : Shared} {Q : VK} {us : List Value} {vs : List V} (F : FnOk X.prog X.w X.K X.mg X.base CX k f fd ps sp) (hr : Room k X.A) (hb : Binds X.K fd ps ds) (hd : Vals dvs ds) (hx : Passes CX X E)
    (I : Inv X pins σ H s) (r : Vals vs us) (h : sp (vs ++ dvs) H Q E) : wpAny (model X.prog X.w) X.A (call (.ref f) us) (EP X pins σ Q) X.xe s := by
  have r2 : Vals (vs ++ dvs) (us ++ ds) := r.append hd
  have hl : (us ++ ds).length = ps.length := by rw [← r2.length]; exact F.len _ _ _ _ h
  refine wpAny_call (codeAny_mono (F.run X.A X.stack s H ⟨us, []⟩ (us ++ ds) (vs ++ dvs) Q E hr I.env0 (hb s us I.kIn hl) r2 h) fun r s' hq => ?_)
  cases r with
  | error e => exact hx pins σ H s e s' I hq
  | ok fl =>
    cases fl with
    | ret u => exact I.after hq
    | next => exact False.elim hq
    | brk => exact False.elim hq
    | cont => exact False.elim hq
theorem pe_call (F : FnOk X.prog X.w X.K X.mg X.base CX k f fd ps sp) (hr : Room k X.A) (hg : Gl X x) (hm : X.mg x = some (.ref f)) (hk : PySem.W.keepIn X.K (.ref f) = true) (hb : Binds X.K fd ps ds) (hd : Vals dvs ds) (hx : Passes CX X E)
    (ha : PA X (e :: es) t) (hdb : (x == ("__debug__" : Str)) = false := by decide) (he : starEach (e :: es) X.env = (false, eval e X.env) :: starEach es X.env := by rfl) (hpl : (backTo pos (starEach es X.env)).any (·.1) = false := by rfl) :
    PE X (.Call (.Name x p) (e :: es) [] pos) (tCall sp dvs E t) := by
  intro pins s σ H Q I h
  refine wpAny_Call_Name_kw (ld_glob I hg hm ?_ hdb)
  refine PySem.W.callWith_K (h₀ := X.base) I.ok.mod.kin hk (thn (ha pos pins s σ H _ I h) fun us s1 ⟨vs, H1, I1, r, q⟩ => ⟨I1.kIn, ?_⟩) he hpl
  exact run_fn F hr hb hd hx I1 r q
theorem pe_call0 (F : FnOk X.prog X.w X.K X.mg X.base CX k f fd ps sp) (hr : Room k X.A) (hg : Gl X x) (hm : X.mg x = some (.ref f)) (hk : PySem.W.keepIn X.K (.ref f) = true) (hb : Binds X.K fd ps ds) (hd : Vals dvs ds) (hx : Passes CX X E)
    (hdb : (x == ("__debug__" : Str)) = false := by decide) : PE X (.Call (.Name x p) [] [] pos) (tCall sp dvs E tNil) := by
  intro pins s σ H Q I h
  refine wpAny_Call_Name_kw (ld_glob I hg hm ?_ hdb)
  exact PySem.W.callWith_K0 I.kIn hk (run_fn (us := []) F hr hb hd hx I .nil h)
theorem pe_meth {pl : Sem Bool} (he : PE X o ta) (c : Cls X.K C) (hm : Meth X.K C m f) (F : FnOk X.prog X.w X.K X.mg X.base CX k f fd ps sp) (hr : Room k X.A) (hb : Binds X.K fd ps ds) (hd : Vals dvs ds) (hx : Passes CX X E) (ha : PA X (e :: es) t)
    (hst : starEach (e :: es) X.env = (false, eval e X.env) :: starEach es X.env := by rfl) (hpl : (backTo pos (starEach es X.env)).any (·.1) = false := by rfl)
    (ht : eval (.Call (.Attribute o m apos) (e :: es) [] pos) X.env = (do
      let ov ← eval o X.env
      standAt apos.atName
      let (f, first) ← holding [ov] (getMethod ov m pl)
      callWith pos f first (backTo pos (starEach (e :: es) X.env)) (backToKw pos (keywordEach [] X.env))) := by rfl) :
    PE X (.Call (.Attribute o m apos) (e :: es) [] pos) (tMeth C m sp dvs E ta t) := by
  intro pins s σ H Q I h
  refine PySem.W.methodCall_KW (pl := pl) (thn (he pins s σ H _ I h) fun u s1 ⟨x, H1, I1, rx, a, dx, fs, ex, ea, l, q⟩ => ?_) ht
  subst ex
  obtain rfl : u = Value.ref a := rx
  refine getmeth_ok I1 ea c hm l ?_
  refine PySem.W.callWith_K (first := [.ref a]) (h₀ := X.base) I.ok.mod.kin hm.kp (thn (ha pos pins s1 σ H1 _ I1 q) fun us s2 ⟨vs, H2, I2, r, q2⟩ => ⟨I2.kIn, ?_⟩) hst hpl
  exact run_fn (us := .ref a :: us) (vs := .ref a :: vs) F hr hb hd hx I2 (.cons rfl r) q2
theorem pe_meth0 {pl : Sem Bool} (he : PE X o ta) (c : Cls X.K C) (hm : Meth X.K C m f) (F : FnOk X.prog X.w X.K X.mg X.base CX k f fd ps sp) (hr : Room k X.A) (hb : Binds X.K fd ps ds) (hd : Vals dvs ds) (hx : Passes CX X E)
    (ht : eval (.Call (.Attribute o m apos) [] [] pos) X.env = (do
      let ov ← eval o X.env
      standAt apos.atName
      let (f, first) ← holding [ov] (getMethod ov m pl)
      callWith pos f first (backTo pos (starEach [] X.env)) (backToKw pos (keywordEach [] X.env))) := by rfl) :
    PE X (.Call (.Attribute o m apos) [] [] pos) (tMeth C m sp dvs E ta tNil) := by
  intro pins s σ H Q I h
  refine PySem.W.methodCall_KW (pl := pl) (thn (he pins s σ H _ I h) fun u s1 ⟨x, H1, I1, rx, a, dx, fs, ex, ea, l, q⟩ => ?_) ht
  subst ex
  obtain rfl : u = Value.ref a := rx
  refine getmeth_ok I1 ea c hm l ?_
  exact PySem.W.callWith_K0 (first := [.ref a]) I1.kIn hm.kp (run_fn (us := [.ref a]) (vs := [.ref a]) F hr hb hd hx I1 (.cons rfl .nil) q)
structure Mk (K : PySem.W.Frag) (C f : Addr) : Prop where
  makes : PySem.W.makesIn K C = true
  init : PySem.W.findIn K (.ref C) "__init__" = some (some (.ref f))
  fn : PySem.W.isFn K (.ref f) = true
  kp : PySem.W.keepIn K (.ref C) = true
theorem run_make {pins : List (Addr × Obj)} {σ : St} {H : Hp} {s : Shared} {Q : VK} {us : List Value} {vs : List V} (M : Mk X.K C f) (F : FnOk X.prog X.w X.K X.mg X.base CX k f fd ps sp) (hr : Room (k + 1) X.A) (hb : Binds X.K fd ps ds) (hd : Vals dvs ds)
    (hx : Passes CX X E) (I : Inv X pins σ H s) (r : Vals vs us)
    (h : ∀ x dx, H x = none → H dx = none → dx ≠ x → sp (.ref x :: (vs ++ dvs)) (upd (upd H dx (.own x)) x (.ins C dx [])) (fun v H2 => v = .non ∧ Q (.ref x) H2) E) :
    wpAny (model X.prog X.w) X.A (call (.ref C) us) (EP X pins σ Q) X.xe s := by
  have hq := h (s.heap.objs.size + 1) s.heap.objs.size (I.hok.fresh (Nat.le_succ _)) (I.hok.fresh (Nat.le_refl _)) (Nat.ne_of_lt (Nat.lt_succ_self _))
  have I2 := Inv.made (C := C) I
  have r2 : Vals (V.ref (s.heap.objs.size + 1) :: (vs ++ dvs)) (Value.ref (s.heap.objs.size + 1) :: (us ++ ds)) := .cons rfl (r.append hd)
  have hl : (Value.ref (s.heap.objs.size + 1) :: us ++ ds).length = ps.length := by
    have e := r2.length
    rw [F.len _ _ _ _ hq] at e
    exact e.symm
  refine wpAny_call (make_map (f := f) I.kIn M.makes M.init (beq_iff_eq.mp M.fn) (codeAny_mono (F.run _ X.stack _ _ ⟨Value.ref (s.heap.objs.size + 1) :: us, []⟩ (Value.ref (s.heap.objs.size + 1) :: (us ++ ds)) _ _ E (hr.make C us [])
    (I2.env0.make C us []) (hb _ (Value.ref (s.heap.objs.size + 1) :: us) I2.kIn hl) r2 hq) fun r s' hq' => ?_))
  cases r with
  | error e => exact hx pins σ _ _ e s' I2 hq'
  | ok fl =>
    cases fl with
    | ret u =>
      obtain ⟨v, H', I3, rv, ev, q3⟩ := I2.after hq'
      subst ev
      exact ⟨rv, ⟨V.ref (s.heap.objs.size + 1), H', I3, rfl, q3⟩⟩
    | next => exact False.elim hq'
    | brk => exact False.elim hq'
    | cont => exact False.elim hq'
theorem pe_make0 (M : Mk X.K C f) (F : FnOk X.prog X.w X.K X.mg X.base CX k f fd ps sp) (hr : Room (k + 1) X.A) (hg : Gl X x) (hm : X.mg x = some (.ref C)) (hb : Binds X.K fd ps ds) (hd : Vals dvs ds) (hx : Passes CX X E)
    (hdb : (x == ("__debug__" : Str)) = false := by decide) : PE X (.Call (.Name x p) [] [] pos) (tMake C sp dvs E tNil) := by
  intro pins s σ H Q I h
  refine wpAny_Call_Name_kw (ld_glob I hg hm ?_ hdb)
  exact PySem.W.callWith_K0 I.kIn M.kp (run_make (us := []) M F hr hb hd hx I .nil h)
end
section
variable {X : Cx} {CX : CXT} {k : Nat} {f C : Addr} {fd : FuncData} {ps ks : List Str} {sp : Sp} {E : XK} {x m : Str} {p pos apos kpos : Pos} {e o : Expr} {es : List Expr} {kws : List Keyword} {te ta : TE} {t tk : TA} {nm : Option Str}
variable {g : List Value → List Value → List Value} {gV : List V → List V → List V}
end
structure FnScope (N P : List Str) (sc : Scope) : Prop where
  kind : sc.kind = .function
  co : sc.isCoroutine = false
  gen : sc.isGenerator = false
  nd : N.Nodup
  pre : N.take P.length = P
  par : ∀ x ∈ P, sc.names.lookup x = some .local ∨ sc.names.lookup x = some .cell
  nofree : ∀ y ∈ sc.names, y.2 ≠ .free
theorem bindL_out {kindOf : Str → Option NameKind} {x : Str} : ∀ {binds : List (Str × Value)} {m : Str → Option Value}, (∀ v, (x, v) ∉ binds) → bindL kindOf binds m x = m x
  | [], _, _ => rfl
  | (n, v) :: r, m, h => by
    unfold bindL
    rw [bindL_out fun w hw => h w (List.mem_cons_of_mem _ hw)]
    split
    · have : x ≠ n := by rintro rfl; exact h v List.mem_cons_self
      simp [this]
    · rfl
theorem bindC_out {kindOf : Str → Option NameKind} {x : Str} : ∀ {binds : List (Str × Value)} {m : Str → Option Value}, (∀ v, (x, v) ∉ binds) → bindC kindOf binds m x = m x
  | [], _, _ => rfl
  | (n, v) :: r, m, h => by
    unfold bindC
    rw [bindC_out fun w hw => h w (List.mem_cons_of_mem _ hw)]
    split
    · rfl
    · have : x ≠ n := by rintro rfl; exact h v List.mem_cons_self
      simp [this]
theorem bindL_get {kindOf : Str → Option NameKind} {x : Str} {v : Value} : ∀ {P : List Str} {vs : List Value} {i : Nat} {m : Str → Option Value}, P.Nodup → P[i]? = some x → vs[i]? = some v → kindOf x = some .local →
    bindL kindOf (P.zip vs) m x = some v
  | [], _, _, _, _, h, _, _ => by simp at h
  | _ :: _, [], _, _, _, _, h, _ => by simp at h
  | p :: P, w :: vs, 0, m, nd, h1, h2, hk => by
    simp at h1 h2; subst h1; subst h2
    show bindL kindOf ((p, w) :: P.zip vs) m p = _
    unfold bindL
    rw [bindL_out fun v hv => (List.nodup_cons.mp nd).1 (List.of_mem_zip hv).1, if_pos hk]
    simp
  | p :: P, w :: vs, i + 1, m, nd, h1, h2, hk => by
    show bindL kindOf ((p, w) :: P.zip vs) m x = _
    unfold bindL
    exact bindL_get (i := i) (List.nodup_cons.mp nd).2 (by simpa using h1) (by simpa using h2) hk
theorem bindC_get {kindOf : Str → Option NameKind} {x : Str} {v : Value} : ∀ {P : List Str} {vs : List Value} {i : Nat} {m : Str → Option Value}, P.Nodup → P[i]? = some x → vs[i]? = some v → kindOf x ≠ some .local →
    bindC kindOf (P.zip vs) m x = some v
  | [], _, _, _, _, h, _, _ => by simp at h
  | _ :: _, [], _, _, _, _, h, _ => by simp at h
  | p :: P, w :: vs, 0, m, nd, h1, h2, hk => by
    simp at h1 h2; subst h1; subst h2
    show bindC kindOf ((p, w) :: P.zip vs) m p = _
    unfold bindC
    rw [bindC_out fun v hv => (List.nodup_cons.mp nd).1 (List.of_mem_zip hv).1, if_neg hk]
    simp
  | p :: P, w :: vs, i + 1, m, nd, h1, h2, hk => by
    show bindC kindOf ((p, w) :: P.zip vs) m x = _
    unfold bindC
    exact bindC_get (i := i) (List.nodup_cons.mp nd).2 (by simpa using h1) (by simpa using h2) hk
def start (N : List Str) (vs : List V) : St := vs.map some ++ List.replicate (N.length - vs.length) none
def cxOf (CX : CXT) (P : Program) (w : World) (K : PySem.W.Frag) (mg : Str → Option Value) (base : Heap) (N : List Str) (qual : Str) (scope : Scope) (f : Addr) (cd : Value) (A : Around) (outer : List Env) (s : Shared) (H : Hp) (E : XK) : Cx where
  prog := P
  w := w
  K := K
  mg := mg
  base := base
  A := A.deeper (envOfC qual scope s.heap.objs.size f cd)
  N := N
  s₀ := s
  H₀ := H
  env := envOfC qual scope s.heap.objs.size f cd
  outer := outer
  stack := envOfC qual scope s.heap.objs.size f cd :: outer
  ex := []
  calm := true
  fn := fun _ => true
  pn := []
  xe := fun e s' => wpAny (model P w) (A.deeper (envOfC qual scope s.heap.objs.size f cd)) (leaving (envOfC qual scope s.heap.objs.size f cd) e) (fun _ s'' => CX outer H s E e s'') (fun e' s'' => CX outer H s E e' s'') s'
theorem cell_has {sc : Scope} {n : Nat} {x : Str} (h : sc.names.lookup x = some .cell) : ∃ c, (cellsFrom n sc.names []).lookup x = some c := by
  have q := PySem.W.cellsFrom_some sc.names n [] (.inl h)
  exact Option.isSome_iff_exists.mp q
theorem inv_start {CX : CXT} {P : Program} {w : World} {K : PySem.W.Frag} {mg : Str → Option Value} {base : Heap} {N ps : List Str} {qual : Str} {scope : Scope} {f : Addr} {cd : Value} {A : Around} {outer : List Env} {s s1 : Shared} {H : Hp} {E : XK} {us : List Value} {vs : List V}
    (S : FnScope N ps scope) (hd : A.handled = none) (e0 : Env0 P w K mg base A outer s H) (hl : vs.length = ps.length) (r : Vals vs us)
    (x : InCallC s s.heap.objs.size (bindL (envOfC qual scope s.heap.objs.size f cd).kindOf (ps.zip us) fun _ => none) (cellsFrom (s.heap.objs.size + 1) scope.names []) (bindC (envOfC qual scope s.heap.objs.size f cd).kindOf (ps.zip us) fun _ => none) s1) :
    Inv (cxOf CX P w K mg base N qual scope f cd A outer s H E) [] (start N vs) H s1 := by
  have hpl : ps.length ≤ N.length := by have := congrArg List.length S.pre; rw [List.length_take] at this; omega
  obtain ⟨h1, tk, rfl, hk⟩ := x.done
  have noA : ∀ b : Addr, b ∉ (cxOf CX P w K mg base N qual scope f cd A outer s H E).ex := fun b z => absurd (show b ∈ ([] : List Addr) from z) (by simp)
  refine ⟨⟨e0.mod, S.kind, rfl, rfl, Nat.le_refl _, fun y z c h1 h2 => ?_, fun y hy => ?_, fun y c _ h => ?_, fun _ => hd, Around.frames_deeper e0.frames, .inr ⟨rfl, rfl⟩, fun b z => absurd z (noA b), e0.bs, e0.bsz, fun b _ _ => noA b, fun b z => absurd z (noA b), e0.funs, e0.frf⟩,
    rfl, e0.bare, Un.kept hk, ⟨_, x.toInCall.ns, fun i y v h1 h2 h3 => ?_⟩, fun y c h => ⟨_, x.cell y c h⟩, e0.hok.fresh (Nat.le_refl _), fun y c h => ?_, fun p hp => absurd (show p ∈ ([] : List (Addr × Obj)) from hp) (by simp), e0.hok.kept hk, ?_⟩
  · exact name_of_addr x.apart (PySem.mem_of_lookup h1) (PySem.mem_of_lookup h2)
  · have hy : scope.names.lookup y = some .cell ∨ scope.names.lookup y = some .free := hy
    rcases hy with hy | hy
    · exact cell_has hy
    · exact absurd rfl (S.nofree _ (PySem.mem_of_lookup hy))
  · exact Nat.le_of_lt (x.above y c (PySem.mem_of_lookup h))
  · have hi : i < vs.length := by
      unfold start at h2
      by_cases hi : i < vs.length
      · exact hi
      · rw [List.getElem?_append_right (by simpa using hi)] at h2
        rw [List.getElem?_replicate] at h2
        split at h2 <;> cases h2
    have ha : vs[i]? = some v := by
      unfold start at h2
      rw [List.getElem?_append_left (by simpa using hi), List.getElem?_map] at h2
      cases e : vs[i]? with
      | none => rw [e] at h2; cases h2
      | some a => rw [e] at h2; cases h2; rfl
    obtain ⟨u, hu, rv⟩ := r.get ha
    have hp : ps[i]? = some y := by
      rw [← S.pre, List.getElem?_take_of_lt (by omega)]; exact h1
    have ndP : ps.Nodup := by rw [← S.pre]; exact S.nd.sublist (List.take_sublist _ _)
    refine ⟨u, rv, ?_⟩
    rcases S.par y (List.mem_of_getElem? hp) with k | k
    · exact .inl ⟨k, bindL_get ndP hp hu k⟩
    · obtain ⟨c, e⟩ := cell_has (n := s.heap.objs.size + 1) k
      refine .inr ⟨.inl k, c, e, ?_⟩
      have q := x.cell y c e
      rw [bindC_get ndP hp hu (by show scope.names.lookup y ≠ _; rw [k]; decide)] at q
      exact q
  · exact e0.hok.fresh (Nat.le_of_lt (x.above y c (PySem.mem_of_lookup h)))
  · unfold start
    show _ = N.length
    rw [List.length_append, List.length_map, List.length_replicate]
    omega
theorem fn_of {CX : CXT} {P : Program} {w : World} {K : PySem.W.Frag} {mg : Str → Option Value} {base : Heap} {k : Nat} {f : Addr} {name qual : Str} {params : Arguments} {body : List Stmt} {scope : Scope} {dV kV doc pm cdv ct oc : Value} {an od : Option Addr}
    {osl : Array (Option Value)} {N ps : List Str} {sp : Sp} (lk : K.lookup f = some ⟨oc, od, .func (PySem.W.fnOf name qual params body scope dV kV doc pm an cdv ct), osl⟩) (hcd : PySem.W.codeIn K cdv qual = true) (S : FnScope N ps scope)
    (len : ∀ vs H Q E, sp vs H Q E → vs.length = ps.length)
    (hbody : ∀ (A : Around) (outer : List Env) (s : Shared) (H : Hp) (vs : List V) (Q : VK) (E : XK), Room k (A.deeper (envOfC qual scope s.heap.objs.size f cdv)) → sp vs H Q E →
      ∃ t, PSs (cxOf CX P w K mg base N qual scope f cdv A outer s H E) body t ∧ t { nx := fun _ H' => Q .non H', rt := Q } (start N vs) H) :
    FnOk P w K mg base CX (k + 1) f (PySem.W.fnOf name qual params body scope dV kV doc pm an cdv ct) ps sp := by
  refine ⟨len, fun A outer s H args us vs Q E hr e0 hb r hsp => ?_⟩
  have hl := len _ _ _ _ hsp
  have KX : K.In s.heap := e0.mod.kin.keeps fun b o e => (e0.bs b o e).1
  have lim : s.heap.NoLimit := e0.mod.nolimit.keeps fun b o e => (e0.bs b o e).1
  have hkind : ∀ y ∈ ps.zip us, scope.names.lookup y.1 = some .local ∨ (scope.names.lookup y.1 = some .cell ∧ ((cellsFrom (s.heap.objs.size + 1) scope.names []).lookup y.1).isSome = true) := fun ⟨n, v⟩ hy => by
    rcases S.par n (List.of_mem_zip hy).1 with q | q
    · exact .inl q
    · exact .inr ⟨q, PySem.W.cellsFrom_some _ _ _ (.inl q)⟩
  refine codeAny_call_function hr.depth (KX _ _ lk) rfl S.co S.gen rfl (PySem.W.codeRec_of KX hcd) (hb _ _ _ _ ?_)
  refine wpAny_newFunctionEnv_cells S.kind hkind fun env he s1 x => ?_
  subst he
  refine ⟨lim.keeps x.toInCall.keep, codeAny_func ?_⟩
  obtain ⟨t, ht, hq⟩ := hbody A outer s H vs Q E (hr.deeper _) hsp
  have I : Inv (cxOf CX P w K mg base N qual scope f cdv A outer s H E) [] (start N vs) H s1 := inv_start S hr.hd e0 hl r x
  refine wpAny_mono (ht [] s1 (start N vs) H _ I hq) (fun fl s' hs => ?_) fun e s' hs => hs
  have fin : ∀ {σ' : St} {H' : Hp} {v : V} {u : Value}, Inv (cxOf CX P w K mg base N qual scope f cdv A outer s H E) [] σ' H' s' → RelV v u → Q v H' → CE outer P w H s Q u s' :=
    fun {σ' H' v u} J rv q => ⟨v, H', J.os, J.bare, J.base, J.hok, rv, q⟩
  cases fl with
  | ret u =>
    obtain ⟨v, σ', H', J, rv, q⟩ := hs
    exact fin J rv q
  | next =>
    obtain ⟨σ', H', J, q⟩ := hs
    exact fin (v := V.non) (u := Value.none) J rfl q
  | brk =>
    obtain ⟨_, _, _, q⟩ := hs
    exact False.elim q
  | cont =>
    obtain ⟨_, _, _, q⟩ := hs
    exact False.elim q
end L2
namespace L2
open PySem PySem.Spec PyProof.Rows
section
variable {X : Cx} {x : Str} {p pos : Pos} {e : Expr} {es : List Expr} {t : TA} {id T : String} {r : List V → Hp → VK → Prop}
def tCB (r : List V → Hp → VK → Prop) (t : TA) : TE := fun σ H Q => t σ H fun vs H1 => r vs H1 Q
theorem pe_callB (hc : CallR X (.builtin id) r) (hg : Gl X x) (hm : X.mg x = none) (hv : bootBuiltins x = some (.builtin id)) (ha : PA X (e :: es) t) (hn : x ≠ "__name__" := by decide) (hdb : (x == ("__debug__" : Str)) = false := by decide)
    (he : starEach (e :: es) X.env = (false, eval e X.env) :: starEach es X.env := by rfl) (hpl : (backTo pos (starEach es X.env)).any (·.1) = false := by rfl) : PE X (.Call (.Name x p) (e :: es) [] pos) (tCB r t) := by
  intro pins s σ H Q I h
  refine wpAny_Call_Name_kw (ld_blt I hg hm hv ?_ hn hdb)
  exact PyProof.Rows.callWith_builtin1 (thn (ha pos pins s σ H _ I h) fun us s1 ⟨vs, H1, I1, r1, q1⟩ => hc pins s1 σ H1 vs us Q I1 r1 q1) he hpl
theorem pe_callTy (hc : CallR X (.type T) r) (hg : Gl X x) (hm : X.mg x = none) (hv : bootBuiltins x = some (.type T)) (ha : PA X (e :: es) t) (hn : x ≠ "__name__" := by decide) (hdb : (x == ("__debug__" : Str)) = false := by decide)
    (he : starEach (e :: es) X.env = (false, eval e X.env) :: starEach es X.env := by rfl) (hpl : (backTo pos (starEach es X.env)).any (·.1) = false := by rfl) : PE X (.Call (.Name x p) (e :: es) [] pos) (tCB r t) := by
  intro pins s σ H Q I h
  refine wpAny_Call_Name_kw (ld_blt I hg hm hv ?_ hn hdb)
  exact PyProof.Rows.callWith_type1 (thn (ha pos pins s σ H _ I h) fun us s1 ⟨vs, H1, I1, r1, q1⟩ => hc pins s1 σ H1 vs us Q I1 r1 q1) he hpl
end
end L2
namespace HT
open PySem PyProof.Rows
section
open PySem.SeqAt
open PySem.AutoSeq1 (wpAny_loadPart')
open PySem.MeetsSeq PySem.MeetsSeq2 PySem.MeetsSeq3
end
section
variable {prog : Program} {w : World} {A : Around} {E : Value → Shared → Prop} {s : Shared}
def sIx (n d : Nat) : Option Int → Nat
  | none => d
  | some v => if v < 0 then (v + (n : Int)).toNat else min v.toNat n
theorem sIx_none (n d : Nat) : sIx n d none = d := rfl
theorem sIx_nat (n d k : Nat) : sIx n d (some (k : Int)) = min k n := by
  show (if (k : Int) < 0 then ((k : Int) + (n : Int)).toNat else min (k : Int).toNat n) = min k n
  rw [if_neg (by omega), Int.toNat_natCast]
end
end HT
namespace L2
open PySem PySem.Spec PyProof.Rows
abbrev TO := St → Hp → (Option Int → Hp → Prop) → Prop
def PO (X : Cx) (e : Option Expr) (t : TO) : Prop :=
  ∀ (pins : List (Addr × Obj)) (s : Shared) (σ : St) (H : Hp) (Q : Option Int → Hp → Prop), Inv X pins σ H s → t σ H Q →
    wpAny (model X.prog X.w) X.A (evalPart e X.env) (fun u s' => ∃ o H', Inv X pins σ H' s' ∧ IsPart u o ∧ Q o H') X.xe s
def tNoPart : TO := fun _ H Q => Q none H
def tPart (t : TE) : TO := fun σ H Q => t σ H fun x H1 => ∃ i, x = .int i ∧ Q (some i) H1
section
variable {X : Cx} {e : Expr} {te : TE} {lo hi : Option Expr} {tl th : TO} {pos p2 : Pos}
theorem po_none : PO X none tNoPart := by
  intro pins s σ H Q I h
  rw [evalPart_none]
  exact wpAny_pure ⟨none, H, I, .none, h⟩
theorem po_some (h : PE X e te) : PO X (some e) (tPart te) := by
  intro pins s σ H Q I hw
  rw [evalPart_some]
  refine thn (h pins s σ H _ I hw) fun u s1 ⟨x, H1, I1, r1, q1⟩ => ?_
  obtain ⟨i, rfl, q⟩ := q1
  obtain ⟨t, rfl⟩ := r1
  exact ⟨some i, H1, I1, .int i t, q⟩
def SlR (X : Cx) (r : V → Option Int → Option Int → Hp → VK → Prop) : Prop :=
  ∀ (pins : List (Addr × Obj)) (s : Shared) (σ : St) (H : Hp) (x : V) (v vl vu : Value) (lo hi : Option Int) (sl : Addr) (Q : VK), Inv X pins σ H s → RelV x v → s.heap.IsSliceOf sl vl vu .none → IsPart vl lo → IsPart vu hi → r x lo hi H Q →
    ∃ T id, typeLookup (.type T) "__getitem__" = pure (some (.builtin id)) ∧ s.TypeIs v T ∧ wpAny (model X.prog X.w) X.A (getItem v (.ref sl)) (EP X pins σ Q) X.xe s
def tSl (r : V → Option Int → Option Int → Hp → VK → Prop) (te : TE) (tl th : TO) : TE := fun σ H Q => te σ H fun x H1 => tl σ H1 fun l H2 => th σ H2 fun u H3 => r x l u H3 Q
theorem pe_slice {r : V → Option Int → Option Int → Hp → VK → Prop} (hr : SlR X r) (he : PE X e te) (hl : PO X lo tl) (hu : PO X hi th) : PE X (.Subscript e (.Slice lo hi none p2) pos) (tSl r te tl th) := by
  intro pins s σ H Q I h
  refine Subscript_ (thn (he pins s σ H _ I h) fun v s1 ⟨x, H1, I1, r1, q1⟩ => ?_)
  refine wpAny_Slice (thn (hl pins s1 σ H1 _ I1 q1) fun vl s2 ⟨l, H2, I2, pl, q2⟩ => thn (hu pins s2 σ H2 _ I2 q2) fun vu s3 ⟨u, H3, I3, pu, q3⟩ => ?_)
  rw [evalPart_none]
  refine wpAny_pure ?_
  have I4 : Inv X pins σ H3 { s3 with heap := s3.heap.push { cls := .type "slice", data := .fields #[vl, vu, .none] } } := I3.kept (t' := s3.toks) fun b ob q => Heap.get?_push_of_some _ q
  obtain ⟨T, id, hT, ht, hg⟩ := hr pins { s3 with heap := s3.heap.push { cls := .type "slice", data := .fields #[vl, vu, .none] } } σ H3 x v vl vu l u s3.heap.objs.size Q I4 r1 (Heap.IsSliceOf.new ..) pl pu q3
  show wpAny (model X.prog X.w) X.A (subscriptTail e (.Slice lo hi none p2) v (.ref s3.heap.objs.size)) (EP X pins σ Q) X.xe { s3 with heap := s3.heap.push { cls := .type "slice", data := .fields #[vl, vu, .none] } }
  exact tail_any (ops := [.ref s3.heap.objs.size, v]) ht hT hg (by with_unfolding_all rfl)
def cutV (xs : List V) (lo hi : Option Int) : List V := (xs.drop (HT.sIx xs.length 0 lo)).take (HT.sIx xs.length xs.length hi - HT.sIx xs.length 0 lo)
theorem cutV_length (xs : List V) (lo hi : Option Int) : (cutV xs lo hi).length ≤ xs.length := by
  unfold cutV
  rw [List.length_take, List.length_drop]
  omega
end
end L2
namespace L2
open PySem PySem.Spec PyProof.Rows
def ixN (n : Nat) (i : Int) : Option Nat := if 0 ≤ i then (if i < n then some i.toNat else none) else if -(n : Int) ≤ i then some (i + n).toNat else none
def atI {α : Type} (xs : List α) (i : Int) : Option α := (ixN xs.length i).bind fun j => xs[j]?
theorem ixN_seq {n : Nat} {i : Int} {j : Nat} (h : ixN n i = some j) : seqIndex? i n = some j ∧ j < n ∧ -(n : Int) ≤ i ∧ i < n := by
  unfold ixN at h
  by_cases h0 : 0 ≤ i
  · rw [if_pos h0] at h
    by_cases h1 : i < n
    · rw [if_pos h1] at h
      have e : i.toNat = j := Option.some.inj h
      exact ⟨by rw [seqIndex_of h0 h1, e], by omega, by omega, h1⟩
    · rw [if_neg h1] at h; cases h
  · rw [if_neg h0] at h
    by_cases h1 : -(n : Int) ≤ i
    · rw [if_pos h1] at h
      have e : (i + n).toNat = j := Option.some.inj h
      exact ⟨by rw [seqIndex_neg (by omega) h1, e], by omega, h1, by omega⟩
    · rw [if_neg h1] at h; cases h
theorem atI_get {α : Type} {xs : List α} {i : Int} {v : α} (h : atI xs i = some v) : ∃ j, seqIndex? i xs.length = some j ∧ xs[j]? = some v ∧ j < xs.length ∧ -(xs.length : Int) ≤ i ∧ i < xs.length := by
  unfold atI at h
  cases e : ixN xs.length i with
  | none => rw [e] at h; cases h
  | some j =>
    rw [e] at h
    obtain ⟨h1, h2, h3, h4⟩ := ixN_seq e
    exact ⟨j, h1, h, h2, h3, h4⟩
theorem atI_nat {α : Type} {xs : List α} {j : Nat} {v : α} (h : xs[j]? = some v) : atI xs (j : Int) = some v := by
  have hj : j < xs.length := (List.getElem?_eq_some_iff.mp h).1
  have e : ixN xs.length (j : Int) = some j := by
    unfold ixN
    rw [if_pos (by omega), if_pos (by omega)]; simp
  unfold atI; rw [e]; exact h
def PlainIx (b : Expr) : Prop := ∀ o i, subscripted b false o i = operate [o, i] (getItem o i)
def IxR (X : Cx) (r : R2) : Prop :=
  ∀ (value slice : Expr) (pins : List (Addr × Obj)) (s : Shared) (σ : St) (H : Hp) (x y : V) (v u : Value) (Q : VK), Inv X pins σ H s → RelV x v → RelV y u → r x y H Q →
    subscripted slice false v u = operate [v, u] (getItem v u) → wpAny (model X.prog X.w) X.A (subscriptTail value slice v u) (EP X pins σ Q) X.xe s
def MtR (X : Cx) (id : String) (r : V → List V → Hp → VK → Prop) : Prop :=
  ∀ (pins : List (Addr × Obj)) (s : Shared) (σ : St) (H : Hp) (x : V) (xs : List V) (v : Value) (us : List Value) (Q : VK), Inv X pins σ H s → RelV x v → Vals xs us → r x xs H Q →
    wpAny (model X.prog X.w) X.A (call (.builtin id) (v :: us)) (EP X pins σ Q) X.xe s
section
variable {X : Cx} {a b : Expr} {ta tb : TE} {pos : Pos}
theorem pe_ix {r : R2} (hr : IxR X r) (ha : PE X a ta) (hb : PE X b tb) (hs : PlainIx b) : PE X (.Subscript a b pos) (tOp r ta tb) := by
  intro pins s σ H Q I h
  exact Subscript_ (binT ha hb I h fun v u s2 x y H2 I2 rx ry q => hr a b pins s2 σ H2 x y v u Q I2 rx ry q (hs _ _))
def rIxL (K : PySem.W.Frag) : R2 := fun x y H Q => ∃ p xs i v, x = .ref p ∧ y = .int i ∧ SqL K H p xs ∧ atI xs i = some v ∧ Q v H
def rIxT (K : PySem.W.Frag) : R2 := fun x y H Q => ∃ p xs i v, x = .ref p ∧ y = .int i ∧ SqT K H p xs ∧ atI xs i = some v ∧ Q v H
theorem ix_list : IxR X (rIxL X.K) := by
  intro value slice pins s σ H x y v u Q I rx ry h hs
  obtain ⟨p, xs, i, z, rfl, rfl, hq, he, q⟩ := h
  cases rx
  obtain ⟨t, rfl⟩ := ry
  obtain ⟨its, r, pl, hz⟩ := I.list hq
  obtain ⟨j, h1, h2, h3, h4, h5⟩ := atI_get he
  obtain ⟨w, ew, rw'⟩ := r.get h2
  have hl := r.length
  have hn := line63
  have fin : EP X pins σ Q w s := ⟨z, H, I, rw', q⟩
  by_cases h0 : 0 ≤ i
  · have hj : i.toNat = j := by
      rw [seqIndex_of h0 h5] at h1
      exact Option.some.inj h1
    exact item_listR pl.isList h0 (by omega) (by rw [hj]; simpa using ew) fin hs
  · have hj : (i + (its.toArray.size : Int)).toNat = j := by
      rw [seqIndex_neg (by omega) h4] at h1
      rw [List.size_toArray, ← hl]
      exact Option.some.inj h1
    exact subscriptTail_builtinR (x := w) pl.isList.typeIs slot_list_getitem.lookup
      (wpAny_getItem_list_neg (Q := fun r s' => r = w ∧ EP X pins σ Q r s') pl.isList (by omega) (by rw [List.size_toArray] <;> omega) (by omega) (by rw [hj]; simpa using ew) ⟨rfl, fin⟩) hs
theorem ix_tup : IxR X (rIxT X.K) := by
  intro value slice pins s σ H x y v u Q I rx ry h hs
  obtain ⟨p, xs, i, z, rfl, rfl, hq, he, q⟩ := h
  cases rx
  obtain ⟨t, rfl⟩ := ry
  obtain ⟨its, r, pl, hz⟩ := I.tuple hq
  obtain ⟨j, h1, h2, h3, h4, h5⟩ := atI_get he
  obtain ⟨w, ew, rw'⟩ := r.get h2
  have hl := r.length
  have hn := line63
  have fin : EP X pins σ Q w s := ⟨z, H, I, rw', q⟩
  exact subscriptTail_builtinR (x := w) pl.typeIs slot_tuple_getitem.lookup
    (getItem_tuple (j := j) (Q := fun r s' => r = w ∧ EP X pins σ Q r s') pl (by omega) (by omega) (by rw [List.size_toArray, ← hl]; exact h1) (by simpa using ew) ⟨rfl, fin⟩) hs
theorem mapSeq_set (its : List Value) (n j : Nat) (u : Value) : Obj.mapSeq (·.setIfInBounds j u) { cls := .type "list", data := .seq its.toArray n } = { cls := .type "list", data := .seq (its.set j u).toArray n } := by
  simp [Obj.mapSeq]
theorem Inv.lst {pins : List (Addr × Obj)} {σ : St} {H : Hp} {s : Shared} {p : Addr} {xs : List V} (I : Inv X pins σ H s) (h : H p = some (.lst xs)) :
    ∃ (its : List Value) (n : Nat), Vals xs its ∧ s.heap.get? p = some { cls := .type "list", data := .seq its.toArray n } ∧ xs.length ≤ sizeLine := by
  obtain ⟨z, its, n, r, e⟩ := I.hok p _ h
  exact ⟨its, n, r, e, z⟩
theorem Inv.lstUpd {pins : List (Addr × Obj)} {σ : St} {H : Hp} {s : Shared} {p : Addr} {xs ys : List V} {its its' : List Value} {n n' : Nat} {f : Obj → Obj} (I : Inv X pins σ H s) (h : H p = some (.lst xs))
    (ho : s.heap.get? p = some { cls := .type "list", data := .seq its.toArray n }) (hf : f { cls := .type "list", data := .seq its.toArray n } = { cls := .type "list", data := .seq its'.toArray n' }) (r : Vals ys its') (hz : ys.length ≤ sizeLine) (t : Nat) :
    Inv X pins σ (upd H p (.lst ys)) { s with heap := s.heap.update p f, toks := t } := by
  have e : (s.heap.update p f).get? p = some { cls := .type "list", data := .seq its'.toArray n' } := by
    rw [Heap.get?_update_self f ho (by rw [hf] <;> rfl), hf]
  refine I.write (x := p) (e := p) (by rw [h]; trivial) (.inl rfl) (fun b u hb q => (Heap.get?_update_other _ _ (Ne.symm hb)).trans q) ⟨_, e⟩ ?_
  exact ⟨hz, its', n', r, e⟩
def rSetL : V → V → V → Hp → (Hp → Prop) → Prop := fun o i v H Q => ∃ p xs k j, o = .ref p ∧ i = .int k ∧ H p = some (.lst xs) ∧ ixN xs.length k = some j ∧ Q (upd H p (.lst (xs.set j v)))
theorem set_list : PSet X rSetL := by
  intro pins s σ H o i v ov iv u Q I ro ri rv h
  obtain ⟨p, xs, k, j, rfl, rfl, hp, hj, q⟩ := h
  cases ro
  obtain ⟨t, rfl⟩ := ri
  obtain ⟨its, n, r, ho, hz⟩ := I.lst hp
  obtain ⟨h1, h2, h3, h4⟩ := ixN_seq hj
  have hl := r.length
  have hn := line63
  have I' : Inv X pins σ (upd H p (.lst (xs.set j v))) { s with heap := s.heap.update p (Obj.mapSeq (·.setIfInBounds j u)) } :=
    I.lstUpd hp ho (mapSeq_set its n j u) (r.set rv j) (by rw [List.length_set]; exact hz) s.toks
  by_cases h0 : 0 ≤ k
  · have hk : k.toNat = j := by
      rw [seqIndex_of h0 h4] at h1
      exact Option.some.inj h1
    exact PySem.W.ki_setAt ho h0 (by omega) (by rw [List.size_toArray, ← hl]; exact h4) (by rw [hk]; exact ⟨_, I', q⟩)
  · have hk : (k + (its.toArray.size : Int)).toNat = j := by
      rw [seqIndex_neg (by omega) h3] at h1
      rw [List.size_toArray, ← hl]
      exact Option.some.inj h1
    exact PySem.W.ki_setBack ho (by omega) (by rw [List.size_toArray, ← hl]; exact h3) (by omega) (by rw [hk]; exact ⟨_, I', q⟩)
theorem slice_bounds (lo hi : Option Int) (n : Nat) : (sliceBounds lo hi none n).1 = ((HT.sIx n 0 lo : Nat) : Int) ∧ (sliceBounds lo hi none n).2.1 = ((HT.sIx n n hi : Nat) : Int) ∧ (sliceBounds lo hi none n).2.2 = 1 := by
  refine ⟨?_, ?_, rfl⟩
  · cases lo with
    | none => simp [sliceBounds, HT.sIx]
    | some i =>
      simp only [sliceBounds, HT.sIx, Option.getD_none, show (1 : Int) > 0 by decide, if_true]
      by_cases h : i < 0
      · simp only [h, if_true] <;> omega
      · simp only [h, if_false] <;> omega
  · cases hi with
    | none => simp [sliceBounds, HT.sIx]
    | some i =>
      simp only [sliceBounds, HT.sIx, Option.getD_none, show (1 : Int) > 0 by decide, if_true]
      by_cases h : i < 0
      · simp only [h, if_true] <;> omega
      · simp only [h, if_false] <;> omega
theorem slicePick_cut (its : List Value) (lo hi : Option Int) : slicePick its.toArray lo hi none = ((its.drop (HT.sIx its.length 0 lo)).take (HT.sIx its.length its.length hi - HT.sIx its.length 0 lo)).toArray := by
  obtain ⟨h1, h2, h3⟩ := slice_bounds lo hi its.toArray.size
  unfold slicePick
  rw [h1, h2, h3]
  simp only [sliceRange_one, pick_run, List.size_toArray] <;> rfl
def rSlL (K : PySem.W.Frag) : V → Option Int → Option Int → Hp → VK → Prop := fun x lo hi H Q => ∃ a xs, x = .ref a ∧ SqL K H a xs ∧ ∀ p, H p = none → Q (.ref p) (upd H p (.lst (cutV xs lo hi)))
theorem sl_list : SlR X (rSlL X.K) := by
  intro pins s σ H x v vl vu lo hi sl Q I rx hs pl pu h
  obtain ⟨a, xs, rfl, hx, q⟩ := h
  cases rx
  obtain ⟨its, r, ht, hz⟩ := I.list hx
  have hlen := r.length
  refine ⟨"list", _, slot_list_getitem.lookup, ht.isList.typeIs, ?_⟩
  refine wpAny_getItem_list_slice ht.isList hs pl pu .none (by simp) ?_ (by rw [List.size_toArray] <;> omega)
  rw [slicePick_cut, ← hlen]
  refine ⟨.ref s.heap.objs.size, _, I.laid (t' := s.toks) (o := .lst (cutV xs lo hi)) (fun b ob q => Heap.get?_push_of_some _ q) (Nat.le_refl _) ?_, rfl, q _ (I.hok.fresh (Nat.le_refl _))⟩
  exact ⟨Nat.le_trans (cutV_length xs lo hi) hz, _, 0, (r.drop (HT.sIx xs.length 0 lo)).take (HT.sIx xs.length xs.length hi - HT.sIx xs.length 0 lo), Heap.get?_push_size _ rfl⟩
def flatV : V → Bool
  | .non => true
  | .bl _ => true
  | .int _ => true
  | .str _ => true
  | _ => false
def eqV : V → V → Bool
  | .non, .non => true
  | .bl a, .bl b => a == b
  | .bl a, .int b => (if a then 1 else 0) == b
  | .int a, .bl b => a == (if b then 1 else 0)
  | .int a, .int b => a == b
  | .str a, .str b => a == b
  | _, _ => false
theorem eqAt_V {A : Around} {s : Shared} {y x : V} {u v : Value} (ry : RelV y u) (rx : RelV x v) (fy : flatV y = true) (fx : flatV x = true) : SeqAt.EqAt A s u v (eqV y x) := by
  cases y with
  | non =>
    cases ry
    cases x with
    | non => cases rx; exact SeqAt.EqAt.same _
    | bl b => cases rx; exact SeqAt.EqAt.none_bool b
    | int b => obtain ⟨t, rfl⟩ := rx; exact SeqAt.EqAt.none_int b t
    | str b => obtain ⟨t, rfl⟩ := rx; exact SeqAt.EqAt.none_str b t
    | _ => exact absurd (show false = true from fx) Bool.false_ne_true
  | bl a =>
    cases ry
    cases x with
    | non => cases rx; exact SeqAt.EqAt.bool_none a
    | bl b => cases rx; exact SeqAt.EqAt.bool_bool a b
    | int b => obtain ⟨t, rfl⟩ := rx; exact SeqAt.EqAt.bool_int a b t
    | str b => obtain ⟨t, rfl⟩ := rx; exact SeqAt.EqAt.bool_str a b t
    | _ => exact absurd (show false = true from fx) Bool.false_ne_true
  | int a =>
    obtain ⟨t', rfl⟩ := ry
    cases x with
    | non => cases rx; exact SeqAt.EqAt.int_none a t'
    | bl b => cases rx; exact SeqAt.EqAt.int_bool a t' b
    | int b => obtain ⟨t, rfl⟩ := rx; exact SeqAt.EqAt.int_int a t' b t
    | str b => obtain ⟨t, rfl⟩ := rx; exact SeqAt.EqAt.int_str a t' b t
    | _ => exact absurd (show false = true from fx) Bool.false_ne_true
  | str a =>
    obtain ⟨t', rfl⟩ := ry
    cases x with
    | non => cases rx; exact SeqAt.EqAt.str_none a t'
    | bl b => cases rx; exact SeqAt.EqAt.str_bool a t' b
    | int b => obtain ⟨t, rfl⟩ := rx; exact SeqAt.EqAt.str_int a t' b t
    | str b => obtain ⟨t, rfl⟩ := rx; exact SeqAt.EqAt.str_str a t' b t
    | _ => exact absurd (show false = true from fx) Bool.false_ne_true
  | _ => exact absurd (show false = true from fy) Bool.false_ne_true
def eqU (x : V) (u : Value) : Bool := match u with
  | .none => eqV .non x
  | .bool b => eqV (.bl b) x
  | .int i _ => eqV (.int i) x
  | .str z _ => eqV (.str z) x
  | _ => false
theorem eqU_of {x y : V} {u : Value} (r : RelV y u) (f : flatV y = true) : eqU x u = eqV y x := by
  cases y with
  | non => cases r; rfl
  | bl b => cases r; rfl
  | int i => obtain ⟨t, rfl⟩ := r; rfl
  | str z => obtain ⟨t, rfl⟩ := r; rfl
  | _ => exact absurd (show false = true from f) Bool.false_ne_true
theorem any_eqU {x : V} : ∀ {xs : List V} {us : List Value}, Vals xs us → xs.all flatV = true → us.any (eqU x) = xs.any fun y => eqV y x
  | _, _, .nil, _ => rfl
  | y :: xs, u :: us, .cons r t, f => by
    rw [List.all_cons, Bool.and_eq_true] at f
    rw [List.any_cons, List.any_cons, eqU_of r f.1, any_eqU t f.2]
theorem mem_eqAt {A : Around} {s : Shared} {x : V} {v : Value} (rx : RelV x v) (fx : flatV x = true) : ∀ {xs : List V} {us : List Value}, Vals xs us → xs.all flatV = true → ∀ u ∈ us, SeqAt.EqAt A s u v (eqU x u)
  | _, _, .nil, _ => fun u hu => by cases hu
  | y :: xs, u :: us, .cons r t, f => fun u' hu => by
    rw [List.all_cons, Bool.and_eq_true] at f
    rcases List.mem_cons.mp hu with rfl | hu
    · rw [eqU_of r f.1]; exact eqAt_V r rx f.1 fx
    · exact mem_eqAt rx fx t f.2 u' hu
def inV (x : V) (xs : List V) : Bool := xs.any fun y => eqV y x
def rIn (K : PySem.W.Frag) (neg : Bool) : R2 := fun x y H Q => ∃ p xs, y = .ref p ∧ (SqL K H p xs ∨ SqT K H p xs) ∧ flatV x = true ∧ xs.all flatV = true ∧ Q (.bl (if neg then !inV x xs else inV x xs)) H
theorem op_in_seq : OpR X (compareOp .In) (rIn X.K false) := by
  intro pins s σ H x y v u Q I rx ry h
  obtain ⟨p, xs, rfl, hq, fx, fs, q⟩ := h
  cases ry
  rcases hq with hq | hq
  · obtain ⟨its, r, pl, hz⟩ := I.list hq
    refine SeqAt.in_listAt (eqU x) pl.isList (fun w hw => mem_eqAt rx fx r fs w (by simpa using hw)) ⟨.bl _, H, I, rfl, ?_⟩
    rw [show its.toArray.any (eqU x) = its.any (eqU x) by simp, any_eqU r fs]
    exact q
  · obtain ⟨its, r, pl, hz⟩ := I.tuple hq
    refine SeqAt.in_tupleAt (eqU x) pl (fun w hw => mem_eqAt rx fx r fs w (by simpa using hw)) ⟨.bl _, H, I, rfl, ?_⟩
    rw [show its.toArray.any (eqU x) = its.any (eqU x) by simp, any_eqU r fs]
    exact q
theorem op_notIn_seq : OpR X (compareOp .NotIn) (rIn X.K true) := by
  intro pins s σ H x y v u Q I rx ry h
  obtain ⟨p, xs, rfl, hq, fx, fs, q⟩ := h
  cases ry
  rcases hq with hq | hq
  · obtain ⟨its, r, pl, hz⟩ := I.list hq
    refine SeqAt.notIn_listAt (eqU x) pl.isList (fun w hw => mem_eqAt rx fx r fs w (by simpa using hw)) ⟨.bl _, H, I, rfl, ?_⟩
    rw [show its.toArray.any (eqU x) = its.any (eqU x) by simp, any_eqU r fs]
    exact q
  · obtain ⟨its, r, pl, hz⟩ := I.tuple hq
    refine SeqAt.notIn_tupleAt (eqU x) pl (fun w hw => mem_eqAt rx fx r fs w (by simpa using hw)) ⟨.bl _, H, I, rfl, ?_⟩
    rw [show its.toArray.any (eqU x) = its.any (eqU x) by simp, any_eqU r fs]
    exact q
theorem call_len_seq : CallR X (.builtin "len") (fun xs H Q => ∃ p ys, xs = [.ref p] ∧ (SqL X.K H p ys ∨ SqT X.K H p ys) ∧ Q (.int ys.length) H) := by
  intro pins s σ H xs us Q I r h
  obtain ⟨p, ys, rfl, hq, q⟩ := h
  obtain ⟨u, rfl, rx⟩ := vals1 r
  cases rx
  have hn := line63
  rcases hq with hq | hq
  · obtain ⟨its, r', pl, hz⟩ := I.list hq
    have hlen := r'.length
    exact Calls.call_len_list pl.isList (by simp only [List.size_toArray] <;> omega) ⟨.int ys.length, H, I.tok _, ⟨s.toks + 1, by rw [List.size_toArray, hlen]⟩, q⟩
  · obtain ⟨its, r', pl, hz⟩ := I.tuple hq
    have hlen := r'.length
    exact len_tuple pl (by simp only [List.size_toArray] <;> omega) ⟨.int ys.length, H, I.tok _, ⟨s.toks + 1, by rw [List.size_toArray, hlen]⟩, q⟩
theorem call_list_of : CallR X (.type "list") (fun xs H Q => ∃ p ys, xs = [.ref p] ∧ (SqL X.K H p ys ∨ SqT X.K H p ys) ∧ ∀ l, H l = none → Q (.ref l) (upd H l (.lst ys))) := by
  intro pins s σ H xs us Q I r h
  obtain ⟨p, ys, rfl, hq, q⟩ := h
  obtain ⟨u, rfl, rx⟩ := vals1 r
  cases rx
  have fin : ∀ (its : List Value), Vals ys its → ys.length ≤ sizeLine → ∀ (h' : Heap) (c' : Nat), (∀ b o', s.heap.get? b = some o' → h'.get? b = some o') →
      h'.get? s.heap.objs.size = some { cls := .type "list", dict := none, data := .seq its.toArray c', slots := #[] } → EP X pins σ Q (.ref s.heap.objs.size) { s with heap := h' } := fun its r' hz h' c' kp e =>
    ⟨.ref s.heap.objs.size, _, I.laid (t' := s.toks) kp (Nat.le_refl _) (show ObjOk X.prog X.w _ h' _ (.lst ys) from ⟨hz, its, c', r', e⟩), rfl, q _ (I.hok.fresh (Nat.le_refl _))⟩
  rcases hq with hq | hq
  · obtain ⟨its, r', pl, hz⟩ := I.list hq
    have hlen := r'.length
    obtain ⟨o, ho, hc, n, hd⟩ := pl.isList
    exact call_list_seq p (.inl rfl) ho hc hd (fun h' c' kp e => fin its r' hz h' c' kp e) (by simp only [List.size_toArray] <;> omega)
  · obtain ⟨its, r', pl, hz⟩ := I.tuple hq
    have hlen := r'.length
    obtain ⟨o, ho, hc, n, hd⟩ := pl
    exact call_list_seq p (.inr rfl) ho hc hd (fun h' c' kp e => fin its r' hz h' c' kp e) (by simp only [List.size_toArray] <;> omega)
def tyV (K : PySem.W.Frag) (T : String) (x : V) (H : Hp) : Prop := match x with
  | .str _ => T = "str"
  | .int _ => T = "int"
  | .ref p => (T = "list" ∧ ∃ xs, SqL K H p xs) ∨ (T = "tuple" ∧ ∃ o, K.lookup p = some o ∧ o.cls = .type "tuple" ∧ o.dict = none) ∨
      (T = "dict" ∧ ((∃ kvs, H p = some (.dK kvs)) ∨ ∃ kvs, H p = some (.dT kvs))) ∨ (T = "set" ∧ ∃ S n, H p = some (.set S n))
  | _ => False
theorem tyV_is {pins : List (Addr × Obj)} {σ : St} {H : Hp} {s : Shared} {T : String} {x : V} {v : Value} (I : Inv X pins σ H s) (r : RelV x v) (ty : tyV X.K T x H) :
    s.TypeIs v T ∧ ∀ a, v = .ref a → ∃ ob, s.heap.get? a = some ob ∧ ob.dict = none := by
  cases x with
  | str z =>
    obtain ⟨t, rfl⟩ := r
    cases (show T = "str" from ty)
    exact ⟨typeIs_str s z t, fun _ e => nomatch e⟩
  | int i =>
    obtain ⟨t, rfl⟩ := r
    cases (show T = "int" from ty)
    exact ⟨typeIs_int s i t, fun _ e => nomatch e⟩
  | ref p =>
    cases r
    rcases ty with ⟨rfl, xs, hq⟩ | ⟨rfl, o, hk, hc, hd⟩ | ⟨rfl, hk⟩ | ⟨rfl, S, n, hk⟩
    · obtain ⟨its, _, pl, _⟩ := I.list hq
      refine ⟨pl.isList.typeIs, fun a e => ?_⟩
      cases e
      obtain ⟨o, n, e, c, hd, _⟩ := pl
      exact ⟨o, e, hd⟩
    · refine ⟨⟨o, I.kIn p o hk, hc⟩, fun a e => ?_⟩
      cases e
      exact ⟨o, I.kIn _ o hk, hd⟩
    · have z : ∃ o, s.heap.get? p = some o ∧ o.ExactDict := by
        rcases hk with ⟨kvs, hk⟩ | ⟨kvs, hk⟩
        · obtain ⟨_, _, _, _, o, _, _, e, ex, _⟩ := I.hok p _ hk
          exact ⟨o, e, ex⟩
        · obtain ⟨_, _, _, _, o, _, _, e, ex, _⟩ := I.hok p _ hk
          exact ⟨o, e, ex⟩
      obtain ⟨o, e, ex⟩ := z
      refine ⟨⟨o, e, ex.1⟩, fun a e2 => ?_⟩
      cases e2
      exact ⟨o, e, ex.2.1⟩
    · obtain ⟨o, _, _, _, e, ex, _⟩ := I.hok p _ hk
      refine ⟨⟨o, e, ex.1⟩, fun a e2 => ?_⟩
      cases e2
      exact ⟨o, e, ex.2.1⟩
  | _ => exact False.elim ty
def tBM0 (K : PySem.W.Frag) (T : String) (r : V → List V → Hp → VK → Prop) (to : TE) : TE := fun σ H Q => to σ H fun x H1 => tyV K T x H1 ∧ r x [] H1 Q
def tBM (K : PySem.W.Frag) (T : String) (r : V → List V → Hp → VK → Prop) (to : TE) (t : TA) : TE := fun σ H Q => to σ H fun x H1 => tyV K T x H1 ∧ t σ H1 fun xs H2 => r x xs H2 Q
variable {o e : Expr} {es : List Expr} {to : TE} {t : TA} {name : Str} {apos cpos : Pos} {T id : String} {r : V → List V → Hp → VK → Prop}
theorem pe_bm0 (pa : PlainAttrs T) (slot : Slot T name id) (hty : typeOf (.builtin id) = pure (.type "method_descriptor")) (hm : MtR X id r) (ho : PE X o to)
    (hbase : attributeBase o name X.env (eval o X.env) = eval o X.env := by rfl) (hline : (apos.endLine == cpos.line) = true := by rfl) : PE X (.Call (.Attribute o name apos) [] [] cpos) (tBM0 X.K T r to) := by
  intro pins s σ H Q I h
  refine wpAny_Call_method0_late hbase hline (thn (ho pins s σ H _ I h) fun v s1 ⟨x, H1, I1, r1, ty, q1⟩ => ?_)
  obtain ⟨h1, h2⟩ := tyV_is I1 r1 ty
  exact ⟨T, id, pa, slot, hty, h1, h2, Calls.callWith_builtin rfl (PySem.evalArgs_none (hm pins s1 σ H1 x [] v [] Q I1 r1 .nil q1))⟩
theorem pe_bm (pa : PlainAttrs T) (slot : Slot T name id) (hty : typeOf (.builtin id) = pure (.type "method_descriptor")) (hm : MtR X id r) (ho : PE X o to) (ha : PA X (e :: es) t)
    (hbase : attributeBase o name X.env (eval o X.env) = eval o X.env := by rfl)
    (hfew : ((backTo cpos (starEach (e :: es) X.env)).all (fun x => !x.1) && (backToKw cpos (keywordEach [] X.env)).all (fun x => x.1.isSome)
      && decide ((e :: es).length + ([] : List Keyword).length + (if ([] : List Keyword).isEmpty then 0 else 1) < 30)) = true := by rfl)
    (hline : (apos.endLine == cpos.line) = true := by rfl) (hs : starEach (e :: es) X.env = (false, eval e X.env) :: starEach es X.env := by rfl) (hplain : (backTo cpos (starEach es X.env)).any (·.1) = false := by rfl) :
    PE X (.Call (.Attribute o name apos) (e :: es) [] cpos) (tBM X.K T r to t) := by
  intro pins s σ H Q I h
  refine wpAny_Call_method_late hbase hfew hline rfl (thn (ho pins s σ H _ I h) fun v s1 ⟨x, H1, I1, r1, ty, q1⟩ => ?_)
  obtain ⟨h1, h2⟩ := tyV_is I1 r1 ty
  refine ⟨T, id, pa, slot, hty, h1, h2, ?_⟩
  have hA := ha cpos pins s1 σ H1 _ I1 q1
  rw [hs] at hA ⊢
  refine Calls.callWith_builtin (by show (false || (backTo cpos (starEach es X.env)).any (·.1)) = false; rw [hplain] <;> rfl) (Calls.evalArgs_plain ?_)
  exact thn hA fun us s2 ⟨vs, H2, I2, r2, q2⟩ => hm pins s2 σ H2 x vs v us Q I2 r1 r2 q2
end
end L2
namespace L2
open PySem PySem.Spec PyProof.Rows
def MtM (X : Cx) (id : String) (r : V → List V → Hp → VK → Prop) : Prop :=
  ∀ (pins : List (Addr × Obj)) (s : Shared) (σ : St) (H : Hp) (x : V) (xs : List V) (v : Value) (us : List Value) (Q : VK), Inv X pins σ H s → RelV x v → Vals xs us → r x xs H Q →
    wpAny (model X.prog X.w) X.A (call (.builtin id) (v :: us)) (EP X pins σ Q) X.xe s
theorem Vals.one : ∀ {x : V} {us : List Value}, Vals [x] us → ∃ u, us = [u] ∧ RelV x u
  | _, _, .cons r .nil => ⟨_, rfl, r⟩
theorem Vals.zero : ∀ {us : List Value}, Vals [] us → us = []
  | _, .nil => rfl
theorem Vals.dropLast {xs : List V} {us : List Value} (h : Vals xs us) : Vals xs.dropLast us.dropLast := by
  induction h with
  | nil => exact .nil
  | cons r t ih =>
    cases t with
    | nil => exact .nil
    | cons q t' => exact .cons r ih
theorem Vals.eraseIdx : ∀ {xs : List V} {us : List Value} (i : Nat), Vals xs us → Vals (xs.eraseIdx i) (us.eraseIdx i)
  | _, _, _, .nil => .nil
  | _, _, 0, .cons _ t => t
  | _, _, i + 1, .cons r t => .cons r (Vals.eraseIdx i t)
theorem erase_last {α : Type} (l : List α) : l.eraseIdx (l.length - 1) = l.dropLast := by
  induction l with
  | nil => rfl
  | cons a r ih =>
    cases r with
    | nil => rfl
    | cons b r =>
      have e : (a :: b :: r).length - 1 = ((b :: r).length - 1) + 1 := by
        have h1 : (a :: b :: r).length = r.length + 2 := rfl
        have h2 : (b :: r).length = r.length + 1 := rfl
        omega
      rw [e, List.eraseIdx_cons_succ, ih]
      all_goals rfl
theorem len_erase {α : Type} : ∀ (l : List α) (i : Nat), (l.eraseIdx i).length ≤ l.length
  | [], _ => Nat.le_refl _
  | _ :: _, 0 => Nat.le_succ _
  | _ :: r, i + 1 => Nat.succ_le_succ (len_erase r i)
section
variable {X : Cx} {pins : List (Addr × Obj)} {σ : St} {H : Hp} {s : Shared} {l b : Addr} {xs ys zs : List V}
theorem Inv.lset {its its' : List Value} {n : Nat} {f : Array Value → Array Value} {t' : Nat} (I : Inv X pins σ H s) (hH : H l = some (.lst xs))
    (e : s.heap.get? l = some { cls := .type "list", data := .seq its.toArray n }) (hf : f its.toArray = its'.toArray) (hv : Vals ys its') (hz : ys.length ≤ sizeLine) :
    Inv X pins σ (upd H l (.lst ys)) { s with heap := s.heap.update l (Obj.mapSeq f), toks := t' } := by
  have q := PySem.IsL.update e f
  rw [hf] at q
  refine I.write (x := l) (e := l) (by rw [hH]; exact trivial) (.inl rfl) (fun b' u hb hu => (Heap.get?_update_other s.heap (Obj.mapSeq f) (Ne.symm hb)).trans hu) ⟨_, q⟩ ?_
  exact ⟨hz, its', _, hv, q⟩
theorem Inv.lnew {its : List Value} {t' : Nat} (I : Inv X pins σ H s) (hv : Vals ys its) (hz : ys.length ≤ sizeLine) :
    Inv X pins σ (upd H s.heap.objs.size (.lst ys)) { s with heap := s.heap.push { cls := .type "list", data := .seq its.toArray }, toks := t' } :=
  I.laid (fun _ _ q => Heap.get?_push_of_some _ q) (Nat.le_refl _) ⟨hz, its, 0, hv, Heap.get?_push_size _ rfl⟩
theorem Inv.fresh (I : Inv X pins σ H s) : H s.heap.objs.size = none := I.hok.fresh (Nat.le_refl _)
theorem Inv.lstM (I : Inv X pins σ H s) (hH : H l = some (.lst xs)) : xs.length ≤ sizeLine ∧ ∃ (its : List Value) (n : Nat), Vals xs its ∧ xs.length = its.length ∧ s.heap.get? l = some { cls := .type "list", data := .seq its.toArray n } := by
  obtain ⟨z, its, n, r, e⟩ := I.hok l _ hH
  exact ⟨z, its, n, r, r.length, e⟩
end
section
variable {X : Cx}
def rAppend : V → List V → Hp → VK → Prop := fun x vs H Q => ∃ l xs y, x = .ref l ∧ vs = [y] ∧ H l = some (.lst xs) ∧ xs.length < sizeLine ∧ Q .non (upd H l (.lst (xs ++ [y])))
theorem mt_append : MtM X "list.append" rAppend := by
  intro pins s σ H x vs v us Q I rx rv h
  obtain ⟨l, xs, y, rfl, rfl, hH, hz, q⟩ := h
  cases rx
  obtain ⟨u, rfl, ru⟩ := rv.one
  obtain ⟨z, its, n, r, hl, e⟩ := I.lstM hH
  refine call_meets F.slot_list_append ⟨_, e, rfl⟩ F.entry_list_append (F.args_list_append_2 _ _) (PySem.list_append l its.toArray n u (by rw [List.size_toArray]; omega)) ⟨e, ?_⟩
  refine ⟨.non, _, I.lset (its' := its ++ [u]) hH e (by simp) (r.append (.cons ru .nil)) ?_, rfl, q⟩
  rw [List.length_append, List.length_singleton]
  omega
def rPop : V → List V → Hp → VK → Prop := fun x vs H Q => ∃ l xs y, x = .ref l ∧ vs = [] ∧ H l = some (.lst xs) ∧ xs[xs.length - 1]? = some y ∧ Q y (upd H l (.lst xs.dropLast))
theorem mt_pop : MtM X "list.pop" rPop := by
  intro pins s σ H x vs v us Q I rx rv h
  obtain ⟨l, xs, y, rfl, rfl, hH, hy, q⟩ := h
  cases rx
  have hus := rv.zero
  subst hus
  obtain ⟨z, its, n, r, hl, e⟩ := I.lstM hH
  obtain ⟨u, hu, ru⟩ := r.get hy
  have hy' : its.toArray[its.toArray.size - 1]? = some u := by
    show its.toArray[its.length - 1]? = some u
    rw [← Array.getElem?_toList, ← hl]
    exact hu
  refine call_meets F.slot_list_pop ⟨_, e, rfl⟩ F.entry_list_pop (F.args_list_pop_1 _) (MeetsSeq.list_pop_last l its.toArray n u hy' (by rw [List.size_toArray]; omega)) ⟨e, ?_⟩
  refine ⟨y, _, I.lset (its' := its.dropLast) hH e ?_ r.dropLast ?_, ru, q⟩
  · show its.toArray.eraseIdxIfInBounds (its.toArray.size - 1) = its.dropLast.toArray
    rw [List.size_toArray, List.eraseIdxIfInBounds_toArray, erase_last]
  · rw [List.length_dropLast]
    omega
def rPopAt : V → List V → Hp → VK → Prop := fun x vs H Q => ∃ l xs i k y, x = .ref l ∧ vs = [.int i] ∧ H l = some (.lst xs) ∧ -(2 ^ 63) ≤ i ∧ i < 2 ^ 63 ∧ seqIndex? i xs.length = some k ∧ xs[k]? = some y ∧ Q y (upd H l (.lst (xs.eraseIdx k)))
theorem mt_popAt : MtM X "list.pop" rPopAt := by
  intro pins s σ H x vs v us Q I rx rv h
  obtain ⟨l, xs, i, k, y, rfl, rfl, hH, h1, h2, hk, hy, q⟩ := h
  cases rx
  obtain ⟨u, rfl, ru⟩ := rv.one
  obtain ⟨t, rfl⟩ := ru
  obtain ⟨z, its, n, r, hl, e⟩ := I.lstM hH
  obtain ⟨w, hw, rw'⟩ := r.get hy
  refine call_meets F.slot_list_pop ⟨_, e, rfl⟩ F.entry_list_pop (F.args_list_pop_2 _ _)
    (MeetsSeq.list_pop_at l its.toArray n i t k w (fitsIndex_both h1 h2) (by rw [List.size_toArray, ← hl]; exact hk) (by rw [← Array.getElem?_toList]; exact hw) (by rw [List.size_toArray]; omega)) ⟨e, ?_⟩
  refine ⟨y, _, I.lset (its' := its.eraseIdx k) hH e ?_ (r.eraseIdx k) ?_, rw', q⟩
  · show its.toArray.eraseIdxIfInBounds k = (its.eraseIdx k).toArray
    rw [List.eraseIdxIfInBounds_toArray]
  · have := len_erase xs k
    omega
def rCat : R2 := fun x y H Q => ∃ l b xs zs, x = .ref l ∧ y = .ref b ∧ H l = some (.lst xs) ∧ H b = some (.lst zs) ∧ xs.length + zs.length ≤ sizeLine ∧ ∀ p, H p = none → Q (.ref p) (upd H p (.lst (xs ++ zs)))
theorem op_cat : OpR X (binaryOp .Add) rCat := by
  intro pins s σ H x y v u Q I rx ry h
  obtain ⟨l, b, xs, zs, rfl, rfl, hH, hB, hz, q⟩ := h
  cases rx
  cases ry
  obtain ⟨z, its, n, r, hl, e⟩ := I.lstM hH
  obtain ⟨z2, its2, n2, r2, hl2, e2⟩ := I.lstM hB
  refine PySem.P.add_list e e2 ?_ (by rw [List.size_toArray, List.size_toArray]; omega)
  have ea : its.toArray ++ its2.toArray = (its ++ its2).toArray := by simp
  rw [ea]
  exact ⟨.ref _, _, I.lnew (t' := s.toks) (r.append r2) (by rw [List.length_append]; omega), rfl, q _ I.fresh⟩
end
section
variable {prog : Program} {w : World} {A : Around} {E : Value → Shared → Prop} {s : Shared}
set_option maxRecDepth 100000 in
end
section
variable {X : Cx}
end
end L2
namespace L2
open PySem PySem.Spec PyProof.Rows
section
variable {κ : Type} [DecidableEq κ]
def valV (kvs : List (κ × V)) (k : κ) : Option V := (kvs.find? fun kv => decide (kv.1 = k)).map (·.2)
def putK (kvs : List (κ × V)) (k : κ) (v : V) : List (κ × V) :=
  if (kvs.any fun kv => decide (kv.1 = k)) = true then kvs.map (fun kv => if kv.1 = k then (kv.1, v) else kv) else kvs ++ [(k, v)]
def dropK (kvs : List (κ × V)) (k : κ) : List (κ × V) := kvs.filter fun kv => decide (kv.1 ≠ k)
theorem valV_pos {p : κ × V} {r : List (κ × V)} {k : κ} (e : p.1 = k) : valV (p :: r) k = some p.2 := by simp [valV, List.find?_cons, e]
theorem valV_neg {p : κ × V} {r : List (κ × V)} {k : κ} (e : ¬ p.1 = k) : valV (p :: r) k = valV r k := by simp [valV, List.find?_cons, e]
theorem valV_any (k : κ) : ∀ kvs : List (κ × V), (kvs.any fun kv => decide (kv.1 = k)) = (valV kvs k).isSome
  | [] => rfl
  | p :: r => by
    rw [List.any_cons]
    by_cases e : p.1 = k
    · simp only [valV_pos e, decide_eq_true e, Bool.true_or, Option.isSome_some]
    · rw [valV_neg e, decide_eq_false e, Bool.false_or]; exact valV_any k r
theorem valV_map (k j : κ) (y : V) : ∀ kvs : List (κ × V), valV (kvs.map fun kv => if kv.1 = k then (kv.1, y) else kv) j = (valV kvs j).map fun x => if j = k then y else x
  | [] => rfl
  | p :: r => by
    have ih := valV_map k j y r
    rw [List.map_cons]
    by_cases h : p.1 = k
    · rw [if_pos h]
      by_cases e : p.1 = j
      · rw [valV_pos (p := (p.1, y)) e, valV_pos e, Option.map_some, if_pos (e.symm.trans h)]
      · rw [valV_neg (p := (p.1, y)) e, valV_neg e, ih]
    · rw [if_neg h]
      by_cases e : p.1 = j
      · rw [valV_pos (p := p) e, valV_pos e, Option.map_some, if_neg (fun z => h (e.trans z))]
      · rw [valV_neg (p := p) e, valV_neg e, ih]
theorem valV_snoc (k j : κ) (y : V) : ∀ kvs : List (κ × V), valV kvs k = none → valV (kvs ++ [(k, y)]) j = if j = k then some y else valV kvs j
  | [], _ => by
    by_cases e : k = j
    · rw [if_pos e.symm]; exact valV_pos (p := (k, y)) e
    · rw [if_neg (fun z => e z.symm)]; exact valV_neg (p := (k, y)) e
  | p :: r, hn => by
    rw [List.cons_append]
    have hk : ¬ p.1 = k := fun z => by rw [valV_pos z] at hn; cases hn
    rw [valV_neg hk] at hn
    have ih := valV_snoc k j y r hn
    by_cases e : p.1 = j
    · rw [valV_pos e, valV_pos e, if_neg (fun z => hk (e.trans z))]
    · rw [valV_neg e, valV_neg e, ih]
theorem valV_put (kvs : List (κ × V)) (k j : κ) (y : V) : valV (putK kvs k y) j = if j = k then some y else valV kvs j := by
  unfold putK
  by_cases a : (kvs.any fun kv => decide (kv.1 = k)) = true
  · rw [if_pos a, valV_map]
    rw [valV_any] at a
    by_cases e : j = k
    · obtain ⟨x, hx⟩ := Option.isSome_iff_exists.mp a
      rw [if_pos e, e, hx, Option.map_some, if_pos rfl]
    · rw [if_neg e]
      cases valV kvs j with
      | none => rfl
      | some x => rw [Option.map_some, if_neg e]
  · rw [if_neg a]
    refine valV_snoc k j y kvs ?_
    rw [valV_any] at a
    cases q : valV kvs k with
    | none => rfl
    | some x => rw [q] at a; exact (a rfl).elim
theorem length_putK (kvs : List (κ × V)) (k : κ) (v : V) : (putK kvs k v).length ≤ kvs.length + 1 := by
  unfold putK
  split
  · rw [List.length_map]; omega
  · rw [List.length_append, List.length_cons, List.length_nil]; omega
theorem RelO.isSome_eq {o : Option V} {u : Option Value} (r : RelO o u) : o.isSome = u.isSome := by
  cases o with
  | none => cases u with
    | none => rfl
    | some _ => exact (show False from r).elim
  | some _ => cases u with
    | none => exact (show False from r).elim
    | some _ => rfl
theorem KV.val {kvs : List (κ × V)} {vs : List (κ × Value)} (r : KV kvs vs) (k : κ) : RelO (valV kvs k) (valueAt vs k) := by
  unfold KV at r
  induction r with
  | nil => exact True.intro
  | @cons p q ps qs h t ih =>
    obtain ⟨h1, h2⟩ := h
    by_cases e : p.1 = k
    · have e' : q.1 = k := h1.symm.trans e
      have b : valueAt (q :: qs) k = some q.2 := by simp [valueAt, List.find?_cons, e']
      rw [valV_pos e, b]; exact h2
    · have e' : ¬ q.1 = k := fun z => e (h1.trans z)
      have b : valueAt (q :: qs) k = valueAt qs k := by simp [valueAt, List.find?_cons, e']
      rw [valV_neg e, b]; exact ih
theorem KV.any {kvs : List (κ × V)} {vs : List (κ × Value)} (r : KV kvs vs) (k : κ) : (kvs.any fun kv => decide (kv.1 = k)) = vs.any fun kv => decide (kv.1 = k) := by
  unfold KV at r
  induction r with
  | nil => rfl
  | cons h t ih => rw [List.any_cons, List.any_cons, ih, h.1]
theorem KV.repl {kvs : List (κ × V)} {vs : List (κ × Value)} (r : KV kvs vs) (k : κ) {y : V} {u : Value} (ry : RelV y u) :
    KV (kvs.map fun kv => if kv.1 = k then (kv.1, y) else kv) (vs.map fun kv => if kv.1 = k then (kv.1, u) else kv) := by
  unfold KV at r ⊢
  induction r with
  | nil => exact .nil
  | @cons p q ps qs h t ih =>
    rw [List.map_cons, List.map_cons]
    refine .cons ?_ ih
    obtain ⟨h1, h2⟩ := h
    by_cases e : p.1 = k
    · rw [if_pos e, if_pos (h1.symm.trans e)]; exact ⟨h1, ry⟩
    · rw [if_neg e, if_neg (fun z => e (h1.trans z))]; exact ⟨h1, h2⟩
theorem KV.put {kvs : List (κ × V)} {vs : List (κ × Value)} (r : KV kvs vs) (k : κ) {y : V} {u : Value} (ry : RelV y u) : KV (putK kvs k y) (stored vs k u) := by
  unfold putK stored
  rw [r.any k]
  by_cases e : (vs.any fun kv => decide (kv.1 = k)) = true
  · rw [if_pos e, if_pos e]; exact r.repl k ry
  · rw [if_neg e, if_neg e]; exact Paired.snoc r ⟨rfl, ry⟩
theorem KV.length {kvs : List (κ × V)} {vs : List (κ × Value)} (r : KV kvs vs) : kvs.length = vs.length := Paired.length r
theorem dropK_le (kvs : List (κ × V)) (k : κ) : (dropK kvs k).length ≤ kvs.length := List.length_filter_le _ _
end
theorem kV_is {P : Program} {w : World} {k : Key} {u : Value} (r : RelV (kV k) u) : (mixKind P w).is k u = true := by
  cases k with
  | inl i => obtain ⟨t, e⟩ := (show ∃ t, u = Value.int i t from r); subst e; exact mixKind_int P w i t
  | inr x => obtain ⟨t, e⟩ := (show ∃ t, u = Value.str x t from r); subst e; exact mixKind_str P w x t
theorem items_are {P : Program} {w : World} : ∀ {ks : List Key} {us : List Value}, Vals (ks.map kV) us → ItemsAre (mixKind P w) ks us
  | [], _, r => by rw [List.map_nil] at r; cases r; exact .nil
  | k :: ks, _, r => by
    rw [List.map_cons] at r
    cases r with
    | cons h t => exact .cons (kV_is h) (items_are t)
abbrev KT (H : Hp) : List (List Key × V) → List (List Key × Addr × Value) → Prop := Paired fun p q => p.1 = q.1 ∧ H q.2.1 = some (.tup (p.1.map kV)) ∧ RelV p.2 q.2.2
theorem KT.val {H : Hp} {kvs : List (List Key × V)} {xs : List (List Key × Addr × Value)} (r : KT H kvs xs) (k : List Key) : RelO (valV kvs k) ((atKey xs k).map (·.2)) := by
  induction r with
  | nil => exact True.intro
  | @cons p q ps qs h t ih =>
    obtain ⟨h1, _, h2⟩ := h
    by_cases e : p.1 = k
    · have e' : q.1 = k := h1.symm.trans e
      have b : atKey (q :: qs) k = some q.2 := by simp [atKey, List.find?_cons, e']
      rw [valV_pos e, b]; exact h2
    · have e' : ¬ q.1 = k := fun z => e (h1.trans z)
      have b : atKey (q :: qs) k = atKey qs k := by simp [atKey, List.find?_cons, e']
      rw [valV_neg e, b]; exact ih
theorem KT.repl {H : Hp} {kvs : List (List Key × V)} {xs : List (List Key × Addr × Value)} (r : KT H kvs xs) (k : List Key) {y : V} {u : Value} (ry : RelV y u) :
    KT H (kvs.map fun kv => if kv.1 = k then (kv.1, y) else kv) (xs.map (putAt k u)) := by
  induction r with
  | nil => exact .nil
  | @cons p q ps qs h t ih =>
    rw [List.map_cons, List.map_cons]
    refine .cons ?_ ih
    obtain ⟨h1, h2, h3⟩ := h
    unfold putAt
    by_cases e : p.1 = k
    · rw [if_pos e, if_pos (h1.symm.trans e)]; exact ⟨h1, h2, ry⟩
    · rw [if_neg e, if_neg (fun z => e (h1.trans z))]; exact ⟨h1, h2, h3⟩
theorem KT.put {H : Hp} {kvs : List (List Key × V)} {xs : List (List Key × Addr × Value)} (r : KT H kvs xs) (k : List Key) {b : Addr} {y : V} {u : Value} (hb : H b = some (.tup (k.map kV))) (ry : RelV y u) :
    KT H (putK kvs k y) (storedH xs k b u) := by
  have e : (kvs.any fun kv => decide (kv.1 = k)) = (atKey xs k).isSome := by
    rw [valV_any, (r.val k).isSome_eq, Option.isSome_map]
  unfold putK storedH
  rw [e]
  by_cases q : (atKey xs k).isSome = true
  · rw [if_pos q, if_pos q]; exact r.repl k ry
  · rw [if_neg q, if_neg q]; exact Paired.snoc r ⟨rfl, hb, ry⟩
theorem KT.keeps {H H' : Hp} {kvs : List (List Key × V)} {xs : List (List Key × Addr × Value)} (r : KT H kvs xs) (ht : ∀ b ys, H b = some (.tup ys) → H' b = some (.tup ys)) : KT H' kvs xs :=
  Paired.mapP r fun _ _ z => ⟨z.1, ht _ _ z.2.1, z.2.2⟩
section
variable {P : Program} {w : World} {H : Hp} {h : Heap} {a : Addr}
theorem rd_of {u : HO} (ok : HOk P w H h) (e : Rd H a u) : ObjOk P w H h a u := e.ok ok
theorem dk_rd {kvs : List (Key × V)} (ok : HOk P w H h) (e : Rd H a (.dK kvs)) : kvs.length ≤ sizeLine ∧ (a == sysModules) = false ∧ ∃ vs, KV kvs vs ∧ h.DictOf (mixKind P w) a vs :=
  show ObjOk P w H h a (.dK kvs) from rd_of ok e
theorem dk_of {kvs : List (Key × V)} (ok : HOk P w H h) (e : H a = some (.dK kvs)) : kvs.length ≤ sizeLine ∧ (a == sysModules) = false ∧ ∃ vs, KV kvs vs ∧ h.DictOf (mixKind P w) a vs := dk_rd ok (.inl e)
theorem key_of {ks : List Key} (ok : HOk P w H h) (e : H a = some (.tup (ks.map kV))) : (tupleKind (mixKind P w)).is h ks a := by
  obtain ⟨_, its, r, o, h1, h2, n, h3⟩ := (show ObjOk P w H h a (.tup (ks.map kV)) from ok a _ e)
  exact ⟨o, its.toArray, n, h1, h2, h3, by simpa using items_are r⟩
theorem dt_rd {kvs : List (List Key × V)} (ok : HOk P w H h) (e : Rd H a (.dT kvs)) : kvs.length ≤ sizeLine ∧ (a == sysModules) = false ∧
    ∃ xs, KT H kvs xs ∧ h.DictOfH (tupleKind (mixKind P w)) a xs := by
  obtain ⟨z, y, xs, r, o, es, ep, h1, h2, h3, h4, h5⟩ := (show ObjOk P w H h a (.dT kvs) from rd_of ok e)
  refine ⟨z, y, xs, r, o, es, ep, h1, h2, h3, h4, fun x hx => ?_, h5⟩
  have all : ∀ {l : List (List Key × V)} {m : List (List Key × Addr × Value)}, KT H l m → ∀ x ∈ m, (tupleKind (mixKind P w)).is h x.1 x.2.1 := by
    intro l m q
    induction q with
    | nil => intro x hx; exact nomatch hx
    | @cons p q ps qs hq t ih =>
      intro x hx
      rcases List.mem_cons.mp hx with e | hx
      · subst e
        exact key_of ok (by rw [← hq.1]; exact hq.2.1)
      · exact ih x hx
  exact all r x hx
theorem dt_of {kvs : List (List Key × V)} (ok : HOk P w H h) (e : H a = some (.dT kvs)) : kvs.length ≤ sizeLine ∧ (a == sysModules) = false ∧
    ∃ xs, KT H kvs xs ∧ h.DictOfH (tupleKind (mixKind P w)) a xs := dt_rd ok (.inl e)
end
def DGet (H : Hp) (a : Addr) (y : V) (r : Option V) : Prop :=
  (∃ kvs k, Rd H a (.dK kvs) ∧ y = kV k ∧ r = valV kvs k) ∨ ∃ kvs k b, Rd H a (.dT kvs) ∧ y = .ref b ∧ H b = some (.tup (k.map kV)) ∧ r = valV kvs k
def DPut (H : Hp) (a : Addr) (y v : V) (H' : Hp) : Prop :=
  (∃ kvs k, H a = some (.dK kvs) ∧ y = kV k ∧ kvs.length < sizeLine ∧ H' = upd H a (.dK (putK kvs k v))) ∨
  ∃ kvs k b, H a = some (.dT kvs) ∧ y = .ref b ∧ H b = some (.tup (k.map kV)) ∧ kvs.length < sizeLine ∧ H' = upd H a (.dT (putK kvs k v))
theorem DGet.t {H : Hp} {a b : Addr} {kvs : List (List Key × V)} {k : List Key} (e : H a = some (.dT kvs)) (eb : H b = some (.tup (k.map kV))) : DGet H a (.ref b) (valV kvs k) := .inr ⟨kvs, k, b, .inl e, rfl, eb, rfl⟩
theorem DPut.t {H : Hp} {a b : Addr} {kvs : List (List Key × V)} {k : List Key} {v : V} (e : H a = some (.dT kvs)) (eb : H b = some (.tup (k.map kV))) (hl : kvs.length < sizeLine) :
    DPut H a (.ref b) v (upd H a (.dT (putK kvs k v))) := .inr ⟨kvs, k, b, e, rfl, eb, hl, rfl⟩
section
variable {X : Cx} {pins : List (Addr × Obj)} {σ : St} {H : Hp} {s : Shared} {a : Addr} {y v : V} {u r : Value} {o : Option V} {A : Around} {E : Value → Shared → Prop}
theorem Inv.big (I : Inv X pins σ H s) : sysModules < s.heap.objs.size := by
  have h : mainGlobals < s.heap.objs.size := (I.mod.glob.keeps I.bk).lt
  exact Nat.lt_trans (by decide) h
theorem d_in {Q : Value → Shared → Prop} (hu : A.units + 1 < cLine) (I : Inv X pins σ H s) (g : DGet H a y o) (ry : RelV y u) (h : ∀ s', Inv X pins σ H s' → Q (.bool o.isSome) s') :
    wpAny (model X.prog X.w) A (compareOp .In u (.ref a)) Q E s := by
  rcases g with ⟨kvs, k, e, ey, l⟩ | ⟨kvs, k, b, e, ey, eb, l⟩
  · subst ey
    obtain ⟨z, hd, vs, rel, dd⟩ := dk_rd I.hok e
    refine wpAny_in_of (kV_is ry) hd dd.mapOf ?_
    rw [← (rel.val k).isSome_eq, ← l]
    exact h _ (I.tok _)
  · subst ey
    cases (show u = Value.ref b from ry)
    obtain ⟨z, hd, xs, rel, dd⟩ := dt_rd I.hok e
    refine wpAny_in_heap (tupleKind_room_in1 hu) (key_of I.hok eb) hd dd ?_
    have q := (rel.val k).isSome_eq
    rw [Option.isSome_map] at q
    rw [← q, ← l]
    exact h _ (I.tok _)
theorem d_write {h' : Heap} {t' : Nat} {ob : HO} (I : Inv X pins σ H s) (mu : Mut (H a)) (hs : Heap.SameBut a s.heap h') (he : ∃ q, h'.get? a = some q) (new : ObjOk X.prog X.w (upd H a ob) h' a ob) :
    Inv X pins σ (upd H a ob) { s with heap := h', toks := t' } :=
  I.write (x := a) (e := a) mu (.inl rfl) (fun b q hb z => (hs.2 b hb).trans z) he new
theorem dk_new {P : Program} {w : World} {H' : Hp} {h' : Heap} {kvs : List (Key × V)} {vs : List (Key × Value)} (z : kvs.length ≤ sizeLine) (hd : (a == sysModules) = false) (rel : KV kvs vs) (dd : h'.DictOf (mixKind P w) a vs) :
    ObjOk P w H' h' a (.dK kvs) := ⟨z, hd, vs, rel, dd⟩
theorem d_setItem {H' : Hp} {Q : Unit → Shared → Prop} (hu : A.units + 1 < cLine) (I : Inv X pins σ H s) (g : DPut H a y v H') (ry : RelV y u) (rv : RelV v r) (h : ∀ s', Inv X pins σ H' s' → Q () s') :
    wpAny (model X.prog X.w) A (setItem (.ref a) u r) Q E s := by
  rcases g with ⟨kvs, k, e, ey, l, eH⟩ | ⟨kvs, k, b, e, ey, eb, l, eH⟩
  · subst ey eH
    obtain ⟨z, hd, vs, rel, dd⟩ := dk_of I.hok e
    have hz : vs.length ≤ sizeLine := by rw [← rel.length]; exact z
    have hl : (putK kvs k v).length ≤ sizeLine := by have := length_putK kvs k v; omega
    refine wpAny_setItem_pairs (hsz := hz) (kV_is ry) dd fun h' dd' hs => h _ ?_
    have he : ∃ q, h'.get? a = some q := let ⟨q, _, _, hq, _⟩ := dd'; ⟨q, hq⟩
    exact d_write I (by rw [e]; exact True.intro) hs he (dk_new hl hd (rel.put k rv) dd')
  · subst ey eH
    cases (show u = Value.ref b from ry)
    obtain ⟨z, hd, xs, rel, dd⟩ := dt_of I.hok e
    have hz : xs.length ≤ sizeLine := by rw [← Paired.length rel]; exact z
    have hl : (putK kvs k v).length ≤ sizeLine := by have := length_putK kvs k v; omega
    refine wpAny_setItem_heap (hsz := hz) (tupleKind_room_in1 hu) (key_of I.hok eb) dd fun h' dd' hs => h _ ?_
    obtain ⟨q, es, ep, hq, h2, h3, h4, _, h5⟩ := dd'
    refine d_write I (by rw [e]; exact True.intro) hs ⟨q, hq⟩ ⟨hl, hd, _, (rel.put k eb rv).keeps fun c ys ec => ?_, q, es, ep, hq, h2, h3, h4, h5⟩
    rw [upd_ne (ne_of ec e (fun z => nomatch z))]
    exact ec
end
section
variable {X : Cx} {pins : List (Addr × Obj)} {σ : St} {H : Hp} {s : Shared} {a : Addr} {kvs : List (Key × V)} {k : Key} {u : Value} {A : Around} {E : Value → Shared → Prop}
end
def tDIn (ty td : TE) : TE := fun σ H Q => ty σ H fun y H1 => td σ H1 fun x H2 => ∃ a o, x = .ref a ∧ DGet H2 a y o ∧ Q (.bl o.isSome) H2
def sDPut (td ty tv : TE) : TS := fun D σ H => tv σ H fun v H1 => td σ H1 fun x H2 => ty σ H2 fun y H3 => ∃ a H4, x = .ref a ∧ DPut H3 a y v H4 ∧ D.nx σ H4
section
variable {X : Cx} {o i e value : Expr} {pos pos' tpos : Pos} {td ty tv : TE}
theorem pc_din (hu : X.A.units + 1 < cLine) (hi : PE X i ty) (ho : PE X o td) : PC X .In i o (tDIn ty td) := by
  intro pins s σ H Q I h
  refine thn (hi pins s σ H _ I h) fun iv s1 ⟨y, H1, I1, ry, q1⟩ => thn (ho pins s1 σ H1 _ I1 q1) fun u s2 ⟨x, H2, I2, rx, a, ov, ex, g, q2⟩ => ?_
  subst ex
  obtain rfl : u = Value.ref a := rx
  exact d_in hu I2 g ry fun s3 I3 => ⟨.bl ov.isSome, H2, I3, rfl, q2⟩
theorem ps_dput (hu : X.A.units + 1 < cLine) (ho : PE X o td) (hi : PE X i ty) (hv : PE X value tv) (hs : swapsWith value (some (.Subscript o i pos')) pos.line X.env = pure false) :
    PS X (.Assign [.Subscript o i pos'] value pos) (sDPut td ty tv) := by
  intro pins s σ H D I h
  refine wpAny_Assign_Subscript (thn (hv pins s σ H _ I h) fun r s1 ⟨v, H1, I1, rv, q1⟩ => thn (ho pins s1 σ H1 _ I1 q1) fun u s2 ⟨x, H2, I2, rx, q2⟩ => thn (hi pins s2 σ H2 _ I2 q2) fun iv s3 ⟨y, H3, I3, ry, a, H4, ex, g, q3⟩ => ?_) hs
  subst ex
  obtain rfl : u = Value.ref a := rx
  exact d_setItem hu I3 g ry rv fun s4 I4 => ⟨σ, H4, I4, q3⟩
end
theorem dt_empty {P : Program} {w : World} {H : Hp} (h : Heap) (hb : sysModules < h.objs.size) : ObjOk P w H (h.push { cls := .type "dict", data := .dict #[] }) h.objs.size (.dT []) :=
  ⟨Nat.zero_le _, beq_eq_false_iff_ne.mpr (Ne.symm (Nat.ne_of_lt hb)), [], .nil, _, #[], 0, Heap.get?_push_size _ rfl, ⟨rfl, rfl, rfl⟩, rfl, rfl, List.nodup_nil⟩
def tDNewT : TE := fun _ H Q => ∀ p, H p = none → Q (.ref p) (upd H p (.dT []))
section
variable {X : Cx} {pos : Pos}
theorem pe_dnewT : PE X (.Dict [] [] pos) tDNewT := fun pins s σ H Q I h =>
  wpAny_Dict_empty ⟨.ref s.heap.objs.size, _, I.laid (a := s.heap.objs.size) (o := .dT []) (t' := s.toks) (fun _ _ q => Heap.get?_push_of_some _ q) (Nat.le_refl _) (dt_empty s.heap I.big), rfl, h _ (I.hok.fresh (Nat.le_refl _))⟩
end
def tPairs : List (TE × TE) → St → Hp → (List (V × V) → Hp → Prop) → Prop
  | [], _, H, Q => Q [] H
  | (tk, tv) :: r, σ, H, Q => tk σ H fun x H1 => tv σ H1 fun y H2 => tPairs r σ H2 fun ps H3 => Q ((x, y) :: ps) H3
abbrev VV : List (V × V) → List (Value × Value) → Prop := Paired fun p q => RelV p.1 q.1 ∧ RelV p.2 q.2
def PPs (X : Cx) (pos : Pos) (keys : List (Option Expr)) (values : List Expr) (trs : List (TE × TE)) : Prop :=
  ∀ (pins : List (Addr × Obj)) (s : Shared) (σ : St) (H : Hp) (Q : List (V × V) → Hp → Prop), Inv X pins σ H s → tPairs trs σ H Q →
    wpAny (model X.prog X.w) X.A (evalPairs (pairTrees keys values X.env pos)) (fun vs s' => ∃ ps H', Inv X pins σ H' s' ∧ VV ps vs ∧ Q ps H') X.xe s
theorem pps_nil {X : Cx} {pos : Pos} : PPs X pos [] [] [] := fun pins s σ H Q I h => pairTrees_nil_walk ⟨[], H, I, .nil, h⟩
theorem pps_cons {X : Cx} {pos : Pos} {k v : Expr} {ks : List (Option Expr)} {vs : List Expr} {tk tv : TE} {trs : List (TE × TE)} (hk : PE X k tk) (hv : PE X v tv) (hr : PPs X pos ks vs trs) :
    PPs X pos (some k :: ks) (v :: vs) ((tk, tv) :: trs) := fun pins s σ H Q I h =>
  pairTrees_cons_walk (thn (hk pins s σ H _ I h) fun u s1 ⟨x, H1, I1, rx, q1⟩ => thn (hv pins s1 σ H1 _ I1 q1) fun w2 s2 ⟨y, H2, I2, ry, q2⟩ =>
    thn (hr pins s2 σ H2 _ I2 q2) fun ws s3 ⟨ps, H3, I3, rel, q3⟩ => ⟨(x, y) :: ps, H3, I3, .cons ⟨rx, ry⟩ rel, q3⟩)
structure M1 (X : Cx) (o : Expr) (m : Str) (apos : Pos) (e : Expr) (cpos : Pos) : Prop where
  base : attributeBase o m X.env (eval o X.env) = eval o X.env
  few : ((backTo cpos (starEach [e] X.env)).all (fun x => !x.1) && (backToKw cpos (keywordEach [] X.env)).all (fun x => x.1.isSome)
    && decide (([e] : List Expr).length + ([] : List Keyword).length + (if ([] : List Keyword).isEmpty then 0 else 1) < 30)) = true
  line : (apos.endLine == cpos.line) = true
  trees : backTo cpos (starEach [e] X.env) = [(false, eval e X.env)]
def IsD (H : Hp) (a : Addr) : Prop := (∃ kvs, Rd H a (.dK kvs)) ∨ ∃ kvs, Rd H a (.dT kvs)
theorem isD_at {X : Cx} {pins : List (Addr × Obj)} {σ : St} {H : Hp} {s : Shared} {a : Addr} (I : Inv X pins σ H s) (d : IsD H a) :
    s.TypeIs (.ref a) "dict" ∧ (∀ b, Value.ref a = .ref b → ∃ ob, s.heap.get? b = some ob ∧ ob.dict = none) ∧ (a == sysModules) = false := by
  rcases d with ⟨kvs, e⟩ | ⟨kvs, e⟩
  · obtain ⟨_, hd, vs, _, dd⟩ := dk_rd I.hok e
    refine ⟨dd.typeIs, fun b q => ?_, hd⟩
    cases q
    obtain ⟨ob, _, _, h1, h2, _⟩ := dd
    exact ⟨ob, h1, h2.2.1⟩
  · obtain ⟨_, hd, xs, _, dd⟩ := dt_rd I.hok e
    refine ⟨dd.typeIs, fun b q => ?_, hd⟩
    cases q
    obtain ⟨ob, _, _, h1, h2, _⟩ := dd
    exact ⟨ob, h1, h2.2.1⟩
section
variable {X : Cx} {pins : List (Addr × Obj)} {σ : St} {H : Hp} {s : Shared} {a : Addr} {y d : V} {u r : Value} {o : Option V} {A : Around} {E : Value → Shared → Prop}
end
section
variable {X : Cx} {o e f : Expr} {apos cpos : Pos} {td ty tx : TE}
end
section
variable {X : Cx} {pins : List (Addr × Obj)} {σ : St} {H : Hp} {s : Shared} {a : Addr} {kvs : List (Key × V)} {A : Around} {E : Value → Shared → Prop}
end
section
variable {X : Cx} {pins : List (Addr × Obj)} {σ : St} {H : Hp} {s : Shared} {a : Addr} {y : V} {u : Value} {A : Around} {E : Value → Shared → Prop}
end
end L2
namespace Att
open PySem PySem.W PySem.Calls PyProof.Rows
theorem ints_of_wellAll {P : Params} {h : Heap} : ∀ (ns : List Int) (vs : List Value), WellAll P h vs (ns.map WData.int) → IntsAre vs ns := by
  intro ns
  induction ns with
  | nil =>
    intro vs w
    rw [List.map_nil] at w
    cases w
    exact .nil
  | cons n ns ih =>
    intro vs w
    rw [List.map_cons] at w
    cases w with
    | cons a b =>
      cases a
      exact .cons _ _ (ih _ b)
theorem script_of {l : OpenLaw} {n : Nat} (hn : l.most = some n) {P : Params} {h : Heap} {args : List WData} {vals : List Value}
    (hpre : l.row.toRowW.claim.pre args = true) (hwl : WellAll P h vals args) :
    ∃ a vs ns, vals = [Value.ref a] ∧ args = [WData.list (ns.map WData.int)] ∧ h.get? a = some { cls := .type "list", data := .seq vs.toArray } ∧ IntsAre vs ns ∧ ns.length ≤ n := by
  have hsh : WShape.hasAll [] args [.list .int] = true := (pre_splitW hpre).1
  have hc : l.pre.holds [] { args := args } = true := (pre_splitW hpre).2
  obtain ⟨d, r, rfl, h1, h2⟩ := hasAllW_cons hsh
  obtain rfl := hasAllW_nil h2
  obtain ⟨xs, rfl, h3⟩ := hasW_list h1
  obtain ⟨ns, rfl⟩ := items_int h3
  have hlen : ns.length ≤ n := by
    unfold OpenLaw.pre at hc
    have h4 : (WTm.not (.lt (.lit (.int (n : Int))) (.len (.arg 0)))).holds [] { args := [.list (ns.map .int)] } = true := by
      have h4 := (holds_andW hc).1
      rw [hn] at h4
      exact h4
    have h5 := condW_of h4 (w_not (w_lt w_lit (w_len_list (w_arg rfl))))
    rw [List.length_map] at h5
    refine Nat.le_of_not_lt fun q => ?_
    have q' : (n : Int) < ((ns.length : Nat) : Int) := by omega
    first
      | (rw [decide_eq_true q'] at h5; exact absurd h5 (by decide))
      | (simp at h5; omega)
  cases hwl with
  | cons w1 w2 =>
    cases w2
    cases w1 with
    | list ho hall => exact ⟨_, _, ns, rfl, rfl, ho, ints_of_wellAll ns _ hall, hlen⟩
theorem post_true (l : OpenLaw) (args : List WData) : l.row.toRowW.claim.post args (.bool true) args = true :=
  postW_of (r := l.row.toRowW) (X := (true == true))
    (show WShape.has [] (.bool true) .bool = true by first | rfl | decide | simp [WShape.has, WShape.arms, WShape.armsAll])
    (show (WTm.eq .res (.lit (.bool true))).value [] { args := args, res := some (.bool true), after := args } = some (.bool (true == true)) from w_eq_bool (w_res rfl) w_lit) rfl
theorem attach_call {l : OpenLaw} {n : Nat} {q : Program} {loose : List Str} {XP : (Str → Option Value) → Heap → Prop} {YP : World → Heap → Prop} {d : DefRec}
    (hn : l.most = some n) (hdf : d.params.defaults = [])
    (call : ∀ (w : World) (s₀ s₁ : Shared) (mg mb : Str → Option Value) (fa : Addr) (o : Obj) (pm cd doc : Value) (a : Addr) (vs : List Value) (ns : List Int),
      Ground q loose [] XP w s₀ mg mb s₁.heap → YP w s₁.heap →
      s₁.heap.get? fa = some o → o.data = .func (docDef d.name d.params d.body d.scope pm cd doc) → s₁.heap.CodeRec cd d.name → mg d.name = some (.ref fa) →
      s₁.heap.get? a = some { cls := .type "list", data := .seq vs.toArray } → IntsAre vs ns → ns.length ≤ n → s₁.gens = #[] →
      codeAny (model l.prog w) callerA (.call (.ref fa) ⟨[.ref a], []⟩) (fun r s' => r = .ok (.ret (.bool true)) ∧ OldK s₁.heap s'.heap ∧ s'.os = s₁.os ∧ AllBare s'.gens) s₁) :
    WalkO q loose XP YP l.row.toRowW d [] (fun f vs => PySem.call f vs) := by
  intro w s₀ s₁ mg mb G Y fa o pm cd doc dV kV ho hd hcd hD hmg hg args vals as hpre hlay hrd hwl hlo
  obtain rfl : dV = .none := Dflts.none hD hdf
  obtain rfl : kV = .none := Dflts.noKw hD
  obtain ⟨a, vs, ns, rfl, rfl, hobj, hints, hlen⟩ := script_of hn hpre hwl
  refine enter_call (codeAny_mono (call w s₀ s₁ mg mb fa o pm cd doc a vs ns G Y ho (fd_plain hd) hcd hmg hobj hints hlen hg) fun r s' hq => ?_)
  obtain ⟨rfl, h2, h3, h4⟩ := hq
  exact ⟨.inl ⟨.bool true, .bool true, [], rfl, fun _ => rfl, .bool true, post_true l _, fun _ => ⟨List.Pairwise.nil, fun _ hm => (nomatch hm)⟩⟩, h2, h3, h4⟩
section
variable {prog : Program} {w : World} {A : Around} {E : Value → Shared → Prop} {s : Shared} {K : Frag}
end
end Att
namespace L2
open PySem PySem.Spec PyProof.Rows
theorem vals_ints : ∀ {vs : List Value} {ns : List Int}, IntsAre vs ns → Vals (ns.map V.int) vs
  | _, _, .nil => .nil
  | _, _, .cons n t h => .cons ⟨t, rfl⟩ (vals_ints h)
def Only (H : Hp) : Prop := ∀ b, H b = none ∨ ∃ o xs, H b = some (.frz o (.lst xs))
theorem law_call {P : Program} {w : World} {K : PySem.W.Frag} {mg mb : Str → Option Value} {CX : CXT} {k : Nat} {fa a : Addr} {fd : FuncData} {x : Str} {sp : Sp} {s₁ : Shared} {vs : List Value} {ns : List Int}
    (KX : K.In s₁.heap) (hns : s₁.heap.Ns mainGlobals mg) (hb : s₁.heap.Ns builtinsNs mb) (hbb : ∀ x : Str, x ≠ "__name__" → mb x = bootBuiltins x) (hlim : s₁.heap.NoLimit) (hg : s₁.gens = #[])
    (ha : s₁.heap.get? a = some { cls := .type "list", data := .seq vs.toArray }) (hi : IntsAre vs ns) (hl : ns.length ≤ sizeLine) (hr : Room k callerA)
    (F : ∀ base : Heap, K.In base → base.Ns mainGlobals mg → FnOk P w K mg base CX k fa fd [x] sp) (hbind : ∀ (s : Shared) (u : Value), BindsTo s fd ⟨[u], []⟩ [(x, u)])
    (hsp : ∀ H : Hp, Only H → SqL K H a (ns.map V.int) → sp [.ref a] H (fun v _ => v = .bl true) fun _ _ _ => False)
    (hCX : ∀ H e s', CX [] H s₁ (fun _ _ _ => False) e s' → False) :
    codeAny (model P w) callerA (.call (.ref fa) ⟨[.ref a], []⟩) (fun r s' => r = .ok (.ret (.bool true)) ∧ OldK s₁.heap s'.heap ∧ s'.os = s₁.os ∧ AllBare s'.gens) s₁ := by
  have rv := vals_ints hi
  have lenV := hi.length
  have core : ∀ H : Hp, Only H → SqL K H a (ns.map V.int) → HOk P w H s₁.heap → (∀ b, H b ≠ none → b = a) → (H a ≠ none → K.lookup a = none) →
      codeAny (model P w) callerA (.call (.ref fa) ⟨[.ref a], []⟩) (fun r s' => r = .ok (.ret (.bool true)) ∧ OldK s₁.heap s'.heap ∧ s'.os = s₁.os ∧ AllBare s'.gens) s₁ := by
    intro H hO hS hok hA hK
    have base_of : ∀ {b : Addr} {o : Obj}, s₁.heap.get? b = some o → H b = none → (hidT s₁.heap H).get? b = some o := fun e n => hidT_get e n
    have noA : ∀ {b : Addr} {o : Obj} {es : Array DictEntry} {ep : Nat}, s₁.heap.get? b = some o → o.data = .dict es ep → H b = none := fun {b o es ep} e d => by
      cases q : H b with
      | none => rfl
      | some u =>
        have e' : b = a := hA b (by rw [q]; simp)
        subst e'
        rw [ha] at e; cases e
        have d' : Data.seq vs.toArray _ = Data.dict es ep := d
        cases d'
    have nsK : ∀ {b : Addr} {m : Str → Option Value}, s₁.heap.Ns b m → (hidT s₁.heap H).Ns b m := fun {b m} ⟨o, es, ep, e, d, r⟩ => ⟨o, es, ep, base_of e (noA e d), d, r⟩
    have hKb : K.In (hidT s₁.heap H) := fun b o e => base_of (KX b o e) (by
      cases q : H b with
      | none => rfl
      | some u =>
        have e' : b = a := hA b (by rw [q]; simp)
        subst e'
        rw [hK (by rw [q]; simp)] at e; cases e)
    have hM : Mod K mg (hidT s₁.heap H) := ⟨hKb, nsK hns, ⟨mb, nsK hb, hbb⟩, let ⟨mc, h1, h2⟩ := hlim; ⟨mc, nsK h1, h2⟩⟩
    have e0 : Env0 P w K mg (hidT s₁.heap H) callerA [] s₁ H := ⟨rfl, hM, fun b o e => of_hidT e, Nat.le_of_eq (hidT_size _ _), trivial, fun b hb => absurd (show b ∈ ([] : List Addr) from hb) (by simp), hok, .of_eq hg⟩
    refine codeAny_mono ((F _ hKb (nsK hns)).run callerA [] s₁ H ⟨[.ref a], []⟩ [.ref a] [.ref a] _ _ hr e0 (hbind s₁ (.ref a)) (.cons rfl .nil) (hsp H hO hS)) fun r s' h => ?_
    cases r with
    | error e => exact (hCX H e s' h).elim
    | ok fl =>
      cases fl with
      | next => exact False.elim h
      | brk => exact False.elim h
      | cont => exact False.elim h
      | ret u =>
        obtain ⟨v, H', os, bare, un, hok', r', q⟩ := h
        have q' : v = .bl true := q
        subst q'
        obtain rfl : u = Value.bool true := r'
        refine ⟨rfl, OldK.of_keep fun b o e => ?_, os, bare⟩
        cases q : H b with
        | none => exact un.keep b o e q (by intro z; exact absurd (show b ∈ ([] : List Addr) from z) (by simp)) (by simp)
        | some u =>
          rcases hO b with z | ⟨ob, xs, z⟩
          · rw [q] at z; cases z
          · have z2 := un.frzs b ob _ z
            obtain ⟨e1, _⟩ := hok b _ z
            obtain ⟨e2, _⟩ := hok' b _ z2
            rw [e] at e1; cases e1
            exact e2
  cases hk : K.lookup a with
  | some o =>
    have e := KX a o hk
    rw [ha] at e
    cases e
    refine core (fun _ => none) (fun _ => .inl rfl) (.inr ⟨_, vs.toArray, _, hk, rfl, rfl, rfl, by rw [List.size_toArray, lenV]; exact hl, by simpa using rv⟩) (fun b u z => by have z' : (none : Option HO) = some u := z; cases z') (fun b z => absurd rfl z) fun z => absurd rfl z
  | none =>
    refine core (fun b => if b = a then some (.frz { cls := .type "list", data := .seq vs.toArray } (.lst (ns.map V.int))) else none) (fun b => ?_) (.inl (.inr ⟨{ cls := .type "list", data := .seq vs.toArray }, if_pos rfl⟩)) (fun b u z => ?_) (fun b z => ?_) fun _ => hk
    · by_cases hb : b = a
      · exact .inr ⟨_, _, if_pos hb⟩
      · exact .inl (if_neg hb)
    · by_cases hb : b = a
      · have z' := (if_pos hb).symm.trans z
        cases z'
        subst hb
        exact ⟨ha, by rw [List.length_map]; exact hl, vs, _, rv, ha⟩
      · have z' := (if_neg hb).symm.trans z
        cases z'
    · by_cases hb : b = a
      · exact hb
      · exact absurd (if_neg hb) z
end L2
namespace L2
open PySem PySem.Spec PyProof.Rows
theorem walk_of {l : PySem.W.OpenLaw} {n k : Nat} {q : Program} {loose : List Str} {XP : (Str → Option Value) → Heap → Prop} {YP : World → Heap → Prop} {d : DefRec} {K : Params → PySem.W.Frag} {CX : World → CXT} {sp : World → Sp} {x : Str}
    (hn : l.most = some n) (hn2 : n ≤ sizeLine) (hdf : d.params.defaults = []) (hr : Room k callerA)
    (hY : ∀ (w : World) (h : Heap), YP w h → (K w.params).In h)
    (F : ∀ (w : World) (mg : Str → Option Value) (fa : Addr) (h : Heap), (K w.params).In h → h.Ns mainGlobals mg → mg d.name = some (.ref fa) →
      ∃ fd : FuncData, (∀ (s : Shared) (u : Value), BindsTo s fd ⟨[u], []⟩ [(x, u)]) ∧
        ∀ base : Heap, (K w.params).In base → base.Ns mainGlobals mg → FnOk l.prog w (K w.params) mg base (CX w) k fa fd [x] (sp w))
    (hsp : ∀ (w : World) (H : Hp) (a : Addr) (ns : List Int), ns.length ≤ n → Only H → SqL (K w.params) H a (ns.map V.int) → sp w [.ref a] H (fun v _ => v = .bl true) fun _ _ _ => False)
    (hCX : ∀ (w : World) (H : Hp) (s : Shared) (e : Value) (s' : Shared), CX w [] H s (fun _ _ _ => False) e s' → False) :
    PySem.W.WalkO q loose XP YP l.row.toRowW d [] (fun f vs => PySem.call f vs) := by
  refine Att.attach_call hn hdf fun w s₀ s₁ mg mb fa o pm cd doc a vs ns G Y ho hd hcd hmg hobj hints hlen hg => ?_
  have KX := hY w _ Y
  obtain ⟨fd, hb, hF⟩ := F w mg fa _ KX G.T.g hmg
  exact law_call KX G.T.g G.T.b G.T.builtins G.T.nolimit hg hobj hints (Nat.le_trans hlen hn2) hr hF hb (fun H hO hS => hsp w H a ns hlen hO hS) fun H e s' => hCX w H s₁ e s'
end L2
namespace L2
open PySem PySem.Spec PyProof.Rows
abbrev CX0 : CXT := fun _ _ _ _ _ _ => False
abbrev E0 : XK := fun _ _ _ => False
theorem pass0 {X : Cx} : Passes CX0 X E0 := fun _ _ _ _ _ _ _ h => h.elim
structure Fun (K : PySem.W.Frag) (x qual : Str) (st : Stmt) (f : Addr) (fd : FuncData) : Prop where
  ex : ∃ (oc : Value) (od : Option Addr) (kV doc pm : Value) (an : Option Addr) (cdv ct : Value) (osl : Array (Option Value)),
    fd = PySem.W.fnOf x qual (defArgs st) (defBody st) (defScope st) .none kV doc pm an cdv ct ∧ K.lookup f = some ⟨oc, od, .func fd, osl⟩ ∧ PySem.W.codeIn K cdv qual = true
  kp : PySem.W.keepIn K (.ref f) = true
section
variable {P : Program} {w : World} {K : PySem.W.Frag} {mg : Str → Option Value} {base : Heap}
theorem Fun.ok {x qual : Str} {st : Stmt} {f : Addr} {fd : FuncData} {N ps : List Str} {k : Nat} {sp : Sp} (F : Fun K x qual st f fd) (S : FnScope N ps (defScope st)) (len : ∀ vs H Q E, sp vs H Q E → vs.length = ps.length)
    (hbody : ∀ (cdv : Value) (A : Around) (outer : List Env) (s : Shared) (H : Hp) (vs : List V) (Q : VK) (E : XK), Room k (A.deeper (envOfC qual (defScope st) s.heap.objs.size f cdv)) → sp vs H Q E →
      ∃ t, PSs (cxOf CX0 P w K mg base N qual (defScope st) f cdv A outer s H E).nox (defBody st) t ∧ t { nx := fun _ H' => Q .non H', rt := Q } (start N vs) H) : FnOk P w K mg base CX0 (k + 1) f fd ps sp := by
  obtain ⟨oc, od, kV, doc, pm, an, cdv, ct, osl, rfl, lk, hcd⟩ := F.ex
  refine fn_of lk hcd S len fun A outer s H vs Q E hr hsp => ?_
  obtain ⟨t, h, q⟩ := hbody cdv A outer s H vs Q E hr hsp
  exact ⟨t, h.nox, q⟩
theorem Fun.binds {x qual : Str} {st : Stmt} {f : Addr} {fd : FuncData} {ps : List Str} (F : Fun K x qual st f fd)
    (h : ∀ (kV doc pm : Value) (an : Option Addr) (cdv ct : Value) (us : List Value), us.length = ps.length → bindArgs (PySem.W.fnOf x qual (defArgs st) (defBody st) (defScope st) .none kV doc pm an cdv ct) ⟨us, []⟩ = pure (ps.zip us)) : Binds K fd ps [] := by
  obtain ⟨oc, od, kV, doc, pm, an, cdv, ct, osl, rfl, lk, hcd⟩ := F.ex
  exact .all (h kV doc pm an cdv ct)
theorem fun_mk {x qual : Str} {st : Stmt} {f : Addr} {oc : Value} {od an : Option Addr} {osl : Array (Option Value)} {kV doc pm cdv ct : Value} (l : K.lookup f = some ⟨oc, od, .func (PySem.W.fnOf x qual (defArgs st) (defBody st) (defScope st) .none kV doc pm an cdv ct), osl⟩)
    (c : PySem.W.codeIn K cdv qual = true) (k : PySem.W.keepIn K (.ref f) = true) : Fun K x qual st f (PySem.W.fnOf x qual (defArgs st) (defBody st) (defScope st) .none kV doc pm an cdv ct) := ⟨⟨oc, od, kV, doc, pm, an, cdv, ct, osl, rfl, l, c⟩, k⟩
end
theorem hu_of {A : Around} {k : Nat} (hr : Room k A) : A.units + 1 < cLine := Nat.lt_of_le_of_lt (Nat.add_le_add_left (by decide : 1 ≤ 64) _) hr.units
section
variable {X : Cx}
theorem pv (i : Nat) {x : Str} {pos : Pos} (hN : X.N[i]? = some x := by rfl) (hv : Vis X.env.scope x := by first | exact Or.inl rfl | exact Or.inr (Or.inl rfl) | exact Or.inr (Or.inr rfl)) (hd : (x == ("__debug__" : Str)) = false := by decide)
    (hcd : (x == ("__classdict__" : Str)) = false := by decide) : PE X (.Name x pos) (tVar i) := pe_var hN hv hd hcd
end
theorem iteF {A B : Prop} (h : B) : if false = true then A else B := by
  rw [if_neg Bool.false_ne_true]
  exact h
theorem iteT {A B : Prop} (h : A) : if true = true then A else B := by
  rw [if_pos rfl]
  exact h
theorem ite2 {c A B : Prop} [Decidable c] (h1 : c → A) (h2 : ¬ c → B) : if c then A else B := by
  by_cases h : c
  · rw [if_pos h]
    exact h1 h
  · rw [if_neg h]
    exact h2 h
def Same (H H' : Hp) : Prop := ∀ b o, H b = some o → H' b = some o
theorem Same.trans {H H1 H2 : Hp} (a : Same H H1) (b : Same H1 H2) : Same H H2 := fun c o h => b c o (a c o h)
theorem Same.free {H H' : Hp} (e : Same H H') {l : Addr} (h : H' l = Option.none) : H l = Option.none := by
  cases q : H l with
  | none => rfl
  | some o =>
    rw [e l o q] at h
    cases h
theorem Same.seq {K : PySem.W.Frag} {H H' : Hp} {a : Addr} {xs : List V} (e : Same H H') (h : SqL K H a xs) : SqL K H' a xs := by
  rcases h with (h | ⟨o, h⟩) | h
  · exact .inl (.inl (e _ _ h))
  · exact .inl (.inr ⟨o, e _ _ h⟩)
  · exact .inr h
section
variable {κ : Type} [DecidableEq κ]
theorem dropK_pos {p : κ × V} {r : List (κ × V)} {k : κ} (e : p.1 = k) : dropK (p :: r) k = dropK r k := by
  unfold dropK
  rw [List.filter_cons, if_neg (by simp [e])]
theorem dropK_neg {p : κ × V} {r : List (κ × V)} {k : κ} (e : ¬ p.1 = k) : dropK (p :: r) k = p :: dropK r k := by
  unfold dropK
  rw [List.filter_cons, if_pos (by simp [e])]
end
end L2
end
section
set_option Elab.async false
set_option linter.all false
set_option maxRecDepth 100000
set_option maxHeartbeats 4000000
namespace L2
open PySem PySem.Spec PyProof.Rows
def clGo (env : Env) : List (Str × NameKind) → List (Str × Addr) → List (Str × Addr)
  | [], cs => cs
  | (n, k) :: r, cs => clGo env r (if k == .free then (n, (env.cells.lookup n).getD 0) :: cs else cs)
theorem clGo_forIn (env : Env) : ∀ (names : List (Str × NameKind)) (cs : List (Str × Addr)), (∀ x ∈ names, x.2 = .free → ∃ c, env.cells.lookup x.1 = some c) →
    (forIn names cs (fun (x : Str × NameKind) (r : List (Str × Addr)) => (do
      if x.2 == NameKind.free then
        let a ← cellOf env x.1
        pure (ForInStep.yield ((x.1, a) :: r))
      else pure (ForInStep.yield r) : Sem (ForInStep (List (Str × Addr)))))) = pure (clGo env names cs)
  | [], cs, _ => rfl
  | (n, k) :: r, cs, h => by
    have ih := fun cs => clGo_forIn env r cs fun x hx => h x (List.mem_cons_of_mem _ hx)
    rw [List.forIn_cons]
    by_cases hk : k = .free
    · subst hk
      obtain ⟨c, hc⟩ := h (n, .free) List.mem_cons_self rfl
      have e : cellOf env n = pure c := by
        have hc' : env.cells.lookup n = some c := hc
        unfold cellOf
        rw [hc']
        try rfl
      rw [if_pos (show (((n, NameKind.free).2 == NameKind.free) = true) from rfl), e]
      refine Eq.trans ?_ ((ih ((n, c) :: cs)).trans ?_)
      · rfl
      · have hc' : env.cells.lookup n = some c := hc
        show pure (clGo env r ((n, c) :: cs)) = pure (clGo env r ((n, (env.cells.lookup n).getD 0) :: cs))
        rw [hc']
        rfl
    · have hb : (k == NameKind.free) = false := by simpa using hk
      rw [if_neg (show ¬ (((n, k).2 == NameKind.free) = true) by rw [show ((n, k).2 == NameKind.free) = false from hb]; simp)]
      refine Eq.trans ?_ ((ih cs).trans ?_)
      · rfl
      · show pure (clGo env r cs) = pure (clGo env r (if (k == NameKind.free) = true then _ else cs))
        rw [hb]
        rfl
theorem closure_eq {scope : Scope} {env : Env} (h : ∀ x ∈ scope.names, x.2 = .free → ∃ c, env.cells.lookup x.1 = some c) : closureFor scope env = pure (clGo env scope.names []) := by
  have e := clGo_forIn env scope.names [] h
  unfold closureFor
  simp only [bind_pure_comp, map_pure] at e ⊢
  first
    | (rw [e]; rfl)
    | exact e
theorem clGo_in {env : Env} : ∀ {names : List (Str × NameKind)} {cs : List (Str × Addr)} {x : Str} {c : Addr}, (∀ y ∈ names, y.2 = .free → ∃ c, env.cells.lookup y.1 = some c) →
    (clGo env names cs).lookup x = some c → env.cells.lookup x = some c ∨ cs.lookup x = some c
  | [], cs, x, c, _, h => .inr h
  | (n, k) :: r, cs, x, c, hf, h => by
    have hf' : ∀ y ∈ r, y.2 = .free → ∃ c, env.cells.lookup y.1 = some c := fun y hy => hf y (List.mem_cons_of_mem _ hy)
    rcases clGo_in (names := r) hf' h with q | q
    · exact .inl q
    · by_cases hk : (k == NameKind.free) = true
      · rw [if_pos hk] at q
        have hk' : k = .free := by simpa using hk
        obtain ⟨c', e⟩ := hf (n, k) List.mem_cons_self hk'
        have e : env.cells.lookup n = some c' := e
        rw [List.lookup_cons] at q
        cases hx : x == n with
        | true =>
          rw [hx] at q
          have hx' : x = n := by simpa using hx
          subst hx'
          rw [e] at q
          have q' : c' = c := by simpa using q
          exact .inl (q' ▸ e)
        | false =>
          rw [hx] at q
          exact .inr q
      · rw [if_neg hk] at q
        exact .inr q
theorem clGo_has {env : Env} : ∀ {names : List (Str × NameKind)} {cs : List (Str × Addr)} {x : Str}, ((x, NameKind.free) ∈ names ∨ (cs.lookup x).isSome = true) → ((clGo env names cs).lookup x).isSome = true
  | [], cs, x, h => by
    rcases h with h | h
    · simp at h
    · exact h
  | (n, k) :: r, cs, x, h => by
    refine clGo_has (names := r) ?_
    rcases h with h | h
    · rcases List.mem_cons.mp h with e | e
      · cases e
        refine .inr ?_
        rw [if_pos (by rfl), List.lookup_cons, beq_self_eq_true]
        rfl
      · exact .inl e
    · refine .inr ?_
      by_cases hk : (k == NameKind.free) = true
      · rw [if_pos hk, List.lookup_cons]
        cases hx : x == n with
        | true => rfl
        | false => exact h
      · rw [if_neg hk]
        exact h
theorem lookup_relabel (env : Env) : ∀ (names : List (Str × NameKind)) (x : Str),
    (names.map fun (n, k) => if (k == NameKind.free && env.scope.kind == .function && env.kindOf n == some .cell) then (n, NameKind.cell) else (n, k)).lookup x = (names.lookup x).map fun k => if (k == NameKind.free && env.scope.kind == .function && env.kindOf x == some .cell) then NameKind.cell else k
  | [], _ => rfl
  | (n, k) :: r, x => by
    have ih := lookup_relabel env r x
    rw [List.map_cons]
    dsimp only at ih ⊢
    by_cases hc : (k == NameKind.free && env.scope.kind == .function && env.kindOf n == some .cell) = true
    · rw [if_pos hc, List.lookup_cons, List.lookup_cons]
      cases hx : x == n with
      | true =>
        have hx' : x = n := by simpa using hx
        subst hx'
        simp only [Option.map_some, hc, if_true]
      | false => exact ih
    · rw [if_neg hc, List.lookup_cons, List.lookup_cons]
      cases hx : x == n with
      | true =>
        have hx' : x = n := by simpa using hx
        subst hx'
        simp only [Option.map_some]
        rw [if_neg hc]
      | false => exact ih
def cxComp (X : Cx) (N : List Str) (scope : Scope) (C : Addr) (s : Shared) (H : Hp) (fp : List Addr) (pins : List (Addr × Obj)) : Cx :=
  { X with N := N, s₀ := s, H₀ := H, env := compEnvC scope (clGo X.env scope.names []) C X.env, outer := X.stack, ex := fp, fn := fun _ => false, pn := X.pn ++ pins, xe := fun _ _ => False }
def compSt (fr : List (Option Nat)) (σ : St) : St := fr.map fun o => o.bind fun i => (σ[i]?).join
structure CompScope (X : Cx) (N : List Str) (fr : List (Option Nat)) (scope : Scope) : Prop where
  nd : N.Nodup
  len : fr.length = N.length
  kind : scope.kind = .function
  nocell : ∀ y ∈ scope.names, y.2 ≠ .cell
  names : ∀ y ∈ scope.names, y.2 = .local → scope.names.lookup y.1 = some .local
  frees : ∀ y ∈ scope.names, y.2 = .free → X.env.kindOf y.1 = some .cell ∨ X.env.kindOf y.1 = some .free
  fr : ∀ (j i : Nat) (x : Str), fr[j]? = some (some i) → N[j]? = some x → X.N[i]? = some x ∧ scope.names.lookup x = some .free
section
variable {X : Cx} {pins : List (Addr × Obj)} {σ : St} {H : Hp} {s : Shared} {N : List Str} {fr : List (Option Nat)} {scope : Scope} {fp : List Addr}
theorem CompScope.cells (S : CompScope X N fr scope) (ok : X.Ok) : ∀ y ∈ scope.names, y.2 = .free → ∃ c, X.env.cells.lookup y.1 = some c := fun y hy hf => ok.has y.1 (S.frees y hy hf)
theorem mem_of_lookup' {names : List (Str × NameKind)} {x : Str} {k : NameKind} (h : names.lookup x = some k) : (x, k) ∈ names := PySem.mem_of_lookup h
theorem comp_kind {X : Cx} {C : Addr} {x : Str} : (compEnvC scope (clGo X.env scope.names []) C X.env).kindOf x = (scope.names.lookup x).map fun k => if (k == NameKind.free && X.env.scope.kind == .function && X.env.kindOf x == some .cell) then NameKind.cell else k := lookup_relabel X.env scope.names x
theorem CompScope.free_of (S : CompScope X N fr scope) {C : Addr} {x : Str} (h : (compEnvC scope (clGo X.env scope.names []) C X.env).kindOf x = some .cell ∨ (compEnvC scope (clGo X.env scope.names []) C X.env).kindOf x = some .free) : scope.names.lookup x = some .free := by
  rw [comp_kind] at h
  cases e : scope.names.lookup x with
  | none => rw [e] at h; simp at h
  | some k =>
    rw [e] at h
    have nc := S.nocell _ (mem_of_lookup' e)
    cases k with
    | free => rfl
    | cell => exact absurd rfl nc
    | _ =>
      exfalso
      rcases h with h | h <;> simp at h
theorem comp_free {X : Cx} {C : Addr} {x : Str} (h : scope.names.lookup x = some .free) : (compEnvC scope (clGo X.env scope.names []) C X.env).kindOf x = some .cell ∨ (compEnvC scope (clGo X.env scope.names []) C X.env).kindOf x = some .free := by
  rw [comp_kind, h, Option.map_some]
  by_cases c : (NameKind.free == NameKind.free && X.env.scope.kind == .function && X.env.kindOf x == some .cell) = true
  · rw [if_pos c]; exact .inl rfl
  · rw [if_neg c]; exact .inr rfl
end
end L2
end
section
set_option Elab.async false
set_option linter.all false
set_option maxRecDepth 100000
set_option maxHeartbeats 4000000
namespace L2
open PySem PySem.Spec PyProof.Rows
section
variable {X : Cx} {pins : List (Addr × Obj)} {σ : St} {H : Hp} {s : Shared} {N : List Str} {fr : List (Option Nat)} {scope : Scope} {fp : List Addr}
theorem comp_start {C : Addr} {h1 : Heap} {m : Str → Option Value} {t : Nat} (S : CompScope X N fr scope) (I : Inv X pins σ H s) (hf : ∀ b ∈ fp, FpOk X pins H b) (hC : s.heap.objs.size ≤ C) (hfC : ∀ b ∈ fp, b ≠ C)
    (hn : h1.Ns C m) (hk : ∀ b o, s.heap.get? b = some o → h1.get? b = some o) : Inv (cxComp X N scope C s H fp pins) [] (compSt fr σ) H { s with heap := h1, toks := t } := by
  have hcl := S.cells I.ok
  have sub : ∀ x c, (clGo X.env scope.names []).lookup x = some c → X.env.cells.lookup x = some c := fun x c e => by
    rcases clGo_in hcl e with q | q
    · exact q
    · simp at q
  have ok : (cxComp X N scope C s H fp pins).Ok := by
    refine ⟨I.ok.mod, S.kind, I.ok.glob, I.ok.blt, hC, fun x y c h1 h2 => I.ok.inj x y c (sub x c h1) (sub y c h2), fun x hx => ?_, fun x c e => absurd e (by show ¬ (false = true); decide), I.ok.hd, I.ok.frames, .inl rfl, fun b hb => ?_, fun b o e => I.bs b o e, Nat.le_trans I.ok.bsz I.sz, fun b o e hb => ?_, fun b hb => ?_, I.stack, I.stkFree⟩
    · have e := S.free_of hx
      exact Option.isSome_iff_exists.mp (clGo_has (.inl (mem_of_lookup' e)))
    · exact ⟨hfC b hb, fun x c e => (hf b hb).2.2.2.2.1 x c (sub x c e)⟩
    · rcases (hf b hb).2.2.2.1 with z | z
      · exact I.ok.noex b o e z
      · exact absurd (Nat.lt_of_lt_of_le (Heap.lt_size e) (Nat.le_trans I.ok.bsz z)) (Nat.lt_irrefl _)
    · intro z
      rcases List.mem_cons.mp (I.stkSub b z) with q | q
      · exact (hf b hb).2.1 q
      · exact (hf b hb).2.2.1 q
  have hfresh : H C = none := I.hok.fresh hC
  refine ⟨ok, rfl, I.bare, Un.kept hk, ⟨m, hn, fun j x v e1 e2 e3 => ?_⟩, fun x c e => ?_, hfresh, fun x c e => I.freeC x c (sub x c e), fun p hp => ?_, I.hok.kept hk, ?_⟩
  · have e2 : (compSt fr σ)[j]? = some (some v) := e2
    unfold compSt at e2
    rw [List.getElem?_map] at e2
    cases q : fr[j]? with
    | none => rw [q] at e2; cases e2
    | some o =>
      rw [q] at e2
      cases o with
      | none => cases e2
      | some i =>
        have e2 : (σ[i]?).join = some v := Option.some.inj e2
        obtain ⟨hi, hfree⟩ := S.fr j i x q e1
        have hσ : σ[i]? = some (some v) := by
          cases z : σ[i]? with
          | none => rw [z] at e2; cases e2
          | some y => rw [z] at e2; cases y with
            | none => cases e2
            | some y' => have e2 : some y' = some v := e2; rw [e2]
        obtain ⟨m0, _, hl⟩ := I.loc
        have hcf : X.env.kindOf x = some .cell ∨ X.env.kindOf x = some .free := S.frees (x, .free) (mem_of_lookup' hfree) rfl
        have hvis : Vis X.env.scope x := hcf.elim (fun z => .inr (.inl z)) fun z => .inr (.inr z)
        obtain ⟨u, r, lk⟩ := hl i x v hi hσ hvis
        rcases lk with ⟨z, _⟩ | ⟨_, c, ec, hcell⟩
        · rcases hcf with y | y <;> (rw [y] at z; cases z)
        · refine ⟨u, r, .inr ⟨comp_free hfree, ?_⟩⟩
          obtain ⟨c', ec'⟩ := Option.isSome_iff_exists.mp (clGo_has (env := X.env) (names := scope.names) (cs := []) (.inl (mem_of_lookup' hfree)))
          have := sub x c' ec'
          rw [ec] at this
          cases this
          obtain ⟨o, ho, hd⟩ := hcell
          exact ⟨c, ec', o, hk c o ho, hd⟩
  · obtain ⟨v, o, ho, hd⟩ := I.cell x c (sub x c e)
    exact ⟨v, o, hk c o ho, hd⟩
  · have hp : p ∈ (X.pn ++ pins) ++ [] := hp
    rw [List.append_nil] at hp
    obtain ⟨e, n, ne, nf, d⟩ := I.pin p hp
    refine ⟨hk _ _ e, n, fun z => ?_, fun z => ?_, d⟩
    · have z : p.1 = C := z
      exact absurd (Nat.lt_of_lt_of_le (Heap.lt_size e) hC) (by rw [z]; exact Nat.lt_irrefl _)
    · rcases List.mem_cons.mp (I.stkSub p.1 z) with q | q
      · exact ne q
      · exact nf q
  · show (compSt fr σ).length = N.length
    unfold compSt
    rw [List.length_map]
    exact S.len
theorem comp_end {C : Addr} {H2 : Hp} {s' : Shared} {σ' : St} {p' : List (Addr × Obj)} (I : Inv X pins σ H s) (hf : ∀ b ∈ fp, FpOk X pins H b) (hC : s.heap.objs.size ≤ C) (J : Inv (cxComp X N scope C s H fp pins) p' σ' H2 s') :
    Inv X pins σ H2 s' ∧ FpOk X pins H2 C := by
  have J0 : Inv X pins σ H2 s' := I.call' J.os J.base J.hok J.bare fun b hb => ⟨(hf b hb).2.2.2.1, (hf b hb).2.1, (hf b hb).2.2.2.2.1, (hf b hb).2.2.2.2.2⟩
  exact ⟨J0, I.fpOk hC J.free⟩
end
end L2
end
section
set_option Elab.async false
set_option linter.all false
set_option maxRecDepth 100000
set_option maxHeartbeats 4000000
namespace L2
open PySem PySem.Spec PyProof.Rows
def PIf (X : Cx) (ifs : List Expr) (t : TT) : Prop :=
  ∀ (pins : List (Addr × Obj)) (s : Shared) (σ : St) (H : Hp) (Q : Bool → Hp → Prop), Inv X pins σ H s → t σ H Q →
    wpAny (model X.prog X.w) X.A (forIn ifs true fun c r => if r = true then do let ok ← isTrue c X.env (eval c X.env); pure (ForInStep.yield ok) else pure (ForInStep.yield r)) (TP X pins σ Q) X.xe s
theorem pif_nil {X : Cx} : PIf X [] (fun _ H Q => Q true H) := fun _ _ _ H _ I h => wpAny_tests_nil ⟨H, I, h⟩
theorem pif_one {X : Cx} {c : Expr} {t : TT} (h : PT X c t) : PIf X [c] t := fun pins s σ H Q I q => wpAny_tests_one (h pins s σ H Q I q)
def tBlock (J : It) (g : TG) (tt : TT) (te : TE) (D : Addr) (σ' : St) (H1 : Hp) (Q : Hp → Prop) : Prop :=
  ∃ W : Nat → Nat → St → List V → Hp → Prop, (∃ m, W 0 m σ' [] (upd H1 D (.lst []))) ∧ ∀ i m σ ys H, W i m σ ys H →
    (J.stop i H ∧ Q H) ∨ (J.go i H ∧ ∃ N : St → List V → Hp → Prop, (∀ σ' ys' H', N σ' ys' H' → ∃ m', m' < m ∧ W (i + 1) m' σ' ys' H') ∧ ∀ x H', J.yld i H x H' → g x σ H' fun σ2 H2 => tt σ2 H2 fun b H3 =>
      if b = true then te σ2 H3 fun y H4 => H4 D = some (.lst ys) ∧ ys.length < sizeLine ∧ N σ2 (ys ++ [y]) (upd H4 D (.lst (ys ++ [y]))) else N σ2 ys H3)
theorem comp_loop {P : Program} {w : World} {A : Around} {elt target iter : Expr} {ifs : List Expr} {scope : Scope} {pos : Pos} {it acc : Value} {env : Env} {R : Result → Shared → Prop} {s : Shared} (I : Nat → Shared → Prop)
    (turn : ∀ n s, I n s → wpAny (model P w) A (pyNext it) (fun r s1 => match r with
      | none => R (.ok .next) s1
      | some v => wpAny (model P w) A (letOwnedTupleGo target it v) (fun _ s1' => wpAny (model P w) A (assign target env v) (fun _ s2 =>
          wpAny (model P w) A (forIn ifs true fun c r => if r = true then do let ok ← isTrue c env (eval c env); pure (ForInStep.yield ok) else pure (ForInStep.yield r)) (fun ok s3 =>
            if ok = true then wpAny (model P w) A (eval elt env) (fun x s4 =>
              wpAny (model P w) A (call (.builtin "list.append") [acc, x]) (fun _ s5 => ∃ m, m < n ∧ I m s5) (fun _ _ => False) s4) (fun _ _ => False) s3
            else ∃ m, m < n ∧ I m s3) (fun _ _ => False) s2) (fun _ _ => False) s1') (fun _ _ => False) s1) (fun _ _ => False) s)
    (n : Nat) (h : I n s) :
    codeAny (model P w) A (.compLoop (.ListComp elt [⟨target, iter, ifs, 0⟩] scope pos) 0 it acc env) R s := by
  have no : ∀ (e : Value) (t : Shared), False → notedBy (model P w) A env (fun e s' => R (.error e) s') e t := fun _ _ z => z.elim
  refine codeAny_loop rfl I (fun n s hI => ?_) n h
  refine wpAny_noted ?_
  rw [compTurn_list]
  refine wpAny_bind (wpAny_standAt (wpAny_bind (wpAny_mono (turn n s hI) (fun r s1 h1 => ?_) no)))
  cases r with
  | none => exact wpAny_pure h1
  | some v =>
    refine wpAny_bind (wpAny_mono h1 (fun _ s1' h1' => ?_) no)
    refine wpAny_bind (wpAny_mono h1' (fun _ s2 h2 => wpAny_bind (wpAny_mono h2 (fun ok s3 h3 => ?_) no)) no)
    cases ok with
    | false => exact wpAny_pure ⟨rfl, h3⟩
    | true =>
      exact wpAny_bind (wpAny_bind (wpAny_mono h3 (fun x s4 h4 => wpAny_bind (wpAny_mono h4 (fun _ s5 h5 => wpAny_pure (wpAny_pure ⟨rfl, h5⟩)) no)) no))
section
variable {X : Cx} {pins : List (Addr × Obj)} {σ : St} {H : Hp} {s : Shared} {N : List Str} {fr : List (Option Nat)} {scope : Scope} {fp : List Addr}
theorem comp_run {elt target iter : Expr} {ifs : List Expr} {pos : Pos} {it D : Addr} {tn : Nat → Heap → Prop} {J : It} {g : TG} {tt : TT} {te : TE} {R : Result → Shared → Prop} {s1 : Shared} {σ1 : St} {H1 : Hp} {Q : Hp → Prop}
    {Y : Cx} (hY : Y.xe = fun _ _ => False) (hc : Y.calm = true) (I : Inv Y [] σ1 (upd H1 D (.lst [])) s1) (T : Turn Y.prog Y.w Y.K target J fp it tn) (ht : tn 0 s1.heap) (hf : ∀ b ∈ fp, FpOk Y [] (upd H1 D (.lst [])) b)
    (hg : PG Y target g) (hi : PIf Y ifs tt) (he : PE Y elt te) (h : tBlock J g tt te D σ1 H1 Q) (hR : ∀ s' σ' H', Inv Y [] σ' H' s' → Q H' → R (.ok .next) s') :
    codeAny (model Y.prog Y.w) Y.A (.compLoop (.ListComp elt [⟨target, iter, ifs, 0⟩] scope pos) 0 (.ref it) (.ref D) Y.env) R s1 := by
  obtain ⟨W, ⟨m0, w0⟩, turn⟩ := h
  have stat : ∀ {H' : Hp}, (∀ b ∈ fp, H' b = none) → ∀ b ∈ fp, FpOk Y [] H' b := fun hn b hb => ⟨hn b hb, (hf b hb).2⟩
  refine comp_loop (fun n s' => ∃ i σ' ys H', Inv Y [] σ' H' s' ∧ tn i s'.heap ∧ (∀ b ∈ fp, H' b = none) ∧ W i n σ' ys H') ?_ m0 ⟨0, σ1, [], _, I, ht, fun b hb => (hf b hb).1, w0⟩
  rintro n s3 ⟨i, σ3, ys, H3, I3, st3, fr3, w3⟩
  have back : ∀ {α : Type} {t : Sem α} {Q : α → Shared → Prop} {s : Shared}, wpAny (model Y.prog Y.w) Y.A t Q Y.xe s → wpAny (model Y.prog Y.w) Y.A t Q (fun _ _ => False) s := fun h => by rw [hY] at h; exact h
  rcases turn i n σ3 ys H3 w3 with ⟨stop, qn⟩ | ⟨go, N', hN', step⟩
  · refine thn (T.done Y rfl rfl rfl hc i [] s3 σ3 H3 _ I3 (stat fr3) st3 stop) fun r s4 ⟨hr, I4⟩ => ?_
    subst hr
    exact hR s4 σ3 H3 I4 qn
  · refine thn (T.item Y rfl rfl rfl hc i [] s3 σ3 H3 _ I3 (stat fr3) st3 go) fun r s4 ⟨u, hr, h4⟩ => ?_
    subst hr
    refine thn h4 fun _ s5 ⟨x, H5, I5, r5, y5, st5, fr5⟩ => ?_
    have I5' := I5.pinned (stat fr5) (T.obj _ _ st5)
    rw [List.nil_append] at I5'
    refine thn (back (hg _ s5 σ3 H5 x u _ I5' r5 (step x H5 y5))) fun _ s6 ⟨σ6, H6, I6, q6⟩ => ?_
    refine thn (back (hi _ s6 σ6 H6 _ I6 q6)) fun b s7 ⟨H7, I7, q7⟩ => ?_
    have again : ∀ {σ7 : St} {H7 : Hp} {s7 : Shared} {ys' : List V}, Inv Y (pinsAt fp s5.heap) σ7 H7 s7 → (∃ m', m' < n ∧ W (i + 1) m' σ7 ys' H7) → ∃ m, m < n ∧ ∃ i σ' ys H', Inv Y [] σ' H' s7 ∧ tn i s7.heap ∧ (∀ b ∈ fp, H' b = none) ∧ W i m σ' ys H' := fun {σ7 H7 s7 ys'} I7 ⟨m', hm, w7⟩ => by
      refine ⟨m', hm, i + 1, σ7, ys', H7, I7.pins_of (fun p hp => by simp at hp), T.keep _ _ _ st5 fun b hb o e => (I7.pin (b, o) (List.mem_append_right _ (mem_pinsAt hb e))).1, fun b hb => ?_, w7⟩
      obtain ⟨o, e, d⟩ := T.obj _ _ st5 b hb
      exact (I7.pin (b, o) (List.mem_append_right _ (mem_pinsAt hb e))).2.1
    cases b with
    | false =>
      rw [if_neg Bool.false_ne_true] at q7
      rw [if_neg Bool.false_ne_true]
      exact again I7 (hN' _ _ _ q7)
    | true =>
      rw [if_pos rfl] at q7
      rw [if_pos rfl]
      refine thn (back (he _ s7 σ6 H7 _ I7 q7)) fun v s8 ⟨y, H8, I8, r8, hD, hl, q8⟩ => ?_
      refine thn (back (mt_append _ s8 σ6 H8 (.ref D) [y] (.ref D) [v] (fun _ H' => N' σ6 (ys ++ [y]) H') I8 rfl (.cons r8 .nil) ⟨D, ys, y, rfl, rfl, hD, hl, q8⟩)) fun _ s9 ⟨_, H9, I9, _, q9⟩ => ?_
      exact again I9 (hN' _ _ _ q9)
end
end L2
end
section
set_option Elab.async false
set_option linter.all false
set_option maxRecDepth 100000
set_option maxHeartbeats 4000000
namespace L2
open PySem PySem.Spec PyProof.Rows
def tComp (wi : TI) (g : TG) (tt : TT) (te : TE) (fr : List (Option Nat)) : TE := fun σ H Q => wi σ H fun J H1 => ∀ D, H1 D = none → tBlock J g tt te D (compSt fr σ) H1 fun H2 => Q (.ref D) H2
section
variable {X : Cx} {N : List Str} {fr : List (Option Nat)} {scope : Scope} {elt tg iter : Expr} {ifs : List Expr} {pos : Pos} {wi : TI} {g : TG} {tt : TT} {te : TE}
def PComp (X : Cx) (N : List Str) (scope : Scope) (tg : Expr) (ifs : List Expr) (elt : Expr) (g : TG) (tt : TT) (te : TE) : Prop :=
  ∀ (C : Addr) (s : Shared) (H : Hp) (fp : List Addr) (pins : List (Addr × Obj)), PG (cxComp X N scope C s H fp pins) tg g ∧ PIf (cxComp X N scope C s H fp pins) ifs tt ∧ PE (cxComp X N scope C s H fp pins) elt te
theorem comp_block {pins : List (Addr × Obj)} {σ : St} {s : Shared} {itv : Value} {Z : Value → Addr → Result → Shared → Prop} {QQ : Addr → Hp → Prop} {E : Value → Shared → Prop} (S : CompScope X N fr scope) (hc : X.calm = true)
    (hb : PComp X N scope tg ifs elt g tt te) (h2 : PIE X pins σ tg (fun J H1 => ∀ D, H1 D = none → tBlock J g tt te D (compSt fr σ) H1 (QQ D)) itv s)
    (hZ : ∀ D C s' H', Inv X pins σ H' s' → FpOk X pins H' C → (∃ m, s'.heap.Ns C m) → QQ D H' → Z (.ref D) C (.ok .next) s') :
    wpAny (model X.prog X.w) X.A (newList []) (fun acc s3 => wpAny (model X.prog X.w) X.A (newFunctionEnv scope X.env.globals (clGo X.env scope.names []) [] X.env.qual none .none (some X.env)) (fun cenv s4 =>
      codeAny (model X.prog X.w) X.A (.compStart (.ListComp elt [⟨tg, iter, ifs, 0⟩] scope pos) 0 itv acc { cenv with scope := relabel scope X.env }) (Z acc cenv.locals) s4) E s3) E s := by
  obtain ⟨it, fp, tn, J, H1, e, I2, T, st2, f2, q⟩ := h2
  subst e
  have hD : H1 s.heap.objs.size = none := I2.hok.fresh (Nat.le_refl _)
  have old : ∀ b ∈ fp, b < s.heap.objs.size := fun b hb => by
    obtain ⟨o, e, _⟩ := T.obj _ _ st2 b hb
    exact Heap.lt_size e
  refine wpAny_newObj_type (wpAny_newFunctionEnv S.nocell (by intro y hy; simp at hy) (fun h1 hns hsb => ?_) S.kind)
  dsimp only at hns hsb ⊢
  have I3 : Inv X pins σ (upd H1 s.heap.objs.size (.lst [])) { s with heap := s.heap.push { cls := .type "list", dict := none, data := .seq ([] : List Value).toArray } } := by
    refine I2.laid (t' := s.toks) (fun b u e => Heap.get?_push_of_some _ e) (Nat.le_refl _) ?_
    exact ⟨Nat.zero_le _, [], _, .nil, Heap.get?_push_size _ rfl⟩
  have f3 : ∀ b ∈ fp, FpOk X pins (upd H1 s.heap.objs.size (.lst [])) b := fun b hb => ⟨by rw [upd_ne (Nat.ne_of_lt (old b hb))]; exact (f2 b hb).1, (f2 b hb).2⟩
  have hsz : (s.heap.push { cls := .type "list", dict := none, data := .seq ([] : List Value).toArray }).objs.size = s.heap.objs.size + 1 := Heap.size_push ..
  have I4 := comp_start (C := (s.heap.push { cls := .type "list", dict := none, data := .seq ([] : List Value).toArray }).objs.size) (h1 := h1) (t := s.toks + ([] : List (Str × Value)).length) (fp := fp) S I3 f3 (Nat.le_refl _)
    (fun b hb => by rw [hsz]; exact Nat.ne_of_lt (Nat.lt_succ_of_lt (old b hb))) hns fun b o e => hsb.extBut b o (Nat.ne_of_lt (Heap.lt_size e)) (Heap.get?_push_of_some _ e)
  have st4 : tn 0 h1 := T.keep _ _ _ st2 fun b hb o e => by
    have e1 := Heap.get?_push_of_some { cls := .type "list", dict := none, data := .seq ([] : List Value).toArray } e
    exact hsb.extBut b o (Nat.ne_of_lt (Heap.lt_size e1)) (Heap.get?_push_of_some _ e1)
  have f4 : ∀ b ∈ fp, FpOk (cxComp X N scope (s.heap.push { cls := .type "list", dict := none, data := .seq ([] : List Value).toArray }).objs.size { s with heap := s.heap.push { cls := .type "list", dict := none, data := .seq ([] : List Value).toArray } } (upd H1 s.heap.objs.size (.lst [])) fp pins) [] (upd H1 s.heap.objs.size (.lst [])) b := fun b hb => by
    refine ⟨(f3 b hb).1, (I4.ok.exf b hb).1, I4.ok.exfs b hb, .inl hb, (I4.ok.exf b hb).2, fun p hp => ?_⟩
    have hp : p ∈ (X.pn ++ pins) ++ [] := hp
    rw [List.append_nil] at hp
    exact (f3 b hb).2.2.2.2.2 p hp
  obtain ⟨b1, b2, b3⟩ := hb (s.heap.push { cls := .type "list", dict := none, data := .seq ([] : List Value).toArray }).objs.size { s with heap := s.heap.push { cls := .type "list", dict := none, data := .seq ([] : List Value).toArray } } (upd H1 s.heap.objs.size (.lst [])) fp pins
  have run := comp_run (Y := cxComp X N scope (s.heap.push { cls := .type "list", dict := none, data := .seq ([] : List Value).toArray }).objs.size { s with heap := s.heap.push { cls := .type "list", dict := none, data := .seq ([] : List Value).toArray } } (upd H1 s.heap.objs.size (.lst [])) fp pins) (elt := elt) (iter := iter) (pos := pos) (scope := scope) (R := Z (.ref s.heap.objs.size) (s.heap.push { cls := .type "list", dict := none, data := .seq ([] : List Value).toArray }).objs.size) rfl hc I4 T st4 f4 b1 b2 b3 (q _ hD) fun s' σ' H' I' q' => by
    obtain ⟨J1, F1⟩ := comp_end I3 f3 (Nat.le_refl _) I'
    obtain ⟨m, hm, _⟩ := I'.loc
    exact hZ _ _ s' H' J1 F1 ⟨m, hm⟩ q'
  exact codeAny_compStart_list run (T.self _ 0 _ _ _ st4 run)
theorem pe_comp (S : CompScope X N fr scope) (hc : X.calm = true) (hi : PI X tg iter wi) (hb : PComp X N scope tg ifs elt g tt te)
    (hs : ∀ x, foldedSetIterable iter X.env x = pure x := by intro _; rfl) : PE X (.ListComp elt [⟨tg, iter, ifs, 0⟩] scope pos) (tComp wi g tt te fr) := by
  intro pins s σ H Q I h
  rw [eval_ListComp]
  refine wpAny_comprehension_free (use := none) rfl hs (closure_eq (S.cells I.ok)) S.kind S.names (thn (hi pins s σ H _ I h) fun v s1 h1 => thn h1 fun itv s2 h2 => ?_)
  refine comp_block (QQ := fun D H2 => Q (.ref D) H2) (Z := fun acc C => compPost (model X.prog X.w) X.A X.xe none (EP X pins σ Q) acc C) S hc hb h2 fun D C s' H' J F hm q => ?_
  obtain ⟨m, hm⟩ := hm
  refine ⟨m, hm, fun h' hs' => ⟨.ref D, H', ?_, rfl, q⟩⟩
  exact J.turned (t' := s'.toks) (fun b o hb e => hs'.extBut b o hb e) F.1 F.2.1 F.2.2.2.1 F.2.2.2.2.1 F.2.2.2.2.2
theorem ps_comp {i : Nat} {x : Str} {pos' spos : Pos} (S : CompScope X N fr scope) (hc : X.calm = true) (hi : PI X tg iter wi) (hb : PComp X N scope tg ifs elt g tt te) (hN : X.N.Nodup) (hx : X.N[i]? = some x) (hl : Loc X.env.scope x)
    (hsw : swapsWith (.ListComp elt [⟨tg, iter, ifs, 0⟩] scope pos) (some (.Name x pos')) spos.line X.env = pure true := by rfl)
    (hf : X.fn x = true ∨ X.env.scope.names.lookup x = some .local := by first | exact .inl rfl | exact .inr rfl | assumption)
    (hs : ∀ x, foldedSetIterable iter X.env x = pure x := by intro _; rfl) : PS X (.Assign [.Name x pos'] (.ListComp elt [⟨tg, iter, ifs, 0⟩] scope pos) spos) (tAsg (tComp wi g tt te fr) (gName i)) := by
  intro pins s σ H D I h
  rw [exec_Assign_Name_used _ _ _ _ hsw]
  refine wpAny_bind (wpAny_standAt (wpAny_bind ?_))
  show wpAny _ _ (do let _ ← comprehension (.ListComp elt [⟨tg, iter, ifs, 0⟩] scope pos) scope X.env _ (newList []) false (eval iter X.env) (some (assign (.Name x pos') X.env))) _ _ s
  refine wpAny_bind (thn (wpAny_comprehension_free (use := some (assign (.Name x pos') X.env)) (Q := fun _ s' => SP X pins D .next s') rfl hs (closure_eq (S.cells I.ok)) S.kind S.names (thn (hi pins s σ H _ I h) fun v s1 h1 => thn h1 fun itv s2 h2 => ?_)) fun _ s' hq => wpAny_pure (wpAny_pure hq))
  refine comp_block (QQ := fun d H2 => D.nx (σ.set i (some (.ref d))) H2) (Z := fun acc C => compPost (model X.prog X.w) X.A X.xe (some (assign (.Name x pos') X.env)) (fun _ s' => SP X pins D .next s') acc C) S hc hb h2 fun d C s' H' J F hm q => ?_
  obtain ⟨m, hm⟩ := hm
  show wpAny _ _ (assign (.Name x pos') X.env (.ref d)) _ _ s'
  refine wpAny_assign_Name (store_ok2 J hN hx hl (v := .ref d) rfl (fun s2 I2 ⟨a, sb, ha⟩ => ?_) hf)
  have hCa : C ≠ a := by
    rcases ha with e | e
    · rw [e]; exact F.2.1
    · exact fun z => F.2.2.2.2.1 x a e z.symm
  refine ⟨m, hm.sameBut sb hCa, fun h' hs' => ⟨_, H', ?_, q⟩⟩
  exact I2.turned (t' := s2.toks) (fun b o hb e => hs'.extBut b o hb e) F.1 F.2.1 F.2.2.2.1 F.2.2.2.2.1 F.2.2.2.2.2
end
section
variable {K : PySem.W.Frag} {a D : Addr} {xs : List V} {g : TG} {tt : TT} {te : TE} {σ' : St} {H1 : Hp} {Q : Hp → Prop}
theorem comp_list (Pv : Nat → St → List V → Hp → Prop) (h0 : Pv 0 σ' [] (upd H1 D (.lst []))) (hl : ∀ i σ ys H, i ≤ xs.length → Pv i σ ys H → SqL K H a xs)
    (hs : ∀ i x σ ys H, xs[i]? = some x → Pv i σ ys H → g x σ H fun σ2 H2 => tt σ2 H2 fun b H3 =>
      if b = true then te σ2 H3 fun y H4 => H4 D = some (.lst ys) ∧ ys.length < sizeLine ∧ Pv (i + 1) σ2 (ys ++ [y]) (upd H4 D (.lst (ys ++ [y]))) else Pv (i + 1) σ2 ys H3)
    (hd : ∀ σ ys H, Pv xs.length σ ys H → Q H) : tBlock (Itl K a) g tt te D σ' H1 Q := by
  refine ⟨fun i m σ ys H => m = xs.length - i ∧ i ≤ xs.length ∧ Pv i σ ys H, ⟨xs.length, by simp, Nat.zero_le _, h0⟩, ?_⟩
  rintro i m σ ys H ⟨rfl, hi, p⟩
  have q := hl i σ ys H hi p
  by_cases hlt : i < xs.length
  · refine .inr ⟨⟨xs, xs[i], q, by simp [hlt]⟩, Pv (i + 1), fun σ' ys' H' p' => ⟨xs.length - (i + 1), by omega, rfl, hlt, p'⟩, fun x H' y => ?_⟩
    obtain ⟨e, y⟩ := y
    subst e
    exact hs i x σ ys _ (y xs q) p
  · have e : i = xs.length := by omega
    subst e
    exact .inl ⟨⟨xs, q, Nat.le_refl _⟩, hd σ ys H p⟩
theorem comp_range {lo : Int} {n : Nat} (Pv : Nat → St → List V → Hp → Prop) (h0 : Pv 0 σ' [] (upd H1 D (.lst [])))
    (hs : ∀ i σ ys H, i < n → Pv i σ ys H → g (.int (lo + i)) σ H fun σ2 H2 => tt σ2 H2 fun b H3 =>
      if b = true then te σ2 H3 fun y H4 => H4 D = some (.lst ys) ∧ ys.length < sizeLine ∧ Pv (i + 1) σ2 (ys ++ [y]) (upd H4 D (.lst (ys ++ [y]))) else Pv (i + 1) σ2 ys H3)
    (hd : ∀ σ ys H, Pv n σ ys H → Q H) : tBlock (Itr lo n) g tt te D σ' H1 Q := by
  refine ⟨fun i m σ ys H => m = n - i ∧ i ≤ n ∧ Pv i σ ys H, ⟨n, by simp, Nat.zero_le _, h0⟩, ?_⟩
  rintro i m σ ys H ⟨rfl, hi, p⟩
  by_cases hlt : i < n
  · refine .inr ⟨hlt, Pv (i + 1), fun σ' ys' H' p' => ⟨n - (i + 1), by omega, rfl, hlt, p'⟩, fun x H' y => ?_⟩
    obtain ⟨e, y⟩ := y
    subst e y
    exact hs i σ ys _ hlt p
  · have e : i = n := by omega
    subst e
    exact .inl ⟨Nat.le_refl _, hd σ ys H p⟩
end
end L2
end
section
set_option Elab.async false
set_option linter.all false
set_option maxRecDepth 100000
set_option maxHeartbeats 4000000
namespace L2
open PySem PySem.Spec PyProof.Rows PySem.W
section
variable {X : Cx} {pins : List (Addr × Obj)} {σ : St} {H : Hp} {s : Shared}
theorem ObjOk.there {P : Program} {w : World} {H : Hp} {h : Heap} {a : Addr} {o : HO} (x : ObjOk P w H h a o) : ∃ ob, h.get? a = some ob := by
  cases o with
  | lst xs => obtain ⟨_, _, _, _, e⟩ := x; exact ⟨_, e⟩
  | tup xs => obtain ⟨_, _, _, ob, e, _⟩ := x; exact ⟨_, e⟩
  | dK kvs => obtain ⟨_, _, _, _, o, _, _, e, _⟩ := x; exact ⟨_, e⟩
  | dT kvs => obtain ⟨_, _, _, _, o, _, _, e, _⟩ := x; exact ⟨_, e⟩
  | set S n => obtain ⟨o, _, _, _, e, _⟩ := x; exact ⟨_, e⟩
  | ins C dx fs => obtain ⟨_, _, _, e, _⟩ := x; exact ⟨_, e⟩
  | own y => exact x
  | xd fs => obtain ⟨_, ⟨_, _, _, e, _⟩, _⟩ := x; exact ⟨_, e⟩
  | rng lo hi => obtain ⟨_, _, _, e⟩ := x; exact ⟨_, e⟩
  | frz ob u => obtain ⟨e, _⟩ := x; exact ⟨_, e⟩
  | tbl ps => exact ⟨_, (show h.get? a = some _ from x)⟩
  | met f y => exact ⟨_, (show h.get? a = some _ from x)⟩
  | ext φ => obtain ⟨_, e, _⟩ := x; exact e
theorem HOk.none_of {P : Program} {w : World} {H : Hp} {h : Heap} {a : Addr} (x : HOk P w H h) (e : h.get? a = none) : H a = none := by
  cases q : H a with
  | none => rfl
  | some u =>
    obtain ⟨o, z⟩ := (x a u q).there
    rw [e] at z; cases z
end
section
variable {P : Program} {w : World} {A : Around} {E : Value → Shared → Prop} {s : Shared}
end
end L2
end
section
set_option Elab.async false
set_option linter.all false
set_option maxRecDepth 100000
set_option maxHeartbeats 1000000
namespace L2
open PySem PySem.Spec PyProof.Rows PySem.W
section
variable {X : Cx}
theorem vals_at {xs : List V} {us : List Value} (r : Vals xs us) {i : Nat} {v : Value} (e : us[i]? = some v) : ∃ x, xs[i]? = some x ∧ RelV x v := by
  have hl := r.length
  have hi : i < xs.length := by have := (List.getElem?_eq_some_iff.mp e).1; omega
  obtain ⟨u, e1, e2⟩ := r.get (i := i) (x := xs[i]) (by simp [hi])
  rw [e] at e1; cases e1
  exact ⟨_, by simp [hi], e2⟩
end
end L2
end
section
set_option Elab.async false
set_option linter.all false
set_option maxRecDepth 100000
set_option maxHeartbeats 1000000
namespace L2
open PySem PySem.Spec PyProof.Rows
mutual
inductive Dt (K : PySem.W.Frag) (H : Hp) : V → PyData → Prop
  | non : Dt K H .non .none
  | bl (b : Bool) : Dt K H (.bl b) (.bool b)
  | int (i : Int) : Dt K H (.int i) (.int i)
  | str (x : Str) (h : (PyData.str x).canLay0 = true) : Dt K H (.str x) (.str x)
  | lst {a : Addr} {xs : List V} {ds : List PyData} (h : SqL K H a xs) (r : Dts K H xs ds) : Dt K H (.ref a) (.list ds)
  | tup {a : Addr} {xs : List V} {ds : List PyData} (h : SqT K H a xs) (r : Dts K H xs ds) : Dt K H (.ref a) (.tuple ds)
inductive Dts (K : PySem.W.Frag) (H : Hp) : List V → List PyData → Prop
  | nil : Dts K H [] []
  | cons {x : V} {d : PyData} {xs : List V} {ds : List PyData} (h : Dt K H x d) (r : Dts K H xs ds) : Dts K H (x :: xs) (d :: ds)
end
section
variable {X : Cx} {pins : List (Addr × Obj)} {σ : St} {H H' : Hp} {s : Shared}
mutual
theorem Dt.reads (I : Inv X pins σ H s) : ∀ (d : PyData) (v : V) (u : Value), Dt X.K H v d → RelV v u → ∃ as, Reads s.heap u d as
  | .none, _, _, .non, r => by cases r; exact ⟨_, .none⟩
  | .bool b, _, _, .bl _, r => by cases r; exact ⟨_, .bool b⟩
  | .int i, _, _, .int _, r => by obtain ⟨t, rfl⟩ := r; exact ⟨_, .int i t⟩
  | .str x, _, _, .str _ _, r => by obtain ⟨t, rfl⟩ := r; exact ⟨_, .str x t⟩
  | .list ds, _, _, .lst h hs, r => by
    cases r
    obtain ⟨its, rv, ⟨o, n, e, c, _, dd⟩, _⟩ := I.list h
    obtain ⟨as, q⟩ := Dts.reads I ds _ _ hs rv
    exact ⟨_, .list e c dd (by simpa using q)⟩
  | .tuple ds, _, _, .tup h hs, r => by
    cases r
    obtain ⟨its, rv, ⟨o, e, c, n, dd⟩, _⟩ := I.tuple h
    obtain ⟨as, q⟩ := Dts.reads I ds _ _ hs rv
    exact ⟨_, .tuple e c dd (by simpa using q)⟩
  | .dict _, _, _, h, _ => nomatch h
theorem Dts.reads (I : Inv X pins σ H s) : ∀ (ds : List PyData) (xs : List V) (us : List Value), Dts X.K H xs ds → Vals xs us → ∃ as, ReadsAll s.heap us ds as
  | [], _, _, .nil, r => by cases r; exact ⟨_, .nil⟩
  | d :: ds, _, _, .cons h hs, r => by
    cases r with
    | cons r rs =>
      obtain ⟨as, q⟩ := Dt.reads I d _ _ h r
      obtain ⟨bs, p⟩ := Dts.reads I ds _ _ hs rs
      exact ⟨_, .cons q p⟩
end
mutual
theorem Dt.can {K : PySem.W.Frag} : ∀ (d : PyData) (v : V), Dt K H v d → d.canLay0 = true
  | .none, _, _ => rfl
  | .bool b, _, _ => rfl
  | .int i, _, _ => rfl
  | .str x, _, .str _ h => h
  | .list ds, _, .lst _ hs => Dts.can ds _ hs
  | .tuple ds, _, .tup _ hs => Dts.can ds _ hs
  | .dict _, _, h => nomatch h
theorem Dts.can {K : PySem.W.Frag} : ∀ (ds : List PyData) (xs : List V), Dts K H xs ds → PyData.canLayAll0 ds = true
  | [], _, _ => rfl
  | d :: ds, _, .cons h hs => by rw [PyData.canLayAll0, Dt.can d _ h, Dts.can ds _ hs]; rfl
end
mutual
def noBl : PyData → Bool
  | .bool _ => false
  | .list ds => noBlAll ds
  | .tuple ds => noBlAll ds
  | .dict _ => false
  | _ => true
def noBlAll : List PyData → Bool
  | [] => true
  | d :: ds => noBl d && noBlAll ds
end
mutual
theorem eqv_iff : ∀ (d e : PyData), noBl d = true → noBl e = true → (PyData.eqv d e = true ↔ d = e)
  | .none, e, _, h => by cases e <;> simp [PyData.eqv]
  | .bool b, _, h, _ => nomatch h
  | .int i, e, _, h => by
    cases e with
    | bool _ => exact nomatch h
    | _ => simp [PyData.eqv]
  | .str i, e, _, h => by
    cases e with
    | bool _ => exact nomatch h
    | _ => simp [PyData.eqv]
  | .list xs, e, h1, h => by
    cases e with
    | list ys => rw [PyData.eqv, eqvAll_iff xs ys h1 h]; simp
    | _ => simp [PyData.eqv]
  | .tuple xs, e, h1, h => by
    cases e with
    | tuple ys => rw [PyData.eqv, eqvAll_iff xs ys h1 h]; simp
    | _ => simp [PyData.eqv]
  | .dict _, _, h, _ => nomatch h
theorem eqvAll_iff : ∀ (ds es : List PyData), noBlAll ds = true → noBlAll es = true → (PyData.eqvAll ds es = true ↔ ds = es)
  | [], [], _, _ => by simp [PyData.eqvAll]
  | [], _ :: _, _, _ => by simp [PyData.eqvAll]
  | _ :: _, [], _, _ => by simp [PyData.eqvAll]
  | d :: ds, e :: es, h1, h2 => by
    have a1 : noBl d = true ∧ noBlAll ds = true := by simpa [noBlAll] using h1
    have a2 : noBl e = true ∧ noBlAll es = true := by simpa [noBlAll] using h2
    rw [PyData.eqvAll, Bool.and_eq_true, eqv_iff d e a1.1 a2.1, eqvAll_iff ds es a1.2 a2.2]
    simp
end
def rEqD (K : PySem.W.Frag) (neg : Bool) : R2 := fun x y H Q => ∃ d e : PyData, Dt K H x d ∧ Dt K H y e ∧ d.depth ≤ 60 ∧ Q (.bl (if neg then !PyData.eqv d e else PyData.eqv d e)) H
theorem min60 {u a b : Nat} (h : u + 64 < cLine) (h' : a ≤ 60) : u + min a b < cLine := by
  have : min a b ≤ a := Nat.min_le_left _ _
  omega
theorem op_eqD (hu : X.A.units + 64 < cLine) : OpR X (compareOp .Eq) (rEqD X.K false) := by
  intro pins s σ H x y v u Q I rx ry h
  obtain ⟨d, e, hd, he, hz, q⟩ := h
  obtain ⟨as, ra⟩ := Dt.reads I d x v hd rx
  obtain ⟨bs, rb⟩ := Dt.reads I e y u he ry
  exact PySem.SeqAt.compareEq_reads ra rb (Dt.can d x hd) (Dt.can e y he) (min60 hu hz) ⟨.bl _, H, I, rfl, q⟩
theorem op_neD (hu : X.A.units + 64 < cLine) : OpR X (compareOp .NotEq) (rEqD X.K true) := by
  intro pins s σ H x y v u Q I rx ry h
  obtain ⟨d, e, hd, he, hz, q⟩ := h
  obtain ⟨as, ra⟩ := Dt.reads I d x v hd rx
  obtain ⟨bs, rb⟩ := Dt.reads I e y u he ry
  exact PySem.SeqAt.compareNe_reads ra rb (Dt.can d x hd) (Dt.can e y he) (min60 hu hz) ⟨.bl _, H, I, rfl, q⟩
end
end L2
end
section
set_option Elab.async false
set_option linter.all false
set_option maxRecDepth 100000
set_option maxHeartbeats 1000000
namespace L2
open PySem PySem.Spec PyProof.Rows
def Exc (h : Heap) (e : Addr) (cls : Value) (d : Option Addr) : Prop :=
  ∃ (oe : Obj) (vs : Array Value), h.get? e = some oe ∧ oe.cls = cls ∧ oe.dict = d ∧ oe.data = .fields vs ∧ vs[2]? = some .none ∧
    (vs[1]? = some .none ∨ ∃ (T : Addr) (oT : Obj) (ts : Array Value), vs[1]? = some (.ref T) ∧ T ≠ e ∧ h.get? T = some oT ∧ oT.data = .fields ts ∧ ts[3]? = some .none)
theorem get_same {h : Heap} {a : Addr} {o : Obj} {f : Obj → Obj} (e : h.get? a = some o) (hf : f o = o) (b : Addr) : (h.update a f).get? b = h.get? b := by
  by_cases hb : b = a
  · subst hb
    have hfree : (f o).isFreed = false := by rw [hf]; exact (Heap.get?_some_iff.mp e).2
    rw [Heap.get?_update_self f e hfree, hf, e]
  · exact Heap.get?_update_other h f (Ne.symm hb)
theorem fields_same {o : Obj} {ts : Array Value} {i : Nat} {v : Value} (hd : o.data = .fields ts) (hi : ts[i]? = some v) : Obj.mapFields (·.setIfInBounds i v) o = o := by
  obtain ⟨c, dt, d, sl⟩ := o
  have hd : d = .fields ts := hd
  subst hd
  have e : ts.setIfInBounds i v = ts := by
    refine Array.ext (by simp) fun j h1 h2 => ?_
    by_cases hj : i = j
    · subst hj
      obtain ⟨hlt, z⟩ := Array.getElem?_eq_some_iff.mp hi
      rw [Array.getElem_setIfInBounds]
      · simp [z]
      · exact hlt
    · rw [Array.getElem_setIfInBounds]
      · simp [hj]
      · exact h2
  show ({ cls := c, dict := dt, data := .fields (ts.setIfInBounds i v), slots := sl } : Obj) = _
  rw [e]
section
variable {M : Model} {A : Around} {E : Value → Shared → Prop} {s : Shared} {base : Heap} {env : Env} {outer : List Env} {L e : Addr} {cls : Value} {d : Option Addr}
structure LeftB (fs : List Addr) (e : Addr) (h h' : Heap) : Prop where
  keep : ∀ b o, b ≠ e → b ∉ fs → h.get? b = some o → h'.get? b = some o
  slot : ∀ b o, b ≠ e → h.get? b = some o → ∃ sl, h'.get? b = some { o with slots := sl }
theorem entry_ok {oe : Obj} {vs : Array Value} {head : Value} {had : Bool} {Q : Unit → Shared → Prop} (hfr : A.frames = some (env :: outer)) (hl : s.heap.FunFrames base (env :: outer)) (hf : env.frame = some L)
    (he : s.heap.get? e = some oe) (hc : oe.cls = cls) (hdd : oe.dict = d) (hd : oe.data = .fields vs) (hc2 : vs[2]? = some .none) (hsz : 1 < vs.size)
    (h : ∀ h', Exc h' e cls d → LeftB (frs (env :: outer)) e s.heap h' → Q () { s with heap := h' }) :
    wpAny M A (do let a ← frameOf env; let pl ← entryPlaceOf L had; let b ← EntryCells.newEntry head a .none (rawInt L) .none pl; setField (.ref e) 1 b) (fun _ s' => wpAny M A (setFlight (.ref e) none) Q E s') E s := by
  have hene : e ∉ frs (env :: outer) := fun hm => by
    obtain ⟨_, o, ho, hnf⟩ := hl.mem hm
    rw [he] at ho; cases ho; exact hnf vs hd
  refine wpAny_bind (wpAny_frameOf_fun hfr hl hf fun h1 hs1 => wpAny_bind (wpAny_entryPlaceOf fun pl hpl => ?_))
  unfold EntryCells.newEntry newFields
  refine wpAny_bind (wpAny_newObj_type ?_ (hpl.sizeOk5 _ _ _ _ _))
  generalize hO : ({ cls := .type "traceback", dict := none, data := .fields ([head, .ref L, .none, rawInt L, .none] ++ (if pl.isEmpty then List.replicate 6 Value.none else pl)).toArray } : Obj) = oT
  have hOd : oT.data = .fields ([head, .ref L, .none, rawInt L, .none] ++ (if pl.isEmpty then List.replicate 6 Value.none else pl)).toArray := by rw [← hO]
  have e1 : h1.get? e = some oe := (hs1.2.1 e hene).trans he
  have e2 : (h1.push oT).get? e = some oe := Heap.get?_push_of_some _ e1
  have hTe : h1.objs.size ≠ e := Nat.ne_of_gt (Heap.lt_size e1)
  have eT : (h1.push oT).get? h1.objs.size = some oT := Heap.get?_push_size _ (Obj.isFreed_of_fields hOd)
  refine wpAny_setField e2 hd hsz ?_
  have hd3 := Obj.data_mapFields hd (·.setIfInBounds 1 (Value.ref h1.objs.size))
  have e3 := Heap.get?_update_self (Obj.mapFields (·.setIfInBounds 1 (Value.ref h1.objs.size))) e2 (Obj.isFreed_of_fields hd3)
  have T3 := (Heap.get?_update_other (h1.push oT) (Obj.mapFields (·.setIfInBounds 1 (Value.ref h1.objs.size))) (Ne.symm hTe)).trans eT
  unfold setFlight
  refine wpAny_bind (wpAny_field e3 hd3 (x := .ref h1.objs.size) (by simp [hsz]) ?_)
  rw [if_pos (show (Value.ref h1.objs.size != Value.none) = true by simp)]
  have h3z : 3 < ([head, .ref L, .none, rawInt L, .none] ++ (if pl.isEmpty then List.replicate 6 Value.none else pl)).toArray.size := by
    simp only [List.size_toArray, List.length_append, List.length_cons, List.length_nil]; omega
  refine wpAny_setField T3 hOd h3z (h _ ?_ ?_)
  · refine ⟨_, _, (Heap.get?_update_other _ _ hTe).trans e3, (Obj.cls_mapFields _ _).trans hc, ?_, hd3, by rw [Array.getElem?_setIfInBounds_ne (by decide)]; exact hc2, .inr ⟨h1.objs.size, _, _, by simp [hsz], hTe, Heap.get?_update_self _ T3 (Obj.isFreed_of_fields (Obj.data_mapFields hOd _)), Obj.data_mapFields hOd _, by simp⟩⟩
    obtain ⟨c0, d0, dt0, sl0⟩ := oe
    cases dt0 <;> exact hdd
  · have keep : ∀ b o, b ≠ e → h1.get? b = some o → (((h1.push oT).update e (Obj.mapFields (·.setIfInBounds 1 (Value.ref h1.objs.size)))).update h1.objs.size (Obj.mapFields (·.setIfInBounds 3 ((none : Option Addr).elim Value.none fun f => rawInt f)))).get? b = some o := fun b o hb q => by
      rw [Heap.get?_update_other _ _ (Nat.ne_of_gt (Heap.lt_size q)), Heap.get?_update_other _ _ (Ne.symm hb)]
      exact Heap.get?_push_of_some _ q
    exact ⟨fun b o hb hn q => keep b o hb ((hs1.2.1 b hn).trans q), fun b o hb q => by
      obtain ⟨sl, z⟩ := hs1.2.2 b o q
      exact ⟨sl, keep b _ hb z⟩⟩
theorem note_ok {Q : Unit → Shared → Prop} (hfr : A.frames = some (env :: outer)) (hl : s.heap.FunFrames base (env :: outer)) (hf : env.frame = some L) (x : Exc s.heap e cls d)
    (h : ∀ h', Exc h' e cls d → LeftB (frs (env :: outer)) e s.heap h' → Q () { s with heap := h' }) : wpAny M A (noteFrame (.ref e) env) (fun _ s' => wpAny M A (setFlight (.ref e) none) Q E s') E s := by
  obtain ⟨oe, vs, he, hc, hdd, hd, hc2, tb⟩ := x
  unfold noteFrame
  simp only [hf]
  rcases tb with h1 | ⟨T, oT, ts, h1, hTe, hT, hdT, h3⟩
  · refine wpAny_bind (wpAny_field he hd h1 ?_)
    rw [if_neg (by decide)]
    exact entry_ok hfr hl hf he hc hdd hd hc2 (Array.getElem?_eq_some_iff.mp h1).1 h
  · refine wpAny_bind (wpAny_field he hd h1 ?_)
    rw [if_pos (show (Value.ref T != Value.none) = true by simp)]
    refine wpAny_bind (wpAny_field hT hdT h3 ?_)
    rw [if_neg (show ¬ ((Value.none == rawInt L) = true) by simp [rawInt])]
    refine wpAny_bind (wpAny_setField hT hdT (Array.getElem?_eq_some_iff.mp h3).1 ?_)
    have same := get_same hT (fields_same hdT h3)
    have hl2 : (s.heap.update T (Obj.mapFields (·.setIfInBounds 3 Value.none))).FunFrames base (env :: outer) := hl.of_keeps fun b o hb _ => ⟨o, (same b).trans hb, rfl⟩
    refine entry_ok (s := { s with heap := s.heap.update T (Obj.mapFields (·.setIfInBounds 3 Value.none)) }) hfr hl2 hf ((same e).trans he) hc hdd hd hc2 (Array.getElem?_eq_some_iff.mp h1).1 fun h' x1 x2 => h h' x1 ⟨fun b o hb hn q => x2.keep b o hb hn ((same b).trans q), fun b o hb q => x2.slot b o hb ((same b).trans q)⟩
theorem leave_ok {Q : Unit → Shared → Prop} (hfr : A.frames = some (env :: outer)) (hl : s.heap.FunFrames base (env :: outer)) (hf : env.frame = some L) (x : Exc s.heap e cls d)
    (h : ∀ h', Exc h' e cls d → LeftB (frs (env :: outer)) e s.heap h' → Q () { s with heap := h' }) : wpAny M A (leaving env (.ref e)) Q E s := by
  unfold leaving
  exact wpAny_bind (note_ok hfr hl hf x h)
theorem flight_ok {Q : Unit → Shared → Prop} (x : Exc s.heap e cls d) (h : ∀ h', Exc h' e cls d → (∀ b, h'.get? b = s.heap.get? b) → Q () { s with heap := h' }) : wpAny M A (setFlight (.ref e) none) Q E s := by
  obtain ⟨oe, vs, he, hc, hdd, hd, hc2, tb⟩ := id x
  unfold setFlight
  rcases tb with h1 | ⟨T, oT, ts, h1, hTe, hT, hdT, h3⟩
  · refine wpAny_bind (wpAny_field he hd h1 ?_)
    rw [if_neg (by decide)]
    exact wpAny_pure (h s.heap x fun _ => rfl)
  · refine wpAny_bind (wpAny_field he hd h1 ?_)
    rw [if_pos (show (Value.ref T != Value.none) = true by simp)]
    refine wpAny_setField hT hdT (Array.getElem?_eq_some_iff.mp h3).1 ?_
    have same := get_same hT (fields_same hdT h3)
    exact h _ ⟨oe, vs, (same e).trans he, hc, hdd, hd, hc2, .inr ⟨T, oT, ts, h1, hTe, (same T).trans hT, hdT, h3⟩⟩ same
end
theorem ObjOk.isThere {P : Program} {w : World} {H : Hp} {h : Heap} {a : Addr} {o : HO} (x : ObjOk P w H h a o) : ∃ ob, h.get? a = some ob := by
  cases o with
  | lst xs => obtain ⟨_, _, _, _, e⟩ := x; exact ⟨_, e⟩
  | tup xs => obtain ⟨_, _, _, ob, e, _⟩ := x; exact ⟨_, e⟩
  | dK kvs => obtain ⟨_, _, _, _, o, _, _, e, _⟩ := x; exact ⟨_, e⟩
  | dT kvs => obtain ⟨_, _, _, _, o, _, _, e, _⟩ := x; exact ⟨_, e⟩
  | set S n => obtain ⟨o, _, _, _, e, _⟩ := x; exact ⟨_, e⟩
  | ins C dx fs => obtain ⟨_, _, _, e, _⟩ := x; exact ⟨_, e⟩
  | own y => exact x
  | xd fs => obtain ⟨_, ⟨_, _, _, e, _⟩, _⟩ := x; exact ⟨_, e⟩
  | rng lo hi => obtain ⟨_, _, _, e⟩ := x; exact ⟨_, e⟩
  | frz ob u => obtain ⟨e, _⟩ := x; exact ⟨_, e⟩
  | tbl ps => exact ⟨_, (show h.get? a = some _ from x)⟩
  | met f y => exact ⟨_, (show h.get? a = some _ from x)⟩
  | ext φ => obtain ⟨_, e, _⟩ := x; exact e
theorem HOk.none_of' {P : Program} {w : World} {H : Hp} {h : Heap} {a : Addr} (x : HOk P w H h) (e : h.get? a = none) : H a = none := by
  cases q : H a with
  | none => rfl
  | some u =>
    obtain ⟨o, z⟩ := (x a u q).isThere
    rw [e] at z; cases z
def CX1 (P : Program) (w : World) : CXT := fun outer H s E e s' => ∃ (x : Addr) (cls : Value) (d : Option Addr) (H' : Hp), e = .ref x ∧ Exc s'.heap x cls d ∧ s.heap.get? x = none ∧ H' x = none ∧
  s'.os = s.os ∧ AllBare s'.gens ∧ Un (frs outer) [] H H' s.heap s'.heap ∧ HOk P w H' s'.heap ∧ E cls d H'
theorem FnOk.lift {P : Program} {w : World} {K : PySem.W.Frag} {mg : Str → Option Value} {base : Heap} {CX : CXT} {k : Nat} {f : Addr} {fd : FuncData} {ps : List Str} {sp : Sp} (F : FnOk P w K mg base CX0 k f fd ps sp) : FnOk P w K mg base CX k f fd ps sp :=
  ⟨F.len, fun A outer s H args us vs Q E hr e0 hb hv hs => codeAny_mono (F.run A outer s H args us vs Q E hr e0 hb hv hs) fun r s' h => by
    cases r with
    | ok fl => cases fl <;> exact h
    | error e => exact False.elim h⟩
section
variable {X : Cx} {pins : List (Addr × Obj)} {σ : St} {H : Hp} {s : Shared}
theorem Inv.oldNone {x : Addr} (I : Inv X pins σ H s) (h : s.heap.get? x = none) (hx : x ∉ X.ex) : X.s₀.heap.get? x = none := by
  cases e : X.s₀.heap.get? x with
  | none => rfl
  | some o =>
    obtain ⟨o', z⟩ := I.base.there x o e hx
    rw [h] at z; cases z
theorem lets_of {P : Program} {w : World} {K : PySem.W.Frag} {mg : Str → Option Value} {base : Heap} {N : List Str} {qual : Str} {scope : Scope} {f : Addr} {cd : Value} {A : Around} {outer : List Env} {s0 : Shared} {H0 : Hp} {E : XK} {x : Addr} {cls : Value} {d : Option Addr}
    (I : Inv (cxOf (CX1 P w) P w K mg base N qual scope f cd A outer s0 H0 E) pins σ H s) (hx : Exc s.heap x cls d) (hn : s0.heap.get? x = none) (hH : H x = none) (q : E cls d H) :
    (cxOf (CX1 P w) P w K mg base N qual scope f cd A outer s0 H0 E).xe (.ref x) s := by
  show wpAny _ _ (leaving _ (.ref x)) _ _ s
  have hfs := I.stkFree
  refine leave_ok (outer := outer) I.ok.frames I.stack rfl hx fun h' x1 x2 => ?_
  have nx : ∀ b o, s0.heap.get? b = some o → b ≠ x := fun b o e z => by rw [z, hn] at e; cases e
  have nL : ∀ b o, s0.heap.get? b = some o → b ∉ frs outer → b ∉ frs (envOfC qual scope s0.heap.objs.size f cd :: outer) := fun b o e hb hm => by
    rcases List.mem_cons.mp (I.stkSub b hm) with z | z
    · exact absurd (Heap.lt_size e) (by rw [z]; exact Nat.not_lt.mpr I.ok.above)
    · exact hb z
  refine ⟨x, cls, d, H, rfl, x1, hn, hH, I.os, I.bare, ⟨fun b o e n hb hx' => ?_, fun b o e n hb hx' => ?_, fun b o e n hx' => I.base.free b o e n hx', fun b o e hx' => ?_, I.base.tups, I.base.frzs, I.base.tbls⟩, fun b u e => ?_, q⟩
  · exact x2.keep b o (nx b o e) (nL b o e hb) (I.base.keep b o e n hb hx')
  · obtain ⟨sl, z⟩ := I.base.slot b o e n hb hx'
    obtain ⟨sl', z'⟩ := x2.slot b _ (nx b o e) z
    exact ⟨sl', z'⟩
  · obtain ⟨o', z⟩ := I.base.there b o e hx'
    obtain ⟨sl, z'⟩ := x2.slot b _ (nx b o e) z
    exact ⟨_, z'⟩
  · have nf : ∀ c v, H c = some v → c ∉ frs (envOfC qual scope s0.heap.objs.size f cd :: outer) := fun c v z hm => by
      have := hfs c hm
      rw [z] at this; cases this
    have ne : ∀ c v, H c = some v → c ≠ x := fun c v z y => by rw [y, hH] at z; cases z
    refine (I.hok b u e).stay (fun c v hc r => ?_) (fun _ r => r) fun _ _ r => r
    rcases hc with z | z
    · rw [z] at r ⊢; exact x2.keep b v (ne b u e) (nf b u e) r
    · exact x2.keep c v (ne c _ z) (nf c _ z) r
theorem pass1 {P : Program} {w : World} {K : PySem.W.Frag} {mg : Str → Option Value} {base : Heap} {N : List Str} {qual : Str} {scope : Scope} {f : Addr} {cd : Value} {A : Around} {outer : List Env} {s0 : Shared} {H0 : Hp} {E : XK} :
    Passes (CX1 P w) (cxOf (CX1 P w) P w K mg base N qual scope f cd A outer s0 H0 E) E := by
  rintro pins σ H s e s' I ⟨x, cls, d, H', rfl, hx, hn, hH, os, bare, un, hok, q⟩
  refine lets_of (I.call' (ch := []) os un hok bare (fun b z => absurd z (by simp))) hx ?_ hH q
  exact I.oldNone hn (fun z => by cases z)
end
abbrev bmV : List Value := [.type "ValueError", .type "Exception", .type "BaseException", .type "object"]
theorem exc_obj {K : PySem.W.Frag} {C : Addr} {newId : String} {h : Heap} {bmB : List Value} (X : K.In h) (q : PySem.W.excIn K C bmB newId = true) :
    ∃ bm N nm q bs hdct sn sub ab col dd k0 k1 k2 k3 k5 mN, h.get? C = some (excClassObj nm q C N bs bm hdct sn sub ab col dd k0 k1 k2 k3 k5 newId) ∧ h.Ns N mN ∧ mN "__init__" = none ∧ OwnTail h bmB bm := by
  unfold PySem.W.excIn at q
  split at q
  · rename_i dd cd sl ho
    split at q
    · rename_i C' bm k0 k1 k2 k3 n k5 hm hs
      simp only [Bool.and_eq_true, beq_iff_eq, Bool.not_eq_true'] at q
      obtain ⟨⟨⟨⟨⟨rfl, rfl⟩, hdel⟩, ht⟩, hok⟩, hni⟩ := q
      obtain ⟨nm, bs, mro, ns, qn, hd, sn, sub, ab, col, del⟩ := cd
      dsimp only at hm hdel hok hni
      subst hm hdel
      have hsl : sl = #[k0, k1, k2, k3, some (.builtin n), k5] := by
        cases sl
        simp only at hs
        rw [hs]
      subst hsl
      exact ⟨bm, ns, nm, qn, bs, hd, sn, sub, ab, col, dd, k0, k1, k2, k3, k5, _, X _ _ ho, .of_isNs (PySem.W.isNs_of_in X hok), PySem.W.nsMap_none_of_in X hok hni, PySem.W.tail_of_in X ht⟩
    · cases q
  · cases q
def Lets (X : Cx) (E : XK) : Prop := ∀ (pins : List (Addr × Obj)) (σ : St) (H : Hp) (s : Shared) (x : Addr) (cls : Value) (d : Option Addr), Inv X pins σ H s → Exc s.heap x cls d → X.s₀.heap.get? x = none → (∀ p ∈ X.pn ++ pins, p.1 ≠ x) → H x = none → E cls d H → X.xe (.ref x) s
theorem lets1 {P : Program} {w : World} {K : PySem.W.Frag} {mg : Str → Option Value} {base : Heap} {N : List Str} {qual : Str} {scope : Scope} {f : Addr} {cd : Value} {A : Around} {outer : List Env} {s0 : Shared} {H0 : Hp} {E : XK} :
    Lets (cxOf (CX1 P w) P w K mg base N qual scope f cd A outer s0 H0 E) E := fun _ _ _ _ _ _ _ I hx hn _ hH q => lets_of I hx hn hH q
section
variable {X : Cx} {E : XK} {x : Str} {C : Addr} {np cpos pos : Pos} {e : Expr} {es : List Expr} {t : TA}
def tRaise (E : XK) (C : Addr) (t : TA) : TS := fun _ σ H => t σ H fun vs H1 => vs.length ≤ sizeLine ∧ E (.ref C) none H1
theorem ps_raise (hE : Lets X E) (hc : X.calm = true) (hnx : X.ex = []) (hg : Gl X x) (hm : X.mg x = some (.ref C)) (hq : PySem.W.excIn X.K C bmV "ValueError.__new__" = true) (ha : PA X (e :: es) t)
    (he : starEach (e :: es) X.env = (false, eval e X.env) :: starEach es X.env := by rfl) (hpl : (backTo cpos (starEach es X.env)).any (·.1) = false := by rfl) (hd : (x == ("__debug__" : Str)) = false := by decide) :
    PS X (.Raise (some (.Call (.Name x np) (e :: es) [] cpos)) none pos) (tRaise E C t) := by
  intro pins s σ H D I h
  obtain ⟨tl, N, nm, q, bs, hdct, sn, sub, ab, col, dd, k0, k1, k2, k3, k5, mN, hC, hN, hni, T⟩ := exc_obj I.mod.kin hq
  refine wpAny_Raise_call_subT (C := C) (nm := nm) (q := q) (N := N) (bs := bs) (bm := tl) (hdct := hdct) (sn := sn) (sub := sub) (ab := ab) (col := col) (dd := dd) (k0 := k0) (k1 := k1) (k2 := k2) (k3 := k3) (k5 := k5)
    PySem.F.excBase_ValueError (mN := mN) (T.hasType PySem.F.excBase_ValueError.hasBase) (I.ok.hd hc) (by rw [he]; show (false || (backTo cpos (starEach es X.env)).any (·.1)) = false; rw [hpl]; rfl) hni (ld_glob I hg hm ⟨rfl, ?_⟩ hd)
  have ha' := ha cpos pins s σ H _ I h
  rw [he] at ha' ⊢
  refine Calls.evalArgs_plain (thn ha' fun us s1 ⟨vs, H1, I1, r1, hz, q1⟩ => ⟨rfl, by rw [← r1.length]; exact hz, I1.bk _ _ hC, hN.keeps I1.bk, T.keeps I1.bk, fun h' x' me => ?_⟩)
  obtain ⟨tt, hx', _, _⟩ := me.there
  have I2 : Inv X pins σ H1 { s1 with heap := h' } := I1.kept (t' := s1.toks) me.keeps
  exact hE pins σ H1 _ x' (.ref C) none I2 ⟨_, _, hx', rfl, rfl, rfl, rfl, .inl rfl⟩ (I1.oldNone me.new (by rw [hnx]; simp)) (fun p hp z => by
    have e := (I1.pin p hp).1
    rw [z, me.new] at e; cases e) (I1.hok.none_of' me.new) q1
end
end L2
end
section
set_option Elab.async false
set_option linter.all false
set_option maxRecDepth 100000
set_option maxHeartbeats 1000000
namespace L2
open PySem PySem.Spec PyProof.Rows
def clsIn (K : PySem.W.Frag) (C : Addr) : Option (List Value) := match K.lookup C with
  | some ⟨.type "type", _, .cls cd, sl⟩ => (match cd.mro, sl.toList with
    | .ref C' :: bm, [_, _, _, _, some (.builtin n), _] => if C' == C && n == "ValueError.__new__" && !cd.hasDel then some bm else none
    | _, _ => none)
  | _ => none
theorem cls_obj {K : PySem.W.Frag} {C : Addr} {h : Heap} {bm : List Value} (X : K.In h) (q : clsIn K C = some bm) :
    ∃ N nm q bs hdct sn sub ab col dd k0 k1 k2 k3 k5, h.get? C = some (excClassObj nm q C N bs bm hdct sn sub ab col dd k0 k1 k2 k3 k5 "ValueError.__new__") := by
  unfold clsIn at q
  split at q
  · rename_i dd cd sl ho
    split at q
    · rename_i C' bm' k0 k1 k2 k3 n k5 hm hs
      split at q
      · rename_i hq
        simp only [Bool.and_eq_true, beq_iff_eq, Bool.not_eq_true'] at hq
        obtain ⟨⟨rfl, rfl⟩, hdel⟩ := hq
        cases q
        obtain ⟨nm, bs, mro, ns, qn, hd, sn, sub, ab, col, del⟩ := cd
        dsimp only at hm hdel
        subst hm hdel
        have hsl : sl = #[k0, k1, k2, k3, some (.builtin "ValueError.__new__"), k5] := by
          cases sl
          simp only at hs
          rw [hs]
        subst hsl
        exact ⟨ns, nm, qn, bs, hd, sn, sub, ab, col, dd, k0, k1, k2, k3, k5, X _ _ ho⟩
      · cases q
    · cases q
  · cases q
theorem exc_match {M : Model} {A : Around} {E : Value → Shared → Prop} {s : Shared} {Q : Bool → Shared → Prop} {e C Ch : Addr} {oe : Obj} {nm q : Str} {N : Addr} {bs bm : List Value} {hdct : Bool} {sn : List Str} {sub : List Value} {ab : Bool} {col : Option Bool} {dd : Option Addr} {k0 k1 k2 k3 k5 : Option Value} {newId : String}
    {nm' q' : Str} {N' : Addr} {bs' bm' : List Value} {hdct' : Bool} {sn' : List Str} {sub' : List Value} {ab' : Bool} {col' : Option Bool} {dd' : Option Addr} {l0 l1 l2 l3 l5 : Option Value} {newId' : String}
    (hC : s.heap.get? C = some (excClassObj nm q C N bs bm hdct sn sub ab col dd k0 k1 k2 k3 k5 newId)) (hH : s.heap.get? Ch = some (excClassObj nm' q' Ch N' bs' bm' hdct' sn' sub' ab' col' dd' l0 l1 l2 l3 l5 newId'))
    (he : s.heap.get? e = some oe) (hcls : oe.cls = .ref C) (hb : bm'.contains (.type "BaseException") = true) (hm : (Value.ref C :: bm).contains (.ref Ch) = true) (hq : Q true s) :
    wpAny M A (excMatches (.ref e) (.ref Ch)) Q E s := by
  obtain ⟨h, g, d, t, os⟩ := s
  have hcB : (Value.ref Ch :: bm').contains (.type "BaseException") = true := by rw [List.contains_cons, hb, Bool.or_true]
  have f := tc_notTuple
  unfold excMatches
  repeat (first | (with_reducible refine wpAny_loadPart_at he ?_; rw [hcls]) | with_reducible refine wpAny_loadPart_at hH ?_ | with_reducible refine wpAny_loadPart_at hC ?_ | (with_reducible refine wpAny_isSubtype_exc hH ?_; rw [hcB]) | (with_reducible refine wpAny_isSubtype_exc hC ?_; rw [hm]) | wp_step)
  exact hq
def ExcO (x : Addr) (cls : Value) (d : Option Addr) : HO := .ext fun h => ∃ (oe : Obj) (vs : Array Value), h.get? x = some oe ∧ oe.cls = cls ∧ oe.dict = d ∧ oe.data = .fields vs ∧ vs[2]? = some .none
theorem excO_ok {P : Program} {w : World} {H : Hp} {h : Heap} {x : Addr} {cls : Value} {d : Option Addr} (e : Exc h x cls d) : ObjOk P w H h x (ExcO x cls d) := by
  obtain ⟨oe, vs, h1, h2, h3, h4, h5, _⟩ := e
  refine ⟨⟨oe, vs, h1, h2, h3, h4, h5⟩, ⟨oe, h1⟩, fun a b p k => ?_⟩
  obtain ⟨oe, vs, h1, h2, h3, h4, h5⟩ := p
  exact ⟨oe, vs, k oe h1, h2, h3, h4, h5⟩
abbrev cxSuite (X : Cx) (x : Addr) : Cx := { X with A := X.A.mark (some (.ref x)), calm := false, xe := fun _ _ => False }
section
variable {X : Cx} {pins : List (Addr × Obj)} {σ : St} {H : Hp} {s : Shared}
theorem Inv.suite (I : Inv X pins σ H s) (x : Addr) : Inv (cxSuite X x) pins σ H s :=
  ⟨⟨I.ok.mod, I.ok.kind, I.ok.glob, I.ok.blt, I.ok.above, I.ok.inj, I.ok.has, I.ok.cab, (fun z => absurd z (by show ¬ (false = true); decide)), I.ok.frames, I.ok.stk, I.ok.exf, I.ok.bs, I.ok.bsz, I.ok.noex, I.ok.exfs, I.ok.funs, I.ok.frf⟩, I.os, I.bare, I.base, I.loc, I.cell, I.free, I.freeC, I.pin, I.hok, I.len⟩
theorem Inv.unsuite {x : Addr} (J : Inv (cxSuite X x) pins σ H s) (ok : X.Ok) : Inv X pins σ H s := ⟨ok, J.os, J.bare, J.base, J.loc, J.cell, J.free, J.freeC, J.pin, J.hok, J.len⟩
theorem Inv.forget (I : Inv X pins σ H s) : Inv X pins (List.replicate X.N.length none) H s := by
  refine ⟨I.ok, I.os, I.bare, I.base, ?_, I.cell, I.free, I.freeC, I.pin, I.hok, by simp⟩
  obtain ⟨m, hn, _⟩ := I.loc
  refine ⟨m, hn, fun i y v e1 e2 e3 => ?_⟩
  rw [List.getElem?_replicate] at e2
  split at e2 <;> cases e2
theorem Inv.unname {i : Nat} {n : Str} {pos : Pos} {M : Model} {A : Around} {E : Value → Shared → Prop} {Q : Unit → Shared → Prop} (I : Inv X pins σ H s) (hN : X.N.Nodup) (hi : X.N[i]? = some n) (hl : X.env.scope.names.lookup n = some .local)
    (h : ∀ s', Inv X pins (σ.set i none) H s' → Q () s') : wpAny M A (do bindName X.env n .none; unbindBehindTheSuite X.env n pos) Q E s := by
  refine wpAny_bind (wpAny_bindName (store_ok I hN hi (.inl hl) (v := .non) rfl (fun s1 I1 => ?_) (.inr hl)))
  unfold unbindBehindTheSuite
  refine wpAny_onRaise ?_
  have hcls : (X.env.scope.kind == .class || (X.env.scope.kind == .module && X.env.locals != X.env.globals)) = false := by rw [I.ok.kind]; rfl
  obtain ⟨m, hn, hl1⟩ := id I1.loc
  have hiσ : i < σ.length := by rw [I.len]; exact (List.getElem?_eq_some_iff.mp hi).1
  obtain ⟨u, ru, lk⟩ := hl1 i n .non hi (by rw [List.getElem?_set_self hiσ]) (.inl hl)
  have hmn : m n = some u := by
    rcases lk with ⟨_, z⟩ | ⟨z, _⟩
    · exact z
    · have z : X.env.scope.names.lookup n = some .cell ∨ X.env.scope.names.lookup n = some .free := z
      rcases z with z | z <;> (rw [hl] at z; cases z)
  refine wpAny_unbindName_local hl hn hmn hcls fun h' w' hn' hs => h _ ?_
  obtain ⟨oL, _, _, hoL, _⟩ := id hn
  have keepB : ∀ b o, b ≠ X.env.locals → s1.heap.get? b = some o → h'.get? b = some o := fun b o hb e => (hs.2 b hb).trans e
  have hok : HOk X.prog X.w H h' := fun b ob e => by
    refine (I1.hok b ob e).stay (fun c w' hc q => keepB c w' ?_ q) (fun _ q => q) fun _ _ q => q
    rintro rfl
    rcases hc with z | z
    · rw [← z, I1.free] at e; cases e
    · rw [I1.free] at z; cases z
  refine ⟨I1.ok, I1.os, I1.bare, ⟨fun b o e n hb hx => ?_, fun b o e n hb hx => ?_, I1.base.free, fun b o e hx => ?_, I1.base.tups, I1.base.frzs, I1.base.tbls⟩, ⟨_, hn', fun j y v e1 e2 e3 => ?_⟩, fun y c e => ?_, I1.free, I1.freeC, fun p hp => ?_, hok, ?_⟩
  · exact keepB b o (Nat.ne_of_lt (Nat.lt_of_lt_of_le (Heap.lt_size e) I1.ok.above)) (I1.base.keep b o e n hb hx)
  · obtain ⟨sl, z⟩ := I1.base.slot b o e n hb hx
    exact ⟨sl, keepB b _ (Nat.ne_of_lt (Nat.lt_of_lt_of_le (Heap.lt_size e) I1.ok.above)) z⟩
  · obtain ⟨o', z⟩ := I1.base.there b o e hx
    exact ⟨o', keepB b _ (Nat.ne_of_lt (Nat.lt_of_lt_of_le (Heap.lt_size e) I1.ok.above)) z⟩
  · have hj : j ≠ i := fun z => by
      subst z
      rw [List.getElem?_set_self hiσ] at e2
      cases e2
    rw [List.getElem?_set_ne (Ne.symm hj)] at e2
    obtain ⟨u', r', q⟩ := hl1 j y v e1 (by rw [List.getElem?_set_ne (Ne.symm hj)]; exact e2) e3
    refine ⟨u', r', ?_⟩
    rcases q with ⟨k, e⟩ | ⟨k, c, e, z⟩
    · refine .inl ⟨k, ?_⟩
      have : y ≠ n := fun z => hj (nodup_ix hN e1 (z ▸ hi))
      simp [this, e]
    · exact .inr ⟨k, c, e, z.sameBut hs (I1.cne y c e)⟩
  · obtain ⟨w', z⟩ := I1.cell y c e
    exact ⟨w', z.sameBut hs (I1.cne y c e)⟩
  · obtain ⟨e, n', ne, nf, d⟩ := I1.pin p hp
    exact ⟨(hs.2 p.1 ne).trans e, n', ne, nf, d⟩
  · have := I.len
    simpa using this
end
end L2
end
section
set_option Elab.async false
set_option linter.all false
set_option maxRecDepth 100000
set_option maxHeartbeats 1000000
namespace L2
open PySem PySem.Spec PyProof.Rows
section
variable {X : Cx} {body suite : List Stmt} {b0 : Stmt} {cx n : Str} {np hpos pos : Pos} {Ch : Addr} {bmh : List Value} {i : Nat} {tb : XK → TS} {ts : Addr → TS}
abbrev cxBody (X : Cx) (pins : List (Addr × Obj)) (xe : Value → Shared → Prop) : Cx := { X with pn := X.pn ++ pins, xe := xe }
theorem Inv.toBody {pins : List (Addr × Obj)} {σ : St} {H : Hp} {s : Shared} {xe : Value → Shared → Prop} (I : Inv X pins σ H s) : Inv (cxBody X pins xe) [] σ H s :=
  ⟨⟨I.ok.mod, I.ok.kind, I.ok.glob, I.ok.blt, I.ok.above, I.ok.inj, I.ok.has, I.ok.cab, I.ok.hd, I.ok.frames, I.ok.stk, I.ok.exf, I.ok.bs, I.ok.bsz, I.ok.noex, I.ok.exfs, I.ok.funs, I.ok.frf⟩, I.os, I.bare, I.base, I.loc, I.cell, I.free, I.freeC, fun p hp => I.pin p (by rw [List.append_nil] at hp; exact hp), I.hok, I.len⟩
theorem Inv.ofBody {pins pins' : List (Addr × Obj)} {σ : St} {H : Hp} {s : Shared} {xe : Value → Shared → Prop} (J : Inv (cxBody X pins xe) pins' σ H s) : Inv X pins σ H s :=
  ⟨⟨J.ok.mod, J.ok.kind, J.ok.glob, J.ok.blt, J.ok.above, J.ok.inj, J.ok.has, J.ok.cab, J.ok.hd, J.ok.frames, J.ok.stk, J.ok.exf, J.ok.bs, J.ok.bsz, J.ok.noex, J.ok.exfs, J.ok.funs, J.ok.frf⟩, J.os, J.bare, J.base, J.loc, J.cell, J.free, J.freeC, fun p hp => J.pin p (List.mem_append_left _ hp), J.hok, J.len⟩
end
end L2
end
section
set_option Elab.async false
set_option linter.all false
set_option maxRecDepth 100000
set_option maxHeartbeats 1000000
namespace L2
open PySem PySem.Spec PyProof.Rows
section
variable {X : Cx}
def txt (l : List Nat) : Str := ⟨l.toArray⟩
theorem txt_cps (l : List Nat) : (txt l).cps.toList = l := by simp [txt]
theorem txt_len (l : List Nat) : (txt l).length = l.length := by simp [txt, Str.length]
theorem txt_eta (z : Str) : txt z.cps.toList = z := by cases z; simp [txt]
theorem txt_inj {a b : List Nat} (h : txt a = txt b) : a = b := by have := congrArg (fun z : Str => z.cps.toList) h; simpa [txt] using this
def cutA {α : Type} (xs : List α) (lo hi : Option Int) : List α := (xs.drop (HT.sIx xs.length 0 lo)).take (HT.sIx xs.length xs.length hi - HT.sIx xs.length 0 lo)
end
end L2
end
section
set_option Elab.async false
set_option linter.all false
set_option maxRecDepth 100000
set_option maxHeartbeats 1000000
namespace L2
open PySem PySem.Spec PyProof.Rows
section
variable {X : Cx}
def rFmt : V → Hp → VK → Prop := fun x H Q => ∃ z, ((x = .str z ∧ z.length ≤ sizeLine) ∨ ∃ i : Int, x = .int i ∧ i.natAbs.log2 < 1920 ∧ z = (toString i : String)) ∧ Q (.str z) H
theorem pe_fmt {e : Expr} {te : TE} {pos : Pos} (he : PE X e te) : PE X (.FormattedValue e (-1) none pos) (tUn rFmt te) := by
  intro pins s σ H Q I h
  refine wpAny_FormattedValue_plain (thn (he pins s σ H _ I h) fun v s1 ⟨x, H1, I1, r1, z, hz, q⟩ => ?_)
  rcases hz with ⟨rfl, hl⟩ | ⟨i, rfl, hl, rfl⟩
  · obtain ⟨t, rfl⟩ := r1
    exact wpAny_formatField_str ⟨.str z, H1, I1, ⟨_, rfl⟩, q⟩ ⟨.str z, H1, I1.tok _, ⟨_, rfl⟩, q⟩ hl
  · obtain ⟨t, rfl⟩ := r1
    exact wpAny_formatField_int hl ⟨.str _, H1, I1.tok _, ⟨_, rfl⟩, q⟩
abbrev TJ := St → Hp → Str → (Str → Hp → Prop) → Prop
def PJ (X : Cx) (es : List Expr) (t : TJ) : Prop :=
  ∀ (pins : List (Addr × Obj)) (s : Shared) (σ : St) (H : Hp) (acc : Str) (Q : Str → Hp → Prop), Inv X pins σ H s → t σ H acc Q →
    Joins (model X.prog X.w) X.A X.xe (evalEach es X.env) acc (fun out s' => ∃ H', Inv X pins σ H' s' ∧ Q out H') s
def tJNil : TJ := fun _ H acc Q => Q acc H
def tJCons (te : TE) (t : TJ) : TJ := fun σ H acc Q => te σ H fun x H1 => ∃ z, x = .str z ∧ (acc ++ z).length ≤ sizeLine ∧ t σ H1 (acc ++ z) Q
theorem pj_nil : PJ X [] tJNil := fun _ _ _ H _ _ I h => ⟨H, I, h⟩
theorem pj_cons {e : Expr} {es : List Expr} {te : TE} {t : TJ} (he : PE X e te) (hs : PJ X es t) (hv : evalEach (e :: es) X.env = eval e X.env :: evalEach es X.env := by rfl) : PJ X (e :: es) (tJCons te t) := by
  intro pins s σ H acc Q I h
  rw [hv]
  show wpAny _ _ (eval e X.env) _ _ s
  refine thn (he pins s σ H _ I h) fun v s1 ⟨x, H1, I1, r1, z, hx, hz, q⟩ => ?_
  subst hx
  obtain ⟨t, rfl⟩ := r1
  exact ⟨z, t, rfl, hz, hs pins s1 σ H1 (acc ++ z) Q I1 q⟩
def tJoined (t : TJ) : TE := fun σ H Q => t σ H Str.empty fun out H' => out.length ≤ sizeLine ∧ Q (.str out) H'
theorem pe_fstr {v1 v2 : Expr} {rest : List Expr} {t : TJ} {pos : Pos} (h : PJ X (v1 :: v2 :: rest) t) : PE X (.JoinedStr (v1 :: v2 :: rest) pos) (tJoined t) := by
  intro pins s σ H Q I hq
  refine wpAny_JoinedStr ?_
  have j := h pins s σ H Str.empty _ I hq
  have mono : ∀ (parts : List (Sem Value)) (acc : Str) (Q Q' : Str → Shared → Prop) (s : Shared), (∀ o s', Q o s' → Q' o s') → Joins (model X.prog X.w) X.A X.xe parts acc Q s → Joins (model X.prog X.w) X.A X.xe parts acc Q' s := by
    intro parts
    induction parts with
    | nil => intro acc Q Q' s k z; exact k _ _ z
    | cons p r ih =>
      intro acc Q Q' s k z
      refine wpAny_mono z (fun v s1 ⟨y, t, e, hl, q⟩ => ⟨y, t, e, hl, ih _ _ _ _ k q⟩) fun _ _ x => x
  refine mono _ _ _ _ _ (fun out s' ⟨H', I', hl, q⟩ => ⟨hl, .str out, H', I'.tok _, ⟨_, rfl⟩, q⟩) j
end
end L2
end
section
set_option Elab.async false
set_option linter.all false
set_option maxRecDepth 100000
set_option maxHeartbeats 4000000
namespace L2
open PySem PySem.Spec PyProof.Rows
section
variable {D : Addr} {g : TG} {tt : TT} {te : TE} {σ' : St} {H1 : Hp} {Q : Hp → Prop}
end
section
variable {X : Cx} {k : Nat} {f ex : Addr} {fd : FuncData} {ps : List Str} {sp : Sp} {dvs : List V} {ds : List Value} {x : Str} {p pos : Pos} {e : Expr} {es : List Expr} {t : TA}
end
theorem Fun.ok1 {P : Program} {w : World} {K : PySem.W.Frag} {mg : Str → Option Value} {base : Heap} {x qual : Str} {st : Stmt} {f : Addr} {fd : FuncData} {N ps : List Str} {k : Nat} {sp : Sp} (F : Fun K x qual st f fd) (S : FnScope N ps (defScope st)) (len : ∀ vs H Q E, sp vs H Q E → vs.length = ps.length)
    (hbody : ∀ (cdv : Value) (A : Around) (outer : List Env) (s : Shared) (H : Hp) (vs : List V) (Q : VK) (E : XK), Room k (A.deeper (envOfC qual (defScope st) s.heap.objs.size f cdv)) → sp vs H Q E →
      ∃ t, PSs (cxOf (CX1 P w) P w K mg base N qual (defScope st) f cdv A outer s H E) (defBody st) t ∧ t { nx := fun _ H' => Q .non H', rt := Q } (start N vs) H) : FnOk P w K mg base (CX1 P w) (k + 1) f fd ps sp := by
  obtain ⟨oc, od, kV, doc, pm, an, cdv, ct, osl, rfl, lk, hcd⟩ := F.ex
  exact fn_of lk hcd S len fun A outer s H vs Q E hr hsp => hbody cdv A outer s H vs Q E hr hsp
end L2
end
section
set_option Elab.async false
set_option linter.all false
set_option maxRecDepth 100000
set_option maxHeartbeats 4000000
namespace L2
open PySem PySem.Spec PyProof.Rows PySem.W
structure ExcCls (K : PySem.W.Frag) (D : Addr) : Prop where
  ga : PySem.W.findIn K (.ref D) "__getattribute__" = some (some (.builtin "BaseException.__getattribute__"))
  ha : PySem.W.findIn K (.ref D) "__getattr__" = some none
  cl : PySem.W.findIn K (.ref D) "__class__" = some (some (.builtin "object.__class__"))
  gt : PySem.W.specialIn K (.builtin "object.__class__") "__get__" = some (some (.builtin "getset_descriptor.__get__"))
  tk : PySem.W.takesIn K (.builtin "object.__class__") = some true
  mo : PySem.W.mroIn K D (.type "object") = some true
  mb : PySem.W.mroIn K D (.type "BaseException") = some true
  cd : (PySem.W.clsIn K D).isSome = true
section
variable {prog : Program} {w : World} {A : Around} {E : Value → Shared → Prop} {s : Shared} {K : PySem.W.Frag} {x D : Addr} {ox : Obj}
theorem exc_class {Q : Option Value → Shared → Prop} (X : K.In s.heap) (c : ExcCls K D) (I : PySem.W.InstAt s.heap x ox D none) (h : Q (some (.ref D)) { s with toks := s.toks + 1 }) : wpAny (model prog w) A (getAttr? (.ref x) "__class__") Q E s := by
  obtain ⟨hh, g, d, t, os⟩ := s
  have L0 := I.type (M := model prog w)
  have L1 := looks_findIn (M := model prog w) X c.ga
  have L2 := looks_findIn (M := model prog w) X c.ha
  have hf : findObj K D none "__class__" = some (.bind (.builtin "getset_descriptor.__get__") (.builtin "object.__class__")) := by
    obtain ⟨cd, hc⟩ := Option.isSome_iff_exists.mp c.cd
    unfold findObj
    rw [hc, Option.bind_some, c.cl, Option.bind_some]
    simp [c.gt, c.tk]
  have L3 := looks_find (M := model prog w) X I hf
  have L4 := looks_mroIn (M := model prog w) X c.mb
  have hx2 : (onTheHeap (Value.ref D) && Value.builtin "BaseException.__getattribute__" == Value.builtin "object.__getattribute__") = false := by
    have : (Value.builtin "BaseException.__getattribute__" == Value.builtin "object.__getattribute__") = false := by decide +kernel
    rw [this]; rfl
  unfold getAttr? getAttrBy? getAttrBy
  refine wpAny_bind (wpAny_mkText (wpAny_bind (wpAny_attempt (wpAny_holding (wpAny_bind (L0.at (wpAny_bind (L1.at ?_))))))))
  dsimp only
  rw [hx2]
  show wpAny _ _ (getAttrByItsOwn _ _ _ _ _ _) _ _ _
  unfold getAttrByItsOwn hookBefore
  refine wpAny_bind ?_
  show wpAny _ _ (typeLookup (.ref D) "__getattr__") _ _ _
  refine L2.at (wpAny_bind (wpAny_attempt (wpAny_holding ?_)))
  show wpAny _ _ (boundAndCalled _ _ _) _ _ _
  unfold boundAndCalled
  rw [F.excAttr_ValueError.ga.bind (.ref x)]
  refine wpAny_bind (wpAny_pure ?_)
  refine wpAny_call (codeAny_call_builtin F.excAttr_ValueError.ga.plain F.entry_bexc_ga ?_)
  have hk : builtinKind "BaseException.__getattribute__" = some .slot := by decide +kernel
  have hsplit : splitId "BaseException.__getattribute__" = some ("BaseException", "__getattribute__") := by decide +kernel
  have ha := F.args_bexc_ga (.ref x) (.str "__class__" t)
  have LI : Looks (model prog w) hh (isInstance (.ref x) (.type "BaseException")) true := L0.andThen L4
  have chk : ∀ (A : Around) (E : Value → Shared → Prop) (Q : Unit → Shared → Prop), Q () ⟨hh, g, d, t + 1, os⟩ → wpAny (model prog w) A (checkBuiltinCall "BaseException.__getattribute__" ⟨[.ref x, .str "__class__" t], []⟩) Q E ⟨hh, g, d, t + 1, os⟩ := by
    intro A E Q hq
    simp only [checkBuiltinCall, hk, hsplit]
    refine wpAny_bind (LI.at ?_)
    repeat (any_goals (first | assumption | wp_step))
  refine chk _ _ _ ?_
  unfold Builtin.«object.__getattribute__»
  refine wpAny_bind (m := slotArgs _ _ _) (wpAny_of_eq (a := (.ref x, [.str "__class__" t])) rfl ?_)
  refine wpAny_bind (wpAny_of_eq (a := ("__class__" : Str)) rfl ?_)
  refine wpAny_bind (L0.at (wpAny_bind (L3.at ?_)))
  show wpAny _ _ (Builtin.ObjectAttr.bindTo (.builtin "getset_descriptor.__get__") (.builtin "object.__class__") (.ref x) (.ref D)) _ _ _
  unfold Builtin.ObjectAttr.bindTo
  dsimp only
  refine wpAny_bind (wpAny_holding (wpAny_call (class_get (s := ⟨hh, g, d, t + 1, os⟩) X I c.mo ?_)))
  exact wpAny_pure (handed_on rfl (wpAny_pure h))
theorem kitx_exc (c : ExcCls K D) : PySem.W.KitX K (.ref x) (.ref D) (fun h => ∃ ox, PySem.W.InstAt h x ox D none) where
  ty := fun _ _ _ ⟨_, I⟩ => I.type
  it := fun _ _ X _ => by
    obtain ⟨cdD, hcD⟩ := Option.isSome_iff_exists.mp c.cd
    unfold PySem.W.clsIn at hcD
    split at hcD
    · rename_i c' d' cd' sl' ho
      intro A' Q' E' s' k q
      unfold isType loadHead
      exact wpAny_bind (wpAny_loadPart (k _ _ (X _ _ ho)) (wpAny_pure q))
    · cases hcD
  ne := fun h tp dd its n sl X htp => by
    obtain ⟨cdD, hcD⟩ := Option.isSome_iff_exists.mp c.cd
    refine Bool.eq_false_iff.mpr fun q => ?_
    have e : D = tp := Value.ref.inj (beq_iff_eq.mp q)
    subst e
    unfold PySem.W.clsIn at hcD
    split at hcD
    · rename_i c' d' cd' sl' ho
      have z := (X _ _ ho).symm.trans htp
      cases z
    · cases hcD
  ca := fun X ⟨_, I⟩ k => exc_class X c I k
end
section
variable {X : Cx}
def rIsiX (K : PySem.W.Frag) (y : V) (c : Value) : List V → Hp → VK → Prop := fun xs H Q => ∃ (x D : Addr) (b : Bool), xs = [.ref x, y] ∧ H x = some (ExcO x (.ref D) none) ∧ ExcCls K D ∧ PySem.W.kitOne K (.ref D) c = some b ∧ Q (.bl b) H
theorem call_isiX {y : V} {c : Value} (hy : ∀ u, RelV y u → u = c) : CallR X (.builtin "isinstance") (rIsiX X.K y c) := by
  intro pins s σ H xs us Q I r h
  obtain ⟨x, D, b, rfl, hx, hc, e, q⟩ := h
  obtain ⟨u, w', rfl, ru, rw'⟩ := vals2 r
  cases (show u = Value.ref x from ru)
  cases hy w' rw'
  obtain ⟨⟨oe, vs, h1, h2, h3, h4, _⟩, _⟩ := (show ObjOk X.prog X.w H s.heap x (ExcO x (.ref D) none) from I.hok x _ hx)
  refine PySem.W.kia_one (kitx_exc hc) I.kIn ⟨oe, h1, h2, ?_, ?_⟩ e (fun z => nomatch z) fun tk => ⟨.bl b, H, I.tok _, rfl, q⟩
  · unfold PySem.W.notCls; rw [h4]
  · rw [h3]; trivial
theorem call_isiT {c : String} : CallR X (.builtin "isinstance") (fun xs H Q => ∃ (x : V) (ty : Value) (b : Bool), xs = [x, .ty c] ∧ TyOf X.K H x ty ∧ PySem.W.kitOne X.K ty (.type c) = some b ∧ Q (.bl b) H) := by
  intro pins s σ H xs us Q I r h
  obtain ⟨x, ty, b, rfl, hty, e, q⟩ := h
  obtain ⟨u, w', rfl, ru, rw'⟩ := vals2 r
  cases (show w' = Value.type c from rw')
  exact isinst_ok I ru hty e fun tk => ⟨.bl b, H, I.tok _, rfl, q⟩
end
end L2
end
section
set_option Elab.async false
set_option linter.all false
set_option maxRecDepth 100000
set_option maxHeartbeats 1000000
namespace L2
open PySem PySem.Spec PyProof.Rows
theorem loop_skip {M : Model} {A : Around} {E : Value → Shared → Prop} {s : Shared} {α β : Type} {b : β} {f : α → β → Sem (ForInStep β)} {Q : β → Shared → Prop} : ∀ {cs : List α}, (∀ c ∈ cs, ∀ Q' : ForInStep β → Shared → Prop, Q' (.yield b) s → wpAny M A (f c b) Q' E s) → Q b s → wpAny M A (forIn cs b f) Q E s
  | [], _, q => by rw [List.forIn_nil]; exact wpAny_pure q
  | c :: cs, h, q => by
    rw [List.forIn_cons]
    refine wpAny_bind (h c (by simp) _ ?_)
    exact loop_skip (fun d hd => h d (List.mem_cons_of_mem _ hd)) q
theorem exc_misses {M : Model} {A : Around} {E : Value → Shared → Prop} {s : Shared} {K : PySem.W.Frag} {Q : Bool → Shared → Prop} {e tp : Addr} {oe ot : Obj} {cls : Value} {cs : List Value} {n : Nat} (X : K.In s.heap) (he : s.heap.get? e = some oe) (hcls : oe.cls = cls)
    (ht : s.heap.get? tp = some ot) (hc : ot.cls = .type "tuple") (hd : ot.data = .seq cs.toArray n) (hx : ∀ c ∈ cs, PySem.W.exmOne K cls c = some false) (q : Q false s) : wpAny M A (excMatches (.ref e) (.ref tp)) Q E s := by
  have isT : PySem.W.Looks M s.heap (isInstance (.ref tp) (.type "tuple")) true := by
    intro A' Q' E' s' k' q'
    unfold isInstance typeOf
    refine wpAny_bind (wpAny_bind (wpAny_loadPart (k' _ _ ht) (wpAny_pure ?_)))
    rw [hc, isSubtype_tuple_tuple]
    exact wpAny_pure q'
  have ty : PySem.W.Looks M s.heap (typeOf (.ref e)) cls := by
    intro A' Q' E' s' k' q'
    unfold typeOf
    refine wpAny_bind (wpAny_loadPart (k' _ _ he) (wpAny_pure ?_))
    rw [hcls]
    exact q'
  unfold excMatches
  refine wpAny_bind (isT.here ?_)
  rw [if_pos rfl]
  refine wpAny_bind (wpAny_seqItems ht hd (wpAny_bind (wpAny_pure ?_)))
  refine wpAny_bind (loop_skip (fun c hc' Q' q' => ?_) ?_)
  · refine wpAny_bind ((PySem.W.exm_cls (M := M) X (hx c (by simpa using hc'))).1.here ?_)
    exact wpAny_pure q'
  · refine wpAny_bind (ty.here ?_)
    refine wpAny_bind (loop_skip (fun c hc' Q' q' => ?_) ?_)
    · refine wpAny_bind ((PySem.W.exm_cls (M := M) X (hx c (by simpa using hc'))).2.here ?_)
      exact wpAny_pure q'
    · exact wpAny_pure q
section
variable {X : Cx} {body suite suite0 : List Stmt} {b0 c0 : Stmt} {cx n : Str} {np hpos hpos0 pos : Pos} {Ch : Addr} {bmh : List Value} {i : Nat} {tb : XK → TS} {ts : Addr → TS} {es : List Expr} {kk : Nat} {tpos : Pos}
def sufT (i : Nat) (D : Ends) : Ends := { nx := fun σ H => D.nx (σ.set i none) H, rt := D.rt, bk := fun σ H => D.bk (σ.set i none) H, ct := fun σ H => D.ct (σ.set i none) H }
theorem landed {pins : List (Addr × Obj)} {σ : St} {H : Hp} {s : Shared} {x Ce : Addr} {d : Option Addr} {h1 : Heap} (hst : X.stack = X.env :: X.outer ∧ X.env.frame = some X.env.locals) (hnx : X.ex = [])
    (I : Inv X pins σ H s) (hx : Exc s.heap x (.ref Ce) d) (hn : X.s₀.heap.get? x = none) (hpx : ∀ p ∈ X.pn ++ pins, p.1 ≠ x) (hH : H x = none) (x1 : Exc h1 x (.ref Ce) d) (L1 : LeftB (frs (X.env :: X.outer)) x s.heap h1) :
    Inv X pins (List.replicate X.N.length none) (upd H x (ExcO x (.ref Ce) d)) { s with heap := h1 } := by
  have nx0 : ∀ b o, X.s₀.heap.get? b = some o → b ≠ x := fun b o e z => by rw [z, hn] at e; cases e
  have hxl : x ≠ X.env.locals := fun z => by
    obtain ⟨m, ⟨o, es, ep, ho, hd, _⟩, _⟩ := I.loc
    obtain ⟨oe, vs, he, _, _, hd', _⟩ := hx
    rw [z, ho] at he; cases he; rw [hd] at hd'; cases hd'
  have hxc : ∀ y c, X.env.cells.lookup y = some c → c ≠ x := fun y c e z => by
    obtain ⟨v, o, ho, hd⟩ := I.cell y c e
    obtain ⟨oe, vs, he, _, _, hd', _⟩ := hx
    rw [z, he] at ho; cases ho; rw [hd'] at hd; cases hd
  have nfs : ∀ b, b ∈ frs (X.env :: X.outer) → b ∈ X.env.locals :: X.fs := fun b hb => I.stkSub b (by rw [hst.1]; exact hb)
  have J := I.forget
  have kp : ∀ b o, b ≠ x → b ∉ frs (X.env :: X.outer) → s.heap.get? b = some o → h1.get? b = some o := L1.keep
  have nfr : ∀ b u, H b = some u → b ∉ frs (X.env :: X.outer) := fun b u e hb => by
    have := I.stkFree b (by rw [hst.1]; exact hb)
    rw [e] at this; cases this
  have nex : ∀ b u, H b = some u → b ≠ x := fun b u e z => by rw [z, hH] at e; cases e
  have hok : HOk X.prog X.w (upd H x (ExcO x (.ref Ce) d)) h1 := fun b u e => by
    by_cases hb : b = x
    · subst hb; rw [upd_same] at e; cases e; exact excO_ok x1
    · rw [upd_ne hb] at e
      refine (I.hok b u e).stay (fun c v hc q => ?_) (fun c q => by rw [upd_ne (nex c _ q)]; exact q) fun c xs q => by rw [upd_ne (nex c _ q)]; exact q
      rcases hc with z | z
      · rw [z] at q ⊢; exact kp b v hb (nfr b u e) q
      · exact kp c v (nex c _ z) (nfr c _ z) q
  refine ⟨J.ok, J.os, J.bare, ⟨fun b o e n' hb hx' => ?_, fun b o e n' hb hx' => ?_, fun b o e n' hx' => ?_, fun b o e hx' => ?_, fun b xs e => ?_, fun b o u e => ?_, fun b ps e => ?_⟩, ?_, fun y c e => ?_, ?_, fun y c e => ?_, fun p hp => ?_, hok, J.len⟩
  · refine kp b o (nx0 b o e) (fun hm' => ?_) (I.base.keep b o e n' hb hx')
    rcases List.mem_cons.mp (nfs b hm') with z | z
    · exact absurd (Nat.lt_of_lt_of_le (Heap.lt_size e) I.ok.above) (by rw [z]; exact Nat.lt_irrefl _)
    · exact hb z
  · obtain ⟨sl, z⟩ := I.base.slot b o e n' hb hx'
    obtain ⟨sl', z'⟩ := L1.slot b _ (nx0 b o e) z
    exact ⟨sl', z'⟩
  · rw [upd_ne (nx0 b o e)]; exact I.base.free b o e n' hx'
  · obtain ⟨o', z⟩ := I.base.there b o e hx'
    obtain ⟨sl, z'⟩ := L1.slot b _ (nx0 b o e) z
    exact ⟨_, z'⟩
  · have q := I.base.tups b xs e
    rw [upd_ne (nex b _ q)]; exact q
  · have q := I.base.frzs b o u e
    rw [upd_ne (nex b _ q)]; exact q
  · obtain ⟨more, q⟩ := I.base.tbls b ps e
    exact ⟨more, by rw [upd_ne (nex b _ q)]; exact q⟩
  · obtain ⟨m, ⟨o, es, ep, ho, r⟩, hl'⟩ := J.loc
    obtain ⟨sl, z⟩ := L1.slot _ o (Ne.symm hxl) ho
    refine ⟨m, ⟨_, es, ep, z, r⟩, fun j y v e1 e2 e3 => ?_⟩
    rw [List.getElem?_replicate] at e2
    split at e2 <;> cases e2
  · obtain ⟨v, o, ho, hd⟩ := I.cell y c e
    obtain ⟨sl, z⟩ := L1.slot c o (hxc y c e) ho
    exact ⟨v, _, z, hd⟩
  · rw [upd_ne (Ne.symm hxl)]; exact I.free
  · rw [upd_ne (hxc y c e)]; exact I.freeC y c e
  · obtain ⟨e, n', ne, nf, dd⟩ := I.pin p hp
    refine ⟨kp p.1 p.2 (hpx p hp) (fun hm' => ?_) e, by rw [upd_ne (hpx p hp)]; exact n', ne, nf, dd⟩
    rcases List.mem_cons.mp (nfs p.1 hm') with z | z
    · exact ne z
    · exact nf z
def ArgsAre (X : Cx) (s : Shared) (es : List Expr) (us : List Value) : Prop := ∀ (pos : Pos) (Q : List Value → Shared → Prop), Q us s → wpAny (model X.prog X.w) X.A (spliced (backTo pos (starEach es X.env))) Q X.xe s
theorem args_nil {X : Cx} {s : Shared} : ArgsAre X s [] [] := fun _ _ q => Calls.spliced_nil q
theorem args_cons {X : Cx} {pins : List (Addr × Obj)} {σ : St} {H : Hp} {s : Shared} {x : Str} {u : Value} {p : Pos} {es : List Expr} {us : List Value} (I : Inv X pins σ H s) (hg : Gl X x) (hm : X.mg x = some u) (hr : ArgsAre X s es us) (hd : (x == ("__debug__" : Str)) = false := by decide) : ArgsAre X s (.Name x p :: es) (u :: us) := by
  intro pos Q q
  show wpAny _ _ (spliced ((false, eval (.Name x p) X.env) :: backTo pos (starEach es X.env))) _ _ s
  exact Calls.spliced_cons (ld_glob I hg hm (hr pos _ q) hd)
def tTry2 (K : PySem.W.Frag) (len : Nat) (cs : List Addr) (Ch : Addr) (i : Nat) (tb : XK → TS) (ts : Addr → TS) : TS := fun D σ H => ∃ E : XK, tb E D σ H ∧ ∀ cls d H', E cls d H' →
  ∃ Ce bm, cls = .ref Ce ∧ clsIn K Ce = some bm ∧ (Value.ref Ce :: bm).contains (.ref Ch) = true ∧ (∀ c ∈ cs, PySem.W.exmOne K (.ref Ce) (.ref c) = some false) ∧ ∀ x H2, H' x = none → Same (upd H' x (ExcO x cls d)) H2 → ts x (sufT i D) ((List.replicate len none).set i (some (.ref x))) H2
theorem land2 {pins : List (Addr × Obj)} {σ : St} {H : Hp} {s : Shared} {D : Ends} {x : Addr} {cls : Value} {d : Option Addr} {cs : List Addr} (hst : X.stack = X.env :: X.outer ∧ X.env.frame = some X.env.locals) (hnx : X.ex = [])
    (hN : X.N.Nodup) (hi : X.N[i]? = some n) (hl : X.env.scope.names.lookup n = some .local) (hg : Gl X cx) (hm : X.mg cx = some (.ref Ch)) (hcl : clsIn X.K Ch = some bmh) (hbm : bmh.contains (.type "BaseException") = true)
    (hT : ∀ (x : Addr) (pins : List (Addr × Obj)) (σ : St) (H : Hp) (s : Shared), Inv (cxSuite X x) pins σ H s → ArgsAre (cxSuite X x) s es (cs.map Value.ref)) (hz : cs.length ≤ sizeLine)
    (hs : ∀ x, PSs (cxSuite X x) (b0 :: suite) (ts x)) (hdb : (cx == ("__debug__" : Str)) = false) (I : Inv X pins σ H s) (hx : Exc s.heap x cls d) (hn : X.s₀.heap.get? x = none) (hpx : ∀ p ∈ X.pn ++ pins, p.1 ≠ x) (hH : H x = none)
    (hq : ∃ Ce bm, cls = .ref Ce ∧ clsIn X.K Ce = some bm ∧ (Value.ref Ce :: bm).contains (.ref Ch) = true ∧ (∀ c ∈ cs, PySem.W.exmOne X.K (.ref Ce) (.ref c) = some false) ∧ ∀ x H2, H x = none → Same (upd H x (ExcO x cls d)) H2 → ts x (sufT i D) ((List.replicate X.N.length none).set i (some (.ref x))) H2) :
    wpAny (model X.prog X.w) X.A (noteFrame (.ref x) X.env) (fun _ s2 => wpAny (model X.prog X.w) X.A (setFlight (.ref x) none) (fun _ s3 => wpAny (model X.prog X.w) X.A (handleBy (.ref x) X.env [.ExceptHandler (some (.Tuple es kk tpos)) none (c0 :: suite0) hpos0, .ExceptHandler (some (.Name cx np)) (some n) (b0 :: suite) hpos]) (SP X pins D) X.xe s3) X.xe s2) X.xe s := by
  obtain ⟨Ce, bm, rfl, hce, hmt, hms, ts0⟩ := hq
  have hfr : X.A.frames = some (X.env :: X.outer) := by rw [← hst.1]; exact I.ok.frames
  have hfl : s.heap.FunFrames X.base (X.env :: X.outer) := by rw [← hst.1]; exact I.stack
  refine note_ok hfr hfl hst.2 hx fun h1 x1 L1 => ?_
  have I1 := landed hst hnx I hx hn hpx hH x1 L1
  refine wpAny_handleBy_cons (codeAny_handlers_test ?_) (fun z => nomatch z)
  refine wpAny_Tuple_spliced (wpAny_mono (hT x _ _ _ _ (I1.suite x) tpos (fun us s' => us = cs.map Value.ref ∧ s' = { s with heap := h1 }) ⟨rfl, rfl⟩) (fun us s2 q2 => ?_) fun _ _ z => z.elim)
  obtain ⟨rfl, rfl⟩ := q2
  refine ⟨by rw [List.length_map]; exact hz, ?_⟩
  obtain ⟨oe, vs, he, hcl', hdd', hdat, hv2, htb⟩ := id x1
  have kp : ∀ b u, h1.get? b = some u → (h1.push { cls := .type "tuple", data := .seq (cs.map Value.ref).toArray }).get? b = some u := fun b u e => Heap.get?_push_of_some _ e
  have x2 : Exc (h1.push { cls := .type "tuple", data := .seq (cs.map Value.ref).toArray }) x (.ref Ce) d := by
    refine ⟨oe, vs, kp _ _ he, hcl', hdd', hdat, hv2, ?_⟩
    rcases htb with z | ⟨T, oT, ts', z1, z2, z3, z4⟩
    · exact .inl z
    · exact .inr ⟨T, oT, ts', z1, z2, kp _ _ z3, z4⟩
  have hf : upd H x (ExcO x (.ref Ce) d) h1.objs.size = none := I1.hok.fresh (Nat.le_refl _)
  have rv : ∀ l : List Addr, Vals (l.map V.ref) (l.map Value.ref) := fun l => by
    induction l with
    | nil => exact .nil
    | cons a l ih => exact .cons rfl ih
  have I2 : Inv X pins (List.replicate X.N.length none) (upd (upd H x (ExcO x (.ref Ce) d)) h1.objs.size (.tup (cs.map V.ref))) { s with heap := h1.push { cls := .type "tuple", data := .seq (cs.map Value.ref).toArray } } :=
    I1.laid (t' := s.toks) kp (Nat.le_refl _) ⟨by rw [List.length_map]; exact hz, _, rv cs, ⟨_, Heap.get?_push_size _ rfl, rfl, _, rfl⟩⟩
  have sm : Same (upd H x (ExcO x (.ref Ce) d)) (upd (upd H x (ExcO x (.ref Ce) d)) h1.objs.size (.tup (cs.map V.ref))) := fun b o e => by rw [upd_ne (fun z => by rw [z, hf] at e; cases e)]; exact e
  refine exc_misses (cs := cs.map Value.ref) (K := X.K) I2.kIn (kp _ _ he) hcl' (Heap.get?_push_size _ rfl) rfl rfl (fun c hc => ?_) ?_
  · obtain ⟨a, ha, rfl⟩ := List.mem_map.mp hc
    exact hms a ha
  show wpAny _ _ (handleBy _ _ _) _ _ _
  obtain ⟨N1, nm1, q1, bs1, hd1, sn1, sub1, ab1, col1, dd1, a0, a1, a2, a3, a5, hC⟩ := cls_obj I2.kIn hce
  obtain ⟨N2, nm2, q2', bs2, hd2, sn2, sub2, ab2, col2, dd2, b0', b1, b2, b3, b5, hHc⟩ := cls_obj I2.kIn hcl
  refine wpAny_handleBy_cons (codeAny_handlers_test (ld_glob (I2.suite x) hg hm (exc_match hC hHc (kp _ _ he) hcl' hbm hmt ?_) hdb)) (fun z => nomatch z)
  show codeAny _ _ (.handlers (.ref x) [.ExceptHandler none (some n) (b0 :: suite) hpos] X.env) _ _
  refine codeAny_handlers_suite_as (flight_ok x2 fun h2 x3 same => ?_)
  have I3 : Inv X pins (List.replicate X.N.length none) (upd (upd H x (ExcO x (.ref Ce) d)) h1.objs.size (.tup (cs.map V.ref))) { s with heap := h2 } := I2.kept (t' := s.toks) fun b o e => (same b).trans e
  refine store_ok I3 hN hi (.inl hl) (v := .ref x) rfl (fun s3 I4 => ?_) (.inr hl)
  have run := hs x pins s3 _ _ (sufT i D) (I4.suite x) (ts0 x _ hH sm)
  refine wpAny_mono run (fun f s4 q4 => ?_) fun _ _ z => z.elim
  have fin : ∀ {σ' : St} {H' : Hp}, Inv (cxSuite X x) pins σ' H' s4 → (∀ s', Inv X pins (σ'.set i none) H' s' → SP X pins D f s') → wpAny (model X.prog X.w) X.A (do bindName X.env n .none; unbindBehindTheSuite X.env n hpos) (fun _ s' => SP X pins D f s') X.xe s4 :=
    fun J k => (J.unsuite I.ok).unname hN hi hl k
  cases f with
  | next => obtain ⟨σ', H', J, q⟩ := q4; exact fin J fun s' J' => ⟨_, H', J', q⟩
  | brk => obtain ⟨σ', H', J, q⟩ := q4; exact fin J fun s' J' => ⟨_, H', J', q⟩
  | cont => obtain ⟨σ', H', J, q⟩ := q4; exact fin J fun s' J' => ⟨_, H', J', q⟩
  | ret v => obtain ⟨w', σ', H', J, r, q⟩ := q4; exact fin J fun s' J' => ⟨w', _, H', J', r, q⟩
theorem ps_try2 {cs : List Addr} (hst : X.stack = X.env :: X.outer ∧ X.env.frame = some X.env.locals) (hnx : X.ex = []) (hN : X.N.Nodup) (hi : X.N[i]? = some n) (hl : X.env.scope.names.lookup n = some .local) (hg : Gl X cx) (hm : X.mg cx = some (.ref Ch))
    (hcl : clsIn X.K Ch = some bmh) (hbm : bmh.contains (.type "BaseException") = true)
    (hT : ∀ (x : Addr) (pins : List (Addr × Obj)) (σ : St) (H : Hp) (s : Shared), Inv (cxSuite X x) pins σ H s → ArgsAre (cxSuite X x) s es (cs.map Value.ref)) (hz : cs.length ≤ sizeLine)
    (hb : ∀ (pins : List (Addr × Obj)) (xe : Value → Shared → Prop) (E : XK), Passes (CX1 X.prog X.w) (cxBody X pins xe) E → Lets (cxBody X pins xe) E → PSs (cxBody X pins xe) body (tb E))
    (hs : ∀ x, PSs (cxSuite X x) (b0 :: suite) (ts x)) (hdb : (cx == ("__debug__" : Str)) = false := by decide) :
    PS X (.Try body [.ExceptHandler (some (.Tuple es kk tpos)) none (c0 :: suite0) hpos0, .ExceptHandler (some (.Name cx np)) (some n) (b0 :: suite) hpos] [] [] pos) (tTry2 X.K X.N.length cs Ch i tb ts) := by
  rintro pins s σ H D I ⟨E, q0, hE⟩
  refine wpAny_Try_except ?_
  have P1 : Passes (CX1 X.prog X.w) (cxBody X pins fun e s1 => wpAny (model X.prog X.w) X.A (noteFrame e X.env) (fun _ s2 => wpAny (model X.prog X.w) X.A (setFlight e none) (fun _ s3 => wpAny (model X.prog X.w) X.A (handleBy e X.env [.ExceptHandler (some (.Tuple es kk tpos)) none (c0 :: suite0) hpos0, .ExceptHandler (some (.Name cx np)) (some n) (b0 :: suite) hpos]) (SP X pins D) X.xe s3) X.xe s2) X.xe s1) E := by
    rintro pins' σ' H' s' e s'' J ⟨x, cls, d, H2, rfl, hx, hn, hH, os, bare, un, hok, q⟩
    have J2 := J.call' (ch := []) os un hok bare (fun b z => absurd z (by simp))
    refine land2 hst hnx hN hi hl hg hm hcl hbm hT hz hs hdb J2.ofBody hx (J.ofBody.oldNone hn (by rw [hnx]; simp)) (fun p hp z => ?_) hH (hE _ _ _ q)
    have e := (J.pin p (List.mem_append_left _ hp)).1
    rw [z, hn] at e; cases e
  have P2 : Lets (cxBody X pins fun e s1 => wpAny (model X.prog X.w) X.A (noteFrame e X.env) (fun _ s2 => wpAny (model X.prog X.w) X.A (setFlight e none) (fun _ s3 => wpAny (model X.prog X.w) X.A (handleBy e X.env [.ExceptHandler (some (.Tuple es kk tpos)) none (c0 :: suite0) hpos0, .ExceptHandler (some (.Name cx np)) (some n) (b0 :: suite) hpos]) (SP X pins D) X.xe s3) X.xe s2) X.xe s1) E :=
    fun pins' σ' H' s' x cls d J hx hn hp hH q => land2 hst hnx hN hi hl hg hm hcl hbm hT hz hs hdb J.ofBody hx hn (fun p hp' => hp p (List.mem_append_left _ hp')) hH (hE _ _ _ q)
  have run := hb pins _ E P1 P2 [] s σ H D I.toBody q0
  refine wpAny_mono run (fun f s1 q1 => ?_) fun _ _ z => z
  cases f with
  | next =>
    obtain ⟨σ', H', J, q⟩ := q1
    exact wpAny_execs_nil ⟨σ', H', J.ofBody, q⟩
  | brk => obtain ⟨σ', H', J, q⟩ := q1; exact ⟨σ', H', J.ofBody, q⟩
  | cont => obtain ⟨σ', H', J, q⟩ := q1; exact ⟨σ', H', J.ofBody, q⟩
  | ret v => obtain ⟨w', σ', H', J, r, q⟩ := q1; exact ⟨w', σ', H', J.ofBody, r, q⟩
end
end L2
end
section
set_option Elab.async false
set_option linter.all false
set_option maxRecDepth 100000
set_option maxHeartbeats 1000000
namespace L2
open PySem PySem.Spec PyProof.Rows
section
variable {X : Cx} {pins : List (Addr × Obj)} {σ : St} {H : Hp} {s : Shared}
theorem Inv.turnLaid {h' : Heap} {t' : Nat} {a : Addr} {o : HO} {ch : List Addr} (I : Inv X pins σ H s) (hch : ∀ b ∈ ch, FpOk X pins H b) (k : ∀ b o, b ∉ ch → s.heap.get? b = some o → h'.get? b = some o)
    (ha : s.heap.get? a = none) (new : ∀ H', ObjOk X.prog X.w H' h' a o) : Inv X pins σ (upd H a o) { s with heap := h', toks := t' } := by
  have hn : H a = none := I.hok.none_of ha
  have nch : ∀ b u, H b = some u → b ∉ ch := fun b u e z => by
    have := (hch b z).1
    rw [this] at e; cases e
  refine I.step (g' := s.gens) (d' := s.drawn) (ch := ch) (fun b hb => ?_) (fun b o _ _ hc e _ => k b o hc e) (fun b o _ _ hc e _ => ⟨o.slots, k b o hc e⟩) (fun b o _ e n => ?_) (fun b o hc e => ⟨o, k b o hc e⟩) (fun b xs e => ?_) (fun b o u e => ?_) (fun b ps e => ⟨#[], ?_⟩) (fun m hm => ?_) (fun b u e => ?_) I.bare
  · obtain ⟨_, f1, _, f3, f4, f5⟩ := hch b hb
    exact ⟨f3, f1, f4, f5⟩
  · rw [upd_ne (fun z => by rw [z, ha] at e; cases e)]; exact n
  · rw [upd_ne (ne_of_none e hn)]; exact e
  · rw [upd_ne (ne_of_none e hn)]; exact e
  · rw [upd_ne (ne_of_none e hn), e]; simp
  · obtain ⟨o, es, ep, ho, r⟩ := hm
    exact ⟨o, es, ep, k _ o (fun z => (hch _ z).2.1 rfl) ho, r⟩
  · by_cases hb : b = a
    · subst hb; rw [upd_same] at e; cases e; exact new _
    · rw [upd_ne hb] at e
      refine (I.hok b u e).stay (fun c v hc q => k c v ?_ q) (fun c q => by rw [upd_ne (ne_of_none q hn)]; exact q) fun c xs q => by rw [upd_ne (ne_of_none q hn)]; exact q
      rcases hc with z | z
      · rw [z]; exact nch b u e
      · exact nch c _ z
end
def Ite (K : PySem.W.Frag) (a : Addr) : It :=
  ⟨fun i H => ∃ xs x, SqL K H a xs ∧ xs[i]? = some x,
   fun i H v H' => ∃ p x, H p = none ∧ v = .ref p ∧ H' = upd H p (.tup [.int (i : Int), x]) ∧ ∀ xs, SqL K H a xs → xs[i]? = some x,
   fun i H => ∃ xs, SqL K H a xs ∧ xs.length ≤ i⟩
theorem turn_enum {P : Program} {w : World} {K : PySem.W.Frag} {elts : List Expr} {x1} {pos : Pos} (a it e : Addr) (hne : e ≠ it) :
    Turn P w K (.Tuple elts x1 pos) (Ite K a) [e, it] e (fun i h => (∃ old, IsEnum h e it (i : Int) old) ∧ h.IsListIter it a i) where
  mem := by simp
  obj := fun i h st b hb => by
    obtain ⟨⟨old, st1⟩, o, e2, c, d⟩ := st
    rcases List.mem_cons.mp hb with z | z
    · subst z
      exact ⟨_, st1, fun v z => by
        have z' : Data.fields _ = Data.cell v := z
        cases z'⟩
    · have z : b = it := by simpa using z
      subst z
      exact ⟨o, e2, fun v z => by rw [d] at z; cases z⟩
  keep := fun i h h' st k => by
    obtain ⟨⟨old, st1⟩, st2⟩ := st
    exact ⟨⟨old, k e (by simp) _ st1⟩, st2.at fun o q => k it (by simp) o q⟩
  item := by
    intro X hP hw hK hc i pins s σ H E I hf st hg
    subst hP hw hK
    obtain ⟨xs, x, hq, hx⟩ := hg
    obtain ⟨⟨old, st1⟩, st2⟩ := st
    obtain ⟨its, rv, p, hz⟩ := I.list hq
    obtain ⟨u, hu, ru⟩ := rv.get hx
    refine wpAny_pyNext_enum_item st1 st2 p.isList (x := u) (by simpa using hu) hne fun h1 heo hit1 ht1 hz1 hk1 => ?_
    refine ⟨_, rfl, ?_⟩
    refine wpAny_letOwnedTupleGo_enum heo fun h2 he2 hs2 => ?_
    replace hs2 : Heap.SameBut e h1 h2 := hs2
    have hfr : s.heap.get? s.heap.objs.size = none := Heap.get?_none_of_le (Nat.le_refl _)
    have hee : e < s.heap.objs.size := Heap.lt_size st1
    have hit2 : it < s.heap.objs.size := by obtain ⟨_, q, _⟩ := st2; exact Heap.lt_size q
    have hn : H s.heap.objs.size = none := I.hok.fresh (Nat.le_refl _)
    have ht2 : h2.get? s.heap.objs.size = some { cls := .type "tuple", data := .seq #[.int i s.toks, u] } := (hs2.2 _ (Nat.ne_of_gt hee)).trans ht1
    have I2 : Inv X pins σ (upd H s.heap.objs.size (.tup [.int (i : Int), x])) { s with heap := h2, toks := s.toks + 1 } := by
      refine I.turnLaid (ch := [e, it]) hf (fun b o hb q => ?_) hfr fun H' => ?_
      · have hb1 : b ≠ e := fun z => hb (by simp [z])
        have hb2 : b ≠ it := fun z => hb (by simp [z])
        exact (hs2.2 b hb1).trans (hk1 b o hb1 hb2 q)
      · exact ⟨by simp; rw [sizeLine_eq]; omega, [.int i s.toks, u], .cons ⟨_, rfl⟩ (.cons ru .nil), ⟨_, ht2, rfl, _, rfl⟩⟩
    refine ⟨.ref s.heap.objs.size, _, I2, rfl, ⟨s.heap.objs.size, x, hn, rfl, rfl, fun ys hy => by rw [I.list_inj hy hq]; exact hx⟩, ⟨⟨_, he2⟩, ?_⟩, fun b hb => ?_⟩
    · obtain ⟨o, q1, q2⟩ := hit1
      exact ⟨o, (hs2.2 it (Ne.symm hne)).trans q1, q2⟩
    · have : b ≠ s.heap.objs.size := by
        rcases List.mem_cons.mp hb with z | z
        · rw [z]; exact Nat.ne_of_lt hee
        · rw [(by simpa using z : b = it)]; exact Nat.ne_of_lt hit2
      rw [upd_ne this]
      exact (hf b hb).1
  done := by
    intro X hP hw hK hc i pins s σ H E I hf st hg
    subst hP hw hK
    obtain ⟨xs, hq, hx⟩ := hg
    obtain ⟨⟨old, st1⟩, st2⟩ := st
    obtain ⟨its, rv, p, hz⟩ := I.list hq
    obtain ⟨f0, f1, f2, f3, f4, f5⟩ := hf it (by simp)
    have hl := rv.length
    exact wpAny_pyNext_enum_end (I.ok.hd hc) st1 st2 p.isList (by simp; omega) fun h' eb => ⟨rfl, I.turned (t' := s.toks) (fun b o hb q => eb b o hb q) f0 f1 f3 f4 f5⟩
  self := fun _ _ _ _ _ st h => by
    obtain ⟨⟨old, st1⟩, _⟩ := st
    exact wpAny_pyIter_enum st1 h
section
variable {X : Cx}
def iEnum (K : PySem.W.Frag) (ta : TA) : TI := fun σ H R => ta σ H fun vs H1 => ∃ (a : Addr) (xs : List V), vs = [.ref a] ∧ SqL K H1 a xs ∧ R (Ite K a) H1
theorem pi_enum {elts : List Expr} {x1} {tpos : Pos} {a : Expr} {ta : TA} {p pos : Pos} (hg : Gl X "enumerate") (hm : X.mg "enumerate" = none) (ha : PA X [a] ta) (hs : starEach [a] X.env = [(false, eval a X.env)] := by rfl) :
    PI X (.Tuple elts x1 tpos) (.Call (.Name "enumerate" p) [a] [] pos) (iEnum X.K ta) := by
  intro pins s σ H R I h
  refine Call_ (ld_blt I hg hm boot_enumerate (PyProof.Rows.callWith_type1 (thn (ha pos pins s σ H _ I h) fun us s1 ⟨vs, H1, I1, r1, q1⟩ => ?_) hs rfl))
  obtain ⟨a, xs, e, hq, q⟩ := q1
  subst e
  obtain ⟨u, rfl, ru⟩ := Vals.one r1
  cases ru
  obtain ⟨its, rv, pl, hz⟩ := I1.list hq
  refine call_enumerate_list pl.isList fun h' he hi hsz hk => ?_
  refine wpAny_pyIter_enum he ?_
  have I2 : Inv X pins σ H1 { s1 with heap := h' } := I1.kept (t' := s1.toks) hk
  refine ⟨_, [s1.heap.objs.size + 1, s1.heap.objs.size], _, _, H1, rfl, I2, turn_enum a _ _ (Nat.succ_ne_self _), ⟨⟨.none, he⟩, hi⟩, fun b hb => ?_, q⟩
  have hb' : s1.heap.objs.size ≤ b := by
    rcases List.mem_cons.mp hb with z | z
    · rw [z]; exact Nat.le_succ _
    · have : b = s1.heap.objs.size := by simpa using z
      exact Nat.le_of_eq this.symm
  exact I1.fpOk hb' (I1.hok.fresh hb')
end
end L2
end
section
set_option Elab.async false
set_option linter.all false
set_option maxRecDepth 100000
set_option maxHeartbeats 1000000
namespace L2
open PySem PySem.Spec PyProof.Rows
section
variable {X : Cx} {tg : Expr}
theorem boot_reversed : bootBuiltins "reversed" = some (.type "reversed") := by decide +kernel
end
end L2
end
section
set_option Elab.async false
set_option linter.all false
set_option maxRecDepth 100000
set_option maxHeartbeats 2000000
namespace L2
open PySem PySem.Spec PyProof.Rows
open AutoSeq1 (wpAny_loadPart')
section
variable {prog : Program} {w : World} {A : Around} {E : Value → Shared → Prop} {s : Shared} {it l : Addr}
theorem rev_next {i : Nat} {items : Array Value} {x : Value} {Q : Value → Shared → Prop} (hit : s.heap.IsRevIter it l (i : Int)) (hl : s.heap.IsList l items) (hx : items[i]? = some x)
    (hQ : ∀ h', h'.IsRevIter it l ((i : Int) - 1) → Heap.SameBut it s.heap h' → Q x { s with heap := h' }) : wpAny (model prog w) A (Builtin.SmallTypes.nextOf (.ref it)) Q E s := by
  obtain ⟨o, ho, hc, hd⟩ := id hit
  obtain ⟨ol, hol, _, nl, hdl⟩ := hl
  unfold Builtin.SmallTypes.nextOf
  refine wpAny_bind (wpAny_callSpecial?_slot (name := Str.ofString "__next__") hit.typeIs PySem.F.slot_lri_next (wpAny_call_entry PySem.F.slot_lri_next hit.typeIs PySem.F.entry_lri_next ?_ (PySem.F.args_lri_next_1 _)))
  unfold Builtin.«list_reverseiterator.__next__»
  refine wpAny_bind (wpAny_of_eq (a := (Value.ref it, [])) rfl ?_)
  try dsimp only
  refine wpAny_bind (wpAny_field ho hd (x := rawInt (i : Int)) rfl ?_)
  show wpAny _ _ (if (i : Int) < 0 then _ else _) _ _ s
  rw [if_neg (by omega)]
  show wpAny _ _ (field (.ref it) 0 >>= _) _ _ s
  refine wpAny_bind (wpAny_field ho hd (x := .ref l) rfl ?_)
  show wpAny _ _ (seqItems? (.ref l) >>= _) _ _ s
  refine wpAny_bind (wpAny_seqItems hol hdl ?_)
  simp only [Int.toNat_natCast, hx]
  refine wpAny_bind (wpAny_setField ho hd (by simp) ?_)
  first
  | refine wpAny_pure ⟨x, rfl, wpAny_pure (hQ _ ?_ (Heap.SameBut.update ..))⟩
  | refine wpAny_bind (wpAny_pure (wpAny_pure ⟨x, rfl, wpAny_pure (hQ _ ?_ (Heap.SameBut.update ..))⟩))
  exact ⟨_, Heap.get?_update_self _ ho (Obj.isFreed_of_fields (Obj.data_mapFields hd _)), (Obj.cls_mapFields ..).trans hc, by rw [Obj.data_mapFields hd]; simp⟩
theorem rev_stop {Q : Value → Shared → Prop} (hh : A.handled = none) (hit : s.heap.IsRevIter it l (-1))
    (hE : ∀ h' e, Heap.ExtBut it s.heap h' → (∃ o, h'.get? e = some o ∧ o.cls = .type "StopIteration") → E (.ref e) { s with heap := h' }) : wpAny (model prog w) A (Builtin.SmallTypes.nextOf (.ref it)) Q E s := by
  obtain ⟨o, ho, hc, hd⟩ := id hit
  unfold Builtin.SmallTypes.nextOf
  refine wpAny_bind (wpAny_callSpecial?_slot (name := Str.ofString "__next__") hit.typeIs PySem.F.slot_lri_next (wpAny_call_entry PySem.F.slot_lri_next hit.typeIs PySem.F.entry_lri_next ?_ (PySem.F.args_lri_next_1 _)))
  unfold Builtin.«list_reverseiterator.__next__»
  refine wpAny_bind (wpAny_of_eq (a := (Value.ref it, [])) rfl ?_)
  try dsimp only
  refine wpAny_bind (wpAny_field ho hd (x := rawInt (-1)) rfl ?_)
  show wpAny _ _ (if (-1 : Int) < 0 then _ else _) _ _ s
  rw [if_pos (by decide)]
  refine wpAny_bind (wpAny_rule ?_)
  first
  | show wpAny _ _ (newExc (.type "StopIteration") [] >>= _) _ _ _
  | (refine wpAny_bind ?_; show wpAny _ _ (newExc (.type "StopIteration") [] >>= _) _ _ _)
  refine wpAny_bind ?_
  simp only [newExc, newTuple]
  refine wpAny_bind (wpAny_newObj_type ?_ (by size_fits))
  refine wpAny_bind (m := firstArgMember _ _) (wpAny_of_eq (a := Value.none) (by first | rfl | (simp only [firstArgMember]; rfl)) ?_)
  refine wpAny_newObj_type ?_ (by size_fits)
  simp only [raiseNew]
  refine wpAny_bind (wpAny_handled ?_)
  first | rw [show A.in1.handled = none from hh] | rw [hh]
  refine wpAny_bind (wpAny_pure (wpAny_throw ?_))
  exact hE _ _ (((Heap.ExtBut.refl _ _).push _).push _) ⟨_, Heap.get?_push_size _ rfl, rfl⟩
end
theorem draws_rev {prog : Program} {w : World} {A : Around} (hh : A.handled = none) (it l : Addr) (hne : l ≠ it) (items : Array Value) :
    Draws prog w A it [it, l] items.size (fun i v => items[items.size - 1 - i]? = some v) (fun i h => i ≤ items.size ∧ h.IsRevIter it l ((items.size : Int) - 1 - (i : Int)) ∧ h.IsList l items) where
  live := fun _ _ st => let ⟨o, ho, _⟩ := st.2.1; ⟨o, ho⟩
  frame := fun _ _ _ st hk => ⟨st.1, st.2.1.at fun o e => hk it (by simp) o e, st.2.2.at fun o e => hk l (by simp) o e⟩
  item := fun i s Q E hi st hQ => by
    have e1 : (items.size : Int) - 1 - (i : Int) = ((items.size - 1 - i : Nat) : Int) := by omega
    have h1 := st.2.1
    rw [e1] at h1
    refine rev_next h1 st.2.2 (x := items[items.size - 1 - i]'(by omega)) (by simp) fun h' hit' hs' => ?_
    refine hQ _ h' s.toks (by simp) ⟨by omega, ?_, st.2.2.extBut hs'.extBut hne⟩ hs'
    rw [show (items.size : Int) - 1 - ((i + 1 : Nat) : Int) = ((items.size - 1 - i : Nat) : Int) - 1 by omega]
    exact hit'
  done := fun s Q E st hE => by
    have h1 := st.2.1
    rw [show (items.size : Int) - 1 - (items.size : Int) = -1 by omega] at h1
    exact rev_stop hh h1 hE
theorem meets_enumR (r l : Addr) (i : Int) (o : Obj) :
    Meets (Builtin.«enumerate.__new__» ⟨[.type "enumerate", .ref r], []⟩) (fun _ R s => s.heap.get? r = some o ∧ s.heap.IsRevIter r l i ∧
      R (.ok (.ret (.ref s.heap.objs.size))) { s with heap := s.heap.push { cls := .type "enumerate", data := .fields #[.none, .bool false, .ref r, rawInt 0, .none, .none] } }) :=
  .of_wp fun prog w A R s h => by
    obtain ⟨hp, g, d, tk, os⟩ := s
    obtain ⟨hl, hL, h⟩ := h
    have hsub := sub_enumerate
    wp_walk using wpAny_loadPart' hl
    refine wpAny_stack_any fun st => wpAny_pure ?_
    split
    · rename_i c _ _ _ _ _
      cases (c == Value.type "enumerate")
      · wp_walk using wpAny_loadPart' hl, wpAny_pyIter_revIter hL
        exact ⟨_, rfl, h⟩
      · wp_walk using wpAny_loadPart' hl, wpAny_pyIter_revIter hL
        exact ⟨_, rfl, h⟩
    · wp_walk using wpAny_loadPart' hl, wpAny_pyIter_revIter hL
      exact ⟨_, rfl, h⟩
theorem call_enumR {prog : Program} {w : World} {A : Around} {E : Value → Shared → Prop} {s : Shared} {r l : Addr} {i : Int} {Q : Value → Shared → Prop} (hL : s.heap.IsRevIter r l i)
    (h : Q (.ref s.heap.objs.size) { s with heap := s.heap.push { cls := .type "enumerate", data := .fields #[.none, .bool false, .ref r, rawInt 0, .none, .none] } }) :
    wpAny (model prog w) A (call (.type "enumerate") [.ref r]) Q E s := by
  obtain ⟨o, ho, _⟩ := id hL
  refine callType_new PySem.F.called_enumerate (by decide) (PySem.F.typeCall_enumerate_1 _) (PySem.F.newCall_enumerate_1 _) (fun obj => PySem.F.args_object_init_2 obj _) PySem.F.entry_enumerate_new (meets_enumR r l i o) ⟨ho, hL, ?_⟩
  exact ⟨⟨_, Heap.get?_push_size _ rfl, rfl⟩, h⟩
end L2
end
section
set_option Elab.async false
set_option linter.all false
set_option maxRecDepth 100000
set_option maxHeartbeats 2000000
namespace L2
open PySem PySem.Spec PyProof.Rows
def IteR (K : PySem.W.Frag) (a : Addr) (n : Nat) : It :=
  ⟨fun i H => ∃ xs x, SqL K H a xs ∧ xs.length = n ∧ i < n ∧ xs[n - 1 - i]? = some x,
   fun i H v H' => ∃ p x, H p = none ∧ v = .ref p ∧ H' = upd H p (.tup [.int (i : Int), x]) ∧ ∀ xs, SqL K H a xs → xs[n - 1 - i]? = some x,
   fun i H => i = n ∧ ∃ xs, SqL K H a xs ∧ xs.length = n⟩
theorem turn_enumR {P : Program} {w : World} {K : PySem.W.Frag} {elts : List Expr} {x1} {pos : Pos} (a it e : Addr) (n : Nat) (hne : e ≠ it) :
    Turn P w K (.Tuple elts x1 pos) (IteR K a n) [e, it] e (fun i h => (∃ old, IsEnum h e it (i : Int) old) ∧ h.IsRevIter it a ((n : Int) - 1 - (i : Int))) where
  mem := by simp
  obj := fun i h st b hb => by
    obtain ⟨⟨old, st1⟩, o, e2, c, d⟩ := st
    rcases List.mem_cons.mp hb with z | z
    · subst z
      exact ⟨_, st1, fun v z => by
        have z' : Data.fields _ = Data.cell v := z
        cases z'⟩
    · have z : b = it := by simpa using z
      subst z
      exact ⟨o, e2, fun v z => by rw [d] at z; cases z⟩
  keep := fun i h h' st k => by
    obtain ⟨⟨old, st1⟩, st2⟩ := st
    exact ⟨⟨old, k e (by simp) _ st1⟩, st2.at fun o q => k it (by simp) o q⟩
  item := by
    intro X hP hw hK hc i pins s σ H E I hf st hg
    subst hP hw hK
    obtain ⟨xs, x, hq, hn, hi, hx⟩ := hg
    obtain ⟨⟨old, st1⟩, st2⟩ := st
    obtain ⟨its, rv, p, hz⟩ := I.list hq
    have hl := rv.length
    obtain ⟨u, hu, ru⟩ := rv.get hx
    have ha1 : a ≠ it := fun z => by
      obtain ⟨o1, g1, _, d1⟩ := st2
      obtain ⟨o2, g2, _, _, d2⟩ := p.isList
      rw [z, g1] at g2
      cases g2
      rw [d1] at d2; cases d2
    have ha2 : e ≠ a := fun z => by
      obtain ⟨o2, g2, _, _, d2⟩ := p.isList
      rw [← z] at g2
      have st1' := st1
      unfold IsEnum at st1'
      rw [g2] at st1'
      cases st1'
      cases d2
    have hsz : its.toArray.size = n := by rw [List.size_toArray]; omega
    have D := draws_rev (prog := X.prog) (w := X.w) (A := X.A.in1) (I.ok.hd hc) it a ha1 its.toArray
    rw [hsz] at D
    refine wpAny_pyNext_enum_itemD D st1 (i := i) ⟨by omega, st2, p.isList⟩ hi hne (fun z => by
      simp only [List.mem_cons, List.not_mem_nil, or_false] at z
      exact z.elim hne ha2) fun v h1 tk hv heo hst1 ht1 hz1 hk1 => ?_
    have hvu : v = u := by
      have h2 : its.toArray[n - 1 - i]? = some u := by simpa using hu
      rw [h2] at hv
      exact (Option.some.inj hv).symm
    subst hvu
    refine ⟨_, rfl, ?_⟩
    refine wpAny_letOwnedTupleGo_enum heo fun h2 he2 hs2 => ?_
    replace hs2 : Heap.SameBut e h1 h2 := hs2
    have hfr : s.heap.get? s.heap.objs.size = none := Heap.get?_none_of_le (Nat.le_refl _)
    have hee : e < s.heap.objs.size := Heap.lt_size st1
    have hit2 : it < s.heap.objs.size := by obtain ⟨_, q, _⟩ := st2; exact Heap.lt_size q
    have hnn : H s.heap.objs.size = none := I.hok.fresh (Nat.le_refl _)
    have ht2 : h2.get? s.heap.objs.size = some { cls := .type "tuple", data := .seq #[.int i tk, v] } := (hs2.2 _ (Nat.ne_of_gt hee)).trans ht1
    have I2 : Inv X pins σ (upd H s.heap.objs.size (.tup [.int (i : Int), x])) { s with heap := h2, toks := tk + 1 } := by
      refine I.turnLaid (ch := [e, it]) hf (fun b o hb q => ?_) hfr fun H' => ?_
      · have hb1 : b ≠ e := fun z => hb (by simp [z])
        have hb2 : b ≠ it := fun z => hb (by simp [z])
        exact (hs2.2 b hb1).trans (hk1 b o hb1 hb2 q)
      · exact ⟨by simp; rw [sizeLine_eq]; omega, [.int i tk, v], .cons ⟨_, rfl⟩ (.cons ru .nil), ⟨_, ht2, rfl, _, rfl⟩⟩
    refine ⟨.ref s.heap.objs.size, _, I2, rfl, ⟨s.heap.objs.size, x, hnn, rfl, rfl, fun ys hy => by rw [I.list_inj hy hq]; exact hx⟩, ⟨⟨_, he2⟩, ?_⟩, fun b hb => ?_⟩
    · obtain ⟨_, ⟨o, q1, q2⟩, _⟩ := hst1
      exact ⟨o, (hs2.2 it (Ne.symm hne)).trans q1, q2⟩
    · have : b ≠ s.heap.objs.size := by
        rcases List.mem_cons.mp hb with z | z
        · rw [z]; exact Nat.ne_of_lt hee
        · rw [(by simpa using z : b = it)]; exact Nat.ne_of_lt hit2
      rw [upd_ne this]
      exact (hf b hb).1
  done := by
    intro X hP hw hK hc i pins s σ H E I hf st hg
    subst hP hw hK
    obtain ⟨hi, xs, hq, hn⟩ := hg
    obtain ⟨⟨old, st1⟩, st2⟩ := st
    obtain ⟨its, rv, p, hz⟩ := I.list hq
    obtain ⟨f0, f1, f2, f3, f4, f5⟩ := hf it (by simp)
    have hl := rv.length
    have ha1 : a ≠ it := fun z => by
      obtain ⟨o1, g1, _, d1⟩ := st2
      obtain ⟨o2, g2, _, _, d2⟩ := p.isList
      rw [z, g1] at g2
      cases g2
      rw [d1] at d2; cases d2
    have hsz : its.toArray.size = n := by rw [List.size_toArray]; omega
    have D := draws_rev (prog := X.prog) (w := X.w) (A := X.A.in1) (I.ok.hd hc) it a ha1 its.toArray
    rw [hsz] at D
    rw [hi] at st2
    exact wpAny_pyNext_enum_endD D st1 ⟨Nat.le_refl _, st2, p.isList⟩ fun h' eb => ⟨rfl, I.turned (t' := s.toks) (fun b o hb q => eb b o hb q) f0 f1 f3 f4 f5⟩
  self := fun _ _ _ _ _ st h => by
    obtain ⟨⟨old, st1⟩, _⟩ := st
    exact wpAny_pyIter_enum st1 h
section
variable {X : Cx}
def iEnumR (K : PySem.W.Frag) (ta : TA) : TI := fun σ H R => ta σ H fun vs H1 => ∃ (a : Addr) (xs : List V), vs = [.ref a] ∧ SqL K H1 a xs ∧ R (IteR K a xs.length) H1
theorem pi_enumR {elts : List Expr} {x1} {tpos : Pos} {a : Expr} {ta : TA} {p pos p2 pos2 : Pos} (hg : Gl X "enumerate") (hm : X.mg "enumerate" = none) (hg2 : Gl X "reversed") (hm2 : X.mg "reversed" = none) (ha : PA X [a] ta) (hs : starEach [a] X.env = [(false, eval a X.env)] := by rfl)
    (hs2 : starEach [.Call (.Name "reversed" p2) [a] [] pos2] X.env = [(false, eval (.Call (.Name "reversed" p2) [a] [] pos2) X.env)] := by rfl) :
    PI X (.Tuple elts x1 tpos) (.Call (.Name "enumerate" p) [.Call (.Name "reversed" p2) [a] [] pos2] [] pos) (iEnumR X.K ta) := by
  intro pins s σ H R I h
  have hp : ∀ (s : Shared) (Q : List Value → Shared → Prop), wpAny (model X.prog X.w) X.A (eval (.Call (.Name "reversed" p2) [a] [] pos2) X.env) (fun v s' => Q [v] s') X.xe s → wpAny (model X.prog X.w) X.A (spliced (backTo pos (starEach [.Call (.Name "reversed" p2) [a] [] pos2] X.env))) Q X.xe s := fun s Q hQ => by
    rw [hs2]
    show wpAny _ _ (spliced ((false, _) :: backTo pos [])) _ _ s
    exact Calls.spliced_cons (thn hQ fun u s1 q => Calls.spliced_nil q)
  refine Call_ (ld_blt I hg hm boot_enumerate (PyProof.Rows.callWith_type1 (hp _ _ ?_) hs2 rfl))
  refine Call_ (ld_blt I hg2 hm2 boot_reversed (PyProof.Rows.callWith_type1 (thn (ha pos2 pins s σ H _ I h) fun us s1 ⟨vs, H1, I1, r1, q1⟩ => ?_) hs rfl))
  obtain ⟨a, xs, e, hq, q⟩ := q1
  subst e
  obtain ⟨u, rfl, ru⟩ := Vals.one r1
  cases ru
  obtain ⟨its, rv, pl, hz⟩ := I1.list hq
  have hl := rv.length
  refine call_reversed_list pl.isList ?_
  have new : (s1.heap.push (revObj a ((its.toArray.size : Int) - 1))).IsRevIter s1.heap.objs.size a ((xs.length : Int) - 1 - ((0 : Nat) : Int)) := by
    have e : (xs.length : Int) - 1 - ((0 : Nat) : Int) = (its.toArray.size : Int) - 1 := by rw [List.size_toArray]; omega
    rw [e]
    exact ⟨_, Heap.get?_push_size _ rfl, rfl, rfl⟩
  refine call_enumR (s := { s1 with heap := s1.heap.push (revObj a ((its.toArray.size : Int) - 1)) }) new ?_
  have I2 : Inv X pins σ H1 { s1 with heap := s1.heap.push (revObj a ((its.toArray.size : Int) - 1)) } := I1.kept (t' := s1.toks) fun b o e => Heap.get?_push_of_some _ e
  have I3 := I2.kept (h' := (s1.heap.push (revObj a ((its.toArray.size : Int) - 1))).push { cls := .type "enumerate", data := .fields #[.none, .bool false, .ref s1.heap.objs.size, rawInt 0, .none, .none] }) (t' := s1.toks) fun b o e => Heap.get?_push_of_some _ e
  have hes : (s1.heap.push (revObj a ((its.toArray.size : Int) - 1))).objs.size = s1.heap.objs.size + 1 := Heap.size_push ..
  have he : IsEnum ((s1.heap.push (revObj a ((its.toArray.size : Int) - 1))).push { cls := .type "enumerate", data := .fields #[.none, .bool false, .ref s1.heap.objs.size, rawInt 0, .none, .none] }) (s1.heap.objs.size + 1) s1.heap.objs.size 0 .none := by
    have := Heap.get?_push_size (s1.heap.push (revObj a ((its.toArray.size : Int) - 1))) (o := { cls := .type "enumerate", data := .fields #[.none, .bool false, .ref s1.heap.objs.size, rawInt 0, .none, .none] }) rfl
    rw [hes] at this
    exact this
  show wpAny _ _ (pyIter (.ref (s1.heap.push (revObj a ((its.toArray.size : Int) - 1))).objs.size)) _ _ _
  rw [hes]
  refine wpAny_pyIter_enum he ?_
  refine ⟨_, [s1.heap.objs.size + 1, s1.heap.objs.size], _, _, H1, rfl, I3, turn_enumR a _ _ xs.length (Nat.succ_ne_self _), ⟨⟨.none, he⟩, new.at fun o q => Heap.get?_push_of_some _ q⟩, fun b hb => ?_, q⟩
  have hb' : s1.heap.objs.size ≤ b := by
    rcases List.mem_cons.mp hb with z | z
    · rw [z]; exact Nat.le_succ _
    · have : b = s1.heap.objs.size := by simpa using z
      exact Nat.le_of_eq this.symm
  exact I1.fpOk hb' (I1.hok.fresh hb')
end
theorem for_enumR {K : PySem.W.Frag} {a : Addr} {xs : List V} {g : TG} {tb : TS} {D : Ends} {σ : St} {H : Hp} (Pv : Nat → St → Hp → Prop) (h0 : Pv 0 σ H) (hl : ∀ i σ H, i ≤ xs.length → Pv i σ H → SqL K H a xs)
    (hs : ∀ i x p σ H, i < xs.length → xs[xs.length - 1 - i]? = some x → Pv i σ H → H p = none → g (.ref p) σ (upd H p (.tup [.int (i : Int), x])) fun σ2 H2 => tb { D with nx := Pv (i + 1), ct := Pv (i + 1), bk := D.nx } σ2 H2) (hd : ∀ σ H, Pv xs.length σ H → D.nx σ H) :
    ∃ W : Nat → Nat → St → Hp → Prop, (∃ m, W 0 m σ H) ∧ ∀ i m σ H, W i m σ H →
      ((IteR K a xs.length).stop i H ∧ D.nx σ H) ∨ ((IteR K a xs.length).go i H ∧ ∃ N : St → Hp → Prop, (∀ σ' H', N σ' H' → ∃ m', m' < m ∧ W (i + 1) m' σ' H') ∧ ∀ x H', (IteR K a xs.length).yld i H x H' → g x σ H' fun σ2 H2 => tb { D with nx := N, ct := N, bk := D.nx } σ2 H2) := by
  refine ⟨fun i m σ H => m = xs.length - i ∧ i ≤ xs.length ∧ Pv i σ H, ⟨xs.length, by simp, Nat.zero_le _, h0⟩, ?_⟩
  rintro i m σ H ⟨rfl, hi, p⟩
  have q := hl i σ H hi p
  by_cases hlt : i < xs.length
  · refine .inr ⟨⟨xs, xs[xs.length - 1 - i]'(by omega), q, rfl, hlt, List.getElem?_eq_getElem (by omega)⟩, Pv (i + 1), fun σ' H' p' => ⟨xs.length - (i + 1), by omega, rfl, hlt, p'⟩, fun x H' y => ?_⟩
    obtain ⟨b, v, hb, rfl, rfl, y⟩ := y
    exact hs i v b σ H hlt (y xs q) p hb
  · have e : i = xs.length := by omega
    subst e
    exact .inl ⟨⟨rfl, xs, q, rfl⟩, hd σ H p⟩
theorem for_enum {K : PySem.W.Frag} {a : Addr} {xs : List V} {g : TG} {tb : TS} {D : Ends} {σ : St} {H : Hp} (Pv : Nat → St → Hp → Prop) (h0 : Pv 0 σ H) (hl : ∀ i σ H, i ≤ xs.length → Pv i σ H → SqL K H a xs)
    (hs : ∀ i x p σ H, xs[i]? = some x → Pv i σ H → H p = none → g (.ref p) σ (upd H p (.tup [.int (i : Int), x])) fun σ2 H2 => tb { D with nx := Pv (i + 1), ct := Pv (i + 1), bk := D.nx } σ2 H2) (hd : ∀ σ H, Pv xs.length σ H → D.nx σ H) :
    ∃ W : Nat → Nat → St → Hp → Prop, (∃ m, W 0 m σ H) ∧ ∀ i m σ H, W i m σ H →
      ((Ite K a).stop i H ∧ D.nx σ H) ∨ ((Ite K a).go i H ∧ ∃ N : St → Hp → Prop, (∀ σ' H', N σ' H' → ∃ m', m' < m ∧ W (i + 1) m' σ' H') ∧ ∀ x H', (Ite K a).yld i H x H' → g x σ H' fun σ2 H2 => tb { D with nx := N, ct := N, bk := D.nx } σ2 H2) := by
  refine ⟨fun i m σ H => m = xs.length - i ∧ i ≤ xs.length ∧ Pv i σ H, ⟨xs.length, by simp, Nat.zero_le _, h0⟩, ?_⟩
  rintro i m σ H ⟨rfl, hi, p⟩
  have q := hl i σ H hi p
  by_cases hlt : i < xs.length
  · refine .inr ⟨⟨xs, xs[i], q, List.getElem?_eq_getElem hlt⟩, Pv (i + 1), fun σ' H' p' => ⟨xs.length - (i + 1), by omega, rfl, hlt, p'⟩, fun x H' y => ?_⟩
    obtain ⟨b, v, hb, rfl, rfl, y⟩ := y
    exact hs i v b σ H (y xs q) p hb
  · have e : i = xs.length := by omega
    subst e
    exact .inl ⟨⟨xs, q, Nat.le_refl _⟩, hd σ H p⟩
end L2
end
section
set_option Elab.async false
set_option linter.all false
set_option maxRecDepth 100000
set_option maxHeartbeats 1000000
namespace L2
open PySem PySem.Spec PyProof.Rows
section
variable {prog : Program} {w : World} {A : Around} {E : Value → Shared → Prop} {s : Shared}
theorem draw_list {it t : Addr} {items : Array Value} (hne : t ≠ it) : ∀ (n i : Nat) (s : Shared) (Q : List Value → Shared → Prop), s.heap.IsListIter it t i → s.heap.IsList t items → i + n ≤ items.size →
    (∀ h', h'.IsListIter it t (i + n) → Heap.SameBut it s.heap h' → Q ((items.toList.drop i).take n) { s with heap := h' }) → wpAny (model prog w) A (draw (.ref it) n) Q E s
  | 0, i, s, Q, hit, _, _, hQ => by
    show wpAny _ _ (pure []) Q E s
    exact wpAny_pure (by simpa using hQ s.heap hit (Heap.SameBut.refl ..))
  | n + 1, i, s, Q, hit, ht, hle, hQ => by
    have hlt : i < items.size := by omega
    show wpAny _ _ (pyNext (.ref it) >>= _) Q E s
    refine wpAny_bind (wpAny_pyNext_list_item hit ht (x := items[i]) (by simp [hlt]) fun h1 hit1 sb1 => ?_)
    refine wpAny_bind (wpAny_holding (draw_list hne n (i + 1) _ _ hit1 (ht.extBut sb1.extBut hne) (by omega) fun h2 hit2 sb2 => wpAny_pure ?_))
    have hd : items.toList.drop i = items[i] :: items.toList.drop (i + 1) := by simp [List.drop_eq_getElem_cons, hlt]
    have z := hQ h2 (by rw [show i + (n + 1) = i + 1 + n by omega]; exact hit2) (sb1.trans sb2)
    rw [hd, List.take_succ_cons] at z
    exact z
theorem unpack_items {t : Addr} {items : Array Value} {Q : List Value → Shared → Prop} (hh : A.handled = none) (ht : s.heap.IsList t items)
    (hQ : ∀ h', Heap.ExtBut s.heap.objs.size s.heap h' → Q items.toList { s with heap := h' }) : wpAny (model prog w) A (unpackItems (.ref t) items.size none) Q E s := by
  have hlt : t ≠ s.heap.objs.size := by obtain ⟨o, ho, _⟩ := ht; exact Nat.ne_of_lt (Heap.lt_size ho)
  unfold unpackItems
  refine wpAny_bind ?_
  unfold notIterableAtAll
  refine wpAny_bind (wpAny_specialOf ht.typeIs slot_list_iter.lookup (wpAny_pure ?_))
  simp only [Bool.false_eq_true, if_false]
  refine wpAny_bind (wpAny_holding (wpAny_pyIter_list ht ?_))
  refine wpAny_bind (wpAny_holding (draw_list hlt items.size 0 _ _ ⟨_, Heap.get?_push_size _ rfl, rfl, rfl⟩ (ht.push _) (by omega) fun h1 hit1 sb1 => ?_))
  have hall : List.take items.size (List.drop 0 items.toList) = items.toList := by
    rw [List.drop_zero]; exact List.take_of_length_le (by simp)
  rw [hall, if_neg (by simp)]
  have ht1 : h1.IsList t items := (ht.push _).extBut sb1.extBut hlt
  refine wpAny_bind (wpAny_holding (wpAny_pyNext_list_end hh (by simpa using hit1) ht1 (by simp) fun h2 he2 => ?_))
  simp only [Option.isSome_none, Bool.false_eq_true, if_false]
  exact wpAny_pure (hQ h2 fun b o hb e => he2 b o hb (sb1.extBut b o hb (Heap.get?_push_of_some _ e)))
end
section
variable {X : Cx} {pos : Pos}
def gLst (K : PySem.W.Frag) (n : Nat) (t : TGs) : TG := fun v σ H Q => ∃ a xs, v = .ref a ∧ SqL K H a xs ∧ xs.length = n ∧ t xs σ H Q
theorem pg_lst {es : List Expr} {k : Nat} {t : TGs} {n : Nat} (hc : X.calm = true) (h : PGs X es t)
    (hn : (assignEach es X.env).length = n := by rfl) (hst : (assignEach es X.env).findIdx? (·.1) = none := by rfl) : PG X (.Tuple es k pos) (gLst X.K n t) := by
  intro pins s σ H v u Q I r hw
  obtain ⟨a, xs, rfl, hq, hl, hw⟩ := hw
  cases r
  obtain ⟨its, rv, p, hz⟩ := I.list hq
  rw [assign_Tuple]
  refine wpAny_bind (wpAny_standAt ?_)
  unfold unpack
  have hsz : (assignEach es X.env).length = its.toArray.size := by simp [hn, ← hl, rv.length]
  rw [hsz, hst]
  refine wpAny_bind (wpAny_holding (unpack_items (I.ok.hd hc) p.isList fun h' hx => ?_))
  have I1 : Inv X pins σ H { s with heap := h' } := I.kept (t' := s.toks) fun b o e => hx b o (Nat.ne_of_lt (Heap.lt_size e)) e
  exact h pins _ σ H xs _ Q I1 (by simpa using rv) hw
def rAny (K : PySem.W.Frag) : List V → Hp → VK → Prop := fun xs H Q => ∃ (a : Addr) (bs : List Bool), xs = [.ref a] ∧ SqL K H a (bs.map V.bl) ∧ Q (.bl (bs.any id)) H
theorem call_any_list (hc : X.calm = true) : CallR X (.builtin "any") (rAny X.K) := by
  intro pins s σ H xs us Q I r h
  obtain ⟨a, bs, rfl, hq, q⟩ := h
  obtain ⟨u, rfl, ru⟩ := Vals.one r
  cases ru
  obtain ⟨its, rv, p, hz⟩ := I.list hq
  have hl := rv.length
  rw [List.length_map] at hl
  have hil := p.isList
  have hlt : a < s.heap.objs.size := by obtain ⟨_, e, _⟩ := hil; exact Heap.lt_size e
  refine call_any_walk (wpAny_pyIter_list hil ?_)
  refine ⟨s.heap.objs.size, _, _, _, _, _, (fun i => bs.getD i false), rfl, Walks.list (A := X.A.in1) (I.ok.hd hc) _ a (Nat.ne_of_lt hlt) its.toArray, ⟨⟨_, Heap.get?_push_size _ rfl, rfl, rfl⟩, hil.push _⟩, fun i v s' Q' E' hP hQ => ?_, fun h' tk hk => ?_⟩
  · obtain ⟨x, e1, e2⟩ := vals_at rv (i := i) (v := v) (by simpa using hP)
    rw [List.getElem?_map] at e1
    obtain ⟨b, e3, rfl⟩ := Option.map_eq_some_iff.mp e1
    cases e2
    have : bs.getD i false = b := by rw [List.getD, e3]; rfl
    dsimp only at hQ
    rw [this] at hQ
    exact wpAny_truthy_bool hQ
  · have e : (List.range its.toArray.size).any (fun i => bs.getD i false) = bs.any id := by
      rw [List.size_toArray, ← hl]
      have e2 : bs = (List.range bs.length).map fun i => bs.getD i false := by
        refine List.ext_getElem (by simp) fun i h1 h2 => ?_
        simp [h1]
      conv => rhs; rw [e2, List.any_map]
      rfl
    rw [e]
    exact ⟨.bl _, H, I.kept (t' := tk) fun b o e => hk b o (fun z => by rw [List.mem_singleton.mp z] at e; exact absurd (Heap.lt_size e) (Nat.lt_irrefl _)) (Heap.get?_push_of_some _ e), rfl, q⟩
def tChain2 (r r' : R2) (ta tb tc : TE) : TT := fun σ H Q => ta σ H fun x H1 => tb σ H1 fun y H2 => r x y H2 fun c H3 => ∃ k, c = .bl k ∧ (if k = true then tc σ H3 fun z H4 => r' y z H4 fun c' H5 => ∃ k', c' = .bl k' ∧ Q k' H5 else Q false H3)
theorem pt_chain2 {a b c : Expr} {op op' : CmpOp} {r r' : R2} {ta tb tc : TE} (ho : OpR X (compareOp op) r) (ho' : OpR X (compareOp op') r') (ha : PE X a ta) (hb : PE X b tb) (hcc : PE X c tc)
    (hm : lastMarks [op, op'] [b, c] = false) : PT X (.Compare a [op, op'] [b, c] pos) (tChain2 r r' ta tb tc) := by
  intro pins s σ H Q I h
  refine isTrue_chain (thn (ha pins s σ H _ I h) fun u s1 ⟨x, H1, I1, r1, q1⟩ => ?_) hm
  refine test_link (thn (hb pins s1 σ H1 _ I1 q1) fun v s2 ⟨y, H2, I2, r2, q2⟩ => thn (ho pins s2 σ H2 x y u v _ I2 r1 r2 q2) fun cv s3 ⟨z, H3, I3, r3, q3⟩ => ?_)
  obtain ⟨k, rfl, q3⟩ := q3
  cases r3
  refine wpAny_truthy_bool ?_
  cases k with
  | false => exact ⟨H3, I3, q3⟩
  | true =>
    refine test_last (thn (hcc pins s3 σ H3 _ I3 q3) fun w' s4 ⟨zz, H4, I4, r4, q4⟩ => thn (ho' pins s4 σ H4 y zz v w' _ I4 r2 r4 q4) fun cv' s5 ⟨z', H5, I5, r5, q5⟩ => ?_)
    obtain ⟨k', rfl, q5⟩ := q5
    cases r5
    exact wpAny_truthy_bool ⟨H5, I5, q5⟩
end
end L2
end
section
set_option Elab.async false
set_option linter.all false
set_option maxRecDepth 100000
set_option maxHeartbeats 1000000
namespace L2
open PySem PySem.Spec PyProof.Rows
section
variable {X : Cx}
def rRepr (K : PySem.W.Frag) : List V → Hp → VK → Prop := fun xs H Q => ∃ (x : V) (d : PyData), xs = [x] ∧ Dt K H x d ∧ d.showable = true ∧ d.depth ≤ 60 ∧ d.shown.length ≤ sizeLine ∧ Q (.str d.shown) H
theorem call_repr (hu : X.A.units + 64 < cLine) (hg : X.A.guards = some []) : CallR X (.builtin "repr") (rRepr X.K) := by
  intro pins s σ H xs us Q I r h
  obtain ⟨x, d, rfl, hd, hs, hz, hl, q⟩ := h
  obtain ⟨u, rfl, ru⟩ := Vals.one r
  obtain ⟨as, ra⟩ := Dt.reads I d x u hd ru
  have hc := PyData.hasDict_of_canLay d (Dt.can d x hd)
  have tick : EP X pins σ Q (.str d.shown s.toks) { s with toks := s.toks + 1 } := ⟨.str d.shown, H, I.kept (fun _ _ z => z), ⟨_, rfl⟩, q⟩
  cases hd with
  | non => cases ru; exact P.repr_of_none tick
  | bl b => cases ru; exact P.repr_of_bool tick
  | int i => obtain ⟨t, rfl⟩ := ru; exact P.repr_of_int (by simpa [PyData.showable] using hs) tick
  | str y hy => obtain ⟨t, rfl⟩ := ru; exact P.repr_of_str tick (hsz := hl)
  | lst h1 h2 =>
    cases ru
    exact repr_of_reads' ra hs (PyData.noDict_hsm hc) hg (by omega) (fun _ _ z => z) (fun h' u tk k => ⟨.str _, H, I.kept k, ⟨_, rfl⟩, q⟩) (hsz := hl)
  | tup h1 h2 =>
    cases ru
    exact repr_of_reads' ra hs (PyData.noDict_hsm hc) hg (by omega) (fun _ _ z => z) (fun h' u tk k => ⟨.str _, H, I.kept k, ⟨_, rfl⟩, q⟩) (hsz := hl)
end
end L2
end
section
set_option Elab.async false
set_option linter.all false
set_option maxRecDepth 100000
set_option maxHeartbeats 1000000
namespace L2
open PySem PySem.Spec PyProof.Rows
section
variable {K : Type} [DecidableEq K]
theorem erase_key : ∀ {xs : List (K × Addr × Value)} {j : Nat} {k : K} {p : Addr × Value}, (xs.map (·.1)).Nodup → xs[j]? = some (k, p) → xs.eraseIdx j = xs.filter fun x => decide (x.1 ≠ k)
  | [], _, _, _, _, h => by simp at h
  | x :: r, 0, k, p, hn, h => by
    simp at h
    subst h
    rw [List.eraseIdx_cons_zero, List.filter_cons, if_neg (by simp)]
    rw [List.map_cons, List.nodup_cons] at hn
    refine (List.filter_eq_self.mpr fun y hy => ?_).symm
    rw [decide_eq_true_eq]
    intro e
    refine hn.1 ?_
    rw [← e]
    exact List.mem_map.mpr ⟨y, hy, rfl⟩
  | x :: r, j + 1, k, p, hn, h => by
    rw [List.map_cons, List.nodup_cons] at hn
    have h' : r[j]? = some (k, p) := by simpa using h
    rw [List.eraseIdx_cons_succ, erase_key hn.2 h', List.filter_cons, if_pos]
    rw [decide_eq_true_eq]
    intro e
    refine hn.1 ?_
    rw [e]
    exact List.mem_map.mpr ⟨_, List.mem_of_getElem? h', rfl⟩
theorem erase_map {α β : Type} (f : α → β) : ∀ (l : List α) (j : Nat), (l.map f).eraseIdx j = (l.eraseIdx j).map f
  | [], _ => by simp
  | _ :: _, 0 => by simp
  | x :: r, j + 1 => by rw [List.map_cons, List.eraseIdx_cons_succ, erase_map f r j, List.eraseIdx_cons_succ, List.map_cons]
end
section
variable {prog : Program} {w : World} {K : Type} [DecidableEq K] {knd : HeapKind prog w K} {A : Around} {E : Value → Shared → Prop} {s : Shared} {d a : Addr} {k : K} {xs : List (K × Addr × Value)}
theorem take_outH {p : Addr × Value} {Q : Option DictEntry → Shared → Prop} (hu : knd.room A) (hkey : knd.is s.heap k a) (hm : s.heap.DictOfH knd d xs) (hp : atKey xs k = some p) (hsz : xs.length ≤ sizeLine)
    (h : ∀ (e : DictEntry) (h' : Heap), e.val = p.2 → h'.DictOfH knd d (xs.filter fun x => decide (x.1 ≠ k)) → Heap.SameBut d s.heap h' → Q (some e) { s with heap := h', toks := s.toks + knd.draws k }) :
    wpAny (model prog w) A (Builtin.Dict.takeOut d (.ref a)) Q E s := by
  obtain ⟨o, es, ep, ho, hc, hd, he, his, hn⟩ := hm
  unfold Builtin.Dict.takeOut
  try with_reducible refine wpAny_holding ?_
  refine wpAny_bind (knd.pyHash hu hkey (wpAny_bind (wpAny_dictFind_heap (s := { s with toks := s.toks + knd.draws k }) hu hkey ho hd he his hn ?_ ?_)))
  · intro hno
    rw [atKey_none_of_get hno] at hp
    cases hp
  · intro j p' hj
    have e1 : p' = p := by
      have := atKey_of_get hn hj
      rw [hp] at this
      exact (Option.some.inj this).symm
    subst e1
    refine wpAny_bind (wpAny_dictEntries (s := { s with toks := s.toks + knd.draws k }) ho hd ?_)
    rw [entry_at he j, hj]
    have hz := size_of_entries he
    refine wpAny_bind (wpAny_updateDictKeys (hz := by omega) (s := { s with toks := s.toks + knd.draws k }) ho hd (wpAny_pure (h _ _ rfl ⟨_, _, ep + 1, Heap.get?_update_self _ ho (Obj.isFreed_of_dict (Obj.data_mapDictKeys hd _)),
      hc.mapDictKeys _, Obj.data_mapDictKeys hd _, ?_, fun x hx => knd.keeps (his x ((List.mem_filter.mp hx).1)) ho hd (Heap.SameBut.update ..), ?_⟩ (Heap.SameBut.update ..))))
    · rw [← erase_key hn hj, ← erase_map, ← he]
      obtain ⟨l⟩ := es
      simp
    · exact List.Nodup.sublist (List.Sublist.map _ List.filter_sublist) hn
theorem meetsH_pop {p : Addr × Value} : MeetsIn prog w (Builtin.«dict.pop» ⟨[.ref d, .ref a], []⟩) (fun A R s => knd.room A.in1 ∧ knd.is s.heap k a ∧ s.heap.DictOfH knd d xs ∧ atKey xs k = some p ∧ xs.length ≤ sizeLine ∧
    ∀ h', h'.DictOfH knd d (xs.filter fun x => decide (x.1 ≠ k)) → Heap.SameBut d s.heap h' → R (.ok (.ret p.2)) { s with heap := h', toks := s.toks + knd.draws k }) :=
  .of_wp fun A R s ⟨hu, hkey, hm, hp, hsz, h⟩ => by
    unfold Builtin.«dict.pop»
    refine wpAny_bind ?_
    unfold Builtin.Dict.keyAndDefault
    refine wpAny_bind (wpAny_notOrdered_dict hm.typeIs ?_)
    show wpAny _ _ (pure (d, Value.ref a, none)) _ _ s
    refine wpAny_pure ?_
    obtain ⟨o, es, ep, ho, hc, hd, he, his, hn⟩ := id hm
    have hk : (keyPart (Value.ref a)).isSome = false := rfl
    simp only [hk, Bool.false_eq_true, if_false]
    refine wpAny_bind (wpAny_dictEntries ho hd (wpAny_bind (wpAny_pure ?_)))
    have hne : es.isEmpty = false := by
      cases xs with
      | nil => cases hp
      | cons x r =>
        have := size_of_entries he
        rw [List.length_cons] at this
        rw [Array.isEmpty_eq_false_iff]
        intro z
        rw [z] at this
        simp at this
    simp only [hne, Bool.false_eq_true, if_false]
    refine wpAny_bind (take_outH hu hkey hm hp hsz fun e h' he' hm' hs' => ?_)
    simp only [Option.isNone_some, Bool.false_eq_true, if_false]
    exact wpAny_bind (wpAny_letGo (wpAny_pure ⟨e.val, rfl, by rw [he']; exact h h' hm' hs'⟩))
end
theorem KT.drop {H : Hp} {kvs : List (List Key × V)} {xs : List (List Key × Addr × Value)} (r : KT H kvs xs) (k : List Key) : KT H (dropK kvs k) (xs.filter fun x => decide (x.1 ≠ k)) := by
  unfold dropK
  induction r with
  | nil => exact .nil
  | @cons p q ps qs h t ih =>
    by_cases e : p.1 = k
    · rw [List.filter_cons, List.filter_cons, if_neg (by simpa using e), if_neg (by rw [← h.1]; simpa using e)]
      exact ih
    · rw [List.filter_cons, List.filter_cons, if_pos (by simpa using e), if_pos (by rw [← h.1]; simpa using e)]
      exact .cons h ih
section
variable {X : Cx} {pins : List (Addr × Obj)} {σ : St} {H : Hp} {s : Shared} {a b : Addr} {kvs : List (List Key × V)} {k : List Key} {v : V} {o e : Expr} {apos cpos : Pos} {td ty : TE}
theorem d_popT {E : Value → Shared → Prop} {A : Around} {Q : Value → Shared → Prop} (hu : A.units + 3 < cLine) (I : Inv X pins σ H s) (ea : H a = some (.dT kvs)) (eb : H b = some (.tup (k.map kV))) (l : valV kvs k = some v)
    (h : ∀ w' s', Inv X pins σ (upd H a (.dT (dropK kvs k))) s' → RelV v w' → Q w' s') : wpAny (model X.prog X.w) A (call (.builtin "dict.pop") [.ref a, .ref b]) Q E s := by
  obtain ⟨z, hd, xs, rel, dd⟩ := dt_of I.hok ea
  obtain ⟨w', hw, rw'⟩ := RelO.some_of (v := v) (o := (atKey xs k).map (·.2)) (by rw [← l]; exact rel.val k)
  obtain ⟨p, hp, rfl⟩ := Option.map_eq_some_iff.mp hw
  refine call_meetsIn PySem.F.slot_dict_pop dd.typeIs PySem.F.entry_dict_pop (PySem.F.args_dict_pop_2 _ _) (meetsH_pop (knd := tupleKind (mixKind X.prog X.w)) (k := k) (xs := xs) (p := p)) ⟨?_, key_of I.hok eb, dd, hp, by rw [← Paired.length rel]; exact z, fun h' dd' hs => h p.2 _ ?_ rw'⟩
  · first | exact tupleKind_room_in1 (by show _ + 1 < _; omega) | (show _ < _; omega) | trace_state
  · obtain ⟨q, es, ep, hq, h2, h3, h4, _, h5⟩ := dd'
    refine d_write I (by rw [ea]; exact True.intro) hs ⟨q, hq⟩ ⟨Nat.le_trans (dropK_le kvs k) z, hd, _, (rel.drop k).keeps fun c ys ec => ?_, q, es, ep, hq, h2, h3, h4, h5⟩
    rw [upd_ne (ne_of ec ea (fun z => nomatch z))]
    exact ec
def tDPopT (td ty : TE) : TE := fun σ H Q => td σ H fun x H1 => ∃ a, x = .ref a ∧ IsD H1 a ∧ ty σ H1 fun y H2 => ∃ (kvs : List (List Key × V)) (k : List Key) (b : Addr) (v : V), y = .ref b ∧ H2 a = some (.dT kvs) ∧ H2 b = some (.tup (k.map kV)) ∧ valV kvs k = some v ∧ Q v (upd H2 a (.dT (dropK kvs k)))
theorem pe_dpopT (hu : X.A.units + 3 < cLine) (ho : PE X o td) (he : PE X e ty) (m : M1 X o "pop" apos e cpos) : PE X (.Call (.Attribute o "pop" apos) [e] [] cpos) (tDPopT td ty) := by
  intro pins s σ H Q I h
  refine wpAny_Call_method m.base m.few m.line PySem.F.plainAttrs_dict PySem.F.slot_dict_pop PySem.F.type_dict_pop (thn (ho pins s σ H _ I h) fun u s1 ⟨x, H1, I1, rx, a, ex, d, q1⟩ => ?_)
  subst ex
  obtain rfl : u = Value.ref a := rx
  obtain ⟨t1, t2, _⟩ := isD_at I1 d
  refine ⟨t1, t2, ?_⟩
  rw [m.trees]
  refine Calls.callWith_builtin rfl (Calls.evalArgs_plain (Calls.spliced_cons (thn (he pins s1 σ H1 _ I1 q1) fun iv s2 ⟨y, H2, I2, ry, kvs, k, b, v, ey, ea, eb, l, q2⟩ => Calls.spliced_nil ?_)))
  subst ey
  cases (show iv = Value.ref b from ry)
  exact d_popT hu I2 ea eb l fun w' s3 I3 rw' => ⟨v, _, I3, rw', q2⟩
end
end L2
end
section
set_option Elab.async false
set_option linter.all false
set_option maxRecDepth 100000
set_option maxHeartbeats 1000000
namespace L2
open PySem PySem.Spec PyProof.Rows
def mergeT (kvs : List (List Key × V)) (more : List (List Key × Addr × V)) : List (List Key × V) := more.foldl (fun acc x => putK acc x.1 x.2.2) kvs
theorem length_mergeT : ∀ (more : List (List Key × Addr × V)) (kvs : List (List Key × V)), (mergeT kvs more).length ≤ kvs.length + more.length
  | [], kvs => by show kvs.length ≤ kvs.length + 0; omega
  | p :: r, kvs => by
    have h1 := length_mergeT r (putK kvs p.1 p.2.2)
    have h2 := length_putK kvs p.1 p.2.2
    show (mergeT (putK kvs p.1 p.2.2) r).length ≤ _
    rw [List.length_cons]; omega
section
variable {X : Cx} {pins : List (Addr × Obj)} {σ : St} {d : Addr}
theorem dict_setT {E : Value → Shared → Prop} {A : Around} {H : Hp} {s : Shared} {b : Addr} {kvs : List (List Key × V)} {k : List Key} {v : V} {r : Value} {Q : Unit → Shared → Prop} (hu : A.units < cLine) (I : Inv X pins σ H s) (e : H d = some (.dT kvs)) (eb : H b = some (.tup (k.map kV))) (l : kvs.length < sizeLine) (rv : RelV v r)
    (h : ∀ s', Inv X pins σ (upd H d (.dT (putK kvs k v))) s' → Q () s') : wpAny (model X.prog X.w) A (dictSet d (.ref b) r) Q E s := by
  obtain ⟨z, hd, xs, rel, dd⟩ := dt_of I.hok e
  have hz : xs.length ≤ sizeLine := by rw [← Paired.length rel]; exact z
  have hl : (putK kvs k v).length ≤ sizeLine := by have := length_putK kvs k v; omega
  refine wpAny_dictSet_heap (hsz := hz) (knd := tupleKind (mixKind X.prog X.w)) (k := k) (show (tupleKind (mixKind X.prog X.w)).room A from hu) (key_of I.hok eb) dd fun h' dd' hs => h _ ?_
  obtain ⟨q, es, ep, hq, h2, h3, h4, _, h5⟩ := dd'
  refine d_write I (by rw [e]; exact True.intro) hs ⟨q, hq⟩ ⟨hl, hd, _, (rel.put k eb rv).keeps fun c ys ec => ?_, q, es, ep, hq, h2, h3, h4, h5⟩
  rw [upd_ne (ne_of ec e (fun z => nomatch z))]
  exact ec
theorem store_allT {E : Value → Shared → Prop} {A : Around} (hu : A.units < cLine) : ∀ (kbs : List (List Key × Addr × V)) (ws : List (Value × Value)) (acc : List (List Key × V)) (H : Hp) (s : Shared) (Q : PUnit → Shared → Prop), VV (kbs.map fun x => (V.ref x.2.1, x.2.2)) ws → Inv X pins σ H s → H d = some (.dT acc) →
    (∀ x ∈ kbs, H x.2.1 = some (.tup (x.1.map kV))) → acc.length + kbs.length ≤ sizeLine → (∀ s', Inv X pins σ (upd H d (.dT (mergeT acc kbs))) s' → Q PUnit.unit s') →
    wpAny (model X.prog X.w) A (forIn ws PUnit.unit fun (x : Value × Value) (_ : PUnit) => (do dictSet d x.1 x.2; pure (ForInStep.yield PUnit.unit) : Sem (ForInStep PUnit))) Q E s
  | [], _, acc, H, s, Q, rel, I, hd, _, _, hQ => by
    rw [List.map_nil] at rel
    cases rel
    rw [List.forIn_nil]
    have e : upd H d (.dT (mergeT acc [])) = H := by
      funext b
      by_cases hb : b = d
      · subst hb; rw [upd_same, hd]; rfl
      · rw [upd_ne hb]
    rw [e] at hQ
    exact wpAny_pure (hQ s I)
  | x :: kbs, _, acc, H, s, Q, rel, I, hd, hb, hl, hQ => by
    rw [List.map_cons] at rel
    cases rel with
    | @cons a b as bs h t =>
      obtain ⟨b1, b2⟩ := b
      rw [List.length_cons] at hl
      obtain ⟨h1, h2⟩ := h
      cases (show b1 = Value.ref x.2.1 from h1)
      rw [List.forIn_cons]
      refine wpAny_bind (wpAny_bind (dict_setT hu I hd (hb x (by simp)) (by omega) h2 fun s1 I1 => wpAny_pure ?_))
      refine store_allT hu kbs bs (putK acc x.1 x.2.2) _ s1 Q t I1 upd_same (fun y hy => ?_) (by have := length_putK acc x.1 x.2.2; omega) fun s' I' => hQ s' ?_
      · have := hb y (by simp [hy])
        rw [upd_ne (ne_of this hd (fun z => nomatch z))]
        exact this
      · rw [upd_upd] at I'
        exact I'
def tDispT (trs : List (TE × TE)) : TE := fun σ H Q => ∀ p, H p = none → tPairs trs σ (upd H p (.dT [])) fun ps H2 => H2 p = some (.dT []) ∧ ∃ kbs : List (List Key × Addr × V), ps = kbs.map (fun x => (V.ref x.2.1, x.2.2)) ∧ (∀ x ∈ kbs, H2 x.2.1 = some (.tup (x.1.map kV))) ∧ kbs.length ≤ 15 ∧ Q (.ref p) (upd H2 p (.dT (mergeT [] kbs)))
theorem pe_dispT {pos : Pos} {keys : List (Option Expr)} {values : List Expr} {trs : List (TE × TE)} (hu : X.A.units + 1 < cLine) (h : PPs X pos keys values trs) (hall : keys.all (·.isSome) = true) (hl : keys.length = values.length) (h0 : keys ≠ [])
    (h15 : keys.length ≤ 15) : PE X (.Dict keys values pos) (tDispT trs) := by
  intro pins s σ H Q I q
  have hn := I.hok.fresh (Nat.le_refl s.heap.objs.size)
  have I1 := I.laid (a := s.heap.objs.size) (o := .dT []) (h' := s.heap.push { cls := .type "dict", data := .dict #[] }) (t' := s.toks) (fun _ _ q => Heap.get?_push_of_some _ q) (Nat.le_refl _) (dt_empty s.heap I.big)
  have hpn := pairTrees_length keys values X.env pos hall hl
  have hp0 : pairTrees keys values X.env pos ≠ [] := fun he => by
    rw [he] at hpn
    exact h0 (List.length_eq_zero_iff.mp hpn.symm)
  rw [arm_eval_Dict, zip_pairTrees keys values X.env pos hall hl, dictDisplay_pairs _ hp0 (by omega)]
  refine wpAny_bind (wpAny_standAt (wpAny_bind ?_))
  unfold subDict
  refine wpAny_bind (wpAny_alloc ?_)
  refine wpAny_bind (wpAny_holding ?_)
  rw [if_pos (by omega)]
  refine wpAny_bind (thn (h pins _ σ _ _ I1 (q _ hn)) fun ws s2 ⟨ps, H2, I2, rel, e, kbs, ep, hb, lk, q2⟩ => ?_)
  subst ep
  refine wpAny_holding ?_
  refine wpAny_bind (store_allT (by omega) kbs ws [] H2 s2 _ rel I2 e hb (by rw [List.length_nil, sizeLine_eq]; omega) fun s' I' => wpAny_pure (wpAny_pure (wpAny_pure ?_)))
  exact ⟨.ref s.heap.objs.size, _, I', rfl, q2⟩
end
end L2
end
section
set_option Elab.async false
set_option linter.all false
set_option maxRecDepth 100000
set_option maxHeartbeats 1000000
namespace K51
open PySem L2
inductive Lt where
  | sg (c : Nat) | sp (j k : Nat)
  deriving DecidableEq
def plainC (c : Nat) : Bool := c == 67 || c == 82 || c == 76 || c == 69
def sign (c : Nat) : Bool := plainC c || c == 83
def digits (n : Nat) : List Nat := (Nat.toDigits 10 n).map Char.toNat
def Lt.ok : Lt → Prop
  | .sg c => plainC c = true
  | .sp _ _ => True
theorem plain_sign {c : Nat} (h : plainC c = true) : sign c = true := by unfold sign; rw [h]; rfl
theorem digits_small {n : Nat} (h : n < 10) : digits n = [48 + n] := by
  unfold digits
  rw [Nat.toDigits_of_lt_base h]
  have : ∀ d : Nat, d < 10 → (Nat.digitChar d).toNat = 48 + d := by decide
  simp [this n h]
theorem digits_step {n : Nat} (h : 10 ≤ n) : digits n = digits (n / 10) ++ [48 + n % 10] := by
  have hm : n % 10 < 10 := Nat.mod_lt n (by decide)
  have t : Nat.toDigits 10 (n / 10) ++ Nat.toDigits 10 (n % 10) = Nat.toDigits 10 (10 * (n / 10) + n % 10) := Nat.toDigits_append_toDigits (by decide) (by omega) hm
  rw [Nat.div_add_mod] at t
  rw [← digits_small hm]
  unfold digits
  rw [← t, List.map_append]
theorem digits_len : ∀ (m n : Nat), n < 10 ^ (m + 1) → (digits n).length ≤ m + 1
  | 0, n, h => by
    rw [digits_small (by simpa using h)]
    simp
  | m + 1, n, h => by
    by_cases h10 : n < 10
    · rw [digits_small h10]; simp
    · rw [digits_step (by omega), List.length_append, List.length_singleton]
      have := digits_len m (n / 10) (by rw [Nat.pow_succ] at h; omega)
      omega
theorem str_nat (n : Nat) : ((toString ((n : Nat) : Int) : String) : Str) = txt (digits n) := by
  rw [← txt_eta (Str.ofString (toString ((n : Nat) : Int))), PySem.W.KIN.signs_num]
  rfl
def asc (l : List Nat) : Prop := ∀ c ∈ l, c < 128
theorem sign_asc {c : Nat} (h : sign c = true) : c < 128 := by
  unfold sign plainC at h
  simp only [Bool.or_eq_true, beq_iff_eq] at h
  omega
end K51
end
section
set_option Elab.async false
set_option linter.all false
set_option maxRecDepth 100000
set_option maxHeartbeats 4000000
namespace K51
open PySem L2
theorem dec_txt (a b : List Nat) : decide (V.str (txt a) = V.str (txt b)) = (a == b) := by
  rw [Bool.eq_iff_iff, decide_eq_true_eq, beq_iff_eq]
  constructor
  · intro h; injection h with h; exact txt_inj h
  · rintro rfl; rfl
structure TxtN (mg : Str → Option Value) : Prop where
  len : mg "len" = none
  int : mg "int" = none
  str : mg "str" = none
  isi : mg "isinstance" = none
  range : mg "range" = none
  list : mg "list" = none
  tuple : mg "tuple" = none
  bool : mg "bool" = none
  all : mg "all" = none
  ve : mg "ValueError" = none
  rev : mg "reversed" = none
  enum : mg "enumerate" = none
theorem cut_nat {α : Type} (l : List α) (a b : Nat) : cutA l (some (a : Int)) (some (b : Int)) = (l.drop a).take (b - a) := by
  unfold cutA
  rw [HT.sIx_nat, HT.sIx_nat]
  by_cases h : a ≤ l.length
  · rw [Nat.min_eq_left h]
    by_cases hb : b ≤ l.length
    · rw [Nat.min_eq_left hb]
    · rw [Nat.min_eq_right (by omega), List.take_of_length_le (by rw [List.length_drop]; omega), List.take_of_length_le (by rw [List.length_drop]; omega)]
  · rw [List.drop_of_length_le (show l.length ≤ a by omega), List.drop_of_length_le (show l.length ≤ min a l.length by omega)]
    simp
theorem cut_to {α : Type} (l : List α) (b : Nat) : cutA l none (some (b : Int)) = l.take b := by
  have h := cut_nat l 0 b
  unfold cutA at h ⊢
  rw [HT.sIx_none]
  simpa [HT.sIx] using h
theorem cut_from {α : Type} (l : List α) (a : Nat) : cutA l (some (a : Int)) none = l.drop a := by
  have h := cut_nat l a l.length
  rw [List.take_of_length_le (by rw [List.length_drop]; omega)] at h
  rw [← h]
  unfold cutA
  rw [HT.sIx_none, HT.sIx_nat, HT.sIx_nat, Nat.min_self]
theorem line5000 : 5010 ≤ sizeLine := by rw [sizeLine_eq]; decide
def ltV : Lt → List V
  | .sg c => [.str (txt [c])]
  | .sp j k => [.str (txt [83]), .int (j : Nat), .int (k : Nat)]
def LetAt (H : Hp) (v : V) (a : Lt) : Prop := ∃ t, v = .ref t ∧ H t = some (.tup (ltV a))
abbrev LetsAt (H : Hp) : List V → List Lt → Prop := Paired (LetAt H)
theorem LetAt.same {H H' : Hp} {v : V} {a : Lt} (e : Same H H') (h : LetAt H v a) : LetAt H' v a := by
  obtain ⟨t, rfl, h⟩ := h
  exact ⟨t, rfl, e t _ h⟩
theorem LetsAt.same {H H' : Hp} (e : Same H H') : ∀ {xs : List V} {ls : List Lt}, LetsAt H xs ls → LetsAt H' xs ls
  | _, _, .nil => .nil
  | _, _, .cons h t => .cons (h.same e) (LetsAt.same e t)
theorem s83 : ("S" : Str) = txt [83] := by decide +kernel
theorem same_upd {H : Hp} {t : Addr} {o : HO} (h : H t = none) : Same H (upd H t o) := fun b u e => by rw [upd_ne (ne_of_none e h)]; exact e
theorem small_log {n : Nat} (h : n < 10 ^ 60) : ((n : Nat) : Int).natAbs.log2 < 1920 := by
  show n.log2 < 1920
  by_cases h0 : n = 0
  · subst h0; decide
  · exact (Nat.log2_lt h0).mpr (Nat.lt_of_lt_of_le (Nat.lt_trans h (show 10 ^ 60 < 2 ^ 200 by decide)) (Nat.pow_le_pow_right (by decide) (by decide)))
theorem paired_get {H : Hp} : ∀ {xs : List V} {ls : List Lt} {i : Nat} {x : V}, LetsAt H xs ls → xs[i]? = some x → ∃ a, ls[i]? = some a ∧ LetAt H x a
  | _, _, _, _, .nil, e => by simp at e
  | _, _, 0, _, .cons h _, e => by simp at e; subst e; exact ⟨_, rfl, h⟩
  | _, _, i + 1, _, .cons _ t, e => by
    obtain ⟨a, h1, h2⟩ := paired_get (i := i) t (by simpa using e)
    exact ⟨a, by simpa using h1, h2⟩
theorem atI0 (x : V) (xs : List V) : atI (x :: xs) 0 = some x := atI_nat (j := 0) rfl
theorem compScope0 {X : Cx} {N : List Str} {scope : Scope} (nd : N.Nodup) (kind : scope.kind = .function) (nc : scope.names.all (fun y => y.2 != .cell && y.2 != .free) = true)
    (nm : scope.names.all (fun y => y.2 != .local || scope.names.lookup y.1 == some .local) = true) : CompScope X N (N.map fun _ => none) scope := by
  have h1 : ∀ y ∈ scope.names, y.2 ≠ .cell ∧ y.2 ≠ .free := fun y hy => by
    have := List.all_eq_true.mp nc y hy
    simpa using this
  refine ⟨nd, by simp, kind, fun y hy => (h1 y hy).1, fun y hy e => ?_, fun y hy e => absurd e (h1 y hy).2, fun j i x e _ => ?_⟩
  · have := List.all_eq_true.mp nm y hy
    rw [e] at this
    simpa using this
  · rw [List.getElem?_map] at e
    cases q : N[j]? with
    | none => rw [q] at e; cases e
    | some z => rw [q] at e; cases e
theorem sC : ("C" : Str) = txt [67] := by decide +kernel
theorem sR : ("R" : Str) = txt [82] := by decide +kernel
theorem sL : ("L" : Str) = txt [76] := by decide +kernel
theorem sE : ("E" : Str) = txt [69] := by decide +kernel
theorem ltC : some (HO.tup [V.str (Str.ofString "C")]) = some (HO.tup (ltV (.sg 67))) := by rw [show (Str.ofString "C") = txt [67] from sC]; rfl
theorem ltR : some (HO.tup [V.str (Str.ofString "R")]) = some (HO.tup (ltV (.sg 82))) := by rw [show (Str.ofString "R") = txt [82] from sR]; rfl
theorem ltL : some (HO.tup [V.str (Str.ofString "L")]) = some (HO.tup (ltV (.sg 76))) := by rw [show (Str.ofString "L") = txt [76] from sL]; rfl
theorem ltE : some (HO.tup [V.str (Str.ofString "E")]) = some (HO.tup (ltV (.sg 69))) := by rw [show (Str.ofString "E") = txt [69] from sE]; rfl
theorem LetAt.move {H H' : Hp} {v : V} {a : Lt} (h : LetAt H v a) (e : ∀ t xs, H t = some (.tup xs) → H' t = some (.tup xs)) : LetAt H' v a := by
  obtain ⟨t, rfl, h⟩ := h
  exact ⟨t, rfl, e _ _ h⟩
theorem LetsAt.move {H H' : Hp} (e : ∀ t xs, H t = some (.tup xs) → H' t = some (.tup xs)) : ∀ {xs : List V} {ls : List Lt}, LetsAt H xs ls → LetsAt H' xs ls
  | _, _, .nil => .nil
  | _, _, .cons h t => .cons (h.move e) (LetsAt.move e t)
theorem decI (a b : Int) : decide (V.int a = V.int b) = decide (a = b) := by
  rw [Bool.eq_iff_iff]; simp
theorem ascOk {p : List Nat} (h : asc p) : (PyData.str (txt p)).canLay0 = true := by
  show (txt p).cps.all (· < 0x110000) = true
  rw [← Array.all_toList, txt_cps, List.all_eq_true]
  exact fun c hc => decide_eq_true (by have := h c hc; omega)
def ltD : Lt → PyData
  | .sg c => .tuple [.str (txt [c])]
  | .sp j k => .tuple [.str (txt [83]), .int (j : Nat), .int (k : Nat)]
theorem asc1 {c : Nat} (h : c < 128) : asc [c] := fun d hd => by rw [List.mem_singleton.mp hd]; exact h
theorem dt_let {K : PySem.W.Frag} {H : Hp} {v : V} {a : Lt} (ho : a.ok) (h : LetAt H v a) : Dt K H v (ltD a) := by
  obtain ⟨t, rfl, h⟩ := h
  cases a with
  | sg c => exact .tup (.inl (.inl h)) (.cons (.str _ (ascOk (asc1 (sign_asc (plain_sign ho))))) .nil)
  | sp j k => exact .tup (.inl (.inl h)) (.cons (.str _ (ascOk (asc1 (by decide)))) (.cons (.int _) (.cons (.int _) .nil)))
theorem dts_lets {K : PySem.W.Frag} {H : Hp} : ∀ {xs : List V} {ls : List Lt}, (∀ a ∈ ls, a.ok) → LetsAt H xs ls → Dts K H xs (ls.map ltD)
  | _, _, _, .nil => .nil
  | _, _, ho, .cons h t => .cons (dt_let (ho _ (by simp)) h) (dts_lets (fun a ha => ho a (List.mem_cons_of_mem _ ha)) t)
theorem depth_let (a : Lt) : PyData.depth (ltD a) ≤ 2 := by
  cases a <;> simp [ltD, PyData.depth, PyData.depthAll]
theorem depth_lets : ∀ (ls : List Lt), PyData.depthAll (ls.map ltD) ≤ 2
  | [] => by simp [PyData.depthAll]
  | a :: ls => by
    have h1 := depth_lets ls
    have h2 := depth_let a
    simp only [List.map_cons, PyData.depthAll]
    omega
theorem noBl_let (a : Lt) : noBl (ltD a) = true := by cases a <;> rfl
theorem ltD_inj {a b : Lt} (h : ltD a = ltD b) : a = b := by
  cases a <;> cases b <;> simp [ltD] at h
  · rw [List.singleton_inj.mp (txt_inj h)]
  · obtain ⟨h1, h2⟩ := h
    congr 1 <;> omega
end K51
end
section
set_option Elab.async false
set_option linter.all false
set_option maxRecDepth 100000
set_option maxHeartbeats 4000000
namespace K31
open K51
abbrev Side := Nat × Nat
abbrev Lps := List (List Nat)
def path : Nat → List Nat → Nat → List Side
  | a, [], z => [(a, z)]
  | a, b :: l, z => (a, b) :: path b l z
def sides : List Nat → List Side
  | [] => []
  | a :: l => path a l a
def wl (ls : Lps) : List Side := ls.flatMap sides
theorem path_app : ∀ (a : Nat) (l : List Nat) (b : Nat) (r : List Nat) (z : Nat), path a (l ++ b :: r) z = path a l b ++ path b r z
  | _, [], _, _, _ => rfl
  | a, c :: l, b, r, z => by
    show (a, c) :: path c (l ++ b :: r) z = (a, c) :: (path c l b ++ path b r z)
    rw [path_app c l b r z]
theorem sides_turn (l r : List Nat) : (sides (l ++ r)).Perm (sides (r ++ l)) := by
  cases l with
  | nil => rw [List.nil_append, List.append_nil]
  | cons a l =>
    cases r with
    | nil => rw [List.nil_append, List.append_nil]
    | cons b r =>
      show (path a (l ++ b :: r) a).Perm (path b (r ++ a :: l) b)
      rw [path_app, path_app]
      exact List.perm_append_comm
theorem wl_app (xs ys : Lps) : wl (xs ++ ys) = wl xs ++ wl ys := by simp [wl, List.flatMap_append]
theorem wl_one (l : List Nat) : wl [l] = sides l := by simp [wl]
theorem wl_cons (l : List Nat) (ls : Lps) : wl (l :: ls) = sides l ++ wl ls := by simp [wl]
theorem path_len : ∀ (a : Nat) (l : List Nat) (z : Nat), (path a l z).length = l.length + 1
  | _, [], _ => rfl
  | a, b :: l, z => by simp [path, path_len b l z]
theorem path_get : ∀ (a : Nat) (l : List Nat) (z k : Nat), k ≤ l.length → (path a l z)[k]? = some ((a :: l).getD k 0, (l ++ [z]).getD k 0)
  | a, [], z, k, h => by
    have : k = 0 := by simpa using h
    subst this; rfl
  | a, b :: l, z, 0, h => by simp [path]
  | a, b :: l, z, k + 1, h => by
    have := path_get b l z k (by simpa using h)
    simp only [path, List.getElem?_cons_succ, this]
    simp
theorem sides_get (l : List Nat) (k : Nat) (h : k < l.length) : (sides l)[k]? = some (l.getD k 0, l.getD ((k + 1) % l.length) 0) := by
  cases l with
  | nil => simp at h
  | cons a l =>
    have hk : k ≤ l.length := by simpa [Nat.lt_succ_iff] using h
    show (path a l a)[k]? = _
    rw [path_get a l a k hk]
    congr 2
    rw [List.length_cons]
    by_cases e : k = l.length
    · subst e
      rw [Nat.mod_self]
      simp [List.getD]
    · rw [Nat.mod_eq_of_lt (by omega)]
      simp only [List.getD, List.getElem?_cons_succ]
      rw [List.getElem?_append_left (by omega)]
theorem sides_len (l : List Nat) : (sides l).length = l.length := by
  cases l with
  | nil => rfl
  | cons a l => exact path_len a l a
theorem path_mem : ∀ (a : Nat) (l : List Nat) (z : Nat) (s : Side), s ∈ path a l z → (s.1 = a ∨ s.1 ∈ l) ∧ (s.2 = z ∨ s.2 ∈ l)
  | a, [], z, s, h => by
    simp only [path, List.mem_singleton] at h
    subst h; simp
  | a, b :: l, z, s, h => by
    simp only [path, List.mem_cons] at h
    rcases h with rfl | h
    · simp
    · obtain ⟨h1, h2⟩ := path_mem b l z s h
      simp only [List.mem_cons]
      exact ⟨.inr h1, h2.elim .inl fun z => .inr (.inr z)⟩
theorem sides_mem {l : List Nat} {s : Side} (h : s ∈ sides l) : s.1 ∈ l ∧ s.2 ∈ l := by
  cases l with
  | nil => simp [sides] at h
  | cons a l =>
    obtain ⟨h1, h2⟩ := path_mem a l a s h
    simp only [List.mem_cons]
    exact ⟨h1, h2⟩
theorem wl_mem {ls : Lps} {s : Side} : s ∈ wl ls ↔ ∃ l ∈ ls, s ∈ sides l := by simp [wl, List.mem_flatMap]
structure Fr where
  ls : Lps
  ts : List (Nat × Nat × Nat)
  n : Nat
def tl (ts : List (Nat × Nat × Nat)) : List Side := ts.flatMap fun t => [(t.1, t.2.1), (t.2.1, t.2.2), (t.2.2, t.1)]
def sgn : Lt → Nat
  | .sg c => c
  | .sp _ _ => 83
def stepOf (ah : Lps) (loop : List Nat) (a : Lt) (x : Nat) : Lps := match a with
  | .sg c => if c = 67 then ah ++ [loop.take 1 ++ x :: loop.drop 1] else if c = 82 then ah ++ [loop.take 1 ++ loop.drop 2] else if c = 76 then ah ++ [x :: (loop.drop 1).dropLast] else ah
  | .sp j k => if j = 0 then ah ++ [loop.take 1 ++ loop.drop k, x :: (loop.take k).drop 1]
    else ah.eraseIdx (ah.length - j) ++ [loop.take 1 ++ (ah.getD (ah.length - j) []).drop k ++ (ah.getD (ah.length - j) []).take k ++ x :: loop.drop 1]
def thirdOf (ah : Lps) (loop : List Nat) (a : Lt) (n : Nat) : Option Nat := match a with
  | .sg c => if c = 67 then some n else if (c = 82 ∨ c = 76) ∧ 3 < loop.length ∨ c = 69 ∧ loop.length = 3 then (if c = 82 then loop[2]? else loop[loop.length - 1]?) else none
  | .sp j k => if j = 0 then (if 2 < k ∧ k + 1 < loop.length then loop[k]? else none) else if j ≤ ah.length then (ah.getD (ah.length - j) [])[k]? else none
def asked (c a b x : Nat) : List Side := (if c = 82 ∨ c = 69 then [] else [(b, x), (x, b)]) ++ if c = 76 ∨ c = 69 then [] else [(x, a), (a, x)]
def g1 (l : List Nat) : Nat := l.getD 0 0
def g2 (l : List Nat) : Nat := l.getD 1 0
def canAt (ah : Lps) (loop : List Nat) (ts : List (Nat × Nat × Nat)) (n : Nat) (a : Lt) : Option Nat :=
  (thirdOf ah loop a n).bind fun x => if x = g1 loop ∨ x = g2 loop then none
    else if (asked (sgn a) (g1 loop) (g2 loop) x).any (fun s => decide (s ∈ wl (ah ++ [loop])) || decide (s ∈ tl ts)) then none else some x
def Fr.can (f : Fr) (a : Lt) : Option Nat := match f.ls.getLast? with
  | none => none
  | some loop => canAt f.ls.dropLast loop f.ts f.n a
def Fr.put (f : Fr) (a : Lt) (x : Nat) : Fr := match f.ls.getLast? with
  | none => f
  | some loop => ⟨stepOf f.ls.dropLast loop a x, f.ts ++ [(g1 loop, g2 loop, x)], max f.n (x + 1)⟩
def Fr.at0 : Fr := ⟨[[0, 1]], [], 2⟩
theorem can_at {ah : Lps} {loop : List Nat} {ts : List (Nat × Nat × Nat)} {n : Nat} {a : Lt} : Fr.can ⟨ah ++ [loop], ts, n⟩ a = canAt ah loop ts n a := by
  unfold Fr.can
  simp
theorem put_at {ah : Lps} {loop : List Nat} {ts : List (Nat × Nat × Nat)} {n : Nat} {a : Lt} {x : Nat} : Fr.put ⟨ah ++ [loop], ts, n⟩ a x = ⟨stepOf ah loop a x, ts ++ [(g1 loop, g2 loop, x)], max n (x + 1)⟩ := by
  unfold Fr.put
  simp
def gone (c a b x : Nat) : List Side := (a, b) :: ((if c = 82 ∨ c = 69 then [(b, x)] else []) ++ if c = 76 ∨ c = 69 then [(x, a)] else [])
def come (c a b x : Nat) : List Side := (if c = 82 ∨ c = 69 then [] else [(x, b)]) ++ if c = 76 ∨ c = 69 then [] else [(a, x)]
def Lets (a : Lt) : Prop := match a with
  | .sg c => c = 67 ∨ c = 82 ∨ c = 76 ∨ c = 69
  | .sp _ _ => True
theorem two {loop : List Nat} (h : 2 ≤ loop.length) : ∃ t, loop = g1 loop :: g2 loop :: t := by
  match loop, h with
  | a :: b :: t, _ => exact ⟨t, rfl⟩
theorem get_cut {l : List Nat} {k x : Nat} (h : l[k]? = some x) : l = l.take k ++ x :: l.drop (k + 1) ∧ l.drop k = x :: l.drop (k + 1) := by
  obtain ⟨hk, e⟩ := List.getElem?_eq_some_iff.mp h
  have e2 : l.drop k = x :: l.drop (k + 1) := by rw [List.drop_eq_getElem_cons hk, e]
  exact ⟨by rw [← e2, List.take_append_drop], e2⟩
theorem ah_cut {ah : Lps} {i : Nat} (h : i < ah.length) : ∃ u v, ah = u ++ ah.getD i [] :: v ∧ ah.eraseIdx i = u ++ v := by
  refine ⟨ah.take i, ah.drop (i + 1), ?_, ?_⟩
  · have e : ah.getD i [] = ah[i] := by simp [List.getD, h]
    rw [e, ← List.drop_eq_getElem_cons h, List.take_append_drop]
  · rw [List.eraseIdx_eq_take_drop_succ]
theorem step_perm {ah : Lps} {loop : List Nat} {a : Lt} {n x : Nat} (hl : 2 ≤ loop.length) (ha : Lets a) (h : thirdOf ah loop a n = some x) :
    ∃ rest, (wl (ah ++ [loop])).Perm (gone (sgn a) (g1 loop) (g2 loop) x ++ rest) ∧ (wl (stepOf ah loop a x)).Perm (come (sgn a) (g1 loop) (g2 loop) x ++ rest) := by
  obtain ⟨t, el⟩ := two hl
  generalize g1 loop = p at *
  generalize g2 loop = q at *
  subst el
  have base : ∀ (l : List Nat), (wl (ah ++ [l])).Perm (sides l ++ wl ah) := fun l => by
    rw [wl_app, wl_one]; exact List.perm_append_comm
  cases a with
  | sg c =>
    simp only [Lets] at ha
    simp only [thirdOf] at h
    rcases ha with rfl | rfl | rfl | rfl
    · refine ⟨path q t p ++ wl ah, base _, ?_⟩
      refine (base _).trans ?_
      show ((p, x) :: (x, q) :: (path q t p ++ wl ah)).Perm ((x, q) :: (p, x) :: (path q t p ++ wl ah))
      exact List.Perm.swap ..
    · simp at h
      match t, h with
      | [], h => simp at h
      | y :: t', h =>
        simp at h
        obtain ⟨_, rfl⟩ := h
        exact ⟨path y t' p ++ wl ah, base _, base _⟩
    · simp at h
      have ht : t ≠ [] := by rintro rfl; simp at h
      have hx : t.getLast? = some x := by
        rw [List.getLast?_eq_getElem?]
        have := h.2
        match t, ht with
        | y :: t', _ => simpa using this
      obtain ⟨t', e⟩ := List.getLast?_eq_some_iff.mp hx
      subst e
      refine ⟨path q t' x ++ wl ah, (base _).trans ?_, (base _).trans ?_⟩
      · show ((p, q) :: path q (t' ++ [x]) p ++ wl ah).Perm ((p, q) :: (x, p) :: (path q t' x ++ wl ah))
        rw [path_app]
        refine List.Perm.cons _ ?_
        show ((path q t' x ++ [(x, p)]) ++ wl ah).Perm ([(x, p)] ++ (path q t' x ++ wl ah))
        rw [← List.append_assoc]
        exact List.Perm.append_right _ List.perm_append_comm
      · have e : (List.drop 1 (p :: q :: (t' ++ [x]))).dropLast = q :: t' := by
          show (q :: (t' ++ [x])).dropLast = _
          rw [← List.cons_append, List.dropLast_concat]
        rw [e]
        exact List.Perm.refl _
    · simp at h
      obtain ⟨h3, h⟩ := h
      match t, h3, h with
      | [y], _, h =>
        simp at h
        subst h
        refine ⟨wl ah, base _, List.Perm.refl _⟩
  | sp j k =>
    simp only [thirdOf] at h
    by_cases hj : j = 0
    · subst hj
      rw [if_pos rfl] at h
      by_cases hk : 2 < k ∧ k + 1 < (p :: q :: t).length
      · rw [if_pos hk] at h
        obtain ⟨e1, e2⟩ := get_cut h
        obtain ⟨m, rfl⟩ : ∃ m, k = m + 2 := ⟨k - 2, by omega⟩
        have e3 : t = t.take m ++ x :: t.drop (m + 1) := by simpa using e1
        have e4 : t.drop m = x :: t.drop (m + 1) := by simpa using e2
        refine ⟨path q (t.take m) x ++ path x (t.drop (m + 1)) p ++ wl ah, (base _).trans ?_, ?_⟩
        · show ((p, q) :: path q t p ++ wl ah).Perm ((p, q) :: (path q (t.take m) x ++ path x (t.drop (m + 1)) p ++ wl ah))
          have e5 : path q t p = path q (t.take m) x ++ path x (t.drop (m + 1)) p := by
            conv => lhs; rw [e3]
            exact path_app ..
          rw [e5]
          exact List.Perm.refl _
        · show (wl (ah ++ [p :: List.drop m t, x :: q :: t.take m])).Perm ((x, q) :: (p, x) :: (path q (t.take m) x ++ path x (t.drop (m + 1)) p ++ wl ah))
          rw [e4, wl_app, wl_cons, wl_one]
          refine List.perm_append_comm.trans ?_
          show ((p, x) :: path x (t.drop (m + 1)) p ++ (x, q) :: path q (t.take m) x ++ wl ah).Perm _
          refine (List.Perm.append_right _ List.perm_append_comm).trans ?_
          show ((x, q) :: (path q (t.take m) x ++ (p, x) :: path x (t.drop (m + 1)) p ++ wl ah)).Perm _
          refine List.Perm.cons _ ?_
          rw [List.append_assoc, List.append_assoc]
          exact List.perm_middle
      · rw [if_neg hk] at h; cases h
    · rw [if_neg hj] at h
      by_cases hk : j ≤ ah.length
      · rw [if_pos hk] at h
        obtain ⟨u, v, e1, e2⟩ := ah_cut (show ah.length - j < ah.length by omega)
        have es : stepOf ah (p :: q :: t) (.sp j k) x = ah.eraseIdx (ah.length - j) ++ [[p] ++ (ah.getD (ah.length - j) []).drop k ++ (ah.getD (ah.length - j) []).take k ++ x :: q :: t] := by
          unfold stepOf
          dsimp only
          rw [if_neg hj]
          rfl
        rw [es, e2]
        obtain ⟨e3, e4⟩ := get_cut h
        generalize ah.getD (ah.length - j) [] = o at *
        refine ⟨sides (x :: (o.drop (k + 1) ++ o.take k)) ++ path q t p ++ (wl u ++ wl v), ?_, ?_⟩
        · refine (base _).trans ?_
          show ((p, q) :: path q t p ++ wl ah).Perm ((p, q) :: (sides (x :: (o.drop (k + 1) ++ o.take k)) ++ path q t p ++ (wl u ++ wl v)))
          refine List.Perm.cons _ ?_
          rw [e1, wl_app, wl_cons]
          have e5 : (sides o).Perm (sides (x :: (o.drop (k + 1) ++ o.take k))) := by
            conv => lhs; rw [e3]
            exact sides_turn (o.take k) (x :: o.drop (k + 1))
          have e6 : (wl u ++ (sides o ++ wl v)).Perm (sides o ++ (wl u ++ wl v)) := by
            rw [← List.append_assoc, ← List.append_assoc]
            exact List.Perm.append_right _ List.perm_append_comm
          refine ((List.Perm.append_left _ e6).trans ?_)
          rw [← List.append_assoc]
          refine List.Perm.append_right _ (List.perm_append_comm.trans ?_)
          exact List.Perm.append_right _ e5
        · rw [wl_app, wl_app, wl_one]
          refine List.perm_append_comm.trans ?_
          have e7 : sides ([p] ++ o.drop k ++ o.take k ++ x :: q :: t) = (p, x) :: (path x (o.drop (k + 1) ++ o.take k) x ++ (x, q) :: path q t p) := by
            rw [e4]
            show path p (x :: o.drop (k + 1) ++ o.take k ++ x :: q :: t) p = _
            rw [List.cons_append, List.cons_append]
            show (p, x) :: path x (o.drop (k + 1) ++ o.take k ++ x :: q :: t) p = _
            rw [path_app]
            rfl
          rw [e7]
          show ((p, x) :: (path x (o.drop (k + 1) ++ o.take k) x ++ (x, q) :: path q t p) ++ (wl u ++ wl v)).Perm ((x, q) :: (p, x) :: (path x (o.drop (k + 1) ++ o.take k) x ++ path q t p ++ (wl u ++ wl v)))
          refine List.Perm.trans ?_ (List.Perm.swap ..)
          refine List.Perm.cons _ ?_
          show ((path x (o.drop (k + 1) ++ o.take k) x ++ (x, q) :: path q t p) ++ (wl u ++ wl v)).Perm ((x, q) :: (path x (o.drop (k + 1) ++ o.take k) x ++ path q t p ++ (wl u ++ wl v)))
          rw [List.append_assoc, List.append_assoc]
          exact List.perm_middle
      · rw [if_neg hk] at h; cases h
structure Ok (f : Fr) : Prop where
  two : ∀ l ∈ f.ls, 2 ≤ l.length
  tot : (f.ls.map List.length).sum ≤ 2 + f.ts.length
  num : f.n ≤ 2 + f.ts.length
  big : ∀ l ∈ f.ls, ∀ c ∈ l, c < f.n
  bigT : ∀ s ∈ tl f.ts, s.1 < f.n ∧ s.2 < f.n
  nd : (wl f.ls).Nodup
  ne : ∀ s ∈ wl f.ls, s.1 ≠ s.2
theorem ok0 : Ok Fr.at0 := by
  refine ⟨?_, ?_, ?_, ?_, ?_, ?_, ?_⟩ <;> decide
theorem tl_snoc (ts : List (Nat × Nat × Nat)) (p q x : Nat) : tl (ts ++ [(p, q, x)]) = tl ts ++ [(p, q), (q, x), (x, p)] := by simp [tl]
theorem can_third {ah : Lps} {loop : List Nat} {ts : List (Nat × Nat × Nat)} {n x : Nat} {a : Lt} (h : canAt ah loop ts n a = some x) :
    thirdOf ah loop a n = some x ∧ x ≠ g1 loop ∧ x ≠ g2 loop ∧ ∀ s ∈ asked (sgn a) (g1 loop) (g2 loop) x, s ∉ wl (ah ++ [loop]) ∧ s ∉ tl ts := by
  unfold canAt at h
  cases e : thirdOf ah loop a n with
  | none => rw [e] at h; cases h
  | some y =>
    rw [e] at h
    simp only [Option.bind_some] at h
    by_cases h1 : y = g1 loop ∨ y = g2 loop
    · rw [if_pos h1] at h; cases h
    · rw [if_neg h1] at h
      by_cases h2 : ((asked (sgn a) (g1 loop) (g2 loop) y).any fun s => decide (s ∈ wl (ah ++ [loop])) || decide (s ∈ tl ts)) = true
      · rw [if_pos h2] at h; cases h
      · rw [if_neg h2] at h
        cases h
        refine ⟨rfl, fun z => h1 (.inl z), fun z => h1 (.inr z), fun s hs => ?_⟩
        have h3 := h2
        rw [List.any_eq_true] at h3
        have h4 : ¬ ((decide (s ∈ wl (ah ++ [loop])) || decide (s ∈ tl ts)) = true) := fun z => h3 ⟨s, hs, z⟩
        simp at h4
        exact h4
theorem third_old {ah : Lps} {loop : List Nat} {a : Lt} {n x : Nat} (h : thirdOf ah loop a n = some x) : (a = .sg 67 ∧ x = n) ∨ ∃ l ∈ ah ++ [loop], x ∈ l := by
  cases a with
  | sg c =>
    simp only [thirdOf] at h
    by_cases hc : c = 67
    · rw [if_pos hc] at h; subst hc; cases h; exact .inl ⟨rfl, rfl⟩
    · rw [if_neg hc] at h
      refine .inr ⟨loop, by simp, ?_⟩
      split at h
      · split at h
        · exact List.mem_of_getElem? h
        · exact List.mem_of_getElem? h
      · cases h
  | sp j k =>
    simp only [thirdOf] at h
    by_cases hj : j = 0
    · rw [if_pos hj] at h
      split at h
      · exact .inr ⟨loop, by simp, List.mem_of_getElem? h⟩
      · cases h
    · rw [if_neg hj] at h
      split at h
      · have hx := List.mem_of_getElem? h
        refine .inr ⟨ah.getD (ah.length - j) [], ?_, hx⟩
        refine List.mem_append_left _ ?_
        have hi : ah.length - j < ah.length := by omega
        have e : ah.getD (ah.length - j) [] = ah[ah.length - j] := by simp [List.getD, hi]
        rw [e]
        exact List.getElem_mem hi
      · cases h
theorem step_loops {ah : Lps} {loop : List Nat} {a : Lt} {n x : Nat} (hl : 2 ≤ loop.length) (ha : Lets a) (h : thirdOf ah loop a n = some x) (h2 : ∀ l ∈ ah, 2 ≤ l.length) :
    (∀ l ∈ stepOf ah loop a x, 2 ≤ l.length) ∧ ((stepOf ah loop a x).map List.length).sum ≤ ((ah ++ [loop]).map List.length).sum + 1 ∧ (∀ l ∈ stepOf ah loop a x, ∀ c ∈ l, c = x ∨ ∃ l' ∈ ah ++ [loop], c ∈ l') := by
  have inL : ∀ c, c ∈ loop → (c = x ∨ ∃ l' ∈ ah ++ [loop], c ∈ l') := fun c hc => .inr ⟨loop, by simp, hc⟩
  have inA : ∀ l ∈ ah, ∀ c ∈ l, (c = x ∨ ∃ l' ∈ ah ++ [loop], c ∈ l') := fun l hl c hc => .inr ⟨l, List.mem_append_left _ hl, hc⟩
  have one : ∀ (l : List Nat), 2 ≤ l.length → l.length ≤ loop.length + 1 → (∀ c ∈ l, c = x ∨ c ∈ loop) → (∀ l' ∈ ah ++ [l], 2 ≤ l'.length) ∧ ((ah ++ [l]).map List.length).sum ≤ ((ah ++ [loop]).map List.length).sum + 1 ∧ (∀ l' ∈ ah ++ [l], ∀ c ∈ l', c = x ∨ ∃ l'' ∈ ah ++ [loop], c ∈ l'') := fun l h1 h3 h4 => by
    refine ⟨fun l' hl' => ?_, ?_, fun l' hl' c hc => ?_⟩
    · rcases List.mem_append.mp hl' with z | z
      · exact h2 l' z
      · rw [List.mem_singleton.mp z]; exact h1
    · simp only [List.map_append, List.sum_append, List.map_cons, List.map_nil, List.sum_cons, List.sum_nil]; omega
    · rcases List.mem_append.mp hl' with z | z
      · exact inA l' z c hc
      · rw [List.mem_singleton.mp z] at hc
        exact (h4 c hc).elim .inl (inL c)
  cases a with
  | sg c =>
    simp only [Lets] at ha
    simp only [thirdOf] at h
    rcases ha with rfl | rfl | rfl | rfl
    · refine one (loop.take 1 ++ x :: loop.drop 1) ?_ ?_ fun c hc => ?_
      · simp only [List.length_append, List.length_take, List.length_cons, List.length_drop]; omega
      · simp only [List.length_append, List.length_take, List.length_cons, List.length_drop]; omega
      · rcases List.mem_append.mp hc with z | z
        · exact .inr (List.mem_of_mem_take z)
        · rcases List.mem_cons.mp z with z | z
          · exact .inl z
          · exact .inr (List.mem_of_mem_drop z)
    · simp at h
      refine one (loop.take 1 ++ loop.drop 2) ?_ ?_ fun c hc => ?_
      · simp only [List.length_append, List.length_take, List.length_drop]; omega
      · simp only [List.length_append, List.length_take, List.length_drop]; omega
      · rcases List.mem_append.mp hc with z | z
        · exact .inr (List.mem_of_mem_take z)
        · exact .inr (List.mem_of_mem_drop z)
    · simp at h
      refine one (x :: (loop.drop 1).dropLast) ?_ ?_ fun c hc => ?_
      · simp only [List.length_cons, List.length_dropLast, List.length_drop]; omega
      · simp only [List.length_cons, List.length_dropLast, List.length_drop]; omega
      · rcases List.mem_cons.mp hc with z | z
        · exact .inl z
        · exact .inr (List.mem_of_mem_drop ((List.dropLast_sublist _).subset z))
    · refine ⟨h2, ?_, inA⟩
      show (ah.map List.length).sum ≤ _
      simp only [List.map_append, List.sum_append]; omega
  | sp j k =>
    simp only [thirdOf] at h
    by_cases hj : j = 0
    · subst hj
      rw [if_pos rfl] at h
      by_cases hk : 2 < k ∧ k + 1 < loop.length
      · show (∀ l ∈ ah ++ [loop.take 1 ++ loop.drop k, x :: (loop.take k).drop 1], _) ∧ (((ah ++ [loop.take 1 ++ loop.drop k, x :: (loop.take k).drop 1]).map List.length).sum ≤ _) ∧ (∀ l ∈ ah ++ [loop.take 1 ++ loop.drop k, x :: (loop.take k).drop 1], _)
        refine ⟨fun l hl => ?_, ?_, fun l hl c hc => ?_⟩
        · simp only [List.mem_append, List.mem_cons, List.not_mem_nil, or_false] at hl
          rcases hl with z | rfl | rfl
          · exact h2 l z
          · simp only [List.length_append, List.length_take, List.length_drop]; omega
          · simp only [List.length_cons, List.length_drop, List.length_take]; omega
        · simp only [List.map_append, List.sum_append, List.map_cons, List.map_nil, List.sum_cons, List.sum_nil, List.length_append, List.length_take, List.length_drop, List.length_cons]; omega
        · simp only [List.mem_append, List.mem_cons, List.not_mem_nil, or_false] at hl
          rcases hl with z | rfl | rfl
          · exact inA l z c hc
          · rcases List.mem_append.mp hc with z | z
            · exact inL c (List.mem_of_mem_take z)
            · exact inL c (List.mem_of_mem_drop z)
          · rcases List.mem_cons.mp hc with z | z
            · exact .inl z
            · exact inL c (List.mem_of_mem_take (List.mem_of_mem_drop z))
      · rw [if_neg hk] at h; cases h
    · rw [if_neg hj] at h
      by_cases hk : j ≤ ah.length
      · rw [if_pos hk] at h
        obtain ⟨u, v, e1, e2⟩ := ah_cut (show ah.length - j < ah.length by omega)
        have es : stepOf ah loop (.sp j k) x = ah.eraseIdx (ah.length - j) ++ [loop.take 1 ++ (ah.getD (ah.length - j) []).drop k ++ (ah.getD (ah.length - j) []).take k ++ x :: loop.drop 1] := by
          unfold stepOf
          dsimp only
          rw [if_neg hj]
        rw [es, e2]
        have kx := (List.getElem?_eq_some_iff.mp h).1
        have ho : ah.getD (ah.length - j) [] ∈ ah := by
          have hi : ah.length - j < ah.length := by omega
          have e : ah.getD (ah.length - j) [] = ah[ah.length - j] := by simp [List.getD, hi]
          rw [e]; exact List.getElem_mem hi
        generalize ah.getD (ah.length - j) [] = o at *
        have sum : (ah.map List.length).sum = (u.map List.length).sum + o.length + (v.map List.length).sum := by
          rw [e1]; simp only [List.map_append, List.sum_append, List.map_cons, List.sum_cons]; omega
        have sub : ∀ l, l ∈ u ++ v → l ∈ ah := fun l hl => by
          rw [e1]
          rcases List.mem_append.mp hl with z | z
          · exact List.mem_append_left _ z
          · exact List.mem_append_right _ (List.mem_cons_of_mem _ z)
        refine ⟨fun l hl => ?_, ?_, fun l hl c hc => ?_⟩
        · rcases List.mem_append.mp hl with z | z
          · exact h2 l (sub l z)
          · rw [List.mem_singleton.mp z]
            simp only [List.length_append, List.length_take, List.length_drop, List.length_cons]; omega
        · simp only [List.map_append, List.sum_append, List.map_cons, List.map_nil, List.sum_cons, List.sum_nil, List.length_append, List.length_take, List.length_drop, List.length_cons]
          rw [sum]; omega
        · rcases List.mem_append.mp hl with z | z
          · exact inA l (sub l z) c hc
          · rw [List.mem_singleton.mp z] at hc
            simp only [List.mem_append, List.mem_cons] at hc
            rcases hc with ((z | z) | z) | z | z
            · exact inL c (List.mem_of_mem_take z)
            · exact inA o ho c (List.mem_of_mem_drop z)
            · exact inA o ho c (List.mem_of_mem_take z)
            · exact .inl z
            · exact inL c (List.mem_of_mem_drop z)
      · rw [if_neg hk] at h; cases h
def tk (W : Side → Bool) (p q : Nat) : Side → Bool := fun s => if W (p, q) then W s && decide (s ≠ (p, q)) else W s || decide (s = (q, p))
theorem asked_mem {c a b x : Nat} : ((b, x) ∈ asked c a b x ∧ (x, b) ∈ asked c a b x ∨ (c = 82 ∨ c = 69)) ∧ ((x, a) ∈ asked c a b x ∧ (a, x) ∈ asked c a b x ∨ (c = 76 ∨ c = 69)) := by
  unfold asked
  by_cases h1 : c = 82 ∨ c = 69 <;> by_cases h2 : c = 76 ∨ c = 69 <;> simp [h1, h2]
theorem wants_step {f : Fr} {ah : Lps} {loop : List Nat} {a : Lt} {x : Nat} (h : Ok f) (e : f.ls = ah ++ [loop]) (ha : Lets a) (hc : canAt ah loop f.ts f.n a = some x) :
    (∀ s, tk (tk (tk (fun s => decide (s ∈ wl f.ls)) (g1 loop) (g2 loop)) (g2 loop) x) x (g1 loop) s = decide (s ∈ wl (stepOf ah loop a x))) ∧ (wl (stepOf ah loop a x)).Nodup ∧ ∀ s ∈ wl (stepOf ah loop a x), s.1 ≠ s.2 := by
  have hl : 2 ≤ loop.length := h.two loop (by rw [e]; simp)
  obtain ⟨ht, hx1, hx2, hk⟩ := can_third hc
  obtain ⟨rest, p1, p2⟩ := step_perm hl ha ht
  rw [← e] at p1 hk
  have nd := h.nd
  have ne := h.ne
  have m1 : ∀ s, s ∈ wl f.ls ↔ s ∈ gone (sgn a) (g1 loop) (g2 loop) x ++ rest := fun s => p1.mem_iff
  have m2 : ∀ s, s ∈ wl (stepOf ah loop a x) ↔ s ∈ come (sgn a) (g1 loop) (g2 loop) x ++ rest := fun s => p2.mem_iff
  have nd1 := p1.nodup_iff.mp nd
  have hpq : g1 loop ≠ g2 loop := ne (g1 loop, g2 loop) ((m1 _).mpr (by simp [gone]))
  obtain ⟨k1, k2⟩ := asked_mem (c := sgn a) (a := g1 loop) (b := g2 loop) (x := x)
  generalize g1 loop = p at *
  generalize g2 loop = q at *
  generalize sgn a = c at *
  have hn : ∀ s, s ∈ asked c p q x → s ∉ rest ∧ s ∉ gone c p q x := fun s hs => by
    have := (hk s hs).1
    rw [m1] at this
    exact ⟨fun z => this (List.mem_append_right _ z), fun z => this (List.mem_append_left _ z)⟩
  have nr : ∀ s ∈ gone c p q x, s ∉ rest := fun s hs hr => (List.nodup_append.mp nd1).2.2 s hs s hr rfl
  have ndr := (List.nodup_append.mp nd1).2.1
  have hw : ∀ s, (s ∈ wl f.ls) = (s ∈ gone c p q x ∨ s ∈ rest) := fun s => by rw [propext (m1 s), List.mem_append]
  refine ⟨fun s => ?_, p2.nodup_iff.mpr ?_, fun s hs => ?_⟩
  · have hs2 : (s ∈ wl (stepOf ah loop a x)) = (s ∈ come c p q x ∨ s ∈ rest) := by rw [propext (m2 s), List.mem_append]
    simp only [tk, hw, hs2]
    have d1 : (p, q) ≠ (q, x) := fun z => hpq (congrArg Prod.fst z)
    have d2 : (p, q) ≠ (x, p) := fun z => hx1 (congrArg Prod.fst z).symm
    have d3 : (q, x) ≠ (x, p) := fun z => hx2 (congrArg Prod.fst z).symm
    have d4 : (x, q) ≠ (x, p) := fun z => hpq (congrArg Prod.snd z).symm
    have d5 : (x, q) ≠ (q, x) := fun z => hx2 (congrArg Prod.fst z)
    have d6 : (p, x) ≠ (x, p) := fun z => hx1 (congrArg Prod.fst z).symm
    have r0 : (p, q) ∉ rest := nr _ (by simp [gone])
    by_cases h1 : c = 82 ∨ c = 69
    · have r1 : (q, x) ∉ rest := nr _ (by simp [gone, h1])
      by_cases h2 : c = 76 ∨ c = 69
      · have r2 : (x, p) ∉ rest := nr _ (by simp [gone, h2])
        simp only [gone, come, h1, h2, if_true, List.mem_cons, List.mem_append, List.not_mem_nil, or_false, false_or]
        rw [Bool.eq_iff_iff]
        simp [d1, d2, d3, d1.symm, d2.symm, d3.symm]
        constructor
        · rintro ⟨⟨⟨z, n0⟩, n1⟩, n2⟩; simpa [n0, n1, n2] using z
        · intro z
          refine ⟨⟨⟨.inr z, ?_⟩, ?_⟩, ?_⟩ <;> (rintro rfl; simp_all)
      · have r2 := hn (x, p) ((k2.resolve_right h2).1)
        have r3 := hn (p, x) ((k2.resolve_right h2).2)
        simp only [gone, come, h1, h2, if_true, if_false, List.mem_cons, List.mem_append, List.not_mem_nil, or_false, false_or] at r2 r3 ⊢
        rw [Bool.eq_iff_iff]
        simp [d1, d2, d3, d1.symm, d2.symm, d3.symm, r2.1]
        constructor
        · rintro (⟨⟨z | z, n0⟩, n1⟩ | z) <;> simp_all
        · rintro (z | z)
          · exact .inr z
          · refine .inl ⟨⟨.inr z, ?_⟩, ?_⟩ <;> (rintro rfl; simp_all)
    · have r1 := hn (q, x) ((k1.resolve_right h1).1)
      have r4 := hn (x, q) ((k1.resolve_right h1).2)
      by_cases h2 : c = 76 ∨ c = 69
      · have r2 : (x, p) ∉ rest := nr _ (by simp [gone, h2])
        simp only [gone, come, h1, h2, if_true, if_false, List.mem_cons, List.mem_append, List.not_mem_nil, or_false, false_or] at r1 r4 ⊢
        rw [Bool.eq_iff_iff]
        simp [d1, d2, d3, d1.symm, d2.symm, d3.symm, r1.1]
        constructor
        · rintro ⟨⟨z | z, n0⟩ | z, n2⟩ <;> simp_all
        · rintro (z | z)
          · exact ⟨.inr z, by rw [z]; exact d4⟩
          · refine ⟨.inl ⟨.inr z, ?_⟩, ?_⟩ <;> (rintro rfl; simp_all)
      · have r2 := hn (x, p) ((k2.resolve_right h2).1)
        have r3 := hn (p, x) ((k2.resolve_right h2).2)
        simp only [gone, come, h1, h2, if_true, if_false, List.mem_cons, List.mem_append, List.not_mem_nil, or_false, false_or] at r1 r2 r3 r4 ⊢
        rw [Bool.eq_iff_iff]
        simp [d1, d2, d3, d1.symm, d2.symm, d3.symm, d4.symm, r1.1, r2.1]
        constructor
        · rintro ((⟨z | z, n0⟩ | z) | z) <;> simp_all
        · rintro ((z | z) | z)
          · exact .inl (.inr z)
          · exact .inr z
          · refine .inl (.inl ⟨.inr z, ?_⟩)
            rintro rfl; simp_all
  · refine List.nodup_append.mpr ⟨?_, ndr, ?_⟩
    · unfold come
      by_cases h1 : c = 82 ∨ c = 69 <;> by_cases h2 : c = 76 ∨ c = 69 <;> simp [h1, h2]
      intro z; exact fun _ => hx1 z
    · intro s hs t ht est
      subst est
      unfold come at hs
      by_cases h1 : c = 82 ∨ c = 69 <;> by_cases h2 : c = 76 ∨ c = 69 <;> simp [h1, h2] at hs
      · subst hs; exact (hn _ ((k2.resolve_right h2).2)).1 ht
      · subst hs; exact (hn _ ((k1.resolve_right h1).2)).1 ht
      · rcases hs with rfl | rfl
        · exact (hn _ ((k1.resolve_right h1).2)).1 ht
        · exact (hn _ ((k2.resolve_right h2).2)).1 ht
  · rw [m2, List.mem_append] at hs
    rcases hs with hs | hs
    · unfold come at hs
      by_cases h1 : c = 82 ∨ c = 69 <;> by_cases h2 : c = 76 ∨ c = 69 <;> simp [h1, h2] at hs
      · subst hs; exact Ne.symm hx1
      · subst hs; exact hx2
      · rcases hs with rfl | rfl
        · exact hx2
        · exact Ne.symm hx1
    · exact ne s ((m1 s).mpr (List.mem_append_right _ hs))
theorem ok_put {f : Fr} {a : Lt} {x : Nat} (h : Ok f) (ha : Lets a) (hc : f.can a = some x) : Ok (f.put a x) := by
  obtain ⟨ls, ts, n⟩ := f
  rcases List.eq_nil_or_concat ls with rfl | ⟨ah, loop, e⟩
  · cases hc
  · rw [List.concat_eq_append] at e
    subst e
    rw [can_at] at hc
    rw [put_at]
    obtain ⟨ht, hx1, hx2, hk⟩ := can_third hc
    have w := wants_step h rfl ha hc
    have hl : 2 ≤ loop.length := h.two loop (by simp)
    have hs := step_loops hl ha ht fun l hl => h.two l (List.mem_append_left _ hl)
    have htot := h.tot
    have hnum := h.num
    dsimp only at htot hnum
    have hxn : x < max n (x + 1) := by omega
    have old : ∀ c, (∃ l ∈ ah ++ [loop], c ∈ l) → c < n := fun c ⟨l, h1, h2⟩ => h.big l h1 c h2
    have hx : x ≤ n := by
      rcases third_old ht with ⟨_, z⟩ | z
      · omega
      · exact Nat.le_of_lt (old x z)
    obtain ⟨t, et⟩ := two hl
    have hp : g1 loop < n := old _ ⟨loop, by simp, by rw [et]; simp [g1]⟩
    have hq : g2 loop < n := old _ ⟨loop, by simp, by rw [et]; simp [g2]⟩
    refine ⟨hs.1, ?_, ?_, ?_, ?_, w.2.1, w.2.2⟩
    · dsimp only
      rw [List.length_append]
      have := hs.2.1
      simp only [List.length_cons, List.length_nil]
      omega
    · dsimp only
      rw [List.length_append]
      simp only [List.length_cons, List.length_nil]
      omega
    · intro l hl' c hc'
      dsimp only
      rcases hs.2.2 l hl' c hc' with z | z
      · omega
      · have := old c z; omega
    · intro s hs'
      dsimp only at hs' ⊢
      rw [tl_snoc, List.mem_append] at hs'
      rcases hs' with z | z
      · have := h.bigT s z
        dsimp only at this
        omega
      · simp only [List.mem_cons, List.not_mem_nil, or_false] at z
        rcases z with rfl | rfl | rfl <;> (dsimp only; omega)
theorem can_new {f : Fr} (h : Ok f) (hne : f.ls ≠ []) : f.can (.sg 67) = some f.n := by
  obtain ⟨ls, ts, n⟩ := f
  rcases List.eq_nil_or_concat ls with rfl | ⟨ah, loop, e⟩
  · exact absurd rfl hne
  · rw [List.concat_eq_append] at e
    subst e
    rw [can_at]
    have hl : 2 ≤ loop.length := h.two loop (by simp)
    obtain ⟨t, et⟩ := two hl
    have hp : g1 loop < n := h.big loop (by simp) _ (by rw [et]; simp [g1])
    have hq : g2 loop < n := h.big loop (by simp) _ (by rw [et]; simp [g2])
    unfold canAt
    show (if n = g1 loop ∨ n = g2 loop then none else _) = _
    rw [if_neg (by omega), if_neg]
    · intro z
      rw [List.any_eq_true] at z
      obtain ⟨s, hs, hb⟩ := z
      have hs' : s.1 = n ∨ s.2 = n := by
        simp [asked, sgn] at hs
        rcases hs with rfl | rfl | rfl | rfl <;> simp
      simp only [Bool.or_eq_true, decide_eq_true_eq] at hb
      have : s.1 < n ∧ s.2 < n := by
        rcases hb with hb | hb
        · obtain ⟨l, h1, h2⟩ := wl_mem.mp hb
          have h3 := sides_mem h2
          exact ⟨h.big l h1 _ h3.1, h.big l h1 _ h3.2⟩
        · exact h.bigT s hb
      omega
end K31
end
section
set_option Elab.async false
set_option linter.all false
set_option maxRecDepth 100000
set_option maxHeartbeats 4000000
namespace K51
open PySem L2
def mixed (ns : List Int) (k : Int) : Int := (ns.take 40).foldl (fun s c => (s * 48271 + c) % 2147483647) (7 + 1009 * k)
def cellOr (ns : List Int) (k : Int) : Int := if k < (ns.length : Int) then ns.getD k.toNat 0 else 0
def potOf (ns : List Int) (k : Int) : Int × Int := (if cellOr ns k < 1000000000000000000 then 0 else cellOr ns k, mixed ns k)
def refill (p : Int × Int) : Int × Int := if p.1 = 0 then (((p.2 * 16807 + 11) % 2147483647) * ((p.2 * 16807 + 11) % 2147483647) % 2147483629, (p.2 * 16807 + 11) % 2147483647) else p
def digO (p : Int × Int) (b : Int) : Int := (refill p).1 % b
def nxt (p : Int × Int) (b : Int) : Int × Int := ((refill p).1 / b, (refill p).2)
def potV (p : Int × Int) : List V := [.int p.1, .int p.2]
def PotOk (p : Int × Int) : Prop := -(2 ^ 60) < p.2 ∧ p.2 < 2 ^ 60
theorem refill_ok {p : Int × Int} (h : PotOk p) : PotOk (refill p) := by
  unfold refill
  split
  · have := Int.emod_lt_of_pos (p.2 * 16807 + 11) (show (0 : Int) < 2147483647 by decide)
    have := Int.emod_nonneg (p.2 * 16807 + 11) (show (2147483647 : Int) ≠ 0 by decide)
    unfold PotOk
    constructor <;> (show _ < _; omega)
  · exact h
theorem nxt_ok {p : Int × Int} {b : Int} (h : PotOk p) : PotOk (nxt p b) := refill_ok h
theorem mixed_ok (ns : List Int) {k : Int} (h0 : 0 ≤ k) (h1 : k < 1000) : -(2 ^ 60) < mixed ns k ∧ mixed ns k < 2 ^ 60 := by
  unfold mixed
  have : ∀ (l : List Int) (s : Int), (-(2 ^ 60) < s ∧ s < 2 ^ 60) → (-(2 ^ 60) < l.foldl (fun s c => (s * 48271 + c) % 2147483647) s ∧ l.foldl (fun s c => (s * 48271 + c) % 2147483647) s < 2 ^ 60) := by
    intro l
    induction l with
    | nil => intro s h; exact h
    | cons c r ih =>
      intro s h
      rw [List.foldl_cons]
      refine ih _ ?_
      have := Int.emod_lt_of_pos (s * 48271 + c) (show (0 : Int) < 2147483647 by decide)
      have := Int.emod_nonneg (s * 48271 + c) (show (2147483647 : Int) ≠ 0 by decide)
      constructor <;> omega
  exact this _ _ (by constructor <;> omega)
theorem op_fdivB {X : Cx} : OpR X (binaryOp .FloorDiv) (rI (fun _ j => 0 < j ∧ j.natAbs.log2 < 9000) fun i j => .int (i / j)) := opI fun i j _ _ _ _ _ hc q => by
  have e : i.fdiv j = i / j := by rw [Int.fdiv_eq_ediv_of_nonneg _ (Int.le_of_lt hc.1)]
  rw [← e] at q
  exact PyProof.Rows.floordiv_int (by omega) q (.inl (PyProof.noPylong_of_log2 hc.2))
def spAt (K : PySem.W.Frag) : Sp := fun vs H Q _ => ∃ (a : Addr) (ns : List Int) (k : Int), vs = [.ref a, .int k] ∧ SqL K H a (ns.map V.int) ∧ 0 ≤ k ∧ Q (.int (cellOr ns k)) H
def spPot (K : PySem.W.Frag) : Sp := fun vs H Q _ => ∃ (a : Addr) (ns : List Int) (k : Int), vs = [.ref a, .int k] ∧ SqL K H a (ns.map V.int) ∧ 0 ≤ k ∧ k < 1000 ∧
  ∀ (p : Addr) (H' : Hp), H p = none → Same H H' → H' p = some (.lst (potV (potOf ns k))) → Q (.ref p) H'
def spDigit : Sp := fun vs H Q _ => ∃ (p : Addr) (q : Int × Int) (b : Int), vs = [.ref p, .int b] ∧ H p = some (.lst (potV q)) ∧ PotOk q ∧ 0 < b ∧ b.natAbs.log2 < 9000 ∧ Q (.int (digO q b)) (upd H p (.lst (potV (nxt q b))))
section
variable {P : Program} {w : World} {K : PySem.W.Frag} {mg : Str → Option Value} {base : Heap}
theorem scAt : FnScope ["_law_script", "_law_k"] ["_law_script", "_law_k"] (defScope sAt) := ⟨rfl, rfl, rfl, by decide +kernel, rfl, by decide +kernel, by decide +kernel⟩
theorem ok_at {f : Addr} {fd : FuncData} (U : Fun K "_law_at" "_law_at" sAt f fd) (T : TxtN mg) : FnOk P w K mg base CX0 1 f fd ["_law_script", "_law_k"] (spAt K) := by
  refine U.ok scAt (fun vs H Q E h => ?_) (fun cdv A outer s H vs Q E hr h => ?_)
  · obtain ⟨a, ns, k, rfl, _⟩ := h
    rfl
  · obtain ⟨a, ns, k, rfl, hS, h0, q⟩ := h
    refine ⟨_, pss_cons (ps_if (pt_cmpR op_lt (pv 1) (pe_callB call_len_seq (by rfl) T.len PySem.boot_len (pa_cons (pv 0) pa_nil)) (nomark _)) (pss_one (ps_ret (pe_ix ix_list (pv 0) (pv 1) (fun _ _ => rfl)))) pss_nil) (pss_one (ps_ret pe_int)), ?_⟩
    refine ⟨_, rfl, _, rfl, a, _, rfl, .inl hS, _, _, rfl, rfl, _, rfl, ?_⟩
    unfold cellOr at q
    rw [List.length_map]
    refine ite2 (fun c => ?_) (fun c => ?_)
    · have c : k < (ns.length : Int) := of_decide_eq_true c
      rw [if_pos c] at q
      have hk : k.toNat < ns.length := by omega
      refine ⟨_, rfl, _, rfl, a, _, k, .int (ns.getD k.toNat 0), rfl, rfl, hS, ?_, q⟩
      have e : ((k.toNat : Nat) : Int) = k := by omega
      rw [← e]
      refine atI_nat ?_
      have e2 : ns[k.toNat]? = some (ns.getD k.toNat 0) := by simp [List.getD, hk]
      rw [List.getElem?_map, e2]
      rfl
    · have c : ¬ k < (ns.length : Int) := fun z => c (decide_eq_true z)
      rw [if_neg c] at q
      exact q
theorem scDigit : FnScope ["_law_pot_here", "_law_base", "_law_digit_here"] ["_law_pot_here", "_law_base"] (defScope sDigit) := ⟨rfl, rfl, rfl, by decide +kernel, rfl, by decide +kernel, by decide +kernel⟩
theorem ok_digit {f : Addr} {fd : FuncData} (U : Fun K "_law_digit" "_law_digit" sDigit f fd) : FnOk P w K mg base CX0 1 f fd ["_law_pot_here", "_law_base"] spDigit := by
  refine U.ok scDigit (fun vs H Q E h => ?_) (fun cdv A outer s H vs Q E hr h => ?_)
  · obtain ⟨p, q, b, rfl, _⟩ := h
    rfl
  · obtain ⟨p, ⟨n, z⟩, b, rfl, hp, hok, hb0, hb1, q⟩ := h
    refine ⟨_, pss_cons (ps_if (pt_cmpR op_eq (pe_ix ix_list (pv 0) pe_int (fun _ _ => rfl)) pe_int (nomark _))
        (pss_cons (ps_asg (pe_op op_mod (pe_op op_add (pe_op op_mul (pe_ix ix_list (pv 0) pe_int (fun _ _ => rfl)) pe_int) pe_int) pe_int) (pg_sub (pv 0) pe_int set_list))
          (pss_one (ps_asg (pe_op op_mod (pe_op op_mul (pe_ix ix_list (pv 0) pe_int (fun _ _ => rfl)) (pe_ix ix_list (pv 0) pe_int (fun _ _ => rfl))) pe_int) (pg_sub (pv 0) pe_int set_list)))) pss_nil)
      (pss_cons (ps_set (i := 2) scDigit.nd rfl (Or.inl rfl) (pe_op op_mod (pe_ix ix_list (pv 0) pe_int (fun _ _ => rfl)) (pv 1)))
      (pss_cons (ps_asg (pe_op op_fdivB (pe_ix ix_list (pv 0) pe_int (fun _ _ => rfl)) (pv 1)) (pg_sub (pv 0) pe_int set_list))
      (pss_one (ps_ret (pv 2))))), ?_⟩
    have a0 : ∀ (x y : Int), atI [V.int x, V.int y] 0 = some (V.int x) := fun _ _ => rfl
    have a1 : ∀ (x y : Int), atI [V.int x, V.int y] 1 = some (V.int y) := fun _ _ => rfl
    have b0 : ∀ (x y : V), ixN [x, y].length 0 = some 0 := fun _ _ => rfl
    have b1 : ∀ (x y : V), ixN [x, y].length 1 = some 1 := fun _ _ => rfl
    have hz1 := hok.1
    have hz2 := hok.2
    refine ⟨_, rfl, p, _, 0, _, rfl, rfl, SqL.of hp, a0 _ _, rfl, _, rfl, ?_⟩
    have hz1 : -(2 ^ 60) < z := hz1
    have hz2 : z < 2 ^ 60 := hz2
    refine ite2 (fun c => ?_) (fun c => ?_)
    · have c : n = 0 := by
        have := of_decide_eq_true c
        injection this
      have m1 := Int.emod_lt_of_pos (z * 16807 + 11) (show (0 : Int) < 2147483647 by decide)
      have m2 := Int.emod_nonneg (z * 16807 + 11) (show (2147483647 : Int) ≠ 0 by decide)
      have u1 := upd_same (H := H) (a := p) (o := .lst [V.int n, V.int ((z * 16807 + 11) % 2147483647)])
      refine ⟨_, rfl, p, _, 1, _, rfl, rfl, SqL.of hp, a1 _ _, _, _, rfl, rfl, .inl ⟨by omega, by omega⟩, _, _, rfl, rfl, _, _, rfl, rfl, (show (0 : Int) < 2147483647 by decide), _, rfl, p, _, _, _, rfl, rfl, hp, b1 _ _, ?_⟩
      refine ⟨_, rfl, p, _, 1, _, rfl, rfl, SqL.of u1, a1 _ _, _, rfl, p, _, 1, _, rfl, rfl, SqL.of u1, a1 _ _, _, _, rfl, rfl, .inl ⟨by omega, by omega⟩, _, _, rfl, rfl, (show (0 : Int) < 2147483629 by decide), _, rfl, p, _, _, _, rfl, rfl, u1, b0 _ _, ?_⟩
      have u2 := upd_same (H := upd H p (.lst [V.int n, V.int ((z * 16807 + 11) % 2147483647)])) (a := p) (o := .lst [V.int ((z * 16807 + 11) % 2147483647 * ((z * 16807 + 11) % 2147483647) % 2147483629), V.int ((z * 16807 + 11) % 2147483647)])
      refine ⟨_, rfl, p, _, 0, _, rfl, rfl, SqL.of u2, a0 _ _, _, rfl, _, _, rfl, rfl, hb0, ?_⟩
      refine ⟨_, rfl, p, _, 0, _, rfl, rfl, SqL.of u2, a0 _ _, _, rfl, _, _, rfl, rfl, ⟨hb0, hb1⟩, _, rfl, p, _, _, _, rfl, rfl, u2, b0 _ _, ?_⟩
      refine ⟨_, rfl, ?_⟩
      rw [upd_upd, upd_upd]
      have e : refill (n, z) = ((z * 16807 + 11) % 2147483647 * ((z * 16807 + 11) % 2147483647) % 2147483629, (z * 16807 + 11) % 2147483647) := by
        unfold refill; rw [if_pos c]
      unfold digO nxt potV at q
      rw [e] at q
      exact q
    · have c : ¬ n = 0 := fun y => c (by rw [y]; exact decide_eq_true rfl)
      refine ⟨_, rfl, p, _, 0, _, rfl, rfl, SqL.of hp, a0 _ _, _, rfl, _, _, rfl, rfl, hb0, ?_⟩
      refine ⟨_, rfl, p, _, 0, _, rfl, rfl, SqL.of hp, a0 _ _, _, rfl, _, _, rfl, rfl, ⟨hb0, hb1⟩, _, rfl, p, _, _, _, rfl, rfl, hp, b0 _ _, ?_⟩
      refine ⟨_, rfl, ?_⟩
      have e : refill (n, z) = (n, z) := by
        unfold refill; rw [if_neg c]
      unfold digO nxt potV at q
      rw [e] at q
      exact q
theorem scPot : FnScope ["_law_script", "_law_k", "_law_seed", "_law_cell", "_law_number"] ["_law_script", "_law_k"] (defScope sPot) := ⟨rfl, rfl, rfl, by decide +kernel, rfl, by decide +kernel, by decide +kernel⟩
theorem take_cut (ns : List Int) : cutV (ns.map V.int) none (some 40) = (ns.take 40).map V.int := by
  unfold cutV
  have e1 : HT.sIx (ns.map V.int).length 0 none = 0 := rfl
  have e2 : HT.sIx (ns.map V.int).length (ns.map V.int).length (some 40) = min 40 ns.length := by
    rw [List.length_map]
    have := HT.sIx_nat ns.length ns.length 40
    simpa using this
  rw [e1, e2, List.drop_zero, ← List.map_take, Nat.sub_zero]
  congr 1
  rw [List.take_eq_take_iff]
  omega
theorem ok_pot {f fA : Addr} {fd fdA : FuncData} (U : Fun K "_law_pot" "_law_pot" sPot f fd) (UA : Fun K "_law_at" "_law_at" sAt fA fdA) (bA : Binds K fdA ["_law_script", "_law_k"] []) (mA : mg "_law_at" = some (.ref fA)) (kA : PySem.W.keepIn K (.ref fA) = true) (T : TxtN mg) :
    FnOk P w K mg base CX0 2 f fd ["_law_script", "_law_k"] (spPot K) := by
  have GA : FnOk P w K mg base CX0 1 fA fdA ["_law_script", "_law_k"] (spAt K) := ok_at UA T
  refine U.ok scPot (fun vs H Q E h => ?_) (fun cdv A outer s H vs Q E hr h => ?_)
  · obtain ⟨a, ns, k, rfl, _⟩ := h
    rfl
  · obtain ⟨a, ns, k, rfl, hS, h0, h1, q⟩ := h
    refine ⟨_, pss_cons (ps_set (i := 2) scPot.nd rfl (Or.inl rfl) (pe_op op_add pe_int (pe_op op_mul pe_int (pv 1))))
      (pss_cons (ps_for PassesOwn.never rfl (pi_list (pe_slice sl_list (pv 0) po_none (po_some pe_int))) (pg_name (i := 3) scPot.nd rfl (Or.inl rfl))
        (pss_one (ps_set (i := 2) scPot.nd rfl (Or.inl rfl) (pe_op op_mod (pe_op op_add (pe_op op_mul (pv 2) pe_int) (pv 3)) pe_int))))
      (pss_cons (ps_set (i := 4) scPot.nd rfl (Or.inl rfl) (pe_call GA hr rfl mA kA bA .nil pass0 (pa_cons (pv 0) (pa_cons (pv 1) pa_nil))))
      (pss_cons (ps_if (pt_cmpR op_lt (pv 4) (pe_op op_pow pe_int pe_int) (nomark _)) (pss_one (ps_set (i := 4) scPot.nd rfl (Or.inl rfl) pe_int)) pss_nil)
      (pss_one (ps_ret (pe_lst (pa_cons (pv 4) (pa_cons (pv 2) pa_nil)))))))), ?_⟩
    refine ⟨_, rfl, _, _, rfl, rfl, .inl ⟨by omega, by omega⟩, _, _, rfl, rfl, ?_⟩
    refine ⟨_, rfl, 40, rfl, a, _, rfl, hS, fun l hl => ?_⟩
    rw [take_cut]
    have sm : Same H (upd H l (.lst ((ns.take 40).map V.int))) := fun b o e => by rw [upd_ne (ne_of_none e hl)]; exact e
    refine ⟨l, rfl, ⟨_, SqL.of upd_same⟩, for_list (K := K) (a := l) (xs := (ns.take 40).map V.int) (fun i σ H2 => ∃ v, σ = [some (.ref a), some (.int k), some (.int (((ns.take 40).take i).foldl (fun s c => (s * 48271 + c) % 2147483647) (7 + 1009 * k))), v, none] ∧ H2 = upd H l (.lst ((ns.take 40).map V.int)) ∧
      (-(2 ^ 60) < (((ns.take 40).take i).foldl (fun s c => (s * 48271 + c) % 2147483647) (7 + 1009 * k)) ∧ (((ns.take 40).take i).foldl (fun s c => (s * 48271 + c) % 2147483647) (7 + 1009 * k)) < 2 ^ 60))
      ⟨none, rfl, rfl, by simp only [List.take_zero, List.foldl_nil]; constructor <;> omega⟩ (fun i σ H2 _ ⟨_, _, e, _⟩ => by rw [e]; exact SqL.of upd_same) ?_ ?_⟩
    · rintro i y σ H2 hi ⟨v, rfl, rfl, hb1, hb2⟩
      obtain ⟨c, hc, rfl⟩ : ∃ c, (ns.take 40)[i]? = some c ∧ V.int c = y := by
        rw [List.getElem?_map] at hi
        exact Option.map_eq_some_iff.mp hi
      have e : (ns.take 40).take (i + 1) = (ns.take 40).take i ++ [c] := by rw [List.take_add_one, hc]; rfl
      refine ⟨_, rfl, _, _, rfl, rfl, .inl ⟨by omega, by omega⟩, _, rfl, _, _, rfl, rfl, _, _, rfl, rfl, (show (0 : Int) < 2147483647 by decide), ?_⟩
      refine ⟨some (.int c), ?_, rfl, ?_⟩
      · rw [e, List.foldl_append]; rfl
      · rw [e, List.foldl_append]
        have m1 := Int.emod_lt_of_pos ((((ns.take 40).take i).foldl (fun s c => (s * 48271 + c) % 2147483647) (7 + 1009 * k)) * 48271 + c) (show (0 : Int) < 2147483647 by decide)
        have m2 := Int.emod_nonneg ((((ns.take 40).take i).foldl (fun s c => (s * 48271 + c) % 2147483647) (7 + 1009 * k)) * 48271 + c) (show (2147483647 : Int) ≠ 0 by decide)
        simp only [List.foldl_cons, List.foldl_nil]
        constructor <;> omega
    · rintro σ H2 ⟨v, rfl, rfl, _, _⟩
      rw [List.length_map, List.take_length]
      refine ⟨_, rfl, _, rfl, a, ns, k, rfl, sm.seq hS, h0, ?_⟩
      refine ⟨_, rfl, _, _, rfl, rfl, ⟨by decide, by decide, by decide⟩, _, _, rfl, rfl, _, rfl, ?_⟩
      have fin : ∀ (r : Addr), upd H l (.lst ((ns.take 40).map V.int)) r = none → Q (.ref r) (upd (upd H l (.lst ((ns.take 40).map V.int))) r (.lst (potV (potOf ns k)))) := fun r hr' =>
        q r _ (sm.free hr') (sm.trans fun b o e => by rw [upd_ne (ne_of_none e hr')]; exact e) upd_same
      unfold potOf at fin
      refine ite2 (fun c => ?_) (fun c => ?_)
      · have c : cellOr ns k < 1000000000000000000 := of_decide_eq_true c
        rw [if_pos c] at fin
        exact ⟨_, rfl, _, rfl, (show 2 ≤ sizeLine by decide), fun r hr' => fin r hr'⟩
      · have c : ¬ cellOr ns k < 1000000000000000000 := fun y => c (decide_eq_true y)
        rw [if_neg c] at fin
        exact ⟨_, rfl, _, rfl, (show 2 ≤ sizeLine by decide), fun r hr' => fin r hr'⟩
end
theorem digO_pos {q : Int × Int} {b : Int} (hb : 0 < b) : 0 ≤ digO q b ∧ digO q b < b := ⟨Int.emod_nonneg _ (by omega), Int.emod_lt_of_pos _ hb⟩
theorem log_small {b : Int} (h0 : 0 < b) (h : b ≤ 10 ^ 60) : b.natAbs.log2 < 9000 := by
  have h1 : b.natAbs ≠ 0 := by omega
  refine (Nat.log2_lt h1).mpr ?_
  have h2 : b.natAbs ≤ 10 ^ 60 := by omega
  exact Nat.lt_of_le_of_lt h2 (Nat.lt_of_lt_of_le (show 10 ^ 60 < 2 ^ 200 by decide) (Nat.pow_le_pow_right (by decide) (by decide)))
end K51
end
section
set_option Elab.async false
set_option linter.all false
set_option maxRecDepth 100000
set_option maxHeartbeats 4000000
namespace K31
open PySem L2 K51
theorem same_of {H H1 : Hp} {p : Addr} {o : HO} (g : H p = none) (e : upd H p o = H1) : Same H H1 := by rw [← e]; exact same_upd g
theorem at_of {H H1 : Hp} {p : Addr} {o : HO} (e : upd H p o = H1) : H1 p = some o := by rw [← e]; exact upd_same
def nV (l : List Nat) : List V := l.map fun n : Nat => V.int (n : Int)
def LpAt (H : Hp) (v : V) (l : List Nat) : Prop := ∃ a, v = .ref a ∧ H a = some (.lst (nV l))
abbrev LpsAt (H : Hp) : List V → Lps → Prop := Paired (LpAt H)
def TrAt (H : Hp) (v : V) (t : Nat × Nat × Nat) : Prop := ∃ a, v = .ref a ∧ H a = some (.tup [.int (t.1 : Int), .int (t.2.1 : Int), .int (t.2.2 : Int)])
abbrev TrsAt (H : Hp) : List V → List (Nat × Nat × Nat) → Prop := Paired (TrAt H)
theorem LpAt.same {H H' : Hp} {v : V} {l : List Nat} (s : Same H H') (h : LpAt H v l) : LpAt H' v l := by
  obtain ⟨a, e, h⟩ := h
  exact ⟨a, e, s a _ h⟩
theorem LpsAt.same {H H' : Hp} {vs : List V} {ls : Lps} (s : Same H H') (h : LpsAt H vs ls) : LpsAt H' vs ls := Paired.imp' (fun _ _ q => q.same s) h
theorem TrAt.same {H H' : Hp} {v : V} {t : Nat × Nat × Nat} (s : Same H H') (h : TrAt H v t) : TrAt H' v t := by
  obtain ⟨a, e, h⟩ := h
  exact ⟨a, e, s a _ h⟩
theorem TrsAt.same {H H' : Hp} {vs : List V} {ls : List (Nat × Nat × Nat)} (s : Same H H') (h : TrsAt H vs ls) : TrsAt H' vs ls := Paired.imp' (fun _ _ q => q.same s) h
section
variable {α β : Type} {F : α → β → Prop}
theorem pr_len : ∀ {xs : List α} {ys : List β}, Paired F xs ys → xs.length = ys.length
  | _, _, .nil => rfl
  | _, _, .cons _ t => by rw [List.length_cons, List.length_cons, pr_len t]
theorem pr_app : ∀ {xs : List α} {ys : List β} {xs' : List α} {ys' : List β}, Paired F xs ys → Paired F xs' ys' → Paired F (xs ++ xs') (ys ++ ys')
  | _, _, _, _, .nil, h => h
  | _, _, _, _, .cons a t, h => .cons a (pr_app t h)
theorem pr_take : ∀ {xs : List α} {ys : List β} (k : Nat), Paired F xs ys → Paired F (xs.take k) (ys.take k)
  | _, _, 0, _ => by simp only [List.take_zero]; exact .nil
  | _, _, _ + 1, .nil => by simp only [List.take_nil]; exact .nil
  | _, _, k + 1, .cons a t => .cons a (pr_take k t)
theorem pr_drop : ∀ {xs : List α} {ys : List β} (k : Nat), Paired F xs ys → Paired F (xs.drop k) (ys.drop k)
  | _, _, 0, h => h
  | _, _, _ + 1, .nil => by simp only [List.drop_nil]; exact .nil
  | _, _, k + 1, .cons a t => pr_drop k t
theorem pr_get : ∀ {xs : List α} {ys : List β} {i : Nat} {y : β}, Paired F xs ys → ys[i]? = some y → ∃ x, xs[i]? = some x ∧ F x y
  | _, _, _, _, .nil, h => by simp at h
  | _, _, 0, _, .cons a t, h => by
    simp at h
    subst h
    exact ⟨_, rfl, a⟩
  | _, _, i + 1, _, .cons a t, h => by simpa using pr_get (i := i) t (by simpa using h)
theorem pr_get' : ∀ {xs : List α} {ys : List β} {i : Nat} {x : α}, Paired F xs ys → xs[i]? = some x → ∃ y, ys[i]? = some y ∧ F x y
  | _, _, _, _, .nil, h => by simp at h
  | _, _, 0, _, .cons a t, h => by
    simp at h
    subst h
    exact ⟨_, rfl, a⟩
  | _, _, i + 1, _, .cons a t, h => by simpa using pr_get' (i := i) t (by simpa using h)
theorem pr_snoc {xs : List α} {ys : List β} {y : β} (h : Paired F xs (ys ++ [y])) : ∃ xs' x, xs = xs' ++ [x] ∧ Paired F xs' ys ∧ F x y := by
  have hl := pr_len h
  rw [List.length_append] at hl
  have h1 := pr_take ys.length h
  have h2 := pr_drop ys.length h
  rw [List.take_left] at h1
  rw [List.drop_left] at h2
  cases e : xs.drop ys.length with
  | nil => rw [e] at h2; cases h2
  | cons x r =>
    rw [e] at h2
    cases h2 with
    | cons a t =>
      cases t
      exact ⟨xs.take ys.length, x, by rw [← e, List.take_append_drop], h1, a⟩
end
theorem nV_len (l : List Nat) : (nV l).length = l.length := List.length_map ..
theorem nV_app (l r : List Nat) : nV l ++ nV r = nV (l ++ r) := (List.map_append ..).symm
theorem nV_one (n : Nat) : [V.int (n : Int)] = nV [n] := rfl
theorem nV_get {l : List Nat} {i n : Nat} (h : l[i]? = some n) : (nV l)[i]? = some (.int (n : Int)) := by
  unfold nV
  rw [List.getElem?_map, h]; rfl
theorem cN_to (l : List Nat) (i : Int) (k : Nat) (h : i = (k : Int)) : cutV (nV l) none (some i) = nV (l.take k) := by
  show cutA (nV l) none (some i) = _
  rw [h, cut_to]
  exact (List.map_take ..).symm
theorem cN_from (l : List Nat) (i : Int) (k : Nat) (h : i = (k : Int)) : cutV (nV l) (some i) none = nV (l.drop k) := by
  show cutA (nV l) (some i) none = _
  rw [h, cut_from]
  exact (List.map_drop ..).symm
theorem cN_mid (l : List Nat) (i j : Int) (a b : Nat) (h : i = (a : Int)) (h' : j = (b : Int)) : cutV (nV l) (some i) (some j) = nV ((l.take b).drop a) := by
  show cutA (nV l) (some i) (some j) = _
  rw [h, h', cut_nat]
  unfold nV
  rw [← List.map_drop, ← List.map_take, List.drop_take]
theorem sIx_m1 (n d : Nat) : HT.sIx n d (some (-1)) = n - 1 := by
  unfold HT.sIx
  dsimp only
  rw [if_pos (by decide)]
  omega
theorem cV_last (xs : List V) : cutV xs none (some (-1)) = xs.dropLast := by
  unfold cutV
  rw [sIx_m1, HT.sIx_none, List.drop_zero, Nat.sub_zero, List.dropLast_eq_take]
theorem cN_tail (l : List Nat) : cutV (nV l) (some (-1)) none = nV (l.drop (l.length - 1)) := by
  unfold cutV
  rw [sIx_m1, HT.sIx_none, nV_len, List.take_of_length_le (by rw [List.length_drop, nV_len]; omega)]
  exact (List.map_drop ..).symm
theorem cN_in (l : List Nat) : cutV (nV l) (some 1) (some (-1)) = nV ((l.drop 1).dropLast) := by
  unfold cutV
  rw [sIx_m1, nV_len, show HT.sIx l.length 0 (some 1) = min 1 l.length from HT.sIx_nat l.length 0 1]
  cases l with
  | nil => rfl
  | cons a l =>
    simp only [List.length_cons]
    rw [show min 1 (l.length + 1) = 1 by omega]
    show (nV l).take (l.length + 1 - 1 - 1) = nV l.dropLast
    rw [List.dropLast_eq_take]
    exact (List.map_take ..).symm
def Made (A : Addr) (va : List V) (H : Hp) (Q : VK) (x : Nat) (ls : Lps) : Prop := ∀ t r vr H', Same H H' → (r = A ∨ H r = none) → (∀ b, V.ref b ∈ vr → V.ref b ∈ va ∨ H b = none) → H' t = some (.tup [.int (x : Int), .ref r]) → H' r = some (.lst vr) → LpsAt H' vr ls → Q (.ref t) H'
theorem mem_new {va : List V} {H : Hp} {p : Addr} (h : H p = none) : ∀ b, V.ref b ∈ va ++ [V.ref p] → V.ref b ∈ va ∨ H b = none := fun b hb => by
  rcases List.mem_append.mp hb with z | z
  · exact .inl z
  · have : b = p := by simpa using z
    rw [this]; exact .inr h
structure Two (H : Hp) (A L : Addr) (va : List V) (ah : Lps) (loop : List Nat) : Prop where
  a : H A = some (.lst va)
  l : H L = some (.lst (nV loop))
  p : LpsAt H va ah
  za : va.length ≤ 1000
  zl : loop.length ≤ 1000
def spAnew : Sp := fun vs H Q _ => ∃ (A L : Addr) (n : Nat) (va : List V) (ah : Lps) (loop : List Nat), vs = [.ref A, .ref L, .int (n : Int)] ∧ Two H A L va ah loop ∧ Made A va H Q n (ah ++ [loop.take 1 ++ n :: loop.drop 1])
def spRight : Sp := fun vs H Q _ => ∃ (A L : Addr) (va : List V) (ah : Lps) (loop : List Nat) (x : Nat), vs = [.ref A, .ref L] ∧ Two H A L va ah loop ∧ 3 < loop.length ∧ loop[2]? = some x ∧ Made A va H Q x (ah ++ [loop.take 1 ++ loop.drop 2])
def spLeft : Sp := fun vs H Q _ => ∃ (A L : Addr) (va : List V) (ah : Lps) (loop : List Nat) (x : Nat), vs = [.ref A, .ref L] ∧ Two H A L va ah loop ∧ 3 < loop.length ∧ loop[loop.length - 1]? = some x ∧ Made A va H Q x (ah ++ [x :: (loop.drop 1).dropLast])
def spEnded : Sp := fun vs H Q _ => ∃ (A L : Addr) (va : List V) (ah : Lps) (loop : List Nat) (x : Nat), vs = [.ref A, .ref L] ∧ Two H A L va ah loop ∧ loop.length = 3 ∧ loop[2]? = some x ∧ Made A va H Q x ah
section
variable {P : Program} {w : World} {K : PySem.W.Frag} {mg : Str → Option Value} {base : Heap}
theorem same_id {H : Hp} : Same H H := fun _ _ z => z
theorem lit1 : 1 ≤ sizeLine := by show 1 ≤ sizeLine; decide
theorem lit2 : 2 ≤ sizeLine := by show 2 ≤ sizeLine; decide
theorem lit3 : 3 ≤ sizeLine := by show 3 ≤ sizeLine; decide
theorem scAnew : FnScope ["ahead", "loop", "fresh"] ["ahead", "loop", "fresh"] (defScope sAnew) := ⟨rfl, rfl, rfl, by decide +kernel, rfl, by decide +kernel, by decide +kernel⟩
theorem ok_anew {f : Addr} {fd : FuncData} (U : Fun K "come_anew" "come_anew" sAnew f fd) : FnOk P w K mg base CX0 1 f fd ["ahead", "loop", "fresh"] spAnew := by
  refine U.ok scAnew (fun vs H Q E h => ?_) (fun cdv A outer s H vs Q E hr h => ?_)
  · obtain ⟨A, L, n, va, ah, loop, rfl, _⟩ := h
    rfl
  · obtain ⟨A, L, n, va, ah, loop, rfl, T, q⟩ := h
    refine ⟨_, pss_one (ps_ret (pe_tup (pa_cons (pv 2) (pa_cons (pe_op op_cat (pv 0) (pe_lst (pa_cons (pe_op op_cat (pe_op op_cat (pe_slice sl_list (pv 1) po_none (po_some pe_int)) (pe_lst (pa_cons (pv 2) pa_nil))) (pe_slice sl_list (pv 1) (po_some pe_int) po_none)) pa_nil))) pa_nil)))), ?_⟩
    have hline := line5000
    have hz := T.za
    have hy := T.zl
    refine ⟨_, rfl, _, rfl, _, rfl, 1, rfl, L, _, rfl, SqL.of T.l, fun p1 g1 => ?_⟩
    rw [cN_to loop 1 1 rfl]
    (generalize hNX : upd H p1 _ = H1; have s1 := same_of g1 hNX; have y1 := at_of hNX; clear hNX)
    refine ⟨_, rfl, lit1, fun p2 g2 => ?_⟩
    rw [nV_one]
    (generalize hNX : upd H1 p2 _ = H2; have s2 := same_of g2 hNX; have y2 := at_of hNX; clear hNX)
    refine ⟨p1, p2, _, _, rfl, rfl, s2 _ _ y1, y2, (by rw [nV_len, nV_len, List.length_take, List.length_singleton]; omega), fun p3 g3 => ?_⟩
    rw [nV_app]
    (generalize hNX : upd H2 p3 _ = H3; have s3 := same_of g3 hNX; have y3 := at_of hNX; clear hNX)
    refine ⟨_, rfl, 1, rfl, L, _, rfl, SqL.of (((s1.trans s2).trans s3) _ _ T.l), fun p4 g4 => ?_⟩
    rw [cN_from loop 1 1 rfl]
    (generalize hNX : upd H3 p4 _ = H4; have s4 := same_of g4 hNX; have y4 := at_of hNX; clear hNX)
    refine ⟨p3, p4, _, _, rfl, rfl, s4 _ _ y3, y4, (by rw [nV_len, nV_len, List.length_append, List.length_take, List.length_singleton, List.length_drop]; omega), fun p5 g5 => ?_⟩
    rw [nV_app, List.append_assoc]
    (generalize hNX : upd H4 p5 _ = H5; have s5 := same_of g5 hNX; have y5 := at_of hNX; clear hNX)
    refine ⟨lit1, fun p6 g6 => ?_⟩
    (generalize hNX : upd H5 p6 _ = H6; have s6 := same_of g6 hNX; have y6 := at_of hNX; clear hNX)
    have t6 := ((((s1.trans s2).trans s3).trans s4).trans s5).trans s6
    refine ⟨A, p6, _, _, rfl, rfl, t6 _ _ T.a, y6, (by rw [List.length_singleton]; omega), fun p7 g7 => ?_⟩
    (generalize hNX : upd H6 p7 _ = H7; have s7 := same_of g7 hNX; have y7 := at_of hNX; clear hNX)
    refine ⟨lit2, fun p8 g8 => ?_⟩
    (generalize hNX : upd H7 p8 _ = H8; have s8 := same_of g8 hNX; have y8 := at_of hNX; clear hNX)
    have t8 := (t6.trans s7).trans s8
    exact q p8 p7 _ _ t8 (.inr (t6.free g7)) (mem_new ((((s1.trans s2).trans s3).trans s4).free g5)) y8 (s8 _ _ y7) (pr_app (T.p.same t8) (.cons ⟨p5, rfl, ((s6.trans s7).trans s8) _ _ y5⟩ .nil))
theorem scRight : FnScope ["ahead", "loop"] ["ahead", "loop"] (defScope sRight) := ⟨rfl, rfl, rfl, by decide +kernel, rfl, by decide +kernel, by decide +kernel⟩
theorem ok_right {f : Addr} {fd : FuncData} (U : Fun K "gone_right" "gone_right" sRight f fd) (T' : TxtN mg) : FnOk P w K mg base CX0 1 f fd ["ahead", "loop"] spRight := by
  refine U.ok scRight (fun vs H Q E h => ?_) (fun cdv A outer s H vs Q E hr h => ?_)
  · obtain ⟨A, L, va, ah, loop, x, rfl, _⟩ := h
    rfl
  · obtain ⟨A, L, va, ah, loop, x, rfl, T, hl, hx, q⟩ := h
    refine ⟨_, pss_cons (ps_if (pt_cmpR op_le (pe_callB call_len_seq (by rfl) T'.len PySem.boot_len (pa_cons (pv 1) pa_nil)) pe_int (nomark _)) pss_never pss_nil)
      (pss_one (ps_ret (pe_tup (pa_cons (pe_ix ix_list (pv 1) pe_int (fun _ _ => rfl)) (pa_cons (pe_op op_cat (pv 0) (pe_lst (pa_cons (pe_op op_cat (pe_slice sl_list (pv 1) po_none (po_some pe_int)) (pe_slice sl_list (pv 1) (po_some pe_int) po_none)) pa_nil))) pa_nil))))), ?_⟩
    have hline := line5000
    have hz := T.za
    have hy := T.zl
    refine ⟨_, rfl, L, _, rfl, .inl (SqL.of T.l), _, _, rfl, rfl, _, rfl, ?_⟩
    rw [nV_len, decide_eq_false (by omega)]
    refine iteF ?_
    refine ⟨_, rfl, L, _, _, _, rfl, rfl, SqL.of T.l, atI_nat (j := 2) (nV_get hx), ?_⟩
    refine ⟨_, rfl, _, rfl, 1, rfl, L, _, rfl, SqL.of T.l, fun p1 g1 => ?_⟩
    rw [cN_to loop 1 1 rfl]
    (generalize hNX : upd H p1 _ = H1; have s1 := same_of g1 hNX; have y1 := at_of hNX; clear hNX)
    refine ⟨_, rfl, 2, rfl, L, _, rfl, SqL.of (s1 _ _ T.l), fun p2 g2 => ?_⟩
    rw [cN_from loop 2 2 rfl]
    (generalize hNX : upd H1 p2 _ = H2; have s2 := same_of g2 hNX; have y2 := at_of hNX; clear hNX)
    refine ⟨p1, p2, _, _, rfl, rfl, s2 _ _ y1, y2, (by rw [nV_len, nV_len, List.length_take, List.length_drop]; omega), fun p3 g3 => ?_⟩
    rw [nV_app]
    (generalize hNX : upd H2 p3 _ = H3; have s3 := same_of g3 hNX; have y3 := at_of hNX; clear hNX)
    refine ⟨lit1, fun p6 g6 => ?_⟩
    (generalize hNX : upd H3 p6 _ = H6; have s6 := same_of g6 hNX; have y6 := at_of hNX; clear hNX)
    have t6 := ((s1.trans s2).trans s3).trans s6
    refine ⟨A, p6, _, _, rfl, rfl, t6 _ _ T.a, y6, (by rw [List.length_singleton]; omega), fun p7 g7 => ?_⟩
    (generalize hNX : upd H6 p7 _ = H7; have s7 := same_of g7 hNX; have y7 := at_of hNX; clear hNX)
    refine ⟨lit2, fun p8 g8 => ?_⟩
    (generalize hNX : upd H7 p8 _ = H8; have s8 := same_of g8 hNX; have y8 := at_of hNX; clear hNX)
    have t8 := (t6.trans s7).trans s8
    exact q p8 p7 _ _ t8 (.inr (t6.free g7)) (mem_new ((s1.trans s2).free g3)) y8 (s8 _ _ y7) (pr_app (T.p.same t8) (.cons ⟨p3, rfl, ((s6.trans s7).trans s8) _ _ y3⟩ .nil))
theorem scLeft : FnScope ["ahead", "loop"] ["ahead", "loop"] (defScope sLeft) := ⟨rfl, rfl, rfl, by decide +kernel, rfl, by decide +kernel, by decide +kernel⟩
theorem atI_m1 {α : Type} {l : List α} {x : α} (h : l[l.length - 1]? = some x) : atI l (-1) = some x := by
  have hl := (List.getElem?_eq_some_iff.mp h).1
  unfold atI ixN
  rw [if_neg (by decide), if_pos (by omega)]
  rw [show ((-1 : Int) + (l.length : Int)).toNat = l.length - 1 by omega]
  exact h
theorem drop_last1 {l : List Nat} {x : Nat} (h : l[l.length - 1]? = some x) : l.drop (l.length - 1) = [x] := by
  obtain ⟨hk, e⟩ := List.getElem?_eq_some_iff.mp h
  rw [List.drop_eq_getElem_cons hk, e, List.drop_of_length_le (by omega)]
theorem ok_left {f : Addr} {fd : FuncData} (U : Fun K "gone_left" "gone_left" sLeft f fd) (T' : TxtN mg) : FnOk P w K mg base CX0 1 f fd ["ahead", "loop"] spLeft := by
  refine U.ok scLeft (fun vs H Q E h => ?_) (fun cdv A outer s H vs Q E hr h => ?_)
  · obtain ⟨A, L, va, ah, loop, x, rfl, _⟩ := h
    rfl
  · obtain ⟨A, L, va, ah, loop, x, rfl, T, hl, hx, q⟩ := h
    refine ⟨_, pss_cons (ps_if (pt_cmpR op_le (pe_callB call_len_seq (by rfl) T'.len PySem.boot_len (pa_cons (pv 1) pa_nil)) pe_int (nomark _)) pss_never pss_nil)
      (pss_one (ps_ret (pe_tup (pa_cons (pe_ix ix_list (pv 1) (pe_un un_neg pe_int) (fun _ _ => rfl)) (pa_cons (pe_op op_cat (pv 0) (pe_lst (pa_cons (pe_op op_cat (pe_slice sl_list (pv 1) (po_some (pe_un un_neg pe_int)) po_none) (pe_slice sl_list (pv 1) (po_some pe_int) (po_some (pe_un un_neg pe_int)))) pa_nil))) pa_nil))))), ?_⟩
    have hline := line5000
    have hz := T.za
    have hy := T.zl
    refine ⟨_, rfl, L, _, rfl, .inl (SqL.of T.l), _, _, rfl, rfl, _, rfl, ?_⟩
    rw [nV_len, decide_eq_false (by omega)]
    refine iteF ?_
    refine ⟨_, rfl, _, rfl, L, _, _, _, rfl, rfl, SqL.of T.l, atI_m1 (by rw [nV_len]; exact nV_get hx), ?_⟩
    refine ⟨_, rfl, _, rfl, _, rfl, _, rfl, L, _, rfl, SqL.of T.l, fun p1 g1 => ?_⟩
    rw [cN_tail, drop_last1 hx]
    (generalize hNX : upd H p1 _ = H1; have s1 := same_of g1 hNX; have y1 := at_of hNX; clear hNX)
    refine ⟨_, rfl, 1, rfl, _, rfl, _, rfl, L, _, rfl, SqL.of (s1 _ _ T.l), fun p2 g2 => ?_⟩
    rw [cN_in]
    (generalize hNX : upd H1 p2 _ = H2; have s2 := same_of g2 hNX; have y2 := at_of hNX; clear hNX)
    refine ⟨p1, p2, _, _, rfl, rfl, s2 _ _ y1, y2, (by rw [nV_len, nV_len, List.length_singleton, List.length_dropLast, List.length_drop]; omega), fun p3 g3 => ?_⟩
    rw [nV_app]
    (generalize hNX : upd H2 p3 _ = H3; have s3 := same_of g3 hNX; have y3 := at_of hNX; clear hNX)
    refine ⟨lit1, fun p6 g6 => ?_⟩
    (generalize hNX : upd H3 p6 _ = H6; have s6 := same_of g6 hNX; have y6 := at_of hNX; clear hNX)
    have t6 := ((s1.trans s2).trans s3).trans s6
    refine ⟨A, p6, _, _, rfl, rfl, t6 _ _ T.a, y6, (by rw [List.length_singleton]; omega), fun p7 g7 => ?_⟩
    (generalize hNX : upd H6 p7 _ = H7; have s7 := same_of g7 hNX; have y7 := at_of hNX; clear hNX)
    refine ⟨lit2, fun p8 g8 => ?_⟩
    (generalize hNX : upd H7 p8 _ = H8; have s8 := same_of g8 hNX; have y8 := at_of hNX; clear hNX)
    have t8 := (t6.trans s7).trans s8
    exact q p8 p7 _ _ t8 (.inr (t6.free g7)) (mem_new ((s1.trans s2).free g3)) y8 (s8 _ _ y7) (pr_app (T.p.same t8) (.cons ⟨p3, rfl, ((s6.trans s7).trans s8) _ _ y3⟩ .nil))
theorem scEnded : FnScope ["ahead", "loop"] ["ahead", "loop"] (defScope sEnded) := ⟨rfl, rfl, rfl, by decide +kernel, rfl, by decide +kernel, by decide +kernel⟩
theorem ok_ended {f : Addr} {fd : FuncData} (U : Fun K "loop_ended" "loop_ended" sEnded f fd) (T' : TxtN mg) : FnOk P w K mg base CX0 1 f fd ["ahead", "loop"] spEnded := by
  refine U.ok scEnded (fun vs H Q E h => ?_) (fun cdv A outer s H vs Q E hr h => ?_)
  · obtain ⟨A, L, va, ah, loop, x, rfl, _⟩ := h
    rfl
  · obtain ⟨A, L, va, ah, loop, x, rfl, T, hl, hx, q⟩ := h
    refine ⟨_, pss_cons (ps_if (pt_cmpR op_ne (pe_callB call_len_seq (by rfl) T'.len PySem.boot_len (pa_cons (pv 1) pa_nil)) pe_int (nomark _)) pss_never pss_nil)
      (pss_one (ps_ret (pe_tup (pa_cons (pe_ix ix_list (pv 1) pe_int (fun _ _ => rfl)) (pa_cons (pv 0) pa_nil))))), ?_⟩
    refine ⟨_, rfl, L, _, rfl, .inl (SqL.of T.l), rfl, _, rfl, ?_⟩
    rw [nV_len, decI, hl]
    refine iteF ?_
    refine ⟨_, rfl, L, _, _, _, rfl, rfl, SqL.of T.l, atI_nat (j := 2) (nV_get hx), _, rfl, lit2, fun p8 g8 => ?_⟩
    exact q p8 A _ _ (same_upd g8) (.inl rfl) (fun b hb => .inl hb) upd_same (same_upd g8 _ _ T.a) (T.p.same (same_upd g8))
end
end K31
end
section
set_option Elab.async false
set_option linter.all false
set_option maxRecDepth 100000
set_option maxHeartbeats 4000000
namespace K31
open PySem L2 K51
def spParted : Sp := fun vs H Q _ => ∃ (A L : Addr) (va : List V) (ah : Lps) (loop : List Nat) (k x : Nat), vs = [.ref A, .ref L, .int (k : Int)] ∧ Two H A L va ah loop ∧ 2 < k ∧ k + 1 < loop.length ∧ loop[k]? = some x ∧ Made A va H Q x (ah ++ [loop.take 1 ++ loop.drop k, x :: (loop.take k).drop 1])
def spJoined : Sp := fun vs H Q _ => ∃ (A L : Addr) (va : List V) (ah : Lps) (loop : List Nat) (j k x : Nat), vs = [.ref A, .ref L, .int (j : Int), .int (k : Int)] ∧ Two H A L va ah loop ∧ 0 < j ∧ j ≤ ah.length ∧ (∀ l ∈ ah, l.length ≤ 1000) ∧ (ah.getD (ah.length - j) [])[k]? = some x ∧
  Made A va H Q x (ah.eraseIdx (ah.length - j) ++ [loop.take 1 ++ (ah.getD (ah.length - j) []).drop k ++ (ah.getD (ah.length - j) []).take k ++ x :: loop.drop 1])
theorem take_one {l : List Nat} {k x : Nat} (h : l[k]? = some x) : (l.take (k + 1)).drop k = [x] := by
  rw [List.drop_take]
  obtain ⟨hk, e⟩ := List.getElem?_eq_some_iff.mp h
  rw [List.drop_eq_getElem_cons hk, e, show k + 1 - k = 1 by omega]
  rfl
theorem take_x {l : List Nat} {k x : Nat} (h : l[k]? = some x) : l.take (k + 1) = l.take k ++ [x] := by
  rw [List.take_add_one, h]; rfl
section
variable {P : Program} {w : World} {K : PySem.W.Frag} {mg : Str → Option Value} {base : Heap}
theorem scParted : FnScope ["ahead", "loop", "k"] ["ahead", "loop", "k"] (defScope sParted) := ⟨rfl, rfl, rfl, by decide +kernel, rfl, by decide +kernel, by decide +kernel⟩
theorem ok_parted {f : Addr} {fd : FuncData} (U : Fun K "loop_parted" "loop_parted" sParted f fd) (T' : TxtN mg) : FnOk P w K mg base CX0 1 f fd ["ahead", "loop", "k"] spParted := by
  refine U.ok scParted (fun vs H Q E h => ?_) (fun cdv A outer s H vs Q E hr h => ?_)
  · obtain ⟨A, L, va, ah, loop, k, x, rfl, _⟩ := h
    rfl
  · obtain ⟨A, L, va, ah, loop, k, x, rfl, T, hk, hl, hx, q⟩ := h
    refine ⟨_, pss_cons (ps_if (PW.pt (pw_or (pt_cmpR op_lt (pv 2) pe_int (nomark _)) (pw_or1 (pt_cmpR op_ge (pv 2) (pe_op op_sub (pe_callB call_len_seq (by rfl) T'.len PySem.boot_len (pa_cons (pv 1) pa_nil)) pe_int) (nomark _))))) pss_never pss_nil)
      (pss_one (ps_ret (pe_tup (pa_cons (pe_ix ix_list (pv 1) (pv 2) (fun _ _ => rfl)) (pa_cons (pe_op op_cat (pv 0) (pe_lst (pa_cons (pe_op op_cat (pe_slice sl_list (pv 1) po_none (po_some pe_int)) (pe_slice sl_list (pv 1) (po_some (pv 2)) po_none))
        (pa_cons (pe_op op_cat (pe_slice sl_list (pv 1) (po_some (pv 2)) (po_some (pe_op op_add (pv 2) pe_int))) (pe_slice sl_list (pv 1) (po_some pe_int) (po_some (pv 2)))) pa_nil)))) pa_nil))))), ?_⟩
    have hline := line5000
    have hz := T.za
    have hy := T.zl
    refine ⟨_, rfl, _, _, rfl, rfl, _, rfl, ?_⟩
    rw [decide_eq_false (by omega)]
    refine iteF ?_
    refine ⟨_, rfl, _, rfl, L, _, rfl, .inl (SqL.of T.l), _, _, rfl, rfl, _, _, rfl, rfl, _, rfl, ?_⟩
    rw [nV_len, decide_eq_false (by omega)]
    refine iteF ?_
    refine ⟨_, rfl, _, rfl, L, _, _, _, rfl, rfl, SqL.of T.l, atI_nat (nV_get hx), ?_⟩
    refine ⟨_, rfl, _, rfl, 1, rfl, L, _, rfl, SqL.of T.l, fun p1 g1 => ?_⟩
    rw [cN_to loop 1 1 rfl]
    (generalize hNX : upd H p1 _ = H1; have s1 := same_of g1 hNX; have y1 := at_of hNX; clear hNX)
    refine ⟨_, rfl, _, rfl, _, rfl, L, _, rfl, SqL.of (s1 _ _ T.l), fun p2 g2 => ?_⟩
    rw [cN_from loop (k : Int) k rfl]
    (generalize hNX : upd H1 p2 _ = H2; have s2 := same_of g2 hNX; have y2 := at_of hNX; clear hNX)
    refine ⟨p1, p2, _, _, rfl, rfl, s2 _ _ y1, y2, (by rw [nV_len, nV_len, List.length_take, List.length_drop]; omega), fun p3 g3 => ?_⟩
    rw [nV_app]
    (generalize hNX : upd H2 p3 _ = H3; have s3 := same_of g3 hNX; have y3 := at_of hNX; clear hNX)
    have t3 := (s1.trans s2).trans s3
    refine ⟨_, rfl, _, rfl, _, rfl, _, rfl, _, _, rfl, rfl, _, rfl, L, _, rfl, SqL.of (t3 _ _ T.l), fun p4 g4 => ?_⟩
    rw [cN_mid loop (k : Int) ((k : Int) + 1) k (k + 1) rfl rfl, take_one hx]
    (generalize hNX : upd H3 p4 _ = H4; have s4 := same_of g4 hNX; have y4 := at_of hNX; clear hNX)
    refine ⟨_, rfl, 1, rfl, _, rfl, _, rfl, L, _, rfl, SqL.of ((t3.trans s4) _ _ T.l), fun p5 g5 => ?_⟩
    rw [cN_mid loop 1 (k : Int) 1 k rfl rfl]
    (generalize hNX : upd H4 p5 _ = H5; have s5 := same_of g5 hNX; have y5 := at_of hNX; clear hNX)
    refine ⟨p4, p5, _, _, rfl, rfl, s5 _ _ y4, y5, (by rw [nV_len, nV_len, List.length_singleton, List.length_drop, List.length_take]; omega), fun p6 g6 => ?_⟩
    rw [nV_app]
    (generalize hNX : upd H5 p6 _ = H6; have s6 := same_of g6 hNX; have y6 := at_of hNX; clear hNX)
    refine ⟨lit2, fun p7 g7 => ?_⟩
    (generalize hNX : upd H6 p7 _ = H7; have s7 := same_of g7 hNX; have y7 := at_of hNX; clear hNX)
    have t7 := (((t3.trans s4).trans s5).trans s6).trans s7
    refine ⟨A, p7, _, _, rfl, rfl, t7 _ _ T.a, y7, (by show _ + 2 ≤ _; omega), fun p8 g8 => ?_⟩
    (generalize hNX : upd H7 p8 _ = H8; have s8 := same_of g8 hNX; have y8 := at_of hNX; clear hNX)
    refine ⟨lit2, fun p9 g9 => ?_⟩
    (generalize hNX : upd H8 p9 _ = H9; have s9 := same_of g9 hNX; have y9 := at_of hNX; clear hNX)
    have t9 := (t7.trans s8).trans s9
    have t69 := (s7.trans s8).trans s9
    have n3 : H p3 = none := (s1.trans s2).free g3
    have n6 : H p6 = none := ((t3.trans s4).trans s5).free g6
    exact q p9 p8 _ _ t9 (.inr (t7.free g8)) (fun b hb => by
      rcases List.mem_append.mp hb with z | z
      · exact .inl z
      · simp only [List.mem_cons, List.not_mem_nil, or_false, V.ref.injEq] at z
        rcases z with rfl | rfl
        · exact .inr n3
        · exact .inr n6) y9 (s9 _ _ y8) (pr_app (T.p.same t9) (.cons ⟨p3, rfl, (((s4.trans s5).trans s6).trans t69) _ _ y3⟩ (.cons ⟨p6, rfl, t69 _ _ y6⟩ .nil)))
theorem scJoined : FnScope ["ahead", "loop", "j", "k", "at", "other", "between"] ["ahead", "loop", "j", "k"] (defScope sJoined) := ⟨rfl, rfl, rfl, by decide +kernel, rfl, by decide +kernel, by decide +kernel⟩
theorem ok_joined {f : Addr} {fd : FuncData} (U : Fun K "loops_joined" "loops_joined" sJoined f fd) (T' : TxtN mg) : FnOk P w K mg base CX0 1 f fd ["ahead", "loop", "j", "k"] spJoined := by
  refine U.ok scJoined (fun vs H Q E h => ?_) (fun cdv A outer s H vs Q E hr h => ?_)
  · obtain ⟨A, L, va, ah, loop, j, k, x, rfl, _⟩ := h
    rfl
  · obtain ⟨A, L, va, ah, loop, j, k, x, rfl, T, hj0, hj, hb, hx, q⟩ := h
    refine ⟨_, pss_cons (ps_if (PW.pt (pw_or (pt_cmpR op_lt (pv 2) pe_int (nomark _)) (pw_or1 (pt_cmpR op_gt (pv 2) (pe_callB call_len_seq (by rfl) T'.len PySem.boot_len (pa_cons (pv 0) pa_nil)) (nomark _))))) pss_never pss_nil)
      (pss_cons (ps_set (i := 4) scJoined.nd rfl (Or.inl rfl) (pe_op op_sub (pe_callB call_len_seq (by rfl) T'.len PySem.boot_len (pa_cons (pv 0) pa_nil)) (pv 2)))
      (pss_cons (ps_set (i := 5) scJoined.nd rfl (Or.inl rfl) (pe_ix ix_list (pv 0) (pv 4) (fun _ _ => rfl)))
      (pss_cons (ps_if (PW.pt (pw_or (pt_cmpR op_lt (pv 3) pe_int (nomark _)) (pw_or1 (pt_cmpR op_ge (pv 3) (pe_callB call_len_seq (by rfl) T'.len PySem.boot_len (pa_cons (pv 5) pa_nil)) (nomark _))))) pss_never pss_nil)
      (pss_cons (ps_set (i := 6) scJoined.nd rfl (Or.inl rfl) (pe_op op_cat (pe_slice sl_list (pv 5) (po_some (pv 3)) po_none) (pe_slice sl_list (pv 5) po_none (po_some (pe_op op_add (pv 3) pe_int)))))
      (pss_one (ps_ret (pe_tup (pa_cons (pe_ix ix_list (pv 5) (pv 3) (fun _ _ => rfl)) (pa_cons (pe_op op_cat (pe_op op_cat (pe_slice sl_list (pv 0) po_none (po_some (pv 4))) (pe_slice sl_list (pv 0) (po_some (pe_op op_add (pv 4) pe_int)) po_none))
        (pe_lst (pa_cons (pe_op op_cat (pe_op op_cat (pe_slice sl_list (pv 1) po_none (po_some pe_int)) (pv 6)) (pe_slice sl_list (pv 1) (po_some pe_int) po_none)) pa_nil))) pa_nil))))))))), ?_⟩
    have hline := line5000
    have hz := T.za
    have hy := T.zl
    have hlen := pr_len T.p
    have hi : ah.length - j < ah.length := by omega
    have ho : ah[ah.length - j]? = some (ah.getD (ah.length - j) []) := by simp [List.getD, hi]
    have hbo := hb _ (List.mem_of_getElem? ho)
    obtain ⟨v, hv, b, rfl, hbH⟩ := pr_get T.p ho
    generalize ah.getD (ah.length - j) [] = o at *
    have hko := (List.getElem?_eq_some_iff.mp hx).1
    refine ⟨_, rfl, _, _, rfl, rfl, _, rfl, ?_⟩
    rw [decide_eq_false (by omega)]
    refine iteF ?_
    refine ⟨_, rfl, _, rfl, A, _, rfl, .inl (SqL.of T.a), _, _, rfl, rfl, _, rfl, ?_⟩
    rw [hlen, decide_eq_false (by omega)]
    refine iteF ?_
    refine ⟨_, rfl, A, _, rfl, .inl (SqL.of T.a), _, rfl, _, _, rfl, rfl, ?_⟩
    show gName 4 (V.int ((va.length : Int) - (j : Int))) _ _ _
    rw [hlen, show (ah.length : Int) - (j : Int) = ((ah.length - j : Nat) : Int) by omega]
    refine ⟨_, rfl, _, rfl, A, _, _, _, rfl, rfl, SqL.of T.a, atI_nat hv, ?_⟩
    refine ⟨_, rfl, _, _, rfl, rfl, _, rfl, ?_⟩
    rw [decide_eq_false (by omega)]
    refine iteF ?_
    refine ⟨_, rfl, _, rfl, b, _, rfl, .inl (SqL.of hbH), _, _, rfl, rfl, _, rfl, ?_⟩
    rw [nV_len, decide_eq_false (by omega)]
    refine iteF ?_
    refine ⟨_, rfl, _, rfl, _, rfl, b, _, rfl, SqL.of hbH, fun p1 g1 => ?_⟩
    rw [cN_from o (k : Int) k rfl]
    (generalize hNX : upd H p1 _ = H1; have s1 := same_of g1 hNX; have y1 := at_of hNX; clear hNX)
    refine ⟨_, rfl, _, rfl, _, _, rfl, rfl, _, rfl, b, _, rfl, SqL.of (s1 _ _ hbH), fun p2 g2 => ?_⟩
    rw [cN_to o ((k : Int) + 1) (k + 1) rfl, take_x hx]
    (generalize hNX : upd H1 p2 _ = H2; have s2 := same_of g2 hNX; have y2 := at_of hNX; clear hNX)
    refine ⟨p1, p2, _, _, rfl, rfl, s2 _ _ y1, y2, (by rw [nV_len, nV_len, List.length_drop, List.length_append, List.length_take, List.length_singleton]; omega), fun p3 g3 => ?_⟩
    rw [nV_app]
    (generalize hNX : upd H2 p3 _ = H3; have s3 := same_of g3 hNX; have y3 := at_of hNX; clear hNX)
    have t3 := (s1.trans s2).trans s3
    refine ⟨_, rfl, _, rfl, b, _, _, _, rfl, rfl, SqL.of (t3 _ _ hbH), atI_nat (nV_get hx), ?_⟩
    refine ⟨_, rfl, _, rfl, _, rfl, A, _, rfl, SqL.of (t3 _ _ T.a), fun p4 g4 => ?_⟩
    rw [show cutV va none (some ((ah.length - j : Nat) : Int)) = va.take (ah.length - j) from cut_to va _]
    (generalize hNX : upd H3 p4 _ = H4; have s4 := same_of g4 hNX; have y4 := at_of hNX; clear hNX)
    refine ⟨_, rfl, _, rfl, _, _, rfl, rfl, _, rfl, A, _, rfl, SqL.of ((t3.trans s4) _ _ T.a), fun p5 g5 => ?_⟩
    rw [show cutV va (some (((ah.length - j : Nat) : Int) + 1)) none = va.drop (ah.length - j + 1) from cut_from va (ah.length - j + 1)]
    (generalize hNX : upd H4 p5 _ = H5; have s5 := same_of g5 hNX; have y5 := at_of hNX; clear hNX)
    have t5 := (t3.trans s4).trans s5
    refine ⟨p4, p5, _, _, rfl, rfl, s5 _ _ y4, y5, (by rw [List.length_take, List.length_drop]; omega), fun p6 g6 => ?_⟩
    (generalize hNX : upd H5 p6 _ = H6; have s6 := same_of g6 hNX; have y6 := at_of hNX; clear hNX)
    have t6 := t5.trans s6
    refine ⟨_, rfl, 1, rfl, L, _, rfl, SqL.of (t6 _ _ T.l), fun p7 g7 => ?_⟩
    rw [cN_to loop 1 1 rfl]
    (generalize hNX : upd H6 p7 _ = H7; have s7 := same_of g7 hNX; have y7 := at_of hNX; clear hNX)
    refine ⟨_, rfl, p7, p3, _, _, rfl, rfl, y7, ((((s4.trans s5).trans s6).trans s7)) _ _ y3, (by rw [nV_len, nV_len, List.length_take, List.length_append, List.length_drop, List.length_append, List.length_take, List.length_singleton]; omega), fun p8 g8 => ?_⟩
    rw [nV_app]
    (generalize hNX : upd H7 p8 _ = H8; have s8 := same_of g8 hNX; have y8 := at_of hNX; clear hNX)
    have t8 := (t6.trans s7).trans s8
    refine ⟨_, rfl, 1, rfl, L, _, rfl, SqL.of (t8 _ _ T.l), fun p9 g9 => ?_⟩
    rw [cN_from loop 1 1 rfl]
    (generalize hNX : upd H8 p9 _ = H9; have s9 := same_of g9 hNX; have y9 := at_of hNX; clear hNX)
    refine ⟨p8, p9, _, _, rfl, rfl, s9 _ _ y8, y9, (by rw [nV_len, nV_len, List.length_append, List.length_take, List.length_append, List.length_drop, List.length_append, List.length_take, List.length_singleton, List.length_drop]; omega), fun pa ga => ?_⟩
    rw [nV_app]
    (generalize hNX : upd H9 pa _ = Ha; have sa := same_of ga hNX; have ya := at_of hNX; clear hNX)
    refine ⟨lit1, fun pb gb => ?_⟩
    (generalize hNX : upd Ha pb _ = Hb; have sb := same_of gb hNX; have yb := at_of hNX; clear hNX)
    have t6b := ((((s7.trans s8).trans s9).trans sa).trans sb)
    refine ⟨p6, pb, _, _, rfl, rfl, t6b _ _ y6, yb, (by rw [List.length_append, List.length_take, List.length_drop, List.length_singleton]; omega), fun pc gc => ?_⟩
    (generalize hNX : upd Hb pc _ = Hc; have sc := same_of gc hNX; have yc := at_of hNX; clear hNX)
    refine ⟨lit2, fun pd gd => ?_⟩
    (generalize hNX : upd Hc pd _ = Hd; have sd := same_of gd hNX; have yd := at_of hNX; clear hNX)
    have tb := t6.trans t6b
    have td := (tb.trans sc).trans sd
    have na : H pa = none := ((t8.trans s9)).free ga
    refine q pd pc _ _ td (.inr (tb.free gc)) (fun b hb => by
      rcases mem_new na b hb with z | z
      · refine .inl ?_
        rcases List.mem_append.mp z with z | z
        · exact List.mem_of_mem_take z
        · exact List.mem_of_mem_drop z
      · exact .inr z) yd (sd _ _ yc) (pr_app ?_ (.cons ⟨pa, rfl, ?_⟩ .nil))
    · rw [List.eraseIdx_eq_take_drop_succ]
      have h := T.p.same td
      exact pr_app (pr_take _ h) (pr_drop _ h)
    · have e := ((sb.trans sc).trans sd) _ _ ya
      have e2 : loop.take 1 ++ (o.drop k ++ (o.take k ++ [x])) ++ loop.drop 1 = loop.take 1 ++ o.drop k ++ o.take k ++ x :: loop.drop 1 := by simp
      rw [e2] at e
      exact e
end
end K31
end
section
set_option Elab.async false
set_option linter.all false
set_option maxRecDepth 100000
set_option maxHeartbeats 4000000
namespace K31
open PySem L2 K51
theorem decT (c d : Nat) : decide (V.str (txt [c]) = V.str (txt [d])) = decide (c = d) := by
  rw [dec_txt, Bool.eq_iff_iff]
  simp
def ltR : Lt → List V
  | .sg _ => []
  | .sp j k => [.int (j : Nat), .int (k : Nat)]
theorem ltV_eq (a : Lt) : ltV a = .str (txt [sgn a]) :: ltR a := by cases a <;> rfl
def spOutcome : Sp := fun vs H Q _ => ∃ (R t : Addr) (n : Nat) (vr : List V) (ah : Lps) (loop : List Nat) (a : Lt) (x : Nat), vs = [.ref R, .ref t, .int (n : Int)] ∧ H R = some (.lst vr) ∧ LpsAt H vr (ah ++ [loop]) ∧ H t = some (.tup (ltV a)) ∧ Lets a ∧
  ah.length ≤ 900 ∧ (∀ l ∈ ah ++ [loop], l.length ≤ 1000) ∧ thirdOf ah loop a n = some x ∧
  ∀ t' r vr' H', Same H H' → H r = none → (∀ b, V.ref b ∈ vr' → V.ref b ∈ vr ∨ H b = none) → H' t' = some (.tup [.int (x : Int), .ref r]) → H' r = some (.lst vr') → LpsAt H' vr' (stepOf ah loop a x) → Q (.ref t') H'
section
variable {P : Program} {w : World} {K : PySem.W.Frag} {mg : Str → Option Value} {base : Heap}
theorem scOutcome : FnScope ["rows", "letter", "fresh", "ahead", "loop", "sign", "j", "k"] ["rows", "letter", "fresh"] (defScope sOutcome) := ⟨rfl, rfl, rfl, by decide +kernel, rfl, by decide +kernel, by decide +kernel⟩
structure Use (P : Program) (w : World) (K : PySem.W.Frag) (mg : Str → Option Value) (base : Heap) (n : Nat) (x : Str) (ps : List Str) (sp : Sp) (f : Addr) (fd : FuncData) : Prop where
  g : FnOk P w K mg base CX0 n f fd ps sp
  b : Binds K fd ps []
  m : mg x = some (.ref f)
  k : PySem.W.keepIn K (.ref f) = true
theorem ok_outcome {f f1 f2 f3 f4 f5 f6 : Addr} {fd d1 d2 d3 d4 d5 d6 : FuncData} (U : Fun K "outcome" "outcome" sOutcome f fd)
    (G1 : Use P w K mg base 1 "come_anew" ["ahead", "loop", "fresh"] spAnew f1 d1) (G2 : Use P w K mg base 1 "gone_right" ["ahead", "loop"] spRight f2 d2) (G3 : Use P w K mg base 1 "gone_left" ["ahead", "loop"] spLeft f3 d3)
    (G4 : Use P w K mg base 1 "loop_ended" ["ahead", "loop"] spEnded f4 d4) (G5 : Use P w K mg base 1 "loop_parted" ["ahead", "loop", "k"] spParted f5 d5) (G6 : Use P w K mg base 1 "loops_joined" ["ahead", "loop", "j", "k"] spJoined f6 d6) :
    FnOk P w K mg base CX0 2 f fd ["rows", "letter", "fresh"] spOutcome := by
  refine U.ok scOutcome (fun vs H Q E h => ?_) (fun cdv A outer s H vs Q E hr h => ?_)
  · obtain ⟨R, t, n, vr, ah, loop, a, x, rfl, _⟩ := h
    rfl
  · obtain ⟨R, t, n, vr, ah, loop, a, x, rfl, hR, hp, ht, ha, hz, hy, hx, q⟩ := h
    refine ⟨_, pss_cons (ps_set (i := 3) scOutcome.nd rfl (Or.inl rfl) (pe_slice sl_list (pv 0) po_none (po_some (pe_un un_neg pe_int))))
      (pss_cons (ps_set (i := 4) scOutcome.nd rfl (Or.inl rfl) (pe_ix ix_list (pv 0) (pe_un un_neg pe_int) (fun _ _ => rfl)))
      (pss_cons (ps_if (pt_cmpR op_eq (pe_ix ix_tup (pv 1) pe_int (fun _ _ => rfl)) pe_str (nomark _)) (pss_one (ps_ret (pe_call G1.g hr rfl G1.m G1.k G1.b .nil pass0 (pa_cons (pv 3) (pa_cons (pv 4) (pa_cons (pv 2) pa_nil)))))) pss_nil)
      (pss_cons (ps_if (pt_cmpR op_eq (pe_ix ix_tup (pv 1) pe_int (fun _ _ => rfl)) pe_str (nomark _)) (pss_one (ps_ret (pe_call G2.g hr rfl G2.m G2.k G2.b .nil pass0 (pa_cons (pv 3) (pa_cons (pv 4) pa_nil))))) pss_nil)
      (pss_cons (ps_if (pt_cmpR op_eq (pe_ix ix_tup (pv 1) pe_int (fun _ _ => rfl)) pe_str (nomark _)) (pss_one (ps_ret (pe_call G3.g hr rfl G3.m G3.k G3.b .nil pass0 (pa_cons (pv 3) (pa_cons (pv 4) pa_nil))))) pss_nil)
      (pss_cons (ps_if (pt_cmpR op_eq (pe_ix ix_tup (pv 1) pe_int (fun _ _ => rfl)) pe_str (nomark _)) (pss_one (ps_ret (pe_call G4.g hr rfl G4.m G4.k G4.b .nil pass0 (pa_cons (pv 3) (pa_cons (pv 4) pa_nil))))) pss_nil)
      (pss_cons (ps_asg (pv 1) (pg_tup rfl (pgs_cons (pg_name (i := 5) scOutcome.nd rfl (Or.inl rfl)) (pgs_cons (pg_name (i := 6) scOutcome.nd rfl (Or.inl rfl)) (pgs_cons (pg_name (i := 7) scOutcome.nd rfl (Or.inl rfl)) pgs_nil)))))
      (pss_cons (ps_if (pt_cmpR op_eq (pv 6) pe_int (nomark _)) (pss_one (ps_ret (pe_call G5.g hr rfl G5.m G5.k G5.b .nil pass0 (pa_cons (pv 3) (pa_cons (pv 4) (pa_cons (pv 7) pa_nil)))))) pss_nil)
      (pss_one (ps_ret (pe_call G6.g hr rfl G6.m G6.k G6.b .nil pass0 (pa_cons (pv 3) (pa_cons (pv 4) (pa_cons (pv 6) (pa_cons (pv 7) pa_nil)))))))))))))), ?_⟩
    have hlen := pr_len hp
    obtain ⟨va, v, rfl, hpa, L, rfl, hL⟩ := pr_snoc hp
    have hla := pr_len hpa
    rw [ltV_eq] at ht
    have a0 : atI (V.str (txt [sgn a]) :: ltR a) 0 = some (V.str (txt [sgn a])) := atI0 _ _
    refine ⟨_, rfl, _, rfl, _, rfl, R, _, rfl, SqL.of hR, fun p1 g1 => ?_⟩
    rw [cV_last, List.dropLast_concat]
    (generalize hNX : upd H p1 _ = H1; have s1 := same_of g1 hNX; have y1 := at_of hNX; clear hNX)
    refine ⟨_, rfl, _, rfl, R, _, _, _, rfl, rfl, SqL.of (s1 _ _ hR), atI_m1 (x := V.ref L) (by simp), ?_⟩
    have T : Two H1 p1 L va ah loop := ⟨y1, s1 _ _ hL, LpsAt.same s1 hpa, by omega, hy loop (by simp)⟩
    have ht1 := s1 _ _ ht
    have fin : Made p1 va H1 Q x (stepOf ah loop a x) := fun t' r vr' H' s' hr' hn e1 e2 e3 => q t' r vr' H' (s1.trans s') (hr'.elim (fun z => by rw [z]; exact g1) fun z => s1.free z) (fun b hb => (hn b hb).elim (fun z => .inl (List.mem_append_left _ z)) fun z => .inr (s1.free z)) e1 e2 e3
    refine ⟨_, rfl, t, _, _, _, rfl, rfl, SqT.of ht1, a0, rfl, _, rfl, ?_⟩
    rw [show (Str.ofString "C") = txt [67] from sC, decT]
    cases a with
    | sg c =>
      simp only [Lets] at ha
      simp only [thirdOf] at hx
      rcases ha with rfl | rfl | rfl | rfl
      · rw [decide_eq_true (show sgn (.sg 67) = 67 from rfl)]
        refine iteT ?_
        rw [if_pos rfl] at hx
        cases hx
        exact ⟨_, rfl, _, rfl, _, rfl, p1, L, n, va, ah, loop, rfl, T, fin⟩
      · rw [decide_eq_false (show ¬ sgn (.sg 82) = 67 by decide)]
        refine iteF ?_
        simp at hx
        refine ⟨_, rfl, t, _, _, _, rfl, rfl, SqT.of ht1, a0, rfl, _, rfl, ?_⟩
        rw [show (Str.ofString "R") = txt [82] from sR, decT, decide_eq_true (show sgn (.sg 82) = 82 from rfl)]
        refine iteT ?_
        exact ⟨_, rfl, _, rfl, p1, L, va, ah, loop, x, rfl, T, hx.1, hx.2, fin⟩
      · rw [decide_eq_false (show ¬ sgn (.sg 76) = 67 by decide)]
        refine iteF ?_
        simp at hx
        refine ⟨_, rfl, t, _, _, _, rfl, rfl, SqT.of ht1, a0, rfl, _, rfl, ?_⟩
        rw [show (Str.ofString "R") = txt [82] from sR, decT, decide_eq_false (show ¬ sgn (.sg 76) = 82 by decide)]
        refine iteF ?_
        refine ⟨_, rfl, t, _, _, _, rfl, rfl, SqT.of ht1, a0, rfl, _, rfl, ?_⟩
        rw [show (Str.ofString "L") = txt [76] from sL, decT, decide_eq_true (show sgn (.sg 76) = 76 from rfl)]
        refine iteT ?_
        exact ⟨_, rfl, _, rfl, p1, L, va, ah, loop, x, rfl, T, hx.1, hx.2, fin⟩
      · rw [decide_eq_false (show ¬ sgn (.sg 69) = 67 by decide)]
        refine iteF ?_
        simp at hx
        refine ⟨_, rfl, t, _, _, _, rfl, rfl, SqT.of ht1, a0, rfl, _, rfl, ?_⟩
        rw [show (Str.ofString "R") = txt [82] from sR, decT, decide_eq_false (show ¬ sgn (.sg 69) = 82 by decide)]
        refine iteF ?_
        refine ⟨_, rfl, t, _, _, _, rfl, rfl, SqT.of ht1, a0, rfl, _, rfl, ?_⟩
        rw [show (Str.ofString "L") = txt [76] from sL, decT, decide_eq_false (show ¬ sgn (.sg 69) = 76 by decide)]
        refine iteF ?_
        refine ⟨_, rfl, t, _, _, _, rfl, rfl, SqT.of ht1, a0, rfl, _, rfl, ?_⟩
        rw [show (Str.ofString "E") = txt [69] from sE, decT, decide_eq_true (show sgn (.sg 69) = 69 from rfl)]
        refine iteT ?_
        have h2 := hx.2
        rw [hx.1] at h2
        exact ⟨_, rfl, _, rfl, p1, L, va, ah, loop, x, rfl, T, hx.1, h2, fin⟩
    | sp j k =>
      rw [decide_eq_false (show ¬ sgn (.sp j k) = 67 by simp [sgn])]
      refine iteF ?_
      refine ⟨_, rfl, t, _, _, _, rfl, rfl, SqT.of ht1, a0, rfl, _, rfl, ?_⟩
      rw [show (Str.ofString "R") = txt [82] from sR, decT, decide_eq_false (show ¬ sgn (.sp j k) = 82 by simp [sgn])]
      refine iteF ?_
      refine ⟨_, rfl, t, _, _, _, rfl, rfl, SqT.of ht1, a0, rfl, _, rfl, ?_⟩
      rw [show (Str.ofString "L") = txt [76] from sL, decT, decide_eq_false (show ¬ sgn (.sp j k) = 76 by simp [sgn])]
      refine iteF ?_
      refine ⟨_, rfl, t, _, _, _, rfl, rfl, SqT.of ht1, a0, rfl, _, rfl, ?_⟩
      rw [show (Str.ofString "E") = txt [69] from sE, decT, decide_eq_false (show ¬ sgn (.sp j k) = 69 by simp [sgn])]
      refine iteF ?_
      refine ⟨_, rfl, t, _, rfl, SqT.of ht1, rfl, _, _, rfl, _, _, rfl, _, _, rfl, rfl, ?_⟩
      refine ⟨_, rfl, rfl, _, rfl, ?_⟩
      rw [decI]
      simp only [thirdOf] at hx
      by_cases hj : j = 0
      · subst hj
        rw [decide_eq_true (show ((0 : Nat) : Int) = 0 from rfl)]
        refine iteT ?_
        rw [if_pos rfl] at hx
        by_cases hk : 2 < k ∧ k + 1 < loop.length
        · rw [if_pos hk] at hx
          exact ⟨_, rfl, _, rfl, _, rfl, p1, L, va, ah, loop, k, x, rfl, T, hk.1, hk.2, hx, fin⟩
        · rw [if_neg hk] at hx; cases hx
      · rw [decide_eq_false (by omega)]
        refine iteF ?_
        rw [if_neg hj] at hx
        by_cases hk : j ≤ ah.length
        · rw [if_pos hk] at hx
          refine ⟨_, rfl, _, rfl, _, rfl, _, rfl, p1, L, va, ah, loop, j, k, x, rfl, T, by omega, hk, fun l hl => hy l (List.mem_append_left _ hl), hx, ?_⟩
          have e : stepOf ah loop (.sp j k) x = ah.eraseIdx (ah.length - j) ++ [loop.take 1 ++ (ah.getD (ah.length - j) []).drop k ++ (ah.getD (ah.length - j) []).take k ++ x :: loop.drop 1] := by
            unfold stepOf
            dsimp only
            rw [if_neg hj]
          rw [e] at fin
          exact fin
        · rw [if_neg hk] at hx; cases hx
end
end K31
end
section
set_option Elab.async false
set_option linter.all false
set_option maxRecDepth 100000
set_option maxHeartbeats 4000000
namespace K31
open PySem L2 K51
structure KitF (K : PySem.W.Frag) : Prop where
  t : PySem.W.kitOne K (.type "tuple") (.type "tuple") = some true
  s : PySem.W.kitOne K (.type "str") (.type "str") = some true
  i : PySem.W.kitOne K (.type "int") (.type "int") = some true
  b : PySem.W.kitOne K (.type "int") (.type "bool") = some false
def spIsLetter : Sp := fun vs H Q _ => ∃ (t : Addr) (a : Lt), vs = [.ref t] ∧ H t = some (.tup (ltV a)) ∧ Lets a ∧ ∀ H', Same H H' → Q (.bl true) H'
theorem inV_crle (c : Nat) : inV (.str (txt [c])) [.str (txt [67]), .str (txt [82]), .str (txt [76]), .str (txt [69])] = (decide (c = 67 ∨ c = 82 ∨ c = 76 ∨ c = 69)) := by
  have e : ∀ d : Nat, (txt [d] == txt [c]) = decide (c = d) := fun d => by
    rw [Bool.eq_iff_iff, beq_iff_eq, decide_eq_true_eq]
    constructor
    · intro h; have := txt_inj h; simpa using this.symm
    · rintro rfl; rfl
  unfold inV
  simp only [List.any_cons, List.any_nil, eqV, e, Bool.or_false]
  rw [Bool.eq_iff_iff]
  simp
section
variable {P : Program} {w : World} {K : PySem.W.Frag} {mg : Str → Option Value} {base : Heap}
theorem scWhole : FnScope ["thing"] ["thing"] (defScope sWhole) := ⟨rfl, rfl, rfl, by decide +kernel, rfl, by decide +kernel, by decide +kernel⟩
theorem scIsLetter : FnScope ["thing"] ["thing"] (defScope sIsLetter) := ⟨rfl, rfl, rfl, by decide +kernel, rfl, by decide +kernel, by decide +kernel⟩
end
end K31
end
section
set_option Elab.async false
set_option linter.all false
set_option maxRecDepth 100000
set_option maxHeartbeats 4000000
namespace K31
open PySem L2 K51
theorem wr_of {H H1 : Hp} {p : Addr} {o : HO} (e : upd H p o = H1) : ∀ b, b ≠ p → H1 b = H b := fun b hb => by rw [← e, upd_ne hb]
def ky (p q : Nat) : List Key := [Sum.inl (p : Int), Sum.inl (q : Int)]
theorem ky_inj {p q p' q' : Nat} : ky p q = ky p' q' ↔ (p, q) = (p', q') := by
  unfold ky
  constructor
  · intro h
    injection h with h1 h2
    injection h2 with h2 _
    injection h1 with h1
    injection h2 with h2
    have : p = p' := by omega
    have : q = q' := by omega
    simp [*]
  · intro h
    injection h with h1 h2
    rw [h1, h2]
def Keys (kvs : List (List Key × V)) (W : Side → Bool) : Prop := ∀ p q : Nat, (valV kvs (ky p q)).isSome = W (p, q)
theorem Keys.nil : Keys [] fun _ => false := fun _ _ => rfl
theorem Keys.congr {kvs : List (List Key × V)} {W W' : Side → Bool} (h : Keys kvs W) (e : ∀ s, W s = W' s) : Keys kvs W' := fun p q => by rw [h p q, e]
theorem Keys.put {kvs : List (List Key × V)} {W : Side → Bool} (h : Keys kvs W) (a b : Nat) (v : V) : Keys (putK kvs (ky a b) v) fun s => W s || decide (s = (a, b)) := fun p q => by
  show _ = (W (p, q) || decide ((p, q) = (a, b)))
  rw [valV_put]
  by_cases e : ky p q = ky a b
  · rw [if_pos e, decide_eq_true (ky_inj.mp e)]; simp
  · rw [if_neg e, decide_eq_false fun z => e (ky_inj.mpr z), h p q, Bool.or_false]
theorem valV_drop {κ : Type} [DecidableEq κ] (k j : κ) : ∀ kvs : List (κ × V), valV (dropK kvs k) j = if j = k then none else valV kvs j
  | [] => by simp [dropK, valV]
  | x :: r => by
    by_cases e : x.1 = k
    · rw [dropK_pos e, valV_drop k j r]
      by_cases ej : j = k
      · rw [if_pos ej, if_pos ej]
      · rw [if_neg ej, if_neg ej, valV_neg (fun z => ej (z.symm.trans e))]
    · rw [dropK_neg e]
      by_cases ex : x.1 = j
      · rw [valV_pos ex, valV_pos ex, if_neg fun z => e (ex.trans z)]
      · rw [valV_neg ex, valV_neg ex, valV_drop k j r]
theorem Keys.drop {kvs : List (List Key × V)} {W : Side → Bool} (h : Keys kvs W) (a b : Nat) : Keys (dropK kvs (ky a b)) fun s => W s && decide (s ≠ (a, b)) := fun p q => by
  show _ = (W (p, q) && decide ((p, q) ≠ (a, b)))
  rw [valV_drop]
  by_cases e : ky p q = ky a b
  · rw [if_pos e, decide_eq_false (show ¬ (p, q) ≠ (a, b) from fun z => z (ky_inj.mp e))]; simp
  · rw [if_neg e, decide_eq_true (show (p, q) ≠ (a, b) from fun z => e (ky_inj.mpr z)), h p q, Bool.and_true]
theorem tk_pos {W : Side → Bool} {p q : Nat} (h : W (p, q) = true) (s : Side) : tk W p q s = (W s && decide (s ≠ (p, q))) := by unfold tk; rw [if_pos h]
theorem tk_neg {W : Side → Bool} {p q : Nat} (h : W (p, q) = false) (s : Side) : tk W p q s = (W s || decide (s = (q, p))) := by unfold tk; rw [if_neg (by rw [h]; decide)]
def SdAt (H : Hp) (v : V) (s : Side) : Prop := ∃ a, v = .ref a ∧ H a = some (.tup ((ky s.1 s.2).map kV))
abbrev SdsAt (H : Hp) : List V → List Side → Prop := Paired (SdAt H)
def flds (R M D W : Addr) (n : Nat) : List (Str × V) := [("rows", .ref R), ("made", .ref M), ("many", .int (n : Int)), ("stood", .ref D), ("wants", .ref W)]
structure FCls (K : PySem.W.Frag) (C : Addr) : Prop where
  cl : Cls K C
  rows : NoAttr K C "rows"
  made : NoAttr K C "made"
  many : NoAttr K C "many"
  stood : NoAttr K C "stood"
  wants : NoAttr K C "wants"
def But2 (D W : Addr) (H H' : Hp) : Prop := ∀ b o, b ≠ D → b ≠ W → H b = some o → H' b = some o
def spTake (C : Addr) : Sp := fun vs H Q _ => ∃ (F Z R M D W dx : Addr) (n : Nat) (kd kw : List (List Key × V)) (d0 w0 : Side → Bool) (zs : List V) (ss : List Side), vs = [.ref F, .ref Z] ∧ H F = some (.ins C dx (flds R M D W n)) ∧ D ≠ W ∧
  H D = some (.dT kd) ∧ Keys kd d0 ∧ kd.length ≤ 2000 ∧ H W = some (.dT kw) ∧ Keys kw w0 ∧ kw.length ≤ 2000 ∧ H Z = some (.lst zs) ∧ SdsAt H zs ss ∧ ss.length ≤ 100 ∧
  ∀ H' kd' kw', But2 D W H H' → H' D = some (.dT kd') → Keys kd' (ss.foldl (fun d s => fun s' => d s' || decide (s' = s)) d0) → kd'.length ≤ kd.length + ss.length → H' W = some (.dT kw') → Keys kw' (ss.foldl (fun w s => tk w s.1 s.2) w0) → kw'.length ≤ kw.length + ss.length → Q .non H'
section
variable {P : Program} {w : World} {K : PySem.W.Frag} {mg : Str → Option Value} {base : Heap}
theorem scTake : FnScope ["self", "sides", "p", "q"] ["self", "sides"] (defScope sTake) := ⟨rfl, rfl, rfl, by decide +kernel, rfl, by decide +kernel, by decide +kernel⟩
theorem ok_take {f C : Addr} {fd : FuncData} (U : Fun K "take_sides" "Front.take_sides" sTake f fd) (X : FCls K C) : FnOk P w K mg base CX0 1 f fd ["self", "sides"] (spTake C) := by
  refine U.ok scTake (fun vs H Q E h => ?_) (fun cdv A outer s H vs Q E hr h => ?_)
  · obtain ⟨F, Z, R, M, D, W, dx, n, kd, kw, d0, w0, zs, ss, rfl, _⟩ := h
    rfl
  · obtain ⟨F, Z, R, M, D, W, dx, n, kd, kw, d0, w0, zs, ss, rfl, hF, hDW, hD, hkd, hld, hW, hkw, hlw, hZ, hzs, hss, q⟩ := h
    have hu := hu_of hr
    have hu3 : A.units + 3 + 3 < cLine := by have := hr.units; show _ < _; first | exact Nat.lt_of_le_of_lt (by show _ ≤ A.units + 3 + 64; omega) this | omega
    refine ⟨_, pss_one (ps_for PassesOwn.never rfl (pi_list (pv 1)) (pg_tup rfl (pgs_cons (pg_name (i := 2) scTake.nd rfl (Or.inl rfl)) (pgs_cons (pg_name (i := 3) scTake.nd rfl (Or.inl rfl)) pgs_nil)))
      (pss_cons (ps_dput hu (pe_fld (pv 0) rfl) (pe_tup (pa_cons (pv 2) (pa_cons (pv 3) pa_nil))) pe_bl rfl)
      (pss_one (ps_if (pt_cmp (pc_din hu (pe_tup (pa_cons (pv 2) (pa_cons (pv 3) pa_nil))) (pe_fld (pv 0) rfl)))
        (pss_one (ps_expr (pe_dpopT hu3 (pe_fld (pv 0) rfl) (pe_tup (pa_cons (pv 2) (pa_cons (pv 3) pa_nil))) ⟨rfl, rfl, rfl, rfl⟩)))
        (pss_one (ps_dput hu (pe_fld (pv 0) rfl) (pe_tup (pa_cons (pv 3) (pa_cons (pv 2) pa_nil))) pe_bl rfl)))))), ?_⟩
    have hline := line5000
    have hlen := pr_len hzs
    have nZD : Z ≠ D := ne_of hZ hD (by intro z; cases z)
    have nZW : Z ≠ W := ne_of hZ hW (by intro z; cases z)
    have nFD : F ≠ D := ne_of hF hD (by intro z; cases z)
    have nFW : F ≠ W := ne_of hF hW (by intro z; cases z)
    refine ⟨_, rfl, Z, rfl, ⟨_, SqL.of hZ⟩, for_list (K := K) (a := Z) (xs := zs) (fun i σ H2 => ∃ v2 v3 kd' kw', σ = [some (.ref F), some (.ref Z), v2, v3] ∧ But2 D W H H2 ∧ H2 D = some (.dT kd') ∧ Keys kd' ((ss.take i).foldl (fun d s => fun s' => d s' || decide (s' = s)) d0) ∧ kd'.length ≤ kd.length + i ∧
      H2 W = some (.dT kw') ∧ Keys kw' ((ss.take i).foldl (fun w s => tk w s.1 s.2) w0) ∧ kw'.length ≤ kw.length + i)
      ⟨none, none, kd, kw, rfl, fun _ _ _ _ z => z, hD, hkd, by omega, hW, hkw, by omega⟩ (fun i σ H2 _ ⟨_, _, _, _, _, b, _⟩ => SqL.of (b Z _ nZD nZW hZ)) ?_ ?_⟩
    · rintro i x σ H2 hi ⟨v2, v3, kd', kw', rfl, hb, hD2, hk2, hl2, hW2, hm2, hn2⟩
      obtain ⟨⟨p, r⟩, hs, a, rfl, ha⟩ := pr_get' hzs hi
      have hil : i < ss.length := (List.getElem?_eq_some_iff.mp hs).1
      have ha2 := hb a _ (ne_of ha hD (by intro z; cases z)) (ne_of ha hW (by intro z; cases z)) ha
      have hF2 := hb F _ nFD nFW hF
      have et : ss.take (i + 1) = ss.take i ++ [(p, r)] := by rw [List.take_add_one, hs]; rfl
      refine ⟨a, _, rfl, SqT.of ha2, rfl, _, _, rfl, _, _, rfl, rfl, ?_⟩
      refine ⟨_, rfl, F, C, dx, _, _, rfl, hF2, X.cl, X.stood, rfl, _, rfl, _, rfl, lit2, fun t1 g1 => ?_⟩
      (generalize hNX : upd H2 t1 _ = H3; have s3 := same_of g1 hNX; have y3 := at_of hNX; clear hNX)
      refine ⟨D, _, rfl, DPut.t (k := ky p r) (s3 _ _ hD2) y3 (by omega), ?_⟩
      (generalize hNX : upd H3 D _ = H4; have k4 := wr_of hNX; have y4 := at_of hNX; clear hNX)
      have f4 : H4 F = _ := (k4 F nFD).trans (s3 _ _ hF2)
      have w4 : H4 W = _ := (k4 W (Ne.symm hDW)).trans (s3 _ _ hW2)
      refine ⟨_, rfl, _, rfl, lit2, fun t2 g2 => ?_⟩
      (generalize hNX : upd H4 t2 _ = H5; have s5 := same_of g2 hNX; have y5 := at_of hNX; clear hNX)
      refine ⟨_, rfl, F, C, dx, _, _, rfl, s5 _ _ f4, X.cl, X.wants, rfl, W, _, rfl, DGet.t (k := ky p r) (s5 _ _ w4) y5, _, rfl, ?_⟩
      have kk := hk2.put p r (V.bl true)
      have b5 : But2 D W H H5 := fun b o h1 h2 e => s5 _ _ ((k4 b h1).trans (s3 _ _ (hb b o h1 h2 e)))
      have lk := length_putK kd' (ky p r) (V.bl true)
      have hwk := hm2 p r
      refine ite2 (fun c => ?_) (fun c => ?_)
      · obtain ⟨v, hv⟩ := Option.isSome_iff_exists.mp c
        refine ⟨_, rfl, F, C, dx, _, _, rfl, s5 _ _ f4, X.cl, X.wants, rfl, W, rfl, .inr ⟨_, .inl (s5 _ _ w4)⟩, _, rfl, _, rfl, lit2, fun t3 g3 => ?_⟩
        (generalize hNX : upd H5 t3 _ = H6; have s6 := same_of g3 hNX; have y6 := at_of hNX; clear hNX)
        refine ⟨kw', ky p r, t3, v, rfl, s6 _ _ (s5 _ _ w4), y6, hv, ?_⟩
        (generalize hNX : upd H6 W _ = H7; have k7 := wr_of hNX; have y7 := at_of hNX; clear hNX)
        refine ⟨_, _, _, _, rfl, fun b o h1 h2 e => (k7 b h2).trans (s6 _ _ (b5 b o h1 h2 e)), (k7 D hDW).trans (s6 _ _ (s5 _ _ y4)), ?_, by omega, y7, ?_, ?_⟩
        · rw [et, List.foldl_append]; exact kk
        · rw [et, List.foldl_append]
          refine (hm2.drop p r).congr fun s => ?_
          exact (tk_pos (hwk.symm.trans c) s).symm
        · have := dropK_le kw' (ky p r); omega
      · have c' : (valV kw' (ky p r)).isSome = false := by simpa using c
        refine ⟨_, rfl, F, C, dx, _, _, rfl, s5 _ _ f4, X.cl, X.wants, rfl, _, rfl, _, rfl, lit2, fun t3 g3 => ?_⟩
        (generalize hNX : upd H5 t3 _ = H6; have s6 := same_of g3 hNX; have y6 := at_of hNX; clear hNX)
        refine ⟨W, _, rfl, DPut.t (k := ky r p) (s6 _ _ (s5 _ _ w4)) y6 (by omega), ?_⟩
        (generalize hNX : upd H6 W _ = H7; have k7 := wr_of hNX; have y7 := at_of hNX; clear hNX)
        have lw := length_putK kw' (ky r p) (V.bl true)
        refine ⟨_, _, _, _, rfl, fun b o h1 h2 e => (k7 b h2).trans (s6 _ _ (b5 b o h1 h2 e)), (k7 D hDW).trans (s6 _ _ (s5 _ _ y4)), ?_, by omega, y7, ?_, by omega⟩
        · rw [et, List.foldl_append]; exact kk
        · rw [et, List.foldl_append]
          refine (hm2.put r p (V.bl true)).congr fun s => ?_
          exact (tk_neg (hwk.symm.trans c') s).symm
    · rintro σ H2 ⟨v2, v3, kd', kw', rfl, hb, hD2, hk2, hl2, hW2, hm2, hn2⟩
      rw [hlen, List.take_length] at hk2 hm2
      exact q H2 kd' kw' hb hD2 hk2 (by omega) hW2 hm2 (by omega)
end
end K31
end
section
set_option Elab.async false
set_option linter.all false
set_option maxRecDepth 100000
set_option maxHeartbeats 4000000
namespace K31
open PySem L2 K51
structure TxtM (mg : Str → Option Value) : Prop where
  any : mg "any" = none
  max : mg "max" = none
  min : mg "min" = none
  repr : mg "repr" = none
structure FAt (C : Addr) (H : Hp) (F R M D W dx : Addr) (vr vm : List V) (f : Fr) : Prop where
  o : H F = some (.ins C dx (flds R M D W f.n))
  r : H R = some (.lst vr)
  p : LpsAt H vr f.ls
  m : H M = some (.lst vm)
  t : TrsAt H vm f.ts
  d : ∃ kd, H D = some (.dT kd) ∧ Keys kd (fun s => decide (s ∈ tl f.ts)) ∧ kd.length ≤ 3 * f.ts.length
  w : ∃ kw, H W = some (.dT kw) ∧ Keys kw (fun s => decide (s ∈ wl f.ls)) ∧ kw.length ≤ 2 + 3 * f.ts.length
  dw : D ≠ W
theorem FAt.same {C : Addr} {H H' : Hp} {F R M D W dx : Addr} {vr vm : List V} {f : Fr} (h : FAt C H F R M D W dx vr vm f) (s : Same H H') : FAt C H' F R M D W dx vr vm f := by
  obtain ⟨kd, d1, d2⟩ := h.d
  obtain ⟨kw, w1, w2⟩ := h.w
  exact ⟨s _ _ h.o, s _ _ h.r, h.p.same s, s _ _ h.m, h.t.same s, ⟨kd, s _ _ d1, d2⟩, ⟨kw, s _ _ w1, w2⟩, h.dw⟩
theorem LpsAt.move {H H' : Hp} {ys : List V} {ls : Lps} (h : LpsAt H ys ls) (e : ∀ b o, V.ref b ∈ ys → H b = some o → H' b = some o) : LpsAt H' ys ls := by
  induction h with
  | nil => exact .nil
  | @cons a1 b1 a2 b2 h t ih =>
    obtain ⟨b, e1, e2⟩ := h
    exact .cons ⟨b, e1, e b _ (by rw [e1]; simp) e2⟩ (ih fun b o hb => e b o (List.mem_cons_of_mem _ hb))
theorem TrsAt.move {H H' : Hp} {ys : List V} {ls : List (Nat × Nat × Nat)} (h : TrsAt H ys ls) (e : ∀ b o, V.ref b ∈ ys → H b = some o → H' b = some o) : TrsAt H' ys ls := by
  induction h with
  | nil => exact .nil
  | @cons a1 b1 a2 b2 h t ih =>
    obtain ⟨b, e1, e2⟩ := h
    exact .cons ⟨b, e1, e b _ (by rw [e1]; simp) e2⟩ (ih fun b o hb => e b o (List.mem_cons_of_mem _ hb))
def rLO (K : PySem.W.Frag) : List V → Hp → VK → Prop := fun xs H Q => ∃ p ys, xs = [.ref p] ∧ (SqL K H p ys ∨ SqT K H p ys) ∧ ∀ l, H l = none → Q (.ref l) (upd H l (.lst ys))
def spGate (C : Addr) : Sp := fun vs H Q _ => ∃ (F R M D W dx : Addr) (vr vm : List V) (f : Fr), vs = [.ref F] ∧ FAt C H F R M D W dx vr vm f ∧ Ok f ∧
  (f.ls = [] → Q .non H) ∧ ∀ ah loop, f.ls = ah ++ [loop] → ∀ t H', H t = none → Same H H' → H' t = some (.tup [.int (g1 loop : Int), .int (g2 loop : Int)]) → Q (.ref t) H'
def spCome (C : Addr) : Sp := fun vs H Q _ => ∃ (F R M D W dx : Addr) (vr vm : List V) (f : Fr), vs = [.ref F] ∧ FAt C H F R M D W dx vr vm f ∧ Q (.int (f.n : Int)) H
def spTriples (C : Addr) : Sp := fun vs H Q _ => ∃ (F R M D W dx : Addr) (vr vm : List V) (f : Fr), vs = [.ref F] ∧ FAt C H F R M D W dx vr vm f ∧ ∀ l H', H l = none → Same H H' → H' l = some (.lst vm) → Q (.ref l) H'
def spLoops (C : Addr) : Sp := fun vs H Q _ => ∃ (F R M D W dx : Addr) (vr vm : List V) (f : Fr), vs = [.ref F] ∧ FAt C H F R M D W dx vr vm f ∧ vr.length ≤ 1000 ∧ ∀ Z zs H', H Z = none → Same H H' → H' Z = some (.lst zs) → LpsAt H' zs f.ls → (∀ v ∈ zs, ∃ b, v = .ref b ∧ H b = none ∧ b ≠ Z) → Q (.ref Z) H'
def spKnown (C : Addr) : Sp := fun vs H Q _ => ∃ (F R M D W dx : Addr) (vr vm : List V) (f : Fr) (p q : Nat), vs = [.ref F, .int (p : Int), .int (q : Int)] ∧ FAt C H F R M D W dx vr vm f ∧
  ∀ H', Same H H' → Q (.bl ([(p, q), (q, p)].any fun s => decide (s ∈ tl f.ts) || decide (s ∈ wl f.ls))) H'
theorem get_g1 {l : List Nat} (h : 2 ≤ l.length) : l[0]? = some (g1 l) ∧ l[1]? = some (g2 l) := by
  obtain ⟨t, e⟩ := two h
  rw [e]
  exact ⟨rfl, rfl⟩
section
variable {P : Program} {w : World} {K : PySem.W.Frag} {mg : Str → Option Value} {base : Heap}
theorem scGate : FnScope ["self", "loop"] ["self"] (defScope sGate) := ⟨rfl, rfl, rfl, by decide +kernel, rfl, by decide +kernel, by decide +kernel⟩
theorem ok_gate {f C : Addr} {fd : FuncData} (U : Fun K "gate" "Front.gate" sGate f fd) (X : FCls K C) : FnOk P w K mg base CX0 1 f fd ["self"] (spGate C) := by
  refine U.ok scGate (fun vs H Q E h => ?_) (fun cdv A outer s H vs Q E hr h => ?_)
  · obtain ⟨F, R, M, D, W, dx, vr, vm, g, rfl, _⟩ := h
    rfl
  · obtain ⟨F, R, M, D, W, dx, vr, vm, g, rfl, T, ok, q1, q2⟩ := h
    refine ⟨_, pss_cons (ps_if (pt_not (pt_truth (pe_fld (pv 0) rfl) (fun _ => rfl))) (pss_one (ps_ret pe_non)) pss_nil)
      (pss_cons (ps_set (i := 1) scGate.nd rfl (Or.inl rfl) (pe_ix ix_list (pe_fld (pv 0) rfl) (pe_un un_neg pe_int) (fun _ _ => rfl)))
      (pss_one (ps_ret (pe_tup (pa_cons (pe_ix ix_list (pv 1) pe_int (fun _ _ => rfl)) (pa_cons (pe_ix ix_list (pv 1) pe_int (fun _ _ => rfl)) pa_nil)))))), ?_⟩
    have hl := pr_len T.p
    refine ⟨_, rfl, F, C, dx, _, _, rfl, T.o, X.cl, X.rows, rfl, _, .inl ⟨_, SqL.of T.r, rfl⟩, ?_⟩
    rcases List.eq_nil_or_concat g.ls with e | ⟨ah, loop, e⟩
    · rw [e] at hl
      cases vr with
      | cons _ _ => cases hl
      | nil => exact iteT (q1 e)
    · rw [List.concat_eq_append] at e
      have hp := T.p
      rw [e] at hp
      obtain ⟨va, v, ev, hpa, L, rfl, hL⟩ := pr_snoc hp
      have e2 : (!(vr).isEmpty) = true := by rw [ev]; simp
      rw [e2]
      refine iteF ?_
      have hg := get_g1 (ok.two loop (by rw [e]; simp))
      refine ⟨_, rfl, F, C, dx, _, _, rfl, T.o, X.cl, X.rows, rfl, _, rfl, R, _, _, _, rfl, rfl, SqL.of T.r, atI_m1 (x := V.ref L) (by rw [ev]; simp), ?_⟩
      refine ⟨_, rfl, L, _, _, _, rfl, rfl, SqL.of hL, atI_nat (j := 0) (nV_get hg.1), _, rfl, L, _, _, _, rfl, rfl, SqL.of hL, atI_nat (j := 1) (nV_get hg.2), lit2, fun t ht => ?_⟩
      exact q2 ah loop e t _ ht (same_upd ht) upd_same
theorem scCome : FnScope ["self"] ["self"] (defScope sCome) := ⟨rfl, rfl, rfl, by decide +kernel, rfl, by decide +kernel, by decide +kernel⟩
theorem ok_come {f C : Addr} {fd : FuncData} (U : Fun K "come" "Front.come" sCome f fd) (X : FCls K C) : FnOk P w K mg base CX0 1 f fd ["self"] (spCome C) := by
  refine U.ok scCome (fun vs H Q E h => ?_) (fun cdv A outer s H vs Q E hr h => ?_)
  · obtain ⟨F, R, M, D, W, dx, vr, vm, g, rfl, _⟩ := h
    rfl
  · obtain ⟨F, R, M, D, W, dx, vr, vm, g, rfl, T, q⟩ := h
    refine ⟨_, pss_one (ps_ret (pe_fld (pv 0) rfl)), ?_⟩
    exact ⟨_, rfl, F, C, dx, _, _, rfl, T.o, X.cl, X.many, rfl, q⟩
theorem scTriples : FnScope ["self"] ["self"] (defScope sTriples) := ⟨rfl, rfl, rfl, by decide +kernel, rfl, by decide +kernel, by decide +kernel⟩
theorem ok_triples {f C : Addr} {fd : FuncData} (U : Fun K "triples" "Front.triples" sTriples f fd) (X : FCls K C) (T' : TxtN mg) : FnOk P w K mg base CX0 1 f fd ["self"] (spTriples C) := by
  refine U.ok scTriples (fun vs H Q E h => ?_) (fun cdv A outer s H vs Q E hr h => ?_)
  · obtain ⟨F, R, M, D, W, dx, vr, vm, g, rfl, _⟩ := h
    rfl
  · obtain ⟨F, R, M, D, W, dx, vr, vm, g, rfl, T, q⟩ := h
    refine ⟨_, pss_one (ps_ret (pe_callTy call_list_of (by rfl) T'.list PyProof.Rows.boot_list (pa_cons (pe_fld (pv 0) rfl) pa_nil))), ?_⟩
    exact ⟨_, rfl, F, C, dx, _, _, rfl, T.o, X.cl, X.made, rfl, M, _, rfl, .inl (SqL.of T.m), fun l hl => q l _ hl (same_upd hl) upd_same⟩
theorem scLoops : FnScope ["self"] ["self"] (defScope sLoops) := ⟨rfl, rfl, rfl, by decide +kernel, rfl, by decide +kernel, by decide +kernel⟩
theorem ok_loops {f C : Addr} {fd : FuncData} (U : Fun K "loops" "Front.loops" sLoops f fd) (X : FCls K C) (T' : TxtN mg) : FnOk P w K mg base CX0 1 f fd ["self"] (spLoops C) := by
  refine U.ok scLoops (fun vs H Q E h => ?_) (fun cdv A outer s H vs Q E hr h => ?_)
  · obtain ⟨F, R, M, D, W, dx, vr, vm, g, rfl, _⟩ := h
    rfl
  · obtain ⟨F, R, M, D, W, dx, vr, vm, g, rfl, T, hz, q⟩ := h
    refine ⟨_, pss_one (ps_ret (pe_comp (N := ["loop"]) (fr := [none]) (compScope0 (by decide +kernel) rfl (by decide +kernel) (by decide +kernel)) rfl (pi_list (pe_fld (pv 0) rfl))
      (fun C' s' H' fp pins => ⟨pg_name (i := 0) (show (["loop"] : List Str).Nodup by decide +kernel) rfl (Or.inl rfl) (.inr rfl), pif_nil, pe_callTy (show CallR _ (.type "list") (rLO K) from call_list_of) (by rfl) T'.list PyProof.Rows.boot_list (pa_cons (pv 0) pa_nil)⟩))), ?_⟩
    have hline := line5000
    have hlen := pr_len T.p
    refine ⟨_, rfl, F, C, dx, _, _, rfl, T.o, X.cl, X.rows, rfl, R, rfl, ⟨_, SqL.of T.r⟩, fun Z hZ => comp_list (K := K) (a := R) (xs := vr) (fun i σ ys H' => ∃ o, σ = [o] ∧ Same H H' ∧ H' Z = some (.lst ys) ∧ LpsAt H' ys (g.ls.take i) ∧ (∀ v ∈ ys, ∃ b, v = .ref b ∧ H b = none ∧ b ≠ Z) ∧ ys.length = i)
      ⟨none, rfl, same_upd hZ, upd_same, by rw [List.take_zero]; exact .nil, by simp, rfl⟩ (fun i σ ys H' _ ⟨_, _, e, _⟩ => SqL.of (e _ _ T.r)) ?_ ?_⟩
    · rintro i x σ ys H' hi ⟨o, rfl, sm, hz', hp', hf', hl'⟩
      obtain ⟨l, hl, b, rfl, hb⟩ := pr_get' T.p hi
      have hil := (List.getElem?_eq_some_iff.mp hi).1
      refine ⟨_, rfl, b, _, rfl, .inl (SqL.of (sm _ _ hb)), fun c hc => ?_⟩
      have hcZ : c ≠ Z := fun z => by rw [z, hz'] at hc; cases hc
      have hcn : H c = none := sm.free hc
      (generalize hNX : upd H' c _ = H2; have s2 := same_of hc hNX; have y2 := at_of hNX; clear hNX)
      refine ⟨s2 _ _ hz', by omega, ?_⟩
      (generalize hNX : upd H2 Z _ = H3; have k3 := wr_of hNX; have y3 := at_of hNX; clear hNX)
      have bz : ∀ b o, b ≠ Z → H' b = some o → H3 b = some o := fun b o nb e => (k3 b nb).trans (s2 _ _ e)
      refine ⟨_, rfl, fun b o e => bz b o (ne_of_none e hZ) (sm _ _ e), y3, ?_, ?_, by rw [List.length_append, hl']; rfl⟩
      · rw [List.take_add_one, hl]
        refine pr_app (LpsAt.move hp' fun b o hb e => ?_) (.cons ⟨c, rfl, (k3 c hcZ).trans y2⟩ .nil)
        obtain ⟨b', e3, _, e5⟩ := hf' _ hb
        cases e3
        exact bz b o e5 e
      · intro v hv
        rcases List.mem_append.mp hv with z | z
        · exact hf' v z
        · exact ⟨c, by simpa using z, hcn, hcZ⟩
    · rintro σ ys H' ⟨o, rfl, sm, hz', hp', hf', hl'⟩
      rw [hlen, List.take_length] at hp'
      exact q Z ys H' hZ sm hz' hp' hf'
end
end K31
end
section
set_option Elab.async false
set_option linter.all false
set_option maxRecDepth 100000
set_option maxHeartbeats 4000000
namespace K31
open PySem L2 K51
theorem compScopeF {X : Cx} {N : List Str} {fr : List (Option Nat)} {scope : Scope} (nd : N.Nodup) (len : fr.length = N.length) (kind : scope.kind = .function) (nc : scope.names.all (fun y => y.2 != .cell) = true)
    (nm : scope.names.all (fun y => y.2 != .local || scope.names.lookup y.1 == some .local) = true)
    (frc : ∀ y ∈ scope.names, y.2 = .free → X.env.kindOf y.1 = some .cell ∨ X.env.kindOf y.1 = some .free)
    (frn : ∀ (j i : Nat) (x : Str), fr[j]? = some (some i) → N[j]? = some x → X.N[i]? = some x ∧ scope.names.lookup x = some .free) : CompScope X N fr scope := by
  refine ⟨nd, len, kind, fun y hy => ?_, fun y hy e => ?_, frc, frn⟩
  · have := List.all_eq_true.mp nc y hy
    simpa using this
  · have := List.all_eq_true.mp nm y hy
    rw [e] at this
    simpa using this
section
variable {P : Program} {w : World} {K : PySem.W.Frag} {mg : Str → Option Value} {base : Heap}
theorem scKnown : FnScope ["self", "p", "q"] ["self", "p", "q"] (defScope sKnown) := ⟨rfl, rfl, rfl, by decide +kernel, rfl, by decide +kernel, by decide +kernel⟩
theorem ok_known {f C : Addr} {fd : FuncData} (U : Fun K "is_known" "Front.is_known" sKnown f fd) (X : FCls K C) (T' : TxtM mg) : FnOk P w K mg base CX0 1 f fd ["self", "p", "q"] (spKnown C) := by
  refine U.ok scKnown (fun vs H Q E h => ?_) (fun cdv A outer s H vs Q E hr h => ?_)
  · obtain ⟨F, R, M, D, W, dx, vr, vm, g, p, q, rfl, _⟩ := h
    rfl
  · obtain ⟨F, R, M, D, W, dx, vr, vm, g, a, b, rfl, T, q⟩ := h
    have hu := hu_of hr
    refine ⟨_, pss_one (ps_ret (pe_callB (call_any_list rfl) (by rfl) T'.any PyProof.Rows.boot_any (pa_cons (pe_comp (N := ["side", "self"]) (fr := [none, some 0]) (compScopeF (by decide +kernel) rfl rfl (by decide +kernel) (by decide +kernel) (by
            intro y hy e
            simp only [List.mem_cons, List.not_mem_nil, or_false] at hy
            rcases hy with rfl | rfl | rfl
            · cases e
            · cases e
            · exact .inl rfl) (by
            intro j i y e1 e2
            match j, e1, e2 with
            | 0, e1, _ => simp at e1
            | 1, e1, e2 => simp at e1 e2; subst e1 e2; exact ⟨rfl, rfl⟩
            | j + 2, e1, _ => simp at e1)) rfl (pi_list (pe_lst (pa_cons (pe_tup (pa_cons (pv 1) (pa_cons (pv 2) pa_nil))) (pa_cons (pe_tup (pa_cons (pv 2) (pa_cons (pv 1) pa_nil))) pa_nil))))
          (fun C' s' H' fp pins => ⟨pg_name (i := 0) (show (["side", "self"] : List Str).Nodup by decide +kernel) rfl (Or.inl rfl) (.inr rfl), pif_nil,
            pe_or (pe_cmp (pc_din hu (pv 0) (show PE _ _ (tFld K (tVar 1) "stood") from pe_fld (pv 1) rfl))) (pe_one (pe_cmp (pc_din hu (pv 0) (show PE _ _ (tFld K (tVar 1) "wants") from pe_fld (pv 1) rfl))))⟩)) pa_nil))), ?_⟩
    have hline := line5000
    obtain ⟨kd, d1, d2, _⟩ := T.d
    obtain ⟨kw, w1, w2, _⟩ := T.w
    refine ⟨_, rfl, _, rfl, lit2, fun t1 h1 => ?_⟩
    (generalize hNX : upd H t1 _ = H1; have s1 := same_of h1 hNX; have y1 := at_of hNX; clear hNX)
    refine ⟨_, rfl, _, rfl, lit2, fun t2 h2 => ?_⟩
    (generalize hNX : upd H1 t2 _ = H2; have s2 := same_of h2 hNX; have y2 := at_of hNX; clear hNX)
    refine ⟨lit2, fun l h3 => ?_⟩
    (generalize hNX : upd H2 l _ = H3; have s3 := same_of h3 hNX; have y3 := at_of hNX; clear hNX)
    have t3 := (s1.trans s2).trans s3
    have z1 := s3 _ _ (s2 _ _ y1)
    have z2 := s3 _ _ y2
    refine ⟨l, rfl, ⟨_, SqL.of y3⟩, fun Z hZ => comp_list (K := K) (a := l) (xs := [.ref t1, .ref t2]) (fun i σ ys H' => ∃ o, σ = [o, some (.ref F)] ∧ ys = (([(a, b), (b, a)].take i).map fun s => decide (s ∈ tl g.ts) || decide (s ∈ wl g.ls)).map V.bl ∧ H' = upd H3 Z (.lst ys)) ⟨none, rfl, rfl, rfl⟩ (fun i σ ys H' _ ⟨_, _, _, e⟩ => by rw [e]; exact SqL.of (same_upd hZ _ _ y3)) ?_ ?_⟩
    · rintro i x σ ys H' hi ⟨o, rfl, rfl, rfl⟩
      have sZ := same_upd (o := .lst ((([(a, b), (b, a)].take i).map fun s => decide (s ∈ tl g.ts) || decide (s ∈ wl g.ls)).map V.bl)) hZ
      have key : ∃ p r t, x = .ref t ∧ H3 t = some (.tup ((ky p r).map kV)) ∧ [(a, b), (b, a)].take (i + 1) = [(a, b), (b, a)].take i ++ [(p, r)] := by
        match i, hi with
        | 0, hi => simp at hi; subst hi; exact ⟨a, b, t1, rfl, z1, rfl⟩
        | 1, hi => simp at hi; subst hi; exact ⟨b, a, t2, rfl, z2, rfl⟩
        | i + 2, hi => simp at hi
      obtain ⟨p, r, t, rfl, ht, et⟩ := key
      have hF := sZ _ _ (t3 _ _ T.o)
      refine ⟨_, rfl, _, rfl, F, C, dx, _, _, rfl, hF, X.cl, X.stood, rfl, D, _, rfl, DGet.t (k := ky p r) (sZ _ _ (t3 _ _ d1)) (sZ _ _ ht), _, rfl, ?_⟩
      rw [d2 p r]
      have le : ((([(a, b), (b, a)].take i).map fun s => decide (s ∈ tl g.ts) || decide (s ∈ wl g.ls)).map V.bl).length < sizeLine := by
        rw [List.length_map, List.length_map, List.length_take]
        show min i 2 < _
        omega
      have fin : ∀ c : Bool, c = (decide ((p, r) ∈ tl g.ts) || decide ((p, r) ∈ wl g.ls)) → (([(a, b), (b, a)].take i).map fun s => decide (s ∈ tl g.ts) || decide (s ∈ wl g.ls)).map V.bl ++ [V.bl c] = (([(a, b), (b, a)].take (i + 1)).map fun s => decide (s ∈ tl g.ts) || decide (s ∈ wl g.ls)).map V.bl := fun c hc => by
        rw [et, hc, List.map_append, List.map_append]; rfl
      refine ite2 (fun c => ?_) (fun c => ?_)
      · exact ⟨upd_same, le, _, rfl, fin true (by rw [show decide ((p, r) ∈ tl g.ts) = true from c]; rfl), by rw [upd_upd]⟩
      · have c' : decide ((p, r) ∈ tl g.ts) = false := by simpa using c
        refine ⟨_, rfl, _, rfl, F, C, dx, _, _, rfl, hF, X.cl, X.wants, rfl, W, _, rfl, DGet.t (k := ky p r) (sZ _ _ (t3 _ _ w1)) (sZ _ _ ht), ?_⟩
        rw [w2 p r]
        exact ⟨upd_same, le, _, rfl, fin _ (by rw [c', Bool.false_or]), by rw [upd_upd]⟩
    · rintro σ ys H' ⟨o, rfl, rfl, rfl⟩
      refine ⟨Z, [(a, b), (b, a)].map fun s => decide (s ∈ tl g.ts) || decide (s ∈ wl g.ls), rfl, SqL.of upd_same, ?_⟩
      rw [List.any_map]
      exact q _ (t3.trans (same_upd hZ))
structure UseM (P : Program) (w : World) (K : PySem.W.Frag) (mg : Str → Option Value) (base : Heap) (C : Addr) (n : Nat) (x : Str) (ps : List Str) (sp : Sp) (f : Addr) (fd : FuncData) : Prop where
  g : FnOk P w K mg base CX0 n f fd ps sp
  b : Binds K fd ps []
  m : Meth K C x f
def spLook (C : Addr) : Sp := fun vs H Q _ => ∃ (F R M D W dx : Addr) (vr vm : List V) (f : Fr) (ah : Lps) (loop : List Nat) (c x : Nat), vs = [.ref F, .str (txt [c]), .int (x : Int)] ∧ FAt C H F R M D W dx vr vm f ∧ Ok f ∧ f.ls = ah ++ [loop] ∧
  x ≠ g1 loop ∧ x ≠ g2 loop ∧ (∀ s ∈ asked c (g1 loop) (g2 loop) x, s ∉ wl f.ls ∧ s ∉ tl f.ts) ∧ ∀ H', Same H H' → Q .non H'
theorem inV_two (c d e : Nat) : inV (.str (txt [c])) [.str (txt [d]), .str (txt [e])] = (decide (c = d ∨ c = e)) := by
  have e : ∀ d : Nat, (txt [d] == txt [c]) = decide (c = d) := fun d => by
    rw [Bool.eq_iff_iff, beq_iff_eq, decide_eq_true_eq]
    constructor
    · intro h; have := txt_inj h; simpa using this.symm
    · rintro rfl; rfl
  unfold inV
  simp only [List.any_cons, List.any_nil, eqV, e, Bool.or_false]
  rw [Bool.eq_iff_iff]
  simp
theorem any_no {p q : Nat} {f : Fr} (h1 : (p, q) ∉ wl f.ls ∧ (p, q) ∉ tl f.ts) (h2 : (q, p) ∉ wl f.ls ∧ (q, p) ∉ tl f.ts) : ([(p, q), (q, p)].any fun s => decide (s ∈ tl f.ts) || decide (s ∈ wl f.ls)) = false := by
  simp [h1.1, h1.2, h2.1, h2.2]
theorem scLook : FnScope ["self", "sign", "x", "a", "b"] ["self", "sign", "x"] (defScope sLook) := ⟨rfl, rfl, rfl, by decide +kernel, rfl, by decide +kernel, by decide +kernel⟩
theorem ok_look {f f1 f2 C : Addr} {fd d1 d2 : FuncData} (U : Fun K "look_sides_through" "Front.look_sides_through" sLook f fd) (X : FCls K C) (G1 : UseM P w K mg base C 1 "gate" ["self"] (spGate C) f1 d1) (G2 : UseM P w K mg base C 1 "is_known" ["self", "p", "q"] (spKnown C) f2 d2) :
    FnOk P w K mg base CX0 2 f fd ["self", "sign", "x"] (spLook C) := by
  refine U.ok scLook (fun vs H Q E h => ?_) (fun cdv A outer s H vs Q E hr h => ?_)
  · obtain ⟨F, R, M, D, W, dx, vr, vm, g, ah, loop, c, x, rfl, _⟩ := h
    rfl
  · obtain ⟨F, R, M, D, W, dx, vr, vm, g, ah, loop, c, x, rfl, T, ok, el, hx1, hx2, hn, q⟩ := h
    refine ⟨_, pss_cons (ps_asg (pe_meth0 (pv 0) X.cl G1.m G1.g hr G1.b .nil pass0) (pg_tup rfl (pgs_cons (pg_name (i := 3) scLook.nd rfl (Or.inl rfl)) (pgs_cons (pg_name (i := 4) scLook.nd rfl (Or.inl rfl)) pgs_nil))))
      (pss_cons (ps_if (PW.pt (pw_or (pt_cmpR op_eq (pv 2) (pv 3) (nomark _)) (pw_or1 (pt_cmpR op_eq (pv 2) (pv 4) (nomark _))))) pss_never pss_nil)
      (pss_cons (ps_if (PW.pt (pw_and (pt_cmpR op_notIn_seq (pv 1) (pe_tup (pa_cons pe_str (pa_cons pe_str pa_nil))) rfl) (pw_and1 (pt_val (pe_meth (pv 0) X.cl G2.m G2.g hr G2.b .nil pass0 (pa_cons (pv 4) (pa_cons (pv 2) pa_nil))))))) pss_never pss_nil)
      (pss_one (ps_if (PW.pt (pw_and (pt_cmpR op_notIn_seq (pv 1) (pe_tup (pa_cons pe_str (pa_cons pe_str pa_nil))) rfl) (pw_and1 (pt_val (pe_meth (pv 0) X.cl G2.m G2.g hr G2.b .nil pass0 (pa_cons (pv 2) (pa_cons (pv 3) pa_nil))))))) pss_never pss_nil)))), ?_⟩
    obtain ⟨k1, k2⟩ := asked_mem (c := c) (a := g1 loop) (b := g2 loop) (x := x)
    refine ⟨_, rfl, F, dx, _, rfl, T.o, rfl, F, R, M, D, W, dx, vr, vm, g, rfl, T, ok, (fun z => by rw [z] at el; simp at el), fun ah' loop' el' t H1 ht s1 y1 => ?_⟩
    have : ah' = ah ∧ loop' = loop := by
      rw [el] at el'
      have := List.append_inj' el' rfl
      exact ⟨this.1.symm, by simpa using this.2.symm⟩
    obtain ⟨rfl, rfl⟩ := this
    refine ⟨t, _, rfl, SqT.of y1, rfl, _, _, rfl, _, _, rfl, rfl, ?_⟩
    refine ⟨_, rfl, _, rfl, rfl, _, rfl, ?_⟩
    rw [decI, decide_eq_false (by omega)]
    refine iteF ?_
    refine ⟨_, rfl, _, rfl, rfl, _, rfl, ?_⟩
    rw [decI, decide_eq_false (by omega)]
    refine iteF ?_
    refine ⟨_, rfl, lit2, fun t2 h2 => ?_⟩
    (generalize hNX : upd H1 t2 _ = H2; have s2 := same_of h2 hNX; have y2 := at_of hNX; clear hNX)
    refine ⟨t2, _, rfl, .inr (SqT.of y2), rfl, rfl, _, rfl, ?_⟩
    rw [show (Str.ofString "R") = txt [82] from sR, show (Str.ofString "E") = txt [69] from sE, if_pos rfl, inV_two]
    have T2 := (T.same s1).same s2
    by_cases h1 : c = 82 ∨ c = 69
    · rw [decide_eq_true h1]
      refine iteF (iteF ?_)
      have T3 := T2
      have t3 := s1.trans s2
      refine ⟨_, rfl, lit2, fun t4 h4 => ?_⟩
      (generalize hNX : upd H2 t4 _ = H4; have s4 := same_of h4 hNX; have y4 := at_of hNX; clear hNX)
      have T4 := T3.same s4
      refine ⟨t4, _, rfl, .inr (SqT.of y4), rfl, rfl, _, rfl, ?_⟩
      rw [show (Str.ofString "L") = txt [76] from sL, if_pos rfl, inV_two]
      by_cases h2 : c = 76 ∨ c = 69
      · rw [decide_eq_true h2]
        exact iteF (iteF (q _ (t3.trans s4)))
      · rw [decide_eq_false h2]
        refine iteT ?_
        refine ⟨_, rfl, F, dx, _, rfl, T4.o, rfl, _, rfl, _, rfl, F, R, M, D, W, dx, vr, vm, g, x, g1 loop', rfl, T4, fun H5 s5 => ?_⟩
        refine ⟨_, rfl, ?_⟩
        rw [any_no (hn _ (k2.resolve_right h2).1) (hn _ (k2.resolve_right h2).2)]
        exact iteF (q _ ((t3.trans s4).trans s5))
    · rw [decide_eq_false h1]
      refine iteT ?_
      refine ⟨_, rfl, F, dx, _, rfl, T2.o, rfl, _, rfl, _, rfl, F, R, M, D, W, dx, vr, vm, g, g2 loop', x, rfl, T2, fun H3 s3 => ?_⟩
      refine ⟨_, rfl, ?_⟩
      rw [any_no (hn _ (k1.resolve_right h1).1) (hn _ (k1.resolve_right h1).2)]
      refine iteF ?_
      have T3 := T2.same s3
      have t3 := (s1.trans s2).trans s3
      refine ⟨_, rfl, lit2, fun t4 h4 => ?_⟩
      (generalize hNX : upd H3 t4 _ = H4; have s4 := same_of h4 hNX; have y4 := at_of hNX; clear hNX)
      have T4 := T3.same s4
      refine ⟨t4, _, rfl, .inr (SqT.of y4), rfl, rfl, _, rfl, ?_⟩
      rw [show (Str.ofString "L") = txt [76] from sL, if_pos rfl, inV_two]
      by_cases h2 : c = 76 ∨ c = 69
      · rw [decide_eq_true h2]
        exact iteF (iteF (q _ (t3.trans s4)))
      · rw [decide_eq_false h2]
        refine iteT ?_
        refine ⟨_, rfl, F, dx, _, rfl, T4.o, rfl, _, rfl, _, rfl, F, R, M, D, W, dx, vr, vm, g, x, g1 loop', rfl, T4, fun H5 s5 => ?_⟩
        refine ⟨_, rfl, ?_⟩
        rw [any_no (hn _ (k2.resolve_right h2).1) (hn _ (k2.resolve_right h2).2)]
        exact iteF (q _ ((t3.trans s4).trans s5))
end
end K31
end
section
set_option Elab.async false
set_option linter.all false
set_option maxRecDepth 100000
set_option maxHeartbeats 4000000
namespace K31
open PySem L2 K51
theorem sum_mem : ∀ {ls : Lps} {l : List Nat}, l ∈ ls → l.length ≤ (ls.map List.length).sum
  | [], _, h => by simp at h
  | x :: r, l, h => by
    rw [List.map_cons, List.sum_cons]
    rcases List.mem_cons.mp h with rfl | z
    · omega
    · have := sum_mem z; omega
theorem sum_len : ∀ {ls : Lps}, (∀ l ∈ ls, 2 ≤ l.length) → ls.length ≤ (ls.map List.length).sum
  | [], _ => by simp
  | x :: r, h => by
    rw [List.map_cons, List.sum_cons, List.length_cons]
    have h1 := h x (by simp)
    have h2 := sum_len (ls := r) fun l hl => h l (List.mem_cons_of_mem _ hl)
    omega
theorem ok_each {f : Fr} (h : Ok f) : ∀ l ∈ f.ls, l.length ≤ 2 + f.ts.length := fun l hl => Nat.le_trans (sum_mem hl) h.tot
theorem ok_many {f : Fr} (h : Ok f) : f.ls.length ≤ 2 + f.ts.length := Nat.le_trans (sum_len h.two) h.tot
theorem tr_no {H : Hp} {vm : List V} {ts : List (Nat × Nat × Nat)} {l : List Nat} (h : TrsAt H vm ts) (e : vm = nV l) (hl : l ≠ []) : False := by
  cases l with
  | nil => exact hl rfl
  | cons a l =>
    rw [e] at h
    cases h with
    | cons q _ =>
      obtain ⟨b, e, _⟩ := q
      cases e
theorem pr_mem {H : Hp} {vs : List V} {ls : Lps} {b : Addr} (h : LpsAt H vs ls) (hb : V.ref b ∈ vs) : ∃ l ∈ ls, H b = some (.lst (nV l)) := by
  induction h with
  | nil => cases hb
  | @cons a1 b1 a2 b2 q t ih =>
    rcases List.mem_cons.mp hb with z | z
    · obtain ⟨b', e1, e2⟩ := q
      rw [e1] at z
      cases z
      exact ⟨_, by simp, e2⟩
    · obtain ⟨l, h1, h2⟩ := ih z
      exact ⟨l, by simp [h1], h2⟩
theorem pr_memT {H : Hp} {vs : List V} {ts : List (Nat × Nat × Nat)} {b : Addr} (h : TrsAt H vs ts) (hb : V.ref b ∈ vs) : ∃ xs, H b = some (.tup xs) := by
  induction h with
  | nil => cases hb
  | @cons a1 b1 a2 b2 q t ih =>
    rcases List.mem_cons.mp hb with z | z
    · obtain ⟨b', e1, e2⟩ := q
      rw [e1] at z
      cases z
      exact ⟨_, e2⟩
    · exact ih z
def But4 (F M D W : Addr) (H H' : Hp) : Prop := ∀ b o, b ≠ F → b ≠ M → b ≠ D → b ≠ W → H b = some o → H' b = some o
def spPut (C : Addr) : Sp := fun vs H Q _ => ∃ (F t R M D W dx : Addr) (vr vm : List V) (f : Fr) (ah : Lps) (loop : List Nat) (a : Lt) (x : Nat), vs = [.ref F, .ref t] ∧ FAt C H F R M D W dx vr vm f ∧ Ok f ∧ f.ts.length ≤ 300 ∧ f.ls = ah ++ [loop] ∧ H t = some (.tup (ltV a)) ∧ Lets a ∧ f.can a = some x ∧
  ∀ t' H' R' vr' vm', But4 F M D W H H' → H' t' = some (.tup [.int (g1 loop : Int), .int (g2 loop : Int), .int (x : Int)]) → FAt C H' F R' M D W dx vr' vm' (f.put a x) → H R' = none → (∀ b, V.ref b ∈ vr' → V.ref b ∈ vr ∨ H b = none) → (∀ b, V.ref b ∈ vm' → V.ref b ∈ vm ∨ H b = none) → Q (.ref t') H'
section
variable {P : Program} {w : World} {K : PySem.W.Frag} {mg : Str → Option Value} {base : Heap}
theorem scPut : FnScope ["self", "letter", "x", "rows", "a", "b"] ["self", "letter"] (defScope sPut) := ⟨rfl, rfl, rfl, by decide +kernel, rfl, by decide +kernel, by decide +kernel⟩
theorem ok_put' {f f1 f2 f3 f4 f5 C : Addr} {fd d1 d2 d3 d4 d5 : FuncData} (U : Fun K "put" "Front.put" sPut f fd) (X : FCls K C) (TM : TxtM mg)
    (G1 : Use P w K mg base 2 "is_letter" ["thing"] spIsLetter f1 d1) (G2 : Use P w K mg base 2 "outcome" ["rows", "letter", "fresh"] spOutcome f2 d2) (G3 : UseM P w K mg base C 2 "look_sides_through" ["self", "sign", "x"] (spLook C) f3 d3)
    (G4 : UseM P w K mg base C 1 "gate" ["self"] (spGate C) f4 d4) (G5 : UseM P w K mg base C 1 "take_sides" ["self", "sides"] (spTake C) f5 d5) :
    FnOk P w K mg base CX0 3 f fd ["self", "letter"] (spPut C) := by
  refine U.ok scPut (fun vs H Q E h => ?_) (fun cdv A outer s H vs Q E hr h => ?_)
  · obtain ⟨F, t, R, M, D, W, dx, vr, vm, g, ah, loop, a, x, rfl, _⟩ := h
    rfl
  · obtain ⟨F, t, R, M, D, W, dx, vr, vm, g, ah, loop, a, x, rfl, T, ok, hts, el, ht, ha, hc, q⟩ := h
    have hr1 := hr.mono (show 1 ≤ 2 by decide)
    refine ⟨_, pss_cons (ps_if (pt_not (pt_val (pe_call G1.g hr rfl G1.m G1.k G1.b .nil pass0 (pa_cons (pv 1) pa_nil)))) pss_never pss_nil)
      (pss_cons (ps_if (pt_not (pt_truth (pe_fld (pv 0) rfl) (fun _ => rfl))) pss_never pss_nil)
      (pss_cons (ps_asg (pe_call G2.g hr rfl G2.m G2.k G2.b .nil pass0 (pa_cons (pe_fld (pv 0) rfl) (pa_cons (pv 1) (pa_cons (pe_fld (pv 0) rfl) pa_nil)))) (pg_tup rfl (pgs_cons (pg_name (i := 2) scPut.nd rfl (Or.inl rfl)) (pgs_cons (pg_name (i := 3) scPut.nd rfl (Or.inl rfl)) pgs_nil))))
      (pss_cons (ps_expr (pe_meth (pv 0) X.cl G3.m G3.g hr G3.b .nil pass0 (pa_cons (pe_ix ix_tup (pv 1) pe_int (fun _ _ => rfl)) (pa_cons (pv 2) pa_nil))))
      (pss_cons (ps_asg (pe_meth0 (pv 0) X.cl G4.m G4.g hr1 G4.b .nil pass0) (pg_tup rfl (pgs_cons (pg_name (i := 4) scPut.nd rfl (Or.inl rfl)) (pgs_cons (pg_name (i := 5) scPut.nd rfl (Or.inl rfl)) pgs_nil))))
      (pss_cons (ps_expr (pe_meth (pv 0) X.cl G5.m G5.g hr1 G5.b .nil pass0 (pa_cons (pe_lst (pa_cons (pe_tup (pa_cons (pv 4) (pa_cons (pv 5) pa_nil))) (pa_cons (pe_tup (pa_cons (pv 5) (pa_cons (pv 2) pa_nil))) (pa_cons (pe_tup (pa_cons (pv 2) (pa_cons (pv 4) pa_nil))) pa_nil)))) pa_nil)))
      (pss_cons (ps_expr (pe_bm PySem.F.plainAttrs_list PySem.F.slot_list_append PySem.F.type_list_append mt_append (pe_fld (pv 0) rfl) (pa_cons (pe_tup (pa_cons (pv 4) (pa_cons (pv 5) (pa_cons (pv 2) pa_nil)))) pa_nil)))
      (pss_cons (ps_fld (pv 0) (pv 3) rfl)
      (pss_cons (ps_fld (pv 0) (pe_callB (call_max2 rfl) (by rfl) TM.max PyProof.Rows.boot_max (pa_cons (pe_fld (pv 0) rfl) (pa_cons (pe_op op_add (pv 2) pe_int) pa_nil))) rfl)
      (pss_one (ps_ret (pe_tup (pa_cons (pv 4) (pa_cons (pv 5) (pa_cons (pv 2) pa_nil)))))))))))))), ?_⟩
    have hline := line5000
    have em : f = f := rfl
    have hcan : canAt ah loop g.ts g.n a = some x := by
      have := hc
      obtain ⟨ls, ts, n⟩ := g
      dsimp only at el
      rw [el, can_at] at this
      exact this
    obtain ⟨hx, hx1, hx2, hk⟩ := can_third hcan
    rw [← el] at hk
    have hpl : LpsAt H vr (ah ++ [loop]) := by rw [← el]; exact T.p
    have hvr : (!(vr).isEmpty) = true := by
      obtain ⟨va, v, ev, _⟩ := pr_snoc hpl
      rw [ev]; simp
    have hm := ok_many ok
    have he := ok_each ok
    rw [el] at hm he
    rw [List.length_append, List.length_singleton] at hm
    refine ⟨_, rfl, t, a, rfl, ht, ha, fun H1 s1 => ⟨_, rfl, iteF ?_⟩⟩
    have T1 := T.same s1
    refine ⟨_, rfl, F, C, dx, _, _, rfl, T1.o, X.cl, X.rows, rfl, _, .inl ⟨_, SqL.of T1.r, rfl⟩, ?_⟩
    rw [hvr]
    refine iteF ?_
    refine ⟨_, rfl, F, C, dx, _, _, rfl, T1.o, X.cl, X.rows, rfl, _, rfl, _, rfl, F, C, dx, _, _, rfl, T1.o, X.cl, X.many, rfl, R, t, g.n, vr, ah, loop, a, x, rfl, T1.r, by rw [← el]; exact T1.p, s1 _ _ ht, ha, by omega, fun l hl => Nat.le_trans (he l hl) (by omega), hx, fun t2 R' vr' H2 s2 hR' hn' e1 e2 e3 => ?_⟩
    have T2 := T1.same s2
    have q2 := s1.trans s2
    refine ⟨t2, _, rfl, SqT.of e1, rfl, _, _, rfl, _, _, rfl, rfl, ?_⟩
    have a0 : atI (ltV a) 0 = some (V.str (txt [sgn a])) := by rw [ltV_eq]; exact atI0 _ _
    refine ⟨_, rfl, F, dx, _, rfl, T2.o, rfl, _, rfl, t, _, _, _, rfl, rfl, SqT.of (q2 _ _ ht), a0, _, rfl, F, R, M, D, W, dx, vr, vm, g, ah, loop, sgn a, x, rfl, T2, ok, el, hx1, hx2, hk, fun H3 s3 => ?_⟩
    have T3 := T2.same s3
    refine ⟨_, rfl, F, dx, _, rfl, T3.o, rfl, F, R, M, D, W, dx, vr, vm, g, rfl, T3, ok, (fun z => by rw [z] at el; simp at el), fun ah' loop' el' t4 H4 ht4 s4 y4 => ?_⟩
    have : ah' = ah ∧ loop' = loop := by
      rw [el] at el'
      have := List.append_inj' el' rfl
      exact ⟨this.1.symm, by simpa using this.2.symm⟩
    obtain ⟨rfl, rfl⟩ := this
    have T4 := T3.same s4
    have q4 := (q2.trans s3).trans s4
    refine ⟨t4, _, rfl, SqT.of y4, rfl, _, _, rfl, _, _, rfl, rfl, ?_⟩
    refine ⟨_, rfl, F, dx, _, rfl, T4.o, rfl, _, rfl, _, rfl, lit2, fun t5 h5 => ?_⟩
    (generalize hNX : upd H4 t5 _ = H5; have s5 := same_of h5 hNX; have y5 := at_of hNX; clear hNX)
    refine ⟨_, rfl, _, rfl, lit2, fun t6 h6 => ?_⟩
    (generalize hNX : upd H5 t6 _ = H6; have s6 := same_of h6 hNX; have y6 := at_of hNX; clear hNX)
    refine ⟨_, rfl, _, rfl, lit2, fun t7 h7 => ?_⟩
    (generalize hNX : upd H6 t7 _ = H7; have s7 := same_of h7 hNX; have y7 := at_of hNX; clear hNX)
    refine ⟨lit3, fun t8 h8 => ?_⟩
    (generalize hNX : upd H7 t8 _ = H8; have s8 := same_of h8 hNX; have y8 := at_of hNX; clear hNX)
    have q48 := ((s5.trans s6).trans s7).trans s8
    have T8 := T4.same q48
    have q8 := q4.trans q48
    obtain ⟨kd, d1, d2, d3⟩ := T8.d
    obtain ⟨kw, w1, w2, w3⟩ := T8.w
    refine ⟨F, t8, R, M, D, W, dx, g.n, kd, kw, _, _, _, [(g1 loop', g2 loop'), (g2 loop', x), (x, g1 loop')], rfl, T8.o, T8.dw, d1, d2, by omega, w1, w2, by omega, y8,
      .cons ⟨t5, rfl, ((s6.trans s7).trans s8) _ _ y5⟩ (.cons ⟨t6, rfl, (s7.trans s8) _ _ y6⟩ (.cons ⟨t7, rfl, s8 _ _ y7⟩ .nil)), (by show 3 ≤ 100; decide), fun H9 kd' kw' b9 d1' d2' d3' w1' w2' w3' => ?_⟩
    have nFD : F ≠ D := ne_of T8.o d1 (by intro z; cases z)
    have nFW : F ≠ W := ne_of T8.o w1 (by intro z; cases z)
    have nMD : M ≠ D := ne_of T8.m d1 (by intro z; cases z)
    have nMW : M ≠ W := ne_of T8.m w1 (by intro z; cases z)
    have nFM : F ≠ M := ne_of T8.o T8.m (by intro z; cases z)
    have hF9 := b9 F _ nFD nFW T8.o
    have hM9 := b9 M _ nMD nMW T8.m
    refine ⟨_, rfl, F, C, dx, _, _, rfl, hF9, X.cl, X.made, rfl, .inl ⟨rfl, _, SqL.of hM9⟩, _, rfl, _, rfl, _, rfl, lit3, fun ta ga => ?_⟩
    (generalize hNX : upd H9 ta _ = Ha; have sa := same_of ga hNX; have ya := at_of hNX; clear hNX)
    have lvm := pr_len T.t
    refine ⟨M, _, _, rfl, rfl, sa _ _ hM9, by omega, ?_⟩
    (generalize hNX : upd Ha M _ = Hb; have kb := wr_of hNX; have yb := at_of hNX; clear hNX)
    have hFb : Hb F = _ := (kb F nFM).trans (sa _ _ hF9)
    refine ⟨_, rfl, _, rfl, F, C, dx, _, rfl, hFb, X.cl, X.rows, (by show 5 < 1000; decide), ?_⟩
    (generalize hNX : upd Hb F _ = Hc; have kc := wr_of hNX; have yc := at_of hNX; clear hNX)
    refine ⟨_, rfl, F, C, dx, _, _, rfl, yc, X.cl, X.many, rfl, _, rfl, _, _, rfl, rfl, _, _, rfl, _, rfl, F, C, dx, _, rfl, yc, X.cl, X.many, (by show 5 < 1000; decide), ?_⟩
    (generalize hNX : upd Hc F _ = Hd; have kd4 := wr_of hNX; have yd := at_of hNX; clear hNX)
    refine ⟨_, rfl, _, rfl, _, rfl, lit3, fun te ge => ?_⟩
    (generalize hNX : upd Hd te _ = He; have se := same_of ge hNX; have ye := at_of hNX; clear hNX)
    have fr : ∀ b o, b ≠ F → b ≠ M → b ≠ D → b ≠ W → H8 b = some o → He b = some o := fun b o n1 n2 n3 n4 e =>
      se _ _ ((kd4 b n1).trans ((kc b n1).trans ((kb b n2).trans (sa _ _ (b9 b o n3 n4 e)))))
    have q28 := (s3.trans s4).trans q48
    have ep : g.put a x = ⟨stepOf ah' loop' a x, g.ts ++ [(g1 loop', g2 loop', x)], max g.n (x + 1)⟩ := by
      obtain ⟨ls, ts, n⟩ := g
      dsimp only at el
      rw [el, put_at]
    have hM1 : H1 M = some (.lst vm) := T1.m
    have nR'M : R' ≠ M := fun z => by rw [z, hM1] at hR'; cases hR'
    have hR8 := q28 _ _ e2
    have inM : ∀ b, V.ref b ∈ vr' → b ≠ M := fun b hb z => by
      rcases hn' b hb with h | h
      · obtain ⟨l, hl, e⟩ := pr_mem T.p h
        rw [z, T.m] at e
        injection e with e
        injection e with e
        have h2 := ok.two l hl
        exact tr_no T.t e (by rintro rfl; simp at h2)
      · rw [z, hM1] at h; cases h
    have hFa : Ha F = _ := sa _ _ hF9
    have hMa : Ha M = _ := sa _ _ hM9
    refine q te He R' vr' (vm ++ [.ref ta]) (fun b o n1 n2 n3 n4 e => fr b o n1 n2 n3 n4 (q8 _ _ e)) ye ?_ (s1.free hR') (fun b hb => (hn' b hb).imp id s1.free) (mem_new ((q8.free) ?_))
    · rw [ep]
      refine ⟨?_, fr _ _ (ne_of hR8 T8.o (by intro z; cases z)) nR'M (ne_of hR8 d1 (by intro z; cases z)) (ne_of hR8 w1 (by intro z; cases z)) hR8, ?_, ?_, ?_, ⟨kd', ?_, ?_, ?_⟩, ⟨kw', ?_, ?_, ?_⟩, T.dw⟩
      · have e := se _ _ yd
        have e5 : putF "many" (V.int (if (x : Int) + 1 > (g.n : Int) then (x : Int) + 1 else (g.n : Int))) (putF "rows" (.ref R') (flds R M D W g.n)) = flds R' M D W (max g.n (x + 1)) := by
          have e6 : (if (x : Int) + 1 > (g.n : Int) then (x : Int) + 1 else (g.n : Int)) = ((max g.n (x + 1) : Nat) : Int) := by split <;> omega
          rw [e6]
          rfl
        rw [← e5]
        exact e
      · refine LpsAt.move e3 fun b o hb e => ?_
        obtain ⟨l, _, e'⟩ := pr_mem e3 hb
        have e8 := q28 _ _ e'
        rw [e'] at e
        cases e
        exact fr b _ (ne_of e8 T8.o (by intro z; cases z)) (inM b hb) (ne_of e8 d1 (by intro z; cases z)) (ne_of e8 w1 (by intro z; cases z)) e8
      · exact se _ _ ((kd4 M (Ne.symm nFM)).trans ((kc M (Ne.symm nFM)).trans yb))
      · refine pr_app (TrsAt.move T8.t fun b o hb e => ?_) (.cons ⟨ta, rfl, se _ _ ((kd4 ta (ne_of ya hFa (by intro z; cases z))).trans ((kc ta (ne_of ya hFa (by intro z; cases z))).trans ((kb ta (ne_of ya hMa (by intro z; cases z))).trans ya)))⟩ .nil)
        obtain ⟨xs, e'⟩ := pr_memT T8.t hb
        exact fr b o (ne_of e' T8.o (by intro z; cases z)) (ne_of e' T8.m (by intro z; cases z)) (ne_of e' d1 (by intro z; cases z)) (ne_of e' w1 (by intro z; cases z)) e
      · exact se _ _ ((kd4 D (Ne.symm nFD)).trans ((kc D (Ne.symm nFD)).trans ((kb D (Ne.symm nMD)).trans (sa _ _ d1'))))
      · refine d2'.congr fun s => ?_
        show (((decide (s ∈ tl g.ts) || decide (s = (g1 loop', g2 loop'))) || decide (s = (g2 loop', x))) || decide (s = (x, g1 loop'))) = _
        dsimp only
        rw [tl_snoc, Bool.eq_iff_iff]
        simp only [Bool.or_eq_true, decide_eq_true_eq, List.mem_append, List.mem_cons, List.not_mem_nil, or_false, or_assoc]
      · dsimp only
        rw [List.length_append]
        simp only [List.length_cons, List.length_nil] at d3' ⊢
        omega
      · exact se _ _ ((kd4 W (Ne.symm nFW)).trans ((kc W (Ne.symm nFW)).trans ((kb W (Ne.symm nMW)).trans (sa _ _ w1'))))
      · exact w2'.congr fun s => (wants_step ok el ha hcan).1 s
      · dsimp only
        rw [List.length_append]
        simp only [List.length_cons, List.length_nil] at w3' ⊢
        omega
    · cases e : H8 ta with
      | none => rfl
      | some o =>
        exfalso
        by_cases h1 : ta = D
        · rw [h1, d1'] at ga; cases ga
        · by_cases h2 : ta = W
          · rw [h2, w1'] at ga; cases ga
          · rw [b9 ta o h1 h2 e] at ga; cases ga
end
end K31
end
section
set_option Elab.async false
set_option linter.all false
set_option maxRecDepth 100000
set_option maxHeartbeats 4000000
namespace K31
open PySem L2 K51
def spInit (C : Addr) : Sp := fun vs H Q _ => ∃ (F dx : Addr), vs = [.ref F] ∧ H F = some (.ins C dx []) ∧
  ∀ H' R M D W vr, (∀ b o, b ≠ F → H b = some o → H' b = some o) → FAt C H' F R M D W dx vr [] Fr.at0 → H R = none → H M = none → H D = none → H W = none → (∀ b, V.ref b ∈ vr → H b = none) → Q .non H'
section
variable {P : Program} {w : World} {K : PySem.W.Frag} {mg : Str → Option Value} {base : Heap}
theorem scInit : FnScope ["self"] ["self"] (defScope sInit) := ⟨rfl, rfl, rfl, by decide +kernel, rfl, by decide +kernel, by decide +kernel⟩
theorem ok_init {f C : Addr} {fd : FuncData} (U : Fun K "__init__" "Front.__init__" sInit f fd) (X : FCls K C) : FnOk P w K mg base CX0 1 f fd ["self"] (spInit C) := by
  refine U.ok scInit (fun vs H Q E h => ?_) (fun cdv A outer s H vs Q E hr h => ?_)
  · obtain ⟨F, dx, rfl, _⟩ := h
    rfl
  · obtain ⟨F, dx, rfl, hF, q⟩ := h
    have hu := hu_of hr
    refine ⟨_, pss_cons (ps_fld (pv 0) (pe_lst (pa_cons (pe_lst (pa_cons pe_int (pa_cons pe_int pa_nil))) pa_nil)) rfl)
      (pss_cons (ps_fld (pv 0) (pe_lst pa_nil) rfl)
      (pss_cons (ps_fld (pv 0) pe_int rfl)
      (pss_cons (ps_fld (pv 0) pe_dnewT rfl)
      (pss_one (ps_fld (pv 0) (pe_dispT hu (pps_cons (pe_tup (pa_cons pe_int (pa_cons pe_int pa_nil))) pe_bl (pps_cons (pe_tup (pa_cons pe_int (pa_cons pe_int pa_nil))) pe_bl pps_nil)) rfl rfl (by simp) (by decide)) rfl))))), ?_⟩
    have lit0 : 0 ≤ sizeLine := Nat.zero_le _
    refine ⟨lit2, fun p1 h1 => ?_⟩
    (generalize hNX : upd H p1 _ = H1; have s1 := same_of h1 hNX; have y1 := at_of hNX; clear hNX)
    refine ⟨lit1, fun R h2 => ?_⟩
    (generalize hNX : upd H1 R _ = H2; have s2 := same_of h2 hNX; have y2 := at_of hNX; clear hNX)
    have q2 := s1.trans s2
    refine ⟨_, rfl, F, C, dx, _, rfl, q2 _ _ hF, X.cl, X.rows, (by show 0 < 1000; decide), ?_⟩
    (generalize hNX : upd H2 F _ = H3; have k3 := wr_of hNX; have y3 := at_of hNX; clear hNX)
    refine ⟨lit0, fun M h4 => ?_⟩
    (generalize hNX : upd H3 M _ = H4; have s4 := same_of h4 hNX; have y4 := at_of hNX; clear hNX)
    refine ⟨_, rfl, F, C, dx, _, rfl, s4 _ _ y3, X.cl, X.made, (by show 1 < 1000; decide), ?_⟩
    (generalize hNX : upd H4 F _ = H5; have k5 := wr_of hNX; have y5 := at_of hNX; clear hNX)
    refine ⟨_, rfl, F, C, dx, _, rfl, y5, X.cl, X.many, (by show 2 < 1000; decide), ?_⟩
    (generalize hNX : upd H5 F _ = H6; have k6 := wr_of hNX; have y6 := at_of hNX; clear hNX)
    refine fun D h7 => ?_
    (generalize hNX : upd H6 D _ = H7; have s7 := same_of h7 hNX; have y7 := at_of hNX; clear hNX)
    refine ⟨_, rfl, F, C, dx, _, rfl, s7 _ _ y6, X.cl, X.stood, (by show 3 < 1000; decide), ?_⟩
    (generalize hNX : upd H7 F _ = H8; have k8 := wr_of hNX; have y8 := at_of hNX; clear hNX)
    refine fun W h9 => ?_
    (generalize hNX : upd H8 W _ = H9; have s9 := same_of h9 hNX; have y9 := at_of hNX; clear hNX)
    refine ⟨lit2, fun ta ga => ?_⟩
    (generalize hNX : upd H9 ta _ = Ha; have sa := same_of ga hNX; have ya := at_of hNX; clear hNX)
    refine ⟨lit2, fun tb gb => ?_⟩
    (generalize hNX : upd Ha tb _ = Hb; have sb := same_of gb hNX; have yb := at_of hNX; clear hNX)
    refine ⟨sb _ _ (sa _ _ y9), [(ky 0 1, ta, .bl true), (ky 1 0, tb, .bl true)], rfl, ?_, (by show 2 ≤ 15; decide), ?_⟩
    · intro z hz
      simp only [List.mem_cons, List.not_mem_nil, or_false] at hz
      rcases hz with rfl | rfl
      · exact sb _ _ ya
      · exact yb
    (generalize hNX : upd Hb W _ = Hc; have kc := wr_of hNX; have yc := at_of hNX; clear hNX)
    have nFW : F ≠ W := fun z => by rw [← z, y8] at h9; cases h9
    refine ⟨_, rfl, F, C, dx, _, rfl, (kc F nFW).trans (sb _ _ (sa _ _ (s9 _ _ y8))), X.cl, X.wants, (by show 4 < 1000; decide), ?_⟩
    (generalize hNX : upd Hc F _ = Hd; have kd := wr_of hNX; have yd := at_of hNX; clear hNX)
    have f48 : ∀ b o, b ≠ F → H4 b = some o → H8 b = some o := fun b o n e => (k8 b n).trans (s7 _ _ ((k6 b n).trans ((k5 b n).trans e)))
    have f28 : ∀ b o, b ≠ F → H2 b = some o → H8 b = some o := fun b o n e => f48 b o n (s4 _ _ ((k3 b n).trans e))
    have f8d : ∀ b o, b ≠ F → H8 b = some o → Hd b = some o := fun b o n e => (kd b n).trans ((kc b (ne_of_none e h9)).trans (sb _ _ (sa _ _ (s9 _ _ e))))
    have hF2 := q2 _ _ hF
    have f2d : ∀ b o, b ≠ F → H2 b = some o → Hd b = some o := fun b o n e => f8d b o n (f28 b o n e)
    have nMF : M ≠ F := fun z => by rw [z, y3] at h4; cases h4
    have nDF : D ≠ F := fun z => by rw [z, y6] at h7; cases h7
    have fin : ∀ (b : Addr) (Hx : Hp), (∀ o, b ≠ F → H2 b = some o → Hx b = some o) → Hx b = none → (b = F → Hx F ≠ none) → H b = none := fun b Hx f h n => by
      cases e : H b with
      | none => rfl
      | some o =>
        exfalso
        by_cases hb : b = F
        · exact n hb (by rw [← hb]; exact h)
        · have := f o hb (q2 _ _ e)
          rw [h] at this; cases this
    refine q Hd R M D W [.ref p1] (fun b o n e => f2d b o n (q2 _ _ e)) ⟨yd, f2d R _ (ne_of y2 hF2 (by intro z; cases z)) y2, .cons ⟨p1, rfl, f2d p1 _ (ne_of (s2 _ _ y1) hF2 (by intro z; cases z)) (s2 _ _ y1)⟩ .nil, f8d M _ nMF (f48 M _ nMF y4), .nil,
      ⟨[], f8d D _ nDF ((k8 D nDF).trans y7), Keys.nil, Nat.zero_le _⟩, ⟨_, (kd W (Ne.symm nFW)).trans yc, ((Keys.nil.put 0 1 (.bl true)).put 1 0 (.bl true)).congr fun s => ?_, length_mergeT _ _⟩, ne_of_none ((k8 D nDF).trans y7) h9⟩
      (s1.free h2) (fin M H3 (fun o n e => (k3 M n).trans e) h4 (fun _ z => by rw [y3] at z; cases z)) (fin D H6 (fun o n e => (k6 D n).trans ((k5 D n).trans (s4 _ _ ((k3 D n).trans e)))) h7 (fun _ z => by rw [y6] at z; cases z))
      (fin W H8 (fun o n e => f28 W o n e) h9 (fun _ z => by rw [y8] at z; cases z)) (fun b hb => ?_)
    · show ((false || decide (s = (0, 1))) || decide (s = (1, 0))) = decide (s ∈ [(0, 1), (1, 0)])
      rw [Bool.eq_iff_iff]
      simp
    · have : b = p1 := by simpa using hb
      rw [this]; exact h1
end
end K31
end
section
set_option Elab.async false
set_option linter.all false
set_option maxRecDepth 100000
set_option maxHeartbeats 4000000
namespace K31
open PySem L2 K51
def spThirds : Sp := fun vs H Q _ => ∃ (T : Addr) (vt : List V) (ts : List (Nat × Nat × Nat)), vs = [.ref T] ∧ H T = some (.lst vt) ∧ TrsAt H vt ts ∧ ts.length ≤ 400 ∧
  ∀ D kd H', H D = none → Same H H' → H' D = some (.dT kd) → Keys kd (fun s => decide (s ∈ tl ts)) → Q (.ref D) H'
def spWanted : Sp := fun vs H Q _ => ∃ (L : Addr) (vl : List V) (ls : Lps), vs = [.ref L] ∧ H L = some (.lst vl) ∧ LpsAt H vl ls ∧ (ls.map List.length).sum ≤ 1000 ∧
  ∀ D kw H', H D = none → Same H H' → H' D = some (.dT kw) → Keys kw (fun s => decide (s ∈ wl ls)) → Q (.ref D) H'
section
variable {P : Program} {w : World} {K : PySem.W.Frag} {mg : Str → Option Value} {base : Heap}
theorem scThirds : FnScope ["_law_triples", "_law_thirds_here", "_law_a", "_law_b", "_law_c"] ["_law_triples"] (defScope sThirds) := ⟨rfl, rfl, rfl, by decide +kernel, rfl, by decide +kernel, by decide +kernel⟩
theorem ok_thirds {f : Addr} {fd : FuncData} (U : Fun K "_law_thirds" "_law_thirds" sThirds f fd) : FnOk P w K mg base CX0 1 f fd ["_law_triples"] spThirds := by
  refine U.ok scThirds (fun vs H Q E h => ?_) (fun cdv A outer s H vs Q E hr h => ?_)
  · obtain ⟨T, vt, ts, rfl, _⟩ := h
    rfl
  · obtain ⟨T, vt, ts, rfl, hT, ht, hl, q⟩ := h
    have hu := hu_of hr
    refine ⟨_, pss_cons (ps_set (i := 1) scThirds.nd rfl (Or.inl rfl) pe_dnewT)
      (pss_cons (ps_for PassesOwn.never rfl (pi_list (pv 0)) (pg_tup rfl (pgs_cons (pg_name (i := 2) scThirds.nd rfl (Or.inl rfl)) (pgs_cons (pg_name (i := 3) scThirds.nd rfl (Or.inl rfl)) (pgs_cons (pg_name (i := 4) scThirds.nd rfl (Or.inl rfl)) pgs_nil))))
        (pss_cons (ps_dput hu (pv 1) (pe_tup (pa_cons (pv 2) (pa_cons (pv 3) pa_nil))) (pv 4) rfl)
        (pss_cons (ps_dput hu (pv 1) (pe_tup (pa_cons (pv 3) (pa_cons (pv 4) pa_nil))) (pv 2) rfl)
        (pss_one (ps_dput hu (pv 1) (pe_tup (pa_cons (pv 4) (pa_cons (pv 2) pa_nil))) (pv 3) rfl)))))
      (pss_one (ps_ret (pv 1)))), ?_⟩
    have hline := line5000
    have hlen := pr_len ht
    refine fun D h1 => ?_
    (generalize hNX : upd H D _ = H1; have s1 := same_of h1 hNX; have y1 := at_of hNX; clear hNX)
    refine ⟨_, rfl, T, rfl, ⟨_, SqL.of (s1 _ _ hT)⟩, for_list (K := K) (a := T) (xs := vt) (fun i σ H2 => ∃ v2 v3 v4 kd, σ = [some (.ref T), some (.ref D), v2, v3, v4] ∧ Same H H2 ∧ H2 D = some (.dT kd) ∧ Keys kd (fun s => decide (s ∈ tl (ts.take i))) ∧ kd.length ≤ 3 * i)
      ⟨none, none, none, [], rfl, s1, y1, Keys.nil, by simp⟩ (fun i σ H2 _ ⟨_, _, _, _, _, e, _⟩ => SqL.of (e _ _ hT)) ?_ ?_⟩
    · rintro i x σ H2 hi ⟨v2, v3, v4, kd, rfl, sm, hD, hk, hz⟩
      obtain ⟨⟨a, b, c⟩, hs, t, rfl, hb⟩ := pr_get' ht hi
      have hb : H t = some (.tup [.int (a : Int), .int (b : Int), .int (c : Int)]) := hb
      have hil : i < ts.length := (List.getElem?_eq_some_iff.mp hs).1
      have et : ts.take (i + 1) = ts.take i ++ [(a, b, c)] := by rw [List.take_add_one, hs]; rfl
      refine ⟨t, _, rfl, SqT.of (sm _ _ hb), rfl, _, _, rfl, _, _, rfl, _, _, rfl, rfl, ?_⟩
      have l1 := length_putK kd (ky a b) (V.int (c : Int))
      have l2 := length_putK (putK kd (ky a b) (V.int (c : Int))) (ky b c) (V.int (a : Int))
      have l3 := length_putK (putK (putK kd (ky a b) (V.int (c : Int))) (ky b c) (V.int (a : Int))) (ky c a) (V.int (b : Int))
      refine ⟨_, rfl, _, rfl, _, rfl, _, rfl, lit2, fun t1 g1 => ?_⟩
      (generalize hNX : upd H2 t1 _ = H3; have s3 := same_of g1 hNX; have y3 := at_of hNX; clear hNX)
      refine ⟨D, _, rfl, DPut.t (k := ky a b) (s3 _ _ hD) y3 (by omega), ?_⟩
      (generalize hNX : upd H3 D _ = H4; have k4 := wr_of hNX; have y4 := at_of hNX; clear hNX)
      refine ⟨_, rfl, _, rfl, _, rfl, _, rfl, lit2, fun t2 g2 => ?_⟩
      (generalize hNX : upd H4 t2 _ = H5; have s5 := same_of g2 hNX; have y5 := at_of hNX; clear hNX)
      refine ⟨D, _, rfl, DPut.t (k := ky b c) (s5 _ _ y4) y5 (by omega), ?_⟩
      (generalize hNX : upd H5 D _ = H6; have k6 := wr_of hNX; have y6 := at_of hNX; clear hNX)
      refine ⟨_, rfl, _, rfl, _, rfl, _, rfl, lit2, fun t3 g3 => ?_⟩
      (generalize hNX : upd H6 t3 _ = H7; have s7 := same_of g3 hNX; have y7 := at_of hNX; clear hNX)
      refine ⟨D, _, rfl, DPut.t (k := ky c a) (s7 _ _ y6) y7 (by omega), ?_⟩
      (generalize hNX : upd H7 D _ = H8; have k8 := wr_of hNX; have y8 := at_of hNX; clear hNX)
      refine ⟨_, _, _, _, rfl, fun b' o e => ?_, y8, ?_, by omega⟩
      · have nb := ne_of_none e h1
        exact (k8 b' nb).trans (s7 _ _ ((k6 b' nb).trans (s5 _ _ ((k4 b' nb).trans (s3 _ _ (sm _ _ e))))))
      · rw [et]
        refine (((hk.put a b _).put b c _).put c a _).congr fun s => ?_
        rw [tl_snoc, Bool.eq_iff_iff]
        simp only [Bool.or_eq_true, decide_eq_true_eq, List.mem_append, List.mem_cons, List.not_mem_nil, or_false, or_assoc]
    · rintro σ H2 ⟨v2, v3, v4, kd, rfl, sm, hD, hk, hz⟩
      rw [hlen, List.take_length] at hk
      exact ⟨_, rfl, q D kd H2 h1 sm hD hk⟩
theorem drop_last_get {ls : Lps} {i : Nat} {l : List Nat} (h : ls[ls.length - 1 - i]? = some l) (hi : i < ls.length) : ls.drop (ls.length - (i + 1)) = l :: ls.drop (ls.length - i) := by
  obtain ⟨hk, e⟩ := List.getElem?_eq_some_iff.mp h
  rw [show ls.length - (i + 1) = ls.length - 1 - i by omega, List.drop_eq_getElem_cons hk, e, show ls.length - 1 - i + 1 = ls.length - i by omega]
theorem sum_drop (ls : Lps) (k : Nat) : ((ls.drop k).map List.length).sum ≤ (ls.map List.length).sum := by
  conv => rhs; rw [← List.take_append_drop k ls, List.map_append, List.sum_append]
  omega
theorem scWanted : FnScope ["_law_loops", "_law_found", "_law_j", "_law_loop", "_law_k", "_law_corner"] ["_law_loops"] (defScope sWanted) := ⟨rfl, rfl, rfl, by decide +kernel, rfl, by decide +kernel, by decide +kernel⟩
theorem ok_wanted {f : Addr} {fd : FuncData} (U : Fun K "_law_wanted" "_law_wanted" sWanted f fd) (T : TxtN mg) : FnOk P w K mg base CX0 1 f fd ["_law_loops"] spWanted := by
  refine U.ok scWanted (fun vs H Q E h => ?_) (fun cdv A outer s H vs Q E hr h => ?_)
  · obtain ⟨L, vl, ls, rfl, _⟩ := h
    rfl
  · obtain ⟨L, vl, ls, rfl, hL, hp, hsum, q⟩ := h
    have hu := hu_of hr
    refine ⟨_, pss_cons (ps_set (i := 1) scWanted.nd rfl (Or.inl rfl) pe_dnewT)
      (pss_cons (ps_for PassesOwn.never rfl (pi_enumR rfl T.enum rfl T.rev (pa_cons (pv 0) pa_nil)) (pg_tup rfl (pgs_cons (pg_name (i := 2) scWanted.nd rfl (Or.inl rfl)) (pgs_cons (pg_name (i := 3) scWanted.nd rfl (Or.inl rfl)) pgs_nil)))
        (pss_one (ps_for PassesOwn.never rfl (pi_enum rfl T.enum (pa_cons (pv 3) pa_nil)) (pg_tup rfl (pgs_cons (pg_name (i := 4) scWanted.nd rfl (Or.inl rfl)) (pgs_cons (pg_name (i := 5) scWanted.nd rfl (Or.inl rfl)) pgs_nil)))
          (pss_one (ps_dput hu (pv 1) (pe_tup (pa_cons (pv 5) (pa_cons (pe_ix ix_list (pv 3) (pe_op op_mod (pe_op op_add (pv 4) pe_int) (pe_callB call_len_seq (by rfl) T.len PySem.boot_len (pa_cons (pv 3) pa_nil))) (fun _ _ => rfl)) pa_nil)))
            (pe_tup (pa_cons (pv 2) (pa_cons (pv 4) pa_nil))) rfl)))))
      (pss_one (ps_ret (pv 1)))), ?_⟩
    have hline := line5000
    have hlen := pr_len hp
    refine fun D h1 => ?_
    (generalize hNX : upd H D _ = H1; have s1 := same_of h1 hNX; have y1 := at_of hNX; clear hNX)
    refine ⟨_, rfl, L, vl, rfl, SqL.of (s1 _ _ hL), for_enumR (K := K) (a := L) (xs := vl) (fun i σ H2 => ∃ v2 v3 v4 v5 kw, σ = [some (.ref L), some (.ref D), v2, v3, v4, v5] ∧ Same H H2 ∧ H2 D = some (.dT kw) ∧ Keys kw (fun s => decide (s ∈ wl (ls.drop (ls.length - i)))) ∧ kw.length ≤ ((ls.drop (ls.length - i)).map List.length).sum)
      ⟨none, none, none, none, [], rfl, s1, y1, by rw [Nat.sub_zero, List.drop_length]; exact Keys.nil, by simp⟩ (fun i σ H2 _ ⟨_, _, _, _, _, _, e, _⟩ => SqL.of (e _ _ hL)) ?_ ?_⟩
    · rintro i x pt σ H2 hi hx ⟨v2, v3, v4, v5, kw, rfl, sm, hD, hk, hz⟩ hpt
      rw [hlen] at hi hx
      obtain ⟨l, hs, b, rfl, hb⟩ := pr_get' hp hx
      have ed := drop_last_get hs hi
      (generalize hNX : upd H2 pt _ = H3; have s3 := same_of hpt hNX; have y3 := at_of hNX; clear hNX)
      refine ⟨pt, _, rfl, SqT.of y3, rfl, _, _, rfl, _, _, rfl, rfl, ?_⟩
      have hbl : ∀ H', Same H H' → SqL K H' b (nV l) := fun H' s' => SqL.of (s' _ _ hb)
      have sd := sum_drop ls (ls.length - i)
      have se := sum_drop ls (ls.length - (i + 1))
      rw [ed, List.map_cons, List.sum_cons] at se
      refine ⟨_, rfl, b, nV l, rfl, hbl _ (sm.trans s3), for_enum (K := K) (a := b) (xs := nV l) (fun k σ H4 => ∃ v4 v5 kw', σ = [some (.ref L), some (.ref D), some (.int (i : Int)), some (.ref b), v4, v5] ∧ Same H H4 ∧ H4 D = some (.dT kw') ∧ Keys kw' (fun s => decide (s ∈ wl (ls.drop (ls.length - i))) || decide (s ∈ (sides l).take k)) ∧ kw'.length ≤ ((ls.drop (ls.length - i)).map List.length).sum + k)
        ⟨v4, v5, kw, rfl, sm.trans s3, s3 _ _ hD, hk.congr fun s => by simp, by omega⟩ (fun k σ H4 _ ⟨_, _, _, _, e, _⟩ => hbl _ e) ?_ ?_⟩
      · rintro k y pk σ H4 hy ⟨v4, v5, kw', rfl, sm4, hD4, hk4, hz4⟩ hpk
        have hkl : k < l.length := by
          have := (List.getElem?_eq_some_iff.mp hy).1
          rw [nV_len] at this; exact this
        have hg : l[k]? = some (l.getD k 0) := by simp [List.getD, hkl]
        have hy' : y = .int ((l.getD k 0 : Nat) : Int) := by
          rw [nV_get hg] at hy
          exact (Option.some.inj hy).symm
        subst hy'
        have hml : (k + 1) % l.length < l.length := Nat.mod_lt _ (by omega)
        have hg2 : l[(k + 1) % l.length]? = some (l.getD ((k + 1) % l.length) 0) := by simp [List.getD, hml]
        have hsd := sides_get l k hkl
        generalize l.getD k 0 = c at hg hsd
        generalize l.getD ((k + 1) % l.length) 0 = d at hg2 hsd
        (generalize hNX : upd H4 pk _ = H5; have s5 := same_of hpk hNX; have y5 := at_of hNX; clear hNX)
        have sm5 := sm4.trans s5
        refine ⟨pk, _, rfl, SqT.of y5, rfl, _, _, rfl, _, _, rfl, rfl, ?_⟩
        refine ⟨_, rfl, _, rfl, lit2, fun t6 g6 => ?_⟩
        (generalize hNX : upd H5 t6 _ = H6; have s6 := same_of g6 hNX; have y6 := at_of hNX; clear hNX)
        have sm6 := sm5.trans s6
        refine ⟨_, rfl, _, rfl, _, rfl, _, rfl, _, _, rfl, rfl, _, rfl, b, _, rfl, .inl (hbl _ sm6), _, _, rfl, rfl, (by rw [nV_len]; show (0 : Int) < _; omega), b, _, ((((k + 1) % l.length : Nat)) : Int), .int (d : Int), rfl, ?_, hbl _ sm6, atI_nat (nV_get hg2), lit2, fun t7 g7 => ?_⟩
        · rw [nV_len]
          show V.int (((k : Int) + 1) % (l.length : Int)) = _
          congr 1
        (generalize hNX : upd H6 t7 _ = H7; have s7 := same_of g7 hNX; have y7 := at_of hNX; clear hNX)
        have hl7 := length_putK kw' (ky c d) (V.ref t6)
        refine ⟨D, _, rfl, DPut.t (k := ky c d) (s7 _ _ (s6 _ _ (s5 _ _ hD4))) y7 (by omega), ?_⟩
        (generalize hNX : upd H7 D _ = H8; have k8 := wr_of hNX; have y8 := at_of hNX; clear hNX)
        refine ⟨_, _, _, rfl, fun b' o e => (k8 b' (ne_of_none e h1)).trans (s7 _ _ (sm6 _ _ e)), y8, ?_, by omega⟩
        refine (hk4.put c d _).congr fun s => ?_
        rw [List.take_add_one, hsd, Bool.eq_iff_iff]
        simp only [Bool.or_eq_true, decide_eq_true_eq, List.mem_append, Option.toList_some, List.mem_singleton, or_assoc]
      · rintro σ H4 ⟨v4, v5, kw', rfl, sm4, hD4, hk4, hz4⟩
        rw [nV_len] at hk4 hz4
        rw [List.take_of_length_le (by rw [sides_len]; omega)] at hk4
        refine ⟨_, _, _, _, kw', rfl, sm4, hD4, ?_, ?_⟩
        · rw [ed]
          refine hk4.congr fun s => ?_
          rw [wl_cons, Bool.eq_iff_iff]
          simp only [Bool.or_eq_true, decide_eq_true_eq, List.mem_append]
          exact or_comm
        · rw [ed, List.map_cons, List.sum_cons]; omega
    · rintro σ H2 ⟨v2, v3, v4, v5, kw, rfl, sm, hD, hk, hz⟩
      rw [hlen, Nat.sub_self, List.drop_zero] at hk
      exact ⟨_, rfl, q D kw H2 h1 sm hD hk⟩
end
end K31
end
section
set_option Elab.async false
set_option linter.all false
set_option maxRecDepth 100000
set_option maxHeartbeats 4000000
namespace K31
open PySem L2 K51
def But (L : Addr) (H H' : Hp) : Prop := ∀ b o, b ≠ L → H b = some o → H' b = some o
theorem But.same {L : Addr} {H H1 H2 : Hp} (h : But L H H1) (s : Same H1 H2) : But L H H2 := fun b o n e => s _ _ (h b o n e)
theorem But.wr {L : Addr} {H H1 H2 : Hp} (h : But L H H1) (k : ∀ b, b ≠ L → H2 b = H1 b) : But L H H2 := fun b o n e => (k b n).trans (h b o n e)
theorem But.free {L : Addr} {H H1 : Hp} {p : Addr} {o : HO} (h : But L H H1) (hL : H1 L = some o) (g : H1 p = none) : H p = none := by
  cases e : H p with
  | none => rfl
  | some u =>
    exfalso
    by_cases z : p = L
    · rw [z, hL] at g; cases g
    · rw [h p u z e] at g; cases g
def spStep : Sp := fun vs H Q _ => ∃ (L t : Addr) (vl : List V) (ah : Lps) (loop : List Nat) (a : Lt) (n x : Nat), vs = [.ref L, .ref t, .int (x : Int)] ∧ H L = some (.lst vl) ∧ LpsAt H vl (ah ++ [loop]) ∧ H t = some (.tup (ltV a)) ∧ Lets a ∧ thirdOf ah loop a n = some x ∧ (∀ l ∈ ah ++ [loop], 2 ≤ l.length ∧ l.length ≤ 1000) ∧ ah.length ≤ 900 ∧
  ∀ H' vl', But L H H' → H' L = some (.lst vl') → LpsAt H' vl' (stepOf ah loop a x) → (∀ b, V.ref b ∈ vl' → V.ref b ∈ vl ∨ H b = none) → Q .non H'
section
variable {P : Program} {w : World} {K : PySem.W.Frag} {mg : Str → Option Value} {base : Heap}
theorem scStep : FnScope ["_law_loops", "_law_letter", "_law_x", "_law_loop", "_law_a", "_law_b", "_law_k", "_law_other"] ["_law_loops", "_law_letter", "_law_x"] (defScope sStep) := ⟨rfl, rfl, rfl, by decide +kernel, rfl, by decide +kernel, by decide +kernel⟩
theorem ok_step {f : Addr} {fd : FuncData} (U : Fun K "_law_step" "_law_step" sStep f fd) (T : TxtN mg) : FnOk P w K mg base CX0 1 f fd ["_law_loops", "_law_letter", "_law_x"] spStep := by
  refine U.ok scStep (fun vs H Q E h => ?_) (fun cdv A outer s H vs Q E hr h => ?_)
  · obtain ⟨L, t, vl, ah, loop, a, n, x, rfl, _⟩ := h
    rfl
  · obtain ⟨L, t, vl, ah, loop, a, n, x, rfl, hL, hp, ht, ha, hx, hb, hn, q⟩ := h
    refine ⟨_, pss_cons (ps_set (i := 3) scStep.nd rfl (Or.inl rfl) (pe_bm0 PySem.F.plainAttrs_list PySem.F.slot_list_pop PySem.F.type_list_pop mt_pop (pv 0)))
      (pss_cons (ps_asg (pe_slice sl_list (pv 3) po_none (po_some pe_int)) (pg_lst rfl (pgs_cons (pg_name (i := 4) scStep.nd rfl (Or.inl rfl)) (pgs_cons (pg_name (i := 5) scStep.nd rfl (Or.inl rfl)) pgs_nil))))
      (pss_cons (ps_if (pt_cmpR op_eq (pe_ix ix_tup (pv 1) pe_int (fun _ _ => rfl)) pe_str (nomark _)) (pss_one (ps_expr (pe_bm PySem.F.plainAttrs_list PySem.F.slot_list_append PySem.F.type_list_append mt_append (pv 0) (pa_cons ((pe_op op_cat (pe_lst (pa_cons (pv 4) (pa_cons (pv 2) pa_nil))) (pe_slice sl_list (pv 3) (po_some pe_int) po_none))) pa_nil)))) pss_nil)
      (pss_cons (ps_if (pt_cmpR op_eq (pe_ix ix_tup (pv 1) pe_int (fun _ _ => rfl)) pe_str (nomark _)) (pss_one (ps_expr (pe_bm PySem.F.plainAttrs_list PySem.F.slot_list_append PySem.F.type_list_append mt_append (pv 0) (pa_cons ((pe_op op_cat (pe_lst (pa_cons (pv 4) pa_nil)) (pe_slice sl_list (pv 3) (po_some pe_int) po_none))) pa_nil)))) pss_nil)
      (pss_cons (ps_if (pt_cmpR op_eq (pe_ix ix_tup (pv 1) pe_int (fun _ _ => rfl)) pe_str (nomark _)) (pss_one (ps_expr (pe_bm PySem.F.plainAttrs_list PySem.F.slot_list_append PySem.F.type_list_append mt_append (pv 0) (pa_cons ((pe_op op_cat (pe_lst (pa_cons (pv 2) pa_nil)) (pe_slice sl_list (pv 3) (po_some pe_int) (po_some (pe_un un_neg pe_int))))) pa_nil)))) pss_nil)
      (pss_cons (ps_if (PW.pt (pw_and (pt_cmpR op_eq (pe_ix ix_tup (pv 1) pe_int (fun _ _ => rfl)) pe_str (nomark _)) (pw_and1 (pt_cmpR op_eq (pe_ix ix_tup (pv 1) pe_int (fun _ _ => rfl)) pe_int (nomark _))))) (pss_cons (ps_expr (pe_bm PySem.F.plainAttrs_list PySem.F.slot_list_append PySem.F.type_list_append mt_append (pv 0) (pa_cons ((pe_op op_cat (pe_lst (pa_cons (pv 4) pa_nil)) (pe_slice sl_list (pv 3) (po_some (pe_ix ix_tup (pv 1) pe_int (fun _ _ => rfl))) po_none))) pa_nil))) (pss_one (ps_expr (pe_bm PySem.F.plainAttrs_list PySem.F.slot_list_append PySem.F.type_list_append mt_append (pv 0) (pa_cons ((pe_op op_cat (pe_lst (pa_cons (pv 2) pa_nil)) (pe_slice sl_list (pv 3) (po_some pe_int) (po_some (pe_ix ix_tup (pv 1) pe_int (fun _ _ => rfl)))))) pa_nil))))) pss_nil)
      (pss_one (ps_if (PW.pt (pw_and (pt_cmpR op_eq (pe_ix ix_tup (pv 1) pe_int (fun _ _ => rfl)) pe_str (nomark _)) (pw_and1 (pt_cmpR op_gt (pe_ix ix_tup (pv 1) pe_int (fun _ _ => rfl)) pe_int (nomark _)))))
        (pss_cons (ps_set (i := 6) scStep.nd rfl (Or.inl rfl) (pe_ix ix_tup (pv 1) pe_int (fun _ _ => rfl)))
        (pss_cons (ps_set (i := 7) scStep.nd rfl (Or.inl rfl) (pe_bm PySem.F.plainAttrs_list PySem.F.slot_list_pop PySem.F.type_list_pop mt_popAt (pv 0) (pa_cons (pe_op op_sub (pe_callB call_len_seq (by rfl) T.len PySem.boot_len (pa_cons (pv 0) pa_nil)) (pe_ix ix_tup (pv 1) pe_int (fun _ _ => rfl))) pa_nil)))
        (pss_one (ps_expr (pe_bm PySem.F.plainAttrs_list PySem.F.slot_list_append PySem.F.type_list_append mt_append (pv 0) (pa_cons ((pe_op op_cat (pe_op op_cat (pe_op op_cat (pe_op op_cat (pe_lst (pa_cons (pv 4) pa_nil)) (pe_slice sl_list (pv 7) (po_some (pv 6)) po_none)) (pe_slice sl_list (pv 7) po_none (po_some (pv 6)))) (pe_lst (pa_cons (pv 2) pa_nil))) (pe_slice sl_list (pv 3) (po_some pe_int) po_none))) pa_nil)))))) pss_nil))))))), ?_⟩
    have hline := line5000
    obtain ⟨va, v, rfl, hpa, B, rfl, hB⟩ := pr_snoc hp
    have hla := pr_len hpa
    have hbl := hb loop (by simp)
    have hg := get_g1 hbl.1
    rw [ltV_eq] at ht
    have a0 : atI (V.str (txt [sgn a]) :: ltR a) 0 = some (V.str (txt [sgn a])) := atI0 _ _
    have inL : ∀ b, V.ref b ∈ va → b ≠ L := fun b hb' z => by
      obtain ⟨l, hl, e⟩ := pr_mem hpa hb'
      rw [z, hL] at e
      injection e with e
      injection e with e
      have h2 := (hb l (List.mem_append_left _ hl)).1
      cases l with
      | nil => simp at h2
      | cons c l =>
        cases hpa with
        | nil => cases hb'
        | cons hq0 _ =>
          obtain ⟨b', e1, _⟩ := hq0
          rw [e1] at e
          simp [nV] at e
    have nBL : B ≠ L := fun z => by
      rw [z, hL] at hB
      injection hB with e
      injection e with e
      have h2 := hbl.1
      cases loop with
      | nil => simp at h2
      | cons c l =>
        cases hpa with
        | nil => simp [nV] at e
        | cons hq0 _ =>
          obtain ⟨b', e1, _⟩ := hq0
          rw [e1] at e
          simp [nV] at e
    have nTL : t ≠ L := ne_of ht hL (by intro z; cases z)
    refine ⟨_, rfl, .inl ⟨rfl, _, SqL.of hL⟩, L, _, _, rfl, rfl, hL, (by simp : (va ++ [V.ref B])[(va ++ [V.ref B]).length - 1]? = some (V.ref B)), ?_⟩
    rw [List.dropLast_concat]
    (generalize hNX : upd H L _ = H1; have k1 := wr_of hNX; have y1 := at_of hNX; clear hNX)
    have b1 : But L H H1 := fun b o n e => (k1 b n).trans e
    refine ⟨_, rfl, 2, rfl, B, _, rfl, SqL.of (b1 _ _ nBL hB), fun p2 h2 => ?_⟩
    rw [cN_to loop 2 2 rfl]
    (generalize hNX : upd H1 p2 _ = H2; have s2 := same_of h2 hNX; have y2 := at_of hNX; clear hNX)
    have b2 := b1.same s2
    have eT : loop.take 2 = [g1 loop, g2 loop] := by
      obtain ⟨r, e⟩ := two hbl.1
      rw [e]; rfl
    rw [eT] at y2
    refine ⟨p2, _, rfl, SqL.of y2, rfl, _, _, rfl, _, _, rfl, rfl, ?_⟩
    have hL2 := s2 _ _ y1
    have ht2 := b2 _ _ nTL ht
    have hB2 := b2 _ _ nBL hB
    clear y2
    have fin : ∀ (H' : Hp) (p : Addr) (l : List Nat), But L H H' → H' p = some (.lst (nV l)) → H p = none → H' L = some (.lst (va ++ [.ref p])) → stepOf ah loop a x = ah ++ [l] → Q .non H' := fun H' p l bb hp' hn' hl' e => by
      refine q H' _ bb hl' ?_ ?_
      · rw [e]
        exact pr_app (LpsAt.move hpa fun b o hb e => bb b o (inL b hb) e) (.cons ⟨p, rfl, hp'⟩ .nil)
      · intro b hb
        rcases List.mem_append.mp hb with z | z
        · exact .inl (List.mem_append_left _ z)
        · have : b = p := by simpa using z
          rw [this]; exact .inr hn'
    cases a with
    | sg c =>
      simp only [Lets] at ha
      simp only [thirdOf] at hx
      rcases ha with rfl | rfl | rfl | rfl
      · refine ⟨_, rfl, t, _, _, _, rfl, rfl, SqT.of ht2, a0, rfl, _, rfl, ?_⟩
        rw [show (Str.ofString "C") = txt [67] from sC, decT, decide_eq_true (show sgn (.sg 67) = 67 from rfl)]
        refine iteT ?_
        refine ⟨_, rfl, .inl ⟨rfl, _, SqL.of hL2⟩, _, rfl, _, rfl, lit2, fun p3 h3 => ?_⟩
        (generalize hNX : upd H2 p3 _ = H3; have s3 := same_of h3 hNX; have y3 := at_of hNX; clear hNX)
        have b3 := b2.same s3
        refine ⟨_, rfl, 1, rfl, B, _, rfl, SqL.of (s3 _ _ hB2), fun p4 h4 => ?_⟩
        rw [cN_from loop 1 1 rfl]
        (generalize hNX : upd H3 p4 _ = H4; have s4 := same_of h4 hNX; have y4 := at_of hNX; clear hNX)
        have z3 : H4 p3 = some (.lst (nV [g1 loop, x])) := s4 _ _ y3
        refine ⟨p3, p4, _, _, rfl, rfl, z3, y4, (by rw [nV_len, nV_len, List.length_drop]; show 2 + _ ≤ _; omega), fun p5 h5 => ?_⟩
        rw [nV_app]
        have n5 := (b3.same s4).free (s4 _ _ (s3 _ _ hL2)) h5
        (generalize hNX : upd H4 p5 _ = H5; have s5 := same_of h5 hNX; have y5 := at_of hNX; clear hNX)
        have b5 := (b3.same s4).same s5
        have hL5 := s5 _ _ (s4 _ _ (s3 _ _ hL2))
        refine ⟨L, _, _, rfl, rfl, hL5, by omega, ?_⟩
        (generalize hNX : upd H5 L _ = H6; have k6 := wr_of hNX; have y6 := at_of hNX; clear hNX)
        have b6 := b5.wr k6
        have n5L : p5 ≠ L := Ne.symm (ne_of_none hL n5)
        have t6 : H6 t = some (.tup (V.str (txt [sgn (.sg 67)]) :: ltR (.sg 67))) := b6 _ _ nTL ht
        refine ⟨_, rfl, t, _, _, _, rfl, rfl, SqT.of t6, a0, rfl, _, rfl, ?_⟩
        rw [show (Str.ofString "R") = txt [82] from sR, decT, decide_eq_false (show ¬ sgn (.sg 67) = 82 by decide)]
        refine iteF ?_
        refine ⟨_, rfl, t, _, _, _, rfl, rfl, SqT.of t6, a0, rfl, _, rfl, ?_⟩
        rw [show (Str.ofString "L") = txt [76] from sL, decT, decide_eq_false (show ¬ sgn (.sg 67) = 76 by decide)]
        refine iteF ?_
        refine ⟨_, rfl, t, _, _, _, rfl, rfl, SqT.of t6, a0, rfl, _, rfl, ?_⟩
        rw [show (Str.ofString "S") = txt [83] from s83, decT, decide_eq_false (show ¬ sgn (.sg 67) = 83 by decide)]
        refine iteF (iteF ?_)
        refine ⟨_, rfl, t, _, _, _, rfl, rfl, SqT.of t6, a0, rfl, _, rfl, ?_⟩
        rw [decT, decide_eq_false (show ¬ sgn (.sg 67) = 83 by decide)]
        refine iteF (iteF ?_)
        refine fin H6 p5 _ b6 ((k6 p5 n5L).trans y5) n5 y6 ?_
        obtain ⟨r, e⟩ := two hbl.1
        show ah ++ [loop.take 1 ++ x :: loop.drop 1] = _
        rw [e]
        rfl
      · refine ⟨_, rfl, t, _, _, _, rfl, rfl, SqT.of ht2, a0, rfl, _, rfl, ?_⟩
        rw [show (Str.ofString "C") = txt [67] from sC, decT, decide_eq_false (show ¬ sgn (.sg 82) = 67 by decide)]
        refine iteF ?_
        refine ⟨_, rfl, t, _, _, _, rfl, rfl, SqT.of ht2, a0, rfl, _, rfl, ?_⟩
        rw [show (Str.ofString "R") = txt [82] from sR, decT, decide_eq_true (show sgn (.sg 82) = 82 from rfl)]
        refine iteT ?_
        simp at hx
        refine ⟨_, rfl, .inl ⟨rfl, _, SqL.of hL2⟩, _, rfl, lit1, fun p3 h3 => ?_⟩
        (generalize hNX : upd H2 p3 _ = H3; have s3 := same_of h3 hNX; have y3 := at_of hNX; clear hNX)
        have b3 := b2.same s3
        refine ⟨_, rfl, 2, rfl, B, _, rfl, SqL.of (s3 _ _ hB2), fun p4 h4 => ?_⟩
        rw [cN_from loop 2 2 rfl]
        (generalize hNX : upd H3 p4 _ = H4; have s4 := same_of h4 hNX; have y4 := at_of hNX; clear hNX)
        have z3 : H4 p3 = some (.lst (nV [g1 loop])) := s4 _ _ y3
        refine ⟨p3, p4, _, _, rfl, rfl, z3, y4, (by rw [nV_len, nV_len, List.length_drop]; show 1 + _ ≤ _; omega), fun p5 h5 => ?_⟩
        rw [nV_app]
        have n5 := (b3.same s4).free (s4 _ _ (s3 _ _ hL2)) h5
        (generalize hNX : upd H4 p5 _ = H5; have s5 := same_of h5 hNX; have y5 := at_of hNX; clear hNX)
        have b5 := (b3.same s4).same s5
        have hL5 := s5 _ _ (s4 _ _ (s3 _ _ hL2))
        refine ⟨L, _, _, rfl, rfl, hL5, by omega, ?_⟩
        (generalize hNX : upd H5 L _ = H6; have k6 := wr_of hNX; have y6 := at_of hNX; clear hNX)
        have b6 := b5.wr k6
        have n5L : p5 ≠ L := Ne.symm (ne_of_none hL n5)
        have t6 : H6 t = some (.tup (V.str (txt [sgn (.sg 82)]) :: ltR (.sg 82))) := b6 _ _ nTL ht
        refine ⟨_, rfl, t, _, _, _, rfl, rfl, SqT.of t6, a0, rfl, _, rfl, ?_⟩
        rw [show (Str.ofString "L") = txt [76] from sL, decT, decide_eq_false (show ¬ sgn (.sg 82) = 76 by decide)]
        refine iteF ?_
        refine ⟨_, rfl, t, _, _, _, rfl, rfl, SqT.of t6, a0, rfl, _, rfl, ?_⟩
        rw [show (Str.ofString "S") = txt [83] from s83, decT, decide_eq_false (show ¬ sgn (.sg 82) = 83 by decide)]
        refine iteF (iteF ?_)
        refine ⟨_, rfl, t, _, _, _, rfl, rfl, SqT.of t6, a0, rfl, _, rfl, ?_⟩
        rw [decT, decide_eq_false (show ¬ sgn (.sg 82) = 83 by decide)]
        refine iteF (iteF ?_)
        refine fin H6 p5 _ b6 ((k6 p5 n5L).trans y5) n5 y6 ?_
        obtain ⟨r, e⟩ := two hbl.1
        show ah ++ [loop.take 1 ++ loop.drop 2] = _
        rw [e]
        rfl
      · refine ⟨_, rfl, t, _, _, _, rfl, rfl, SqT.of ht2, a0, rfl, _, rfl, ?_⟩
        rw [show (Str.ofString "C") = txt [67] from sC, decT, decide_eq_false (show ¬ sgn (.sg 76) = 67 by decide)]
        refine iteF ?_
        refine ⟨_, rfl, t, _, _, _, rfl, rfl, SqT.of ht2, a0, rfl, _, rfl, ?_⟩
        rw [show (Str.ofString "R") = txt [82] from sR, decT, decide_eq_false (show ¬ sgn (.sg 76) = 82 by decide)]
        refine iteF ?_
        refine ⟨_, rfl, t, _, _, _, rfl, rfl, SqT.of ht2, a0, rfl, _, rfl, ?_⟩
        rw [show (Str.ofString "L") = txt [76] from sL, decT, decide_eq_true (show sgn (.sg 76) = 76 from rfl)]
        refine iteT ?_
        refine ⟨_, rfl, .inl ⟨rfl, _, SqL.of hL2⟩, _, rfl, lit1, fun p3 h3 => ?_⟩
        (generalize hNX : upd H2 p3 _ = H3; have s3 := same_of h3 hNX; have y3 := at_of hNX; clear hNX)
        have b3 := b2.same s3
        refine ⟨_, rfl, 1, rfl, _, rfl, _, rfl, B, _, rfl, SqL.of (s3 _ _ hB2), fun p4 h4 => ?_⟩
        rw [cN_in]
        (generalize hNX : upd H3 p4 _ = H4; have s4 := same_of h4 hNX; have y4 := at_of hNX; clear hNX)
        have z3 : H4 p3 = some (.lst (nV [x])) := s4 _ _ y3
        refine ⟨p3, p4, _, _, rfl, rfl, z3, y4, (by rw [nV_len, nV_len, List.length_dropLast, List.length_drop]; show 1 + _ ≤ _; omega), fun p5 h5 => ?_⟩
        rw [nV_app]
        have n5 := (b3.same s4).free (s4 _ _ (s3 _ _ hL2)) h5
        (generalize hNX : upd H4 p5 _ = H5; have s5 := same_of h5 hNX; have y5 := at_of hNX; clear hNX)
        have b5 := (b3.same s4).same s5
        have hL5 := s5 _ _ (s4 _ _ (s3 _ _ hL2))
        refine ⟨L, _, _, rfl, rfl, hL5, by omega, ?_⟩
        (generalize hNX : upd H5 L _ = H6; have k6 := wr_of hNX; have y6 := at_of hNX; clear hNX)
        have b6 := b5.wr k6
        have n5L : p5 ≠ L := Ne.symm (ne_of_none hL n5)
        have t6 : H6 t = some (.tup (V.str (txt [sgn (.sg 76)]) :: ltR (.sg 76))) := b6 _ _ nTL ht
        refine ⟨_, rfl, t, _, _, _, rfl, rfl, SqT.of t6, a0, rfl, _, rfl, ?_⟩
        rw [show (Str.ofString "S") = txt [83] from s83, decT, decide_eq_false (show ¬ sgn (.sg 76) = 83 by decide)]
        refine iteF (iteF ?_)
        refine ⟨_, rfl, t, _, _, _, rfl, rfl, SqT.of t6, a0, rfl, _, rfl, ?_⟩
        rw [decT, decide_eq_false (show ¬ sgn (.sg 76) = 83 by decide)]
        refine iteF (iteF ?_)
        exact fin H6 p5 _ b6 ((k6 p5 n5L).trans y5) n5 y6 rfl
      · refine ⟨_, rfl, t, _, _, _, rfl, rfl, SqT.of ht2, a0, rfl, _, rfl, ?_⟩
        rw [show (Str.ofString "C") = txt [67] from sC, decT, decide_eq_false (show ¬ sgn (.sg 69) = 67 by decide)]
        refine iteF ?_
        refine ⟨_, rfl, t, _, _, _, rfl, rfl, SqT.of ht2, a0, rfl, _, rfl, ?_⟩
        rw [show (Str.ofString "R") = txt [82] from sR, decT, decide_eq_false (show ¬ sgn (.sg 69) = 82 by decide)]
        refine iteF ?_
        refine ⟨_, rfl, t, _, _, _, rfl, rfl, SqT.of ht2, a0, rfl, _, rfl, ?_⟩
        rw [show (Str.ofString "L") = txt [76] from sL, decT, decide_eq_false (show ¬ sgn (.sg 69) = 76 by decide)]
        refine iteF ?_
        refine ⟨_, rfl, t, _, _, _, rfl, rfl, SqT.of ht2, a0, rfl, _, rfl, ?_⟩
        rw [show (Str.ofString "S") = txt [83] from s83, decT, decide_eq_false (show ¬ sgn (.sg 69) = 83 by decide)]
        refine iteF (iteF ?_)
        refine ⟨_, rfl, t, _, _, _, rfl, rfl, SqT.of ht2, a0, rfl, _, rfl, ?_⟩
        rw [decT, decide_eq_false (show ¬ sgn (.sg 69) = 83 by decide)]
        refine iteF (iteF ?_)
        exact q H2 va b2 hL2 (LpsAt.move hpa fun b o hb e => b2 b o (inL b hb) e) fun b hb => .inl (List.mem_append_left _ hb)
    | sp j k =>
      have a1 : atI (V.str (txt [sgn (.sp j k)]) :: ltR (.sp j k)) 1 = some (V.int (j : Nat)) := rfl
      have a2 : atI (V.str (txt [sgn (.sp j k)]) :: ltR (.sp j k)) 2 = some (V.int (k : Nat)) := rfl
      refine ⟨_, rfl, t, _, _, _, rfl, rfl, SqT.of ht2, a0, rfl, _, rfl, ?_⟩
      rw [show (Str.ofString "C") = txt [67] from sC, decT, decide_eq_false (show ¬ sgn (.sp j k) = 67 by simp [sgn])]
      refine iteF ?_
      refine ⟨_, rfl, t, _, _, _, rfl, rfl, SqT.of ht2, a0, rfl, _, rfl, ?_⟩
      rw [show (Str.ofString "R") = txt [82] from sR, decT, decide_eq_false (show ¬ sgn (.sp j k) = 82 by simp [sgn])]
      refine iteF ?_
      refine ⟨_, rfl, t, _, _, _, rfl, rfl, SqT.of ht2, a0, rfl, _, rfl, ?_⟩
      rw [show (Str.ofString "L") = txt [76] from sL, decT, decide_eq_false (show ¬ sgn (.sp j k) = 76 by simp [sgn])]
      refine iteF ?_
      refine ⟨_, rfl, t, _, _, _, rfl, rfl, SqT.of ht2, a0, rfl, _, rfl, ?_⟩
      rw [show (Str.ofString "S") = txt [83] from s83, decT, decide_eq_true (show sgn (.sp j k) = 83 from rfl)]
      refine iteT ?_
      refine ⟨_, rfl, t, _, _, _, rfl, rfl, SqT.of ht2, a1, rfl, _, rfl, ?_⟩
      rw [decI]
      simp only [thirdOf] at hx
      by_cases hj : j = 0
      · subst hj
        rw [decide_eq_true (show ((0 : Nat) : Int) = 0 from rfl)]
        refine iteT ?_
        rw [if_pos rfl] at hx
        by_cases hk : 2 < k ∧ k + 1 < loop.length
        · rw [if_pos hk] at hx
          refine ⟨_, rfl, .inl ⟨rfl, _, SqL.of hL2⟩, _, rfl, lit1, fun p3 h3 => ?_⟩
          (generalize hNX : upd H2 p3 _ = H3; have s3 := same_of h3 hNX; have y3 := at_of hNX; clear hNX)
          have b3 := b2.same s3
          refine ⟨_, rfl, _, rfl, t, _, _, _, rfl, rfl, SqT.of (s3 _ _ ht2), a2, _, rfl, B, _, rfl, SqL.of (s3 _ _ hB2), fun p4 h4 => ?_⟩
          rw [cN_from loop (k : Int) k rfl]
          (generalize hNX : upd H3 p4 _ = H4; have s4 := same_of h4 hNX; have y4 := at_of hNX; clear hNX)
          have z3 : H4 p3 = some (.lst (nV [g1 loop])) := s4 _ _ y3
          refine ⟨p3, p4, _, _, rfl, rfl, z3, y4, (by rw [nV_len, nV_len, List.length_drop]; show 1 + _ ≤ _; omega), fun p5 h5 => ?_⟩
          rw [nV_app]
          have n5 := (b3.same s4).free (s4 _ _ (s3 _ _ hL2)) h5
          (generalize hNX : upd H4 p5 _ = H5; have s5 := same_of h5 hNX; have y5 := at_of hNX; clear hNX)
          have b5 := (b3.same s4).same s5
          have hL5 := s5 _ _ (s4 _ _ (s3 _ _ hL2))
          refine ⟨L, _, _, rfl, rfl, hL5, by omega, ?_⟩
          (generalize hNX : upd H5 L _ = H6; have k6 := wr_of hNX; have y6 := at_of hNX; clear hNX)
          have b6 := b5.wr k6
          have n5L : p5 ≠ L := Ne.symm (ne_of_none hL n5)
          have t6 := b6 _ _ nTL ht
          have hB6 := b6 _ _ nBL hB
          refine ⟨_, rfl, .inl ⟨rfl, _, SqL.of y6⟩, _, rfl, lit1, fun p7 h7 => ?_⟩
          (generalize hNX : upd H6 p7 _ = H7; have s7 := same_of h7 hNX; have y7 := at_of hNX; clear hNX)
          have b7 := b6.same s7
          refine ⟨_, rfl, 1, rfl, _, rfl, t, _, _, _, rfl, rfl, SqT.of (s7 _ _ t6), a2, _, rfl, B, _, rfl, SqL.of (s7 _ _ hB6), fun p8 h8 => ?_⟩
          rw [cN_mid loop 1 (k : Int) 1 k rfl rfl]
          (generalize hNX : upd H7 p8 _ = H8; have s8 := same_of h8 hNX; have y8 := at_of hNX; clear hNX)
          have z7 : H8 p7 = some (.lst (nV [x])) := s8 _ _ y7
          refine ⟨p7, p8, _, _, rfl, rfl, z7, y8, (by rw [nV_len, nV_len, List.length_drop, List.length_take]; show 1 + _ ≤ _; omega), fun p9 h9 => ?_⟩
          rw [nV_app]
          have hL8 := s8 _ _ (s7 _ _ y6)
          have n9 := (b7.same s8).free hL8 h9
          (generalize hNX : upd H8 p9 _ = H9; have s9 := same_of h9 hNX; have y9 := at_of hNX; clear hNX)
          have b9 := (b7.same s8).same s9
          refine ⟨L, _, _, rfl, rfl, s9 _ _ hL8, (by rw [List.length_append, List.length_singleton]; omega), ?_⟩
          (generalize hNX : upd H9 L _ = Ha; have ka := wr_of hNX; have ya := at_of hNX; clear hNX)
          have ba := b9.wr ka
          have n9L : p9 ≠ L := Ne.symm (ne_of_none hL n9)
          have ta := ba _ _ nTL ht
          refine ⟨_, rfl, t, _, _, _, rfl, rfl, SqT.of ta, a0, rfl, _, rfl, ?_⟩
          rw [decT, decide_eq_true (show sgn (.sp 0 k) = 83 from rfl)]
          refine iteT ?_
          refine ⟨_, rfl, t, _, _, _, rfl, rfl, SqT.of ta, a1, _, _, rfl, rfl, _, rfl, ?_⟩
          rw [decide_eq_false (by omega)]
          refine iteF ?_
          have z5 : Ha p5 = some (.lst (nV ([g1 loop] ++ loop.drop k))) := (ka p5 n5L).trans (s9 _ _ (s8 _ _ (s7 _ _ ((k6 p5 n5L).trans y5))))
          have z9 : Ha p9 = some (.lst (nV ([x] ++ (loop.take k).drop 1))) := (ka p9 n9L).trans y9
          refine q Ha _ ba ya ?_ ?_
          · have e : stepOf ah loop (.sp 0 k) x = ah ++ [loop.take 1 ++ loop.drop k] ++ [x :: (loop.take k).drop 1] := by
              show ah ++ [loop.take 1 ++ loop.drop k, x :: (loop.take k).drop 1] = _
              simp
            rw [e]
            have e1 : loop.take 1 = [g1 loop] := by
              obtain ⟨r, e⟩ := two hbl.1
              rw [e]; rfl
            rw [e1]
            exact pr_app (pr_app (LpsAt.move hpa fun b o hb e => ba b o (inL b hb) e) (.cons ⟨p5, rfl, z5⟩ .nil)) (.cons ⟨p9, rfl, z9⟩ .nil)
          · intro b hb
            rcases List.mem_append.mp hb with z | z
            · rcases mem_new n5 b z with z | z
              · exact .inl (List.mem_append_left _ z)
              · exact .inr z
            · have : b = p9 := by simpa using z
              rw [this]; exact .inr n9
        · rw [if_neg hk] at hx; cases hx
      · rw [decide_eq_false (by omega)]
        refine iteF ?_
        rw [if_neg hj] at hx
        by_cases hk : j ≤ ah.length
        · rw [if_pos hk] at hx
          refine ⟨_, rfl, t, _, _, _, rfl, rfl, SqT.of ht2, a0, rfl, _, rfl, ?_⟩
          rw [decT, decide_eq_true (show sgn (.sp j k) = 83 from rfl)]
          refine iteT ?_
          refine ⟨_, rfl, t, _, _, _, rfl, rfl, SqT.of ht2, a1, _, _, rfl, rfl, _, rfl, ?_⟩
          rw [decide_eq_true (by omega)]
          refine iteT ?_
          have hi : ah.length - j < ah.length := by omega
          have ho : ah[ah.length - j]? = some (ah.getD (ah.length - j) []) := by simp [List.getD, hi]
          have hbo := hb _ (List.mem_append_left _ (List.mem_of_getElem? ho))
          obtain ⟨v, hv, G, rfl, hG⟩ := pr_get hpa ho
          have nGL := inL G (List.mem_of_getElem? hv)
          have es : stepOf ah loop (.sp j k) x = ah.eraseIdx (ah.length - j) ++ [loop.take 1 ++ (ah.getD (ah.length - j) []).drop k ++ (ah.getD (ah.length - j) []).take k ++ x :: loop.drop 1] := by
            unfold stepOf
            dsimp only
            rw [if_neg hj]
          generalize ah.getD (ah.length - j) [] = o at *
          refine ⟨_, rfl, t, _, _, _, rfl, rfl, SqT.of ht2, a2, ?_⟩
          have esq : seqIndex? ((va.length : Int) - (j : Int)) va.length = some (ah.length - j) := by
            refine (ixN_seq (n := va.length) (i := (va.length : Int) - (j : Int)) (j := ah.length - j) ?_).1
            unfold ixN
            rw [if_pos (by omega), if_pos (by omega)]
            congr 1
            omega
          refine ⟨_, rfl, .inl ⟨rfl, _, SqL.of hL2⟩, _, rfl, L, _, rfl, .inl (SqL.of hL2), _, rfl, t, _, _, _, rfl, rfl, SqT.of ht2, a1, _, _, rfl, rfl, L, _, _, ah.length - j, V.ref G, rfl, rfl, hL2, by omega, by omega, esq, hv, ?_⟩
          (generalize hNX : upd H2 L _ = H3; have k3 := wr_of hNX; have y3 := at_of hNX; clear hNX)
          have b3 := b2.wr k3
          have t3 := b3 _ _ nTL ht
          have hB3 := b3 _ _ nBL hB
          have hG3 := b3 _ _ nGL hG
          refine ⟨_, rfl, .inl ⟨rfl, _, SqL.of y3⟩, _, rfl, lit1, fun p4 h4 => ?_⟩
          (generalize hNX : upd H3 p4 _ = H4; have s4 := same_of h4 hNX; have y4 := at_of hNX; clear hNX)
          refine ⟨_, rfl, _, rfl, _, rfl, G, _, rfl, SqL.of (s4 _ _ hG3), fun p5 h5 => ?_⟩
          rw [cN_from o (k : Int) k rfl]
          (generalize hNX : upd H4 p5 _ = H5; have s5 := same_of h5 hNX; have y5 := at_of hNX; clear hNX)
          have z4 : H5 p4 = some (.lst (nV [g1 loop])) := s5 _ _ y4
          refine ⟨p4, p5, _, _, rfl, rfl, z4, y5, (by rw [nV_len, nV_len, List.length_drop]; show 1 + _ ≤ _; omega), fun p6 h6 => ?_⟩
          rw [nV_app]
          (generalize hNX : upd H5 p6 _ = H6; have s6 := same_of h6 hNX; have y6 := at_of hNX; clear hNX)
          have q36 := (s4.trans s5).trans s6
          refine ⟨_, rfl, _, rfl, _, rfl, G, _, rfl, SqL.of (q36 _ _ hG3), fun p7 h7 => ?_⟩
          rw [cN_to o (k : Int) k rfl]
          (generalize hNX : upd H6 p7 _ = H7; have s7 := same_of h7 hNX; have y7 := at_of hNX; clear hNX)
          refine ⟨p6, p7, _, _, rfl, rfl, s7 _ _ y6, y7, (by rw [nV_len, nV_len, List.length_append, List.length_drop, List.length_take]; show 1 + _ + _ ≤ _; omega), fun p8 h8 => ?_⟩
          rw [nV_app]
          (generalize hNX : upd H7 p8 _ = H8; have s8 := same_of h8 hNX; have y8 := at_of hNX; clear hNX)
          refine ⟨_, rfl, lit1, fun p9 h9 => ?_⟩
          (generalize hNX : upd H8 p9 _ = H9; have s9 := same_of h9 hNX; have y9 := at_of hNX; clear hNX)
          have z9 : H9 p9 = some (.lst (nV [x])) := y9
          refine ⟨p8, p9, _, _, rfl, rfl, s9 _ _ y8, z9, (by rw [nV_len, nV_len, List.length_append, List.length_append, List.length_drop, List.length_take]; show 1 + _ + _ + 1 ≤ _; omega), fun pa ga => ?_⟩
          rw [nV_app]
          (generalize hNX : upd H9 pa _ = Ha; have sa := same_of ga hNX; have ya := at_of hNX; clear hNX)
          have q3a := (((q36.trans s7).trans s8).trans s9).trans sa
          refine ⟨_, rfl, 1, rfl, B, _, rfl, SqL.of (q3a _ _ hB3), fun pb gb => ?_⟩
          rw [cN_from loop 1 1 rfl]
          (generalize hNX : upd Ha pb _ = Hb; have sb := same_of gb hNX; have yb := at_of hNX; clear hNX)
          refine ⟨pa, pb, _, _, rfl, rfl, sb _ _ ya, yb, (by rw [nV_len, nV_len, List.length_append, List.length_append, List.length_append, List.length_drop, List.length_take, List.length_drop]; show 1 + _ + _ + 1 + _ ≤ _; omega), fun pc gc => ?_⟩
          rw [nV_app]
          have q3b := q3a.trans sb
          have nc := (b3.same q3b).free (q3b _ _ y3) gc
          (generalize hNX : upd Hb pc _ = Hc; have sc := same_of gc hNX; have yc := at_of hNX; clear hNX)
          have bc := (b3.same q3b).same sc
          refine ⟨L, _, _, rfl, rfl, (q3b.trans sc) _ _ y3, (by have := List.length_eraseIdx_le va (ah.length - j); omega), ?_⟩
          (generalize hNX : upd Hc L _ = Hd; have kd := wr_of hNX; have yd := at_of hNX; clear hNX)
          have bd := bc.wr kd
          have ncL : pc ≠ L := Ne.symm (ne_of_none hL nc)
          refine q Hd _ bd yd ?_ ?_
          · rw [es]
            refine pr_app ?_ (.cons ⟨pc, rfl, ?_⟩ .nil)
            · have h := LpsAt.move hpa fun b o hb e => bd b o (inL b hb) e
              rw [List.eraseIdx_eq_take_drop_succ, List.eraseIdx_eq_take_drop_succ]
              exact pr_app (pr_take _ h) (pr_drop _ h)
            · have e := (kd pc ncL).trans yc
              have e1 : loop.take 1 = [g1 loop] := by
                obtain ⟨r, e⟩ := two hbl.1
                rw [e]; rfl
              have e2 : [g1 loop] ++ o.drop k ++ o.take k ++ [x] ++ loop.drop 1 = loop.take 1 ++ o.drop k ++ o.take k ++ x :: loop.drop 1 := by rw [e1]; simp
              rw [e2] at e
              exact e
          · intro b hb
            rcases mem_new nc b hb with z | z
            · exact .inl (List.mem_append_left _ (List.mem_of_mem_eraseIdx z))
            · exact .inr z
        · rw [if_neg hk] at hx; cases hx
end
end K31
end
section
set_option Elab.async false
set_option linter.all false
set_option maxRecDepth 100000
set_option maxHeartbeats 4000000
namespace K31
open PySem L2 K51
structure OAt (H : Hp) (O L T : Addr) (vl vt : List V) (f : Fr) : Prop where
  o : H O = some (.lst [.ref L, .ref T, .int (f.n : Int)])
  l : H L = some (.lst vl)
  p : LpsAt H vl f.ls
  t : H T = some (.lst vt)
  q : TrsAt H vt f.ts
theorem OAt.same {H H' : Hp} {O L T : Addr} {vl vt : List V} {f : Fr} (h : OAt H O L T vl vt f) (s : Same H H') : OAt H' O L T vl vt f := ⟨s _ _ h.o, s _ _ h.l, h.p.same s, s _ _ h.t, h.q.same s⟩
def optV : Option Nat → V
  | none => .non
  | some x => .int (x : Int)
theorem Lets.ok {a : Lt} (h : Lets a) : a.ok := by
  cases a with
  | sg c =>
    simp only [Lets] at h
    rcases h with rfl | rfl | rfl | rfl <;> rfl
  | sp j k => trivial
theorem eqv_let (a b : Lt) : PyData.eqv (ltD a) (ltD b) = decide (a = b) := by
  rw [Bool.eq_iff_iff, eqv_iff _ _ (noBl_let a) (noBl_let b), decide_eq_true_eq]
  exact ⟨ltD_inj, fun e => by rw [e]⟩
def spThird : Sp := fun vs H Q _ => ∃ (O t L T : Addr) (vl vt : List V) (f : Fr) (ah : Lps) (loop : List Nat) (a : Lt), vs = [.ref O, .ref t] ∧ OAt H O L T vl vt f ∧ Ok f ∧ f.ts.length ≤ 300 ∧ f.ls = ah ++ [loop] ∧ H t = some (.tup (ltV a)) ∧ Lets a ∧
  ∀ H', Same H H' → Q (optV (thirdOf ah loop a f.n)) H'
section
variable {P : Program} {w : World} {K : PySem.W.Frag} {mg : Str → Option Value} {base : Heap}
theorem scThird : FnScope ["_law_front", "_law_letter", "_law_loop", "_law_other"] ["_law_front", "_law_letter"] (defScope sThird) := ⟨rfl, rfl, rfl, by decide +kernel, rfl, by decide +kernel, by decide +kernel⟩
theorem ok_third {f : Addr} {fd : FuncData} (U : Fun K "_law_third" "_law_third" sThird f fd) (T : TxtN mg) : FnOk P w K mg base CX0 1 f fd ["_law_front", "_law_letter"] spThird := by
  refine U.ok scThird (fun vs H Q E h => ?_) (fun cdv A outer s H vs Q E hr h => ?_)
  · obtain ⟨O, t, L, TT, vl, vt, g, ah, loop, a, rfl, _⟩ := h
    rfl
  · obtain ⟨O, t, L, TT, vl, vt, g, ah, loop, a, rfl, Y, ok, hts, el, ht, ha, q⟩ := h
    refine ⟨_, pss_cons (ps_set (i := 2) scThird.nd rfl (Or.inl rfl) (pe_ix ix_list (pe_ix ix_list (pv 0) pe_int (fun _ _ => rfl)) (pe_un un_neg pe_int) (fun _ _ => rfl)))
      (pss_cons (ps_if (pt_cmpR (op_eqD hr.units) (pv 1) (pe_tup (pa_cons pe_str pa_nil)) (nomark _)) (pss_one (ps_ret (pe_ix ix_list (pv 0) pe_int (fun _ _ => rfl)))) pss_nil)
      (pss_cons (ps_if (PW.pt (pw_or (PW.pt (pw_and (pt_cmpR op_in_seq (pe_ix ix_tup (pv 1) pe_int (fun _ _ => rfl)) (pe_tup (pa_cons pe_str (pa_cons pe_str pa_nil))) rfl) (pw_and1 (pt_cmpR op_gt (pe_callB call_len_seq (by rfl) T.len PySem.boot_len (pa_cons (pv 2) pa_nil)) pe_int (nomark _)))))
          (pw_or1 (PW.pt (pw_and (pt_cmpR (op_eqD hr.units) (pv 1) (pe_tup (pa_cons pe_str pa_nil)) (nomark _)) (pw_and1 (pt_cmpR op_eq (pe_callB call_len_seq (by rfl) T.len PySem.boot_len (pa_cons (pv 2) pa_nil)) pe_int (nomark _))))))))
        (pss_one (ps_ret (pe_ix ix_list (pe_lst (pa_cons (pe_ix ix_list (pv 2) (pe_un un_neg pe_int) (fun _ _ => rfl)) (pa_cons (pe_ix ix_list (pv 2) pe_int (fun _ _ => rfl)) pa_nil))) (pe_callTy call_int1 (by rfl) T.int PyProof.Rows.boot_int (pa_cons (pe_cmpR op_eq (pe_ix ix_tup (pv 1) pe_int (fun _ _ => rfl)) pe_str (nomark _)) pa_nil)) (fun _ _ => rfl)))) pss_nil)
      (pss_cons (ps_if (PW.pt (pw_and (pt_cmpR op_eq (pe_ix ix_tup (pv 1) pe_int (fun _ _ => rfl)) pe_str (nomark _)) (pw_and (pt_cmpR op_eq (pe_ix ix_tup (pv 1) pe_int (fun _ _ => rfl)) pe_int (nomark _)) (pw_and1 (pt_chain2 op_lt op_lt pe_int (pe_ix ix_tup (pv 1) pe_int (fun _ _ => rfl)) (pe_op op_sub (pe_callB call_len_seq (by rfl) T.len PySem.boot_len (pa_cons (pv 2) pa_nil)) pe_int) rfl)))))
        (pss_one (ps_ret (pe_ix ix_list (pv 2) (pe_ix ix_tup (pv 1) pe_int (fun _ _ => rfl)) (fun _ _ => rfl)))) pss_nil)
      (pss_cons (ps_if (PW.pt (pw_and (pt_cmpR op_eq (pe_ix ix_tup (pv 1) pe_int (fun _ _ => rfl)) pe_str (nomark _)) (pw_and1 (pt_chain2 op_lt op_lt pe_int (pe_ix ix_tup (pv 1) pe_int (fun _ _ => rfl)) (pe_callB call_len_seq (by rfl) T.len PySem.boot_len (pa_cons (pe_ix ix_list (pv 0) pe_int (fun _ _ => rfl)) pa_nil)) rfl))))
        (pss_cons (ps_set (i := 3) scThird.nd rfl (Or.inl rfl) (pe_ix ix_list (pe_ix ix_list (pv 0) pe_int (fun _ _ => rfl)) (pe_op op_sub (pe_un un_neg pe_int) (pe_ix ix_tup (pv 1) pe_int (fun _ _ => rfl))) (fun _ _ => rfl)))
        (pss_one (ps_if (pt_cmpR op_lt (pe_ix ix_tup (pv 1) pe_int (fun _ _ => rfl)) (pe_callB call_len_seq (by rfl) T.len PySem.boot_len (pa_cons (pv 3) pa_nil)) (nomark _)) (pss_one (ps_ret (pe_ix ix_list (pv 3) (pe_ix ix_tup (pv 1) pe_int (fun _ _ => rfl)) (fun _ _ => rfl)))) pss_nil))) pss_nil)
      (pss_one (ps_ret pe_non)))))), ?_⟩
    have hline := line5000
    have hp := Y.p
    rw [el] at hp
    obtain ⟨va, v, rfl, hpa, B, rfl, hB⟩ := pr_snoc hp
    have hla := pr_len hpa
    have hm := ok_many ok
    have he := ok_each ok
    rw [el] at hm he
    rw [List.length_append, List.length_singleton] at hm
    have hbl : 2 ≤ loop.length := ok.two loop (by rw [el]; simp)
    have hbe := he loop (by simp)
    have hok := ha.ok
    have hdt : ∀ H', Same H H' → Dt K H' (.ref t) (ltD a) := fun H' s' => dt_let hok ⟨t, rfl, s' _ _ ht⟩
    have ht0 := ht
    rw [ltV_eq] at ht
    have a0 : atI (V.str (txt [sgn a]) :: ltR a) 0 = some (V.str (txt [sgn a])) := atI0 _ _
    have o0 : ∀ x y z : V, atI [x, y, z] 0 = some x := fun _ _ _ => rfl
    have o2 : ∀ x y z : V, atI [x, y, z] 2 = some z := fun _ _ _ => rfl
    refine ⟨_, rfl, O, _, _, _, rfl, rfl, SqL.of Y.o, o0 _ _ _, _, rfl, L, _, _, _, rfl, rfl, SqL.of Y.l, atI_m1 (x := V.ref B) (by simp), ?_⟩
    refine ⟨_, rfl, lit1, fun p1 h1 => ?_⟩
    (generalize hNX : upd H p1 _ = H1; have s1 := same_of h1 hNX; have y1 := at_of hNX; clear hNX)
    have y1' := y1.trans ltC
    refine ⟨_, _, hdt H1 s1, dt_let (a := .sg 67) (by rfl) ⟨p1, rfl, y1'⟩, Nat.le_trans (depth_let a) (by decide), _, rfl, ?_⟩
    rw [if_neg (by decide), eqv_let]
    have a02 : ∀ x y : V, atI [x, y] 0 = some x := fun _ _ => rfl
    have a12 : ∀ x y : V, atI [x, y] 1 = some y := fun _ _ => rfl
    cases a with
    | sg c =>
      simp only [Lets] at ha
      have s1' := s1
      rcases ha with rfl | rfl | rfl | rfl
      · rw [decide_eq_true rfl]
        refine iteT ?_
        exact ⟨_, rfl, O, _, _, _, rfl, rfl, SqL.of (s1 _ _ Y.o), o2 _ _ _, q H1 s1⟩
      · rw [decide_eq_false (show ¬ Lt.sg 82 = Lt.sg 67 by intro z; cases z)]
        refine iteF ?_
        refine ⟨_, rfl, t, _, _, _, rfl, rfl, SqT.of (s1' _ _ ht), a0, lit2, fun p2 h2 => ?_⟩
        (generalize hNX : upd H1 p2 _ = H2; have s2 := same_of h2 hNX; have y2 := at_of hNX; clear hNX)
        have s2' := s1'.trans s2
        refine ⟨p2, _, rfl, .inr (SqT.of y2), rfl, rfl, _, rfl, ?_⟩
        rw [show (Str.ofString "R") = txt [82] from sR, show (Str.ofString "L") = txt [76] from sL, if_neg (by decide), inV_two]
        rw [decide_eq_true (by decide : sgn (.sg 82) = 82 ∨ sgn (.sg 82) = 76)]
        refine iteT ?_
        refine ⟨_, rfl, B, _, rfl, .inl (SqL.of (s2' _ _ hB)), _, _, rfl, rfl, _, rfl, ?_⟩
        rw [nV_len]
        by_cases hb3 : 3 < loop.length
        · rw [decide_eq_true (by omega)]
          refine iteT (iteT ?_)
          have hlast : loop[loop.length - 1]? = some loop[loop.length - 1] := List.getElem?_eq_getElem (by omega)
          have h2 : loop[2]? = some loop[2] := List.getElem?_eq_getElem (by omega)
          refine ⟨_, rfl, _, rfl, B, _, _, _, rfl, rfl, SqL.of (s2' _ _ hB), atI_m1 (by rw [nV_len]; exact nV_get hlast), _, rfl, B, _, _, _, rfl, rfl, SqL.of (s2' _ _ hB), atI_nat (j := 2) (nV_get h2), lit2, fun p9 h9 => ?_⟩
          (generalize hNX : upd H2 p9 _ = H9; have s9 := same_of h9 hNX; have y9 := at_of hNX; clear hNX)
          have s9' := s2'.trans s9
          refine ⟨_, rfl, t, _, _, _, rfl, rfl, SqT.of (s9' _ _ ht), a0, rfl, .inr ⟨_, rfl, ?_⟩⟩
          rw [decT]
          have e : thirdOf ah loop (.sg 82) g.n = some loop[2] := by
            simp [thirdOf, hb3, h2]
          rw [e] at q
          exact ⟨p9, _, 1, _, rfl, rfl, SqL.of y9, a12 _ _, q H9 s9'⟩
        · rw [decide_eq_false (by omega)]
          refine iteF ?_
          refine ⟨_, rfl, lit1, fun p3 h3 => ?_⟩
          (generalize hNX : upd H2 p3 _ = H3; have s3 := same_of h3 hNX; have y3 := at_of hNX; clear hNX)
          have s3' := s2'.trans s3
          refine ⟨_, _, hdt H3 s3', dt_let (a := .sg 69) (by rfl) ⟨p3, rfl, y3.trans ltE⟩, Nat.le_trans (depth_let _) (by decide), _, rfl, ?_⟩
          rw [if_neg (by decide), eqv_let, decide_eq_false (show ¬ Lt.sg 82 = Lt.sg 69 by intro z; cases z)]
          refine iteF (iteF ?_)
          refine ⟨_, rfl, t, _, _, _, rfl, rfl, SqT.of (s3' _ _ ht), a0, rfl, _, rfl, ?_⟩
          rw [show (Str.ofString "S") = txt [83] from s83, decT, decide_eq_false (show ¬ sgn (.sg 82) = 83 by decide)]
          refine iteF (iteF ?_)
          refine ⟨_, rfl, t, _, _, _, rfl, rfl, SqT.of (s3' _ _ ht), a0, rfl, _, rfl, ?_⟩
          rw [decT, decide_eq_false (show ¬ sgn (.sg 82) = 83 by decide)]
          refine iteF (iteF ?_)
          have e : thirdOf ah loop (.sg 82) g.n = none := by
            unfold thirdOf
            dsimp only
            rw [if_neg (by decide), if_neg (fun z => z.elim (fun y => hb3 y.2) (fun y => absurd y.1 (by decide)))]
          rw [e] at q
          exact q H3 s3'
      · rw [decide_eq_false (show ¬ Lt.sg 76 = Lt.sg 67 by intro z; cases z)]
        refine iteF ?_
        refine ⟨_, rfl, t, _, _, _, rfl, rfl, SqT.of (s1' _ _ ht), a0, lit2, fun p2 h2 => ?_⟩
        (generalize hNX : upd H1 p2 _ = H2; have s2 := same_of h2 hNX; have y2 := at_of hNX; clear hNX)
        have s2' := s1'.trans s2
        refine ⟨p2, _, rfl, .inr (SqT.of y2), rfl, rfl, _, rfl, ?_⟩
        rw [show (Str.ofString "R") = txt [82] from sR, show (Str.ofString "L") = txt [76] from sL, if_neg (by decide), inV_two]
        rw [decide_eq_true (by decide : sgn (.sg 76) = 82 ∨ sgn (.sg 76) = 76)]
        refine iteT ?_
        refine ⟨_, rfl, B, _, rfl, .inl (SqL.of (s2' _ _ hB)), _, _, rfl, rfl, _, rfl, ?_⟩
        rw [nV_len]
        by_cases hb3 : 3 < loop.length
        · rw [decide_eq_true (by omega)]
          refine iteT (iteT ?_)
          have hlast : loop[loop.length - 1]? = some loop[loop.length - 1] := List.getElem?_eq_getElem (by omega)
          have h2 : loop[2]? = some loop[2] := List.getElem?_eq_getElem (by omega)
          refine ⟨_, rfl, _, rfl, B, _, _, _, rfl, rfl, SqL.of (s2' _ _ hB), atI_m1 (by rw [nV_len]; exact nV_get hlast), _, rfl, B, _, _, _, rfl, rfl, SqL.of (s2' _ _ hB), atI_nat (j := 2) (nV_get h2), lit2, fun p9 h9 => ?_⟩
          (generalize hNX : upd H2 p9 _ = H9; have s9 := same_of h9 hNX; have y9 := at_of hNX; clear hNX)
          have s9' := s2'.trans s9
          refine ⟨_, rfl, t, _, _, _, rfl, rfl, SqT.of (s9' _ _ ht), a0, rfl, .inr ⟨_, rfl, ?_⟩⟩
          rw [decT]
          have e : thirdOf ah loop (.sg 76) g.n = some loop[loop.length - 1] := by
            simp [thirdOf, hb3, hlast]
          rw [e] at q
          exact ⟨p9, _, 0, _, rfl, rfl, SqL.of y9, a02 _ _, q H9 s9'⟩
        · rw [decide_eq_false (by omega)]
          refine iteF ?_
          refine ⟨_, rfl, lit1, fun p3 h3 => ?_⟩
          (generalize hNX : upd H2 p3 _ = H3; have s3 := same_of h3 hNX; have y3 := at_of hNX; clear hNX)
          have s3' := s2'.trans s3
          refine ⟨_, _, hdt H3 s3', dt_let (a := .sg 69) (by rfl) ⟨p3, rfl, y3.trans ltE⟩, Nat.le_trans (depth_let _) (by decide), _, rfl, ?_⟩
          rw [if_neg (by decide), eqv_let, decide_eq_false (show ¬ Lt.sg 76 = Lt.sg 69 by intro z; cases z)]
          refine iteF (iteF ?_)
          refine ⟨_, rfl, t, _, _, _, rfl, rfl, SqT.of (s3' _ _ ht), a0, rfl, _, rfl, ?_⟩
          rw [show (Str.ofString "S") = txt [83] from s83, decT, decide_eq_false (show ¬ sgn (.sg 76) = 83 by decide)]
          refine iteF (iteF ?_)
          refine ⟨_, rfl, t, _, _, _, rfl, rfl, SqT.of (s3' _ _ ht), a0, rfl, _, rfl, ?_⟩
          rw [decT, decide_eq_false (show ¬ sgn (.sg 76) = 83 by decide)]
          refine iteF (iteF ?_)
          have e : thirdOf ah loop (.sg 76) g.n = none := by
            unfold thirdOf
            dsimp only
            rw [if_neg (by decide), if_neg (fun z => z.elim (fun y => hb3 y.2) (fun y => absurd y.1 (by decide)))]
          rw [e] at q
          exact q H3 s3'
      · rw [decide_eq_false (show ¬ Lt.sg 69 = Lt.sg 67 by intro z; cases z)]
        refine iteF ?_
        refine ⟨_, rfl, t, _, _, _, rfl, rfl, SqT.of (s1' _ _ ht), a0, lit2, fun p2 h2 => ?_⟩
        (generalize hNX : upd H1 p2 _ = H2; have s2 := same_of h2 hNX; have y2 := at_of hNX; clear hNX)
        have s2' := s1'.trans s2
        refine ⟨p2, _, rfl, .inr (SqT.of y2), rfl, rfl, _, rfl, ?_⟩
        rw [show (Str.ofString "R") = txt [82] from sR, show (Str.ofString "L") = txt [76] from sL, if_neg (by decide), inV_two]
        rw [decide_eq_false (by decide : ¬ (sgn (.sg 69) = 82 ∨ sgn (.sg 69) = 76))]
        refine iteF (iteF ?_)
        refine ⟨_, rfl, lit1, fun p3 h3 => ?_⟩
        (generalize hNX : upd H2 p3 _ = H3; have s3 := same_of h3 hNX; have y3 := at_of hNX; clear hNX)
        have s3' := s2'.trans s3
        refine ⟨_, _, hdt H3 s3', dt_let (a := .sg 69) (by rfl) ⟨p3, rfl, y3.trans ltE⟩, Nat.le_trans (depth_let _) (by decide), _, rfl, ?_⟩
        rw [if_neg (by decide), eqv_let, decide_eq_true (rfl : Lt.sg 69 = Lt.sg 69)]
        refine iteT ?_
        refine ⟨_, rfl, B, _, rfl, .inl (SqL.of (s3' _ _ hB)), rfl, _, rfl, ?_⟩
        rw [nV_len, decI]
        by_cases h3 : loop.length = 3
        · rw [decide_eq_true (by omega)]
          refine iteT ?_
          have hlast : loop[loop.length - 1]? = some loop[loop.length - 1] := List.getElem?_eq_getElem (by omega)
          have h2 : loop[2]? = some loop[2] := List.getElem?_eq_getElem (by omega)
          refine ⟨_, rfl, _, rfl, B, _, _, _, rfl, rfl, SqL.of (s3' _ _ hB), atI_m1 (by rw [nV_len]; exact nV_get hlast), _, rfl, B, _, _, _, rfl, rfl, SqL.of (s3' _ _ hB), atI_nat (j := 2) (nV_get h2), lit2, fun p9 h9 => ?_⟩
          (generalize hNX : upd H3 p9 _ = H9; have s9 := same_of h9 hNX; have y9 := at_of hNX; clear hNX)
          have s9' := s3'.trans s9
          refine ⟨_, rfl, t, _, _, _, rfl, rfl, SqT.of (s9' _ _ ht), a0, rfl, .inr ⟨_, rfl, ?_⟩⟩
          rw [decT]
          have e : thirdOf ah loop (.sg 69) g.n = some loop[loop.length - 1] := by
            unfold thirdOf
            dsimp only
            rw [if_neg (by decide), if_pos (.inr ⟨rfl, h3⟩), if_neg (by decide), hlast]
          rw [e] at q
          exact ⟨p9, _, 0, _, rfl, rfl, SqL.of y9, a02 _ _, q H9 s9'⟩
        · rw [decide_eq_false (by omega)]
          refine iteF ?_
          refine ⟨_, rfl, t, _, _, _, rfl, rfl, SqT.of (s3' _ _ ht), a0, rfl, _, rfl, ?_⟩
          rw [show (Str.ofString "S") = txt [83] from s83, decT, decide_eq_false (show ¬ sgn (.sg 69) = 83 by decide)]
          refine iteF (iteF ?_)
          refine ⟨_, rfl, t, _, _, _, rfl, rfl, SqT.of (s3' _ _ ht), a0, rfl, _, rfl, ?_⟩
          rw [decT, decide_eq_false (show ¬ sgn (.sg 69) = 83 by decide)]
          refine iteF (iteF ?_)
          have e : thirdOf ah loop (.sg 69) g.n = none := by
            simp [thirdOf, h3]
          rw [e] at q
          exact q H3 s3'
    | sp j k =>
      have s1' := s1
      have a1 : atI (V.str (txt [sgn (.sp j k)]) :: ltR (.sp j k)) 1 = some (V.int (j : Nat)) := rfl
      have a2 : atI (V.str (txt [sgn (.sp j k)]) :: ltR (.sp j k)) 2 = some (V.int (k : Nat)) := rfl
      rw [decide_eq_false (show ¬ Lt.sp j k = Lt.sg 67 by intro z; cases z)]
      refine iteF ?_
      refine ⟨_, rfl, t, _, _, _, rfl, rfl, SqT.of (s1' _ _ ht), a0, lit2, fun p2 h2 => ?_⟩
      (generalize hNX : upd H1 p2 _ = H2; have s2 := same_of h2 hNX; have y2 := at_of hNX; clear hNX)
      have s2' := s1'.trans s2
      refine ⟨p2, _, rfl, .inr (SqT.of y2), rfl, rfl, _, rfl, ?_⟩
      rw [show (Str.ofString "R") = txt [82] from sR, show (Str.ofString "L") = txt [76] from sL, if_neg (by decide), inV_two]
      rw [decide_eq_false (by simp [sgn] : ¬ (sgn (.sp j k) = 82 ∨ sgn (.sp j k) = 76))]
      refine iteF (iteF ?_)
      refine ⟨_, rfl, lit1, fun p3 h3 => ?_⟩
      (generalize hNX : upd H2 p3 _ = H3; have s3 := same_of h3 hNX; have y3 := at_of hNX; clear hNX)
      have s3' := s2'.trans s3
      refine ⟨_, _, hdt H3 s3', dt_let (a := .sg 69) (by rfl) ⟨p3, rfl, y3.trans ltE⟩, Nat.le_trans (depth_let _) (by decide), _, rfl, ?_⟩
      rw [if_neg (by decide), eqv_let, decide_eq_false (show ¬ Lt.sp j k = Lt.sg 69 by intro z; cases z)]
      refine iteF (iteF ?_)
      refine ⟨_, rfl, t, _, _, _, rfl, rfl, SqT.of (s3' _ _ ht), a0, rfl, _, rfl, ?_⟩
      rw [show (Str.ofString "S") = txt [83] from s83, decT, decide_eq_true (show sgn (.sp j k) = 83 from rfl)]
      refine iteT ?_
      refine ⟨_, rfl, t, _, _, _, rfl, rfl, SqT.of (s3' _ _ ht), a1, rfl, _, rfl, ?_⟩
      rw [decI]
      have t3 := s3' _ _ ht
      by_cases hj : j = 0
      · subst hj
        rw [decide_eq_true (show ((0 : Nat) : Int) = 0 from rfl)]
        refine iteT ?_
        refine ⟨_, rfl, t, _, _, _, rfl, rfl, SqT.of t3, a2, _, _, rfl, rfl, _, rfl, ?_⟩
        by_cases h2 : 2 < k
        · rw [decide_eq_true (by omega)]
          refine iteT ?_
          refine ⟨_, rfl, B, _, rfl, .inl (SqL.of (s3' _ _ hB)), _, _, rfl, rfl, _, _, rfl, rfl, _, rfl, ?_⟩
          rw [nV_len]
          by_cases h3 : k + 1 < loop.length
          · rw [decide_eq_true (by omega)]
            refine iteT ?_
            have hk : loop[k]? = some loop[k] := List.getElem?_eq_getElem (by omega)
            have e : thirdOf ah loop (.sp 0 k) g.n = some loop[k] := by
              unfold thirdOf
              dsimp only
              rw [if_pos rfl, if_pos ⟨h2, h3⟩, hk]
            rw [e] at q
            exact ⟨_, rfl, _, rfl, t, _, _, _, rfl, rfl, SqT.of t3, a2, B, _, _, _, rfl, rfl, SqL.of (s3' _ _ hB), atI_nat (nV_get hk), q H3 s3'⟩
          · rw [decide_eq_false (by omega)]
            refine iteF ?_
            have e : thirdOf ah loop (.sp 0 k) g.n = none := by
              unfold thirdOf
              dsimp only
              rw [if_pos rfl, if_neg fun z => h3 z.2]
            rw [e] at q
            refine ⟨_, rfl, t, _, _, _, rfl, rfl, SqT.of t3, a0, rfl, _, rfl, ?_⟩
            rw [decT, decide_eq_true (show sgn (.sp 0 k) = 83 from rfl)]
            refine iteT ?_
            refine ⟨_, rfl, t, _, _, _, rfl, rfl, SqT.of t3, a1, _, _, rfl, rfl, _, rfl, ?_⟩
            rw [decide_eq_false (by omega)]
            refine iteF (iteF ?_)
            exact q H3 s3'
        · rw [decide_eq_false (by omega)]
          refine iteF (iteF ?_)
          have e : thirdOf ah loop (.sp 0 k) g.n = none := by
            unfold thirdOf
            dsimp only
            rw [if_pos rfl, if_neg fun z => h2 z.1]
          rw [e] at q
          refine ⟨_, rfl, t, _, _, _, rfl, rfl, SqT.of t3, a0, rfl, _, rfl, ?_⟩
          rw [decT, decide_eq_true (show sgn (.sp 0 k) = 83 from rfl)]
          refine iteT ?_
          refine ⟨_, rfl, t, _, _, _, rfl, rfl, SqT.of t3, a1, _, _, rfl, rfl, _, rfl, ?_⟩
          rw [decide_eq_false (by omega)]
          refine iteF (iteF ?_)
          exact q H3 s3'
      · rw [decide_eq_false (by omega)]
        refine iteF (iteF ?_)
        refine ⟨_, rfl, t, _, _, _, rfl, rfl, SqT.of t3, a0, rfl, _, rfl, ?_⟩
        rw [decT, decide_eq_true (show sgn (.sp j k) = 83 from rfl)]
        refine iteT ?_
        refine ⟨_, rfl, t, _, _, _, rfl, rfl, SqT.of t3, a1, _, _, rfl, rfl, _, rfl, ?_⟩
        rw [decide_eq_true (by omega)]
        refine iteT ?_
        refine ⟨_, rfl, O, _, _, _, rfl, rfl, SqL.of (s3' _ _ Y.o), o0 _ _ _, L, _, rfl, .inl (SqL.of (s3' _ _ Y.l)), _, _, rfl, rfl, _, rfl, ?_⟩
        rw [List.length_append, List.length_singleton]
        by_cases hk : j ≤ ah.length
        · rw [decide_eq_true (by omega)]
          refine iteT ?_
          have hi : ah.length - j < ah.length := by omega
          have ho : ah[ah.length - j]? = some (ah.getD (ah.length - j) []) := by simp [List.getD, hi]
          obtain ⟨v, hv, G, rfl, hG⟩ := pr_get hpa ho
          have e : thirdOf ah loop (.sp j k) g.n = (ah.getD (ah.length - j) [])[k]? := by
            unfold thirdOf
            dsimp only
            rw [if_neg hj, if_pos hk]
          rw [e] at q
          generalize ah.getD (ah.length - j) [] = o at *
          have hat : atI (va ++ [V.ref B]) (-1 - (j : Int)) = some (V.ref G) := by
            unfold atI ixN
            rw [if_neg (by omega), if_pos (by rw [List.length_append, List.length_singleton]; omega)]
            show (va ++ [V.ref B])[_]? = _
            rw [List.length_append, List.length_singleton, show ((-1 - (j : Int)) + ((va.length + 1 : Nat) : Int)).toNat = ah.length - j by omega, List.getElem?_append_left (by omega)]
            exact hv
          refine ⟨_, rfl, O, _, _, _, rfl, rfl, SqL.of (s3' _ _ Y.o), o0 _ _ _, _, rfl, _, rfl, t, _, _, _, rfl, rfl, SqT.of t3, a1, _, _, rfl, rfl, L, _, _, _, rfl, rfl, SqL.of (s3' _ _ Y.l), hat, ?_⟩
          refine ⟨_, rfl, t, _, _, _, rfl, rfl, SqT.of t3, a2, _, rfl, G, _, rfl, .inl (SqL.of (s3' _ _ hG)), _, _, rfl, rfl, _, rfl, ?_⟩
          rw [nV_len]
          by_cases h4 : k < o.length
          · rw [decide_eq_true (by omega)]
            refine iteT ?_
            have hko : o[k]? = some o[k] := List.getElem?_eq_getElem h4
            rw [hko] at q
            exact ⟨_, rfl, _, rfl, t, _, _, _, rfl, rfl, SqT.of t3, a2, G, _, _, _, rfl, rfl, SqL.of (s3' _ _ hG), atI_nat (nV_get hko), q H3 s3'⟩
          · rw [decide_eq_false (by omega)]
            refine iteF ?_
            rw [List.getElem?_eq_none (by omega)] at q
            exact q H3 s3'
        · rw [decide_eq_false (by omega)]
          refine iteF ?_
          have e : thirdOf ah loop (.sp j k) g.n = none := by
            unfold thirdOf
            dsimp only
            rw [if_neg hj, if_neg hk]
          rw [e] at q
          exact q H3 s3'
end
end K31
end
section
set_option Elab.async false
set_option linter.all false
set_option maxRecDepth 100000
set_option maxHeartbeats 4000000
namespace K31
open PySem L2 K51
def lpD (l : List Nat) : PyData := .list (l.map fun n : Nat => .int (n : Int))
def lpsD (ls : Lps) : PyData := .list (ls.map lpD)
def trD (t : Nat × Nat × Nat) : PyData := .tuple [.int (t.1 : Int), .int (t.2.1 : Int), .int (t.2.2 : Int)]
def trsD (ts : List (Nat × Nat × Nat)) : PyData := .list (ts.map trD)
theorem dts_nV {K : PySem.W.Frag} {H : Hp} : ∀ l : List Nat, Dts K H (nV l) (l.map fun n : Nat => PyData.int (n : Int))
  | [] => .nil
  | _ :: l => .cons (.int _) (dts_nV l)
theorem dt_lp {K : PySem.W.Frag} {H : Hp} {v : V} {l : List Nat} (h : LpAt H v l) : Dt K H v (lpD l) := by
  obtain ⟨a, rfl, h⟩ := h
  exact .lst (SqL.of h) (dts_nV l)
theorem dts_lps {K : PySem.W.Frag} {H : Hp} : ∀ {vs : List V} {ls : Lps}, LpsAt H vs ls → Dts K H vs (ls.map lpD)
  | _, _, .nil => .nil
  | _, _, .cons h t => .cons (dt_lp h) (dts_lps t)
theorem dt_tr {K : PySem.W.Frag} {H : Hp} {v : V} {t : Nat × Nat × Nat} (h : TrAt H v t) : Dt K H v (trD t) := by
  obtain ⟨a, rfl, h⟩ := h
  exact .tup (SqT.of h) (.cons (.int _) (.cons (.int _) (.cons (.int _) .nil)))
theorem dts_trs {K : PySem.W.Frag} {H : Hp} : ∀ {vs : List V} {ts : List (Nat × Nat × Nat)}, TrsAt H vs ts → Dts K H vs (ts.map trD)
  | _, _, .nil => .nil
  | _, _, .cons h t => .cons (dt_tr h) (dts_trs t)
theorem dep_int : ∀ l : List Nat, PyData.depthAll (l.map fun n : Nat => PyData.int (n : Int)) ≤ 1
  | [] => by simp [PyData.depthAll]
  | a :: l => by
    have := dep_int l
    simp only [List.map_cons, PyData.depthAll, PyData.depth]
    omega
theorem dep_lps : ∀ ls : Lps, PyData.depthAll (ls.map lpD) ≤ 3
  | [] => by simp [PyData.depthAll]
  | l :: ls => by
    have h1 := dep_lps ls
    have h2 := dep_int l
    simp only [List.map_cons, PyData.depthAll, lpD, PyData.depth]
    omega
theorem dep_lpsD (ls : Lps) : (lpsD ls).depth ≤ 4 := by
  have := dep_lps ls
  simp only [lpsD, PyData.depth]
  omega
theorem eqv_nil (ds : List PyData) : PyData.eqv (.list ds) (.list []) = ds.isEmpty := by
  cases ds <;> simp [PyData.eqv, PyData.eqvAll]
def spCan : Sp := fun vs H Q _ => ∃ (O t L T : Addr) (vl vt : List V) (f : Fr) (a : Lt), vs = [.ref O, .ref t] ∧ OAt H O L T vl vt f ∧ Ok f ∧ f.ts.length ≤ 300 ∧ H t = some (.tup (ltV a)) ∧ Lets a ∧ ∀ H', Same H H' → Q (optV (f.can a)) H'
theorem inV_int2 (x p q : Nat) : inV (.int (x : Int)) [.int (p : Int), .int (q : Int)] = decide (x = p ∨ x = q) := by
  unfold inV
  simp only [List.any_cons, List.any_nil, eqV, Bool.or_false]
  rw [Bool.eq_iff_iff]
  simp only [Bool.or_eq_true, beq_iff_eq, decide_eq_true_eq]
  omega
section
variable {P : Program} {w : World} {K : PySem.W.Frag} {mg : Str → Option Value} {base : Heap}
theorem scCan : FnScope ["_law_front", "_law_letter", "_law_x", "_law_a", "_law_b", "_law_asked", "_law_wanted_here", "_law_thirds_here"] ["_law_front", "_law_letter"] (defScope sCan) := ⟨rfl, rfl, rfl, by decide +kernel, rfl, by decide +kernel, by decide +kernel⟩
theorem ok_can {f f1 f2 f3 : Addr} {fd d1 d2 d3 : FuncData} (U : Fun K "_law_can" "_law_can" sCan f fd) (T : TxtN mg) (TM : TxtM mg) (G1 : Use P w K mg base 1 "_law_third" ["_law_front", "_law_letter"] spThird f1 d1)
    (G2 : Use P w K mg base 1 "_law_wanted" ["_law_loops"] spWanted f2 d2) (G3 : Use P w K mg base 1 "_law_thirds" ["_law_triples"] spThirds f3 d3) : FnOk P w K mg base CX0 2 f fd ["_law_front", "_law_letter"] spCan := by
  refine U.ok scCan (fun vs H Q E h => ?_) (fun cdv A outer s H vs Q E hr h => ?_)
  · obtain ⟨O, t, L, TT, vl, vt, g, a, rfl, _⟩ := h
    rfl
  · obtain ⟨O, t, L, TT, vl, vt, g, a, rfl, Y, ok, hts, ht, ha, q⟩ := h
    have hu := hu_of hr
    refine ⟨_, pss_cons (ps_set (i := 2) scCan.nd rfl (Or.inl rfl) pe_non)
      (pss_cons (ps_if (pt_cmpR (op_neD hr.units) (pe_ix ix_list (pv 0) pe_int (fun _ _ => rfl)) (pe_lst pa_nil) (nomark _)) (pss_one (ps_set (i := 2) scCan.nd rfl (Or.inl rfl) (pe_call G1.g hr rfl G1.m G1.k G1.b .nil pass0 (pa_cons (pv 0) (pa_cons (pv 1) pa_nil))))) pss_nil)
      (pss_cons (ps_if (PW.pt (pw_or (pt_cmpR op_isN (pv 2) pe_non (nomark _)) (pw_or1 (pt_cmpR op_in_seq (pv 2) (pe_slice sl_list (pe_ix ix_list (pe_ix ix_list (pv 0) pe_int (fun _ _ => rfl)) (pe_un un_neg pe_int) (fun _ _ => rfl)) po_none (po_some pe_int)) rfl)))) (pss_one (ps_ret pe_non)) pss_nil)
      (pss_cons (ps_asg (pe_slice sl_list (pe_ix ix_list (pe_ix ix_list (pv 0) pe_int (fun _ _ => rfl)) (pe_un un_neg pe_int) (fun _ _ => rfl)) po_none (po_some pe_int)) (pg_lst rfl (pgs_cons (pg_name (i := 3) scCan.nd rfl (Or.inl rfl)) (pgs_cons (pg_name (i := 4) scCan.nd rfl (Or.inl rfl)) pgs_nil))))
      (pss_cons (ps_set (i := 5) scCan.nd rfl (Or.inl rfl) (pe_lst pa_nil))
      (pss_cons (ps_if (pt_cmpR op_notIn_seq (pe_ix ix_tup (pv 1) pe_int (fun _ _ => rfl)) (pe_tup (pa_cons pe_str (pa_cons pe_str pa_nil))) rfl) (pss_one (ps_set (i := 5) scCan.nd rfl (Or.inl rfl) (pe_op op_cat (pv 5) (pe_lst (pa_cons (pe_tup (pa_cons (pv 4) (pa_cons (pv 2) pa_nil))) (pa_cons (pe_tup (pa_cons (pv 2) (pa_cons (pv 4) pa_nil))) pa_nil)))))) pss_nil)
      (pss_cons (ps_if (pt_cmpR op_notIn_seq (pe_ix ix_tup (pv 1) pe_int (fun _ _ => rfl)) (pe_tup (pa_cons pe_str (pa_cons pe_str pa_nil))) rfl) (pss_one (ps_set (i := 5) scCan.nd rfl (Or.inl rfl) (pe_op op_cat (pv 5) (pe_lst (pa_cons (pe_tup (pa_cons (pv 2) (pa_cons (pv 3) pa_nil))) (pa_cons (pe_tup (pa_cons (pv 3) (pa_cons (pv 2) pa_nil))) pa_nil)))))) pss_nil)
      (pss_cons (ps_set (i := 6) scCan.nd rfl (Or.inr rfl) (pe_call G2.g hr rfl G2.m G2.k G2.b .nil pass0 (pa_cons (pe_ix ix_list (pv 0) pe_int (fun _ _ => rfl)) pa_nil)))
      (pss_cons (ps_set (i := 7) scCan.nd rfl (Or.inr rfl) (pe_call G3.g hr rfl G3.m G3.k G3.b .nil pass0 (pa_cons (pe_ix ix_list (pv 0) pe_int (fun _ _ => rfl)) pa_nil)))
      (pss_cons (ps_if (pt_val (pe_callB (call_any_list rfl) (by rfl) TM.any PyProof.Rows.boot_any (pa_cons (pe_comp (N := ["_law_side", "_law_wanted_here", "_law_thirds_here"]) (fr := [none, some 6, some 7]) (compScopeF (by decide +kernel) rfl rfl (by decide +kernel) (by decide +kernel) (by
            intro y hy e
            simp only [List.mem_cons, List.not_mem_nil, or_false] at hy
            rcases hy with rfl | rfl | rfl | rfl
            · cases e
            · cases e
            · exact .inl rfl
            · exact .inl rfl) (by
            intro j i y e1 e2
            match j, e1, e2 with
            | 0, e1, _ => simp at e1
            | 1, e1, e2 => simp at e1 e2; subst e1 e2; exact ⟨rfl, rfl⟩
            | 2, e1, e2 => simp at e1 e2; subst e1 e2; exact ⟨rfl, rfl⟩
            | j + 3, e1, _ => simp at e1)) rfl (pi_list (pv 5))
          (fun C' s' H' fp pins => ⟨pg_name (i := 0) (show (["_law_side", "_law_wanted_here", "_law_thirds_here"] : List Str).Nodup by decide +kernel) rfl (Or.inl rfl) (.inr rfl), pif_nil,
            pe_or (pe_cmp (pc_din hu (pv 0) (pv 1))) (pe_one (pe_cmp (pc_din hu (pv 0) (pv 2))))⟩)) pa_nil))) (pss_one (ps_ret pe_non)) pss_nil)
      (pss_one (ps_ret (pv 2)))))))))))), ?_⟩
    have hline := line5000
    have o0 : ∀ x y z : V, atI [x, y, z] 0 = some x := fun _ _ _ => rfl
    have o1 : ∀ x y z : V, atI [x, y, z] 1 = some y := fun _ _ _ => rfl
    refine ⟨_, rfl, O, _, _, _, rfl, rfl, SqL.of Y.o, o0 _ _ _, Nat.zero_le _, fun p1 h1 => ?_⟩
    (generalize hNX : upd H p1 _ = H1; have s1 := same_of h1 hNX; have y1 := at_of hNX; clear hNX)
    have Y1 := Y.same s1
    refine ⟨_, _, .lst (SqL.of Y1.l) (dts_lps Y1.p), .lst (SqL.of y1) .nil, Nat.le_trans (dep_lpsD g.ls) (by decide), _, rfl, ?_⟩
    rw [if_pos rfl, eqv_nil]
    rcases List.eq_nil_or_concat g.ls with e | ⟨ah, loop, e⟩
    · have ec : g.can a = none := by unfold Fr.can; rw [e]; rfl
      rw [ec] at q
      rw [e]
      refine iteF ?_
      refine ⟨_, rfl, rfl, _, rfl, ?_⟩
      rw [decide_eq_true rfl]
      exact iteT (iteT (q H1 s1))
    · rw [List.concat_eq_append] at e
      have ec : g.can a = canAt ah loop g.ts g.n a := by
        obtain ⟨ls, ts, n⟩ := g
        dsimp only at e
        rw [e, can_at]
      rw [ec] at q
      have e0 : (!(g.ls.map lpD).isEmpty) = true := by rw [e]; simp
      rw [e0]
      refine iteT ?_
      have ht1 := s1 _ _ ht
      refine ⟨_, rfl, _, rfl, O, t, L, TT, vl, vt, g, ah, loop, a, rfl, Y1, ok, hts, e, ht1, ha, fun H2 s2 => ?_⟩
      have q2 := s1.trans s2
      have Y2 := Y1.same s2
      unfold canAt at q
      cases ex : thirdOf ah loop a g.n with
      | none =>
        rw [ex] at q
        refine ⟨_, rfl, rfl, _, rfl, ?_⟩
        rw [show decide (optV none = V.non) = true from decide_eq_true rfl]
        exact iteT (iteT (q H2 q2))
      | some x =>
        rw [ex] at q
        simp only [Option.bind_some] at q
        refine ⟨_, rfl, rfl, _, rfl, ?_⟩
        rw [decide_eq_false (by intro z; cases z)]
        refine iteF ?_
        have hp := Y2.p
        rw [e] at hp
        obtain ⟨va, v, ev, hpa, B, rfl, hB⟩ := pr_snoc hp
        have hbl : 2 ≤ loop.length := ok.two loop (by rw [e]; simp)
        have eT : loop.take 2 = [g1 loop, g2 loop] := by
          obtain ⟨r, e⟩ := two hbl
          rw [e]; rfl
        have hat : atI vl (-1) = some (V.ref B) := atI_m1 (by rw [ev]; simp)
        refine ⟨_, rfl, _, rfl, O, _, _, _, rfl, rfl, SqL.of Y2.o, o0 _ _ _, _, rfl, L, _, _, _, rfl, rfl, SqL.of Y2.l, hat, 2, rfl, B, _, rfl, SqL.of hB, fun p3 h3 => ?_⟩
        rw [cN_to loop 2 2 rfl, eT]
        (generalize hNX : upd H2 p3 _ = H3; have s3 := same_of h3 hNX; have y3 := at_of hNX; clear hNX)
        refine ⟨p3, _, rfl, .inl (SqL.of y3), rfl, rfl, _, rfl, ?_⟩
        rw [if_neg (by decide)]
        show (if inV (V.int (x : Int)) [V.int (g1 loop : Int), V.int (g2 loop : Int)] = true then _ else _)
        rw [inV_int2]
        by_cases hx : x = g1 loop ∨ x = g2 loop
        · rw [if_pos hx] at q
          rw [decide_eq_true hx]
          exact iteT (q H3 (q2.trans s3))
        rw [if_neg hx, ← e] at q
        rw [decide_eq_false hx]
        refine iteF ?_
        have Y3 := Y2.same s3
        have hB3 := s3 _ _ hB
        refine ⟨_, rfl, O, _, _, _, rfl, rfl, SqL.of Y3.o, o0 _ _ _, _, rfl, L, _, _, _, rfl, rfl, SqL.of Y3.l, hat, 2, rfl, B, _, rfl, SqL.of hB3, fun p4 h4 => ?_⟩
        rw [cN_to loop 2 2 rfl, eT]
        (generalize hNX : upd H3 p4 _ = H4; have s4 := same_of h4 hNX; have y4 := at_of hNX; clear hNX)
        refine ⟨p4, _, rfl, SqL.of y4, rfl, _, _, rfl, _, _, rfl, rfl, ?_⟩
        refine ⟨Nat.zero_le _, fun p5 h5 => ?_⟩
        (generalize hNX : upd H4 p5 _ = H5; have s5 := same_of h5 hNX; have y5 := at_of hNX; clear hNX)
        have q5 := ((q2.trans s3).trans s4).trans s5
        have a0 : atI (ltV a) 0 = some (V.str (txt [sgn a])) := by rw [ltV_eq]; exact atI0 _ _
        have hsum : (g.ls.map List.length).sum ≤ 1000 := Nat.le_trans ok.tot (by omega)
        refine ⟨_, rfl, t, _, _, _, rfl, rfl, SqT.of (q5 _ _ ht), a0, lit2, fun p6 h6 => ?_⟩
        (generalize hNX : upd H5 p6 _ = H6; have s6 := same_of h6 hNX; have y6 := at_of hNX; clear hNX)
        have q6 := q5.trans s6
        refine ⟨p6, _, rfl, .inr (SqT.of y6), rfl, rfl, _, rfl, ?_⟩
        rw [show (Str.ofString "R") = txt [82] from sR, show (Str.ofString "E") = txt [69] from sE, if_pos rfl, inV_two]
        by_cases k1 : sgn a = 82 ∨ sgn a = 69
        · rw [decide_eq_true k1]
          refine iteF ?_
          refine ⟨_, rfl, t, _, _, _, rfl, rfl, SqT.of (q6 _ _ ht), a0, lit2, fun p8 h8 => ?_⟩
          (generalize hNX : upd H6 p8 _ = H8; have s8 := same_of h8 hNX; have y8 := at_of hNX; clear hNX)
          have q8 := q6.trans s8
          refine ⟨p8, _, rfl, .inr (SqT.of y8), rfl, rfl, _, rfl, ?_⟩
          rw [show (Str.ofString "L") = txt [76] from sL, if_pos rfl, inV_two]
          by_cases k2 : sgn a = 76 ∨ sgn a = 69
          · rw [decide_eq_true k2]
            refine iteF ?_
            have hss : SdsAt H8 ([] : List V) (asked (sgn a) (g1 loop) (g2 loop) x) := by
              unfold asked
              rw [if_pos k1, if_pos k2]
              exact .nil
            have Yn := Y.same q8
            refine ⟨_, rfl, O, _, _, _, rfl, rfl, SqL.of Yn.o, o0 _ _ _, L, vl, g.ls, rfl, Yn.l, Yn.p, hsum, fun W kw Hw hW sw yw kkw => ?_⟩
            have qw := q8.trans sw
            have Yw := Y.same qw
            refine ⟨_, rfl, O, _, _, _, rfl, rfl, SqL.of Yw.o, o1 _ _ _, TT, vt, g.ts, rfl, Yw.t, Yw.q, by omega, fun D kd Hx hD sx yx kkd => ?_⟩
            have qx := qw.trans sx
            have yw' := sx _ _ yw
            have hss' : SdsAt Hx ([] : List V) (asked (sgn a) (g1 loop) (g2 loop) x) := Paired.imp' (fun _ _ ⟨b, e1, e2⟩ => ⟨b, e1, sx _ _ (sw _ _ e2)⟩) hss
            have hP' : Hx p5 = some (.lst ([] : List V)) := sx _ _ (sw _ _ (s8 _ _ (s6 _ _ y5)))
            have hsl := pr_len hss'
            generalize asked (sgn a) (g1 loop) (g2 loop) x = ss at hss' hsl q
            have hbig : (([] : List V)).length ≤ 4 := by simp
            obtain ⟨zz, ezz⟩ : ∃ zz, zz = ([] : List V) := ⟨_, rfl⟩
            rw [← ezz] at hss' hP' hsl hbig
            refine ⟨_, rfl, p5, rfl, ⟨_, SqL.of hP'⟩, fun Z hZ => comp_list (K := K) (a := p5) (xs := zz) (fun i σ ys H' => ∃ o, σ = [o, some (.ref W), some (.ref D)] ∧ ys = ((ss.take i).map fun s => decide (s ∈ wl g.ls) || decide (s ∈ tl g.ts)).map V.bl ∧ H' = upd Hx Z (.lst ys)) ⟨none, rfl, rfl, rfl⟩ (fun i σ ys H' _ ⟨_, _, _, e⟩ => by rw [e]; exact SqL.of (same_upd hZ _ _ hP')) ?_ ?_⟩
            · rintro i y σ ys H' hi ⟨o, rfl, rfl, rfl⟩
              have sZ := same_upd (o := .lst (((ss.take i).map fun s => decide (s ∈ wl g.ls) || decide (s ∈ tl g.ts)).map V.bl)) hZ
              have hiz := (List.getElem?_eq_some_iff.mp hi).1
              obtain ⟨⟨p, r⟩, hs, b, rfl, hb⟩ := pr_get' hss' hi
              have et : ss.take (i + 1) = ss.take i ++ [(p, r)] := by rw [List.take_add_one, hs]; rfl
              refine ⟨_, rfl, _, rfl, W, _, rfl, DGet.t (k := ky p r) (sZ _ _ yw') (sZ _ _ hb), _, rfl, ?_⟩
              rw [kkw p r]
              have le : (((ss.take i).map fun s => decide (s ∈ wl g.ls) || decide (s ∈ tl g.ts)).map V.bl).length < sizeLine := by
                rw [List.length_map, List.length_map, List.length_take]
                omega
              have fin : ∀ c : Bool, c = (decide ((p, r) ∈ wl g.ls) || decide ((p, r) ∈ tl g.ts)) → ((ss.take i).map fun s => decide (s ∈ wl g.ls) || decide (s ∈ tl g.ts)).map V.bl ++ [V.bl c] = ((ss.take (i + 1)).map fun s => decide (s ∈ wl g.ls) || decide (s ∈ tl g.ts)).map V.bl := fun c hc => by
                rw [et, hc, List.map_append, List.map_append]; rfl
              refine ite2 (fun c => ?_) (fun c => ?_)
              · exact ⟨upd_same, le, _, rfl, fin true (by rw [show decide ((p, r) ∈ wl g.ls) = true from c]; rfl), by rw [upd_upd]⟩
              · have c' : decide ((p, r) ∈ wl g.ls) = false := by simpa using c
                refine ⟨_, rfl, _, rfl, D, _, rfl, DGet.t (k := ky p r) (sZ _ _ yx) (sZ _ _ hb), ?_⟩
                rw [kkd p r]
                exact ⟨upd_same, le, _, rfl, fin _ (by rw [c', Bool.false_or]), by rw [upd_upd]⟩
            · rintro σ ys H' ⟨o, rfl, rfl, rfl⟩
              rw [hsl, List.take_length]
              refine ⟨Z, ss.map fun s => decide (s ∈ wl g.ls) || decide (s ∈ tl g.ts), rfl, SqL.of upd_same, _, rfl, ?_⟩
              rw [show (ss.map fun s => decide (s ∈ wl g.ls) || decide (s ∈ tl g.ts)).any id = ss.any fun s => decide (s ∈ wl g.ls) || decide (s ∈ tl g.ts) by rw [List.any_map]; rfl]
              have q' := q _ (qx.trans (same_upd (o := .lst ((ss.map fun s => decide (s ∈ wl g.ls) || decide (s ∈ tl g.ts)).map V.bl)) hZ))
              refine ite2 (fun c => ?_) (fun c => ?_)
              · rw [if_pos c] at q'
                exact q'
              · rw [if_neg c] at q'
                exact ⟨_, rfl, q'⟩
          · rw [decide_eq_false k2]
            refine iteT ?_
            refine ⟨_, rfl, _, rfl, _, rfl, lit2, fun ta2 ga2 => ?_⟩
            (generalize hNX : upd H8 ta2 _ = Ha2; have sa2 := same_of ga2 hNX; have ya2 := at_of hNX; clear hNX)
            refine ⟨_, rfl, _, rfl, lit2, fun tb2 gb2 => ?_⟩
            (generalize hNX : upd Ha2 tb2 _ = Hb2; have sb2 := same_of gb2 hNX; have yb2 := at_of hNX; clear hNX)
            refine ⟨lit2, fun tc2 gc2 => ?_⟩
            (generalize hNX : upd Hb2 tc2 _ = Hc2; have sc2 := same_of gc2 hNX; have yc2 := at_of hNX; clear hNX)
            have sabc2 := (sa2.trans sb2).trans sc2
            refine ⟨p5, tc2, _, _, rfl, rfl, sabc2 _ _ (s8 _ _ (s6 _ _ y5)), yc2, (by show 0 + 2 ≤ _; omega), fun td2 gd2 => ?_⟩
            (generalize hNX : upd Hc2 td2 _ = Hd2; have sd2 := same_of gd2 hNX; have yd2 := at_of hNX; clear hNX)
            have q9 := (q8.trans sabc2).trans sd2
            have hss : SdsAt Hd2 ([V.ref ta2, V.ref tb2] : List V) (asked (sgn a) (g1 loop) (g2 loop) x) := by
              unfold asked
              rw [if_pos k1, if_neg k2]
              exact .cons ⟨ta2, rfl, ((sb2.trans sc2).trans sd2) _ _ ya2⟩ (.cons ⟨tb2, rfl, (sc2.trans sd2) _ _ yb2⟩ .nil)
            have Yn := Y.same q9
            refine ⟨_, rfl, O, _, _, _, rfl, rfl, SqL.of Yn.o, o0 _ _ _, L, vl, g.ls, rfl, Yn.l, Yn.p, hsum, fun W kw Hw hW sw yw kkw => ?_⟩
            have qw := q9.trans sw
            have Yw := Y.same qw
            refine ⟨_, rfl, O, _, _, _, rfl, rfl, SqL.of Yw.o, o1 _ _ _, TT, vt, g.ts, rfl, Yw.t, Yw.q, by omega, fun D kd Hx hD sx yx kkd => ?_⟩
            have qx := qw.trans sx
            have yw' := sx _ _ yw
            have hss' : SdsAt Hx ([V.ref ta2, V.ref tb2] : List V) (asked (sgn a) (g1 loop) (g2 loop) x) := Paired.imp' (fun _ _ ⟨b, e1, e2⟩ => ⟨b, e1, sx _ _ (sw _ _ e2)⟩) hss
            have hP' : Hx td2 = some (.lst ([V.ref ta2, V.ref tb2] : List V)) := sx _ _ (sw _ _ yd2)
            have hsl := pr_len hss'
            generalize asked (sgn a) (g1 loop) (g2 loop) x = ss at hss' hsl q
            have hbig : (([V.ref ta2, V.ref tb2] : List V)).length ≤ 4 := by simp
            obtain ⟨zz, ezz⟩ : ∃ zz, zz = ([V.ref ta2, V.ref tb2] : List V) := ⟨_, rfl⟩
            rw [← ezz] at hss' hP' hsl hbig
            refine ⟨_, rfl, td2, rfl, ⟨_, SqL.of hP'⟩, fun Z hZ => comp_list (K := K) (a := td2) (xs := zz) (fun i σ ys H' => ∃ o, σ = [o, some (.ref W), some (.ref D)] ∧ ys = ((ss.take i).map fun s => decide (s ∈ wl g.ls) || decide (s ∈ tl g.ts)).map V.bl ∧ H' = upd Hx Z (.lst ys)) ⟨none, rfl, rfl, rfl⟩ (fun i σ ys H' _ ⟨_, _, _, e⟩ => by rw [e]; exact SqL.of (same_upd hZ _ _ hP')) ?_ ?_⟩
            · rintro i y σ ys H' hi ⟨o, rfl, rfl, rfl⟩
              have sZ := same_upd (o := .lst (((ss.take i).map fun s => decide (s ∈ wl g.ls) || decide (s ∈ tl g.ts)).map V.bl)) hZ
              have hiz := (List.getElem?_eq_some_iff.mp hi).1
              obtain ⟨⟨p, r⟩, hs, b, rfl, hb⟩ := pr_get' hss' hi
              have et : ss.take (i + 1) = ss.take i ++ [(p, r)] := by rw [List.take_add_one, hs]; rfl
              refine ⟨_, rfl, _, rfl, W, _, rfl, DGet.t (k := ky p r) (sZ _ _ yw') (sZ _ _ hb), _, rfl, ?_⟩
              rw [kkw p r]
              have le : (((ss.take i).map fun s => decide (s ∈ wl g.ls) || decide (s ∈ tl g.ts)).map V.bl).length < sizeLine := by
                rw [List.length_map, List.length_map, List.length_take]
                omega
              have fin : ∀ c : Bool, c = (decide ((p, r) ∈ wl g.ls) || decide ((p, r) ∈ tl g.ts)) → ((ss.take i).map fun s => decide (s ∈ wl g.ls) || decide (s ∈ tl g.ts)).map V.bl ++ [V.bl c] = ((ss.take (i + 1)).map fun s => decide (s ∈ wl g.ls) || decide (s ∈ tl g.ts)).map V.bl := fun c hc => by
                rw [et, hc, List.map_append, List.map_append]; rfl
              refine ite2 (fun c => ?_) (fun c => ?_)
              · exact ⟨upd_same, le, _, rfl, fin true (by rw [show decide ((p, r) ∈ wl g.ls) = true from c]; rfl), by rw [upd_upd]⟩
              · have c' : decide ((p, r) ∈ wl g.ls) = false := by simpa using c
                refine ⟨_, rfl, _, rfl, D, _, rfl, DGet.t (k := ky p r) (sZ _ _ yx) (sZ _ _ hb), ?_⟩
                rw [kkd p r]
                exact ⟨upd_same, le, _, rfl, fin _ (by rw [c', Bool.false_or]), by rw [upd_upd]⟩
            · rintro σ ys H' ⟨o, rfl, rfl, rfl⟩
              rw [hsl, List.take_length]
              refine ⟨Z, ss.map fun s => decide (s ∈ wl g.ls) || decide (s ∈ tl g.ts), rfl, SqL.of upd_same, _, rfl, ?_⟩
              rw [show (ss.map fun s => decide (s ∈ wl g.ls) || decide (s ∈ tl g.ts)).any id = ss.any fun s => decide (s ∈ wl g.ls) || decide (s ∈ tl g.ts) by rw [List.any_map]; rfl]
              have q' := q _ (qx.trans (same_upd (o := .lst ((ss.map fun s => decide (s ∈ wl g.ls) || decide (s ∈ tl g.ts)).map V.bl)) hZ))
              refine ite2 (fun c => ?_) (fun c => ?_)
              · rw [if_pos c] at q'
                exact q'
              · rw [if_neg c] at q'
                exact ⟨_, rfl, q'⟩
        · rw [decide_eq_false k1]
          refine iteT ?_
          refine ⟨_, rfl, _, rfl, _, rfl, lit2, fun ta1 ga1 => ?_⟩
          (generalize hNX : upd H6 ta1 _ = Ha1; have sa1 := same_of ga1 hNX; have ya1 := at_of hNX; clear hNX)
          refine ⟨_, rfl, _, rfl, lit2, fun tb1 gb1 => ?_⟩
          (generalize hNX : upd Ha1 tb1 _ = Hb1; have sb1 := same_of gb1 hNX; have yb1 := at_of hNX; clear hNX)
          refine ⟨lit2, fun tc1 gc1 => ?_⟩
          (generalize hNX : upd Hb1 tc1 _ = Hc1; have sc1 := same_of gc1 hNX; have yc1 := at_of hNX; clear hNX)
          have sabc1 := (sa1.trans sb1).trans sc1
          refine ⟨p5, tc1, _, _, rfl, rfl, sabc1 _ _ (s6 _ _ y5), yc1, (by show 0 + 2 ≤ _; omega), fun td1 gd1 => ?_⟩
          (generalize hNX : upd Hc1 td1 _ = Hd1; have sd1 := same_of gd1 hNX; have yd1 := at_of hNX; clear hNX)
          have q7 := (q6.trans sabc1).trans sd1
          refine ⟨_, rfl, t, _, _, _, rfl, rfl, SqT.of (q7 _ _ ht), a0, lit2, fun p8 h8 => ?_⟩
          (generalize hNX : upd Hd1 p8 _ = H8; have s8 := same_of h8 hNX; have y8 := at_of hNX; clear hNX)
          have q8 := q7.trans s8
          refine ⟨p8, _, rfl, .inr (SqT.of y8), rfl, rfl, _, rfl, ?_⟩
          rw [show (Str.ofString "L") = txt [76] from sL, if_pos rfl, inV_two]
          by_cases k2 : sgn a = 76 ∨ sgn a = 69
          · rw [decide_eq_true k2]
            refine iteF ?_
            have hss : SdsAt H8 ([V.ref ta1, V.ref tb1] : List V) (asked (sgn a) (g1 loop) (g2 loop) x) := by
              unfold asked
              rw [if_neg k1, if_pos k2]
              exact .cons ⟨ta1, rfl, (((sb1.trans sc1).trans sd1).trans s8) _ _ ya1⟩ (.cons ⟨tb1, rfl, ((sc1.trans sd1).trans s8) _ _ yb1⟩ .nil)
            have Yn := Y.same q8
            refine ⟨_, rfl, O, _, _, _, rfl, rfl, SqL.of Yn.o, o0 _ _ _, L, vl, g.ls, rfl, Yn.l, Yn.p, hsum, fun W kw Hw hW sw yw kkw => ?_⟩
            have qw := q8.trans sw
            have Yw := Y.same qw
            refine ⟨_, rfl, O, _, _, _, rfl, rfl, SqL.of Yw.o, o1 _ _ _, TT, vt, g.ts, rfl, Yw.t, Yw.q, by omega, fun D kd Hx hD sx yx kkd => ?_⟩
            have qx := qw.trans sx
            have yw' := sx _ _ yw
            have hss' : SdsAt Hx ([V.ref ta1, V.ref tb1] : List V) (asked (sgn a) (g1 loop) (g2 loop) x) := Paired.imp' (fun _ _ ⟨b, e1, e2⟩ => ⟨b, e1, sx _ _ (sw _ _ e2)⟩) hss
            have hP' : Hx td1 = some (.lst ([V.ref ta1, V.ref tb1] : List V)) := sx _ _ (sw _ _ (s8 _ _ yd1))
            have hsl := pr_len hss'
            generalize asked (sgn a) (g1 loop) (g2 loop) x = ss at hss' hsl q
            have hbig : (([V.ref ta1, V.ref tb1] : List V)).length ≤ 4 := by simp
            obtain ⟨zz, ezz⟩ : ∃ zz, zz = ([V.ref ta1, V.ref tb1] : List V) := ⟨_, rfl⟩
            rw [← ezz] at hss' hP' hsl hbig
            refine ⟨_, rfl, td1, rfl, ⟨_, SqL.of hP'⟩, fun Z hZ => comp_list (K := K) (a := td1) (xs := zz) (fun i σ ys H' => ∃ o, σ = [o, some (.ref W), some (.ref D)] ∧ ys = ((ss.take i).map fun s => decide (s ∈ wl g.ls) || decide (s ∈ tl g.ts)).map V.bl ∧ H' = upd Hx Z (.lst ys)) ⟨none, rfl, rfl, rfl⟩ (fun i σ ys H' _ ⟨_, _, _, e⟩ => by rw [e]; exact SqL.of (same_upd hZ _ _ hP')) ?_ ?_⟩
            · rintro i y σ ys H' hi ⟨o, rfl, rfl, rfl⟩
              have sZ := same_upd (o := .lst (((ss.take i).map fun s => decide (s ∈ wl g.ls) || decide (s ∈ tl g.ts)).map V.bl)) hZ
              have hiz := (List.getElem?_eq_some_iff.mp hi).1
              obtain ⟨⟨p, r⟩, hs, b, rfl, hb⟩ := pr_get' hss' hi
              have et : ss.take (i + 1) = ss.take i ++ [(p, r)] := by rw [List.take_add_one, hs]; rfl
              refine ⟨_, rfl, _, rfl, W, _, rfl, DGet.t (k := ky p r) (sZ _ _ yw') (sZ _ _ hb), _, rfl, ?_⟩
              rw [kkw p r]
              have le : (((ss.take i).map fun s => decide (s ∈ wl g.ls) || decide (s ∈ tl g.ts)).map V.bl).length < sizeLine := by
                rw [List.length_map, List.length_map, List.length_take]
                omega
              have fin : ∀ c : Bool, c = (decide ((p, r) ∈ wl g.ls) || decide ((p, r) ∈ tl g.ts)) → ((ss.take i).map fun s => decide (s ∈ wl g.ls) || decide (s ∈ tl g.ts)).map V.bl ++ [V.bl c] = ((ss.take (i + 1)).map fun s => decide (s ∈ wl g.ls) || decide (s ∈ tl g.ts)).map V.bl := fun c hc => by
                rw [et, hc, List.map_append, List.map_append]; rfl
              refine ite2 (fun c => ?_) (fun c => ?_)
              · exact ⟨upd_same, le, _, rfl, fin true (by rw [show decide ((p, r) ∈ wl g.ls) = true from c]; rfl), by rw [upd_upd]⟩
              · have c' : decide ((p, r) ∈ wl g.ls) = false := by simpa using c
                refine ⟨_, rfl, _, rfl, D, _, rfl, DGet.t (k := ky p r) (sZ _ _ yx) (sZ _ _ hb), ?_⟩
                rw [kkd p r]
                exact ⟨upd_same, le, _, rfl, fin _ (by rw [c', Bool.false_or]), by rw [upd_upd]⟩
            · rintro σ ys H' ⟨o, rfl, rfl, rfl⟩
              rw [hsl, List.take_length]
              refine ⟨Z, ss.map fun s => decide (s ∈ wl g.ls) || decide (s ∈ tl g.ts), rfl, SqL.of upd_same, _, rfl, ?_⟩
              rw [show (ss.map fun s => decide (s ∈ wl g.ls) || decide (s ∈ tl g.ts)).any id = ss.any fun s => decide (s ∈ wl g.ls) || decide (s ∈ tl g.ts) by rw [List.any_map]; rfl]
              have q' := q _ (qx.trans (same_upd (o := .lst ((ss.map fun s => decide (s ∈ wl g.ls) || decide (s ∈ tl g.ts)).map V.bl)) hZ))
              refine ite2 (fun c => ?_) (fun c => ?_)
              · rw [if_pos c] at q'
                exact q'
              · rw [if_neg c] at q'
                exact ⟨_, rfl, q'⟩
          · rw [decide_eq_false k2]
            refine iteT ?_
            refine ⟨_, rfl, _, rfl, _, rfl, lit2, fun ta2 ga2 => ?_⟩
            (generalize hNX : upd H8 ta2 _ = Ha2; have sa2 := same_of ga2 hNX; have ya2 := at_of hNX; clear hNX)
            refine ⟨_, rfl, _, rfl, lit2, fun tb2 gb2 => ?_⟩
            (generalize hNX : upd Ha2 tb2 _ = Hb2; have sb2 := same_of gb2 hNX; have yb2 := at_of hNX; clear hNX)
            refine ⟨lit2, fun tc2 gc2 => ?_⟩
            (generalize hNX : upd Hb2 tc2 _ = Hc2; have sc2 := same_of gc2 hNX; have yc2 := at_of hNX; clear hNX)
            have sabc2 := (sa2.trans sb2).trans sc2
            refine ⟨td1, tc2, _, _, rfl, rfl, sabc2 _ _ (s8 _ _ yd1), yc2, (by show 2 + 2 ≤ _; omega), fun td2 gd2 => ?_⟩
            (generalize hNX : upd Hc2 td2 _ = Hd2; have sd2 := same_of gd2 hNX; have yd2 := at_of hNX; clear hNX)
            have q9 := (q8.trans sabc2).trans sd2
            have hss : SdsAt Hd2 ([V.ref ta1, V.ref tb1] ++ [V.ref ta2, V.ref tb2]) (asked (sgn a) (g1 loop) (g2 loop) x) := by
              unfold asked
              rw [if_neg k1, if_neg k2]
              exact .cons ⟨ta1, rfl, (((((sb1.trans sc1).trans sd1).trans s8).trans sabc2).trans sd2) _ _ ya1⟩ (.cons ⟨tb1, rfl, ((((sc1.trans sd1).trans s8).trans sabc2).trans sd2) _ _ yb1⟩ (.cons ⟨ta2, rfl, ((sb2.trans sc2).trans sd2) _ _ ya2⟩ (.cons ⟨tb2, rfl, (sc2.trans sd2) _ _ yb2⟩ .nil)))
            have Yn := Y.same q9
            refine ⟨_, rfl, O, _, _, _, rfl, rfl, SqL.of Yn.o, o0 _ _ _, L, vl, g.ls, rfl, Yn.l, Yn.p, hsum, fun W kw Hw hW sw yw kkw => ?_⟩
            have qw := q9.trans sw
            have Yw := Y.same qw
            refine ⟨_, rfl, O, _, _, _, rfl, rfl, SqL.of Yw.o, o1 _ _ _, TT, vt, g.ts, rfl, Yw.t, Yw.q, by omega, fun D kd Hx hD sx yx kkd => ?_⟩
            have qx := qw.trans sx
            have yw' := sx _ _ yw
            have hss' : SdsAt Hx ([V.ref ta1, V.ref tb1] ++ [V.ref ta2, V.ref tb2]) (asked (sgn a) (g1 loop) (g2 loop) x) := Paired.imp' (fun _ _ ⟨b, e1, e2⟩ => ⟨b, e1, sx _ _ (sw _ _ e2)⟩) hss
            have hP' : Hx td2 = some (.lst ([V.ref ta1, V.ref tb1] ++ [V.ref ta2, V.ref tb2])) := sx _ _ (sw _ _ yd2)
            have hsl := pr_len hss'
            generalize asked (sgn a) (g1 loop) (g2 loop) x = ss at hss' hsl q
            have hbig : (([V.ref ta1, V.ref tb1] ++ [V.ref ta2, V.ref tb2])).length ≤ 4 := by simp
            obtain ⟨zz, ezz⟩ : ∃ zz, zz = ([V.ref ta1, V.ref tb1] ++ [V.ref ta2, V.ref tb2]) := ⟨_, rfl⟩
            rw [← ezz] at hss' hP' hsl hbig
            refine ⟨_, rfl, td2, rfl, ⟨_, SqL.of hP'⟩, fun Z hZ => comp_list (K := K) (a := td2) (xs := zz) (fun i σ ys H' => ∃ o, σ = [o, some (.ref W), some (.ref D)] ∧ ys = ((ss.take i).map fun s => decide (s ∈ wl g.ls) || decide (s ∈ tl g.ts)).map V.bl ∧ H' = upd Hx Z (.lst ys)) ⟨none, rfl, rfl, rfl⟩ (fun i σ ys H' _ ⟨_, _, _, e⟩ => by rw [e]; exact SqL.of (same_upd hZ _ _ hP')) ?_ ?_⟩
            · rintro i y σ ys H' hi ⟨o, rfl, rfl, rfl⟩
              have sZ := same_upd (o := .lst (((ss.take i).map fun s => decide (s ∈ wl g.ls) || decide (s ∈ tl g.ts)).map V.bl)) hZ
              have hiz := (List.getElem?_eq_some_iff.mp hi).1
              obtain ⟨⟨p, r⟩, hs, b, rfl, hb⟩ := pr_get' hss' hi
              have et : ss.take (i + 1) = ss.take i ++ [(p, r)] := by rw [List.take_add_one, hs]; rfl
              refine ⟨_, rfl, _, rfl, W, _, rfl, DGet.t (k := ky p r) (sZ _ _ yw') (sZ _ _ hb), _, rfl, ?_⟩
              rw [kkw p r]
              have le : (((ss.take i).map fun s => decide (s ∈ wl g.ls) || decide (s ∈ tl g.ts)).map V.bl).length < sizeLine := by
                rw [List.length_map, List.length_map, List.length_take]
                omega
              have fin : ∀ c : Bool, c = (decide ((p, r) ∈ wl g.ls) || decide ((p, r) ∈ tl g.ts)) → ((ss.take i).map fun s => decide (s ∈ wl g.ls) || decide (s ∈ tl g.ts)).map V.bl ++ [V.bl c] = ((ss.take (i + 1)).map fun s => decide (s ∈ wl g.ls) || decide (s ∈ tl g.ts)).map V.bl := fun c hc => by
                rw [et, hc, List.map_append, List.map_append]; rfl
              refine ite2 (fun c => ?_) (fun c => ?_)
              · exact ⟨upd_same, le, _, rfl, fin true (by rw [show decide ((p, r) ∈ wl g.ls) = true from c]; rfl), by rw [upd_upd]⟩
              · have c' : decide ((p, r) ∈ wl g.ls) = false := by simpa using c
                refine ⟨_, rfl, _, rfl, D, _, rfl, DGet.t (k := ky p r) (sZ _ _ yx) (sZ _ _ hb), ?_⟩
                rw [kkd p r]
                exact ⟨upd_same, le, _, rfl, fin _ (by rw [c', Bool.false_or]), by rw [upd_upd]⟩
            · rintro σ ys H' ⟨o, rfl, rfl, rfl⟩
              rw [hsl, List.take_length]
              refine ⟨Z, ss.map fun s => decide (s ∈ wl g.ls) || decide (s ∈ tl g.ts), rfl, SqL.of upd_same, _, rfl, ?_⟩
              rw [show (ss.map fun s => decide (s ∈ wl g.ls) || decide (s ∈ tl g.ts)).any id = ss.any fun s => decide (s ∈ wl g.ls) || decide (s ∈ tl g.ts) by rw [List.any_map]; rfl]
              have q' := q _ (qx.trans (same_upd (o := .lst ((ss.map fun s => decide (s ∈ wl g.ls) || decide (s ∈ tl g.ts)).map V.bl)) hZ))
              refine ite2 (fun c => ?_) (fun c => ?_)
              · rw [if_pos c] at q'
                exact q'
              · rw [if_neg c] at q'
                exact ⟨_, rfl, q'⟩
end
end K31
end
section
set_option Elab.async false
set_option linter.all false
set_option maxRecDepth 100000
set_option maxHeartbeats 4000000
namespace K31
open PySem L2 K51
def But3 (O L T : Addr) (H H' : Hp) : Prop := ∀ b o, b ≠ O → b ≠ L → b ≠ T → H b = some o → H' b = some o
def spLPut : Sp := fun vs H Q _ => ∃ (O t L T : Addr) (vl vt : List V) (f : Fr) (ah : Lps) (loop : List Nat) (a : Lt) (x : Nat), vs = [.ref O, .ref t] ∧ OAt H O L T vl vt f ∧ Ok f ∧ f.ts.length ≤ 300 ∧ f.ls = ah ++ [loop] ∧ H t = some (.tup (ltV a)) ∧ Lets a ∧ f.can a = some x ∧
  ∀ t' H' vl' vt', But3 O L T H H' → H' t' = some (.tup [.int (g1 loop : Int), .int (g2 loop : Int), .int (x : Int)]) → OAt H' O L T vl' vt' (f.put a x) → (∀ b, V.ref b ∈ vl' → V.ref b ∈ vl ∨ H b = none) → (∀ b, V.ref b ∈ vt' → V.ref b ∈ vt ∨ H b = none) → Q (.ref t') H'
theorem lps_refs {H : Hp} {vs : List V} {ls : Lps} {v : V} (h : LpsAt H vs ls) (hv : v ∈ vs) : ∃ b, v = .ref b := by
  induction h with
  | nil => cases hv
  | @cons a1 b1 a2 b2 q t ih =>
    rcases List.mem_cons.mp hv with z | z
    · obtain ⟨b', e1, _⟩ := q
      exact ⟨b', z.trans e1⟩
    · exact ih z
theorem trs_refs {H : Hp} {vs : List V} {ts : List (Nat × Nat × Nat)} {v : V} (h : TrsAt H vs ts) (hv : v ∈ vs) : ∃ b, v = .ref b := by
  induction h with
  | nil => cases hv
  | @cons a1 b1 a2 b2 q t ih =>
    rcases List.mem_cons.mp hv with z | z
    · obtain ⟨b', e1, _⟩ := q
      exact ⟨b', z.trans e1⟩
    · exact ih z
theorem OAt.apart {H : Hp} {O L T : Addr} {vl vt : List V} {f : Fr} (h : OAt H O L T vl vt f) : O ≠ L ∧ O ≠ T := by
  constructor
  · intro z
    have e := h.o
    rw [z, h.l] at e
    injection e with e
    injection e with e
    obtain ⟨b, e2⟩ := lps_refs (v := .int (f.n : Int)) h.p (by rw [e]; simp)
    cases e2
  · intro z
    have e := h.o
    rw [z, h.t] at e
    injection e with e
    injection e with e
    obtain ⟨b, e2⟩ := trs_refs (v := .int (f.n : Int)) h.q (by rw [e]; simp)
    cases e2
theorem OAt.apart2 {H : Hp} {O L T : Addr} {vl vt : List V} {f : Fr} (h : OAt H O L T vl vt f) (hne : f.ls ≠ []) : L ≠ T := by
  intro z
  have e := h.l
  rw [z, h.t] at e
  injection e with e
  injection e with e
  have hp := h.p
  cases hl : f.ls with
  | nil => exact hne hl
  | cons l ls =>
    rw [hl] at hp
    cases hp with
    | @cons v _ vr _ q t =>
      obtain ⟨b, e1, e2⟩ := q
      obtain ⟨xs, e3⟩ := pr_memT h.q (b := b) (by rw [e, e1]; simp)
      rw [e2] at e3; cases e3
section
variable {P : Program} {w : World} {K : PySem.W.Frag} {mg : Str → Option Value} {base : Heap}
theorem scLPut : FnScope ["_law_front", "_law_letter", "_law_x", "_law_triple"] ["_law_front", "_law_letter"] (defScope sLPut) := ⟨rfl, rfl, rfl, by decide +kernel, rfl, by decide +kernel, by decide +kernel⟩
theorem ok_lput {f f1 f2 : Addr} {fd d1 d2 : FuncData} (U : Fun K "_law_put" "_law_put" sLPut f fd) (TM : TxtM mg) (G1 : Use P w K mg base 2 "_law_can" ["_law_front", "_law_letter"] spCan f1 d1) (G2 : Use P w K mg base 1 "_law_step" ["_law_loops", "_law_letter", "_law_x"] spStep f2 d2) :
    FnOk P w K mg base CX0 3 f fd ["_law_front", "_law_letter"] spLPut := by
  refine U.ok scLPut (fun vs H Q E h => ?_) (fun cdv A outer s H vs Q E hr h => ?_)
  · obtain ⟨O, t, L, T, vl, vt, g, ah, loop, a, x, rfl, _⟩ := h
    rfl
  · obtain ⟨O, t, L, T, vl, vt, g, ah, loop, a, x, rfl, Y, ok, hts, el, ht, ha, hc, q⟩ := h
    have hr1 := hr.mono (show 1 ≤ 2 by decide)
    refine ⟨_, pss_cons (ps_set (i := 2) scLPut.nd rfl (Or.inl rfl) (pe_call G1.g hr rfl G1.m G1.k G1.b .nil pass0 (pa_cons (pv 0) (pa_cons (pv 1) pa_nil))))
      (pss_cons (ps_if (pt_cmpR op_isN (pv 2) pe_non (nomark _)) pss_never pss_nil)
      (pss_cons (ps_set (i := 3) scLPut.nd rfl (Or.inl rfl) (pe_tup (pa_cons (pe_ix ix_list (pe_ix ix_list (pe_ix ix_list (pv 0) pe_int (fun _ _ => rfl)) (pe_un un_neg pe_int) (fun _ _ => rfl)) pe_int (fun _ _ => rfl)) (pa_cons (pe_ix ix_list (pe_ix ix_list (pe_ix ix_list (pv 0) pe_int (fun _ _ => rfl)) (pe_un un_neg pe_int) (fun _ _ => rfl)) pe_int (fun _ _ => rfl)) (pa_cons (pv 2) pa_nil)))))
      (pss_cons (ps_expr (pe_call G2.g hr1 rfl G2.m G2.k G2.b .nil pass0 (pa_cons (pe_ix ix_list (pv 0) pe_int (fun _ _ => rfl)) (pa_cons (pv 1) (pa_cons (pv 2) pa_nil)))))
      (pss_cons (ps_expr (pe_bm PySem.F.plainAttrs_list PySem.F.slot_list_append PySem.F.type_list_append mt_append (pe_ix ix_list (pv 0) pe_int (fun _ _ => rfl)) (pa_cons (pv 3) pa_nil)))
      (pss_cons (ps_asg (pe_callB (call_max2 rfl) (by rfl) TM.max PyProof.Rows.boot_max (pa_cons (pe_ix ix_list (pv 0) pe_int (fun _ _ => rfl)) (pa_cons (pe_op op_add (pv 2) pe_int) pa_nil))) (pg_sub (pv 0) pe_int set_list))
      (pss_one (ps_ret (pv 3)))))))), ?_⟩
    have hline := line5000
    have o0 : ∀ x y z : V, atI [x, y, z] 0 = some x := fun _ _ _ => rfl
    have o1 : ∀ x y z : V, atI [x, y, z] 1 = some y := fun _ _ _ => rfl
    have o2 : ∀ x y z : V, atI [x, y, z] 2 = some z := fun _ _ _ => rfl
    have hcan : canAt ah loop g.ts g.n a = some x := by
      have := hc
      obtain ⟨ls, ts, n⟩ := g
      dsimp only at el
      rw [el, can_at] at this
      exact this
    have hx := (can_third hcan).1
    have hop := ok_put ok ha hc
    have ep : g.put a x = ⟨stepOf ah loop a x, g.ts ++ [(g1 loop, g2 loop, x)], max g.n (x + 1)⟩ := by
      obtain ⟨ls, ts, n⟩ := g
      dsimp only at el
      rw [el, put_at]
    have hm := ok_many ok
    have he := ok_each ok
    rw [el] at hm he
    rw [List.length_append, List.length_singleton] at hm
    obtain ⟨nOL, nOT⟩ := Y.apart
    have nLT := Y.apart2 (by rw [el]; simp)
    refine ⟨_, rfl, _, rfl, O, t, L, T, vl, vt, g, a, rfl, Y, ok, hts, ht, ha, fun H1 s1 => ?_⟩
    rw [hc]
    refine ⟨_, rfl, rfl, _, rfl, ?_⟩
    rw [decide_eq_false (by intro z; cases z)]
    refine iteF ?_
    have Y1 := Y.same s1
    have hp := Y1.p
    rw [el] at hp
    obtain ⟨va, v, ev, hpa, B, rfl, hB⟩ := pr_snoc hp
    have hat : atI vl (-1) = some (V.ref B) := atI_m1 (by rw [ev]; simp)
    have hg := get_g1 (ok.two loop (by rw [el]; simp))
    refine ⟨_, rfl, O, _, _, _, rfl, rfl, SqL.of Y1.o, o0 _ _ _, _, rfl, L, _, _, _, rfl, rfl, SqL.of Y1.l, hat, B, _, _, _, rfl, rfl, SqL.of hB, atI_nat (j := 0) (nV_get hg.1),
      _, rfl, O, _, _, _, rfl, rfl, SqL.of Y1.o, o0 _ _ _, _, rfl, L, _, _, _, rfl, rfl, SqL.of Y1.l, hat, B, _, _, _, rfl, rfl, SqL.of hB, atI_nat (j := 1) (nV_get hg.2), _, rfl, lit3, fun tt h2 => ?_⟩
    (generalize hNX : upd H1 tt _ = H2; have s2 := same_of h2 hNX; have y2 := at_of hNX; clear hNX)
    have q2 := s1.trans s2
    have Y2 := Y1.same s2
    have ntt : H tt = none := s1.free h2
    refine ⟨_, rfl, O, _, _, _, rfl, rfl, SqL.of Y2.o, o0 _ _ _, _, rfl, _, rfl, L, t, vl, ah, loop, a, g.n, x, rfl, Y2.l, by rw [← el]; exact Y2.p, q2 _ _ ht, ha, hx, fun l hl => ⟨ok.two l (by rw [el]; exact hl), Nat.le_trans (he l hl) (by omega)⟩, by omega, fun H3 vl' b3 y3 p3 n3 => ?_⟩
    have hO3 := b3 _ _ nOL Y2.o
    have hT3 := b3 _ _ (Ne.symm nLT) Y2.t
    have lvt := pr_len Y.q
    refine ⟨_, rfl, O, _, _, _, rfl, rfl, SqL.of hO3, o1 _ _ _, .inl ⟨rfl, _, SqL.of hT3⟩, _, rfl, T, _, _, rfl, rfl, hT3, by omega, ?_⟩
    (generalize hNX : upd H3 T _ = H4; have k4 := wr_of hNX; have y4 := at_of hNX; clear hNX)
    have hO4 : H4 O = _ := (k4 O nOT).trans hO3
    refine ⟨_, rfl, O, _, _, _, rfl, rfl, SqL.of hO4, o2 _ _ _, _, rfl, _, _, rfl, rfl, _, _, rfl, _, rfl, O, _, _, _, rfl, rfl, hO4, (rfl : ixN 3 2 = some 2), ?_⟩
    (generalize hNX : upd H4 O _ = H5; have k5 := wr_of hNX; have y5 := at_of hNX; clear hNX)
    have htt5 : H5 tt = some (.tup [.int (g1 loop : Int), .int (g2 loop : Int), .int (x : Int)]) := by
      have n1 : tt ≠ L := Ne.symm (ne_of_none Y.l ntt)
      have n2 : tt ≠ O := Ne.symm (ne_of_none Y.o ntt)
      have n3 : tt ≠ T := Ne.symm (ne_of_none Y.t ntt)
      exact (k5 tt n2).trans ((k4 tt n3).trans (b3 _ _ n1 y2))
    have inn : ∀ b, V.ref b ∈ vl' → b ≠ T ∧ b ≠ O := fun b hb => by
      obtain ⟨l, hl, e⟩ := pr_mem p3 hb
      have h2 : 2 ≤ l.length := hop.two l (by rw [ep]; exact hl)
      refine ⟨fun z => ?_, fun z => ?_⟩
      · rw [z, hT3] at e
        injection e with e
        injection e with e
        exact tr_no Y2.q e (by rintro rfl; simp at h2)
      · rw [z, hO3] at e
        injection e with e
        injection e with e
        cases l with
        | nil => simp at h2
        | cons c l => simp [nV] at e
    refine ⟨_, rfl, q tt H5 vl' (vt ++ [.ref tt]) (fun b o n1 n2 n3 e => (k5 b n1).trans ((k4 b n3).trans (b3 _ _ n2 (q2 _ _ e)))) htt5 ?_ (fun b hb => (n3 b hb).imp id q2.free) (mem_new ntt)⟩
    rw [ep]
    refine ⟨?_, (k5 L (Ne.symm nOL)).trans ((k4 L nLT).trans y3), LpsAt.move p3 fun b o hb e => (k5 b (inn b hb).2).trans ((k4 b (inn b hb).1).trans e), (k5 T (Ne.symm nOT)).trans y4, pr_app (TrsAt.move Y2.q fun b o hb e => ?_) (.cons ⟨tt, rfl, htt5⟩ .nil)⟩
    · rw [y5]
      have e6 : (if (x : Int) + 1 > (g.n : Int) then (x : Int) + 1 else (g.n : Int)) = ((max g.n (x + 1) : Nat) : Int) := by split <;> omega
      show some (HO.lst [V.ref L, V.ref T, V.int (if (x : Int) + 1 > (g.n : Int) then (x : Int) + 1 else (g.n : Int))]) = _
      rw [e6]
    · obtain ⟨xs, e'⟩ := pr_memT Y2.q hb
      exact (k5 b (ne_of e' Y2.o (by intro z; cases z))).trans ((k4 b (ne_of e' Y2.t (by intro z; cases z))).trans (b3 _ _ (ne_of e' Y2.l (by intro z; cases z)) e))
end
end K31
end
section
set_option Elab.async false
set_option linter.all false
set_option maxRecDepth 100000
set_option maxHeartbeats 4000000
namespace K31
open PySem L2 K51
def Can (f : Fr) (a : Lt) : Prop := Lets a ∧ (f.can a).isSome = true
def spPartings : Sp := fun vs H Q _ => ∃ (O L T : Addr) (vl vt : List V) (f : Fr), vs = [.ref O] ∧ OAt H O L T vl vt f ∧ Ok f ∧ f.ts.length ≤ 300 ∧
  ∀ r xs lts H', Same H H' → H' r = some (.lst xs) → LetsAt H' xs lts → (∀ a ∈ lts, Can f a) → xs.length ≤ 400 → Q (.ref r) H'
theorem lets_len {H : Hp} : ∀ {xs : List V} {ls : List Lt}, LetsAt H xs ls → xs.length = ls.length
  | _, _, .nil => rfl
  | _, _, .cons _ t => by rw [List.length_cons, List.length_cons, lets_len t]
theorem lets_app {H : Hp} {xs ys : List V} {ls ms : List Lt} (h : LetsAt H xs ls) (g : LetsAt H ys ms) : LetsAt H (xs ++ ys) (ls ++ ms) := pr_app h g
section
variable {P : Program} {w : World} {K : PySem.W.Frag} {mg : Str → Option Value} {base : Heap}
theorem scPartings : FnScope ["_law_front", "_law_found", "_law_j", "_law_loop"] ["_law_front"] (defScope sPartings) := ⟨rfl, rfl, rfl, by decide +kernel, rfl, by decide +kernel, by decide +kernel⟩
theorem ok_partings {f f1 : Addr} {fd d1 : FuncData} (U : Fun K "_law_partings" "_law_partings" sPartings f fd) (T : TxtN mg) (G : Use P w K mg base 2 "_law_can" ["_law_front", "_law_letter"] spCan f1 d1) :
    FnOk P w K mg base CX0 3 f fd ["_law_front"] spPartings := by
  refine U.ok scPartings (fun vs H Q E h => ?_) (fun cdv A outer s H vs Q E hr h => ?_)
  · obtain ⟨O, L, TT, vl, vt, g, rfl, _⟩ := h
    rfl
  · obtain ⟨O, L, TT, vl, vt, g, rfl, Y, ok, hts, q⟩ := h
    refine ⟨_, pss_cons (ps_set (i := 1) scPartings.nd rfl (Or.inl rfl) (pe_lst pa_nil))
      (pss_cons (ps_for PassesOwn.never rfl (pi_enumR rfl T.enum rfl T.rev (pa_cons (pe_ix ix_list (pv 0) pe_int (fun _ _ => rfl)) pa_nil)) (pg_tup rfl (pgs_cons (pg_name (i := 2) scPartings.nd rfl (Or.inr rfl)) (pgs_cons (pg_name (i := 3) scPartings.nd rfl (Or.inl rfl)) pgs_nil)))
        (pss_one (ps_set (i := 1) scPartings.nd rfl (Or.inl rfl) (pe_op op_cat (pv 1) (pe_comp (N := ["_law_k", "_law_j"]) (fr := [none, some 2]) (compScopeF (by decide +kernel) rfl rfl (by decide +kernel) (by decide +kernel) (by
            intro y hy e
            simp only [List.mem_cons, List.not_mem_nil, or_false] at hy
            rcases hy with rfl | rfl | rfl
            all_goals first | (cases e; done) | exact .inl rfl) (by
            intro j i y e1 e2
            match j, e1, e2 with
            | 0, e1, _ => simp at e1
            | 1, e1, e2 => simp at e1 e2; subst e1 e2; exact ⟨rfl, rfl⟩
            | j + 2, e1, _ => simp at e1)) rfl (pi_range1 rfl T.range (pa_cons (pe_callB call_len_seq (by rfl) T.len PySem.boot_len (pa_cons (pv 3) pa_nil)) pa_nil))
          (fun C' s' H' fp pins => ⟨pg_name (i := 0) (show (["_law_k", "_law_j"] : List Str).Nodup by decide +kernel) rfl (Or.inl rfl) (.inr rfl), pif_nil, pe_tup (pa_cons pe_str (pa_cons (pv 1) (pa_cons (pv 0) pa_nil)))⟩))))))
      (pss_one (ps_ret (pe_comp (N := ["_law_letter", "_law_front"]) (fr := [none, some 0]) (compScopeF (by decide +kernel) rfl rfl (by decide +kernel) (by decide +kernel) (by
            intro y hy e
            simp only [List.mem_cons, List.not_mem_nil, or_false] at hy
            rcases hy with rfl | rfl | rfl | rfl
            all_goals first | (cases e; done) | exact .inl rfl) (by
            intro j i y e1 e2
            match j, e1, e2 with
            | 0, e1, _ => simp at e1
            | 1, e1, e2 => simp at e1 e2; subst e1 e2; exact ⟨rfl, rfl⟩
            | j + 2, e1, _ => simp at e1)) rfl (pi_list (pv 1))
          (fun C' s' H' fp pins => ⟨pg_name (i := 0) (show (["_law_letter", "_law_front"] : List Str).Nodup by decide +kernel) rfl (Or.inl rfl) (.inr rfl), pif_one (pt_cmpR op_notN (pe_call G.g hr rfl G.m G.k G.b .nil pass0 (pa_cons (pv 1) (pa_cons (pv 0) pa_nil))) pe_non (nomark _)), pv 0⟩))))), ?_⟩
    have hline := line5000
    have o0 : ∀ x y z : V, atI [x, y, z] 0 = some x := fun _ _ _ => rfl
    have hlen := pr_len Y.p
    have htot := ok.tot
    refine ⟨Nat.zero_le _, fun p1 h1 => ?_⟩
    (generalize hNX : upd H p1 _ = H1; have s1 := same_of h1 hNX; have y1 := at_of hNX; clear hNX)
    have Y1 := Y.same s1
    refine ⟨_, rfl, O, _, _, _, rfl, rfl, SqL.of Y1.o, o0 _ _ _, L, vl, rfl, SqL.of Y1.l, for_enumR (K := K) (a := L) (xs := vl) (fun i σ H2 => ∃ v2 v3 Pf zs lts, σ = [some (.ref O), some (.ref Pf), v2, v3] ∧ Same H H2 ∧ H2 Pf = some (.lst zs) ∧ LetsAt H2 zs lts ∧ (∀ a ∈ lts, Lets a) ∧ zs.length ≤ ((g.ls.drop (g.ls.length - i)).map List.length).sum)
      ⟨none, none, p1, [], [], rfl, s1, y1, .nil, by simp, Nat.zero_le _⟩ (fun i σ H2 _ ⟨_, _, _, _, _, _, e, _⟩ => SqL.of (e _ _ Y.l)) ?_ ?_⟩
    · rintro i x pt σ H2 hi hx ⟨v2, v3, Pf, zs, lts, rfl, sm, hPf, hlz, hcz, hz⟩ hpt
      rw [hlen] at hi hx
      obtain ⟨l, hs, b, rfl, hb⟩ := pr_get' Y.p hx
      have ed := drop_last_get hs hi
      have sd := sum_drop g.ls (g.ls.length - (i + 1))
      rw [ed, List.map_cons, List.sum_cons] at sd
      (generalize hNX : upd H2 pt _ = H3; have s3 := same_of hpt hNX; have y3 := at_of hNX; clear hNX)
      have sm3 := sm.trans s3
      refine ⟨pt, _, rfl, SqT.of y3, rfl, _, _, rfl, _, _, rfl, rfl, ?_⟩
      refine ⟨_, rfl, _, rfl, b, _, rfl, .inl (SqL.of (sm3 _ _ hb)), _, rfl, by rw [nV_len]; omega, by rw [nV_len]; omega, fun D hD => comp_range (lo := 0) (n := (((nV l).length : Nat) : Int).toNat) (fun k σ ys H' => ∃ o, σ = [o, some (.int (i : Int))] ∧ Same H3 H' ∧ H' D = some (.lst ys) ∧ LetsAt H' ys ((List.range k).map fun k => Lt.sp i k))
        ⟨none, rfl, same_upd hD, upd_same, .nil⟩ ?_ ?_⟩
      · rintro k σ ys H' hk ⟨o, rfl, sk, hDk, hlk⟩
        rw [Int.toNat_natCast, nV_len] at hk
        have hly := lets_len hlk
        rw [List.length_map, List.length_range] at hly
        refine ⟨_, rfl, _, rfl, lit3, fun tt gt => ?_⟩
        (generalize hNX : upd H' tt _ = H4; have s4 := same_of gt hNX; have y4 := at_of hNX; clear hNX)
        have hD4 := s4 _ _ hDk
        refine ⟨hD4, by omega, ?_⟩
        (generalize hNX : upd H4 D _ = H5; have k5 := wr_of hNX; have y5 := at_of hNX; clear hNX)
        have mv : ∀ t xs, H4 t = some (.tup xs) → H5 t = some (.tup xs) := fun t xs e => (k5 t (ne_of e hD4 (by intro z; cases z))).trans e
        refine ⟨_, rfl, fun b' o' e => (k5 b' (ne_of_none e hD)).trans (s4 _ _ (sk _ _ e)), y5, ?_⟩
        rw [List.range_succ, List.map_append]
        refine lets_app ((hlk.same s4).move mv) (.cons ⟨tt, rfl, mv _ _ ?_⟩ .nil)
        rw [y4, show (Str.ofString "S") = txt [83] from s83, Int.zero_add]
        rfl
      · rintro σ ys H' ⟨o, rfl, sk, hDk, hlk⟩
        rw [Int.toNat_natCast, nV_len] at hlk
        have hly := lets_len hlk
        rw [List.length_map, List.length_range] at hly
        refine ⟨Pf, D, _, _, rfl, rfl, sk _ _ (s3 _ _ hPf), hDk, by omega, fun Pn hn => ?_⟩
        (generalize hNX : upd H' Pn _ = H6; have s6 := same_of hn hNX; have y6 := at_of hNX; clear hNX)
        refine ⟨_, _, Pn, _, lts ++ (List.range l.length).map (fun k => Lt.sp i k), rfl, (sm3.trans sk).trans s6, y6, lets_app (hlz.same ((s3.trans sk).trans s6)) (hlk.same s6), ?_, ?_⟩
        · intro a ha
          rcases List.mem_append.mp ha with z | z
          · exact hcz a z
          · obtain ⟨k, _, rfl⟩ := List.mem_map.mp z
            trivial
        · rw [ed, List.map_cons, List.sum_cons, List.length_append]; omega
    · rintro σ H2 ⟨v2, v3, Pf, zs, lts, rfl, sm, hPf, hlz0, hcz0, hz⟩
      rw [hlen, Nat.sub_self, List.drop_zero] at hz
      have sm0 := sm
      refine ⟨_, rfl, Pf, rfl, ⟨_, SqL.of hPf⟩, fun Z hZ => comp_list (K := K) (a := Pf) (xs := zs) (fun i σ ys H' => ∃ o lz, σ = [o, some (.ref O)] ∧ Same H2 H' ∧ H' Z = some (.lst ys) ∧ LetsAt H' ys lz ∧ (∀ a ∈ lz, Can g a) ∧ ys.length ≤ i) ⟨none, [], rfl, same_upd hZ, upd_same, .nil, by simp, Nat.le_refl _⟩ (fun i σ ys H' _ ⟨_, _, _, e, _⟩ => SqL.of (e _ _ hPf)) ?_ ?_⟩
      · rintro i y σ ys H' hi ⟨o, lz, rfl, sm, hZ', hlz, hcz, hlen'⟩
        obtain ⟨b, hb1, tb, rfl, htb⟩ := paired_get hlz0 hi
        have hiz := (List.getElem?_eq_some_iff.mp hi).1
        have hbl : Lets b := hcz0 b (List.mem_of_getElem? hb1)
        have Y' := (Y.same sm0).same sm
        refine ⟨_, rfl, _, rfl, O, tb, L, TT, vl, vt, g, b, rfl, Y', ok, hts, sm _ _ htb, hbl, fun H2 s2 => ⟨rfl, _, rfl, ?_⟩⟩
        have sm2 := sm.trans s2
        have hZ2 := s2 _ _ hZ'
        cases ec : g.can b with
        | none =>
          refine iteF ?_
          exact ⟨_, lz, rfl, sm2, hZ2, hlz.same s2, hcz, by omega⟩
        | some x =>
          refine iteT ?_
          refine ⟨_, rfl, hZ2, by omega, ?_⟩
          (generalize hNX : upd H2 Z _ = H3; have k3 := wr_of hNX; have y3 := at_of hNX; clear hNX)
          have mv : ∀ t xs, H2 t = some (.tup xs) → H3 t = some (.tup xs) := fun t xs e => (k3 t (ne_of e hZ2 (by intro z; cases z))).trans e
          refine ⟨_, lz ++ [b], rfl, fun b' o' e => (k3 b' (ne_of_none e hZ)).trans (sm2 _ _ e), y3, lets_app ((hlz.same s2).move mv) (.cons ⟨tb, rfl, mv _ _ (sm2 _ _ htb)⟩ .nil), ?_, ?_⟩
          · intro c hc
            rcases List.mem_append.mp hc with z | z
            · exact hcz c z
            · rw [List.mem_singleton.mp z]
              exact ⟨hbl, by rw [ec]; rfl⟩
          · rw [List.length_append, List.length_singleton]; omega
      · rintro σ ys H' ⟨o, lz, rfl, sm, hZ', hlz, hcz, hlen'⟩
        exact q Z ys lz H' (sm0.trans sm) hZ' hlz hcz (by omega)
def spDrawn : Sp := fun vs H Q _ => ∃ (p O L T : Addr) (pq : Int × Int) (vl vt : List V) (f : Fr), vs = [.ref p, .ref O] ∧ H p = some (.lst (potV pq)) ∧ PotOk pq ∧ OAt H O L T vl vt f ∧ p ≠ O ∧ p ≠ L ∧ p ≠ T ∧ V.ref p ∉ vl ∧ Ok f ∧ f.ts.length ≤ 300 ∧ f.ls ≠ [] ∧
  ∀ t a pq' H', But p H H' → H' p = some (.lst (potV pq')) → PotOk pq' → H' t = some (.tup (ltV a)) → Can f a → Q (.ref t) H'
theorem OAt.but {H H' : Hp} {p O L T : Addr} {vl vt : List V} {f : Fr} {xs : List V} (h : OAt H O L T vl vt f) (hp : H p = some (.lst xs)) (s : But p H H') (n1 : p ≠ O) (n2 : p ≠ L) (n3 : p ≠ T) (n4 : V.ref p ∉ vl) : OAt H' O L T vl vt f :=
  ⟨s _ _ (Ne.symm n1) h.o, s _ _ (Ne.symm n2) h.l, LpsAt.move h.p fun b o hb e => s b o (fun z => n4 (by rw [← z]; exact hb)) e, s _ _ (Ne.symm n3) h.t, TrsAt.move h.q fun b o hb e => by
    obtain ⟨ys, e'⟩ := pr_memT h.q hb
    exact s b o (ne_of e' hp (by intro z; cases z)) e⟩
theorem scDrawn : FnScope ["_law_pot_here", "_law_own", "_law_way", "_law_some"] ["_law_pot_here", "_law_own"] (defScope sDrawn) := ⟨rfl, rfl, rfl, by decide +kernel, rfl, by decide +kernel, by decide +kernel⟩
theorem ok_drawn {f f1 f2 f3 : Addr} {fd d1 d2 d3 : FuncData} (U : Fun K "_law_letter_drawn" "_law_letter_drawn" sDrawn f fd) (T : TxtN mg) (G : Use P w K mg base 2 "_law_can" ["_law_front", "_law_letter"] spCan f1 d1)
    (GD : Use P w K mg base 1 "_law_digit" ["_law_pot_here", "_law_base"] spDigit f2 d2) (GP : Use P w K mg base 3 "_law_partings" ["_law_front"] spPartings f3 d3) :
    FnOk P w K mg base CX0 4 f fd ["_law_pot_here", "_law_own"] spDrawn := by
  refine U.ok scDrawn (fun vs H Q E h => ?_) (fun cdv A outer s H vs Q E hr h => ?_)
  · obtain ⟨p, O, L, TT, pq, vl, vt, g, rfl, _⟩ := h
    rfl
  · obtain ⟨p, O, L, TT, pq, vl, vt, g, rfl, hp, hpq, Y0, n1, n2, n3, n4, ok, hts, hne, q⟩ := h
    have hr1 := hr.mono (show 1 ≤ 3 by decide)
    have hr2 := hr.mono (show 2 ≤ 3 by decide)
    refine ⟨_, pss_cons (ps_set (i := 2) scDrawn.nd rfl (Or.inl rfl) (pe_call GD.g hr1 rfl GD.m GD.k GD.b .nil pass0 (pa_cons (pv 0) (pa_cons pe_int pa_nil))))
      (pss_cons (ps_comp (i := 3) (N := ["_law_letter", "_law_own"]) (fr := [none, some 1]) (compScopeF (by decide +kernel) rfl rfl (by decide +kernel) (by decide +kernel) (by
            intro y hy e
            simp only [List.mem_cons, List.not_mem_nil, or_false] at hy
            rcases hy with rfl | rfl | rfl | rfl
            all_goals first | (cases e; done) | exact .inl rfl) (by
            intro j i y e1 e2
            match j, e1, e2 with
            | 0, e1, _ => simp at e1
            | 1, e1, e2 => simp at e1 e2; subst e1 e2; exact ⟨rfl, rfl⟩
            | j + 2, e1, _ => simp at e1)) rfl (pi_list (pe_lst (pa_cons (pe_tup (pa_cons pe_str pa_nil)) (pa_cons (pe_tup (pa_cons pe_str pa_nil)) (pa_cons (pe_tup (pa_cons pe_str pa_nil)) pa_nil)))))
          (fun C' s' H' fp pins => ⟨pg_name (i := 0) (show (["_law_letter", "_law_own"] : List Str).Nodup by decide +kernel) rfl (Or.inl rfl) (.inr rfl), pif_one (pt_cmpR op_notN (pe_call G.g hr2 rfl G.m G.k G.b .nil pass0 (pa_cons (pv 1) (pa_cons (pv 0) pa_nil))) pe_non (nomark _)), pv 0⟩) scDrawn.nd rfl (Or.inl rfl))
      (pss_cons (ps_if (pt_cmpR op_gt (pv 2) pe_int (nomark _)) (pss_one (ps_set (i := 3) scDrawn.nd rfl (Or.inl rfl) (pe_call GP.g hr rfl GP.m GP.k GP.b .nil pass0 (pa_cons (pv 1) pa_nil)))) pss_nil)
      (pss_cons (ps_if (PW.pt (pw_and (pt_cmpR op_gt (pv 2) pe_int (nomark _)) (pw_and1 (pt_cmpR (op_neD hr.units) (pv 3) (pe_lst pa_nil) (nomark _))))) (pss_one (ps_ret (pe_ix ix_list (pv 3) (pe_call GD.g hr1 rfl GD.m GD.k GD.b .nil pass0 (pa_cons (pv 0) (pa_cons (pe_callB call_len_seq (by rfl) T.len PySem.boot_len (pa_cons (pv 3) pa_nil)) pa_nil))) (fun _ _ => rfl)))) pss_nil)
      (pss_one (ps_ret (pe_tup (pa_cons pe_str pa_nil))))))), ?_⟩
    have hline := line5000
    refine ⟨_, rfl, p, pq, 6, rfl, hp, hpq, by decide, log_small (by decide) (by decide), ?_⟩
    have hw := digO_pos (q := pq) (b := 6) (by decide)
    have hpq1 := nxt_ok (b := 6) hpq
    generalize digO pq 6 = wy at hw
    generalize nxt pq 6 = pq1 at hpq1
    (generalize hNX : upd H p _ = H1; have k1 := wr_of hNX; have y1 := at_of hNX; clear hNX)
    have b1 : But p H H1 := fun b o n e => (k1 b n).trans e
    have Y : OAt H1 O L TT vl vt g := Y0.but hp b1 n1 n2 n3 n4
    refine ⟨lit1, fun ta ga => ?_⟩
    (generalize hNX : upd H1 ta _ = Ha; have sa := same_of ga hNX; have ya := at_of hNX; clear hNX)
    refine ⟨lit1, fun tb gb => ?_⟩
    (generalize hNX : upd Ha tb _ = Hb; have sb := same_of gb hNX; have yb := at_of hNX; clear hNX)
    refine ⟨lit1, fun tc gc => ?_⟩
    (generalize hNX : upd Hb tc _ = Hc; have sc := same_of gc hNX; have yc := at_of hNX; clear hNX)
    refine ⟨lit3, fun tl gl => ?_⟩
    (generalize hNX : upd Hc tl _ = Hd; have sd := same_of gl hNX; have yd := at_of hNX; clear hNX)
    have sm0 := ((sa.trans sb).trans sc).trans sd
    have hz0 : LetsAt Hd [.ref ta, .ref tb, .ref tc] [.sg 69, .sg 82, .sg 76] := .cons ⟨ta, rfl, ((sb.trans sc).trans sd) _ _ (ya.trans ltE)⟩ (.cons ⟨tb, rfl, (sc.trans sd) _ _ (yb.trans K51.ltR)⟩ (.cons ⟨tc, rfl, sd _ _ (yc.trans ltL)⟩ .nil))
    have hcz0 : ∀ b ∈ ([.sg 69, .sg 82, .sg 76] : List Lt), Lets b := fun b hb => by
      simp only [List.mem_cons, List.not_mem_nil, or_false] at hb
      rcases hb with rfl | rfl | rfl <;> simp [Lets]
    refine ⟨tl, rfl, ⟨_, SqL.of yd⟩, fun Z hZ => comp_list (K := K) (a := tl) (xs := [V.ref ta, V.ref tb, V.ref tc]) (fun i σ ys H' => ∃ o lz, σ = [o, some (.ref O)] ∧ Same Hd H' ∧ H' Z = some (.lst ys) ∧ LetsAt H' ys lz ∧ (∀ a ∈ lz, Can g a) ∧ ys.length ≤ i) ⟨none, [], rfl, same_upd hZ, upd_same, .nil, by simp, Nat.le_refl _⟩ (fun i σ ys H' _ ⟨_, _, _, e, _⟩ => SqL.of (e _ _ yd)) ?_ ?_⟩
    · rintro i y σ ys H' hi ⟨o, lz, rfl, sm, hZ', hlz, hcz, hlen'⟩
      obtain ⟨b, hb1, tb, rfl, htb⟩ := paired_get hz0 hi
      have hiz := (List.getElem?_eq_some_iff.mp hi).1
      have hiz : i < 3 := hiz
      have hbl : Lets b := hcz0 b (List.mem_of_getElem? hb1)
      have Y' := (Y.same sm0).same sm
      refine ⟨_, rfl, _, rfl, O, tb, L, TT, vl, vt, g, b, rfl, Y', ok, hts, sm _ _ htb, hbl, fun H2 s2 => ⟨rfl, _, rfl, ?_⟩⟩
      have sm2 := sm.trans s2
      have hZ2 := s2 _ _ hZ'
      cases ec : g.can b with
      | none =>
        refine iteF ?_
        exact ⟨_, lz, rfl, sm2, hZ2, hlz.same s2, hcz, by omega⟩
      | some x =>
        refine iteT ?_
        refine ⟨_, rfl, hZ2, by omega, ?_⟩
        (generalize hNX : upd H2 Z _ = H3; have k3 := wr_of hNX; have y3 := at_of hNX; clear hNX)
        have mv : ∀ t xs, H2 t = some (.tup xs) → H3 t = some (.tup xs) := fun t xs e => (k3 t (ne_of e hZ2 (by intro z; cases z))).trans e
        refine ⟨_, lz ++ [b], rfl, fun b' o' e => (k3 b' (ne_of_none e hZ)).trans (sm2 _ _ e), y3, lets_app ((hlz.same s2).move mv) (.cons ⟨tb, rfl, mv _ _ (sm2 _ _ htb)⟩ .nil), ?_, ?_⟩
        · intro c hc
          rcases List.mem_append.mp hc with z | z
          · exact hcz c z
          · rw [List.mem_singleton.mp z]
            exact ⟨hbl, by rw [ec]; rfl⟩
        · rw [List.length_append, List.length_singleton]; omega
    · rintro σ ys H' ⟨o, lz, rfl, sm, hZ', hlz, hcz, hlen'⟩
      have q1 := sm0.trans sm
      refine ⟨_, rfl, _, _, rfl, rfl, _, rfl, ?_⟩
      by_cases h3 : 3 < wy
      · rw [decide_eq_true h3]
        refine iteT ?_
        refine ⟨_, rfl, O, L, TT, vl, vt, g, rfl, Y.same q1, ok, hts, fun r xs lts H2 s2 hr2' hl2 hc2 hx2 => ?_⟩
        have q2 := q1.trans s2
        have bb : But p H H2 := b1.same q2
        have hp2 : H2 p = some (.lst (potV pq1)) := q2 _ _ y1
        have hlx := lets_len hl2
        have ret : (∀ tt H3, H2 tt = none → Same H2 H3 → H3 tt = some (.tup (ltV (.sg 67))) → Q (.ref tt) H3) := fun tt H3 hn s3 e => q tt (.sg 67) pq1 H3 (bb.same s3) (s3 _ _ hp2) hpq1 e ⟨.inl rfl, by rw [can_new ok hne]; rfl⟩
        refine ⟨_, rfl, _, _, rfl, rfl, _, rfl, ?_⟩
        by_cases h1 : 1 < wy
        · rw [decide_eq_true h1]
          refine iteT ?_
          refine ⟨_, rfl, Nat.zero_le _, fun p5 h5 => ?_⟩
          (generalize hNX : upd H2 p5 _ = H5; have s5 := same_of h5 hNX; have y5 := at_of hNX; clear hNX)
          refine ⟨_, _, .lst (SqL.of (s5 _ _ hr2')) (dts_lets (fun a ha => (hc2 a ha).1.ok) (hl2.same s5)), .lst (SqL.of y5) .nil, ?_, _, rfl, ?_⟩
          · have := depth_lets lts
            simp only [PyData.depth]
            omega
          rw [if_pos rfl, eqv_nil]
          cases lts with
          | nil =>
            refine iteF ?_
            exact ⟨lit1, fun tt gt => by
              have e := (same_upd (o := .tup [V.str (Str.ofString "C")]) gt)
              exact q tt (.sg 67) pq1 _ ((bb.same s5).same e) (e _ _ (s5 _ _ hp2)) hpq1 (upd_same.trans ltC) ⟨.inl rfl, by rw [can_new ok hne]; rfl⟩⟩
          | cons c lts =>
            refine iteT ?_
            have hpos : 0 < xs.length := by rw [hlx]; simp
            refine ⟨_, rfl, _, rfl, _, rfl, r, _, rfl, .inl (SqL.of (s5 _ _ hr2')), p, pq1, _, rfl, s5 _ _ hp2, hpq1, by omega, log_small (by omega) (by omega), ?_⟩
            have hd := digO_pos (q := pq1) (b := (xs.length : Int)) (by omega)
            have hpq2 := nxt_ok (b := (xs.length : Int)) hpq1
            obtain ⟨d, ed⟩ := Int.eq_ofNat_of_zero_le hd.1
            rw [ed] at hd ⊢
            generalize nxt pq1 (xs.length : Int) = pq2 at hpq2
            have nrp : r ≠ p := fun z => by
              have e1 := hr2'
              rw [z, hp2] at e1
              injection e1 with e1
              injection e1 with e1
              rw [← e1] at hl2
              cases hl2 with
              | cons h _ => obtain ⟨t, e, _⟩ := h; cases e
            (generalize hNX : upd H5 p _ = H6; have k6 := wr_of hNX; have y6 := at_of hNX; clear hNX)
            have hdx : d < xs.length := by omega
            have hxd : xs[d]? = some xs[d] := List.getElem?_eq_getElem hdx
            obtain ⟨b, hb1, tb2, etb, htb⟩ := paired_get hl2 hxd
            rw [etb] at hxd
            have b5 := bb.same s5
            have htp : tb2 ≠ p := ne_of htb hp2 (by intro z; cases z)
            exact ⟨r, _, _, _, rfl, rfl, SqL.of ((k6 r nrp).trans (s5 _ _ hr2')), atI_nat hxd, q tb2 b pq2 H6 (b5.wr k6) y6 hpq2 ((k6 tb2 htp).trans (s5 _ _ htb)) (hc2 b (List.mem_of_getElem? hb1))⟩
        · rw [decide_eq_false h1]
          refine iteF (iteF ?_)
          exact ⟨lit1, fun tt gt => ret tt _ gt (same_upd gt) (upd_same.trans ltC)⟩
      · rw [decide_eq_false h3]
        refine iteF ?_
        have s2 : Same H' H' := same_id
        obtain ⟨r, er⟩ : ∃ r, r = Z := ⟨_, rfl⟩
        obtain ⟨xs, exs⟩ : ∃ xs, xs = ys := ⟨_, rfl⟩
        obtain ⟨H2, eH⟩ : ∃ H2, H2 = H' := ⟨_, rfl⟩
        have hr2' : H2 r = some (.lst xs) := by rw [er, exs, eH]; exact hZ'
        have hl2 : LetsAt H2 xs lz := by rw [exs, eH]; exact hlz
        have hc2 := hcz
        have hx2 : xs.length ≤ 400 := by rw [exs]; have hlen3 : ys.length ≤ 3 := hlen'; omega
        rw [← er, ← eH]
        rw [← eH] at s2
        have s2 : Same H' H2 := by rw [eH]; exact same_id
        clear er exs eH
        generalize lz = lts at hl2 hc2
        have q2 := q1.trans s2
        have bb : But p H H2 := b1.same q2
        have hp2 : H2 p = some (.lst (potV pq1)) := q2 _ _ y1
        have hlx := lets_len hl2
        have ret : (∀ tt H3, H2 tt = none → Same H2 H3 → H3 tt = some (.tup (ltV (.sg 67))) → Q (.ref tt) H3) := fun tt H3 hn s3 e => q tt (.sg 67) pq1 H3 (bb.same s3) (s3 _ _ hp2) hpq1 e ⟨.inl rfl, by rw [can_new ok hne]; rfl⟩
        refine ⟨_, rfl, _, _, rfl, rfl, _, rfl, ?_⟩
        by_cases h1 : 1 < wy
        · rw [decide_eq_true h1]
          refine iteT ?_
          refine ⟨_, rfl, Nat.zero_le _, fun p5 h5 => ?_⟩
          (generalize hNX : upd H2 p5 _ = H5; have s5 := same_of h5 hNX; have y5 := at_of hNX; clear hNX)
          refine ⟨_, _, .lst (SqL.of (s5 _ _ hr2')) (dts_lets (fun a ha => (hc2 a ha).1.ok) (hl2.same s5)), .lst (SqL.of y5) .nil, ?_, _, rfl, ?_⟩
          · have := depth_lets lts
            simp only [PyData.depth]
            omega
          rw [if_pos rfl, eqv_nil]
          cases lts with
          | nil =>
            refine iteF ?_
            exact ⟨lit1, fun tt gt => by
              have e := (same_upd (o := .tup [V.str (Str.ofString "C")]) gt)
              exact q tt (.sg 67) pq1 _ ((bb.same s5).same e) (e _ _ (s5 _ _ hp2)) hpq1 (upd_same.trans ltC) ⟨.inl rfl, by rw [can_new ok hne]; rfl⟩⟩
          | cons c lts =>
            refine iteT ?_
            have hpos : 0 < xs.length := by rw [hlx]; simp
            refine ⟨_, rfl, _, rfl, _, rfl, r, _, rfl, .inl (SqL.of (s5 _ _ hr2')), p, pq1, _, rfl, s5 _ _ hp2, hpq1, by omega, log_small (by omega) (by omega), ?_⟩
            have hd := digO_pos (q := pq1) (b := (xs.length : Int)) (by omega)
            have hpq2 := nxt_ok (b := (xs.length : Int)) hpq1
            obtain ⟨d, ed⟩ := Int.eq_ofNat_of_zero_le hd.1
            rw [ed] at hd ⊢
            generalize nxt pq1 (xs.length : Int) = pq2 at hpq2
            have nrp : r ≠ p := fun z => by
              have e1 := hr2'
              rw [z, hp2] at e1
              injection e1 with e1
              injection e1 with e1
              rw [← e1] at hl2
              cases hl2 with
              | cons h _ => obtain ⟨t, e, _⟩ := h; cases e
            (generalize hNX : upd H5 p _ = H6; have k6 := wr_of hNX; have y6 := at_of hNX; clear hNX)
            have hdx : d < xs.length := by omega
            have hxd : xs[d]? = some xs[d] := List.getElem?_eq_getElem hdx
            obtain ⟨b, hb1, tb2, etb, htb⟩ := paired_get hl2 hxd
            rw [etb] at hxd
            have b5 := bb.same s5
            have htp : tb2 ≠ p := ne_of htb hp2 (by intro z; cases z)
            exact ⟨r, _, _, _, rfl, rfl, SqL.of ((k6 r nrp).trans (s5 _ _ hr2')), atI_nat hxd, q tb2 b pq2 H6 (b5.wr k6) y6 hpq2 ((k6 tb2 htp).trans (s5 _ _ htb)) (hc2 b (List.mem_of_getElem? hb1))⟩
        · rw [decide_eq_false h1]
          refine iteF (iteF ?_)
          exact ⟨lit1, fun tt gt => ret tt _ gt (same_upd gt) (upd_same.trans ltC)⟩
end
end K31
end
section
set_option Elab.async false
set_option linter.all false
set_option maxRecDepth 100000
set_option maxHeartbeats 4000000
namespace K31
open PySem L2 K51
theorem shn_int {n : Nat} (h : n < 10000) : (PyData.shown (.int (n : Int))).length ≤ 4 := by
  show ((toString ((n : Nat) : Int) : String) : Str).length ≤ 4
  rw [str_nat, txt_len]
  exact digits_len 3 n (by omega)
theorem tf_len (c : Nat) : ∀ (ts : List Str) (k : Nat) (acc : Str), (∀ t ∈ ts, t.length ≤ c) → (PySem.textFrom k acc ts).length ≤ acc.length + ts.length * (c + 2)
  | [], k, acc, _ => by show acc.length ≤ _; omega
  | t :: r, k, acc, h => by
    have h1 := h t (by simp)
    have ih := tf_len c r (k + 1) (acc ++ (if k > 0 then ", " else "" : String) ++ t) fun x hx => h x (List.mem_cons_of_mem _ hx)
    show (PySem.textFrom (k + 1) (acc ++ (if k > 0 then ", " else "" : String) ++ t) r).length ≤ _
    rw [PySem.Str.length_append, PySem.Str.length_append] at ih
    have h2 : (((if k > 0 then ", " else "" : String) : Str)).length ≤ 2 := by split <;> decide
    rw [List.length_cons, Nat.add_mul]
    omega
theorem lt_len (c : Nat) (ts : List Str) (h : ∀ t ∈ ts, t.length ≤ c) : (PySem.listText ts).length ≤ 2 + ts.length * (c + 2) := by
  have := tf_len c ts 0 "[" h
  unfold PySem.listText
  rw [PySem.Str.length_append]
  have e1 : ("[" : Str).length = 1 := by decide
  have e2 : ("]" : Str).length = 1 := by decide
  omega
theorem shown_all : ∀ ds : List PyData, PyData.shownAll ds = ds.map PyData.shown
  | [] => rfl
  | d :: ds => by
    show d.shown :: PyData.shownAll ds = _
    rw [shown_all ds]; rfl
theorem shn_lp {l : List Nat} (h : ∀ c ∈ l, c < 10000) : (lpD l).shown.length ≤ 2 + l.length * 6 := by
  show (PySem.listText (PyData.shownAll _)).length ≤ _
  rw [shown_all]
  refine Nat.le_trans (lt_len 4 _ ?_) (by rw [List.length_map, List.length_map]; exact Nat.le_refl _)
  intro t ht
  rw [List.map_map] at ht
  obtain ⟨n, hn, rfl⟩ := List.mem_map.mp ht
  exact shn_int (h n hn)
theorem shn_lps {ls : Lps} {m : Nat} (h : ∀ l ∈ ls, ∀ c ∈ l, c < 10000) (hm : ∀ l ∈ ls, l.length ≤ m) : (lpsD ls).shown.length ≤ 2 + ls.length * (m * 6 + 4) := by
  show (PySem.listText (PyData.shownAll _)).length ≤ _
  rw [shown_all]
  refine Nat.le_trans (lt_len (m * 6 + 2) _ ?_) (by rw [List.length_map, List.length_map]; exact Nat.le_refl _)
  intro t ht
  rw [List.map_map] at ht
  obtain ⟨l, hl, rfl⟩ := List.mem_map.mp ht
  have h1 := shn_lp (h l hl)
  have h2 := hm l hl
  show (lpD l).shown.length ≤ _
  have : l.length * 6 ≤ m * 6 := Nat.mul_le_mul_right _ h2
  omega
theorem tt_len (ts : List Str) (c : Nat) (h0 : ts ≠ []) (h : ∀ t ∈ ts, t.length ≤ c) : (PySem.tupleText ts).length ≤ 3 + ts.length * (c + 2) := by
  unfold PySem.tupleText
  rw [PySem.Str.length_append, PySem.Str.length_append]
  have e1 : ("(" : Str).length = 1 := by decide
  have e2 : (((if ts.length == 1 then ",)" else ")" : String) : Str)).length ≤ 2 := by split <;> decide
  have e3 := PySem.join_length_add ts h0
  have e4 : ∀ (us : List Str), (∀ t ∈ us, t.length ≤ c) → PySem.piled us ≤ us.length * (c + 2) := by
    intro us
    induction us with
    | nil => intro _; exact Nat.zero_le _
    | cons u us ih =>
      intro h
      have h1 := h u (by simp)
      have h2 := ih fun t ht => h t (List.mem_cons_of_mem _ ht)
      rw [PySem.piled_cons, List.length_cons, Nat.add_mul]
      omega
  have e5 := e4 ts h
  omega
theorem shn_tr {t : Nat × Nat × Nat} (h : t.1 < 10000 ∧ t.2.1 < 10000 ∧ t.2.2 < 10000) : (trD t).shown.length ≤ 21 := by
  show (PySem.tupleText (PyData.shownAll _)).length ≤ _
  rw [shown_all]
  refine Nat.le_trans (tt_len _ 4 (by simp) ?_) (by show 3 + 3 * (4 + 2) ≤ 21; decide)
  intro x hx
  simp only [List.map_cons, List.map_nil, List.mem_cons, List.not_mem_nil, or_false] at hx
  rcases hx with rfl | rfl | rfl
  · exact shn_int h.1
  · exact shn_int h.2.1
  · exact shn_int h.2.2
theorem shn_trs {ts : List (Nat × Nat × Nat)} (h : ∀ t ∈ ts, t.1 < 10000 ∧ t.2.1 < 10000 ∧ t.2.2 < 10000) : (trsD ts).shown.length ≤ 2 + ts.length * 23 := by
  show (PySem.listText (PyData.shownAll _)).length ≤ _
  rw [shown_all]
  refine Nat.le_trans (lt_len 21 _ ?_) (by rw [List.length_map, List.length_map]; exact Nat.le_refl _)
  intro t ht
  rw [List.map_map] at ht
  obtain ⟨l, hl, rfl⟩ := List.mem_map.mp ht
  exact shn_tr (h l hl)
theorem sb_int {n : Nat} (h : n < 10000) : (PyData.int (n : Int)).showable = true := by
  show decide (((n : Nat) : Int).natAbs.log2 < 1920) = true
  exact decide_eq_true (small_log (Nat.lt_trans h (by decide)))
theorem sb_all : ∀ ds : List PyData, (∀ d ∈ ds, d.showable = true) → PyData.showableAll ds = true
  | [], _ => rfl
  | d :: ds, h => by
    show (d.showable && PyData.showableAll ds) = true
    rw [h d (by simp), sb_all ds fun x hx => h x (List.mem_cons_of_mem _ hx)]; rfl
theorem sb_lps {ls : Lps} (h : ∀ l ∈ ls, ∀ c ∈ l, c < 10000) : (lpsD ls).showable = true := by
  refine sb_all _ fun d hd => ?_
  obtain ⟨l, hl, rfl⟩ := List.mem_map.mp hd
  refine sb_all _ fun e he => ?_
  obtain ⟨n, hn, rfl⟩ := List.mem_map.mp he
  exact sb_int (h l hl n hn)
theorem sb_trs {ts : List (Nat × Nat × Nat)} (h : ∀ t ∈ ts, t.1 < 10000 ∧ t.2.1 < 10000 ∧ t.2.2 < 10000) : (trsD ts).showable = true := by
  refine sb_all _ fun d hd => ?_
  obtain ⟨t, ht, rfl⟩ := List.mem_map.mp hd
  refine sb_all _ fun e he => ?_
  simp only [List.mem_cons, List.not_mem_nil, or_false] at he
  rcases he with rfl | rfl | rfl
  · exact sb_int (h t ht).1
  · exact sb_int (h t ht).2.1
  · exact sb_int (h t ht).2.2
theorem dep_trs : ∀ ts : List (Nat × Nat × Nat), PyData.depthAll (ts.map trD) ≤ 3
  | [] => by simp [PyData.depthAll]
  | t :: ts => by
    have h1 := dep_trs ts
    simp only [List.map_cons, PyData.depthAll, trD, PyData.depth]
    omega
theorem dep_trsD (ts : List (Nat × Nat × Nat)) : (trsD ts).depth ≤ 4 := by
  have := dep_trs ts
  simp only [trsD, PyData.depth]
  omega
structure Tell (K : PySem.W.Frag) (H : Hp) (v : V) (d : PyData) : Prop where
  dt : Dt K H v d
  sb : d.showable = true
  dp : d.depth ≤ 60
  ln : d.shown.length ≤ sizeLine
theorem tl_mem {ts : List (Nat × Nat × Nat)} {t : Nat × Nat × Nat} (h : t ∈ ts) : (t.1, t.2.1) ∈ tl ts ∧ (t.2.1, t.2.2) ∈ tl ts := by
  unfold tl
  constructor
  · exact List.mem_flatMap.mpr ⟨t, h, by simp⟩
  · exact List.mem_flatMap.mpr ⟨t, h, by simp⟩
theorem ok_small {f : Fr} (ok : Ok f) (h : f.ts.length ≤ 300) : (∀ l ∈ f.ls, ∀ c ∈ l, c < 10000) ∧ (∀ t ∈ f.ts, t.1 < 10000 ∧ t.2.1 < 10000 ∧ t.2.2 < 10000) ∧ f.n < 10000 := by
  have hn := ok.num
  refine ⟨fun l hl c hc => ?_, fun t ht => ?_, by omega⟩
  · have := ok.big l hl c hc; omega
  · have h1 := ok.bigT _ (tl_mem ht).1
    have h2 := ok.bigT _ (tl_mem ht).2
    dsimp only at h1 h2
    omega
theorem tell_lps {K : PySem.W.Frag} {H : Hp} {f : Fr} {a : Addr} {vs : List V} (ok : Ok f) (h : f.ts.length ≤ 300) (ha : H a = some (.lst vs)) (hp : LpsAt H vs f.ls) : Tell K H (.ref a) (lpsD f.ls) := by
  have hs := ok_small ok h
  have hm := ok_many ok
  refine ⟨.lst (SqL.of ha) (dts_lps hp), sb_lps hs.1, Nat.le_trans (dep_lpsD _) (by decide), ?_⟩
  refine Nat.le_trans (shn_lps (m := 302) hs.1 fun l hl => Nat.le_trans (ok_each ok l hl) (by omega)) ?_
  rw [sizeLine_eq]
  have : f.ls.length * (302 * 6 + 4) ≤ 302 * (302 * 6 + 4) := Nat.mul_le_mul_right _ (by omega)
  omega
theorem tell_trs {K : PySem.W.Frag} {H : Hp} {f : Fr} {a : Addr} {vs : List V} (ok : Ok f) (h : f.ts.length ≤ 300) (ha : H a = some (.lst vs)) (hp : TrsAt H vs f.ts) : Tell K H (.ref a) (trsD f.ts) := by
  have hs := ok_small ok h
  refine ⟨.lst (SqL.of ha) (dts_trs hp), sb_trs hs.2.1, Nat.le_trans (dep_trsD _) (by decide), ?_⟩
  refine Nat.le_trans (shn_trs hs.2.1) ?_
  rw [sizeLine_eq]
  omega
theorem tell_int {K : PySem.W.Frag} {H : Hp} {n : Nat} (h : n < 10000) : Tell K H (.int (n : Int)) (.int (n : Int)) := by
  refine ⟨.int _, sb_int h, by simp [PyData.depth], ?_⟩
  exact Nat.le_trans (shn_int h) (by decide)
theorem tell_pair {K : PySem.W.Frag} {H : Hp} {p q : Nat} {a : Addr} (h1 : p < 10000) (h2 : q < 10000) (ha : H a = some (.tup [.int (p : Int), .int (q : Int)])) : Tell K H (.ref a) (.tuple [.int (p : Int), .int (q : Int)]) := by
  refine ⟨.tup (SqT.of ha) (.cons (.int _) (.cons (.int _) .nil)), ?_, ?_, ?_⟩
  · refine sb_all _ fun e he => ?_
    simp only [List.mem_cons, List.not_mem_nil, or_false] at he
    rcases he with rfl | rfl
    · exact sb_int h1
    · exact sb_int h2
  · simp [PyData.depth, PyData.depthAll]
  · show (PySem.tupleText (PyData.shownAll _)).length ≤ _
    rw [shown_all]
    refine Nat.le_trans (tt_len _ 4 (by simp) ?_) (by rw [sizeLine_eq]; show 3 + 2 * (4 + 2) ≤ 16777216; decide)
    intro x hx
    simp only [List.map_cons, List.map_nil, List.mem_cons, List.not_mem_nil, or_false] at hx
    rcases hx with rfl | rfl
    · exact shn_int h1
    · exact shn_int h2
theorem tell_non {K : PySem.W.Frag} {H : Hp} : Tell K H .non .none := ⟨.non, rfl, by simp [PyData.depth], by show ("None" : Str).length ≤ _; rw [sizeLine_eq]; decide⟩
end K31
end
section
set_option Elab.async false
set_option linter.all false
set_option maxRecDepth 100000
set_option maxHeartbeats 4000000
namespace K31
open PySem L2 K51
def spSame (C : Addr) : Sp := fun vs H Q _ => ∃ (F O R M D W dx L T : Addr) (vr vm vl vt : List V) (f : Fr), vs = [.ref F, .ref O] ∧ FAt C H F R M D W dx vr vm f ∧ OAt H O L T vl vt f ∧ Ok f ∧ f.ts.length ≤ 300 ∧ ∀ H', Same H H' → Q (.bl true) H'
section
variable {P : Program} {w : World} {K : PySem.W.Frag} {mg : Str → Option Value} {base : Heap}
theorem scSame : FnScope ["_law_front", "_law_own", "_law_gate", "_law_loops", "_law_triples", "_law_told", "_law_due", "_law_loop"] ["_law_front", "_law_own"] (defScope sSame) := ⟨rfl, rfl, rfl, by decide +kernel, rfl, by decide +kernel, by decide +kernel⟩
theorem ok_same {f f1 f2 f3 f4 C : Addr} {fd d1 d2 d3 d4 : FuncData} (U : Fun K "_law_same" "_law_same" sSame f fd) (X : FCls K C) (TM : TxtM mg) (G1 : UseM P w K mg base C 1 "loops" ["self"] (spLoops C) f1 d1) (G2 : UseM P w K mg base C 1 "triples" ["self"] (spTriples C) f2 d2)
    (G3 : UseM P w K mg base C 1 "gate" ["self"] (spGate C) f3 d3) (G4 : UseM P w K mg base C 1 "come" ["self"] (spCome C) f4 d4) : FnOk P w K mg base CX0 2 f fd ["_law_front", "_law_own"] (spSame C) := by
  refine U.ok scSame (fun vs H Q E h => ?_) (fun cdv A outer s H vs Q E hr h => ?_)
  · obtain ⟨F, O, R, M, D, W, dx, L, T, vr, vm, vl, vt, g, rfl, _⟩ := h
    rfl
  · obtain ⟨F, O, R, M, D, W, dx, L, T, vr, vm, vl, vt, g, rfl, Z0, Y, ok, hts, q⟩ := h
    refine ⟨_, pss_cons (ps_set (i := 2) scSame.nd rfl (Or.inl rfl) pe_non)
      (pss_cons (ps_if (pt_cmpR (op_neD hr.units) (pe_ix ix_list (pv 1) pe_int (fun _ _ => rfl)) (pe_lst pa_nil) (nomark _)) (pss_one (ps_set (i := 2) scSame.nd rfl (Or.inl rfl) (pe_tup (pa_cons (pe_ix ix_list (pe_ix ix_list (pe_ix ix_list (pv 1) pe_int (fun _ _ => rfl)) (pe_un un_neg pe_int) (fun _ _ => rfl)) pe_int (fun _ _ => rfl)) (pa_cons (pe_ix ix_list (pe_ix ix_list (pe_ix ix_list (pv 1) pe_int (fun _ _ => rfl)) (pe_un un_neg pe_int) (fun _ _ => rfl)) pe_int (fun _ _ => rfl)) pa_nil))))) pss_nil)
      (pss_cons (ps_set (i := 3) scSame.nd rfl (Or.inl rfl) (pe_meth0 (pv 0) X.cl G1.m G1.g hr G1.b .nil pass0))
      (pss_cons (ps_set (i := 4) scSame.nd rfl (Or.inl rfl) (pe_meth0 (pv 0) X.cl G2.m G2.g hr G2.b .nil pass0))
      (pss_cons (ps_for PassesOwn.never rfl (pi_list (pe_lst (pa_cons (pe_tup (pa_cons (pv 3) (pa_cons (pe_ix ix_list (pv 1) pe_int (fun _ _ => rfl)) pa_nil))) (pa_cons (pe_tup (pa_cons (pv 4) (pa_cons (pe_ix ix_list (pv 1) pe_int (fun _ _ => rfl)) pa_nil))) (pa_cons (pe_tup (pa_cons (pe_meth0 (pv 0) X.cl G3.m G3.g hr G3.b .nil pass0) (pa_cons (pv 2) pa_nil))) (pa_cons (pe_tup (pa_cons (pe_meth0 (pv 0) X.cl G4.m G4.g hr G4.b .nil pass0) (pa_cons (pe_ix ix_list (pv 1) pe_int (fun _ _ => rfl)) pa_nil))) pa_nil)))))) (pg_tup rfl (pgs_cons (pg_name (i := 5) scSame.nd rfl (Or.inl rfl)) (pgs_cons (pg_name (i := 6) scSame.nd rfl (Or.inl rfl)) pgs_nil))) (pss_one (ps_if (pt_cmpR op_ne (pe_callB (call_repr hr.units hr.gu) (by rfl) TM.repr PyProof.Rows.boot_repr (pa_cons (pv 5) pa_nil)) (pe_callB (call_repr hr.units hr.gu) (by rfl) TM.repr PyProof.Rows.boot_repr (pa_cons (pv 6) pa_nil)) (nomark _)) pss_never pss_nil)))
      (pss_cons (ps_for PassesOwn.never rfl (pi_list (pv 3)) (pg_name (i := 7) scSame.nd rfl (Or.inl rfl)) (pss_one (ps_expr (pe_bm PySem.F.plainAttrs_list PySem.F.slot_list_append PySem.F.type_list_append mt_append (pv 7) (pa_cons pe_int pa_nil)))))
      (pss_cons (ps_expr (pe_bm PySem.F.plainAttrs_list PySem.F.slot_list_append PySem.F.type_list_append mt_append (pv 3) (pa_cons (pe_lst (pa_cons pe_int pa_nil)) pa_nil)))
      (pss_cons (ps_expr (pe_bm PySem.F.plainAttrs_list PySem.F.slot_list_append PySem.F.type_list_append mt_append (pv 4) (pa_cons (pe_tup (pa_cons pe_int (pa_cons pe_int (pa_cons pe_int pa_nil)))) pa_nil)))
      (pss_one (ps_ret (pe_and (pe_cmpR op_eq (pe_callB (call_repr hr.units hr.gu) (by rfl) TM.repr PyProof.Rows.boot_repr (pa_cons (pe_meth0 (pv 0) X.cl G1.m G1.g hr G1.b .nil pass0) pa_nil)) (pe_callB (call_repr hr.units hr.gu) (by rfl) TM.repr PyProof.Rows.boot_repr (pa_cons (pe_ix ix_list (pv 1) pe_int (fun _ _ => rfl)) pa_nil)) (nomark _)) (pe_one (pe_cmpR op_eq (pe_callB (call_repr hr.units hr.gu) (by rfl) TM.repr PyProof.Rows.boot_repr (pa_cons (pe_meth0 (pv 0) X.cl G2.m G2.g hr G2.b .nil pass0) pa_nil)) (pe_callB (call_repr hr.units hr.gu) (by rfl) TM.repr PyProof.Rows.boot_repr (pa_cons (pe_ix ix_list (pv 1) pe_int (fun _ _ => rfl)) pa_nil)) (nomark _))))))))))))), ?_⟩
    have hline := line5000
    have o0 : ∀ x y z : V, atI [x, y, z] 0 = some x := fun _ _ _ => rfl
    have o1 : ∀ x y z : V, atI [x, y, z] 1 = some y := fun _ _ _ => rfl
    have o2 : ∀ x y z : V, atI [x, y, z] 2 = some z := fun _ _ _ => rfl
    have hs := ok_small ok hts
    have hm := ok_many ok
    have he := ok_each ok
    have hvr := pr_len Z0.p
    have hvm := pr_len Z0.t
    refine ⟨_, rfl, O, _, _, _, rfl, rfl, SqL.of Y.o, o0 _ _ _, Nat.zero_le _, fun p1 h1 => ?_⟩
    (generalize hNX : upd H p1 _ = H1; have s1 := same_of h1 hNX; have y1 := at_of hNX; clear hNX)
    have Y1 := Y.same s1
    refine ⟨_, _, .lst (SqL.of Y1.l) (dts_lps Y1.p), .lst (SqL.of y1) .nil, Nat.le_trans (dep_lpsD g.ls) (by decide), _, rfl, ?_⟩
    rw [if_pos rfl, eqv_nil]
    rcases List.eq_nil_or_concat g.ls with e | ⟨ah, loop, e⟩
    · rw [e]
      refine iteF ?_
      have q1 := s1
      have F1 := Z0.same q1
      refine ⟨_, rfl, F, dx, _, rfl, F1.o, rfl, F, R, M, D, W, dx, vr, vm, g, rfl, F1, by omega, fun Z zs H3 hZ s3 yZ pz fz => ?_⟩
      have q3 := q1.trans s3
      have F3 := Z0.same q3
      refine ⟨_, rfl, F, dx, _, rfl, F3.o, rfl, F, R, M, D, W, dx, vr, vm, g, rfl, F3, fun Lm H4 hLm s4 yLm => ?_⟩
      have q4 := q3.trans s4
      have Y4 := Y.same q4
      refine ⟨_, rfl, _, rfl, O, _, _, _, rfl, rfl, SqL.of Y4.o, o0 _ _ _, lit2, fun t1 k1 => ?_⟩
      (generalize hNX : upd H4 t1 _ = H5; have s5 := same_of k1 hNX; have y5 := at_of hNX; clear hNX)
      have q5 := q4.trans s5
      have Y5 := Y.same q5
      refine ⟨_, rfl, _, rfl, O, _, _, _, rfl, rfl, SqL.of Y5.o, o1 _ _ _, lit2, fun t2 k2 => ?_⟩
      (generalize hNX : upd H5 t2 _ = H6; have s6 := same_of k2 hNX; have y6 := at_of hNX; clear hNX)
      have q6 := q5.trans s6
      have F6 := Z0.same q6
      refine ⟨_, rfl, F, dx, _, rfl, F6.o, rfl, F, R, M, D, W, dx, vr, vm, g, rfl, F6, ok, fun _ => ?_, fun ah' loop' e' => by rw [e] at e'; simp at e'⟩
      obtain ⟨H7, eH7⟩ : ∃ H7, H7 = H6 := ⟨_, rfl⟩
      have s7 : Same H6 H7 := by rw [eH7]; exact same_id
      rw [← eH7]
      clear eH7
      refine ⟨_, rfl, lit2, fun t3 k3 => ?_⟩
      (generalize hNX : upd H7 t3 _ = H8; have s8 := same_of k3 hNX; have y8 := at_of hNX; clear hNX)
      have q8 := (q6.trans s7).trans s8
      have F8 := Z0.same q8
      have Y8 := Y.same q8
      refine ⟨_, rfl, F, dx, _, rfl, F8.o, rfl, F, R, M, D, W, dx, vr, vm, g, rfl, F8, _, rfl, O, _, _, _, rfl, rfl, SqL.of Y8.o, o2 _ _ _, lit2, fun t4 k4 => ?_⟩
      (generalize hNX : upd H8 t4 _ = H9; have s9 := same_of k4 hNX; have y9 := at_of hNX; clear hNX)
      refine ⟨(by show 4 ≤ sizeLine; decide), fun ll kl => ?_⟩
      (generalize hNX : upd H9 ll _ = Hn; have sn := same_of kl hNX; have yn := at_of hNX; clear hNX)
      have q89 := s8.trans (s9.trans sn)
      have q79 := s7.trans q89
      have q69 := s6.trans q79
      have q59 := s5.trans q69
      have q49 := s4.trans q59
      have qn := q4.trans q59
      have Yn := Y.same qn
      have z1 := q69 _ _ y5
      have z2 := q79 _ _ y6
      have z3 := (s9.trans sn) _ _ y8
      have z4 := sn _ _ y9
      have hZn := q49 _ _ yZ
      have hLn := q59 _ _ yLm
      have a1 : Tell K Hn (.ref Z) (lpsD g.ls) := tell_lps ok hts hZn (pz.same q49)
      have a2 : Tell K Hn (.ref L) (lpsD g.ls) := tell_lps ok hts Yn.l Yn.p
      have b1 : Tell K Hn (.ref Lm) (trsD g.ts) := tell_trs ok hts hLn (Z0.t.same qn)
      have b2 : Tell K Hn (.ref T) (trsD g.ts) := tell_trs ok hts Yn.t Yn.q
      have c12 : ∃ d, Tell K Hn V.non d ∧ Tell K Hn V.non d := ⟨_, tell_non, tell_non⟩
      have d12 : Tell K Hn (.int (g.n : Int)) (.int (g.n : Int)) := tell_int hs.2.2
      refine ⟨ll, rfl, ⟨_, SqL.of yn⟩, for_list (K := K) (a := ll) (xs := [.ref t1, .ref t2, .ref t3, .ref t4]) (fun i σ H' => ∃ v5 v6, σ = [some (.ref F), some (.ref O), some (V.non), some (.ref Z), some (.ref Lm), v5, v6, none] ∧ H' = Hn) ⟨none, none, rfl, rfl⟩ (fun i σ H' _ ⟨_, _, _, eh⟩ => by rw [eh]; exact SqL.of yn) ?_ ?_⟩
      · rintro i x σ H' hi ⟨v5, v6, rfl, rfl⟩
        have key : ∃ ta u v d, x = .ref ta ∧ H' ta = some (.tup [u, v]) ∧ Tell K H' u d ∧ Tell K H' v d := by
          match i, hi with
          | 0, hi => simp at hi; subst hi; exact ⟨t1, _, _, _, rfl, z1, a1, a2⟩
          | 1, hi => simp at hi; subst hi; exact ⟨t2, _, _, _, rfl, z2, b1, b2⟩
          | 2, hi =>
            simp at hi; subst hi
            obtain ⟨d, c1, c2⟩ := c12
            exact ⟨t3, _, _, _, rfl, z3, c1, c2⟩
          | 3, hi => simp at hi; subst hi; exact ⟨t4, _, _, _, rfl, z4, d12, d12⟩
          | i + 4, hi => simp at hi
        obtain ⟨ta, u, v, d, rfl, hta, hu, hv⟩ := key
        refine ⟨ta, _, rfl, SqT.of hta, rfl, _, _, rfl, _, _, rfl, rfl, ?_⟩
        refine ⟨_, rfl, u, d, rfl, hu.dt, hu.sb, hu.dp, hu.ln, _, rfl, v, d, rfl, hv.dt, hv.sb, hv.dp, hv.ln, rfl, _, rfl, ?_⟩
        rw [decide_eq_true rfl]
        exact iteF ⟨_, _, rfl, rfl⟩
      · rintro σ H' ⟨v5, v6, rfl, rfl⟩
        have hlz := pr_len pz
        have hZnone : H Z = none := q1.free hZ
        have hLnone : H Lm = none := q3.free hLm
        refine ⟨_, rfl, Z, rfl, ⟨_, SqL.of hZn⟩, for_list (K := K) (a := Z) (xs := zs) (fun i σ H2 => ∃ v7, σ = [some (.ref F), some (.ref O), some (V.non), some (.ref Z), some (.ref Lm), v5, v6, v7] ∧ Same H H2 ∧ H2 Z = some (.lst zs) ∧ H2 Lm = some (.lst vm) ∧ (∀ v ∈ zs, ∃ b xs, v = .ref b ∧ H2 b = some (.lst xs) ∧ xs.length ≤ 400 + i))
          ⟨none, rfl, qn, hZn, hLn, fun v hv => ?_⟩ (fun i σ H2 _ ⟨_, _, _, eh, _⟩ => SqL.of eh) ?_ ?_⟩
        · obtain ⟨b, rfl, _⟩ := fz v hv
          obtain ⟨l, hl, eb⟩ := pr_mem pz hv
          exact ⟨b, _, rfl, q49 _ _ eb, by rw [nV_len]; have := he l hl; omega⟩
        · rintro i x σ H2 hi ⟨v7, rfl, sm, hz2, hl2, hin⟩
          have hiz := (List.getElem?_eq_some_iff.mp hi).1
          have hxm := List.mem_of_getElem? hi
          obtain ⟨b, xs, rfl, hb, hxl⟩ := hin x hxm
          obtain ⟨b', eb', hbn, hbZ⟩ := fz _ hxm
          cases eb'
          have hbn : H b = none := q1.free hbn
          have hbL : b ≠ Lm := fun z => by
            obtain ⟨l, hl, eb⟩ := pr_mem pz hxm
            rw [z, hLm] at eb; cases eb
          refine ⟨_, rfl, .inl ⟨rfl, _, SqL.of hb⟩, b, _, _, rfl, rfl, hb, by omega, ?_⟩
          (generalize hNX : upd H2 b _ = H3'; have k3' := wr_of hNX; have y3' := at_of hNX; clear hNX)
          refine ⟨_, rfl, fun c o ec => (k3' c (ne_of_none ec hbn)).trans (sm _ _ ec), (k3' Z (Ne.symm hbZ)).trans hz2, (k3' Lm (Ne.symm hbL)).trans hl2, fun v hv => ?_⟩
          obtain ⟨c, ys, rfl, hc, hcl⟩ := hin v hv
          by_cases hcb : c = b
          · subst hcb
            have : ys = xs := by rw [hb] at hc; injection hc with hc; injection hc with hc; exact hc.symm
            subst this
            exact ⟨c, _, rfl, y3', by rw [List.length_append, List.length_singleton]; omega⟩
          · exact ⟨c, ys, rfl, (k3' c hcb).trans hc, by omega⟩
        · rintro σ H2 ⟨v7, rfl, sm, hz2, hl2, hin⟩
          refine ⟨_, rfl, .inl ⟨rfl, _, SqL.of hz2⟩, lit1, fun pa ga => ?_⟩
          (generalize hNX : upd H2 pa _ = Ha; have sa := same_of ga hNX; have ya := at_of hNX; clear hNX)
          refine ⟨Z, _, _, rfl, rfl, sa _ _ hz2, by omega, ?_⟩
          (generalize hNX : upd Ha Z _ = Hb; have kb := wr_of hNX; have yb := at_of hNX; clear hNX)
          have nZL : Lm ≠ Z := fun z => by rw [z, yZ] at hLm; cases hLm
          have hLb : Hb Lm = some (.lst vm) := (kb Lm nZL).trans (sa _ _ hl2)
          refine ⟨_, rfl, .inl ⟨rfl, _, SqL.of hLb⟩, lit3, fun pb gb => ?_⟩
          (generalize hNX : upd Hb pb _ = Hc; have sc := same_of gb hNX; have yc := at_of hNX; clear hNX)
          refine ⟨Lm, _, _, rfl, rfl, sc _ _ hLb, by omega, ?_⟩
          (generalize hNX : upd Hc Lm _ = Hd; have kd := wr_of hNX; have yd := at_of hNX; clear hNX)
          have sd : Same H Hd := fun c o ec => (kd c (ne_of_none ec hLnone)).trans (sc _ _ ((kb c (ne_of_none ec hZnone)).trans (sa _ _ (sm _ _ ec))))
          have Fd := Z0.same sd
          refine ⟨_, rfl, F, dx, _, rfl, Fd.o, rfl, F, R, M, D, W, dx, vr, vm, g, rfl, Fd, by omega, fun Z' zs' He hZ' se yZ' pz' _ => ?_⟩
          have e1 : Tell K He (.ref Z') (lpsD g.ls) := tell_lps ok hts yZ' pz'
          have Ye := Y.same (sd.trans se)
          have e2 : Tell K He (.ref L) (lpsD g.ls) := tell_lps ok hts Ye.l Ye.p
          refine ⟨_, _, rfl, e1.dt, e1.sb, e1.dp, e1.ln, _, rfl, O, _, _, _, rfl, rfl, SqL.of Ye.o, o0 _ _ _, _, _, rfl, e2.dt, e2.sb, e2.dp, e2.ln, rfl, _, rfl, ?_⟩
          rw [decide_eq_true rfl]
          refine iteT ?_
          have Fe := Z0.same (sd.trans se)
          refine ⟨_, rfl, F, dx, _, rfl, Fe.o, rfl, F, R, M, D, W, dx, vr, vm, g, rfl, Fe, fun Lm' Hf hLm' sf yLm' => ?_⟩
          have sdf := (sd.trans se).trans sf
          have Yf := Y.same sdf
          have f1 : Tell K Hf (.ref Lm') (trsD g.ts) := tell_trs ok hts yLm' (Z0.t.same sdf)
          have f2 : Tell K Hf (.ref T) (trsD g.ts) := tell_trs ok hts Yf.t Yf.q
          refine ⟨_, _, rfl, f1.dt, f1.sb, f1.dp, f1.ln, _, rfl, O, _, _, _, rfl, rfl, SqL.of Yf.o, o1 _ _ _, _, _, rfl, f2.dt, f2.sb, f2.dp, f2.ln, rfl, ?_⟩
          rw [decide_eq_true rfl]
          exact q Hf sdf
    · rw [List.concat_eq_append] at e
      have e0 : (!(g.ls.map lpD).isEmpty) = true := by rw [e]; simp
      rw [e0]
      refine iteT ?_
      have hp := Y1.p
      rw [e] at hp
      obtain ⟨va, v, ev, hpa, B, rfl, hB⟩ := pr_snoc hp
      have hat : atI vl (-1) = some (V.ref B) := atI_m1 (by rw [ev]; simp)
      have hg := get_g1 (ok.two loop (by rw [e]; simp))
      have hg1 : g1 loop < 10000 := hs.1 loop (by rw [e]; simp) _ (List.mem_of_getElem? hg.1)
      have hg2 : g2 loop < 10000 := hs.1 loop (by rw [e]; simp) _ (List.mem_of_getElem? hg.2)
      refine ⟨_, rfl, O, _, _, _, rfl, rfl, SqL.of Y1.o, o0 _ _ _, _, rfl, L, _, _, _, rfl, rfl, SqL.of Y1.l, hat, B, _, _, _, rfl, rfl, SqL.of hB, atI_nat (j := 0) (nV_get hg.1),
        _, rfl, O, _, _, _, rfl, rfl, SqL.of Y1.o, o0 _ _ _, _, rfl, L, _, _, _, rfl, rfl, SqL.of Y1.l, hat, B, _, _, _, rfl, rfl, SqL.of hB, atI_nat (j := 1) (nV_get hg.2), lit2, fun pg gg => ?_⟩
      (generalize hNX : upd H1 pg _ = H2; have s2 := same_of gg hNX; have yg := at_of hNX; clear hNX)
      have q1 := s1.trans s2
      have F1 := Z0.same q1
      refine ⟨_, rfl, F, dx, _, rfl, F1.o, rfl, F, R, M, D, W, dx, vr, vm, g, rfl, F1, by omega, fun Z zs H3 hZ s3 yZ pz fz => ?_⟩
      have q3 := q1.trans s3
      have F3 := Z0.same q3
      refine ⟨_, rfl, F, dx, _, rfl, F3.o, rfl, F, R, M, D, W, dx, vr, vm, g, rfl, F3, fun Lm H4 hLm s4 yLm => ?_⟩
      have q4 := q3.trans s4
      have Y4 := Y.same q4
      refine ⟨_, rfl, _, rfl, O, _, _, _, rfl, rfl, SqL.of Y4.o, o0 _ _ _, lit2, fun t1 k1 => ?_⟩
      (generalize hNX : upd H4 t1 _ = H5; have s5 := same_of k1 hNX; have y5 := at_of hNX; clear hNX)
      have q5 := q4.trans s5
      have Y5 := Y.same q5
      refine ⟨_, rfl, _, rfl, O, _, _, _, rfl, rfl, SqL.of Y5.o, o1 _ _ _, lit2, fun t2 k2 => ?_⟩
      (generalize hNX : upd H5 t2 _ = H6; have s6 := same_of k2 hNX; have y6 := at_of hNX; clear hNX)
      have q6 := q5.trans s6
      have F6 := Z0.same q6
      refine ⟨_, rfl, F, dx, _, rfl, F6.o, rfl, F, R, M, D, W, dx, vr, vm, g, rfl, F6, ok, (fun z => by rw [z] at e; simp at e), fun ah' loop' e' tg H7 htg s7 ytg => ?_⟩
      have : loop' = loop := by
        rw [e] at e'
        have := List.append_inj' e' rfl
        simpa using this.2.symm
      subst this
      refine ⟨_, rfl, lit2, fun t3 k3 => ?_⟩
      (generalize hNX : upd H7 t3 _ = H8; have s8 := same_of k3 hNX; have y8 := at_of hNX; clear hNX)
      have q8 := (q6.trans s7).trans s8
      have F8 := Z0.same q8
      have Y8 := Y.same q8
      refine ⟨_, rfl, F, dx, _, rfl, F8.o, rfl, F, R, M, D, W, dx, vr, vm, g, rfl, F8, _, rfl, O, _, _, _, rfl, rfl, SqL.of Y8.o, o2 _ _ _, lit2, fun t4 k4 => ?_⟩
      (generalize hNX : upd H8 t4 _ = H9; have s9 := same_of k4 hNX; have y9 := at_of hNX; clear hNX)
      refine ⟨(by show 4 ≤ sizeLine; decide), fun ll kl => ?_⟩
      (generalize hNX : upd H9 ll _ = Hn; have sn := same_of kl hNX; have yn := at_of hNX; clear hNX)
      have q89 := s8.trans (s9.trans sn)
      have q79 := s7.trans q89
      have q69 := s6.trans q79
      have q59 := s5.trans q69
      have q49 := s4.trans q59
      have qn := q4.trans q59
      have Yn := Y.same qn
      have z1 := q69 _ _ y5
      have z2 := q79 _ _ y6
      have z3 := (s9.trans sn) _ _ y8
      have z4 := sn _ _ y9
      have hZn := q49 _ _ yZ
      have hLn := q59 _ _ yLm
      have a1 : Tell K Hn (.ref Z) (lpsD g.ls) := tell_lps ok hts hZn (pz.same q49)
      have a2 : Tell K Hn (.ref L) (lpsD g.ls) := tell_lps ok hts Yn.l Yn.p
      have b1 : Tell K Hn (.ref Lm) (trsD g.ts) := tell_trs ok hts hLn (Z0.t.same qn)
      have b2 : Tell K Hn (.ref T) (trsD g.ts) := tell_trs ok hts Yn.t Yn.q
      have c12 : ∃ d, Tell K Hn (V.ref tg) d ∧ Tell K Hn (V.ref pg) d := ⟨_, tell_pair hg1 hg2 (q89 _ _ ytg), tell_pair hg1 hg2 (((s3.trans q49)) _ _ yg)⟩
      have d12 : Tell K Hn (.int (g.n : Int)) (.int (g.n : Int)) := tell_int hs.2.2
      refine ⟨ll, rfl, ⟨_, SqL.of yn⟩, for_list (K := K) (a := ll) (xs := [.ref t1, .ref t2, .ref t3, .ref t4]) (fun i σ H' => ∃ v5 v6, σ = [some (.ref F), some (.ref O), some (V.ref pg), some (.ref Z), some (.ref Lm), v5, v6, none] ∧ H' = Hn) ⟨none, none, rfl, rfl⟩ (fun i σ H' _ ⟨_, _, _, eh⟩ => by rw [eh]; exact SqL.of yn) ?_ ?_⟩
      · rintro i x σ H' hi ⟨v5, v6, rfl, rfl⟩
        have key : ∃ ta u v d, x = .ref ta ∧ H' ta = some (.tup [u, v]) ∧ Tell K H' u d ∧ Tell K H' v d := by
          match i, hi with
          | 0, hi => simp at hi; subst hi; exact ⟨t1, _, _, _, rfl, z1, a1, a2⟩
          | 1, hi => simp at hi; subst hi; exact ⟨t2, _, _, _, rfl, z2, b1, b2⟩
          | 2, hi =>
            simp at hi; subst hi
            obtain ⟨d, c1, c2⟩ := c12
            exact ⟨t3, _, _, _, rfl, z3, c1, c2⟩
          | 3, hi => simp at hi; subst hi; exact ⟨t4, _, _, _, rfl, z4, d12, d12⟩
          | i + 4, hi => simp at hi
        obtain ⟨ta, u, v, d, rfl, hta, hu, hv⟩ := key
        refine ⟨ta, _, rfl, SqT.of hta, rfl, _, _, rfl, _, _, rfl, rfl, ?_⟩
        refine ⟨_, rfl, u, d, rfl, hu.dt, hu.sb, hu.dp, hu.ln, _, rfl, v, d, rfl, hv.dt, hv.sb, hv.dp, hv.ln, rfl, _, rfl, ?_⟩
        rw [decide_eq_true rfl]
        exact iteF ⟨_, _, rfl, rfl⟩
      · rintro σ H' ⟨v5, v6, rfl, rfl⟩
        have hlz := pr_len pz
        have hZnone : H Z = none := q1.free hZ
        have hLnone : H Lm = none := q3.free hLm
        refine ⟨_, rfl, Z, rfl, ⟨_, SqL.of hZn⟩, for_list (K := K) (a := Z) (xs := zs) (fun i σ H2 => ∃ v7, σ = [some (.ref F), some (.ref O), some (V.ref pg), some (.ref Z), some (.ref Lm), v5, v6, v7] ∧ Same H H2 ∧ H2 Z = some (.lst zs) ∧ H2 Lm = some (.lst vm) ∧ (∀ v ∈ zs, ∃ b xs, v = .ref b ∧ H2 b = some (.lst xs) ∧ xs.length ≤ 400 + i))
          ⟨none, rfl, qn, hZn, hLn, fun v hv => ?_⟩ (fun i σ H2 _ ⟨_, _, _, eh, _⟩ => SqL.of eh) ?_ ?_⟩
        · obtain ⟨b, rfl, _⟩ := fz v hv
          obtain ⟨l, hl, eb⟩ := pr_mem pz hv
          exact ⟨b, _, rfl, q49 _ _ eb, by rw [nV_len]; have := he l hl; omega⟩
        · rintro i x σ H2 hi ⟨v7, rfl, sm, hz2, hl2, hin⟩
          have hiz := (List.getElem?_eq_some_iff.mp hi).1
          have hxm := List.mem_of_getElem? hi
          obtain ⟨b, xs, rfl, hb, hxl⟩ := hin x hxm
          obtain ⟨b', eb', hbn, hbZ⟩ := fz _ hxm
          cases eb'
          have hbn : H b = none := q1.free hbn
          have hbL : b ≠ Lm := fun z => by
            obtain ⟨l, hl, eb⟩ := pr_mem pz hxm
            rw [z, hLm] at eb; cases eb
          refine ⟨_, rfl, .inl ⟨rfl, _, SqL.of hb⟩, b, _, _, rfl, rfl, hb, by omega, ?_⟩
          (generalize hNX : upd H2 b _ = H3'; have k3' := wr_of hNX; have y3' := at_of hNX; clear hNX)
          refine ⟨_, rfl, fun c o ec => (k3' c (ne_of_none ec hbn)).trans (sm _ _ ec), (k3' Z (Ne.symm hbZ)).trans hz2, (k3' Lm (Ne.symm hbL)).trans hl2, fun v hv => ?_⟩
          obtain ⟨c, ys, rfl, hc, hcl⟩ := hin v hv
          by_cases hcb : c = b
          · subst hcb
            have : ys = xs := by rw [hb] at hc; injection hc with hc; injection hc with hc; exact hc.symm
            subst this
            exact ⟨c, _, rfl, y3', by rw [List.length_append, List.length_singleton]; omega⟩
          · exact ⟨c, ys, rfl, (k3' c hcb).trans hc, by omega⟩
        · rintro σ H2 ⟨v7, rfl, sm, hz2, hl2, hin⟩
          refine ⟨_, rfl, .inl ⟨rfl, _, SqL.of hz2⟩, lit1, fun pa ga => ?_⟩
          (generalize hNX : upd H2 pa _ = Ha; have sa := same_of ga hNX; have ya := at_of hNX; clear hNX)
          refine ⟨Z, _, _, rfl, rfl, sa _ _ hz2, by omega, ?_⟩
          (generalize hNX : upd Ha Z _ = Hb; have kb := wr_of hNX; have yb := at_of hNX; clear hNX)
          have nZL : Lm ≠ Z := fun z => by rw [z, yZ] at hLm; cases hLm
          have hLb : Hb Lm = some (.lst vm) := (kb Lm nZL).trans (sa _ _ hl2)
          refine ⟨_, rfl, .inl ⟨rfl, _, SqL.of hLb⟩, lit3, fun pb gb => ?_⟩
          (generalize hNX : upd Hb pb _ = Hc; have sc := same_of gb hNX; have yc := at_of hNX; clear hNX)
          refine ⟨Lm, _, _, rfl, rfl, sc _ _ hLb, by omega, ?_⟩
          (generalize hNX : upd Hc Lm _ = Hd; have kd := wr_of hNX; have yd := at_of hNX; clear hNX)
          have sd : Same H Hd := fun c o ec => (kd c (ne_of_none ec hLnone)).trans (sc _ _ ((kb c (ne_of_none ec hZnone)).trans (sa _ _ (sm _ _ ec))))
          have Fd := Z0.same sd
          refine ⟨_, rfl, F, dx, _, rfl, Fd.o, rfl, F, R, M, D, W, dx, vr, vm, g, rfl, Fd, by omega, fun Z' zs' He hZ' se yZ' pz' _ => ?_⟩
          have e1 : Tell K He (.ref Z') (lpsD g.ls) := tell_lps ok hts yZ' pz'
          have Ye := Y.same (sd.trans se)
          have e2 : Tell K He (.ref L) (lpsD g.ls) := tell_lps ok hts Ye.l Ye.p
          refine ⟨_, _, rfl, e1.dt, e1.sb, e1.dp, e1.ln, _, rfl, O, _, _, _, rfl, rfl, SqL.of Ye.o, o0 _ _ _, _, _, rfl, e2.dt, e2.sb, e2.dp, e2.ln, rfl, _, rfl, ?_⟩
          rw [decide_eq_true rfl]
          refine iteT ?_
          have Fe := Z0.same (sd.trans se)
          refine ⟨_, rfl, F, dx, _, rfl, Fe.o, rfl, F, R, M, D, W, dx, vr, vm, g, rfl, Fe, fun Lm' Hf hLm' sf yLm' => ?_⟩
          have sdf := (sd.trans se).trans sf
          have Yf := Y.same sdf
          have f1 : Tell K Hf (.ref Lm') (trsD g.ts) := tell_trs ok hts yLm' (Z0.t.same sdf)
          have f2 : Tell K Hf (.ref T) (trsD g.ts) := tell_trs ok hts Yf.t Yf.q
          refine ⟨_, _, rfl, f1.dt, f1.sb, f1.dp, f1.ln, _, rfl, O, _, _, _, rfl, rfl, SqL.of Yf.o, o1 _ _ _, _, _, rfl, f2.dt, f2.sb, f2.dp, f2.ln, rfl, ?_⟩
          rw [decide_eq_true rfl]
          exact q Hf sdf
end
end K31
end
section
set_option Elab.async false
set_option linter.all false
set_option maxRecDepth 100000
set_option maxHeartbeats 4000000
namespace K31
open PySem L2 K51
def spRightNo (Ce : Addr) : Sp := fun vs H _ E => ∃ (A L : Addr) (loop : List Nat), vs = [.ref A, .ref L] ∧ H L = some (.lst (nV loop)) ∧ loop.length ≤ 3 ∧ E (.ref Ce) none H
def spEndedNo (Ce : Addr) : Sp := fun vs H _ E => ∃ (A L : Addr) (loop : List Nat), vs = [.ref A, .ref L] ∧ H L = some (.lst (nV loop)) ∧ loop.length ≠ 3 ∧ E (.ref Ce) none H
def spPartedNo (Ce : Addr) : Sp := fun vs H _ E => ∃ (A L : Addr) (loop : List Nat) (k : Int), vs = [.ref A, .ref L, .int k] ∧ H L = some (.lst (nV loop)) ∧ ¬ (3 ≤ k ∧ k < (loop.length : Int) - 1) ∧ E (.ref Ce) none H
def spJoinedNo (Ce : Addr) : Sp := fun vs H _ E => ∃ (A L : Addr) (va : List V) (ah : Lps) (j k : Int), vs = [.ref A, .ref L, .int j, .int k] ∧ H A = some (.lst va) ∧ LpsAt H va ah ∧
  ¬ (1 ≤ j ∧ j ≤ (ah.length : Int) ∧ 0 ≤ k ∧ k < ((ah.getD (ah.length - j.toNat) []).length : Int)) ∧ E (.ref Ce) none H
structure NoL (K : PySem.W.Frag) (mg : Str → Option Value) (Ce : Addr) : Prop where
  m : mg "NoLetter" = some (.ref Ce)
  x : PySem.W.excIn K Ce bmV "ValueError.__new__" = true
section
variable {P : Program} {w : World} {K : PySem.W.Frag} {mg : Str → Option Value} {base : Heap}
theorem no_right {f Ce : Addr} {fd : FuncData} (U : Fun K "gone_right" "gone_right" sRight f fd) (T' : TxtN mg) (Z : NoL K mg Ce) : FnOk P w K mg base (CX1 P w) 1 f fd ["ahead", "loop"] (spRightNo Ce) := by
  refine U.ok1 scRight (fun vs H Q E h => ?_) (fun cdv A outer s H vs Q E hr h => ?_)
  · obtain ⟨A, L, loop, rfl, _⟩ := h
    rfl
  · obtain ⟨A, L, loop, rfl, hL, hl, q⟩ := h
    refine ⟨_, pss_cons (ps_if (pt_cmpR op_le (pe_callB call_len_seq (by rfl) T'.len PySem.boot_len (pa_cons (pv 1) pa_nil)) pe_int (nomark _)) (pss_one (ps_raise lets1 rfl rfl rfl Z.m Z.x (pa_cons pe_str pa_nil))) pss_nil) pss_never, ?_⟩
    refine ⟨_, rfl, L, _, rfl, .inl (SqL.of hL), _, _, rfl, rfl, _, rfl, ?_⟩
    rw [nV_len, decide_eq_true (by omega)]
    exact iteT ⟨lit1, q⟩
theorem no_left {f Ce : Addr} {fd : FuncData} (U : Fun K "gone_left" "gone_left" sLeft f fd) (T' : TxtN mg) (Z : NoL K mg Ce) : FnOk P w K mg base (CX1 P w) 1 f fd ["ahead", "loop"] (spRightNo Ce) := by
  refine U.ok1 scLeft (fun vs H Q E h => ?_) (fun cdv A outer s H vs Q E hr h => ?_)
  · obtain ⟨A, L, loop, rfl, _⟩ := h
    rfl
  · obtain ⟨A, L, loop, rfl, hL, hl, q⟩ := h
    refine ⟨_, pss_cons (ps_if (pt_cmpR op_le (pe_callB call_len_seq (by rfl) T'.len PySem.boot_len (pa_cons (pv 1) pa_nil)) pe_int (nomark _)) (pss_one (ps_raise lets1 rfl rfl rfl Z.m Z.x (pa_cons pe_str pa_nil))) pss_nil) pss_never, ?_⟩
    refine ⟨_, rfl, L, _, rfl, .inl (SqL.of hL), _, _, rfl, rfl, _, rfl, ?_⟩
    rw [nV_len, decide_eq_true (by omega)]
    exact iteT ⟨lit1, q⟩
theorem no_ended {f Ce : Addr} {fd : FuncData} (U : Fun K "loop_ended" "loop_ended" sEnded f fd) (T' : TxtN mg) (Z : NoL K mg Ce) : FnOk P w K mg base (CX1 P w) 1 f fd ["ahead", "loop"] (spEndedNo Ce) := by
  refine U.ok1 scEnded (fun vs H Q E h => ?_) (fun cdv A outer s H vs Q E hr h => ?_)
  · obtain ⟨A, L, loop, rfl, _⟩ := h
    rfl
  · obtain ⟨A, L, loop, rfl, hL, hl, q⟩ := h
    refine ⟨_, pss_cons (ps_if (pt_cmpR op_ne (pe_callB call_len_seq (by rfl) T'.len PySem.boot_len (pa_cons (pv 1) pa_nil)) pe_int (nomark _)) (pss_one (ps_raise lets1 rfl rfl rfl Z.m Z.x (pa_cons pe_str pa_nil))) pss_nil) pss_never, ?_⟩
    refine ⟨_, rfl, L, _, rfl, .inl (SqL.of hL), rfl, _, rfl, ?_⟩
    rw [nV_len, decI, decide_eq_false (by omega)]
    exact iteT ⟨lit1, q⟩
theorem no_parted {f Ce : Addr} {fd : FuncData} (U : Fun K "loop_parted" "loop_parted" sParted f fd) (T' : TxtN mg) (Z : NoL K mg Ce) : FnOk P w K mg base (CX1 P w) 1 f fd ["ahead", "loop", "k"] (spPartedNo Ce) := by
  refine U.ok1 scParted (fun vs H Q E h => ?_) (fun cdv A outer s H vs Q E hr h => ?_)
  · obtain ⟨A, L, loop, k, rfl, _⟩ := h
    rfl
  · obtain ⟨A, L, loop, k, rfl, hL, hl, q⟩ := h
    refine ⟨_, pss_cons (ps_if (PW.pt (pw_or (pt_cmpR op_lt (pv 2) pe_int (nomark _)) (pw_or1 (pt_cmpR op_ge (pv 2) (pe_op op_sub (pe_callB call_len_seq (by rfl) T'.len PySem.boot_len (pa_cons (pv 1) pa_nil)) pe_int) (nomark _))))) (pss_one (ps_raise lets1 rfl rfl rfl Z.m Z.x (pa_cons pe_str pa_nil))) pss_nil) pss_never, ?_⟩
    refine ⟨_, rfl, _, _, rfl, rfl, _, rfl, ?_⟩
    by_cases hk : k < 3
    · rw [decide_eq_true hk]
      exact iteT (iteT ⟨lit1, q⟩)
    · rw [decide_eq_false hk]
      refine iteF ?_
      refine ⟨_, rfl, _, rfl, L, _, rfl, .inl (SqL.of hL), _, _, rfl, rfl, _, _, rfl, rfl, _, rfl, ?_⟩
      rw [nV_len, decide_eq_true (by omega)]
      exact iteT ⟨lit1, q⟩
theorem no_joined {f Ce : Addr} {fd : FuncData} (U : Fun K "loops_joined" "loops_joined" sJoined f fd) (T' : TxtN mg) (Z : NoL K mg Ce) : FnOk P w K mg base (CX1 P w) 1 f fd ["ahead", "loop", "j", "k"] (spJoinedNo Ce) := by
  refine U.ok1 scJoined (fun vs H Q E h => ?_) (fun cdv A outer s H vs Q E hr h => ?_)
  · obtain ⟨A, L, va, ah, j, k, rfl, _⟩ := h
    rfl
  · obtain ⟨A, L, va, ah, j, k, rfl, hA, hp, hl, q⟩ := h
    refine ⟨_, pss_cons (ps_if (PW.pt (pw_or (pt_cmpR op_lt (pv 2) pe_int (nomark _)) (pw_or1 (pt_cmpR op_gt (pv 2) (pe_callB call_len_seq (by rfl) T'.len PySem.boot_len (pa_cons (pv 0) pa_nil)) (nomark _))))) (pss_one (ps_raise lets1 rfl rfl rfl Z.m Z.x (pa_cons pe_str pa_nil))) pss_nil)
      (pss_cons (ps_set (i := 4) scJoined.nd rfl (Or.inl rfl) (pe_op op_sub (pe_callB call_len_seq (by rfl) T'.len PySem.boot_len (pa_cons (pv 0) pa_nil)) (pv 2)))
      (pss_cons (ps_set (i := 5) scJoined.nd rfl (Or.inl rfl) (pe_ix ix_list (pv 0) (pv 4) (fun _ _ => rfl)))
      (pss_cons (ps_if (PW.pt (pw_or (pt_cmpR op_lt (pv 3) pe_int (nomark _)) (pw_or1 (pt_cmpR op_ge (pv 3) (pe_callB call_len_seq (by rfl) T'.len PySem.boot_len (pa_cons (pv 5) pa_nil)) (nomark _))))) (pss_one (ps_raise lets1 rfl rfl rfl Z.m Z.x (pa_cons pe_str pa_nil))) pss_nil) pss_never))), ?_⟩
    have hlen := pr_len hp
    refine ⟨_, rfl, _, _, rfl, rfl, _, rfl, ?_⟩
    by_cases hj : j < 1
    · rw [decide_eq_true hj]
      exact iteT (iteT ⟨lit1, q⟩)
    · rw [decide_eq_false hj]
      refine iteF ?_
      refine ⟨_, rfl, _, rfl, A, _, rfl, .inl (SqL.of hA), _, _, rfl, rfl, _, rfl, ?_⟩
      rw [hlen]
      by_cases hj2 : j > (ah.length : Int)
      · rw [decide_eq_true hj2]
        exact iteT ⟨lit1, q⟩
      · rw [decide_eq_false hj2]
        refine iteF ?_
        refine ⟨_, rfl, A, _, rfl, .inl (SqL.of hA), _, rfl, _, _, rfl, rfl, ?_⟩
        show gName 4 (V.int ((va.length : Int) - j)) _ _ _
        rw [hlen, show (ah.length : Int) - j = ((ah.length - j.toNat : Nat) : Int) by omega]
        have ho : ah[ah.length - j.toNat]? = some (ah.getD (ah.length - j.toNat) []) := by
          have : ah.length - j.toNat < ah.length := by omega
          simp [List.getD, this]
        obtain ⟨v, hv, b, rfl, hbH⟩ := pr_get hp ho
        generalize ah.getD (ah.length - j.toNat) [] = o at *
        refine ⟨_, rfl, _, rfl, A, _, _, _, rfl, rfl, SqL.of hA, atI_nat hv, ?_⟩
        refine ⟨_, rfl, _, _, rfl, rfl, _, rfl, ?_⟩
        by_cases hk : k < 0
        · rw [decide_eq_true hk]
          exact iteT (iteT ⟨lit1, q⟩)
        · rw [decide_eq_false hk]
          refine iteF ?_
          refine ⟨_, rfl, _, rfl, b, _, rfl, .inl (SqL.of hbH), _, _, rfl, rfl, _, rfl, ?_⟩
          rw [nV_len, decide_eq_true (by omega)]
          exact iteT ⟨lit1, q⟩
end
end K31
end
section
set_option Elab.async false
set_option linter.all false
set_option maxRecDepth 100000
set_option maxHeartbeats 4000000
namespace K31
open PySem L2 K51
abbrev crle : List V := [.str (txt [67]), .str (txt [82]), .str (txt [76]), .str (txt [69])]
inductive Wh (H : Hp) : V → Bool → Prop where
  | int (i : Int) : Wh H (.int i) true
  | bl (b : Bool) : Wh H (.bl b) false
  | str (s : Str) : Wh H (.str s) false
  | lst {a : Addr} {xs : List V} (e : H a = some (.lst xs)) : Wh H (.ref a) false
inductive NoS (H : Hp) : V → Prop where
  | non : NoS H .non
  | int (i : Int) : NoS H (.int i)
  | lst {a : Addr} {xs : List V} (e : H a = some (.lst xs)) : NoS H (.ref a)
  | tup {a : Addr} {xs : List V} (e : H a = some (.tup xs)) : NoS H (.ref a)
inductive IsL (H : Hp) : V → Bool → Prop where
  | non : IsL H .non false
  | str (s : Str) : IsL H (.str s) false
  | lst {a : Addr} {xs : List V} (e : H a = some (.lst xs)) : IsL H (.ref a) false
  | len {a : Addr} {xs : List V} (e : H a = some (.tup xs)) (h1 : xs.length ≠ 1) (h3 : xs.length ≠ 3) : IsL H (.ref a) false
  | head {a : Addr} {x : V} {r : List V} (e : H a = some (.tup (x :: r))) (h : r.length = 0 ∨ r.length = 2) (hx : NoS H x) : IsL H (.ref a) false
  | one {a : Addr} {s : Str} (e : H a = some (.tup [.str s])) : IsL H (.ref a) (inV (.str s) crle)
  | two {a : Addr} {x y : V} {b c : Bool} (e : H a = some (.tup [.str (txt [83]), x, y])) (hx : Wh H x b) (hy : Wh H y c) : IsL H (.ref a) (b && c)
theorem Wh.same {H H' : Hp} {x : V} {b : Bool} (h : Wh H x b) (s : Same H H') : Wh H' x b := by
  cases h with
  | int i => exact .int i
  | bl b => exact .bl b
  | str x => exact .str x
  | lst e => exact .lst (s _ _ e)
theorem NoS.same {H H' : Hp} {x : V} (h : NoS H x) (s : Same H H') : NoS H' x := by
  cases h with
  | non => exact .non
  | int i => exact .int i
  | lst e => exact .lst (s _ _ e)
  | tup e => exact .tup (s _ _ e)
theorem IsL.same {H H' : Hp} {x : V} {b : Bool} (h : IsL H x b) (s : Same H H') : IsL H' x b := by
  cases h with
  | non => exact .non
  | str x => exact .str x
  | lst e => exact .lst (s _ _ e)
  | len e h1 h3 => exact .len (s _ _ e) h1 h3
  | head e h hx => exact .head (s _ _ e) h (hx.same s)
  | one e => exact .one (s _ _ e)
  | two e hx hy => exact .two (s _ _ e) (hx.same s) (hy.same s)
structure KitN (K : PySem.W.Frag) : Prop where
  nt : PySem.W.kitOne K (.type "NoneType") (.type "tuple") = some false
  st : PySem.W.kitOne K (.type "str") (.type "tuple") = some false
  lt : PySem.W.kitOne K (.type "list") (.type "tuple") = some false
  ns : PySem.W.kitOne K (.type "NoneType") (.type "str") = some false
  is : PySem.W.kitOne K (.type "int") (.type "str") = some false
  ls : PySem.W.kitOne K (.type "list") (.type "str") = some false
  ts : PySem.W.kitOne K (.type "tuple") (.type "str") = some false
  bi : PySem.W.kitOne K (.type "bool") (.type "int") = some true
  bb : PySem.W.kitOne K (.type "bool") (.type "bool") = some true
  si : PySem.W.kitOne K (.type "str") (.type "int") = some false
  li : PySem.W.kitOne K (.type "list") (.type "int") = some false
def spWholeG : Sp := fun vs H Q _ => ∃ (v : V) (b : Bool), vs = [v] ∧ Wh H v b ∧ Q (.bl b) H
def spIsL : Sp := fun vs H Q _ => ∃ (v : V) (b : Bool), vs = [v] ∧ IsL H v b ∧ ∀ H', Same H H' → Q (.bl b) H'
theorem len_no {xs : List V} (h1 : xs.length ≠ 1) (h3 : xs.length ≠ 3) : inV (.int (xs.length : Int)) [.int 1, .int 3] = false := by
  have e1 : ((1 : Int) == (xs.length : Int)) = false := by rw [beq_eq_false_iff_ne]; omega
  have e3 : ((3 : Int) == (xs.length : Int)) = false := by rw [beq_eq_false_iff_ne]; omega
  simp [inV, eqV, e1, e3]
theorem len_yes {xs : List V} (h : xs.length = 1 ∨ xs.length = 3) : inV (.int (xs.length : Int)) [.int 1, .int 3] = true := by
  rcases h with h | h <;> rw [h] <;> rfl
section
variable {P : Program} {w : World} {K : PySem.W.Frag} {mg : Str → Option Value} {base : Heap}
theorem ok_wholeG {f : Addr} {fd : FuncData} (U : Fun K "is_whole" "is_whole" sWhole f fd) (T : TxtN mg) (F : KitF K) (N : KitN K) : FnOk P w K mg base CX0 1 f fd ["thing"] spWholeG := by
  refine U.ok scWhole (fun vs H Q E h => ?_) (fun cdv A outer s H vs Q E hr h => ?_)
  · obtain ⟨n, b, rfl, _⟩ := h
    rfl
  · obtain ⟨v, b, rfl, hv, q⟩ := h
    refine ⟨_, pss_one (ps_ret (pe_and (pe_callB (call_isiT (c := "int")) (by rfl) T.isi PyProof.Rows.boot_isinstance (pa_cons (pv 0) (pa_cons (pe_bltn (v := .ty "int") rfl T.int PyProof.Rows.boot_int rfl) pa_nil)))
      (pe_one (pe_not (pe_callB (call_isiT (c := "bool")) (by rfl) T.isi PyProof.Rows.boot_isinstance (pa_cons (pv 0) (pa_cons (pe_bltn (v := .ty "bool") rfl T.bool PyProof.Rows.boot_bool rfl) pa_nil))))))), ?_⟩
    cases hv with
    | int n => exact ⟨_, rfl, _, _, true, rfl, .int n, F.i, true, rfl, iteT ⟨_, rfl, _, _, false, rfl, .int n, F.b, false, rfl, q⟩⟩
    | bl b => exact ⟨_, rfl, _, _, true, rfl, .bl b, N.bi, true, rfl, iteT ⟨_, rfl, _, _, true, rfl, .bl b, N.bb, true, rfl, q⟩⟩
    | str x => exact ⟨_, rfl, _, _, false, rfl, .str x, N.si, false, rfl, iteF q⟩
    | lst e => exact ⟨_, rfl, _, _, false, rfl, .lst e, N.li, false, rfl, iteF q⟩
theorem ok_isL {f f1 S : Addr} {fd d1 : FuncData} (U : Fun K "is_letter" "is_letter" sIsLetter f fd) (T : TxtN mg) (F : KitF K) (N : KitN K) (G : Use P w K mg base 1 "is_whole" ["thing"] spWholeG f1 d1) (mS : mg "PLAIN_SIGNS" = some (.ref S))
    (hS : ∀ H, SqT K H S crle) : FnOk P w K mg base CX0 2 f fd ["thing"] spIsL := by
  refine U.ok scIsLetter (fun vs H Q E h => ?_) (fun cdv A outer s H vs Q E hr h => ?_)
  · obtain ⟨v, b, rfl, _⟩ := h
    rfl
  · obtain ⟨v, b, rfl, hv, q⟩ := h
    refine ⟨_, pss_cons (ps_if (PW.pt (pw_or (pt_not (pt_val (pe_callB (call_isiT (c := "tuple")) (by rfl) T.isi PyProof.Rows.boot_isinstance (pa_cons (pv 0) (pa_cons (pe_bltn (v := .ty "tuple") rfl T.tuple PyProof.Rows.boot_tuple rfl) pa_nil)))))
          (pw_or1 (pt_cmpR op_notIn_seq (pe_callB call_len_seq (by rfl) T.len PySem.boot_len (pa_cons (pv 0) pa_nil)) (pe_tup (pa_cons pe_int (pa_cons pe_int pa_nil))) rfl)))) (pss_one (ps_ret pe_bl)) pss_nil)
      (pss_cons (ps_if (pt_not (pt_val (pe_callB (call_isiT (c := "str")) (by rfl) T.isi PyProof.Rows.boot_isinstance (pa_cons (pe_ix ix_tup (pv 0) pe_int (fun _ _ => rfl)) (pa_cons (pe_bltn (v := .ty "str") rfl T.str PyProof.Rows.boot_str rfl) pa_nil))))) (pss_one (ps_ret pe_bl)) pss_nil)
      (pss_cons (ps_if (pt_cmpR op_eq (pe_callB call_len_seq (by rfl) T.len PySem.boot_len (pa_cons (pv 0) pa_nil)) pe_int (nomark _)) (pss_one (ps_ret (pe_cmpR op_in_seq (pe_ix ix_tup (pv 0) pe_int (fun _ _ => rfl)) (pe_glob (v := .ref S) rfl mS rfl) rfl))) pss_nil)
      (pss_one (ps_ret (pe_and (pe_cmpR op_eq (pe_ix ix_tup (pv 0) pe_int (fun _ _ => rfl)) pe_str (nomark _)) (pe_and (pe_call G.g hr rfl G.m G.k G.b .nil pass0 (pa_cons (pe_ix ix_tup (pv 0) pe_int (fun _ _ => rfl)) pa_nil)) (pe_one (pe_call G.g hr rfl G.m G.k G.b .nil pass0 (pa_cons (pe_ix ix_tup (pv 0) pe_int (fun _ _ => rfl)) pa_nil))))))))), ?_⟩
    cases hv with
    | non => exact ⟨_, rfl, _, _, false, rfl, .non, N.nt, _, rfl, iteT (iteT (q H same_id))⟩
    | str x => exact ⟨_, rfl, _, _, false, rfl, .str x, N.st, _, rfl, iteT (iteT (q H same_id))⟩
    | lst e => exact ⟨_, rfl, _, _, false, rfl, .lst e, N.lt, _, rfl, iteT (iteT (q H same_id))⟩
    | @len t xs ht h1 h3 =>
      refine ⟨_, rfl, _, _, true, rfl, .tup ht, F.t, _, rfl, iteF ?_⟩
      refine ⟨_, rfl, t, _, rfl, .inr (SqT.of ht), lit2, fun p1 g1 => ?_⟩
      (generalize hNX : upd H p1 _ = H1; have s1 := same_of g1 hNX; have y1 := at_of hNX; clear hNX)
      refine ⟨p1, _, rfl, .inr (SqT.of y1), rfl, rfl, _, rfl, ?_⟩
      rw [if_pos rfl, len_no h1 h3]
      exact iteT (q H1 s1)
    | @head t x r ht hl hx =>
      refine ⟨_, rfl, _, _, true, rfl, .tup ht, F.t, _, rfl, iteF ?_⟩
      refine ⟨_, rfl, t, _, rfl, .inr (SqT.of ht), lit2, fun p1 g1 => ?_⟩
      (generalize hNX : upd H p1 _ = H1; have s1 := same_of g1 hNX; have y1 := at_of hNX; clear hNX)
      have ht1 := s1 _ _ ht
      refine ⟨p1, _, rfl, .inr (SqT.of y1), rfl, rfl, _, rfl, ?_⟩
      rw [if_pos rfl, len_yes (by simp only [List.length_cons]; omega)]
      refine iteF ?_
      refine ⟨_, rfl, t, _, _, _, rfl, rfl, SqT.of ht1, atI0 _ _, ?_⟩
      cases hx with
      | non => exact ⟨_, _, false, rfl, .non, N.ns, _, rfl, iteT (q H1 s1)⟩
      | int i => exact ⟨_, _, false, rfl, .int i, N.is, _, rfl, iteT (q H1 s1)⟩
      | lst e => exact ⟨_, _, false, rfl, .lst (s1 _ _ e), N.ls, _, rfl, iteT (q H1 s1)⟩
      | tup e => exact ⟨_, _, false, rfl, .tup (s1 _ _ e), N.ts, _, rfl, iteT (q H1 s1)⟩
    | @one t x ht =>
      refine ⟨_, rfl, _, _, true, rfl, .tup ht, F.t, _, rfl, iteF ?_⟩
      refine ⟨_, rfl, t, _, rfl, .inr (SqT.of ht), lit2, fun p1 g1 => ?_⟩
      (generalize hNX : upd H p1 _ = H1; have s1 := same_of g1 hNX; have y1 := at_of hNX; clear hNX)
      have ht1 := s1 _ _ ht
      refine ⟨p1, _, rfl, .inr (SqT.of y1), rfl, rfl, _, rfl, ?_⟩
      refine iteF ?_
      refine ⟨_, rfl, t, _, _, _, rfl, rfl, SqT.of ht1, atI0 _ _, _, _, true, rfl, .str _, F.s, _, rfl, iteF ?_⟩
      refine ⟨_, rfl, t, _, rfl, .inr (SqT.of ht1), rfl, _, rfl, ?_⟩
      refine iteT ?_
      refine ⟨_, rfl, t, _, _, _, rfl, rfl, SqT.of ht1, atI0 _ _, S, _, rfl, .inr (hS _), rfl, rfl, ?_⟩
      rw [if_neg (by decide)]
      exact q H1 s1
    | @two t x y b c ht hx hy =>
      have a0 : atI [V.str (txt [83]), x, y] 0 = some (V.str (txt [83])) := rfl
      have a1 : atI [V.str (txt [83]), x, y] 1 = some x := rfl
      have a2 : atI [V.str (txt [83]), x, y] 2 = some y := rfl
      refine ⟨_, rfl, _, _, true, rfl, .tup ht, F.t, _, rfl, iteF ?_⟩
      refine ⟨_, rfl, t, _, rfl, .inr (SqT.of ht), lit2, fun p1 g1 => ?_⟩
      (generalize hNX : upd H p1 _ = H1; have s1 := same_of g1 hNX; have y1 := at_of hNX; clear hNX)
      have ht1 := s1 _ _ ht
      refine ⟨p1, _, rfl, .inr (SqT.of y1), rfl, rfl, _, rfl, ?_⟩
      refine iteF ?_
      refine ⟨_, rfl, t, _, _, _, rfl, rfl, SqT.of ht1, a0, _, _, true, rfl, .str _, F.s, _, rfl, iteF ?_⟩
      refine ⟨_, rfl, t, _, rfl, .inr (SqT.of ht1), rfl, _, rfl, ?_⟩
      refine iteF ?_
      refine ⟨_, rfl, t, _, _, _, rfl, rfl, SqT.of ht1, a0, rfl, _, rfl, ?_⟩
      rw [show (Str.ofString "S") = txt [83] from s83, decT, decide_eq_true rfl]
      refine iteT ?_
      refine ⟨_, rfl, t, _, _, _, rfl, rfl, SqT.of ht1, a1, x, b, rfl, hx.same s1, b, rfl, ?_⟩
      cases b with
      | true =>
        refine iteT ?_
        exact ⟨_, rfl, t, _, _, _, rfl, rfl, SqT.of ht1, a2, y, c, rfl, hy.same s1, q H1 s1⟩
      | false => exact iteF (q H1 s1)
end
end K31
end
section
set_option Elab.async false
set_option linter.all false
set_option maxRecDepth 100000
set_option maxHeartbeats 4000000
namespace K31
open PySem L2 K51
inductive NoOut (H : Hp) (t : Addr) (ah : Lps) (loop : List Nat) : Prop where
  | right (e : H t = some (.tup [.str (txt [82])])) (h : loop.length ≤ 3) : NoOut H t ah loop
  | left (e : H t = some (.tup [.str (txt [76])])) (h : loop.length ≤ 3) : NoOut H t ah loop
  | ended (e : H t = some (.tup [.str (txt [69])])) (h : loop.length ≠ 3) : NoOut H t ah loop
  | parted {k : Int} (e : H t = some (.tup [.str (txt [83]), .int 0, .int k])) (h : ¬ (3 ≤ k ∧ k < (loop.length : Int) - 1)) : NoOut H t ah loop
  | joined {j k : Int} (e : H t = some (.tup [.str (txt [83]), .int j, .int k])) (hj : j ≠ 0) (h : ¬ (1 ≤ j ∧ j ≤ (ah.length : Int) ∧ 0 ≤ k ∧ k < ((ah.getD (ah.length - j.toNat) []).length : Int))) : NoOut H t ah loop
theorem NoOut.same {H H' : Hp} {t : Addr} {ah : Lps} {loop : List Nat} (x : NoOut H t ah loop) (s : Same H H') : NoOut H' t ah loop := by
  cases x with
  | right e h => exact .right (s _ _ e) h
  | left e h => exact .left (s _ _ e) h
  | ended e h => exact .ended (s _ _ e) h
  | parted e h => exact .parted (s _ _ e) h
  | joined e hj h => exact .joined (s _ _ e) hj h
theorem third_none {H : Hp} {t : Addr} {ah : Lps} {loop : List Nat} {a : Lt} {n : Nat} (ht : H t = some (.tup (ltV a))) (ha : Lets a) (h : thirdOf ah loop a n = none) (h2 : 2 ≤ loop.length) : NoOut H t ah loop := by
  cases a with
  | sg c =>
    simp only [Lets] at ha
    simp only [thirdOf] at h
    rcases ha with rfl | rfl | rfl | rfl
    · simp at h
    · refine .right ht ?_
      simp at h
      by_cases h3 : 3 < loop.length
      · have := h h3; omega
      · omega
    · refine .left ht ?_
      simp at h
      by_cases h3 : 3 < loop.length
      · have := h h3; omega
      · omega
    · refine .ended ht ?_
      simp at h
      intro h3
      have := h h3
      omega
  | sp j k =>
    simp only [thirdOf] at h
    by_cases hj : j = 0
    · subst hj
      refine .parted (k := (k : Int)) ht ?_
      rw [if_pos rfl] at h
      rintro ⟨h3, h4⟩
      rw [if_pos (by omega), List.getElem?_eq_none_iff] at h
      omega
    · refine .joined (j := (j : Int)) (k := (k : Int)) ht (by omega) ?_
      rw [if_neg hj] at h
      rintro ⟨h1, h3, h4, h5⟩
      rw [if_pos (by omega), List.getElem?_eq_none_iff] at h
      rw [show ((j : Int)).toNat = j by omega] at h5
      omega
def spOutcomeNo (Ce : Addr) : Sp := fun vs H _ E => ∃ (R t : Addr) (n : Nat) (vr : List V) (ah : Lps) (loop : List Nat), vs = [.ref R, .ref t, .int (n : Int)] ∧ H R = some (.lst vr) ∧ LpsAt H vr (ah ++ [loop]) ∧ NoOut H t ah loop ∧ ∀ H', Same H H' → E (.ref Ce) none H'
structure UseX (P : Program) (w : World) (K : PySem.W.Frag) (mg : Str → Option Value) (base : Heap) (n : Nat) (x : Str) (ps : List Str) (sp : Sp) (f : Addr) (fd : FuncData) : Prop where
  g : FnOk P w K mg base (CX1 P w) n f fd ps sp
  b : Binds K fd ps []
  m : mg x = some (.ref f)
  k : PySem.W.keepIn K (.ref f) = true
section
variable {P : Program} {w : World} {K : PySem.W.Frag} {mg : Str → Option Value} {base : Heap}
theorem no_outcome {f f2 f3 f4 f5 f6 Ce : Addr} {fd d2 d3 d4 d5 d6 : FuncData} (U : Fun K "outcome" "outcome" sOutcome f fd)
    (G2 : UseX P w K mg base 1 "gone_right" ["ahead", "loop"] (spRightNo Ce) f2 d2) (G3 : UseX P w K mg base 1 "gone_left" ["ahead", "loop"] (spRightNo Ce) f3 d3)
    (G4 : UseX P w K mg base 1 "loop_ended" ["ahead", "loop"] (spEndedNo Ce) f4 d4) (G5 : UseX P w K mg base 1 "loop_parted" ["ahead", "loop", "k"] (spPartedNo Ce) f5 d5) (G6 : UseX P w K mg base 1 "loops_joined" ["ahead", "loop", "j", "k"] (spJoinedNo Ce) f6 d6) :
    FnOk P w K mg base (CX1 P w) 2 f fd ["rows", "letter", "fresh"] (spOutcomeNo Ce) := by
  refine U.ok1 scOutcome (fun vs H Q E h => ?_) (fun cdv A outer s H vs Q E hr h => ?_)
  · obtain ⟨R, t, n, vr, ah, loop, rfl, _⟩ := h
    rfl
  · obtain ⟨R, t, n, vr, ah, loop, rfl, hR, hp, hno, q⟩ := h
    refine ⟨_, pss_cons (ps_set (i := 3) scOutcome.nd rfl (Or.inl rfl) (pe_slice sl_list (pv 0) po_none (po_some (pe_un un_neg pe_int))))
      (pss_cons (ps_set (i := 4) scOutcome.nd rfl (Or.inl rfl) (pe_ix ix_list (pv 0) (pe_un un_neg pe_int) (fun _ _ => rfl)))
      (pss_cons (ps_if (pt_cmpR op_eq (pe_ix ix_tup (pv 1) pe_int (fun _ _ => rfl)) pe_str (nomark _)) pss_never pss_nil)
      (pss_cons (ps_if (pt_cmpR op_eq (pe_ix ix_tup (pv 1) pe_int (fun _ _ => rfl)) pe_str (nomark _)) (pss_one (ps_ret (pe_call G2.g hr rfl G2.m G2.k G2.b .nil pass1 (pa_cons (pv 3) (pa_cons (pv 4) pa_nil))))) pss_nil)
      (pss_cons (ps_if (pt_cmpR op_eq (pe_ix ix_tup (pv 1) pe_int (fun _ _ => rfl)) pe_str (nomark _)) (pss_one (ps_ret (pe_call G3.g hr rfl G3.m G3.k G3.b .nil pass1 (pa_cons (pv 3) (pa_cons (pv 4) pa_nil))))) pss_nil)
      (pss_cons (ps_if (pt_cmpR op_eq (pe_ix ix_tup (pv 1) pe_int (fun _ _ => rfl)) pe_str (nomark _)) (pss_one (ps_ret (pe_call G4.g hr rfl G4.m G4.k G4.b .nil pass1 (pa_cons (pv 3) (pa_cons (pv 4) pa_nil))))) pss_nil)
      (pss_cons (ps_asg (pv 1) (pg_tup rfl (pgs_cons (pg_name (i := 5) scOutcome.nd rfl (Or.inl rfl)) (pgs_cons (pg_name (i := 6) scOutcome.nd rfl (Or.inl rfl)) (pgs_cons (pg_name (i := 7) scOutcome.nd rfl (Or.inl rfl)) pgs_nil)))))
      (pss_cons (ps_if (pt_cmpR op_eq (pv 6) pe_int (nomark _)) (pss_one (ps_ret (pe_call G5.g hr rfl G5.m G5.k G5.b .nil pass1 (pa_cons (pv 3) (pa_cons (pv 4) (pa_cons (pv 7) pa_nil)))))) pss_nil)
      (pss_one (ps_ret (pe_call G6.g hr rfl G6.m G6.k G6.b .nil pass1 (pa_cons (pv 3) (pa_cons (pv 4) (pa_cons (pv 6) (pa_cons (pv 7) pa_nil)))))))))))))), ?_⟩
    obtain ⟨va, v, rfl, hpa, L, rfl, hL⟩ := pr_snoc hp
    refine ⟨_, rfl, _, rfl, _, rfl, R, _, rfl, SqL.of hR, fun p1 g1 => ?_⟩
    rw [cV_last, List.dropLast_concat]
    (generalize hNX : upd H p1 _ = H1; have s1 := same_of g1 hNX; have y1 := at_of hNX; clear hNX)
    refine ⟨_, rfl, _, rfl, R, _, _, _, rfl, rfl, SqL.of (s1 _ _ hR), atI_m1 (x := V.ref L) (by simp), ?_⟩
    have hL1 := s1 _ _ hL
    have hpa1 := LpsAt.same s1 hpa
    have done := q H1 s1
    have step : ∀ (c d : Nat) (S : Str) (r : List V), S = txt [d] → c ≠ d → decide (V.str (txt [c]) = V.str S) = false := fun c d S r e h => by rw [e, decT]; exact decide_eq_false h
    have hit : ∀ (c : Nat) (S : Str), S = txt [c] → decide (V.str (txt [c]) = V.str S) = true := fun c S e => by rw [e]; exact decide_eq_true rfl
    cases hno.same s1 with
    | right e h =>
      refine ⟨_, rfl, t, _, _, _, rfl, rfl, SqT.of e, atI0 _ _, rfl, _, rfl, ?_⟩
      rw [step 82 67 _ [] sC (by decide)]
      refine iteF ⟨_, rfl, t, _, _, _, rfl, rfl, SqT.of e, atI0 _ _, rfl, _, rfl, ?_⟩
      rw [hit 82 _ sR]
      exact iteT ⟨_, rfl, _, rfl, p1, L, loop, rfl, hL1, h, done⟩
    | left e h =>
      refine ⟨_, rfl, t, _, _, _, rfl, rfl, SqT.of e, atI0 _ _, rfl, _, rfl, ?_⟩
      rw [step 76 67 _ [] sC (by decide)]
      refine iteF ⟨_, rfl, t, _, _, _, rfl, rfl, SqT.of e, atI0 _ _, rfl, _, rfl, ?_⟩
      rw [step 76 82 _ [] sR (by decide)]
      refine iteF ⟨_, rfl, t, _, _, _, rfl, rfl, SqT.of e, atI0 _ _, rfl, _, rfl, ?_⟩
      rw [hit 76 _ sL]
      exact iteT ⟨_, rfl, _, rfl, p1, L, loop, rfl, hL1, h, done⟩
    | ended e h =>
      refine ⟨_, rfl, t, _, _, _, rfl, rfl, SqT.of e, atI0 _ _, rfl, _, rfl, ?_⟩
      rw [step 69 67 _ [] sC (by decide)]
      refine iteF ⟨_, rfl, t, _, _, _, rfl, rfl, SqT.of e, atI0 _ _, rfl, _, rfl, ?_⟩
      rw [step 69 82 _ [] sR (by decide)]
      refine iteF ⟨_, rfl, t, _, _, _, rfl, rfl, SqT.of e, atI0 _ _, rfl, _, rfl, ?_⟩
      rw [step 69 76 _ [] sL (by decide)]
      refine iteF ⟨_, rfl, t, _, _, _, rfl, rfl, SqT.of e, atI0 _ _, rfl, _, rfl, ?_⟩
      rw [hit 69 _ sE]
      exact iteT ⟨_, rfl, _, rfl, p1, L, loop, rfl, hL1, h, done⟩
    | @parted k e h =>
      refine ⟨_, rfl, t, _, _, _, rfl, rfl, SqT.of e, atI0 _ _, rfl, _, rfl, ?_⟩
      rw [step 83 67 _ [] sC (by decide)]
      refine iteF ⟨_, rfl, t, _, _, _, rfl, rfl, SqT.of e, atI0 _ _, rfl, _, rfl, ?_⟩
      rw [step 83 82 _ [] sR (by decide)]
      refine iteF ⟨_, rfl, t, _, _, _, rfl, rfl, SqT.of e, atI0 _ _, rfl, _, rfl, ?_⟩
      rw [step 83 76 _ [] sL (by decide)]
      refine iteF ⟨_, rfl, t, _, _, _, rfl, rfl, SqT.of e, atI0 _ _, rfl, _, rfl, ?_⟩
      rw [step 83 69 _ [] sE (by decide)]
      refine iteF ⟨_, rfl, t, _, rfl, SqT.of e, rfl, _, _, rfl, _, _, rfl, _, _, rfl, rfl, _, rfl, rfl, _, rfl, ?_⟩
      rw [decI, decide_eq_true rfl]
      exact iteT ⟨_, rfl, _, rfl, _, rfl, p1, L, loop, k, rfl, hL1, h, done⟩
    | @joined j k e hj h =>
      refine ⟨_, rfl, t, _, _, _, rfl, rfl, SqT.of e, atI0 _ _, rfl, _, rfl, ?_⟩
      rw [step 83 67 _ [] sC (by decide)]
      refine iteF ⟨_, rfl, t, _, _, _, rfl, rfl, SqT.of e, atI0 _ _, rfl, _, rfl, ?_⟩
      rw [step 83 82 _ [] sR (by decide)]
      refine iteF ⟨_, rfl, t, _, _, _, rfl, rfl, SqT.of e, atI0 _ _, rfl, _, rfl, ?_⟩
      rw [step 83 76 _ [] sL (by decide)]
      refine iteF ⟨_, rfl, t, _, _, _, rfl, rfl, SqT.of e, atI0 _ _, rfl, _, rfl, ?_⟩
      rw [step 83 69 _ [] sE (by decide)]
      refine iteF ⟨_, rfl, t, _, rfl, SqT.of e, rfl, _, _, rfl, _, _, rfl, _, _, rfl, rfl, _, rfl, rfl, _, rfl, ?_⟩
      rw [decI, decide_eq_false hj]
      exact iteF ⟨_, rfl, _, rfl, _, rfl, _, rfl, p1, L, va, ah, j, k, rfl, y1, hpa1, h, done⟩
end
end K31
end
section
set_option Elab.async false
set_option linter.all false
set_option maxRecDepth 100000
set_option maxHeartbeats 4000000
namespace K31
open PySem L2 K51
def Stands (c : Nat) (loop : List Nat) (f : Fr) (x : Nat) : Prop := x = g1 loop ∨ x = g2 loop ∨ ∃ s ∈ asked c (g1 loop) (g2 loop) x, s ∈ wl f.ls ∨ s ∈ tl f.ts
def spLookNo (C Ce : Addr) : Sp := fun vs H _ E => ∃ (F R M D W dx : Addr) (vr vm : List V) (f : Fr) (ah : Lps) (loop : List Nat) (c x : Nat), vs = [.ref F, .str (txt [c]), .int (x : Int)] ∧ FAt C H F R M D W dx vr vm f ∧ Ok f ∧ f.ts.length ≤ 300 ∧ f.ls = ah ++ [loop] ∧
  x < 10000 ∧ Stands c loop f x ∧ ∀ H', Same H H' → E (.ref Ce) none H'
theorem stands_two {c x : Nat} {loop : List Nat} {f : Fr} (h : Stands c loop f x) (h1 : x ≠ g1 loop) (h2 : x ≠ g2 loop) :
    (¬ (c = 82 ∨ c = 69) ∧ ([(g2 loop, x), (x, g2 loop)].any fun s => decide (s ∈ tl f.ts) || decide (s ∈ wl f.ls)) = true) ∨ (¬ (c = 76 ∨ c = 69) ∧ ([(x, g1 loop), (g1 loop, x)].any fun s => decide (s ∈ tl f.ts) || decide (s ∈ wl f.ls)) = true) := by
  rcases h with h | h | ⟨s, hs, hk⟩
  · exact (h1 h).elim
  · exact (h2 h).elim
  · have k : (decide (s ∈ tl f.ts) || decide (s ∈ wl f.ls)) = true := by
      rcases hk with z | z
      · rw [decide_eq_true z, Bool.or_true]
      · rw [decide_eq_true z, Bool.true_or]
    unfold asked at hs
    rcases List.mem_append.mp hs with z | z
    · left
      by_cases hc : c = 82 ∨ c = 69
      · rw [if_pos hc] at z; cases z
      · rw [if_neg hc] at z
        exact ⟨hc, List.any_eq_true.mpr ⟨s, z, k⟩⟩
    · right
      by_cases hc : c = 76 ∨ c = 69
      · rw [if_pos hc] at z; cases z
      · rw [if_neg hc] at z
        exact ⟨hc, List.any_eq_true.mpr ⟨s, z, k⟩⟩
theorem num_len {n : Nat} (h : n < 10000) : ((toString ((n : Nat) : Int) : String) : Str).length ≤ 4 := by
  rw [str_nat, txt_len]
  exact digits_len 3 n (by omega)
section
variable {P : Program} {w : World} {K : PySem.W.Frag} {mg : Str → Option Value} {base : Heap}
theorem no_look {f f1 f2 C Ce : Addr} {fd d1 d2 : FuncData} (U : Fun K "look_sides_through" "Front.look_sides_through" sLook f fd) (X : FCls K C) (Z : NoL K mg Ce) (G1 : UseM P w K mg base C 1 "gate" ["self"] (spGate C) f1 d1) (G2 : UseM P w K mg base C 1 "is_known" ["self", "p", "q"] (spKnown C) f2 d2) :
    FnOk P w K mg base (CX1 P w) 2 f fd ["self", "sign", "x"] (spLookNo C Ce) := by
  refine U.ok1 scLook (fun vs H Q E h => ?_) (fun cdv A outer s H vs Q E hr h => ?_)
  · obtain ⟨F, R, M, D, W, dx, vr, vm, g, ah, loop, c, x, rfl, _⟩ := h
    rfl
  · obtain ⟨F, R, M, D, W, dx, vr, vm, g, ah, loop, c, x, rfl, T, ok, hts, el, hxs, hst, q⟩ := h
    refine ⟨_, pss_cons (ps_asg (pe_meth0 (pv 0) X.cl G1.m G1.g hr G1.b .nil pass0) (pg_tup rfl (pgs_cons (pg_name (i := 3) scLook.nd rfl (Or.inl rfl)) (pgs_cons (pg_name (i := 4) scLook.nd rfl (Or.inl rfl)) pgs_nil))))
      (pss_cons (ps_if (PW.pt (pw_or (pt_cmpR op_eq (pv 2) (pv 3) (nomark _)) (pw_or1 (pt_cmpR op_eq (pv 2) (pv 4) (nomark _))))) (pss_one (ps_raise lets1 rfl rfl rfl Z.m Z.x (pa_cons pe_str pa_nil))) pss_nil)
      (pss_cons (ps_if (PW.pt (pw_and (pt_cmpR op_notIn_seq (pv 1) (pe_tup (pa_cons pe_str (pa_cons pe_str pa_nil))) rfl) (pw_and1 (pt_val (pe_meth (pv 0) X.cl G2.m G2.g hr G2.b .nil pass0 (pa_cons (pv 4) (pa_cons (pv 2) pa_nil))))))) (pss_one (ps_raise lets1 rfl rfl rfl Z.m Z.x (pa_cons (pe_fstr (pj_cons pe_str (pj_cons (pe_fmt (pv 4)) (pj_cons pe_str (pj_cons (pe_fmt (pv 2)) (pj_cons pe_str pj_nil)))))) pa_nil))) pss_nil)
      (pss_one (ps_if (PW.pt (pw_and (pt_cmpR op_notIn_seq (pv 1) (pe_tup (pa_cons pe_str (pa_cons pe_str pa_nil))) rfl) (pw_and1 (pt_val (pe_meth (pv 0) X.cl G2.m G2.g hr G2.b .nil pass0 (pa_cons (pv 2) (pa_cons (pv 3) pa_nil))))))) (pss_one (ps_raise lets1 rfl rfl rfl Z.m Z.x (pa_cons (pe_fstr (pj_cons pe_str (pj_cons (pe_fmt (pv 2)) (pj_cons pe_str (pj_cons (pe_fmt (pv 3)) (pj_cons pe_str pj_nil)))))) pa_nil))) pss_nil)))), ?_⟩
    have hline := line5000
    have small := ok_small ok hts
    have hlm : loop ∈ g.ls := by rw [el]; simp
    have gg := get_g1 (ok.two loop hlm)
    have hg1 : g1 loop < 10000 := small.1 loop hlm _ (List.mem_of_getElem? gg.1)
    have hg2 : g2 loop < 10000 := small.1 loop hlm _ (List.mem_of_getElem? gg.2)
    have c0 : (Str.ofString "there is a side of ").length = 19 := by decide +kernel
    have c1 : (Str.ofString " and ").length = 5 := by decide +kernel
    have c2 : (Str.ofString " already").length = 8 := by decide +kernel
    have ce : Str.empty.length = 0 := rfl
    have lx := num_len hxs
    have l1 := num_len hg1
    have l2 := num_len hg2
    have gx : ((x : Nat) : Int).natAbs.log2 < 1920 := small_log (Nat.lt_trans hxs (by decide))
    have gg1 : ((g1 loop : Nat) : Int).natAbs.log2 < 1920 := small_log (Nat.lt_trans hg1 (by decide))
    have gg2 : ((g2 loop : Nat) : Int).natAbs.log2 < 1920 := small_log (Nat.lt_trans hg2 (by decide))
    refine ⟨_, rfl, F, dx, _, rfl, T.o, rfl, F, R, M, D, W, dx, vr, vm, g, rfl, T, ok, (fun z => by rw [z] at el; simp at el), fun ah' loop' el' t H1 ht s1 y1 => ?_⟩
    have : ah' = ah ∧ loop' = loop := by
      rw [el] at el'
      have := List.append_inj' el' rfl
      exact ⟨this.1.symm, by simpa using this.2.symm⟩
    obtain ⟨rfl, rfl⟩ := this
    refine ⟨t, _, rfl, SqT.of y1, rfl, _, _, rfl, _, _, rfl, rfl, ?_⟩
    refine ⟨_, rfl, _, rfl, rfl, _, rfl, ?_⟩
    rw [decI]
    by_cases hx1 : x = g1 loop'
    · rw [decide_eq_true (by omega)]
      exact iteT (iteT ⟨lit1, q H1 s1⟩)
    rw [decide_eq_false (by omega)]
    refine iteF ?_
    refine ⟨_, rfl, _, rfl, rfl, _, rfl, ?_⟩
    rw [decI]
    by_cases hx2 : x = g2 loop'
    · rw [decide_eq_true (by omega)]
      exact iteT ⟨lit1, q H1 s1⟩
    rw [decide_eq_false (by omega)]
    refine iteF ?_
    have two := stands_two hst hx1 hx2
    refine ⟨_, rfl, lit2, fun t2 h2 => ?_⟩
    (generalize hNX : upd H1 t2 _ = H2; have s2 := same_of h2 hNX; have y2 := at_of hNX; clear hNX)
    refine ⟨t2, _, rfl, .inr (SqT.of y2), rfl, rfl, _, rfl, ?_⟩
    rw [show (Str.ofString "R") = txt [82] from sR, show (Str.ofString "E") = txt [69] from sE, if_pos rfl, inV_two]
    have T2 := (T.same s1).same s2
    have last : ∀ H3, Same H H3 → (¬ (c = 76 ∨ c = 69) ∧ ([(x, g1 loop'), (g1 loop', x)].any fun s => decide (s ∈ tl g.ts) || decide (s ∈ wl g.ls)) = true) → True := fun _ _ _ => trivial
    by_cases h1 : c = 82 ∨ c = 69
    · have two := two.resolve_left fun z => z.1 h1
      rw [decide_eq_true h1]
      refine iteF (iteF ?_)
      have t3 := s1.trans s2
      refine ⟨_, rfl, lit2, fun t4 h4 => ?_⟩
      (generalize hNX : upd H2 t4 _ = H4; have s4 := same_of h4 hNX; have y4 := at_of hNX; clear hNX)
      have T4 := T2.same s4
      refine ⟨t4, _, rfl, .inr (SqT.of y4), rfl, rfl, _, rfl, ?_⟩
      rw [show (Str.ofString "L") = txt [76] from sL, if_pos rfl, inV_two, decide_eq_false two.1]
      refine iteT ?_
      refine ⟨_, rfl, F, dx, _, rfl, T4.o, rfl, _, rfl, _, rfl, F, R, M, D, W, dx, vr, vm, g, x, g1 loop', rfl, T4, fun H5 s5 => ⟨_, rfl, ?_⟩⟩
      rw [two.2]
      refine iteT ⟨_, rfl, ?_, _, rfl, _, .inr ⟨_, rfl, gx, rfl⟩, _, rfl, ?_, _, rfl, ?_, _, rfl, _, .inr ⟨_, rfl, gg1, rfl⟩, _, rfl, ?_, _, rfl, ?_, ?_, lit1, q H5 ((t3.trans s4).trans s5)⟩
      all_goals (simp only [PySem.Str.length_append, c0, c1, c2, ce]; omega)
    · rw [decide_eq_false h1]
      refine iteT ?_
      refine ⟨_, rfl, F, dx, _, rfl, T2.o, rfl, _, rfl, _, rfl, F, R, M, D, W, dx, vr, vm, g, g2 loop', x, rfl, T2, fun H3 s3 => ⟨_, rfl, ?_⟩⟩
      have t3 := (s1.trans s2).trans s3
      cases hb : ([(g2 loop', x), (x, g2 loop')].any fun s => decide (s ∈ tl g.ts) || decide (s ∈ wl g.ls)) with
      | true =>
        refine iteT ⟨_, rfl, ?_, _, rfl, _, .inr ⟨_, rfl, gg2, rfl⟩, _, rfl, ?_, _, rfl, ?_, _, rfl, _, .inr ⟨_, rfl, gx, rfl⟩, _, rfl, ?_, _, rfl, ?_, ?_, lit1, q H3 t3⟩
        all_goals (simp only [PySem.Str.length_append, c0, c1, c2, ce]; omega)
      | false =>
        have two := two.resolve_left fun z => by rw [hb] at z; cases z.2
        refine iteF ?_
        have T3 := T2.same s3
        refine ⟨_, rfl, lit2, fun t4 h4 => ?_⟩
        (generalize hNX : upd H3 t4 _ = H4; have s4 := same_of h4 hNX; have y4 := at_of hNX; clear hNX)
        have T4 := T3.same s4
        refine ⟨t4, _, rfl, .inr (SqT.of y4), rfl, rfl, _, rfl, ?_⟩
        rw [show (Str.ofString "L") = txt [76] from sL, if_pos rfl, inV_two, decide_eq_false two.1]
        refine iteT ?_
        refine ⟨_, rfl, F, dx, _, rfl, T4.o, rfl, _, rfl, _, rfl, F, R, M, D, W, dx, vr, vm, g, x, g1 loop', rfl, T4, fun H5 s5 => ⟨_, rfl, ?_⟩⟩
        rw [two.2]
        refine iteT ⟨_, rfl, ?_, _, rfl, _, .inr ⟨_, rfl, gx, rfl⟩, _, rfl, ?_, _, rfl, ?_, _, rfl, _, .inr ⟨_, rfl, gg1, rfl⟩, _, rfl, ?_, _, rfl, ?_, ?_, lit1, q H5 ((t3.trans s4).trans s5)⟩
        all_goals (simp only [PySem.Str.length_append, c0, c1, c2, ce]; omega)
end
end K31
end
section
set_option Elab.async false
set_option linter.all false
set_option maxRecDepth 100000
set_option maxHeartbeats 4000000
namespace K31
open PySem L2 K51
inductive Bad (H : Hp) (f : Fr) : V → Prop where
  | form {v : V} (h : IsL H v false) : Bad H f v
  | done {v : V} (h : IsL H v true) (e : f.ls = []) : Bad H f v
  | out {t : Addr} {ah : Lps} {loop : List Nat} (h : IsL H (.ref t) true) (e : f.ls = ah ++ [loop]) (no : NoOut H t ah loop) : Bad H f (.ref t)
  | look {t : Addr} {ah : Lps} {loop : List Nat} {a : Lt} {x : Nat} (ht : H t = some (.tup (ltV a))) (ha : Lets a) (e : f.ls = ah ++ [loop]) (hx : thirdOf ah loop a f.n = some x) (hs : Stands (sgn a) loop f x) : Bad H f (.ref t)
theorem Bad.same {H H' : Hp} {f : Fr} {v : V} (h : Bad H f v) (s : Same H H') : Bad H' f v := by
  cases h with
  | form h => exact .form (h.same s)
  | done h e => exact .done (h.same s) e
  | out h e no => exact .out (h.same s) e (no.same s)
  | look ht ha e hx hs => exact .look (s _ _ ht) ha e hx hs
theorem isL_lt {H : Hp} {t : Addr} {a : Lt} (ht : H t = some (.tup (ltV a))) (ha : Lets a) : IsL H (.ref t) true := by
  cases a with
  | sg c =>
    have h := IsL.one (H := H) (a := t) (s := txt [c]) ht
    rw [inV_crle, decide_eq_true (show c = 67 ∨ c = 82 ∨ c = 76 ∨ c = 69 from ha)] at h
    exact h
  | sp j k => exact IsL.two (H := H) (a := t) ht (.int _) (.int _)
theorem bad_of {H : Hp} {f : Fr} {t : Addr} {a : Lt} (ok : Ok f) (ht : H t = some (.tup (ltV a))) (ha : Lets a) (hc : f.can a = none) : Bad H f (.ref t) := by
  rcases List.eq_nil_or_concat f.ls with e | ⟨ah, loop, e⟩
  · exact .done (isL_lt ht ha) e
  · rw [List.concat_eq_append] at e
    have h2 : 2 ≤ loop.length := ok.two loop (by rw [e]; simp)
    obtain ⟨ls, ts, n⟩ := f
    dsimp only at e
    subst e
    rw [can_at] at hc
    unfold canAt at hc
    cases hx : thirdOf ah loop a n with
    | none => exact .out (isL_lt ht ha) rfl (third_none ht ha hx h2)
    | some x =>
      rw [hx] at hc
      simp only [Option.bind_some] at hc
      refine .look ht ha rfl hx ?_
      by_cases h1 : x = g1 loop ∨ x = g2 loop
      · exact h1.elim .inl fun z => .inr (.inl z)
      · rw [if_neg h1] at hc
        by_cases h3 : ((asked (sgn a) (g1 loop) (g2 loop) x).any fun s => decide (s ∈ wl (ah ++ [loop])) || decide (s ∈ tl ts)) = true
        · obtain ⟨s, hs, hk⟩ := List.any_eq_true.mp h3
          refine .inr (.inr ⟨s, hs, ?_⟩)
          rw [Bool.or_eq_true, decide_eq_true_eq, decide_eq_true_eq] at hk
          exact hk
        · rw [if_neg h3] at hc; cases hc
theorem bad_neg {H : Hp} {f : Fr} {t : Addr} {j k : Int} (ht : H t = some (.tup [.str (txt [83]), .int j, .int k])) (h : j < 0 ∨ j = 0 ∧ k < 0) : Bad H f (.ref t) := by
  have il : IsL H (.ref t) true := IsL.two (H := H) (a := t) ht (.int _) (.int _)
  rcases List.eq_nil_or_concat f.ls with e | ⟨ah, loop, e⟩
  · exact .done il e
  · rw [List.concat_eq_append] at e
    refine .out il e ?_
    rcases h with h | ⟨rfl, h⟩
    · exact .joined ht (by omega) (by omega)
    · exact .parted ht (by omega)
theorem third_small {f : Fr} {ah : Lps} {loop : List Nat} {a : Lt} {x : Nat} (ok : Ok f) (h : f.ts.length ≤ 300) (e : f.ls = ah ++ [loop]) (hx : thirdOf ah loop a f.n = some x) : x < 10000 := by
  have sm := ok_small ok h
  have inl : ∀ l ∈ ah ++ [loop], ∀ c ∈ l, c < 10000 := by rw [← e]; exact sm.1
  cases a with
  | sg c =>
    simp only [thirdOf] at hx
    split at hx
    · cases hx; exact sm.2.2
    · split at hx
      · split at hx
        · exact inl loop (by simp) x (List.mem_of_getElem? hx)
        · exact inl loop (by simp) x (List.mem_of_getElem? hx)
      · cases hx
  | sp j k =>
    simp only [thirdOf] at hx
    split at hx
    · split at hx
      · exact inl loop (by simp) x (List.mem_of_getElem? hx)
      · cases hx
    · split at hx
      · have hm := List.mem_of_getElem? hx
        rename_i h1 h2
        have hlt : ah.length - j < ah.length := by omega
        have : ah.getD (ah.length - j) [] ∈ ah := by
          simp only [List.getD, List.getElem?_eq_getElem hlt, Option.getD_some]
          exact List.getElem_mem hlt
        exact inl _ (List.mem_append_left _ this) x hm
      · cases hx
def spOutEither (Ce : Addr) : Sp := fun vs H Q E => spOutcome vs H Q E ∨ spOutcomeNo Ce vs H Q E
theorem FnOk.or {P : Program} {w : World} {K : PySem.W.Frag} {mg : Str → Option Value} {base : Heap} {CX : CXT} {k : Nat} {f : Addr} {fd : FuncData} {ps : List Str} {sp sp' : Sp} (F : FnOk P w K mg base CX k f fd ps sp) (F' : FnOk P w K mg base CX k f fd ps sp') :
    FnOk P w K mg base CX k f fd ps (fun vs H Q E => sp vs H Q E ∨ sp' vs H Q E) :=
  ⟨fun vs H Q E q => q.elim (F.len vs H Q E) (F'.len vs H Q E), fun A outer s H args us vs Q E hr he hb hv hs => hs.elim (F.run A outer s H args us vs Q E hr he hb hv) (F'.run A outer s H args us vs Q E hr he hb hv)⟩
def spPutNo (C Ce : Addr) : Sp := fun vs H _ E => ∃ (F R M D W dx : Addr) (vr vm : List V) (f : Fr) (v : V), vs = [.ref F, v] ∧ FAt C H F R M D W dx vr vm f ∧ Ok f ∧ f.ts.length ≤ 300 ∧ Bad H f v ∧ ∀ H', Same H H' → E (.ref Ce) none H'
structure UseY (P : Program) (w : World) (K : PySem.W.Frag) (mg : Str → Option Value) (base : Heap) (C : Addr) (n : Nat) (x : Str) (ps : List Str) (sp : Sp) (f : Addr) (fd : FuncData) : Prop where
  g : FnOk P w K mg base (CX1 P w) n f fd ps sp
  b : Binds K fd ps []
  m : Meth K C x f
section
variable {P : Program} {w : World} {K : PySem.W.Frag} {mg : Str → Option Value} {base : Heap}
theorem no_put {f f1 f2 f3 C Ce : Addr} {fd d1 d2 d3 : FuncData} (U : Fun K "put" "Front.put" sPut f fd) (X : FCls K C) (Z : NoL K mg Ce)
    (G1 : Use P w K mg base 2 "is_letter" ["thing"] spIsL f1 d1) (G2 : UseX P w K mg base 2 "outcome" ["rows", "letter", "fresh"] (spOutEither Ce) f2 d2) (G3 : UseY P w K mg base C 2 "look_sides_through" ["self", "sign", "x"] (spLookNo C Ce) f3 d3) :
    FnOk P w K mg base (CX1 P w) 3 f fd ["self", "letter"] (spPutNo C Ce) := by
  refine U.ok1 scPut (fun vs H Q E h => ?_) (fun cdv A outer s H vs Q E hr h => ?_)
  · obtain ⟨F, R, M, D, W, dx, vr, vm, g, v, rfl, _⟩ := h
    rfl
  · obtain ⟨F, R, M, D, W, dx, vr, vm, g, v, rfl, T, ok, hts, hbad, q⟩ := h
    refine ⟨_, pss_cons (ps_if (pt_not (pt_val (pe_call G1.g hr rfl G1.m G1.k G1.b .nil pass0 (pa_cons (pv 1) pa_nil)))) (pss_one (ps_raise lets1 rfl rfl rfl Z.m Z.x (pa_cons pe_str pa_nil))) pss_nil)
      (pss_cons (ps_if (pt_not (pt_truth (pe_fld (pv 0) rfl) (fun _ => rfl))) (pss_one (ps_raise lets1 rfl rfl rfl Z.m Z.x (pa_cons pe_str pa_nil))) pss_nil)
      (pss_cons (ps_asg (pe_call G2.g hr rfl G2.m G2.k G2.b .nil pass1 (pa_cons (pe_fld (pv 0) rfl) (pa_cons (pv 1) (pa_cons (pe_fld (pv 0) rfl) pa_nil)))) (pg_tup rfl (pgs_cons (pg_name (i := 2) scPut.nd rfl (Or.inl rfl)) (pgs_cons (pg_name (i := 3) scPut.nd rfl (Or.inl rfl)) pgs_nil))))
      (pss_cons (ps_expr (pe_meth (pv 0) X.cl G3.m G3.g hr G3.b .nil pass1 (pa_cons (pe_ix ix_tup (pv 1) pe_int (fun _ _ => rfl)) (pa_cons (pv 2) pa_nil)))) pss_never))), ?_⟩
    have hline := line5000
    have full : ∀ {ah : Lps} {loop : List Nat}, g.ls = ah ++ [loop] → (!(vr).isEmpty) = true := fun e => by
      have hpl := T.p
      rw [e] at hpl
      obtain ⟨va, v, ev, _⟩ := pr_snoc hpl
      rw [ev]; simp
    have hm := ok_many ok
    have he := ok_each ok
    cases hbad with
    | form h => exact ⟨_, rfl, _, _, rfl, h, fun H1 s1 => ⟨_, rfl, iteT ⟨lit1, q H1 s1⟩⟩⟩
    | done h e =>
      refine ⟨_, rfl, _, _, rfl, h, fun H1 s1 => ⟨_, rfl, iteF ?_⟩⟩
      have T1 := T.same s1
      refine ⟨_, rfl, F, C, dx, _, _, rfl, T1.o, X.cl, X.rows, rfl, _, .inl ⟨_, SqL.of T1.r, rfl⟩, ?_⟩
      have : vr = [] := List.length_eq_zero_iff.mp (by rw [pr_len T.p, e]; rfl)
      rw [this]
      exact iteT ⟨lit1, q H1 s1⟩
    | @out t ah loop h e no =>
      refine ⟨_, rfl, _, _, rfl, h, fun H1 s1 => ⟨_, rfl, iteF ?_⟩⟩
      have T1 := T.same s1
      refine ⟨_, rfl, F, C, dx, _, _, rfl, T1.o, X.cl, X.rows, rfl, _, .inl ⟨_, SqL.of T1.r, rfl⟩, ?_⟩
      rw [full e]
      refine iteF ?_
      exact ⟨_, rfl, F, C, dx, _, _, rfl, T1.o, X.cl, X.rows, rfl, _, rfl, _, rfl, F, C, dx, _, _, rfl, T1.o, X.cl, X.many, rfl, .inr ⟨R, t, g.n, vr, ah, loop, rfl, T1.r, by rw [← e]; exact T1.p, no.same s1, fun H2 s2 => q H2 (s1.trans s2)⟩⟩
    | @look t ah loop a x ht ha e hx hs =>
      refine ⟨_, rfl, _, _, rfl, isL_lt ht ha, fun H1 s1 => ⟨_, rfl, iteF ?_⟩⟩
      have T1 := T.same s1
      refine ⟨_, rfl, F, C, dx, _, _, rfl, T1.o, X.cl, X.rows, rfl, _, .inl ⟨_, SqL.of T1.r, rfl⟩, ?_⟩
      rw [full e]
      refine iteF ?_
      rw [e] at hm he
      rw [List.length_append, List.length_singleton] at hm
      refine ⟨_, rfl, F, C, dx, _, _, rfl, T1.o, X.cl, X.rows, rfl, _, rfl, _, rfl, F, C, dx, _, _, rfl, T1.o, X.cl, X.many, rfl, .inl ⟨R, t, g.n, vr, ah, loop, a, x, rfl, T1.r, by rw [← e]; exact T1.p, s1 _ _ ht, ha, by omega, fun l hl => Nat.le_trans (he l hl) (by omega), hx, fun t2 R' vr' H2 s2 hR' hn' e1 e2 e3 => ?_⟩⟩
      have q2 := s1.trans s2
      have T2 := T.same q2
      refine ⟨t2, _, rfl, SqT.of e1, rfl, _, _, rfl, _, _, rfl, rfl, ?_⟩
      have a0 : atI (ltV a) 0 = some (V.str (txt [sgn a])) := by rw [ltV_eq]; exact atI0 _ _
      exact ⟨_, rfl, F, dx, _, rfl, T2.o, rfl, _, rfl, t, _, _, _, rfl, rfl, SqT.of (q2 _ _ ht), a0, _, rfl, F, R, M, D, W, dx, vr, vm, g, ah, loop, sgn a, x, rfl, T2, ok, hts, e, third_small ok hts e hx, hs, fun H3 s3 => q H3 (q2.trans s3)⟩
end
end K31
end
section
set_option Elab.async false
set_option linter.all false
set_option maxRecDepth 100000
set_option maxHeartbeats 4000000
namespace K31
open PySem L2 K51
theorem boot_ve : bootBuiltins "ValueError" = some (.type "ValueError") := by decide +kernel
theorem hyTy {n : String} : ∀ u, RelV (V.ty n) u → u = Value.type n := fun _ r => r
theorem hyRef {a : Addr} : ∀ u, RelV (V.ref a) u → u = Value.ref a := fun _ r => r
structure Ex5 (K : PySem.W.Frag) (mg : Str → Option Value) (Ce S c1 c2 c3 c4 c5 : Addr) : Prop where
  x : ExcCls K Ce
  s : PySem.W.kitOne K (.ref Ce) (.ref S) = some true
  v : PySem.W.kitOne K (.ref Ce) (.type "ValueError") = some true
  ms : mg "ShapeError" = some (.ref S)
  m1 : mg "NoCode" = some (.ref c1)
  m2 : mg "NoDeed" = some (.ref c2)
  m3 : mg "NoSide" = some (.ref c3)
  m4 : mg "NoText" = some (.ref c4)
  m5 : mg "NoWord" = some (.ref c5)
  no : ∀ c ∈ [c1, c2, c3, c4, c5], PySem.W.exmOne K (.ref Ce) (.ref c) = some false
  cl : ∃ bm, clsIn K Ce = some bm ∧ bm.contains (.type "BaseException") = true
def spRefused (C : Addr) : Sp := fun vs H Q _ => ∃ (F R M D W dx : Addr) (vr vm : List V) (f : Fr) (v : V), vs = [.ref F, v] ∧ FAt C H F R M D W dx vr vm f ∧ Ok f ∧ f.ts.length ≤ 300 ∧ Bad H f v ∧ ∀ H', Same H H' → Q (.bl true) H'
section
variable {P : Program} {w : World} {K : PySem.W.Frag} {mg : Str → Option Value} {base : Heap}
theorem scRefused : FnScope ["_law_front", "_law_letter", "error"] ["_law_front", "_law_letter"] (defScope sRefused) := ⟨rfl, rfl, rfl, by decide +kernel, rfl, by decide +kernel, by decide +kernel⟩
theorem ok_refused {f f1 C Ce S c1 c2 c3 c4 c5 : Addr} {fd d1 : FuncData} (U : Fun K "_law_refused" "_law_refused" sRefused f fd) (T : TxtN mg) (X : FCls K C) (Z : NoL K mg Ce) (Y : Ex5 K mg Ce S c1 c2 c3 c4 c5)
    (GP : UseY P w K mg base C 3 "put" ["self", "letter"] (spPutNo C Ce) f1 d1) : FnOk P w K mg base CX0 4 f fd ["_law_front", "_law_letter"] (spRefused C) := by
  refine U.ok scRefused (fun vs H Q E h => ?_) (fun cdv A outer s H vs Q E hr h => ?_)
  · obtain ⟨F, R, M, D, W, dx, vr, vm, g, v, rfl, _⟩ := h
    rfl
  · obtain ⟨F, R, M, D, W, dx, vr, vm, g, v, rfl, F0, ok, hts, hbad, q⟩ := h
    obtain ⟨bm, hcl, hbm⟩ := Y.cl
    refine ⟨_, pss_cons (ps_try2 (i := 2) (cs := [c1, c2, c3, c4, c5]) ⟨rfl, rfl⟩ rfl scRefused.nd rfl rfl rfl Z.m hcl hbm
        (fun x pins σ H s I => args_cons I rfl Y.m1 (args_cons I rfl Y.m2 (args_cons I rfl Y.m3 (args_cons I rfl Y.m4 (args_cons I rfl Y.m5 args_nil))))) (by show 5 ≤ sizeLine; decide)
        (fun pins xe E hp hl => pss_one (ps_expr (pe_meth (pv 0) X.cl GP.m GP.g hr GP.b .nil hp (pa_cons (pv 1) pa_nil))))
        (fun x => pss_one (ps_ret (pe_and (pe_callB (call_isiX (hyRef (a := S))) (by rfl) T.isi PyProof.Rows.boot_isinstance (pa_cons (pv 2) (pa_cons (pe_glob (v := .ref S) rfl Y.ms rfl) pa_nil)))
          (pe_one (pe_callB (call_isiX (hyTy (n := "ValueError"))) (by rfl) T.isi PyProof.Rows.boot_isinstance (pa_cons (pv 2) (pa_cons (pe_bltn (v := .ty "ValueError") rfl T.ve boot_ve rfl) pa_nil)))))))) pss_never, ?_⟩
    refine ⟨fun cls d H' => cls = .ref Ce ∧ d = none ∧ Same H H', ?_, ?_⟩
    · exact ⟨_, rfl, F, dx, _, rfl, F0.o, rfl, _, rfl, F, R, M, D, W, dx, vr, vm, g, v, rfl, F0, ok, hts, hbad, fun H' s' => ⟨rfl, rfl, s'⟩⟩
    · rintro cls d H' ⟨rfl, rfl, s'⟩
      refine ⟨Ce, bm, rfl, hcl, by rw [List.contains_cons, beq_self_eq_true, Bool.true_or], Y.no, fun x H2 hx s2 => ?_⟩
      have e2 := s2 _ _ upd_same
      have sx : Same H H2 := fun b o e => s2 _ _ (by rw [upd_ne (ne_of_none (s' _ _ e) hx)]; exact s' _ _ e)
      exact ⟨_, rfl, x, Ce, true, rfl, e2, Y.x, Y.s, true, rfl, iteT ⟨_, rfl, x, Ce, true, rfl, e2, Y.x, Y.v, q H2 sx⟩⟩
end
end K31
end
section
set_option Elab.async false
set_option linter.all false
set_option maxRecDepth 100000
namespace L2
open PySem
theorem se_tup {es : List Expr} {k : Nat} {p : Pos} {rest : List Expr} {env : Env} : starEach (.Tuple es k p :: rest) env = (false, eval (.Tuple es k p) env) :: starEach rest env := by rfl
theorem se_lst {es : List Expr} {p : Pos} {rest : List Expr} {env : Env} : starEach (.List es p :: rest) env = (false, eval (.List es p) env) :: starEach rest env := by rfl
end L2
end
section
set_option Elab.async false
set_option linter.all false
set_option maxRecDepth 100000
set_option maxHeartbeats 4000000
namespace K31
open PySem L2 K51
theorem se_con {c : Const} {j : Nat} {p : Pos} {rest : List Expr} {env : Env} : starEach (.Constant c j p :: rest) env = (false, eval (.Constant c j p) env) :: starEach rest env := by rfl
theorem se_un {o : UnaryOp} {e : Expr} {p : Pos} {rest : List Expr} {env : Env} : starEach (.UnaryOp o e p :: rest) env = (false, eval (.UnaryOp o e p) env) :: starEach rest env := by rfl
theorem sw_lst {es : List Expr} {p : Pos} {t : Option Expr} {l : Nat} {env : Env} : swapsWith (.List es p) t l env = pure false := by rfl
theorem pa_con {X : Cx} {c : Const} {j : Nat} {rest : List Expr} {p : Pos} {te : TE} {t : TA} (ha : PE X (.Constant c j p) te) (hr : PA X rest t) : PA X (.Constant c j p :: rest) (tCons te t) := pa_cons ha hr (hs := se_con)
theorem pa_lst {X : Cx} {es rest : List Expr} {p : Pos} {te : TE} {t : TA} (ha : PE X (.List es p) te) (hr : PA X rest t) : PA X (.List es p :: rest) (tCons te t) := pa_cons ha hr (hs := se_lst)
theorem pa_tup {X : Cx} {es rest : List Expr} {k : Nat} {p : Pos} {te : TE} {t : TA} (ha : PE X (.Tuple es k p) te) (hr : PA X rest t) : PA X (.Tuple es k p :: rest) (tCons te t) := pa_cons ha hr (hs := se_tup)
theorem pa_un {X : Cx} {o : UnaryOp} {e : Expr} {rest : List Expr} {p : Pos} {te : TE} {t : TA} (ha : PE X (.UnaryOp o e p) te) (hr : PA X rest t) : PA X (.UnaryOp o e p :: rest) (tCons te t) := pa_cons ha hr (hs := se_un)
theorem ps_setG {X : Cx} {x : Str} {es : List Expr} {te : TE} {pos pos' p : Pos} {i : Nat} (hN : X.N.Nodup) (hi : X.N[i]? = some x) (hx : Loc X.env.scope x) (hf : X.fn x = true ∨ X.env.scope.names.lookup x = some .local) (he : PE X (.List es p) te) : PS X (.Assign [.Name x pos'] (.List es p) pos) (tAsg te (gName i)) := ps_set (i := i) hN hi hx he (hs := sw_lst) (hf := hf)
def Worse (H : Hp) (v : V) : Prop := ∀ f : Fr, Bad H f v
theorem one_no {H : Hp} {a : Addr} {s : Str} (e : H a = some (.tup [.str s])) (h : inV (.str s) crle = false) : IsL H (.ref a) false := h ▸ IsL.one e
theorem s83V {x y : V} : (some (HO.tup [.str (Str.ofString "S"), x, y])) = some (.tup [.str (txt [83]), x, y]) := by rw [show (Str.ofString "S") = txt [83] from s83]
@[irreducible] def xT1 : Expr := match (defBody sThings).getD 0 (.Pass ⟨0, 0, 0, 0⟩) with
  | .Assign _ e _ => e
  | _ => .List [] ⟨0, 0, 0, 0⟩
theorem xT1_eq : ∃ (p0 p1 p2 p3 p4 p5 p6 p7 p8 p9 p10 p11 p12 p13 p14 p15 p16 p17 p18 p19 p20 p21 p22 p23 p24 : Pos) (j0 j1 j2 j3 j4 j5 j6 j7 j8 j9 j10 j11 j12 j13 j14 j15 j16 j17 j18 j19 j20 j21 j22 : Nat), xT1 = .List [.Constant .none j0 p0, .Constant (.str "C") j1 p1, .Constant (.str "S0.3") j2 p2, .List [.Constant (.str "C") j3 p3] p4, .Tuple [] j4 p5, .Tuple [.Constant (.str "c") j5 p6] j6 p7, .Tuple [.Constant (.str "X") j7 p8] j8 p9, .Tuple [.Constant (.str "") j9 p10] j10 p11, .Tuple [.Constant (.int 0) j11 p12] j12 p13, .Tuple [.Constant .none j13 p14] j14 p15, .Tuple [.Constant (.str "CE") j15 p16] j16 p17, .Tuple [.Constant (.str "C") j17 p18, .Constant (.int 0) j18 p19] j19 p20, .Tuple [.Constant (.str "E") j20 p21, .Constant (.int 0) j21 p22] j22 p23] p24 := by
  unfold xT1
  exact ⟨_, _, _, _, _, _, _, _, _, _, _, _, _, _, _, _, _, _, _, _, _, _, _, _, _, _, _, _, _, _, _, _, _, _, _, _, _, _, _, _, _, _, _, _, _, _, _, _, rfl⟩
theorem pe_xT1 {X : Cx} : ∃ te, PE X xT1 te ∧ ∀ σ H Q, (∀ r xs H', H r = none → Same H H' → H' r = some (.lst xs) → (∀ v ∈ xs, ∀ H2, (∀ b o, b ≠ r → H' b = some o → H2 b = some o) → Worse H2 v) → xs.length ≤ 100 → Q (.ref r) H') → te σ H Q := by
  obtain ⟨p0, p1, p2, p3, p4, p5, p6, p7, p8, p9, p10, p11, p12, p13, p14, p15, p16, p17, p18, p19, p20, p21, p22, p23, p24, j0, j1, j2, j3, j4, j5, j6, j7, j8, j9, j10, j11, j12, j13, j14, j15, j16, j17, j18, j19, j20, j21, j22, e⟩ := xT1_eq
  rw [e]
  refine ⟨_, by with_reducible exact (pe_lst (pa_con pe_non (pa_con pe_str (pa_con pe_str (pa_lst (pe_lst (pa_con pe_str pa_nil)) (pa_tup (pe_tup pa_nil) (pa_tup (pe_tup (pa_con pe_str pa_nil)) (pa_tup (pe_tup (pa_con pe_str pa_nil)) (pa_tup (pe_tup (pa_con pe_str pa_nil)) (pa_tup (pe_tup (pa_con pe_int pa_nil)) (pa_tup (pe_tup (pa_con pe_non pa_nil)) (pa_tup (pe_tup (pa_con pe_str pa_nil)) (pa_tup (pe_tup (pa_con pe_str (pa_con pe_int pa_nil))) (pa_tup (pe_tup (pa_con pe_str (pa_con pe_int pa_nil))) pa_nil)))))))))))))), fun σ H Q q => ?_⟩
  refine ⟨(by show 1 ≤ sizeLine; decide), fun a1 g1 => ?_⟩
  (generalize hNX : upd H a1 _ = H1; have s1 := same_of g1 hNX; have y1 := at_of hNX; clear hNX)
  refine ⟨Nat.zero_le _, fun a2 g2 => ?_⟩
  (generalize hNX : upd H1 a2 _ = H2; have s2 := same_of g2 hNX; have y2 := at_of hNX; clear hNX)
  refine ⟨(by show 1 ≤ sizeLine; decide), fun a3 g3 => ?_⟩
  (generalize hNX : upd H2 a3 _ = H3; have s3 := same_of g3 hNX; have y3 := at_of hNX; clear hNX)
  refine ⟨(by show 1 ≤ sizeLine; decide), fun a4 g4 => ?_⟩
  (generalize hNX : upd H3 a4 _ = H4; have s4 := same_of g4 hNX; have y4 := at_of hNX; clear hNX)
  refine ⟨(by show 1 ≤ sizeLine; decide), fun a5 g5 => ?_⟩
  (generalize hNX : upd H4 a5 _ = H5; have s5 := same_of g5 hNX; have y5 := at_of hNX; clear hNX)
  refine ⟨(by show 1 ≤ sizeLine; decide), fun a6 g6 => ?_⟩
  (generalize hNX : upd H5 a6 _ = H6; have s6 := same_of g6 hNX; have y6 := at_of hNX; clear hNX)
  refine ⟨(by show 1 ≤ sizeLine; decide), fun a7 g7 => ?_⟩
  (generalize hNX : upd H6 a7 _ = H7; have s7 := same_of g7 hNX; have y7 := at_of hNX; clear hNX)
  refine ⟨(by show 1 ≤ sizeLine; decide), fun a8 g8 => ?_⟩
  (generalize hNX : upd H7 a8 _ = H8; have s8 := same_of g8 hNX; have y8 := at_of hNX; clear hNX)
  refine ⟨(by show 2 ≤ sizeLine; decide), fun a9 g9 => ?_⟩
  (generalize hNX : upd H8 a9 _ = H9; have s9 := same_of g9 hNX; have y9 := at_of hNX; clear hNX)
  refine ⟨(by show 2 ≤ sizeLine; decide), fun a10 g10 => ?_⟩
  (generalize hNX : upd H9 a10 _ = H10; have s10 := same_of g10 hNX; have y10 := at_of hNX; clear hNX)
  refine ⟨(by show 13 ≤ sizeLine; decide), fun a11 g11 => ?_⟩
  (generalize hNX : upd H10 a11 _ = H11; have s11 := same_of g11 hNX; have y11 := at_of hNX; clear hNX)
  refine q a11 _ H11 ((((((((((s1.trans s2).trans s3).trans s4).trans s5).trans s6).trans s7).trans s8).trans s9).trans s10).free g11) ((((((((((s1.trans s2).trans s3).trans s4).trans s5).trans s6).trans s7).trans s8).trans s9).trans s10).trans s11) y11 (fun v hv H2 k => ?_) (by show 13 ≤ 100; decide)
  have m : ∀ b o, H10 b = some o → H2 b = some o := fun b o e => k b o (ne_of_none e g11) (s11 _ _ e)
  simp only [List.mem_cons, List.not_mem_nil, or_false] at hv
  rcases hv with rfl | rfl | rfl | rfl | rfl | rfl | rfl | rfl | rfl | rfl | rfl | rfl | rfl
  · exact fun f => .form .non
  · exact fun f => .form (.str _)
  · exact fun f => .form (.str _)
  · exact fun f => .form (.lst (m _ _ (((((((((s2.trans s3).trans s4).trans s5).trans s6).trans s7).trans s8).trans s9).trans s10) _ _ y1)))
  · exact fun f => .form (.len (m _ _ ((((((((s3.trans s4).trans s5).trans s6).trans s7).trans s8).trans s9).trans s10) _ _ y2)) (by decide) (by decide))
  · exact fun f => .form (one_no (m _ _ (((((((s4.trans s5).trans s6).trans s7).trans s8).trans s9).trans s10) _ _ y3)) (by decide +kernel))
  · exact fun f => .form (one_no (m _ _ ((((((s5.trans s6).trans s7).trans s8).trans s9).trans s10) _ _ y4)) (by decide +kernel))
  · exact fun f => .form (one_no (m _ _ (((((s6.trans s7).trans s8).trans s9).trans s10) _ _ y5)) (by decide +kernel))
  · exact fun f => .form (.head (m _ _ ((((s7.trans s8).trans s9).trans s10) _ _ y6)) (.inl rfl) (.int _))
  · exact fun f => .form (.head (m _ _ (((s8.trans s9).trans s10) _ _ y7)) (.inl rfl) .non)
  · exact fun f => .form (one_no (m _ _ ((s9.trans s10) _ _ y8)) (by decide +kernel))
  · exact fun f => .form (.len (m _ _ (s10 _ _ y9)) (by decide) (by decide))
  · exact fun f => .form (.len (m _ _ y10) (by decide) (by decide))
@[irreducible] def xT3 : Expr := match (defBody sThings).getD 2 (.Pass ⟨0, 0, 0, 0⟩) with
  | .Assign _ (.BinOp _ _ e _) _ => e
  | _ => .List [] ⟨0, 0, 0, 0⟩
theorem xT3_eq : ∃ (p0 p1 p2 p3 p4 p5 p6 p7 p8 p9 p10 p11 p12 p13 p14 p15 p16 p17 p18 p19 p20 p21 p22 p23 p24 p25 p26 p27 : Pos) (j0 j1 j2 j3 j4 j5 j6 j7 j8 j9 j10 j11 j12 j13 j14 j15 j16 j17 j18 j19 j20 j21 j22 j23 j24 j25 : Nat), xT3 = .List [.Tuple [.Constant (.str "S") j0 p0] j1 p1, .Tuple [.Constant (.str "S") j2 p2, .Constant (.int 0) j3 p3] j4 p4, .Tuple [.Constant (.str "S") j5 p5, .Constant (.int 0) j6 p6, .Constant (.int 3) j7 p7, .Constant (.int 0) j8 p8] j9 p9, .Tuple [.Constant (.str "S") j10 p10, .Constant (.bool true) j11 p11, .Constant (.int 3) j12 p12] j13 p13, .Tuple [.Constant (.str "S") j14 p14, .Constant (.int 1) j15 p15, .Constant (.bool true) j16 p16] j17 p17, .Tuple [.Constant (.str "S") j18 p18, .Constant (.bool false) j19 p19, .Constant (.int 3) j20 p20] j21 p21, .Tuple [.Constant (.str "S") j22 p22, .UnaryOp .USub (.Constant (.int 1) j23 p23) p24, .Constant (.int 3) j24 p25] j25 p26] p27 := by
  unfold xT3
  exact ⟨_, _, _, _, _, _, _, _, _, _, _, _, _, _, _, _, _, _, _, _, _, _, _, _, _, _, _, _, _, _, _, _, _, _, _, _, _, _, _, _, _, _, _, _, _, _, _, _, _, _, _, _, _, _, rfl⟩
theorem pe_xT3 {X : Cx} : ∃ te, PE X xT3 te ∧ ∀ σ H Q, (∀ r xs H', H r = none → Same H H' → H' r = some (.lst xs) → (∀ v ∈ xs, ∀ H2, (∀ b o, b ≠ r → H' b = some o → H2 b = some o) → Worse H2 v) → xs.length ≤ 100 → Q (.ref r) H') → te σ H Q := by
  obtain ⟨p0, p1, p2, p3, p4, p5, p6, p7, p8, p9, p10, p11, p12, p13, p14, p15, p16, p17, p18, p19, p20, p21, p22, p23, p24, p25, p26, p27, j0, j1, j2, j3, j4, j5, j6, j7, j8, j9, j10, j11, j12, j13, j14, j15, j16, j17, j18, j19, j20, j21, j22, j23, j24, j25, e⟩ := xT3_eq
  rw [e]
  refine ⟨_, by with_reducible exact (pe_lst (pa_tup (pe_tup (pa_con pe_str pa_nil)) (pa_tup (pe_tup (pa_con pe_str (pa_con pe_int pa_nil))) (pa_tup (pe_tup (pa_con pe_str (pa_con pe_int (pa_con pe_int (pa_con pe_int pa_nil))))) (pa_tup (pe_tup (pa_con pe_str (pa_con pe_bl (pa_con pe_int pa_nil)))) (pa_tup (pe_tup (pa_con pe_str (pa_con pe_int (pa_con pe_bl pa_nil)))) (pa_tup (pe_tup (pa_con pe_str (pa_con pe_bl (pa_con pe_int pa_nil)))) (pa_tup (pe_tup (pa_con pe_str (pa_un (pe_un un_neg pe_int) (pa_con pe_int pa_nil)))) pa_nil)))))))), fun σ H Q q => ?_⟩
  refine ⟨(by show 1 ≤ sizeLine; decide), fun a1 g1 => ?_⟩
  (generalize hNX : upd H a1 _ = H1; have s1 := same_of g1 hNX; have y1 := at_of hNX; clear hNX)
  refine ⟨(by show 2 ≤ sizeLine; decide), fun a2 g2 => ?_⟩
  (generalize hNX : upd H1 a2 _ = H2; have s2 := same_of g2 hNX; have y2 := at_of hNX; clear hNX)
  refine ⟨(by show 4 ≤ sizeLine; decide), fun a3 g3 => ?_⟩
  (generalize hNX : upd H2 a3 _ = H3; have s3 := same_of g3 hNX; have y3 := at_of hNX; clear hNX)
  refine ⟨(by show 3 ≤ sizeLine; decide), fun a4 g4 => ?_⟩
  (generalize hNX : upd H3 a4 _ = H4; have s4 := same_of g4 hNX; have y4 := at_of hNX; clear hNX)
  refine ⟨(by show 3 ≤ sizeLine; decide), fun a5 g5 => ?_⟩
  (generalize hNX : upd H4 a5 _ = H5; have s5 := same_of g5 hNX; have y5 := at_of hNX; clear hNX)
  refine ⟨(by show 3 ≤ sizeLine; decide), fun a6 g6 => ?_⟩
  (generalize hNX : upd H5 a6 _ = H6; have s6 := same_of g6 hNX; have y6 := at_of hNX; clear hNX)
  refine ⟨_, rfl, ?_⟩
  refine ⟨(by show 3 ≤ sizeLine; decide), fun a7 g7 => ?_⟩
  (generalize hNX : upd H6 a7 _ = H7; have s7 := same_of g7 hNX; have y7 := at_of hNX; clear hNX)
  refine ⟨(by show 7 ≤ sizeLine; decide), fun a8 g8 => ?_⟩
  (generalize hNX : upd H7 a8 _ = H8; have s8 := same_of g8 hNX; have y8 := at_of hNX; clear hNX)
  refine q a8 _ H8 (((((((s1.trans s2).trans s3).trans s4).trans s5).trans s6).trans s7).free g8) (((((((s1.trans s2).trans s3).trans s4).trans s5).trans s6).trans s7).trans s8) y8 (fun v hv H2 k => ?_) (by show 7 ≤ 100; decide)
  have m : ∀ b o, H7 b = some o → H2 b = some o := fun b o e => k b o (ne_of_none e g8) (s8 _ _ e)
  simp only [List.mem_cons, List.not_mem_nil, or_false] at hv
  rcases hv with rfl | rfl | rfl | rfl | rfl | rfl | rfl
  · exact fun f => .form (one_no (m _ _ ((((((s2.trans s3).trans s4).trans s5).trans s6).trans s7) _ _ y1)) (by decide +kernel))
  · exact fun f => .form (.len (m _ _ (((((s3.trans s4).trans s5).trans s6).trans s7) _ _ y2)) (by decide) (by decide))
  · exact fun f => .form (.len (m _ _ ((((s4.trans s5).trans s6).trans s7) _ _ y3)) (by decide) (by decide))
  · exact fun f => .form (.two ((m _ _ (((s5.trans s6).trans s7) _ _ y4)).trans s83V) (.bl _) (.int _))
  · exact fun f => .form (.two ((m _ _ ((s6.trans s7) _ _ y5)).trans s83V) (.int _) (.bl _))
  · exact fun f => .form (.two ((m _ _ (s7 _ _ y6)).trans s83V) (.bl _) (.int _))
  · exact fun f => bad_neg ((m _ _ y7).trans s83V) (.inl (by decide))
@[irreducible] def xT4 : Expr := match (defBody sThings).getD 3 (.Pass ⟨0, 0, 0, 0⟩) with
  | .Return (some (.BinOp _ _ e _)) _ => e
  | _ => .List [] ⟨0, 0, 0, 0⟩
theorem xT4_eq : ∃ (p0 p1 p2 p3 p4 p5 p6 p7 p8 p9 p10 p11 p12 p13 p14 p15 p16 p17 p18 p19 p20 : Pos) (j0 j1 j2 j3 j4 j5 j6 j7 j8 j9 j10 j11 j12 j13 j14 j15 j16 : Nat), xT4 = .List [.Tuple [.Constant (.str "S") j0 p0, .Constant (.int 0) j1 p1, .UnaryOp .USub (.Constant (.int 1) j2 p2) p3] j3 p4, .Tuple [.Constant (.str "S") j4 p5, .Constant (.str "0") j5 p6, .Constant (.str "3") j6 p7] j7 p8, .Tuple [.List [.Constant (.str "C") j8 p9] p10] j9 p11, .Tuple [.Constant (.str "S") j10 p12, .List [.Constant (.int 0) j11 p13] p14, .Constant (.int 3) j12 p15] j13 p16, .Tuple [.Tuple [.Constant (.str "C") j14 p17] j15 p18] j16 p19] p20 := by
  unfold xT4
  exact ⟨_, _, _, _, _, _, _, _, _, _, _, _, _, _, _, _, _, _, _, _, _, _, _, _, _, _, _, _, _, _, _, _, _, _, _, _, _, _, rfl⟩
theorem pe_xT4 {X : Cx} : ∃ te, PE X xT4 te ∧ ∀ σ H Q, (∀ r xs H', H r = none → Same H H' → H' r = some (.lst xs) → (∀ v ∈ xs, ∀ H2, (∀ b o, b ≠ r → H' b = some o → H2 b = some o) → Worse H2 v) → xs.length ≤ 100 → Q (.ref r) H') → te σ H Q := by
  obtain ⟨p0, p1, p2, p3, p4, p5, p6, p7, p8, p9, p10, p11, p12, p13, p14, p15, p16, p17, p18, p19, p20, j0, j1, j2, j3, j4, j5, j6, j7, j8, j9, j10, j11, j12, j13, j14, j15, j16, e⟩ := xT4_eq
  rw [e]
  refine ⟨_, by with_reducible exact (pe_lst (pa_tup (pe_tup (pa_con pe_str (pa_con pe_int (pa_un (pe_un un_neg pe_int) pa_nil)))) (pa_tup (pe_tup (pa_con pe_str (pa_con pe_str (pa_con pe_str pa_nil)))) (pa_tup (pe_tup (pa_lst (pe_lst (pa_con pe_str pa_nil)) pa_nil)) (pa_tup (pe_tup (pa_con pe_str (pa_lst (pe_lst (pa_con pe_int pa_nil)) (pa_con pe_int pa_nil)))) (pa_tup (pe_tup (pa_tup (pe_tup (pa_con pe_str pa_nil)) pa_nil)) pa_nil)))))), fun σ H Q q => ?_⟩
  refine ⟨_, rfl, ?_⟩
  refine ⟨(by show 3 ≤ sizeLine; decide), fun a1 g1 => ?_⟩
  (generalize hNX : upd H a1 _ = H1; have s1 := same_of g1 hNX; have y1 := at_of hNX; clear hNX)
  refine ⟨(by show 3 ≤ sizeLine; decide), fun a2 g2 => ?_⟩
  (generalize hNX : upd H1 a2 _ = H2; have s2 := same_of g2 hNX; have y2 := at_of hNX; clear hNX)
  refine ⟨(by show 1 ≤ sizeLine; decide), fun a3 g3 => ?_⟩
  (generalize hNX : upd H2 a3 _ = H3; have s3 := same_of g3 hNX; have y3 := at_of hNX; clear hNX)
  refine ⟨(by show 1 ≤ sizeLine; decide), fun a4 g4 => ?_⟩
  (generalize hNX : upd H3 a4 _ = H4; have s4 := same_of g4 hNX; have y4 := at_of hNX; clear hNX)
  refine ⟨(by show 1 ≤ sizeLine; decide), fun a5 g5 => ?_⟩
  (generalize hNX : upd H4 a5 _ = H5; have s5 := same_of g5 hNX; have y5 := at_of hNX; clear hNX)
  refine ⟨(by show 3 ≤ sizeLine; decide), fun a6 g6 => ?_⟩
  (generalize hNX : upd H5 a6 _ = H6; have s6 := same_of g6 hNX; have y6 := at_of hNX; clear hNX)
  refine ⟨(by show 1 ≤ sizeLine; decide), fun a7 g7 => ?_⟩
  (generalize hNX : upd H6 a7 _ = H7; have s7 := same_of g7 hNX; have y7 := at_of hNX; clear hNX)
  refine ⟨(by show 1 ≤ sizeLine; decide), fun a8 g8 => ?_⟩
  (generalize hNX : upd H7 a8 _ = H8; have s8 := same_of g8 hNX; have y8 := at_of hNX; clear hNX)
  refine ⟨(by show 5 ≤ sizeLine; decide), fun a9 g9 => ?_⟩
  (generalize hNX : upd H8 a9 _ = H9; have s9 := same_of g9 hNX; have y9 := at_of hNX; clear hNX)
  refine q a9 _ H9 ((((((((s1.trans s2).trans s3).trans s4).trans s5).trans s6).trans s7).trans s8).free g9) ((((((((s1.trans s2).trans s3).trans s4).trans s5).trans s6).trans s7).trans s8).trans s9) y9 (fun v hv H2 k => ?_) (by show 5 ≤ 100; decide)
  have m : ∀ b o, H8 b = some o → H2 b = some o := fun b o e => k b o (ne_of_none e g9) (s9 _ _ e)
  simp only [List.mem_cons, List.not_mem_nil, or_false] at hv
  rcases hv with rfl | rfl | rfl | rfl | rfl
  · exact fun f => bad_neg ((m _ _ (((((((s2.trans s3).trans s4).trans s5).trans s6).trans s7).trans s8) _ _ y1)).trans s83V) (.inr ⟨rfl, by decide⟩)
  · exact fun f => .form (.two ((m _ _ ((((((s3.trans s4).trans s5).trans s6).trans s7).trans s8) _ _ y2)).trans s83V) (.str _) (.str _))
  · exact fun f => .form (.head (m _ _ ((((s5.trans s6).trans s7).trans s8) _ _ y4)) (.inl rfl) (.lst (m _ _ (((((s4.trans s5).trans s6).trans s7).trans s8) _ _ y3))))
  · exact fun f => .form (.two ((m _ _ ((s7.trans s8) _ _ y6)).trans s83V) (.lst (m _ _ (((s6.trans s7).trans s8) _ _ y5))) (.int _))
  · exact fun f => .form (.head (m _ _ y8) (.inl rfl) (.tup (m _ _ (s8 _ _ y7))))
theorem sw_T1 {t : Option Expr} {l : Nat} {env : Env} : swapsWith xT1 t l env = pure false := by
  unfold xT1
  rfl
theorem sw_T3 {a : Expr} {p : Pos} {t : Option Expr} {l : Nat} {env : Env} : swapsWith (.BinOp a .Add xT3 p) t l env = pure false := by
  unfold xT3
  rfl
theorem body_things : ∃ (a b c d e f g h i : Pos), defBody sThings = [.Assign [.Name "_law_found" a] xT1 b, (defBody sThings).getD 1 (.Pass ⟨0, 0, 0, 0⟩), .Assign [.Name "_law_found" c] (.BinOp (.Name "_law_found" d) .Add xT3 e) f, .Return (some (.BinOp (.Name "_law_found" g) .Add xT4 h)) i] := by
  unfold xT1 xT3 xT4
  exact ⟨_, _, _, _, _, _, _, _, _, rfl⟩
def spThings : Sp := fun vs H Q _ => vs = [] ∧ ∀ r xs H', H r = none → Same H H' → H' r = some (.lst xs) → (∀ v ∈ xs, Worse H' v) → xs.length ≤ 400 → Q (.ref r) H'
section
variable {P : Program} {w : World} {K : PySem.W.Frag} {mg : Str → Option Value} {base : Heap}
theorem scThings : FnScope ["_law_found"] [] (defScope sThings) := ⟨rfl, rfl, rfl, by decide +kernel, rfl, by decide +kernel, by decide +kernel⟩
theorem ok_things {f : Addr} {fd : FuncData} (U : Fun K "_law_things" "_law_things" sThings f fd) : FnOk P w K mg base CX0 1 f fd [] spThings := by
  refine U.ok scThings (fun vs H Q E h => ?_) (fun cdv A outer s H vs Q E hr h => ?_)
  · obtain ⟨rfl, _⟩ := h
    rfl
  · obtain ⟨rfl, q⟩ := h
    obtain ⟨a, b, c, d, e, f', g, h, i, eb⟩ := body_things
    obtain ⟨t1, P1, R1⟩ := pe_xT1 (X := (cxOf CX0 P w K mg base ["_law_found"] "_law_things" (defScope sThings) f cdv A outer s H E).nox)
    obtain ⟨t3, P3, R3⟩ := pe_xT3 (X := (cxOf CX0 P w K mg base ["_law_found"] "_law_things" (defScope sThings) f cdv A outer s H E).nox)
    obtain ⟨t4, P4, R4⟩ := pe_xT4 (X := (cxOf CX0 P w K mg base ["_law_found"] "_law_things" (defScope sThings) f cdv A outer s H E).nox)
    rw [eb]
    refine ⟨_, pss_cons (ps_set (i := 0) scThings.nd rfl (Or.inl rfl) P1 (hs := sw_T1))
      (pss_cons (ps_expr (pe_bm PySem.F.plainAttrs_list PySem.F.slot_list_append PySem.F.type_list_append mt_append (pv 0) (pa_cons (pe_tup (pa_cons pe_str (pa_cons pe_str pa_nil))) pa_nil)))
      (pss_cons (ps_set (i := 0) scThings.nd rfl (Or.inl rfl) (pe_op op_cat (pv 0) P3) (hs := sw_T3))
      (pss_one (ps_ret (pe_op op_cat (pv 0) P4))))), ?_⟩
    have hline := line5000
    refine R1 _ _ _ fun r1 xs1 H1 hr1 s1 y1 w1 l1 => ?_
    refine ⟨_, rfl, .inl ⟨rfl, _, SqL.of y1⟩, lit2, fun t ht => ?_⟩
    (generalize hNX : upd H1 t _ = H2; have s2 := same_of ht hNX; have y2 := at_of hNX; clear hNX)
    refine ⟨r1, _, _, rfl, rfl, s2 _ _ y1, by omega, ?_⟩
    (generalize hNX : upd H2 r1 _ = H3; have k3 := wr_of hNX; have y3 := at_of hNX; clear hNX)
    have b13 : ∀ b o, b ≠ r1 → H1 b = some o → H3 b = some o := fun b o n e => (k3 b n).trans (s2 _ _ e)
    have s03 : Same H H3 := fun b o e => b13 b o (ne_of_none e hr1) (s1 _ _ e)
    have ntr : t ≠ r1 := Ne.symm (ne_of_none y1 ht)
    have yt : H3 t = _ := (k3 t ntr).trans y2
    refine ⟨_, rfl, ?_⟩
    refine R3 _ _ _ fun r3 xs3 H4 hr3 s4 y4 w4 l3 => ?_
    refine ⟨r1, r3, _, _, rfl, rfl, s4 _ _ y3, y4, (by rw [List.length_append, List.length_singleton]; omega), fun z hz => ?_⟩
    (generalize hNX : upd H4 z _ = H5; have s5 := same_of hz hNX; have y5 := at_of hNX; clear hNX)
    refine ⟨_, rfl, ?_⟩
    refine R4 _ _ _ fun r4 xs4 H6 hr4 s6 y6 w6 l4 => ?_
    refine ⟨z, r4, _, _, rfl, rfl, s6 _ _ y5, y6, (by rw [List.length_append, List.length_append, List.length_singleton]; omega), fun z2 hz2 => ?_⟩
    (generalize hNX : upd H6 z2 _ = H7; have s7 := same_of hz2 hNX; have y7 := at_of hNX; clear hNX)
    refine q z2 _ H7 ((((s03.trans s4).trans s5).trans s6).free hz2) ((((s03.trans s4).trans s5).trans s6).trans s7) y7 (fun v hv => ?_) (by rw [List.length_append, List.length_append, List.length_append, List.length_singleton]; omega)
    have s37 := ((s4.trans s5).trans s6).trans s7
    rcases List.mem_append.mp hv with hv | hv
    · rcases List.mem_append.mp hv with hv | hv
      · rcases List.mem_append.mp hv with hv | hv
        · exact w1 v hv H7 fun b o n e => s37 _ _ (b13 b o n e)
        · rw [List.mem_singleton.mp hv]
          exact fun f => .form (.len (s37 _ _ yt) (by decide) (by decide))
      · exact w4 v hv H7 fun b o n e => ((s5.trans s6).trans s7) _ _ e
    · exact w6 v hv H7 fun b o n e => s7 _ _ e
end
end K31
end
section
set_option Elab.async false
set_option linter.all false
set_option maxRecDepth 100000
set_option maxHeartbeats 4000000
namespace K31
open PySem L2 K51
def Cant (f : Fr) (a : Lt) : Prop := Lets a ∧ f.can a = none
def spLetters : Sp := fun vs H Q _ => ∃ (O L T : Addr) (vl vt : List V) (f : Fr), vs = [.ref O] ∧ OAt H O L T vl vt f ∧ Ok f ∧ f.ts.length ≤ 300 ∧
  ∀ r xs lts H', Same H H' → H' r = some (.lst xs) → LetsAt H' xs lts → (∀ a ∈ lts, Cant f a) → xs.length ≤ 200000 → Q (.ref r) H'
theorem lineBig : 1000000 ≤ sizeLine := by rw [sizeLine_eq]; decide
theorem atI_back {α : Type} {xs : List α} {i : Nat} {v : α} (h : xs[xs.length - (i + 1)]? = some v) (hi : i < xs.length) : atI xs (-1 - (i : Int)) = some v := by
  unfold atI ixN
  rw [if_neg (by omega), if_pos (by omega)]
  rw [show ((-1 - (i : Int)) + (xs.length : Int)).toNat = xs.length - (i + 1) by omega]
  exact h
theorem iteN {c : Bool} {a b : Prop} (h : c = false) (x : b) : if c = true then a else b := by rw [h, if_neg (by decide)]; exact x
theorem viaH {G : Prop} {Cd : Hp → Prop} (T : Hp → Prop) (h2 : ∀ H', Cd H' → T H') (h1 : (∀ H', Cd H' → T H') → G) : G := h1 h2
theorem viaV {G : Prop} {Cd : V → Prop} (T : V → Prop) (h2 : ∀ v, Cd v → T v) (h1 : (∀ v, Cd v → T v) → G) : G := h1 h2
section
variable {P : Program} {w : World} {K : PySem.W.Frag} {mg : Str → Option Value} {base : Heap}
theorem scLetters : FnScope ["_law_own", "_law_found", "_law_j", "_law_many"] ["_law_own"] (defScope sLetters) := ⟨rfl, rfl, rfl, by decide +kernel, rfl, by decide +kernel, by decide +kernel⟩
theorem ok_letters {f f1 : Addr} {fd d1 : FuncData} (U : Fun K "_law_letters" "_law_letters" sLetters f fd) (T : TxtN mg) (G : Use P w K mg base 2 "_law_can" ["_law_front", "_law_letter"] spCan f1 d1) :
    FnOk P w K mg base CX0 3 f fd ["_law_own"] spLetters := by
  refine U.ok scLetters (fun vs H Q E h => ?_) (fun cdv A outer s H vs Q E hr h => ?_)
  · obtain ⟨O, L, TT, vl, vt, g, rfl, _⟩ := h
    rfl
  · obtain ⟨O, L, TT, vl, vt, g, rfl, Y, ok, hts, q⟩ := h
    refine ⟨_, pss_cons (ps_set (i := 1) scLetters.nd rfl (Or.inl rfl) (pe_lst (pa_cons (pe_tup (pa_cons pe_str pa_nil)) (pa_cons (pe_tup (pa_cons pe_str pa_nil)) (pa_cons (pe_tup (pa_cons pe_str pa_nil)) pa_nil)))))
      (pss_cons (ps_if (pt_cmpR (op_eqD hr.units) (pe_ix ix_list (pv 0) pe_int (fun _ _ => rfl)) (pe_lst pa_nil) (nomark _)) (pss_one (ps_expr (pe_bm PySem.F.plainAttrs_list PySem.F.slot_list_append PySem.F.type_list_append mt_append (pv 1) (pa_cons (pe_tup (pa_cons pe_str pa_nil)) pa_nil)))) pss_nil)
      (pss_cons (ps_for PassesOwn.never rfl (pi_range1 rfl T.range (pa_cons (pe_op op_add (pe_callB call_len_seq (by rfl) T.len PySem.boot_len (pa_cons (pe_ix ix_list (pv 0) pe_int (fun _ _ => rfl)) pa_nil)) pe_int) pa_nil)) (pg_name (i := 2) scLetters.nd rfl (Or.inr rfl))
        (pss_cons (ps_set (i := 3) scLetters.nd rfl (Or.inl rfl) pe_int)
        (pss_cons (ps_if (pt_cmpR op_lt (pv 2) (pe_callB call_len_seq (by rfl) T.len PySem.boot_len (pa_cons (pe_ix ix_list (pv 0) pe_int (fun _ _ => rfl)) pa_nil)) (nomark _))
          (pss_one (ps_set (i := 3) scLetters.nd rfl (Or.inl rfl) (pe_op op_add (pe_callB call_len_seq (by rfl) T.len PySem.boot_len (pa_cons (pe_ix ix_list (pe_ix ix_list (pv 0) pe_int (fun _ _ => rfl)) (pe_op op_sub (pe_un un_neg pe_int) (pv 2)) (fun _ _ => rfl)) pa_nil)) pe_int))) pss_nil)
        (pss_one (ps_set (i := 1) scLetters.nd rfl (Or.inl rfl) (pe_op op_cat (pv 1) (pe_comp (N := ["_law_k", "_law_j"]) (fr := [none, some 2]) (compScopeF (by decide +kernel) rfl rfl (by decide +kernel) (by decide +kernel) (by
            intro y hy e
            simp only [List.mem_cons, List.not_mem_nil, or_false] at hy
            rcases hy with rfl | rfl | rfl
            all_goals first | (cases e; done) | exact .inl rfl) (by
            intro j i y e1 e2
            match j, e1, e2 with
            | 0, e1, _ => simp at e1
            | 1, e1, e2 => simp at e1 e2; subst e1 e2; exact ⟨rfl, rfl⟩
            | j + 2, e1, _ => simp at e1)) rfl (pi_range1 rfl T.range (pa_cons (pv 3) pa_nil))
          (fun C' s' H' fp pins => ⟨pg_name (i := 0) (show (["_law_k", "_law_j"] : List Str).Nodup by decide +kernel) rfl (Or.inl rfl) (.inr rfl), pif_nil, pe_tup (pa_cons pe_str (pa_cons (pv 1) (pa_cons (pv 0) pa_nil)))⟩)))))))
      )
      (pss_one (ps_ret (pe_comp (N := ["_law_letter", "_law_own"]) (fr := [none, some 0]) (compScopeF (by decide +kernel) rfl rfl (by decide +kernel) (by decide +kernel) (by
            intro y hy e
            simp only [List.mem_cons, List.not_mem_nil, or_false] at hy
            rcases hy with rfl | rfl | rfl | rfl
            all_goals first | (cases e; done) | exact .inl rfl) (by
            intro j i y e1 e2
            match j, e1, e2 with
            | 0, e1, _ => simp at e1
            | 1, e1, e2 => simp at e1 e2; subst e1 e2; exact ⟨rfl, rfl⟩
            | j + 2, e1, _ => simp at e1)) rfl (pi_list (pv 1))
          (fun C' s' H' fp pins => ⟨pg_name (i := 0) (show (["_law_letter", "_law_own"] : List Str).Nodup by decide +kernel) rfl (Or.inl rfl) (.inr rfl), pif_one (pt_cmpR op_isN (pe_call G.g hr rfl G.m G.k G.b .nil pass0 (pa_cons (pv 1) (pa_cons (pv 0) pa_nil))) pe_non (nomark _)), pv 0⟩)))))), ?_⟩
    have hline := lineBig
    have o0 : ∀ x y z : V, atI [x, y, z] 0 = some x := fun _ _ _ => rfl
    have hlen := pr_len Y.p
    have hmany := ok_many ok
    have heach := ok_each ok
    refine ⟨lit1, fun ta ga => ?_⟩
    (generalize hNX : upd H ta _ = Ha; have sa := same_of ga hNX; have ya := at_of hNX; clear hNX)
    refine ⟨lit1, fun tb gb => ?_⟩
    (generalize hNX : upd Ha tb _ = Hb; have sb := same_of gb hNX; have yb := at_of hNX; clear hNX)
    refine ⟨lit1, fun tc gc => ?_⟩
    (generalize hNX : upd Hb tc _ = Hc; have sc := same_of gc hNX; have yc := at_of hNX; clear hNX)
    refine ⟨lit3, fun p1 g1 => ?_⟩
    (generalize hNX : upd Hc p1 _ = H1; have s1 := same_of g1 hNX; have y1 := at_of hNX; clear hNX)
    have t1 := ((sa.trans sb).trans sc).trans s1
    have Y1 := Y.same t1
    have n1 : H p1 = none := ((sa.trans sb).trans sc).free g1
    have lz0 : LetsAt H1 [.ref ta, .ref tb, .ref tc] [.sg 82, .sg 76, .sg 69] := .cons ⟨ta, rfl, ((sb.trans sc).trans s1) _ _ (ya.trans K51.ltR)⟩ (.cons ⟨tb, rfl, (sc.trans s1) _ _ (yb.trans ltL)⟩ (.cons ⟨tc, rfl, s1 _ _ (yc.trans ltE)⟩ .nil))
    have hz0 : ∀ a ∈ ([.sg 82, .sg 76, .sg 69] : List Lt), Lets a := fun b hb => by
      simp only [List.mem_cons, List.not_mem_nil, or_false] at hb
      rcases hb with rfl | rfl | rfl <;> simp [Lets]
    refine ⟨_, rfl, O, _, _, _, rfl, rfl, SqL.of Y1.o, o0 _ _ _, Nat.zero_le _, fun p2 g2 => ?_⟩
    (generalize hNX : upd H1 p2 _ = H2; have s2 := same_of g2 hNX; have y2 := at_of hNX; clear hNX)
    have t2 := t1.trans s2
    have Y2 := Y.same t2
    refine ⟨_, _, .lst (SqL.of Y2.l) (dts_lps Y2.p), .lst (SqL.of y2) .nil, Nat.le_trans (dep_lpsD g.ls) (by decide), _, rfl, ?_⟩
    rw [if_neg (by decide), eqv_nil]
    refine' viaH (Cd := fun H' => ∃ zs lts, Same H H' ∧ H' p1 = some (.lst zs) ∧ LetsAt H' zs lts ∧ (∀ a ∈ lts, Lets a) ∧ zs.length ≤ 4) _ ?tail ?main
    case main =>
      intro tail
      rcases List.eq_nil_or_concat g.ls with e | ⟨ah, loop, e⟩
      · rw [e]
        refine iteT ?_
        refine ⟨_, rfl, .inl ⟨rfl, _, SqL.of (s2 _ _ y1)⟩, lit1, fun td gd => ?_⟩
        (generalize hNX : upd H2 td _ = H3; have s3 := same_of gd hNX; have y3 := at_of hNX; clear hNX)
        refine ⟨p1, _, _, rfl, rfl, (s2.trans s3) _ _ y1, by show 3 < sizeLine; omega, ?_⟩
        (generalize hNX : upd H3 p1 _ = H4; have k4 := wr_of hNX; have y4 := at_of hNX; clear hNX)
        have hp3 := (s2.trans s3) _ _ y1
        have mv : ∀ t xs, H3 t = some (.tup xs) → H4 t = some (.tup xs) := fun t xs e => (k4 t (ne_of e hp3 (by intro z; cases z))).trans e
        refine tail H4 ⟨_, _, fun b o e => (k4 b (ne_of_none e n1)).trans ((t2.trans s3) _ _ e), y4, lets_app ((lz0.same (s2.trans s3)).move mv) (.cons ⟨td, rfl, mv _ _ (y3.trans ltC)⟩ .nil), fun a ha => ?_, by show 4 ≤ 4; decide⟩
        rcases List.mem_append.mp ha with z | z
        · exact hz0 a z
        · rw [List.mem_singleton.mp z]; exact .inl rfl
      · rw [List.concat_eq_append] at e
        rw [e]
        have hne : (lpsD (ah ++ [loop])) = lpsD (ah ++ [loop]) := rfl
        refine iteN (by cases ah <;> rfl) ?_
        exact tail H2 ⟨_, _, t2, s2 _ _ y1, lz0.same s2, hz0, by show 3 ≤ 4; decide⟩
    case tail =>
      rintro H3 ⟨zs0, lts0, t3, hp1, hlz0, hcz0, hzl0⟩
      have Y3 := Y.same t3
      refine ⟨_, rfl, O, _, _, _, rfl, rfl, SqL.of Y3.o, o0 _ _ _, L, _, rfl, .inl (SqL.of Y3.l), _, _, rfl, rfl, (vl.length : Int) + 1, rfl, by omega, by omega, for_range (n := ((vl.length : Int) + 1).toNat) (fun i σ H' => ∃ v2 v3 Pf zs lts, σ = [some (.ref O), some (.ref Pf), v2, v3] ∧ Same H H' ∧ H' Pf = some (.lst zs) ∧ LetsAt H' zs lts ∧ (∀ a ∈ lts, Lets a) ∧ zs.length ≤ 4 + i * 400)
        ⟨none, none, p1, zs0, lts0, rfl, t3, hp1, hlz0, hcz0, by omega⟩ ?_ ?_⟩
      · rintro i σ H4 hi ⟨v2, v3, Pf, zs, lts, rfl, sm, hPf, hlz, hcz, hz⟩
        have hi' : i ≤ vl.length := by omega
        have Y4 := Y.same sm
        refine ⟨_, rfl, _, rfl, O, _, _, _, rfl, rfl, SqL.of Y4.o, o0 _ _ _, L, _, rfl, .inl (SqL.of Y4.l), _, _, rfl, rfl, _, rfl, ?_⟩
        refine' viaV (Cd := fun v => ∃ m : Nat, v = .int (m : Int) ∧ m ≤ 399) _ ?tail ?main
        case main =>
          intro tail
          by_cases hlt : i < vl.length
          · rw [decide_eq_true (by omega)]
            refine iteT ?_
            have hvx : vl[vl.length - (i + 1)]? = some (vl[vl.length - (i + 1)]'(by omega)) := List.getElem?_eq_getElem (by omega)
            obtain ⟨l, hl, b, eb, hb⟩ := pr_get' Y4.p hvx
            rw [eb] at hvx
            have hll := heach l (List.mem_of_getElem? hl)
            refine ⟨_, rfl, O, _, _, _, rfl, rfl, SqL.of Y4.o, o0 _ _ _, _, rfl, _, rfl, _, _, rfl, rfl, L, _, _, _, rfl, rfl, SqL.of Y4.l, (show atI vl (-1 - (0 + (i : Int))) = some (V.ref b) by rw [Int.zero_add]; exact atI_back hvx hlt), b, _, rfl, .inl (SqL.of hb), _, _, rfl, rfl, ?_⟩
            show gName 3 (V.int (((nV l).length : Int) + 1)) _ _ _
            obtain ⟨v, hv⟩ : ∃ v, v = V.int (((nV l).length : Int) + 1) := ⟨_, rfl⟩
            rw [← hv]
            exact tail v ⟨l.length + 1, by rw [hv, nV_len]; rfl, by omega⟩
          · rw [decide_eq_false (by omega)]
            refine iteF ?_
            exact tail (V.int 4) ⟨4, rfl, by omega⟩
        case tail =>
          rintro v ⟨m, rfl, hm⟩
          refine ⟨_, rfl, _, rfl, (m : Int), rfl, by omega, by omega, fun D hD => comp_range (lo := 0) (n := ((m : Nat) : Int).toNat) (fun k σ ys H' => ∃ o, σ = [o, some (.int (0 + (i : Int)))] ∧ Same H4 H' ∧ H' D = some (.lst ys) ∧ LetsAt H' ys ((List.range k).map fun k => Lt.sp i k))
            ⟨none, rfl, same_upd hD, upd_same, .nil⟩ ?_ ?_⟩
          · rintro k σ ys H' hk ⟨o, rfl, sk, hDk, hlk⟩
            rw [Int.toNat_natCast] at hk
            have hly := lets_len hlk
            rw [List.length_map, List.length_range] at hly
            refine ⟨_, rfl, _, rfl, lit3, fun tt gt => ?_⟩
            (generalize hNX : upd H' tt _ = H5; have s5 := same_of gt hNX; have y5 := at_of hNX; clear hNX)
            have hD5 := s5 _ _ hDk
            refine ⟨hD5, by omega, ?_⟩
            (generalize hNX : upd H5 D _ = H6; have k6 := wr_of hNX; have y6 := at_of hNX; clear hNX)
            have mv : ∀ t xs, H5 t = some (.tup xs) → H6 t = some (.tup xs) := fun t xs e => (k6 t (ne_of e hD5 (by intro z; cases z))).trans e
            refine ⟨_, rfl, fun b' o' e => (k6 b' (ne_of_none e hD)).trans (s5 _ _ (sk _ _ e)), y6, ?_⟩
            rw [List.range_succ, List.map_append]
            refine lets_app ((hlk.same s5).move mv) (.cons ⟨tt, rfl, mv _ _ ?_⟩ .nil)
            rw [y5, show (Str.ofString "S") = txt [83] from s83, Int.zero_add, Int.zero_add]
            rfl
          · rintro σ ys H' ⟨o, rfl, sk, hDk, hlk⟩
            rw [Int.toNat_natCast] at hlk
            have hly := lets_len hlk
            rw [List.length_map, List.length_range] at hly
            have hi2 : i * 400 ≤ 303 * 400 := Nat.mul_le_mul_right _ (by omega)
            refine ⟨Pf, D, _, _, rfl, rfl, sk _ _ hPf, hDk, by omega, fun Pn hn => ?_⟩
            (generalize hNX : upd H' Pn _ = H6; have s6 := same_of hn hNX; have y6 := at_of hNX; clear hNX)
            refine ⟨_, _, Pn, _, lts ++ (List.range m).map (fun k => Lt.sp i k), rfl, (sm.trans sk).trans s6, y6, lets_app (hlz.same (sk.trans s6)) (hlk.same s6), ?_, ?_⟩
            · intro a ha
              rcases List.mem_append.mp ha with z | z
              · exact hcz a z
              · obtain ⟨k, _, rfl⟩ := List.mem_map.mp z
                trivial
            · rw [List.length_append, Nat.add_mul]; omega
      · rintro σ H2 ⟨v2, v3, Pf, zs, lts, rfl, sm, hPf, hlz0, hcz0, hz⟩
        have hn : ((vl.length : Int) + 1).toNat ≤ 303 := by omega
        have hi2 : ((vl.length : Int) + 1).toNat * 400 ≤ 303 * 400 := Nat.mul_le_mul_right _ hn
        have sm0 := sm
        refine ⟨_, rfl, Pf, rfl, ⟨_, SqL.of hPf⟩, fun Z hZ => comp_list (K := K) (a := Pf) (xs := zs) (fun i σ ys H' => ∃ o lz, σ = [o, some (.ref O)] ∧ Same H2 H' ∧ H' Z = some (.lst ys) ∧ LetsAt H' ys lz ∧ (∀ a ∈ lz, Cant g a) ∧ ys.length ≤ i) ⟨none, [], rfl, same_upd hZ, upd_same, .nil, by simp, Nat.le_refl _⟩ (fun i σ ys H' _ ⟨_, _, _, e, _⟩ => SqL.of (e _ _ hPf)) ?_ ?_⟩
        · rintro i y σ ys H' hi ⟨o, lz, rfl, sm, hZ', hlz, hcz, hlen'⟩
          obtain ⟨b, hb1, tb, rfl, htb⟩ := paired_get hlz0 hi
          have hiz := (List.getElem?_eq_some_iff.mp hi).1
          have hbl : Lets b := hcz0 b (List.mem_of_getElem? hb1)
          have Y' := (Y.same sm0).same sm
          refine ⟨_, rfl, _, rfl, O, tb, L, TT, vl, vt, g, b, rfl, Y', ok, hts, sm _ _ htb, hbl, fun H2 s2 => ⟨rfl, _, rfl, ?_⟩⟩
          have sm2 := sm.trans s2
          have hZ2 := s2 _ _ hZ'
          cases ec : g.can b with
          | some x =>
            refine iteF ?_
            exact ⟨_, lz, rfl, sm2, hZ2, hlz.same s2, hcz, by omega⟩
          | none =>
            refine iteT ?_
            refine ⟨_, rfl, hZ2, by omega, ?_⟩
            (generalize hNX : upd H2 Z _ = H3; have k3 := wr_of hNX; have y3 := at_of hNX; clear hNX)
            have mv : ∀ t xs, H2 t = some (.tup xs) → H3 t = some (.tup xs) := fun t xs e => (k3 t (ne_of e hZ2 (by intro z; cases z))).trans e
            refine ⟨_, lz ++ [b], rfl, fun b' o' e => (k3 b' (ne_of_none e hZ)).trans (sm2 _ _ e), y3, lets_app ((hlz.same s2).move mv) (.cons ⟨tb, rfl, mv _ _ (sm2 _ _ htb)⟩ .nil), ?_, ?_⟩
            · intro c hc
              rcases List.mem_append.mp hc with z | z
              · exact hcz c z
              · rw [List.mem_singleton.mp z]
                exact ⟨hbl, ec⟩
            · rw [List.length_append, List.length_singleton]; omega
        · rintro σ ys H' ⟨o, lz, rfl, sm, hZ', hlz, hcz, hlen'⟩
          exact q Z ys lz H' (sm0.trans sm) hZ' hlz hcz (by omega)
end
end K31
end
section
set_option Elab.async false
set_option linter.all false
set_option maxRecDepth 100000
set_option maxHeartbeats 4000000
namespace K31
open PySem L2 K51
def FrontIn (C : Addr) (H : Hp) (F : Addr) (f : Fr) (S : Addr → Prop) : Prop := ∃ (R M D W dx : Addr) (vr vm : List V), FAt C H F R M D W dx vr vm f ∧ S F ∧ S R ∧ S M ∧ S D ∧ S W ∧ (∀ b, V.ref b ∈ vr → S b) ∧ ∀ b, V.ref b ∈ vm → S b
def OwnIn (H : Hp) (O : Addr) (f : Fr) (S : Addr → Prop) : Prop := ∃ (L T : Addr) (vl vt : List V), OAt H O L T vl vt f ∧ S O ∧ S L ∧ S T ∧ (∀ b, V.ref b ∈ vl → S b) ∧ ∀ b, V.ref b ∈ vt → S b
theorem FrontIn.move {C : Addr} {H H' : Hp} {F : Addr} {f : Fr} {S S' : Addr → Prop} (h : FrontIn C H F f S) (e : ∀ b o, S b → H b = some o → H' b = some o ∧ S' b) : FrontIn C H' F f S' := by
  obtain ⟨R, M, D, W, dx, vr, vm, T, sF, sR, sM, sD, sW, sr, sm⟩ := h
  obtain ⟨kd, d1, d2⟩ := T.d
  obtain ⟨kw, w1, w2⟩ := T.w
  refine ⟨R, M, D, W, dx, vr, vm, ⟨(e _ _ sF T.o).1, (e _ _ sR T.r).1, LpsAt.move T.p fun b o hb z => (e b o (sr b hb) z).1, (e _ _ sM T.m).1, TrsAt.move T.t fun b o hb z => (e b o (sm b hb) z).1, ⟨kd, (e _ _ sD d1).1, d2⟩, ⟨kw, (e _ _ sW w1).1, w2⟩, T.dw⟩,
    (e _ _ sF T.o).2, (e _ _ sR T.r).2, (e _ _ sM T.m).2, (e _ _ sD d1).2, (e _ _ sW w1).2, fun b hb => ?_, fun b hb => ?_⟩
  · obtain ⟨l, _, z⟩ := pr_mem T.p hb
    exact (e b _ (sr b hb) z).2
  · obtain ⟨xs, z⟩ := pr_memT T.t hb
    exact (e b _ (sm b hb) z).2
theorem OwnIn.move {H H' : Hp} {O : Addr} {f : Fr} {S S' : Addr → Prop} (h : OwnIn H O f S) (e : ∀ b o, S b → H b = some o → H' b = some o ∧ S' b) : OwnIn H' O f S' := by
  obtain ⟨L, T, vl, vt, Y, sO, sL, sT, sl, st⟩ := h
  refine ⟨L, T, vl, vt, ⟨(e _ _ sO Y.o).1, (e _ _ sL Y.l).1, LpsAt.move Y.p fun b o hb z => (e b o (sl b hb) z).1, (e _ _ sT Y.t).1, TrsAt.move Y.q fun b o hb z => (e b o (st b hb) z).1⟩, (e _ _ sO Y.o).2, (e _ _ sL Y.l).2, (e _ _ sT Y.t).2, fun b hb => ?_, fun b hb => ?_⟩
  · obtain ⟨l, _, z⟩ := pr_mem Y.p hb
    exact (e b _ (sl b hb) z).2
  · obtain ⟨xs, z⟩ := pr_memT Y.q hb
    exact (e b _ (st b hb) z).2
structure Held1 (C : Addr) (H : Hp) (p F O : Addr) (f : Fr) (pq : Int × Int) (m : Nat) (col : Addr → Nat) : Prop where
  pt : H p = some (.lst (potV pq))
  pk : PotOk pq
  cp : col p = 5
  front : FrontIn C H F f fun b => col b = 1
  own : OwnIn H O f fun b => col b = 2
  ok : Ok f
  ts : f.ts.length ≤ m
section
variable {C : Addr} {H H' H1 H2 : Hp} {p F O : Addr} {f : Fr} {pq pq' : Int × Int} {m m' : Nat} {col : Addr → Nat}
theorem Held1.same (h : Held1 C H p F O f pq m col) (s : Same H H') : Held1 C H' p F O f pq m col :=
  ⟨s _ _ h.pt, h.pk, h.cp, h.front.move fun b o c e => ⟨s _ _ e, c⟩, h.own.move fun b o c e => ⟨s _ _ e, c⟩, h.ok, h.ts⟩
theorem Held1.pot (h : Held1 C H p F O f pq m col) (s : But p H H') (hp : H' p = some (.lst (potV pq'))) (hk : PotOk pq') : Held1 C H' p F O f pq' m col := by
  have np : ∀ b, col b ≠ 5 → b ≠ p := fun b hb z => hb (by rw [z]; exact h.cp)
  exact ⟨hp, hk, h.cp, h.front.move fun b o c e => ⟨s b o (np b (by omega)) e, c⟩, h.own.move fun b o c e => ⟨s b o (np b (by omega)) e, c⟩, h.ok, h.ts⟩
theorem Held1.mono (h : Held1 C H p F O f pq m col) (hm : m ≤ m') : Held1 C H p F O f pq m' col := ⟨h.pt, h.pk, h.cp, h.front, h.own, h.ok, Nat.le_trans h.ts hm⟩
theorem Held1.both (h : Held1 C H p F O f pq m col) : ∃ (R M D W dx L T : Addr) (vr vm vl vt : List V), FAt C H F R M D W dx vr vm f ∧ OAt H O L T vl vt f := by
  obtain ⟨R, M, D, W, dx, vr, vm, X, _⟩ := h.front
  obtain ⟨L, T, vl, vt, Y, _⟩ := h.own
  exact ⟨R, M, D, W, dx, L, T, vr, vm, vl, vt, X, Y⟩
theorem Held1.put {f' : Fr} {L T R M D W dx R' : Addr} {vl vt vr vm vl' vt' vr' vm' : List V} (h : Held1 C H p F O f pq m col)
    (Y : OAt H O L T vl vt f) (sO : col O = 2) (sL : col L = 2) (sT : col T = 2) (sl : ∀ b, V.ref b ∈ vl → col b = 2) (st : ∀ b, V.ref b ∈ vt → col b = 2)
    (b1 : But3 O L T H H1) (Y' : OAt H1 O L T vl' vt' f') (nl : ∀ b, V.ref b ∈ vl' → V.ref b ∈ vl ∨ H b = none) (nt : ∀ b, V.ref b ∈ vt' → V.ref b ∈ vt ∨ H b = none)
    (X : FAt C H F R M D W dx vr vm f) (sF : col F = 1) (sR : col R = 1) (sM : col M = 1) (sD : col D = 1) (sW : col W = 1) (sr : ∀ b, V.ref b ∈ vr → col b = 1) (sm : ∀ b, V.ref b ∈ vm → col b = 1)
    (b2 : But4 F M D W H1 H2) (X' : FAt C H2 F R' M D W dx vr' vm' f') (hR : H1 R' = none) (nr : ∀ b, V.ref b ∈ vr' → V.ref b ∈ vr ∨ H1 b = none) (nm : ∀ b, V.ref b ∈ vm' → V.ref b ∈ vm ∨ H1 b = none)
    (ok : Ok f') (hts : f'.ts.length ≤ m + 1) : ∃ col', Held1 C H2 p F O f' pq (m + 1) col' := by
  refine ⟨fun b => if H b = none then (if H1 b = none then 1 else 2) else col b, ?_⟩
  have old : ∀ b o, H b = some o → (if H b = none then (if H1 b = none then 1 else 2) else col b) = col b := fun b o e => by rw [if_neg (by rw [e]; simp)]
  have k1 : ∀ b o, col b ≠ 2 → H b = some o → H1 b = some o := fun b o c e => b1 b o (fun z => c (by rw [z]; exact sO)) (fun z => c (by rw [z]; exact sL)) (fun z => c (by rw [z]; exact sT)) e
  obtain ⟨kd, xd, _⟩ := X.d
  obtain ⟨kw, xw, _⟩ := X.w
  have mF : H1 F = _ := k1 _ _ (by rw [sF]; omega) X.o
  have mM : H1 M = _ := k1 _ _ (by rw [sM]; omega) X.m
  have mD : H1 D = _ := k1 _ _ (by rw [sD]; omega) xd
  have mW : H1 W = _ := k1 _ _ (by rw [sW]; omega) xw
  have k2 : ∀ b o, (H b ≠ none → col b ≠ 1) → H1 b = some o → H2 b = some o := fun b o c e => by
    have key : ∀ y oy, H y = some oy → col y = 1 → b ≠ y := fun y oy ey cy z => by
      rw [z] at c
      exact c (by rw [ey]; simp) cy
    exact b2 b o (key F _ X.o sF) (key M _ X.m sM) (key D _ xd sD) (key W _ xw sW) e
  have cN : ∀ b, H1 b = none → (if H b = none then (if H1 b = none then 1 else 2) else col b) = 1 := fun b hb => by
    cases e : H b with
    | none => rw [if_pos rfl, if_pos hb]
    | some o =>
      rw [if_neg (by simp)]
      exfalso
      by_cases c1 : b = O
      · rw [c1, Y'.o] at hb; cases hb
      · by_cases c2 : b = L
        · rw [c2, Y'.l] at hb; cases hb
        · by_cases c3 : b = T
          · rw [c3, Y'.t] at hb; cases hb
          · rw [b1 b o c1 c2 c3 e] at hb; cases hb
  have cO : ∀ b, (V.ref b ∈ vl' ∨ V.ref b ∈ vt' ∨ b = O ∨ b = L ∨ b = T) → H b ≠ none → col b = 2 := fun b hb hn => by
    rcases hb with z | z | z | z | z
    · exact (nl b z).elim (sl b) fun y => (hn y).elim
    · exact (nt b z).elim (st b) fun y => (hn y).elim
    · rw [z]; exact sO
    · rw [z]; exact sL
    · rw [z]; exact sT
  have k3 : ∀ b o, (V.ref b ∈ vl' ∨ V.ref b ∈ vt' ∨ b = O ∨ b = L ∨ b = T) → H1 b = some o → H2 b = some o := fun b o hb e => k2 b o (fun hn => by rw [cO b hb hn]; decide) e
  have cO2 : ∀ b o, (V.ref b ∈ vl' ∨ V.ref b ∈ vt' ∨ b = O ∨ b = L ∨ b = T) → H1 b = some o → (if H b = none then (if H1 b = none then 1 else 2) else col b) = 2 := fun b o hb e => by
    by_cases hn : H b = none
    · rw [if_pos hn, if_neg (by rw [e]; simp)]
    · rw [if_neg hn]; exact cO b hb hn
  refine ⟨k2 _ _ (fun _ => by rw [h.cp]; decide) (k1 _ _ (by rw [h.cp]; decide) h.pt), h.pk, (old _ _ h.pt).trans h.cp, ?_, ?_, ok, hts⟩
  · refine ⟨R', M, D, W, dx, vr', vm', X', (old _ _ X.o).trans sF, cN _ hR, (old _ _ X.m).trans sM, (old _ _ xd).trans sD, (old _ _ xw).trans sW, fun b hb => ?_, fun b hb => ?_⟩
    · rcases nr b hb with z | z
      · obtain ⟨l, _, e⟩ := pr_mem X.p z
        exact (old _ _ e).trans (sr b z)
      · exact cN b z
    · rcases nm b hb with z | z
      · obtain ⟨l, e⟩ := pr_memT X.t z
        exact (old _ _ e).trans (sm b z)
      · exact cN b z
  · refine ⟨L, T, vl', vt', ⟨k3 _ _ (.inr (.inr (.inl rfl))) Y'.o, k3 _ _ (.inr (.inr (.inr (.inl rfl)))) Y'.l, LpsAt.move Y'.p fun b o hb e => k3 b o (.inl hb) e, k3 _ _ (.inr (.inr (.inr (.inr rfl)))) Y'.t, TrsAt.move Y'.q fun b o hb e => k3 b o (.inr (.inl hb)) e⟩,
      cO2 _ _ (.inr (.inr (.inl rfl))) Y'.o, cO2 _ _ (.inr (.inr (.inr (.inl rfl)))) Y'.l, cO2 _ _ (.inr (.inr (.inr (.inr rfl)))) Y'.t, fun b hb => ?_, fun b hb => ?_⟩
    · obtain ⟨l, _, e1⟩ := pr_mem Y'.p hb
      exact cO2 b _ (.inl hb) e1
    · obtain ⟨l, e1⟩ := pr_memT Y'.q hb
      exact cO2 b _ (.inr (.inl hb)) e1
end
section
variable {P : Program} {w : World} {K : PySem.W.Frag} {mg : Str → Option Value} {base : Heap}
theorem scAllRef : FnScope ["_law_front", "_law_own", "_law_letter"] ["_law_front", "_law_own"] (defScope sAllRef) := ⟨rfl, rfl, rfl, by decide +kernel, rfl, by decide +kernel, by decide +kernel⟩
theorem ok_allRef {f f1 f2 f3 f4 C : Addr} {fd d1 d2 d3 d4 : FuncData} (U : Fun K "_law_all_refused" "_law_all_refused" sAllRef f fd) (GT : Use P w K mg base 1 "_law_things" [] spThings f1 d1) (GL : Use P w K mg base 3 "_law_letters" ["_law_own"] spLetters f2 d2)
    (GR : Use P w K mg base 4 "_law_refused" ["_law_front", "_law_letter"] (spRefused C) f3 d3) (GS : Use P w K mg base 2 "_law_same" ["_law_front", "_law_own"] (spSame C) f4 d4) : FnOk P w K mg base CX0 5 f fd ["_law_front", "_law_own"] (spSame C) := by
  refine U.ok scAllRef (fun vs H Q E h => ?_) (fun cdv A outer s H vs Q E hr h => ?_)
  · obtain ⟨F, O, R, M, D, W, dx, L, T, vr, vm, vl, vt, g, rfl, _⟩ := h
    rfl
  · obtain ⟨F, O, R, M, D, W, dx, L, T, vr, vm, vl, vt, g, rfl, Z0, Y, ok, hts, q⟩ := h
    have hr1 := hr.mono (show 1 ≤ 4 by decide)
    have hr2 := hr.mono (show 2 ≤ 4 by decide)
    have hr3 := hr.mono (show 3 ≤ 4 by decide)
    refine ⟨_, pss_cons (ps_for PassesOwn.never rfl (pi_list (pe_op op_cat (pe_call0 GT.g hr1 rfl GT.m GT.k GT.b .nil pass0) (pe_call GL.g hr3 rfl GL.m GL.k GL.b .nil pass0 (pa_cons (pv 1) pa_nil)))) (pg_name (i := 2) scAllRef.nd rfl (Or.inl rfl))
        (pss_one (ps_if (pt_not (pt_val (pe_call GR.g hr rfl GR.m GR.k GR.b .nil pass0 (pa_cons (pv 0) (pa_cons (pv 2) pa_nil))))) pss_never pss_nil)))
      (pss_one (ps_ret (pe_call GS.g hr2 rfl GS.m GS.k GS.b .nil pass0 (pa_cons (pv 0) (pa_cons (pv 1) pa_nil))))), ?_⟩
    have hline := lineBig
    refine ⟨rfl, fun r1 xs1 H1 hr1' s1 y1 w1 l1 => ?_⟩
    refine ⟨_, rfl, O, L, T, vl, vt, g, rfl, Y.same s1, ok, hts, fun r2 xs2 lts H2 s2 y2 lz cz l2 => ?_⟩
    refine ⟨r1, r2, _, _, rfl, rfl, s2 _ _ y1, y2, by omega, fun z hz => ?_⟩
    (generalize hNX : upd H2 z _ = H3; have s3 := same_of hz hNX; have y3 := at_of hNX; clear hNX)
    have t3 := (s1.trans s2).trans s3
    refine ⟨z, rfl, ⟨_, SqL.of y3⟩, for_list (K := K) (a := z) (xs := xs1 ++ xs2) (fun i σ H' => ∃ v2, σ = [some (.ref F), some (.ref O), v2] ∧ Same H3 H') ⟨none, rfl, same_id⟩ (fun i σ H' _ hi => ?_) ?_ ?_⟩
    · obtain ⟨_, _, sm⟩ := hi
      exact SqL.of (sm _ _ y3)
    · rintro i x σ H' hx ⟨v2, rfl, sm⟩
      have bad : Bad H' g x := by
        rcases List.mem_append.mp (List.mem_of_getElem? hx) with hm | hm
        · exact ((w1 x hm g).same (s2.trans s3)).same sm
        · obtain ⟨i', hi'⟩ := List.getElem?_of_mem hm
          obtain ⟨b, hb1, tb, rfl, htb⟩ := paired_get lz hi'
          have hc := cz b (List.mem_of_getElem? hb1)
          exact bad_of ok ((s3.trans sm) _ _ htb) hc.1 hc.2
      have Z' := Z0.same (t3.trans sm)
      refine ⟨_, rfl, _, rfl, F, R, M, D, W, dx, vr, vm, g, x, rfl, Z', ok, hts, bad, fun H4 s4 => ⟨_, rfl, iteF ?_⟩⟩
      exact ⟨_, rfl, sm.trans s4⟩
    · rintro σ H' ⟨v2, rfl, sm⟩
      exact ⟨_, rfl, _, rfl, F, O, R, M, D, W, dx, L, T, vr, vm, vl, vt, g, rfl, Z0.same (t3.trans sm), Y.same (t3.trans sm), ok, hts, fun H4 s4 => q H4 ((t3.trans sm).trans s4)⟩
end
end K31
end
section
set_option Elab.async false
set_option linter.all false
set_option maxRecDepth 100000
set_option maxHeartbeats 4000000
namespace K31
open PySem L2 K51
def spLaw (K : PySem.W.Frag) : Sp := fun vs H Q _ => ∃ (a : Addr) (ns : List Int), vs = [.ref a] ∧ SqL K H a (ns.map V.int) ∧ ns.length ≤ 63 ∧ ∀ H', Q (.bl true) H'
theorem sqL_same {K : PySem.W.Frag} {H H' : Hp} {a : Addr} {xs : List V} (s : Same H H') (h : SqL K H a xs) : SqL K H' a xs := s.seq h
theorem tell_tr {K : PySem.W.Frag} {H : Hp} {p q r : Nat} {a : Addr} (h1 : p < 10000) (h2 : q < 10000) (h3 : r < 10000) (ha : H a = some (.tup [.int (p : Int), .int (q : Int), .int (r : Int)])) : Tell K H (.ref a) (trD (p, q, r)) := by
  refine ⟨.tup (SqT.of ha) (.cons (.int _) (.cons (.int _) (.cons (.int _) .nil))), ?_, ?_, ?_⟩
  · refine sb_all _ fun e he => ?_
    simp only [List.mem_cons, List.not_mem_nil, or_false] at he
    rcases he with rfl | rfl | rfl
    · exact sb_int h1
    · exact sb_int h2
    · exact sb_int h3
  · simp [trD, PyData.depth, PyData.depthAll]
  · exact Nat.le_trans (shn_tr (t := (p, q, r)) ⟨h1, h2, h3⟩) (by rw [sizeLine_eq]; decide)
theorem pe_own1 {X : Cx} {j1 j2 : Nat} {p1 p2 p3 : Pos} : PE X (.List [.Constant (.int 0) j1 p1, .Constant (.int 1) j2 p2] p3) (tLst (tCons (tC (.int 0)) (tCons (tC (.int 1)) tNil))) := pe_lst (pa_cons pe_int (pa_cons pe_int pa_nil (hs := se_con)) (hs := se_con))
theorem pe_own2 {X : Cx} {j1 j2 : Nat} {p1 p2 p3 p4 : Pos} : PE X (.List [.List [.Constant (.int 0) j1 p1, .Constant (.int 1) j2 p2] p3] p4) (tLst (tCons (tLst (tCons (tC (.int 0)) (tCons (tC (.int 1)) tNil))) tNil)) := pe_lst (pa_cons pe_own1 pa_nil (hs := se_lst))
theorem pe_own3 {X : Cx} {p5 : Pos} : PE X (.List [] p5) (tLst tNil) := pe_lst pa_nil
def tOwn : TE := tLst (tCons (tLst (tCons (tLst (tCons (tC (.int 0)) (tCons (tC (.int 1)) tNil))) tNil)) (tCons (tLst tNil) (tCons (tC (.int 2)) tNil)))
theorem pe_own {X : Cx} {j1 j2 j3 : Nat} {p1 p2 p3 p4 p5 p6 p7 : Pos} : PE X (.List [.List [.List [.Constant (.int 0) j1 p1, .Constant (.int 1) j2 p2] p3] p4, .List [] p5, .Constant (.int 2) j3 p6] p7) tOwn := by
  unfold tOwn
  exact pe_lst (pa_cons pe_own2 (pa_cons pe_own3 (pa_cons pe_int pa_nil (hs := se_con)) (hs := se_lst)) (hs := se_lst))
theorem iteP {c : Bool} {a b : Prop} (h : c = true) (x : a) : if c = true then a else b := by rw [if_pos h]; exact x
theorem viaS {G : Prop} {Cd : St → Hp → Prop} (T : St → Hp → Prop) (h2 : ∀ σ H', Cd σ H' → T σ H') (h1 : (∀ σ H', Cd σ H' → T σ H') → G) : G := h1 h2
section
variable {P : Program} {w : World} {K : PySem.W.Frag} {mg : Str → Option Value} {base : Heap}
theorem scLaw : FnScope ["_law_script", "_law_front", "_law_own", "_law_pot_here", "_law_k", "_law_letter", "_law_due"] ["_law_script"] (defScope sLaw) := ⟨rfl, rfl, rfl, by decide +kernel, rfl, by decide +kernel, by decide +kernel⟩
@[irreducible] def sOwn1 : Stmt := (defBody sLaw).getD 1 (.Pass ⟨0, 0, 0, 0⟩)
def bodyWith (st : Stmt) : List Stmt := (defBody sLaw).take 1 ++ st :: (defBody sLaw).drop 2
theorem body_eq : defBody sLaw = bodyWith sOwn1 := by unfold bodyWith sOwn1; rfl
theorem own_eq : ∃ (p p1 p2 p3 p4 p5 p6 p7 q : Pos) (j1 j2 j3 : Nat), sOwn1 = .Assign [.Name "_law_own" p] (.List [.List [.List [.Constant (.int 0) j1 p1, .Constant (.int 1) j2 p2] p3] p4, .List [] p5, .Constant (.int 2) j3 p6] p7) q := by
  unfold sOwn1
  exact ⟨_, _, _, _, _, _, _, _, _, _, _, _, rfl⟩
theorem ps_own1 {X : Cx} (hN : X.N.Nodup) (hi : X.N[2]? = some ("_law_own" : Str)) (hx : Loc X.env.scope "_law_own") (hf : X.fn "_law_own" = true ∨ X.env.scope.names.lookup (("_law_own" : Str)) = some .local) : PS X sOwn1 (tAsg tOwn (gName 2)) := by
  obtain ⟨p, p1, p2, p3, p4, p5, p6, p7, q, j1, j2, j3, e⟩ := own_eq
  rw [e]
  with_reducible exact ps_setG hN hi hx hf pe_own
theorem FAt.moveC {C : Addr} {H H' : Hp} {F R M D W dx : Addr} {vr vm : List V} {f : Fr} {S : Addr → Prop} (T : FAt C H F R M D W dx vr vm f) (sF : S F) (sR : S R) (sM : S M) (sD : S D) (sW : S W) (sr : ∀ b, V.ref b ∈ vr → S b) (sm : ∀ b, V.ref b ∈ vm → S b) (e : ∀ b o, S b → H b = some o → H' b = some o) : FAt C H' F R M D W dx vr vm f := by
  obtain ⟨kd, d1, d2⟩ := T.d
  obtain ⟨kw, w1, w2⟩ := T.w
  exact ⟨e _ _ sF T.o, e _ _ sR T.r, LpsAt.move T.p fun b o hb z => e b o (sr b hb) z, e _ _ sM T.m, TrsAt.move T.t fun b o hb z => e b o (sm b hb) z, ⟨kd, e _ _ sD d1, d2⟩, ⟨kw, e _ _ sW w1, w2⟩, T.dw⟩
theorem make_got {C : Addr} {H Ha : Hp} {F dx R M D W : Addr} {vr : List V} (h1 : H F = none) (h2 : H dx = none) (bt : ∀ b o, b ≠ F → upd (upd H dx (.own F)) F (.ins C dx []) b = some o → Ha b = some o) (T : FAt C Ha F R M D W dx vr [] Fr.at0)
    (hR : upd (upd H dx (.own F)) F (.ins C dx []) R = none) (hM : upd (upd H dx (.own F)) F (.ins C dx []) M = none) (hD : upd (upd H dx (.own F)) F (.ins C dx []) D = none) (hW : upd (upd H dx (.own F)) F (.ins C dx []) W = none) (hv : ∀ b, V.ref b ∈ vr → upd (upd H dx (.own F)) F (.ins C dx []) b = none) :
    Same H Ha ∧ FrontIn C Ha F Fr.at0 (fun b => H b = none ∧ (Ha b).isSome = true) := by
  have fr : ∀ b, upd (upd H dx (.own F)) F (.ins C dx []) b = none → H b = none := fun b hb => by
    by_cases e1 : b = F
    · rw [e1]; exact h1
    · rw [upd_ne e1] at hb
      by_cases e2 : b = dx
      · rw [e2]; exact h2
      · rw [upd_ne e2] at hb; exact hb
  obtain ⟨kd, d1, _⟩ := T.d
  obtain ⟨kw, w1, _⟩ := T.w
  refine ⟨fun b o e => ?_, R, M, D, W, dx, vr, [], T, ⟨h1, by rw [T.o]; rfl⟩, ⟨fr R hR, by rw [T.r]; rfl⟩, ⟨fr M hM, by rw [T.m]; rfl⟩, ⟨fr D hD, by rw [d1]; rfl⟩, ⟨fr W hW, by rw [w1]; rfl⟩, fun b hb => ?_, fun b hb => by cases hb⟩
  · have n1 := ne_of_none e h1
    have n2 := ne_of_none e h2
    exact bt b o n1 (by rw [upd_ne n1, upd_ne n2]; exact e)
  · obtain ⟨l, _, e⟩ := pr_mem T.p hb
    exact ⟨fr b (hv b hb), by rw [e]; rfl⟩
theorem own_new {H0 H' : Hp} {i L T O : Addr} (n1 : H0 i = none) (n2 : H0 L = none) (n3 : H0 T = none) (n4 : H0 O = none) (y1 : H' i = some (.lst [.int 0, .int 1])) (y2 : H' L = some (.lst [.ref i])) (y3 : H' T = some (.lst [])) (y4 : H' O = some (.lst [.ref L, .ref T, .int 2])) :
    OwnIn H' O Fr.at0 fun b => H0 b = none ∧ (H' b).isSome = true := by
  refine ⟨L, T, [.ref i], [], ⟨y4, y2, .cons ⟨i, rfl, y1⟩ .nil, y3, .nil⟩, ⟨n4, by rw [y4]; rfl⟩, ⟨n2, by rw [y2]; rfl⟩, ⟨n3, by rw [y3]; rfl⟩, fun b hb => ?_, fun b hb => by cases hb⟩
  have : b = i := by simpa using hb
  rw [this]
  exact ⟨n1, by rw [y1]; rfl⟩
theorem ok_law {f f1 f2 f3 f4 f5 f6 f7 C : Addr} {fd d1 d2 d3 d4 d5 d6 d7 : FuncData} (U : Fun K "law" "law" sLaw f fd) (T : TxtN mg) (TM : TxtM mg) (X : FCls K C) (MF : Mk K C f1) (mF : mg "Front" = some (.ref C)) (GI : UseM P w K mg base C 1 "__init__" ["self"] (spInit C) f1 d1)
    (GP : Use P w K mg base 2 "_law_pot" ["_law_script", "_law_k"] (spPot K) f2 d2) (GD : Use P w K mg base 1 "_law_digit" ["_law_pot_here", "_law_base"] spDigit f3 d3) (GA : Use P w K mg base 5 "_law_all_refused" ["_law_front", "_law_own"] (spSame C) f4 d4)
    (GL : Use P w K mg base 4 "_law_letter_drawn" ["_law_pot_here", "_law_own"] spDrawn f5 d5) (GU : Use P w K mg base 3 "_law_put" ["_law_front", "_law_letter"] spLPut f6 d6) (GF : UseM P w K mg base C 3 "put" ["self", "letter"] (spPut C) f7 d7) :
    FnOk P w K mg base CX0 6 f fd ["_law_script"] (spLaw K) := by
  refine U.ok scLaw (fun vs H Q E h => ?_) (fun cdv A outer s H vs Q E hr h => ?_)
  · obtain ⟨a, ns, rfl, _⟩ := h
    rfl
  · obtain ⟨a, ns, rfl, hns, hnl, q⟩ := h
    have hr1 := hr.mono (show 1 ≤ 5 by decide)
    have hr2 := hr.mono (show 2 ≤ 5 by decide)
    have hr3 := hr.mono (show 3 ≤ 5 by decide)
    have hr4 := hr.mono (show 4 ≤ 5 by decide)
    rw [body_eq]
    refine ⟨_, pss_cons (ps_set (i := 1) scLaw.nd rfl (Or.inl rfl) (pe_make0 MF GI.g hr2 rfl mF GI.b .nil pass0))
      (pss_cons (ps_own1 scLaw.nd rfl (Or.inl rfl) (Or.inl rfl))
      (pss_cons (ps_set (i := 3) scLaw.nd rfl (Or.inl rfl) (pe_call GP.g hr2 rfl GP.m GP.k GP.b .nil pass0 (pa_cons (pv 0) (pa_cons pe_int pa_nil))))
      (pss_cons (ps_if (pt_not (pt_val (pe_call GA.g hr rfl GA.m GA.k GA.b .nil pass0 (pa_cons (pv 1) (pa_cons (pv 2) pa_nil))))) pss_never pss_nil)
      (pss_cons (ps_for PassesOwn.never rfl (pi_range1 rfl T.range (pa_cons (pe_callB (call_min2 rfl) (by rfl) TM.min PyProof.Rows.boot_min (pa_cons (pe_call GD.g hr1 rfl GD.m GD.k GD.b .nil pass0 (pa_cons (pv 3) (pa_cons pe_int pa_nil))) (pa_cons (pe_op op_add pe_int (pe_op op_mul pe_int (pe_callB call_len_seq (by rfl) T.len PySem.boot_len (pa_cons (pv 0) pa_nil)))) pa_nil))) pa_nil)) (pg_name (i := 4) scLaw.nd rfl (Or.inl rfl))
        (pss_cons (ps_if (pt_cmpR (op_neD hr.units) (pe_ix ix_list (pv 2) pe_int (fun _ _ => rfl)) (pe_lst pa_nil) (nomark _)) (pss_cons (ps_set (i := 5) scLaw.nd rfl (Or.inl rfl) (pe_call GL.g hr4 rfl GL.m GL.k GL.b .nil pass0 (pa_cons (pv 3) (pa_cons (pv 2) pa_nil))))
            (pss_cons (ps_set (i := 6) scLaw.nd rfl (Or.inl rfl) (pe_call GU.g hr3 rfl GU.m GU.k GU.b .nil pass0 (pa_cons (pv 2) (pa_cons (pv 5) pa_nil))))
            (pss_one (ps_if (pt_cmpR op_ne (pe_callB (call_repr hr.units hr.gu) (by rfl) TM.repr PyProof.Rows.boot_repr (pa_cons (pe_meth (pv 1) X.cl GF.m GF.g hr3 GF.b .nil pass0 (pa_cons (pv 5) pa_nil)) pa_nil)) (pe_callB (call_repr hr.units hr.gu) (by rfl) TM.repr PyProof.Rows.boot_repr (pa_cons (pv 6) pa_nil)) (nomark _)) pss_never pss_nil)))) pss_nil)
        (pss_one (ps_if (PW.pt (pw_and (pt_cmpR op_eq (pe_call GD.g hr1 rfl GD.m GD.k GD.b .nil pass0 (pa_cons (pv 3) (pa_cons pe_int pa_nil))) pe_int (nomark _)) (pw_and1 (pt_not (pt_val (pe_call GA.g hr rfl GA.m GA.k GA.b .nil pass0 (pa_cons (pv 1) (pa_cons (pv 2) pa_nil)))))))) pss_never pss_nil))))
      (pss_one (ps_ret (pe_call GA.g hr rfl GA.m GA.k GA.b .nil pass0 (pa_cons (pv 1) (pa_cons (pv 2) pa_nil))))))))), ?_⟩
    have hline := line5000
    have o0 : ∀ x y z : V, atI [x, y, z] 0 = some x := fun _ _ _ => rfl
    refine fun F0 x0 h1 h2 h3 => ⟨F0, x0, rfl, upd_same, fun Ha R0 M0 D0 W0 vr0 bt0 Z0 hR0 hM0 hD0 hW0 hv0 => ⟨rfl, ?_⟩⟩
    obtain ⟨sa, fa⟩ := make_got h1 h2 bt0 Z0 hR0 hM0 hD0 hW0 hv0
    refine ⟨lit2, fun i0 a0 => ?_⟩
    (generalize hNX : upd Ha i0 _ = Hp0; have sp0 := same_of a0 hNX; have yp0 := at_of hNX; clear hNX)
    refine ⟨lit1, fun L0 b0 => ?_⟩
    (generalize hNX : upd Hp0 L0 _ = Hq0; have sq0 := same_of b0 hNX; have yq0 := at_of hNX; clear hNX)
    refine ⟨Nat.zero_le _, fun T0 c0 => ?_⟩
    (generalize hNX : upd Hq0 T0 _ = Hr0; have sr0 := same_of c0 hNX; have yr0 := at_of hNX; clear hNX)
    refine ⟨lit3, fun O0 d0 => ?_⟩
    (generalize hNX : upd Hr0 O0 _ = Hs0; have ss0 := same_of d0 hNX; have ys0 := at_of hNX; clear hNX)
    have u0 := ((sp0.trans sq0).trans sr0).trans ss0
    have own0 := own_new (H0 := Ha) (H' := Hs0) a0 (sp0.free b0) ((sp0.trans sq0).free c0) (((sp0.trans sq0).trans sr0).free d0) (((sq0.trans sr0).trans ss0) _ _ yp0) ((sr0.trans ss0) _ _ yq0) (ss0 _ _ yr0) ys0
    have qf := sa.trans u0
    refine ⟨_, rfl, a, ns, 1, rfl, sqL_same qf hns, by decide, by decide, fun p Hg hp sg yg => ?_⟩
    have qg := qf.trans sg
    have held : ∃ col, Held1 C Hg p F0 O0 Fr.at0 (potOf ns 1) 0 col := by
      refine ⟨fun b => if (Ha b).isSome then 1 else if (Hs0 b).isSome then 2 else 5, ?_⟩
      refine ⟨yg, mixed_ok ns (by decide) (by decide), ?_, ?_, ?_, ok0, Nat.le_refl _⟩
      · have e0 := hp
        have e1 := u0.free e0
        simp [e0, e1]
      · refine fa.move fun b o c e => ⟨(u0.trans sg) _ _ e, ?_⟩
        simp [c.2]
      · refine own0.move fun b o c e => ⟨sg _ _ e, ?_⟩
        simp [c.1, c.2]
    obtain ⟨col, held⟩ := held
    obtain ⟨Rz, Mz, Dz, Wz, dxz, Lz, Tz, vrz, vmz, vlz, vtz, Xz, Yz⟩ := held.both
    refine ⟨_, rfl, _, rfl, F0, O0, Rz, Mz, Dz, Wz, dxz, Lz, Tz, vrz, vmz, vlz, vtz, Fr.at0, rfl, Xz, Yz, held.ok, by decide, fun H1 s1 => ⟨_, rfl, ?_⟩⟩
    refine iteF ?_
    have held1 := held.same s1
    have hd31 := digO_pos (q := potOf ns 1) (b := 31) (by decide)
    refine ⟨_, rfl, p, potOf ns 1, 31, rfl, held1.pt, held1.pk, by decide, log_small (by decide) (by decide), ?_⟩
    have npH : H p = none := qf.free hp
    have sH1 := qg.trans s1
    (generalize hNX : upd H1 p _ = H2; have k2 := wr_of hNX; have y2 := at_of hNX; clear hNX)
    have held2 : Held1 C H2 p F0 O0 Fr.at0 (nxt (potOf ns 1) 31) 0 col := held1.pot (fun b o n e => (k2 b n).trans e) y2 (nxt_ok held1.pk)
    have sH2 : Same H H2 := fun b o e => (k2 b (ne_of_none e npH)).trans (sH1 _ _ e)
    have hmn : ∃ mn : Nat, mn ≤ 31 ∧ (if 1 + 10 * (((ns.map V.int).length : Nat) : Int) < digO (potOf ns 1) 31 then 1 + 10 * (((ns.map V.int).length : Nat) : Int) else digO (potOf ns 1) 31) = (mn : Int) := by
      rw [List.length_map]
      split
      · exact ⟨1 + 10 * ns.length, by omega, by omega⟩
      · exact ⟨(digO (potOf ns 1) 31).toNat, by omega, by omega⟩
    obtain ⟨mn, hmn, emn⟩ := hmn
    refine ⟨_, rfl, a, _, rfl, .inl (sqL_same sH2 hns), _, _, rfl, rfl, .inl ⟨by decide, by decide⟩, _, _, rfl, rfl, _, _, rfl, (mn : Int), congrArg (fun v => [V.int v]) emn, by omega, by omega, for_range (n := (mn : Int).toNat) (fun i σ H' => ∃ v4 v5 v6 fr pq col, σ = [some (V.ref a), some (.ref F0), some (.ref O0), some (.ref p), v4, v5, v6] ∧ Held1 C H' p F0 O0 fr pq i col) ⟨none, none, none, _, _, _, rfl, held2⟩ ?_ ?_⟩
    · rintro i σ H6 hi ⟨v4, v5, v6, fr, pq, col', rfl, h6⟩
      have hi' : i < 31 := by omega
      obtain ⟨Ra, Ma, Da, Wa, da, La, Ta, ra, ma, la, ta, Xa, Ya⟩ := h6.both
      refine ⟨_, rfl, O0, _, _, _, rfl, rfl, SqL.of Ya.o, o0 _ _ _, Nat.zero_le _, fun p1 g1' => ?_⟩
      (generalize hNX : upd H6 p1 _ = H8; have s8 := same_of g1' hNX; have y8 := at_of hNX; clear hNX)
      have Y8 := Ya.same s8
      have h8 := h6.same s8
      refine ⟨_, _, .lst (SqL.of Y8.l) (dts_lps Y8.p), .lst (SqL.of y8) .nil, Nat.le_trans (dep_lpsD fr.ls) (by decide), _, rfl, ?_⟩
      rw [if_pos rfl, eqv_nil]
      have ok := h8.ok
      have hts : fr.ts.length ≤ 300 := Nat.le_trans h8.ts (by omega)
      refine' viaS (Cd := fun σ H' => ∃ v5 v6 fr pq col, σ = [some (V.ref a), some (.ref F0), some (.ref O0), some (.ref p), some (.int (0 + (i : Int))), v5, v6] ∧ Held1 C H' p F0 O0 fr pq (i + 1) col) _ ?tail ?main
      case main =>
        intro tail
        rcases List.eq_nil_or_concat fr.ls with e | ⟨ah, loop, e⟩
        rotate_left
        · rw [List.concat_eq_append] at e
          refine iteP (by rw [e]; simp [lpsD]) ?_
          have hne : fr.ls ≠ [] := by rw [e]; simp
          obtain ⟨L9, T9, vl9, vt9, Y9, sO, sL, sT, sl, _⟩ := h8.own
          refine ⟨_, rfl, _, rfl, p, O0, L9, T9, pq, vl9, vt9, fr, rfl, h8.pt, h8.pk, Y9, fun z => ?_, fun z => ?_, fun z => ?_, fun z => ?_, ok, hts, hne, fun tl a' pq' H' bt yp kp htl hca => ?_⟩
          · rw [← z, h8.cp] at sO; omega
          · rw [← z, h8.cp] at sL; omega
          · rw [← z, h8.cp] at sT; omega
          · have : col' p = 2 := sl p z
            rw [h8.cp] at this; omega
          have h' := h8.pot bt yp kp
          obtain ⟨x, hx⟩ := Option.isSome_iff_exists.mp hca.2
          obtain ⟨L9, T9, vl9, vt9, Y9, sO, sL, sT, sl, st⟩ := h'.own
          obtain ⟨R9, M9, D9, W9, dx9, vr9, vm9, X9, sF, sR, sM, sD, sW, sr, sm⟩ := h'.front
          refine ⟨_, rfl, _, rfl, O0, tl, L9, T9, vl9, vt9, fr, ah, loop, a', x, rfl, Y9, ok, hts, e, htl, hca.1, hx, fun t' Hb vl' vt' b3 yt Y' nl nt => ?_⟩
          have kL : ∀ b o, col' b ≠ 2 → H' b = some o → Hb b = some o := fun b o c z => b3 b o (fun y => c (by rw [y]; exact sO)) (fun y => c (by rw [y]; exact sL)) (fun y => c (by rw [y]; exact sT)) z
          have X2 : FAt C Hb F0 R9 M9 D9 W9 dx9 vr9 vm9 fr := X9.moveC (S := fun b => col' b = 1) sF sR sM sD sW sr sm fun b o c z => kL b o (by omega) z
          have tl2 : Hb tl = some (.tup (ltV a')) := b3 tl _ (ne_of htl Y9.o (by intro z; cases z)) (ne_of htl Y9.l (by intro z; cases z)) (ne_of htl Y9.t (by intro z; cases z)) htl
          refine ⟨_, rfl, F0, dx9, _, rfl, X2.o, rfl, _, rfl, F0, tl, R9, M9, D9, W9, dx9, vr9, vm9, fr, ah, loop, a', x, rfl, X2, ok, hts, e, tl2, hca.1, hx, fun t2 Hc R' vr' vm' b4 yt2 X3 hR nr nm => ?_⟩
          obtain ⟨kd, xd, _⟩ := X2.d
          obtain ⟨kw, xw, _⟩ := X2.w
          have yt3 : Hc t' = some (.tup [.int (g1 loop : Int), .int (g2 loop : Int), .int (x : Int)]) := b4 t' _ (ne_of yt X2.o (by intro z; cases z)) (ne_of yt X2.m (by intro z; cases z)) (ne_of yt xd (by intro z; cases z)) (ne_of yt xw (by intro z; cases z)) yt
          have okp := ok_put ok hca.1 hx
          have ep : fr.put a' x = ⟨stepOf ah loop a' x, fr.ts ++ [(g1 loop, g2 loop, x)], max fr.n (x + 1)⟩ := by
            generalize fr = ff at e
            obtain ⟨ls, ts, n⟩ := ff
            dsimp only at e
            rw [e, put_at]
          have sz := ok_small okp (by rw [ep]; show (_ ++ [_]).length ≤ 300; rw [List.length_append, List.length_singleton]; have := h8.ts; omega)
          have sz3 := sz.2.1 (g1 loop, g2 loop, x) (by rw [ep]; simp)
          have a1 := tell_tr (K := K) sz3.1 sz3.2.1 sz3.2.2 yt2
          have a2 := tell_tr (K := K) sz3.1 sz3.2.1 sz3.2.2 yt3
          refine ⟨.ref t2, _, rfl, a1.dt, a1.sb, a1.dp, a1.ln, _, rfl, .ref t', _, rfl, a2.dt, a2.sb, a2.dp, a2.ln, rfl, _, rfl, ?_⟩
          rw [decide_eq_true rfl]
          refine iteF ?_
          obtain ⟨col2, h9⟩ := h'.put Y9 sO sL sT sl st b3 Y' nl nt X9 sF sR sM sD sW sr sm b4 X3 hR nr nm okp (by rw [ep]; show (_ ++ [_]).length ≤ _; rw [List.length_append, List.length_singleton]; have := h8.ts; omega)
          obtain ⟨σ1, hσ1⟩ : ∃ σ1 : St, σ1 = [some (V.ref a), some (.ref F0), some (.ref O0), some (.ref p), some (.int (0 + (i : Int))), some (.ref tl), some (.ref t')] := ⟨_, rfl⟩
          show tNext _ [some (V.ref a), some (.ref F0), some (.ref O0), some (.ref p), some (.int (0 + (i : Int))), some (.ref tl), some (.ref t')] Hc
          rw [← hσ1]
          exact tail σ1 Hc ⟨_, _, _, _, _, hσ1, h9⟩
        · rw [e]
          refine iteF ?_
          exact tail _ H8 ⟨_, _, _, _, _, rfl, h8.mono (Nat.le_succ _)⟩
      case tail =>
        rintro σ H' ⟨v5, v6, fr, pq, col, rfl, h'⟩
        refine ⟨_, rfl, p, pq, 4, rfl, h'.pt, h'.pk, by decide, log_small (by decide) (by decide), ?_⟩
        (generalize hNX : upd H' p _ = Hx; have kx := wr_of hNX; have yx := at_of hNX; clear hNX)
        have hx : Held1 C Hx p F0 O0 fr (nxt pq 4) (i + 1) col := h'.pot (fun b o n e => (kx b n).trans e) yx (nxt_ok h'.pk)
        refine ⟨rfl, _, rfl, ?_⟩
        by_cases hd3 : V.int (digO pq 4) = V.int 3
        · rw [decide_eq_true hd3]
          refine iteT ?_
          obtain ⟨Ra, Ma, Da, Wa, da, La, Ta, ra, ma, la, ta, Xa, Ya⟩ := hx.both
          refine ⟨_, rfl, _, rfl, F0, O0, Ra, Ma, Da, Wa, da, La, Ta, ra, ma, la, ta, fr, rfl, Xa, Ya, hx.ok, Nat.le_trans hx.ts (by omega), fun Hy sy => ⟨_, rfl, iteF ?_⟩⟩
          exact ⟨_, _, _, _, _, _, rfl, hx.same sy⟩
        · rw [decide_eq_false hd3]
          exact iteF (iteF ⟨_, _, _, _, _, _, rfl, hx⟩)
    · rintro σ H6 ⟨v4, v5, v6, fr, pq, col', rfl, h6⟩
      obtain ⟨Ra, Ma, Da, Wa, da, La, Ta, ra, ma, la, ta, Xa, Ya⟩ := h6.both
      exact ⟨_, rfl, _, rfl, F0, O0, Ra, Ma, Da, Wa, da, La, Ta, ra, ma, la, ta, fr, rfl, Xa, Ya, h6.ok, Nat.le_trans h6.ts (by omega), fun H7 s7 => q H7⟩
end
end K31
end
section
set_option Elab.async false
set_option linter.all false
namespace K31
open PySem L2 K51
theorem isL_of {vs : List V} {H : Hp} {Q : VK} {E : XK} (h : spIsLetter vs H Q E) : spIsL vs H Q E := by
  obtain ⟨t, a, rfl, ht, ha, q⟩ := h
  exact ⟨.ref t, true, rfl, isL_lt ht ha, q⟩
end K31
end
section
set_option Elab.async false
set_option linter.all false
set_option maxRecDepth 100000
set_option maxHeartbeats 8000000
namespace K31
open PySem L2 K51
theorem len1 {us : List Value} (h : us.length = 1) : ∃ a, us = [a] := List.length_eq_one_iff.mp h
theorem len2 {us : List Value} (h : us.length = 2) : ∃ a b, us = [a, b] := by
  obtain ⟨a, r, rfl⟩ := List.exists_cons_of_length_eq_add_one h
  obtain ⟨b, rfl⟩ := len1 (Nat.succ.inj h)
  exact ⟨a, b, rfl⟩
theorem len3 {us : List Value} (h : us.length = 3) : ∃ a b c, us = [a, b, c] := by
  obtain ⟨a, r, rfl⟩ := List.exists_cons_of_length_eq_add_one h
  obtain ⟨b, c, rfl⟩ := len2 (Nat.succ.inj h)
  exact ⟨a, b, c, rfl⟩
theorem len4 {us : List Value} (h : us.length = 4) : ∃ a b c d, us = [a, b, c, d] := by
  obtain ⟨a, r, rfl⟩ := List.exists_cons_of_length_eq_add_one h
  obtain ⟨b, c, d, rfl⟩ := len3 (Nat.succ.inj h)
  exact ⟨a, b, c, d, rfl⟩
structure Top (K : PySem.W.Frag) (mg : Str → Option Value) (x : Str) (st : Stmt) (f : Addr) (fd : FuncData) : Prop where
  u : Fun K x x st f fd
  m : mg x = some (.ref f)
structure InC (K : PySem.W.Frag) (C : Addr) (x q : Str) (st : Stmt) (f : Addr) (fd : FuncData) : Prop where
  u : Fun K x q st f fd
  m : Meth K C x f
theorem top_mk {K : PySem.W.Frag} {h : Heap} {mg : Str → Option Value} {x : Str} {st : Stmt} {f : Addr} {oc : Value} {od an : Option Addr} {osl : Array (Option Value)} {kV doc pm cdv ct : Value} (X : K.In h) (G : h.Ns mainGlobals mg)
    (a : PySem.W.nsIn K mainGlobals x = some (some (.ref f))) (l : K.lookup f = some ⟨oc, od, .func (PySem.W.fnOf x x (defArgs st) (defBody st) (defScope st) .none kV doc pm an cdv ct), osl⟩) (c : PySem.W.codeIn K cdv x = true) (k : PySem.W.keepIn K (.ref f) = true) :
    Top K mg x st f (PySem.W.fnOf x x (defArgs st) (defBody st) (defScope st) .none kV doc pm an cdv ct) := ⟨fun_mk (st := st) l c k, PySem.W.mg_of X G a⟩
theorem inC_mk {K : PySem.W.Frag} {C : Addr} {x q : Str} {st : Stmt} {f : Addr} {oc : Value} {od an : Option Addr} {osl : Array (Option Value)} {kV doc pm cdv ct : Value}
    (a : PySem.W.findIn K (.ref C) x = some (some (.ref f))) (i : PySem.W.isFn K (.ref f) = true) (l : K.lookup f = some ⟨oc, od, .func (PySem.W.fnOf x q (defArgs st) (defBody st) (defScope st) .none kV doc pm an cdv ct), osl⟩) (c : PySem.W.codeIn K cdv q = true) (k : PySem.W.keepIn K (.ref f) = true) :
    InC K C x q st f (PySem.W.fnOf x q (defArgs st) (defBody st) (defScope st) .none kV doc pm an cdv ct) := ⟨fun_mk (st := st) l c k, ⟨a, i, k⟩⟩
theorem cls_mk {K : PySem.W.Frag} {C : Addr} {od : Option Addr} {cd : ClassData} {sl : Array (Option Value)} {bm : List Value} {k0 k1 k2 k3 k5 : Option Value} (l : K.lookup C = some ⟨.type "type", od, .cls cd, sl⟩) (m : cd.mro = .ref C :: bm)
    (e : sl.toList = [k0, k1, k2, k3, some (.builtin "ValueError.__new__"), k5]) (d : cd.hasDel = false) : L2.clsIn K C = some bm := by
  unfold L2.clsIn
  simp only [l, m, e, d]
  simp
theorem exm_of {K : PySem.W.Frag} {Ce c : Addr} (h1 : PySem.W.mroIn K c (.type "BaseException") = some true) (h2 : PySem.W.kitOne K (.ref Ce) (.ref c) = some false) : PySem.W.exmOne K (.ref Ce) (.ref c) = some false := by
  unfold PySem.W.exmOne
  rw [if_pos (by show (PySem.W.subIn K (.ref c) _ == some true) = true; show (PySem.W.mroIn K c _ == some true) = true; rw [h1]; rfl)]
  unfold PySem.W.kitOne at h2
  split at h2
  · cases h2
  · exact h2
theorem len0 {us : List Value} (h : us.length = 0) : us = [] := List.length_eq_zero_iff.mp h
section
variable {P : Program} {w : World} {K : PySem.W.Frag} {mg : Str → Option Value} {base : Heap}
theorem all_ok {f1 f2 f3 f4 f5 f6 f7 f8 f9 f10 f11 f12 f13 f14 f15 f16 f17 f18 f19 f20 f21 f22 f23 f24 f25 f26 f27 f28 f29 f30 f31 f32 f33 f34 f35 C S Ce Sh k1' k2' k3' k4' k5' : Addr} {d1 d2 d3 d4 d5 d6 d7 d8 d9 d10 d11 d12 d13 d14 d15 d16 d17 d18 d19 d20 d21 d22 d23 d24 d25 d26 d27 d28 d29 d30 d31 d32 d33 d34 d35 : FuncData} (T : TxtN mg) (TM : TxtM mg) (kt : KitF K) (kn : KitN K) (Z : NoL K mg Ce) (Y : Ex5 K mg Ce Sh k1' k2' k3' k4' k5') (X : FCls K C) (MF : Mk K C f27) (mF : mg "Front" = some (.ref C)) (mS : mg "PLAIN_SIGNS" = some (.ref S)) (hS : ∀ H, SqT K H S [.str (txt [67]), .str (txt [82]), .str (txt [76]), .str (txt [69])])
    (U1 : Top K mg "is_whole" sWhole f1 d1)
    (U2 : Top K mg "is_letter" sIsLetter f2 d2)
    (U3 : Top K mg "come_anew" sAnew f3 d3)
    (U4 : Top K mg "gone_right" sRight f4 d4)
    (U5 : Top K mg "gone_left" sLeft f5 d5)
    (U6 : Top K mg "loop_ended" sEnded f6 d6)
    (U7 : Top K mg "loop_parted" sParted f7 d7)
    (U8 : Top K mg "loops_joined" sJoined f8 d8)
    (U9 : Top K mg "outcome" sOutcome f9 d9)
    (U10 : Top K mg "_law_at" sAt f10 d10)
    (U11 : Top K mg "_law_pot" sPot f11 d11)
    (U12 : Top K mg "_law_digit" sDigit f12 d12)
    (U13 : Top K mg "_law_thirds" sThirds f13 d13)
    (U14 : Top K mg "_law_wanted" sWanted f14 d14)
    (U15 : Top K mg "_law_step" sStep f15 d15)
    (U16 : Top K mg "_law_third" sThird f16 d16)
    (U17 : Top K mg "_law_can" sCan f17 d17)
    (U18 : Top K mg "_law_put" sLPut f18 d18)
    (U19 : Top K mg "_law_partings" sPartings f19 d19)
    (U20 : Top K mg "_law_letter_drawn" sDrawn f20 d20)
    (U21 : Top K mg "_law_same" sSame f21 d21)
    (U22 : Top K mg "_law_things" sThings f22 d22)
    (U23 : Top K mg "_law_letters" sLetters f23 d23)
    (U24 : Top K mg "_law_refused" sRefused f24 d24)
    (U25 : Top K mg "_law_all_refused" sAllRef f25 d25)
    (U26 : Top K mg "law" sLaw f26 d26)
    (U27 : InC K C "__init__" "Front.__init__" sInit f27 d27)
    (U28 : InC K C "loops" "Front.loops" sLoops f28 d28)
    (U29 : InC K C "gate" "Front.gate" sGate f29 d29)
    (U30 : InC K C "come" "Front.come" sCome f30 d30)
    (U31 : InC K C "triples" "Front.triples" sTriples f31 d31)
    (U32 : InC K C "put" "Front.put" sPut f32 d32)
    (U33 : InC K C "look_sides_through" "Front.look_sides_through" sLook f33 d33)
    (U34 : InC K C "is_known" "Front.is_known" sKnown f34 d34)
    (U35 : InC K C "take_sides" "Front.take_sides" sTake f35 d35)
    : FnOk P w K mg base CX0 6 f26 d26 ["_law_script"] (spLaw K) := by
  have b1 := U1.u.binds (ps := ["thing"]) fun _ _ _ _ _ _ us hl => by obtain ⟨a, rfl⟩ := len1 hl; rfl
  have b2 := U2.u.binds (ps := ["thing"]) fun _ _ _ _ _ _ us hl => by obtain ⟨a, rfl⟩ := len1 hl; rfl
  have b3 := U3.u.binds (ps := ["ahead", "loop", "fresh"]) fun _ _ _ _ _ _ us hl => by obtain ⟨a, b, c, rfl⟩ := len3 hl; rfl
  have b4 := U4.u.binds (ps := ["ahead", "loop"]) fun _ _ _ _ _ _ us hl => by obtain ⟨a, b, rfl⟩ := len2 hl; rfl
  have b5 := U5.u.binds (ps := ["ahead", "loop"]) fun _ _ _ _ _ _ us hl => by obtain ⟨a, b, rfl⟩ := len2 hl; rfl
  have b6 := U6.u.binds (ps := ["ahead", "loop"]) fun _ _ _ _ _ _ us hl => by obtain ⟨a, b, rfl⟩ := len2 hl; rfl
  have b7 := U7.u.binds (ps := ["ahead", "loop", "k"]) fun _ _ _ _ _ _ us hl => by obtain ⟨a, b, c, rfl⟩ := len3 hl; rfl
  have b8 := U8.u.binds (ps := ["ahead", "loop", "j", "k"]) fun _ _ _ _ _ _ us hl => by obtain ⟨a, b, c, d, rfl⟩ := len4 hl; rfl
  have b9 := U9.u.binds (ps := ["rows", "letter", "fresh"]) fun _ _ _ _ _ _ us hl => by obtain ⟨a, b, c, rfl⟩ := len3 hl; rfl
  have b10 := U10.u.binds (ps := ["_law_script", "_law_k"]) fun _ _ _ _ _ _ us hl => by obtain ⟨a, b, rfl⟩ := len2 hl; rfl
  have b11 := U11.u.binds (ps := ["_law_script", "_law_k"]) fun _ _ _ _ _ _ us hl => by obtain ⟨a, b, rfl⟩ := len2 hl; rfl
  have b12 := U12.u.binds (ps := ["_law_pot_here", "_law_base"]) fun _ _ _ _ _ _ us hl => by obtain ⟨a, b, rfl⟩ := len2 hl; rfl
  have b13 := U13.u.binds (ps := ["_law_triples"]) fun _ _ _ _ _ _ us hl => by obtain ⟨a, rfl⟩ := len1 hl; rfl
  have b14 := U14.u.binds (ps := ["_law_loops"]) fun _ _ _ _ _ _ us hl => by obtain ⟨a, rfl⟩ := len1 hl; rfl
  have b15 := U15.u.binds (ps := ["_law_loops", "_law_letter", "_law_x"]) fun _ _ _ _ _ _ us hl => by obtain ⟨a, b, c, rfl⟩ := len3 hl; rfl
  have b16 := U16.u.binds (ps := ["_law_front", "_law_letter"]) fun _ _ _ _ _ _ us hl => by obtain ⟨a, b, rfl⟩ := len2 hl; rfl
  have b17 := U17.u.binds (ps := ["_law_front", "_law_letter"]) fun _ _ _ _ _ _ us hl => by obtain ⟨a, b, rfl⟩ := len2 hl; rfl
  have b18 := U18.u.binds (ps := ["_law_front", "_law_letter"]) fun _ _ _ _ _ _ us hl => by obtain ⟨a, b, rfl⟩ := len2 hl; rfl
  have b19 := U19.u.binds (ps := ["_law_front"]) fun _ _ _ _ _ _ us hl => by obtain ⟨a, rfl⟩ := len1 hl; rfl
  have b20 := U20.u.binds (ps := ["_law_pot_here", "_law_own"]) fun _ _ _ _ _ _ us hl => by obtain ⟨a, b, rfl⟩ := len2 hl; rfl
  have b21 := U21.u.binds (ps := ["_law_front", "_law_own"]) fun _ _ _ _ _ _ us hl => by obtain ⟨a, b, rfl⟩ := len2 hl; rfl
  have b22 := U22.u.binds (ps := []) fun _ _ _ _ _ _ us hl => by obtain rfl := len0 hl; rfl
  have b23 := U23.u.binds (ps := ["_law_own"]) fun _ _ _ _ _ _ us hl => by obtain ⟨a, rfl⟩ := len1 hl; rfl
  have b24 := U24.u.binds (ps := ["_law_front", "_law_letter"]) fun _ _ _ _ _ _ us hl => by obtain ⟨a, b, rfl⟩ := len2 hl; rfl
  have b25 := U25.u.binds (ps := ["_law_front", "_law_own"]) fun _ _ _ _ _ _ us hl => by obtain ⟨a, b, rfl⟩ := len2 hl; rfl
  have b27 := U27.u.binds (ps := ["self"]) fun _ _ _ _ _ _ us hl => by obtain ⟨a, rfl⟩ := len1 hl; rfl
  have b28 := U28.u.binds (ps := ["self"]) fun _ _ _ _ _ _ us hl => by obtain ⟨a, rfl⟩ := len1 hl; rfl
  have b29 := U29.u.binds (ps := ["self"]) fun _ _ _ _ _ _ us hl => by obtain ⟨a, rfl⟩ := len1 hl; rfl
  have b30 := U30.u.binds (ps := ["self"]) fun _ _ _ _ _ _ us hl => by obtain ⟨a, rfl⟩ := len1 hl; rfl
  have b31 := U31.u.binds (ps := ["self"]) fun _ _ _ _ _ _ us hl => by obtain ⟨a, rfl⟩ := len1 hl; rfl
  have b32 := U32.u.binds (ps := ["self", "letter"]) fun _ _ _ _ _ _ us hl => by obtain ⟨a, b, rfl⟩ := len2 hl; rfl
  have b33 := U33.u.binds (ps := ["self", "sign", "x"]) fun _ _ _ _ _ _ us hl => by obtain ⟨a, b, c, rfl⟩ := len3 hl; rfl
  have b34 := U34.u.binds (ps := ["self", "p", "q"]) fun _ _ _ _ _ _ us hl => by obtain ⟨a, b, c, rfl⟩ := len3 hl; rfl
  have b35 := U35.u.binds (ps := ["self", "sides"]) fun _ _ _ _ _ _ us hl => by obtain ⟨a, b, rfl⟩ := len2 hl; rfl
  have u1 : Use P w K mg base 1 "is_whole" ["thing"] spWholeG f1 d1 := ⟨ok_wholeG U1.u T kt kn, b1, U1.m, U1.u.kp⟩
  have u2 : Use P w K mg base 2 "is_letter" ["thing"] spIsL f2 d2 := ⟨ok_isL U2.u T kt kn u1 mS hS, b2, U2.m, U2.u.kp⟩
  have v2 : Use P w K mg base 2 "is_letter" ["thing"] spIsLetter f2 d2 := ⟨u2.g.imp fun vs H Q E h => isL_of h, b2, U2.m, U2.u.kp⟩
  have u3 : Use P w K mg base 1 "come_anew" ["ahead", "loop", "fresh"] spAnew f3 d3 := ⟨ok_anew U3.u, b3, U3.m, U3.u.kp⟩
  have u4 : Use P w K mg base 1 "gone_right" ["ahead", "loop"] spRight f4 d4 := ⟨ok_right U4.u T, b4, U4.m, U4.u.kp⟩
  have x4 : UseX P w K mg base 1 "gone_right" ["ahead", "loop"] (spRightNo Ce) f4 d4 := ⟨no_right U4.u T Z, b4, U4.m, U4.u.kp⟩
  have u5 : Use P w K mg base 1 "gone_left" ["ahead", "loop"] spLeft f5 d5 := ⟨ok_left U5.u T, b5, U5.m, U5.u.kp⟩
  have x5 : UseX P w K mg base 1 "gone_left" ["ahead", "loop"] (spRightNo Ce) f5 d5 := ⟨no_left U5.u T Z, b5, U5.m, U5.u.kp⟩
  have u6 : Use P w K mg base 1 "loop_ended" ["ahead", "loop"] spEnded f6 d6 := ⟨ok_ended U6.u T, b6, U6.m, U6.u.kp⟩
  have x6 : UseX P w K mg base 1 "loop_ended" ["ahead", "loop"] (spEndedNo Ce) f6 d6 := ⟨no_ended U6.u T Z, b6, U6.m, U6.u.kp⟩
  have u7 : Use P w K mg base 1 "loop_parted" ["ahead", "loop", "k"] spParted f7 d7 := ⟨ok_parted U7.u T, b7, U7.m, U7.u.kp⟩
  have x7 : UseX P w K mg base 1 "loop_parted" ["ahead", "loop", "k"] (spPartedNo Ce) f7 d7 := ⟨no_parted U7.u T Z, b7, U7.m, U7.u.kp⟩
  have u8 : Use P w K mg base 1 "loops_joined" ["ahead", "loop", "j", "k"] spJoined f8 d8 := ⟨ok_joined U8.u T, b8, U8.m, U8.u.kp⟩
  have x8 : UseX P w K mg base 1 "loops_joined" ["ahead", "loop", "j", "k"] (spJoinedNo Ce) f8 d8 := ⟨no_joined U8.u T Z, b8, U8.m, U8.u.kp⟩
  have u9 : Use P w K mg base 2 "outcome" ["rows", "letter", "fresh"] spOutcome f9 d9 := ⟨ok_outcome U9.u u3 u4 u5 u6 u7 u8, b9, U9.m, U9.u.kp⟩
  have x9 : UseX P w K mg base 2 "outcome" ["rows", "letter", "fresh"] (spOutEither Ce) f9 d9 := ⟨FnOk.or u9.g.lift (no_outcome U9.u x4 x5 x6 x7 x8), b9, U9.m, U9.u.kp⟩
  have u11 : Use P w K mg base 2 "_law_pot" ["_law_script", "_law_k"] (spPot K) f11 d11 := ⟨ok_pot U11.u U10.u b10 U10.m U10.u.kp T, b11, U11.m, U11.u.kp⟩
  have u12 : Use P w K mg base 1 "_law_digit" ["_law_pot_here", "_law_base"] spDigit f12 d12 := ⟨ok_digit U12.u, b12, U12.m, U12.u.kp⟩
  have u13 : Use P w K mg base 1 "_law_thirds" ["_law_triples"] spThirds f13 d13 := ⟨ok_thirds U13.u, b13, U13.m, U13.u.kp⟩
  have u14 : Use P w K mg base 1 "_law_wanted" ["_law_loops"] spWanted f14 d14 := ⟨ok_wanted U14.u T, b14, U14.m, U14.u.kp⟩
  have u15 : Use P w K mg base 1 "_law_step" ["_law_loops", "_law_letter", "_law_x"] spStep f15 d15 := ⟨ok_step U15.u T, b15, U15.m, U15.u.kp⟩
  have u16 : Use P w K mg base 1 "_law_third" ["_law_front", "_law_letter"] spThird f16 d16 := ⟨ok_third U16.u T, b16, U16.m, U16.u.kp⟩
  have u17 : Use P w K mg base 2 "_law_can" ["_law_front", "_law_letter"] spCan f17 d17 := ⟨ok_can U17.u T TM u16 u14 u13, b17, U17.m, U17.u.kp⟩
  have u18 : Use P w K mg base 3 "_law_put" ["_law_front", "_law_letter"] spLPut f18 d18 := ⟨ok_lput U18.u TM u17 u15, b18, U18.m, U18.u.kp⟩
  have u19 : Use P w K mg base 3 "_law_partings" ["_law_front"] spPartings f19 d19 := ⟨ok_partings U19.u T u17, b19, U19.m, U19.u.kp⟩
  have u20 : Use P w K mg base 4 "_law_letter_drawn" ["_law_pot_here", "_law_own"] spDrawn f20 d20 := ⟨ok_drawn U20.u T u17 u12 u19, b20, U20.m, U20.u.kp⟩
  have u27 : UseM P w K mg base C 1 "__init__" ["self"] (spInit C) f27 d27 := ⟨ok_init U27.u X, b27, U27.m⟩
  have u28 : UseM P w K mg base C 1 "loops" ["self"] (spLoops C) f28 d28 := ⟨ok_loops U28.u X T, b28, U28.m⟩
  have u29 : UseM P w K mg base C 1 "gate" ["self"] (spGate C) f29 d29 := ⟨ok_gate U29.u X, b29, U29.m⟩
  have u30 : UseM P w K mg base C 1 "come" ["self"] (spCome C) f30 d30 := ⟨ok_come U30.u X, b30, U30.m⟩
  have u31 : UseM P w K mg base C 1 "triples" ["self"] (spTriples C) f31 d31 := ⟨ok_triples U31.u X T, b31, U31.m⟩
  have u34 : UseM P w K mg base C 1 "is_known" ["self", "p", "q"] (spKnown C) f34 d34 := ⟨ok_known U34.u X TM, b34, U34.m⟩
  have u33 : UseM P w K mg base C 2 "look_sides_through" ["self", "sign", "x"] (spLook C) f33 d33 := ⟨ok_look U33.u X u29 u34, b33, U33.m⟩
  have x33 : UseY P w K mg base C 2 "look_sides_through" ["self", "sign", "x"] (spLookNo C Ce) f33 d33 := ⟨no_look U33.u X Z u29 u34, b33, U33.m⟩
  have u35 : UseM P w K mg base C 1 "take_sides" ["self", "sides"] (spTake C) f35 d35 := ⟨ok_take U35.u X, b35, U35.m⟩
  have u32 : UseM P w K mg base C 3 "put" ["self", "letter"] (spPut C) f32 d32 := ⟨ok_put' U32.u X TM v2 u9 u33 u29 u35, b32, U32.m⟩
  have x32 : UseY P w K mg base C 3 "put" ["self", "letter"] (spPutNo C Ce) f32 d32 := ⟨no_put U32.u X Z u2 x9 x33, b32, U32.m⟩
  have u21 : Use P w K mg base 2 "_law_same" ["_law_front", "_law_own"] (spSame C) f21 d21 := ⟨ok_same U21.u X TM u28 u31 u29 u30, b21, U21.m, U21.u.kp⟩
  have u22 : Use P w K mg base 1 "_law_things" [] spThings f22 d22 := ⟨ok_things U22.u, b22, U22.m, U22.u.kp⟩
  have u23 : Use P w K mg base 3 "_law_letters" ["_law_own"] spLetters f23 d23 := ⟨ok_letters U23.u T u17, b23, U23.m, U23.u.kp⟩
  have u24 : Use P w K mg base 4 "_law_refused" ["_law_front", "_law_letter"] (spRefused C) f24 d24 := ⟨ok_refused U24.u T X Z Y x32, b24, U24.m, U24.u.kp⟩
  have u25 : Use P w K mg base 5 "_law_all_refused" ["_law_front", "_law_own"] (spSame C) f25 d25 := ⟨ok_allRef U25.u u22 u23 u24 u21, b25, U25.m, U25.u.kp⟩
  exact ok_law U26.u T TM X MF mF u27 u11 u12 u25 u20 u18 u32
end
theorem all_mk {l : PySem.W.OpenLaw} {w : World} {K : PySem.W.Frag} {h : Heap} {mg : Str → Option Value} {fa C S Ce Sh k1' k2' k3' k4' k5' : Addr} (X : K.In h) (G : h.Ns mainGlobals mg) (hfa : mg "law" = some (.ref fa))
    {f1 f2 f3 f4 f5 f6 f7 f8 f9 f10 f11 f12 f13 f14 f15 f16 f17 f18 f19 f20 f21 f22 f23 f24 f25 f26 f27 f28 f29 f30 f31 f32 f33 f34 f35 : Addr} {od1 an1 od2 an2 od3 an3 od4 an4 od5 an5 od6 an6 od7 an7 od8 an8 od9 an9 od10 an10 od11 an11 od12 an12 od13 an13 od14 an14 od15 an15 od16 an16 od17 an17 od18 an18 od19 an19 od20 an20 od21 an21 od22 an22 od23 an23 od24 an24 od25 an25 od26 an26 od27 an27 od28 an28 od29 an29 od30 an30 od31 an31 od32 an32 od33 an33 od34 an34 od35 an35 : Option Addr} {sl1 sl2 sl3 sl4 sl5 sl6 sl7 sl8 sl9 sl10 sl11 sl12 sl13 sl14 sl15 sl16 sl17 sl18 sl19 sl20 sl21 sl22 sl23 sl24 sl25 sl26 sl27 sl28 sl29 sl30 sl31 sl32 sl33 sl34 sl35 : Array (Option Value)} {oc1 kV1 dc1 pm1 cd1 ct1 oc2 kV2 dc2 pm2 cd2 ct2 oc3 kV3 dc3 pm3 cd3 ct3 oc4 kV4 dc4 pm4 cd4 ct4 oc5 kV5 dc5 pm5 cd5 ct5 oc6 kV6 dc6 pm6 cd6 ct6 oc7 kV7 dc7 pm7 cd7 ct7 oc8 kV8 dc8 pm8 cd8 ct8 oc9 kV9 dc9 pm9 cd9 ct9 oc10 kV10 dc10 pm10 cd10 ct10 oc11 kV11 dc11 pm11 cd11 ct11 oc12 kV12 dc12 pm12 cd12 ct12 oc13 kV13 dc13 pm13 cd13 ct13 oc14 kV14 dc14 pm14 cd14 ct14 oc15 kV15 dc15 pm15 cd15 ct15 oc16 kV16 dc16 pm16 cd16 ct16 oc17 kV17 dc17 pm17 cd17 ct17 oc18 kV18 dc18 pm18 cd18 ct18 oc19 kV19 dc19 pm19 cd19 ct19 oc20 kV20 dc20 pm20 cd20 ct20 oc21 kV21 dc21 pm21 cd21 ct21 oc22 kV22 dc22 pm22 cd22 ct22 oc23 kV23 dc23 pm23 cd23 ct23 oc24 kV24 dc24 pm24 cd24 ct24 oc25 kV25 dc25 pm25 cd25 ct25 oc26 kV26 dc26 pm26 cd26 ct26 oc27 kV27 dc27 pm27 cd27 ct27 oc28 kV28 dc28 pm28 cd28 ct28 oc29 kV29 dc29 pm29 cd29 ct29 oc30 kV30 dc30 pm30 cd30 ct30 oc31 kV31 dc31 pm31 cd31 ct31 oc32 kV32 dc32 pm32 cd32 ct32 oc33 kV33 dc33 pm33 cd33 ct33 oc34 kV34 dc34 pm34 cd34 ct34 oc35 kV35 dc35 pm35 cd35 ct35 : Value}
    {oS : Obj} {iS : Array Value} {nS : Nat} {y1 y2 y3 y4 : Tok} {odD : Option Addr} {slD : Array (Option Value)} {cD : ClassData} {bmD : List Value} {e0 e1 e2 e3 e5 : Option Value}
    (a1 : PySem.W.nsIn K mainGlobals "is_whole" = some (some (.ref f1))) (l1 : K.lookup f1 = some ⟨oc1, od1, .func (PySem.W.fnOf "is_whole" "is_whole" (defArgs sWhole) (defBody sWhole) (defScope sWhole) .none kV1 dc1 pm1 an1 cd1 ct1), sl1⟩) (c1 : PySem.W.codeIn K cd1 "is_whole" = true) (k1 : PySem.W.keepIn K (.ref f1) = true)
    (a2 : PySem.W.nsIn K mainGlobals "is_letter" = some (some (.ref f2))) (l2 : K.lookup f2 = some ⟨oc2, od2, .func (PySem.W.fnOf "is_letter" "is_letter" (defArgs sIsLetter) (defBody sIsLetter) (defScope sIsLetter) .none kV2 dc2 pm2 an2 cd2 ct2), sl2⟩) (c2 : PySem.W.codeIn K cd2 "is_letter" = true) (k2 : PySem.W.keepIn K (.ref f2) = true)
    (a3 : PySem.W.nsIn K mainGlobals "come_anew" = some (some (.ref f3))) (l3 : K.lookup f3 = some ⟨oc3, od3, .func (PySem.W.fnOf "come_anew" "come_anew" (defArgs sAnew) (defBody sAnew) (defScope sAnew) .none kV3 dc3 pm3 an3 cd3 ct3), sl3⟩) (c3 : PySem.W.codeIn K cd3 "come_anew" = true) (k3 : PySem.W.keepIn K (.ref f3) = true)
    (a4 : PySem.W.nsIn K mainGlobals "gone_right" = some (some (.ref f4))) (l4 : K.lookup f4 = some ⟨oc4, od4, .func (PySem.W.fnOf "gone_right" "gone_right" (defArgs sRight) (defBody sRight) (defScope sRight) .none kV4 dc4 pm4 an4 cd4 ct4), sl4⟩) (c4 : PySem.W.codeIn K cd4 "gone_right" = true) (k4 : PySem.W.keepIn K (.ref f4) = true)
    (a5 : PySem.W.nsIn K mainGlobals "gone_left" = some (some (.ref f5))) (l5 : K.lookup f5 = some ⟨oc5, od5, .func (PySem.W.fnOf "gone_left" "gone_left" (defArgs sLeft) (defBody sLeft) (defScope sLeft) .none kV5 dc5 pm5 an5 cd5 ct5), sl5⟩) (c5 : PySem.W.codeIn K cd5 "gone_left" = true) (k5 : PySem.W.keepIn K (.ref f5) = true)
    (a6 : PySem.W.nsIn K mainGlobals "loop_ended" = some (some (.ref f6))) (l6 : K.lookup f6 = some ⟨oc6, od6, .func (PySem.W.fnOf "loop_ended" "loop_ended" (defArgs sEnded) (defBody sEnded) (defScope sEnded) .none kV6 dc6 pm6 an6 cd6 ct6), sl6⟩) (c6 : PySem.W.codeIn K cd6 "loop_ended" = true) (k6 : PySem.W.keepIn K (.ref f6) = true)
    (a7 : PySem.W.nsIn K mainGlobals "loop_parted" = some (some (.ref f7))) (l7 : K.lookup f7 = some ⟨oc7, od7, .func (PySem.W.fnOf "loop_parted" "loop_parted" (defArgs sParted) (defBody sParted) (defScope sParted) .none kV7 dc7 pm7 an7 cd7 ct7), sl7⟩) (c7 : PySem.W.codeIn K cd7 "loop_parted" = true) (k7 : PySem.W.keepIn K (.ref f7) = true)
    (a8 : PySem.W.nsIn K mainGlobals "loops_joined" = some (some (.ref f8))) (l8 : K.lookup f8 = some ⟨oc8, od8, .func (PySem.W.fnOf "loops_joined" "loops_joined" (defArgs sJoined) (defBody sJoined) (defScope sJoined) .none kV8 dc8 pm8 an8 cd8 ct8), sl8⟩) (c8 : PySem.W.codeIn K cd8 "loops_joined" = true) (k8 : PySem.W.keepIn K (.ref f8) = true)
    (a9 : PySem.W.nsIn K mainGlobals "outcome" = some (some (.ref f9))) (l9 : K.lookup f9 = some ⟨oc9, od9, .func (PySem.W.fnOf "outcome" "outcome" (defArgs sOutcome) (defBody sOutcome) (defScope sOutcome) .none kV9 dc9 pm9 an9 cd9 ct9), sl9⟩) (c9 : PySem.W.codeIn K cd9 "outcome" = true) (k9 : PySem.W.keepIn K (.ref f9) = true)
    (a10 : PySem.W.nsIn K mainGlobals "_law_at" = some (some (.ref f10))) (l10 : K.lookup f10 = some ⟨oc10, od10, .func (PySem.W.fnOf "_law_at" "_law_at" (defArgs sAt) (defBody sAt) (defScope sAt) .none kV10 dc10 pm10 an10 cd10 ct10), sl10⟩) (c10 : PySem.W.codeIn K cd10 "_law_at" = true) (k10 : PySem.W.keepIn K (.ref f10) = true)
    (a11 : PySem.W.nsIn K mainGlobals "_law_pot" = some (some (.ref f11))) (l11 : K.lookup f11 = some ⟨oc11, od11, .func (PySem.W.fnOf "_law_pot" "_law_pot" (defArgs sPot) (defBody sPot) (defScope sPot) .none kV11 dc11 pm11 an11 cd11 ct11), sl11⟩) (c11 : PySem.W.codeIn K cd11 "_law_pot" = true) (k11 : PySem.W.keepIn K (.ref f11) = true)
    (a12 : PySem.W.nsIn K mainGlobals "_law_digit" = some (some (.ref f12))) (l12 : K.lookup f12 = some ⟨oc12, od12, .func (PySem.W.fnOf "_law_digit" "_law_digit" (defArgs sDigit) (defBody sDigit) (defScope sDigit) .none kV12 dc12 pm12 an12 cd12 ct12), sl12⟩) (c12 : PySem.W.codeIn K cd12 "_law_digit" = true) (k12 : PySem.W.keepIn K (.ref f12) = true)
    (a13 : PySem.W.nsIn K mainGlobals "_law_thirds" = some (some (.ref f13))) (l13 : K.lookup f13 = some ⟨oc13, od13, .func (PySem.W.fnOf "_law_thirds" "_law_thirds" (defArgs sThirds) (defBody sThirds) (defScope sThirds) .none kV13 dc13 pm13 an13 cd13 ct13), sl13⟩) (c13 : PySem.W.codeIn K cd13 "_law_thirds" = true) (k13 : PySem.W.keepIn K (.ref f13) = true)
    (a14 : PySem.W.nsIn K mainGlobals "_law_wanted" = some (some (.ref f14))) (l14 : K.lookup f14 = some ⟨oc14, od14, .func (PySem.W.fnOf "_law_wanted" "_law_wanted" (defArgs sWanted) (defBody sWanted) (defScope sWanted) .none kV14 dc14 pm14 an14 cd14 ct14), sl14⟩) (c14 : PySem.W.codeIn K cd14 "_law_wanted" = true) (k14 : PySem.W.keepIn K (.ref f14) = true)
    (a15 : PySem.W.nsIn K mainGlobals "_law_step" = some (some (.ref f15))) (l15 : K.lookup f15 = some ⟨oc15, od15, .func (PySem.W.fnOf "_law_step" "_law_step" (defArgs sStep) (defBody sStep) (defScope sStep) .none kV15 dc15 pm15 an15 cd15 ct15), sl15⟩) (c15 : PySem.W.codeIn K cd15 "_law_step" = true) (k15 : PySem.W.keepIn K (.ref f15) = true)
    (a16 : PySem.W.nsIn K mainGlobals "_law_third" = some (some (.ref f16))) (l16 : K.lookup f16 = some ⟨oc16, od16, .func (PySem.W.fnOf "_law_third" "_law_third" (defArgs sThird) (defBody sThird) (defScope sThird) .none kV16 dc16 pm16 an16 cd16 ct16), sl16⟩) (c16 : PySem.W.codeIn K cd16 "_law_third" = true) (k16 : PySem.W.keepIn K (.ref f16) = true)
    (a17 : PySem.W.nsIn K mainGlobals "_law_can" = some (some (.ref f17))) (l17 : K.lookup f17 = some ⟨oc17, od17, .func (PySem.W.fnOf "_law_can" "_law_can" (defArgs sCan) (defBody sCan) (defScope sCan) .none kV17 dc17 pm17 an17 cd17 ct17), sl17⟩) (c17 : PySem.W.codeIn K cd17 "_law_can" = true) (k17 : PySem.W.keepIn K (.ref f17) = true)
    (a18 : PySem.W.nsIn K mainGlobals "_law_put" = some (some (.ref f18))) (l18 : K.lookup f18 = some ⟨oc18, od18, .func (PySem.W.fnOf "_law_put" "_law_put" (defArgs sLPut) (defBody sLPut) (defScope sLPut) .none kV18 dc18 pm18 an18 cd18 ct18), sl18⟩) (c18 : PySem.W.codeIn K cd18 "_law_put" = true) (k18 : PySem.W.keepIn K (.ref f18) = true)
    (a19 : PySem.W.nsIn K mainGlobals "_law_partings" = some (some (.ref f19))) (l19 : K.lookup f19 = some ⟨oc19, od19, .func (PySem.W.fnOf "_law_partings" "_law_partings" (defArgs sPartings) (defBody sPartings) (defScope sPartings) .none kV19 dc19 pm19 an19 cd19 ct19), sl19⟩) (c19 : PySem.W.codeIn K cd19 "_law_partings" = true) (k19 : PySem.W.keepIn K (.ref f19) = true)
    (a20 : PySem.W.nsIn K mainGlobals "_law_letter_drawn" = some (some (.ref f20))) (l20 : K.lookup f20 = some ⟨oc20, od20, .func (PySem.W.fnOf "_law_letter_drawn" "_law_letter_drawn" (defArgs sDrawn) (defBody sDrawn) (defScope sDrawn) .none kV20 dc20 pm20 an20 cd20 ct20), sl20⟩) (c20 : PySem.W.codeIn K cd20 "_law_letter_drawn" = true) (k20 : PySem.W.keepIn K (.ref f20) = true)
    (a21 : PySem.W.nsIn K mainGlobals "_law_same" = some (some (.ref f21))) (l21 : K.lookup f21 = some ⟨oc21, od21, .func (PySem.W.fnOf "_law_same" "_law_same" (defArgs sSame) (defBody sSame) (defScope sSame) .none kV21 dc21 pm21 an21 cd21 ct21), sl21⟩) (c21 : PySem.W.codeIn K cd21 "_law_same" = true) (k21 : PySem.W.keepIn K (.ref f21) = true)
    (a22 : PySem.W.nsIn K mainGlobals "_law_things" = some (some (.ref f22))) (l22 : K.lookup f22 = some ⟨oc22, od22, .func (PySem.W.fnOf "_law_things" "_law_things" (defArgs sThings) (defBody sThings) (defScope sThings) .none kV22 dc22 pm22 an22 cd22 ct22), sl22⟩) (c22 : PySem.W.codeIn K cd22 "_law_things" = true) (k22 : PySem.W.keepIn K (.ref f22) = true)
    (a23 : PySem.W.nsIn K mainGlobals "_law_letters" = some (some (.ref f23))) (l23 : K.lookup f23 = some ⟨oc23, od23, .func (PySem.W.fnOf "_law_letters" "_law_letters" (defArgs sLetters) (defBody sLetters) (defScope sLetters) .none kV23 dc23 pm23 an23 cd23 ct23), sl23⟩) (c23 : PySem.W.codeIn K cd23 "_law_letters" = true) (k23 : PySem.W.keepIn K (.ref f23) = true)
    (a24 : PySem.W.nsIn K mainGlobals "_law_refused" = some (some (.ref f24))) (l24 : K.lookup f24 = some ⟨oc24, od24, .func (PySem.W.fnOf "_law_refused" "_law_refused" (defArgs sRefused) (defBody sRefused) (defScope sRefused) .none kV24 dc24 pm24 an24 cd24 ct24), sl24⟩) (c24 : PySem.W.codeIn K cd24 "_law_refused" = true) (k24 : PySem.W.keepIn K (.ref f24) = true)
    (a25 : PySem.W.nsIn K mainGlobals "_law_all_refused" = some (some (.ref f25))) (l25 : K.lookup f25 = some ⟨oc25, od25, .func (PySem.W.fnOf "_law_all_refused" "_law_all_refused" (defArgs sAllRef) (defBody sAllRef) (defScope sAllRef) .none kV25 dc25 pm25 an25 cd25 ct25), sl25⟩) (c25 : PySem.W.codeIn K cd25 "_law_all_refused" = true) (k25 : PySem.W.keepIn K (.ref f25) = true)
    (a26 : PySem.W.nsIn K mainGlobals "law" = some (some (.ref f26))) (l26 : K.lookup f26 = some ⟨oc26, od26, .func (PySem.W.fnOf "law" "law" (defArgs sLaw) (defBody sLaw) (defScope sLaw) .none kV26 dc26 pm26 an26 cd26 ct26), sl26⟩) (c26 : PySem.W.codeIn K cd26 "law" = true) (k26 : PySem.W.keepIn K (.ref f26) = true)
    (a27 : PySem.W.findIn K (.ref C) "__init__" = some (some (.ref f27))) (i27 : PySem.W.isFn K (.ref f27) = true) (l27 : K.lookup f27 = some ⟨oc27, od27, .func (PySem.W.fnOf "__init__" "Front.__init__" (defArgs sInit) (defBody sInit) (defScope sInit) .none kV27 dc27 pm27 an27 cd27 ct27), sl27⟩) (c27 : PySem.W.codeIn K cd27 "Front.__init__" = true) (k27 : PySem.W.keepIn K (.ref f27) = true)
    (a28 : PySem.W.findIn K (.ref C) "loops" = some (some (.ref f28))) (i28 : PySem.W.isFn K (.ref f28) = true) (l28 : K.lookup f28 = some ⟨oc28, od28, .func (PySem.W.fnOf "loops" "Front.loops" (defArgs sLoops) (defBody sLoops) (defScope sLoops) .none kV28 dc28 pm28 an28 cd28 ct28), sl28⟩) (c28 : PySem.W.codeIn K cd28 "Front.loops" = true) (k28 : PySem.W.keepIn K (.ref f28) = true)
    (a29 : PySem.W.findIn K (.ref C) "gate" = some (some (.ref f29))) (i29 : PySem.W.isFn K (.ref f29) = true) (l29 : K.lookup f29 = some ⟨oc29, od29, .func (PySem.W.fnOf "gate" "Front.gate" (defArgs sGate) (defBody sGate) (defScope sGate) .none kV29 dc29 pm29 an29 cd29 ct29), sl29⟩) (c29 : PySem.W.codeIn K cd29 "Front.gate" = true) (k29 : PySem.W.keepIn K (.ref f29) = true)
    (a30 : PySem.W.findIn K (.ref C) "come" = some (some (.ref f30))) (i30 : PySem.W.isFn K (.ref f30) = true) (l30 : K.lookup f30 = some ⟨oc30, od30, .func (PySem.W.fnOf "come" "Front.come" (defArgs sCome) (defBody sCome) (defScope sCome) .none kV30 dc30 pm30 an30 cd30 ct30), sl30⟩) (c30 : PySem.W.codeIn K cd30 "Front.come" = true) (k30 : PySem.W.keepIn K (.ref f30) = true)
    (a31 : PySem.W.findIn K (.ref C) "triples" = some (some (.ref f31))) (i31 : PySem.W.isFn K (.ref f31) = true) (l31 : K.lookup f31 = some ⟨oc31, od31, .func (PySem.W.fnOf "triples" "Front.triples" (defArgs sTriples) (defBody sTriples) (defScope sTriples) .none kV31 dc31 pm31 an31 cd31 ct31), sl31⟩) (c31 : PySem.W.codeIn K cd31 "Front.triples" = true) (k31 : PySem.W.keepIn K (.ref f31) = true)
    (a32 : PySem.W.findIn K (.ref C) "put" = some (some (.ref f32))) (i32 : PySem.W.isFn K (.ref f32) = true) (l32 : K.lookup f32 = some ⟨oc32, od32, .func (PySem.W.fnOf "put" "Front.put" (defArgs sPut) (defBody sPut) (defScope sPut) .none kV32 dc32 pm32 an32 cd32 ct32), sl32⟩) (c32 : PySem.W.codeIn K cd32 "Front.put" = true) (k32 : PySem.W.keepIn K (.ref f32) = true)
    (a33 : PySem.W.findIn K (.ref C) "look_sides_through" = some (some (.ref f33))) (i33 : PySem.W.isFn K (.ref f33) = true) (l33 : K.lookup f33 = some ⟨oc33, od33, .func (PySem.W.fnOf "look_sides_through" "Front.look_sides_through" (defArgs sLook) (defBody sLook) (defScope sLook) .none kV33 dc33 pm33 an33 cd33 ct33), sl33⟩) (c33 : PySem.W.codeIn K cd33 "Front.look_sides_through" = true) (k33 : PySem.W.keepIn K (.ref f33) = true)
    (a34 : PySem.W.findIn K (.ref C) "is_known" = some (some (.ref f34))) (i34 : PySem.W.isFn K (.ref f34) = true) (l34 : K.lookup f34 = some ⟨oc34, od34, .func (PySem.W.fnOf "is_known" "Front.is_known" (defArgs sKnown) (defBody sKnown) (defScope sKnown) .none kV34 dc34 pm34 an34 cd34 ct34), sl34⟩) (c34 : PySem.W.codeIn K cd34 "Front.is_known" = true) (k34 : PySem.W.keepIn K (.ref f34) = true)
    (a35 : PySem.W.findIn K (.ref C) "take_sides" = some (some (.ref f35))) (i35 : PySem.W.isFn K (.ref f35) = true) (l35 : K.lookup f35 = some ⟨oc35, od35, .func (PySem.W.fnOf "take_sides" "Front.take_sides" (defArgs sTake) (defBody sTake) (defScope sTake) .none kV35 dc35 pm35 an35 cd35 ct35), sl35⟩) (c35 : PySem.W.codeIn K cd35 "Front.take_sides" = true) (k35 : PySem.W.keepIn K (.ref f35) = true)
    (aC : PySem.W.nsIn K mainGlobals "Front" = some (some (.ref C)))
    (pg : PySem.W.plainGet K C Str.empty = true) (hd : PySem.W.hasDictIn K C = true) (po : PySem.W.plainOver K C = true) (sa : PySem.W.findIn K (.ref C) "__setattr__" = some (some (.builtin "object.__setattr__"))) (mk : PySem.W.makesIn K C = true) (kc : PySem.W.keepIn K (.ref C) = true)
    (n_rows : PySem.W.findIn K (.ref C) "rows" = some none)
    (n_made : PySem.W.findIn K (.ref C) "made" = some none)
    (n_many : PySem.W.findIn K (.ref C) "many" = some none)
    (n_stood : PySem.W.findIn K (.ref C) "stood" = some none)
    (n_wants : PySem.W.findIn K (.ref C) "wants" = some none)
    (z_len : PySem.W.nsIn K mainGlobals "len" = some none)
    (z_int : PySem.W.nsIn K mainGlobals "int" = some none)
    (z_str : PySem.W.nsIn K mainGlobals "str" = some none)
    (z_isinstance : PySem.W.nsIn K mainGlobals "isinstance" = some none)
    (z_range : PySem.W.nsIn K mainGlobals "range" = some none)
    (z_list : PySem.W.nsIn K mainGlobals "list" = some none)
    (z_tuple : PySem.W.nsIn K mainGlobals "tuple" = some none)
    (z_bool : PySem.W.nsIn K mainGlobals "bool" = some none)
    (z_all : PySem.W.nsIn K mainGlobals "all" = some none)
    (z_ValueError : PySem.W.nsIn K mainGlobals "ValueError" = some none)
    (z_reversed : PySem.W.nsIn K mainGlobals "reversed" = some none)
    (z_enumerate : PySem.W.nsIn K mainGlobals "enumerate" = some none)
    (z_any : PySem.W.nsIn K mainGlobals "any" = some none)
    (z_max : PySem.W.nsIn K mainGlobals "max" = some none)
    (z_min : PySem.W.nsIn K mainGlobals "min" = some none)
    (z_repr : PySem.W.nsIn K mainGlobals "repr" = some none)
    (aS : PySem.W.nsIn K mainGlobals "PLAIN_SIGNS" = some (some (.ref S))) (lS : K.lookup S = some oS) (q1 : oS.cls = .type "tuple") (q2 : oS.data = .seq iS nS) (q3 : iS.toList = [.str (txt [67]) y1, .str (txt [82]) y2, .str (txt [76]) y3, .str (txt [69]) y4])
    (u_nt : PySem.W.kitOne K (.type "NoneType") (.type "tuple") = some false)
    (u_st : PySem.W.kitOne K (.type "str") (.type "tuple") = some false)
    (u_lt : PySem.W.kitOne K (.type "list") (.type "tuple") = some false)
    (u_ns : PySem.W.kitOne K (.type "NoneType") (.type "str") = some false)
    (u_is : PySem.W.kitOne K (.type "int") (.type "str") = some false)
    (u_ls : PySem.W.kitOne K (.type "list") (.type "str") = some false)
    (u_ts : PySem.W.kitOne K (.type "tuple") (.type "str") = some false)
    (u_bi : PySem.W.kitOne K (.type "bool") (.type "int") = some true)
    (u_bb : PySem.W.kitOne K (.type "bool") (.type "bool") = some true)
    (u_si : PySem.W.kitOne K (.type "str") (.type "int") = some false)
    (u_li : PySem.W.kitOne K (.type "list") (.type "int") = some false)
    (aE : PySem.W.nsIn K mainGlobals "NoLetter" = some (some (.ref Ce))) (xE : PySem.W.excIn K Ce bmV "ValueError.__new__" = true) (lE : K.lookup Ce = some ⟨.type "type", odD, .cls cD, slD⟩) (mE : cD.mro = .ref Ce :: bmD) (sE : slD.toList = [e0, e1, e2, e3, some (.builtin "ValueError.__new__"), e5]) (hE : cD.hasDel = false) (qE : bmD.contains (.type "BaseException") = true)
    (x1 : PySem.W.findIn K (.ref Ce) "__getattribute__" = some (some (.builtin "BaseException.__getattribute__")))
    (x2 : PySem.W.findIn K (.ref Ce) "__getattr__" = some none)
    (x3 : PySem.W.findIn K (.ref Ce) "__class__" = some (some (.builtin "object.__class__")))
    (x4 : PySem.W.specialIn K (.builtin "object.__class__") "__get__" = some (some (.builtin "getset_descriptor.__get__")))
    (x5 : PySem.W.takesIn K (.builtin "object.__class__") = some true)
    (x6 : PySem.W.mroIn K Ce (.type "object") = some true)
    (x7 : PySem.W.mroIn K Ce (.type "BaseException") = some true)
    (aH : PySem.W.nsIn K mainGlobals "ShapeError" = some (some (.ref Sh))) (v1 : PySem.W.kitOne K (.ref Ce) (.type "ValueError") = some true) (v2 : PySem.W.kitOne K (.ref Ce) (.ref Sh) = some true)
    (am1 : PySem.W.nsIn K mainGlobals "NoCode" = some (some (.ref k1'))) (rm1 : PySem.W.mroIn K k1' (.type "BaseException") = some true) (km1 : PySem.W.kitOne K (.ref Ce) (.ref k1') = some false)
    (am2 : PySem.W.nsIn K mainGlobals "NoDeed" = some (some (.ref k2'))) (rm2 : PySem.W.mroIn K k2' (.type "BaseException") = some true) (km2 : PySem.W.kitOne K (.ref Ce) (.ref k2') = some false)
    (am3 : PySem.W.nsIn K mainGlobals "NoSide" = some (some (.ref k3'))) (rm3 : PySem.W.mroIn K k3' (.type "BaseException") = some true) (km3 : PySem.W.kitOne K (.ref Ce) (.ref k3') = some false)
    (am4 : PySem.W.nsIn K mainGlobals "NoText" = some (some (.ref k4'))) (rm4 : PySem.W.mroIn K k4' (.type "BaseException") = some true) (km4 : PySem.W.kitOne K (.ref Ce) (.ref k4') = some false)
    (am5 : PySem.W.nsIn K mainGlobals "NoWord" = some (some (.ref k5'))) (rm5 : PySem.W.mroIn K k5' (.type "BaseException") = some true) (km5 : PySem.W.kitOne K (.ref Ce) (.ref k5') = some false)
    (t_t : PySem.W.kitOne K (.type "tuple") (.type "tuple") = some true)
    (t_s : PySem.W.kitOne K (.type "str") (.type "str") = some true)
    (t_i : PySem.W.kitOne K (.type "int") (.type "int") = some true)
    (t_b : PySem.W.kitOne K (.type "int") (.type "bool") = some false)
    : ∃ fd : FuncData, (∀ (s : Shared) (v : Value), BindsTo s fd ⟨[v], []⟩ [("_law_script", v)]) ∧ ∀ base : Heap, K.In base → base.Ns mainGlobals mg → FnOk l.prog w K mg base CX0 6 fa fd ["_law_script"] (spLaw K) := by
  have e := hfa.symm.trans (PySem.W.mg_of X G a26)
  cases e
  have T : TxtN mg := ⟨PySem.W.mg_none_of X G z_len, PySem.W.mg_none_of X G z_int, PySem.W.mg_none_of X G z_str, PySem.W.mg_none_of X G z_isinstance, PySem.W.mg_none_of X G z_range, PySem.W.mg_none_of X G z_list, PySem.W.mg_none_of X G z_tuple, PySem.W.mg_none_of X G z_bool, PySem.W.mg_none_of X G z_all, PySem.W.mg_none_of X G z_ValueError, PySem.W.mg_none_of X G z_reversed, PySem.W.mg_none_of X G z_enumerate⟩
  have TM : TxtM mg := ⟨PySem.W.mg_none_of X G z_any, PySem.W.mg_none_of X G z_max, PySem.W.mg_none_of X G z_min, PySem.W.mg_none_of X G z_repr⟩
  have kn : KitN K := ⟨u_nt, u_st, u_lt, u_ns, u_is, u_ls, u_ts, u_bi, u_bb, u_si, u_li⟩
  have Z : NoL K mg Ce := ⟨PySem.W.mg_of X G aE, xE⟩
  have xc : ExcCls K Ce := ⟨x1, x2, x3, x4, x5, x6, x7, by unfold PySem.W.clsIn; rw [lE]; rfl⟩
  have Y : Ex5 K mg Ce Sh k1' k2' k3' k4' k5' := ⟨xc, v2, v1, PySem.W.mg_of X G aH, PySem.W.mg_of X G am1, PySem.W.mg_of X G am2, PySem.W.mg_of X G am3, PySem.W.mg_of X G am4, PySem.W.mg_of X G am5, fun c hc => by
      simp only [List.mem_cons, List.not_mem_nil, or_false] at hc
      rcases hc with rfl | rfl | rfl | rfl | rfl
      · exact exm_of rm1 km1
      · exact exm_of rm2 km2
      · exact exm_of rm3 km3
      · exact exm_of rm4 km4
      · exact exm_of rm5 km5, bmD, cls_mk lE mE sE hE, qE⟩
  have kt : KitF K := ⟨t_t, t_s, t_i, t_b⟩
  have FC : FCls K C := ⟨⟨pg, hd, po, sa⟩, n_rows, n_made, n_many, n_stood, n_wants⟩
  have MF : Mk K C f27 := ⟨mk, a27, i27, kc⟩
  have hS : ∀ H, SqT K H S [.str (txt [67]), .str (txt [82]), .str (txt [76]), .str (txt [69])] := fun H => .inr ⟨oS, iS, nS, lS, q1, q2, by rw [show iS.size = 4 by rw [← Array.length_toList, q3]; rfl]; decide, by rw [q3]; exact .cons ⟨_, rfl⟩ (.cons ⟨_, rfl⟩ (.cons ⟨_, rfl⟩ (.cons ⟨_, rfl⟩ .nil)))⟩
  exact ⟨PySem.W.fnOf "law" "law" (defArgs sLaw) (defBody sLaw) (defScope sLaw) .none kV26 dc26 pm26 an26 cd26 ct26, fun s v => .of_eq rfl, fun base _ _ => all_ok T TM kt kn Z Y FC MF (PySem.W.mg_of X G aC) (PySem.W.mg_of X G aS) hS
    (top_mk (st := sWhole) X G a1 l1 c1 k1)
    (top_mk (st := sIsLetter) X G a2 l2 c2 k2)
    (top_mk (st := sAnew) X G a3 l3 c3 k3)
    (top_mk (st := sRight) X G a4 l4 c4 k4)
    (top_mk (st := sLeft) X G a5 l5 c5 k5)
    (top_mk (st := sEnded) X G a6 l6 c6 k6)
    (top_mk (st := sParted) X G a7 l7 c7 k7)
    (top_mk (st := sJoined) X G a8 l8 c8 k8)
    (top_mk (st := sOutcome) X G a9 l9 c9 k9)
    (top_mk (st := sAt) X G a10 l10 c10 k10)
    (top_mk (st := sPot) X G a11 l11 c11 k11)
    (top_mk (st := sDigit) X G a12 l12 c12 k12)
    (top_mk (st := sThirds) X G a13 l13 c13 k13)
    (top_mk (st := sWanted) X G a14 l14 c14 k14)
    (top_mk (st := sStep) X G a15 l15 c15 k15)
    (top_mk (st := sThird) X G a16 l16 c16 k16)
    (top_mk (st := sCan) X G a17 l17 c17 k17)
    (top_mk (st := sLPut) X G a18 l18 c18 k18)
    (top_mk (st := sPartings) X G a19 l19 c19 k19)
    (top_mk (st := sDrawn) X G a20 l20 c20 k20)
    (top_mk (st := sSame) X G a21 l21 c21 k21)
    (top_mk (st := sThings) X G a22 l22 c22 k22)
    (top_mk (st := sLetters) X G a23 l23 c23 k23)
    (top_mk (st := sRefused) X G a24 l24 c24 k24)
    (top_mk (st := sAllRef) X G a25 l25 c25 k25)
    (top_mk (st := sLaw) X G a26 l26 c26 k26)
    (inC_mk (st := sInit) a27 i27 l27 c27 k27)
    (inC_mk (st := sLoops) a28 i28 l28 c28 k28)
    (inC_mk (st := sGate) a29 i29 l29 c29 k29)
    (inC_mk (st := sCome) a30 i30 l30 c30 k30)
    (inC_mk (st := sTriples) a31 i31 l31 c31 k31)
    (inC_mk (st := sPut) a32 i32 l32 c32 k32)
    (inC_mk (st := sLook) a33 i33 l33 c33 k33)
    (inC_mk (st := sKnown) a34 i34 l34 c34 k34)
    (inC_mk (st := sTake) a35 i35 l35 c35 k35)⟩
theorem walk {l : PySem.W.OpenLaw} {q : Program} {loose : List Str} {XP : (Str → Option Value) → Heap → Prop} {YP : World → Heap → Prop} {d : DefRec} {K : Params → PySem.W.Frag} (hn : l.most = some 63) (hdf : d.params.defaults = [])
    (hY : ∀ (w : World) (h : Heap), YP w h → (K w.params).In h)
    (F : ∀ (w : World) (mg : Str → Option Value) (fa : Addr) (h : Heap), (K w.params).In h → h.Ns mainGlobals mg → mg d.name = some (.ref fa) →
      ∃ fd : FuncData, (∀ (s : Shared) (u : Value), BindsTo s fd ⟨[u], []⟩ [("_law_script", u)]) ∧ ∀ base : Heap, (K w.params).In base → base.Ns mainGlobals mg → FnOk l.prog w (K w.params) mg base CX0 6 fa fd ["_law_script"] (spLaw (K w.params))) :
    PySem.W.WalkO q loose XP YP l.row.toRowW d [] (fun f vs => PySem.call f vs) :=
  L2.walk_of (n := 63) (k := 6) (x := "_law_script") (CX := fun _ => CX0) (sp := fun w => spLaw (K w.params)) hn (by decide) hdf ⟨rfl, by decide, by decide, rfl⟩ hY F (fun _ _ a ns hl _ hS => ⟨a, ns, rfl, hS, hl, fun _ => rfl⟩) fun _ _ _ _ _ z => z
end K31
end
set_option Elab.async false
set_option linter.all false
open PySem PySem.W PyProof.Rows
set_option maxRecDepth 100000 in
set_option maxHeartbeats 0 in
theorem PySem.Challenge.cw_shapestring_k32_no_letter_holds : PySem.Challenge.rw_shapestring_k32_no_letter.Holds := by
  w_on; o_law
  refine PySem.W.holds_open (q := K31.view) (loose := []) (Xt := fun s => xlAt K31.view [] s && recOk [] s) (XP := XL K31.view []) (Yf := Hook.obs (kHook K31.kf [nat_lit 3, nat_lit 30, nat_lit 31, nat_lit 44, nat_lit 56, nat_lit 67, nat_lit 68, nat_lit 80, nat_lit 92, nat_lit 111, nat_lit 119, nat_lit 120, nat_lit 121, nat_lit 127, nat_lit 128, nat_lit 134, nat_lit 135, nat_lit 141, nat_lit 142, nat_lit 148, nat_lit 149, nat_lit 155, nat_lit 156, nat_lit 162, nat_lit 163, nat_lit 169, nat_lit 170, nat_lit 176, nat_lit 177, nat_lit 190, nat_lit 191, nat_lit 195, nat_lit 196, nat_lit 202, nat_lit 203, nat_lit 209, nat_lit 210, nat_lit 216, nat_lit 217, nat_lit 237, nat_lit 238, nat_lit 244, nat_lit 245, nat_lit 249, nat_lit 250, nat_lit 256, nat_lit 257, nat_lit 259, nat_lit 260, nat_lit 261, nat_lit 262, nat_lit 270, nat_lit 271, nat_lit 277, nat_lit 278, nat_lit 284, nat_lit 285, nat_lit 291, nat_lit 292, nat_lit 298, nat_lit 299, nat_lit 305, nat_lit 306, nat_lit 312, nat_lit 313, nat_lit 317, nat_lit 318, nat_lit 324, nat_lit 325, nat_lit 329, nat_lit 330, nat_lit 334, nat_lit 335, nat_lit 341, nat_lit 342, nat_lit 348, nat_lit 349, nat_lit 353, nat_lit 354, nat_lit 360, nat_lit 361, nat_lit 367, nat_lit 368, nat_lit 374, nat_lit 375] (fun _ => by kernel_rfl))) (Ya := Hook.val (kHook K31.kf [nat_lit 3, nat_lit 30, nat_lit 31, nat_lit 44, nat_lit 56, nat_lit 67, nat_lit 68, nat_lit 80, nat_lit 92, nat_lit 111, nat_lit 119, nat_lit 120, nat_lit 121, nat_lit 127, nat_lit 128, nat_lit 134, nat_lit 135, nat_lit 141, nat_lit 142, nat_lit 148, nat_lit 149, nat_lit 155, nat_lit 156, nat_lit 162, nat_lit 163, nat_lit 169, nat_lit 170, nat_lit 176, nat_lit 177, nat_lit 190, nat_lit 191, nat_lit 195, nat_lit 196, nat_lit 202, nat_lit 203, nat_lit 209, nat_lit 210, nat_lit 216, nat_lit 217, nat_lit 237, nat_lit 238, nat_lit 244, nat_lit 245, nat_lit 249, nat_lit 250, nat_lit 256, nat_lit 257, nat_lit 259, nat_lit 260, nat_lit 261, nat_lit 262, nat_lit 270, nat_lit 271, nat_lit 277, nat_lit 278, nat_lit 284, nat_lit 285, nat_lit 291, nat_lit 292, nat_lit 298, nat_lit 299, nat_lit 305, nat_lit 306, nat_lit 312, nat_lit 313, nat_lit 317, nat_lit 318, nat_lit 324, nat_lit 325, nat_lit 329, nat_lit 330, nat_lit 334, nat_lit 335, nat_lit 341, nat_lit 342, nat_lit 348, nat_lit 349, nat_lit 353, nat_lit 354, nat_lit 360, nat_lit 361, nat_lit 367, nat_lit 368, nat_lit 374, nat_lit 375] (fun _ => by kernel_rfl))) (YP := Hook.says (kHook K31.kf [nat_lit 3, nat_lit 30, nat_lit 31, nat_lit 44, nat_lit 56, nat_lit 67, nat_lit 68, nat_lit 80, nat_lit 92, nat_lit 111, nat_lit 119, nat_lit 120, nat_lit 121, nat_lit 127, nat_lit 128, nat_lit 134, nat_lit 135, nat_lit 141, nat_lit 142, nat_lit 148, nat_lit 149, nat_lit 155, nat_lit 156, nat_lit 162, nat_lit 163, nat_lit 169, nat_lit 170, nat_lit 176, nat_lit 177, nat_lit 190, nat_lit 191, nat_lit 195, nat_lit 196, nat_lit 202, nat_lit 203, nat_lit 209, nat_lit 210, nat_lit 216, nat_lit 217, nat_lit 237, nat_lit 238, nat_lit 244, nat_lit 245, nat_lit 249, nat_lit 250, nat_lit 256, nat_lit 257, nat_lit 259, nat_lit 260, nat_lit 261, nat_lit 262, nat_lit 270, nat_lit 271, nat_lit 277, nat_lit 278, nat_lit 284, nat_lit 285, nat_lit 291, nat_lit 292, nat_lit 298, nat_lit 299, nat_lit 305, nat_lit 306, nat_lit 312, nat_lit 313, nat_lit 317, nat_lit 318, nat_lit 324, nat_lit 325, nat_lit 329, nat_lit 330, nat_lit 334, nat_lit 335, nat_lit 341, nat_lit 342, nat_lit 348, nat_lit 349, nat_lit 353, nat_lit 354, nat_lit 360, nat_lit 361, nat_lit 367, nat_lit 368, nat_lit 374, nat_lit 375] (fun _ => by kernel_rfl))) (N := 5984) K31.left (Hook.of _) (Hook.keeps _)
    (fun s e => xl_of s (Bool.and_eq_true_iff.mp e).1) XL.keeps (by rfl) (by rfl) (by rfl) (fun s e => recFacts_of (Bool.and_eq_true_iff.mp e).2) (by rfl) (by assumption) (by decide +kernel) ⟨rfl, rfl, rfl, rfl, rfl, by decide +kernel⟩ ?hw ?hc
  case hw => w_witness2
  k_fill
  refine K31.walk (l := PySem.Challenge.rw_shapestring_k32_no_letter) rfl rfl (fun w h Y => PySem.W.kIn_of Y) ?F
  case F =>
    intro w mg fa h KX G hmg
    refine' K31.all_mk KX G hmg ?a1 ?l1 ?c1 ?k1 ?a2 ?l2 ?c2 ?k2 ?a3 ?l3 ?c3 ?k3 ?a4 ?l4 ?c4 ?k4 ?a5 ?l5 ?c5 ?k5 ?a6 ?l6 ?c6 ?k6 ?a7 ?l7 ?c7 ?k7 ?a8 ?l8 ?c8 ?k8 ?a9 ?l9 ?c9 ?k9 ?a10 ?l10 ?c10 ?k10 ?a11 ?l11 ?c11 ?k11 ?a12 ?l12 ?c12 ?k12 ?a13 ?l13 ?c13 ?k13 ?a14 ?l14 ?c14 ?k14 ?a15 ?l15 ?c15 ?k15 ?a16 ?l16 ?c16 ?k16 ?a17 ?l17 ?c17 ?k17 ?a18 ?l18 ?c18 ?k18 ?a19 ?l19 ?c19 ?k19 ?a20 ?l20 ?c20 ?k20 ?a21 ?l21 ?c21 ?k21 ?a22 ?l22 ?c22 ?k22 ?a23 ?l23 ?c23 ?k23 ?a24 ?l24 ?c24 ?k24 ?a25 ?l25 ?c25 ?k25 ?a26 ?l26 ?c26 ?k26 ?a27 ?i27 ?l27 ?c27 ?k27 ?a28 ?i28 ?l28 ?c28 ?k28 ?a29 ?i29 ?l29 ?c29 ?k29 ?a30 ?i30 ?l30 ?c30 ?k30 ?a31 ?i31 ?l31 ?c31 ?k31 ?a32 ?i32 ?l32 ?c32 ?k32 ?a33 ?i33 ?l33 ?c33 ?k33 ?a34 ?i34 ?l34 ?c34 ?k34 ?a35 ?i35 ?l35 ?c35 ?k35 ?aC ?pg ?hd ?po ?sa ?mk ?kc ?n_rows ?n_made ?n_many ?n_stood ?n_wants ?z_len ?z_int ?z_str ?z_isinstance ?z_range ?z_list ?z_tuple ?z_bool ?z_all ?z_ValueError ?z_reversed ?z_enumerate ?z_any ?z_max ?z_min ?z_repr ?aS ?lS ?q1 ?q2 ?q3 ?u_nt ?u_st ?u_lt ?u_ns ?u_is ?u_ls ?u_ts ?u_bi ?u_bb ?u_si ?u_li ?aE ?xE ?lE ?mE ?sE ?hE ?qE ?x1 ?x2 ?x3 ?x4 ?x5 ?x6 ?x7 ?aH ?v1 ?v2 ?am1 ?rm1 ?km1 ?am2 ?rm2 ?km2 ?am3 ?rm3 ?km3 ?am4 ?rm4 ?km4 ?am5 ?rm5 ?km5 ?t_t ?t_s ?t_i ?t_b
    (case aC => k_is); (case a1 => k_is); (case l1 => k_is); (case c1 => k_is); (case k1 => k_is); (case a2 => k_is); (case l2 => k_is); (case c2 => k_is)
    (case k2 => k_is); (case a3 => k_is); (case l3 => k_is); (case c3 => k_is); (case k3 => k_is); (case a4 => k_is); (case l4 => k_is); (case c4 => k_is)
    (case k4 => k_is); (case a5 => k_is); (case l5 => k_is); (case c5 => k_is); (case k5 => k_is); (case a6 => k_is); (case l6 => k_is); (case c6 => k_is)
    (case k6 => k_is); (case a7 => k_is); (case l7 => k_is); (case c7 => k_is); (case k7 => k_is); (case a8 => k_is); (case l8 => k_is); (case c8 => k_is)
    (case k8 => k_is); (case a9 => k_is); (case l9 => k_is); (case c9 => k_is); (case k9 => k_is); (case a10 => k_is); (case l10 => k_is); (case c10 => k_is)
    (case k10 => k_is); (case a11 => k_is); (case l11 => k_is); (case c11 => k_is); (case k11 => k_is); (case a12 => k_is); (case l12 => k_is); (case c12 => k_is)
    (case k12 => k_is); (case a13 => k_is); (case l13 => k_is); (case c13 => k_is); (case k13 => k_is); (case a14 => k_is); (case l14 => k_is); (case c14 => k_is)
    (case k14 => k_is); (case a15 => k_is); (case l15 => k_is); (case c15 => k_is); (case k15 => k_is); (case a16 => k_is); (case l16 => k_is); (case c16 => k_is)
    (case k16 => k_is); (case a17 => k_is); (case l17 => k_is); (case c17 => k_is); (case k17 => k_is); (case a18 => k_is); (case l18 => k_is); (case c18 => k_is)
    (case k18 => k_is); (case a19 => k_is); (case l19 => k_is); (case c19 => k_is); (case k19 => k_is); (case a20 => k_is); (case l20 => k_is); (case c20 => k_is)
    (case k20 => k_is); (case a21 => k_is); (case l21 => k_is); (case c21 => k_is); (case k21 => k_is); (case a22 => k_is); (case l22 => k_is); (case c22 => k_is)
    (case k22 => k_is); (case a23 => k_is); (case l23 => k_is); (case c23 => k_is); (case k23 => k_is); (case a24 => k_is); (case l24 => k_is); (case c24 => k_is)
    (case k24 => k_is); (case a25 => k_is); (case l25 => k_is); (case c25 => k_is); (case k25 => k_is); (case a26 => k_is); (case l26 => k_is); (case c26 => k_is)
    (case k26 => k_is); (case a27 => k_is); (case i27 => k_is); (case l27 => k_is); (case c27 => k_is); (case k27 => k_is); (case a28 => k_is); (case i28 => k_is)
    (case l28 => k_is); (case c28 => k_is); (case k28 => k_is); (case a29 => k_is); (case i29 => k_is); (case l29 => k_is); (case c29 => k_is); (case k29 => k_is)
    (case a30 => k_is); (case i30 => k_is); (case l30 => k_is); (case c30 => k_is); (case k30 => k_is); (case a31 => k_is); (case i31 => k_is); (case l31 => k_is)
    (case c31 => k_is); (case k31 => k_is); (case a32 => k_is); (case i32 => k_is); (case l32 => k_is); (case c32 => k_is); (case k32 => k_is); (case a33 => k_is)
    (case i33 => k_is); (case l33 => k_is); (case c33 => k_is); (case k33 => k_is); (case a34 => k_is); (case i34 => k_is); (case l34 => k_is); (case c34 => k_is)
    (case k34 => k_is); (case a35 => k_is); (case i35 => k_is); (case l35 => k_is); (case c35 => k_is); (case k35 => k_is); (case pg => k_is); (case hd => k_is)
    (case po => k_is); (case sa => k_is); (case mk => k_is); (case kc => k_is); (case n_rows => k_is); (case n_made => k_is); (case n_many => k_is); (case n_stood => k_is)
    (case n_wants => k_is); (case z_len => k_is); (case z_int => k_is); (case z_str => k_is); (case z_isinstance => k_is); (case z_range => k_is); (case z_list => k_is); (case z_tuple => k_is)
    (case z_bool => k_is); (case z_all => k_is); (case z_ValueError => k_is); (case z_reversed => k_is); (case z_enumerate => k_is); (case z_any => k_is); (case z_max => k_is); (case z_min => k_is)
    (case z_repr => k_is); (case aS => k_is); (case lS => k_is); (case q1 => rfl); (case q2 => rfl); (case q3 => rfl); (case u_nt => kit_is); (case u_st => kit_is)
    (case u_lt => kit_is); (case u_ns => kit_is); (case u_is => kit_is); (case u_ls => kit_is); (case u_ts => kit_is); (case u_bi => kit_is); (case u_bb => kit_is); (case u_si => kit_is)
    (case u_li => kit_is); (case aE => k_is); (case xE => k_exc); (case lE => k_is); (case mE => rfl); (case sE => rfl); (case hE => rfl); (case qE => rfl)
    (case x1 => k_is); (case x2 => k_is); (case x3 => k_is); (case x4 => k_is); (case x5 => k_is); (case x6 => k_is); (case x7 => k_is); (case aH => k_is)
    (case v1 => kit_is); (case v2 => kit_is); (case am1 => k_is); (case rm1 => k_is); (case km1 => kit_is); (case am2 => k_is); (case rm2 => k_is); (case km2 => kit_is)
    (case am3 => k_is); (case rm3 => k_is); (case km3 => kit_is); (case am4 => k_is); (case rm4 => k_is); (case km4 => kit_is); (case am5 => k_is); (case rm5 => k_is)
    (case km5 => kit_is); (case t_t => kit_is); (case t_s => kit_is); (case t_i => kit_is); (case t_b => kit_is)
#print axioms PySem.Challenge.cw_shapestring_k32_no_letter_holds

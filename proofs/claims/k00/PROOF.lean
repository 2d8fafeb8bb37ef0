import PyProof.Rows.All
import Wide.All
import OpenK.AllK
import Wide.FinOn
import KE.OsRunLaw
import HandS.ForMost
import HandS.IsInst
import HandS.SortInts
import HandS.DictComp
import HandS.Rev
import HandS.Strs
import HandS.SetFor
import HandS.Wide
import HandS.TupAny
import HandS.Evl
import KE.GoesEnum
import HandS.Walk
import HandS.Style
import HandS.Zip
import HandS.Zip0
import HandS.WordsDict
import HandS.Dict
import HandS.StrMore
import HandS.SetKeys
import HandS.Text
import HandS.ExcInit
import HandS.ExcOwn
import HandS.WordsExc
import HandS.TryOnly
import HandS.Small
import HandS.Codes
import PyProof.AutoSeq1
import HandS.Lambda
import HandS.TryMany
import HandS.EndOwn
import KE.KNest
import HandS.More
import HandS.ExcIs
import HandS.TupMul
import PyProof.StrOps2
import HandS.ListEq
import HandS.DictEq
import HandS.DeepEq
import HandS.Comp
import PyProof.Rows.ListMulArg
import PyProof.ReprRoads
import HandS.ListItems
import PyProof.DictUpdate
import HandS.ExcField
import PyProof.Rows.ReprOcc
import HandS.Conv
import PySem.Challenge.RW_wholeways_k00_errors_of_the_package
set_option Elab.async false
set_option linter.all false
set_option maxRecDepth 100000
set_option maxHeartbeats 0
namespace HeadRun
open PySem PySem.W PySem.Calls PyProof.Rows
/-- the program; what the head keeps of its top; the names that it leaves loose -/
abbrev p0 : Program := PySem.Challenge.pw_wholeways_k00_errors_of_the_package
def q0 : Program := { p0 with main := { p0.main with body := [1, 2, 3, 4, 5, 6, 7, 8, 9, 10, 11, 12, 13, 14, 15, 16, 17, 18, 19, 20, 21, 22, 23, 24, 25, 26, 27, 28, 29, 30, 31, 32, 33, 34, 35, 36, 37, 38, 39, 40, 41, 42, 43, 44, 45, 46, 47, 48, 49, 50, 51, 52, 53, 54, 55, 56, 57, 58, 59, 60, 61, 63, 64, 65, 66, 67, 68, 69, 70].filterMap fun i : Nat => p0.main.body[i]? } }
def l0 : List PySem.Str := []
def lw0 : List PySem.Str := []
abbrev steps0 : Nat := 27264
noncomputable abbrev end0 (w : World) (os : OsState) : Option SharedT := endF (stepQ (denQ tabQ) p0 w) steps0 p0 w os
noncomputable abbrev seen0 (Xt : Shared → Bool) (s : SharedT) := seenQ q0 l0 (importedModules p0.main.body) Xt s.abs
abbrev X0 : Shared → Bool := fun s => xlAt q0 [] s && recOk (RowW.records (OpenRow.toRowW (OpenLaw.row PySem.Challenge.rw_wholeways_k00_errors_of_the_package))) s
theorem lwT : PySem.W.Fast.tw821141287760084731 q0 l0 = lw0 := by kernel_rfl
theorem lwE : looseW q0 l0 = lw0 := (congrFun (congrFun PySem.W.Fast.te821141287760084731 q0) l0).trans lwT
def hT (i : Nat) : Stmt := p0.main.body.getD i (.Pass ⟨0, 0, 0, 0⟩)
/-- the part of the heap that the walk reads -/
def K0 : Params → Frag := fun P => (nat_lit 2, ⟨.none, none, (.dict #[] 0), #[]⟩) ::
(nat_lit 3, ⟨(.type "dict"), none, (.dict (List.toArray (α := DictEntry) (⟨PyData.keyHash P (.ofString "__name__"), (.str (.ofString "__name__") 165), (.str (.ofString "law_wholeways_k00_errors_of_the_package") 1264)⟩ :: ⟨PyData.keyHash P (.ofString "__doc__"), (.str (.ofString "__doc__") 166), .none⟩ :: ⟨PyData.keyHash P (.ofString "__package__"), (.str (.ofString "__package__") 167), .none⟩ :: ⟨PyData.keyHash P (.ofString "__loader__"), (.str (.ofString "__loader__") 168), (.builtin "__main__.__loader__#opaque")⟩ :: ⟨PyData.keyHash P (.ofString "__spec__"), (.str (.ofString "__spec__") 169), .none⟩ :: ⟨PyData.keyHash P (.ofString "__annotations__"), (.str (.ofString "__annotations__") 170), (.ref 6)⟩ :: ⟨PyData.keyHash P (.ofString "__builtins__"), (.str (.ofString "__builtins__") 171), (.ref 4)⟩ :: ⟨PyData.keyHash P (.ofString "__file__"), (.str (.ofString "__file__") 173), (.str (.ofString "/claim/cut.py") 172)⟩ :: ⟨PyData.keyHash P (.ofString "__cached__"), (.str (.ofString "__cached__") 174), .none⟩ :: ⟨PyData.keyHash P (.ofString "StoreError"), (.str (.ofString "StoreError") 213), (.ref 31)⟩ :: ⟨PyData.keyHash P (.ofString "Ended"), (.str (.ofString "Ended") 229), (.ref 44)⟩ :: ⟨PyData.keyHash P (.ofString "BadDisk"), (.str (.ofString "BadDisk") 245), (.ref 56)⟩ :: ⟨PyData.keyHash P (.ofString "NoBlock"), (.str (.ofString "NoBlock") 261), (.ref 68)⟩ :: ⟨PyData.keyHash P (.ofString "NoContent"), (.str (.ofString "NoContent") 277), (.ref 80)⟩ :: ⟨PyData.keyHash P (.ofString "NothingWaits"), (.str (.ofString "NothingWaits") 293), (.ref 92)⟩ :: ⟨PyData.keyHash P (.ofString "Stopped"), (.str (.ofString "Stopped") 309), (.ref 104)⟩ :: ⟨PyData.keyHash P (.ofString "NoRecord"), (.str (.ofString "NoRecord") 325), (.ref 116)⟩ :: ⟨PyData.keyHash P (.ofString "LogFull"), (.str (.ofString "LogFull") 341), (.ref 128)⟩ :: ⟨PyData.keyHash P (.ofString "NoPage"), (.str (.ofString "NoPage") 357), (.ref 140)⟩ :: ⟨PyData.keyHash P (.ofString "NoItems"), (.str (.ofString "NoItems") 373), (.ref 152)⟩ :: ⟨PyData.keyHash P (.ofString "NoRoom"), (.str (.ofString "NoRoom") 389), (.ref 164)⟩ :: ⟨PyData.keyHash P (.ofString "NoNote"), (.str (.ofString "NoNote") 405), (.ref 176)⟩ :: ⟨PyData.keyHash P (.ofString "TooLarge"), (.str (.ofString "TooLarge") 421), (.ref 188)⟩ :: ⟨PyData.keyHash P (.ofString "Over"), (.str (.ofString "Over") 437), (.ref 200)⟩ :: ⟨PyData.keyHash P (.ofString "NoSpot"), (.str (.ofString "NoSpot") 453), (.ref 212)⟩ :: ⟨PyData.keyHash P (.ofString "NoMark"), (.str (.ofString "NoMark") 469), (.ref 224)⟩ :: ⟨PyData.keyHash P (.ofString "NotThere"), (.str (.ofString "NotThere") 485), (.ref 236)⟩ :: ⟨PyData.keyHash P (.ofString "NoCommit"), (.str (.ofString "NoCommit") 501), (.ref 248)⟩ :: ⟨PyData.keyHash P (.ofString "NoChanges"), (.str (.ofString "NoChanges") 517), (.ref 260)⟩ :: ⟨PyData.keyHash P (.ofString "NoSnapshot"), (.str (.ofString "NoSnapshot") 533), (.ref 272)⟩ :: ⟨PyData.keyHash P (.ofString "NoKey"), (.str (.ofString "NoKey") 549), (.ref 284)⟩ :: ⟨PyData.keyHash P (.ofString "NoWorth"), (.str (.ofString "NoWorth") 565), (.ref 296)⟩ :: ⟨PyData.keyHash P (.ofString "NoNumber"), (.str (.ofString "NoNumber") 581), (.ref 308)⟩ :: ⟨PyData.keyHash P (.ofString "NotOpen"), (.str (.ofString "NotOpen") 597), (.ref 320)⟩ :: ⟨PyData.keyHash P (.ofString "BadSeen"), (.str (.ofString "BadSeen") 613), (.ref 332)⟩ :: ⟨PyData.keyHash P (.ofString "BadWrites"), (.str (.ofString "BadWrites") 629), (.ref 344)⟩ :: ⟨PyData.keyHash P (.ofString "NotRemembered"), (.str (.ofString "NotRemembered") 645), (.ref 356)⟩ :: ⟨PyData.keyHash P (.ofString "NoIndex"), (.str (.ofString "NoIndex") 661), (.ref 368)⟩ :: ⟨PyData.keyHash P (.ofString "NoOrder"), (.str (.ofString "NoOrder") 677), (.ref 380)⟩ :: ⟨PyData.keyHash P (.ofString "NotSerial"), (.str (.ofString "NotSerial") 693), (.ref 392)⟩ :: ⟨PyData.keyHash P (.ofString "NoSnapshots"), (.str (.ofString "NoSnapshots") 709), (.ref 404)⟩ :: ⟨PyData.keyHash P (.ofString "NoVersion"), (.str (.ofString "NoVersion") 725), (.ref 416)⟩ :: ⟨PyData.keyHash P (.ofString "NoLine"), (.str (.ofString "NoLine") 741), (.ref 428)⟩ :: ⟨PyData.keyHash P (.ofString "InUse"), (.str (.ofString "InUse") 757), (.ref 440)⟩ :: ⟨PyData.keyHash P (.ofString "NoLines"), (.str (.ofString "NoLines") 773), (.ref 452)⟩ :: ⟨PyData.keyHash P (.ofString "NotWhole"), (.str (.ofString "NotWhole") 789), (.ref 464)⟩ :: ⟨PyData.keyHash P (.ofString "NoNode"), (.str (.ofString "NoNode") 805), (.ref 476)⟩ :: ⟨PyData.keyHash P (.ofString "NodeThere"), (.str (.ofString "NodeThere") 821), (.ref 488)⟩ :: ⟨PyData.keyHash P (.ofString "NodeTied"), (.str (.ofString "NodeTied") 837), (.ref 500)⟩ :: ⟨PyData.keyHash P (.ofString "NoTieWord"), (.str (.ofString "NoTieWord") 853), (.ref 512)⟩ :: ⟨PyData.keyHash P (.ofString "NoWeight"), (.str (.ofString "NoWeight") 869), (.ref 524)⟩ :: ⟨PyData.keyHash P (.ofString "TieThere"), (.str (.ofString "TieThere") 885), (.ref 536)⟩ :: ⟨PyData.keyHash P (.ofString "NotATie"), (.str (.ofString "NotATie") 901), (.ref 548)⟩ :: ⟨PyData.keyHash P (.ofString "NoPlan"), (.str (.ofString "NoPlan") 917), (.ref 560)⟩ :: ⟨PyData.keyHash P (.ofString "NoPath"), (.str (.ofString "NoPath") 933), (.ref 572)⟩ :: ⟨PyData.keyHash P (.ofString "NoExpression"), (.str (.ofString "NoExpression") 949), (.ref 584)⟩ :: ⟨PyData.keyHash P (.ofString "NoPlace"), (.str (.ofString "NoPlace") 965), (.ref 596)⟩ :: ⟨PyData.keyHash P (.ofString "NoQuestion"), (.str (.ofString "NoQuestion") 981), (.ref 608)⟩ :: ⟨PyData.keyHash P (.ofString "NoDeed"), (.str (.ofString "NoDeed") 997), (.ref 620)⟩ :: ⟨PyData.keyHash P (.ofString "NotKept"), (.str (.ofString "NotKept") 1013), (.ref 632)⟩ :: ⟨PyData.keyHash P (.ofString "Refused"), (.str (.ofString "Refused") 1038), (.ref 651)⟩ :: ⟨PyData.keyHash P (.ofString "BadDealing"), (.str (.ofString "BadDealing") 1063), (.ref 670)⟩ :: ⟨PyData.keyHash P (.ofString "NoPlay"), (.str (.ofString "NoPlay") 1088), (.ref 689)⟩ :: ⟨PyData.keyHash P (.ofString "BadGraph"), (.str (.ofString "BadGraph") 1113), (.ref 708)⟩ :: ⟨PyData.keyHash P (.ofString "BadHistory"), (.str (.ofString "BadHistory") 1138), (.ref 727)⟩ :: ⟨PyData.keyHash P (.ofString "NoVersions"), (.str (.ofString "NoVersions") 1163), (.ref 746)⟩ :: ⟨PyData.keyHash P (.ofString "TooMany"), (.str (.ofString "TooMany") 1188), (.ref 765)⟩ :: ⟨PyData.keyHash P (.ofString "NoName"), (.str (.ofString "NoName") 1213), (.ref 784)⟩ :: ⟨PyData.keyHash P (.ofString "NotANode"), (.str (.ofString "NotANode") 1238), (.ref 803)⟩ :: ⟨PyData.keyHash P (.ofString "BadSigns"), (.str (.ofString "BadSigns") 1263), (.ref 822)⟩ :: ⟨PyData.keyHash P (.ofString "_law_hand"), (.str (.ofString "_law_hand") 1271), (.ref 829)⟩ :: ⟨PyData.keyHash P (.ofString "_law_draw"), (.str (.ofString "_law_draw") 1282), (.ref 836)⟩ :: ⟨PyData.keyHash P (.ofString "_law_any"), (.str (.ofString "_law_any") 1290), (.ref 843)⟩ :: ⟨PyData.keyHash P (.ofString "_law_deep"), (.str (.ofString "_law_deep") 1299), (.ref 850)⟩ :: ⟨PyData.keyHash P (.ofString "_law_with_field"), (.str (.ofString "_law_with_field") 1307), (.ref 857)⟩ :: ⟨PyData.keyHash P (.ofString "_law_plain"), (.str (.ofString "_law_plain") 1314), (.ref 864)⟩ :: ⟨PyData.keyHash P (.ofString "_law_kinds"), (.str (.ofString "_law_kinds") 1322), (.ref 871)⟩ :: ⟨PyData.keyHash P (.ofString "law"), (.str (.ofString "law") 1328), (.ref 876)⟩ :: [])) 78), #[]⟩) ::
(nat_lit 15, ⟨(.type "tuple"), none, (.seq #[(.type "ValueError")] 0), #[]⟩) ::
(nat_lit 22, ⟨(.type "tuple"), none, (.seq #[] 0), #[]⟩) ::
(nat_lit 24, ⟨(.type "tuple"), none, (.seq #[(.str (.ofString "self") 204)] 0), #[]⟩) ::
(nat_lit 25, ⟨(.type "tuple"), none, (.seq #[] 0), #[]⟩) ::
(nat_lit 27, ⟨(.type "code"), none, (.fields #[(.str (.ofString "__init__") 201), (.str (.ofString "StoreError.__init__") 202), (.str (.ofString "/claim/cut.py") 203), (.int (4) 0), (.int (1) 0), (.int (0) 0), (.int (0) 0), (.int (3) 0), (.ref 22), (.bool true), (.int (181) 0), (.ref 23), .none, (.ref 24), (.ref 25), (.ref 26), (.int (205) 0), (.int (4) 0), (.str (.ofString "/claim/cut.py") 206)]), #[]⟩) ::
(nat_lit 28, ⟨(.type "function"), none, (.func ⟨.ofString "__init__", .ofString "StoreError.__init__", L2.defArgs (L2.inClass (hT 1) 0), .stmts (L2.defBody (L2.inClass (hT 1) 0)), L2.defScope (L2.inClass (hT 1) 0), 3, [], .none, .none, .none, (.str (.ofString "wholeways.errors") 187), none, (.ref 27), .none, 0⟩), #[]⟩) ::
(nat_lit 29, ⟨(.type "tuple"), none, (.seq #[] 0), #[]⟩) ::
(nat_lit 30, ⟨(.type "dict"), none, (.dict #[⟨PyData.keyHash P (.ofString "__module__"), (.str (.ofString "__module__") 196), (.str (.ofString "wholeways.errors") 187)⟩, ⟨PyData.keyHash P (.ofString "__firstlineno__"), (.str (.ofString "__firstlineno__") 200), (.int (2) 199)⟩, ⟨PyData.keyHash P (.ofString "__init__"), (.str (.ofString "__init__") 207), (.ref 28)⟩, ⟨PyData.keyHash P (.ofString "__static_attributes__"), (.str (.ofString "__static_attributes__") 208), (.ref 29)⟩, ⟨PyData.keyHash P (.ofString "__weakref__"), (.str (.ofString "__weakref__") 210), (.ref 32)⟩, ⟨PyData.keyHash P (.ofString "__doc__"), (.str (.ofString "__doc__") 211), .none⟩] 3), #[]⟩) ::
(nat_lit 31, ⟨(.type "type"), none, (.cls ⟨.ofString "StoreError", [(.type "ValueError")], [(.ref 31), (.type "ValueError"), (.type "Exception"), (.type "BaseException"), (.type "object")], 30, .ofString "StoreError", true, [], [(.ref 44), (.ref 56), (.ref 68), (.ref 80), (.ref 92), (.ref 104), (.ref 116), (.ref 128), (.ref 140), (.ref 152), (.ref 164), (.ref 176), (.ref 188), (.ref 200), (.ref 212), (.ref 224), (.ref 236), (.ref 248), (.ref 260), (.ref 272), (.ref 284), (.ref 296), (.ref 308), (.ref 320), (.ref 332), (.ref 344), (.ref 356), (.ref 368), (.ref 380), (.ref 392), (.ref 404), (.ref 416), (.ref 428), (.ref 440), (.ref 452), (.ref 464), (.ref 476), (.ref 488), (.ref 500), (.ref 512), (.ref 524), (.ref 536), (.ref 548), (.ref 560), (.ref 572), (.ref 584), (.ref 596), (.ref 608), (.ref 620), (.ref 632), (.ref 651), (.ref 670), (.ref 689), (.ref 708), (.ref 727), (.ref 746), (.ref 765), (.ref 784), (.ref 803), (.ref 822)], false, none, false⟩), #[(some (.ref 15)), none, (some (.str (.ofString "StoreError") 189)), (some (.str (.ofString "StoreError") 197)), (some (.builtin "ValueError.__new__")), (some (.bool true))]⟩) ::
(nat_lit 32, ⟨(.type "getset_descriptor"), none, (.fields #[(.str (.ofString "__weakref__") 209), (.ref 31), (.builtin "ExceptionGroup.__weakref__"), .none]), #[]⟩) ::
(nat_lit 35, ⟨(.type "tuple"), none, (.seq #[(.ref 31)] 0), #[]⟩) ::
(nat_lit 42, ⟨(.type "tuple"), none, (.seq #[] 0), #[]⟩) ::
(nat_lit 43, ⟨(.type "dict"), none, (.dict #[⟨PyData.keyHash P (.ofString "__module__"), (.str (.ofString "__module__") 221), (.str (.ofString "wholeways.errors") 187)⟩, ⟨PyData.keyHash P (.ofString "__firstlineno__"), (.str (.ofString "__firstlineno__") 225), (.int (6) 224)⟩, ⟨PyData.keyHash P (.ofString "__static_attributes__"), (.str (.ofString "__static_attributes__") 226), (.ref 42)⟩, ⟨PyData.keyHash P (.ofString "__doc__"), (.str (.ofString "__doc__") 227), .none⟩] 2), #[]⟩) ::
(nat_lit 44, ⟨(.type "type"), none, (.cls ⟨.ofString "Ended", [(.ref 31)], [(.ref 44), (.ref 31), (.type "ValueError"), (.type "Exception"), (.type "BaseException"), (.type "object")], 43, .ofString "Ended", true, [], [], false, none, false⟩), #[(some (.ref 35)), none, (some (.str (.ofString "Ended") 214)), (some (.str (.ofString "Ended") 222)), (some (.builtin "ValueError.__new__")), (some (.bool true))]⟩) ::
(nat_lit 47, ⟨(.type "tuple"), none, (.seq #[(.ref 31)] 0), #[]⟩) ::
(nat_lit 54, ⟨(.type "tuple"), none, (.seq #[] 0), #[]⟩) ::
(nat_lit 55, ⟨(.type "dict"), none, (.dict #[⟨PyData.keyHash P (.ofString "__module__"), (.str (.ofString "__module__") 237), (.str (.ofString "wholeways.errors") 187)⟩, ⟨PyData.keyHash P (.ofString "__firstlineno__"), (.str (.ofString "__firstlineno__") 241), (.int (8) 240)⟩, ⟨PyData.keyHash P (.ofString "__static_attributes__"), (.str (.ofString "__static_attributes__") 242), (.ref 54)⟩, ⟨PyData.keyHash P (.ofString "__doc__"), (.str (.ofString "__doc__") 243), .none⟩] 2), #[]⟩) ::
(nat_lit 56, ⟨(.type "type"), none, (.cls ⟨.ofString "BadDisk", [(.ref 31)], [(.ref 56), (.ref 31), (.type "ValueError"), (.type "Exception"), (.type "BaseException"), (.type "object")], 55, .ofString "BadDisk", true, [], [], false, none, false⟩), #[(some (.ref 47)), none, (some (.str (.ofString "BadDisk") 230)), (some (.str (.ofString "BadDisk") 238)), (some (.builtin "ValueError.__new__")), (some (.bool true))]⟩) ::
(nat_lit 59, ⟨(.type "tuple"), none, (.seq #[(.ref 31)] 0), #[]⟩) ::
(nat_lit 66, ⟨(.type "tuple"), none, (.seq #[] 0), #[]⟩) ::
(nat_lit 67, ⟨(.type "dict"), none, (.dict #[⟨PyData.keyHash P (.ofString "__module__"), (.str (.ofString "__module__") 253), (.str (.ofString "wholeways.errors") 187)⟩, ⟨PyData.keyHash P (.ofString "__firstlineno__"), (.str (.ofString "__firstlineno__") 257), (.int (10) 256)⟩, ⟨PyData.keyHash P (.ofString "__static_attributes__"), (.str (.ofString "__static_attributes__") 258), (.ref 66)⟩, ⟨PyData.keyHash P (.ofString "__doc__"), (.str (.ofString "__doc__") 259), .none⟩] 2), #[]⟩) ::
(nat_lit 68, ⟨(.type "type"), none, (.cls ⟨.ofString "NoBlock", [(.ref 31)], [(.ref 68), (.ref 31), (.type "ValueError"), (.type "Exception"), (.type "BaseException"), (.type "object")], 67, .ofString "NoBlock", true, [], [], false, none, false⟩), #[(some (.ref 59)), none, (some (.str (.ofString "NoBlock") 246)), (some (.str (.ofString "NoBlock") 254)), (some (.builtin "ValueError.__new__")), (some (.bool true))]⟩) ::
(nat_lit 71, ⟨(.type "tuple"), none, (.seq #[(.ref 31)] 0), #[]⟩) ::
(nat_lit 78, ⟨(.type "tuple"), none, (.seq #[] 0), #[]⟩) ::
(nat_lit 79, ⟨(.type "dict"), none, (.dict #[⟨PyData.keyHash P (.ofString "__module__"), (.str (.ofString "__module__") 269), (.str (.ofString "wholeways.errors") 187)⟩, ⟨PyData.keyHash P (.ofString "__firstlineno__"), (.str (.ofString "__firstlineno__") 273), (.int (12) 272)⟩, ⟨PyData.keyHash P (.ofString "__static_attributes__"), (.str (.ofString "__static_attributes__") 274), (.ref 78)⟩, ⟨PyData.keyHash P (.ofString "__doc__"), (.str (.ofString "__doc__") 275), .none⟩] 2), #[]⟩) ::
(nat_lit 80, ⟨(.type "type"), none, (.cls ⟨.ofString "NoContent", [(.ref 31)], [(.ref 80), (.ref 31), (.type "ValueError"), (.type "Exception"), (.type "BaseException"), (.type "object")], 79, .ofString "NoContent", true, [], [], false, none, false⟩), #[(some (.ref 71)), none, (some (.str (.ofString "NoContent") 262)), (some (.str (.ofString "NoContent") 270)), (some (.builtin "ValueError.__new__")), (some (.bool true))]⟩) ::
(nat_lit 83, ⟨(.type "tuple"), none, (.seq #[(.ref 31)] 0), #[]⟩) ::
(nat_lit 90, ⟨(.type "tuple"), none, (.seq #[] 0), #[]⟩) ::
(nat_lit 91, ⟨(.type "dict"), none, (.dict #[⟨PyData.keyHash P (.ofString "__module__"), (.str (.ofString "__module__") 285), (.str (.ofString "wholeways.errors") 187)⟩, ⟨PyData.keyHash P (.ofString "__firstlineno__"), (.str (.ofString "__firstlineno__") 289), (.int (14) 288)⟩, ⟨PyData.keyHash P (.ofString "__static_attributes__"), (.str (.ofString "__static_attributes__") 290), (.ref 90)⟩, ⟨PyData.keyHash P (.ofString "__doc__"), (.str (.ofString "__doc__") 291), .none⟩] 2), #[]⟩) ::
(nat_lit 92, ⟨(.type "type"), none, (.cls ⟨.ofString "NothingWaits", [(.ref 31)], [(.ref 92), (.ref 31), (.type "ValueError"), (.type "Exception"), (.type "BaseException"), (.type "object")], 91, .ofString "NothingWaits", true, [], [], false, none, false⟩), #[(some (.ref 83)), none, (some (.str (.ofString "NothingWaits") 278)), (some (.str (.ofString "NothingWaits") 286)), (some (.builtin "ValueError.__new__")), (some (.bool true))]⟩) ::
(nat_lit 95, ⟨(.type "tuple"), none, (.seq #[(.ref 31)] 0), #[]⟩) ::
(nat_lit 102, ⟨(.type "tuple"), none, (.seq #[] 0), #[]⟩) ::
(nat_lit 103, ⟨(.type "dict"), none, (.dict #[⟨PyData.keyHash P (.ofString "__module__"), (.str (.ofString "__module__") 301), (.str (.ofString "wholeways.errors") 187)⟩, ⟨PyData.keyHash P (.ofString "__firstlineno__"), (.str (.ofString "__firstlineno__") 305), (.int (16) 304)⟩, ⟨PyData.keyHash P (.ofString "__static_attributes__"), (.str (.ofString "__static_attributes__") 306), (.ref 102)⟩, ⟨PyData.keyHash P (.ofString "__doc__"), (.str (.ofString "__doc__") 307), .none⟩] 2), #[]⟩) ::
(nat_lit 104, ⟨(.type "type"), none, (.cls ⟨.ofString "Stopped", [(.ref 31)], [(.ref 104), (.ref 31), (.type "ValueError"), (.type "Exception"), (.type "BaseException"), (.type "object")], 103, .ofString "Stopped", true, [], [], false, none, false⟩), #[(some (.ref 95)), none, (some (.str (.ofString "Stopped") 294)), (some (.str (.ofString "Stopped") 302)), (some (.builtin "ValueError.__new__")), (some (.bool true))]⟩) ::
(nat_lit 107, ⟨(.type "tuple"), none, (.seq #[(.ref 31)] 0), #[]⟩) ::
(nat_lit 114, ⟨(.type "tuple"), none, (.seq #[] 0), #[]⟩) ::
(nat_lit 115, ⟨(.type "dict"), none, (.dict #[⟨PyData.keyHash P (.ofString "__module__"), (.str (.ofString "__module__") 317), (.str (.ofString "wholeways.errors") 187)⟩, ⟨PyData.keyHash P (.ofString "__firstlineno__"), (.str (.ofString "__firstlineno__") 321), (.int (18) 320)⟩, ⟨PyData.keyHash P (.ofString "__static_attributes__"), (.str (.ofString "__static_attributes__") 322), (.ref 114)⟩, ⟨PyData.keyHash P (.ofString "__doc__"), (.str (.ofString "__doc__") 323), .none⟩] 2), #[]⟩) ::
(nat_lit 116, ⟨(.type "type"), none, (.cls ⟨.ofString "NoRecord", [(.ref 31)], [(.ref 116), (.ref 31), (.type "ValueError"), (.type "Exception"), (.type "BaseException"), (.type "object")], 115, .ofString "NoRecord", true, [], [], false, none, false⟩), #[(some (.ref 107)), none, (some (.str (.ofString "NoRecord") 310)), (some (.str (.ofString "NoRecord") 318)), (some (.builtin "ValueError.__new__")), (some (.bool true))]⟩) ::
(nat_lit 119, ⟨(.type "tuple"), none, (.seq #[(.ref 31)] 0), #[]⟩) ::
(nat_lit 126, ⟨(.type "tuple"), none, (.seq #[] 0), #[]⟩) ::
(nat_lit 127, ⟨(.type "dict"), none, (.dict #[⟨PyData.keyHash P (.ofString "__module__"), (.str (.ofString "__module__") 333), (.str (.ofString "wholeways.errors") 187)⟩, ⟨PyData.keyHash P (.ofString "__firstlineno__"), (.str (.ofString "__firstlineno__") 337), (.int (20) 336)⟩, ⟨PyData.keyHash P (.ofString "__static_attributes__"), (.str (.ofString "__static_attributes__") 338), (.ref 126)⟩, ⟨PyData.keyHash P (.ofString "__doc__"), (.str (.ofString "__doc__") 339), .none⟩] 2), #[]⟩) ::
(nat_lit 128, ⟨(.type "type"), none, (.cls ⟨.ofString "LogFull", [(.ref 31)], [(.ref 128), (.ref 31), (.type "ValueError"), (.type "Exception"), (.type "BaseException"), (.type "object")], 127, .ofString "LogFull", true, [], [], false, none, false⟩), #[(some (.ref 119)), none, (some (.str (.ofString "LogFull") 326)), (some (.str (.ofString "LogFull") 334)), (some (.builtin "ValueError.__new__")), (some (.bool true))]⟩) ::
(nat_lit 131, ⟨(.type "tuple"), none, (.seq #[(.ref 31)] 0), #[]⟩) ::
(nat_lit 138, ⟨(.type "tuple"), none, (.seq #[] 0), #[]⟩) ::
(nat_lit 139, ⟨(.type "dict"), none, (.dict #[⟨PyData.keyHash P (.ofString "__module__"), (.str (.ofString "__module__") 349), (.str (.ofString "wholeways.errors") 187)⟩, ⟨PyData.keyHash P (.ofString "__firstlineno__"), (.str (.ofString "__firstlineno__") 353), (.int (22) 352)⟩, ⟨PyData.keyHash P (.ofString "__static_attributes__"), (.str (.ofString "__static_attributes__") 354), (.ref 138)⟩, ⟨PyData.keyHash P (.ofString "__doc__"), (.str (.ofString "__doc__") 355), .none⟩] 2), #[]⟩) ::
(nat_lit 140, ⟨(.type "type"), none, (.cls ⟨.ofString "NoPage", [(.ref 31)], [(.ref 140), (.ref 31), (.type "ValueError"), (.type "Exception"), (.type "BaseException"), (.type "object")], 139, .ofString "NoPage", true, [], [], false, none, false⟩), #[(some (.ref 131)), none, (some (.str (.ofString "NoPage") 342)), (some (.str (.ofString "NoPage") 350)), (some (.builtin "ValueError.__new__")), (some (.bool true))]⟩) ::
(nat_lit 143, ⟨(.type "tuple"), none, (.seq #[(.ref 31)] 0), #[]⟩) ::
(nat_lit 150, ⟨(.type "tuple"), none, (.seq #[] 0), #[]⟩) ::
(nat_lit 151, ⟨(.type "dict"), none, (.dict #[⟨PyData.keyHash P (.ofString "__module__"), (.str (.ofString "__module__") 365), (.str (.ofString "wholeways.errors") 187)⟩, ⟨PyData.keyHash P (.ofString "__firstlineno__"), (.str (.ofString "__firstlineno__") 369), (.int (24) 368)⟩, ⟨PyData.keyHash P (.ofString "__static_attributes__"), (.str (.ofString "__static_attributes__") 370), (.ref 150)⟩, ⟨PyData.keyHash P (.ofString "__doc__"), (.str (.ofString "__doc__") 371), .none⟩] 2), #[]⟩) ::
(nat_lit 152, ⟨(.type "type"), none, (.cls ⟨.ofString "NoItems", [(.ref 31)], [(.ref 152), (.ref 31), (.type "ValueError"), (.type "Exception"), (.type "BaseException"), (.type "object")], 151, .ofString "NoItems", true, [], [], false, none, false⟩), #[(some (.ref 143)), none, (some (.str (.ofString "NoItems") 358)), (some (.str (.ofString "NoItems") 366)), (some (.builtin "ValueError.__new__")), (some (.bool true))]⟩) ::
(nat_lit 155, ⟨(.type "tuple"), none, (.seq #[(.ref 31)] 0), #[]⟩) ::
(nat_lit 162, ⟨(.type "tuple"), none, (.seq #[] 0), #[]⟩) ::
(nat_lit 163, ⟨(.type "dict"), none, (.dict #[⟨PyData.keyHash P (.ofString "__module__"), (.str (.ofString "__module__") 381), (.str (.ofString "wholeways.errors") 187)⟩, ⟨PyData.keyHash P (.ofString "__firstlineno__"), (.str (.ofString "__firstlineno__") 385), (.int (26) 384)⟩, ⟨PyData.keyHash P (.ofString "__static_attributes__"), (.str (.ofString "__static_attributes__") 386), (.ref 162)⟩, ⟨PyData.keyHash P (.ofString "__doc__"), (.str (.ofString "__doc__") 387), .none⟩] 2), #[]⟩) ::
(nat_lit 164, ⟨(.type "type"), none, (.cls ⟨.ofString "NoRoom", [(.ref 31)], [(.ref 164), (.ref 31), (.type "ValueError"), (.type "Exception"), (.type "BaseException"), (.type "object")], 163, .ofString "NoRoom", true, [], [], false, none, false⟩), #[(some (.ref 155)), none, (some (.str (.ofString "NoRoom") 374)), (some (.str (.ofString "NoRoom") 382)), (some (.builtin "ValueError.__new__")), (some (.bool true))]⟩) ::
(nat_lit 167, ⟨(.type "tuple"), none, (.seq #[(.ref 31)] 0), #[]⟩) ::
(nat_lit 174, ⟨(.type "tuple"), none, (.seq #[] 0), #[]⟩) ::
(nat_lit 175, ⟨(.type "dict"), none, (.dict #[⟨PyData.keyHash P (.ofString "__module__"), (.str (.ofString "__module__") 397), (.str (.ofString "wholeways.errors") 187)⟩, ⟨PyData.keyHash P (.ofString "__firstlineno__"), (.str (.ofString "__firstlineno__") 401), (.int (28) 400)⟩, ⟨PyData.keyHash P (.ofString "__static_attributes__"), (.str (.ofString "__static_attributes__") 402), (.ref 174)⟩, ⟨PyData.keyHash P (.ofString "__doc__"), (.str (.ofString "__doc__") 403), .none⟩] 2), #[]⟩) ::
(nat_lit 176, ⟨(.type "type"), none, (.cls ⟨.ofString "NoNote", [(.ref 31)], [(.ref 176), (.ref 31), (.type "ValueError"), (.type "Exception"), (.type "BaseException"), (.type "object")], 175, .ofString "NoNote", true, [], [], false, none, false⟩), #[(some (.ref 167)), none, (some (.str (.ofString "NoNote") 390)), (some (.str (.ofString "NoNote") 398)), (some (.builtin "ValueError.__new__")), (some (.bool true))]⟩) ::
(nat_lit 179, ⟨(.type "tuple"), none, (.seq #[(.ref 31)] 0), #[]⟩) ::
(nat_lit 186, ⟨(.type "tuple"), none, (.seq #[] 0), #[]⟩) ::
(nat_lit 187, ⟨(.type "dict"), none, (.dict #[⟨PyData.keyHash P (.ofString "__module__"), (.str (.ofString "__module__") 413), (.str (.ofString "wholeways.errors") 187)⟩, ⟨PyData.keyHash P (.ofString "__firstlineno__"), (.str (.ofString "__firstlineno__") 417), (.int (30) 416)⟩, ⟨PyData.keyHash P (.ofString "__static_attributes__"), (.str (.ofString "__static_attributes__") 418), (.ref 186)⟩, ⟨PyData.keyHash P (.ofString "__doc__"), (.str (.ofString "__doc__") 419), .none⟩] 2), #[]⟩) ::
(nat_lit 188, ⟨(.type "type"), none, (.cls ⟨.ofString "TooLarge", [(.ref 31)], [(.ref 188), (.ref 31), (.type "ValueError"), (.type "Exception"), (.type "BaseException"), (.type "object")], 187, .ofString "TooLarge", true, [], [], false, none, false⟩), #[(some (.ref 179)), none, (some (.str (.ofString "TooLarge") 406)), (some (.str (.ofString "TooLarge") 414)), (some (.builtin "ValueError.__new__")), (some (.bool true))]⟩) ::
(nat_lit 191, ⟨(.type "tuple"), none, (.seq #[(.ref 31)] 0), #[]⟩) ::
(nat_lit 198, ⟨(.type "tuple"), none, (.seq #[] 0), #[]⟩) ::
(nat_lit 199, ⟨(.type "dict"), none, (.dict #[⟨PyData.keyHash P (.ofString "__module__"), (.str (.ofString "__module__") 429), (.str (.ofString "wholeways.errors") 187)⟩, ⟨PyData.keyHash P (.ofString "__firstlineno__"), (.str (.ofString "__firstlineno__") 433), (.int (32) 432)⟩, ⟨PyData.keyHash P (.ofString "__static_attributes__"), (.str (.ofString "__static_attributes__") 434), (.ref 198)⟩, ⟨PyData.keyHash P (.ofString "__doc__"), (.str (.ofString "__doc__") 435), .none⟩] 2), #[]⟩) ::
(nat_lit 200, ⟨(.type "type"), none, (.cls ⟨.ofString "Over", [(.ref 31)], [(.ref 200), (.ref 31), (.type "ValueError"), (.type "Exception"), (.type "BaseException"), (.type "object")], 199, .ofString "Over", true, [], [], false, none, false⟩), #[(some (.ref 191)), none, (some (.str (.ofString "Over") 422)), (some (.str (.ofString "Over") 430)), (some (.builtin "ValueError.__new__")), (some (.bool true))]⟩) ::
(nat_lit 203, ⟨(.type "tuple"), none, (.seq #[(.ref 31)] 0), #[]⟩) ::
(nat_lit 210, ⟨(.type "tuple"), none, (.seq #[] 0), #[]⟩) ::
(nat_lit 211, ⟨(.type "dict"), none, (.dict #[⟨PyData.keyHash P (.ofString "__module__"), (.str (.ofString "__module__") 445), (.str (.ofString "wholeways.errors") 187)⟩, ⟨PyData.keyHash P (.ofString "__firstlineno__"), (.str (.ofString "__firstlineno__") 449), (.int (34) 448)⟩, ⟨PyData.keyHash P (.ofString "__static_attributes__"), (.str (.ofString "__static_attributes__") 450), (.ref 210)⟩, ⟨PyData.keyHash P (.ofString "__doc__"), (.str (.ofString "__doc__") 451), .none⟩] 2), #[]⟩) ::
(nat_lit 212, ⟨(.type "type"), none, (.cls ⟨.ofString "NoSpot", [(.ref 31)], [(.ref 212), (.ref 31), (.type "ValueError"), (.type "Exception"), (.type "BaseException"), (.type "object")], 211, .ofString "NoSpot", true, [], [], false, none, false⟩), #[(some (.ref 203)), none, (some (.str (.ofString "NoSpot") 438)), (some (.str (.ofString "NoSpot") 446)), (some (.builtin "ValueError.__new__")), (some (.bool true))]⟩) ::
(nat_lit 215, ⟨(.type "tuple"), none, (.seq #[(.ref 31)] 0), #[]⟩) ::
(nat_lit 222, ⟨(.type "tuple"), none, (.seq #[] 0), #[]⟩) ::
(nat_lit 223, ⟨(.type "dict"), none, (.dict #[⟨PyData.keyHash P (.ofString "__module__"), (.str (.ofString "__module__") 461), (.str (.ofString "wholeways.errors") 187)⟩, ⟨PyData.keyHash P (.ofString "__firstlineno__"), (.str (.ofString "__firstlineno__") 465), (.int (36) 464)⟩, ⟨PyData.keyHash P (.ofString "__static_attributes__"), (.str (.ofString "__static_attributes__") 466), (.ref 222)⟩, ⟨PyData.keyHash P (.ofString "__doc__"), (.str (.ofString "__doc__") 467), .none⟩] 2), #[]⟩) ::
(nat_lit 224, ⟨(.type "type"), none, (.cls ⟨.ofString "NoMark", [(.ref 31)], [(.ref 224), (.ref 31), (.type "ValueError"), (.type "Exception"), (.type "BaseException"), (.type "object")], 223, .ofString "NoMark", true, [], [], false, none, false⟩), #[(some (.ref 215)), none, (some (.str (.ofString "NoMark") 454)), (some (.str (.ofString "NoMark") 462)), (some (.builtin "ValueError.__new__")), (some (.bool true))]⟩) ::
(nat_lit 227, ⟨(.type "tuple"), none, (.seq #[(.ref 31)] 0), #[]⟩) ::
(nat_lit 234, ⟨(.type "tuple"), none, (.seq #[] 0), #[]⟩) ::
(nat_lit 235, ⟨(.type "dict"), none, (.dict #[⟨PyData.keyHash P (.ofString "__module__"), (.str (.ofString "__module__") 477), (.str (.ofString "wholeways.errors") 187)⟩, ⟨PyData.keyHash P (.ofString "__firstlineno__"), (.str (.ofString "__firstlineno__") 481), (.int (38) 480)⟩, ⟨PyData.keyHash P (.ofString "__static_attributes__"), (.str (.ofString "__static_attributes__") 482), (.ref 234)⟩, ⟨PyData.keyHash P (.ofString "__doc__"), (.str (.ofString "__doc__") 483), .none⟩] 2), #[]⟩) ::
(nat_lit 236, ⟨(.type "type"), none, (.cls ⟨.ofString "NotThere", [(.ref 31)], [(.ref 236), (.ref 31), (.type "ValueError"), (.type "Exception"), (.type "BaseException"), (.type "object")], 235, .ofString "NotThere", true, [], [], false, none, false⟩), #[(some (.ref 227)), none, (some (.str (.ofString "NotThere") 470)), (some (.str (.ofString "NotThere") 478)), (some (.builtin "ValueError.__new__")), (some (.bool true))]⟩) ::
(nat_lit 239, ⟨(.type "tuple"), none, (.seq #[(.ref 31)] 0), #[]⟩) ::
(nat_lit 246, ⟨(.type "tuple"), none, (.seq #[] 0), #[]⟩) ::
(nat_lit 247, ⟨(.type "dict"), none, (.dict #[⟨PyData.keyHash P (.ofString "__module__"), (.str (.ofString "__module__") 493), (.str (.ofString "wholeways.errors") 187)⟩, ⟨PyData.keyHash P (.ofString "__firstlineno__"), (.str (.ofString "__firstlineno__") 497), (.int (40) 496)⟩, ⟨PyData.keyHash P (.ofString "__static_attributes__"), (.str (.ofString "__static_attributes__") 498), (.ref 246)⟩, ⟨PyData.keyHash P (.ofString "__doc__"), (.str (.ofString "__doc__") 499), .none⟩] 2), #[]⟩) ::
(nat_lit 248, ⟨(.type "type"), none, (.cls ⟨.ofString "NoCommit", [(.ref 31)], [(.ref 248), (.ref 31), (.type "ValueError"), (.type "Exception"), (.type "BaseException"), (.type "object")], 247, .ofString "NoCommit", true, [], [], false, none, false⟩), #[(some (.ref 239)), none, (some (.str (.ofString "NoCommit") 486)), (some (.str (.ofString "NoCommit") 494)), (some (.builtin "ValueError.__new__")), (some (.bool true))]⟩) ::
(nat_lit 251, ⟨(.type "tuple"), none, (.seq #[(.ref 31)] 0), #[]⟩) ::
(nat_lit 258, ⟨(.type "tuple"), none, (.seq #[] 0), #[]⟩) ::
(nat_lit 259, ⟨(.type "dict"), none, (.dict #[⟨PyData.keyHash P (.ofString "__module__"), (.str (.ofString "__module__") 509), (.str (.ofString "wholeways.errors") 187)⟩, ⟨PyData.keyHash P (.ofString "__firstlineno__"), (.str (.ofString "__firstlineno__") 513), (.int (42) 512)⟩, ⟨PyData.keyHash P (.ofString "__static_attributes__"), (.str (.ofString "__static_attributes__") 514), (.ref 258)⟩, ⟨PyData.keyHash P (.ofString "__doc__"), (.str (.ofString "__doc__") 515), .none⟩] 2), #[]⟩) ::
(nat_lit 260, ⟨(.type "type"), none, (.cls ⟨.ofString "NoChanges", [(.ref 31)], [(.ref 260), (.ref 31), (.type "ValueError"), (.type "Exception"), (.type "BaseException"), (.type "object")], 259, .ofString "NoChanges", true, [], [], false, none, false⟩), #[(some (.ref 251)), none, (some (.str (.ofString "NoChanges") 502)), (some (.str (.ofString "NoChanges") 510)), (some (.builtin "ValueError.__new__")), (some (.bool true))]⟩) ::
(nat_lit 263, ⟨(.type "tuple"), none, (.seq #[(.ref 31)] 0), #[]⟩) ::
(nat_lit 270, ⟨(.type "tuple"), none, (.seq #[] 0), #[]⟩) ::
(nat_lit 271, ⟨(.type "dict"), none, (.dict #[⟨PyData.keyHash P (.ofString "__module__"), (.str (.ofString "__module__") 525), (.str (.ofString "wholeways.errors") 187)⟩, ⟨PyData.keyHash P (.ofString "__firstlineno__"), (.str (.ofString "__firstlineno__") 529), (.int (44) 528)⟩, ⟨PyData.keyHash P (.ofString "__static_attributes__"), (.str (.ofString "__static_attributes__") 530), (.ref 270)⟩, ⟨PyData.keyHash P (.ofString "__doc__"), (.str (.ofString "__doc__") 531), .none⟩] 2), #[]⟩) ::
(nat_lit 272, ⟨(.type "type"), none, (.cls ⟨.ofString "NoSnapshot", [(.ref 31)], [(.ref 272), (.ref 31), (.type "ValueError"), (.type "Exception"), (.type "BaseException"), (.type "object")], 271, .ofString "NoSnapshot", true, [], [], false, none, false⟩), #[(some (.ref 263)), none, (some (.str (.ofString "NoSnapshot") 518)), (some (.str (.ofString "NoSnapshot") 526)), (some (.builtin "ValueError.__new__")), (some (.bool true))]⟩) ::
(nat_lit 275, ⟨(.type "tuple"), none, (.seq #[(.ref 31)] 0), #[]⟩) ::
(nat_lit 282, ⟨(.type "tuple"), none, (.seq #[] 0), #[]⟩) ::
(nat_lit 283, ⟨(.type "dict"), none, (.dict #[⟨PyData.keyHash P (.ofString "__module__"), (.str (.ofString "__module__") 541), (.str (.ofString "wholeways.errors") 187)⟩, ⟨PyData.keyHash P (.ofString "__firstlineno__"), (.str (.ofString "__firstlineno__") 545), (.int (46) 544)⟩, ⟨PyData.keyHash P (.ofString "__static_attributes__"), (.str (.ofString "__static_attributes__") 546), (.ref 282)⟩, ⟨PyData.keyHash P (.ofString "__doc__"), (.str (.ofString "__doc__") 547), .none⟩] 2), #[]⟩) ::
(nat_lit 284, ⟨(.type "type"), none, (.cls ⟨.ofString "NoKey", [(.ref 31)], [(.ref 284), (.ref 31), (.type "ValueError"), (.type "Exception"), (.type "BaseException"), (.type "object")], 283, .ofString "NoKey", true, [], [], false, none, false⟩), #[(some (.ref 275)), none, (some (.str (.ofString "NoKey") 534)), (some (.str (.ofString "NoKey") 542)), (some (.builtin "ValueError.__new__")), (some (.bool true))]⟩) ::
(nat_lit 287, ⟨(.type "tuple"), none, (.seq #[(.ref 31)] 0), #[]⟩) ::
(nat_lit 294, ⟨(.type "tuple"), none, (.seq #[] 0), #[]⟩) ::
(nat_lit 295, ⟨(.type "dict"), none, (.dict #[⟨PyData.keyHash P (.ofString "__module__"), (.str (.ofString "__module__") 557), (.str (.ofString "wholeways.errors") 187)⟩, ⟨PyData.keyHash P (.ofString "__firstlineno__"), (.str (.ofString "__firstlineno__") 561), (.int (48) 560)⟩, ⟨PyData.keyHash P (.ofString "__static_attributes__"), (.str (.ofString "__static_attributes__") 562), (.ref 294)⟩, ⟨PyData.keyHash P (.ofString "__doc__"), (.str (.ofString "__doc__") 563), .none⟩] 2), #[]⟩) ::
(nat_lit 296, ⟨(.type "type"), none, (.cls ⟨.ofString "NoWorth", [(.ref 31)], [(.ref 296), (.ref 31), (.type "ValueError"), (.type "Exception"), (.type "BaseException"), (.type "object")], 295, .ofString "NoWorth", true, [], [], false, none, false⟩), #[(some (.ref 287)), none, (some (.str (.ofString "NoWorth") 550)), (some (.str (.ofString "NoWorth") 558)), (some (.builtin "ValueError.__new__")), (some (.bool true))]⟩) ::
(nat_lit 299, ⟨(.type "tuple"), none, (.seq #[(.ref 31)] 0), #[]⟩) ::
(nat_lit 306, ⟨(.type "tuple"), none, (.seq #[] 0), #[]⟩) ::
(nat_lit 307, ⟨(.type "dict"), none, (.dict #[⟨PyData.keyHash P (.ofString "__module__"), (.str (.ofString "__module__") 573), (.str (.ofString "wholeways.errors") 187)⟩, ⟨PyData.keyHash P (.ofString "__firstlineno__"), (.str (.ofString "__firstlineno__") 577), (.int (50) 576)⟩, ⟨PyData.keyHash P (.ofString "__static_attributes__"), (.str (.ofString "__static_attributes__") 578), (.ref 306)⟩, ⟨PyData.keyHash P (.ofString "__doc__"), (.str (.ofString "__doc__") 579), .none⟩] 2), #[]⟩) ::
(nat_lit 308, ⟨(.type "type"), none, (.cls ⟨.ofString "NoNumber", [(.ref 31)], [(.ref 308), (.ref 31), (.type "ValueError"), (.type "Exception"), (.type "BaseException"), (.type "object")], 307, .ofString "NoNumber", true, [], [], false, none, false⟩), #[(some (.ref 299)), none, (some (.str (.ofString "NoNumber") 566)), (some (.str (.ofString "NoNumber") 574)), (some (.builtin "ValueError.__new__")), (some (.bool true))]⟩) ::
(nat_lit 311, ⟨(.type "tuple"), none, (.seq #[(.ref 31)] 0), #[]⟩) ::
(nat_lit 318, ⟨(.type "tuple"), none, (.seq #[] 0), #[]⟩) ::
(nat_lit 319, ⟨(.type "dict"), none, (.dict #[⟨PyData.keyHash P (.ofString "__module__"), (.str (.ofString "__module__") 589), (.str (.ofString "wholeways.errors") 187)⟩, ⟨PyData.keyHash P (.ofString "__firstlineno__"), (.str (.ofString "__firstlineno__") 593), (.int (52) 592)⟩, ⟨PyData.keyHash P (.ofString "__static_attributes__"), (.str (.ofString "__static_attributes__") 594), (.ref 318)⟩, ⟨PyData.keyHash P (.ofString "__doc__"), (.str (.ofString "__doc__") 595), .none⟩] 2), #[]⟩) ::
(nat_lit 320, ⟨(.type "type"), none, (.cls ⟨.ofString "NotOpen", [(.ref 31)], [(.ref 320), (.ref 31), (.type "ValueError"), (.type "Exception"), (.type "BaseException"), (.type "object")], 319, .ofString "NotOpen", true, [], [], false, none, false⟩), #[(some (.ref 311)), none, (some (.str (.ofString "NotOpen") 582)), (some (.str (.ofString "NotOpen") 590)), (some (.builtin "ValueError.__new__")), (some (.bool true))]⟩) ::
(nat_lit 323, ⟨(.type "tuple"), none, (.seq #[(.ref 31)] 0), #[]⟩) ::
(nat_lit 330, ⟨(.type "tuple"), none, (.seq #[] 0), #[]⟩) ::
(nat_lit 331, ⟨(.type "dict"), none, (.dict #[⟨PyData.keyHash P (.ofString "__module__"), (.str (.ofString "__module__") 605), (.str (.ofString "wholeways.errors") 187)⟩, ⟨PyData.keyHash P (.ofString "__firstlineno__"), (.str (.ofString "__firstlineno__") 609), (.int (54) 608)⟩, ⟨PyData.keyHash P (.ofString "__static_attributes__"), (.str (.ofString "__static_attributes__") 610), (.ref 330)⟩, ⟨PyData.keyHash P (.ofString "__doc__"), (.str (.ofString "__doc__") 611), .none⟩] 2), #[]⟩) ::
(nat_lit 332, ⟨(.type "type"), none, (.cls ⟨.ofString "BadSeen", [(.ref 31)], [(.ref 332), (.ref 31), (.type "ValueError"), (.type "Exception"), (.type "BaseException"), (.type "object")], 331, .ofString "BadSeen", true, [], [], false, none, false⟩), #[(some (.ref 323)), none, (some (.str (.ofString "BadSeen") 598)), (some (.str (.ofString "BadSeen") 606)), (some (.builtin "ValueError.__new__")), (some (.bool true))]⟩) ::
(nat_lit 335, ⟨(.type "tuple"), none, (.seq #[(.ref 31)] 0), #[]⟩) ::
(nat_lit 342, ⟨(.type "tuple"), none, (.seq #[] 0), #[]⟩) ::
(nat_lit 343, ⟨(.type "dict"), none, (.dict #[⟨PyData.keyHash P (.ofString "__module__"), (.str (.ofString "__module__") 621), (.str (.ofString "wholeways.errors") 187)⟩, ⟨PyData.keyHash P (.ofString "__firstlineno__"), (.str (.ofString "__firstlineno__") 625), (.int (56) 624)⟩, ⟨PyData.keyHash P (.ofString "__static_attributes__"), (.str (.ofString "__static_attributes__") 626), (.ref 342)⟩, ⟨PyData.keyHash P (.ofString "__doc__"), (.str (.ofString "__doc__") 627), .none⟩] 2), #[]⟩) ::
(nat_lit 344, ⟨(.type "type"), none, (.cls ⟨.ofString "BadWrites", [(.ref 31)], [(.ref 344), (.ref 31), (.type "ValueError"), (.type "Exception"), (.type "BaseException"), (.type "object")], 343, .ofString "BadWrites", true, [], [], false, none, false⟩), #[(some (.ref 335)), none, (some (.str (.ofString "BadWrites") 614)), (some (.str (.ofString "BadWrites") 622)), (some (.builtin "ValueError.__new__")), (some (.bool true))]⟩) ::
(nat_lit 347, ⟨(.type "tuple"), none, (.seq #[(.ref 31)] 0), #[]⟩) ::
(nat_lit 354, ⟨(.type "tuple"), none, (.seq #[] 0), #[]⟩) ::
(nat_lit 355, ⟨(.type "dict"), none, (.dict #[⟨PyData.keyHash P (.ofString "__module__"), (.str (.ofString "__module__") 637), (.str (.ofString "wholeways.errors") 187)⟩, ⟨PyData.keyHash P (.ofString "__firstlineno__"), (.str (.ofString "__firstlineno__") 641), (.int (58) 640)⟩, ⟨PyData.keyHash P (.ofString "__static_attributes__"), (.str (.ofString "__static_attributes__") 642), (.ref 354)⟩, ⟨PyData.keyHash P (.ofString "__doc__"), (.str (.ofString "__doc__") 643), .none⟩] 2), #[]⟩) ::
(nat_lit 356, ⟨(.type "type"), none, (.cls ⟨.ofString "NotRemembered", [(.ref 31)], [(.ref 356), (.ref 31), (.type "ValueError"), (.type "Exception"), (.type "BaseException"), (.type "object")], 355, .ofString "NotRemembered", true, [], [], false, none, false⟩), #[(some (.ref 347)), none, (some (.str (.ofString "NotRemembered") 630)), (some (.str (.ofString "NotRemembered") 638)), (some (.builtin "ValueError.__new__")), (some (.bool true))]⟩) ::
(nat_lit 359, ⟨(.type "tuple"), none, (.seq #[(.ref 31)] 0), #[]⟩) ::
(nat_lit 366, ⟨(.type "tuple"), none, (.seq #[] 0), #[]⟩) ::
(nat_lit 367, ⟨(.type "dict"), none, (.dict #[⟨PyData.keyHash P (.ofString "__module__"), (.str (.ofString "__module__") 653), (.str (.ofString "wholeways.errors") 187)⟩, ⟨PyData.keyHash P (.ofString "__firstlineno__"), (.str (.ofString "__firstlineno__") 657), (.int (60) 656)⟩, ⟨PyData.keyHash P (.ofString "__static_attributes__"), (.str (.ofString "__static_attributes__") 658), (.ref 366)⟩, ⟨PyData.keyHash P (.ofString "__doc__"), (.str (.ofString "__doc__") 659), .none⟩] 2), #[]⟩) ::
(nat_lit 368, ⟨(.type "type"), none, (.cls ⟨.ofString "NoIndex", [(.ref 31)], [(.ref 368), (.ref 31), (.type "ValueError"), (.type "Exception"), (.type "BaseException"), (.type "object")], 367, .ofString "NoIndex", true, [], [], false, none, false⟩), #[(some (.ref 359)), none, (some (.str (.ofString "NoIndex") 646)), (some (.str (.ofString "NoIndex") 654)), (some (.builtin "ValueError.__new__")), (some (.bool true))]⟩) ::
(nat_lit 371, ⟨(.type "tuple"), none, (.seq #[(.ref 31)] 0), #[]⟩) ::
(nat_lit 378, ⟨(.type "tuple"), none, (.seq #[] 0), #[]⟩) ::
(nat_lit 379, ⟨(.type "dict"), none, (.dict #[⟨PyData.keyHash P (.ofString "__module__"), (.str (.ofString "__module__") 669), (.str (.ofString "wholeways.errors") 187)⟩, ⟨PyData.keyHash P (.ofString "__firstlineno__"), (.str (.ofString "__firstlineno__") 673), (.int (62) 672)⟩, ⟨PyData.keyHash P (.ofString "__static_attributes__"), (.str (.ofString "__static_attributes__") 674), (.ref 378)⟩, ⟨PyData.keyHash P (.ofString "__doc__"), (.str (.ofString "__doc__") 675), .none⟩] 2), #[]⟩) ::
(nat_lit 380, ⟨(.type "type"), none, (.cls ⟨.ofString "NoOrder", [(.ref 31)], [(.ref 380), (.ref 31), (.type "ValueError"), (.type "Exception"), (.type "BaseException"), (.type "object")], 379, .ofString "NoOrder", true, [], [], false, none, false⟩), #[(some (.ref 371)), none, (some (.str (.ofString "NoOrder") 662)), (some (.str (.ofString "NoOrder") 670)), (some (.builtin "ValueError.__new__")), (some (.bool true))]⟩) ::
(nat_lit 383, ⟨(.type "tuple"), none, (.seq #[(.ref 31)] 0), #[]⟩) ::
(nat_lit 390, ⟨(.type "tuple"), none, (.seq #[] 0), #[]⟩) ::
(nat_lit 391, ⟨(.type "dict"), none, (.dict #[⟨PyData.keyHash P (.ofString "__module__"), (.str (.ofString "__module__") 685), (.str (.ofString "wholeways.errors") 187)⟩, ⟨PyData.keyHash P (.ofString "__firstlineno__"), (.str (.ofString "__firstlineno__") 689), (.int (64) 688)⟩, ⟨PyData.keyHash P (.ofString "__static_attributes__"), (.str (.ofString "__static_attributes__") 690), (.ref 390)⟩, ⟨PyData.keyHash P (.ofString "__doc__"), (.str (.ofString "__doc__") 691), .none⟩] 2), #[]⟩) ::
(nat_lit 392, ⟨(.type "type"), none, (.cls ⟨.ofString "NotSerial", [(.ref 31)], [(.ref 392), (.ref 31), (.type "ValueError"), (.type "Exception"), (.type "BaseException"), (.type "object")], 391, .ofString "NotSerial", true, [], [], false, none, false⟩), #[(some (.ref 383)), none, (some (.str (.ofString "NotSerial") 678)), (some (.str (.ofString "NotSerial") 686)), (some (.builtin "ValueError.__new__")), (some (.bool true))]⟩) ::
(nat_lit 395, ⟨(.type "tuple"), none, (.seq #[(.ref 31)] 0), #[]⟩) ::
(nat_lit 402, ⟨(.type "tuple"), none, (.seq #[] 0), #[]⟩) ::
(nat_lit 403, ⟨(.type "dict"), none, (.dict #[⟨PyData.keyHash P (.ofString "__module__"), (.str (.ofString "__module__") 701), (.str (.ofString "wholeways.errors") 187)⟩, ⟨PyData.keyHash P (.ofString "__firstlineno__"), (.str (.ofString "__firstlineno__") 705), (.int (66) 704)⟩, ⟨PyData.keyHash P (.ofString "__static_attributes__"), (.str (.ofString "__static_attributes__") 706), (.ref 402)⟩, ⟨PyData.keyHash P (.ofString "__doc__"), (.str (.ofString "__doc__") 707), .none⟩] 2), #[]⟩) ::
(nat_lit 404, ⟨(.type "type"), none, (.cls ⟨.ofString "NoSnapshots", [(.ref 31)], [(.ref 404), (.ref 31), (.type "ValueError"), (.type "Exception"), (.type "BaseException"), (.type "object")], 403, .ofString "NoSnapshots", true, [], [], false, none, false⟩), #[(some (.ref 395)), none, (some (.str (.ofString "NoSnapshots") 694)), (some (.str (.ofString "NoSnapshots") 702)), (some (.builtin "ValueError.__new__")), (some (.bool true))]⟩) ::
(nat_lit 407, ⟨(.type "tuple"), none, (.seq #[(.ref 31)] 0), #[]⟩) ::
(nat_lit 414, ⟨(.type "tuple"), none, (.seq #[] 0), #[]⟩) ::
(nat_lit 415, ⟨(.type "dict"), none, (.dict #[⟨PyData.keyHash P (.ofString "__module__"), (.str (.ofString "__module__") 717), (.str (.ofString "wholeways.errors") 187)⟩, ⟨PyData.keyHash P (.ofString "__firstlineno__"), (.str (.ofString "__firstlineno__") 721), (.int (68) 720)⟩, ⟨PyData.keyHash P (.ofString "__static_attributes__"), (.str (.ofString "__static_attributes__") 722), (.ref 414)⟩, ⟨PyData.keyHash P (.ofString "__doc__"), (.str (.ofString "__doc__") 723), .none⟩] 2), #[]⟩) ::
(nat_lit 416, ⟨(.type "type"), none, (.cls ⟨.ofString "NoVersion", [(.ref 31)], [(.ref 416), (.ref 31), (.type "ValueError"), (.type "Exception"), (.type "BaseException"), (.type "object")], 415, .ofString "NoVersion", true, [], [], false, none, false⟩), #[(some (.ref 407)), none, (some (.str (.ofString "NoVersion") 710)), (some (.str (.ofString "NoVersion") 718)), (some (.builtin "ValueError.__new__")), (some (.bool true))]⟩) ::
(nat_lit 419, ⟨(.type "tuple"), none, (.seq #[(.ref 31)] 0), #[]⟩) ::
(nat_lit 426, ⟨(.type "tuple"), none, (.seq #[] 0), #[]⟩) ::
(nat_lit 427, ⟨(.type "dict"), none, (.dict #[⟨PyData.keyHash P (.ofString "__module__"), (.str (.ofString "__module__") 733), (.str (.ofString "wholeways.errors") 187)⟩, ⟨PyData.keyHash P (.ofString "__firstlineno__"), (.str (.ofString "__firstlineno__") 737), (.int (70) 736)⟩, ⟨PyData.keyHash P (.ofString "__static_attributes__"), (.str (.ofString "__static_attributes__") 738), (.ref 426)⟩, ⟨PyData.keyHash P (.ofString "__doc__"), (.str (.ofString "__doc__") 739), .none⟩] 2), #[]⟩) ::
(nat_lit 428, ⟨(.type "type"), none, (.cls ⟨.ofString "NoLine", [(.ref 31)], [(.ref 428), (.ref 31), (.type "ValueError"), (.type "Exception"), (.type "BaseException"), (.type "object")], 427, .ofString "NoLine", true, [], [], false, none, false⟩), #[(some (.ref 419)), none, (some (.str (.ofString "NoLine") 726)), (some (.str (.ofString "NoLine") 734)), (some (.builtin "ValueError.__new__")), (some (.bool true))]⟩) ::
(nat_lit 431, ⟨(.type "tuple"), none, (.seq #[(.ref 31)] 0), #[]⟩) ::
(nat_lit 438, ⟨(.type "tuple"), none, (.seq #[] 0), #[]⟩) ::
(nat_lit 439, ⟨(.type "dict"), none, (.dict #[⟨PyData.keyHash P (.ofString "__module__"), (.str (.ofString "__module__") 749), (.str (.ofString "wholeways.errors") 187)⟩, ⟨PyData.keyHash P (.ofString "__firstlineno__"), (.str (.ofString "__firstlineno__") 753), (.int (72) 752)⟩, ⟨PyData.keyHash P (.ofString "__static_attributes__"), (.str (.ofString "__static_attributes__") 754), (.ref 438)⟩, ⟨PyData.keyHash P (.ofString "__doc__"), (.str (.ofString "__doc__") 755), .none⟩] 2), #[]⟩) ::
(nat_lit 440, ⟨(.type "type"), none, (.cls ⟨.ofString "InUse", [(.ref 31)], [(.ref 440), (.ref 31), (.type "ValueError"), (.type "Exception"), (.type "BaseException"), (.type "object")], 439, .ofString "InUse", true, [], [], false, none, false⟩), #[(some (.ref 431)), none, (some (.str (.ofString "InUse") 742)), (some (.str (.ofString "InUse") 750)), (some (.builtin "ValueError.__new__")), (some (.bool true))]⟩) ::
(nat_lit 443, ⟨(.type "tuple"), none, (.seq #[(.ref 31)] 0), #[]⟩) ::
(nat_lit 450, ⟨(.type "tuple"), none, (.seq #[] 0), #[]⟩) ::
(nat_lit 451, ⟨(.type "dict"), none, (.dict #[⟨PyData.keyHash P (.ofString "__module__"), (.str (.ofString "__module__") 765), (.str (.ofString "wholeways.errors") 187)⟩, ⟨PyData.keyHash P (.ofString "__firstlineno__"), (.str (.ofString "__firstlineno__") 769), (.int (74) 768)⟩, ⟨PyData.keyHash P (.ofString "__static_attributes__"), (.str (.ofString "__static_attributes__") 770), (.ref 450)⟩, ⟨PyData.keyHash P (.ofString "__doc__"), (.str (.ofString "__doc__") 771), .none⟩] 2), #[]⟩) ::
(nat_lit 452, ⟨(.type "type"), none, (.cls ⟨.ofString "NoLines", [(.ref 31)], [(.ref 452), (.ref 31), (.type "ValueError"), (.type "Exception"), (.type "BaseException"), (.type "object")], 451, .ofString "NoLines", true, [], [], false, none, false⟩), #[(some (.ref 443)), none, (some (.str (.ofString "NoLines") 758)), (some (.str (.ofString "NoLines") 766)), (some (.builtin "ValueError.__new__")), (some (.bool true))]⟩) ::
(nat_lit 455, ⟨(.type "tuple"), none, (.seq #[(.ref 31)] 0), #[]⟩) ::
(nat_lit 462, ⟨(.type "tuple"), none, (.seq #[] 0), #[]⟩) ::
(nat_lit 463, ⟨(.type "dict"), none, (.dict #[⟨PyData.keyHash P (.ofString "__module__"), (.str (.ofString "__module__") 781), (.str (.ofString "wholeways.errors") 187)⟩, ⟨PyData.keyHash P (.ofString "__firstlineno__"), (.str (.ofString "__firstlineno__") 785), (.int (76) 784)⟩, ⟨PyData.keyHash P (.ofString "__static_attributes__"), (.str (.ofString "__static_attributes__") 786), (.ref 462)⟩, ⟨PyData.keyHash P (.ofString "__doc__"), (.str (.ofString "__doc__") 787), .none⟩] 2), #[]⟩) ::
(nat_lit 464, ⟨(.type "type"), none, (.cls ⟨.ofString "NotWhole", [(.ref 31)], [(.ref 464), (.ref 31), (.type "ValueError"), (.type "Exception"), (.type "BaseException"), (.type "object")], 463, .ofString "NotWhole", true, [], [], false, none, false⟩), #[(some (.ref 455)), none, (some (.str (.ofString "NotWhole") 774)), (some (.str (.ofString "NotWhole") 782)), (some (.builtin "ValueError.__new__")), (some (.bool true))]⟩) ::
(nat_lit 467, ⟨(.type "tuple"), none, (.seq #[(.ref 31)] 0), #[]⟩) ::
(nat_lit 474, ⟨(.type "tuple"), none, (.seq #[] 0), #[]⟩) ::
(nat_lit 475, ⟨(.type "dict"), none, (.dict #[⟨PyData.keyHash P (.ofString "__module__"), (.str (.ofString "__module__") 797), (.str (.ofString "wholeways.errors") 187)⟩, ⟨PyData.keyHash P (.ofString "__firstlineno__"), (.str (.ofString "__firstlineno__") 801), (.int (78) 800)⟩, ⟨PyData.keyHash P (.ofString "__static_attributes__"), (.str (.ofString "__static_attributes__") 802), (.ref 474)⟩, ⟨PyData.keyHash P (.ofString "__doc__"), (.str (.ofString "__doc__") 803), .none⟩] 2), #[]⟩) ::
(nat_lit 476, ⟨(.type "type"), none, (.cls ⟨.ofString "NoNode", [(.ref 31)], [(.ref 476), (.ref 31), (.type "ValueError"), (.type "Exception"), (.type "BaseException"), (.type "object")], 475, .ofString "NoNode", true, [], [], false, none, false⟩), #[(some (.ref 467)), none, (some (.str (.ofString "NoNode") 790)), (some (.str (.ofString "NoNode") 798)), (some (.builtin "ValueError.__new__")), (some (.bool true))]⟩) ::
(nat_lit 479, ⟨(.type "tuple"), none, (.seq #[(.ref 31)] 0), #[]⟩) ::
(nat_lit 486, ⟨(.type "tuple"), none, (.seq #[] 0), #[]⟩) ::
(nat_lit 487, ⟨(.type "dict"), none, (.dict #[⟨PyData.keyHash P (.ofString "__module__"), (.str (.ofString "__module__") 813), (.str (.ofString "wholeways.errors") 187)⟩, ⟨PyData.keyHash P (.ofString "__firstlineno__"), (.str (.ofString "__firstlineno__") 817), (.int (80) 816)⟩, ⟨PyData.keyHash P (.ofString "__static_attributes__"), (.str (.ofString "__static_attributes__") 818), (.ref 486)⟩, ⟨PyData.keyHash P (.ofString "__doc__"), (.str (.ofString "__doc__") 819), .none⟩] 2), #[]⟩) ::
(nat_lit 488, ⟨(.type "type"), none, (.cls ⟨.ofString "NodeThere", [(.ref 31)], [(.ref 488), (.ref 31), (.type "ValueError"), (.type "Exception"), (.type "BaseException"), (.type "object")], 487, .ofString "NodeThere", true, [], [], false, none, false⟩), #[(some (.ref 479)), none, (some (.str (.ofString "NodeThere") 806)), (some (.str (.ofString "NodeThere") 814)), (some (.builtin "ValueError.__new__")), (some (.bool true))]⟩) ::
(nat_lit 491, ⟨(.type "tuple"), none, (.seq #[(.ref 31)] 0), #[]⟩) ::
(nat_lit 498, ⟨(.type "tuple"), none, (.seq #[] 0), #[]⟩) ::
(nat_lit 499, ⟨(.type "dict"), none, (.dict #[⟨PyData.keyHash P (.ofString "__module__"), (.str (.ofString "__module__") 829), (.str (.ofString "wholeways.errors") 187)⟩, ⟨PyData.keyHash P (.ofString "__firstlineno__"), (.str (.ofString "__firstlineno__") 833), (.int (82) 832)⟩, ⟨PyData.keyHash P (.ofString "__static_attributes__"), (.str (.ofString "__static_attributes__") 834), (.ref 498)⟩, ⟨PyData.keyHash P (.ofString "__doc__"), (.str (.ofString "__doc__") 835), .none⟩] 2), #[]⟩) ::
(nat_lit 500, ⟨(.type "type"), none, (.cls ⟨.ofString "NodeTied", [(.ref 31)], [(.ref 500), (.ref 31), (.type "ValueError"), (.type "Exception"), (.type "BaseException"), (.type "object")], 499, .ofString "NodeTied", true, [], [], false, none, false⟩), #[(some (.ref 491)), none, (some (.str (.ofString "NodeTied") 822)), (some (.str (.ofString "NodeTied") 830)), (some (.builtin "ValueError.__new__")), (some (.bool true))]⟩) ::
(nat_lit 503, ⟨(.type "tuple"), none, (.seq #[(.ref 31)] 0), #[]⟩) ::
(nat_lit 510, ⟨(.type "tuple"), none, (.seq #[] 0), #[]⟩) ::
(nat_lit 511, ⟨(.type "dict"), none, (.dict #[⟨PyData.keyHash P (.ofString "__module__"), (.str (.ofString "__module__") 845), (.str (.ofString "wholeways.errors") 187)⟩, ⟨PyData.keyHash P (.ofString "__firstlineno__"), (.str (.ofString "__firstlineno__") 849), (.int (84) 848)⟩, ⟨PyData.keyHash P (.ofString "__static_attributes__"), (.str (.ofString "__static_attributes__") 850), (.ref 510)⟩, ⟨PyData.keyHash P (.ofString "__doc__"), (.str (.ofString "__doc__") 851), .none⟩] 2), #[]⟩) ::
(nat_lit 512, ⟨(.type "type"), none, (.cls ⟨.ofString "NoTieWord", [(.ref 31)], [(.ref 512), (.ref 31), (.type "ValueError"), (.type "Exception"), (.type "BaseException"), (.type "object")], 511, .ofString "NoTieWord", true, [], [], false, none, false⟩), #[(some (.ref 503)), none, (some (.str (.ofString "NoTieWord") 838)), (some (.str (.ofString "NoTieWord") 846)), (some (.builtin "ValueError.__new__")), (some (.bool true))]⟩) ::
(nat_lit 515, ⟨(.type "tuple"), none, (.seq #[(.ref 31)] 0), #[]⟩) ::
(nat_lit 522, ⟨(.type "tuple"), none, (.seq #[] 0), #[]⟩) ::
(nat_lit 523, ⟨(.type "dict"), none, (.dict #[⟨PyData.keyHash P (.ofString "__module__"), (.str (.ofString "__module__") 861), (.str (.ofString "wholeways.errors") 187)⟩, ⟨PyData.keyHash P (.ofString "__firstlineno__"), (.str (.ofString "__firstlineno__") 865), (.int (86) 864)⟩, ⟨PyData.keyHash P (.ofString "__static_attributes__"), (.str (.ofString "__static_attributes__") 866), (.ref 522)⟩, ⟨PyData.keyHash P (.ofString "__doc__"), (.str (.ofString "__doc__") 867), .none⟩] 2), #[]⟩) ::
(nat_lit 524, ⟨(.type "type"), none, (.cls ⟨.ofString "NoWeight", [(.ref 31)], [(.ref 524), (.ref 31), (.type "ValueError"), (.type "Exception"), (.type "BaseException"), (.type "object")], 523, .ofString "NoWeight", true, [], [], false, none, false⟩), #[(some (.ref 515)), none, (some (.str (.ofString "NoWeight") 854)), (some (.str (.ofString "NoWeight") 862)), (some (.builtin "ValueError.__new__")), (some (.bool true))]⟩) ::
(nat_lit 527, ⟨(.type "tuple"), none, (.seq #[(.ref 31)] 0), #[]⟩) ::
(nat_lit 534, ⟨(.type "tuple"), none, (.seq #[] 0), #[]⟩) ::
(nat_lit 535, ⟨(.type "dict"), none, (.dict #[⟨PyData.keyHash P (.ofString "__module__"), (.str (.ofString "__module__") 877), (.str (.ofString "wholeways.errors") 187)⟩, ⟨PyData.keyHash P (.ofString "__firstlineno__"), (.str (.ofString "__firstlineno__") 881), (.int (88) 880)⟩, ⟨PyData.keyHash P (.ofString "__static_attributes__"), (.str (.ofString "__static_attributes__") 882), (.ref 534)⟩, ⟨PyData.keyHash P (.ofString "__doc__"), (.str (.ofString "__doc__") 883), .none⟩] 2), #[]⟩) ::
(nat_lit 536, ⟨(.type "type"), none, (.cls ⟨.ofString "TieThere", [(.ref 31)], [(.ref 536), (.ref 31), (.type "ValueError"), (.type "Exception"), (.type "BaseException"), (.type "object")], 535, .ofString "TieThere", true, [], [], false, none, false⟩), #[(some (.ref 527)), none, (some (.str (.ofString "TieThere") 870)), (some (.str (.ofString "TieThere") 878)), (some (.builtin "ValueError.__new__")), (some (.bool true))]⟩) ::
(nat_lit 539, ⟨(.type "tuple"), none, (.seq #[(.ref 31)] 0), #[]⟩) ::
(nat_lit 546, ⟨(.type "tuple"), none, (.seq #[] 0), #[]⟩) ::
(nat_lit 547, ⟨(.type "dict"), none, (.dict #[⟨PyData.keyHash P (.ofString "__module__"), (.str (.ofString "__module__") 893), (.str (.ofString "wholeways.errors") 187)⟩, ⟨PyData.keyHash P (.ofString "__firstlineno__"), (.str (.ofString "__firstlineno__") 897), (.int (90) 896)⟩, ⟨PyData.keyHash P (.ofString "__static_attributes__"), (.str (.ofString "__static_attributes__") 898), (.ref 546)⟩, ⟨PyData.keyHash P (.ofString "__doc__"), (.str (.ofString "__doc__") 899), .none⟩] 2), #[]⟩) ::
(nat_lit 548, ⟨(.type "type"), none, (.cls ⟨.ofString "NotATie", [(.ref 31)], [(.ref 548), (.ref 31), (.type "ValueError"), (.type "Exception"), (.type "BaseException"), (.type "object")], 547, .ofString "NotATie", true, [], [], false, none, false⟩), #[(some (.ref 539)), none, (some (.str (.ofString "NotATie") 886)), (some (.str (.ofString "NotATie") 894)), (some (.builtin "ValueError.__new__")), (some (.bool true))]⟩) ::
(nat_lit 551, ⟨(.type "tuple"), none, (.seq #[(.ref 31)] 0), #[]⟩) ::
(nat_lit 558, ⟨(.type "tuple"), none, (.seq #[] 0), #[]⟩) ::
(nat_lit 559, ⟨(.type "dict"), none, (.dict #[⟨PyData.keyHash P (.ofString "__module__"), (.str (.ofString "__module__") 909), (.str (.ofString "wholeways.errors") 187)⟩, ⟨PyData.keyHash P (.ofString "__firstlineno__"), (.str (.ofString "__firstlineno__") 913), (.int (92) 912)⟩, ⟨PyData.keyHash P (.ofString "__static_attributes__"), (.str (.ofString "__static_attributes__") 914), (.ref 558)⟩, ⟨PyData.keyHash P (.ofString "__doc__"), (.str (.ofString "__doc__") 915), .none⟩] 2), #[]⟩) ::
(nat_lit 560, ⟨(.type "type"), none, (.cls ⟨.ofString "NoPlan", [(.ref 31)], [(.ref 560), (.ref 31), (.type "ValueError"), (.type "Exception"), (.type "BaseException"), (.type "object")], 559, .ofString "NoPlan", true, [], [], false, none, false⟩), #[(some (.ref 551)), none, (some (.str (.ofString "NoPlan") 902)), (some (.str (.ofString "NoPlan") 910)), (some (.builtin "ValueError.__new__")), (some (.bool true))]⟩) ::
(nat_lit 563, ⟨(.type "tuple"), none, (.seq #[(.ref 31)] 0), #[]⟩) ::
(nat_lit 570, ⟨(.type "tuple"), none, (.seq #[] 0), #[]⟩) ::
(nat_lit 571, ⟨(.type "dict"), none, (.dict #[⟨PyData.keyHash P (.ofString "__module__"), (.str (.ofString "__module__") 925), (.str (.ofString "wholeways.errors") 187)⟩, ⟨PyData.keyHash P (.ofString "__firstlineno__"), (.str (.ofString "__firstlineno__") 929), (.int (94) 928)⟩, ⟨PyData.keyHash P (.ofString "__static_attributes__"), (.str (.ofString "__static_attributes__") 930), (.ref 570)⟩, ⟨PyData.keyHash P (.ofString "__doc__"), (.str (.ofString "__doc__") 931), .none⟩] 2), #[]⟩) ::
(nat_lit 572, ⟨(.type "type"), none, (.cls ⟨.ofString "NoPath", [(.ref 31)], [(.ref 572), (.ref 31), (.type "ValueError"), (.type "Exception"), (.type "BaseException"), (.type "object")], 571, .ofString "NoPath", true, [], [], false, none, false⟩), #[(some (.ref 563)), none, (some (.str (.ofString "NoPath") 918)), (some (.str (.ofString "NoPath") 926)), (some (.builtin "ValueError.__new__")), (some (.bool true))]⟩) ::
(nat_lit 575, ⟨(.type "tuple"), none, (.seq #[(.ref 31)] 0), #[]⟩) ::
(nat_lit 582, ⟨(.type "tuple"), none, (.seq #[] 0), #[]⟩) ::
(nat_lit 583, ⟨(.type "dict"), none, (.dict #[⟨PyData.keyHash P (.ofString "__module__"), (.str (.ofString "__module__") 941), (.str (.ofString "wholeways.errors") 187)⟩, ⟨PyData.keyHash P (.ofString "__firstlineno__"), (.str (.ofString "__firstlineno__") 945), (.int (96) 944)⟩, ⟨PyData.keyHash P (.ofString "__static_attributes__"), (.str (.ofString "__static_attributes__") 946), (.ref 582)⟩, ⟨PyData.keyHash P (.ofString "__doc__"), (.str (.ofString "__doc__") 947), .none⟩] 2), #[]⟩) ::
(nat_lit 584, ⟨(.type "type"), none, (.cls ⟨.ofString "NoExpression", [(.ref 31)], [(.ref 584), (.ref 31), (.type "ValueError"), (.type "Exception"), (.type "BaseException"), (.type "object")], 583, .ofString "NoExpression", true, [], [], false, none, false⟩), #[(some (.ref 575)), none, (some (.str (.ofString "NoExpression") 934)), (some (.str (.ofString "NoExpression") 942)), (some (.builtin "ValueError.__new__")), (some (.bool true))]⟩) ::
(nat_lit 587, ⟨(.type "tuple"), none, (.seq #[(.ref 31)] 0), #[]⟩) ::
(nat_lit 594, ⟨(.type "tuple"), none, (.seq #[] 0), #[]⟩) ::
(nat_lit 595, ⟨(.type "dict"), none, (.dict #[⟨PyData.keyHash P (.ofString "__module__"), (.str (.ofString "__module__") 957), (.str (.ofString "wholeways.errors") 187)⟩, ⟨PyData.keyHash P (.ofString "__firstlineno__"), (.str (.ofString "__firstlineno__") 961), (.int (98) 960)⟩, ⟨PyData.keyHash P (.ofString "__static_attributes__"), (.str (.ofString "__static_attributes__") 962), (.ref 594)⟩, ⟨PyData.keyHash P (.ofString "__doc__"), (.str (.ofString "__doc__") 963), .none⟩] 2), #[]⟩) ::
(nat_lit 596, ⟨(.type "type"), none, (.cls ⟨.ofString "NoPlace", [(.ref 31)], [(.ref 596), (.ref 31), (.type "ValueError"), (.type "Exception"), (.type "BaseException"), (.type "object")], 595, .ofString "NoPlace", true, [], [], false, none, false⟩), #[(some (.ref 587)), none, (some (.str (.ofString "NoPlace") 950)), (some (.str (.ofString "NoPlace") 958)), (some (.builtin "ValueError.__new__")), (some (.bool true))]⟩) ::
(nat_lit 599, ⟨(.type "tuple"), none, (.seq #[(.ref 31)] 0), #[]⟩) ::
(nat_lit 606, ⟨(.type "tuple"), none, (.seq #[] 0), #[]⟩) ::
(nat_lit 607, ⟨(.type "dict"), none, (.dict #[⟨PyData.keyHash P (.ofString "__module__"), (.str (.ofString "__module__") 973), (.str (.ofString "wholeways.errors") 187)⟩, ⟨PyData.keyHash P (.ofString "__firstlineno__"), (.str (.ofString "__firstlineno__") 977), (.int (100) 976)⟩, ⟨PyData.keyHash P (.ofString "__static_attributes__"), (.str (.ofString "__static_attributes__") 978), (.ref 606)⟩, ⟨PyData.keyHash P (.ofString "__doc__"), (.str (.ofString "__doc__") 979), .none⟩] 2), #[]⟩) ::
(nat_lit 608, ⟨(.type "type"), none, (.cls ⟨.ofString "NoQuestion", [(.ref 31)], [(.ref 608), (.ref 31), (.type "ValueError"), (.type "Exception"), (.type "BaseException"), (.type "object")], 607, .ofString "NoQuestion", true, [], [], false, none, false⟩), #[(some (.ref 599)), none, (some (.str (.ofString "NoQuestion") 966)), (some (.str (.ofString "NoQuestion") 974)), (some (.builtin "ValueError.__new__")), (some (.bool true))]⟩) ::
(nat_lit 611, ⟨(.type "tuple"), none, (.seq #[(.ref 31)] 0), #[]⟩) ::
(nat_lit 618, ⟨(.type "tuple"), none, (.seq #[] 0), #[]⟩) ::
(nat_lit 619, ⟨(.type "dict"), none, (.dict #[⟨PyData.keyHash P (.ofString "__module__"), (.str (.ofString "__module__") 989), (.str (.ofString "wholeways.errors") 187)⟩, ⟨PyData.keyHash P (.ofString "__firstlineno__"), (.str (.ofString "__firstlineno__") 993), (.int (102) 992)⟩, ⟨PyData.keyHash P (.ofString "__static_attributes__"), (.str (.ofString "__static_attributes__") 994), (.ref 618)⟩, ⟨PyData.keyHash P (.ofString "__doc__"), (.str (.ofString "__doc__") 995), .none⟩] 2), #[]⟩) ::
(nat_lit 620, ⟨(.type "type"), none, (.cls ⟨.ofString "NoDeed", [(.ref 31)], [(.ref 620), (.ref 31), (.type "ValueError"), (.type "Exception"), (.type "BaseException"), (.type "object")], 619, .ofString "NoDeed", true, [], [], false, none, false⟩), #[(some (.ref 611)), none, (some (.str (.ofString "NoDeed") 982)), (some (.str (.ofString "NoDeed") 990)), (some (.builtin "ValueError.__new__")), (some (.bool true))]⟩) ::
(nat_lit 623, ⟨(.type "tuple"), none, (.seq #[(.ref 31)] 0), #[]⟩) ::
(nat_lit 630, ⟨(.type "tuple"), none, (.seq #[] 0), #[]⟩) ::
(nat_lit 631, ⟨(.type "dict"), none, (.dict #[⟨PyData.keyHash P (.ofString "__module__"), (.str (.ofString "__module__") 1005), (.str (.ofString "wholeways.errors") 187)⟩, ⟨PyData.keyHash P (.ofString "__firstlineno__"), (.str (.ofString "__firstlineno__") 1009), (.int (104) 1008)⟩, ⟨PyData.keyHash P (.ofString "__static_attributes__"), (.str (.ofString "__static_attributes__") 1010), (.ref 630)⟩, ⟨PyData.keyHash P (.ofString "__doc__"), (.str (.ofString "__doc__") 1011), .none⟩] 2), #[]⟩) ::
(nat_lit 632, ⟨(.type "type"), none, (.cls ⟨.ofString "NotKept", [(.ref 31)], [(.ref 632), (.ref 31), (.type "ValueError"), (.type "Exception"), (.type "BaseException"), (.type "object")], 631, .ofString "NotKept", true, [], [], false, none, false⟩), #[(some (.ref 623)), none, (some (.str (.ofString "NotKept") 998)), (some (.str (.ofString "NotKept") 1006)), (some (.builtin "ValueError.__new__")), (some (.bool true))]⟩) ::
(nat_lit 635, ⟨(.type "tuple"), none, (.seq #[(.ref 31)] 0), #[]⟩) ::
(nat_lit 642, ⟨(.type "tuple"), none, (.seq #[] 0), #[]⟩) ::
(nat_lit 644, ⟨(.type "tuple"), none, (.seq #[(.str (.ofString "self") 1029), (.str (.ofString "ring") 1030)] 0), #[]⟩) ::
(nat_lit 645, ⟨(.type "tuple"), none, (.seq #[] 0), #[]⟩) ::
(nat_lit 647, ⟨(.type "code"), none, (.fields #[(.str (.ofString "__init__") 1026), (.str (.ofString "Refused.__init__") 1027), (.str (.ofString "/claim/cut.py") 1028), (.int (108) 0), (.int (2) 0), (.int (0) 0), (.int (0) 0), (.int (3) 0), (.ref 642), (.bool true), (.int (181) 0), (.ref 643), .none, (.ref 644), (.ref 645), (.ref 646), (.int (1031) 0), (.int (108) 0), (.str (.ofString "/claim/cut.py") 1032)]), #[]⟩) ::
(nat_lit 648, ⟨(.type "function"), none, (.func ⟨.ofString "__init__", .ofString "Refused.__init__", L2.defArgs (L2.inClass (hT 52) 0), .stmts (L2.defBody (L2.inClass (hT 52) 0)), L2.defScope (L2.inClass (hT 52) 0), 3, [], .none, .none, .none, (.str (.ofString "wholeways.errors") 187), none, (.ref 647), .none, 0⟩), #[]⟩) ::
(nat_lit 649, ⟨(.type "tuple"), none, (.seq #[(.str (.ofString "ring") 1034)] 0), #[]⟩) ::
(nat_lit 650, ⟨(.type "dict"), none, (.dict #[⟨PyData.keyHash P (.ofString "__module__"), (.str (.ofString "__module__") 1021), (.str (.ofString "wholeways.errors") 187)⟩, ⟨PyData.keyHash P (.ofString "__firstlineno__"), (.str (.ofString "__firstlineno__") 1025), (.int (106) 1024)⟩, ⟨PyData.keyHash P (.ofString "__init__"), (.str (.ofString "__init__") 1033), (.ref 648)⟩, ⟨PyData.keyHash P (.ofString "__static_attributes__"), (.str (.ofString "__static_attributes__") 1035), (.ref 649)⟩, ⟨PyData.keyHash P (.ofString "__doc__"), (.str (.ofString "__doc__") 1036), .none⟩] 2), #[]⟩) ::
(nat_lit 651, ⟨(.type "type"), none, (.cls ⟨.ofString "Refused", [(.ref 31)], [(.ref 651), (.ref 31), (.type "ValueError"), (.type "Exception"), (.type "BaseException"), (.type "object")], 650, .ofString "Refused", true, [], [], false, none, false⟩), #[(some (.ref 635)), none, (some (.str (.ofString "Refused") 1014)), (some (.str (.ofString "Refused") 1022)), (some (.builtin "ValueError.__new__")), (some (.bool true))]⟩) ::
(nat_lit 654, ⟨(.type "tuple"), none, (.seq #[(.ref 31)] 0), #[]⟩) ::
(nat_lit 661, ⟨(.type "tuple"), none, (.seq #[] 0), #[]⟩) ::
(nat_lit 663, ⟨(.type "tuple"), none, (.seq #[(.str (.ofString "self") 1054), (.str (.ofString "part") 1055)] 0), #[]⟩) ::
(nat_lit 664, ⟨(.type "tuple"), none, (.seq #[] 0), #[]⟩) ::
(nat_lit 666, ⟨(.type "code"), none, (.fields #[(.str (.ofString "__init__") 1051), (.str (.ofString "BadDealing.__init__") 1052), (.str (.ofString "/claim/cut.py") 1053), (.int (112) 0), (.int (2) 0), (.int (0) 0), (.int (0) 0), (.int (3) 0), (.ref 661), (.bool true), (.int (181) 0), (.ref 662), .none, (.ref 663), (.ref 664), (.ref 665), (.int (1056) 0), (.int (112) 0), (.str (.ofString "/claim/cut.py") 1057)]), #[]⟩) ::
(nat_lit 667, ⟨(.type "function"), none, (.func ⟨.ofString "__init__", .ofString "BadDealing.__init__", L2.defArgs (L2.inClass (hT 53) 0), .stmts (L2.defBody (L2.inClass (hT 53) 0)), L2.defScope (L2.inClass (hT 53) 0), 3, [], .none, .none, .none, (.str (.ofString "wholeways.errors") 187), none, (.ref 666), .none, 0⟩), #[]⟩) ::
(nat_lit 668, ⟨(.type "tuple"), none, (.seq #[(.str (.ofString "part") 1059)] 0), #[]⟩) ::
(nat_lit 669, ⟨(.type "dict"), none, (.dict #[⟨PyData.keyHash P (.ofString "__module__"), (.str (.ofString "__module__") 1046), (.str (.ofString "wholeways.errors") 187)⟩, ⟨PyData.keyHash P (.ofString "__firstlineno__"), (.str (.ofString "__firstlineno__") 1050), (.int (110) 1049)⟩, ⟨PyData.keyHash P (.ofString "__init__"), (.str (.ofString "__init__") 1058), (.ref 667)⟩, ⟨PyData.keyHash P (.ofString "__static_attributes__"), (.str (.ofString "__static_attributes__") 1060), (.ref 668)⟩, ⟨PyData.keyHash P (.ofString "__doc__"), (.str (.ofString "__doc__") 1061), .none⟩] 2), #[]⟩) ::
(nat_lit 670, ⟨(.type "type"), none, (.cls ⟨.ofString "BadDealing", [(.ref 31)], [(.ref 670), (.ref 31), (.type "ValueError"), (.type "Exception"), (.type "BaseException"), (.type "object")], 669, .ofString "BadDealing", true, [], [], false, none, false⟩), #[(some (.ref 654)), none, (some (.str (.ofString "BadDealing") 1039)), (some (.str (.ofString "BadDealing") 1047)), (some (.builtin "ValueError.__new__")), (some (.bool true))]⟩) ::
(nat_lit 673, ⟨(.type "tuple"), none, (.seq #[(.ref 31)] 0), #[]⟩) ::
(nat_lit 680, ⟨(.type "tuple"), none, (.seq #[] 0), #[]⟩) ::
(nat_lit 682, ⟨(.type "tuple"), none, (.seq #[(.str (.ofString "self") 1079), (.str (.ofString "part") 1080)] 0), #[]⟩) ::
(nat_lit 683, ⟨(.type "tuple"), none, (.seq #[] 0), #[]⟩) ::
(nat_lit 685, ⟨(.type "code"), none, (.fields #[(.str (.ofString "__init__") 1076), (.str (.ofString "NoPlay.__init__") 1077), (.str (.ofString "/claim/cut.py") 1078), (.int (116) 0), (.int (2) 0), (.int (0) 0), (.int (0) 0), (.int (3) 0), (.ref 680), (.bool true), (.int (181) 0), (.ref 681), .none, (.ref 682), (.ref 683), (.ref 684), (.int (1081) 0), (.int (116) 0), (.str (.ofString "/claim/cut.py") 1082)]), #[]⟩) ::
(nat_lit 686, ⟨(.type "function"), none, (.func ⟨.ofString "__init__", .ofString "NoPlay.__init__", L2.defArgs (L2.inClass (hT 54) 0), .stmts (L2.defBody (L2.inClass (hT 54) 0)), L2.defScope (L2.inClass (hT 54) 0), 3, [], .none, .none, .none, (.str (.ofString "wholeways.errors") 187), none, (.ref 685), .none, 0⟩), #[]⟩) ::
(nat_lit 687, ⟨(.type "tuple"), none, (.seq #[(.str (.ofString "part") 1084)] 0), #[]⟩) ::
(nat_lit 688, ⟨(.type "dict"), none, (.dict #[⟨PyData.keyHash P (.ofString "__module__"), (.str (.ofString "__module__") 1071), (.str (.ofString "wholeways.errors") 187)⟩, ⟨PyData.keyHash P (.ofString "__firstlineno__"), (.str (.ofString "__firstlineno__") 1075), (.int (114) 1074)⟩, ⟨PyData.keyHash P (.ofString "__init__"), (.str (.ofString "__init__") 1083), (.ref 686)⟩, ⟨PyData.keyHash P (.ofString "__static_attributes__"), (.str (.ofString "__static_attributes__") 1085), (.ref 687)⟩, ⟨PyData.keyHash P (.ofString "__doc__"), (.str (.ofString "__doc__") 1086), .none⟩] 2), #[]⟩) ::
(nat_lit 689, ⟨(.type "type"), none, (.cls ⟨.ofString "NoPlay", [(.ref 31)], [(.ref 689), (.ref 31), (.type "ValueError"), (.type "Exception"), (.type "BaseException"), (.type "object")], 688, .ofString "NoPlay", true, [], [], false, none, false⟩), #[(some (.ref 673)), none, (some (.str (.ofString "NoPlay") 1064)), (some (.str (.ofString "NoPlay") 1072)), (some (.builtin "ValueError.__new__")), (some (.bool true))]⟩) ::
(nat_lit 692, ⟨(.type "tuple"), none, (.seq #[(.ref 31)] 0), #[]⟩) ::
(nat_lit 699, ⟨(.type "tuple"), none, (.seq #[] 0), #[]⟩) ::
(nat_lit 701, ⟨(.type "tuple"), none, (.seq #[(.str (.ofString "self") 1104), (.str (.ofString "part") 1105)] 0), #[]⟩) ::
(nat_lit 702, ⟨(.type "tuple"), none, (.seq #[] 0), #[]⟩) ::
(nat_lit 704, ⟨(.type "code"), none, (.fields #[(.str (.ofString "__init__") 1101), (.str (.ofString "BadGraph.__init__") 1102), (.str (.ofString "/claim/cut.py") 1103), (.int (120) 0), (.int (2) 0), (.int (0) 0), (.int (0) 0), (.int (3) 0), (.ref 699), (.bool true), (.int (181) 0), (.ref 700), .none, (.ref 701), (.ref 702), (.ref 703), (.int (1106) 0), (.int (120) 0), (.str (.ofString "/claim/cut.py") 1107)]), #[]⟩) ::
(nat_lit 705, ⟨(.type "function"), none, (.func ⟨.ofString "__init__", .ofString "BadGraph.__init__", L2.defArgs (L2.inClass (hT 55) 0), .stmts (L2.defBody (L2.inClass (hT 55) 0)), L2.defScope (L2.inClass (hT 55) 0), 3, [], .none, .none, .none, (.str (.ofString "wholeways.errors") 187), none, (.ref 704), .none, 0⟩), #[]⟩) ::
(nat_lit 706, ⟨(.type "tuple"), none, (.seq #[(.str (.ofString "part") 1109)] 0), #[]⟩) ::
(nat_lit 707, ⟨(.type "dict"), none, (.dict #[⟨PyData.keyHash P (.ofString "__module__"), (.str (.ofString "__module__") 1096), (.str (.ofString "wholeways.errors") 187)⟩, ⟨PyData.keyHash P (.ofString "__firstlineno__"), (.str (.ofString "__firstlineno__") 1100), (.int (118) 1099)⟩, ⟨PyData.keyHash P (.ofString "__init__"), (.str (.ofString "__init__") 1108), (.ref 705)⟩, ⟨PyData.keyHash P (.ofString "__static_attributes__"), (.str (.ofString "__static_attributes__") 1110), (.ref 706)⟩, ⟨PyData.keyHash P (.ofString "__doc__"), (.str (.ofString "__doc__") 1111), .none⟩] 2), #[]⟩) ::
(nat_lit 708, ⟨(.type "type"), none, (.cls ⟨.ofString "BadGraph", [(.ref 31)], [(.ref 708), (.ref 31), (.type "ValueError"), (.type "Exception"), (.type "BaseException"), (.type "object")], 707, .ofString "BadGraph", true, [], [], false, none, false⟩), #[(some (.ref 692)), none, (some (.str (.ofString "BadGraph") 1089)), (some (.str (.ofString "BadGraph") 1097)), (some (.builtin "ValueError.__new__")), (some (.bool true))]⟩) ::
(nat_lit 711, ⟨(.type "tuple"), none, (.seq #[(.ref 31)] 0), #[]⟩) ::
(nat_lit 718, ⟨(.type "tuple"), none, (.seq #[] 0), #[]⟩) ::
(nat_lit 720, ⟨(.type "tuple"), none, (.seq #[(.str (.ofString "self") 1129), (.str (.ofString "index") 1130)] 0), #[]⟩) ::
(nat_lit 721, ⟨(.type "tuple"), none, (.seq #[] 0), #[]⟩) ::
(nat_lit 723, ⟨(.type "code"), none, (.fields #[(.str (.ofString "__init__") 1126), (.str (.ofString "BadHistory.__init__") 1127), (.str (.ofString "/claim/cut.py") 1128), (.int (124) 0), (.int (2) 0), (.int (0) 0), (.int (0) 0), (.int (3) 0), (.ref 718), (.bool true), (.int (181) 0), (.ref 719), .none, (.ref 720), (.ref 721), (.ref 722), (.int (1131) 0), (.int (124) 0), (.str (.ofString "/claim/cut.py") 1132)]), #[]⟩) ::
(nat_lit 724, ⟨(.type "function"), none, (.func ⟨.ofString "__init__", .ofString "BadHistory.__init__", L2.defArgs (L2.inClass (hT 56) 0), .stmts (L2.defBody (L2.inClass (hT 56) 0)), L2.defScope (L2.inClass (hT 56) 0), 3, [], .none, .none, .none, (.str (.ofString "wholeways.errors") 187), none, (.ref 723), .none, 0⟩), #[]⟩) ::
(nat_lit 725, ⟨(.type "tuple"), none, (.seq #[(.str (.ofString "index") 1134)] 0), #[]⟩) ::
(nat_lit 726, ⟨(.type "dict"), none, (.dict #[⟨PyData.keyHash P (.ofString "__module__"), (.str (.ofString "__module__") 1121), (.str (.ofString "wholeways.errors") 187)⟩, ⟨PyData.keyHash P (.ofString "__firstlineno__"), (.str (.ofString "__firstlineno__") 1125), (.int (122) 1124)⟩, ⟨PyData.keyHash P (.ofString "__init__"), (.str (.ofString "__init__") 1133), (.ref 724)⟩, ⟨PyData.keyHash P (.ofString "__static_attributes__"), (.str (.ofString "__static_attributes__") 1135), (.ref 725)⟩, ⟨PyData.keyHash P (.ofString "__doc__"), (.str (.ofString "__doc__") 1136), .none⟩] 2), #[]⟩) ::
(nat_lit 727, ⟨(.type "type"), none, (.cls ⟨.ofString "BadHistory", [(.ref 31)], [(.ref 727), (.ref 31), (.type "ValueError"), (.type "Exception"), (.type "BaseException"), (.type "object")], 726, .ofString "BadHistory", true, [], [], false, none, false⟩), #[(some (.ref 711)), none, (some (.str (.ofString "BadHistory") 1114)), (some (.str (.ofString "BadHistory") 1122)), (some (.builtin "ValueError.__new__")), (some (.bool true))]⟩) ::
(nat_lit 730, ⟨(.type "tuple"), none, (.seq #[(.ref 31)] 0), #[]⟩) ::
(nat_lit 737, ⟨(.type "tuple"), none, (.seq #[] 0), #[]⟩) ::
(nat_lit 739, ⟨(.type "tuple"), none, (.seq #[(.str (.ofString "self") 1154), (.str (.ofString "index") 1155)] 0), #[]⟩) ::
(nat_lit 740, ⟨(.type "tuple"), none, (.seq #[] 0), #[]⟩) ::
(nat_lit 742, ⟨(.type "code"), none, (.fields #[(.str (.ofString "__init__") 1151), (.str (.ofString "NoVersions.__init__") 1152), (.str (.ofString "/claim/cut.py") 1153), (.int (128) 0), (.int (2) 0), (.int (0) 0), (.int (0) 0), (.int (3) 0), (.ref 737), (.bool true), (.int (181) 0), (.ref 738), .none, (.ref 739), (.ref 740), (.ref 741), (.int (1156) 0), (.int (128) 0), (.str (.ofString "/claim/cut.py") 1157)]), #[]⟩) ::
(nat_lit 743, ⟨(.type "function"), none, (.func ⟨.ofString "__init__", .ofString "NoVersions.__init__", L2.defArgs (L2.inClass (hT 57) 0), .stmts (L2.defBody (L2.inClass (hT 57) 0)), L2.defScope (L2.inClass (hT 57) 0), 3, [], .none, .none, .none, (.str (.ofString "wholeways.errors") 187), none, (.ref 742), .none, 0⟩), #[]⟩) ::
(nat_lit 744, ⟨(.type "tuple"), none, (.seq #[(.str (.ofString "index") 1159)] 0), #[]⟩) ::
(nat_lit 745, ⟨(.type "dict"), none, (.dict #[⟨PyData.keyHash P (.ofString "__module__"), (.str (.ofString "__module__") 1146), (.str (.ofString "wholeways.errors") 187)⟩, ⟨PyData.keyHash P (.ofString "__firstlineno__"), (.str (.ofString "__firstlineno__") 1150), (.int (126) 1149)⟩, ⟨PyData.keyHash P (.ofString "__init__"), (.str (.ofString "__init__") 1158), (.ref 743)⟩, ⟨PyData.keyHash P (.ofString "__static_attributes__"), (.str (.ofString "__static_attributes__") 1160), (.ref 744)⟩, ⟨PyData.keyHash P (.ofString "__doc__"), (.str (.ofString "__doc__") 1161), .none⟩] 2), #[]⟩) ::
(nat_lit 746, ⟨(.type "type"), none, (.cls ⟨.ofString "NoVersions", [(.ref 31)], [(.ref 746), (.ref 31), (.type "ValueError"), (.type "Exception"), (.type "BaseException"), (.type "object")], 745, .ofString "NoVersions", true, [], [], false, none, false⟩), #[(some (.ref 730)), none, (some (.str (.ofString "NoVersions") 1139)), (some (.str (.ofString "NoVersions") 1147)), (some (.builtin "ValueError.__new__")), (some (.bool true))]⟩) ::
(nat_lit 749, ⟨(.type "tuple"), none, (.seq #[(.ref 31)] 0), #[]⟩) ::
(nat_lit 756, ⟨(.type "tuple"), none, (.seq #[] 0), #[]⟩) ::
(nat_lit 758, ⟨(.type "tuple"), none, (.seq #[(.str (.ofString "self") 1179), (.str (.ofString "most") 1180)] 0), #[]⟩) ::
(nat_lit 759, ⟨(.type "tuple"), none, (.seq #[] 0), #[]⟩) ::
(nat_lit 761, ⟨(.type "code"), none, (.fields #[(.str (.ofString "__init__") 1176), (.str (.ofString "TooMany.__init__") 1177), (.str (.ofString "/claim/cut.py") 1178), (.int (132) 0), (.int (2) 0), (.int (0) 0), (.int (0) 0), (.int (3) 0), (.ref 756), (.bool true), (.int (181) 0), (.ref 757), .none, (.ref 758), (.ref 759), (.ref 760), (.int (1181) 0), (.int (132) 0), (.str (.ofString "/claim/cut.py") 1182)]), #[]⟩) ::
(nat_lit 762, ⟨(.type "function"), none, (.func ⟨.ofString "__init__", .ofString "TooMany.__init__", L2.defArgs (L2.inClass (hT 58) 0), .stmts (L2.defBody (L2.inClass (hT 58) 0)), L2.defScope (L2.inClass (hT 58) 0), 3, [], .none, .none, .none, (.str (.ofString "wholeways.errors") 187), none, (.ref 761), .none, 0⟩), #[]⟩) ::
(nat_lit 763, ⟨(.type "tuple"), none, (.seq #[(.str (.ofString "most") 1184)] 0), #[]⟩) ::
(nat_lit 764, ⟨(.type "dict"), none, (.dict #[⟨PyData.keyHash P (.ofString "__module__"), (.str (.ofString "__module__") 1171), (.str (.ofString "wholeways.errors") 187)⟩, ⟨PyData.keyHash P (.ofString "__firstlineno__"), (.str (.ofString "__firstlineno__") 1175), (.int (130) 1174)⟩, ⟨PyData.keyHash P (.ofString "__init__"), (.str (.ofString "__init__") 1183), (.ref 762)⟩, ⟨PyData.keyHash P (.ofString "__static_attributes__"), (.str (.ofString "__static_attributes__") 1185), (.ref 763)⟩, ⟨PyData.keyHash P (.ofString "__doc__"), (.str (.ofString "__doc__") 1186), .none⟩] 2), #[]⟩) ::
(nat_lit 765, ⟨(.type "type"), none, (.cls ⟨.ofString "TooMany", [(.ref 31)], [(.ref 765), (.ref 31), (.type "ValueError"), (.type "Exception"), (.type "BaseException"), (.type "object")], 764, .ofString "TooMany", true, [], [], false, none, false⟩), #[(some (.ref 749)), none, (some (.str (.ofString "TooMany") 1164)), (some (.str (.ofString "TooMany") 1172)), (some (.builtin "ValueError.__new__")), (some (.bool true))]⟩) ::
(nat_lit 768, ⟨(.type "tuple"), none, (.seq #[(.ref 31)] 0), #[]⟩) ::
(nat_lit 775, ⟨(.type "tuple"), none, (.seq #[] 0), #[]⟩) ::
(nat_lit 777, ⟨(.type "tuple"), none, (.seq #[(.str (.ofString "self") 1204), (.str (.ofString "name") 1205)] 0), #[]⟩) ::
(nat_lit 778, ⟨(.type "tuple"), none, (.seq #[] 0), #[]⟩) ::
(nat_lit 780, ⟨(.type "code"), none, (.fields #[(.str (.ofString "__init__") 1201), (.str (.ofString "NoName.__init__") 1202), (.str (.ofString "/claim/cut.py") 1203), (.int (136) 0), (.int (2) 0), (.int (0) 0), (.int (0) 0), (.int (3) 0), (.ref 775), (.bool true), (.int (181) 0), (.ref 776), .none, (.ref 777), (.ref 778), (.ref 779), (.int (1206) 0), (.int (136) 0), (.str (.ofString "/claim/cut.py") 1207)]), #[]⟩) ::
(nat_lit 781, ⟨(.type "function"), none, (.func ⟨.ofString "__init__", .ofString "NoName.__init__", L2.defArgs (L2.inClass (hT 59) 0), .stmts (L2.defBody (L2.inClass (hT 59) 0)), L2.defScope (L2.inClass (hT 59) 0), 3, [], .none, .none, .none, (.str (.ofString "wholeways.errors") 187), none, (.ref 780), .none, 0⟩), #[]⟩) ::
(nat_lit 782, ⟨(.type "tuple"), none, (.seq #[(.str (.ofString "name") 1209)] 0), #[]⟩) ::
(nat_lit 783, ⟨(.type "dict"), none, (.dict #[⟨PyData.keyHash P (.ofString "__module__"), (.str (.ofString "__module__") 1196), (.str (.ofString "wholeways.errors") 187)⟩, ⟨PyData.keyHash P (.ofString "__firstlineno__"), (.str (.ofString "__firstlineno__") 1200), (.int (134) 1199)⟩, ⟨PyData.keyHash P (.ofString "__init__"), (.str (.ofString "__init__") 1208), (.ref 781)⟩, ⟨PyData.keyHash P (.ofString "__static_attributes__"), (.str (.ofString "__static_attributes__") 1210), (.ref 782)⟩, ⟨PyData.keyHash P (.ofString "__doc__"), (.str (.ofString "__doc__") 1211), .none⟩] 2), #[]⟩) ::
(nat_lit 784, ⟨(.type "type"), none, (.cls ⟨.ofString "NoName", [(.ref 31)], [(.ref 784), (.ref 31), (.type "ValueError"), (.type "Exception"), (.type "BaseException"), (.type "object")], 783, .ofString "NoName", true, [], [], false, none, false⟩), #[(some (.ref 768)), none, (some (.str (.ofString "NoName") 1189)), (some (.str (.ofString "NoName") 1197)), (some (.builtin "ValueError.__new__")), (some (.bool true))]⟩) ::
(nat_lit 787, ⟨(.type "tuple"), none, (.seq #[(.ref 31)] 0), #[]⟩) ::
(nat_lit 794, ⟨(.type "tuple"), none, (.seq #[] 0), #[]⟩) ::
(nat_lit 796, ⟨(.type "tuple"), none, (.seq #[(.str (.ofString "self") 1229), (.str (.ofString "name") 1230)] 0), #[]⟩) ::
(nat_lit 797, ⟨(.type "tuple"), none, (.seq #[] 0), #[]⟩) ::
(nat_lit 799, ⟨(.type "code"), none, (.fields #[(.str (.ofString "__init__") 1226), (.str (.ofString "NotANode.__init__") 1227), (.str (.ofString "/claim/cut.py") 1228), (.int (140) 0), (.int (2) 0), (.int (0) 0), (.int (0) 0), (.int (3) 0), (.ref 794), (.bool true), (.int (181) 0), (.ref 795), .none, (.ref 796), (.ref 797), (.ref 798), (.int (1231) 0), (.int (140) 0), (.str (.ofString "/claim/cut.py") 1232)]), #[]⟩) ::
(nat_lit 800, ⟨(.type "function"), none, (.func ⟨.ofString "__init__", .ofString "NotANode.__init__", L2.defArgs (L2.inClass (hT 60) 0), .stmts (L2.defBody (L2.inClass (hT 60) 0)), L2.defScope (L2.inClass (hT 60) 0), 3, [], .none, .none, .none, (.str (.ofString "wholeways.errors") 187), none, (.ref 799), .none, 0⟩), #[]⟩) ::
(nat_lit 801, ⟨(.type "tuple"), none, (.seq #[(.str (.ofString "name") 1234)] 0), #[]⟩) ::
(nat_lit 802, ⟨(.type "dict"), none, (.dict #[⟨PyData.keyHash P (.ofString "__module__"), (.str (.ofString "__module__") 1221), (.str (.ofString "wholeways.errors") 187)⟩, ⟨PyData.keyHash P (.ofString "__firstlineno__"), (.str (.ofString "__firstlineno__") 1225), (.int (138) 1224)⟩, ⟨PyData.keyHash P (.ofString "__init__"), (.str (.ofString "__init__") 1233), (.ref 800)⟩, ⟨PyData.keyHash P (.ofString "__static_attributes__"), (.str (.ofString "__static_attributes__") 1235), (.ref 801)⟩, ⟨PyData.keyHash P (.ofString "__doc__"), (.str (.ofString "__doc__") 1236), .none⟩] 2), #[]⟩) ::
(nat_lit 803, ⟨(.type "type"), none, (.cls ⟨.ofString "NotANode", [(.ref 31)], [(.ref 803), (.ref 31), (.type "ValueError"), (.type "Exception"), (.type "BaseException"), (.type "object")], 802, .ofString "NotANode", true, [], [], false, none, false⟩), #[(some (.ref 787)), none, (some (.str (.ofString "NotANode") 1214)), (some (.str (.ofString "NotANode") 1222)), (some (.builtin "ValueError.__new__")), (some (.bool true))]⟩) ::
(nat_lit 806, ⟨(.type "tuple"), none, (.seq #[(.ref 31)] 0), #[]⟩) ::
(nat_lit 813, ⟨(.type "tuple"), none, (.seq #[] 0), #[]⟩) ::
(nat_lit 815, ⟨(.type "tuple"), none, (.seq #[(.str (.ofString "self") 1254), (.str (.ofString "at") 1255)] 0), #[]⟩) ::
(nat_lit 816, ⟨(.type "tuple"), none, (.seq #[] 0), #[]⟩) ::
(nat_lit 818, ⟨(.type "code"), none, (.fields #[(.str (.ofString "__init__") 1251), (.str (.ofString "BadSigns.__init__") 1252), (.str (.ofString "/claim/cut.py") 1253), (.int (144) 0), (.int (2) 0), (.int (0) 0), (.int (0) 0), (.int (3) 0), (.ref 813), (.bool true), (.int (181) 0), (.ref 814), .none, (.ref 815), (.ref 816), (.ref 817), (.int (1256) 0), (.int (144) 0), (.str (.ofString "/claim/cut.py") 1257)]), #[]⟩) ::
(nat_lit 819, ⟨(.type "function"), none, (.func ⟨.ofString "__init__", .ofString "BadSigns.__init__", L2.defArgs (L2.inClass (hT 61) 0), .stmts (L2.defBody (L2.inClass (hT 61) 0)), L2.defScope (L2.inClass (hT 61) 0), 3, [], .none, .none, .none, (.str (.ofString "wholeways.errors") 187), none, (.ref 818), .none, 0⟩), #[]⟩) ::
(nat_lit 820, ⟨(.type "tuple"), none, (.seq #[(.str (.ofString "at") 1259)] 0), #[]⟩) ::
(nat_lit 821, ⟨(.type "dict"), none, (.dict #[⟨PyData.keyHash P (.ofString "__module__"), (.str (.ofString "__module__") 1246), (.str (.ofString "wholeways.errors") 187)⟩, ⟨PyData.keyHash P (.ofString "__firstlineno__"), (.str (.ofString "__firstlineno__") 1250), (.int (142) 1249)⟩, ⟨PyData.keyHash P (.ofString "__init__"), (.str (.ofString "__init__") 1258), (.ref 819)⟩, ⟨PyData.keyHash P (.ofString "__static_attributes__"), (.str (.ofString "__static_attributes__") 1260), (.ref 820)⟩, ⟨PyData.keyHash P (.ofString "__doc__"), (.str (.ofString "__doc__") 1261), .none⟩] 2), #[]⟩) ::
(nat_lit 822, ⟨(.type "type"), none, (.cls ⟨.ofString "BadSigns", [(.ref 31)], [(.ref 822), (.ref 31), (.type "ValueError"), (.type "Exception"), (.type "BaseException"), (.type "object")], 821, .ofString "BadSigns", true, [], [], false, none, false⟩), #[(some (.ref 806)), none, (some (.str (.ofString "BadSigns") 1239)), (some (.str (.ofString "BadSigns") 1247)), (some (.builtin "ValueError.__new__")), (some (.bool true))]⟩) ::
(nat_lit 825, ⟨(.type "tuple"), none, (.seq #[] 0), #[]⟩) ::
(nat_lit 828, ⟨(.type "code"), none, (.fields #[(.str (.ofString "_law_hand") 1266), (.str (.ofString "_law_hand") 1267), (.str (.ofString "/claim/cut.py") 1268), (.int (147) 0), (.int (1) 0), (.int (0) 0), (.int (0) 0), (.int (3) 0), (.ref 825), (.bool true), (.int (181) 0), (.ref 826), .none, .none, .none, (.ref 827), (.int (1269) 0), (.int (147) 0), (.str (.ofString "/claim/cut.py") 1270)]), #[]⟩) ::
(nat_lit 829, ⟨(.type "function"), none, (.func ⟨.ofString "_law_hand", .ofString "_law_hand", L2.defArgs (hT 63), .stmts (L2.defBody (hT 63)), L2.defScope (hT 63), 3, [], .none, .none, .none, (.str (.ofString "law_wholeways_k00_errors_of_the_package") 1264), none, (.ref 828), .none, 0⟩), #[]⟩) ::
(nat_lit 830, ⟨(.type "tuple"), none, (.seq #[] 0), #[]⟩) ::
(nat_lit 832, ⟨(.type "tuple"), none, (.seq #[(.str (.ofString "hand") 1275), (.str (.ofString "many") 1276), (.str (.ofString "cell") 1277), (.str (.ofString "digit") 1278), (.str (.ofString "number") 1279)] 0), #[]⟩) ::
(nat_lit 833, ⟨(.type "tuple"), none, (.seq #[] 0), #[]⟩) ::
(nat_lit 835, ⟨(.type "code"), none, (.fields #[(.str (.ofString "_law_draw") 1272), (.str (.ofString "_law_draw") 1273), (.str (.ofString "/claim/cut.py") 1274), (.int (150) 0), (.int (2) 0), (.int (0) 0), (.int (0) 0), (.int (3) 0), (.ref 830), (.bool true), (.int (181) 0), (.ref 831), .none, (.ref 832), (.ref 833), (.ref 834), (.int (1280) 0), (.int (150) 0), (.str (.ofString "/claim/cut.py") 1281)]), #[]⟩) ::
(nat_lit 836, ⟨(.type "function"), none, (.func ⟨.ofString "_law_draw", .ofString "_law_draw", L2.defArgs (hT 64), .stmts (L2.defBody (hT 64)), L2.defScope (hT 64), 3, [], .none, .none, .none, (.str (.ofString "law_wholeways_k00_errors_of_the_package") 1264), none, (.ref 835), .none, 0⟩), #[]⟩) ::
(nat_lit 837, ⟨(.type "tuple"), none, (.seq #[] 0), #[]⟩) ::
(nat_lit 839, ⟨(.type "tuple"), none, (.seq #[(.str (.ofString "hand") 1286), (.str (.ofString "some") 1287)] 0), #[]⟩) ::
(nat_lit 840, ⟨(.type "tuple"), none, (.seq #[] 0), #[]⟩) ::
(nat_lit 842, ⟨(.type "code"), none, (.fields #[(.str (.ofString "_law_any") 1283), (.str (.ofString "_law_any") 1284), (.str (.ofString "/claim/cut.py") 1285), (.int (166) 0), (.int (2) 0), (.int (0) 0), (.int (0) 0), (.int (3) 0), (.ref 837), (.bool true), (.int (181) 0), (.ref 838), .none, (.ref 839), (.ref 840), (.ref 841), (.int (1288) 0), (.int (166) 0), (.str (.ofString "/claim/cut.py") 1289)]), #[]⟩) ::
(nat_lit 843, ⟨(.type "function"), none, (.func ⟨.ofString "_law_any", .ofString "_law_any", L2.defArgs (hT 65), .stmts (L2.defBody (hT 65)), L2.defScope (hT 65), 3, [], .none, .none, .none, (.str (.ofString "law_wholeways_k00_errors_of_the_package") 1264), none, (.ref 842), .none, 0⟩), #[]⟩) ::
(nat_lit 844, ⟨(.type "tuple"), none, (.seq #[] 0), #[]⟩) ::
(nat_lit 846, ⟨(.type "tuple"), none, (.seq #[(.str (.ofString "hand") 1294), (.str (.ofString "thing") 1295), (.str (.ofString "turn") 1296)] 0), #[]⟩) ::
(nat_lit 847, ⟨(.type "tuple"), none, (.seq #[] 0), #[]⟩) ::
(nat_lit 849, ⟨(.type "code"), none, (.fields #[(.str (.ofString "_law_deep") 1291), (.str (.ofString "_law_deep") 1292), (.str (.ofString "/claim/cut.py") 1293), (.int (168) 0), (.int (1) 0), (.int (0) 0), (.int (0) 0), (.int (3) 0), (.ref 844), (.bool true), (.int (181) 0), (.ref 845), .none, (.ref 846), (.ref 847), (.ref 848), (.int (1297) 0), (.int (168) 0), (.str (.ofString "/claim/cut.py") 1298)]), #[]⟩) ::
(nat_lit 850, ⟨(.type "function"), none, (.func ⟨.ofString "_law_deep", .ofString "_law_deep", L2.defArgs (hT 66), .stmts (L2.defBody (hT 66)), L2.defScope (hT 66), 3, [], .none, .none, .none, (.str (.ofString "law_wholeways_k00_errors_of_the_package") 1264), none, (.ref 849), .none, 0⟩), #[]⟩) ::
(nat_lit 851, ⟨(.type "tuple"), none, (.seq #[] 0), #[]⟩) ::
(nat_lit 853, ⟨(.type "tuple"), none, (.seq #[(.str (.ofString "which") 1303), (.str (.ofString "thing") 1304)] 0), #[]⟩) ::
(nat_lit 854, ⟨(.type "tuple"), none, (.seq #[] 0), #[]⟩) ::
(nat_lit 856, ⟨(.type "code"), none, (.fields #[(.str (.ofString "_law_with_field") 1300), (.str (.ofString "_law_with_field") 1301), (.str (.ofString "/claim/cut.py") 1302), (.int (173) 0), (.int (2) 0), (.int (0) 0), (.int (0) 0), (.int (3) 0), (.ref 851), (.bool true), (.int (181) 0), (.ref 852), .none, (.ref 853), (.ref 854), (.ref 855), (.int (1305) 0), (.int (173) 0), (.str (.ofString "/claim/cut.py") 1306)]), #[]⟩) ::
(nat_lit 857, ⟨(.type "function"), none, (.func ⟨.ofString "_law_with_field", .ofString "_law_with_field", L2.defArgs (hT 67), .stmts (L2.defBody (hT 67)), L2.defScope (hT 67), 3, [], .none, .none, .none, (.str (.ofString "law_wholeways_k00_errors_of_the_package") 1264), none, (.ref 856), .none, 0⟩), #[]⟩) ::
(nat_lit 858, ⟨(.type "tuple"), none, (.seq #[] 0), #[]⟩) ::
(nat_lit 860, ⟨(.type "tuple"), none, (.seq #[(.str (.ofString "found") 1311)] 0), #[]⟩) ::
(nat_lit 861, ⟨(.type "tuple"), none, (.seq #[] 0), #[]⟩) ::
(nat_lit 863, ⟨(.type "code"), none, (.fields #[(.str (.ofString "_law_plain") 1308), (.str (.ofString "_law_plain") 1309), (.str (.ofString "/claim/cut.py") 1310), (.int (193) 0), (.int (0) 0), (.int (0) 0), (.int (0) 0), (.int (3) 0), (.ref 858), (.bool true), (.int (181) 0), (.ref 859), .none, (.ref 860), (.ref 861), (.ref 862), (.int (1312) 0), (.int (193) 0), (.str (.ofString "/claim/cut.py") 1313)]), #[]⟩) ::
(nat_lit 864, ⟨(.type "function"), none, (.func ⟨.ofString "_law_plain", .ofString "_law_plain", L2.defArgs (hT 68), .stmts (L2.defBody (hT 68)), L2.defScope (hT 68), 3, [], .none, .none, .none, (.str (.ofString "law_wholeways_k00_errors_of_the_package") 1264), none, (.ref 863), .none, 0⟩), #[]⟩) ::
(nat_lit 865, ⟨(.type "tuple"), none, (.seq #[] 0), #[]⟩) ::
(nat_lit 867, ⟨(.type "tuple"), none, (.seq #[(.str (.ofString "e") 1318), (.str (.ofString "found") 1319)] 0), #[]⟩) ::
(nat_lit 868, ⟨(.type "tuple"), none, (.seq #[] 0), #[]⟩) ::
(nat_lit 870, ⟨(.type "code"), none, (.fields #[(.str (.ofString "_law_kinds") 1315), (.str (.ofString "_law_kinds") 1316), (.str (.ofString "/claim/cut.py") 1317), (.int (201) 0), (.int (1) 0), (.int (0) 0), (.int (0) 0), (.int (3) 0), (.ref 865), (.bool true), (.int (181) 0), (.ref 866), .none, (.ref 867), (.ref 868), (.ref 869), (.int (1320) 0), (.int (201) 0), (.str (.ofString "/claim/cut.py") 1321)]), #[]⟩) ::
(nat_lit 871, ⟨(.type "function"), none, (.func ⟨.ofString "_law_kinds", .ofString "_law_kinds", L2.defArgs (hT 69), .stmts (L2.defBody (hT 69)), L2.defScope (hT 69), 3, [], .none, .none, .none, (.str (.ofString "law_wholeways_k00_errors_of_the_package") 1264), none, (.ref 870), .none, 0⟩), #[]⟩) ::
(nat_lit 872, ⟨(.type "tuple"), none, (.seq #[] 0), #[]⟩) ::
(nat_lit 875, ⟨(.type "code"), none, (.fields #[(.str (.ofString "law") 1323), (.str (.ofString "law") 1324), (.str (.ofString "/claim/cut.py") 1325), (.int (222) 0), (.int (1) 0), (.int (0) 0), (.int (0) 0), (.int (3) 0), (.ref 872), (.bool true), (.int (181) 0), (.ref 873), .none, .none, .none, (.ref 874), (.int (1326) 0), (.int (222) 0), (.str (.ofString "/claim/cut.py") 1327)]), #[]⟩) ::
(nat_lit 876, ⟨(.type "function"), none, (.func ⟨.ofString "law", .ofString "law", L2.defArgs (hT 70), .stmts (L2.defBody (hT 70)), L2.defScope (hT 70), 3, [], .none, .none, .none, (.str (.ofString "law_wholeways_k00_errors_of_the_package") 1264), none, (.ref 875), .none, 0⟩), #[]⟩) ::
(nat_lit 1, ⟨(.type "dict"), none, (.dict #[⟨PyData.keyHash P (.ofString "builtins"), (.str (.ofString "builtins") 162), (.ref 4)⟩, ⟨PyData.keyHash P (.ofString "__main__"), (.str (.ofString "__main__") 163), (.ref 5)⟩] 2), #[]⟩) :: []
def as0 : List Addr := [2, 3, 15, 22, 24, 25, 27, 28, 29, 30, 31, 32, 35, 42, 43, 44, 47, 54, 55, 56, 59, 66, 67, 68, 71, 78, 79, 80, 83, 90, 91, 92, 95, 102, 103, 104, 107, 114, 115, 116, 119, 126, 127, 128, 131, 138, 139, 140, 143, 150, 151, 152, 155, 162, 163, 164, 167, 174, 175, 176, 179, 186, 187, 188, 191, 198, 199, 200, 203, 210, 211, 212, 215, 222, 223, 224, 227, 234, 235, 236, 239, 246, 247, 248, 251, 258, 259, 260, 263, 270, 271, 272, 275, 282, 283, 284, 287, 294, 295, 296, 299, 306, 307, 308, 311, 318, 319, 320, 323, 330, 331, 332, 335, 342, 343, 344, 347, 354, 355, 356, 359, 366, 367, 368, 371, 378, 379, 380, 383, 390, 391, 392, 395, 402, 403, 404, 407, 414, 415, 416, 419, 426, 427, 428, 431, 438, 439, 440, 443, 450, 451, 452, 455, 462, 463, 464, 467, 474, 475, 476, 479, 486, 487, 488, 491, 498, 499, 500, 503, 510, 511, 512, 515, 522, 523, 524, 527, 534, 535, 536, 539, 546, 547, 548, 551, 558, 559, 560, 563, 570, 571, 572, 575, 582, 583, 584, 587, 594, 595, 596, 599, 606, 607, 608, 611, 618, 619, 620, 623, 630, 631, 632, 635, 642, 644, 645, 647, 648, 649, 650, 651, 654, 661, 663, 664, 666, 667, 668, 669, 670, 673, 680, 682, 683, 685, 686, 687, 688, 689, 692, 699, 701, 702, 704, 705, 706, 707, 708, 711, 718, 720, 721, 723, 724, 725, 726, 727, 730, 737, 739, 740, 742, 743, 744, 745, 746, 749, 756, 758, 759, 761, 762, 763, 764, 765, 768, 775, 777, 778, 780, 781, 782, 783, 784, 787, 794, 796, 797, 799, 800, 801, 802, 803, 806, 813, 815, 816, 818, 819, 820, 821, 822, 825, 828, 829, 830, 832, 833, 835, 836, 837, 839, 840, 842, 843, 844, 846, 847, 849, 850, 851, 853, 854, 856, 857, 858, 860, 861, 863, 864, 865, 867, 868, 870, 871, 872, 875, 876, 1]
abbrev ts0 : List Addr := []
theorem ek0 : ∀ P, as0 = (K0 P).map (·.1) := fun _ => by kernel_rfl
theorem runG0 (Xt : Shared → Bool) (w : World) (os : OsState) : (end0 w os).map (fun s => looksF p0 (boot_heap w.params) s.abs) = some (true) ∧ (end0 w os).map (fun s => (seen0 Xt s).2.1) = some (bltViewBooted) ∧ (end0 w os).map (fun s => s.abs.heap.accountedOkI (importedModules p0.main.body)) = some (true) ∧ (end0 w os).map (fun s => s.abs.heap.isNs mainGlobals && s.abs.heap.isNs builtinsNs) = some (true) ∧ (end0 w os).map (fun s => tablesOk q0 s.abs.heap) = some (true) ∧ (end0 w os).map (fun s => X0 s.abs) = some (true) ∧ (end0 w os).map (fun s => (if true then s.abs.gens.size == 0 else !leftWithCleanup s.abs.gens)) = some (true) ∧ (end0 w os).map (fun s => (seen0 Xt s).2.2.2.2.1) = some (pinGoodD (drecsOf q0)) ∧ (end0 w os).map (fun s => (seen0 Xt s).2.2.2.2.2.2.1) = some (plainGoodD q0 l0) ∧ (end0 w os).map (fun s => (seen0 Xt s).2.2.2.2.2.2.2.2) = some (clsGoodW q0 l0) := ⟨by kernel_rfl, by kernel_rfl, by kernel_rfl, by kernel_rfl, by kernel_rfl, by kernel_rfl, by kernel_rfl, by kernel_rfl, by kernel_rfl, by kernel_rfl⟩
theorem runA (Xt : Shared → Bool) (w : World) (os : OsState) : (end0 w os).map (fun s => looksF p0 (boot_heap w.params) s.abs) = some (true) := (runG0 Xt w os).1
theorem runB2 (Xt : Shared → Bool) (w : World) (os : OsState) : (end0 w os).map (fun s => (seen0 Xt s).2.1) = some (bltViewBooted) := (runG0 Xt w os).2.1
theorem runB3b (Xt : Shared → Bool) (w : World) (os : OsState) : (end0 w os).map (fun s => s.abs.heap.accountedOkI (importedModules p0.main.body)) = some (true) := (runG0 Xt w os).2.2.1
theorem runB3c (Xt : Shared → Bool) (w : World) (os : OsState) : (end0 w os).map (fun s => s.abs.heap.isNs mainGlobals && s.abs.heap.isNs builtinsNs) = some (true) := (runG0 Xt w os).2.2.2.1
theorem runB3d (Xt : Shared → Bool) (w : World) (os : OsState) : (end0 w os).map (fun s => tablesOk q0 s.abs.heap) = some (true) := (runG0 Xt w os).2.2.2.2.1
theorem runB3e (Xt : Shared → Bool) (w : World) (os : OsState) : (end0 w os).map (fun s => X0 s.abs) = some (true) := (runG0 Xt w os).2.2.2.2.2.1
theorem runB3f (Xt : Shared → Bool) (w : World) (os : OsState) : (end0 w os).map (fun s => (if true then s.abs.gens.size == 0 else !leftWithCleanup s.abs.gens)) = some (true) := (runG0 Xt w os).2.2.2.2.2.2.1
theorem runB5 (Xt : Shared → Bool) (w : World) (os : OsState) : (end0 w os).map (fun s => (seen0 Xt s).2.2.2.2.1) = some (pinGoodD (drecsOf q0)) := (runG0 Xt w os).2.2.2.2.2.2.2.1
theorem runB7 (Xt : Shared → Bool) (w : World) (os : OsState) : (end0 w os).map (fun s => (seen0 Xt s).2.2.2.2.2.2.1) = some (plainGoodD q0 l0) := (runG0 Xt w os).2.2.2.2.2.2.2.2.1
theorem runB9 (Xt : Shared → Bool) (w : World) (os : OsState) : (end0 w os).map (fun s => (seen0 Xt s).2.2.2.2.2.2.2.2) = some (clsGoodW q0 l0) := (runG0 Xt w os).2.2.2.2.2.2.2.2.2
theorem runG1 (Xt : Shared → Bool) (w : World) (os : OsState) : (end0 w os).map (fun s => (seen0 Xt s).1) = some (expectedOf q0) ∧ (end0 w os).map (fun s => s.abs.heap.keysOk lw0 ((recsOf q0).map (·.name)) ((litsOf q0).map (·.1)) ((clssOf q0 lw0).map (·.name))) = some (true) := ⟨by kernel_rfl, by kernel_rfl⟩
theorem runB1 (Xt : Shared → Bool) (w : World) (os : OsState) : (end0 w os).map (fun s => (seen0 Xt s).1) = some (expectedOf q0) := (runG1 Xt w os).1
theorem runB3a (Xt : Shared → Bool) (w : World) (os : OsState) : (end0 w os).map (fun s => s.abs.heap.keysOk lw0 ((recsOf q0).map (·.name)) ((litsOf q0).map (·.1)) ((clssOf q0 lw0).map (·.name))) = some (true) := (runG1 Xt w os).2
theorem runG2 (Xt : Shared → Bool) (w : World) (os : OsState) : (end0 w os).map (fun s => (seen0 Xt s).2.2.2.1) = some (true) ∧ (end0 w os).map (fun s => (seen0 Xt s).2.2.2.2.2.2.2.1) = some (wideGood q0) := ⟨by kernel_rfl, by kernel_rfl⟩
theorem runB4 (Xt : Shared → Bool) (w : World) (os : OsState) : (end0 w os).map (fun s => (seen0 Xt s).2.2.2.1) = some (true) := (runG2 Xt w os).1
theorem runB8 (Xt : Shared → Bool) (w : World) (os : OsState) : (end0 w os).map (fun s => (seen0 Xt s).2.2.2.2.2.2.2.1) = some (wideGood q0) := (runG2 Xt w os).2
theorem runG3 (Xt : Shared → Bool) (w : World) (os : OsState) : (end0 w os).map (fun s => PySem.W.Fast.tw2386780881361962483 q0 lw0 s.abs) = some ((plainsOf q0 lw0).map fun c => some c.withCmp.plainShape) ∧ (end0 w os).map (fun s => as0.map (getT s)) = some ((K0 w.params).map fun x => some x.2) ∧ (end0 w os).map (fun s => ts0.map (getT s)) = some (ts0.map fun _ => some (tabObj #[])) := ⟨by kernel_rfl, by kernel_rfl, by kernel_rfl⟩
theorem runB6 (Xt : Shared → Bool) (w : World) (os : OsState) : (end0 w os).map (fun s => PySem.W.Fast.tw2386780881361962483 q0 lw0 s.abs) = some ((plainsOf q0 lw0).map fun c => some c.withCmp.plainShape) := (runG3 Xt w os).1
theorem runC (Xt : Shared → Bool) (w : World) (os : OsState) : (end0 w os).map (fun s => as0.map (getT s)) = some ((K0 w.params).map fun x => some x.2) := (runG3 Xt w os).2.1
theorem runD (Xt : Shared → Bool) (w : World) (os : OsState) : (end0 w os).map (fun s => ts0.map (getT s)) = some (ts0.map fun _ => some (tabObj #[])) := (runG3 Xt w os).2.2
end HeadRun

set_option Elab.async false
set_option linter.all false
set_option maxRecDepth 100000
set_option maxHeartbeats 0
namespace HeadRun
open PySem PySem.W PySem.Calls PyProof.Rows
theorem look_halves {r : Option SharedT} {g : SharedT → Addr → Option Obj} {as : List Addr} {vs : List (Option Obj)} (k : Nat) (h1 : r.map (fun s => (as.take k).map (g s)) = some (vs.take k)) (h2 : r.map (fun s => (as.drop k).map (g s)) = some (vs.drop k)) : r.map (fun s => as.map (g s)) = some vs := by
  cases r with
  | none => cases h1
  | some s =>
    have e1 : (as.take k).map (g s) = vs.take k := Option.some.inj h1
    have e2 : (as.drop k).map (g s) = vs.drop k := Option.some.inj h2
    show some (as.map (g s)) = some vs
    rw [← List.take_append_drop k as, List.map_append, e1, e2, List.take_append_drop]
theorem look_pair {r : Option SharedT} {α β : Type} {f : SharedT → α × β} {a : α} {b : β} (h1 : r.map (fun s => (f s).1) = some a) (h2 : r.map (fun s => (f s).2) = some b) : r.map f = some (a, b) := by
  cases r with
  | none => cases h1
  | some s =>
    have e1 : (f s).1 = a := Option.some.inj h1
    have e2 : (f s).2 = b := Option.some.inj h2
    exact congrArg some (Prod.ext e1 e2)
theorem look_and {r : Option SharedT} {f g : SharedT → Bool} (h1 : r.map f = some true) (h2 : r.map g = some true) : r.map (fun s => f s && g s) = some true := by
  cases r with
  | none => cases h1
  | some s =>
    have e1 : f s = true := Option.some.inj h1
    have e2 : g s = true := Option.some.inj h2
    show some (f s && g s) = some true
    rw [e1, e2]; rfl
theorem looks_four {r : Option SharedT} {α β γ δ : Type} {A : SharedT → α} {B : SharedT → β} {C : SharedT → γ} {D : SharedT → δ} {a : α} {b : β} {c : γ} {d : δ} (h1 : r.map A = some a) (h2 : r.map B = some b) (h3 : r.map C = some c) (h4 : r.map D = some d) : r.map (fun s => (A s, B s, (C s, D s))) = some (a, b, (c, d)) := by
  cases r with
  | none => cases h1
  | some s =>
    have e1 : A s = a := Option.some.inj h1
    have e2 : B s = b := Option.some.inj h2
    have e3 : C s = c := Option.some.inj h3
    have e4 : D s = d := Option.some.inj h4
    show some (A s, B s, (C s, D s)) = _
    rw [e1, e2, e3, e4]
/-- all that is seen -/
theorem seen_third (w : World) (os : OsState) : (end0 w os).map (fun s => (seen0 X0 s).2.2.1) = some true := by
  have e : (fun s : SharedT => (seen0 X0 s).2.2.1) = fun s => (openSeen q0 l0 (importedModules p0.main.body) X0 true s.abs).2.2.1 := by
    funext s
    rw [show seen0 X0 s = _ from (seenQ_eq q0 l0 (importedModules p0.main.body) X0 s.abs).symm]
  rw [e]
  have c := look_and (look_and (look_and (look_and (look_and (runB3a X0 w os) (runB3b X0 w os)) (runB3c X0 w os)) (runB3d X0 w os)) (runB3e X0 w os)) (runB3f X0 w os)
  refine Eq.trans (congrArg (fun f => (end0 w os).map f) (funext fun s => ?_)) c
  show ((((((s.abs.heap.keysOk (looseW q0 l0) _ _ ((clssOf q0 (looseW q0 l0)).map (·.name)) && s.abs.heap.accountedOkI _) && s.abs.heap.isNs mainGlobals) && s.abs.heap.isNs builtinsNs) && tablesOk _ _) && X0 s.abs) && _) = _
  rw [lwE]
  simp only [Bool.and_assoc]
theorem seen_sixth (w : World) (os : OsState) : (end0 w os).map (fun s => (seen0 X0 s).2.2.2.2.2.1) = some (plainGoodE q0 (looseW q0 l0)) := by
  have e : (fun s : SharedT => (seen0 X0 s).2.2.2.2.2.1) = fun s => PySem.W.Fast.tw2386780881361962483 q0 lw0 s.abs := by
    funext s
    show PySem.W.Fast.tw2386780881361962483 q0 (PySem.W.Fast.tw821141287760084731 q0 l0) s.abs = _
    rw [lwT]
  rw [e, lwE]
  exact runB6 X0 w os
theorem seen_all (w : World) (os : OsState) : (end0 w os).map (fun s => seenQ q0 l0 (importedModules p0.main.body) X0 s.abs) = some (openGood q0 l0) :=
  look_pair (runB1 X0 w os) (look_pair (runB2 X0 w os) (look_pair (seen_third w os) (look_pair (runB4 X0 w os) (look_pair (runB5 X0 w os) (look_pair (seen_sixth w os) (look_pair (runB7 X0 w os) (look_pair (runB8 X0 w os) (runB9 X0 w os))))))))
theorem left_oneKM {p q : Program} {loose : List PySem.Str} {Xt : Shared → Bool} {N M : Nat}
    (e : opening p = plainProg p.main.scope.names) (hN : Nat.ble 600 N = true) (f : ∀ s, fenceModules? p s = some s) (le : Nat.ble M N = true)
    (_ : ∀ (_ : World) (_ : OsState), (0 : Nat) = 0)
    (hp : p = p0) (hq : q = q0) (hl : loose = l0) (hM : M = steps0) (hX : Xt = X0) :
    LeftO p q loose Xt (Hook.obs (kmHook K0 as0 ek0 ts0)) (Hook.val (kmHook K0 as0 ek0 ts0)) N true := by
  subst hp hq hl hM hX
  exact left_one (M := steps0) e hN f le fun w os => by
    have z := looks_four (runA X0 w os) (seen_all w os) (runC X0 w os) (runD X0 w os)
    have eo : (fun s : SharedT => (looksF p0 (boot_heap w.params) s.abs, seenQ q0 l0 (importedModules p0.main.body) X0 s.abs, (as0.map (getT s), ts0.map (getT s)))) = fun s => (looksF p0 (boot_heap w.params) s.abs, seenQ q0 l0 (importedModules p0.main.body) X0 s.abs, Hook.obs (kmHook K0 as0 ek0 ts0) s.abs) := by
      funext s
      have q1 : as0.map (getT s) = as0.map s.abs.heap.get? := List.map_congr_left fun a _ => getT_eq s a
      have q2 : ts0.map (getT s) = ts0.map s.abs.heap.get? := List.map_congr_left fun a _ => getT_eq s a
      rw [q1, q2]
      rfl
    rw [eo] at z
    simp only [endQ_eq, seenQ_eq]
    exact z
end HeadRun

set_option Elab.async false
set_option linter.all false
set_option maxRecDepth 100000
set_option maxHeartbeats 4000000
namespace Vw
open PySem PySem.Spec PyProof.Rows L2 RT

/-! ### operators of more than one kind -/
section
variable {X : Cx}
def rOr (r r' : R2) : R2 := fun x y H Q => r x y H Q ∨ r' x y H Q
theorem oOr {f : Value → Value → Sem Value} {r r' : R2} (a : OpR X f r) (b : OpR X f r') : OpR X f (rOr r r') := by
  intro pins s σ H x y v u Q I rx ry q
  cases q with
  | inl q => exact a pins s σ H x y v u Q I rx ry q
  | inr q => exact b pins s σ H x y v u Q I rx ry q
def cOr (r r' : List V → Hp → VK → Prop) : List V → Hp → VK → Prop := fun x H Q => r x H Q ∨ r' x H Q
theorem kOr {f : Value} {r r' : List V → Hp → VK → Prop} (a : CallR X f r) (b : CallR X f r') : CallR X f (cOr r r') := by
  intro pins s σ H xs us Q I rx q
  cases q with
  | inl q => exact a pins s σ H xs us Q I rx q
  | inr q => exact b pins s σ H xs us Q I rx q
abbrev rIAdd : R2 := rI0 fun i j => .int (i + j)
abbrev rSAdd' : R2 := fun x y H Q => ∃ i j, x = .str i ∧ y = .str j ∧ i.length + j.length ≤ sizeLine ∧ Q (.str (i ++ j)) H
theorem oAdd : OpR X (binaryOp .Add) (rOr rIAdd (rOr rCat rSAdd')) := oOr op_add (oOr op_cat op_add_str)
abbrev rIMul : R2 := rI CMul fun i j => .int (i * j)
theorem oMul : OpR X (binaryOp .Mult) (rOr rIMul rRep) := oOr op_mul op_rep
theorem oLt : OpR X (compareOp .Lt) (rI0 fun i j => .bl (decide (i < j))) := op_lt
variable {K : PySem.W.Frag}
theorem oEq (hu : X.A.units + 64 < cLine) (e : X.K = K := by rfl) : OpR X (compareOp .Eq) (rOr rEq (rEqD K)) := by cases e; exact oOr op_eq (op_eqD hu)
theorem oNe (hu : X.A.units + 64 < cLine) (e : X.K = K := by rfl) : OpR X (compareOp .NotEq) (rOr rNe (rNeD K)) := by cases e; exact oOr op_ne (op_neD hu)
theorem oIn (e : X.K = K := by rfl) : OpR X (compareOp .In) (rIn K false) := by cases e; exact op_in_seq
theorem oNotIn (e : X.K = K := by rfl) : OpR X (compareOp .NotIn) (rIn K true) := by cases e; exact op_notIn_seq
abbrev rIxLT (K : PySem.W.Frag) : R2 := fun x y H Q => rIxL K x y H Q ∨ rIxT K x y H Q
theorem ixLT (e : X.K = K := by rfl) : IxR X (rIxLT K) := by cases e; exact IxR.or ix_list ix_tup
def rLen' (K : PySem.W.Frag) : List V → Hp → VK → Prop := fun xs H Q => ∃ x n, xs = [x] ∧ LenV K x H n ∧ Q (.int n) H
theorem cLen (e : X.K = K := by rfl) : CallR X (.builtin "len") (rLen' K) := by cases e; exact call_len
theorem cIsi (e : X.K = K := by rfl) : CallR X (.builtin "isinstance") (rIsi K) := by cases e; exact call_isi
theorem cIsiT (e : X.K = K := by rfl) : CallR X (.builtin "isinstance") (rIsiT K) := by cases e; exact call_isiT
def rIsN0 : R2 := fun x y H Q => y = .non ∧ Q (.bl (decide (x = .non))) H
def rNoN0 : R2 := fun x y H Q => y = .non ∧ Q (.bl (!decide (x = .non))) H
theorem oIsN : OpR X (compareOp .Is) rIsN0 := op_isN
theorem oNotN : OpR X (compareOp .IsNot) rNoN0 := op_notN
theorem cAll (hc : X.calm = true) (e : X.K = K := by rfl) : CallR X (.builtin "all") (rAll K) := by cases e; exact cr_all hc
theorem cAny (hc : X.calm = true) (e : X.K = K := by rfl) : CallR X (.builtin "any") (rAny K) := by cases e; exact cr_any hc
theorem cSortI (e : X.K = K := by rfl) : CallR X (.builtin "sorted") (rSortedI K) := by cases e; exact cr_sortedI
def rListOf (K : PySem.W.Frag) : List V → Hp → VK → Prop := fun xs H Q => ∃ p ys, xs = [.ref p] ∧ (SqL K H p ys ∨ SqT K H p ys) ∧ ∀ l, H l = none → Q (.ref l) (upd H l (.lst ys))
theorem cListOf (e : X.K = K := by rfl) : CallR X (.type "list") (rListOf K) := by cases e; exact call_list_of
def rTupOf (K : PySem.W.Frag) : List V → Hp → VK → Prop := fun xs H Q => ∃ p ys, xs = [.ref p] ∧ ((SqL K H p ys ∧ ∀ l, H l = none → Q (.ref l) (upd H l (.tup ys))) ∨ (SqT K H p ys ∧ Q (.ref p) H))
theorem cTupOf (e : X.K = K := by rfl) : CallR X (.type "tuple") (rTupOf K) := by cases e; exact call_tuple_of
def rInt1 : List V → Hp → VK → Prop := fun xs H Q => (∃ i, xs = [.int i] ∧ Q (.int i) H) ∨ ∃ k, xs = [.bl k] ∧ Q (.int (if k then 1 else 0)) H
theorem cInt : CallR X (.type "int") rInt1 := call_int1
def rAbs : List V → Hp → VK → Prop := fun xs H Q => ∃ i, xs = [.int i] ∧ Q (.int (if i < 0 then -i else i)) H
theorem cAbs : CallR X (.builtin "abs") rAbs := call_abs
def rMin2 : List V → Hp → VK → Prop := fun xs H Q => ∃ i j, xs = [.int i, .int j] ∧ Q (.int (if j < i then j else i)) H
theorem cMin2 (hc : X.calm = true) : CallR X (.builtin "min") rMin2 := call_min2 hc
def rMax2 : List V → Hp → VK → Prop := fun xs H Q => ∃ i j, xs = [.int i, .int j] ∧ Q (.int (if j > i then j else i)) H
theorem cMax2 (hc : X.calm = true) : CallR X (.builtin "max") rMax2 := call_max2 hc
theorem slL (e : X.K = K := by rfl) : SlR X (rSlL K) := by cases e; exact sl_list
theorem piL {tg l : Expr} {tl : TE} (hl : PE X l tl) (e : X.K = K := by rfl) : PI X tg l (iList K tl) := by cases e; exact pi_list hl
theorem piT {tg l : Expr} {tl : TE} (hl : PE X l tl) (e : X.K = K := by rfl) : PI X tg l (iTup K tl) := by cases e; exact pi_tup hl
theorem piEnum {ex : Expr} {ta : TA} {p pos tpos : Pos} {elts : List Expr} {kk : Nat} (hg : Gl X "enumerate") (hm : X.mg "enumerate" = none) (ha : PA X [ex] ta) (e : X.K = K := by rfl) (hs : starEach [ex] X.env = [(false, eval ex X.env)] := by rfl) :
    PI X (.Tuple elts kk tpos) (.Call (.Name "enumerate" p) [ex] [] pos) (iEnum K ta) := by cases e; exact pi_enum hg hm ha hs
theorem piRev {tg ex : Expr} {te : TE} {p pos : Pos} (hg : Gl X "reversed") (hm : X.mg "reversed" = none) (he : PE X ex te) (e : X.K = K := by rfl) (hs : starEach [ex] X.env = (false, eval ex X.env) :: starEach [] X.env := by rfl) :
    PI X tg (.Call (.Name "reversed" p) [ex] [] pos) (iRevA K te) := by cases e; exact pi_revA hg hm he hs
theorem pgTup {es : List Expr} {k : Nat} {t : TGs} {n : Nat} {p : Pos} (h : PG X (.Tuple es k p) (gTup X.K n t)) (e : X.K = K := by rfl) : PG X (.Tuple es k p) (gTup K n t) := by cases e; exact h
theorem peApp {o ex : Expr} {to te : TE} {apos cpos : Pos} (h : PE X (.Call (.Attribute o "append" apos) [ex] [] cpos) (tBM X.K "list" rAppend to (tCons te tNil))) (e : X.K = K := by rfl) :
    PE X (.Call (.Attribute o "append" apos) [ex] [] cpos) (tBM K "list" rAppend to (tCons te tNil)) := by cases e; exact h
def tTruE (K : PySem.W.Frag) (ta : TE) : TT := fun σ H Q => ta σ H fun x H' => ∃ k, TruV K x H' k ∧ Q k H'
theorem ptTruth {a : Expr} {ta : TE} (ha : PE X a ta) (he : ∀ whole, isTrue a X.env whole = (do let v ← whole; standAt a.pos; holding [v] (truthy v))) (e : X.K = K := by rfl) : PT X a (tTruE K ta) := by cases e; exact pt_truth ha he
end

/-! ### heaps -/
theorem Same.new {H : Hp} {p : Addr} {o : HO} (h : H p = none) : Same H (upd H p o) := fun b x e => by
  rw [upd_ne (ne_of_none e h)]; exact e
theorem at_ {H H' : Hp} {a : Addr} {o : HO} (s : Same H H') (h : H a = some o) : H' a = some o := s a o h
theorem rd_ {H H' : Hp} {a : Addr} {o : HO} (s : Same H H') (h : Rd H a o) : Rd H' a o := by
  cases h with
  | inl h => exact .inl (s _ _ h)
  | inr h => exact .inr (h.elim fun u q => ⟨u, s _ _ q⟩)
section
variable {K : PySem.W.Frag} {H H' : Hp} {a p : Addr} {xs : List V} {o : HO}
theorem sl_ (s : Same H H') (h : SqL K H a xs) : SqL K H' a xs := h.elim (fun q => .inl (rd_ s q)) .inr
theorem st_ (s : Same H H') (h : SqT K H a xs) : SqT K H' a xs := h.elim (fun q => .inl (rd_ s q)) .inr
theorem slO (h : H a = some (.lst xs)) : SqL K H a xs := .inl (.inl h)
theorem stO (h : H a = some (.tup xs)) : SqT K H a xs := .inl (.inl h)
theorem ne_new (h : H a = some o) (n : H p = none) : a ≠ p := ne_of_none h n
theorem free_ (s : Same H H') (n : H' p = none) : H p = none := s.free n
end
theorem lt_size {n : Nat} (h : n < 100000) : n < sizeLine := Nat.lt_of_lt_of_le h (by decide)
theorem le_size {n : Nat} (h : n < 100000) : n ≤ sizeLine := Nat.le_of_lt (lt_size h)
/-- a new object, wherever -/
def NewQ (o : HO) (H : Hp) (Q : VK) : Prop := ∀ p, H p = none → Q (.ref p) (upd H p o)
/-- all but one object is as it was -/
def Oth (hd : Addr) (H H' : Hp) : Prop := ∀ b o, b ≠ hd → H b = some o → H' b = some o
theorem oth_sl {K : PySem.W.Frag} {hd a : Addr} {H H' : Hp} {xs : List V} (o : Oth hd H H') (n : a ≠ hd) (s : SqL K H a xs) : SqL K H' a xs := by
  rcases s with (s | ⟨u, s⟩) | s
  · exact .inl (.inl (o _ _ n s))
  · exact .inl (.inr ⟨u, o _ _ n s⟩)
  · exact .inr s
theorem oth_st {K : PySem.W.Frag} {hd a : Addr} {H H' : Hp} {xs ys : List V} (o : Oth hd H H') (n : H hd = some (.lst ys)) (s : SqT K H a xs) : SqT K H' a xs := by
  rcases s with (s | ⟨u, s⟩) | s
  · exact .inl (.inl (o _ _ (fun z => by rw [z, n] at s; cases s) s))
  · exact .inl (.inr ⟨u, o _ _ (fun z => by rw [z, n] at s; cases s) s⟩)
  · exact .inr s
theorem Oth.trans {hd : Addr} {H H1 H2 : Hp} (a : Oth hd H H1) (b : Oth hd H1 H2) : Oth hd H H2 := fun c o n h => b c o n (a c o n h)
theorem Same.oth {hd : Addr} {H H' : Hp} (s : Same H H') : Oth hd H H' := fun c o _ h => s c o h

/-! ### one step of a reading -/
section
variable {K : PySem.W.Frag} {σ : L2.St} {H : Hp} {Q : VK} {QB : Bool → Hp → Prop} {QA : List V → Hp → Prop} {D : Ends} {ta tb te : TE} {t u : TS} {c d : TT} {i : Nat} {v : V} {b : Bool}
theorem s_seq (h : t { D with nx := u D } σ H) : tSeq t u D σ H := h
theorem s_cut (M : L2.St → Hp → Prop) (h : t { D with nx := M } σ H) (k : ∀ σ' H', M σ' H' → u D σ' H') : Evl.tCut t u D σ H := ⟨M, h, k⟩
theorem s_next (h : D.nx σ H) : tNext D σ H := h
theorem s_brk (h : D.bk σ H) : tBreak D σ H := h
theorem s_cont (h : D.ct σ H) : tCont D σ H := h
theorem s_set (h : te σ H fun x H1 => D.nx (σ.set i (some x)) H1) : tAsg te (gName i) D σ H := h
theorem s_asg {g : TG} (h : te σ H fun x H1 => g x σ H1 D.nx) : tAsg te g D σ H := h
theorem s_ret (h : te σ H D.rt) : tRet te D σ H := h
theorem s_retN (h : D.rt .non H) : tRetN D σ H := h
theorem s_drop (h : te σ H fun _ H1 => D.nx σ H1) : tDrop te D σ H := h
theorem s_if (h : c σ H fun b H1 => if b = true then t D σ H1 else u D σ H1) : tIfS c t u D σ H := h
theorem s_aug {ti : TIp} {x : V} (e : σ[i]? = some (some x)) (h : te σ H fun y H1 => ti x y H1 fun z H2 => D.nx (σ.set i (some z)) H2) : tAug i te ti D σ H := ⟨x, e, h⟩
theorem s_ipI {f : Int → Int → Int} {a b : Int} (h : Q (.int (f a b)) H) : ipI f (.int a) (.int b) H Q := ⟨a, b, rfl, rfl, h⟩
theorem e_var (h : σ[i]? = some (some v)) (q : Q v H) : tVar i σ H Q := ⟨v, h, q⟩
theorem e_c (q : Q v H) : tC v σ H Q := q
theorem e_op {r : R2} (h : ta σ H fun x H1 => tb σ H1 fun y H2 => r x y H2 Q) : tOp r ta tb σ H Q := h
theorem e_un {r : V → Hp → VK → Prop} (h : ta σ H fun x H1 => r x H1 Q) : tUn r ta σ H Q := h
theorem e_neg {a : Int} (h : Q (.int (-a)) H) : rU (fun i => V.int (-i)) (.int a) H Q := ⟨a, rfl, h⟩
theorem e_test (h : te σ H fun x H1 => ∃ k, x = .bl k ∧ QB k H1) : tTest te σ H QB := h
theorem e_tB (h : te σ H fun x H1 => ∃ k, x = .bl k ∧ QB k H1) : tB te σ H QB := h
theorem e_bl (q : QB b H) : ∃ k, V.bl b = .bl k ∧ QB k H := ⟨b, rfl, q⟩
theorem e_and (h : c σ H fun b H1 => if b = true then d σ H1 QB else QB false H1) : tAnd c d σ H QB := h
theorem e_or (h : c σ H fun b H1 => if b = true then QB true H1 else d σ H1 QB) : tOr c d σ H QB := h
theorem e_not (h : c σ H fun b H1 => QB (!b) H1) : tNot c σ H QB := h
theorem e_andV (h : ta σ H fun x H1 => ∃ k, x = .bl k ∧ if k = true then tb σ H1 Q else Q (.bl false) H1) : tAndV ta tb σ H Q := h
theorem e_orV (h : ta σ H fun x H1 => ∃ k, x = .bl k ∧ if k = true then Q (.bl true) H1 else tb σ H1 Q) : tOrV ta tb σ H Q := h
theorem e_notV (h : ta σ H fun x H1 => ∃ k, x = .bl k ∧ Q (.bl (!k)) H1) : tNotV ta σ H Q := h
theorem e_kV {P : Bool → Prop} (q : P b) : ∃ k, V.bl b = .bl k ∧ P k := ⟨b, rfl, q⟩
theorem e_ife (h : c σ H fun b H1 => if b = true then ta σ H1 Q else tb σ H1 Q) : tIf c ta tb σ H Q := h
theorem e_nil (q : QA [] H) : tNil σ H QA := q
theorem e_cons {tr : TA} (h : ta σ H fun x H1 => tr σ H1 fun xs H2 => QA (x :: xs) H2) : tCons ta tr σ H QA := h
theorem e_cb {r : List V → Hp → VK → Prop} {tt : TA} (h : tt σ H fun vs H1 => r vs H1 Q) : tCB r tt σ H Q := h
theorem e_call {sp : Sp} {dvs : List V} {E : XK} {tt : TA} (h : tt σ H fun vs H1 => sp (vs ++ dvs) H1 Q E) : tCall sp dvs E tt σ H Q := h
theorem e_chain {r r' : R2} {tc : TE} (h : ta σ H fun x H1 => tb σ H1 fun y H2 => r x y H2 fun z H3 => ∃ k, z = .bl k ∧ if k = true then tc σ H3 fun w H4 => r' y w H4 Q else Q (.bl false) H3) : tChain r r' ta tb tc σ H Q := h
theorem o_l {r r' : R2} {x y : V} (h : r x y H Q) : rOr r r' x y H Q := .inl h
theorem o_r {r r' : R2} {x y : V} (h : r' x y H Q) : rOr r r' x y H Q := .inr h
theorem o_I0 {g : Int → Int → V} {a b : Int} (h : Q (g a b) H) : rI0 g (.int a) (.int b) H Q := ⟨a, b, rfl, rfl, h⟩
theorem o_addI {r' : R2} {a b : Int} (h : Q (.int (a + b)) H) : rOr rIAdd r' (.int a) (.int b) H Q := .inl ⟨a, b, rfl, rfl, h⟩
theorem o_mod {a b : Int} (hb : 0 < b) (h : Q (.int (a % b)) H) : rI (fun _ j => 0 < j) (fun i j => V.int (i % j)) (.int a) (.int b) H Q := ⟨a, b, rfl, rfl, hb, h⟩
theorem o_modL {a b : Int} (hb : 0 < b) (h : ∀ r, 0 ≤ r → r < b → Q (.int r) H) : rI (fun _ j => 0 < j) (fun i j => V.int (i % j)) (.int a) (.int b) H Q := o_mod hb (h _ (Int.emod_nonneg _ (by omega)) (Int.emod_lt_of_pos _ hb))
theorem o_mulR {r' : R2} {a b : Int} (hb : -(2 ^ 64) < b ∧ b < 2 ^ 64) (h : Q (.int (a * b)) H) : rOr rIMul r' (.int a) (.int b) H Q := .inl ⟨a, b, rfl, rfl, .inr hb, h⟩
theorem o_mulL {r' : R2} {a b : Int} (ha : -(2 ^ 64) < a ∧ a < 2 ^ 64) (h : Q (.int (a * b)) H) : rOr rIMul r' (.int a) (.int b) H Q := .inl ⟨a, b, rfl, rfl, .inl ha, h⟩
theorem o_divW {a b : Int} (n : Nat) (hb : 0 < b) (h1 : b < 2 ^ n) (h2 : 0 < n) (h3 : n ≤ 9000) (h : Q (.int (a / b)) H) : rI CDivW (fun i j => V.int (i / j)) (.int a) (.int b) H Q := ⟨a, b, rfl, rfl, wide_div (b := n) hb (by
  have e : ((2 ^ n : Nat) : Int) = (2 : Int) ^ n := by rw [Int.natCast_pow]; rfl
  have : (b.natAbs : Int) = b := by omega
  have h4 : ((b.natAbs : Nat) : Int) < ((2 ^ n : Nat) : Int) := by rw [this, e]; exact h1
  exact Int.ofNat_lt.mp h4) h2 h3, h⟩
theorem o_div {a b : Int} (hb : 0 < b) (h1 : b < 2 ^ 100) (h : Q (.int (a / b)) H) : rI CDivW (fun i j => V.int (i / j)) (.int a) (.int b) H Q := o_divW 100 hb h1 (by decide) (by decide) h
theorem o_pow {a b : Int} (n : Nat) (e : b = (n : Nat)) (h0 : n ≤ 1000000) (h1 : a.natAbs < 2 ^ 64) (h : Q (.int (a ^ n)) H) : rI CPow (fun i j => V.int (i ^ j.toNat)) (.int a) (.int b) H Q := ⟨a, b, rfl, rfl, ⟨by omega, by omega, h1⟩, by
  have e2 : b.toNat = n := by omega
  show Q (.int (a ^ b.toNat)) H
  rw [e2]; exact h⟩
theorem o_pow1 (h : Q (.int 10) H) : rI CPow (fun i j => V.int (i ^ j.toNat)) (.int 10) (.int 1) H Q := o_pow 1 rfl (by decide) (by decide) (by rw [(by decide : (10 : Int) ^ 1 = 10)]; exact h)
theorem o_pow2 (h : Q (.int 100) H) : rI CPow (fun i j => V.int (i ^ j.toNat)) (.int 10) (.int 2) H Q := o_pow 2 rfl (by decide) (by decide) (by rw [(by decide : (10 : Int) ^ 2 = 100)]; exact h)
theorem o_pow3 (h : Q (.int 1000) H) : rI CPow (fun i j => V.int (i ^ j.toNat)) (.int 10) (.int 3) H Q := o_pow 3 rfl (by decide) (by decide) (by rw [(by decide : (10 : Int) ^ 3 = 1000)]; exact h)
theorem o_pow4 (h : Q (.int 10000) H) : rI CPow (fun i j => V.int (i ^ j.toNat)) (.int 10) (.int 4) H Q := o_pow 4 rfl (by decide) (by decide) (by rw [(by decide : (10 : Int) ^ 4 = 10000)]; exact h)
theorem o_pow5 (h : Q (.int 100000) H) : rI CPow (fun i j => V.int (i ^ j.toNat)) (.int 10) (.int 5) H Q := o_pow 5 rfl (by decide) (by decide) (by rw [(by decide : (10 : Int) ^ 5 = 100000)]; exact h)
theorem o_pow6 (h : Q (.int 1000000) H) : rI CPow (fun i j => V.int (i ^ j.toNat)) (.int 10) (.int 6) H Q := o_pow 6 rfl (by decide) (by decide) (by rw [(by decide : (10 : Int) ^ 6 = 1000000)]; exact h)
theorem o_pow9 (h : Q (.int 1000000000) H) : rI CPow (fun i j => V.int (i ^ j.toNat)) (.int 10) (.int 9) H Q := o_pow 9 rfl (by decide) (by decide) (by rw [(by decide : (10 : Int) ^ 9 = 1000000000)]; exact h)
theorem o_pow10 (h : Q (.int 10000000000) H) : rI CPow (fun i j => V.int (i ^ j.toNat)) (.int 10) (.int 10) H Q := o_pow 10 rfl (by decide) (by decide) (by rw [(by decide : (10 : Int) ^ 10 = 10000000000)]; exact h)
theorem o_pow12 (h : Q (.int 1000000000000) H) : rI CPow (fun i j => V.int (i ^ j.toNat)) (.int 10) (.int 12) H Q := o_pow 12 rfl (by decide) (by decide) (by rw [(by decide : (10 : Int) ^ 12 = 1000000000000)]; exact h)
theorem o_pow15 (h : Q (.int 1000000000000000) H) : rI CPow (fun i j => V.int (i ^ j.toNat)) (.int 10) (.int 15) H Q := o_pow 15 rfl (by decide) (by decide) (by rw [(by decide : (10 : Int) ^ 15 = 1000000000000000)]; exact h)
theorem o_pow16 (h : Q (.int 10000000000000000) H) : rI CPow (fun i j => V.int (i ^ j.toNat)) (.int 10) (.int 16) H Q := o_pow 16 rfl (by decide) (by decide) (by rw [(by decide : (10 : Int) ^ 16 = 10000000000000000)]; exact h)
theorem o_pow17 (h : Q (.int 100000000000000000) H) : rI CPow (fun i j => V.int (i ^ j.toNat)) (.int 10) (.int 17) H Q := o_pow 17 rfl (by decide) (by decide) (by rw [(by decide : (10 : Int) ^ 17 = 100000000000000000)]; exact h)
theorem o_pow18 (h : Q (.int 1000000000000000000) H) : rI CPow (fun i j => V.int (i ^ j.toNat)) (.int 10) (.int 18) H Q := o_pow 18 rfl (by decide) (by decide) (by rw [(by decide : (10 : Int) ^ 18 = 1000000000000000000)]; exact h)
theorem o_pow19 (h : Q (.int 10000000000000000000) H) : rI CPow (fun i j => V.int (i ^ j.toNat)) (.int 10) (.int 19) H Q := o_pow 19 rfl (by decide) (by decide) (by rw [(by decide : (10 : Int) ^ 19 = 10000000000000000000)]; exact h)
theorem o_pow20 (h : Q (.int 100000000000000000000) H) : rI CPow (fun i j => V.int (i ^ j.toNat)) (.int 10) (.int 20) H Q := o_pow 20 rfl (by decide) (by decide) (by rw [(by decide : (10 : Int) ^ 20 = 100000000000000000000)]; exact h)
theorem o_pow30 (h : Q (.int 1000000000000000000000000000000) H) : rI CPow (fun i j => V.int (i ^ j.toNat)) (.int 10) (.int 30) H Q := o_pow 30 rfl (by decide) (by decide) (by rw [(by decide : (10 : Int) ^ 30 = 1000000000000000000000000000000)]; exact h)
theorem o_pow31 (h : Q (.int 10000000000000000000000000000000) H) : rI CPow (fun i j => V.int (i ^ j.toNat)) (.int 10) (.int 31) H Q := o_pow 31 rfl (by decide) (by decide) (by rw [(by decide : (10 : Int) ^ 31 = 10000000000000000000000000000000)]; exact h)
theorem set_ {p : Addr} {xs : List V} {k : Int} {j : Nat} {R : Hp → Prop} (h : H p = some (.lst xs)) (e : ixN xs.length k = some j) (q : ∀ H2, Oth p H H2 → H2 p = some (.lst (xs.set j v)) → R H2) : rSetL (.ref p) (.int k) v H R :=
  ⟨p, xs, k, j, rfl, rfl, h, e, q _ (fun b o n z => by rw [upd_ne n]; exact z) upd_same⟩
theorem g_sub {to ti : TE} {tset : TSet} {R : L2.St → Hp → Prop} (h : to σ H fun o H1 => ti σ H1 fun i H2 => tset o i v H2 fun H3 => R σ H3) : gSub to ti tset v σ H R := h
theorem o_eqS {r' : R2} {x y : V} (s : scal x y = true) (h : Q (.bl (decide (x = y))) H) : rOr rEq r' x y H Q := .inl ⟨s, h⟩
theorem o_eqI {r' : R2} {a b : Int} (h : Q (.bl (decide (a = b))) H) : rOr rEq r' (.int a) (.int b) H Q := .inl ⟨rfl, by
  have e : decide (V.int a = V.int b) = decide (a = b) := by
    by_cases q : a = b
    · rw [decide_eq_true q, q]; exact decide_eq_true rfl
    · rw [decide_eq_false q]; exact decide_eq_false fun z => q (V.int.inj z)
  rw [e]; exact h⟩
theorem o_neI {r' : R2} {a b : Int} (h : Q (.bl (decide (a ≠ b))) H) : rOr rNe r' (.int a) (.int b) H Q := .inl ⟨rfl, by
  have e : (!decide (V.int a = V.int b)) = decide (a ≠ b) := by
    by_cases q : a = b
    · rw [decide_eq_false (show ¬ a ≠ b from fun z => z q), q, decide_eq_true rfl] <;> rfl
    · rw [decide_eq_true (show a ≠ b from q), decide_eq_false fun z => q (V.int.inj z)] <;> rfl
  rw [e]; exact h⟩
theorem o_ixL {p : Addr} {xs : List V} {a : Int} (s : SqL K H p xs) (e : atI xs a = some v) (q : Q v H) : rIxLT K (.ref p) (.int a) H Q := .inl ⟨p, xs, a, v, rfl, rfl, s, e, q⟩
theorem o_ixT {p : Addr} {xs : List V} {a : Int} (s : SqT K H p xs) (e : atI xs a = some v) (q : Q v H) : rIxLT K (.ref p) (.int a) H Q := .inr ⟨p, xs, a, v, rfl, rfl, s, e, q⟩
theorem o_ixA {p : Addr} {xs : List V} {a : Int} (s : H p = some (.lst xs)) (e : atI xs a = some v) (q : Q v H) : rIxLT K (.ref p) (.int a) H Q := o_ixL (slO s) e q
theorem o_ixU {p : Addr} {xs : List V} {a : Int} (s : H p = some (.tup xs)) (e : atI xs a = some v) (q : Q v H) : rIxLT K (.ref p) (.int a) H Q := o_ixT (stO s) e q
theorem ixN_in {n : Nat} {z : Int} {j : Nat} (e : z = (j : Nat)) (h : j < n) : ixN n z = some j := by
  unfold ixN
  rw [if_pos (by omega), if_pos (by omega)]
  congr 1; omega
theorem atI_in {α : Type} {xs : List α} {z : Int} {j : Nat} {x : α} (e : z = (j : Nat)) (h : xs[j]? = some x) : atI xs z = some x := by
  have hj : j < xs.length := (List.getElem?_eq_some_iff.mp h).1
  unfold atI
  rw [ixN_in e hj]
  exact h
theorem e_lenL {p : Addr} {xs : List V} (s : SqL K H p xs) (q : Q (.int (xs.length : Nat)) H) : rLen' K [.ref p] H Q := ⟨_, xs.length, rfl, .inl ⟨xs, s, rfl⟩, q⟩
theorem e_lenM {α : Type} {f : α → V} {p : Addr} {xs : List α} (s : SqL K H p (xs.map f)) (q : Q (.int (xs.length : Nat)) H) : rLen' K [.ref p] H Q := e_lenL s (by rw [List.length_map]; exact q)
theorem e_lenN {α : Type} {f : α → V} {p : Addr} {xs : List α} (s : SqT K H p (xs.map f)) (q : Q (.int (xs.length : Nat)) H) : rLen' K [.ref p] H Q := ⟨_, xs.length, rfl, .inr ⟨_, s, by rw [List.length_map]⟩, q⟩
theorem e_lenT {p : Addr} {xs : List V} (s : SqT K H p xs) (q : Q (.int (xs.length : Nat)) H) : rLen' K [.ref p] H Q := ⟨_, xs.length, rfl, .inr ⟨xs, s, rfl⟩, q⟩
theorem i_t {A B : Prop} (hb : b = true) (q : A) : if b = true then A else B := by rw [if_pos hb]; exact q
theorem i_f {A B : Prop} (hb : b = false) (q : B) : if b = true then A else B := by rw [hb]; exact iteF q
theorem i_nt {A B : Prop} (q : B) : if (!true) = true then A else B := q
theorem i_nf {A B : Prop} (q : A) : if (!false) = true then A else B := q
theorem i_dt {p A B : Prop} [Decidable p] (hp : p) (q : A) : if decide p = true then A else B := i_t (decide_eq_true hp) q
theorem i_df {p A B : Prop} [Decidable p] (hp : ¬ p) (q : B) : if decide p = true then A else B := i_f (decide_eq_false hp) q
theorem i_ndt {p A B : Prop} [Decidable p] (hp : ¬ p) (q : A) : if (!decide p) = true then A else B := i_t (by rw [decide_eq_false hp]; rfl) q
theorem i_ndf {p A B : Prop} [Decidable p] (hp : p) (q : B) : if (!decide p) = true then A else B := i_f (by rw [decide_eq_true hp]; rfl) q
theorem i_d {p A B : Prop} [Decidable p] (h1 : p → A) (h2 : ¬ p → B) : if decide p = true then A else B := by
  by_cases hp : p
  · exact i_dt hp (h1 hp)
  · exact i_df hp (h2 hp)
/-- a new list, a new tuple -/
theorem e_lst {tt : TA} (h : tt σ H fun xs H1 => xs.length ≤ sizeLine ∧ NewQ (.lst xs) H1 Q) : tLst tt σ H Q := h
theorem e_tup {tt : TA} (h : tt σ H fun xs H1 => xs.length ≤ sizeLine ∧ NewQ (.tup xs) H1 Q) : tTup tt σ H Q := h
theorem n_new {n : Nat} {o : HO} (hl : n ≤ sizeLine) (h : ∀ p H2, H p = none → Same H H2 → H2 p = some o → Q (.ref p) H2) : n ≤ sizeLine ∧ NewQ o H Q := ⟨hl, fun p hp => h p _ hp (Same.new hp) upd_same⟩
theorem n_new0 {o : HO} (h : ∀ p H2, H p = none → Same H H2 → H2 p = some o → Q (.ref p) H2) : NewQ o H Q := fun p hp => h p _ hp (Same.new hp) upd_same
theorem c_listL {p : Addr} {xs : List V} (s : SqL K H p xs) (q : NewQ (.lst xs) H Q) : rListOf K [.ref p] H Q := ⟨p, xs, rfl, .inl s, q⟩
theorem c_listT {p : Addr} {xs : List V} (s : SqT K H p xs) (q : NewQ (.lst xs) H Q) : rListOf K [.ref p] H Q := ⟨p, xs, rfl, .inr s, q⟩
theorem c_tupL {p : Addr} {xs : List V} (s : SqL K H p xs) (q : NewQ (.tup xs) H Q) : rTupOf K [.ref p] H Q := ⟨p, xs, rfl, .inl ⟨s, q⟩⟩
theorem c_tupT {p : Addr} {xs : List V} (s : SqT K H p xs) (q : Q (.ref p) H) : rTupOf K [.ref p] H Q := ⟨p, xs, rfl, .inr ⟨s, q⟩⟩
theorem isi_ {x : V} {t n : String} {b : Bool} (ty : TyX K H x (.type t)) (e : kitB t n = some b) (q : Q (.bl b) H) : rIsi K [x, .ty n] H Q := ⟨x, .ty n, .type t, .type n, b, rfl, .ty n, ty, kit_ty e, q⟩
theorem isi_int {a : Int} {n : String} (b : Bool) (e : kitB "int" n = some b) (q : Q (.bl b) H) : rIsi K [.int a, .ty n] H Q := isi_ (.base (.int a)) e q
theorem isi_non {n : String} (b : Bool) (e : kitB "NoneType" n = some b) (q : Q (.bl b) H) : rIsi K [.non, .ty n] H Q := isi_ (.base .non) e q
theorem isi_str {z : Str} {n : String} (b : Bool) (e : kitB "str" n = some b) (q : Q (.bl b) H) : rIsi K [.str z, .ty n] H Q := isi_ (.base (.str z)) e q
theorem isi_bl {z : Bool} {n : String} (b : Bool) (e : kitB "bool" n = some b) (q : Q (.bl b) H) : rIsi K [.bl z, .ty n] H Q := isi_ (.base (.bl z)) e q
theorem isi_tup {a : Addr} {xs : List V} {n : String} (b : Bool) (h : H a = some (.tup xs)) (e : kitB "tuple" n = some b) (q : Q (.bl b) H) : rIsi K [.ref a, .ty n] H Q := isi_ (.base (.tup h)) e q
theorem isi_lst {a : Addr} {xs : List V} {n : String} (b : Bool) (h : H a = some (.lst xs)) (e : kitB "list" n = some b) (q : Q (.bl b) H) : rIsi K [.ref a, .ty n] H Q := isi_ (.base (.lst h)) e q
theorem t_bl {PB : Bool → Prop} (q : PB b) : ∃ k, TruV K (.bl b) H k ∧ PB k := ⟨b, rfl, q⟩
theorem t_non {PB : Bool → Prop} (q : PB false) : ∃ k, TruV K .non H k ∧ PB k := ⟨false, rfl, q⟩
theorem t_int {PB : Bool → Prop} {a : Int} (q : PB (decide (a ≠ 0))) : ∃ k, TruV K (.int a) H k ∧ PB k := ⟨_, rfl, by
  have e : (a != 0) = decide (a ≠ 0) := by
    by_cases h : a = 0
    · subst h; rfl
    · rw [decide_eq_true h]; simpa using h
  rw [e]; exact q⟩
theorem t_lst {PB : Bool → Prop} {p : Addr} {xs : List V} (s : SqL K H p xs) (q : PB (!xs.isEmpty)) : ∃ k, TruV K (.ref p) H k ∧ PB k := ⟨_, .inl ⟨xs, s, rfl⟩, q⟩
theorem t_tup {PB : Bool → Prop} {p : Addr} {xs : List V} (s : SqT K H p xs) (q : PB (!xs.isEmpty)) : ∃ k, TruV K (.ref p) H k ∧ PB k := ⟨_, .inr (.inl ⟨xs, s, rfl⟩), q⟩
theorem isN_non (q : Q (.bl true) H) : rIsN0 .non .non H Q := ⟨rfl, q⟩
theorem isN_int {a : Int} (q : Q (.bl false) H) : rIsN0 (.int a) .non H Q := ⟨rfl, q⟩
theorem isN_ref {a : Addr} (q : Q (.bl false) H) : rIsN0 (.ref a) .non H Q := ⟨rfl, q⟩
theorem isN_str {a : Str} (q : Q (.bl false) H) : rIsN0 (.str a) .non H Q := ⟨rfl, q⟩
theorem isN_bl {a : Bool} (q : Q (.bl false) H) : rIsN0 (.bl a) .non H Q := ⟨rfl, q⟩
theorem noN_non (q : Q (.bl false) H) : rNoN0 .non .non H Q := ⟨rfl, q⟩
theorem noN_int {a : Int} (q : Q (.bl true) H) : rNoN0 (.int a) .non H Q := ⟨rfl, q⟩
theorem noN_ref {a : Addr} (q : Q (.bl true) H) : rNoN0 (.ref a) .non H Q := ⟨rfl, q⟩
theorem noN_str {a : Str} (q : Q (.bl true) H) : rNoN0 (.str a) .non H Q := ⟨rfl, q⟩
theorem noN_bl {a : Bool} (q : Q (.bl true) H) : rNoN0 (.bl a) .non H Q := ⟨rfl, q⟩
theorem tyx_st {a : Addr} {xs : List V} (s : SqT K H a xs) : TyX K H (.ref a) (.type "tuple") := by
  rcases s with (s | ⟨o, s⟩) | ⟨o, its, n, hk, hc, _⟩
  · exact .base (.tup s)
  · exact .fTuple s
  · exact .kTuple hk hc
theorem tyx_sl {a : Addr} {xs : List V} (s : SqL K H a xs) : TyX K H (.ref a) (.type "list") := by
  rcases s with (s | ⟨o, s⟩) | ⟨o, its, n, hk, hc, _⟩
  · exact .base (.lst s)
  · exact .base (.frz s)
  · exact .kList hk hc
theorem isi_t {a : Addr} {xs : List V} {n : String} (b : Bool) (s : SqT K H a xs) (e : kitB "tuple" n = some b) (q : Q (.bl b) H) : rIsi K [.ref a, .ty n] H Q := isi_ (tyx_st s) e q
theorem isi_l {a : Addr} {xs : List V} {n : String} (b : Bool) (s : SqL K H a xs) (e : kitB "list" n = some b) (q : Q (.bl b) H) : rIsi K [.ref a, .ty n] H Q := isi_ (tyx_sl s) e q
theorem e_allB {p : Addr} {bs : List Bool} (s : H p = some (.lst (bs.map V.bl))) (q : Q (.bl (bs.all id)) H) : rAll K [.ref p] H Q := ⟨p, bs, rfl, slO s, q⟩
theorem c_int {a : Int} (q : Q (.int a) H) : rInt1 [V.int a] H Q := .inl ⟨a, rfl, q⟩
theorem c_abs {a : Int} (q : Q (.int (if a < 0 then -a else a)) H) : rAbs [V.int a] H Q := ⟨a, rfl, q⟩
theorem c_min2 {a b : Int} (q : Q (.int (if b < a then b else a)) H) : rMin2 [V.int a, V.int b] H Q := ⟨a, b, rfl, q⟩
theorem c_max2 {a b : Int} (q : Q (.int (if b > a then b else a)) H) : rMax2 [V.int a, V.int b] H Q := ⟨a, b, rfl, q⟩
theorem e_tru (h : te σ H fun x H1 => ∃ k, TruV K x H1 k ∧ QB k H1) : tTruE K te σ H QB := h
theorem e_app {to : TE} (h : to σ H fun x H1 => ∃ l xs, x = .ref l ∧ SqL K H1 l xs ∧ te σ H1 fun y H2 => ∃ ys, H2 l = some (.lst ys) ∧ ys.length < sizeLine ∧ Q .non (upd H2 l (.lst (ys ++ [y])))) (mono : ∀ (H : Hp) (R R' : V → Hp → Prop), (∀ x H1, R x H1 → R' x H1) → to σ H R → to σ H R') (mono2 : ∀ (H : Hp) (R R' : V → Hp → Prop), (∀ x H1, R x H1 → R' x H1) → te σ H R → te σ H R') :
    tBM K "list" rAppend to (tCons te tNil) σ H Q := by
  refine mono H _ _ (fun x H1 q => ?_) h
  obtain ⟨l, xs, rfl, s, q⟩ := q
  refine ⟨.inl ⟨rfl, xs, s⟩, ?_⟩
  exact mono2 H1 _ _ (fun y H2 ⟨ys, h1, h2, h3⟩ => ⟨l, ys, y, rfl, rfl, h1, h2, h3⟩) q
end
/-- a def of the text as it stands, a constant of the text -/
structure DefAt (K : PySem.W.Frag) (mg : Str → Option Value) (x qual : Str) (st : Stmt) (ps : List Str) where
  f : Addr
  fd : FuncData
  F : Fun K x qual st f fd
  b : Binds K fd ps []
  g : mg x = some (.ref f)
structure CAt (mg : Str → Option Value) (x : Str) (v : V) where
  u : Value
  h : mg x = some u
  r : RelV v u
def defAt_mk {K : PySem.W.Frag} {mg : Str → Option Value} {h : Heap} {x qual : Str} {st : Stmt} {ps : List Str} {f : Addr} {od an : Option Addr} {sl : Array (Option Value)} {oc kV dc pm cd ct : Value} (X : K.In h) (G : h.Ns mainGlobals mg)
    (a : PySem.W.nsIn K mainGlobals x = some (some (.ref f))) (l : K.lookup f = some ⟨oc, od, .func (PySem.W.fnOf x qual (defArgs st) (defBody st) (defScope st) .none kV dc pm an cd ct), sl⟩) (c : PySem.W.codeIn K cd qual = true) (k : PySem.W.keepIn K (.ref f) = true)
    (b : ∀ (kV doc pm : Value) (an : Option Addr) (cdv ct : Value) (us : List Value), us.length = ps.length → bindArgs (PySem.W.fnOf x qual (defArgs st) (defBody st) (defScope st) .none kV doc pm an cdv ct) ⟨us, []⟩ = pure (ps.zip us)) : DefAt K mg x qual st ps :=
  ⟨f, _, fun_mk l c k, (fun_mk (st := st) l c k).binds b, PySem.W.mg_of X G a⟩
def cAt_mk {K : PySem.W.Frag} {mg : Str → Option Value} {h : Heap} {x : Str} {u : Value} {v : V} (X : K.In h) (G : h.Ns mainGlobals mg) (a : PySem.W.nsIn K mainGlobals x = some (some u)) (r : RelV v u) : CAt mg x v := ⟨u, PySem.W.mg_of X G a, r⟩
end Vw

set_option Elab.async false
set_option linter.all false
set_option maxRecDepth 100000
set_option maxHeartbeats 4000000
namespace Vw
open PySem PySem.Spec PyProof.Rows L2
/-! ### enumerate of a tuple -/
abbrev ti0 (t : Addr) : Obj := { cls := .type "tuple_iterator", data := .fields #[.ref t, .int 0 0] }
abbrev en0 (i : Addr) : Obj := { cls := .type "enumerate", data := .fields #[.none, .bool false, .ref i, rawInt 0, .none, .none] }
theorem new_enumT (t : Addr) (items : Array Value) :
    Meets (Builtin.«enumerate.__new__» ⟨[.type "enumerate", .ref t], []⟩) (fun _ R s => s.heap.IsTuple t items ∧
      R (.ok (.ret (.ref (s.heap.push (ti0 t)).objs.size))) { s with heap := (s.heap.push (ti0 t)).push (en0 s.heap.objs.size) }) :=
  .of_wp fun prog w A R s h => by
    obtain ⟨hp, g, d, tk, os⟩ := s
    obtain ⟨hL, h⟩ := h
    have hsub := sub_enumerate
    have hL2 := hL
    obtain ⟨⟨oc, od, odt, osl⟩, hl, hc, n, hd⟩ := hL2
    simp only at hc hd
    subst hc hd
    have hL : Heap.IsTuple (Shared.heap ⟨hp, g, d, tk, os⟩) t items := hL
    wp_walk using wpAny_loadPart' hl
    refine wpAny_stack_any fun st => wpAny_pure ?_
    split
    · rename_i c _ _ _ _ _
      cases (c == Value.type "enumerate")
      · wp_walk using wpAny_loadPart' hl, wpAny_pyIter_tuple hL
        exact ⟨_, rfl, h⟩
      · wp_walk using wpAny_loadPart' hl, wpAny_pyIter_tuple hL
        exact ⟨_, rfl, h⟩
    · wp_walk using wpAny_loadPart' hl, wpAny_pyIter_tuple hL
      exact ⟨_, rfl, h⟩
theorem call_enumT {prog : Program} {w : World} {A : Around} {E : Value → Shared → Prop} {s : Shared} {t : Addr} {items : Array Value} {Q : Value → Shared → Prop} (hL : s.heap.IsTuple t items)
    (h : ∀ h', IsEnum h' (s.heap.objs.size + 1) s.heap.objs.size 0 .none → h'.IsTupleIter s.heap.objs.size t 0 →
      (∀ b o, s.heap.get? b = some o → h'.get? b = some o) → Q (.ref (s.heap.objs.size + 1)) { s with heap := h' }) :
    wpAny (model prog w) A (call (.type "enumerate") [.ref t]) Q E s := by
  refine callType_new F.called_enumerate (by decide) (F.typeCall_enumerate_1 _) (F.newCall_enumerate_1 _) (fun obj => F.args_object_init_2 obj _) F.entry_enumerate_new (new_enumT t items) ⟨hL, ?_⟩
  have hz : (s.heap.push (ti0 t)).objs.size = s.heap.objs.size + 1 := Heap.size_push ..
  show _ ∧ _
  rw [hz]
  have he : IsEnum ((s.heap.push (ti0 t)).push (en0 s.heap.objs.size)) (s.heap.objs.size + 1) s.heap.objs.size 0 .none := by
    have q := Heap.get?_push_size (s.heap.push (ti0 t)) (o := en0 s.heap.objs.size) rfl
    rw [hz] at q; exact q
  exact ⟨⟨_, he, rfl⟩, h _ he ⟨_, Heap.get?_push_of_some _ (Heap.get?_push_size _ rfl), rfl, rfl⟩ fun b o x => Heap.get?_push_of_some _ (Heap.get?_push_of_some _ x)⟩
/-- the tuple at a, each item in a new pair -/
def ItEt (K : PySem.W.Frag) (a : Addr) : It :=
  ⟨fun i H => ∃ (xs : List V) (x : V), SqT K H a xs ∧ xs[i]? = some x, fun i H v H' => ∃ T x, v = .ref T ∧ H T = none ∧ H' = upd H T (.tup [.int (i : Nat), x]) ∧ ∀ xs, SqT K H a xs → xs[i]? = some x, fun i H => ∃ xs : List V, SqT K H a xs ∧ xs.length ≤ i⟩
theorem turn_enumT {P : Program} {w : World} {K : PySem.W.Frag} {elts : List Expr} {kk : Nat} {tpos : Pos} (a e it : Addr) :
    Turn P w K (.Tuple elts kk tpos) (ItEt K a) [e, it] e (fun i h => (∃ old, IsEnum h e it ((i : Nat) : Int) old) ∧ h.IsTupleIter it a i ∧ e ≠ it) where
  mem := List.mem_cons_self
  obj := fun i h st b hb => by
    obtain ⟨⟨old, he⟩, ⟨o, ho, hc, hd⟩, _⟩ := st
    rcases List.mem_cons.mp hb with z | z
    · rw [z]; exact ⟨_, he, fun v q => nomatch q⟩
    · rw [List.mem_singleton.mp z]; exact ⟨o, ho, fun v q => by rw [hd] at q; cases q⟩
  keep := fun i h h' ⟨⟨old, he⟩, hi, hne⟩ k => ⟨⟨old, k e List.mem_cons_self _ he⟩, hi.at fun o q => k it (List.mem_cons_of_mem _ List.mem_cons_self) o q, hne⟩
  item := by
    intro X hP hw hK hc i pins s σ H E I hf st hg
    subst hP hw hK
    obtain ⟨⟨old, he⟩, hit, hne⟩ := st
    obtain ⟨xs, x, hq, hx⟩ := hg
    obtain ⟨its, rv, p, hz⟩ := I.tuple hq
    obtain ⟨u, hu, ru⟩ := rv.get hx
    have pt : s.heap.IsTuple a its.toArray := p
    have hel : e < s.heap.objs.size := Heap.lt_size he
    have hil : it < s.heap.objs.size := by obtain ⟨_, q, _⟩ := hit; exact Heap.lt_size q
    have hai : a ≠ it := fun z => by
      obtain ⟨o1, g1, c1, _⟩ := pt
      obtain ⟨o2, g2, c2, _⟩ := hit
      rw [z, g2] at g1
      cases g1
      rw [c2] at c1
      exact absurd c1 (by decide)
    have hae : a ≠ e := fun z => by
      obtain ⟨o1, g1, c1, _⟩ := pt
      rw [z, show s.heap.get? e = _ from he] at g1
      cases g1
      have c2 : Value.type "enumerate" = Value.type "tuple" := c1
      exact absurd c2 (by decide)
    have hlt : i < its.toArray.size := by
      have := (List.getElem?_eq_some_iff.mp hu).1
      simpa using this
    refine wpAny_pyNext_enum_itemD (Draws.tuple (by rw [Around.in1_handled]; exact I.ok.hd hc) it a hai its.toArray) he ⟨hit, pt⟩ hlt hne (by simp [hne, Ne.symm hae]) fun y h' tk hy ho hst' hT hsz hk => ?_
    have ey : y = u := by
      have q : its.toArray[i]? = some u := by simpa using hu
      rw [q] at hy
      exact (Option.some.inj hy).symm
    subst ey
    refine ⟨_, rfl, wpAny_letOwnedTupleGo_enum (s := { s with heap := h', toks := tk + 1 }) ho fun h'' he' sb => ?_⟩
    have hT2 := (sb.2 _ (Nat.ne_of_gt hel)).trans hT
    have new : ObjOk X.prog X.w (upd H s.heap.objs.size (.tup [.int (i : Nat), x])) h'' s.heap.objs.size (.tup [.int (i : Nat), x]) := ⟨by show 2 ≤ sizeLine; decide, [.int i tk, y], .cons ⟨_, rfl⟩ (.cons ru .nil), ⟨_, hT2, rfl, _, rfl⟩⟩
    have I1 : Inv X pins σ (upd H s.heap.objs.size (.tup [.int (i : Nat), x])) { s with heap := h'', toks := tk + 1 } :=
      I.turnedNew (ch := [e, it]) (fun b ob hb q => (sb.2 b (fun z => hb (by simp [z]))).trans (hk b ob (fun z => hb (by simp [z])) (fun z => hb (by simp [z])) q)) hf (Nat.le_refl _) new
    refine ⟨.ref s.heap.objs.size, _, I1, rfl, ⟨_, x, rfl, I.hok.fresh (Nat.le_refl _), rfl, fun ys hy => ?_⟩, ⟨⟨y, ?_⟩, hst'.1.at fun o q => (sb.2 it (Ne.symm hne)).trans q, hne⟩, fun b hb => ?_⟩
    · rw [I.tuple_inj hy hq]; exact hx
    · rw [show ((i + 1 : Nat) : Int) = (i : Int) + 1 by omega]; exact he'
    · have hb' : b < s.heap.objs.size := by
        rcases List.mem_cons.mp hb with z | z
        · rw [z]; exact hel
        · rw [List.mem_singleton.mp z]; exact hil
      rw [upd_ne (Nat.ne_of_lt hb')]; exact (hf b hb).1
  done := by
    intro X hP hw hK hc i pins s σ H E I hf st hg
    subst hP hw hK
    obtain ⟨⟨old, he⟩, hit, hne⟩ := st
    obtain ⟨xs, hq, hx⟩ := hg
    obtain ⟨its, rv, p, hz⟩ := I.tuple hq
    obtain ⟨f0, f1, f2, f3, f4, f5⟩ := hf it (List.mem_cons_of_mem _ List.mem_cons_self)
    have pt : s.heap.IsTuple a its.toArray := p
    have hai : a ≠ it := fun z => by
      obtain ⟨o1, g1, c1, _⟩ := pt
      obtain ⟨o2, g2, c2, _⟩ := hit
      rw [z, g2] at g1
      cases g1
      rw [c2] at c1
      exact absurd c1 (by decide)
    have hl := rv.length
    have D : Draws X.prog X.w X.A.in1 it [it, a] i (fun _ _ => False) (fun j h => j = i ∧ h.IsTupleIter it a i ∧ h.IsTuple a its.toArray) := by
      refine ⟨fun j h st => let ⟨o, ho, _⟩ := st.2.1; ⟨o, ho⟩, fun j h h' st k => ⟨st.1, st.2.1.at fun o q => k it (by simp) o q, st.2.2.at fun o q => k a (by simp) o q⟩, fun j s Q E hj st _ => absurd st.1 (Nat.ne_of_lt hj), fun s Q E st hE => ?_⟩
      exact wpAny_nextOf_tuple_end (by rw [Around.in1_handled]; exact I.ok.hd hc) st.2.1 st.2.2 (by simp; omega) hE
    exact wpAny_pyNext_enum_endD D he ⟨rfl, hit, pt⟩ fun h' eb => ⟨rfl, I.turned (t' := s.toks) (fun b o hb q => eb b o hb q) f0 f1 f3 f4 f5⟩
  self := fun A i s Q E ⟨⟨_, he⟩, _⟩ h => wpAny_pyIter_enum he h
def iEnumT (K : PySem.W.Frag) (ta : TA) : TI := fun σ H R => ta σ H fun vs H1 => ∃ a xs, vs = [.ref a] ∧ ((SqL K H1 a xs ∧ R (Ite K a) H1) ∨ (SqT K H1 a xs ∧ R (ItEt K a) H1))
theorem piEnumT {K : PySem.W.Frag} {X : Cx} {e : Expr} {ta : TA} {p pos tpos : Pos} {elts : List Expr} {kk : Nat} (hg : Gl X "enumerate") (hm : X.mg "enumerate" = none) (ha : PA X [e] ta) (eK : X.K = K := by rfl) (hs : starEach [e] X.env = [(false, eval e X.env)] := by rfl) :
    PI X (.Tuple elts kk tpos) (.Call (.Name "enumerate" p) [e] [] pos) (iEnumT K ta) := by
  cases eK
  refine ⟨fun pins s σ H R I h => Call_ (ld_blt I hg hm boot_enumerate (PyProof.Rows.callWith_type1 (thn (ha.run pos pins s σ H _ I h) fun us s1 ⟨vs, H1, I1, r1, q1⟩ => ?_) hs rfl))⟩
  obtain ⟨a, xs, rfl, q⟩ := q1
  rw [Vals.ref1 r1]
  have up : ∀ b ∈ [s1.heap.objs.size + 1, s1.heap.objs.size], s1.heap.objs.size ≤ b := fun b hb => by
    rcases List.mem_cons.mp hb with z | z
    · rw [z]; exact Nat.le_add_right _ _
    · rw [List.mem_singleton.mp z]; exact Nat.le_refl _
  rcases q with ⟨hq, q⟩ | ⟨hq, q⟩
  · obtain ⟨its, rv, p', hz⟩ := I1.list hq
    refine call_enumerate_list p'.isList fun h' he hit hsz hk => wpAny_pyIter_enum he ?_
    exact ⟨s1.heap.objs.size + 1, [s1.heap.objs.size + 1, s1.heap.objs.size], _, _, H1, rfl, I1.kept (t' := s1.toks) hk, turn_enum a (s1.heap.objs.size + 1) s1.heap.objs.size, ⟨⟨.none, he⟩, hit, Nat.succ_ne_self _⟩, fun b hb => I1.fpOk (up b hb) (I1.hok.fresh (up b hb)), q⟩
  · obtain ⟨its, rv, p', hz⟩ := I1.tuple hq
    refine call_enumT (show s1.heap.IsTuple a its.toArray from p') fun h' he hit hk => wpAny_pyIter_enum he ?_
    exact ⟨s1.heap.objs.size + 1, [s1.heap.objs.size + 1, s1.heap.objs.size], _, _, H1, rfl, I1.kept (t' := s1.toks) hk, turn_enumT a (s1.heap.objs.size + 1) s1.heap.objs.size, ⟨⟨.none, he⟩, hit, Nat.succ_ne_self _⟩, fun b hb => I1.fpOk (up b hb) (I1.hok.fresh (up b hb)), q⟩
end Vw

set_option Elab.async false
set_option linter.all false
set_option maxRecDepth 100000
set_option maxHeartbeats 4000000
namespace Vw
open PySem PySem.Spec PyProof.Rows L2 RT
/-! ### loops -/
def FQ (J : It) (g : TG) (tb : TS) (D : Ends) (σ : L2.St) (H : Hp) : Prop := ∃ W : Nat → Nat → L2.St → Hp → Prop, (∃ m, W 0 m σ H) ∧ ∀ i m σ H, W i m σ H →
  (J.stop i H ∧ D.nx σ H) ∨ (J.go i H ∧ ∃ N : L2.St → Hp → Prop, (∀ σ' H', N σ' H' → ∃ m', m' < m ∧ W (i + 1) m' σ' H') ∧ ∀ x H', J.yld i H x H' → g x σ H' fun σ2 H2 => tb { D with nx := N, ct := N, bk := D.nx } σ2 H2)
def LQ (J : It) (g : TG) (tt : TT) (te : TE) (vs : List Nat) (σ : L2.St) (H1 : Hp) (Q : VK) : Prop := ∀ D, H1 D = none → ∃ W : Nat → Nat → Hp → Prop, (∃ m, W 0 m (upd H1 D (.lst []))) ∧ ∀ i m H, W i m H →
  (J.stop i H ∧ Q (.ref D) H) ∨ (J.go i H ∧ ∃ Nx : Hp → Prop, (∀ H', Nx H' → ∃ m', m' < m ∧ W (i + 1) m' H') ∧ ∀ x H', J.yld i H x H' → g x (wipe σ vs) H' fun σ2 H2 => wipe σ2 vs = wipe σ vs ∧ tt σ2 H2 fun b H3 =>
    if b = true then te σ2 H3 fun y H4 => ∃ acc, H4 D = some (.lst acc) ∧ acc.length < sizeLine ∧ Nx (upd H4 D (.lst (acc ++ [y]))) else Nx H3)
section
variable {K : PySem.W.Frag} {σ : L2.St} {H H1 : Hp} {Q : VK} {D : Ends} {ta tb te : TE} {t u : TS} {wi : TI} {g : TG} {tt : TT} {vs : List Nat} {R : It → Hp → Prop} {j : Nat} {xs : List V} {a : Addr}
theorem s_for (h : wi σ H fun J H1 => FQ J g t D σ H1) : tFor wi g t D σ H := h
theorem e_lc (h : wi σ H fun J H1 => LQ J g tt te vs σ H1 Q) : tLc wi g tt te vs σ H Q := h
def RgQ (R : It → Hp → Prop) (vs : List V) (H1 : Hp) : Prop := ∃ j : Int, vs = [.int j] ∧ -(2 ^ 62) ≤ j ∧ j < 2 ^ 62 ∧ R (Itr 0 j.toNat) H1
theorem i_rng1 {ta : TA} (h : ta σ H fun vs H1 => RgQ R vs H1) : iRng1 ta σ H R := h
theorem i_rng {i : Int} (n : Nat) (e : i.toNat = n) (h1 : -100000 ≤ i) (h2 : i ≤ 100000) (h : R (Itr 0 n) H) : RgQ R [.int i] H := ⟨i, rfl, by omega, by omega, by rw [e]; exact h⟩
def LsQ (K : PySem.W.Frag) (R : It → Hp → Prop) (x : V) (H1 : Hp) : Prop := ∃ a, x = .ref a ∧ (∃ xs, SqL K H1 a xs) ∧ R (Itl K a) H1
theorem i_lst0 {tl : TE} (h : tl σ H fun x H1 => LsQ K R x H1) : iList K tl σ H R := h
theorem i_lst (s : SqL K H a xs) (h : R (Itl K a) H) : LsQ K R (.ref a) H := ⟨a, rfl, ⟨xs, s⟩, h⟩
def TpQ (K : PySem.W.Frag) (R : It → Hp → Prop) (x : V) (H1 : Hp) : Prop := ∃ a, x = .ref a ∧ (∃ xs, SqT K H1 a xs) ∧ R (Itt K a) H1
theorem i_tup0 {tl : TE} (h : tl σ H fun x H1 => TpQ K R x H1) : iTup K tl σ H R := h
theorem i_tup (s : SqT K H a xs) (h : R (Itt K a) H) : TpQ K R (.ref a) H := ⟨a, rfl, ⟨xs, s⟩, h⟩
/-- a loop over anything that is walked -/
theorem l_it {J : It} {n : Nat} {G : Hp → Prop} {Y : Nat → Hp → V → Hp → Prop} (W : Walk J n G Y) (Pv : Nat → L2.St → Hp → Prop) (h0 : Pv 0 σ H) (hG : ∀ i σ H, i ≤ n → Pv i σ H → G H) (hd : ∀ σ H, Pv n σ H → D.nx σ H)
    (hs : ∀ i x σ H H', i < n → Pv i σ H → Y i H x H' → g x σ H' fun σ2 H2 => t { D with nx := Pv (i + 1), ct := Pv (i + 1), bk := D.nx } σ2 H2) : FQ J g t D σ H := for_it W Pv h0 hG hs hd
theorem l_rng {n : Nat} (Pv : Nat → L2.St → Hp → Prop) (h0 : Pv 0 σ H) (hd : ∀ σ H, Pv n σ H → D.nx σ H)
    (hs : ∀ (i : Nat) σ H, i < n → Pv i σ H → t { D with nx := Pv (i + 1), ct := Pv (i + 1), bk := D.nx } (σ.set j (some (.int (i : Int)))) H) : FQ (Itr 0 n) (gName j) t D σ H :=
  l_it walk_range Pv h0 (fun _ _ _ _ _ => trivial) hd fun i x σ H H' hi p y => by
    obtain ⟨rfl, rfl⟩ := y
    have e : (0 : Int) + (i : Int) = (i : Int) := Int.zero_add _
    show t _ (σ.set j (some (.int ((0 : Int) + (i : Int))))) _
    rw [e]; exact hs i σ _ hi p
theorem l_lst (Pv : Nat → L2.St → Hp → Prop) (h0 : Pv 0 σ H) (hl : ∀ i σ H, i ≤ xs.length → Pv i σ H → SqL K H a xs) (hd : ∀ σ H, Pv xs.length σ H → D.nx σ H)
    (hs : ∀ i x σ H, xs[i]? = some x → Pv i σ H → t { D with nx := Pv (i + 1), ct := Pv (i + 1), bk := D.nx } (σ.set j (some x)) H) : FQ (Itl K a) (gName j) t D σ H :=
  l_it walk_list Pv h0 hl hd fun i x σ H H' hi p y => by
    obtain ⟨rfl, e⟩ := y
    exact hs i x σ _ e p
theorem l_tup (Pv : Nat → L2.St → Hp → Prop) (h0 : Pv 0 σ H) (hl : ∀ i σ H, i ≤ xs.length → Pv i σ H → SqT K H a xs) (hd : ∀ σ H, Pv xs.length σ H → D.nx σ H)
    (hs : ∀ i x σ H, xs[i]? = some x → Pv i σ H → t { D with nx := Pv (i + 1), ct := Pv (i + 1), bk := D.nx } (σ.set j (some x)) H) : FQ (Itt K a) (gName j) t D σ H :=
  l_it walk_tup Pv h0 hl hd fun i x σ H H' hi p y => by
    obtain ⟨rfl, e⟩ := y
    exact hs i x σ _ e p
/-- the target (x, y) at a new pair -/
theorem g_pair {i1 i2 : Nat} {T : Addr} {x y : V} {R : L2.St → Hp → Prop} (h : H T = some (.tup [x, y])) (q : R ((σ.set i1 (some x)).set i2 (some y)) H) : gTup K 2 (gCons (gName i1) (gCons (gName i2) gNil)) (.ref T) σ H R :=
  ⟨T, [x, y], rfl, stO h, rfl, x, [y], rfl, y, [], rfl, rfl, q⟩
theorem g_pairS {i1 i2 : Nat} {T : Addr} {x y : V} {R : L2.St → Hp → Prop} (h : SqT K H T [x, y]) (q : R ((σ.set i1 (some x)).set i2 (some y)) H) : gTup K 2 (gCons (gName i1) (gCons (gName i2) gNil)) (.ref T) σ H R :=
  ⟨T, [x, y], rfl, h, rfl, x, [y], rfl, y, [], rfl, rfl, q⟩
theorem putK_le {c : List (Key × V)} {k : Key} {x : V} : (putK c k x).length ≤ c.length + 1 := by
  unfold putK
  split <;> simp
theorem walk_enumT : Walk (ItEt K a) xs.length (fun H => SqT K H a xs) (YPair (fun i => some (.int (i : Nat))) (fun i => xs[i]?)) := by
  refine ⟨fun i _ hi q => ⟨xs, xs[i], q, by simp [hi]⟩, fun _ q => ⟨xs, q, Nat.le_refl _⟩, fun i H v H' _ q y => ?_⟩
  obtain ⟨T, x, h1, h2, h3, h4⟩ := y
  exact ⟨T, .int (i : Nat), x, h1, h2, h3, rfl, h4 xs q⟩
def SqX (K : PySem.W.Frag) (H : Hp) (a : Addr) (xs : List V) : Prop := SqL K H a xs ∨ SqT K H a xs
theorem sx_ {H H' : Hp} {a : Addr} {xs : List V} (s : Same H H') (h : SqX K H a xs) : SqX K H' a xs := h.elim (fun h => .inl (sl_ s h)) fun h => .inr (st_ s h)
def EnQ (K : PySem.W.Frag) (R : It → Hp → Prop) (vs : List V) (H1 : Hp) : Prop := ∃ a xs, vs = [.ref a] ∧ ((SqL K H1 a xs ∧ R (Ite K a) H1) ∨ (SqT K H1 a xs ∧ R (ItEt K a) H1))
theorem i_enum0 {ta : TA} (h : ta σ H fun vs H1 => EnQ K R vs H1) : iEnumT K ta σ H R := h
theorem i_enumX {H0 : Hp} (s : SqX K H0 a xs) (ss : Same H0 H) (h : ∀ J G, (∀ H', Same H0 H' → G H') → Walk J xs.length G (YPair (fun i => some (.int (i : Nat))) (fun i => xs[i]?)) → R J H) : EnQ K R [.ref a] H :=
  ⟨a, xs, rfl, s.elim (fun s => .inl ⟨sl_ ss s, h _ _ (fun H' q => sl_ q s) walk_enum⟩) fun s => .inr ⟨st_ ss s, h _ _ (fun H' q => st_ q s) walk_enumT⟩⟩
def RvQ (K : PySem.W.Frag) (R : It → Hp → Prop) (v : V) (H1 : Hp) : Prop := ∃ (a : Addr) (xs : List V), v = .ref a ∧ ((SqL K H1 a xs ∧ R (Itv K a xs.length) H1) ∨ (SqT K H1 a xs ∧ R (ItvT K a xs.length) H1))
theorem walk_revT : Walk (ItvT K a xs.length) xs.length (fun H => SqT K H a xs) (fun i H x H' => H' = H ∧ xs[xs.length - 1 - i]? = some x) :=
  ⟨fun i _ hi q => ⟨hi, xs, xs[xs.length - 1 - i]'(by omega), q, by simp [show xs.length - 1 - i < xs.length by omega]⟩, fun _ _ => Nat.le_refl _, fun _ _ _ _ _ q y => ⟨y.1, y.2 xs q⟩⟩
theorem i_revX {H0 : Hp} (s : SqX K H0 a xs) (ss : Same H0 H) (h : ∀ J G, (∀ H', Same H0 H' → G H') → Walk J xs.length G (fun i H x H' => H' = H ∧ xs[xs.length - 1 - i]? = some x) → R J H) : RvQ K R (.ref a) H :=
  ⟨a, xs, rfl, s.elim (fun s => .inl ⟨sl_ ss s, h _ _ (fun H' q => sl_ q s) walk_rev⟩) fun s => .inr ⟨st_ ss s, h _ _ (fun H' q => st_ q s) walk_revT⟩⟩
theorem i_rev0 {te : TE} (h : te σ H fun v H1 => RvQ K R v H1) : iRevA K te σ H R := h
/-- a comprehension: Pv tells of the turn, of what is made so far, of the heap, in which the list itself stands at D -/
theorem c_it {J : It} {n : Nat} {G : Hp → Prop} {Y : Nat → Hp → V → Hp → Prop} (W : Walk J n G Y) (Pv : Nat → List V → Hp → Prop) (h0 : ∀ D, H1 D = none → Pv 0 [] (upd H1 D (.lst []))) (hG : ∀ i acc H, i ≤ n → Pv i acc H → G H)
    (hd : ∀ acc D H, H1 D = none → H D = some (.lst acc) → Pv n acc H → Q (.ref D) H)
    (hs : ∀ (i : Nat) x acc H H' D, i < n → H1 D = none → H D = some (.lst acc) → Pv i acc H → Y i H x H' → g x (wipe σ vs) H' fun σ2 H2 => wipe σ2 vs = wipe σ vs ∧ tt σ2 H2 fun b H3 =>
      if b = true then te σ2 H3 fun y H4 => ∃ acc, H4 D = some (.lst acc) ∧ acc.length < sizeLine ∧ ∃ acc2, (upd H4 D (.lst (acc ++ [y]))) D = some (.lst acc2) ∧ Pv (i + 1) acc2 (upd H4 D (.lst (acc ++ [y]))) else ∃ acc2, H3 D = some (.lst acc2) ∧ Pv (i + 1) acc2 H3) : LQ J g tt te vs σ H1 Q := fun D hD =>
  lc_it W (fun i H => ∃ acc, H D = some (.lst acc) ∧ Pv i acc H) ⟨[], upd_same, h0 D hD⟩ (fun i H hi p => hG i _ H hi p.choose_spec.2) (fun i x H H' hi p y => by
    obtain ⟨acc, hp, p⟩ := p
    exact hs i x acc H H' D hi hD hp p y) (fun H p => by
    obtain ⟨acc, hp, p⟩ := p
    exact hd acc D H hD hp p)
theorem got_ {Dl : Addr} {acc : List V} {y : V} {P : List V → Hp → Prop} (h : H Dl = some (.lst acc)) (hl : acc.length < 100000) (p : P (acc ++ [y]) (upd H Dl (.lst (acc ++ [y])))) :
    ∃ acc, H Dl = some (.lst acc) ∧ acc.length < sizeLine ∧ ∃ acc2, (upd H Dl (.lst (acc ++ [y]))) Dl = some (.lst acc2) ∧ P acc2 (upd H Dl (.lst (acc ++ [y]))) :=
  ⟨acc, h, Nat.lt_of_lt_of_le hl (by decide), _, upd_same, p⟩
theorem upd_free {H0 : Hp} {Dl : Addr} {o : HO} (s : Same H0 H) (n : H0 Dl = none) : Same H0 (upd H Dl o) := fun b u e => by rw [upd_ne (ne_of_none e n)]; exact s b u e
theorem c_rng {n : Nat} (Pv : Nat → List V → Hp → Prop) (h0 : ∀ D, H1 D = none → Pv 0 [] (upd H1 D (.lst []))) (hd : ∀ acc D H, H1 D = none → H D = some (.lst acc) → Pv n acc H → Q (.ref D) H) (hw : ∀ x, wipe ((wipe σ vs).set j x) vs = wipe σ vs)
    (hs : ∀ (i : Nat) acc H D, i < n → H1 D = none → H D = some (.lst acc) → Pv i acc H → tt ((wipe σ vs).set j (some (.int (i : Int)))) H fun b H3 =>
      if b = true then te ((wipe σ vs).set j (some (.int (i : Int)))) H3 fun y H4 => ∃ acc, H4 D = some (.lst acc) ∧ acc.length < sizeLine ∧ ∃ acc2, (upd H4 D (.lst (acc ++ [y]))) D = some (.lst acc2) ∧ Pv (i + 1) acc2 (upd H4 D (.lst (acc ++ [y]))) else ∃ acc2, H3 D = some (.lst acc2) ∧ Pv (i + 1) acc2 H3) :
    LQ (Itr 0 n) (gName j) tt te vs σ H1 Q := c_it walk_range Pv h0 (fun _ _ _ _ _ => trivial) hd fun i x acc H H' D hi hD hp p y => by
  obtain ⟨rfl, rfl⟩ := y
  have e : (0 : Int) + (i : Int) = (i : Int) := Int.zero_add _
  refine ⟨hw _, ?_⟩
  dsimp only
  rw [e]; exact hs i acc _ D hi hD hp p
theorem c_lst (Pv : Nat → List V → Hp → Prop) (h0 : ∀ D, H1 D = none → Pv 0 [] (upd H1 D (.lst []))) (hl : ∀ i acc H, i ≤ xs.length → Pv i acc H → SqL K H a xs) (hd : ∀ acc D H, H1 D = none → H D = some (.lst acc) → Pv xs.length acc H → Q (.ref D) H) (hw : ∀ x, wipe ((wipe σ vs).set j x) vs = wipe σ vs)
    (hs : ∀ (i : Nat) x acc H D, xs[i]? = some x → H1 D = none → H D = some (.lst acc) → Pv i acc H → tt ((wipe σ vs).set j (some x)) H fun b H3 =>
      if b = true then te ((wipe σ vs).set j (some x)) H3 fun y H4 => ∃ acc, H4 D = some (.lst acc) ∧ acc.length < sizeLine ∧ ∃ acc2, (upd H4 D (.lst (acc ++ [y]))) D = some (.lst acc2) ∧ Pv (i + 1) acc2 (upd H4 D (.lst (acc ++ [y]))) else ∃ acc2, H3 D = some (.lst acc2) ∧ Pv (i + 1) acc2 H3) :
    LQ (Itl K a) (gName j) tt te vs σ H1 Q := c_it walk_list Pv h0 hl hd fun i x acc H H' D hi hD hp p y => by
  obtain ⟨rfl, e⟩ := y
  exact ⟨hw _, hs i x acc _ D e hD hp p⟩
theorem c_tup (Pv : Nat → List V → Hp → Prop) (h0 : ∀ D, H1 D = none → Pv 0 [] (upd H1 D (.lst []))) (hl : ∀ i acc H, i ≤ xs.length → Pv i acc H → SqT K H a xs) (hd : ∀ acc D H, H1 D = none → H D = some (.lst acc) → Pv xs.length acc H → Q (.ref D) H) (hw : ∀ x, wipe ((wipe σ vs).set j x) vs = wipe σ vs)
    (hs : ∀ (i : Nat) x acc H D, xs[i]? = some x → H1 D = none → H D = some (.lst acc) → Pv i acc H → tt ((wipe σ vs).set j (some x)) H fun b H3 =>
      if b = true then te ((wipe σ vs).set j (some x)) H3 fun y H4 => ∃ acc, H4 D = some (.lst acc) ∧ acc.length < sizeLine ∧ ∃ acc2, (upd H4 D (.lst (acc ++ [y]))) D = some (.lst acc2) ∧ Pv (i + 1) acc2 (upd H4 D (.lst (acc ++ [y]))) else ∃ acc2, H3 D = some (.lst acc2) ∧ Pv (i + 1) acc2 H3) :
    LQ (Itt K a) (gName j) tt te vs σ H1 Q := c_it walk_tup Pv h0 hl hd fun i x acc H H' D hi hD hp p y => by
  obtain ⟨rfl, e⟩ := y
  exact ⟨hw _, hs i x acc _ D e hD hp p⟩
theorem e_yes {R : Bool → Hp → Prop} (q : R true H) : tYes σ H R := q
/-- a dict comprehension over a list -/
def DQ (J : It) (g : TG) (tt : TT) (tk tv : TE) (vs : List Nat) (σ : L2.St) (H1 : Hp) (Q : VK) : Prop := ∀ D, H1 D = none → ∃ W : Nat → Nat → Hp → Prop, (∃ m, W 0 m (upd H1 D (.dK []))) ∧ ∀ i m H, W i m H →
  (J.stop i H ∧ Q (.ref D) H) ∨ (J.go i H ∧ ∃ Nx : Hp → Prop, (∀ H', Nx H' → ∃ m', m' < m ∧ W (i + 1) m' H') ∧ ∀ x H', J.yld i H x H' → g x (wipe σ vs) H' fun σ2 H2 => wipe σ2 vs = wipe σ vs ∧ tt σ2 H2 fun b H3 =>
    if b = true then tk σ2 H3 fun y H4 => tv σ2 H4 fun z H5 => ∃ kvs k, y = kV k ∧ H5 D = some (.dK kvs) ∧ kvs.length < sizeLine ∧ Nx (upd H5 D (.dK (putK kvs k z))) else Nx H3)
theorem e_dc {tk tv : TE} (h : wi σ H fun J H1 => DQ J g tt tk tv vs σ H1 Q) : tDc wi g tt tk tv vs σ H Q := h
theorem d_it {J : It} {n : Nat} {G : Hp → Prop} {Y : Nat → Hp → V → Hp → Prop} {tk tv : TE} (W : Walk J n G Y) (Pv : Nat → List (Key × V) → Hp → Prop) (h0 : ∀ D, H1 D = none → Pv 0 [] (upd H1 D (.dK []))) (hG : ∀ i acc H, i ≤ n → Pv i acc H → G H)
    (hd : ∀ acc D H, H1 D = none → H D = some (.dK acc) → Pv n acc H → Q (.ref D) H)
    (hs : ∀ (i : Nat) x acc H H' D, i < n → H1 D = none → H D = some (.dK acc) → Pv i acc H → Y i H x H' → g x (wipe σ vs) H' fun σ2 H2 => wipe σ2 vs = wipe σ vs ∧ tt σ2 H2 fun b H3 =>
      if b = true then tk σ2 H3 fun y H4 => tv σ2 H4 fun z H5 => ∃ kvs k, y = kV k ∧ H5 D = some (.dK kvs) ∧ kvs.length < sizeLine ∧ ∃ acc2, (upd H5 D (.dK (putK kvs k z))) D = some (.dK acc2) ∧ Pv (i + 1) acc2 (upd H5 D (.dK (putK kvs k z))) else ∃ acc2, H3 D = some (.dK acc2) ∧ Pv (i + 1) acc2 H3) : DQ J g tt tk tv vs σ H1 Q := fun D hD => by
  refine ⟨fun i m H => m = n - i ∧ i ≤ n ∧ ∃ acc, H D = some (.dK acc) ∧ Pv i acc H, ⟨n, rfl, Nat.zero_le _, [], upd_same, h0 D hD⟩, ?_⟩
  rintro i m H ⟨rfl, hi, acc, hp, p⟩
  have q := hG i acc H hi p
  by_cases hlt : i < n
  · exact .inr ⟨W.goes i H hlt q, fun H => ∃ acc, H D = some (.dK acc) ∧ Pv (i + 1) acc H, fun H' p' => ⟨n - (i + 1), by omega, rfl, hlt, p'⟩, fun x H' y => hs i x acc H H' D hlt hD hp p (W.yields i H x H' hlt q y)⟩
  · have e : i = n := by omega
    subst e
    exact .inl ⟨W.stops H q, hd acc D H hD hp p⟩
theorem dgot_ {Dl : Addr} {acc : List (Key × V)} {z : V} {k : Key} {P : List (Key × V) → Hp → Prop} (h : H Dl = some (.dK acc)) (hl : acc.length < 100000) (p : P (putK acc k z) (upd H Dl (.dK (putK acc k z)))) :
    ∃ kvs k', kV k = kV k' ∧ H Dl = some (.dK kvs) ∧ kvs.length < sizeLine ∧ ∃ acc2, (upd H Dl (.dK (putK kvs k' z))) Dl = some (.dK acc2) ∧ P acc2 (upd H Dl (.dK (putK kvs k' z))) :=
  ⟨acc, k, rfl, h, Nat.lt_of_lt_of_le hl (by decide), _, upd_same, p⟩
theorem atI_map {ns : List Int} {z : Int} (i : Nat) (e : z = (i : Nat)) (h : i < ns.length) : atI (ns.map V.int) z = some (.int (ns.getD i 0)) := atI_in e (by
  rw [List.getElem?_map, List.getElem?_eq_getElem h, List.getD_eq_getElem?_getD, List.getElem?_eq_getElem h]; rfl)
theorem atI_neg {α : Type} {xs : List α} {x : α} (h0 : 0 < xs.length) (h : xs[xs.length - 1]? = some x) : atI xs (-1) = some x := by
  have e : ixN xs.length (-1) = some (xs.length - 1) := by
    unfold ixN
    rw [if_neg (by omega), if_pos (by omega)]
    congr 1; omega
  unfold atI
  rw [e]; exact h
theorem atI_negI {ns : List Int} (h0 : 0 < ns.length) : atI (ns.map V.int) (-1) = some (.int (ns.getD (ns.length - 1) 0)) := atI_neg (by simpa using h0) (by
  rw [List.length_map, List.getElem?_map, List.getD_eq_getElem?_getD, List.getElem?_eq_getElem (by omega)]; rfl)
theorem getD_mem {ns : List Int} {i : Nat} (h : i < ns.length) : ns.getD i 0 ∈ ns := by
  rw [List.getD_eq_getElem?_getD, List.getElem?_eq_getElem h]; exact List.getElem_mem h
theorem while_ {c : TT} {μ : L2.St → Hp → Nat} (Pv : L2.St → Hp → Prop) (h0 : Pv σ H)
    (hs : ∀ σ H, Pv σ H → c σ H fun b H1 => if b = true then t { D with nx := fun σ' H' => Pv σ' H' ∧ μ σ' H' < μ σ H, ct := fun σ' H' => Pv σ' H' ∧ μ σ' H' < μ σ H, bk := D.nx } σ H1 else D.nx σ H1)
    (mono : ∀ σ H Q Q', (∀ b H1, Q b H1 → Q' b H1) → c σ H Q → c σ H Q') : tWhile c t D σ H := while_by Pv μ h0 hs mono
theorem same_oth {f : Addr} {H0 H2 : Hp} (n : H0 f = none) (s : Same H0 H) (o : Oth f H H2) : Same H0 H2 := fun b u e => o b u (ne_of_none e n) (s b u e)
theorem e_bm {T : String} {r : V → List V → Hp → VK → Prop} {to : TE} {ts : TA} (h : to σ H fun x H1 => tyV K T x H1 ∧ ts σ H1 fun xs H2 => r x xs H2 Q) : tBM K T r to ts σ H Q := h
theorem ty_lst {f : Addr} {R : Prop} (h : H f = some (.lst xs)) (q : R) : tyV K "list" (.ref f) H ∧ R := ⟨.inl ⟨rfl, xs, slO h⟩, q⟩
theorem r_app {f : Addr} {y : V} (h : H f = some (.lst xs)) (hl : xs.length < 100000) (q : ∀ H2, Oth f H H2 → H2 f = some (.lst (xs ++ [y])) → Q .non H2) : rAppend (.ref f) [y] H Q :=
  ⟨f, xs, y, rfl, rfl, h, lt_size hl, q _ (fun b o n z => by rw [upd_ne n]; exact z) upd_same⟩
theorem o_cat {r' : R2} {l b : Addr} {ys : List V} (h1 : H l = some (.lst xs)) (h2 : H b = some (.lst ys)) (hl : xs.length + ys.length < 100000) (q : NewQ (.lst (xs ++ ys)) H Q) : rOr rIAdd (rOr rCat r') (.ref l) (.ref b) H Q := .inr (.inl ⟨l, b, xs, ys, rfl, rfl, h1, h2, le_size hl, q⟩)
theorem e_din {ty td : TE} (h : ty σ H fun y H1 => td σ H1 fun x H2 => ∃ a o, x = .ref a ∧ DGet H2 a y o ∧ Q (.bl o.isSome) H2) : tDIn ty td σ H Q := h
theorem g_din {PO : Option V → Prop} {d : Addr} {kvs : List (Key × V)} {k : Key} (h : H d = some (.dK kvs)) (q : PO (valV kvs k)) : ∃ a o, V.ref d = .ref a ∧ DGet H a (kV k) o ∧ PO o := ⟨d, _, rfl, DGet.k h, q⟩
theorem e_sl {r : V → Option Int → Option Int → Hp → VK → Prop} {tl th : TO} (h : te σ H fun x H1 => tl σ H1 fun l H2 => th σ H2 fun u H3 => r x l u H3 Q) : tSl r te tl th σ H Q := h
theorem e_np {R : Option Int → Hp → Prop} (h : R none H) : tNoPart σ H R := h
theorem e_pt {R : Option Int → Hp → Prop} (h : te σ H fun x H1 => ∃ i, x = .int i ∧ R (some i) H1) : tPart te σ H R := h
theorem e_ptI {PI : Int → Prop} {i : Int} (h : PI i) : ∃ j, V.int i = .int j ∧ PI j := ⟨i, rfl, h⟩
theorem r_sl {lo hi : Option Int} (s : SqL K H a xs) (q : NewQ (.lst (cutV xs lo hi)) H Q) : rSlL K (.ref a) lo hi H Q := ⟨a, xs, rfl, s, q⟩
theorem cut_map {f : Int → V} (ns : List Int) (lo hi : Option Int) : ∃ ms : List Int, cutV (ns.map f) lo hi = ms.map f ∧ ms.length ≤ ns.length ∧ ∀ z ∈ ms, z ∈ ns := by
  have key : ∀ a b : Nat, ∃ ms : List Int, ((ns.map f).drop a).take b = ms.map f ∧ ms.length ≤ ns.length ∧ ∀ z ∈ ms, z ∈ ns := fun a b =>
    ⟨(ns.drop a).take b, by rw [List.map_take, List.map_drop], by rw [List.length_take, List.length_drop]; omega, fun z hz => List.mem_of_mem_drop (List.mem_of_mem_take hz)⟩
  exact key _ _
theorem eqV_int {a b : Int} : eqV (.int a) (.int b) = decide (a = b) := by
  show (a == b) = _
  by_cases h : a = b
  · rw [h]; simp
  · simp [h]
theorem inV_int {z : Int} {ns : List Int} : inV (.int z) (ns.map V.int) = decide (z ∈ ns) := by
  unfold inV
  rw [List.any_map, Bool.eq_iff_iff, List.any_eq_true, decide_eq_true_eq]
  constructor
  · rintro ⟨y, hy, e⟩
    have := eqV_int (a := y) (b := z)
    have e : eqV (.int y) (.int z) = true := e
    rw [this, decide_eq_true_eq] at e
    rw [← e]; exact hy
  · intro h
    refine ⟨z, h, ?_⟩
    show eqV (.int z) (.int z) = true
    rw [eqV_int]; simp
theorem flat_ints {ns : List Int} : (ns.map V.int).all flatV = true := by
  rw [List.all_map, List.all_eq_true]; exact fun _ _ => rfl
theorem o_inL {p : Addr} {z : Int} {ns : List Int} (s : SqL K H p (ns.map V.int)) (q : Q (.bl (decide (z ∈ ns))) H) : rIn K false (.int z) (.ref p) H Q := ⟨p, _, rfl, .inl s, rfl, flat_ints, by rw [inV_int]; exact q⟩
theorem o_inT {p : Addr} {z : Int} {ns : List Int} (s : SqT K H p (ns.map V.int)) (q : Q (.bl (decide (z ∈ ns))) H) : rIn K false (.int z) (.ref p) H Q := ⟨p, _, rfl, .inr s, rfl, flat_ints, by rw [inV_int]; exact q⟩
theorem o_niL {p : Addr} {z : Int} {ns : List Int} (s : SqL K H p (ns.map V.int)) (q : Q (.bl (decide (z ∉ ns))) H) : rIn K true (.int z) (.ref p) H Q := ⟨p, _, rfl, .inl s, rfl, flat_ints, by
  have e : (!decide (z ∈ ns)) = decide (z ∉ ns) := by simp
  rw [inV_int]; show Q (.bl (!decide (z ∈ ns))) H; rw [e]; exact q⟩
theorem o_niT {p : Addr} {z : Int} {ns : List Int} (s : SqT K H p (ns.map V.int)) (q : Q (.bl (decide (z ∉ ns))) H) : rIn K true (.int z) (.ref p) H Q := ⟨p, _, rfl, .inr s, rfl, flat_ints, by
  have e : (!decide (z ∈ ns)) = decide (z ∉ ns) := by simp
  rw [inV_int]; show Q (.bl (!decide (z ∈ ns))) H; rw [e]; exact q⟩
def SortQ (ns : List Int) (H : Hp) (Q : VK) : Prop := ∀ (ns' : List Int) p H2, ns'.Perm ns → ns'.Pairwise (· ≤ ·) → H p = none → Same H H2 → H2 p = some (.lst (ns'.map V.int)) → Q (.ref p) H2
theorem c_sortI {p : Addr} {ns : List Int} (s : SqL K H p (ns.map V.int)) (q : SortQ ns H Q) : rSortedI K [.ref p] H Q := ⟨p, ns, rfl, s, fun ns' r h1 h2 n => q ns' r _ h1 h2 n (Same.new n) upd_same⟩
theorem s_while (h : tWhile tt t D σ H) : tWhile tt t D σ H := h
end
/-! ### what a reading asks is monotone (for the parts of a comprehension): by the shape -/
section
variable {ta tb te : TE} {c d : TT}
abbrev MoE (te : TE) : Prop := ∀ σ H (R R' : VK), (∀ v H1, R v H1 → R' v H1) → te σ H R → te σ H R'
abbrev MoT (c : TT) : Prop := ∀ σ H (R R' : Bool → Hp → Prop), (∀ b H1, R b H1 → R' b H1) → c σ H R → c σ H R'
abbrev MoA (t : TA) : Prop := ∀ σ H (R R' : List V → Hp → Prop), (∀ v H1, R v H1 → R' v H1) → t σ H R → t σ H R'
abbrev Mo2 (r : R2) : Prop := ∀ x y H (R R' : VK), (∀ v H1, R v H1 → R' v H1) → r x y H R → r x y H R'
abbrev MoC (r : List V → Hp → VK → Prop) : Prop := ∀ x H (R R' : VK), (∀ v H1, R v H1 → R' v H1) → r x H R → r x H R'
abbrev MoSp (r : Sp) : Prop := ∀ x H (R R' : VK) E, (∀ v H1, R v H1 → R' v H1) → r x H R E → r x H R' E
theorem m_yes : MoT tYes := fun _ H _ _ h q => h _ _ q
theorem m_var {i : Nat} : MoE (tVar i) := fun _ H _ _ h q => q.elim fun v q => ⟨v, q.1, h _ _ q.2⟩
theorem m_c {v : V} : MoE (tC v) := fun _ H _ _ h q => h _ _ q
theorem m_op {r : R2} (hr : Mo2 r) (ha : MoE ta) (hb : MoE tb) : MoE (tOp r ta tb) := fun σ H _ _ h q => ha σ H _ _ (fun x H1 => hb σ H1 _ _ fun y H2 => hr x y H2 _ _ h) q
theorem m_test (h : MoE te) : MoT (tTest te) := fun σ H _ _ k q => h σ H _ _ (fun x H1 ⟨b, e, z⟩ => ⟨b, e, k b H1 z⟩) q
theorem m_tB (h : MoE te) : MoT (tB te) := fun σ H _ _ k q => h σ H _ _ (fun x H1 ⟨b, e, z⟩ => ⟨b, e, k b H1 z⟩) q
theorem m_nil : MoA tNil := fun _ H _ _ h q => h _ _ q
theorem m_cons {tr : TA} (ha : MoE ta) (hr : MoA tr) : MoA (tCons ta tr) := fun σ H _ _ h q => ha σ H _ _ (fun x H1 => hr σ H1 _ _ fun xs H2 => h (x :: xs) H2) q
theorem m_cb {r : List V → Hp → VK → Prop} {tt : TA} (hr : MoC r) (ht : MoA tt) : MoE (tCB r tt) := fun σ H _ _ h q => ht σ H _ _ (fun x H1 => hr x H1 _ _ h) q
theorem m_call {sp : Sp} {dvs : List V} {E : XK} {tt : TA} (hr : MoSp sp) (ht : MoA tt) : MoE (tCall sp dvs E tt) := fun σ H _ _ h q => ht σ H _ _ (fun x H1 => hr _ H1 _ _ E h) q
theorem m_or {r r' : R2} (a : Mo2 r) (b : Mo2 r') : Mo2 (rOr r r') := fun x y H _ _ h q => q.elim (fun q => .inl (a x y H _ _ h q)) fun q => .inr (b x y H _ _ h q)
theorem m_I0 {f : Int → Int → V} : Mo2 (rI0 f) := fun x y H _ _ h ⟨i, j, e1, e2, q⟩ => ⟨i, j, e1, e2, h _ _ q⟩
theorem m_I {C : Int → Int → Prop} {f : Int → Int → V} : Mo2 (rI C f) := fun x y H _ _ h ⟨i, j, e1, e2, c, q⟩ => ⟨i, j, e1, e2, c, h _ _ q⟩
theorem m_ix {K : PySem.W.Frag} : Mo2 (rIxLT K) := fun x y H _ _ h q => q.elim (fun ⟨p, xs, i, v, e1, e2, s, e, q⟩ => .inl ⟨p, xs, i, v, e1, e2, s, e, h _ _ q⟩) fun ⟨p, xs, i, v, e1, e2, s, e, q⟩ => .inr ⟨p, xs, i, v, e1, e2, s, e, h _ _ q⟩
theorem m_in {K : PySem.W.Frag} {n : Bool} : Mo2 (rIn K n) := fun x y H _ _ h ⟨p, xs, e1, s, f1, f2, q⟩ => ⟨p, xs, e1, s, f1, f2, h _ _ q⟩
theorem m_cat : Mo2 rCat := fun x y H _ _ h ⟨l, b, xs, zs, e1, e2, h1, h2, h3, q⟩ => ⟨l, b, xs, zs, e1, e2, h1, h2, h3, fun p hp => h _ _ (q p hp)⟩
theorem m_sadd : Mo2 rSAdd' := fun x y H _ _ h ⟨i, j, e1, e2, h1, q⟩ => ⟨i, j, e1, e2, h1, h _ _ q⟩
theorem m_add : Mo2 (rOr rIAdd (rOr rCat rSAdd')) := m_or m_I0 (m_or m_cat m_sadd)
theorem m_and (h1 : MoT c) (h2 : MoT d) : MoT (tAnd c d) := fun σ H _ _ k q => h1 σ H _ _ (fun b H1 z => by cases b with
  | true => rw [if_pos rfl] at z ⊢; exact h2 σ H1 _ _ k z
  | false => rw [if_neg Bool.false_ne_true] at z ⊢; exact k _ _ z) q
theorem m_int1 : MoC rInt1 := fun x H _ _ h q => q.elim (fun ⟨i, e, q⟩ => .inl ⟨i, e, h _ _ q⟩) fun ⟨i, e, q⟩ => .inr ⟨i, e, h _ _ q⟩
theorem m_abs : MoC rAbs := fun x H _ _ h ⟨i, e, q⟩ => ⟨i, e, h _ _ q⟩
end
end Vw

set_option Elab.async false
set_option linter.all false
set_option maxRecDepth 100000
set_option maxHeartbeats 4000000
namespace Vw
open PySem PySem.Spec PyProof.Rows L2
/-- a set as it is made -/
abbrev so0 (w : World) : Obj := { cls := .type "set", dict := none, data := .set #[] 0 (.fresh 0 0 (!w.params.followText "set-order")) }
abbrev li0 (l : Addr) : Obj := { cls := .type "list_iterator", data := .fields #[.ref l, .int 0 0] }
section
variable {P : Program} {w : World} {A : Around} {E : Value → Shared → Prop} {s : Shared}
/-- what the filling of a new set by a list of ints leaves -/
def Filled (w : World) (s : Shared) (ns : List Int) (s2 : Shared) : Prop := ∃ h' tk c, s2 = { s with heap := h', toks := tk } ∧ SetR w h' s.heap.objs.size (fun j => decide (j ∈ ns)) c ∧ c ≤ ns.length ∧ ∀ b o, s.heap.get? b = some o → h'.get? b = some o
abbrev fillQ (P : Program) (w : World) (A0 : Around) (E : Value → Shared → Prop) (s : Shared) (ns : List Int) : Result → Shared → Prop := wants (fun r s2 => r = Value.none ∧ Filled w s ns s2) E
theorem fill_list {A0 : Around} {l : Addr} {items : Array Value} (ns : List Int) (hh : A.handled = none) (hl : s.heap.IsList l items) (hit : IntsAre items.toList ns) (hb : ns.length + 1 < scanBound) :
    wpAny (model P w) A (Builtin.«set.__init__» ⟨[.ref s.heap.objs.size, .ref l], []⟩) (fun fin s' => match fin with | .done f => fillQ P w A0 E s ns (.ok f) s' | .again c' => c'.quiet = true ∧ codeAny (model P w) A0 c' (fillQ P w A0 E s ns) s') (fun e s' => fillQ P w A0 E s ns (.error e) s') { s with heap := s.heap.push (so0 w) } := by
  have hz : items.size = ns.length := by have q := IntsAre.length hit; rw [Array.length_toList] at q; exact q
  have hS : (s.heap.push (so0 w)).get? s.heap.objs.size = some (so0 w) := Heap.get?_push_size _ rfl
  obtain ⟨ol, hol, hcl, nl, hdl⟩ := hl
  obtain ⟨ocls, odict, odata, oslots⟩ := ol
  simp only at hcl hdl
  subst hcl hdl
  have hol' : (s.heap.push (so0 w)).get? l = some { cls := .type "list", dict := odict, data := .seq items nl, slots := oslots } := Heap.get?_push_of_some _ hol
  have ha := F.sub_list_set; have hf := F.sub_list_frozenset
  have hd : (Value.type "list" == Value.type "dict") = false := by decide
  have hl1 : (s.heap.push (so0 w)).IsList l items := ⟨_, hol', rfl, nl, rfl⟩
  unfold Builtin.«set.__init__» noKeywords Builtin.Frozenset.updateFrom
  generalize hPI : pyIter = PI
  wp_walk
  subst hPI
  refine wpAny_pyIter_list hl1 ?_
  refine (wpAny_bind (wpAny_runValue ?_))
  have hls : l < s.heap.objs.size := Heap.lt_size hol
  have hi0 : A.in1.in1.handled = none := by simp [hh]
  have hsz : (s.heap.push (so0 w)).objs.size = s.heap.objs.size + 1 := Heap.size_push ..
  have hI : l ≠ (s.heap.push (so0 w)).objs.size := by rw [hsz]; exact Nat.ne_of_lt (Nat.lt_succ_of_lt hls)
  have hSf : s.heap.objs.size ∉ [(s.heap.push (so0 w)).objs.size, l] := by
    rw [hsz]; simp only [List.mem_cons, List.not_mem_nil, or_false, not_or]
    exact ⟨Nat.ne_of_lt (Nat.lt_succ_self _), Nat.ne_of_gt hls⟩
  have hval : ∀ (i : Nat) (v : Value), items[i]? = some v → ∃ k t, ns[i]? = some k ∧ v = .int k t := fun i v hv => by
    have hi : i < ns.length := by rw [← hz]; exact (Array.getElem?_eq_some_iff.mp hv).1
    obtain ⟨t, e⟩ := PyProof.Rows.IntsAre.int_at hit i v (by rw [Array.getElem?_toList]; exact hv)
    exact ⟨ns[i], t, List.getElem?_eq_getElem hi, by rw [e, List.getD_eq_getElem?_getD, List.getElem?_eq_getElem hi] <;> rfl⟩
  refine set_update_ints ((Walks.list (by simp [hh]) _ l hI items).toS) s.heap.objs.size hSf ns hz hb hval (items.size - 0) 0 _ (by omega) (Nat.zero_le _) ⟨⟨_, Heap.get?_push_size _ rfl, rfl, rfl⟩, (hl1.push _)⟩ ?h0 ?h1
  case h0 =>
    have hg : ((s.heap.push (so0 w)).push (li0 l)).get? s.heap.objs.size = some (so0 w) := Heap.get?_push_of_some _ hS
    exact ⟨0, Nat.le_refl 0, setR_new_at hg⟩
  case h1 =>
    intro s' c' hm hc' hS'
    obtain ⟨h', g2, d', tk', os'⟩ := s'
    have eg : g2 = s.gens := hm.gens
    have ed : d' = s.drawn := hm.drawn
    have eo : os' = s.os := hm.os
    subst eg ed eo
    show wpAny _ _ _ _ _ _
    refine wpAny_pure ?_
    show wpAny _ _ (ret Value.none) _ _ _
    refine wpAny_pure ⟨rfl, h', tk', c', rfl, hS', by omega, fun b o e => ?_⟩
    have hb0 : b < s.heap.objs.size := Heap.lt_size e
    refine hm.heap b o ?_ (Heap.get?_push_of_some _ (Heap.get?_push_of_some _ e))
    simp only [List.mem_cons, List.not_mem_nil, or_false, not_or]
    exact ⟨Nat.ne_of_lt hb0, by rw [hsz]; exact Nat.ne_of_lt (Nat.lt_succ_of_lt hb0)⟩
theorem set_of_list {l : Addr} {items : Array Value} (ns : List Int) {Q : Value → Shared → Prop} (hh : A.handled = none) (hl : s.heap.IsList l items) (hit : IntsAre items.toList ns) (hb : ns.length + 1 < scanBound)
    (h : ∀ s2, Filled w s ns s2 → Q (.ref s.heap.objs.size) s2) : wpAny (model P w) A (call (.type "set") [.ref l]) Q E s := by
  obtain ⟨c, tl, hmro⟩ := F.called_set.mro
  have hmade := F.called_set.made; have hsub := F.called_set.sub
  refine wpAny_call (codeAny_of_tree (show wpAny _ _ (callAny (.type "set") _) _ _ _ from wpAny_pure ⟨Code.quiet_builtin _ (by decide +kernel), codeAny_builtin F.entry_type_call ?_⟩))
  rw [Around.under_plain (weight_type_call_type "set" [.ref l] []) rfl]
  have h1 := F.called_set.notType; have h2 := F.called_set.canCreate; have h3 := F.typeCall_set_1 (.ref l)
  repeat (any_goals (first | assumption | wp_step))
  refine codeAny_mono (code_set_led1 (.ref l) (E := E) (Q₁ := fun obj s₁ => obj = .ref s.heap.objs.size ∧ s₁ = { s with heap := s.heap.push (so0 w) }) ⟨rfl, rfl⟩) fun r s₁ hr => ?_
  rcases r with e | fl
  · exact hr
  cases fl with
  | ret obj =>
    obtain ⟨rfl, rfl⟩ := hr
    have hS : (s.heap.push (so0 w)).get? s.heap.objs.size = some (so0 w) := Heap.get?_push_size _ rfl
    have hT : Shared.TypeIs { s with heap := s.heap.push (so0 w) } (.ref s.heap.objs.size) "set" := ⟨_, hS, rfl⟩
    have hi1 := F.called_set.init.lookup; have hi2 := F.called_set.init.bind (.ref s.heap.objs.size)
    repeat (any_goals (first | assumption | wp_step))
    refine codeAny_mono (codeAny_call_builtin (R := wants (fun r s2 => r = Value.none ∧ Filled w s ns s2) E) F.called_set.init.plain F.entry_set_init (check_set_init_1 hT (fill_list ns (by first | exact hh | simp [hh]) hl hit hb))) fun r₂ s₂ hr₂ => ?_
    rcases r₂ with e | fl₂
    · exact hr₂
    cases fl₂ with
    | ret r =>
      obtain ⟨rfl, hF⟩ := hr₂
      have hF' := hF
      obtain ⟨h', tk, c, rfl, _⟩ := hF'
      repeat (any_goals (first | assumption | wp_step))
      exact h _ hF
    | _ => exact hr₂.elim
  | _ => exact hr.elim
end
/-- set(xs) of a list of ints -/
def rSetL1 (K : PySem.W.Frag) (w : World) : List V → Hp → VK → Prop := fun xs H Q => ∃ (a : Addr) (ns : List Int), xs = [.ref a] ∧ SqL K H a (ns.map V.int) ∧ ns.length < 4000 ∧
  ∀ (p : Addr) (c : Nat), c ≤ ns.length → H p = none → Q (.ref p) (upd H p (SetO w p (fun j => decide (j ∈ ns)) c))
theorem cSetL {X : Cx} {K : PySem.W.Frag} {w : World} (hc : X.calm = true) (e : X.K = K := by rfl) (ew : X.w = w := by rfl) : CallR X (.type "set") (rSetL1 K w) := by
  cases e; cases ew
  intro pins s σ H xs us Q I r h
  obtain ⟨a, ns, rfl, hq, hl, q⟩ := h
  rw [Vals.ref1 r]
  obtain ⟨its, rv, p, hz⟩ := I.list hq
  refine set_of_list ns (I.ok.hd hc) p.isList (ints_of_vals rv) (by unfold scanBound; omega) fun s2 hF => ?_
  obtain ⟨h', tk, c, rfl, R, hcn, kp⟩ := hF
  exact ⟨.ref _, upd H s.heap.objs.size (SetO X.w s.heap.objs.size (fun j => decide (j ∈ ns)) c), I.laid (t' := tk) kp (Nat.le_refl _) (setO_new R), rfl, q _ c hcn (I.hok.fresh (Nat.le_refl _))⟩
def rSortSet (w : World) : List V → Hp → VK → Prop := fun vs H Q => ∃ (a : Addr) (S : Int → Bool) (n : Nat), vs = [V.ref a] ∧ H a = some (SetO w a S n) ∧ n < 64 ∧
  ∀ (ns : List Int) (p : Addr), ns.Pairwise (· < ·) → (∀ k : Int, k ∈ ns ↔ S k = true) → ns.length = n → H p = none → Q (.ref p) (upd H p (.lst (ns.map V.int)))
theorem cSortSet {X : Cx} {w : World} (hc : X.calm = true) (ew : X.w = w := by rfl) : CallR X (.builtin "sorted") (rSortSet w) := by cases ew; exact cr_sortedSet hc
theorem c_setL {K : PySem.W.Frag} {w : World} {H : Hp} {Q : VK} {a : Addr} {ns : List Int} (s : SqL K H a (ns.map V.int)) (hl : ns.length < 4000) (q : ∀ p c H2, c ≤ ns.length → H p = none → Same H H2 → H2 p = some (SetO w p (fun j => decide (j ∈ ns)) c) → Q (.ref p) H2) : rSetL1 K w [.ref a] H Q :=
  ⟨a, ns, rfl, s, hl, fun p c hc hp => q p c _ hc hp (Same.new hp) upd_same⟩
theorem c_sortS {w : World} {H : Hp} {Q : VK} {a : Addr} {S : Int → Bool} {n : Nat} (h : H a = some (SetO w a S n)) (hn : n < 64) (q : ∀ (ns : List Int) p H2, ns.Pairwise (· < ·) → (∀ k : Int, k ∈ ns ↔ S k = true) → ns.length = n → H p = none → Same H H2 → H2 p = some (.lst (ns.map V.int)) → Q (.ref p) H2) : rSortSet w [.ref a] H Q :=
  ⟨a, S, n, rfl, h, hn, fun ns p h1 h2 h3 hp => q ns p _ h1 h2 h3 hp (Same.new hp) upd_same⟩
end Vw

set_option Elab.async false
set_option linter.all false
set_option maxRecDepth 100000
set_option maxHeartbeats 4000000
namespace Vw
open PySem PySem.Spec PyProof.Rows L2
/-! ### a name gets a dict comprehension -/
section
variable {X : Cx}
abbrev BlkAll (X : Cx) (scope : Scope) (F : Cx → Prop) : Prop := ∀ (s : Shared) (H : Hp) (C : Addr) (cl : List (Str × Addr)) (fp : List Addr), F (X.blk s H scope (compEnvC scope cl C X.env) fp)
theorem swD_true {kx vx : Expr} {gs : List Comprehension} {scope : Scope} {pos py : Pos} {y : Str} {l : Nat} {env : Env} (h1 : env.scope.kind = .function) (h2 : env.scope.names.lookup y = some .local) (h3 : (py.line == pos.line) = true)
    (h4 : (scope.names.any fun (n, k) => n == y && (k == .local || k == .cell)) = false) : swapsWith (.DictComp kx vx gs scope pos) (some (.Name y py)) l env = pure true := by
  have e1 : env.kindOf y = some .local := h2
  have e2 : env.blockKind = .function := by unfold Env.blockKind; rw [h1]; rfl
  unfold swapsWith
  simp only [e2, e1, h4, Expr.pos, h3]; rfl
theorem ps_setDc {i : Nat} {y : Str} {py : Pos} {kx vx tg iter : Expr} {ifs : List Expr} {scope : Scope} {own : List (Str × Nat)} {pos spos : Pos} {wi : TI} {g : TG} {tt : TT} {tk tv : TE} (hc : X.calm = true) (hN : X.N.Nodup) (hy : X.N[i]? = some y) (hyl : X.env.scope.names.lookup y = some .local)
    (hsw : swapsWith (.DictComp kx vx [⟨tg, iter, ifs, 0⟩] scope pos) (some (.Name y py)) spos.line X.env = pure true) (hi : PI X tg iter wi) (ok : BlkOk X.N X.env.scope scope own) (hg : BlkAll X scope fun Y => PG Y tg g) (ht : BlkAll X scope fun Y => PTs Y ifs tt)
    (hk : BlkAll X scope fun Y => PE Y kx tk) (he : BlkAll X scope fun Y => PE Y vx tv) (hs : ∀ x, foldedSetIterable iter X.env x = pure x := by intro _; rfl) : PS X (.Assign [.Name y py] (.DictComp kx vx [⟨tg, iter, ifs, 0⟩] scope pos) spos) (tAsg (tDc wi g tt tk tv (own.map (·.2))) (gName i)) := by
  refine ⟨fun pins s σ H D I h => ?_⟩
  rw [exec_Assign_Name_used _ _ _ _ hsw]
  refine wpAny_bind (wpAny_standAt (wpAny_bind ?_))
  show wpAny _ X.A (do let _ ← comprehension (.DictComp kx vx [⟨tg, iter, ifs, 0⟩] scope pos) scope X.env (firstIterPos [⟨tg, iter, ifs, 0⟩] pos) newDict false (eval iter X.env) (some (assign (.Name y py) X.env))) _ _ s
  have h2 : tDc wi g tt tk tv (own.map (·.2)) σ H (fun x H1 => gName i x σ H1 D.nx) := h
  refine wpAny_bind (thn (dc_core (Qf := fun _ s' => SP X pins D .next s') hc hN I hi ok hg ht hk he hs h2 fun L C s' m H' I' q hn f => ?_) fun _ s' hq => wpAny_pure (wpAny_pure hq))
  show wpAny _ _ (assign (.Name y py) X.env (.ref L)) _ _ _
  refine wpAny_assign_Name (store_ok2 (v := V.ref L) I' hN hy (.inl hyl) rfl (fun s2 I2 ⟨a, sb, ha⟩ => ?_) (.inr hyl))
  obtain ⟨f0, f1, f2, f3, f4, f5⟩ := f
  have hne : C ≠ a := ha.elim (fun z => z ▸ f1) fun z e => f4 y a z e.symm
  exact ⟨m, hn.sameBut sb hne, fun h3 sb3 => ⟨_, H', I2.turned (t' := s2.toks) (fun b o hb e => (sb3.2 b hb).trans e) f0 f1 f3 f4 f5, q⟩⟩
end
end Vw

set_option Elab.async false
set_option linter.all false
set_option maxRecDepth 100000
set_option maxHeartbeats 4000000
namespace Vw
open PySem PySem.Spec PyProof.Rows L2 HT
/-! ### t[::-1] of a tuple -/
section
variable {prog : Program} {w : World} {A : Around} {E : Value → Shared → Prop} {s : Shared}
theorem backAdjust (n : Nat) : Builtin.Slice.sliceAdjust none none (-1) (n : Int) = ((n : Int) - 1, -1) := by
  unfold Builtin.Slice.sliceAdjust
  rfl
theorem backPlaces (n : Nat) : Builtin.Slice.slicePlaces ((n : Int) - 1) (-1) (-1) = n := by
  unfold Builtin.Slice.slicePlaces
  have h1 : ¬ ((-1 : Int) > 0) := by decide
  simp only [h1, if_false]
  have e : ((n : Int) - 1 - -1 - 1) / (- -1) = (n : Int) - 1 := by
    rw [show (- -1 : Int) = 1 by decide, Int.ediv_one]
    omega
  split
  · rw [e]; omega
  · omega
theorem sliceApplied_back {sl : Addr} {vs : Value} {n : Nat} {Q : Int × Int × Nat → Shared → Prop} (hs : s.heap.IsSliceOf sl .none .none vs) (ps : IsPart vs (some (-1)))
    (h : Q (((n : Int) - 1), -1, n) s) : wpAny (model prog w) A (Builtin.Slice.sliceApplied (.ref sl) (pure (n : Int))) Q E s := by
  obtain ⟨os, hos, hcs, hds⟩ := id hs
  unfold Builtin.Slice.sliceApplied Builtin.Slice.sliceFields
  refine wpAny_bind (wpAny_bind (wpAny_field hos hds (x := .none) rfl (wpAny_bind (wpAny_field hos hds (x := .none) rfl (wpAny_bind (wpAny_field hos hds (x := vs) rfl (wpAny_pure ?_)))))))
  refine wpAny_bind (slicePart_ ps ?_)
  show wpAny _ _ (if ((-1 : Int) == 0) = true then _ else _) _ _ s
  rw [if_neg (by decide)]
  refine wpAny_bind (slicePart_none (wpAny_bind (slicePart_none (wpAny_bind (wpAny_pure ?_)))))
  show wpAny _ _ (match Builtin.Slice.sliceAdjust none none (-1) (n : Int) with | (lo, hi) => pure (lo, (-1 : Int), Builtin.Slice.slicePlaces lo hi (-1))) _ _ s
  rw [backAdjust n]
  show wpAny _ _ (pure (((n : Int) - 1), (-1 : Int), Builtin.Slice.slicePlaces ((n : Int) - 1) (-1) (-1))) _ _ s
  rw [backPlaces]
  exact wpAny_pure h
theorem pick_back (xs : Array Value) : ((List.range xs.size).filterMap fun (m : Nat) => xs[((xs.size : Int) - 1 + (m : Int) * (-1)).toNat]?).toArray = xs.toList.reverse.toArray := by
  have e : (List.range xs.size).filterMap (fun (m : Nat) => xs[((xs.size : Int) - 1 + (m : Int) * (-1)).toNat]?) = ((List.range xs.size).map fun k => xs.size - 1 - k).filterMap (xs[·]?) := by
    have e2 : (List.range xs.size).map (fun k => xs.size - 1 - k) = (List.range xs.size).map fun (m : Nat) => ((xs.size : Int) - 1 + (m : Int) * (-1)).toNat := by
      apply List.map_congr_left
      intro m hm
      have := List.mem_range.mp hm
      omega
    rw [e2, List.filterMap_map]
    rfl
  rw [e, PySem.W.krv_range, List.filterMap_reverse, PySem.W.krv_all]
theorem getItem_tuple_back {t sl : Addr} {items : Array Value} {vs : Value} {Q : Value → Shared → Prop} (ht : IsTup s.heap t items) (hs : s.heap.IsSliceOf sl .none .none vs) (ps : IsPart vs (some (-1)))
    (h : Q (.ref s.heap.objs.size) { s with heap := s.heap.push { cls := .type "tuple", data := .seq items.toList.reverse.toArray } })
    (hsz : items.size ≤ sizeLine) : wpAny (model prog w) A (getItem (.ref t) (.ref sl)) Q E s := by
  have htake : sizeOk (.seq items.toList.reverse.toArray) := by
    show items.toList.reverse.toArray.size ≤ sizeLine
    rw [List.size_toArray, List.length_reverse, Array.length_toList]
    exact hsz
  obtain ⟨os, hos, hcs, hds⟩ := id hs
  have hTs : s.TypeIs (.ref sl) "slice" := ⟨os, hos, hcs⟩
  unfold getItem
  try with_reducible refine wpAny_holding ?_
  first | refine wpAny_bind (wpAny_pure ?_) | skip
  refine wpAny_bind (wpAny_sequenceKey ht.typeIs (by decide) ?_)
  refine wpAny_bind (wpAny_callSpecial?_slot (name := Str.ofString "__getitem__") ht.typeIs PyProof.Rows.slot_tuple_getitem
    (wpAny_call_entry PyProof.Rows.slot_tuple_getitem ht.typeIs entry_tuple_getitem ?_ (args_tuple_getitem _ _)))
  show wpAny _ _ (Builtin.Tuple.tupleItemsOf (.ref t) >>= _) _ _ s
  refine wpAny_bind (tupleItemsOf_ ht ?_)
  refine wpAny_bind (wpAny_typeOf hTs ?_)
  rw [if_pos (by decide)]
  refine wpAny_bind (sliceApplied_back hs ps ?_)
  have hno : ¬ ((((items.size : Int) - 1) == 0 && (-1 : Int) == 1 && items.size == items.size) = true) := by
    intro q
    rw [Bool.and_eq_true, Bool.and_eq_true] at q
    exact absurd q.1.2 (by decide)
  show wpAny _ _ (if (((items.size : Int) - 1) == 0 && (-1 : Int) == 1 && items.size == items.size) = true then _ else _) _ _ s
  rw [if_neg hno, pick_back]
  first
    | exact wpAny_bind (m := Builtin.Tuple.tupleExact _) (wpAny_newObj_type (wpAny_pure ⟨_, rfl, wpAny_pure h⟩) htake)
    | exact wpAny_bind (m := Builtin.Tuple.tupleExact _) (wpAny_newObj_type (wpAny_bind (wpAny_pure (wpAny_pure ⟨_, rfl, wpAny_pure h⟩))) htake)
    | exact wpAny_bind (wpAny_bind (m := Builtin.Tuple.tupleExact _) (wpAny_newObj_type (wpAny_pure (wpAny_pure ⟨_, rfl, wpAny_pure h⟩)) htake))
    | exact wpAny_bind (wpAny_bind (m := Builtin.Tuple.tupleExact _) (wpAny_newObj_type (wpAny_pure ⟨_, rfl, wpAny_pure h⟩) htake))
end
section
variable {X : Cx}
def tRevT (K : PySem.W.Frag) (te : TE) : TE := fun σ H Q => te σ H fun x H1 => ∃ a xs, x = .ref a ∧ SqT K H1 a xs ∧ ∀ p, H1 p = none → Q (.ref p) (upd H1 p (.tup xs.reverse))
theorem pe_revT {K : PySem.W.Frag} {e : Expr} {te : TE} {k : Nat} {p1 p2 p3 pos : Pos} (he : PE X e te) (eK : X.K = K := by rfl) : PE X (.Subscript e (.Slice none none (some (.UnaryOp .USub (.Constant (.int 1) k p1) p2)) p3) pos) (tRevT K te) := by
  cases eK
  refine ⟨fun pins s σ H Q I h => ?_⟩
  refine Subscript_ (thn (he.run pins s σ H _ I h) fun v s1 ⟨x, H1, I1, r1, q1⟩ => ?_)
  obtain ⟨a, xs, ex, hx, q⟩ := q1
  subst ex
  cases r1
  have hst : PO X (some (.UnaryOp .USub (.Constant (.int 1) k p1) p2)) (tPart (tUn (rU fun i => .int (-i)) (tC (.int 1)))) := po_some (pe_un un_neg pe_int)
  refine wpAny_Slice (thn (po_none.run pins s1 σ H1 (fun o H2 => o = none ∧ H2 = H1) I1 ⟨rfl, rfl⟩) fun vl s2 ⟨l, H2, I2, pl, el, e2⟩ => ?_)
  subst el e2
  cases pl
  refine thn (po_none.run pins s2 σ H2 (fun o H3 => o = none ∧ H3 = H2) I2 ⟨rfl, rfl⟩) fun vu s3 ⟨u, H3, I3, pu, eu, e3⟩ => ?_
  subst eu e3
  cases pu
  refine thn (hst.run pins s3 σ H3 (fun o H4 => o = some (-1) ∧ H4 = H3) I3 ⟨1, rfl, -1, rfl, rfl, rfl⟩) fun vs s4 ⟨o, H4, I4, ps, eo, e4⟩ => ?_
  subst eo e4
  have I5 : Inv X pins σ H4 { s4 with heap := s4.heap.push { cls := .type "slice", data := .fields #[.none, .none, vs] } } := I4.kept (t' := s4.toks) fun b ob q => Heap.get?_push_of_some _ q
  obtain ⟨its, r, ht, hz⟩ := I5.tuple hx
  have hlen := r.length
  show wpAny (model X.prog X.w) X.A (subscriptTail e (.Slice none none (some (.UnaryOp .USub (.Constant (.int 1) k p1) p2)) p3) (.ref a) (.ref s4.heap.objs.size)) (EP X pins σ Q) X.xe { s4 with heap := s4.heap.push { cls := .type "slice", data := .fields #[.none, .none, vs] } }
  refine tail_any (ops := [.ref a, .ref s4.heap.objs.size]) ht.typeIs (PyProof.Rows.slot_tuple_getitem.lookup) ?_ (by with_unfolding_all rfl)
  refine getItem_tuple_back ht (Heap.IsSliceOf.new _ .none .none vs) ps ?_ (by rw [List.size_toArray]; omega)
  refine ⟨.ref _, _, I5.laid (t' := s4.toks) (o := .tup xs.reverse) (fun b ob q => Heap.get?_push_of_some _ q) (Nat.le_refl _) ?_, rfl, q _ (I5.hok.fresh (Nat.le_refl _))⟩
  exact ⟨by rw [List.length_reverse]; exact hz, _, r.reverse, IsTup.new _ _⟩
end
end Vw

set_option Elab.async false
set_option linter.all false
set_option maxRecDepth 100000
set_option maxHeartbeats 4000000
namespace Vw
open PySem PySem.Spec PyProof.Rows L2 RT
/-! ### more rules under one name -/
section
variable {X : Cx} {K : PySem.W.Frag}
theorem oAddT (e : X.K = K := by rfl) : OpR X (binaryOp .Add) (rOr rIAdd (rOr rCat (rCatA K))) := by cases e; exact oOr op_add (oOr op_cat op_catA)
theorem slA (e : X.K = K := by rfl) : SlR X (rSlA K) := by cases e; exact sl_tupA
def rLenD : List V → Hp → VK → Prop := fun xs H Q => ∃ a kvs, xs = [V.ref a] ∧ H a = some (.dK kvs) ∧ Q (.int kvs.length) H
theorem cLenD : CallR X (.builtin "len") rLenD := call_lenD
theorem piZip {e e2 : Expr} {ta : TA} {p pos tpos : Pos} {elts : List Expr} {kk : Nat} (hg : Gl X "zip") (hm : X.mg "zip" = none) (ha : PA X [e, e2] ta) (eK : X.K = K := by rfl)
    (hs : starEach [e, e2] X.env = (false, eval e X.env) :: starEach [e2] X.env := by rfl) (hb : ((backTo pos (starEach [e2] X.env)).any fun x => x.fst) = false := by rfl) :
    PI X (.Tuple elts kk tpos) (.Call (.Name "zip" p) [e, e2] [] pos) (iZip K ta) := by cases eK; exact pi_zip hg hm ha hs hb
/-- over a list or a tuple -/
def iOr (w1 w2 : TI) : TI := fun σ H R => w1 σ H R ∨ w2 σ H R
theorem piOr {tg l : Expr} {w1 w2 : TI} (h1 : PI X tg l w1) (h2 : PI X tg l w2) : PI X tg l (iOr w1 w2) := ⟨fun pins s σ H R I h => h.elim (h1.run pins s σ H R I) (h2.run pins s σ H R I)⟩
theorem piX {tg l : Expr} {tl : TE} (hl : PE X l tl) (e : X.K = K := by rfl) : PI X tg l (iOr (iList K tl) (iTup K tl)) := piOr (piL (K := K) hl e) (piT (K := K) hl e)
end
section
variable {K : PySem.W.Frag} {σ : L2.St} {H H1 : Hp} {Q : VK} {R : It → Hp → Prop} {i : Nat} {a : Addr} {xs : List V}
theorem i_orX {H0 : Hp} (hv : σ[i]? = some (some (.ref a))) (s : SqX K H0 a xs) (ss : Same H0 H) (h : ∀ J G, (∀ H', Same H0 H' → G H') → Walk J xs.length G (fun i H x H' => H' = H ∧ xs[i]? = some x) → R J H) : iOr (iList K (tVar i)) (iTup K (tVar i)) σ H R :=
  s.elim (fun s => .inl ⟨.ref a, hv, a, rfl, ⟨xs, sl_ ss s⟩, h _ _ (fun H' q => sl_ q s) walk_list⟩) fun s => .inr ⟨.ref a, hv, a, rfl, ⟨xs, st_ ss s⟩, h _ _ (fun H' q => st_ q s) walk_tup⟩
def ZpQ (K : PySem.W.Frag) (R : It → Hp → Prop) (vs : List V) (H1 : Hp) : Prop := ∃ a b xs ys, vs = [V.ref a, V.ref b] ∧ SqL K H1 a xs ∧ SqL K H1 b ys ∧ R (Itz K a b) H1
theorem i_zip0 {ta : TA} (h : ta σ H fun vs H1 => ZpQ K R vs H1) : iZip K ta σ H R := h
theorem i_zip {b : Addr} {ys : List V} (h1 : SqL K H a xs) (h2 : SqL K H b ys) (q : R (Itz K a b) H) : ZpQ K R [.ref a, .ref b] H := ⟨a, b, xs, ys, rfl, h1, h2, q⟩
theorem e_lenD {kvs : List (Key × V)} (h : H a = some (.dK kvs)) (q : Q (.int (kvs.length : Nat)) H) : rLenD [.ref a] H Q := ⟨a, kvs, rfl, h, q⟩
theorem o_catA {r r' : R2} {b : Addr} {ys : List V} (h1 : SqT K H a xs) (h2 : SqT K H b ys) (hl : xs.length + ys.length ≤ 100000) (q : ∀ p H2, Same H H2 → SqT K H2 p (xs ++ ys) → Q (.ref p) H2) : rOr r (rOr r' (rCatA K)) (.ref a) (.ref b) H Q := by
  refine .inr (.inr ⟨a, b, xs, ys, rfl, rfl, h1, h2, Nat.le_trans hl (by decide), fun e => ?_, fun _ e => ?_, fun _ _ p n => ?_⟩)
  · subst e; exact q b H (Same.refl _) h2
  · subst e; exact q a H (Same.refl _) (by rw [List.append_nil]; exact h1)
  · exact q p _ (Same.new n) (stO upd_same)
theorem r_slA {lo hi : Option Int} (h1 : SqT K H a xs) (q : ∀ p H2 ys, Same H H2 → SqT K H2 p ys → ys.length ≤ xs.length → (∀ y ∈ ys, y ∈ xs) → Q (.ref p) H2) : rSlA K (.ref a) lo hi H Q := by
  refine ⟨a, xs, rfl, h1, fun _ => q a H xs (Same.refl _) h1 (Nat.le_refl _) fun _ h => h, fun _ p n => q p _ _ (Same.new n) (stO upd_same) ?_ ?_⟩
  · exact cutV_length xs lo hi
  · have key : ∀ a b : Nat, ∀ y ∈ (xs.drop a).take b, y ∈ xs := fun a b y hy => List.mem_of_mem_drop (List.mem_of_mem_take hy)
    exact key _ _
theorem e_revT {te : TE} (h : te σ H fun x H1 => ∃ a xs, x = .ref a ∧ SqT K H1 a xs ∧ NewQ (.tup xs.reverse) H1 Q) : tRevT K te σ H Q := h
theorem r_revT {Q : VK} (s : SqT K H a xs) (q : NewQ (.tup xs.reverse) H Q) : ∃ a' xs, V.ref a = .ref a' ∧ SqT K H a' xs ∧ NewQ (.tup xs.reverse) H Q := ⟨a, xs, rfl, s, q⟩
theorem isB_bl {x y : Bool} (q : Q (.bl (decide (x = y))) H) : rIsB (.bl x) (.bl y) H Q := ⟨x, y, rfl, rfl, q⟩
theorem notB_bl {x y : Bool} (q : Q (.bl (!decide (x = y))) H) : rNotB (.bl x) (.bl y) H Q := ⟨x, y, rfl, rfl, q⟩
theorem o_neB {r' : R2} {x y : Bool} (q : Q (.bl (!decide (x = y))) H) : rOr rNe r' (.bl x) (.bl y) H Q := .inl ⟨rfl, by
  have e : (!decide (V.bl x = V.bl y)) = !decide (x = y) := by
    cases x <;> cases y <;> rfl
  rw [e]; exact q⟩
theorem isi_dk {kvs : List (Key × V)} {n : String} (b : Bool) (h : H a = some (.dK kvs)) (e : kitB "dict" n = some b) (q : Q (.bl b) H) : rIsi K [.ref a, .ty n] H Q := isi_ (.base (.dK h)) e q
theorem e_dnew (q : ∀ p H2, H p = none → Same H H2 → H2 p = some (.dK []) → Q (.ref p) H2) : tDNewK σ H Q := fun p n => q p _ n (Same.new n) upd_same
theorem e_disp1 {i j : Int} (q : ∀ p H2, H p = none → Same H H2 → H2 p = some (.dK [(Sum.inl i, .int j)]) → Q (.ref p) H2) : tDisp [(tC (.int i), tC (.int j))] σ H Q := fun p n =>
  ⟨upd_same, [(Sum.inl i, .int j)], rfl, by show 1 ≤ 15; decide, q p _ n (upd_free (Same.new n) n) upd_same⟩
theorem i_nrr {r : Bool} {A B : Prop} (q : B) : if (!decide (r = r)) = true then A else B := by
  rw [show (!decide (r = r)) = false by simp]
  exact iteF q
end
end Vw

set_option Elab.async false
set_option linter.all false
set_option maxRecDepth 100000
set_option maxHeartbeats 4000000
namespace Vw
open PySem PySem.Spec PyProof.Rows L2 RT
/-! ### own classes and their methods -/
structure ClsAt (K : PySem.W.Frag) (mg : Str → Option Value) (x : Str) (C : Addr) : Prop where
  cl : Cls K C
  mks : PySem.W.makesIn K C = true
  kc : PySem.W.keepIn K (.ref C) = true
  g : mg x = some (.ref C)
theorem clsAt_mk {K : PySem.W.Frag} {mg : Str → Option Value} {h : Heap} {x : Str} {C : Addr} (X : K.In h) (G : h.Ns mainGlobals mg) (a : PySem.W.nsIn K mainGlobals x = some (some (.ref C)))
    (pg : PySem.W.plainGet K C Str.empty = true) (hd : PySem.W.hasDictIn K C = true) (po : PySem.W.plainOver K C = true) (sa : PySem.W.findIn K (.ref C) "__setattr__" = some (some (.builtin "object.__setattr__")))
    (mk : PySem.W.makesIn K C = true) (kc : PySem.W.keepIn K (.ref C) = true) : ClsAt K mg x C := ⟨⟨pg, hd, po, sa⟩, mk, kc, PySem.W.mg_of X G a⟩
structure MethAt (K : PySem.W.Frag) (C : Addr) (m qual : Str) (st : Stmt) (ps : List Str) where
  f : Addr
  fd : FuncData
  F : Fun K m qual st f fd
  b : Binds K fd ps []
  i : Meth K C m f
def methAt_mk {K : PySem.W.Frag} {C : Addr} {m qual : Str} {st : Stmt} {ps : List Str} {f : Addr} {od an : Option Addr} {sl : Array (Option Value)} {oc kV dc pm cd ct : Value}
    (a : PySem.W.findIn K (.ref C) m = some (some (.ref f))) (i : PySem.W.isFn K (.ref f) = true) (l : K.lookup f = some ⟨oc, od, .func (PySem.W.fnOf m qual (defArgs st) (defBody st) (defScope st) .none kV dc pm an cd ct), sl⟩) (c : PySem.W.codeIn K cd qual = true) (k : PySem.W.keepIn K (.ref f) = true)
    (b : ∀ (kV doc pm : Value) (an : Option Addr) (cdv ct : Value) (us : List Value), us.length = ps.length → bindArgs (PySem.W.fnOf m qual (defArgs st) (defBody st) (defScope st) .none kV doc pm an cdv ct) ⟨us, []⟩ = pure (ps.zip us)) : MethAt K C m qual st ps :=
  ⟨f, _, fun_mk l c k, (fun_mk (st := st) l c k).binds b, ⟨a, i, k⟩⟩
theorem MethAt.made {K : PySem.W.Frag} {mg : Str → Option Value} {x qual : Str} {C : Addr} {st : Stmt} {ps : List Str} (A : ClsAt K mg x C) (M : MethAt K C "__init__" qual st ps) : Mk K C M.f := ⟨A.mks, M.i.at_, M.i.fn, A.kc⟩
/-- an own instance at p, its fields -/
def InsAt (C : Addr) (H : Hp) (p : Addr) (fs : List (Str × V)) : Prop := ∃ dx, H p = some (.ins C dx fs)
section
variable {K : PySem.W.Frag} {σ : L2.St} {H : Hp} {Q : VK} {ta : TE} {C p : Addr} {fs : List (Str × V)} {f : Str} {v : V}
def FldQ (K : PySem.W.Frag) (f : Str) (x : V) (H1 : Hp) (Q : VK) : Prop := ∃ p C dx fs v, x = .ref p ∧ H1 p = some (.ins C dx fs) ∧ Cls K C ∧ NoAttr K C f ∧ fs.lookup f = some v ∧ Q v H1
theorem e_fld (h : ta σ H fun x H1 => FldQ K f x H1 Q) : tFld K ta f σ H Q := h
theorem o_fld (h : InsAt C H p fs) (cl : Cls K C) (na : NoAttr K C f) (e : fs.lookup f = some v) (q : Q v H) : FldQ K f (.ref p) H Q := h.elim fun dx h => ⟨p, C, dx, fs, v, rfl, h, cl, na, e, q⟩
end
section
variable {K : PySem.W.Frag} {σ : L2.St} {H : Hp} {Q : VK} {ta tv : TE} {C p : Addr} {fs : List (Str × V)} {m f : Str} {v y : V} {D : Ends}
def MethQ (C : Addr) (m : Str) (sp : Sp) (dvs : List V) (E : XK) (t : TA) (σ : L2.St) (x : V) (H1 : Hp) (Q : VK) : Prop := ∃ a dx fs, x = .ref a ∧ H1 a = some (.ins C dx fs) ∧ fs.lookup m = none ∧ t σ H1 fun vs H2 => sp (x :: (vs ++ dvs)) H2 Q E
theorem e_meth {sp : Sp} {dvs : List V} {E : XK} {t : TA} (h : ta σ H fun x H1 => MethQ C m sp dvs E t σ x H1 Q) : tMeth C m sp dvs E ta t σ H Q := h
theorem m_call0 {sp : Sp} {dvs : List V} {E : XK} {t : TA} (h : InsAt C H p fs) (e : fs.lookup m = none) (q : t σ H fun vs H2 => sp (.ref p :: (vs ++ dvs)) H2 Q E) : MethQ C m sp dvs E t σ (.ref p) H Q := h.elim fun dx h => ⟨p, dx, fs, rfl, h, e, q⟩
def SetQ (K : PySem.W.Frag) (f : Str) (y x : V) (H2 : Hp) (R : Hp → Prop) : Prop := ∃ a C dx fs, x = .ref a ∧ H2 a = some (.ins C dx fs) ∧ Cls K C ∧ NoAttr K C f ∧ fs.length < 1000 ∧ R (upd H2 a (.ins C dx (putF f y fs)))
theorem s_setf (h : tv σ H fun y H1 => ta σ H1 fun x H2 => SetQ K f y x H2 fun H3 => D.nx σ H3) : sFld K ta tv f D σ H := h
theorem s_fld {dx : Addr} {R : Hp → Prop} {x : V} (ex : x = .ref p) (h : H p = some (.ins C dx fs)) (cl : Cls K C) (na : NoAttr K C f) (l : fs.length < 1000) (q : R (upd H p (.ins C dx (putF f y fs)))) : SetQ K f y x H R := ⟨p, C, dx, fs, ex, h, cl, na, l, q⟩
end
section
variable {K : PySem.W.Frag} {σ : L2.St} {H : Hp} {Q : VK} {td ty : TE} {d : Addr} {kvs : List (Key × V)} {k : Key} {v : V}
def DgQ (x y : V) (H2 : Hp) (Q : VK) : Prop := ∃ a v, x = .ref a ∧ DGet H2 a y (some v) ∧ Q v H2
theorem e_dget (h : td σ H fun x H1 => ty σ H1 fun y H2 => DgQ x y H2 Q) : tDGet td ty σ H Q := h
theorem o_dget (h : H d = some (.dK kvs)) (e : valV kvs k = some v) (q : Q v H) : DgQ (.ref d) (kV k) H Q := ⟨d, v, rfl, e ▸ DGet.k h, q⟩
end
section
variable {X : Cx} {K : PySem.W.Frag} {e o value : Expr} {f : Str} {pos pos' : Pos} {ta tv : TE}
theorem peFld (h : PE X e ta) (hb : attributeBase e f X.env (eval e X.env) = eval e X.env) (eK : X.K = K := by rfl) : PE X (.Attribute e f pos) (tFld K ta f) := by cases eK; exact pe_fld h hb
theorem psFld (ho : PE X o ta) (hv : PE X value tv) (hs : swapsWith value (some (.Attribute o f pos')) pos.line X.env = pure false) (eK : X.K = K := by rfl) : PS X (.Assign [.Attribute o f pos'] value pos) (sFld K ta tv f) := by cases eK; exact ps_fld ho hv hs
end
theorem oth_stI {K : PySem.W.Frag} {p a C dx : Addr} {H H' : Hp} {fs : List (Str × V)} {xs : List V} (o : Oth p H H') (n : H p = some (.ins C dx fs)) (s : SqT K H a xs) : SqT K H' a xs := by
  rcases s with (s | ⟨u, s⟩) | s
  · exact .inl (.inl (o _ _ (fun z => by rw [z, n] at s; cases s) s))
  · exact .inl (.inr ⟨u, o _ _ (fun z => by rw [z, n] at s; cases s) s⟩)
  · exact .inr s
section
variable {K : PySem.W.Frag} {σ : L2.St} {H : Hp} {Q : VK} {td ty tx : TE} {d : Addr} {kvs : List (Key × V)} {k : Key} {v z : V}
def SdQ (x : V) (H1 : Hp) (R : Addr → Prop) : Prop := ∃ a, x = .ref a ∧ IsD H1 a ∧ R a
def SeQ (a : Addr) (y z : V) (H3 : Hp) (Q : VK) : Prop := ∃ (kvs : List (Key × V)) (k : Key), H3 a = some (.dK kvs) ∧ y = kV k ∧ kvs.length < sizeLine ∧ (∀ v, valV kvs k = some v → Q v H3) ∧ (valV kvs k = none → Q z (upd H3 a (.dK (putK kvs k z))))
theorem e_dsetd (h : td σ H fun x H1 => SdQ x H1 fun a => ty σ H1 fun y H2 => tx σ H2 fun z H3 => SeQ a y z H3 Q) : tDSetd td ty tx σ H Q := h
theorem o_dsetd {R : Addr → Prop} (h : H d = some (.dK kvs)) (q : R d) : SdQ (.ref d) H R := ⟨d, rfl, .inl ⟨kvs, .inl h⟩, q⟩
theorem o_dset (h : H d = some (.dK kvs)) (l : kvs.length < 100000) (q1 : ∀ v, valV kvs k = some v → Q v H) (q2 : valV kvs k = none → Q z (upd H d (.dK (putK kvs k z)))) : SeQ d (kV k) z H Q := ⟨kvs, k, h, rfl, lt_size l, q1, q2⟩
end
/-! ### texts -/
def rTx (g : Str → Bool) : V → List V → Hp → VK → Prop := fun x xs H Q => ∃ a, x = .str a ∧ xs = [] ∧ True ∧ Q (.bl (g a)) H
section
variable {X : Cx} {K : PySem.W.Frag} {o : Expr} {to : TE} {apos cpos : Pos}
theorem peIsascii (ho : PE X o to) (hbase : attributeBase o "isascii" X.env (eval o X.env) = eval o X.env := by rfl) (hline : (apos.endLine == cpos.line) = true := by rfl) (eK : X.K = K := by rfl) : PE X (.Call (.Attribute o "isascii" apos) [] [] cpos) (tBM0 K "str" (rTx Txt.isascii) to) := by
  cases eK; exact pe_bm0 PySem.F.plainAttrs_str PySem.F.slot_str_isascii PySem.F.type_str_isascii mt_isascii ho hbase hline
theorem peIsalpha (ho : PE X o to) (hbase : attributeBase o "isalpha" X.env (eval o X.env) = eval o X.env := by rfl) (hline : (apos.endLine == cpos.line) = true := by rfl) (eK : X.K = K := by rfl) : PE X (.Call (.Attribute o "isalpha" apos) [] [] cpos) (tBM0 K "str" (rTx Txt.isalpha) to) := by
  cases eK; exact pe_bm0 PySem.F.plainAttrs_str PySem.F.slot_str_isalpha PySem.F.type_str_isalpha mt_isalpha ho hbase hline
theorem peIslower (ho : PE X o to) (hbase : attributeBase o "islower" X.env (eval o X.env) = eval o X.env := by rfl) (hline : (apos.endLine == cpos.line) = true := by rfl) (eK : X.K = K := by rfl) : PE X (.Call (.Attribute o "islower" apos) [] [] cpos) (tBM0 K "str" (rTx Txt.islower) to) := by
  cases eK; exact pe_bm0 PySem.F.plainAttrs_str PySem.F.slot_str_islower PySem.F.type_str_islower mt_islower ho hbase hline
end
section
variable {K : PySem.W.Frag} {σ : L2.St} {H : Hp} {Q : VK} {to : TE} {z y : Str} {r' : R2}
theorem e_bm0 {T : String} {r : V → List V → Hp → VK → Prop} (h : to σ H fun x H1 => tyV K T x H1 ∧ r x [] H1 Q) : tBM0 K T r to σ H Q := h
theorem r_tx {g : Str → Bool} (q : Q (.bl (g z)) H) : tyV K "str" (.str z) H ∧ rTx g (.str z) [] H Q := ⟨rfl, z, rfl, rfl, trivial, q⟩
theorem e_lenS (h : z.length ≤ 100000) (q : Q (.int (z.length : Nat)) H) : rLen' K [.str z] H Q := ⟨.str z, z.length, rfl, ⟨Nat.le_trans h (by decide), rfl⟩, q⟩
theorem o_eqStr (q : Q (.bl (decide (z = y))) H) : rOr rEq r' (.str z) (.str y) H Q := .inl ⟨rfl, by
  have e : decide (V.str z = V.str y) = decide (z = y) := by
    by_cases h : z = y
    · rw [decide_eq_true h, h]; exact decide_eq_true rfl
    · rw [decide_eq_false h]; exact decide_eq_false fun q => h (V.str.inj q)
  rw [e]; exact q⟩
theorem o_neStr (q : Q (.bl (decide (z ≠ y))) H) : rOr rNe r' (.str z) (.str y) H Q := .inl ⟨rfl, by
  have e : (!decide (V.str z = V.str y)) = decide (z ≠ y) := by
    by_cases h : z = y
    · rw [decide_eq_false (show ¬ z ≠ y from fun q => q h), h, decide_eq_true rfl]; rfl
    · rw [decide_eq_true (show z ≠ y from h), decide_eq_false fun q => h (V.str.inj q)]; rfl
  rw [e]; exact q⟩
end
theorem e_dnin {σ : L2.St} {H : Hp} {Q : VK} {ty td : TE} (h : ty σ H fun y H1 => td σ H1 fun x H2 => ∃ a o, x = .ref a ∧ DGet H2 a y o ∧ Q (.bl (!o.isSome)) H2) : tDNotIn ty td σ H Q := h
theorem while_m {c : TT} {t : TS} {D : Ends} {σ : L2.St} {H : Hp} (W : Nat → L2.St → Hp → Prop) (m0 : Nat) (h0 : W m0 σ H) (hs : ∀ m σ H, W m σ H → c σ H fun b H1 => if b = true then ∃ N : L2.St → Hp → Prop, (∀ σ' H', N σ' H' → ∃ m', m' < m ∧ W m' σ' H') ∧ t { D with nx := N, ct := N, bk := D.nx } σ H1 else D.nx σ H1) : tWhile c t D σ H := ⟨W, ⟨m0, h0⟩, hs⟩
end Vw

set_option Elab.async false
set_option linter.all false
set_option maxRecDepth 100000
set_option maxHeartbeats 4000000
namespace Vw
open PySem PySem.Spec PyProof.Rows L2 RT
/-! ### an own exception without fields, made by C(), its __init__ inherited and walked as a def -/
theorem mk_endN {X : Cx} {pins : List (Addr × Obj)} {σ : L2.St} {H1 : Hp} {Q : XK} {hp hp2 h2 : Heap} {g1 g2 : Array GenState} {d1 d2 : Drawn} {t1 t2 : Nat} {os1 os2 : OsState} {a C : Addr} (T : Raises X (.ref C)) (I1 : Inv X pins σ H1 ⟨hp, g1, d1, t1, os1⟩)
    (ha : hp.objs.size ≤ a) (k : ∀ b o, hp.get? b = some o → hp2.get? b = some o) (un : Un (frs X.stack) [] (upd H1 a (exo a C none)) (upd H1 a (exo a C none)) hp2 h2) (hok : HOk X.prog X.w (upd H1 a (exo a C none)) h2) (ho : os2 = os1) (hb : AllBare g2)
    (q : Q (.ref C) none H1) : MkP X pins σ Q (.ref a) ⟨h2, g2, d2, t2, os2⟩ := by
  obtain ⟨t0, hoe⟩ := exo_at hok (upd_same : upd H1 a (exo a C none) a = some (exo a C none))
  have hn : H1 a = none := I1.hok.fresh ha
  obtain ⟨G, g1', g2'⟩ := restrict h2 fun b => decide (b ≠ a)
  have gk : ∀ b, b ≠ a → G.get? b = h2.get? b := fun b hb => g1' b (decide_eq_true hb)
  have ge : G.get? a = none := g2' a (by simp)
  have nha : ∀ {b : Addr} {o : Obj}, hp.get? b = some o → b ≠ a := fun {b o} z => Nat.ne_of_lt (Nat.lt_of_lt_of_le (Heap.lt_size z) ha)
  have up : ∀ {b : Addr}, b ≠ a → H1 b = none → upd H1 a (exo a C none) b = none := fun {b} hb n => by rw [upd_ne hb]; exact n
  have U : Un (frs X.stack) [] H1 H1 hp G := {
    keep := fun b o z n hf hx => by
      rw [gk b (nha z)]
      exact un.keep b o (k b o z) (up (nha z) n) hf hx
    slot := fun b o z n hf hx => by
      rw [gk b (nha z)]
      exact un.slot b o (k b o z) (up (nha z) n) hf hx
    free := fun b o z n hx => n
    there := fun b o z hx => by
      rw [gk b (nha z)]
      exact un.there b o (k b o z) hx
    tups := fun b xs z => z
    frzs := fun b o v z => z
    tbls := fun b ps z => ⟨#[], by rw [Array.append_empty]; exact z⟩ }
  have ea : upd H1 a (exo a C none) a = some (exo a C none) := upd_same
  have hok3 : HOk X.prog X.w H1 G := fun b o z => by
    have hba : b ≠ a := fun e => by
      rw [e, hn] at z
      cases z
    have noa : ∀ {c : Addr}, upd H1 a (exo a C none) c = some (.own b) → c ≠ a := fun {c} hc => at_ne ea hc exo_own
    exact (hok b o (by rw [upd_ne hba]; exact z)).stay (fun c v hc y => by
        have hca : c ≠ a := by
          rcases hc with hc | hc
          · rw [hc]
            exact hba
          · exact noa hc
        rw [gk c hca]
        exact y)
      (fun c hc => by rw [upd_ne (noa hc)] at hc; exact hc) (fun c xs hc => by rw [upd_ne (at_ne ea hc exo_tup)] at hc; exact hc)
  have J : Inv X pins σ H1 ⟨G, g2, d2, t2, os2⟩ := I1.call' (ch := []) ho U hok3 hb (fun b z => absurd z (by simp))
  refine ⟨a, _, _, ⟨G, g2, d2, t2, os2⟩, _, .ref C, none, rfl, J, fun b o z => ?_, ge, hoe, ⟨rfl, rfl⟩, rfl, rfl, hn, rfl, hb, T, q⟩
  by_cases hba : b = a
  · rw [hba, ge] at z
    cases z
  · exact (gk b hba).symm.trans z
/-- C(), its __init__ keeping sp, which leaves the exception as it is -/
def tMkN (C : Addr) (sp : Sp) : L2.St → Hp → XK → Prop := fun σ H Q => ∀ a, H a = none → sp [.ref a] (upd H a (exo a C none))
  (fun v H2 => v = .non ∧ H2 = upd H a (exo a C none) ∧ Q (.ref C) none H) (fun _ _ _ => False)
section
variable {X : Cx}
theorem pmk_oexN {CX : CXT} {x : Str} {C fI : Addr} {k : Nat} {fd : FuncData} {ps : List Str} {sp : Sp} {p pos : Pos} (T : OexC X.K C) (iC : PySem.W.findIn X.K (.ref C) "__init__" = some (some (.ref fI))) (tI : PySem.W.typeIn X.K (.ref fI) = some (.type "function"))
    (F1 : FnOk X.prog X.w X.K X.mg X.base CX k fI fd ps sp) (hr : Room (k + 1) X.A) (hb : Binds X.K fd ps []) (hx : Passes CX X (fun _ _ _ => False)) (hg : Gl X x) (hm : X.mg x = some (.ref C))
    (hdb : (x == ("__debug__" : Str)) = false := by decide) :
    PMk X (.Call (.Name x p) [] [] pos) (tMkN C sp) := by
  intro pins s σ H Q I h
  obtain ⟨nm, q, N, bs, bm, sn, sub, ab, col, dd, k0, k1, k2, k3, k5, hC, hbm⟩ := T.cls
  refine wpAny_Call_Name_kw (ld_glob I hg hm ?_ hdb)
  refine PySem.W.callWith_K0 I.kIn T.kC ?_
  show wpAny _ _ (call (.ref C) []) _ _ _
  obtain ⟨hp, g, dr, tk, os⟩ := s
  have hsz : hp.objs.size ≤ hp.objs.size + 1 := Nat.le_succ _
  have hn : H (hp.objs.size + 1) = none := I.hok.fresh hsz
  have hq := h (hp.objs.size + 1) hn
  have kk : ∀ b o, hp.get? b = some o → ((hp.push (PySem.W.kdv_tup [])).push (PySem.HandSPX.excO C hp.objs.size)).get? b = some o := fun b o e => Heap.get?_push_of_some _ (Heap.get?_push_of_some _ e)
  have hget : ((hp.push (PySem.W.kdv_tup [])).push (PySem.HandSPX.excO C hp.objs.size)).get? (hp.objs.size + 1) = some (PySem.HandSPX.excO C hp.objs.size) := by heap_get
  have I2 : Inv X pins σ (upd H (hp.objs.size + 1) (exo (hp.objs.size + 1) C none)) ⟨(hp.push (PySem.W.kdv_tup [])).push (PySem.HandSPX.excO C hp.objs.size), g, dr, tk, os⟩ :=
    I.laid (t' := tk) (a := hp.objs.size + 1) (o := exo (hp.objs.size + 1) C none) (h' := (hp.push (PySem.W.kdv_tup [])).push (PySem.HandSPX.excO C hp.objs.size)) kk hsz (exo_ok hget)
  have r2 : Vals [V.ref (hp.objs.size + 1)] [Value.ref (hp.objs.size + 1)] := .cons rfl .nil
  have hl : ([Value.ref (hp.objs.size + 1)] : List Value).length = ps.length := by
    have e := r2.length
    rw [F1.len _ _ _ _ hq] at e
    exact e.symm
  have bd := hb _ [Value.ref (hp.objs.size + 1)] I2.kIn (by rw [List.append_nil]; exact hl)
  rw [List.append_nil] at bd
  refine wpAny_call (PySem.HandSPX.call_own F.excBase_ValueError (fun Y => PySem.HandSPX.refsVE_contains Y bm hbm) (I.kIn _ _ hC) (PySem.W.looks_findIn I.kIn iC) (fun self => PySem.W.bind_fn I.kIn self tI) (Nat.zero_le _)
    (codeAny_mono (F1.run _ X.stack _ _ ⟨[Value.ref (hp.objs.size + 1)], []⟩ [Value.ref (hp.objs.size + 1)] _ _ (fun _ _ _ => False) (hr.make C [] []) (I2.env0.make C [] []) bd r2 hq) fun r s' hq' => ?_))
  cases r with
  | error er => exact hx pins σ _ _ er s' I2 hq'
  | ok fl =>
    cases fl with
    | ret u =>
      obtain ⟨v, H2, os2, bare2, un2, hok2, rv, ev, eH, q2⟩ := hq'
      subst ev
      subst eH
      obtain ⟨h2, g2, d2, t2, os'⟩ := s'
      exact ⟨rv, mk_endN (raises_own T.exC T.tyC) I hsz kk un2 hok2 os2 bare2 q2⟩
    | next => exact False.elim hq'
    | brk => exact False.elim hq'
    | cont => exact False.elim hq'
end
/-! ### methods of own instances called where a try is around -/
section
variable {X : Cx} {CX : CXT} {k : Nat} {C f : Addr} {fd : FuncData} {ps : List Str} {sp : Sp} {E : L2.St → XK} {m : Str} {p apos pos : Pos} {e o : Expr} {es : List Expr} {ta : TE} {t : TA}
def tMethE (C : Addr) (m : Str) (sp : Sp) (E : L2.St → XK) (to : TE) (t : TA) : TE := fun σ H Q => to σ H fun x H1 => ∃ a dx fs, x = .ref a ∧ H1 a = some (.ins C dx fs) ∧ fs.lookup m = none ∧ t σ H1 fun vs H2 => sp (x :: vs) H2 Q (E σ)
theorem pe_methE {pl : Sem Bool} (he : PE X o ta) (c : Cls X.K C) (hm : Meth X.K C m f) (F : FnOk X.prog X.w X.K X.mg X.base CX k f fd ps sp) (hr : Room k X.A) (hb : Binds X.K fd ps []) (hx : ∀ σ, PassesAt CX X σ (E σ)) (ha : PA X (e :: es) t)
    (hst : starEach (e :: es) X.env = (false, eval e X.env) :: starEach es X.env := by rfl) (hpl : (backTo pos (starEach es X.env)).any (·.1) = false := by rfl)
    (ht : eval (.Call (.Attribute o m apos) (e :: es) [] pos) X.env = (do
      let ov ← eval o X.env
      standAt apos.atName
      let (f, first) ← holding [ov] (getMethod ov m pl)
      callWith pos f first (backTo pos (starEach (e :: es) X.env)) (backToKw pos (keywordEach [] X.env))) := by rfl) :
    PE X (.Call (.Attribute o m apos) (e :: es) [] pos) (tMethE C m sp E ta t) := by
  refine ⟨fun pins s σ H Q I h => ?_⟩
  refine PySem.W.methodCall_KW (pl := pl) (thn (he.run pins s σ H _ I h) fun u s1 ⟨x, H1, I1, rx, a, dx, fs, ex, ea, l, q⟩ => ?_) ht
  subst ex
  obtain rfl : u = Value.ref a := rx
  refine getmeth_ok I1 ea c hm l ?_
  refine PySem.W.callWith_K (first := [.ref a]) (h₀ := X.base) I.ok.mod.kin hm.kp (thn (ha.run pos pins s1 σ H1 _ I1 q) fun us s2 ⟨vs, H2, I2, r, q2⟩ => ⟨I2.kIn, ?_⟩) hst hpl
  exact run_fnS (us := .ref a :: us) (vs := .ref a :: vs) F hr hb (hx σ) I2 (.cons rfl r) q2
theorem pe_methE0 {pl : Sem Bool} (he : PE X o ta) (c : Cls X.K C) (hm : Meth X.K C m f) (F : FnOk X.prog X.w X.K X.mg X.base CX k f fd ps sp) (hr : Room k X.A) (hb : Binds X.K fd ps []) (hx : ∀ σ, PassesAt CX X σ (E σ))
    (ht : eval (.Call (.Attribute o m apos) [] [] pos) X.env = (do
      let ov ← eval o X.env
      standAt apos.atName
      let (f, first) ← holding [ov] (getMethod ov m pl)
      callWith pos f first (backTo pos (starEach [] X.env)) (backToKw pos (keywordEach [] X.env))) := by rfl) :
    PE X (.Call (.Attribute o m apos) [] [] pos) (tMethE C m sp E ta tNil) := by
  refine ⟨fun pins s σ H Q I h => ?_⟩
  refine PySem.W.methodCall_KW (pl := pl) (thn (he.run pins s σ H _ I h) fun u s1 ⟨x, H1, I1, rx, a, dx, fs, ex, ea, l, q⟩ => ?_) ht
  subst ex
  obtain rfl : u = Value.ref a := rx
  refine getmeth_ok I1 ea c hm l ?_
  exact PySem.W.callWith_K0 (first := [.ref a]) I1.kIn hm.kp (run_fnS (us := [.ref a]) (vs := [.ref a]) F hr hb (hx σ) I1 (.cons rfl .nil) q)
end

/-! ### the facts of an own error class of the text -/
structure InitAt (K : PySem.W.Frag) (m qual : Str) (st : Stmt) (ps : List Str) where
  f : Addr
  fd : FuncData
  F : Fun K m qual st f fd
  b : Binds K fd ps []
structure ExcAt (K : PySem.W.Frag) (mg : Str → Option Value) (x : Str) (fI : Addr) where
  C : Addr
  g : mg x = some (.ref C)
  o : OexC K C
  i : PySem.W.findIn K (.ref C) "__init__" = some (some (.ref fI))
  t : PySem.W.typeIn K (.ref fI) = some (.type "function")
  te : PySem.W.exmOne K (.ref C) (.ref C) = some true
def initAt_mk {K : PySem.W.Frag} {m qual : Str} {st : Stmt} {ps : List Str} {f : Addr} {od an : Option Addr} {sl : Array (Option Value)} {oc kV dc pm cd ct : Value}
    (l : K.lookup f = some ⟨oc, od, .func (PySem.W.fnOf m qual (defArgs st) (defBody st) (defScope st) .none kV dc pm an cd ct), sl⟩) (c : PySem.W.codeIn K cd qual = true) (k : PySem.W.keepIn K (.ref f) = true)
    (b : ∀ (kV doc pm : Value) (an : Option Addr) (cdv ct : Value) (us : List Value), us.length = ps.length → bindArgs (PySem.W.fnOf m qual (defArgs st) (defBody st) (defScope st) .none kV doc pm an cdv ct) ⟨us, []⟩ = pure (ps.zip us)) : InitAt K m qual st ps :=
  ⟨f, _, fun_mk l c k, (fun_mk (st := st) l c k).binds b⟩
theorem exm_self {K : PySem.W.Frag} {S : Addr} (b : PySem.W.subIn K (.ref S) (.type "BaseException") = some true) (i : PySem.W.isClsIn K S = true) (t : PySem.W.typeIn K (.ref S) = some (.type "type")) (s : PySem.W.subIn K (.ref S) (.ref S) = some true) : PySem.W.exmOne K (.ref S) (.ref S) = some true := by
  unfold PySem.W.isClsIn at i
  unfold PySem.W.exmOne PySem.W.kitCls
  simp [b, i, t, s]
def excAt_mk {K : PySem.W.Frag} {mg : Str → Option Value} {h : Heap} {x : Str} {C fI f1 : Addr} {nm q : Str} {N : Addr} {bs bm : List Value} {sn : List Str} {sub : List Value} {ab : Bool} {col : Option Bool} {dd : Option Addr} {k0 k1 k2 k3 k5 : Option Value} (X : K.In h) (G : h.Ns mainGlobals mg) (a : PySem.W.nsIn K mainGlobals x = some (some (.ref C)))
    (l : K.lookup C = some (excClassObj nm q C N bs bm true sn sub ab col dd k0 k1 k2 k3 k5 "ValueError.__new__")) (hb : PySem.HandSPX.refsVE bm = true)
    (sa : PySem.W.findIn K (.ref C) "__setattr__" = some (some (.builtin "object.__setattr__"))) (exC : PySem.W.subIn K (.ref C) (.type "BaseException") = some true) (tyC : PySem.W.typeIn K (.ref C) = some (.type "type")) (kC : PySem.W.keepIn K (.ref C) = true)
    (i : PySem.W.findIn K (.ref C) "__init__" = some (some (.ref f1))) (t : PySem.W.typeIn K (.ref f1) = some (.type "function")) (hf : f1 = fI) (ic : PySem.W.isClsIn K C = true) (sc : PySem.W.subIn K (.ref C) (.ref C) = some true) : ExcAt K mg x fI :=
  ⟨C, PySem.W.mg_of X G a, ⟨⟨nm, q, N, bs, bm, sn, sub, ab, col, dd, k0, k1, k2, k3, k5, l, hb⟩, sa, exC, tyC, kC⟩, hf ▸ i, hf ▸ t, exm_self exC ic tyC sc⟩
def sp_exc_init (K : PySem.W.Frag) : Sp := fun vs H Q _ => ∃ a C, vs = [.ref a] ∧ OexC K C ∧ H a = some (exo a C none) ∧ Q .non H
theorem e_raise {C : Addr} {K : PySem.W.Frag} {σ : L2.St} {H : Hp} {Q : XK} (o : OexC K C) (q : Q (.ref C) none H) : tMkN C (sp_exc_init K) σ H Q := fun a na => ⟨a, C, rfl, o, upd_same, rfl, rfl, q⟩
theorem noAttr_mk {K : PySem.W.Frag} {C : Addr} {f : Str} (h : PySem.W.findIn K (.ref C) f = some none) : NoAttr K C f := h
end Vw

set_option Elab.async false
set_option linter.all false
set_option maxRecDepth 100000
set_option maxHeartbeats 4000000
namespace Vw
open PySem PySem.Spec PyProof.Rows L2 RT
section
variable {K : PySem.W.Frag} {σ : L2.St} {H : Hp} {Q : VK} {D : Ends} {td ty tx tv : TE} {d : Addr} {kvs : List (Key × V)} {k : Key} {v z : V} {R : Hp → Prop}
def DpQ (x y v : V) (H3 : Hp) (R : Hp → Prop) : Prop := ∃ a H4, x = .ref a ∧ DPut H3 a y v H4 ∧ R H4
theorem s_dput (h : tv σ H fun v H1 => td σ H1 fun x H2 => ty σ H2 fun y H3 => DpQ x y v H3 fun H4 => D.nx σ H4) : sDPut td ty tv D σ H := h
theorem o_dput (h : H d = some (.dK kvs)) (l : kvs.length < 100000) (q : R (upd H d (.dK (putK kvs k v)))) : DpQ (.ref d) (kV k) v H R := ⟨d, _, rfl, DPut.k h (lt_size l), q⟩
def Dg2Q (a : Addr) (y z : V) (H3 : Hp) (Q : VK) : Prop := ∃ o, DGet H3 a y o ∧ Q (o.getD z) H3
theorem e_dget2 (h : td σ H fun x H1 => SdQ x H1 fun a => ty σ H1 fun y H2 => tx σ H2 fun z H3 => Dg2Q a y z H3 Q) : tDGet2 td ty tx σ H Q := h
theorem o_dget2 (h : H d = some (.dK kvs)) (q : Q ((valV kvs k).getD z) H) : Dg2Q d (kV k) z H Q := ⟨_, DGet.k h, q⟩
def Dp1Q (a : Addr) (y : V) (H2 : Hp) (Q : VK) : Prop := ∃ kvs k v, H2 a = some (.dK kvs) ∧ y = kV k ∧ valV kvs k = some v ∧ Q v (upd H2 a (.dK (dropK kvs k)))
theorem e_dpop1 (h : td σ H fun x H1 => SdQ x H1 fun a => ty σ H1 fun y H2 => Dp1Q a y H2 Q) : tDPop1 td ty σ H Q := h
theorem o_dpop1 (h : H d = some (.dK kvs)) (e : valV kvs k = some v) (q : Q v (upd H d (.dK (dropK kvs k)))) : Dp1Q d (kV k) H Q := ⟨kvs, k, v, h, rfl, e, q⟩
theorem o_rep {r : R2} {l : Addr} {n : Nat} {xs : List V} (h : H l = some (.lst xs)) (hn : n ≤ 100000) (hl : xs.length * n ≤ 100000) (q : NewQ (.lst (List.replicate n xs).flatten) H Q) : rOr r rRep (.ref l) (.int n) H Q :=
  .inr ⟨l, n, xs, rfl, rfl, h, by omega, by omega, le_trans_size hl, q⟩
where le_trans_size {m : Nat} (h : m ≤ 100000) : m ≤ sizeLine := Nat.le_trans h (by decide)
theorem p_cons {tk tw : TE} {r : List (TE × TE)} {QP : List (V × V) → Hp → Prop} (h : tk σ H fun x H1 => tw σ H1 fun y H2 => tPairs r σ H2 fun ps H3 => QP ((x, y) :: ps) H3) : tPairs ((tk, tw) :: r) σ H QP := h
theorem p_nil {QP : List (V × V) → Hp → Prop} (h : QP [] H) : tPairs [] σ H QP := h
end
section
variable {K : PySem.W.Frag} {σ : L2.St} {H : Hp} {Q : VK} {to : TE} {C p : Addr} {fs : List (Str × V)} {m : Str} {D : Ends}
def MethEQ (C : Addr) (m : Str) (sp : Sp) (E : L2.St → XK) (t : TA) (σ : L2.St) (x : V) (H1 : Hp) (Q : VK) : Prop := ∃ a dx fs, x = .ref a ∧ H1 a = some (.ins C dx fs) ∧ fs.lookup m = none ∧ t σ H1 fun vs H2 => sp (x :: vs) H2 Q (E σ)
theorem e_methE {sp : Sp} {E : L2.St → XK} {t : TA} (h : to σ H fun x H1 => MethEQ C m sp E t σ x H1 Q) : tMethE C m sp E to t σ H Q := h
theorem m_callE {sp : Sp} {E : L2.St → XK} {t : TA} (h : InsAt C H p fs) (e : fs.lookup m = none) (q : t σ H fun vs H2 => sp (.ref p :: vs) H2 Q (E σ)) : MethEQ C m sp E t σ (.ref p) H Q := h.elim fun dx h => ⟨p, dx, fs, rfl, h, e, q⟩
theorem s_try {tb : WX → TS} {c : Value} {ts : Addr → Value → Option Addr → TS} {Wout : WX} (h : tb (wOnly K c ts Wout D) D σ H) : (fun (D : Ends) (σ : L2.St) (H : Hp) => tb (wOnly K c ts Wout D) D σ H) D σ H := h
theorem w_only {c cls : Value} {d : Option Addr} {ts : Addr → Value → Option Addr → TS} {Wout : WX} (e : PySem.W.exmOne K cls c = some true) (h : ∀ a, H a = none → ts a cls d D σ H) : wOnly K c ts Wout D cls d σ H := ⟨true, e, fun _ => h, fun z => nomatch z⟩
end
end Vw

set_option Elab.async false
set_option linter.all false
set_option maxRecDepth 100000
set_option maxHeartbeats 4000000
namespace Vw
open PySem PySem.Spec PyProof.Rows L2 RT
/-! ### list.extend of a tuple, whatever its dict and slots are -/
theorem list_extend_tup (l : Addr) (items : Array Value) (n : Nat) (b : Addr) (dd : Option Addr) (sl : Array (Option Value)) (items2 : Array Value) (n2 : Nat) (hs0 : ¬(!items.isEmpty && Builtin.List.listTooLong (items.size + items2.size)) = true) (hs1 : items.size ≤ sizeLine) (hs2 : items.size + items2.size ≤ sizeLine + 1) :
    Meets (Builtin.«list.extend» ⟨[.ref l, .ref b], []⟩) (fun _ R s => s.heap.get? l = some { cls := .type "list", dict := none, data := .seq items n, slots := #[] } ∧ s.heap.get? b = some { cls := .type "tuple", dict := dd, data := .seq items2 n2, slots := sl } ∧ R (.ok (.ret Value.none)) { s with heap := s.heap.update l (Obj.mapSeq fun x => x ++ items2), toks := s.toks }) :=
  .of_wp fun prog w A R s h => by
    obtain ⟨hp, g, d, tk, os⟩ := s; obtain ⟨hl, hb, h⟩ := h; have f1 := PySem.AutoSeq1.idx_int; have f2 := PySem.AutoSeq1.sub_tuple_tuple; have f3 := PySem.AutoSeq1.sub_list_list; have f4 := PySem.AutoSeq1.sub_tuple_list; have f5 := PySem.AutoSeq1.sub_list_tuple;
    have hz' : (items ++ items2).size ≤ sizeLine + 1 := by rw [Array.size_append]; exact hs2
    wp_walk using (wpAny_updateSeq hl rfl (hz := hs1) (_hz' := hz')), PySem.AutoSeq1.wpAny_loadPart' hl, PySem.AutoSeq1.wpAny_loadPart' hb; exact ⟨_, rfl, h⟩
def rExtT (K : PySem.W.Frag) : V → List V → Hp → VK → Prop := fun x vs H Q => ∃ l b xs zs, x = .ref l ∧ vs = [.ref b] ∧ H l = some (.lst xs) ∧ SqT K H b zs ∧ xs.length + zs.length ≤ sizeLine ∧ Q .non (upd H l (.lst (xs ++ zs)))
section
variable {X : Cx}
theorem mt_extT : MtM X "list.extend" (rExtT X.K) := by
  intro pins s σ H x vs v us Q I rx rv h
  obtain ⟨l, b, xs, zs, rfl, rfl, hH, hB, hz, q⟩ := h
  cases rx
  obtain ⟨u, rfl, ru⟩ := rv.one
  cases ru
  obtain ⟨z, its, n, r, hl, e⟩ := I.lstM hH
  obtain ⟨its2, r2, ⟨⟨cl, dd, da, sl⟩, e2, ec, n2, ed⟩, hl2⟩ := I.tuple hB
  cases ec
  cases ed
  have hl3 := r2.length
  have hsz : its.toArray.size + its2.toArray.size ≤ sizeLine := by rw [List.size_toArray, List.size_toArray]; omega
  have hlong : ¬ (!its.toArray.isEmpty && Builtin.List.listTooLong (its.toArray.size + its2.toArray.size)) = true := by
    rw [show Builtin.List.listTooLong (its.toArray.size + its2.toArray.size) = false from decide_eq_false (by omega), Bool.and_false]
    exact Bool.false_ne_true
  refine call_meets F.slot_list_extend ⟨_, e, rfl⟩ F.entry_list_extend (F.args_list_extend_2 _ _)
    (list_extend_tup l its.toArray n b dd sl its2.toArray n2 hlong (by rw [List.size_toArray]; omega) (by omega)) ⟨e, e2, ?_⟩
  refine ⟨.non, _, I.lset (its' := its ++ its2) hH e (by simp) (r.append r2) ?_, rfl, q⟩
  rw [List.length_append]
  omega
theorem mtExtT {K : PySem.W.Frag} (e : X.K = K := by rfl) : MtM X "list.extend" (rExtT K) := by cases e; exact mt_extT
/-! ### a test of a if t else b -/
def tIfT (t u v : TT) : TT := fun σ H Q => t σ H fun c H1 => if c = true then u σ H1 Q else v σ H1 Q
theorem pt_ifExp {c a b : Expr} {pos : Pos} {t u v : TT} (hc : PT X c t) (ha : PT X a u) (hb : PT X b v) : PT X (.IfExp c a b pos) (tIfT t u v) := by
  refine ⟨fun pins s σ H Q I h => ?_⟩
  refine isTrue_IfExp (thn (hc.run pins s σ H _ I h) fun d s1 ⟨H1, I1, q1⟩ => ?_)
  cases d with
  | true => exact ha.run pins s1 σ H1 Q I1 q1
  | false => exact hb.run pins s1 σ H1 Q I1 q1
/-! ### isinstance of an own class -/
theorem cIsC {K : PySem.W.Frag} {C : Addr} (c : C8.InsC K C) (e : X.K = K := by rfl) : CallR X (.builtin "isinstance") (fun xs H Q => ∃ a dx fs, xs = [.ref a, .ref C] ∧ H a = some (.ins C dx fs) ∧ Q (.bl true) H) := by
  cases e
  exact C8.call_isC c
end
section
variable {K : PySem.W.Frag} {σ : L2.St} {H : Hp} {Q : VK} {l b : Addr} {xs zs : List V} {C p : Addr} {fs : List (Str × V)} {t u v : TT} {QB : Bool → Hp → Prop} {R : It → Hp → Prop}
theorem r_extT (h : H l = some (.lst xs)) (hb : SqT K H b zs) (hl : xs.length + zs.length < 100000) (q : ∀ H2, Oth l H H2 → H2 l = some (.lst (xs ++ zs)) → Q .non H2) : rExtT K (.ref l) [.ref b] H Q :=
  ⟨l, b, xs, zs, rfl, rfl, h, hb, Nat.le_of_lt (lt_size hl), q _ (fun c o z e => by rw [upd_ne z]; exact e) upd_same⟩
theorem e_ifT (h : t σ H fun c H1 => if c = true then u σ H1 QB else v σ H1 QB) : tIfT t u v σ H QB := h
theorem o_isC (h : InsAt C H p fs) (q : Q (.bl true) H) : ∃ a dx fs, [V.ref p, V.ref C] = [.ref a, .ref C] ∧ H a = some (.ins C dx fs) ∧ Q (.bl true) H := h.elim fun dx h => ⟨p, dx, fs, rfl, h, q⟩
def Rg3Q (R : It → Hp → Prop) (vs : List V) (H1 : Hp) : Prop := ∃ (i j c : Int) (n : Nat), vs = [.int i, .int j, .int c] ∧ RgC i j c n ∧ R (Itc i c n) H1
theorem i_rng3 {ta : TA} (h : ta σ H fun vs H1 => Rg3Q R vs H1) : iRng3 ta σ H R := h
theorem i_rg3 {i j c : Int} {n : Nat} (r : RgC i j c n) (h : R (Itc i c n) H) : Rg3Q R [.int i, .int j, .int c] H := ⟨i, j, c, n, rfl, r, h⟩
end
end Vw

set_option Elab.async false
set_option linter.all false
set_option maxRecDepth 100000
set_option maxHeartbeats 4000000
namespace Vw
open PySem PySem.Spec PyProof.Rows L2 RT
/-! ### slices of tuples, the whole one too -/
theorem slT {X : Cx} {K : PySem.W.Frag} (e : X.K = K := by rfl) : SlR X (rSlA K) := by cases e; exact sl_tupA
theorem cut_nat {xs : List V} {i j : Nat} : cutV xs (some (i : Int)) (some (j : Int)) = (xs.drop i).take (j - i) := by
  unfold cutV
  rw [HT.sIx_nat, HT.sIx_nat]
  by_cases hi : i ≤ xs.length
  · rw [Nat.min_eq_left hi]
    by_cases hj : j ≤ xs.length
    · rw [Nat.min_eq_left hj]
    · rw [Nat.min_eq_right (by omega), List.take_of_length_le (by rw [List.length_drop]; omega), List.take_of_length_le (by rw [List.length_drop]; omega)]
  · rw [List.drop_of_length_le (show xs.length ≤ min i xs.length by omega), List.drop_of_length_le (show xs.length ≤ i by omega), List.take_nil, List.take_nil]
theorem cut_from {xs : List V} {i : Nat} : cutV xs (some (i : Int)) none = xs.drop i := by
  unfold cutV
  rw [HT.sIx_nat, HT.sIx_none, List.take_of_length_le (by rw [List.length_drop]; omega)]
  by_cases hi : i ≤ xs.length
  · rw [Nat.min_eq_left hi]
  · rw [Nat.min_eq_right (by omega), List.drop_of_length_le (by omega), List.drop_of_length_le (by omega)]
theorem cut_to {xs : List V} {j : Nat} : cutV xs none (some (j : Int)) = xs.take j := by
  unfold cutV
  rw [HT.sIx_nat, HT.sIx_none, List.drop_zero, Nat.sub_zero]
  by_cases hj : j ≤ xs.length
  · rw [Nat.min_eq_left hj]
  · rw [Nat.min_eq_right (by omega), List.take_of_length_le (by omega), List.take_of_length_le (by omega)]
section
variable {K : PySem.W.Frag} {H : Hp} {Q : VK} {a : Addr} {xs : List V} {lo hi : Option Int}
theorem r_slT (s : SqT K H a xs) (q : ∀ c H2, Same H H2 → SqT K H2 c (cutV xs lo hi) → Q (.ref c) H2) : rSlA K (.ref a) lo hi H Q := by
  refine ⟨a, xs, rfl, s, fun w => ?_, fun w p n => q p _ (Same.new n) (stO upd_same)⟩
  refine q a H (Same.refl _) ?_
  have e : cutV xs lo hi = xs := by
    unfold cutV
    rw [w.1, w.2, List.drop_zero, Nat.sub_zero, List.take_length]
  rw [e]; exact s
end
/-! ### range(0, n, 36) -/
theorem rsize36 {n : Nat} : Builtin.Range.rangeSize 0 (n : Int) 36 = (((n + 35) / 36 : Nat) : Int) := by
  unfold Builtin.Range.rangeSize
  simp only [show (36 : Int) > 0 by decide, if_true]
  split <;> omega
theorem fitL {i : Int} (h0 : 0 ≤ i) (h1 : i ≤ 1000000) : Builtin.Range.rangeFitsLong i = true := by
  unfold Builtin.Range.rangeFitsLong
  rw [Bool.and_eq_true, decide_eq_true_eq, decide_eq_true_eq]
  constructor <;> omega
theorem rgc36 {n : Nat} (h : n ≤ 100000) : RgC 0 (n : Int) 36 ((n + 35) / 36) := by
  refine ⟨by decide, by decide, ?_, rsize36⟩
  unfold Builtin.Range.small
  rw [rsize36]
  rw [fitL (by omega) (by omega), fitL (i := (n : Int)) (by omega) (by omega), fitL (i := 36) (by omega) (by omega), fitL (i := (((n + 35) / 36 : Nat) : Int)) (by omega) (by omega), if_pos (by decide), fitL (by omega) (by omega), Bool.or_true]
  rfl
def rIsC (C : Addr) : List V → Hp → VK → Prop := fun xs H Q => ∃ a dx fs, xs = [.ref a, .ref C] ∧ H a = some (.ins C dx fs) ∧ Q (.bl true) H
theorem cIsD {X : Cx} {K : PySem.W.Frag} {C : Addr} (c : C8.InsC K C) (e : X.K = K := by rfl) : CallR X (.builtin "isinstance") (rIsC C) := cIsC c e
theorem o_isD {C p : Addr} {H : Hp} {Q : VK} {fs : List (Str × V)} (h : InsAt C H p fs) (q : Q (.bl true) H) : rIsC C [.ref p, .ref C] H Q := h.elim fun dx h => ⟨p, dx, fs, rfl, h, q⟩
theorem peExt {X : Cx} {K : PySem.W.Frag} {o ex : Expr} {to te : TE} {apos cpos : Pos} {r : V → List V → Hp → VK → Prop} (h : PE X (.Call (.Attribute o "extend" apos) [ex] [] cpos) (tBM X.K "list" r to (tCons te tNil))) (e : X.K = K := by rfl) :
    PE X (.Call (.Attribute o "extend" apos) [ex] [] cpos) (tBM K "list" r to (tCons te tNil)) := by cases e; exact h
end Vw

set_option Elab.async false
set_option linter.all false
set_option maxRecDepth 100000
set_option maxHeartbeats 4000000
namespace Vw
open PySem PySem.Spec PyProof.Rows L2 RT
/-! ### a lambda called under two handlers: told is w0, wa or wb -/
def TTwo (K : PySem.W.Frag) (CA CB : Addr) (w0 wa wb : Str) : (XK → Hp → VK → Prop) → Hp → VK → Prop := fun tl H Q =>
  tl (fun cls _ H' => ∃ b, PySem.W.exmOne K cls (.ref CA) = some b ∧ (b = true → Q (.str wa) H') ∧ (b = false → ∃ b2, PySem.W.exmOne K cls (.ref CB) = some b2 ∧ (b2 = true → Q (.str wb) H') ∧ (b2 = false → False))) H fun _ H' => Q (.str w0) H'
theorem takes_len {X : Cx} {W : WX} (t : Takes X W) : Takes X (fun c d σ H => σ.length = X.N.length → W c d σ H) := fun u s' ⟨a, B, sI, pins, σ, H, cls, d, e, I, nb, up, sky, na, os, ag, w⟩ =>
  t u s' ⟨a, B, sI, pins, σ, H, cls, d, e, I, nb, up, sky, na, os, ag, w I.len⟩
theorem two_gives {X : Cx} {x a t A B q w0 wa wb : Str} {sg : Scope} {g CA CB : Addr} {cdg : Value} {j0 j1 j2 : Nat} {p1 p2 p3 p4 p5 p6 p7 p8 p9 p10 p11 p12 p13 p14 p15 p16 p17 p18 p19 : Pos}
    (hga : sg.names.lookup A = some .globalImplicit) (hma : X.mg A = some (.ref CA)) (hda : (A == ("__debug__" : Str)) = false) (hgb : sg.names.lookup B = some .globalImplicit) (hmb : X.mg B = some (.ref CB)) (hdb : (B == ("__debug__" : Str)) = false)
    (ht : sg.names.lookup t = some .local) (hn : ([a, t] : List Str).Nodup) (hd : (t == ("__debug__" : Str)) = false) (hcd : (t == ("__classdict__" : Str)) = false) :
    LamX.GivesTo X [a, t] x sg g cdg [.Assign [.Name t p1] (.Constant (.str w0) j0 p2) p3, .Try [.Expr (.Call (.Name a p4) [] [] p5) p6] [.ExceptHandler (some (.Name A p7)) none [.Assign [.Name t p8] (.Constant (.str wa) j1 p9) p10] p11, .ExceptHandler (some (.Name B p12)) none [.Assign [.Name t p13] (.Constant (.str wb) j2 p14) p15] p16] [] [] p17, .Return (some (.Name t p18)) p19] a q (TTwo X.K CA CB w0 wa wb) := by
  intro f c' s H Q tl act hc h
  have gla : Gl (cxOf C8.CX0 X.prog X.w X.K X.mg X.base [a, t] x sg g cdg X.A X.stack s H C8.E0).nox A := hga
  have glb : Gl (cxOf C8.CX0 X.prog X.w X.K X.mg X.base [a, t] x sg g cdg X.A X.stack s H C8.E0).nox B := hgb
  have ht2 : (cxOf C8.CX0 X.prog X.w X.K X.mg X.base [a, t] x sg g cdg X.A X.stack s H C8.E0).nox.env.scope.names.lookup t = some .local := ht
  refine ⟨_, pss_cons (ps_set (X := (cxOf C8.CX0 X.prog X.w X.K X.mg X.base [a, t] x sg g cdg X.A X.stack s H C8.E0).nox) (i := 1) hn rfl (.inl ht) pe_str) (pss_cons (ps_try_many (X := (cxOf C8.CX0 X.prog X.w X.K X.mg X.base [a, t] x sg g cdg X.A X.stack s H C8.E0).nox)
      (tb := fun W D σ H => ∃ Ech : XK, (∀ cls d σ' H', σ'.length = 2 → Ech cls d H' → W cls d σ' H') ∧ σ[0]? = some (some (.ref f)) ∧ H c' = some (LamX.CodeO c' q) ∧ tl Ech H fun _ H' => D.nx σ H')
      rfl rfl takes_none5 (fun W pn xe tk _ => ?_)
      (.cons ⟨gla, hda, .inl hma⟩ (fun a oe cls d pn _ _ => pss_one (ps_set (i := 1) hn rfl (.inl ht) pe_str)) (.cons ⟨glb, hdb, .inl hmb⟩ (fun a oe cls d pn _ _ => pss_one (ps_set (i := 1) hn rfl (.inl ht) pe_str)) .nil)))
    (pss_one (ps_ret (pe_var (i := 1) rfl (.inl ht) hd hcd)))), ?_⟩
  · refine ⟨fun pins s' σ H' D I h' => ?_⟩
    obtain ⟨Ech, hW, h1, h2, h3⟩ := h'
    have hp := act (fun c d σ H => σ.length = 2 → W c d σ H) pn xe Ech p4 p5 (takes_len tk) (fun cls d σ' H' e l => hW cls d σ' H' l e)
    exact (pss_one (ps_expr (pos := p6) hp)).run pins s' σ H' D I ⟨h1, h2, h3⟩
  · have len1 : ∀ (σ' : L2.St) (v : V), σ'.length = 2 → (σ'.set 1 (some v))[1]? = some (some v) := fun σ' v l => by
      rw [List.getElem?_set_self (by omega)]
    refine ⟨fun cls _ H' => ∃ b, PySem.W.exmOne X.K cls (.ref CA) = some b ∧ (b = true → Q (.str wa) H') ∧ (b = false → ∃ b2, PySem.W.exmOne X.K cls (.ref CB) = some b2 ∧ (b2 = true → Q (.str wb) H') ∧ (b2 = false → False)), fun cls d σ' H' l ⟨b, e1, e2, e3⟩ => ⟨b, e1, fun hb a _ => ?_, fun hb => ?_⟩, rfl, hc, ?_⟩
    · exact ⟨_, len1 σ' _ l, e2 hb⟩
    · obtain ⟨b2, g1, g2, g3⟩ := e3 hb
      exact ⟨b2, g1, fun hb a _ => ⟨_, len1 σ' _ l, g2 hb⟩, fun hb => g3 hb⟩
    · refine Eq.mpr (congrArg (tl _ H) (funext fun _ => funext fun H' => propext ⟨fun ⟨v, e, z⟩ => ?_, fun z => ⟨_, rfl, z⟩⟩)) h
      have e2 : V.str w0 = v := Option.some.inj (Option.some.inj e)
      rw [e2]
      exact z
/-- the end of a law whose defs hold lambdas: of each def of the row, its code object and its empty table -/
theorem walk_ofRecs {l : PySem.W.OpenLaw} {n k : Nat} {q : Program} {loose : List Str} {XP : (Str → Option Value) → Heap → Prop} {YP : World → Heap → Prop} {d : DefRec} {K : Params → PySem.W.Frag} {CX : World → CXT} {x : Str}
    (hn : l.most = some n) (hn2 : n ≤ sizeLine) (hdf : d.params.defaults = []) (hr : Room k callerA) (hY : ∀ (w : World) (h : Heap), YP w h → (K w.params).In h)
    (F : ∀ (w : World) (mg : Str → Option Value) (fa : Addr) (h : Heap), YP w h → (K w.params).In h → h.Ns mainGlobals mg → mg d.name = some (.ref fa) →
      (∀ (y : Str) (e : DefRec) (c P : Addr), (recsOf q).find? (fun e => e.name == y) = some e → PySem.W.tabIn (K w.params) y = some (c, P) → PySem.W.CodeHd h c P ∧ h.get? P = some { cls := .none, data := .fields #[] }) → LamX.LawAtS l w (K w.params) (CX w) k n x mg fa h)
    (hCX : ∀ (w : World) (H : Hp) (s : Shared) (e : Value) (s' : Shared), CX w [] H s (fun _ _ _ => False) e s' → False) :
    PySem.W.WalkO q loose XP YP l.row.toRowW d [] (fun f vs => PySem.call f vs) := by
  refine Att.attach_callB hn hdf fun w s₀ s₁ mg mb fa o pm cd doc a vs ns G Y ho hd hcd hmg hobj hints hlen hbits hg => ?_
  have KX := hY w _ Y
  obtain ⟨fd, cs, sp, hT, nT, C, hb, hsp, hF⟩ := F w mg fa _ Y KX G.T.g hmg (fun y e c P h1 h2 => PySem.W.tab_of G.T KX h1 h2)
  exact LamX.law_callTs KX G.T.g G.T.b G.T.builtins G.T.nolimit hg hT nT C G.T.bmain hobj hints (Nat.le_trans hlen hn2) hr hF hb (fun H hH hS => hsp H a ns hlen hbits hH hS) fun H e s' => hCX w H s₁ e s'
/-- a def that makes lambdas: its code object c and the table P of it -/
structure DefAtL (K : PySem.W.Frag) (mg : Str → Option Value) (x qual : Str) (st : Stmt) (ps : List Str) extends DefAt K mg x qual st ps where
  c : Addr
  P : Addr
  ex : ∃ (oc : Value) (od : Option Addr) (kV doc pm : Value) (an : Option Addr) (ct : Value) (osl : Array (Option Value)),
    fd = PySem.W.fnOf x qual (defArgs st) (defBody st) (defScope st) .none kV doc pm an (.ref c) ct ∧ K.lookup f = some ⟨oc, od, .func fd, osl⟩ ∧ PySem.W.codeIn K (.ref c) qual = true
  tb : PySem.W.tabIn K x = some (c, P)
  nP : K.lookup P = none
def defAtL_mk {K : PySem.W.Frag} {mg : Str → Option Value} {h : Heap} {x qual : Str} {st : Stmt} {ps : List Str} {f c P : Addr} {od an : Option Addr} {sl : Array (Option Value)} {oc kV dc pm ct : Value} (X : K.In h) (G : h.Ns mainGlobals mg)
    (a : PySem.W.nsIn K mainGlobals x = some (some (.ref f))) (l : K.lookup f = some ⟨oc, od, .func (PySem.W.fnOf x qual (defArgs st) (defBody st) (defScope st) .none kV dc pm an (.ref c) ct), sl⟩) (cc : PySem.W.codeIn K (.ref c) qual = true) (k : PySem.W.keepIn K (.ref f) = true)
    (tb : PySem.W.tabIn K x = some (c, P)) (nP : K.lookup P = none)
    (b : ∀ (kV doc pm : Value) (an : Option Addr) (cdv ct : Value) (us : List Value), us.length = ps.length → bindArgs (PySem.W.fnOf x qual (defArgs st) (defBody st) (defScope st) .none kV doc pm an cdv ct) ⟨us, []⟩ = pure (ps.zip us)) : DefAtL K mg x qual st ps :=
  { defAt_mk X G a l cc k b with c := c, P := P, ex := ⟨_, _, _, _, _, _, _, _, rfl, l, cc⟩, tb := tb, nP := nP }
theorem DefAtL.ok {Pg : Program} {w : World} {K : PySem.W.Frag} {mg : Str → Option Value} {base : Heap} {x qual : Str} {st : Stmt} {N ps : List Str} {k : Nat} {sp : Sp} (D : DefAtL K mg x qual st ps) (S : FnScope N ps (defScope st)) (len : ∀ vs H Q E, sp vs H Q E → vs.length = ps.length)
    (hbody : ∀ (A : Around) (outer : List Env) (s : Shared) (H : Hp) (vs : List V) (Q : VK) (E : XK), Room k (A.deeper (envOfC qual (defScope st) s.heap.objs.size D.f (.ref D.c))) → sp vs H Q E →
      ∃ t, PSs (cxOf CX0 Pg w K mg base N qual (defScope st) D.f (.ref D.c) A outer s H E).nox (defBody st) t ∧ t { nx := fun _ H' => Q .non H', rt := Q } (start N vs) H) : FnOk Pg w K mg base CX0 (k + 1) D.f D.fd ps sp := by
  obtain ⟨oc, od, kV, doc, pm, an, ct, osl, e, lk, hcd⟩ := D.ex
  rw [e] at lk ⊢
  refine fn_of lk hcd S len fun A outer s H vs Q E hr hsp => ?_
  obtain ⟨t, h, q⟩ := hbody A outer s H vs Q E hr hsp
  exact ⟨t, h.nox, q⟩
/-- x(lambda: body), of a def known as DefAt -/
theorem pe_lamF {X : Cx} {T : List (Addr × Str)} {TT : (XK → Hp → VK → Prop) → Hp → VK → Prop} {x a n : Str} {st : Stmt} {c P : Addr} {k : Nat} {Ng : List Str} {params : Arguments} {body : Expr} {scope : Scope} {t : XK → TE} {p lpos pos : Pos}
    (hq : X.env.qual = n) (D : DefAt X.K X.mg x x st [a]) (hg : Gl X x) (Sg : FnScope Ng [a] (defScope st)) (hNg : Ng[0]? = some a) (hva : Vis (defScope st) a)
    (hG : ∀ cdv : Value, LamX.GivesTo X Ng x (defScope st) D.f cdv (defBody st) a (n ++ "<lambda>") TT)
    (TB : LamX.TabB X.base X.mg c P) (hcode : X.env.code = .ref c) (hmT : (P, n ++ "<lambda>") ∈ T) (hu : ∀ p ∈ T, p.1 = P → p.2 = n ++ "<lambda>") (hr : Room (k + 2) X.A) (L : LamX.LamS X.env.scope scope) (hdef : defaultsOf params X.env = ([], []))
    (hbind : ∀ (q : Str) (cl : List (Str × Addr)) (pm cv ctv : Value), bindArgs (PySem.W.kla_fn "<lambda>" q params body scope cl pm cv ctv) ⟨[], []⟩ = pure [])
    (hbody : ∀ (A : Around) (outer : List Env) (s : Shared) (H : Hp) (E : XK) (f c' : Addr), Room k (A.deeper (LamX.lamEnv X scope s.heap.objs.size f c')) → PE (LamX.lamCx X A outer s H E scope f c') body (t E))
    (hdb : (x == ("__debug__" : Str)) = false := by decide) (hd : (a == ("__debug__" : Str)) = false := by decide) (hcd : (a == ("__classdict__" : Str)) = false := by decide) :
    PE X (.Call (.Name x p) [.Lambda params body scope lpos] [] pos) (LamX.tLam T TT t) := by
  subst hq
  obtain ⟨f, fd, F, b, g⟩ := D
  obtain ⟨oc, od, kV, doc, pm, an, cdv, ct, osl, rfl, lk, hc2⟩ := F.ex
  exact LamX.pe_lamcall hg g F.kp lk hc2 b Sg hNg hva (hG cdv) TB hcode hmT hu hr L hdef hbind hbody hdb hd hcd
theorem nox_qual {CX : CXT} {Pg : Program} {w : World} {K : PySem.W.Frag} {mg : Str → Option Value} {base : Heap} {N : List Str} {q : Str} {sc : Scope} {f : Addr} {cdv : Value} {A : Around} {outer : List Env} {s : Shared} {H : Hp} {E : XK} :
    (cxOf CX Pg w K mg base N q sc f cdv A outer s H E).nox.env.qual = q ++ ".<locals>." := rfl
/-- what a call lets out is taken by the handlers around, whatever the slots hold by then -/
theorem passLen {X : Cx} {W : WX} (n : Nat) (tk : Takes X W) (hn : X.N.length = n) : Passes (L2.CX X.prog X.w) X (fun cls d H => ∀ σ : L2.St, σ.length = n → W cls d σ H) := passes_call (takes_len tk) (fun _ _ _ _ e l => e _ (l.trans hn))
/-- tables at places of their own -/
theorem tabs_uniq {P : Addr} {q : Str} : ∀ {l : List (Addr × Str)}, (l.map (·.1)).Nodup → (P, q) ∈ l → ∀ p ∈ l, p.1 = P → p.2 = q := by
  intro l
  induction l with
  | nil => intro _ h; cases h
  | cons a l ih =>
    intro hn hm p hp e
    rw [List.map_cons, List.nodup_cons] at hn
    rcases List.mem_cons.mp hm with h | h
    · rcases List.mem_cons.mp hp with k | k
      · rw [k, ← h]
      · exact absurd (List.mem_map.mpr ⟨p, k, by rw [e, ← h]⟩) hn.1
    · rcases List.mem_cons.mp hp with k | k
      · exact absurd (List.mem_map.mpr ⟨(P, q), h, by rw [← e, k]⟩) hn.1
      · exact ih hn.2 h p k e
end Vw

set_option Elab.async false
set_option linter.all false
set_option maxRecDepth 100000
set_option maxHeartbeats 4000000
namespace Vw
open PySem PySem.Spec PyProof.Rows L2 RT
/-! ### several handlers, each with the name of what it caught -/
abbrev HdT := Value × (Addr → Value → Option Addr → TS)
/-- the ends of a handler's suite: slot i, the name's, is empty behind it -/
def offI (i : Nat) (D : Ends) : Ends := { nx := fun σ H => D.nx (σ.set i none) H, rt := D.rt, bk := fun σ H => D.bk (σ.set i none) H, ct := fun σ H => D.ct (σ.set i none) H }
def wTells (K : PySem.W.Frag) (i : Nat) (Wo : WX) (D : Ends) : List HdT → WX
  | [] => Wo
  | h :: r => fun k d σ H => ∃ b, PySem.W.exmOne K k h.1 = some b ∧ (b = true → ∀ x, H x = none → h.2 x k d (offI i D) (σ.set i (some (.ref x))) H) ∧ (b = false → wTells K i Wo D r k d σ H)
inductive TellsOk (X : Cx) (n : Str) : List ExceptHandler → List HdT → Prop
  | nil : TellsOk X n [] []
  | cons {x : Str} {c : Value} {u : Addr → Value → Option Addr → TS} {b : Stmt} {bs : List Stmt} {p1 p2 : Pos} {hds : List ExceptHandler} {l : List HdT} (hc : Names X x c)
      (hu : ∀ (x : Addr) (o : Obj) (k : Value) (d : Option Addr) (pn : List (Addr × Obj)), Zc k d o → (∃ vs, o.data = .fields vs) → PSs (X.suite x ((x, o) :: pn)) (b :: bs) (u x k d)) (r : TellsOk X n hds l) :
      TellsOk X n (.ExceptHandler (some (.Name x p1)) (some n) (b :: bs) p2 :: hds) ((c, u) :: l)
section
variable {X : Cx} {n : Str} {i : Nat} {body : List Stmt} {h1 : ExceptHandler} {hds : List ExceptHandler} {l : List HdT} {pos : Pos} {tb : WX → TS} {Wo : WX}
theorem ps_tells (st : X.stack = X.env :: X.outer) (fr : X.env.frame = some X.env.locals) (nd : X.N.Nodup) (at_ : X.N[i]? = some n) (lo : X.env.kindOf n = some .local) (tk : Takes X Wo)
    (bo : ∀ (W : WX) (pn : List (Addr × Obj)) (xe : Value → Shared → Prop), Takes (X.tr pn xe) W → PassesOwn (model X.prog X.w) X.A X.env xe → PSs (X.tr pn xe) body (tb W))
    (hh : TellsOk X n (h1 :: hds) l) : PS X (.Try body (h1 :: hds) [] [] pos) (fun D σ H => tb (wTells X.K i Wo D l) D σ H) := by
  refine ⟨fun pins s σ H D I q0 => ?_⟩
  have kk := I.ok
  have frs2 : X.A.frames = some (X.env :: X.outer) := by rw [kk.frames, st]
  have hl2 : Loc X.env.scope n := .inl lo
  refine wpAny_Try_except ?_
  refine wpAny_mono ((bo (wTells X.K i Wo D l) (X.pn ++ pins) (fun e sa => wpAny (model X.prog X.w) X.A (noteFrame e X.env) (fun _ sb => wpAny (model X.prog X.w) X.A (setFlight e none) (fun _ sc =>
    wpAny (model X.prog X.w) X.A (handleBy e X.env (h1 :: hds)) (SP X pins D) X.xe sc) X.xe sb) X.xe sa) (fun u s' xx => ?_) PassesOwn.looking).run [] s σ H D (I.toTry _) q0) (fun f s1 hsp => ?_) (fun e s1 z => z)
  · obtain ⟨x, B, sI, _, σ2, H2, k, d, rfl, Ja, nb, up, sky, nx2, os, ag, w⟩ := xx
    have Jb : Inv X pins σ2 H2 sI := Ja.ofTry kk
    have sk2 : Sky B (X.env :: X.outer) x (Zc k d) X.env.locals s'.heap := by rw [← st]; exact sky
    show wpAny (model X.prog X.w) X.A (noteFrame (.ref x) X.env) _ _ _
    refine Sky.land Zc.steady frs2 fr sk2 fun ha fa ua => ?_
    have Jc : Inv X pins σ2 H2 { s' with heap := ha } := Jb.landed nb fa.1 (up.trans ua) os ag
    obtain ⟨oa, va, ea, za, da⟩ := fa.there
    have out : ∀ {h : Heap} {o : Obj} {vs : Array Value}, h.FunFrames B (X.env :: X.outer) → h.get? x = some o → o.data = .fields vs → x ∉ frs (X.env :: X.outer) := fun {h o vs} ff e dd m => by
      obtain ⟨_, o2, e2, nf⟩ := ff.mem m
      rw [e] at e2
      cases e2
      exact nf _ dd
    have nfa := out fa.2.2.1 ea da
    have nla : x ≠ X.env.locals := fun z => nfa (List.mem_filterMap.mpr ⟨X.env, List.mem_cons_self, by rw [fr, z]⟩)
    have nfs : x ∉ X.fs := fun m => by
      obtain ⟨e, me, q⟩ := List.mem_filterMap.mp m
      exact nfa (List.mem_filterMap.mpr ⟨e, List.mem_cons_of_mem _ me, q⟩)
    have Sa := Jc.suite ea da nx2 nla nfs
    have go : ∀ {hd2 : List ExceptHandler} {l2 : List HdT}, TellsOk X n hd2 l2 → wTells X.K i Wo D l2 k d σ2 H2 → wpAny (model X.prog X.w) X.A (handleBy (.ref x) X.env hd2) (SP X pins D) X.xe { s' with heap := ha } := by
      intro hd2 l2 ok2
      induction ok2 with
      | nil =>
        intro w2
        refine wpAny_handleBy_nil ?_
        obtain ⟨_, _, _, o5, v5, T, oT, t5, e5, z5, d5, g5, _⟩ := id fa
        unfold PySem.passOn
        refine wpAny_bind (wpAny_field e5 d5 g5 ?_)
        rw [if_neg (show ¬ ((Value.ref T == Value.none) = true) by simp)]
        have fin : wpAny (model X.prog X.w) X.A (setFlight (.ref x) X.env.frame) (fun _ sd => wpAny (model X.prog X.w) X.A (throw (.ref x) : Sem Flow) (SP X pins D) X.xe sd) X.xe { s' with heap := ha } := by
          rw [fr]
          refine HandSPX.setFlight_upZ fa fun hb hhb ub => wpAny_throw (tk _ _ ?_)
          exact ⟨x, B, sI, pins, σ2, H2, k, d, rfl, Jb, nb, (up.trans ua).trans ub, .inr (.inr (by rw [st]; exact hhb)), nx2, os, ag, w2⟩
        first
          | exact wpAny_bind (wpAny_pure (wpAny_bind fin))
          | exact wpAny_bind fin
      | @cons y c u b bs p1 p2 hd3 l3 hc hu r ih =>
        intro w2
        obtain ⟨bb, e1, yes, no⟩ := w2
        refine wpAny_handleBy_cons (codeAny_handlers_test ?_) (by intro q; cases q)
        have LA : PySem.W.Looks (model X.prog X.w) ha (typeOf (.ref x)) k := fun A Q E s k2 q => wpAny_typeOf_ref (k2 _ _ ea) (by rw [za.1]; exact q)
        have LB := PySem.W.exm_one (M := model X.prog X.w) Jc.kIn LA e1
        have tst : ∀ {Q E : Value → Shared → Prop}, Q c { s' with heap := ha } → wpAny (model X.prog X.w) (X.A.mark (some (.ref x))) (eval (.Name y p1) X.env) Q E { s' with heap := ha } := fun {Q E} q => by
          obtain ⟨g1, g2, g3 | ⟨g3, g4, g5⟩⟩ := hc
          · exact ld_glob (X := X.suite x ((x, oa) :: (X.pn ++ pins))) Sa g1 g3 q g2
          · exact ld_blt (X := X.suite x ((x, oa) :: (X.pn ++ pins))) Sa g1 g3 g4 q g5 g2
        refine tst (LB.here ?_)
        cases bb with
        | true =>
          refine codeAny_handlers_suite_as ?_
          refine HandSPX.lands_againZ fa fun hb fb ub => ?_
          have Jd : Inv X pins σ2 H2 { s' with heap := hb } := Jb.landed nb fb.1 ((up.trans ua).trans ub) os ag
          obtain ⟨ob, vb, eb, zb, db⟩ := fb.there
          have Sb := Jd.suite eb db nx2 nla nfs
          refine store_ok (X := X.suite x ((x, ob) :: (X.pn ++ pins))) (v := .ref x) Sb nd at_ hl2 rfl (fun s5 Sc => ?_) (.inr lo)
          refine wpAny_mono ((hu x ob k d (X.pn ++ pins) zb ⟨_, db⟩).run [] s5 _ H2 _ Sc (yes rfl x nx2)) (fun f s6 hs6 => ?_) (fun _ _ z => z.elim)
          have fin : ∀ {σ6 : L2.St} {H6 : Hp} {Q : Shared → Prop}, Inv (X.suite x ((x, ob) :: (X.pn ++ pins))) [] σ6 H6 s6 → (∀ s7, Inv X pins (σ6.set i none) H6 s7 → Q s7) →
              wpAny (model X.prog X.w) X.A (do bindName X.env n .none; unbindBehindTheSuite X.env n p2) (fun _ s7 => Q s7) X.xe s6 := fun {σ6 H6 Q} Sd hq => gone_ok (Sd.unsuite kk) nd at_ lo hq
          cases f with
          | next =>
            obtain ⟨_, _, Sd, q6⟩ := hs6
            exact fin Sd fun s7 Je => ⟨_, _, Je, q6⟩
          | brk =>
            obtain ⟨_, _, Sd, q6⟩ := hs6
            exact fin Sd fun s7 Je => ⟨_, _, Je, q6⟩
          | cont =>
            obtain ⟨_, _, Sd, q6⟩ := hs6
            exact fin Sd fun s7 Je => ⟨_, _, Je, q6⟩
          | ret u6 =>
            obtain ⟨_, _, _, Sd, r6, q6⟩ := hs6
            exact fin Sd fun s7 Je => ⟨_, _, _, Je, r6, q6⟩
        | false =>
          show wpAny _ X.A (handleBy (.ref x) X.env hd3) _ _ _
          exact ih (no rfl)
    exact go hh w
  · cases f with
    | next =>
      obtain ⟨_, _, Je, q⟩ := hsp
      exact wpAny_execs_nil ⟨_, _, Je.ofTry kk, q⟩
    | brk =>
      obtain ⟨_, _, Je, q⟩ := hsp
      exact ⟨_, _, Je.ofTry kk, q⟩
    | cont =>
      obtain ⟨_, _, Je, q⟩ := hsp
      exact ⟨_, _, Je.ofTry kk, q⟩
    | ret u6 =>
      obtain ⟨_, _, _, Je, r, q⟩ := hsp
      exact ⟨_, _, _, Je.ofTry kk, r, q⟩
/-- a suite that is read only where what it caught is of a known class -/
theorem pss_known {X : Cx} {bs : List Stmt} {D : Addr} {k : Value} {d : Option Addr} {t : TS} (h : k = .ref D → d = none → PSs X bs t) : PSs X bs (fun E σ H => k = .ref D ∧ d = none ∧ t E σ H) :=
  ⟨fun pins s σ H E I q => (h q.1 q.2.1).run pins s σ H E I q.2.2⟩
end
end Vw

set_option Elab.async false
set_option linter.all false
set_option maxRecDepth 100000
set_option maxHeartbeats 4000000
namespace Vw
open PySem PySem.Spec PyProof.Rows L2 RT
/-! ### list.count, flat items -/
def rCntF (K : PySem.W.Frag) : V → List V → Hp → VK → Prop := fun x xs H Q => ∃ (a : Addr) (ys : List V) (y : V), x = .ref a ∧ xs = [y] ∧ SqL K H a ys ∧ flatV y = true ∧ ys.all flatV = true ∧ Q (.int (ys.countP fun z => eqV z y : Nat)) H
theorem eqU_count {y : V} (fy : flatV y = true) : ∀ {ys : List V} {its : List Value}, Vals ys its → ys.all flatV = true → its.countP (eqU y) = ys.countP fun z => eqV z y
  | [], _, h, _ => by cases h; rfl
  | z :: zs, _, h, f => by
    cases h with
    | cons r rr =>
      rw [List.all_cons, Bool.and_eq_true] at f
      rw [List.countP_cons, List.countP_cons, eqU_count fy rr f.2, eqU_of r f.1]
theorem mt_cntF {X : Cx} : MtR X "list.count" (rCntF X.K) := by
  intro pins s σ H x xs v us Q I rx rxs h
  obtain ⟨a, ys, y, rfl, rfl, hs, fy, fys, q⟩ := h
  cases rx
  cases rxs with
  | cons ry rt =>
    rename_i uy ut
    cases rt
    obtain ⟨its, rv, ⟨⟨cls, dd, data, sl⟩, n, ho, hc, hdn, hd⟩, hlen⟩ := I.list hs
    simp only at hc hd
    subst hc hd
    refine call_meets PySem.F.slot_list_count ⟨_, ho, rfl⟩ PySem.F.entry_list_count (PySem.F.args_list_count_2 _ _) (SeqAt.list_countAt a its.toArray n dd sl uy (eqU y)) ⟨ho, fun u hu => mem_eqAt ry fy rv fys u (by simpa using hu), ?_⟩
    have ec : its.toArray.toList.countP (eqU y) = ys.countP fun z => eqV z y := eqU_count fy rv fys
    refine ⟨.int (ys.countP fun z => eqV z y : Nat), H, I.tok _, ⟨s.toks, ?_⟩, q⟩
    show Value.int ((its.toArray.toList.countP (eqU y) : Nat) : Int) s.toks = _
    rw [ec]
theorem o_cntF {K : PySem.W.Frag} {a : Addr} {H : Hp} {Q : VK} {ys : List V} {y : V} (h : SqL K H a ys) (f : flatV y = true) (g : ys.all flatV = true) (q : Q (.int (ys.countP fun z => eqV z y : Nat)) H) : rCntF K (.ref a) [y] H Q := ⟨a, ys, y, rfl, rfl, h, f, g, q⟩
end Vw

set_option Elab.async false
set_option linter.all false
set_option maxRecDepth 100000
set_option maxHeartbeats 4000000
namespace Vw
open PySem PySem.Spec PyProof.Rows L2 RT
/-! ### a tuple so many times, up to 2000 -/
def rTimesT (K : PySem.W.Frag) : R2 := fun x y H Q => ∃ (a : Addr) (n : Nat) (xs : List V), x = .ref a ∧ y = .int n ∧ SqT K H a xs ∧ xs ≠ [] ∧ 2 ≤ n ∧ n ≤ 2000 ∧ xs.length ≤ 40 ∧ ∀ p, H p = none → Q (.ref p) (upd H p (.tup (List.replicate n xs).flatten))
theorem times_len {α : Type} {xs : List α} {n : Nat} (h : n ≤ 2000) (h2 : xs.length ≤ 40) : (List.replicate n xs).flatten.length ≤ sizeLine := by
  rw [PyProof.Rows.lm_len_rep_flat]
  exact Nat.le_trans (Nat.mul_le_mul h h2) (by decide)
theorem op_timesT {X : Cx} : OpR X (binaryOp .Mult) (rTimesT X.K) := by
  intro pins st σ H x y v u Q I rx ry ⟨a, n, xs, ex, ey, hT, hne, h2, hn, hz, q⟩
  subst ex ey
  cases rx
  obtain ⟨tk, rfl⟩ := ry
  obtain ⟨its, r, ⟨ob, ho, hc, m, hd⟩, hs⟩ := I.tuple hT
  obtain ⟨cls, dd, data, sl⟩ := ob
  have hc : cls = .type "tuple" := hc
  have hd : data = .seq its.toArray m := hd
  subst hc hd
  have ln : its.length = xs.length := r.length.symm
  have pos : 0 < its.length := by rw [ln]; exact List.length_pos_iff.mpr hne
  have em : its.toArray.isEmpty = false := by rw [List.isEmpty_toArray]; cases its with
    | nil => cases pos
    | cons _ _ => rfl
  have sz : its.toArray.size = xs.length := by rw [List.size_toArray, ln]
  have pm : ((its.toArray.size : Nat) : Int) * (n : Int) ≤ 80000 := by
    rw [sz, ← Int.natCast_mul]
    have := Nat.mul_le_mul hz hn
    omega
  have nn : ((n : Nat) : Int).toNat = n := Int.toNat_natCast n
  have tm : Builtin.Tuple.tupleTooMany (((its.toArray.size : Nat) : Int) * (n : Int)) = false := by
    have e : (80000 : Int) < (sizeLine : Nat) := by decide
    unfold Builtin.Tuple.tupleTooMany; exact decide_eq_false (by omega)
  have b0 : (decide ((n : Int) < -(2 ^ 63)) || decide ((n : Int) ≥ 2 ^ 63)) = false := by
    rw [Bool.or_eq_false_iff]; exact ⟨decide_eq_false (by omega), decide_eq_false (by omega)⟩
  have b1 : (its.toArray.isEmpty || (n : Int) == 1) = false := by
    rw [em, Bool.false_or, beq_eq_false_iff_ne]; omega
  have b2 : (decide ((n : Int) ≤ 0) || its.toArray.isEmpty) = false := by
    rw [em, Bool.or_false]; exact decide_eq_false (by omega)
  have fl := size_rep its n
  have road := tuple_mulW a its.toArray m dd sl (n : Int) tk b0 b1 b2 (by omega) tm (by rw [nn, fl, List.size_toArray]; exact times_len hn (by omega))
  have fin : EP X pins σ Q (.ref st.heap.objs.size) { st with heap := st.heap.push { cls := Value.type "tuple", data := Data.seq (List.replicate n its).flatten.toArray }, toks := st.toks } :=
    ⟨.ref st.heap.objs.size, _, I.laid (t' := st.toks) (o := .tup (List.replicate n xs).flatten) (fun _ _ g => Heap.get?_push_of_some _ g) (Nat.le_refl _) ⟨times_len hn hz, _, r.rep n, IsTup.new _ _⟩, rfl, q _ (I.hok.fresh (Nat.le_refl _))⟩
  exact wpAny_binaryOp_repeat_ref (T := "tuple") (U := "int") (by decide) ⟨_, ho, rfl⟩ (fun s' => typeIs_int s' (n : Int) tk) noFill_tuple_mul F.fills_int_mul F.slot_int_rmul repeat_tuple F.slot_int_index.lookup
    (call_meets F.slot_int_rmul (typeIs_int st (n : Int) tk) F.entry_int_rmul (F.args_int_rmul_2 _ _) (int_rmul_tuple (n : Int) tk a its.toArray m dd sl) ⟨ho, rfl, ⟨_, ho, rfl⟩,
      call_meets F.slot_tuple_mul ⟨_, ho, rfl⟩ F.entry_tuple_mul (F.args_tuple_mul_2 _ _) road ⟨ho, by rw [nn, fl]; exact fin⟩⟩)
theorem oTimesT {K : PySem.W.Frag} {X : Cx} (e : X.K = K := by rfl) : OpR X (binaryOp .Mult) (rTimesT K) := by cases e; exact op_timesT
section
variable {K : PySem.W.Frag} {H : Hp} {Q : VK}
theorem o_times {a : Addr} {n : Nat} {xs : List V} {i : Int} (h : SqT K H a xs) (ne : xs ≠ []) (e : i = (n : Nat)) (h2 : 2 ≤ n) (hn : n ≤ 2000) (hz : xs.length ≤ 40) (q : ∀ p H2, H p = none → Same H H2 → H2 p = some (.tup (List.replicate n xs).flatten) → Q (.ref p) H2) : rTimesT K (.ref a) (.int i) H Q :=
  ⟨a, n, xs, rfl, by rw [e], h, ne, h2, hn, hz, fun p np => q p _ np (Same.new np) upd_same⟩
end
end Vw

set_option Elab.async false
set_option linter.all false
set_option maxRecDepth 100000
set_option maxHeartbeats 4000000
namespace Vw
open PySem PySem.Spec PyProof.Rows L2 RT
/-! ### a tuple no times -/
theorem mul0_road (a : Addr) (its : Array Value) (m : Nat) (od : Option Addr) (sl : Array (Option Value)) (k : Tok) (e1 : (its.isEmpty || (0 : Int) == 1) = false) :
    Meets (Builtin.«tuple.__mul__» ⟨[.ref a, .int 0 k], []⟩) (fun _ R s => s.heap.get? a = some { cls := .type "tuple", dict := od, data := .seq its m, slots := sl } ∧
      R (.ok (.ret (Value.ref s.heap.objs.size))) { s with heap := s.heap.push { cls := Value.type "tuple", data := Data.seq #[] } }) :=
  .of_wp fun prog w A R s h => by
    obtain ⟨hp, gl, dd, tk, os⟩ := s
    obtain ⟨hl, h⟩ := h
    have f1 := AutoSeq1.idx_int
    wp_walk using wpAny_loadPart' hl
    repeat (first
      | (refine wpAny_ite_false (by decide) ?_; wp_walk using wpAny_loadPart' hl)
      | (refine wpAny_ite_false (decide_eq_false (by rw [e1]; decide)) ?_; wp_walk using wpAny_loadPart' hl)
      | (refine wpAny_ite_true (by decide) ?_; wp_walk using wpAny_loadPart' hl)
      | (refine wpAny_ite_true (by simp) ?_; wp_walk using wpAny_loadPart' hl))
    exact ⟨_, rfl, h⟩
def rNoTimes (K : PySem.W.Frag) : R2 := fun x y H Q => ∃ (a : Addr) (xs : List V), x = .ref a ∧ y = .int 0 ∧ SqT K H a xs ∧ xs ≠ [] ∧ ∀ p, H p = none → Q (.ref p) (upd H p (.tup []))
theorem op_noTimes {X : Cx} : OpR X (binaryOp .Mult) (rNoTimes X.K) := by
  intro pins st σ H x y v u Q I rx ry ⟨a, xs, ex, ey, hT, hne, q⟩
  subst ex ey
  cases rx
  obtain ⟨tk, rfl⟩ := ry
  obtain ⟨its, r, ⟨ob, ho, hc, m, hd⟩, hs⟩ := I.tuple hT
  obtain ⟨cls, dd, data, sl⟩ := ob
  have hc : cls = .type "tuple" := hc
  have hd : data = .seq its.toArray m := hd
  subst hc hd
  have ln : its.length = xs.length := r.length.symm
  have pos : 0 < its.length := by rw [ln]; exact List.length_pos_iff.mpr hne
  have em : its.toArray.isEmpty = false := by rw [List.isEmpty_toArray]; cases its with
    | nil => cases pos
    | cons _ _ => rfl
  have fin : EP X pins σ Q (.ref st.heap.objs.size) { st with heap := st.heap.push { cls := Value.type "tuple", data := Data.seq #[] } } :=
    ⟨.ref st.heap.objs.size, _, I.laid (t' := st.toks) (o := .tup []) (fun _ _ g => Heap.get?_push_of_some _ g) (Nat.le_refl _) ⟨Nat.zero_le _, [], .nil, IsTup.new _ _⟩, rfl, q _ (I.hok.fresh (Nat.le_refl _))⟩
  exact wpAny_binaryOp_repeat_ref (T := "tuple") (U := "int") (by decide) ⟨_, ho, rfl⟩ (fun s' => typeIs_int s' 0 tk) noFill_tuple_mul F.fills_int_mul F.slot_int_rmul repeat_tuple F.slot_int_index.lookup
    (call_meets F.slot_int_rmul (typeIs_int st 0 tk) F.entry_int_rmul (F.args_int_rmul_2 _ _) (int_rmul_tuple 0 tk a its.toArray m dd sl) ⟨ho, rfl, ⟨_, ho, rfl⟩,
      call_meets F.slot_tuple_mul ⟨_, ho, rfl⟩ F.entry_tuple_mul (F.args_tuple_mul_2 _ _) (mul0_road a its.toArray m dd sl tk (by rw [em]; rfl)) ⟨ho, fin⟩⟩)
theorem oMulA {K : PySem.W.Frag} {X : Cx} (e : X.K = K := by rfl) : OpR X (binaryOp .Mult) (rOr rIMul (rOr (rTimesT K) (rNoTimes K))) := by cases e; exact oOr op_mul (oOr op_timesT op_noTimes)
section
variable {K : PySem.W.Frag} {H : Hp} {Q : VK}
/-- so many times, none too -/
theorem o_timesA {r : R2} {a : Addr} {n : Nat} {xs : List V} {i : Int} (h : SqT K H a xs) (ne : xs ≠ []) (e : i = (n : Nat)) (h2 : n = 0 ∨ 2 ≤ n) (hn : n ≤ 2000) (hz : xs.length ≤ 40) (q : ∀ p H2, H p = none → Same H H2 → H2 p = some (.tup (List.replicate n xs).flatten) → Q (.ref p) H2) : rOr r (rOr (rTimesT K) (rNoTimes K)) (.ref a) (.int i) H Q := by
  rcases h2 with rfl | h2
  · exact .inr (.inr ⟨a, xs, rfl, by rw [e]; rfl, h, ne, fun p np => q p _ np (Same.new np) upd_same⟩)
  · exact .inr (.inl (o_times h ne e h2 hn hz q))
end
end Vw

set_option Elab.async false
set_option linter.all false
set_option maxRecDepth 100000
set_option maxHeartbeats 4000000
namespace Vw
open PySem PySem.Spec PyProof.Rows L2 RT
/-! ### a tuple so many times, none and once too -/
theorem mul1_road (a : Addr) (its : Array Value) (m : Nat) (od : Option Addr) (sl : Array (Option Value)) (k : Tok) (e1 : (its.isEmpty || (1 : Int) == 1) = true) :
    Meets (Builtin.«tuple.__mul__» ⟨[.ref a, .int 1 k], []⟩) (fun _ R s => s.heap.get? a = some { cls := .type "tuple", dict := od, data := .seq its m, slots := sl } ∧
      R (.ok (.ret (Value.ref a))) s) :=
  .of_wp fun prog w A R s h => by
    obtain ⟨hp, gl, dd, tk, os⟩ := s
    obtain ⟨hl, h⟩ := h
    have f1 := AutoSeq1.idx_int
    wp_walk using wpAny_loadPart' hl
    repeat (first
      | (refine wpAny_ite_false (by decide) ?_; wp_walk using wpAny_loadPart' hl)
      | (refine wpAny_ite_true (by rw [e1]) ?_; wp_walk using wpAny_loadPart' hl)
      | (refine wpAny_ite_true (decide_eq_true (by rw [e1])) ?_; wp_walk using wpAny_loadPart' hl)
      | (refine wpAny_ite_true (by decide) ?_; wp_walk using wpAny_loadPart' hl)
      | (refine wpAny_ite_true (by simp) ?_; wp_walk using wpAny_loadPart' hl))
    exact ⟨_, rfl, h⟩
def rOnce (K : PySem.W.Frag) : R2 := fun x y H Q => ∃ (a : Addr) (xs : List V), x = .ref a ∧ y = .int 1 ∧ SqT K H a xs ∧ xs ≠ [] ∧ Q (.ref a) H
theorem op_once {X : Cx} : OpR X (binaryOp .Mult) (rOnce X.K) := by
  intro pins st σ H x y v u Q I rx ry ⟨a, xs, ex, ey, hT, hne, q⟩
  subst ex ey
  cases rx
  obtain ⟨tk, rfl⟩ := ry
  obtain ⟨its, r, ⟨ob, ho, hc, m, hd⟩, hs⟩ := I.tuple hT
  obtain ⟨cls, dd, data, sl⟩ := ob
  have hc : cls = .type "tuple" := hc
  have hd : data = .seq its.toArray m := hd
  subst hc hd
  have fin : EP X pins σ Q (.ref a) st := ⟨.ref a, _, I, rfl, q⟩
  exact wpAny_binaryOp_repeat_ref (T := "tuple") (U := "int") (by decide) ⟨_, ho, rfl⟩ (fun s' => typeIs_int s' 1 tk) noFill_tuple_mul F.fills_int_mul F.slot_int_rmul repeat_tuple F.slot_int_index.lookup
    (call_meets F.slot_int_rmul (typeIs_int st 1 tk) F.entry_int_rmul (F.args_int_rmul_2 _ _) (int_rmul_tuple 1 tk a its.toArray m dd sl) ⟨ho, rfl, ⟨_, ho, rfl⟩,
      call_meets F.slot_tuple_mul ⟨_, ho, rfl⟩ F.entry_tuple_mul (F.args_tuple_mul_2 _ _) (mul1_road a its.toArray m dd sl tk (by simp)) ⟨ho, fin⟩⟩)
def rTimesW (K : PySem.W.Frag) : R2 := fun x y H Q => ∃ (a : Addr) (n : Nat) (xs : List V), x = .ref a ∧ y = .int n ∧ SqT K H a xs ∧ xs ≠ [] ∧ 2 ≤ n ∧ n ≤ 8000 ∧ xs.length ≤ 8 ∧ ∀ p, H p = none → Q (.ref p) (upd H p (.tup (List.replicate n xs).flatten))
theorem timesW_len {α : Type} {xs : List α} {n : Nat} (h : n ≤ 8000) (h2 : xs.length ≤ 8) : (List.replicate n xs).flatten.length ≤ sizeLine := by
  rw [PyProof.Rows.lm_len_rep_flat]
  exact Nat.le_trans (Nat.mul_le_mul h h2) (by decide)
theorem op_timesW {X : Cx} : OpR X (binaryOp .Mult) (rTimesW X.K) := by
  intro pins st σ H x y v u Q I rx ry ⟨a, n, xs, ex, ey, hT, hne, h2, hn, hz, q⟩
  subst ex ey
  cases rx
  obtain ⟨tk, rfl⟩ := ry
  obtain ⟨its, r, ⟨ob, ho, hc, m, hd⟩, hs⟩ := I.tuple hT
  obtain ⟨cls, dd, data, sl⟩ := ob
  have hc : cls = .type "tuple" := hc
  have hd : data = .seq its.toArray m := hd
  subst hc hd
  have ln : its.length = xs.length := r.length.symm
  have pos : 0 < its.length := by rw [ln]; exact List.length_pos_iff.mpr hne
  have em : its.toArray.isEmpty = false := by rw [List.isEmpty_toArray]; cases its with
    | nil => cases pos
    | cons _ _ => rfl
  have sz : its.toArray.size = xs.length := by rw [List.size_toArray, ln]
  have pm : ((its.toArray.size : Nat) : Int) * (n : Int) ≤ 64000 := by
    rw [sz, ← Int.natCast_mul]
    have := Nat.mul_le_mul hz hn
    omega
  have nn : ((n : Nat) : Int).toNat = n := Int.toNat_natCast n
  have tm : Builtin.Tuple.tupleTooMany (((its.toArray.size : Nat) : Int) * (n : Int)) = false := by
    have e : (64000 : Int) < (sizeLine : Nat) := by decide
    unfold Builtin.Tuple.tupleTooMany; exact decide_eq_false (by omega)
  have b0 : (decide ((n : Int) < -(2 ^ 63)) || decide ((n : Int) ≥ 2 ^ 63)) = false := by
    rw [Bool.or_eq_false_iff]; exact ⟨decide_eq_false (by omega), decide_eq_false (by omega)⟩
  have b1 : (its.toArray.isEmpty || (n : Int) == 1) = false := by
    rw [em, Bool.false_or, beq_eq_false_iff_ne]; omega
  have b2 : (decide ((n : Int) ≤ 0) || its.toArray.isEmpty) = false := by
    rw [em, Bool.or_false]; exact decide_eq_false (by omega)
  have fl := size_rep its n
  have road := tuple_mulW a its.toArray m dd sl (n : Int) tk b0 b1 b2 (by omega) tm (by rw [nn, fl, List.size_toArray]; exact timesW_len hn (by omega))
  have fin : EP X pins σ Q (.ref st.heap.objs.size) { st with heap := st.heap.push { cls := Value.type "tuple", data := Data.seq (List.replicate n its).flatten.toArray }, toks := st.toks } :=
    ⟨.ref st.heap.objs.size, _, I.laid (t' := st.toks) (o := .tup (List.replicate n xs).flatten) (fun _ _ g => Heap.get?_push_of_some _ g) (Nat.le_refl _) ⟨timesW_len hn hz, _, r.rep n, IsTup.new _ _⟩, rfl, q _ (I.hok.fresh (Nat.le_refl _))⟩
  exact wpAny_binaryOp_repeat_ref (T := "tuple") (U := "int") (by decide) ⟨_, ho, rfl⟩ (fun s' => typeIs_int s' (n : Int) tk) noFill_tuple_mul F.fills_int_mul F.slot_int_rmul repeat_tuple F.slot_int_index.lookup
    (call_meets F.slot_int_rmul (typeIs_int st (n : Int) tk) F.entry_int_rmul (F.args_int_rmul_2 _ _) (int_rmul_tuple (n : Int) tk a its.toArray m dd sl) ⟨ho, rfl, ⟨_, ho, rfl⟩,
      call_meets F.slot_tuple_mul ⟨_, ho, rfl⟩ F.entry_tuple_mul (F.args_tuple_mul_2 _ _) road ⟨ho, by rw [nn, fl]; exact fin⟩⟩)
abbrev rTimesV (K : PySem.W.Frag) : R2 := rOr (rTimesW K) (rOr (rOnce K) (rNoTimes K))
theorem oTimesV {K : PySem.W.Frag} {X : Cx} (e : X.K = K := by rfl) : OpR X (binaryOp .Mult) (rTimesV K) := by cases e; exact oOr op_timesW (oOr op_once op_noTimes)
section
variable {K : PySem.W.Frag} {H : Hp} {Q : VK}
theorem o_timesV {a : Addr} {n : Nat} {xs : List V} {i : Int} (h : SqT K H a xs) (ne : xs ≠ []) (e : i = (n : Nat)) (hn : n ≤ 8000) (hz : xs.length ≤ 8) (q : ∀ p H2, Same H H2 → SqT K H2 p (List.replicate n xs).flatten → Q (.ref p) H2) : rTimesV K (.ref a) (.int i) H Q := by
  rcases (show n = 0 ∨ n = 1 ∨ 2 ≤ n by omega) with rfl | rfl | h2
  · exact .inr (.inr ⟨a, xs, rfl, by rw [e]; rfl, h, ne, fun p np => q p _ (Same.new np) (stO upd_same)⟩)
  · exact .inr (.inl ⟨a, xs, rfl, by rw [e]; rfl, h, ne, q a H (Same.refl _) (by simpa using h)⟩)
  · exact .inl ⟨a, n, xs, rfl, by rw [e], h, ne, h2, hn, hz, fun p np => q p _ (Same.new np) (stO upd_same)⟩
end
end Vw

set_option Elab.async false
set_option linter.all false
set_option maxRecDepth 100000
set_option maxHeartbeats 4000000
namespace Vw
open PySem PySem.Spec PyProof.Rows L2 RT
/-! ### o.f as one of several targets -/
def gFld (K : PySem.W.Frag) (to : TE) (f : Str) : TG := fun v σ H Q => to σ H fun x H1 => ∃ a C dx fs, x = .ref a ∧ H1 a = some (.ins C dx fs) ∧ Cls K C ∧ NoAttr K C f ∧ fs.length < 1000 ∧ Q σ (upd H1 a (.ins C dx (putF f v fs)))
section
variable {X : Cx} {o : Expr} {to : TE} {f : Str} {pos : Pos}
theorem pg_fld (ho : PE X o to) (ha : ∀ v, assign (.Attribute o f pos) X.env v = (do
      let ov ← holding [v] (eval o X.env)
      standAt pos.atName
      holding [v, ov] (setAttr ov f v)
      release [v, ov] []) := by intro _; rfl) : PG X (.Attribute o f pos) (gFld X.K to f) := by
  refine ⟨fun pins s σ H v u Q I r h => ?_⟩
  rw [ha]
  refine wpAny_bind (wpAny_holding (thn (ho.run pins s σ H _ I h) fun ov s1 ⟨x, H1, I1, r1, a, C, dx, fs, ex, ea, c, n, l, q1⟩ => ?_))
  subst ex
  obtain rfl : ov = Value.ref a := r1
  refine wpAny_bind (wpAny_standAt (wpAny_bind (wpAny_holding ?_)))
  exact setattr_ok I1 ea c n l r fun s3 I3 => wpAny_release ⟨σ, _, I3, q1⟩
end
theorem pgFld {X : Cx} {K : PySem.W.Frag} {o : Expr} {to : TE} {f : Str} {pos : Pos} (ho : PE X o to) (eK : X.K = K := by rfl) (ha : ∀ v, assign (.Attribute o f pos) X.env v = (do
      let ov ← holding [v] (eval o X.env)
      standAt pos.atName
      holding [v, ov] (setAttr ov f v)
      release [v, ov] []) := by intro _; rfl) : PG X (.Attribute o f pos) (gFld K to f) := by cases eK; exact pg_fld ho ha
end Vw
namespace Vw
open PySem PySem.Spec PyProof.Rows L2 RT
/-! ### list.extend of a list -/
theorem list_extend_lst (l : Addr) (items : Array Value) (n : Nat) (b : Addr) (items2 : Array Value) (n2 : Nat) (hs0 : ¬(!items.isEmpty && Builtin.List.listTooLong (items.size + items2.size)) = true) (hs1 : items.size ≤ sizeLine) (hs2 : items.size + items2.size ≤ sizeLine + 1) :
    Meets (Builtin.«list.extend» ⟨[.ref l, .ref b], []⟩) (fun _ R s => s.heap.get? l = some { cls := .type "list", dict := none, data := .seq items n, slots := #[] } ∧ s.heap.get? b = some { cls := .type "list", dict := none, data := .seq items2 n2, slots := #[] } ∧ R (.ok (.ret Value.none)) { s with heap := s.heap.update l (Obj.mapSeq fun x => x ++ items2), toks := s.toks }) :=
  .of_wp fun prog w A R s h => by
    obtain ⟨hp, g, d, tk, os⟩ := s; obtain ⟨hl, hb, h⟩ := h; have f1 := PySem.AutoSeq1.idx_int; have f2 := PySem.AutoSeq1.sub_tuple_tuple; have f3 := PySem.AutoSeq1.sub_list_list; have f4 := PySem.AutoSeq1.sub_tuple_list; have f5 := PySem.AutoSeq1.sub_list_tuple;
    have hz' : (items ++ items2).size ≤ sizeLine + 1 := by rw [Array.size_append]; exact hs2
    wp_walk using (wpAny_updateSeq hl rfl (hz := hs1) (_hz' := hz')), PySem.AutoSeq1.wpAny_loadPart' hl, PySem.AutoSeq1.wpAny_loadPart' hb; exact ⟨_, rfl, h⟩
def rExtL : V → List V → Hp → VK → Prop := fun x vs H Q => ∃ l b xs zs, x = .ref l ∧ vs = [.ref b] ∧ H l = some (.lst xs) ∧ H b = some (.lst zs) ∧ xs.length + zs.length ≤ sizeLine ∧ Q .non (upd H l (.lst (xs ++ zs)))
section
variable {X : Cx}
theorem mt_extL : MtM X "list.extend" rExtL := by
  intro pins s σ H x vs v us Q I rx rv h
  obtain ⟨l, b, xs, zs, rfl, rfl, hH, hB, hz, q⟩ := h
  cases rx
  obtain ⟨u, rfl, ru⟩ := rv.one
  cases ru
  obtain ⟨z, its, n, r, hl, e⟩ := I.lstM hH
  obtain ⟨z2, its2, n2, r2, hl2, e2⟩ := I.lstM hB
  have hl3 := r2.length
  have hsz : its.toArray.size + its2.toArray.size ≤ sizeLine := by rw [List.size_toArray, List.size_toArray]; omega
  have hlong : ¬ (!its.toArray.isEmpty && Builtin.List.listTooLong (its.toArray.size + its2.toArray.size)) = true := by
    rw [show Builtin.List.listTooLong (its.toArray.size + its2.toArray.size) = false from decide_eq_false (by omega), Bool.and_false]
    exact Bool.false_ne_true
  refine call_meets F.slot_list_extend ⟨_, e, rfl⟩ F.entry_list_extend (F.args_list_extend_2 _ _)
    (list_extend_lst l its.toArray n b its2.toArray n2 hlong (by rw [List.size_toArray]; omega) (by omega)) ⟨e, e2, ?_⟩
  refine ⟨.non, _, I.lset (its' := its ++ its2) hH e (by simp) (r.append r2) ?_, rfl, q⟩
  rw [List.length_append]
  omega
end
section
variable {K : PySem.W.Frag} {σ : L2.St} {H : Hp} {Q : VK} {l b : Addr} {xs zs : List V}
theorem r_extL (h : H l = some (.lst xs)) (hb : H b = some (.lst zs)) (hl : xs.length + zs.length < 100000) (q : ∀ H2, Oth l H H2 → H2 l = some (.lst (xs ++ zs)) → Q .non H2) : rExtL (.ref l) [.ref b] H Q :=
  ⟨l, b, xs, zs, rfl, rfl, h, hb, Nat.le_of_lt (lt_size hl), q _ (fun c o z e => by rw [upd_ne z]; exact e) upd_same⟩
end
end Vw

set_option Elab.async false
set_option linter.all false
set_option maxRecDepth 100000
set_option maxHeartbeats 4000000
namespace Vw
open PySem PySem.Spec PyProof.Rows L2 RT
/-! ### a text so many times -/
def repS (z : Str) (n : Nat) : Str := ⟨(List.replicate n z.cps).foldl (· ++ ·) #[]⟩
def rTimesS : R2 := fun x y H Q => ∃ (z : Str) (n : Nat), x = .str z ∧ y = .int n ∧ 1 ≤ z.length ∧ z.length ≤ 100 ∧ 2 ≤ n ∧ n ≤ 100 ∧ (repS z n).length ≤ sizeLine ∧ Q (.str (repS z n)) H
theorem op_timesS {X : Cx} : OpR X (binaryOp .Mult) rTimesS := by
  intro pins st σ H x y v u Q I rx ry ⟨z, n, ex, ey, h1, h2, h3, h4, h5, q⟩
  subst ex ey
  obtain ⟨tz, rfl⟩ := rx
  obtain ⟨tk, rfl⟩ := ry
  have b1 : ((n : Int) == 1 || z.length == 0) = false := by
    rw [Bool.or_eq_false_iff, beq_eq_false_iff_ne, beq_eq_false_iff_ne]; omega
  refine P.mul_str ?_ (fun _ _ => ?_) (fun _ _ => ?_) ?_
  · rw [Bool.or_eq_false_iff]; exact ⟨decide_eq_false (by omega), decide_eq_false (by omega)⟩
  · have : (2 ^ 63 - 1 : Int) / (n : Int) ≥ (2 ^ 63 - 1) / 100 := by
      refine Int.le_ediv_of_mul_le (by omega) ?_
      omega
    omega
  · rw [Int.toNat_natCast]
    have := Nat.mul_le_mul h2 h4
    exact decide_eq_false (by have e : (10000 : Nat) < sizeLine := by decide
                              omega)
  · rw [if_neg (by omega), if_neg (by rw [b1]; exact Bool.false_ne_true), Int.toNat_natCast]
    exact ⟨h5, ⟨.str (repS z n), H, I.tok _, ⟨_, rfl⟩, q⟩⟩
theorem oMulVS {K : PySem.W.Frag} {X : Cx} (e : X.K = K := by rfl) : OpR X (binaryOp .Mult) (rOr rTimesS (rTimesV K)) := oOr op_timesS (oTimesV e)
section
variable {K : PySem.W.Frag} {H : Hp} {Q : VK}
theorem o_timesS {z y : Str} {i : Int} {r : R2} (n : Nat) (e : i = (n : Nat)) (h1 : 1 ≤ z.length) (h2 : z.length ≤ 100) (h3 : 2 ≤ n) (h4 : n ≤ 100) (ey : repS z n = y) (hy : y.length ≤ sizeLine) (q : Q (.str y) H) : rOr rTimesS r (.str z) (.int i) H Q := by
  subst e ey
  exact .inl ⟨z, n, rfl, rfl, h1, h2, h3, h4, hy, q⟩
end
end Vw

set_option Elab.async false
set_option linter.all false
set_option maxRecDepth 100000
set_option maxHeartbeats 4000000
namespace Vw
open PySem PySem.Spec PyProof.Rows L2 RT
/-! ### what is never reached -/
section
variable {X : Cx}
theorem pe_no {e : Expr} : PE X e (fun _ _ _ => False) := ⟨fun _ _ _ _ _ _ h => h.elim⟩
theorem pt_no {e : Expr} : PT X e (fun _ _ _ => False) := ⟨fun _ _ _ _ _ _ h => h.elim⟩
theorem ps_no {st : Stmt} : PS X st (fun _ _ _ => False) := ⟨fun _ _ _ _ _ _ h => h.elim⟩
theorem pg_no {tg : Expr} : PG X tg (fun _ _ _ _ => False) := ⟨fun _ _ _ _ _ _ _ _ _ h => h.elim⟩
theorem pss_no {st : List Stmt} : PSs X st (fun _ _ _ => False) := ⟨fun _ _ _ _ _ _ h => h.elim⟩
end
/-! ### a comprehension of several clauses over nothing -/
section
variable {prog : Program} {w : World} {A : Around} {R : Result → Shared → Prop} {s : Shared} {elt tg iter : Expr} {ifs : List Expr} {rest : List Comprehension} {scope : Scope} {pos : Pos} {it acc : Value} {env : Env}
theorem compEnds (h : wpAny (model prog w) A (pyNext it) (fun r s1 => r = none ∧ R (.ok .next) s1) (fun _ _ => False) s) :
    codeAny (model prog w) A (.compLoop (.ListComp elt (⟨tg, iter, ifs, 0⟩ :: rest) scope pos) 0 it acc env) R s := by
  refine codeAny_of_tree ?_
  show wpAny _ A ((compTurn (.ListComp elt (⟨tg, iter, ifs, 0⟩ :: rest) scope pos) 0 it acc env).onRaise (fun x => do noteFrame x env; theTreesLotGoes x)) _ _ s
  refine wpAny_noted ?_
  unfold compTurn
  refine wpAny_bind (wpAny_standAt (wpAny_bind (wpAny_mono h (fun r s1 h1 => ?_) fun _ _ z => z.elim)))
  obtain ⟨rfl, h1⟩ := h1
  exact wpAny_pure h1
end
section
variable {X : Cx}
def tLcE (wi : TI) : TE := fun σ H Q => wi σ H fun J H1 => ∀ D, H1 D = none → J.stop 0 (upd H1 D (.lst [])) ∧ Q (.ref D) (upd H1 D (.lst []))
theorem pe_lcE {elt tg iter : Expr} {ifs : List Expr} {rest : List Comprehension} {scope : Scope} {own : List (Str × Nat)} {pos : Pos} {wi : TI} (hc : X.calm = true) (hN : X.N.Nodup) (hi : PI X tg iter wi) (ok : BlkOk X.N X.env.scope scope own)
    (hs : ∀ x, foldedSetIterable iter X.env x = pure x := by intro _; rfl) : PE X (.ListComp elt (⟨tg, iter, ifs, 0⟩ :: rest) scope pos) (tLcE wi) := by
  refine ⟨fun pins s σ H Q I h => ?_⟩
  rw [eval_ListComp]
  have frees : ∀ z ∈ scope.names, z.2 = .free → ∃ c, X.env.cells.lookup z.1 = some c := fun z hz e => (ok.free z hz e).elim (fun k => I.ok.has _ (.inl k)) fun k => I.ok.has _ (.inr k)
  refine wpAny_comprehension_free (use := none) rfl hs (closure_ok frees) ok.kind (fun z hz e => by rw [ok.uniq z hz, e]) (thn (hi.run pins s σ H _ I h) fun xv s1 hx => thn hx fun itv s2 h2 => ?_)
  obtain ⟨it, fp, tn, J, H2, e, I2, T, st2, f2, q⟩ := h2
  subst e
  refine wpAny_newObj_type (newEnv_comp ?_) (by show 0 ≤ sizeLine; decide)
  generalize hD : s2.heap.objs.size = D
  have nD : H2 D = none := I2.hok.fresh (Nat.le_of_eq hD)
  obtain ⟨stop, qq⟩ := q D nD
  generalize hs3 : ({ s2 with heap := s2.heap.push { cls := .type "list", data := .seq ([] : List Value).toArray } } : Shared) = s3
  have I3 : Inv X pins σ (upd H2 D (.lst [])) s3 := by
    rw [← hs3]
    refine I2.laid (t' := s2.toks) (fun b o e => Heap.get?_push_of_some _ e) (Nat.le_of_eq hD) ⟨Nat.zero_le _, [], 0, .nil, ?_⟩
    rw [← hD]; exact Heap.get?_push_size _ rfl
  have h3 : s3.heap = s2.heap.push { cls := .type "list", data := .seq ([] : List Value).toArray } := by rw [← hs3]
  have old : ∀ b ∈ fp, b < s2.heap.objs.size := fun b hb => (T.obj _ _ st2 b hb).elim fun o e => Heap.lt_size e.1
  have f3 : ∀ b ∈ fp, FpOk X pins (upd H2 D (.lst [])) b ∧ b < s3.heap.objs.size := fun b hb => by
    have l := old b hb
    have nb : upd H2 D (.lst []) b = none := by
      rw [upd_ne (by rw [← hD]; exact Nat.ne_of_lt l)]; exact (f2 b hb).1
    exact ⟨⟨nb, (f2 b hb).2⟩, by rw [h3, Heap.size_push]; exact Nat.lt_succ_of_lt l⟩
  have st3 : tn 0 s3.heap := T.keep _ _ _ st2 fun b _ o e => by rw [h3]; exact Heap.get?_push_of_some _ e
  have I4 := block_start I3 ok hN f3
  show codeAny _ _ (.compStart (.ListComp elt (⟨tg, iter, ifs, 0⟩ :: rest) scope pos) 0 (.ref it) (.ref D) (compEnvC scope (cellsFrom (s3.heap.objs.size + 1) scope.names (cloFrom X.env.cells scope.names [])) s3.heap.objs.size X.env)) (compPost (model X.prog X.w) X.A X.xe none _ (.ref D) s3.heap.objs.size) { s3 with heap := pushCells (s3.heap.push { cls := .type "dict", data := .dict #[] }) scope.names }
  have none3 : ∀ b ∈ fp, (upd H2 D (.lst [])) b = none := fun b hb => (f3 b hb).1.1
  generalize hce : compEnvC scope (cellsFrom (s3.heap.objs.size + 1) scope.names (cloFrom X.env.cells scope.names [])) s3.heap.objs.size X.env = ce at I4 ⊢
  have cL : ce.locals = s3.heap.objs.size := by subst hce; rfl
  generalize hH3 : upd H2 D (.lst []) = H3 at I3 I4 none3 f3 stop qq
  generalize hs4 : ({ s3 with heap := pushCells (s3.heap.push { cls := .type "dict", data := .dict #[] }) scope.names } : Shared) = s4 at I4 ⊢
  have st4 : tn 0 s4.heap := T.keep _ _ _ st3 fun b _ o e => by rw [← hs4]; exact pushCells_keeps _ _ _ _ (Heap.get?_push_of_some _ e)
  have stat : ∀ b ∈ fp, FpOk (X.blk s3 H3 scope ce fp) [] H3 b := fun b hb => ⟨none3 b hb, (I4.ok.exf b hb).1, I4.ok.exfs b hb, .inl hb, fun x c e => (I4.ok.exf b hb).2 x c e, fun p hp => absurd (show p ∈ ([] : List (Addr × Obj)) ++ [] from hp) (by simp)⟩
  have loop : codeAny (model X.prog X.w) X.A (.compLoop (.ListComp elt (⟨tg, iter, ifs, 0⟩ :: rest) scope pos) 0 (.ref it) (.ref D) ce) (compPost (model X.prog X.w) X.A X.xe none (EP X pins σ Q) (.ref D) s3.heap.objs.size) s4 := by
    refine compEnds (wpAny_mono (T.done (X.blk s3 H3 scope ce fp) rfl rfl rfl hc 0 [] s4 _ H3 (fun _ _ => False) I4 stat st4 stop) (fun r s6 hr => ?_) fun _ _ z => z)
    obtain ⟨er, I6⟩ := hr
    refine ⟨er, ?_⟩
    have I7 : Inv X pins σ H3 s6 := I3.call' (ch := fp) I6.os I6.base I6.hok I6.bare fun b hb => ⟨(f3 b hb).1.2.2.2.1, (f3 b hb).1.2.1, (f3 b hb).1.2.2.2.2.1, (f3 b hb).1.2.2.2.2.2⟩
    have nC : H3 s3.heap.objs.size = none := by
      have z : H3 ce.locals = none := I6.free
      rw [cL] at z; exact z
    obtain ⟨m, hn, _⟩ := I6.loc
    have hn : s6.heap.Ns ce.locals m := hn
    rw [cL] at hn
    refine ⟨m, hn, fun h'' sb => ?_⟩
    obtain ⟨f0, f1, f2, f3, f4, f5⟩ := I3.fpOk (Nat.le_refl _) nC
    exact ⟨.ref D, H3, I7.turned (t' := s6.toks) (fun b o hb e => (sb.2 b hb).trans e) f0 f1 f3 f4 f5, rfl, qq⟩
  exact codeAny_compStart_list loop (T.self X.A 0 _ _ _ st4 loop)
end
end Vw

set_option Elab.async false
set_option linter.all false
set_option maxRecDepth 100000
set_option maxHeartbeats 4000000
namespace Vw
open PySem PySem.Spec PyProof.Rows L2 RT
/-! ### == and != of data in which dicts of whole numbers lie -/
def intK : Key → Bool
  | .inl _ => true
  | .inr _ => false
theorem intK_of {k : Key} (h : intK k = true) : ∃ i, k = Sum.inl i := by
  cases k with
  | inl i => exact ⟨i, rfl⟩
  | inr x => cases h
/-- a dict of whole numbers is one in every world -/
theorem pairs_any {p p' : Program} {w w' : World} : ∀ {es : List DictEntry} {va : List (Key × Value)}, Pairs (mixKind p w) es va → Pairs (mixKind p' w') es va := fun h => by
  induction h with
  | nil => exact .nil
  | cons a b _ k => exact .cons a b k
theorem dictOf_any {p p' : Program} {w w' : World} {h : Heap} {a : Addr} {va : List (Key × Value)} (d : h.DictOf (mixKind p w) a va) (i : ∀ q ∈ va, intK q.1 = true) : h.DictOf (mixKind p' w') a va := by
  obtain ⟨o, es, ep, h1, h2, h3, h4, h5, h6⟩ := d
  refine ⟨o, es, ep, h1, h2, h3, fun e me => ?_, pairs_any h5, h6⟩
  obtain ⟨k, k1, k2⟩ := h4 e me
  refine ⟨k, k1, ?_⟩
  obtain ⟨j, hj, ej⟩ := List.getElem_of_mem (Array.mem_toList_iff.mpr me)
  have lj : j < va.length := by rw [← h5.length]; exact hj
  obtain ⟨q1, _⟩ := h5.get? (i := j) (e := e) (k := va[j].1) (v := va[j].2) (by rw [List.getElem?_eq_getElem hj, ej]) (List.getElem?_eq_getElem lj)
  have ek : k = va[j].1 := (mixKind p w).inj _ _ _ k1 q1
  obtain ⟨n, en⟩ := intK_of (i va[j] (List.getElem_mem lj))
  rw [ek, en] at k2 ⊢
  exact k2
def EqX (K : PySem.W.Frag) (H : Hp) : Nat → V → V → Prop
  | 0 => fun _ _ => False
  | n + 1 => fun x y => (x = y ∧ flatB x = true) ∨ (∃ a b xs ys, x = .ref a ∧ y = .ref b ∧ SqT K H a xs ∧ SqT K H b ys ∧ Paired (EqX K H n) xs ys) ∨ (∃ a b xs ys, x = .ref a ∧ y = .ref b ∧ SqL K H a xs ∧ SqL K H b ys ∧ Paired (EqX K H n) xs ys) ∨
    ∃ a b ks ls, x = .ref a ∧ y = .ref b ∧ H a = some (.dK ks) ∧ H b = some (.dK ls) ∧ ks.length = ls.length ∧ (∀ p ∈ ks, intK p.1 = true) ∧ (∀ p ∈ ls, intK p.1 = true) ∧ ∀ p ∈ ks, ∃ u, valV ls p.1 = some u ∧ EqX K H n p.2 u
theorem items_at {A : Around} {s : Shared} {F : V → V → Prop} (ih : ∀ x y v u, F x y → RelV x v → RelV y u → SeqAt.EqAt A s v u true) {xs ys : List V} (hp : Paired F xs ys) :
    ∀ {us ws : List Value}, Vals xs us → Vals ys ws → ∀ j (h1 : j < us.length) (h2 : j < ws.length), SeqAt.EqAt A s us[j] ws[j] true := by
  induction hp with
  | nil =>
    intro us ws r1 _ j h1
    cases r1
    exact absurd h1 (Nat.not_lt_zero j)
  | cons h _ k =>
    intro us ws r1 r2 j h1 h2
    cases r1 with
    | cons a1 b1 =>
      cases r2 with
      | cons a2 b2 =>
        cases j with
        | zero => exact ih _ _ _ _ h a1 a2
        | succ j => exact k b1 b2 j (Nat.lt_of_succ_lt_succ h1) (Nat.lt_of_succ_lt_succ h2)
theorem hits_at {A : Around} {s : Shared} {F : V → V → Prop} (ih : ∀ x y v u, F x y → RelV x v → RelV y u → SeqAt.EqAt A s v u true) {ls : List (Key × V)} {vb : List (Key × Value)} (rb : KV ls vb) {ks : List (Key × V)} {va : List (Key × Value)}
    (ra : KV ks va) : (∀ p ∈ ks, ∃ u, valV ls p.1 = some u ∧ F p.2 u) → PySem.W.KeqHits A s vb va true := by
  unfold KV at ra
  induction ra with
  | nil => intro _; exact .nil
  | @cons p q ps qs h t k =>
    intro hp
    obtain ⟨h1, h2⟩ := h
    obtain ⟨u, e, f⟩ := hp p (by simp)
    have rr : RelO (some u) (valueAt vb p.1) := by rw [← e]; exact rb.val p.1
    obtain ⟨y, hy, ry⟩ := rr.some_of
    obtain ⟨key, v⟩ := q
    obtain rfl : p.1 = key := h1
    show PySem.W.KeqHits A s vb ((p.1, v) :: qs) (true && true)
    exact .hit hy (ih _ _ _ _ f h2 ry) (k fun p' hm => hp p' (List.mem_cons_of_mem _ hm))
theorem kv_int {ks : List (Key × V)} {va : List (Key × Value)} (r : KV ks va) : (∀ p ∈ ks, intK p.1 = true) → ∀ q ∈ va, intK q.1 = true := by
  unfold KV at r
  induction r with
  | nil => intro _ q hq; cases hq
  | @cons p q ps qs h t k =>
    intro hp x hx
    rcases List.mem_cons.mp hx with z | z
    · rw [z, ← h.1]; exact hp p (by simp)
    · exact k (fun p' hm => hp p' (List.mem_cons_of_mem _ hm)) x z
section
variable {X : Cx} {pins : List (Addr × Obj)} {σ : L2.St} {H : Hp} {s : Shared}
theorem eqX_run (I : Inv X pins σ H s) : ∀ (n : Nat) (A : Around), A.units + n < cLine → ∀ (x y : V) (v u : Value), EqX X.K H n x y → RelV x v → RelV y u → SeqAt.EqAt A s v u true
  | 0, _, _, _, _, _, _, h, _, _ => (show False from h).elim
  | n + 1, A, hu, x, y, v, u, h, rx, ry => by
    have ih := eqX_run I n A.in1 (by show A.units + 1 + n < cLine; omega)
    rcases h with ⟨rfl, f⟩ | ⟨a, b, xs, ys, rfl, rfl, ha, hb, hp⟩ | ⟨a, b, xs, ys, rfl, rfl, ha, hb, hp⟩ | ⟨a, b, ks, ls, rfl, rfl, ha, hb, hl, i1, i2, hp⟩
    · exact eqAt_same rx ry f
    all_goals (cases (show v = Value.ref a from rx); cases (show u = Value.ref b from ry); by_cases e : a = b; (· subst e; exact SeqAt.EqAt.same _); refine SeqAt.EqAt.of_refs e ?_)
    · obtain ⟨us, r1, p1, _⟩ := I.tuple ha
      obtain ⟨ws, r2, p2, _⟩ := I.tuple hb
      have sz : us.toArray.size = ws.toArray.size := by rw [List.size_toArray, List.size_toArray, ← r1.length, ← r2.length]; exact Paired.length hp
      have k := SeqAt.RcAt.tuples (e := fun _ => true) p1 p2 (A := A) (by omega) (fun j h1 h2 => by have q := items_at ih hp r1 r2 j (by simpa using h1) (by simpa using h2); simpa using q)
      rw [show ((List.range (min us.toArray.size ws.toArray.size)).all fun _ => true) = true from List.all_eq_true.mpr fun _ _ => rfl, sz] at k
      simpa using k
    · obtain ⟨us, r1, p1, _⟩ := I.list ha
      obtain ⟨ws, r2, p2, _⟩ := I.list hb
      have sz : us.toArray.size = ws.toArray.size := by rw [List.size_toArray, List.size_toArray, ← r1.length, ← r2.length]; exact Paired.length hp
      have k := SeqAt.RcAt.lists (e := fun _ => true) p1.isList p2.isList (A := A) sz (by omega) (fun j h1 h2 => by have q := items_at ih hp r1 r2 j (by simpa using h1) (by simpa using h2); simpa using q)
      rw [show ((List.range us.toArray.size).all fun _ => true) = true from List.all_eq_true.mpr fun _ _ => rfl] at k
      exact k
    · obtain ⟨_, ya, va, ra, da⟩ := (show ObjOk X.prog X.w H s.heap a (.dK ks) from I.hok a _ ha)
      obtain ⟨_, yb, vb, rb, db⟩ := (show ObjOk X.prog X.w H s.heap b (.dK ls) from I.hok b _ hb)
      intro p' w' E Q q
      have e2 : va.length = vb.length := by rw [← ra.length, ← rb.length]; exact hl
      refine PySem.W.keq_eq (knd := mixKind p' w') (r := true) ya yb (dictOf_any da (kv_int ra i1)) (dictOf_any db (kv_int rb i2)) (by omega) (fun _ => hits_at ih rb ra hp) ?_
      rw [show (va.length == vb.length && true) = true from by rw [e2]; simp]
      exact q
end
section
variable {X : Cx}
/-- two lists that are equal -/
def rNeX (K : PySem.W.Frag) : R2 := fun x y H Q => ∃ a b xs ys, x = .ref a ∧ y = .ref b ∧ SqL K H a xs ∧ SqL K H b ys ∧ Paired (EqX K H 20) xs ys ∧ Q (.bl false) H
theorem op_neX (hu : X.A.units + 64 < cLine) : OpR X (compareOp .NotEq) (rNeX X.K) := by
  intro pins s σ H x y v u Q I rx ry h
  obtain ⟨a, b, xs, ys, rfl, rfl, ha, hb, hp, q⟩ := h
  cases (show v = Value.ref a from rx)
  cases (show u = Value.ref b from ry)
  obtain ⟨us, r1, p1, _⟩ := I.list ha
  obtain ⟨ws, r2, p2, _⟩ := I.list hb
  have sz : us.toArray.size = ws.toArray.size := by rw [List.size_toArray, List.size_toArray, ← r1.length, ← r2.length]; exact Paired.length hp
  have ih := eqX_run I 20 X.A.in1 (by show X.A.units + 1 + 20 < cLine; omega)
  have k := SeqAt.RcNeAt.lists (e := fun _ => true) p1.isList p2.isList (A := X.A) sz (by omega) (fun j h1 h2 => by have q := items_at ih hp r1 r2 j (by simpa using h1) (by simpa using h2); simpa using q)
  rw [show ((List.range us.toArray.size).all fun _ => true) = true from List.all_eq_true.mpr fun _ _ => rfl] at k
  exact k X.prog X.w _ _ ⟨.bl false, H, I, rfl, q⟩
def rEqX (K : PySem.W.Frag) : R2 := fun x y H Q => ∃ a b xs ys, x = .ref a ∧ y = .ref b ∧ SqL K H a xs ∧ SqL K H b ys ∧ Paired (EqX K H 20) xs ys ∧ Q (.bl true) H
theorem op_eqX (hu : X.A.units + 64 < cLine) : OpR X (compareOp .Eq) (rEqX X.K) := by
  intro pins s σ H x y v u Q I rx ry h
  obtain ⟨a, b, xs, ys, rfl, rfl, ha, hb, hp, q⟩ := h
  cases (show v = Value.ref a from rx)
  cases (show u = Value.ref b from ry)
  obtain ⟨us, r1, p1, _⟩ := I.list ha
  obtain ⟨ws, r2, p2, _⟩ := I.list hb
  have sz : us.toArray.size = ws.toArray.size := by rw [List.size_toArray, List.size_toArray, ← r1.length, ← r2.length]; exact Paired.length hp
  have ih := eqX_run I 20 X.A.in1 (by show X.A.units + 1 + 20 < cLine; omega)
  have k := SeqAt.RcAt.lists (e := fun _ => true) p1.isList p2.isList (A := X.A) sz (by omega) (fun j h1 h2 => by have q := items_at ih hp r1 r2 j (by simpa using h1) (by simpa using h2); simpa using q)
  rw [show ((List.range us.toArray.size).all fun _ => true) = true from List.all_eq_true.mpr fun _ _ => rfl] at k
  exact k X.prog X.w _ _ ⟨.bl true, H, I, rfl, q⟩
end
theorem oNeX {K : PySem.W.Frag} {X : Cx} (hu : X.A.units + 64 < cLine) (e : X.K = K := by rfl) : OpR X (compareOp .NotEq) (rNeX K) := by cases e; exact op_neX hu
theorem oEqX {K : PySem.W.Frag} {X : Cx} (hu : X.A.units + 64 < cLine) (e : X.K = K := by rfl) : OpR X (compareOp .Eq) (rEqX K) := by cases e; exact op_eqX hu
end Vw

set_option Elab.async false
set_option linter.all false
set_option maxRecDepth 100000
set_option maxHeartbeats 4000000
namespace Vw
open PySem PySem.Spec PyProof.Rows L2 RT
/-! ### a list so many times -/
def rTimesL : R2 := fun x y H Q => ∃ (a : Addr) (n : Nat) (xs : List V), x = .ref a ∧ y = .int n ∧ H a = some (.lst xs) ∧ n * xs.length ≤ 10000 ∧ n ≤ 10000 ∧ ∀ p, H p = none → Q (.ref p) (upd H p (.lst (List.replicate n xs).flatten))
theorem op_timesL {X : Cx} : OpR X (binaryOp .Mult) rTimesL := by
  intro pins st σ H x y v u Q I rx ry ⟨a, n, xs, ex, ey, hL, hn, hn2, q⟩
  subst ex
  cases rx
  obtain ⟨j, ej⟩ : ∃ j : Int, j = (n : Nat) := ⟨_, rfl⟩
  rw [← ej] at ey
  subst ey
  obtain ⟨tk, rfl⟩ := ry
  have jn : j.toNat = n := by omega
  obtain ⟨z, its, m, r, hl, ho⟩ := I.lstM hL
  have ln : its.length = xs.length := r.length.symm
  have fl : (List.foldl (fun x1 x2 => x1 ++ x2) #[] (List.replicate (if its.toArray.isEmpty = true then 0 else j.toNat) its.toArray)) = (List.replicate n its).flatten.toArray := by
    rw [jn]
    cases its with
    | nil => simp
    | cons b bs =>
      rw [if_neg (by simp)]
      exact size_rep (b :: bs) n
  have big : (10000 : Nat) ≤ sizeLine := by decide
  have lenF : (List.replicate n xs).flatten.length ≤ sizeLine := by rw [lm_len_rep_flat]; omega
  have fin : EP X pins σ Q (.ref st.heap.objs.size) { st with heap := st.heap.push { cls := Value.type "list", data := Data.seq (List.replicate n its).flatten.toArray } } :=
    ⟨.ref st.heap.objs.size, _, I.laid (t' := st.toks) (o := .lst (List.replicate n xs).flatten) (fun _ _ g => Heap.get?_push_of_some _ g) (Nat.le_refl _) ⟨lenF, _, 0, r.rep n, Heap.get?_push_size _ rfl⟩, rfl, q _ (I.hok.fresh (Nat.le_refl _))⟩
  have sz2 : its.toArray.size * j.toNat ≤ 10000 := by rw [List.size_toArray, ln, jn, Nat.mul_comm]; exact hn
  have c0 : ¬ (!Builtin.List.listFitsIndex j) = true := by
    have : Builtin.List.listFitsIndex j = true := by
      unfold Builtin.List.listFitsIndex
      rw [Bool.and_eq_true]
      exact ⟨decide_eq_true (by omega), decide_eq_true (by omega)⟩
    rw [this]; decide
  have c2 : ¬ Builtin.List.listTooLong (its.toArray.size * j.toNat) = true := by
    intro h
    have h := of_decide_eq_true h
    omega
  have road := lm_list_mul_any a its.toArray m none #[] j tk c0 (by omega) c2
  rw [fl] at road
  exact wpAny_binaryOp_repeat_ref (T := "list") (U := "int") (by decide) ⟨_, ho, rfl⟩ (fun s' => typeIs_int s' j tk) noFill_list_mul F.fills_int_mul F.slot_int_rmul repeat_list F.slot_int_index.lookup
    (call_meets F.slot_int_rmul (typeIs_int st j tk) F.entry_int_rmul (F.args_int_rmul_2 _ _) (lm_int_rmul_list_any j tk a its.toArray m none #[]) ⟨ho, rfl, ⟨_, ho, rfl⟩,
      call_meets F.slot_list_mul ⟨_, ho, rfl⟩ F.entry_list_mul (F.args_list_mul_2 _ _) road ⟨ho, fin⟩⟩)
theorem oTimesL {X : Cx} : OpR X (binaryOp .Mult) rTimesL := op_timesL
/-! ### a handler that catches what is let out, whatever stands behind it -/
def wTell (K : PySem.W.Frag) (i : Nat) (c : Value) (u : Addr → Value → Option Addr → TS) (D : Ends) : WX := fun k d σ H => PySem.W.exmOne K k c = some true ∧ ∀ x, H x = none → u x k d (offI i D) (σ.set i (some (.ref x))) H
section
variable {X : Cx} {n x0 : Str} {i : Nat} {body bs : List Stmt} {b : Stmt} {c : Value} {u : Addr → Value → Option Addr → TS} {p1 p2 pos : Pos} {hds : List ExceptHandler} {tb : WX → TS}
theorem ps_tell1 (st : X.stack = X.env :: X.outer) (fr : X.env.frame = some X.env.locals) (nd : X.N.Nodup) (at_ : X.N[i]? = some n) (lo : X.env.kindOf n = some .local)
    (bo : ∀ (W : WX) (pn : List (Addr × Obj)) (xe : Value → Shared → Prop), Takes (X.tr pn xe) W → PassesOwn (model X.prog X.w) X.A X.env xe → PSs (X.tr pn xe) body (tb W))
    (hc : Names X x0 c) (hu : ∀ (x : Addr) (o : Obj) (k : Value) (d : Option Addr) (pn : List (Addr × Obj)), Zc k d o → (∃ vs, o.data = .fields vs) → PSs (X.suite x ((x, o) :: pn)) (b :: bs) (u x k d)) :
    PS X (.Try body (.ExceptHandler (some (.Name x0 p1)) (some n) (b :: bs) p2 :: hds) [] [] pos) (fun D σ H => tb (wTell X.K i c u D) D σ H) := by
  refine ⟨fun pins s σ H D I q0 => ?_⟩
  have kk := I.ok
  have frs2 : X.A.frames = some (X.env :: X.outer) := by rw [kk.frames, st]
  have hl2 : Loc X.env.scope n := .inl lo
  refine wpAny_Try_except ?_
  refine wpAny_mono ((bo (wTell X.K i c u D) (X.pn ++ pins) (fun e sa => wpAny (model X.prog X.w) X.A (noteFrame e X.env) (fun _ sb => wpAny (model X.prog X.w) X.A (setFlight e none) (fun _ sc =>
    wpAny (model X.prog X.w) X.A (handleBy e X.env (.ExceptHandler (some (.Name x0 p1)) (some n) (b :: bs) p2 :: hds)) (SP X pins D) X.xe sc) X.xe sb) X.xe sa) (fun u2 s' xx => ?_) PassesOwn.looking).run [] s σ H D (I.toTry _) q0) (fun f s1 hsp => ?_) (fun e s1 z => z)
  · obtain ⟨x, B, sI, _, σ2, H2, k, d, rfl, Ja, nb, up, sky, nx2, os, ag, w⟩ := xx
    have Jb : Inv X pins σ2 H2 sI := Ja.ofTry kk
    have sk2 : Sky B (X.env :: X.outer) x (Zc k d) X.env.locals s'.heap := by rw [← st]; exact sky
    show wpAny (model X.prog X.w) X.A (noteFrame (.ref x) X.env) _ _ _
    refine Sky.land Zc.steady frs2 fr sk2 fun ha fa ua => ?_
    have Jc : Inv X pins σ2 H2 { s' with heap := ha } := Jb.landed nb fa.1 (up.trans ua) os ag
    obtain ⟨oa, va, ea, za, da⟩ := fa.there
    have nfa : x ∉ frs (X.env :: X.outer) := fun m => by
      obtain ⟨_, o2, e2, nf⟩ := fa.2.2.1.mem m
      rw [ea] at e2
      cases e2
      exact nf _ da
    have nla : x ≠ X.env.locals := fun z => nfa (List.mem_filterMap.mpr ⟨X.env, List.mem_cons_self, by rw [fr, z]⟩)
    have nfs : x ∉ X.fs := fun m => by
      obtain ⟨e, me, q⟩ := List.mem_filterMap.mp m
      exact nfa (List.mem_filterMap.mpr ⟨e, List.mem_cons_of_mem _ me, q⟩)
    have Sa := Jc.suite ea da nx2 nla nfs
    obtain ⟨e1, yes⟩ := w
    refine wpAny_handleBy_cons (codeAny_handlers_test ?_) (by intro q; cases q)
    have LA : PySem.W.Looks (model X.prog X.w) ha (typeOf (.ref x)) k := fun A Q E s k2 q => wpAny_typeOf_ref (k2 _ _ ea) (by rw [za.1]; exact q)
    have LB := PySem.W.exm_one (M := model X.prog X.w) Jc.kIn LA e1
    have tst : ∀ {Q E : Value → Shared → Prop}, Q c { s' with heap := ha } → wpAny (model X.prog X.w) (X.A.mark (some (.ref x))) (eval (.Name x0 p1) X.env) Q E { s' with heap := ha } := fun {Q E} q => by
      obtain ⟨g1, g2, g3 | ⟨g3, g4, g5⟩⟩ := hc
      · exact ld_glob (X := X.suite x ((x, oa) :: (X.pn ++ pins))) Sa g1 g3 q g2
      · exact ld_blt (X := X.suite x ((x, oa) :: (X.pn ++ pins))) Sa g1 g3 g4 q g5 g2
    refine tst (LB.here ?_)
    refine codeAny_handlers_suite_as ?_
    refine HandSPX.lands_againZ fa fun hb fb ub => ?_
    have Jd : Inv X pins σ2 H2 { s' with heap := hb } := Jb.landed nb fb.1 ((up.trans ua).trans ub) os ag
    obtain ⟨ob, vb, eb, zb, db⟩ := fb.there
    have Sb := Jd.suite eb db nx2 nla nfs
    refine store_ok (X := X.suite x ((x, ob) :: (X.pn ++ pins))) (v := .ref x) Sb nd at_ hl2 rfl (fun s5 Sc => ?_) (.inr lo)
    refine wpAny_mono ((hu x ob k d (X.pn ++ pins) zb ⟨_, db⟩).run [] s5 _ H2 _ Sc (yes x nx2)) (fun f s6 hs6 => ?_) (fun _ _ z => z.elim)
    have fin : ∀ {σ6 : L2.St} {H6 : Hp} {Q : Shared → Prop}, Inv (X.suite x ((x, ob) :: (X.pn ++ pins))) [] σ6 H6 s6 → (∀ s7, Inv X pins (σ6.set i none) H6 s7 → Q s7) →
        wpAny (model X.prog X.w) X.A (do bindName X.env n .none; unbindBehindTheSuite X.env n p2) (fun _ s7 => Q s7) X.xe s6 := fun {σ6 H6 Q} Sd hq => gone_ok (Sd.unsuite kk) nd at_ lo hq
    cases f with
    | next =>
      obtain ⟨_, _, Sd, q6⟩ := hs6
      exact fin Sd fun s7 Je => ⟨_, _, Je, q6⟩
    | brk =>
      obtain ⟨_, _, Sd, q6⟩ := hs6
      exact fin Sd fun s7 Je => ⟨_, _, Je, q6⟩
    | cont =>
      obtain ⟨_, _, Sd, q6⟩ := hs6
      exact fin Sd fun s7 Je => ⟨_, _, Je, q6⟩
    | ret u6 =>
      obtain ⟨_, _, _, Sd, r6, q6⟩ := hs6
      exact fin Sd fun s7 Je => ⟨_, _, _, Je, r6, q6⟩
  · cases f with
    | next =>
      obtain ⟨_, _, Je, q⟩ := hsp
      exact wpAny_execs_nil ⟨_, _, Je.ofTry kk, q⟩
    | brk =>
      obtain ⟨_, _, Je, q⟩ := hsp
      exact ⟨_, _, Je.ofTry kk, q⟩
    | cont =>
      obtain ⟨_, _, Je, q⟩ := hsp
      exact ⟨_, _, Je.ofTry kk, q⟩
    | ret u6 =>
      obtain ⟨_, _, _, Je, r, q⟩ := hsp
      exact ⟨_, _, _, Je.ofTry kk, r, q⟩
end
end Vw

set_option Elab.async false
set_option linter.all false
set_option maxRecDepth 100000
set_option maxHeartbeats 4000000
namespace Vw
open PySem PySem.Spec PyProof.Rows L2 RT
/-! ### defs that are called where no text of an object is being made -/
structure FnG (P : Program) (w : World) (K : PySem.W.Frag) (mg : Str → Option Value) (base : Heap) (CX : CXT) (k : Nat) (f : Addr) (fd : FuncData) (ps : List Str) (sp : Sp) : Prop where
  len : ∀ vs H Q E, sp vs H Q E → vs.length = ps.length
  run : ∀ (A : Around) (outer : List Env) (s : Shared) (H : Hp) (args : Args) (us : List Value) (vs : List V) (Q : VK) (E : XK), A.guards = some [] → Room k A → Env0 P w K mg base A outer s H → BindsTo s fd args (ps.zip us) → Vals vs us → sp vs H Q E →
    codeAny (model P w) A (.call (.ref f) args) (CR CX outer P w H s Q E) s
theorem FnG.of {P : Program} {w : World} {K : PySem.W.Frag} {mg : Str → Option Value} {base : Heap} {CX : CXT} {k : Nat} {f : Addr} {fd : FuncData} {ps : List Str} {sp : Sp} (F : FnOk P w K mg base CX k f fd ps sp) : FnG P w K mg base CX k f fd ps sp :=
  ⟨F.len, fun A outer s H args us vs Q E _ => F.run A outer s H args us vs Q E⟩
section
variable {X : Cx} {CX : CXT} {k : Nat} {f : Addr} {fd : FuncData} {ps : List Str} {sp : Sp} {dvs : List V} {ds : List Value} {E : XK} {x : Str} {p pos : Pos} {e : Expr} {es : List Expr} {t : TA}
theorem run_fnG {pins : List (Addr × Obj)} {σ : L2.St} {H : Hp} {s : Shared} {Q : VK} {us : List Value} {vs : List V} (gd : X.A.guards = some []) (F : FnG X.prog X.w X.K X.mg X.base CX k f fd ps sp) (rm : Room k X.A) (bd : Binds X.K fd ps ds) (dv : Vals dvs ds) (ps1 : Passes CX X E)
    (J : Inv X pins σ H s) (rv : Vals vs us) (hs : sp (vs ++ dvs) H Q E) : wpAny (model X.prog X.w) X.A (call (.ref f) us) (EP X pins σ Q) X.xe s := by
  have all : Vals (vs ++ dvs) (us ++ ds) := rv.append dv
  have n : (us ++ ds).length = ps.length := all.length.symm.trans (F.len _ _ _ _ hs)
  refine wpAny_call (codeAny_mono (F.run X.A X.stack s H ⟨us, []⟩ _ _ Q E gd rm J.env0 (bd s us J.kIn n) all hs) ?_)
  intro res s2 z
  cases res with
  | error e => exact ps1 pins σ H s e s2 J z
  | ok fl =>
    cases fl with
    | ret u => exact J.after z
    | next => exact (show False from z).elim
    | brk => exact (show False from z).elim
    | cont => exact (show False from z).elim
theorem pe_callG (gd : X.A.guards = some []) (F : FnG X.prog X.w X.K X.mg X.base CX k f fd ps sp) (rm : Room k X.A) (gl : Gl X x) (at_ : X.mg x = some (.ref f)) (kp : PySem.W.keepIn X.K (.ref f) = true) (bd : Binds X.K fd ps ds) (dv : Vals dvs ds) (px : Passes CX X E)
    (pa : PA X (e :: es) t) (nd : (x == ("__debug__" : Str)) = false := by decide) (st1 : starEach (e :: es) X.env = (false, eval e X.env) :: starEach es X.env := by rfl) (st2 : (backTo pos (starEach es X.env)).any (·.1) = false := by rfl) :
    PE X (.Call (.Name x p) (e :: es) [] pos) (tCall sp dvs E t) :=
  ⟨fun pins s σ H Q J z => wpAny_Call_Name_kw (ld_glob J gl at_ (PySem.W.callWith_K (h₀ := X.base) J.ok.mod.kin kp (thn (pa.run pos pins s σ H _ J z) fun _ _ ⟨_, _, J1, r1, z1⟩ => ⟨J1.kIn, run_fnG gd F rm bd dv px J1 r1 z1⟩) st1 st2) nd)⟩
end
section
variable {P : Program} {w : World} {K : PySem.W.Frag} {mg : Str → Option Value} {base : Heap}
theorem fnG_of {CX : CXT} {k : Nat} {f : Addr} {nm ql : Str} {pr : Arguments} {bd : List Stmt} {sc : Scope} {dV kV dc pm cv ct oc : Value} {an od : Option Addr} {osl : Array (Option Value)} {N ps : List Str} {sp : Sp}
    (lk : K.lookup f = some ⟨oc, od, .func (PySem.W.fnOf nm ql pr bd sc dV kV dc pm an cv ct), osl⟩) (cd : PySem.W.codeIn K cv ql = true) (S : FnScope N ps sc) (len : ∀ vs H Q E, sp vs H Q E → vs.length = ps.length)
    (body : ∀ (A : Around) (outer : List Env) (s : Shared) (H : Hp) (vs : List V) (Q : VK) (E : XK), A.guards = some [] → Room k (A.deeper (envOfC ql sc s.heap.objs.size f cv)) → sp vs H Q E →
      ∃ t, PSs (cxOf CX P w K mg base N ql sc f cv A outer s H E) bd t ∧ t { nx := fun _ H' => Q .non H', rt := Q } (start N vs) H) : FnG P w K mg base CX (k + 1) f (PySem.W.fnOf nm ql pr bd sc dV kV dc pm an cv ct) ps sp := by
  refine ⟨len, fun A outer s H args us vs Q E gd rm e0 bt rv hs => ?_⟩
  have keepK : K.In s.heap := e0.mod.kin.keeps fun b o z => (e0.bs b o z).1
  have limK : s.heap.NoLimit := e0.mod.nolimit.keeps fun b o z => (e0.bs b o z).1
  have par : ∀ y ∈ ps.zip us, sc.names.lookup y.1 = some .local ∨ (sc.names.lookup y.1 = some .cell ∧ ((cellsFrom (s.heap.objs.size + 1) sc.names []).lookup y.1).isSome = true) := by
    rintro ⟨n, v⟩ hy
    exact (S.par n (List.of_mem_zip hy).1).imp id fun q => ⟨q, PySem.W.cellsFrom_some _ _ _ (.inl q)⟩
  refine codeAny_call_function rm.depth (keepK _ _ lk) rfl S.co S.gen rfl (PySem.W.codeRec_of keepK cd) (bt _ _ _ _ (wpAny_newFunctionEnv_cells S.kind par fun env he s1 x => ?_))
  subst he
  refine ⟨limK.keeps x.toInCall.keep, codeAny_func ?_⟩
  obtain ⟨t, pt, z⟩ := body A outer s H vs Q E gd (rm.deeper _) hs
  have J : Inv (cxOf CX P w K mg base N ql sc f cv A outer s H E) [] (start N vs) H s1 := inv_start S rm.hd e0 (len _ _ _ _ hs) rv x
  refine wpAny_mono (pt.run [] s1 (start N vs) H _ J z) (fun fl s2 q => ?_) fun _ _ q => q
  cases fl with
  | ret u =>
    obtain ⟨v, σ2, H2, J2, r2, q2⟩ := q
    exact ⟨v, H2, J2.os, J2.bare, J2.base, J2.hok, r2, q2⟩
  | next =>
    obtain ⟨σ2, H2, J2, q2⟩ := q
    exact ⟨V.non, H2, J2.os, J2.bare, J2.base, J2.hok, rfl, q2⟩
  | brk => exact (show False from let ⟨_, _, _, z⟩ := q; z).elim
  | cont => exact (show False from let ⟨_, _, _, z⟩ := q; z).elim
theorem _root_.L2.Fun.okG {x qual : Str} {st : Stmt} {f : Addr} {fd : FuncData} {N ps : List Str} {k : Nat} {sp : Sp} (F : Fun K x qual st f fd) (S : FnScope N ps (defScope st)) (len : ∀ vs H Q E, sp vs H Q E → vs.length = ps.length)
    (body : ∀ (cdv : Value) (A : Around) (outer : List Env) (s : Shared) (H : Hp) (vs : List V) (Q : VK) (E : XK), A.guards = some [] → Room k (A.deeper (envOfC qual (defScope st) s.heap.objs.size f cdv)) → sp vs H Q E →
      ∃ t, PSs (cxOf CX0 P w K mg base N qual (defScope st) f cdv A outer s H E).nox (defBody st) t ∧ t { nx := fun _ H' => Q .non H', rt := Q } (start N vs) H) : FnG P w K mg base CX0 (k + 1) f fd ps sp := by
  obtain ⟨_, _, _, _, _, _, cdv, _, _, rfl, lk, cd⟩ := F.ex
  exact fnG_of lk cd S len fun A outer s H vs Q E gd rm hs => let ⟨t, pt, z⟩ := body cdv A outer s H vs Q E gd rm hs; ⟨t, pt.nox, z⟩
theorem DefAtL.okG {x qual : Str} {st : Stmt} {N ps : List Str} {k : Nat} {sp : Sp} (D : DefAtL K mg x qual st ps) (S : FnScope N ps (defScope st)) (len : ∀ vs H Q E, sp vs H Q E → vs.length = ps.length)
    (body : ∀ (A : Around) (outer : List Env) (s : Shared) (H : Hp) (vs : List V) (Q : VK) (E : XK), A.guards = some [] → Room k (A.deeper (envOfC qual (defScope st) s.heap.objs.size D.f (.ref D.c))) → sp vs H Q E →
      ∃ t, PSs (cxOf CX0 P w K mg base N qual (defScope st) D.f (.ref D.c) A outer s H E).nox (defBody st) t ∧ t { nx := fun _ H' => Q .non H', rt := Q } (start N vs) H) : FnG P w K mg base CX0 (k + 1) D.f D.fd ps sp := by
  obtain ⟨_, _, _, _, _, _, _, _, e, lk, cd⟩ := D.ex
  rw [e] at lk ⊢
  exact fnG_of lk cd S len fun A outer s H vs Q E gd rm hs => let ⟨t, pt, z⟩ := body A outer s H vs Q E gd rm hs; ⟨t, pt.nox, z⟩
end
end Vw

set_option Elab.async false
set_option linter.all false
set_option maxRecDepth 100000
set_option maxHeartbeats 1000000
namespace Vw
open PySem PySem.Spec PyProof.Rows L2 RT
/-! ### the law itself called so -/
/-- the places of the script and of the tables: what may be tracked when the law is called -/
def startH (K : PySem.W.Frag) (ts : List Addr) (a : Addr) (vs : List Value) (ns : List Int) : Hp := fun b =>
  if b ∈ ts then some (.tbl #[]) else if b = a ∧ K.lookup a = none then some (.frz { cls := .type "list", data := .seq vs.toArray } (.lst (ns.map V.int))) else none
theorem law_callG {P : Program} {w : World} {K : PySem.W.Frag} {mg mb : Str → Option Value} {CX : CXT} {k : Nat} {fa a : Addr} {cs : List (Addr × Addr)} {fd : FuncData} {x : Str} {sp : Sp} {s1 : Shared} {vs : List Value} {ns : List Int}
    (kin : K.In s1.heap) (gl : s1.heap.Ns mainGlobals mg) (bl : s1.heap.Ns builtinsNs mb) (boot : ∀ y : Str, y ≠ "__name__" → mb y = bootBuiltins y) (lim : s1.heap.NoLimit) (gn : s1.gens = #[])
    (tb : ∀ p ∈ cs, s1.heap.get? p.2 = some { cls := .none, data := .fields #[] }) (tK : ∀ p ∈ cs, K.lookup p.2 = none) (hd : ∀ p ∈ cs, PySem.W.CodeHd s1.heap p.1 p.2)
    (bm : ∃ (m : Addr) (o : Obj), mg "__builtins__" = some (.ref m) ∧ m ≠ builtinsNs ∧ s1.heap.get? m = some o ∧ o.cls = .type "module" ∧ o.dict = some builtinsNs ∧ o.data = .plain)
    (sc : s1.heap.get? a = some { cls := .type "list", data := .seq vs.toArray }) (iv : IntsAre vs ns) (few : ns.length ≤ sizeLine) (rm : Room k callerA)
    (F : ∀ base : Heap, K.In base → base.Ns mainGlobals mg → (∀ p ∈ cs, LamX.TabB base mg p.1 p.2) → FnG P w K mg base CX k fa fd [x] sp) (bt : ∀ (s : Shared) (u : Value), BindsTo s fd ⟨[u], []⟩ [(x, u)])
    (ask : ∀ H : Hp, (∀ p ∈ cs, H p.2 = some (.tbl #[])) → SqL K H a (ns.map V.int) → sp [.ref a] H (fun v _ => v = .bl true) fun _ _ _ => False)
    (noE : ∀ H e s2, CX [] H s1 (fun _ _ _ => False) e s2 → False) :
    codeAny (model P w) callerA (.call (.ref fa) ⟨[.ref a], []⟩) (fun r s2 => r = .ok (.ret (.bool true)) ∧ OldK s1.heap s2.heap ∧ s2.os = s1.os ∧ AllBare s2.gens) s1 := by
  obtain ⟨ts, ets⟩ : ∃ ts : List Addr, ts = cs.map (·.2) := ⟨_, rfl⟩
  have inT : ∀ p ∈ cs, p.2 ∈ ts := fun p hp => ets ▸ List.mem_map.mpr ⟨p, hp, rfl⟩
  have ofT : ∀ b ∈ ts, ∃ p ∈ cs, p.2 = b := fun b hb => List.mem_map.mp (ets ▸ hb)
  have objT : ∀ b ∈ ts, s1.heap.get? b = some { cls := .none, data := .fields #[] } := fun b hb => let ⟨p, hp, z⟩ := ofT b hb; z ▸ tb p hp
  have aT : a ∉ ts := fun hb => by
    have z := (objT a hb).symm.trans sc
    exact nomatch (show Data.fields #[] = Data.seq vs.toArray 0 from congrArg Obj.data (Option.some.inj z))
  obtain ⟨H, eH⟩ : ∃ H : Hp, H = startH K ts a vs ns := ⟨_, rfl⟩
  have hT : ∀ b ∈ ts, H b = some (.tbl #[]) := fun b hb => by rw [eH]; exact if_pos hb
  have cases_ : ∀ b, (b ∈ ts) ∨ (b = a ∧ K.lookup a = none ∧ H b = some (.frz { cls := .type "list", data := .seq vs.toArray } (.lst (ns.map V.int)))) ∨ (b ∉ ts ∧ H b = none) := fun b => by
    by_cases h1 : b ∈ ts
    · exact .inl h1
    · by_cases h2 : b = a ∧ K.lookup a = none
      · exact .inr (.inl ⟨h2.1, h2.2, by rw [eH]; exact (if_neg h1).trans (if_pos h2)⟩)
      · exact .inr (.inr ⟨h1, by rw [eH]; exact (if_neg h1).trans (if_neg h2)⟩)
  -- what is no list and no table is not tracked
  have off : ∀ {b : Addr} {o : Obj}, s1.heap.get? b = some o → (∀ us n, o.data ≠ .seq us n) → o.data ≠ .fields #[] → H b = none := fun {b o} e n1 n2 => by
    rcases cases_ b with z | ⟨z, _, _⟩ | z
    · rw [objT b z] at e; cases e; exact absurd rfl n2
    · rw [z, sc] at e; cases e; exact absurd rfl (n1 _ _)
    · exact z.2
  have offD : ∀ {b : Addr} {o : Obj} {es : Array DictEntry} {ep : Nat}, s1.heap.get? b = some o → o.data = .dict es ep → H b = none := fun e d => off e (fun _ _ z => nomatch d.symm.trans z) fun z => nomatch d.symm.trans z
  have ns_ : ∀ {b : Addr} {m : Str → Option Value}, s1.heap.Ns b m → (hidT s1.heap H).Ns b m := fun ⟨o, es, ep, e, d, r⟩ => ⟨o, es, ep, hidT_get e (offD e d), d, r⟩
  have kinB : K.In (hidT s1.heap H) := fun b o e => by
    refine hidT_get (kin b o e) ?_
    rcases cases_ b with z | ⟨z, z2, _⟩ | z
    · obtain ⟨p, hp, ep⟩ := ofT b z
      rw [← ep, tK p hp] at e; cases e
    · rw [z, z2] at e; cases e
    · exact z.2
  have tabB : ∀ p ∈ cs, LamX.TabB (hidT s1.heap H) mg p.1 p.2 := fun p hp => by
    refine ⟨?_, ?_, fun z => ?_⟩
    · obtain ⟨o, us, file, tf, flags, tg, inF, text, tt, e1, r1, r2, r3, rr⟩ := hd p hp
      refine ⟨o, us, file, tf, flags, tg, inF, text, tt, hidT_get e1 (off e1 (fun _ _ z => nomatch r2.symm.trans z) fun z => ?_), r1, r2, r3, rr⟩
      obtain rfl : us = #[] := Data.fields.inj (r2.symm.trans z)
      simp at r3
    · obtain ⟨m, o, b1, b2, b3, b4, b5, b6⟩ := bm
      have n1 : m ≠ mainGlobals := fun z => by
        obtain ⟨o2, es, ep, e2, d2, _⟩ := gl
        rw [z, e2] at b3; cases b3
        exact nomatch d2.symm.trans b6
      have n2 : m ≠ p.2 := fun z => by
        rw [z, tb p hp] at b3; cases b3; cases b6
      exact ⟨m, o, b1, b2, n1, n2, hidT_get b3 (off b3 (fun _ _ z => nomatch b6.symm.trans z) fun z => nomatch b6.symm.trans z), b4, b5, b6⟩
    · obtain ⟨o2, es, ep, e2, d2, _⟩ := gl
      rw [z, tb p hp] at e2; cases e2; cases d2
  have sq : SqL K H a (ns.map V.int) := by
    cases q : K.lookup a with
    | none =>
      refine .inl (.inr ⟨{ cls := .type "list", data := .seq vs.toArray }, ?_⟩)
      rw [eH]
      exact (if_neg aT).trans (if_pos ⟨rfl, q⟩)
    | some o =>
      have z := (kin a o q).symm.trans sc
      cases z
      exact .inr ⟨_, vs.toArray, _, q, rfl, rfl, rfl, by rw [List.size_toArray, iv.length]; exact few, by simpa using vals_ints iv⟩
  have hok : HOk P w H s1.heap := fun b u e => by
    rcases cases_ b with z | ⟨z, _, z3⟩ | z
    · rw [hT b z] at e; cases e; exact objT b z
    · rw [z3] at e; cases e
      rw [z]
      exact ⟨sc, by rw [List.length_map]; exact few, vs, _, vals_ints iv, sc⟩
    · rw [z.2] at e; cases e
  have e0 : Env0 P w K mg (hidT s1.heap H) callerA [] s1 H := ⟨rfl, ⟨kinB, ns_ gl, ⟨mb, ns_ bl, boot⟩, let ⟨mc, l1, l2⟩ := lim; ⟨mc, ns_ l1, l2⟩⟩, fun b o e => of_hidT e, Nat.le_of_eq (hidT_size _ _), trivial, fun b hb => (List.not_mem_nil hb).elim, hok, .of_eq gn⟩
  refine codeAny_mono ((F _ kinB (ns_ gl) tabB).run callerA [] s1 H ⟨[.ref a], []⟩ [.ref a] [.ref a] _ _ rfl rm e0 (bt s1 (.ref a)) (.cons rfl .nil) (ask H (fun p hp => hT _ (inT p hp)) sq)) fun r s2 z => ?_
  cases r with
  | error e => exact (noE H e s2 z).elim
  | ok fl =>
    cases fl with
    | next => exact (show False from z).elim
    | brk => exact (show False from z).elim
    | cont => exact (show False from z).elim
    | ret u =>
      obtain ⟨v, H2, os, bare, un, hok2, rv, q⟩ := z
      have q : v = .bl true := q
      subst q
      obtain rfl : u = Value.bool true := rv
      have stay : ∀ b o, b ∉ ts → s1.heap.get? b = some o → s2.heap.get? b = some o := fun b o nb e => by
        rcases cases_ b with z | ⟨_, _, z3⟩ | z
        · exact absurd z nb
        · have f1 := (hok b _ z3).1
          have f2 := (hok2 b _ (un.frzs b _ _ z3)).1
          rw [f1] at e
          rw [f2, ← e]
        · exact un.keep b o e z.2 (fun y => List.not_mem_nil (show b ∈ ([] : List Addr) from y)) (fun y => List.not_mem_nil y)
      have grow : ∀ b ∈ ts, ∃ more : Array Value, s2.heap.get? b = some { cls := .none, data := .fields more } := fun b hb => let ⟨more, z⟩ := un.tbls b #[] (hT b hb); ⟨_, hok2 b _ z⟩
      refine ⟨rfl, ⟨fun b o e => ?_, fun b o e => ?_⟩, os, bare⟩
      · by_cases hb : b ∈ ts
        · obtain ⟨p, hp, ep⟩ := ofT b hb
          obtain ⟨more, hm⟩ := grow b hb
          have e2 := (objT b hb).symm.trans e
          cases e2
          refine .inr (.inl ⟨?_, rfl, #[], more, rfl, by rw [Array.empty_append]; exact hm⟩)
          rw [← ep]
          exact ((hd p hp).tab (tb p hp)).isCodeTable
        · exact .inl (stay b o hb e)
      · by_cases hb : b ∈ ts
        · exact let ⟨more, hm⟩ := grow b hb; ⟨_, hm⟩
        · exact ⟨o, stay b o hb e⟩
def LawAtG (l : PySem.W.OpenLaw) (w : World) (K : PySem.W.Frag) (CX : CXT) (k n : Nat) (x : Str) (mg : Str → Option Value) (fa : Addr) (h : Heap) : Prop :=
  ∃ (fd : FuncData) (cs : List (Addr × Addr)) (sp : Sp), (∀ p ∈ cs, h.get? p.2 = some { cls := .none, data := .fields #[] } ∧ K.lookup p.2 = none ∧ PySem.W.CodeHd h p.1 p.2) ∧ (∀ (s : Shared) (u : Value), BindsTo s fd ⟨[u], []⟩ [(x, u)]) ∧
    (∀ (H : Hp) (a : Addr) (ns : List Int), ns.length ≤ n → (∀ p ∈ cs, H p.2 = some (.tbl #[])) → SqL K H a (ns.map V.int) → sp [.ref a] H (fun v _ => v = .bl true) fun _ _ _ => False) ∧
    ∀ base : Heap, K.In base → base.Ns mainGlobals mg → (∀ p ∈ cs, LamX.TabB base mg p.1 p.2) → FnG l.prog w K mg base CX k fa fd [x] sp
theorem walk_ofG {l : PySem.W.OpenLaw} {n k : Nat} {q : Program} {loose : List Str} {XP : (Str → Option Value) → Heap → Prop} {YP : World → Heap → Prop} {d : DefRec} {K : Params → PySem.W.Frag} {CX : World → CXT} {x : Str}
    (most : l.most = some n) (small : n ≤ sizeLine) (nodf : d.params.defaults = []) (rm : Room k callerA) (says : ∀ (w : World) (h : Heap), YP w h → (K w.params).In h)
    (F : ∀ (w : World) (mg : Str → Option Value) (fa : Addr) (h : Heap), YP w h → (K w.params).In h → h.Ns mainGlobals mg → mg d.name = some (.ref fa) →
      (∀ (y : Str) (e : DefRec) (c P : Addr), (recsOf q).find? (fun e => e.name == y) = some e → PySem.W.tabIn (K w.params) y = some (c, P) → PySem.W.CodeHd h c P ∧ h.get? P = some { cls := .none, data := .fields #[] }) → LawAtG l w (K w.params) (CX w) k n x mg fa h)
    (noE : ∀ (w : World) (H : Hp) (s : Shared) (e : Value) (s2 : Shared), CX w [] H s (fun _ _ _ => False) e s2 → False) : PySem.W.WalkO q loose XP YP l.row.toRowW d [] (fun f vs => PySem.call f vs) :=
  Att.attach_callB most nodf fun w _ s1 mg mb fa _ _ _ _ a vs ns G Y _ _ _ at_ sc iv few _ gn => by
    have kin := says w _ Y
    obtain ⟨fd, cs, sp, T, bt, ask, FF⟩ := F w mg fa _ Y kin G.T.g at_ fun y e c P e1 e2 => PySem.W.tab_of G.T kin e1 e2
    exact law_callG kin G.T.g G.T.b G.T.builtins G.T.nolimit gn (fun p hp => (T p hp).1) (fun p hp => (T p hp).2.1) (fun p hp => (T p hp).2.2) G.T.bmain sc iv (Nat.le_trans few small) rm FF bt (fun H tH sH => ask H a ns few tH sH) fun H e s2 => noE w H s1 e s2
end Vw

set_option Elab.async false
set_option linter.all false
set_option maxRecDepth 100000
set_option maxHeartbeats 4000000
namespace Vw
open PySem PySem.Spec PyProof.Rows L2 RT
/-! ### d.update(e) -/
def rUpd : V → List V → Hp → VK → Prop := fun x vs H Q => ∃ d e kvs more, x = .ref d ∧ vs = [.ref e] ∧ H d = some (.dK kvs) ∧ H e = some (.dK more) ∧ d ≠ e ∧ kvs.length + more.length ≤ 10000 ∧ Q .non (upd H d (.dK (mergeK kvs more)))
theorem mt_upd {X : Cx} : MtR X "dict.update" rUpd := by
  intro pins s σ H x vs v us Q I rx rv h
  obtain ⟨d, e, kvs, more, rfl, rfl, hd, he, hne, hz, q⟩ := h
  cases rx
  obtain ⟨u, rfl, ru⟩ := rv.one
  cases ru
  obtain ⟨z, lo, va, rel, dd⟩ := dk_of I.hok hd
  obtain ⟨z2, lo2, vb, rel2, dd2⟩ := dk_of I.hok he
  have big : (10000 : Nat) ≤ sizeLine := by decide
  have l1 := rel.length
  have l2 := rel2.length
  refine call_meetsIn PySem.F.slot_dict_update dd.typeIs PySem.F.entry_dict_update (PySem.F.args_dict_update_2 _ _) (meets_dict_update (mixKind X.prog X.w) d e hne lo2)
    ⟨va, vb, dd, dd2, by omega, fun h' dd' _ hs => ?_⟩
  have he' : ∃ q, h'.get? d = some q := let ⟨q, _, _, hq, _⟩ := dd'; ⟨q, hq⟩
  have hlen : (mergeK kvs more).length ≤ sizeLine := by
    have := length_mergeK more kvs
    omega
  exact ⟨.non, _, d_write (t' := s.toks) I (by rw [hd]; exact True.intro) hs he' (dk_new hlen lo (KV.merge rel2 rel) dd'), rfl, q⟩
theorem peUpd {X : Cx} {K : PySem.W.Frag} {o ex : Expr} {to te : TE} {apos cpos : Pos} {r : V → List V → Hp → VK → Prop} (h : PE X (.Call (.Attribute o "update" apos) [ex] [] cpos) (tBM X.K "dict" r to (tCons te tNil))) (e : X.K = K := by rfl) :
    PE X (.Call (.Attribute o "update" apos) [ex] [] cpos) (tBM K "dict" r to (tCons te tNil)) := by cases e; exact h
theorem ty_dK {K : PySem.W.Frag} {a : Addr} {H : Hp} {kvs : List (Key × V)} (h : H a = some (.dK kvs)) : tyV K "dict" (.ref a) H := .inr (.inr (.inl ⟨rfl, .inl ⟨kvs, h⟩⟩))
theorem o_upd {H : Hp} {d e : Addr} {kvs more : List (Key × V)} {Q : VK} (hd : H d = some (.dK kvs)) (he : H e = some (.dK more)) (ne : d ≠ e) (l : kvs.length + more.length ≤ 10000) (q : ∀ H2, Oth d H H2 → H2 d = some (.dK (mergeK kvs more)) → Q .non H2) : rUpd (.ref d) [.ref e] H Q :=
  ⟨d, e, kvs, more, rfl, rfl, hd, he, ne, l, q _ (fun b o nb z => by rw [upd_ne nb]; exact z) upd_same⟩
theorem upd_len {kvs more : List (Key × V)} (h : kvs.length + more.length ≤ 10000) : kvs.length + (mergeK [] more).length ≤ 10000 := by
  have := length_mergeK more []
  rw [List.length_nil] at this
  omega
/-! ### {k: v, ..} -/
def DispE (p : Addr) (Q : VK) (ps : List (V × V)) (H2 : Hp) : Prop := H2 p = some (.dK []) ∧ ∃ kvs : List (Key × V), ps = kvs.map (fun kv => (kV kv.1, kv.2)) ∧ kvs.length ≤ 15 ∧ Q (.ref p) (upd H2 p (.dK (mergeK [] kvs)))
theorem e_disp {trs : List (TE × TE)} {σ : L2.St} {H : Hp} {Q : VK} (h : ∀ p H1, H p = none → Same H H1 → H1 p = some (.dK []) → tPairs trs σ H1 (DispE p Q)) : tDisp trs σ H Q := fun p n => h p _ n (Same.new n) upd_same
theorem disp_end {p : Addr} {Q : VK} {ps : List (V × V)} {H2 : Hp} (kvs : List (Key × V)) (h : H2 p = some (.dK [])) (e : ps = kvs.map (fun kv => (kV kv.1, kv.2))) (l : kvs.length ≤ 15) (q : ∀ H3, Oth p H2 H3 → H3 p = some (.dK (mergeK [] kvs)) → Q (.ref p) H3) : DispE p Q ps H2 :=
  ⟨h, kvs, e, l, q _ (fun b o nb z => by rw [upd_ne nb]; exact z) upd_same⟩
/-! ### repr of data without dicts -/
namespace Rp
mutual
def okD : PyData → Bool
  | .none => true
  | .bool _ => true
  | .int i => decide (i.natAbs < 10 ^ 39)
  | .str x => x.cps.all (· < 0x110000)
  | .list xs => okAll xs
  | .tuple xs => okAll xs
  | .dict _ => false
def okAll : List PyData → Bool
  | [] => true
  | x :: xs => okD x && okAll xs
end
theorem okAll_of {xs : List PyData} (h : ∀ x ∈ xs, okD x = true) : okAll xs = true := by
  induction xs with
  | nil => rfl
  | cons x xs ih =>
    show (okD x && okAll xs) = true
    rw [h x (by simp), ih fun y hy => h y (List.mem_cons_of_mem _ hy)]; rfl
theorem log_lt {n : Nat} (h : n < 10 ^ 39) : n.log2 < 1920 := by
  by_cases z : n = 0
  · subst z; decide
  · refine (Nat.log2_lt z).mpr (Nat.lt_of_lt_of_le h ?_)
    decide +kernel
mutual
theorem ok_facts : ∀ d : PyData, okD d = true → d.canLay0 = true ∧ d.showable = true ∧ d.intsShort 40 = true
  | .none, _ => ⟨rfl, by simp only [PyData.showable], rfl⟩
  | .bool _, _ => ⟨rfl, by simp only [PyData.showable], rfl⟩
  | .int i, h => by
    have h : i.natAbs < 10 ^ 39 := of_decide_eq_true h
    refine ⟨rfl, by simp only [PyData.showable, decide_eq_true (log_lt h)], ?_⟩
    show decide ((PyData.shown (.int i)).length ≤ 40) = true
    refine decide_eq_true ?_
    show (Str.ofString (toString i)).length ≤ 40
    rw [PySem.ofString_length]
    exact int_text_length_le10 (k := 39) (by decide) h
  | .str x, h => ⟨h, by simp only [PyData.showable], rfl⟩
  | .list xs, h => by
    obtain ⟨a, b, c⟩ := okAll_facts xs h
    exact ⟨by simpa only [PyData.canLay0] using a, by simpa only [PyData.showable] using b, by simpa only [PyData.intsShort] using c⟩
  | .tuple xs, h => by
    obtain ⟨a, b, c⟩ := okAll_facts xs h
    exact ⟨by simpa only [PyData.canLay0] using a, by simpa only [PyData.showable] using b, by simpa only [PyData.intsShort] using c⟩
  | .dict _, h => nomatch h
theorem okAll_facts : ∀ xs : List PyData, okAll xs = true → PyData.canLayAll0 xs = true ∧ PyData.showableAll xs = true ∧ PyData.intsShortAll 40 xs = true
  | [], _ => ⟨rfl, by simp only [PyData.showableAll], rfl⟩
  | x :: xs, h => by
    have h : (okD x && okAll xs) = true := h
    rw [Bool.and_eq_true] at h
    obtain ⟨a, b, c⟩ := ok_facts x h.1
    obtain ⟨a2, b2, c2⟩ := okAll_facts xs h.2
    exact ⟨by simp only [PyData.canLayAll0, a, a2, Bool.and_self], by simp only [PyData.showableAll, b, b2, Bool.and_self], by simp only [PyData.intsShortAll, c, c2, Bool.and_self]⟩
end
theorem ok_fits {d : PyData} (h : okD d = true) (w : d.weight ≤ 390000) : d.shown.length ≤ sizeLine := by
  obtain ⟨a, b, c⟩ := ok_facts d h
  have := PyData.shown_le 40 (by decide) d (PyData.leavesShort_of_canLay0 40 d a c)
  rw [sizeLine_eq]
  omega
theorem weight_all {m : Nat} : ∀ {xs : List PyData}, (∀ x ∈ xs, x.weight + 1 ≤ m) → PyData.weightAll xs ≤ m * xs.length
  | [], _ => by simp only [PyData.weightAll]; omega
  | x :: xs, h => by
    have h1 := h x (by simp)
    have h2 := weight_all (xs := xs) fun y hy => h y (List.mem_cons_of_mem _ hy)
    simp only [PyData.weightAll, List.length_cons]
    rw [Nat.mul_add, Nat.mul_one]
    omega
theorem weight_int {i : Int} (h : i.natAbs < 10 ^ 39) : (PyData.int i).weight ≤ 130 := by
  show (if i == 0 then 0 else i.natAbs.log2 + 1) ≤ 130
  split
  · omega
  · next z =>
    have z0 : i.natAbs ≠ 0 := by
      intro e
      exact z (by rw [Int.natAbs_eq_zero.mp e]; rfl)
    have : i.natAbs.log2 < 130 := (Nat.log2_lt z0).mpr (Nat.lt_of_lt_of_le h (by decide +kernel))
    omega
end Rp
/-- repr(x) of data -/
def rRepr (K : PySem.W.Frag) : List V → Hp → VK → Prop := fun vs H Q => ∃ a d, vs = [.ref a] ∧ Dp K H (.ref a) d ∧ Rp.okD d = true ∧ d.depth ≤ 20 ∧ d.weight ≤ 390000 ∧ Q (.str d.shown) H
theorem call_reprG {X : Cx} (gd : X.A.guards = some []) (hu : X.A.units + 64 < cLine) : CallR X (.builtin "repr") (rRepr X.K) := by
  intro pins s σ H xs us Q I r h
  obtain ⟨a, d, rfl, hd, ok, dp, hw, q⟩ := h
  obtain rfl := Vals.ref1 r
  obtain ⟨as, rd⟩ := Dp.reads I d (.ref a) (.ref a) hd rfl
  obtain ⟨cl, sh, _⟩ := Rp.ok_facts d ok
  exact repr_of_reads' rd sh (PyData.noDict_hsm (PyData.hasDict_of_canLay d cl)) gd (by omega) (fun _ _ z => z) (fun h' u tk k => ⟨.str d.shown, H, I.kept (t' := tk) k, ⟨u, rfl⟩, q⟩) (Rp.ok_fits ok hw)
theorem cReprG {K : PySem.W.Frag} {X : Cx} (gd : X.A.guards = some []) (hu : X.A.units + 64 < cLine) (e : X.K = K := by rfl) : CallR X (.builtin "repr") (rRepr K) := by cases e; exact call_reprG gd hu
end Vw

set_option Elab.async false
set_option linter.all false
set_option maxRecDepth 100000
set_option maxHeartbeats 1000000
namespace Vw
open PySem PySem.Spec PyProof.Rows L2 RT
/-! ### data, dicts among them -/
def keyD : Key → PyData
  | .inl i => .int i
  | .inr x => .str x
mutual
inductive Dq (K : PySem.W.Frag) (N : Addr → Prop) (H : Hp) : V → PyData → Prop
  | non : Dq K N H .non .none
  | bl (b : Bool) : Dq K N H (.bl b) (.bool b)
  | int (i : Int) : Dq K N H (.int i) (.int i)
  | str (x : Str) : Dq K N H (.str x) (.str x)
  | lst {a : Addr} {xs : List V} {ds : List PyData} : SqL K H a xs → N a → DqAll K N H xs ds → Dq K N H (.ref a) (.list ds)
  | tup {a : Addr} {xs : List V} {ds : List PyData} : SqT K H a xs → DqAll K N H xs ds → Dq K N H (.ref a) (.tuple ds)
  | dct {a : Addr} {kvs : List (Key × V)} {D : List (PyData × PyData)} : H a = some (.dK kvs) → N a → D.map (·.1) = kvs.map (fun p => keyD p.1) → DqAll K N H (kvs.map (·.2)) (D.map (·.2)) → Dq K N H (.ref a) (.dict D)
inductive DqAll (K : PySem.W.Frag) (N : Addr → Prop) (H : Hp) : List V → List PyData → Prop
  | nil : DqAll K N H [] []
  | cons {v : V} {vs : List V} {d : PyData} {ds : List PyData} : Dq K N H v d → DqAll K N H vs ds → DqAll K N H (v :: vs) (d :: ds)
end
section
variable {X : Cx} {pins : List (Addr × Obj)} {σ : L2.St} {H : Hp} {s : Shared} {N : Addr → Prop}
theorem keys_read {P : Program} {w : World} {h : Heap} : ∀ {es : List DictEntry} {kvs : List (Key × V)} {vs : List (Key × Value)}, Pairs (mixKind P w) es vs → KV kvs vs → ReadsAll h (es.map (·.key)) (kvs.map fun p => keyD p.1) [] ∧ Vals (kvs.map (·.2)) (es.map (·.val))
  | _, _, _, .nil, r => by
    cases r
    exact ⟨.nil, .nil⟩
  | e :: es, _, _, .cons h1 h2 p, r => by
    cases r with
    | @cons a b l1 l2 r1 r =>
    obtain ⟨e1, e2⟩ := r1
    obtain ⟨q1, q2⟩ := keys_read p r
    refine ⟨?_, .cons (by show L2.RelV a.2 e.val; rw [h2]; exact e2) q2⟩
    rw [← e1] at h1
    rcases keyIs_shape h1 with ⟨i, t, z1, z2⟩ | ⟨x, t, z1, z2⟩
    · show ReadsAll h (e.key :: _) (keyD a.1 :: _) ([] ++ [])
      rw [z1, z2]
      exact .cons (.int i t) q1
    · show ReadsAll h (e.key :: _) (keyD a.1 :: _) ([] ++ [])
      rw [z1, z2]
      exact .cons (.str x t) q1
/-- the place of the modules' dict is known -/
def SysK (K : PySem.W.Frag) : Prop := ∃ o, K.lookup sysModules = some o ∧ o.cls = .type "dict"
mutual
theorem Dq.reads (I : Inv X pins σ H s) (S : SysK X.K) : ∀ (d : PyData) (v : V) (u : Value), Dq X.K N H v d → RelV v u → ∃ as, Reads s.heap u d as ∧ sysModules ∉ as
  | .none, _, _, h, r => by
    cases h
    cases r
    exact ⟨_, Reads.none, by simp⟩
  | .bool b, _, _, h, r => by
    cases h
    cases r
    exact ⟨_, Reads.bool b, by simp⟩
  | .int i, _, _, h, r => by
    cases h
    obtain ⟨t, rfl⟩ := r
    exact ⟨_, Reads.int i t, by simp⟩
  | .str x, _, _, h, r => by
    cases h
    obtain ⟨t, rfl⟩ := r
    exact ⟨_, Reads.str x t, by simp⟩
  | .list ds, _, _, h, r => by
    cases h with
    | lst hs _ ha =>
      cases r
      obtain ⟨its, rv, ⟨o, n, ho, hc, _, hd⟩, _⟩ := I.list hs
      obtain ⟨as, hr, nm⟩ := Dq.readsAll I S ds _ its ha rv
      refine ⟨_, Reads.list ho hc hd hr, fun m => (List.mem_cons.mp m).elim (fun z => ?_) nm⟩
      obtain ⟨o2, l2, c2⟩ := S
      have := I.kIn _ o2 l2
      rw [z, ho] at this
      cases this
      rw [hc] at c2
      exact absurd c2 (by decide)
  | .tuple ds, _, _, h, r => by
    cases h with
    | tup hs ha =>
      cases r
      obtain ⟨its, rv, ⟨o, ho, hc, n, hd⟩, _⟩ := I.tuple hs
      obtain ⟨as, hr, nm⟩ := Dq.readsAll I S ds _ its ha rv
      exact ⟨_, Reads.tuple ho hc hd hr, nm⟩
  | .dict D, _, _, h, r => by
    cases h with
    | @dct a kvs _ hd _ hk hv =>
      cases r
      obtain ⟨_, ne, vs, kv, o, es, ep, ho, hc, hdt, _, hp, _⟩ := dk_of I.hok hd
      obtain ⟨k1, k2⟩ := keys_read (h := s.heap) hp kv
      obtain ⟨bs, hr, nm⟩ := Dq.readsKv I S D _ _ hv k2
      rw [← hk] at k1
      refine ⟨_, Reads.dict ho hc.1 hdt k1 hr, fun m => ?_⟩
      rcases List.mem_append.mp m with m | m
      · rcases List.mem_cons.mp m with z | z
        · rw [← z] at ne
          simp at ne
        · cases z
      · exact nm m
theorem Dq.readsKv (I : Inv X pins σ H s) (S : SysK X.K) : ∀ (D : List (PyData × PyData)) (vs : List V) (us : List Value), DqAll X.K N H vs (D.map (·.2)) → Vals vs us → ∃ as, ReadsAll s.heap us (D.map (·.2)) as ∧ sysModules ∉ as
  | [], _, _, h, r => by
    cases h
    cases r
    exact ⟨_, ReadsAll.nil, by simp⟩
  | (k, d) :: D, _, _, h, r => by
    cases h with
    | cons h1 h2 =>
      cases r with
      | cons r1 r2 =>
        obtain ⟨as, q1, n1⟩ := Dq.reads I S d _ _ h1 r1
        obtain ⟨bs, q2, n2⟩ := Dq.readsKv I S D _ _ h2 r2
        exact ⟨_, ReadsAll.cons q1 q2, fun m => (List.mem_append.mp m).elim n1 n2⟩
theorem Dq.readsAll (I : Inv X pins σ H s) (S : SysK X.K) : ∀ (ds : List PyData) (vs : List V) (us : List Value), DqAll X.K N H vs ds → Vals vs us → ∃ as, ReadsAll s.heap us ds as ∧ sysModules ∉ as
  | [], _, _, h, r => by
    cases h
    cases r
    exact ⟨_, ReadsAll.nil, by simp⟩
  | d :: ds, _, _, h, r => by
    cases h with
    | cons h1 h2 =>
      cases r with
      | cons r1 r2 =>
        obtain ⟨as, q1, n1⟩ := Dq.reads I S d _ _ h1 r1
        obtain ⟨bs, q2, n2⟩ := Dq.readsAll I S ds _ _ h2 r2
        exact ⟨_, ReadsAll.cons q1 q2, fun m => (List.mem_append.mp m).elim n1 n2⟩
end
end
/-- repr(x) of data, dicts among them -/
def rReprA (K : PySem.W.Frag) : List V → Hp → VK → Prop := fun vs H Q => ∃ x N d, vs = [x] ∧ Dq K N H x d ∧ d.showable = true ∧ d.depth ≤ 40 ∧ d.shown.length ≤ sizeLine ∧ Q (.str d.shown) H
theorem call_reprA {X : Cx} (S : SysK X.K) (gd : X.A.guards = some []) (hu : X.A.units + 64 < cLine) : CallR X (.builtin "repr") (rReprA X.K) := by
  intro pins s σ H xs us Q I r h
  obtain ⟨x, N, d, rfl, hd, sh, dp, sz, q⟩ := h
  obtain ⟨u, rfl, rv⟩ := vals1 r
  have big : ∀ {a : Addr}, u = .ref a → Dq X.K N H x d → wpAny (model X.prog X.w) X.A (call (.builtin "repr") [u]) (EP X pins σ Q) X.xe s := fun {a} e hd => by
    obtain ⟨as, rd, nm⟩ := Dq.reads I S d x u hd rv
    rw [e] at rd ⊢
    exact repr_of_reads' rd sh (fun _ => nm) gd (by omega) (fun _ _ z => z) (fun h' u tk k => ⟨.str d.shown, H, I.kept (t' := tk) k, ⟨u, rfl⟩, q⟩) sz
  cases hd with
  | non =>
    cases rv
    exact P.repr_of_none ⟨.str _, H, I.tok _, ⟨_, rfl⟩, q⟩
  | bl b =>
    cases rv
    exact P.repr_of_bool ⟨.str _, H, I.tok _, ⟨_, rfl⟩, q⟩
  | int i =>
    obtain ⟨t, rfl⟩ := rv
    exact P.repr_of_int (by simpa [PyData.showable] using sh) ⟨.str _, H, I.tok _, ⟨_, rfl⟩, q⟩
  | str z =>
    obtain ⟨t, rfl⟩ := rv
    exact P.repr_of_str ⟨.str _, H, I.tok _, ⟨_, rfl⟩, q⟩ sz
  | lst a c b => cases rv; exact big rfl (.lst a c b)
  | tup a b => cases rv; exact big rfl (.tup a b)
  | dct a z b c => cases rv; exact big rfl (.dct a z b c)
theorem cReprA {K : PySem.W.Frag} {X : Cx} (S : SysK K) (gd : X.A.guards = some []) (hu : X.A.units + 64 < cLine) (e : X.K = K := by rfl) : CallR X (.builtin "repr") (rReprA K) := by cases e; exact call_reprA S gd hu
/-! ### what keeps data -/
section
variable {K : PySem.W.Frag} {N : Addr → Prop} {H H' : Hp}
mutual
theorem Dq.mv (k1 : ∀ a xs, N a → SqL K H a xs → SqL K H' a xs) (k2 : ∀ a xs, SqT K H a xs → SqT K H' a xs) (k3 : ∀ a kvs, N a → H a = some (.dK kvs) → H' a = some (.dK kvs)) : ∀ (d : PyData) (x : V), Dq K N H x d → Dq K N H' x d
  | .none, _, h => by cases h; exact .non
  | .bool _, _, h => by cases h; exact .bl _
  | .int _, _, h => by cases h; exact .int _
  | .str _, _, h => by cases h; exact .str _
  | .list ds, _, h => by
    cases h with
    | lst a n b => exact .lst (k1 _ _ n a) n (Dq.mvAll k1 k2 k3 ds _ b)
  | .tuple ds, _, h => by
    cases h with
    | tup a b => exact .tup (k2 _ _ a) (Dq.mvAll k1 k2 k3 ds _ b)
  | .dict D, _, h => by
    cases h with
    | dct a n b c => exact .dct (k3 _ _ n a) n b (Dq.mvKv k1 k2 k3 D _ c)
theorem Dq.mvKv (k1 : ∀ a xs, N a → SqL K H a xs → SqL K H' a xs) (k2 : ∀ a xs, SqT K H a xs → SqT K H' a xs) (k3 : ∀ a kvs, N a → H a = some (.dK kvs) → H' a = some (.dK kvs)) : ∀ (D : List (PyData × PyData)) (xs : List V), DqAll K N H xs (D.map (·.2)) → DqAll K N H' xs (D.map (·.2))
  | [], _, h => by cases h; exact .nil
  | (_, d) :: D, _, h => by
    cases h with
    | cons a b => exact .cons (Dq.mv k1 k2 k3 d _ a) (Dq.mvKv k1 k2 k3 D _ b)
theorem Dq.mvAll (k1 : ∀ a xs, N a → SqL K H a xs → SqL K H' a xs) (k2 : ∀ a xs, SqT K H a xs → SqT K H' a xs) (k3 : ∀ a kvs, N a → H a = some (.dK kvs) → H' a = some (.dK kvs)) : ∀ (ds : List PyData) (xs : List V), DqAll K N H xs ds → DqAll K N H' xs ds
  | [], _, h => by cases h; exact .nil
  | d :: ds, _, h => by
    cases h with
    | cons a b => exact .cons (Dq.mv k1 k2 k3 d _ a) (Dq.mvAll k1 k2 k3 ds _ b)
end
theorem Dq.same {d : PyData} {x : V} (h : Dq K N H x d) (s : Same H H') : Dq K N H' x d := Dq.mv (fun _ _ _ => sl_ s) (fun _ _ => st_ s) (fun _ _ _ z => s _ _ z) d x h
theorem DqAll.same {ds : List PyData} {xs : List V} (h : DqAll K N H xs ds) (s : Same H H') : DqAll K N H' xs ds := Dq.mvAll (fun _ _ _ => sl_ s) (fun _ _ => st_ s) (fun _ _ _ z => s _ _ z) ds xs h
theorem DqAll.len : ∀ {ds : List PyData} {xs : List V}, DqAll K N H xs ds → xs.length = ds.length
  | [], _, h => by cases h; rfl
  | d :: ds, _, h => by
    cases h with
    | cons a b => rw [List.length_cons, List.length_cons, b.len]
theorem DqAll.get : ∀ {ds : List PyData} {xs : List V} {i : Nat} {x : V}, DqAll K N H xs ds → xs[i]? = some x → ∃ d, ds[i]? = some d ∧ Dq K N H x d
  | [], _, i, x, h, e => by cases h; cases e
  | d :: ds, _, i, x, h, e => by
    cases h with
    | cons a b =>
      cases i with
      | zero => cases e; exact ⟨d, rfl, a⟩
      | succ i => exact b.get e
def tyD : PyData → String
  | .none => "NoneType" | .bool _ => "bool" | .int _ => "int" | .str _ => "str" | .list _ => "list" | .tuple _ => "tuple" | .dict _ => "dict"
theorem dq_ty {d : PyData} {x : V} (h : Dq K N H x d) : TyX K H x (.type (tyD d)) := by
  cases h with
  | non => exact .base .non
  | bl b => exact .base (.bl b)
  | int i => exact .base (.int i)
  | str z => exact .base (.str z)
  | lst a n b => exact tyx_sl a
  | tup a b => exact tyx_st a
  | dct a n b c => exact .base (.dK a)
theorem dq_isi {d : PyData} {x : V} {n : String} {Q : VK} (b : Bool) (h : Dq K N H x d) (e : kitB (tyD d) n = some b) (q : Q (.bl b) H) : rIsi K [x, .ty n] H Q := isi_ (dq_ty h) e q
end
end Vw

set_option Elab.async false
set_option linter.all false
set_option maxRecDepth 100000
set_option maxHeartbeats 1000000
namespace Vw
open PySem PySem.Spec PyProof.Rows L2 RT
/-! ### three lists side by side -/
/-- the lists that lie at three places -/
structure Tri (K : PySem.W.Frag) (H : Hp) (a b c : Addr) (xs ys us : List V) : Prop where
  one : SqL K H a xs
  two : SqL K H b ys
  three : SqL K H c us
theorem Tri.same {K : PySem.W.Frag} {H H' : Hp} {a b c : Addr} {xs ys us : List V} (t : Tri K H a b c xs ys us) (ss : Same H H') : Tri K H' a b c xs ys us := ⟨sl_ ss t.one, sl_ ss t.two, sl_ ss t.three⟩
/-- lists of one length, one from each at a turn -/
def ItTri (K : PySem.W.Frag) (a b c : Addr) : It where
  go := fun n H => ∃ xs ys us, Tri K H a b c xs ys us ∧ n < xs.length ∧ n < ys.length ∧ n < us.length
  yld := fun n H v H' => ∃ T x y u, v = .ref T ∧ H T = none ∧ H' = upd H T (.tup [x, y, u]) ∧ ∀ xs ys us, Tri K H a b c xs ys us → xs[n]? = some x ∧ ys[n]? = some y ∧ us[n]? = some u
  stop := fun n H => ∃ xs ys us, Tri K H a b c xs ys us ∧ xs.length = n ∧ ys.length = n ∧ us.length = n
/-- how the machine's own cells stand at a turn -/
structure TriAt (h : Heap) (z TI TO j k l a b c : Addr) (n : Nat) : Prop where
  zip : IsZip h z TI TO .none
  ins : IsTupOf3 h TI (.ref j) (.ref k) (.ref l)
  out : ∃ p q r, IsTupOf3 h TO p q r
  one : h.IsListIter j a n
  two : h.IsListIter k b n
  three : h.IsListIter l c n
section
variable {P : Program} {w : World} {K : PySem.W.Frag} {z TI TO j k l a b c : Addr}
theorem tri_mem {x : Addr} (h : x ∈ [z, TI, TO, j, k, l]) {p : Addr → Prop} (h1 : p z) (h2 : p TI) (h3 : p TO) (h4 : p j) (h5 : p k) (h6 : p l) : p x := by
  simp only [List.mem_cons, List.mem_nil_iff, or_false] at h
  rcases h with e | e | e | e | e | e <;> (rw [e]; assumption)
theorem TriAt.obj {h : Heap} {n : Nat} (t : TriAt h z TI TO j k l a b c n) {x : Addr} (hx : x ∈ [z, TI, TO, j, k, l]) : ∃ o, h.get? x = some o ∧ ∀ v, o.data ≠ .cell v := by
  have it : ∀ {y d : Addr} {m : Nat}, h.IsListIter y d m → ∃ o, h.get? y = some o ∧ ∀ v, o.data ≠ .cell v := fun q => by
    obtain ⟨o, e, _, d⟩ := q
    exact ⟨o, e, fun v e' => by rw [d] at e'; cases e'⟩
  obtain ⟨p, q, r, to⟩ := t.out
  exact tri_mem (p := fun y => ∃ o, h.get? y = some o ∧ ∀ v, o.data ≠ .cell v) hx ⟨_, t.zip, fun v e => nomatch e⟩ ⟨_, t.ins, fun v e => nomatch e⟩ ⟨_, to, fun v e => nomatch e⟩ (it t.one) (it t.two) (it t.three)
theorem TriAt.keep {h h' : Heap} {n : Nat} (t : TriAt h z TI TO j k l a b c n) (q : ∀ x ∈ [z, TI, TO, j, k, l], ∀ o, h.get? x = some o → h'.get? x = some o) : TriAt h' z TI TO j k l a b c n := by
  obtain ⟨t1, t2, ⟨p, r, s, t3⟩, t4, t5, t6⟩ := t
  exact ⟨q _ (by simp) _ t1, q _ (by simp) _ t2, ⟨p, r, s, q _ (by simp) _ t3⟩, t4.at (q _ (by simp)), t5.at (q _ (by simp)), t6.at (q _ (by simp))⟩
theorem turn_tri {elts : List Expr} {kk : Nat} {tpos : Pos} (S : ZipSep3 z TI TO j k l [j, a] [k, b] [l, c]) (na : a ≠ j) (nb : b ≠ k) (nc : c ≠ l) :
    Turn P w K (.Tuple elts kk tpos) (ItTri K a b c) [z, TI, TO, j, k, l] z (fun n h => TriAt h z TI TO j k l a b c n) where
  mem := by simp
  obj := fun n h t x hx => t.obj hx
  keep := fun n h h' t q => t.keep q
  item := by
    intro X hP hw hK hc n pins s σ H E I hf t hg
    subst hP hw hK
    obtain ⟨xs, ys, us, g, gx, gy, gu⟩ := hg
    obtain ⟨is1, r1, p1, _⟩ := I.list g.one
    obtain ⟨is2, r2, p2, _⟩ := I.list g.two
    obtain ⟨is3, r3, p3, _⟩ := I.list g.three
    have hd : X.A.in1.handled = none := I.ok.hd hc
    obtain ⟨t1, t2, ⟨q1, q2, q3, t3⟩, t4, t5, t6⟩ := id t
    refine wpAny_pyNext_zipD3_item (n1 := is1.toArray.size) (n2 := is2.toArray.size) (n3 := is3.toArray.size) (i := n) S (Draws.list hd j a na is1.toArray) (Draws.list hd k b nb is2.toArray) (Draws.list hd l c nc is3.toArray) t1 t2 t3
      ⟨t4, p1.isList⟩ ⟨t5, p2.isList⟩ ⟨t6, p3.isList⟩ (by have := r1.length; simp; omega) (by have := r2.length; simp; omega) (by have := r3.length; simp; omega) fun x y u h1 tk ex ey eu z1 o1 s1 s2 s3 new sz kp => ?_
    have ex' : is1[n]? = some x := by simpa using ex
    have ey' : is2[n]? = some y := by simpa using ey
    have eu' : is3[n]? = some u := by simpa using eu
    obtain ⟨x0, hx0, rx⟩ := r1.get (List.getElem?_eq_getElem gx)
    obtain ⟨y0, hy0, ry⟩ := r2.get (List.getElem?_eq_getElem gy)
    obtain ⟨u0, hu0, ru⟩ := r3.get (List.getElem?_eq_getElem gu)
    rw [ex'] at hx0; rw [ey'] at hy0; rw [eu'] at hu0
    cases hx0; cases hy0; cases hu0
    refine ⟨_, rfl, wpAny_letOwnedTupleGo_zip (s := { s with heap := h1, toks := tk }) z1 fun h2 z2 sb => ?_⟩
    have up : ∀ d o, d ∉ [z, TI, TO, j, k, l] → s.heap.get? d = some o → h2.get? d = some o := fun d o hn e => by
      simp only [List.mem_cons, List.mem_nil_iff, or_false, not_or] at hn
      exact (sb.2 d hn.1).trans (kp d o hn.1 hn.2.2.1 hn.2.2.2.1 hn.2.2.2.2.1 hn.2.2.2.2.2 e)
    have zlt : z < s.heap.objs.size := Heap.lt_size t1
    have cell : ObjOk X.prog X.w (upd H s.heap.objs.size (.tup [xs[n], ys[n], us[n]])) h2 s.heap.objs.size (.tup [xs[n], ys[n], us[n]]) :=
      ⟨by show 3 ≤ sizeLine; decide, [x, y, u], .cons rx (.cons ry (.cons ru .nil)), ⟨_, (sb.2 _ (Nat.ne_of_gt zlt)).trans new, rfl, _, rfl⟩⟩
    refine ⟨.ref s.heap.objs.size, _, I.turnedNew (t' := tk) (ch := [z, TI, TO, j, k, l]) up hf (Nat.le_refl _) cell, rfl, ⟨_, _, _, _, rfl, I.hok.fresh (Nat.le_refl _), rfl, fun xs' ys' us' g' => ?_⟩, ⟨z2, ?_, ⟨x, y, u, ?_⟩, ?_, ?_, ?_⟩, fun d hdm => ?_⟩
    · rw [I.list_inj g'.one g.one, I.list_inj g'.two g.two, I.list_inj g'.three g.three]
      exact ⟨List.getElem?_eq_getElem gx, List.getElem?_eq_getElem gy, List.getElem?_eq_getElem gu⟩
    · exact (sb.2 _ S.TIz).trans (kp _ _ S.TIz S.TITO S.TIi1 S.TIi2 S.TIi3 t2)
    · exact (sb.2 _ S.TOz).trans o1
    · exact s1.1.at fun o e => (sb.2 _ S.zi1.symm).trans e
    · exact s2.1.at fun o e => (sb.2 _ S.zi2.symm).trans e
    · exact s3.1.at fun o e => (sb.2 _ S.zi3.symm).trans e
    · obtain ⟨o, eo, _⟩ := t.obj hdm
      rw [upd_ne (Nat.ne_of_lt (Heap.lt_size eo))]
      exact (hf d hdm).1
  done := by
    intro X hP hw hK hc n pins s σ H E I hf t hg
    subst hP hw hK
    obtain ⟨xs, ys, us, g, gx, gy, gu⟩ := hg
    obtain ⟨is1, r1, p1, _⟩ := I.list g.one
    obtain ⟨is2, r2, p2, _⟩ := I.list g.two
    obtain ⟨is3, r3, p3, _⟩ := I.list g.three
    have hd : X.A.in1.handled = none := I.ok.hd hc
    obtain ⟨t1, t2, ⟨q1, q2, q3, t3⟩, t4, t5, t6⟩ := t
    refine wpAny_pyNext_zipD3_end (n1 := is1.toArray.size) (n2 := is2.toArray.size) (n3 := is3.toArray.size) (i := n) S (Draws.list hd j a na is1.toArray) (Draws.list hd k b nb is2.toArray) (Draws.list hd l c nc is3.toArray) t1 t2 t3
      ⟨t4, p1.isList⟩ ⟨t5, p2.isList⟩ ⟨t6, p3.isList⟩ (by have := r1.length; simp; omega) (by have := r2.length; simp; omega) (by have := r3.length; simp; omega) (.inl (by have := r1.length; simp; omega)) fun h1 tk kp => ⟨rfl, ?_⟩
    refine I.turnedL (t' := tk) (ch := [z, TI, TO, j, k, l]) (fun d o hn e => ?_) hf
    simp only [List.mem_cons, List.mem_nil_iff, or_false, not_or] at hn
    exact kp d o hn.1 hn.2.2.1 hn.2.2.2.1 hn.2.2.2.2.1 hn.2.2.2.2.2 e
  self := fun A n s Q E t q => wpAny_pyIter_zip t.zip q
end
/-- what three arguments give: the lists at their places -/
def TriQ (K : PySem.W.Frag) (R : It → Hp → Prop) (vs : List V) (H : Hp) : Prop := ∃ a b c xs ys us, vs = [V.ref a, V.ref b, V.ref c] ∧ Tri K H a b c xs ys us ∧ R (ItTri K a b c) H
def iTri (K : PySem.W.Frag) (ta : TA) : TI := fun σ H R => ta σ H (TriQ K R)
theorem piTri {X : Cx} {K : PySem.W.Frag} {e1 e2 e3 : Expr} {ta : TA} {p pos tpos : Pos} {elts : List Expr} {kk : Nat} (hg : Gl X "zip") (hm : X.mg "zip" = none) (ha : PA X [e1, e2, e3] ta) (eK : X.K = K := by rfl)
    (hs : starEach [e1, e2, e3] X.env = (false, eval e1 X.env) :: starEach [e2, e3] X.env := by rfl) (hb : ((backTo pos (starEach [e2, e3] X.env)).any fun x => x.fst) = false := by rfl) :
    PI X (.Tuple elts kk tpos) (.Call (.Name "zip" p) [e1, e2, e3] [] pos) (iTri K ta) := by
  subst eK
  refine ⟨fun pins s σ H R I h => Call_ (ld_blt I hg hm PyProof.Rows.boot_zip (PyProof.Rows.callWith_type1 (thn (ha.run pos pins s σ H _ I h) fun vs' s1 q => ?_) hs hb))⟩
  obtain ⟨vs, H1, I1, rel, a, b, c, xs, ys, us, ev, t, q⟩ := q
  subst ev
  cases rel with
  | cons ra rel =>
    cases rel with
    | cons rb rel =>
      cases rel with
      | cons rc rel =>
        cases rel; cases ra; cases rb; cases rc
        obtain ⟨is1, _, p1, _⟩ := I1.list t.one
        obtain ⟨is2, _, p2, _⟩ := I1.list t.two
        obtain ⟨is3, _, p3, _⟩ := I1.list t.three
        refine zip_begins3 (begins_list a is1.toArray) (begins_list b is2.toArray) (begins_list c is3.toArray) p1.isList p2.isList p3.isList fun h' hz hi ho h1 h2 h3 hsz hk => wpAny_pyIter_zip hz ?_
        have below : ∀ {d : Addr}, d < s1.heap.objs.size → ∀ x ∈ [d], x < s1.heap.objs.size := fun hd x hx => by rw [List.mem_singleton.mp hx]; exact hd
        have ne : ∀ {d : Addr} (m : Nat), d < s1.heap.objs.size → d ≠ s1.heap.objs.size + m := fun m hd e => by
          have e' : (_ : Nat) = s1.heap.objs.size + m := e
          have hd' : (_ : Nat) < s1.heap.objs.size := hd
          omega
        refine ⟨_, _, _, _, H1, rfl, I1.kept (t' := s1.toks) hk, turn_tri (zip_sep3 (below p1.lt) (below p2.lt) (below p3.lt)) (ne 0 p1.lt) (ne 1 p2.lt) (ne 2 p3.lt), ⟨hz, hi, ⟨_, _, _, ho⟩, ⟨_, h1, rfl, rfl⟩, ⟨_, h2, rfl, rfl⟩, ⟨_, h3, rfl, rfl⟩⟩, fun x hx => ?_, q⟩
        have up : ∀ m : Nat, s1.heap.objs.size ≤ s1.heap.objs.size + m := fun m => Nat.le_add_right _ _
        have le : s1.heap.objs.size ≤ x := tri_mem (p := fun x => s1.heap.objs.size ≤ x) hx (up 5) (up 3) (up 4) (up 0) (up 1) (up 2)
        exact I1.fpOk le (I1.hok.fresh le)
theorem i_tri {K : PySem.W.Frag} {R : It → Hp → Prop} {H : Hp} {a b c : Addr} {xs ys us : List V} (t : Tri K H a b c xs ys us) (q : R (ItTri K a b c) H) : TriQ K R [.ref a, .ref b, .ref c] H := ⟨a, b, c, xs, ys, us, rfl, t, q⟩
/-- a new triple of what stands at a turn in each -/
def YTri (xs ys us : List V) : Nat → Hp → V → Hp → Prop := fun n H v H' => ∃ T x y u, v = .ref T ∧ H T = none ∧ H' = upd H T (.tup [x, y, u]) ∧ xs[n]? = some x ∧ ys[n]? = some y ∧ us[n]? = some u
theorem walk_tri {K : PySem.W.Frag} {a b c : Addr} {xs ys us : List V} {n : Nat} (e1 : xs.length = n) (e2 : ys.length = n) (e3 : us.length = n) : Walk (ItTri K a b c) n (fun H => Tri K H a b c xs ys us) (YTri xs ys us) where
  goes := fun i H hi t => ⟨xs, ys, us, t, by omega, by omega, by omega⟩
  stops := fun H t => ⟨xs, ys, us, t, e1, e2, e3⟩
  yields := fun i H v H' _ t ⟨T, x, y, u, ev, hT, eH, g⟩ => ⟨T, x, y, u, ev, hT, eH, g xs ys us t⟩
end Vw

set_option Elab.async false
set_option linter.all false
set_option maxRecDepth 100000
set_option maxHeartbeats 1000000
namespace Vw
open PySem PySem.Spec PyProof.Rows L2 RT
/-! ### isinstance of a caught error, whether it has fields or none -/
section
open PySem.W PySem.Calls
variable {prog : Program} {w : World} {A : Around} {E : Value → Shared → Prop} {K : Frag} {x D : Addr} {ox : Obj} {od : Option Obj}
theorem own_class (C : ExcC K D) : findObj K D od "__class__" = some (.bind (.builtin "getset_descriptor.__get__") (.builtin "object.__class__")) := by
  obtain ⟨cd, ec, _⟩ := any_some C.hd
  unfold findObj
  rw [show (clsIn K D).bind _ = _ from congrArg (Option.bind · _) ec, Option.bind_some, C.ha, Option.bind_some]
  simp only [C.hn, C.ht, Option.bind_some]
theorem err_class {s : Shared} {Q : Option Value → Shared → Prop} (C : ExcC K D) (kin : K.In s.heap) (at_ : InstAt s.heap x ox D od) (q : Q (some (.ref D)) { s with toks := s.toks + 1 }) : wpAny (model prog w) A (getAttr? (.ref x) "__class__") Q E s := by
  obtain ⟨hp, g, d, t, os⟩ := s
  have type_is := at_.type (M := model prog w)
  have finds := looks_find (M := model prog w) kin at_ (own_class (od := od) C)
  have base : Looks (model prog w) hp (isInstance (.ref x) (.type "BaseException")) true := type_is.andThen (looks_subIn kin C.hs)
  have differ : (Value.builtin "BaseException.__getattribute__" == Value.builtin "object.__getattribute__") = false := by decide +kernel
  unfold getAttr? getAttrBy? getAttrBy
  refine wpAny_bind (wpAny_mkText (wpAny_bind (wpAny_attempt (wpAny_holding (wpAny_bind (type_is.at (wpAny_bind ((looks_findIn (M := model prog w) kin C.hg).at ?_))))))))
  dsimp only
  rw [show (onTheHeap (Value.ref D) && Value.builtin "BaseException.__getattribute__" == Value.builtin "object.__getattribute__") = false by rw [differ]; rfl, if_neg Bool.false_ne_true]
  unfold getAttrByItsOwn hookBefore
  rw [if_pos (show onTheHeap (Value.ref D) = true from rfl)]
  refine wpAny_bind ((looks_findIn (M := model prog w) kin C.hk).at (wpAny_bind (wpAny_attempt (wpAny_holding ?_))))
  unfold callGetattribute
  rw [show (false && onTheHeap (Value.builtin "BaseException.__getattribute__")) = false from rfl, if_neg Bool.false_ne_true]
  unfold boundAndCalled
  rw [PySem.F.excAttr_ValueError.ga.bind (.ref x)]
  refine wpAny_bind (wpAny_pure ?_)
  dsimp only
  refine (wpAny_call (codeAny_call_builtin PySem.F.excAttr_ValueError.ga.plain PySem.F.entry_bexc_ga ?_))
  refine @check_slot (model prog w) _ _ ⟨hp, g, d, t + 1, os⟩ _ "BaseException" "__getattribute__" (.ref x) [.str "__class__" t] [] _ (by decide +kernel) (by decide +kernel) base (PySem.F.args_bexc_ga (.ref x) (.str "__class__" t)) ?_
  unfold Builtin.«object.__getattribute__»
  refine wpAny_bind (wpAny_of_eq (a := ((Value.ref x : Value), [Value.str "__class__" t])) (by first | rfl | (simp only [slotArgs]; rfl)) (wpAny_bind (wpAny_pure (wpAny_bind (type_is.at (wpAny_bind (finds.at ?_)))))))
  dsimp only
  refine wpAny_bind (wpAny_holding (wpAny_call (class_get (s := ⟨hp, g, d, t + 1, os⟩) (ox := ox) (od := od) kin at_ C.hm (wpAny_pure ?_))))
  show wpAny _ _ (handedOut (.ref D)) _ _ _
  rw [handedOut_of (v := .ref D) rfl]
  first
    | exact wpAny_pure (wpAny_pure q)
    | exact wpAny_pure q
    | exact wpAny_pure (wpAny_bind (wpAny_pure (wpAny_pure q)))
theorem kit_any (C : ExcC K D) : KitX K (.ref x) (.ref D) (fun h => InstAt h x ox D od) where
  ty := fun _ _ _ at_ => at_.type
  it := fun M h kin _ => by
    obtain ⟨cd, ec, _⟩ := any_some C.hd
    unfold clsIn at ec
    split at ec
    · rename_i c' d' cd' sl' ho
      intro A' Q' E' s' k q
      unfold isType loadHead
      exact wpAny_bind (wpAny_loadPart (k _ _ (kin _ _ ho)) (wpAny_pure q))
    · cases ec
  ne := fun h tp dd its n sl kin htp => by
    refine Bool.eq_false_iff.mpr fun q => ?_
    obtain rfl : D = tp := Value.ref.inj (beq_iff_eq.mp q)
    obtain ⟨cd, ec, _⟩ := any_some C.hd
    unfold clsIn at ec
    split at ec
    · rename_i c' d' cd' sl' ho
      exact absurd ((kin _ _ ho).symm.trans htp) (fun z => nomatch z)
    · cases ec
  ca := fun kin at_ q => err_class C kin at_ q
end
/-- isinstance(e, c), e the caught error, d its dict's place -/
def rIsEA (K : PySem.W.Frag) (D a : Addr) (d : Option Addr) : List V → Hp → VK → Prop := fun xs H Q => ∃ (c : V) (cv : Value) (b : Bool), xs = [.ref a, c] ∧ (∀ u, RelV c u → u = cv) ∧ PySem.W.kitOne K (.ref D) cv = some b ∧ (∀ dd, d = some dd → ∃ fs, H dd = some (.xd fs)) ∧ Q (.bl b) H
theorem call_isEA {X : Cx} {a D : Addr} {d : Option Addr} {oe : Obj} {pn : List (Addr × Obj)} (C : ExcC X.K D) (hz : Zc (.ref D) d oe) (hf : ∃ vs, oe.data = .fields vs) : CallR (X.suite a ((a, oe) :: pn)) (.builtin "isinstance") (rIsEA X.K D a d) := by
  intro pins s σ H xs us Q I rel h
  obtain ⟨c, cv, b, rfl, hcv, e, hd, q⟩ := h
  cases rel with
  | cons rx rel =>
    cases rel with
    | cons rt rel =>
      cases rel; cases rx
      obtain rfl := hcv _ rt
      obtain ⟨hget, _⟩ := I.pin (a, oe) (List.mem_append_left _ List.mem_cons_self)
      obtain ⟨vs, hv⟩ := hf
      have J : ∃ od, PySem.W.InstAt s.heap a oe D od := by
        obtain ⟨z1, z2⟩ := hz
        cases d with
        | none =>
          refine ⟨none, hget, z1, by unfold PySem.W.notCls; rw [hv] <;> rfl, ?_⟩
          rw [z2]; trivial
        | some dd =>
          obtain ⟨fs, ex⟩ := hd dd rfl
          obtain ⟨mA, hns, _⟩ : ObjOk X.prog X.w H s.heap dd (.xd fs) := I.hok dd _ ex
          obtain ⟨od, ho, _⟩ := lookIn_ns hns
          exact ⟨some od, hget, z1, by unfold PySem.W.notCls; rw [hv] <;> rfl, by rw [z2]; exact ho⟩
      obtain ⟨od, J⟩ := J
      exact PySem.W.kia_one (kit_any (od := od) C) I.kIn J e (fun z => nomatch z) fun tk => ⟨.bl b, H, I.kept (t' := tk) fun _ _ z => z, rfl, q⟩
/-- the same, the class learnt from the reading -/
def rIsEK (K : PySem.W.Frag) (D a : Addr) (k : Value) (d : Option Addr) : List V → Hp → VK → Prop := fun xs H Q => k = .ref D ∧ rIsEA K D a d xs H Q
theorem call_isEK {X : Cx} {a D : Addr} {k : Value} {d : Option Addr} {oe : Obj} {pn : List (Addr × Obj)} (C : ExcC X.K D) (hz : Zc k d oe) (hf : ∃ vs, oe.data = .fields vs) : CallR (X.suite a ((a, oe) :: pn)) (.builtin "isinstance") (rIsEK X.K D a k d) := by
  intro pins s σ H xs us Q I rel h
  obtain ⟨rfl, h⟩ := h
  exact call_isEA C hz hf pins s σ H xs us Q I rel h
end Vw

set_option Elab.async false
set_option linter.all false
set_option maxRecDepth 100000
set_option maxHeartbeats 1000000
namespace Vw
open PySem PySem.Spec PyProof.Rows L2 RT
/-! ### what repr shows is a text of good signs -/
theorem sOk_app {a b : Str} (ha : PyData.strOk a = true) (hb : PyData.strOk b = true) : PyData.strOk (a ++ b) = true := by
  show (a.cps ++ b.cps).all _ = true
  rw [Array.all_append]
  have ha : a.cps.all (· < 0x110000) = true := ha
  have hb : b.cps.all (· < 0x110000) = true := hb
  rw [ha, hb]; rfl
theorem sOk_from : ∀ (ts : List Str) (k : Nat) (acc : Str), PyData.strOk acc = true → (∀ t ∈ ts, PyData.strOk t = true) → PyData.strOk (textFrom k acc ts) = true
  | [], _, _, h, _ => h
  | t :: r, k, acc, h, ht => by
    refine sOk_from r (k + 1) _ (sOk_app (sOk_app h ?_) (ht t List.mem_cons_self)) fun u hu => ht u (List.mem_cons_of_mem _ hu)
    split <;> decide +kernel
theorem sOk_join : ∀ (ts : List Str), (∀ t ∈ ts, PyData.strOk t = true) → PyData.strOk (Str.join ", " ts) = true
  | [], _ => by decide +kernel
  | [x], h => h x List.mem_cons_self
  | x :: y :: r, h => by
    have ih := sOk_join (y :: r) fun u hu => h u (List.mem_cons_of_mem _ hu)
    show PyData.strOk (x ++ ", " ++ Str.join ", " (y :: r)) = true
    exact sOk_app (sOk_app (h x List.mem_cons_self) (by decide +kernel)) ih
theorem sOk_int (i : Int) : PyData.strOk (PyData.int i).shown = true := by
  show Array.all _ _ = true
  rw [Array.all_eq_true_iff_forall_mem]
  intro k hk
  by_cases q : k ≠ 45 ∧ (k < 48 ∨ 57 < k)
  · exact absurd (Array.mem_toList_iff.mpr hk) (shown_int_free' q i)
  · exact decide_eq_true (by omega)
mutual
/-- data whose texts show well -/
inductive TxD : PyData → Prop
  | non : TxD .none
  | bl (b : Bool) : TxD (.bool b)
  | int (i : Int) : TxD (.int i)
  | str (x : Str) : PyData.strOk (PyData.str x).shown = true → TxD (.str x)
  | lst (xs : List PyData) : TxA xs → TxD (.list xs)
  | tup (xs : List PyData) : TxA xs → TxD (.tuple xs)
  | dct (D : List (PyData × PyData)) : TxA (D.map (·.1)) → TxA (D.map (·.2)) → TxD (.dict D)
inductive TxA : List PyData → Prop
  | nil : TxA []
  | cons {d : PyData} {ds : List PyData} : TxD d → TxA ds → TxA (d :: ds)
end
mutual
theorem tx_ok : ∀ d : PyData, TxD d → PyData.strOk d.shown = true
  | .none, _ => by decide +kernel
  | .bool b, _ => by cases b <;> decide +kernel
  | .int i, _ => sOk_int i
  | .str x, h => by cases h; assumption
  | .list xs, h => by
    cases h with
    | lst _ h => exact sOk_app (sOk_from _ 0 _ (by decide +kernel) (tx_all xs h)) (by decide +kernel)
  | .tuple xs, h => by
    cases h with
    | tup _ h =>
      refine sOk_app (sOk_app (by decide +kernel) (sOk_join _ (tx_all xs h))) ?_
      split <;> decide +kernel
  | .dict D, h => by
    cases h with
    | dct _ h1 h2 => exact sOk_app (sOk_app (by decide +kernel) (sOk_join _ (tx_kv D h1 h2))) (by decide +kernel)
theorem tx_all : ∀ ds : List PyData, TxA ds → ∀ t ∈ PyData.shownAll ds, PyData.strOk t = true
  | [], _, t, ht => nomatch ht
  | d :: ds, h, t, ht => by
    cases h with
    | cons h1 h2 =>
      rcases List.mem_cons.mp ht with e | e
      · rw [e]; exact tx_ok d h1
      · exact tx_all ds h2 t e
theorem tx_kv : ∀ D : List (PyData × PyData), TxA (D.map (·.1)) → TxA (D.map (·.2)) → ∀ t ∈ PyData.shownKv D, PyData.strOk t = true
  | [], _, _, t, ht => nomatch ht
  | (k, v) :: D, h1, h2, t, ht => by
    cases h1 with
    | cons a1 b1 =>
      cases h2 with
      | cons a2 b2 =>
        rcases List.mem_cons.mp ht with e | e
        · rw [e]; exact sOk_app (sOk_app (tx_ok k a1) (by decide +kernel)) (tx_ok v a2)
        · exact tx_kv D b1 b2 t e
end
/-! ### small data -/
mutual
def smB : PyData → Bool
  | .none => true
  | .bool _ => true
  | .int i => decide (i.natAbs < 10 ^ 41)
  | .str x => PyData.strOk (PyData.str x).shown && x.cps.toList.all fun c => decide (c < 16 ^ 8)
  | .list xs => smA xs
  | .tuple xs => smA xs
  | .dict D => smK D
def smA : List PyData → Bool
  | [] => true
  | d :: ds => smB d && smA ds
def smK : List (PyData × PyData) → Bool
  | [] => true
  | (k, v) :: D => smB k && smB v && smK D
end
theorem log_lt41 {n : Nat} (h : n < 10 ^ 41) : n.log2 < 1920 := by
  by_cases z : n = 0
  · subst z; decide
  · refine (Nat.log2_lt z).mpr (Nat.lt_of_lt_of_le h ?_)
    decide +kernel
mutual
theorem sm_facts : ∀ d : PyData, smB d = true → TxD d ∧ d.showable = true ∧ d.leavesShort 50 = true
  | .none, _ => ⟨.non, by simp only [PyData.showable], rfl⟩
  | .bool b, _ => ⟨.bl b, by simp only [PyData.showable], rfl⟩
  | .int i, h => by
    have h : i.natAbs < 10 ^ 41 := of_decide_eq_true h
    refine ⟨.int i, by simp only [PyData.showable, decide_eq_true (log_lt41 h)], ?_⟩
    show decide ((PyData.shown (.int i)).length ≤ 50) = true
    refine decide_eq_true (Nat.le_trans (m := 42) ?_ (by decide))
    show (Str.ofString (toString i)).length ≤ 42
    rw [PySem.ofString_length]
    exact int_text_length_le10 (k := 41) (by decide) h
  | .str x, h => by
    have h : (PyData.strOk (PyData.str x).shown && x.cps.toList.all fun c => decide (c < 16 ^ 8)) = true := h
    rw [Bool.and_eq_true] at h
    exact ⟨.str x h.1, by simp only [PyData.showable], h.2⟩
  | .list xs, h => by
    obtain ⟨a, b, c⟩ := sm_all xs h
    exact ⟨.lst xs a, by simpa only [PyData.showable] using b, by simpa only [PyData.leavesShort] using c⟩
  | .tuple xs, h => by
    obtain ⟨a, b, c⟩ := sm_all xs h
    exact ⟨.tup xs a, by simpa only [PyData.showable] using b, by simpa only [PyData.leavesShort] using c⟩
  | .dict D, h => by
    obtain ⟨a1, a2, b, c⟩ := sm_kv D h
    exact ⟨.dct D a1 a2, by simpa only [PyData.showable] using b, by simpa only [PyData.leavesShort] using c⟩
theorem sm_all : ∀ ds : List PyData, smA ds = true → TxA ds ∧ PyData.showableAll ds = true ∧ PyData.leavesShortAll 50 ds = true
  | [], _ => ⟨.nil, by simp only [PyData.showableAll], rfl⟩
  | d :: ds, h => by
    have h : (smB d && smA ds) = true := h
    rw [Bool.and_eq_true] at h
    obtain ⟨a, b, c⟩ := sm_facts d h.1
    obtain ⟨a2, b2, c2⟩ := sm_all ds h.2
    exact ⟨.cons a a2, by simp only [PyData.showableAll, b, b2, Bool.and_self], by simp only [PyData.leavesShortAll, c, c2, Bool.and_self]⟩
theorem sm_kv : ∀ D : List (PyData × PyData), smK D = true → TxA (D.map (·.1)) ∧ TxA (D.map (·.2)) ∧ PyData.showableKv D = true ∧ PyData.leavesShortKv 50 D = true
  | [], _ => ⟨.nil, .nil, by simp only [PyData.showableKv], rfl⟩
  | (k, v) :: D, h => by
    have h : ((smB k && smB v) && smK D) = true := h
    rw [Bool.and_eq_true, Bool.and_eq_true] at h
    obtain ⟨a, b, c⟩ := sm_facts k h.1.1
    obtain ⟨a2, b2, c2⟩ := sm_facts v h.1.2
    obtain ⟨a3, a4, b3, c3⟩ := sm_kv D h.2
    exact ⟨.cons a a3, .cons a2 a4, by simp only [PyData.showableKv, b, b2, b3, Bool.and_self], by simp only [PyData.leavesShortKv, c, c2, c3, Bool.and_self]⟩
end
theorem sm_fits {d : PyData} (h : smB d = true) (w : d.weight ≤ 300000) : d.shown.length ≤ sizeLine := by
  have := PyData.shown_le 50 (by decide) d (sm_facts d h).2.2
  have e : sizeLine = 16777216 := by decide +kernel
  rw [e]
  omega
theorem smA_of {ds : List PyData} (h : ∀ d ∈ ds, smB d = true) : smA ds = true := by
  induction ds with
  | nil => rfl
  | cons d ds ih =>
    show (smB d && smA ds) = true
    rw [h d List.mem_cons_self, ih fun y hy => h y (List.mem_cons_of_mem _ hy)]; rfl
/-! ### data over more addresses -/
section
variable {K : PySem.W.Frag} {N N' : Addr → Prop} {H : Hp}
mutual
theorem dq_mono (h : ∀ a, N a → N' a) : ∀ (d : PyData) (x : V), Dq K N H x d → Dq K N' H x d
  | .none, _, q => by cases q; exact .non
  | .bool _, _, q => by cases q; exact .bl _
  | .int _, _, q => by cases q; exact .int _
  | .str _, _, q => by cases q; exact .str _
  | .list ds, _, q => by
    cases q with
    | lst a n b => exact .lst a (h _ n) (dq_monoA h ds _ b)
  | .tuple ds, _, q => by
    cases q with
    | tup a b => exact .tup a (dq_monoA h ds _ b)
  | .dict D, _, q => by
    cases q with
    | dct a n b c => exact .dct a (h _ n) b (dq_monoK h D _ c)
theorem dq_monoK (h : ∀ a, N a → N' a) : ∀ (D : List (PyData × PyData)) (xs : List V), DqAll K N H xs (D.map (·.2)) → DqAll K N' H xs (D.map (·.2))
  | [], _, q => by cases q; exact .nil
  | (_, d) :: D, _, q => by
    cases q with
    | cons a b => exact .cons (dq_mono h d _ a) (dq_monoK h D _ b)
theorem dq_monoA (h : ∀ a, N a → N' a) : ∀ (ds : List PyData) (xs : List V), DqAll K N H xs ds → DqAll K N' H xs ds
  | [], _, q => by cases q; exact .nil
  | d :: ds, _, q => by
    cases q with
    | cons a b => exact .cons (dq_mono h d _ a) (dq_monoA h ds _ b)
end
end
end Vw

set_option Elab.async false
set_option linter.all false
set_option maxRecDepth 100000
set_option maxHeartbeats 4000000
namespace Vw
open PySem PySem.Spec PyProof.Rows L2 RT
/-! ### an own error kept as a value -/
/-- C(e, ..) as a value: the error stays -/
def tVkO (C : Addr) (sp : Sp) (dvs : List V) (ta : TA) : TE := fun σ H Q => ta σ H fun vs H1 => vs.length ≤ 1000 ∧ ∀ a, H1 a = none → sp (.ref a :: (vs ++ dvs)) (upd H1 a (exo a C none)) (fun v H2 => v = .non ∧ Q (.ref a) H2) (fun _ _ _ => False)
def tVkN (C : Addr) (sp : Sp) : TE := fun σ H Q => ∀ a, H a = none → sp [.ref a] (upd H a (exo a C none)) (fun v H2 => v = .non ∧ Q (.ref a) H2) (fun _ _ _ => False)
theorem value_end {X : Cx} {pins : List (Addr × Obj)} {σ : L2.St} {H : Hp} {s s' : Shared} {Q : VK} {u : Value} {a : Addr} (I : Inv X pins σ H s) (h : CE X.stack X.prog X.w H s (fun v H2 => v = .non ∧ Q (.ref a) H2) u s') : u = .none ∧ EP X pins σ Q (.ref a) s' := by
  obtain ⟨v, H2, J, r, rfl, q⟩ := I.after h
  exact ⟨r, .ref a, H2, J, rfl, q⟩
section
variable {X : Cx} {CX : CXT} {x : Str} {C m : Addr} {k : Nat} {fd : FuncData} {ps : List Str} {sp : Sp} {ds : List Value} {dvs : List V} {e : Expr} {es : List Expr} {ta : TA} {p pos : Pos}
/-- the class called: its instance is laid, tracked while __init__ runs on it, and stays tracked -/
theorem class_called {pins : List (Addr × Obj)} {σ : L2.St} {H : Hp} {s : Shared} {Q : VK} {us : List Value} {vs : List V} (T : OexC X.K C) (has : PySem.W.findIn X.K (.ref C) "__init__" = some (some (.ref m))) (isf : PySem.W.typeIn X.K (.ref m) = some (.type "function"))
    (it : FnOk X.prog X.w X.K X.mg X.base CX k m fd ps sp) (room : Room (k + 1) X.A) (bd : Binds X.K fd ps ds) (dd : Vals dvs ds) (calm : Passes CX X (fun _ _ _ => False)) (I : Inv X pins σ H s) (rel : Vals vs us) (few : vs.length ≤ 1000)
    (ask : ∀ a, H a = none → sp (.ref a :: (vs ++ dvs)) (upd H a (exo a C none)) (fun v H2 => v = .non ∧ Q (.ref a) H2) (fun _ _ _ => False)) : wpAny (model X.prog X.w) X.A (call (.ref C) us) (EP X pins σ Q) X.xe s := by
  obtain ⟨h, gs, dr, tk, os⟩ := s
  obtain ⟨_, _, _, _, bm, _, _, _, _, _, _, _, _, _, _, look, refs⟩ := T.cls
  -- the instance lies behind the tuple of what was passed
  obtain ⟨b, eb⟩ : ∃ b, b = h.objs.size + 1 := ⟨_, rfl⟩
  obtain ⟨h2, e2⟩ : ∃ h2 : Heap, h2 = (h.push (PySem.W.kdv_tup us)).push (PySem.HandSPX.excO C h.objs.size) := ⟨_, rfl⟩
  have above : h.objs.size ≤ b := by omega
  have old : ∀ c o, h.get? c = some o → h2.get? c = some o := fun c o q => by
    rw [e2]
    exact Heap.get?_push_of_some _ (Heap.get?_push_of_some _ q)
  have there : h2.get? b = some (PySem.HandSPX.excO C h.objs.size) := by
    rw [e2, eb]
    heap_get
  have J : Inv X pins σ (upd H b (exo b C none)) ⟨h2, gs, dr, tk, os⟩ := I.laid (t' := tk) old above (exo_ok there)
  have due := ask b (I.hok.fresh above)
  have all : Vals (V.ref b :: (vs ++ dvs)) (Value.ref b :: (us ++ ds)) := .cons rfl (rel.append dd)
  have count : (Value.ref b :: us ++ ds).length = ps.length := all.length.symm.trans (it.len _ _ _ _ due)
  have short : us.length ≤ sizeLine := by
    have := Paired.length rel
    rw [sizeLine_eq]; omega
  subst eb e2
  refine wpAny_call (PySem.HandSPX.call_own F.excBase_ValueError (fun Y => PySem.HandSPX.refsVE_contains Y bm refs) (I.kIn _ _ look) (PySem.W.looks_findIn I.kIn has) (fun self => PySem.W.bind_fn I.kIn self isf) short ?_)
  refine codeAny_mono (it.run _ X.stack _ _ ⟨_ :: us, []⟩ _ _ _ _ (room.make C us []) (J.env0.make C us []) (bd _ (_ :: us) J.kIn count) all due) fun res s' got => ?_
  match res, got with
  | .error er, got => exact calm pins σ _ _ er s' J got
  | .ok (.ret u), got => exact value_end J got
  | .ok .next, got => exact got.elim
  | .ok .brk, got => exact got.elim
  | .ok .cont, got => exact got.elim
theorem pe_vko (T : OexC X.K C) (has : PySem.W.findIn X.K (.ref C) "__init__" = some (some (.ref m))) (isf : PySem.W.typeIn X.K (.ref m) = some (.type "function")) (F : FnOk X.prog X.w X.K X.mg X.base CX k m fd ps sp) (room : Room (k + 1) X.A) (bd : Binds X.K fd ps ds) (dd : Vals dvs ds)
    (calm : Passes CX X (fun _ _ _ => False)) (glob : Gl X x) (names : X.mg x = some (.ref C)) (args : PA X (e :: es) ta) (nd : (x == ("__debug__" : Str)) = false := by decide) (st1 : starEach (e :: es) X.env = (false, eval e X.env) :: starEach es X.env := by rfl) (st2 : (backTo pos (starEach es X.env)).any (·.1) = false := by rfl) :
    PE X (.Call (.Name x p) (e :: es) [] pos) (tVkO C sp dvs ta) :=
  ⟨fun pins s σ H Q I h => wpAny_Call_Name_kw (ld_glob I glob names (PySem.W.callWith_K (h₀ := X.base) I.mod.kin T.kC (thn (args.run pos pins s σ H _ I h) fun _ _ ⟨_, _, J, r, few, q⟩ => ⟨J.kIn, class_called T has isf F room bd dd calm J r few q⟩) st1 st2) nd)⟩
theorem pe_vkn (T : OexC X.K C) (has : PySem.W.findIn X.K (.ref C) "__init__" = some (some (.ref m))) (isf : PySem.W.typeIn X.K (.ref m) = some (.type "function")) (F : FnOk X.prog X.w X.K X.mg X.base CX k m fd ps sp) (room : Room (k + 1) X.A) (bd : Binds X.K fd ps [])
    (calm : Passes CX X (fun _ _ _ => False)) (glob : Gl X x) (names : X.mg x = some (.ref C)) (nd : (x == ("__debug__" : Str)) = false := by decide) : PE X (.Call (.Name x p) [] [] pos) (tVkN C sp) :=
  ⟨fun pins s σ H Q I h => wpAny_Call_Name_kw (ld_glob I glob names (PySem.W.callWith_K0 I.kIn T.kC (class_called (vs := []) (us := []) (dvs := []) T has isf F room bd .nil calm I .nil (Nat.zero_le _) h)) nd)⟩
/-- e.f, e an error that is kept -/
def tXv (C : Addr) (f : Str) (te : TE) : TE := fun σ H Q => te σ H fun x H1 => ∃ (a d : Addr) (fs : List (Str × V)) (v : V), x = .ref a ∧ H1 a = some (exo a C (some d)) ∧ H1 d = some (exd d fs) ∧ fs.lookup f = some v ∧ Q v H1
theorem pe_xv {C : Addr} {te : TE} {pos : Pos} {n : Str} (T : XfC X.K C) (hno : PySem.W.findIn X.K (.ref C) n = some none) (he : PE X e te) (hb : attributeBase e n X.env (eval e X.env) = eval e X.env := by rfl) :
    PE X (.Attribute e n pos) (tXv C n te) := by
  refine ⟨fun pins s σ H Q I h => ?_⟩
  refine attr_of hb (thn (he.run pins s σ H _ I h) fun _ s1 ⟨_, H1, J, same, a, d, fs, v, ex, err, row, is, q⟩ => ?_)
  subst ex
  cases same
  obtain ⟨_, lies⟩ := exo_at J.hok err
  obtain ⟨names, space, told⟩ := exd_at J.hok row
  obtain ⟨od, dict, looks⟩ := lookIn_ns space
  obtain ⟨w1, e1, rel⟩ := RelO.some_of (v := v) (o := names n) (is ▸ told n)
  have inst : PySem.W.InstAt s1.heap a _ C (some od) := ⟨lies, rfl, rfl, dict⟩
  have own := PySem.W.findObj_own (K := X.K) (od := od) T.hdC hno rfl ((looks n).trans (congrArg some e1))
  exact HandSPX.exc_get J.kIn inst T.ga T.gg T.exC own (handed_of rel) ⟨v, H1, J.tok _, rel, q⟩
/-- isinstance(e, c), e an error that is kept -/
def rIsV (K : PySem.W.Frag) : List V → Hp → VK → Prop := fun xs H Q => ∃ (a D : Addr) (d : Option Addr) (c : V) (cv : Value) (b : Bool), xs = [.ref a, c] ∧ ExcC K D ∧ H a = some (exo a D d) ∧ (∀ dd, d = some dd → ∃ fs, H dd = some (exd dd fs)) ∧ (∀ u, RelV c u → u = cv) ∧ PySem.W.kitOne K (.ref D) cv = some b ∧ Q (.bl b) H
theorem call_isV : CallR X (.builtin "isinstance") (rIsV X.K) := by
  intro pins s σ H xs us Q I rel h
  obtain ⟨a, D, d, c, cv, b, rfl, C, ha, hd, hcv, e, q⟩ := h
  cases rel with
  | cons rx rel =>
    cases rel with
    | cons rt rel =>
      cases rel; cases rx
      obtain rfl := hcv _ rt
      obtain ⟨t1, ho⟩ := exo_at I.hok ha
      have J : ∃ ox od, PySem.W.InstAt s.heap a ox D od := by
        cases d with
        | none => exact ⟨_, none, ho, rfl, rfl, trivial⟩
        | some dd =>
          obtain ⟨fs, ex⟩ := hd dd rfl
          obtain ⟨mA, hns, _⟩ := exd_at I.hok ex
          obtain ⟨od, hod, _⟩ := lookIn_ns hns
          exact ⟨_, some od, ho, rfl, rfl, hod⟩
      obtain ⟨ox, od, J⟩ := J
      exact PySem.W.kia_one (kit_any (ox := ox) (od := od) C) I.kIn J e (fun z => nomatch z) fun tk => ⟨.bl b, H, I.kept (t' := tk) fun _ _ z => z, rfl, q⟩
theorem cIsV {K : PySem.W.Frag} (e : X.K = K := by rfl) : CallR X (.builtin "isinstance") (rIsV K) := by cases e; exact call_isV
end
end Vw
namespace Vw
open PySem PySem.Spec PyProof.Rows L2 RT
/-! ### len of a set of ints -/
def rLenS (w : World) : List V → Hp → VK → Prop := fun xs H Q => ∃ (ns : List Int) (a : Addr) (n : Nat), xs = [.ref a] ∧ H a = some (SetO w a (fun j => decide (j ∈ ns)) n) ∧ ns.Nodup ∧ Q (.int (ns.length : Nat)) H
theorem card_eq {ns ms : List Int} (h1 : ns.Nodup) (h2 : ms.Nodup) (h : ∀ k, decide (k ∈ ns) = true ↔ k ∈ ms) : ms.length = ns.length := by
  have e : ms.Perm ns := (List.perm_ext_iff_of_nodup h2 h1).mpr fun k => (h k).symm.trans (by simp)
  exact e.length_eq
theorem cLenS {X : Cx} {w : World} (ew : X.w = w := by rfl) : CallR X (.builtin "len") (rLenS w) := by
  cases ew
  intro pins s σ H xs us Q I r h
  obtain ⟨ns, a, n, rfl, ha, nd, q⟩ := h
  rw [Vals.ref1 r]
  obtain ⟨o, es, ep, t, ho, hx, hd, _, nde, hS, hb, hf, rfl, _⟩ := setO_get I ha
  have el : es.size = ns.length := by
    have := card_eq nd nde hS
    rw [List.length_map, Array.length_toList] at this
    exact this
  refine call_len_set ho hx hd hf (by unfold scanBound at hb; omega) ?_
  exact ⟨.int (ns.length : Nat), H, I.tok _, ⟨_, by rw [← el]⟩, q⟩
/-- what the classes of errors must say -/
def xcB (K : PySem.W.Frag) (D : Addr) : Bool :=
  decide (PySem.W.findIn K (.ref D) "__getattribute__" = some (some (.builtin "BaseException.__getattribute__"))) && (decide (PySem.W.findIn K (.ref D) "__getattr__" = some none) && (decide (PySem.W.subIn K (.ref D) (.type "BaseException") = some true) && (PySem.W.hasDictIn K D &&
  (decide (PySem.W.findIn K (.ref D) "__class__" = some (some (.builtin "object.__class__"))) && (decide (PySem.W.specialIn K (.builtin "object.__class__") "__get__" = some (some (.builtin "getset_descriptor.__get__"))) && (decide (PySem.W.takesIn K (.builtin "object.__class__") = some true) && decide (PySem.W.mroIn K D (.type "object") = some true)))))))
theorem xcB_ok {K : PySem.W.Frag} {D : Addr} (h : xcB K D = true) : ExcC K D := by
  unfold xcB at h
  simp only [Bool.and_eq_true, decide_eq_true_eq] at h
  obtain ⟨h1, h2, h3, h4, h5, h6, h7, h8⟩ := h
  exact ⟨h1, h2, h3, h4, h5, h6, h7, h8⟩
def xcAll (K : PySem.W.Frag) (L : List Addr) : Bool := L.all (xcB K)
def kitAll (K : PySem.W.Frag) (L : List Addr) (v : Value) : Bool := L.all fun D => decide (PySem.W.kitOne K (.ref D) v = some true)
def kitRow (K : PySem.W.Frag) (D : Addr) (i : Nat) : Nat → List Addr → Bool
  | _, [] => true
  | j, C :: L => decide (PySem.W.kitOne K (.ref D) (.ref C) = some (decide (i = j))) && kitRow K D i (j + 1) L
def kitRows (K : PySem.W.Frag) (A : List Addr) : Nat → List Addr → Bool
  | _, [] => true
  | i, D :: L => kitRow K D i 0 A && kitRows K A (i + 1) L
def kitTab (K : PySem.W.Frag) (L : List Addr) : Bool := kitRows K L 0 L
theorem kitRow_at {K : PySem.W.Frag} {D : Addr} {i : Nat} : ∀ {L : List Addr} {n j : Nat} {C : Addr}, kitRow K D i n L = true → L[j]? = some C → PySem.W.kitOne K (.ref D) (.ref C) = some (decide (i = n + j))
  | [], _, _, _, _, e => by simp at e
  | B :: L, n, 0, C, h, e => by
    unfold kitRow at h
    rw [Bool.and_eq_true] at h
    have : B = C := Option.some.inj e
    subst this
    exact of_decide_eq_true h.1
  | B :: L, n, j + 1, C, h, e => by
    unfold kitRow at h
    rw [Bool.and_eq_true] at h
    have := kitRow_at (L := L) (n := n + 1) (j := j) (C := C) h.2 e
    rw [this, show n + 1 + j = n + (j + 1) by omega]
theorem kitRows_at {K : PySem.W.Frag} {A : List Addr} : ∀ {L : List Addr} {n i : Nat} {D : Addr}, kitRows K A n L = true → L[i]? = some D → kitRow K D (n + i) 0 A = true
  | [], _, _, _, _, e => by simp at e
  | B :: L, n, 0, D, h, e => by
    unfold kitRows at h
    rw [Bool.and_eq_true] at h
    have : B = D := Option.some.inj e
    subst this
    exact h.1
  | B :: L, n, i + 1, D, h, e => by
    unfold kitRows at h
    rw [Bool.and_eq_true] at h
    have := kitRows_at (L := L) (n := n + 1) (i := i) (D := D) h.2 e
    rw [show n + (i + 1) = n + 1 + i by omega]
    exact this
theorem kitTab_at {K : PySem.W.Frag} {L : List Addr} {i j : Nat} {D C : Addr} (h : kitTab K L = true) (d : L[i]? = some D) (c : L[j]? = some C) : PySem.W.kitOne K (.ref D) (.ref C) = some (decide (i = j)) := by
  have := kitRow_at (kitRows_at h d) c
  rw [Nat.zero_add, Nat.zero_add] at this
  exact this
theorem kitAll_at {K : PySem.W.Frag} {L : List Addr} {v : Value} {i : Nat} {D : Addr} (h : kitAll K L v = true) (d : L[i]? = some D) : PySem.W.kitOne K (.ref D) v = some true := of_decide_eq_true (List.all_eq_true.mp h D (List.mem_of_getElem? d))
theorem xcAll_at {K : PySem.W.Frag} {L : List Addr} {i : Nat} {D : Addr} (h : xcAll K L = true) (d : L[i]? = some D) : ExcC K D := xcB_ok (List.all_eq_true.mp h D (List.mem_of_getElem? d))
end Vw

set_option Elab.async false
set_option linter.all false
set_option maxRecDepth 100000
set_option maxHeartbeats 4000000
namespace Vw
open PySem PySem.Spec PyProof.Rows L2 RT
local macro_rules | `(tactic| walk_at "s") => `(tactic| with_reducible first
  | refine' s_seq ?_ | refine' s_next ?_ | refine' s_set ?_ | refine' s_ret ?_ | refine' s_retN ?_ | refine' s_drop ?_ | refine' s_if ?_ | refine' s_ipI ?_
  | refine' e_c ?_ | refine' e_op ?_ | refine' e_un ?_ | refine' e_neg ?_ | refine' e_test ?_ | refine' e_tB ?_ | refine' e_bl ?_ | refine' e_and ?_ | refine' e_or ?_ | refine' e_not ?_
  | refine' e_andV ?_ | refine' e_orV ?_ | refine' e_notV ?_ | refine' e_kV ?_ | refine' e_ife ?_ | refine' e_nil ?_ | refine' e_cons ?_ | refine' e_cb ?_ | refine' e_call ?_ | refine' e_chain ?_
  | refine' o_addI ?_ | refine' o_eqI ?_ | refine' o_neI ?_ | refine' o_I0 ?_ | refine' o_pow16 ?_ | refine' o_pow17 ?_ | refine' o_pow18 ?_ | refine' o_pow19 ?_ | refine' o_pow30 ?_ | refine' o_pow31 ?_ | refine' o_pow1 ?_ | refine' o_pow2 ?_ | refine' o_pow3 ?_ | refine' o_pow4 ?_ | refine' o_pow5 ?_ | refine' o_pow6 ?_ | refine' o_pow9 ?_ | refine' o_pow10 ?_ | refine' o_pow12 ?_ | refine' o_pow15 ?_ | refine' o_pow20 ?_ | refine' e_lst ?_ | refine' e_tup ?_ | refine' iteT ?_ | refine' i_nt ?_ | refine' i_nf ?_ | refine' iteF ?_ | refine' c_int ?_ | refine' c_abs ?_ | refine' c_min2 ?_ | refine' c_max2 ?_ | refine' e_tru ?_ | refine' t_bl ?_ | refine' t_non ?_ | refine' t_int ?_ | refine' isN_non ?_ | refine' isN_int ?_ | refine' isN_ref ?_ | refine' isN_str ?_ | refine' isN_bl ?_ | refine' noN_non ?_ | refine' noN_int ?_ | refine' noN_ref ?_ | refine' noN_str ?_ | refine' noN_bl ?_
  | refine' s_brk ?_ | refine' s_cont ?_ | refine' s_for ?_ | refine' e_lc ?_ | refine' e_dc ?_ | refine' e_yes ?_ | refine' i_rng1 ?_ | refine' i_lst0 ?_ | refine' i_tup0 ?_ | refine' e_bm ?_ | refine' e_sl ?_ | refine' e_np ?_ | refine' e_pt ?_ | refine' e_ptI ?_ | refine' e_din ?_ | refine' e_dnin ?_ | refine' e_methE ?_ | refine' p_cons ?_ | refine' p_nil ?_ | refine' s_dput ?_ | refine' e_dget2 ?_ | refine' e_dpop1 ?_ | refine' i_enum0 ?_ | refine' i_rev0 ?_ | refine' g_sub ?_ | refine' s_asg ?_ | refine' i_zip0 ?_ | refine' e_revT ?_ | refine' isB_bl ?_ | refine' notB_bl ?_ | refine' o_neB ?_ | refine' i_nrr ?_ | refine' e_meth ?_ | refine' s_setf ?_ | refine' e_fld ?_ | refine' e_bm0 ?_ | refine' r_tx ?_ | refine' o_eqStr ?_ | refine' o_neStr ?_)
local macro_rules | `(tactic| walk_at "v") => `(tactic| ((with_reducible refine' e_var ?hv ?_); (case hv => exact rfl)))
local macro_rules | `(tactic| walk_at "a") => `(tactic| ((with_reducible refine' s_aug ?hv ?_); (case hv => exact rfl)))
local macro_rules | `(tactic| walk_at "m") => `(tactic| first
  | ((with_reducible refine' o_mod ?hv ?_); (case hv => first | decide | omega))
  | ((with_reducible refine' o_mulR ?hv ?_); (case hv => omega))
  | ((with_reducible refine' o_mulL ?hv ?_); (case hv => omega))
  | ((with_reducible refine' o_div ?hv ?hw ?_); (case hv => omega); (case hw => omega))
  | ((with_reducible refine' o_pow _ ?hv ?hw ?hx ?_); (case hv => exact rfl); (case hw => decide); (case hx => decide)))
local macro_rules | `(tactic| walk_at "i") => `(tactic| (first
  | ((with_reducible refine' isi_int true ?hv ?_); (case hv => exact (by decide +kernel)))
  | ((with_reducible refine' isi_int false ?hv ?_); (case hv => exact (by decide +kernel)))
  | ((with_reducible refine' isi_non true ?hv ?_); (case hv => exact (by decide +kernel)))
  | ((with_reducible refine' isi_non false ?hv ?_); (case hv => exact (by decide +kernel)))
  | ((with_reducible refine' isi_str true ?hv ?_); (case hv => exact (by decide +kernel)))
  | ((with_reducible refine' isi_str false ?hv ?_); (case hv => exact (by decide +kernel)))
  | ((with_reducible refine' isi_bl true ?hv ?_); (case hv => exact (by decide +kernel)))
  | ((with_reducible refine' isi_bl false ?hv ?_); (case hv => exact (by decide +kernel)))
  | ((with_reducible refine' isi_t true ?hw ?hv ?_); (case hw => assumption); (case hv => exact (by decide +kernel)))
  | ((with_reducible refine' isi_t false ?hw ?hv ?_); (case hw => assumption); (case hv => exact (by decide +kernel)))
  | ((with_reducible refine' isi_l true ?hw ?hv ?_); (case hw => assumption); (case hv => exact (by decide +kernel)))
  | ((with_reducible refine' isi_l false ?hw ?hv ?_); (case hw => assumption); (case hv => exact (by decide +kernel)))
  | ((with_reducible refine' isi_tup true ?hw ?hv ?_); (case hw => assumption); (case hv => exact (by decide +kernel)))
  | ((with_reducible refine' isi_tup false ?hw ?hv ?_); (case hw => assumption); (case hv => exact (by decide +kernel)))
  | ((with_reducible refine' isi_lst true ?hw ?hv ?_); (case hw => assumption); (case hv => exact (by decide +kernel)))
  | ((with_reducible refine' isi_lst false ?hw ?hv ?_); (case hw => assumption); (case hv => exact (by decide +kernel)))))
local macro_rules | `(tactic| walk_at "om") => `(tactic| first | omega | (simp only [List.length_cons, List.length_nil, List.length_map, List.length_append, List.length_range]; omega))
local macro_rules | `(tactic| walk_at "d") => `(tactic| (first
  | ((with_reducible refine' i_dt ?hv ?_); (case hv => walk_at "om"))
  | ((with_reducible refine' i_df ?hv ?_); (case hv => walk_at "om"))
  | ((with_reducible refine' i_ndt ?hv ?_); (case hv => walk_at "om"))
  | ((with_reducible refine' i_ndf ?hv ?_); (case hv => walk_at "om"))))
local macro_rules | `(tactic| walk_at "x") => `(tactic| first
  | ((with_reducible refine' o_ixA ?hv ?hw ?_); (case hv => assumption); (case hw => exact rfl))
  | ((with_reducible refine' o_ixU ?hv ?hw ?_); (case hv => assumption); (case hw => exact rfl))
  | ((with_reducible refine' o_ixL ?hv ?hw ?_); (case hv => assumption); (case hw => exact rfl))
  | ((with_reducible refine' o_ixT ?hv ?hw ?_); (case hv => assumption); (case hw => exact rfl))
  | ((with_reducible refine' set_ ?hv ?hw ?_); (case hv => assumption); (case hw => exact rfl))
  | ((with_reducible refine' e_lenM ?hv ?_); (case hv => first | assumption | exact slO (by assumption)))
  | ((with_reducible refine' e_lenN ?hv ?_); (case hv => first | assumption | exact stO (by assumption)))
  | ((with_reducible refine' e_lenL ?hv ?_); (case hv => first | assumption | exact slO (by assumption)))
  | ((with_reducible refine' e_lenT ?hv ?_); (case hv => first | assumption | exact stO (by assumption))))
local macro_rules | `(tactic| walk_at "c") => `(tactic| first
  | ((with_reducible refine' c_listL ?hv ?_); (case hv => assumption))
  | ((with_reducible refine' c_listT ?hv ?_); (case hv => assumption))
  | ((with_reducible refine' c_tupL ?hv ?_); (case hv => first | assumption | exact slO (by assumption)))
  | ((with_reducible refine' c_tupT ?hv ?_); (case hv => assumption))
  | ((with_reducible refine' t_lst ?hv ?_); (case hv => first | assumption | exact slO (by assumption)))
  | ((with_reducible refine' t_tup ?hv ?_); (case hv => assumption))
  | ((with_reducible refine' r_sl ?hv ?_); (case hv => first | assumption | exact slO (by assumption)))
  | ((with_reducible refine' o_inL ?hv ?_); (case hv => first | assumption | exact slO (by assumption)))
  | ((with_reducible refine' o_inT ?hv ?_); (case hv => first | assumption | exact stO (by assumption)))
  | ((with_reducible refine' o_niL ?hv ?_); (case hv => first | assumption | exact slO (by assumption)))
  | ((with_reducible refine' o_niT ?hv ?_); (case hv => first | assumption | exact stO (by assumption)))
  | ((with_reducible refine' ty_lst ?hv ?_); (case hv => assumption)))
local macro_rules | `(tactic| walk_at "mo") => `(tactic| repeat' (first | exact m_yes | exact m_var | exact m_c | exact m_I0 | exact m_I | exact m_ix | exact m_add | exact m_in | exact m_int1 | exact m_abs | exact m_nil | refine' m_and ?_ ?_ | refine' m_test ?_ | refine' m_tB ?_ | refine' m_op ?_ ?_ ?_ | refine' m_cons ?_ ?_ | refine' m_cb ?_ ?_))
local macro_rules | `(tactic| walk_at "go") => `(tactic| repeat' (first | walk_at "s" | walk_at "v" | walk_at "a" | walk_at "x" | walk_at "m" | walk_at "c" | walk_at "i" | walk_at "d"))

def topS (i : Nat) : Stmt := PySem.Challenge.pw_wholeways_k00_errors_of_the_package.main.body.getD i (.Pass ⟨0, 0, 0, 0⟩)
abbrev s_StoreError_init : Stmt := (inClass (topS 1) 0)
abbrev n_StoreError_init : List Str := ["self"]
theorem sc_StoreError_init : FnScope n_StoreError_init ["self"] (defScope s_StoreError_init) := ⟨rfl, rfl, rfl, by decide +kernel, rfl, by decide +kernel, by decide +kernel⟩
abbrev s_Refused_init : Stmt := (inClass (topS 52) 0)
abbrev n_Refused_init : List Str := ["self", "ring"]
theorem sc_Refused_init : FnScope n_Refused_init ["self", "ring"] (defScope s_Refused_init) := ⟨rfl, rfl, rfl, by decide +kernel, rfl, by decide +kernel, by decide +kernel⟩
abbrev s_BadDealing_init : Stmt := (inClass (topS 53) 0)
abbrev n_BadDealing_init : List Str := ["self", "part"]
theorem sc_BadDealing_init : FnScope n_BadDealing_init ["self", "part"] (defScope s_BadDealing_init) := ⟨rfl, rfl, rfl, by decide +kernel, rfl, by decide +kernel, by decide +kernel⟩
abbrev s_NoPlay_init : Stmt := (inClass (topS 54) 0)
abbrev n_NoPlay_init : List Str := ["self", "part"]
theorem sc_NoPlay_init : FnScope n_NoPlay_init ["self", "part"] (defScope s_NoPlay_init) := ⟨rfl, rfl, rfl, by decide +kernel, rfl, by decide +kernel, by decide +kernel⟩
abbrev s_BadGraph_init : Stmt := (inClass (topS 55) 0)
abbrev n_BadGraph_init : List Str := ["self", "part"]
theorem sc_BadGraph_init : FnScope n_BadGraph_init ["self", "part"] (defScope s_BadGraph_init) := ⟨rfl, rfl, rfl, by decide +kernel, rfl, by decide +kernel, by decide +kernel⟩
abbrev s_BadHistory_init : Stmt := (inClass (topS 56) 0)
abbrev n_BadHistory_init : List Str := ["self", "index"]
theorem sc_BadHistory_init : FnScope n_BadHistory_init ["self", "index"] (defScope s_BadHistory_init) := ⟨rfl, rfl, rfl, by decide +kernel, rfl, by decide +kernel, by decide +kernel⟩
abbrev s_NoVersions_init : Stmt := (inClass (topS 57) 0)
abbrev n_NoVersions_init : List Str := ["self", "index"]
theorem sc_NoVersions_init : FnScope n_NoVersions_init ["self", "index"] (defScope s_NoVersions_init) := ⟨rfl, rfl, rfl, by decide +kernel, rfl, by decide +kernel, by decide +kernel⟩
abbrev s_TooMany_init : Stmt := (inClass (topS 58) 0)
abbrev n_TooMany_init : List Str := ["self", "most"]
theorem sc_TooMany_init : FnScope n_TooMany_init ["self", "most"] (defScope s_TooMany_init) := ⟨rfl, rfl, rfl, by decide +kernel, rfl, by decide +kernel, by decide +kernel⟩
abbrev s_NoName_init : Stmt := (inClass (topS 59) 0)
abbrev n_NoName_init : List Str := ["self", "name"]
theorem sc_NoName_init : FnScope n_NoName_init ["self", "name"] (defScope s_NoName_init) := ⟨rfl, rfl, rfl, by decide +kernel, rfl, by decide +kernel, by decide +kernel⟩
abbrev s_NotANode_init : Stmt := (inClass (topS 60) 0)
abbrev n_NotANode_init : List Str := ["self", "name"]
theorem sc_NotANode_init : FnScope n_NotANode_init ["self", "name"] (defScope s_NotANode_init) := ⟨rfl, rfl, rfl, by decide +kernel, rfl, by decide +kernel, by decide +kernel⟩
abbrev s_BadSigns_init : Stmt := (inClass (topS 61) 0)
abbrev n_BadSigns_init : List Str := ["self", "at"]
theorem sc_BadSigns_init : FnScope n_BadSigns_init ["self", "at"] (defScope s_BadSigns_init) := ⟨rfl, rfl, rfl, by decide +kernel, rfl, by decide +kernel, by decide +kernel⟩
abbrev s_law_hand : Stmt := (topS 63)
abbrev n_law_hand : List Str := ["script", "given", "cell"]
theorem sc_law_hand : FnScope n_law_hand ["script"] (defScope s_law_hand) := ⟨rfl, rfl, rfl, by decide +kernel, rfl, by decide +kernel, by decide +kernel⟩
abbrev s_law_draw : Stmt := (topS 64)
abbrev n_law_draw : List Str := ["hand", "many", "cell", "digit", "number"]
theorem sc_law_draw : FnScope n_law_draw ["hand", "many"] (defScope s_law_draw) := ⟨rfl, rfl, rfl, by decide +kernel, rfl, by decide +kernel, by decide +kernel⟩
abbrev s_law_any : Stmt := (topS 65)
abbrev n_law_any : List Str := ["hand", "some"]
theorem sc_law_any : FnScope n_law_any ["hand", "some"] (defScope s_law_any) := ⟨rfl, rfl, rfl, by decide +kernel, rfl, by decide +kernel, by decide +kernel⟩
abbrev s_law_deep : Stmt := (topS 66)
abbrev n_law_deep : List Str := ["hand", "thing", "turn"]
theorem sc_law_deep : FnScope n_law_deep ["hand"] (defScope s_law_deep) := ⟨rfl, rfl, rfl, by decide +kernel, rfl, by decide +kernel, by decide +kernel⟩
abbrev s_law_with_field : Stmt := (topS 67)
abbrev n_law_with_field : List Str := ["which", "thing"]
theorem sc_law_with_field : FnScope n_law_with_field ["which", "thing"] (defScope s_law_with_field) := ⟨rfl, rfl, rfl, by decide +kernel, rfl, by decide +kernel, by decide +kernel⟩
abbrev s_law_plain : Stmt := (topS 68)
abbrev n_law_plain : List Str := ["found"]
theorem sc_law_plain : FnScope n_law_plain [] (defScope s_law_plain) := ⟨rfl, rfl, rfl, by decide +kernel, rfl, by decide +kernel, by decide +kernel⟩
abbrev s_law_kinds : Stmt := (topS 69)
abbrev n_law_kinds : List Str := ["e", "found"]
theorem sc_law_kinds : FnScope n_law_kinds ["e"] (defScope s_law_kinds) := ⟨rfl, rfl, rfl, by decide +kernel, rfl, by decide +kernel, by decide +kernel⟩
abbrev s_law : Stmt := (topS 70)
abbrev n_law : List Str := ["script", "hand", "things", "errors", "which", "thing", "told", "error"]
theorem sc_law : FnScope n_law ["script"] (defScope s_law) := ⟨rfl, rfl, rfl, by decide +kernel, rfl, by decide +kernel, by decide +kernel⟩
structure Txt (K : PySem.W.Frag) (mg : Str → Option Value) where
  law_hand : DefAt K mg "_law_hand" "_law_hand" s_law_hand ["script"]
  law_draw : DefAt K mg "_law_draw" "_law_draw" s_law_draw ["hand", "many"]
  law_any : DefAt K mg "_law_any" "_law_any" s_law_any ["hand", "some"]
  law_deep : DefAt K mg "_law_deep" "_law_deep" s_law_deep ["hand"]
  law_with_field : DefAt K mg "_law_with_field" "_law_with_field" s_law_with_field ["which", "thing"]
  law_plain : DefAt K mg "_law_plain" "_law_plain" s_law_plain []
  law_kinds : DefAt K mg "_law_kinds" "_law_kinds" s_law_kinds ["e"]
  m_StoreError_init : InitAt K "__init__" "StoreError.__init__" s_StoreError_init ["self"]
  vV : PySem.W.findCls K (.type "ValueError") (.type "type") "__init__" = some (.val (.builtin "ValueError.__init__"))
  m_BadDealing_init : InitAt K "__init__" "BadDealing.__init__" s_BadDealing_init ["self", "part"]
  m_BadGraph_init : InitAt K "__init__" "BadGraph.__init__" s_BadGraph_init ["self", "part"]
  m_BadHistory_init : InitAt K "__init__" "BadHistory.__init__" s_BadHistory_init ["self", "index"]
  m_BadSigns_init : InitAt K "__init__" "BadSigns.__init__" s_BadSigns_init ["self", "at"]
  m_NoName_init : InitAt K "__init__" "NoName.__init__" s_NoName_init ["self", "name"]
  m_NoPlay_init : InitAt K "__init__" "NoPlay.__init__" s_NoPlay_init ["self", "part"]
  m_NoVersions_init : InitAt K "__init__" "NoVersions.__init__" s_NoVersions_init ["self", "index"]
  m_NotANode_init : InitAt K "__init__" "NotANode.__init__" s_NotANode_init ["self", "name"]
  m_Refused_init : InitAt K "__init__" "Refused.__init__" s_Refused_init ["self", "ring"]
  m_TooMany_init : InitAt K "__init__" "TooMany.__init__" s_TooMany_init ["self", "most"]
  e_BadDealing : ExcAt K mg "BadDealing" m_BadDealing_init.f
  e_BadDisk : ExcAt K mg "BadDisk" m_StoreError_init.f
  e_BadGraph : ExcAt K mg "BadGraph" m_BadGraph_init.f
  e_BadHistory : ExcAt K mg "BadHistory" m_BadHistory_init.f
  e_BadSeen : ExcAt K mg "BadSeen" m_StoreError_init.f
  e_BadSigns : ExcAt K mg "BadSigns" m_BadSigns_init.f
  e_BadWrites : ExcAt K mg "BadWrites" m_StoreError_init.f
  e_Ended : ExcAt K mg "Ended" m_StoreError_init.f
  e_InUse : ExcAt K mg "InUse" m_StoreError_init.f
  e_LogFull : ExcAt K mg "LogFull" m_StoreError_init.f
  e_NoBlock : ExcAt K mg "NoBlock" m_StoreError_init.f
  e_NoChanges : ExcAt K mg "NoChanges" m_StoreError_init.f
  e_NoCommit : ExcAt K mg "NoCommit" m_StoreError_init.f
  e_NoContent : ExcAt K mg "NoContent" m_StoreError_init.f
  e_NoDeed : ExcAt K mg "NoDeed" m_StoreError_init.f
  e_NoExpression : ExcAt K mg "NoExpression" m_StoreError_init.f
  e_NoIndex : ExcAt K mg "NoIndex" m_StoreError_init.f
  e_NoItems : ExcAt K mg "NoItems" m_StoreError_init.f
  e_NoKey : ExcAt K mg "NoKey" m_StoreError_init.f
  e_NoLine : ExcAt K mg "NoLine" m_StoreError_init.f
  e_NoLines : ExcAt K mg "NoLines" m_StoreError_init.f
  e_NoMark : ExcAt K mg "NoMark" m_StoreError_init.f
  e_NoName : ExcAt K mg "NoName" m_NoName_init.f
  e_NoNode : ExcAt K mg "NoNode" m_StoreError_init.f
  e_NoNote : ExcAt K mg "NoNote" m_StoreError_init.f
  e_NoNumber : ExcAt K mg "NoNumber" m_StoreError_init.f
  e_NoOrder : ExcAt K mg "NoOrder" m_StoreError_init.f
  e_NoPage : ExcAt K mg "NoPage" m_StoreError_init.f
  e_NoPath : ExcAt K mg "NoPath" m_StoreError_init.f
  e_NoPlace : ExcAt K mg "NoPlace" m_StoreError_init.f
  e_NoPlan : ExcAt K mg "NoPlan" m_StoreError_init.f
  e_NoPlay : ExcAt K mg "NoPlay" m_NoPlay_init.f
  e_NoQuestion : ExcAt K mg "NoQuestion" m_StoreError_init.f
  e_NoRecord : ExcAt K mg "NoRecord" m_StoreError_init.f
  e_NoRoom : ExcAt K mg "NoRoom" m_StoreError_init.f
  e_NoSnapshot : ExcAt K mg "NoSnapshot" m_StoreError_init.f
  e_NoSnapshots : ExcAt K mg "NoSnapshots" m_StoreError_init.f
  e_NoSpot : ExcAt K mg "NoSpot" m_StoreError_init.f
  e_NoTieWord : ExcAt K mg "NoTieWord" m_StoreError_init.f
  e_NoVersion : ExcAt K mg "NoVersion" m_StoreError_init.f
  e_NoVersions : ExcAt K mg "NoVersions" m_NoVersions_init.f
  e_NoWeight : ExcAt K mg "NoWeight" m_StoreError_init.f
  e_NoWorth : ExcAt K mg "NoWorth" m_StoreError_init.f
  e_NodeThere : ExcAt K mg "NodeThere" m_StoreError_init.f
  e_NodeTied : ExcAt K mg "NodeTied" m_StoreError_init.f
  e_NotANode : ExcAt K mg "NotANode" m_NotANode_init.f
  e_NotATie : ExcAt K mg "NotATie" m_StoreError_init.f
  e_NotKept : ExcAt K mg "NotKept" m_StoreError_init.f
  e_NotOpen : ExcAt K mg "NotOpen" m_StoreError_init.f
  e_NotRemembered : ExcAt K mg "NotRemembered" m_StoreError_init.f
  e_NotSerial : ExcAt K mg "NotSerial" m_StoreError_init.f
  e_NotThere : ExcAt K mg "NotThere" m_StoreError_init.f
  e_NotWhole : ExcAt K mg "NotWhole" m_StoreError_init.f
  e_NothingWaits : ExcAt K mg "NothingWaits" m_StoreError_init.f
  e_Over : ExcAt K mg "Over" m_StoreError_init.f
  e_Refused : ExcAt K mg "Refused" m_Refused_init.f
  e_Stopped : ExcAt K mg "Stopped" m_StoreError_init.f
  e_TieThere : ExcAt K mg "TieThere" m_StoreError_init.f
  e_TooLarge : ExcAt K mg "TooLarge" m_StoreError_init.f
  e_TooMany : ExcAt K mg "TooMany" m_TooMany_init.f
  a_BadDealing_part : PySem.W.findIn K (.ref e_BadDealing.C) "part" = some none
  w_BadDealing : XfC K e_BadDealing.C
  a_BadGraph_part : PySem.W.findIn K (.ref e_BadGraph.C) "part" = some none
  w_BadGraph : XfC K e_BadGraph.C
  a_BadHistory_index : PySem.W.findIn K (.ref e_BadHistory.C) "index" = some none
  w_BadHistory : XfC K e_BadHistory.C
  a_BadSigns_at : PySem.W.findIn K (.ref e_BadSigns.C) "at" = some none
  w_BadSigns : XfC K e_BadSigns.C
  a_NoName_name : PySem.W.findIn K (.ref e_NoName.C) "name" = some none
  w_NoName : XfC K e_NoName.C
  a_NoPlay_part : PySem.W.findIn K (.ref e_NoPlay.C) "part" = some none
  w_NoPlay : XfC K e_NoPlay.C
  a_NoVersions_index : PySem.W.findIn K (.ref e_NoVersions.C) "index" = some none
  w_NoVersions : XfC K e_NoVersions.C
  a_NotANode_name : PySem.W.findIn K (.ref e_NotANode.C) "name" = some none
  w_NotANode : XfC K e_NotANode.C
  a_Refused_ring : PySem.W.findIn K (.ref e_Refused.C) "ring" = some none
  w_Refused : XfC K e_Refused.C
  a_TooMany_most : PySem.W.findIn K (.ref e_TooMany.C) "most" = some none
  w_TooMany : XfC K e_TooMany.C
  sysK : SysK K
  N_StoreError : Addr
  g_StoreError : mg "StoreError" = some (.ref N_StoreError)
  xs : xcAll K [e_BadDealing.C, e_BadDisk.C, e_BadGraph.C, e_BadHistory.C, e_BadSeen.C, e_BadSigns.C, e_BadWrites.C, e_Ended.C, e_InUse.C, e_LogFull.C, e_NoBlock.C, e_NoChanges.C, e_NoCommit.C, e_NoContent.C, e_NoDeed.C, e_NoExpression.C, e_NoIndex.C, e_NoItems.C, e_NoKey.C, e_NoLine.C, e_NoLines.C, e_NoMark.C, e_NoName.C, e_NoNode.C, e_NoNote.C, e_NoNumber.C, e_NoOrder.C, e_NoPage.C, e_NoPath.C, e_NoPlace.C, e_NoPlan.C, e_NoPlay.C, e_NoQuestion.C, e_NoRecord.C, e_NoRoom.C, e_NoSnapshot.C, e_NoSnapshots.C, e_NoSpot.C, e_NoTieWord.C, e_NoVersion.C, e_NoVersions.C, e_NoWeight.C, e_NoWorth.C, e_NodeThere.C, e_NodeTied.C, e_NotANode.C, e_NotATie.C, e_NotKept.C, e_NotOpen.C, e_NotRemembered.C, e_NotSerial.C, e_NotThere.C, e_NotWhole.C, e_NothingWaits.C, e_Over.C, e_Refused.C, e_Stopped.C, e_TieThere.C, e_TooLarge.C, e_TooMany.C] = true
  kt : kitTab K [e_BadDealing.C, e_BadDisk.C, e_BadGraph.C, e_BadHistory.C, e_BadSeen.C, e_BadSigns.C, e_BadWrites.C, e_Ended.C, e_InUse.C, e_LogFull.C, e_NoBlock.C, e_NoChanges.C, e_NoCommit.C, e_NoContent.C, e_NoDeed.C, e_NoExpression.C, e_NoIndex.C, e_NoItems.C, e_NoKey.C, e_NoLine.C, e_NoLines.C, e_NoMark.C, e_NoName.C, e_NoNode.C, e_NoNote.C, e_NoNumber.C, e_NoOrder.C, e_NoPage.C, e_NoPath.C, e_NoPlace.C, e_NoPlan.C, e_NoPlay.C, e_NoQuestion.C, e_NoRecord.C, e_NoRoom.C, e_NoSnapshot.C, e_NoSnapshots.C, e_NoSpot.C, e_NoTieWord.C, e_NoVersion.C, e_NoVersions.C, e_NoWeight.C, e_NoWorth.C, e_NodeThere.C, e_NodeTied.C, e_NotANode.C, e_NotATie.C, e_NotKept.C, e_NotOpen.C, e_NotRemembered.C, e_NotSerial.C, e_NotThere.C, e_NotWhole.C, e_NothingWaits.C, e_Over.C, e_Refused.C, e_Stopped.C, e_TieThere.C, e_TooLarge.C, e_TooMany.C] = true
  ks : kitAll K [e_BadDealing.C, e_BadDisk.C, e_BadGraph.C, e_BadHistory.C, e_BadSeen.C, e_BadSigns.C, e_BadWrites.C, e_Ended.C, e_InUse.C, e_LogFull.C, e_NoBlock.C, e_NoChanges.C, e_NoCommit.C, e_NoContent.C, e_NoDeed.C, e_NoExpression.C, e_NoIndex.C, e_NoItems.C, e_NoKey.C, e_NoLine.C, e_NoLines.C, e_NoMark.C, e_NoName.C, e_NoNode.C, e_NoNote.C, e_NoNumber.C, e_NoOrder.C, e_NoPage.C, e_NoPath.C, e_NoPlace.C, e_NoPlan.C, e_NoPlay.C, e_NoQuestion.C, e_NoRecord.C, e_NoRoom.C, e_NoSnapshot.C, e_NoSnapshots.C, e_NoSpot.C, e_NoTieWord.C, e_NoVersion.C, e_NoVersions.C, e_NoWeight.C, e_NoWorth.C, e_NodeThere.C, e_NodeTied.C, e_NotANode.C, e_NotATie.C, e_NotKept.C, e_NotOpen.C, e_NotRemembered.C, e_NotSerial.C, e_NotThere.C, e_NotWhole.C, e_NothingWaits.C, e_Over.C, e_Refused.C, e_Stopped.C, e_TieThere.C, e_TooLarge.C, e_TooMany.C] (.ref N_StoreError) = true
  kv : kitAll K [e_BadDealing.C, e_BadDisk.C, e_BadGraph.C, e_BadHistory.C, e_BadSeen.C, e_BadSigns.C, e_BadWrites.C, e_Ended.C, e_InUse.C, e_LogFull.C, e_NoBlock.C, e_NoChanges.C, e_NoCommit.C, e_NoContent.C, e_NoDeed.C, e_NoExpression.C, e_NoIndex.C, e_NoItems.C, e_NoKey.C, e_NoLine.C, e_NoLines.C, e_NoMark.C, e_NoName.C, e_NoNode.C, e_NoNote.C, e_NoNumber.C, e_NoOrder.C, e_NoPage.C, e_NoPath.C, e_NoPlace.C, e_NoPlan.C, e_NoPlay.C, e_NoQuestion.C, e_NoRecord.C, e_NoRoom.C, e_NoSnapshot.C, e_NoSnapshots.C, e_NoSpot.C, e_NoTieWord.C, e_NoVersion.C, e_NoVersions.C, e_NoWeight.C, e_NoWorth.C, e_NodeThere.C, e_NodeTied.C, e_NotANode.C, e_NotATie.C, e_NotKept.C, e_NotOpen.C, e_NotRemembered.C, e_NotSerial.C, e_NotThere.C, e_NotWhole.C, e_NothingWaits.C, e_Over.C, e_Refused.C, e_Stopped.C, e_TieThere.C, e_TooLarge.C, e_TooMany.C] (.type "ValueError") = true
  z_ValueError : mg "ValueError" = none
  z_abs : mg "abs" = none
  z_int : mg "int" = none
  z_isinstance : mg "isinstance" = none
  z_len : mg "len" = none
  z_range : mg "range" = none
  z_repr : mg "repr" = none
  z_set : mg "set" = none



section
variable {P : Program} {w : World} {K : PySem.W.Frag} {mg : Str → Option Value} {base : Heap}
theorem ok_StoreError_init (M : InitAt K "__init__" "StoreError.__init__" s_StoreError_init ["self"]) (z : mg "ValueError" = none) (vV : PySem.W.findCls K (.type "ValueError") (.type "type") "__init__" = some (.val (.builtin "ValueError.__init__"))) : FnOk P w K mg base CX0 1 M.f M.fd ["self"] (sp_exc_init K) := by
  refine M.F.ok sc_StoreError_init (fun vs H Q E h => ?_) (fun cdv A outer s H vs Q E hr h => ?_)
  · obtain ⟨a, C, rfl, _⟩ := h
    rfl
  · obtain ⟨a, C, rfl, o, ha, k⟩ := h
    exact ⟨_, pss_one (ps_expr (pe_veinit (by rfl) z vV (pa_cons (pv 0) pa_nil))), _, rfl, a, C, [], rfl, by decide, o, ha, k⟩
/-- an __init__ that sets one field -/
def sp_fld_init (K : PySem.W.Frag) (f : Str) : Sp := fun vs H Q _ => ∃ (a C : Addr) (x : V), vs = [.ref a, x] ∧ OexC K C ∧ PySem.W.findIn K (.ref C) f = some none ∧ H a = some (exo a C none) ∧ ∀ dx, H dx = none → dx ≠ a → Q .non (upd (upd H dx (exd dx [(f, x)])) a (exo a C (some dx)))
theorem ok_Refused_init (M : InitAt K "__init__" "Refused.__init__" s_Refused_init ["self", "ring"]) : FnOk P w K mg base CX0 1 M.f M.fd ["self", "ring"] (sp_fld_init K "ring") := by
  refine M.F.ok sc_Refused_init (fun vs H Q E h => ?_) (fun cdv A outer s H vs Q E hr h => ?_)
  · obtain ⟨a, C, x, rfl, _⟩ := h
    rfl
  · obtain ⟨a, C, x, rfl, o, hn, ha, k⟩ := h
    exact ⟨_, (pss_one (ps_ost (pv 0) (pv 1))), _, rfl, _, rfl, a, C, rfl, o, hn, .inl ⟨ha, k⟩⟩
theorem ok_BadDealing_init (M : InitAt K "__init__" "BadDealing.__init__" s_BadDealing_init ["self", "part"]) : FnOk P w K mg base CX0 1 M.f M.fd ["self", "part"] (sp_fld_init K "part") := by
  refine M.F.ok sc_BadDealing_init (fun vs H Q E h => ?_) (fun cdv A outer s H vs Q E hr h => ?_)
  · obtain ⟨a, C, x, rfl, _⟩ := h
    rfl
  · obtain ⟨a, C, x, rfl, o, hn, ha, k⟩ := h
    exact ⟨_, (pss_one (ps_ost (pv 0) (pv 1))), _, rfl, _, rfl, a, C, rfl, o, hn, .inl ⟨ha, k⟩⟩
theorem ok_NoPlay_init (M : InitAt K "__init__" "NoPlay.__init__" s_NoPlay_init ["self", "part"]) : FnOk P w K mg base CX0 1 M.f M.fd ["self", "part"] (sp_fld_init K "part") := by
  refine M.F.ok sc_NoPlay_init (fun vs H Q E h => ?_) (fun cdv A outer s H vs Q E hr h => ?_)
  · obtain ⟨a, C, x, rfl, _⟩ := h
    rfl
  · obtain ⟨a, C, x, rfl, o, hn, ha, k⟩ := h
    exact ⟨_, (pss_one (ps_ost (pv 0) (pv 1))), _, rfl, _, rfl, a, C, rfl, o, hn, .inl ⟨ha, k⟩⟩
theorem ok_BadGraph_init (M : InitAt K "__init__" "BadGraph.__init__" s_BadGraph_init ["self", "part"]) : FnOk P w K mg base CX0 1 M.f M.fd ["self", "part"] (sp_fld_init K "part") := by
  refine M.F.ok sc_BadGraph_init (fun vs H Q E h => ?_) (fun cdv A outer s H vs Q E hr h => ?_)
  · obtain ⟨a, C, x, rfl, _⟩ := h
    rfl
  · obtain ⟨a, C, x, rfl, o, hn, ha, k⟩ := h
    exact ⟨_, (pss_one (ps_ost (pv 0) (pv 1))), _, rfl, _, rfl, a, C, rfl, o, hn, .inl ⟨ha, k⟩⟩
theorem ok_BadHistory_init (M : InitAt K "__init__" "BadHistory.__init__" s_BadHistory_init ["self", "index"]) : FnOk P w K mg base CX0 1 M.f M.fd ["self", "index"] (sp_fld_init K "index") := by
  refine M.F.ok sc_BadHistory_init (fun vs H Q E h => ?_) (fun cdv A outer s H vs Q E hr h => ?_)
  · obtain ⟨a, C, x, rfl, _⟩ := h
    rfl
  · obtain ⟨a, C, x, rfl, o, hn, ha, k⟩ := h
    exact ⟨_, (pss_one (ps_ost (pv 0) (pv 1))), _, rfl, _, rfl, a, C, rfl, o, hn, .inl ⟨ha, k⟩⟩
theorem ok_NoVersions_init (M : InitAt K "__init__" "NoVersions.__init__" s_NoVersions_init ["self", "index"]) : FnOk P w K mg base CX0 1 M.f M.fd ["self", "index"] (sp_fld_init K "index") := by
  refine M.F.ok sc_NoVersions_init (fun vs H Q E h => ?_) (fun cdv A outer s H vs Q E hr h => ?_)
  · obtain ⟨a, C, x, rfl, _⟩ := h
    rfl
  · obtain ⟨a, C, x, rfl, o, hn, ha, k⟩ := h
    exact ⟨_, (pss_one (ps_ost (pv 0) (pv 1))), _, rfl, _, rfl, a, C, rfl, o, hn, .inl ⟨ha, k⟩⟩
theorem ok_TooMany_init (M : InitAt K "__init__" "TooMany.__init__" s_TooMany_init ["self", "most"]) : FnOk P w K mg base CX0 1 M.f M.fd ["self", "most"] (sp_fld_init K "most") := by
  refine M.F.ok sc_TooMany_init (fun vs H Q E h => ?_) (fun cdv A outer s H vs Q E hr h => ?_)
  · obtain ⟨a, C, x, rfl, _⟩ := h
    rfl
  · obtain ⟨a, C, x, rfl, o, hn, ha, k⟩ := h
    exact ⟨_, (pss_one (ps_ost (pv 0) (pv 1))), _, rfl, _, rfl, a, C, rfl, o, hn, .inl ⟨ha, k⟩⟩
theorem ok_NoName_init (M : InitAt K "__init__" "NoName.__init__" s_NoName_init ["self", "name"]) : FnOk P w K mg base CX0 1 M.f M.fd ["self", "name"] (sp_fld_init K "name") := by
  refine M.F.ok sc_NoName_init (fun vs H Q E h => ?_) (fun cdv A outer s H vs Q E hr h => ?_)
  · obtain ⟨a, C, x, rfl, _⟩ := h
    rfl
  · obtain ⟨a, C, x, rfl, o, hn, ha, k⟩ := h
    exact ⟨_, (pss_one (ps_ost (pv 0) (pv 1))), _, rfl, _, rfl, a, C, rfl, o, hn, .inl ⟨ha, k⟩⟩
theorem ok_NotANode_init (M : InitAt K "__init__" "NotANode.__init__" s_NotANode_init ["self", "name"]) : FnOk P w K mg base CX0 1 M.f M.fd ["self", "name"] (sp_fld_init K "name") := by
  refine M.F.ok sc_NotANode_init (fun vs H Q E h => ?_) (fun cdv A outer s H vs Q E hr h => ?_)
  · obtain ⟨a, C, x, rfl, _⟩ := h
    rfl
  · obtain ⟨a, C, x, rfl, o, hn, ha, k⟩ := h
    exact ⟨_, (pss_one (ps_ost (pv 0) (pv 1))), _, rfl, _, rfl, a, C, rfl, o, hn, .inl ⟨ha, k⟩⟩
theorem ok_BadSigns_init (M : InitAt K "__init__" "BadSigns.__init__" s_BadSigns_init ["self", "at"]) : FnOk P w K mg base CX0 1 M.f M.fd ["self", "at"] (sp_fld_init K "at") := by
  refine M.F.ok sc_BadSigns_init (fun vs H Q E h => ?_) (fun cdv A outer s H vs Q E hr h => ?_)
  · obtain ⟨a, C, x, rfl, _⟩ := h
    rfl
  · obtain ⟨a, C, x, rfl, o, hn, ha, k⟩ := h
    exact ⟨_, (pss_one (ps_ost (pv 0) (pv 1))), _, rfl, _, rfl, a, C, rfl, o, hn, .inl ⟨ha, k⟩⟩
theorem e_vkn {C : Addr} {σ : L2.St} {H : Hp} {Q : VK} (o : OexC K C) (q : ∀ p H2, H p = none → Same H H2 → H2 p = some (exo p C none) → Q (.ref p) H2) : tVkN C (sp_exc_init K) σ H Q := fun a na => ⟨a, C, rfl, o, upd_same, rfl, q a _ na (Same.new na) upd_same⟩
def VkQ (K : PySem.W.Frag) (C : Addr) (f : Str) (Q : VK) (vs : List V) (H1 : Hp) : Prop := vs.length ≤ 1000 ∧ ∀ a, H1 a = none → sp_fld_init K f (.ref a :: (vs ++ [])) (upd H1 a (exo a C none)) (fun v H2 => v = .non ∧ Q (.ref a) H2) (fun _ _ _ => False)
theorem e_vko {C : Addr} {f : Str} {ta : TA} {σ : L2.St} {H : Hp} {Q : VK} (h : ta σ H (VkQ K C f Q)) : tVkO C (sp_fld_init K f) [] ta σ H Q := h
theorem o_vkF {C : Addr} {f : Str} {x : V} {H1 : Hp} {Q : VK} (o : OexC K C) (hn : PySem.W.findIn K (.ref C) f = some none) (q : ∀ a d H2, H1 a = none → Same H1 H2 → H2 a = some (exo a C (some d)) → H2 d = some (exd d [(f, x)]) → Q (.ref a) H2) : VkQ K C f Q [x] H1 := by
  refine ⟨Nat.le_of_ble_eq_true rfl, fun a na => ⟨a, C, x, rfl, o, hn, upd_same, fun d hd ne => ⟨rfl, q a d _ na (fun b u hb => ?_) upd_same ?_⟩⟩⟩
  · have hd1 : H1 d = none := by rw [upd_ne ne] at hd; exact hd
    rw [upd_ne (ne_of_none hb na), upd_ne (ne_of_none hb hd1), upd_ne (ne_of_none hb na)]
    exact hb
  · rw [upd_ne ne]; exact upd_same
theorem e_xv {C : Addr} {n : Str} {te : TE} {σ : L2.St} {H : Hp} {Q : VK} (h : te σ H fun x H1 => ∃ (a d : Addr) (fs : List (Str × V)) (v : V), x = .ref a ∧ H1 a = some (exo a C (some d)) ∧ H1 d = some (exd d fs) ∧ fs.lookup n = some v ∧ Q v H1) : tXv C n te σ H Q := h
theorem look_one {f : Str} {x : V} : ([(f, x)] : List (Str × V)).lookup f = some x := by
  show (match f == f with | true => some x | false => _) = some x
  rw [beq_self_eq_true]
end



section
variable {P : Program} {w : World} {K : PySem.W.Frag} {mg : Str → Option Value} {base : Heap}
/-! ### the hand that draws -/
/-- its list, the list of cells, the cells -/
structure Bg where
  hd : Addr
  g : Addr
  ns : List Int
def BagAt (K : PySem.W.Frag) (H : Hp) (B : Bg) : Prop := ∃ i big mix c : Int, H B.hd = some (.lst [.ref B.g, .int i, .int big, .int mix, .int c]) ∧ H B.g = some (.lst (B.ns.map V.int)) ∧ B.g ≠ B.hd ∧ B.ns.length ≤ 63 ∧ (∀ z ∈ B.ns, 0 ≤ z) ∧ 0 ≤ i ∧ 0 ≤ big ∧ 0 ≤ mix ∧ mix < 2147483648 ∧ 0 ≤ c
structure Hs (K : PySem.W.Frag) (B : Bg) (H H' : Hp) : Prop where
  o : Oth B.hd H H'
  b : BagAt K H' B
theorem Hs.trans {B : Bg} {H H1 H2 : Hp} (a : Hs K B H H1) (b : Hs K B H1 H2) : Hs K B H H2 := ⟨a.o.trans b.o, b.b⟩
theorem bag_same {B : Bg} {H H' : Hp} (b : BagAt K H B) (s : Same H H') : BagAt K H' B := by
  obtain ⟨i, big, x, c, h1, h2, h3⟩ := b
  exact ⟨i, big, x, c, s _ _ h1, s _ _ h2, h3⟩
theorem Hs.of {B : Bg} {H H' : Hp} (b : BagAt K H B) (s : Same H H') : Hs K B H H' := ⟨fun c o _ h => s c o h, bag_same b s⟩
theorem Hs.sl {B : Bg} {a : Addr} {H H' : Hp} {xs : List V} (h : Hs K B H H') (n : a ≠ B.hd) (s : SqL K H a xs) : SqL K H' a xs := oth_sl h.o n s
theorem bag_lst {B : Bg} {H : Hp} (b : BagAt K H B) : ∃ xs, H B.hd = some (.lst xs) := by
  obtain ⟨i, big, x, c, h1, h2, h3⟩ := b
  exact ⟨_, h1⟩
theorem Hs.st {B : Bg} {a : Addr} {H H' : Hp} {xs : List V} (h : Hs K B H H') (b : BagAt K H B) (s : SqT K H a xs) : SqT K H' a xs := by
  obtain ⟨ys, q⟩ := bag_lst b
  exact oth_st h.o q s
theorem Hs.ls {B : Bg} {a : Addr} {H H' : Hp} {xs : List V} (h : Hs K B H H') (n : a ≠ B.hd) (s : H a = some (.lst xs)) : H' a = some (.lst xs) := h.o _ _ n s
theorem new_ne {B : Bg} {p : Addr} {H : Hp} (b : BagAt K H B) (n : H p = none) : p ≠ B.hd := by
  obtain ⟨xs, h⟩ := bag_lst b
  exact (ne_of_none h n).symm
theorem Hs.free {B : Bg} {p : Addr} {H H' : Hp} (h : Hs K B H H') (n : H' p = none) : H p = none := by
  cases e : H p with
  | none => rfl
  | some o =>
    by_cases z : p = B.hd
    · obtain ⟨xs, q⟩ := bag_lst h.b
      rw [← z, n] at q; cases q
    · rw [h.o p o z e] at n; cases n
/-- an object of one's own, not there at H, may change -/
theorem Hs.mut {B : Bg} {f : Addr} {H H3 H4 : Hp} (h : Hs K B H H3) (b : BagAt K H B) (n : H f = none) (o : Oth f H3 H4) : Hs K B H H4 := by
  refine ⟨fun c u nc z => o c u (ne_of_none z n) (h.o c u nc z), ?_⟩
  obtain ⟨i, big, x, c, h1, h2, h3⟩ := b
  obtain ⟨i', big', x', c', g1, g2, g3⟩ := h.b
  exact ⟨i', big', x', c', o _ _ (ne_of_none h1 n) g1, o _ _ (ne_of_none h2 n) g2, g3⟩
def sp_hand (K : PySem.W.Frag) : Sp := fun vs H Q _ => ∃ a, ∃ ns : List Int, vs = [.ref a] ∧ SqL K H a (ns.map V.int) ∧ ns.length ≤ 63 ∧ ∀ (B : Bg) H', H B.hd = none → Same H H' → BagAt K H' B → Q (.ref B.hd) H'
theorem ok_law_hand (T : Txt K mg) : FnOk P w K mg base CX0 1 T.law_hand.f T.law_hand.fd ["script"] (sp_hand K) := by
  refine T.law_hand.F.ok sc_law_hand (fun vs H Q E h => ?_) (fun cdv A outer s H vs Q E hr h => ?_)
  · obtain ⟨a, ns, rfl, _⟩ := h
    rfl
  · obtain ⟨a, ns, rfl, hS, hl, k⟩ := h
    refine ⟨_, (pss_cons (ps_setLc (i := 1) (own := [("cell", 2)]) rfl sc_law_hand.nd rfl rfl (sw_true rfl rfl rfl (by decide +kernel)) (piL (K := K) (pe_slice (slL (K := K)) (pv 0) po_none (po_some pe_int))) (blkOk_by (N := n_law_hand) (sc := defScope s_law_hand) (by decide +kernel)) (fun _ _ _ _ _ => (pg_name (i := 2) sc_law_hand.nd rfl (Or.inl rfl))) (fun _ _ _ _ _ => pts_nil) (fun _ _ _ _ _ => (pe_callB cAbs (by rfl) T.z_abs (by decide +kernel) (pa_cons (pe_callTy cInt (by rfl) T.z_int (by decide +kernel) (pa_cons (pv 2) pa_nil)) pa_nil))))
    (pss_one (ps_ret (pe_lst (pa_cons (pv 1) (pa_cons pe_int (pa_cons pe_int (pa_cons (pe_op oAdd pe_int (pe_callB (cLen (K := K)) (by rfl) T.z_len PySem.boot_len (pa_cons (pv 1) pa_nil))) (pa_cons pe_int pa_nil))))))))), ?_⟩
    walk_at "go"
    refine n_new0 fun p1 H1 n1 s1 h1 => ?_
    obtain ⟨ms, e1, e2, _⟩ := cut_map (f := V.int) ns none (some 63)
    rw [e1] at h1
    refine i_lst (slO h1) ?_
    refine c_lst (xs := ms.map V.int) (fun i acc H' => Same H1 H' ∧ acc = ((ms.take i).map fun z => if z < 0 then -z else z).map V.int) (fun D hD => ⟨upd_free (Same.refl _) hD, rfl⟩) (fun i acc H' hi p => slO (at_ p.1 h1)) (fun acc D H2 hD hp p => ?_) (fun _ => rfl) (fun i x acc H' D hx hD hp p => ?_)
    · obtain ⟨s2, rfl⟩ := p
      rw [List.length_map, List.take_length] at hp
      walk_at "go"
      refine n_new (le_size (by simp)) fun p3 H3 n3 s3 h3 => ?_
      have ss := s1.trans s2
      rw [List.length_map] at h3
      refine k ⟨p3, D, ms.map fun z => if z < 0 then -z else z⟩ H3 (free_ ss n3) (ss.trans s3) ⟨0, 0, 1 + (ms.length : Nat), 0, h3, at_ s3 hp, ne_new hp n3, by show (List.map _ ms).length ≤ 63; rw [List.length_map]; omega, fun z hz => ?_, by omega, by omega, by omega, by omega, by omega⟩
      obtain ⟨y, _, e⟩ := List.mem_map.mp hz
      rw [← e]; split <;> omega
    · obtain ⟨s2, rfl⟩ := p
      have hi : i < ms.length := by
        have := (List.getElem?_eq_some_iff.mp hx).1
        simpa using this
      have ex : x = .int ms[i] := by
        rw [List.getElem?_map, List.getElem?_eq_getElem hi] at hx
        exact (Option.some.inj hx).symm
      subst ex
      walk_at "go"
      refine ⟨_, hp, lt_size (by simp; omega), _, upd_same, upd_free s2 hD, ?_⟩
      rw [List.take_add_one, List.getElem?_eq_getElem hi, List.map_append, List.map_append]; rfl
def sp_draw (K : PySem.W.Frag) : Sp := fun vs H Q _ => ∃ (B : Bg) (m : Int), vs = [.ref B.hd, .int m] ∧ BagAt K H B ∧ 0 < m ∧ m < 2 ^ 100 ∧ ∀ r H', 0 ≤ r → r < m → Hs K B H H' → Q (.int r) H'
theorem ok_law_draw (T : Txt K mg) : FnOk P w K mg base CX0 1 T.law_draw.f T.law_draw.fd ["hand", "many"] (sp_draw K) := by
  refine T.law_draw.F.ok sc_law_draw (fun vs H Q E h => ?_) (fun cdv A outer s H vs Q E hr h => ?_)
  · obtain ⟨a, b, rfl, _⟩ := h
    rfl
  · obtain ⟨⟨hd, g, ns⟩, m, rfl, ⟨i, big, mix, c, h1, h2, h3, h4, hn, h5, h6, h7, h8, h9⟩, hm, hM, k⟩ := h
    dsimp only at h1 h2 h3 h4 hn k ⊢
    refine ⟨_, (Evl.pss_cut (ps_if (PW.pt (pw_and (pt_cmpR (oEq (K := K) hr.units) (pe_ix (ixLT (K := K)) (pv 0) pe_int (fun _ _ => rfl)) pe_int (nomark _)) (pw_and1 (pt_cmpR oLt (pe_ix (ixLT (K := K)) (pv 0) pe_int (fun _ _ => rfl)) (pe_callB (cLen (K := K)) (by rfl) T.z_len PySem.boot_len (pa_cons (pe_ix (ixLT (K := K)) (pv 0) pe_int (fun _ _ => rfl)) pa_nil)) (nomark _))))) (pss_cons (ps_set (i := 2) sc_law_draw.nd rfl (Or.inl rfl) (pe_ix (ixLT (K := K)) (pe_ix (ixLT (K := K)) (pv 0) pe_int (fun _ _ => rfl)) (pe_ix (ixLT (K := K)) (pv 0) pe_int (fun _ _ => rfl)) (fun _ _ => rfl)))
    (pss_cons (ps_asg (pe_op oAdd (pe_ix (ixLT (K := K)) (pv 0) pe_int (fun _ _ => rfl)) pe_int) (pg_sub (pv 0) pe_int set_list))
    (pss_cons (ps_asg (pe_op op_mod (pe_callTy cInt (by rfl) T.z_int (by decide +kernel) (pa_cons (pe_op oAdd (pe_op oAdd (pe_op oMul (pe_ix (ixLT (K := K)) (pv 0) pe_int (fun _ _ => rfl)) pe_int) (pv 2)) pe_int) pa_nil)) pe_int) (pg_sub (pv 0) pe_int set_list))
    (pss_one (ps_if (pt_cmpR op_ge (pv 2) (pe_op op_pow pe_int pe_int) (nomark _)) (pss_one (ps_asg (pv 2) (pg_sub (pv 0) pe_int set_list))) pss_nil))))) pss_nil)
    (pss_cons (ps_if (pt_cmpR op_gt (pe_ix (ixLT (K := K)) (pv 0) pe_int (fun _ _ => rfl)) pe_int (nomark _)) (pss_cons (ps_set (i := 3) sc_law_draw.nd rfl (Or.inl rfl) (pe_op op_mod (pe_callTy cInt (by rfl) T.z_int (by decide +kernel) (pa_cons (pe_ix (ixLT (K := K)) (pv 0) pe_int (fun _ _ => rfl)) pa_nil)) (pv 1)))
    (pss_cons (ps_asg (pe_op op_fdivW (pe_ix (ixLT (K := K)) (pv 0) pe_int (fun _ _ => rfl)) (pv 1)) (pg_sub (pv 0) pe_int set_list))
    (pss_one (ps_ret (pv 3))))) pss_nil)
    (pss_cons (ps_asg (pe_op oAdd (pe_ix (ixLT (K := K)) (pv 0) pe_int (fun _ _ => rfl)) pe_int) (pg_sub (pv 0) pe_int set_list))
    (pss_cons (ps_set (i := 4) sc_law_draw.nd rfl (Or.inl rfl) (pe_op op_mod (pe_callTy cInt (by rfl) T.z_int (by decide +kernel) (pa_cons (pe_op oMul (pe_callTy cInt (by rfl) T.z_int (by decide +kernel) (pa_cons (pe_op oAdd (pe_ix (ixLT (K := K)) (pv 0) pe_int (fun _ _ => rfl)) (pe_op oMul pe_int (pe_ix (ixLT (K := K)) (pv 0) pe_int (fun _ _ => rfl)))) pa_nil)) pe_int) pa_nil)) pe_int))
    (pss_cons (ps_set (i := 4) sc_law_draw.nd rfl (Or.inl rfl) (pe_op op_mod (pe_callTy cInt (by rfl) T.z_int (by decide +kernel) (pa_cons (pe_op oMul (pv 4) (pe_op oAdd (pe_op op_fdivW (pv 4) pe_int) pe_int)) pa_nil)) pe_int))
    (pss_cons (ps_set (i := 4) sc_law_draw.nd rfl (Or.inl rfl) (pe_op op_mod (pe_callTy cInt (by rfl) T.z_int (by decide +kernel) (pa_cons (pe_op oMul (pv 4) (pe_op oAdd (pe_op op_fdivW (pv 4) pe_int) pe_int)) pa_nil)) pe_int))
    (pss_one (ps_ret (pe_op op_mod (pe_callTy cInt (by rfl) T.z_int (by decide +kernel) (pa_cons (pe_op op_fdivW (pv 4) pe_int) pa_nil)) (pv 1)))))))))), ?_⟩
    walk_at "go"
    refine s_cut (fun σ2 H2 => Oth hd H H2 ∧ ∃ i' big' mix' : Int, ∃ y2, σ2 = [some (.ref hd), some (.int m), y2, none, none] ∧ H2 hd = some (.lst [.ref g, .int i', .int big', .int mix', .int c]) ∧ 0 ≤ i' ∧ 0 ≤ big' ∧ 0 ≤ mix' ∧ mix' < 2147483648) ?_ ?_
    · walk_at "go"
      have self : Oth hd H H := fun _ _ _ z => z
      refine i_d (fun q1 => ?_) (fun q1 => ?_)
      · walk_at "go"
        refine i_d (fun q2 => ?_) (fun q2 => ?_)
        · walk_at "go"
          have hj : i.toNat < ns.length := by omega
          refine o_ixL (slO h2) (atI_map i.toNat (by omega) hj) ?_
          have c0 := hn _ (getD_mem hj)
          generalize ns.getD i.toNat 0 = cell at *
          walk_at "go"
          intro H1 o1 e1
          walk_at "go"
          intro H2 o2 e2
          have m0 : 0 ≤ (mix * 69621 + cell + 11) % 2147483629 := Int.emod_nonneg _ (by omega)
          have m1 : (mix * 69621 + cell + 11) % 2147483629 < 2147483629 := Int.emod_lt_of_pos _ (by omega)
          generalize (mix * 69621 + cell + 11) % 2147483629 = mix2 at *
          walk_at "go"
          refine i_d (fun q3 => ?_) (fun q3 => ?_)
          · walk_at "go"
            intro H3 o3 e3
            exact ⟨o1.trans (o2.trans o3), i + 1, cell, mix2, _, rfl, e3, by omega, by omega, by omega, by omega⟩
          · walk_at "go"
            exact ⟨o1.trans o2, i + 1, big, mix2, _, rfl, e2, by omega, by omega, by omega, by omega⟩
        · walk_at "go"
          exact ⟨self, i, big, mix, none, rfl, h1, h5, h6, h7, h8⟩
      · walk_at "go"
        exact ⟨self, i, big, mix, none, rfl, h1, h5, h6, h7, h8⟩
    · rintro σ2 H2 ⟨o1, i', big', mix', y2, rfl, e1, g5, g6, g7, g8⟩
      have g1 : H2 g = some (.lst (ns.map V.int)) := o1 _ _ h3 h2
      clear h1 h5 h6 h7 h8
      walk_at "go"
      refine i_d (fun q1 => ?_) (fun q1 => ?_)
      · walk_at "go"
        intro H3 o3 e3
        walk_at "go"
        exact k _ _ (Int.emod_nonneg _ (by omega)) (Int.emod_lt_of_pos _ hm) ⟨o1.trans o3, i', big' / m, mix', c, e3, o3 _ _ h3 g1, h3, h4, hn, g5, Int.ediv_nonneg g6 (by omega), g7, g8, h9⟩
      · walk_at "go"
        intro H3 o3 e3
        walk_at "go"
        exact k _ _ (Int.emod_nonneg _ (by omega)) (Int.emod_lt_of_pos _ hm) ⟨o1.trans o3, i', big', mix', c + 1, e3, o3 _ _ h3 g1, h3, h4, hn, g5, g6, g7, g8, by omega⟩
def sp_any (K : PySem.W.Frag) : Sp := fun vs H Q _ => ∃ (B : Bg) (a : Addr) (xs : List V), vs = [.ref B.hd, .ref a] ∧ BagAt K H B ∧ SqL K H a xs ∧ a ≠ B.hd ∧ 0 < xs.length ∧ xs.length < 100000 ∧ ∀ x H', x ∈ xs → Hs K B H H' → Q x H'
theorem ok_law_any (T : Txt K mg) : FnOk P w K mg base CX0 2 T.law_any.f T.law_any.fd ["hand", "some"] (sp_any K) := by
  refine T.law_any.F.ok sc_law_any (fun vs H Q E h => ?_) (fun cdv A outer s H vs Q E hr h => ?_)
  · obtain ⟨B, a, xs, rfl, _⟩ := h
    rfl
  · obtain ⟨B, a, xs, rfl, b, hS, ha, h0, h1, k⟩ := h
    refine ⟨_, (pss_one (ps_ret (pe_ix (ixLT (K := K)) (pv 1) (pe_call (ok_law_draw T) (hr.mono (by decide)) (by rfl) T.law_draw.g T.law_draw.F.kp T.law_draw.b .nil pass0 (pa_cons (pv 0) (pa_cons (pe_callB (cLen (K := K)) (by rfl) T.z_len PySem.boot_len (pa_cons (pv 1) pa_nil)) pa_nil))) (fun _ _ => rfl)))), ?_⟩
    walk_at "go"
    refine ⟨B, _, rfl, b, by omega, by omega, fun r H1 r0 r1 hs => ?_⟩
    have hj : r.toNat < xs.length := by omega
    refine o_ixL (hs.sl ha hS) (atI_in (j := r.toNat) (by omega) (List.getElem?_eq_getElem hj)) ?_
    walk_at "go"
    exact k _ H1 (List.getElem_mem hj) hs
end



section
variable {P : Program} {w : World} {K : PySem.W.Frag} {mg : Str → Option Value} {base : Heap}
structure ShD (d : PyData) : Prop where
  s : d.showable = true
  dp : d.depth ≤ 40
  l : d.shown.length ≤ sizeLine
  c : PyData.strOk d.shown = true
theorem sh_of {d : PyData} (m : smB d = true) (w : d.weight ≤ 300000) (p : d.depth ≤ 40) : ShD d := ⟨(sm_facts d m).2.1, p, sm_fits m w, tx_ok d (sm_facts d m).1⟩
/-- what is there, the hand aside -/
abbrev Pr (B : Bg) (H : Hp) : Addr → Prop := fun a => a ≠ B.hd ∧ ∃ o, H a = some o
structure Dr (K : PySem.W.Frag) (B : Bg) (H : Hp) (x : V) (n : Nat) (d : PyData) : Prop where
  q : Dq K (Pr B H) H x d
  m : smB d = true
  w : d.weight ≤ 200 + 2 * n
  p : d.depth ≤ 3 + n
theorem Dr.hs {B : Bg} {H H' : Hp} {x : V} {n : Nat} {d : PyData} (h : Dr K B H x n d) (b : BagAt K H B) (s : Hs K B H H') : Dr K B H' x n d :=
  ⟨dq_mono (fun a n => ⟨n.1, n.2.elim fun o e => ⟨o, s.o a o n.1 e⟩⟩) d x (Dq.mv (fun _ _ n q => s.sl n.1 q) (fun _ _ q => s.st b q) (fun a _ n q => s.o a _ n.1 q) d x h.q), h.m, h.w, h.p⟩
theorem Dr.up {B : Bg} {H : Hp} {x : V} {n m : Nat} {d : PyData} (h : Dr K B H x n d) (e : n ≤ m) : Dr K B H x m d := ⟨h.q, h.m, by have := h.w; omega, by have := h.p; omega⟩
theorem Dr.sh {B : Bg} {H : Hp} {x : V} {n : Nat} {d : PyData} (h : Dr K B H x n d) (e : n ≤ 30) : ShD d := sh_of h.m (by have := h.w; omega) (by have := h.p; omega)
theorem Dr.tup {B : Bg} {H : Hp} {p : Addr} {x : V} {n : Nat} {d : PyData} (h : Dr K B H x n d) (s : SqT K H p [x]) : Dr K B H (.ref p) (n + 1) (.tuple [d]) :=
  ⟨.tup s (.cons h.q .nil), (by show (smB d && true) = true; rw [h.m]; rfl), (by have := h.w; simp only [PyData.weight, PyData.weightAll]; omega), (by have := h.p; simp only [PyData.depth, PyData.depthAll]; omega)⟩
theorem Dr.lst {B : Bg} {H : Hp} {p : Addr} {x : V} {n : Nat} {d : PyData} (h : Dr K B H x n d) (ne : p ≠ B.hd) (s : H p = some (.lst [x])) : Dr K B H (.ref p) (n + 1) (.list [d]) :=
  ⟨.lst (slO s) ⟨ne, _, s⟩ (.cons h.q .nil), (by show (smB d && true) = true; rw [h.m]; rfl), (by have := h.w; simp only [PyData.weight, PyData.weightAll]; omega), (by have := h.p; simp only [PyData.depth, PyData.depthAll]; omega)⟩
theorem dr_int {B : Bg} {H : Hp} {i : Int} (h : i.natAbs < 10 ^ 41) : Dr K B H (.int i) 0 (.int i) := by
  refine ⟨.int i, decide_eq_true h, ?_, by simp [PyData.depth]⟩
  show (if i == 0 then 0 else i.natAbs.log2 + 1) ≤ 200 + 2 * 0
  split
  · omega
  · next z =>
    have z0 : i.natAbs ≠ 0 := by
      intro e
      exact z (by rw [Int.natAbs_eq_zero.mp e]; rfl)
    have : i.natAbs.log2 < 139 := (Nat.log2_lt z0).mpr (Nat.lt_of_lt_of_le h (by decide +kernel))
    omega
theorem dr_bl {B : Bg} {H : Hp} (b : Bool) : Dr K B H (.bl b) 0 (.bool b) := ⟨.bl b, rfl, by simp [PyData.weight], by simp [PyData.depth]⟩
theorem dr_non {B : Bg} {H : Hp} : Dr K B H .non 0 .none := ⟨.non, rfl, by simp [PyData.weight], by simp [PyData.depth]⟩
theorem dr_str {B : Bg} {H : Hp} {x : Str} (h : smB (.str x) = true) (w : x.cps.size ≤ 150) : Dr K B H (.str x) 0 (.str x) := ⟨.str x, h, by rw [PyData.weight]; omega, by simp [PyData.depth]⟩
theorem dr_tup0 {B : Bg} {H : Hp} {p : Addr} (s : SqT K H p []) : Dr K B H (.ref p) 0 (.tuple []) := ⟨.tup s .nil, rfl, by simp [PyData.weight, PyData.weightAll], by simp [PyData.depth, PyData.depthAll]⟩
theorem dr_dct0 {B : Bg} {H : Hp} {p : Addr} (ne : p ≠ B.hd) (s : H p = some (.dK [])) : Dr K B H (.ref p) 0 (.dict []) := ⟨.dct s ⟨ne, _, s⟩ rfl .nil, rfl, by simp [PyData.weight, PyData.weightKv], by simp [PyData.depth, PyData.depthKv]⟩
def sp_deep (K : PySem.W.Frag) : Sp := fun vs H Q _ => ∃ B : Bg, vs = [.ref B.hd] ∧ BagAt K H B ∧ ∀ v d H', Hs K B H H' → Dr K B H' v 29 d → Q v H'
theorem ok_law_deep (T : Txt K mg) : FnOk P w K mg base CX0 3 T.law_deep.f T.law_deep.fd ["hand"] (sp_deep K) := by
  refine T.law_deep.F.ok sc_law_deep (fun vs H Q E h => ?_) (fun cdv A outer s H vs Q E hr h => ?_)
  · obtain ⟨B, rfl, _⟩ := h
    rfl
  · obtain ⟨B, rfl, hB, k⟩ := h
    refine ⟨_, (pss_cons (ps_set (i := 1) sc_law_deep.nd rfl (Or.inl rfl) (pe_call (ok_law_any T) (hr.mono (by decide)) (by rfl) T.law_any.g T.law_any.F.kp T.law_any.b .nil pass0 (pa_cons (pv 0) (pa_cons (pe_lst (pa_cons pe_int (pa_cons (pe_tup pa_nil) (pa_cons pe_str pa_nil)))) pa_nil))))
    (pss_cons (ps_for PassesOwn.never rfl (pi_range1 (by rfl) T.z_range (pa_cons (pe_op oAdd pe_int (pe_call (ok_law_draw T) (hr.mono (by decide)) (by rfl) T.law_draw.g T.law_draw.F.kp T.law_draw.b .nil pass0 (pa_cons (pv 0) (pa_cons pe_int pa_nil)))) pa_nil)) (pg_name (i := 2) sc_law_deep.nd rfl (Or.inl rfl))
      (pss_one (ps_set (i := 1) sc_law_deep.nd rfl (Or.inl rfl) (pe_ifExp (pt_cmpR op_gt (pe_call (ok_law_draw T) (hr.mono (by decide)) (by rfl) T.law_draw.g T.law_draw.F.kp T.law_draw.b .nil pass0 (pa_cons (pv 0) (pa_cons pe_int pa_nil))) pe_int (nomark _)) (pe_tup (pa_cons (pv 1) pa_nil)) (pe_lst (pa_cons (pv 1) pa_nil))))))
    (pss_one (ps_ret (pv 1))))), ?_⟩
    walk_at "go"
    refine n_new (le_size (by simp)) fun t H1 n1 s1 h1 => ?_
    walk_at "go"
    refine n_new (le_size (by simp)) fun l H2 n2 s2 h2 => ?_
    have hs2 := Hs.of hB (s1.trans s2)
    walk_at "go"
    refine ⟨B, l, _, rfl, hs2.b, slO h2, new_ne (bag_same hB s1) n2, by simp, by simp, fun x H3 hx s3 => ?_⟩
    have ht3 := s3.st hs2.b (stO (K := K) (s2 _ _ h1))
    have hs3 := hs2.trans s3
    have tv3 : ∃ d, Dr K B H3 x 0 d := by
      simp only [List.mem_cons, List.not_mem_nil, or_false] at hx
      rcases hx with z | z | z <;> subst z
      · exact ⟨_, dr_int (by decide)⟩
      · exact ⟨_, dr_tup0 ht3⟩
      · exact ⟨_, dr_str (by decide +kernel) (by decide +kernel)⟩
    obtain ⟨d3, tv3⟩ := tv3
    walk_at "go"
    refine ⟨B, 12, rfl, hs3.b, by omega, by omega, fun e H4 e0 e1 s4 => ?_⟩
    have tv4 := tv3.hs hs3.b s4
    have hs4 := hs3.trans s4
    walk_at "go"
    refine i_rng (18 + e).toNat rfl (by omega) (by omega) ?_
    refine l_rng (fun i σ3 H5 => ∃ (y : Option V) (th : V) (d : PyData), σ3 = [some (.ref B.hd), some th, y] ∧ Hs K B H H5 ∧ Dr K B H5 th i d) ⟨_, x, d3, rfl, hs4, tv4⟩ (fun σ3 H5 z => ?_) (fun i σ3 H5 hi z => ?_)
    · obtain ⟨y, th, d, rfl, hs5, tv5⟩ := z
      walk_at "go"
      exact k _ _ _ hs5 (tv5.up (by omega))
    · obtain ⟨y, th, d, rfl, hs5, tv5⟩ := z
      walk_at "go"
      refine ⟨B, 3, rfl, hs5.b, by omega, by omega, fun e H6 e0 e1 s6 => ?_⟩
      have tv6 := tv5.hs hs5.b s6
      have hs6 := hs5.trans s6
      walk_at "go"
      refine i_d (fun q => ?_) (fun q => ?_)
      · walk_at "go"
        refine n_new (le_size (by simp)) fun u H7 n7 s7 h7 => ?_
        walk_at "go"
        exact ⟨_, _, _, rfl, hs6.trans (Hs.of hs6.b s7), (tv6.hs hs6.b (Hs.of hs6.b s7)).tup (stO h7)⟩
      · walk_at "go"
        refine n_new (le_size (by simp)) fun u H7 n7 s7 h7 => ?_
        walk_at "go"
        exact ⟨_, _, _, rfl, hs6.trans (Hs.of hs6.b s7), (tv6.hs hs6.b (Hs.of hs6.b s7)).lst (new_ne hs6.b n7) h7⟩
/-! ### errors that are kept -/
def clsL {mg : Str → Option Value} (T : Txt K mg) : List Addr := [T.e_BadDealing.C, T.e_BadDisk.C, T.e_BadGraph.C, T.e_BadHistory.C, T.e_BadSeen.C, T.e_BadSigns.C, T.e_BadWrites.C, T.e_Ended.C, T.e_InUse.C, T.e_LogFull.C, T.e_NoBlock.C, T.e_NoChanges.C, T.e_NoCommit.C, T.e_NoContent.C, T.e_NoDeed.C, T.e_NoExpression.C, T.e_NoIndex.C, T.e_NoItems.C, T.e_NoKey.C, T.e_NoLine.C, T.e_NoLines.C, T.e_NoMark.C, T.e_NoName.C, T.e_NoNode.C, T.e_NoNote.C, T.e_NoNumber.C, T.e_NoOrder.C, T.e_NoPage.C, T.e_NoPath.C, T.e_NoPlace.C, T.e_NoPlan.C, T.e_NoPlay.C, T.e_NoQuestion.C, T.e_NoRecord.C, T.e_NoRoom.C, T.e_NoSnapshot.C, T.e_NoSnapshots.C, T.e_NoSpot.C, T.e_NoTieWord.C, T.e_NoVersion.C, T.e_NoVersions.C, T.e_NoWeight.C, T.e_NoWorth.C, T.e_NodeThere.C, T.e_NodeTied.C, T.e_NotANode.C, T.e_NotATie.C, T.e_NotKept.C, T.e_NotOpen.C, T.e_NotRemembered.C, T.e_NotSerial.C, T.e_NotThere.C, T.e_NotWhole.C, T.e_NothingWaits.C, T.e_Over.C, T.e_Refused.C, T.e_Stopped.C, T.e_TieThere.C, T.e_TooLarge.C, T.e_TooMany.C]
def ErrAt (K : PySem.W.Frag) (L : List Addr) (H : Hp) (y : V) (i : Nat) : Prop := ∃ (a D : Addr) (d : Option Addr), y = .ref a ∧ L[i]? = some D ∧ H a = some (exo a D d) ∧ ∀ dd, d = some dd → ∃ fs, H dd = some (exd dd fs)
theorem ErrAt.same {L : List Addr} {H H' : Hp} {y : V} {i : Nat} (h : ErrAt K L H y i) (s : Same H H') : ErrAt K L H' y i := by
  obtain ⟨a, D, d, e, l, x, z⟩ := h
  exact ⟨a, D, d, e, l, s _ _ x, fun dd q => (z dd q).imp fun _ r => s _ _ r⟩
theorem ErrAt.oth {L : List Addr} {H H' : Hp} {f : Addr} {xs : List V} {y : V} {i : Nat} (h : ErrAt K L H y i) (hf : H f = some (.lst xs)) (o : Oth f H H') : ErrAt K L H' y i := by
  obtain ⟨a, D, d, e, l, x, z⟩ := h
  refine ⟨a, D, d, e, l, o _ _ (fun q => ?_) x, fun dd q => (z dd q).imp fun fs r => o _ _ (fun q => ?_) r⟩
  · rw [q, hf] at x
    have : HO.lst xs = HO.ext _ := Option.some.inj x
    cases this
  · rw [q, hf] at r
    have : HO.lst xs = HO.ext _ := Option.some.inj r
    cases this
theorem ErrAt.hs {L : List Addr} {B : Bg} {H H' : Hp} {y : V} {i : Nat} (h : ErrAt K L H y i) (b : BagAt K H B) (s : Hs K B H H') : ErrAt K L H' y i := by
  obtain ⟨xs, e⟩ := bag_lst b
  exact h.oth e s.o
def ErrsAt (K : PySem.W.Frag) (L : List Addr) (H : Hp) (ys : List V) (is : List Nat) : Prop := ys.length = is.length ∧ ∀ (k : Nat) (y : V) (i : Nat), ys[k]? = some y → is[k]? = some i → ErrAt K L H y i
theorem ErrsAt.imp {L : List Addr} {H H' : Hp} {ys : List V} {is : List Nat} (h : ErrsAt K L H ys is) (f : ∀ y i, ErrAt K L H y i → ErrAt K L H' y i) : ErrsAt K L H' ys is := ⟨h.1, fun k y i a b => f _ _ (h.2 k y i a b)⟩
theorem ErrsAt.same {L : List Addr} {H H' : Hp} {ys : List V} {is : List Nat} (h : ErrsAt K L H ys is) (s : Same H H') : ErrsAt K L H' ys is := h.imp fun _ _ e => e.same s
theorem errs_nil {L : List Addr} {H : Hp} : ErrsAt K L H [] [] := ⟨rfl, fun k y i a => by simp at a⟩
theorem ErrsAt.app {L : List Addr} {H : Hp} {ys zs : List V} {is js : List Nat} (h : ErrsAt K L H ys is) (g : ErrsAt K L H zs js) : ErrsAt K L H (ys ++ zs) (is ++ js) := by
  refine ⟨by rw [List.length_append, List.length_append, h.1, g.1], fun k y i a b => ?_⟩
  have hl := h.1
  rcases Nat.lt_or_ge k ys.length with q | q
  · rw [List.getElem?_append_left q] at a
    rw [List.getElem?_append_left (by omega)] at b
    exact h.2 k y i a b
  · rw [List.getElem?_append_right q] at a
    rw [List.getElem?_append_right (by omega), ← hl] at b
    exact g.2 _ y i a b
theorem errs_one {L : List Addr} {H : Hp} {y : V} {i : Nat} (h : ErrAt K L H y i) : ErrsAt K L H [y] [i] := ⟨rfl, fun k z j a b => by
  cases k with
  | zero => cases a; cases b; exact h
  | succ k => simp at a⟩
theorem errN {L : List Addr} {H : Hp} {a C : Addr} {i : Nat} (l : L[i]? = some C) (h : H a = some (exo a C none)) : ErrAt K L H (.ref a) i := ⟨a, C, none, rfl, l, h, fun dd e => nomatch e⟩
theorem errF {L : List Addr} {H : Hp} {a C d : Addr} {fs : List (Str × V)} {i : Nat} (l : L[i]? = some C) (h : H a = some (exo a C (some d))) (g : H d = some (exd d fs)) : ErrAt K L H (.ref a) i := ⟨a, C, some d, rfl, l, h, fun dd e => by cases e; exact ⟨fs, g⟩⟩
def idxF : List Nat := [55, 0, 3, 59, 40, 31, 22, 2, 45, 5]
def idxP : List Nat := (((((([7, 1, 10, 13, 53, 56, 33] ++ [9, 27, 17, 34, 24, 58, 54, 37, 21]) ++ [51, 12, 11, 35, 18, 42, 25]) ++ [48, 4, 6, 49, 16, 26, 50]) ++ [36, 39, 19, 8, 20, 52, 23]) ++ [43, 44, 38, 41, 57, 46, 30]) ++ [28, 15, 29, 32, 14, 47])
def sp_field {mg : Str → Option Value} (T : Txt K mg) : Sp := fun vs H Q _ => ∃ (k : Nat) (x : V), vs = [.int (k : Int), x] ∧ k < 10 ∧ ∀ p y H', Same H H' → H' p = some (.tup [x, y]) → ErrAt K (clsL T) H' y (idxF.getD k 0) → Q (.ref p) H'
theorem ok_law_with_field (T : Txt K mg) : FnOk P w K mg base CX0 3 T.law_with_field.f T.law_with_field.fd ["which", "thing"] (sp_field T) := by
  refine T.law_with_field.F.ok sc_law_with_field (fun vs H Q E h => ?_) (fun cdv A outer s H vs Q E hr h => ?_)
  · obtain ⟨k, x, rfl, _⟩ := h
    rfl
  · obtain ⟨k, x, rfl, hk, q⟩ := h
    refine ⟨_, (pss_cons (ps_if (pt_cmpR (oEq (K := K) hr.units) (pv 0) pe_int (nomark _)) (pss_one (ps_ret (pe_tup (pa_cons (pe_xv T.w_Refused T.a_Refused_ring (pe_vko T.e_Refused.o T.e_Refused.i T.e_Refused.t (ok_Refused_init T.m_Refused_init) (hr.mono (by decide)) T.m_Refused_init.b .nil pass0 (by rfl) T.e_Refused.g (pa_cons (pv 1) pa_nil))) (pa_cons (pe_vko T.e_Refused.o T.e_Refused.i T.e_Refused.t (ok_Refused_init T.m_Refused_init) (hr.mono (by decide)) T.m_Refused_init.b .nil pass0 (by rfl) T.e_Refused.g (pa_cons (pv 1) pa_nil)) pa_nil))))) pss_nil)
    (pss_cons (ps_if (pt_cmpR (oEq (K := K) hr.units) (pv 0) pe_int (nomark _)) (pss_one (ps_ret (pe_tup (pa_cons (pe_xv T.w_BadDealing T.a_BadDealing_part (pe_vko T.e_BadDealing.o T.e_BadDealing.i T.e_BadDealing.t (ok_BadDealing_init T.m_BadDealing_init) (hr.mono (by decide)) T.m_BadDealing_init.b .nil pass0 (by rfl) T.e_BadDealing.g (pa_cons (pv 1) pa_nil))) (pa_cons (pe_vko T.e_BadDealing.o T.e_BadDealing.i T.e_BadDealing.t (ok_BadDealing_init T.m_BadDealing_init) (hr.mono (by decide)) T.m_BadDealing_init.b .nil pass0 (by rfl) T.e_BadDealing.g (pa_cons (pv 1) pa_nil)) pa_nil))))) pss_nil)
    (pss_cons (ps_if (pt_cmpR (oEq (K := K) hr.units) (pv 0) pe_int (nomark _)) (pss_one (ps_ret (pe_tup (pa_cons (pe_xv T.w_BadHistory T.a_BadHistory_index (pe_vko T.e_BadHistory.o T.e_BadHistory.i T.e_BadHistory.t (ok_BadHistory_init T.m_BadHistory_init) (hr.mono (by decide)) T.m_BadHistory_init.b .nil pass0 (by rfl) T.e_BadHistory.g (pa_cons (pv 1) pa_nil))) (pa_cons (pe_vko T.e_BadHistory.o T.e_BadHistory.i T.e_BadHistory.t (ok_BadHistory_init T.m_BadHistory_init) (hr.mono (by decide)) T.m_BadHistory_init.b .nil pass0 (by rfl) T.e_BadHistory.g (pa_cons (pv 1) pa_nil)) pa_nil))))) pss_nil)
    (pss_cons (ps_if (pt_cmpR (oEq (K := K) hr.units) (pv 0) pe_int (nomark _)) (pss_one (ps_ret (pe_tup (pa_cons (pe_xv T.w_TooMany T.a_TooMany_most (pe_vko T.e_TooMany.o T.e_TooMany.i T.e_TooMany.t (ok_TooMany_init T.m_TooMany_init) (hr.mono (by decide)) T.m_TooMany_init.b .nil pass0 (by rfl) T.e_TooMany.g (pa_cons (pv 1) pa_nil))) (pa_cons (pe_vko T.e_TooMany.o T.e_TooMany.i T.e_TooMany.t (ok_TooMany_init T.m_TooMany_init) (hr.mono (by decide)) T.m_TooMany_init.b .nil pass0 (by rfl) T.e_TooMany.g (pa_cons (pv 1) pa_nil)) pa_nil))))) pss_nil)
    (pss_cons (ps_if (pt_cmpR (oEq (K := K) hr.units) (pv 0) pe_int (nomark _)) (pss_one (ps_ret (pe_tup (pa_cons (pe_xv T.w_NoVersions T.a_NoVersions_index (pe_vko T.e_NoVersions.o T.e_NoVersions.i T.e_NoVersions.t (ok_NoVersions_init T.m_NoVersions_init) (hr.mono (by decide)) T.m_NoVersions_init.b .nil pass0 (by rfl) T.e_NoVersions.g (pa_cons (pv 1) pa_nil))) (pa_cons (pe_vko T.e_NoVersions.o T.e_NoVersions.i T.e_NoVersions.t (ok_NoVersions_init T.m_NoVersions_init) (hr.mono (by decide)) T.m_NoVersions_init.b .nil pass0 (by rfl) T.e_NoVersions.g (pa_cons (pv 1) pa_nil)) pa_nil))))) pss_nil)
    (pss_cons (ps_if (pt_cmpR (oEq (K := K) hr.units) (pv 0) pe_int (nomark _)) (pss_one (ps_ret (pe_tup (pa_cons (pe_xv T.w_NoPlay T.a_NoPlay_part (pe_vko T.e_NoPlay.o T.e_NoPlay.i T.e_NoPlay.t (ok_NoPlay_init T.m_NoPlay_init) (hr.mono (by decide)) T.m_NoPlay_init.b .nil pass0 (by rfl) T.e_NoPlay.g (pa_cons (pv 1) pa_nil))) (pa_cons (pe_vko T.e_NoPlay.o T.e_NoPlay.i T.e_NoPlay.t (ok_NoPlay_init T.m_NoPlay_init) (hr.mono (by decide)) T.m_NoPlay_init.b .nil pass0 (by rfl) T.e_NoPlay.g (pa_cons (pv 1) pa_nil)) pa_nil))))) pss_nil)
    (pss_cons (ps_if (pt_cmpR (oEq (K := K) hr.units) (pv 0) pe_int (nomark _)) (pss_one (ps_ret (pe_tup (pa_cons (pe_xv T.w_NoName T.a_NoName_name (pe_vko T.e_NoName.o T.e_NoName.i T.e_NoName.t (ok_NoName_init T.m_NoName_init) (hr.mono (by decide)) T.m_NoName_init.b .nil pass0 (by rfl) T.e_NoName.g (pa_cons (pv 1) pa_nil))) (pa_cons (pe_vko T.e_NoName.o T.e_NoName.i T.e_NoName.t (ok_NoName_init T.m_NoName_init) (hr.mono (by decide)) T.m_NoName_init.b .nil pass0 (by rfl) T.e_NoName.g (pa_cons (pv 1) pa_nil)) pa_nil))))) pss_nil)
    (pss_cons (ps_if (pt_cmpR (oEq (K := K) hr.units) (pv 0) pe_int (nomark _)) (pss_one (ps_ret (pe_tup (pa_cons (pe_xv T.w_BadGraph T.a_BadGraph_part (pe_vko T.e_BadGraph.o T.e_BadGraph.i T.e_BadGraph.t (ok_BadGraph_init T.m_BadGraph_init) (hr.mono (by decide)) T.m_BadGraph_init.b .nil pass0 (by rfl) T.e_BadGraph.g (pa_cons (pv 1) pa_nil))) (pa_cons (pe_vko T.e_BadGraph.o T.e_BadGraph.i T.e_BadGraph.t (ok_BadGraph_init T.m_BadGraph_init) (hr.mono (by decide)) T.m_BadGraph_init.b .nil pass0 (by rfl) T.e_BadGraph.g (pa_cons (pv 1) pa_nil)) pa_nil))))) pss_nil)
    (pss_cons (ps_if (pt_cmpR (oEq (K := K) hr.units) (pv 0) pe_int (nomark _)) (pss_one (ps_ret (pe_tup (pa_cons (pe_xv T.w_NotANode T.a_NotANode_name (pe_vko T.e_NotANode.o T.e_NotANode.i T.e_NotANode.t (ok_NotANode_init T.m_NotANode_init) (hr.mono (by decide)) T.m_NotANode_init.b .nil pass0 (by rfl) T.e_NotANode.g (pa_cons (pv 1) pa_nil))) (pa_cons (pe_vko T.e_NotANode.o T.e_NotANode.i T.e_NotANode.t (ok_NotANode_init T.m_NotANode_init) (hr.mono (by decide)) T.m_NotANode_init.b .nil pass0 (by rfl) T.e_NotANode.g (pa_cons (pv 1) pa_nil)) pa_nil))))) pss_nil)
    (pss_one (ps_ret (pe_tup (pa_cons (pe_xv T.w_BadSigns T.a_BadSigns_at (pe_vko T.e_BadSigns.o T.e_BadSigns.i T.e_BadSigns.t (ok_BadSigns_init T.m_BadSigns_init) (hr.mono (by decide)) T.m_BadSigns_init.b .nil pass0 (by rfl) T.e_BadSigns.g (pa_cons (pv 1) pa_nil))) (pa_cons (pe_vko T.e_BadSigns.o T.e_BadSigns.i T.e_BadSigns.t (ok_BadSigns_init T.m_BadSigns_init) (hr.mono (by decide)) T.m_BadSigns_init.b .nil pass0 (by rfl) T.e_BadSigns.g (pa_cons (pv 1) pa_nil)) pa_nil)))))))))))))), ?_⟩
    rcases (show k = 0 ∨ k = 1 ∨ k = 2 ∨ k = 3 ∨ k = 4 ∨ k = 5 ∨ k = 6 ∨ k = 7 ∨ k = 8 ∨ k = 9 by omega) with e | e | e | e | e | e | e | e | e | e <;> subst e
    · walk_at "go"
      refine e_xv ?_
      refine e_vko ?_
      walk_at "go"
      refine o_vkF T.e_Refused.o T.a_Refused_ring fun a d H1 na s1 ha hd => ?_
      refine ⟨a, d, _, x, rfl, ha, hd, look_one, ?_⟩
      walk_at "go"
      refine e_vko ?_
      walk_at "go"
      refine o_vkF T.e_Refused.o T.a_Refused_ring fun a2 d2 H2 na2 s2 ha2 hd2 => ?_
      walk_at "go"
      refine n_new (le_size (by simp)) fun p H3 n3 s3 h3 => ?_
      exact q p _ H3 (s1.trans (s2.trans s3)) h3 (errF rfl (at_ s3 ha2) (at_ s3 hd2))
    · walk_at "go"
      refine e_xv ?_
      refine e_vko ?_
      walk_at "go"
      refine o_vkF T.e_BadDealing.o T.a_BadDealing_part fun a d H1 na s1 ha hd => ?_
      refine ⟨a, d, _, x, rfl, ha, hd, look_one, ?_⟩
      walk_at "go"
      refine e_vko ?_
      walk_at "go"
      refine o_vkF T.e_BadDealing.o T.a_BadDealing_part fun a2 d2 H2 na2 s2 ha2 hd2 => ?_
      walk_at "go"
      refine n_new (le_size (by simp)) fun p H3 n3 s3 h3 => ?_
      exact q p _ H3 (s1.trans (s2.trans s3)) h3 (errF rfl (at_ s3 ha2) (at_ s3 hd2))
    · walk_at "go"
      refine e_xv ?_
      refine e_vko ?_
      walk_at "go"
      refine o_vkF T.e_BadHistory.o T.a_BadHistory_index fun a d H1 na s1 ha hd => ?_
      refine ⟨a, d, _, x, rfl, ha, hd, look_one, ?_⟩
      walk_at "go"
      refine e_vko ?_
      walk_at "go"
      refine o_vkF T.e_BadHistory.o T.a_BadHistory_index fun a2 d2 H2 na2 s2 ha2 hd2 => ?_
      walk_at "go"
      refine n_new (le_size (by simp)) fun p H3 n3 s3 h3 => ?_
      exact q p _ H3 (s1.trans (s2.trans s3)) h3 (errF rfl (at_ s3 ha2) (at_ s3 hd2))
    · walk_at "go"
      refine e_xv ?_
      refine e_vko ?_
      walk_at "go"
      refine o_vkF T.e_TooMany.o T.a_TooMany_most fun a d H1 na s1 ha hd => ?_
      refine ⟨a, d, _, x, rfl, ha, hd, look_one, ?_⟩
      walk_at "go"
      refine e_vko ?_
      walk_at "go"
      refine o_vkF T.e_TooMany.o T.a_TooMany_most fun a2 d2 H2 na2 s2 ha2 hd2 => ?_
      walk_at "go"
      refine n_new (le_size (by simp)) fun p H3 n3 s3 h3 => ?_
      exact q p _ H3 (s1.trans (s2.trans s3)) h3 (errF rfl (at_ s3 ha2) (at_ s3 hd2))
    · walk_at "go"
      refine e_xv ?_
      refine e_vko ?_
      walk_at "go"
      refine o_vkF T.e_NoVersions.o T.a_NoVersions_index fun a d H1 na s1 ha hd => ?_
      refine ⟨a, d, _, x, rfl, ha, hd, look_one, ?_⟩
      walk_at "go"
      refine e_vko ?_
      walk_at "go"
      refine o_vkF T.e_NoVersions.o T.a_NoVersions_index fun a2 d2 H2 na2 s2 ha2 hd2 => ?_
      walk_at "go"
      refine n_new (le_size (by simp)) fun p H3 n3 s3 h3 => ?_
      exact q p _ H3 (s1.trans (s2.trans s3)) h3 (errF rfl (at_ s3 ha2) (at_ s3 hd2))
    · walk_at "go"
      refine e_xv ?_
      refine e_vko ?_
      walk_at "go"
      refine o_vkF T.e_NoPlay.o T.a_NoPlay_part fun a d H1 na s1 ha hd => ?_
      refine ⟨a, d, _, x, rfl, ha, hd, look_one, ?_⟩
      walk_at "go"
      refine e_vko ?_
      walk_at "go"
      refine o_vkF T.e_NoPlay.o T.a_NoPlay_part fun a2 d2 H2 na2 s2 ha2 hd2 => ?_
      walk_at "go"
      refine n_new (le_size (by simp)) fun p H3 n3 s3 h3 => ?_
      exact q p _ H3 (s1.trans (s2.trans s3)) h3 (errF rfl (at_ s3 ha2) (at_ s3 hd2))
    · walk_at "go"
      refine e_xv ?_
      refine e_vko ?_
      walk_at "go"
      refine o_vkF T.e_NoName.o T.a_NoName_name fun a d H1 na s1 ha hd => ?_
      refine ⟨a, d, _, x, rfl, ha, hd, look_one, ?_⟩
      walk_at "go"
      refine e_vko ?_
      walk_at "go"
      refine o_vkF T.e_NoName.o T.a_NoName_name fun a2 d2 H2 na2 s2 ha2 hd2 => ?_
      walk_at "go"
      refine n_new (le_size (by simp)) fun p H3 n3 s3 h3 => ?_
      exact q p _ H3 (s1.trans (s2.trans s3)) h3 (errF rfl (at_ s3 ha2) (at_ s3 hd2))
    · walk_at "go"
      refine e_xv ?_
      refine e_vko ?_
      walk_at "go"
      refine o_vkF T.e_BadGraph.o T.a_BadGraph_part fun a d H1 na s1 ha hd => ?_
      refine ⟨a, d, _, x, rfl, ha, hd, look_one, ?_⟩
      walk_at "go"
      refine e_vko ?_
      walk_at "go"
      refine o_vkF T.e_BadGraph.o T.a_BadGraph_part fun a2 d2 H2 na2 s2 ha2 hd2 => ?_
      walk_at "go"
      refine n_new (le_size (by simp)) fun p H3 n3 s3 h3 => ?_
      exact q p _ H3 (s1.trans (s2.trans s3)) h3 (errF rfl (at_ s3 ha2) (at_ s3 hd2))
    · walk_at "go"
      refine e_xv ?_
      refine e_vko ?_
      walk_at "go"
      refine o_vkF T.e_NotANode.o T.a_NotANode_name fun a d H1 na s1 ha hd => ?_
      refine ⟨a, d, _, x, rfl, ha, hd, look_one, ?_⟩
      walk_at "go"
      refine e_vko ?_
      walk_at "go"
      refine o_vkF T.e_NotANode.o T.a_NotANode_name fun a2 d2 H2 na2 s2 ha2 hd2 => ?_
      walk_at "go"
      refine n_new (le_size (by simp)) fun p H3 n3 s3 h3 => ?_
      exact q p _ H3 (s1.trans (s2.trans s3)) h3 (errF rfl (at_ s3 ha2) (at_ s3 hd2))
    · walk_at "go"
      refine e_xv ?_
      refine e_vko ?_
      walk_at "go"
      refine o_vkF T.e_BadSigns.o T.a_BadSigns_at fun a d H1 na s1 ha hd => ?_
      refine ⟨a, d, _, x, rfl, ha, hd, look_one, ?_⟩
      walk_at "go"
      refine e_vko ?_
      walk_at "go"
      refine o_vkF T.e_BadSigns.o T.a_BadSigns_at fun a2 d2 H2 na2 s2 ha2 hd2 => ?_
      walk_at "go"
      refine n_new (le_size (by simp)) fun p H3 n3 s3 h3 => ?_
      exact q p _ H3 (s1.trans (s2.trans s3)) h3 (errF rfl (at_ s3 ha2) (at_ s3 hd2))
end



section
variable {P : Program} {w : World} {K : PySem.W.Frag} {mg : Str → Option Value} {base : Heap}
theorem is_err {mg : Str → Option Value} (T : Txt K mg) {H : Hp} {y : V} {i j : Nat} {C : Addr} {Q : VK} (h : ErrAt K (clsL T) H y i) (c : (clsL T)[j]? = some C) (q : Q (.bl (decide (i = j))) H) : rIsV K [y, .ref C] H Q := by
  obtain ⟨a, D, d, rfl, l, x, z⟩ := h
  exact ⟨a, D, d, _, _, _, rfl, xcAll_at T.xs l, x, z, fun u r => r, kitTab_at T.kt l c, q⟩
theorem is_store {mg : Str → Option Value} (T : Txt K mg) {H : Hp} {y : V} {i : Nat} {Q : VK} (h : ErrAt K (clsL T) H y i) (q : Q (.bl true) H) : rIsV K [y, .ref T.N_StoreError] H Q := by
  obtain ⟨a, D, d, rfl, l, x, z⟩ := h
  exact ⟨a, D, d, _, _, _, rfl, xcAll_at T.xs l, x, z, fun u r => r, kitAll_at T.ks l, q⟩
theorem is_value {mg : Str → Option Value} (T : Txt K mg) {H : Hp} {y : V} {i : Nat} {Q : VK} (h : ErrAt K (clsL T) H y i) (q : Q (.bl true) H) : rIsV K [y, .ty "ValueError"] H Q := by
  obtain ⟨a, D, d, rfl, l, x, z⟩ := h
  exact ⟨a, D, d, _, _, _, rfl, xcAll_at T.xs l, x, z, fun u r => r, kitAll_at T.kv l, q⟩
def kindsL (i : Nat) : List V := ((((((((((((((((((([V.bl (decide (i = 0)), V.bl (decide (i = 1)), V.bl (decide (i = 2))] ++ [V.bl (decide (i = 3)), V.bl (decide (i = 4)), V.bl (decide (i = 5))]) ++ [V.bl (decide (i = 6)), V.bl (decide (i = 7)), V.bl (decide (i = 8))]) ++ [V.bl (decide (i = 9)), V.bl (decide (i = 10)), V.bl (decide (i = 11))]) ++ [V.bl (decide (i = 12)), V.bl (decide (i = 13)), V.bl (decide (i = 14))]) ++ [V.bl (decide (i = 15)), V.bl (decide (i = 16)), V.bl (decide (i = 17))]) ++ [V.bl (decide (i = 18)), V.bl (decide (i = 19)), V.bl (decide (i = 20)), V.bl (decide (i = 21))]) ++ [V.bl (decide (i = 22)), V.bl (decide (i = 23)), V.bl (decide (i = 24))]) ++ [V.bl (decide (i = 25)), V.bl (decide (i = 26)), V.bl (decide (i = 27))]) ++ [V.bl (decide (i = 28)), V.bl (decide (i = 29)), V.bl (decide (i = 30))]) ++ [V.bl (decide (i = 31)), V.bl (decide (i = 32)), V.bl (decide (i = 33))]) ++ [V.bl (decide (i = 34)), V.bl (decide (i = 35)), V.bl (decide (i = 36))]) ++ [V.bl (decide (i = 37)), V.bl (decide (i = 38)), V.bl (decide (i = 39))]) ++ [V.bl (decide (i = 40)), V.bl (decide (i = 41)), V.bl (decide (i = 42))]) ++ [V.bl (decide (i = 43)), V.bl (decide (i = 44)), V.bl (decide (i = 45))]) ++ [V.bl (decide (i = 46)), V.bl (decide (i = 47)), V.bl (decide (i = 48))]) ++ [V.bl (decide (i = 49)), V.bl (decide (i = 50)), V.bl (decide (i = 51))]) ++ [V.bl (decide (i = 52)), V.bl (decide (i = 53)), V.bl (decide (i = 54))]) ++ [V.bl (decide (i = 55)), V.bl (decide (i = 56)), V.bl (decide (i = 57))]) ++ [V.bl (decide (i = 58)), V.bl (decide (i = 59))])
def sp_kinds {mg : Str → Option Value} (T : Txt K mg) : Sp := fun vs H Q _ => ∃ (y : V) (i : Nat), vs = [y] ∧ ErrAt K (clsL T) H y i ∧ ∀ p H', Same H H' → H' p = some (.lst (kindsL i)) → Q (.ref p) H'
theorem ok_law_kinds (T : Txt K mg) : FnOk P w K mg base CX0 1 T.law_kinds.f T.law_kinds.fd ["e"] (sp_kinds T) := by
  refine T.law_kinds.F.ok sc_law_kinds (fun vs H Q E h => ?_) (fun cdv A outer s H vs Q E hr h => ?_)
  · obtain ⟨y, i, rfl, _⟩ := h
    rfl
  · obtain ⟨y, i, rfl, hE, k⟩ := h
    refine ⟨_, (pss_cons (ps_set (i := 1) sc_law_kinds.nd rfl (Or.inl rfl) (pe_lst (pa_cons (pe_callB (cIsV (K := K)) (by rfl) T.z_isinstance (by decide +kernel) (pa_cons (pv 0) (pa_cons (C8.pe_gc (v := .ref T.e_BadDealing.C) (by rfl) ⟨_, T.e_BadDealing.g, rfl⟩) pa_nil))) (pa_cons (pe_callB (cIsV (K := K)) (by rfl) T.z_isinstance (by decide +kernel) (pa_cons (pv 0) (pa_cons (C8.pe_gc (v := .ref T.e_BadDisk.C) (by rfl) ⟨_, T.e_BadDisk.g, rfl⟩) pa_nil))) (pa_cons (pe_callB (cIsV (K := K)) (by rfl) T.z_isinstance (by decide +kernel) (pa_cons (pv 0) (pa_cons (C8.pe_gc (v := .ref T.e_BadGraph.C) (by rfl) ⟨_, T.e_BadGraph.g, rfl⟩) pa_nil))) pa_nil)))))
    (pss_cons (ps_set (i := 1) sc_law_kinds.nd rfl (Or.inl rfl) (pe_op oAdd (pv 1) (pe_lst (pa_cons (pe_callB (cIsV (K := K)) (by rfl) T.z_isinstance (by decide +kernel) (pa_cons (pv 0) (pa_cons (C8.pe_gc (v := .ref T.e_BadHistory.C) (by rfl) ⟨_, T.e_BadHistory.g, rfl⟩) pa_nil))) (pa_cons (pe_callB (cIsV (K := K)) (by rfl) T.z_isinstance (by decide +kernel) (pa_cons (pv 0) (pa_cons (C8.pe_gc (v := .ref T.e_BadSeen.C) (by rfl) ⟨_, T.e_BadSeen.g, rfl⟩) pa_nil))) (pa_cons (pe_callB (cIsV (K := K)) (by rfl) T.z_isinstance (by decide +kernel) (pa_cons (pv 0) (pa_cons (C8.pe_gc (v := .ref T.e_BadSigns.C) (by rfl) ⟨_, T.e_BadSigns.g, rfl⟩) pa_nil))) pa_nil))))))
    (pss_cons (ps_set (i := 1) sc_law_kinds.nd rfl (Or.inl rfl) (pe_op oAdd (pv 1) (pe_lst (pa_cons (pe_callB (cIsV (K := K)) (by rfl) T.z_isinstance (by decide +kernel) (pa_cons (pv 0) (pa_cons (C8.pe_gc (v := .ref T.e_BadWrites.C) (by rfl) ⟨_, T.e_BadWrites.g, rfl⟩) pa_nil))) (pa_cons (pe_callB (cIsV (K := K)) (by rfl) T.z_isinstance (by decide +kernel) (pa_cons (pv 0) (pa_cons (C8.pe_gc (v := .ref T.e_Ended.C) (by rfl) ⟨_, T.e_Ended.g, rfl⟩) pa_nil))) (pa_cons (pe_callB (cIsV (K := K)) (by rfl) T.z_isinstance (by decide +kernel) (pa_cons (pv 0) (pa_cons (C8.pe_gc (v := .ref T.e_InUse.C) (by rfl) ⟨_, T.e_InUse.g, rfl⟩) pa_nil))) pa_nil))))))
    (pss_cons (ps_set (i := 1) sc_law_kinds.nd rfl (Or.inl rfl) (pe_op oAdd (pv 1) (pe_lst (pa_cons (pe_callB (cIsV (K := K)) (by rfl) T.z_isinstance (by decide +kernel) (pa_cons (pv 0) (pa_cons (C8.pe_gc (v := .ref T.e_LogFull.C) (by rfl) ⟨_, T.e_LogFull.g, rfl⟩) pa_nil))) (pa_cons (pe_callB (cIsV (K := K)) (by rfl) T.z_isinstance (by decide +kernel) (pa_cons (pv 0) (pa_cons (C8.pe_gc (v := .ref T.e_NoBlock.C) (by rfl) ⟨_, T.e_NoBlock.g, rfl⟩) pa_nil))) (pa_cons (pe_callB (cIsV (K := K)) (by rfl) T.z_isinstance (by decide +kernel) (pa_cons (pv 0) (pa_cons (C8.pe_gc (v := .ref T.e_NoChanges.C) (by rfl) ⟨_, T.e_NoChanges.g, rfl⟩) pa_nil))) pa_nil))))))
    (pss_cons (ps_set (i := 1) sc_law_kinds.nd rfl (Or.inl rfl) (pe_op oAdd (pv 1) (pe_lst (pa_cons (pe_callB (cIsV (K := K)) (by rfl) T.z_isinstance (by decide +kernel) (pa_cons (pv 0) (pa_cons (C8.pe_gc (v := .ref T.e_NoCommit.C) (by rfl) ⟨_, T.e_NoCommit.g, rfl⟩) pa_nil))) (pa_cons (pe_callB (cIsV (K := K)) (by rfl) T.z_isinstance (by decide +kernel) (pa_cons (pv 0) (pa_cons (C8.pe_gc (v := .ref T.e_NoContent.C) (by rfl) ⟨_, T.e_NoContent.g, rfl⟩) pa_nil))) (pa_cons (pe_callB (cIsV (K := K)) (by rfl) T.z_isinstance (by decide +kernel) (pa_cons (pv 0) (pa_cons (C8.pe_gc (v := .ref T.e_NoDeed.C) (by rfl) ⟨_, T.e_NoDeed.g, rfl⟩) pa_nil))) pa_nil))))))
    (pss_cons (ps_set (i := 1) sc_law_kinds.nd rfl (Or.inl rfl) (pe_op oAdd (pv 1) (pe_lst (pa_cons (pe_callB (cIsV (K := K)) (by rfl) T.z_isinstance (by decide +kernel) (pa_cons (pv 0) (pa_cons (C8.pe_gc (v := .ref T.e_NoExpression.C) (by rfl) ⟨_, T.e_NoExpression.g, rfl⟩) pa_nil))) (pa_cons (pe_callB (cIsV (K := K)) (by rfl) T.z_isinstance (by decide +kernel) (pa_cons (pv 0) (pa_cons (C8.pe_gc (v := .ref T.e_NoIndex.C) (by rfl) ⟨_, T.e_NoIndex.g, rfl⟩) pa_nil))) (pa_cons (pe_callB (cIsV (K := K)) (by rfl) T.z_isinstance (by decide +kernel) (pa_cons (pv 0) (pa_cons (C8.pe_gc (v := .ref T.e_NoItems.C) (by rfl) ⟨_, T.e_NoItems.g, rfl⟩) pa_nil))) pa_nil))))))
    (pss_cons (ps_set (i := 1) sc_law_kinds.nd rfl (Or.inl rfl) (pe_op oAdd (pv 1) (pe_lst (pa_cons (pe_callB (cIsV (K := K)) (by rfl) T.z_isinstance (by decide +kernel) (pa_cons (pv 0) (pa_cons (C8.pe_gc (v := .ref T.e_NoKey.C) (by rfl) ⟨_, T.e_NoKey.g, rfl⟩) pa_nil))) (pa_cons (pe_callB (cIsV (K := K)) (by rfl) T.z_isinstance (by decide +kernel) (pa_cons (pv 0) (pa_cons (C8.pe_gc (v := .ref T.e_NoLine.C) (by rfl) ⟨_, T.e_NoLine.g, rfl⟩) pa_nil))) (pa_cons (pe_callB (cIsV (K := K)) (by rfl) T.z_isinstance (by decide +kernel) (pa_cons (pv 0) (pa_cons (C8.pe_gc (v := .ref T.e_NoLines.C) (by rfl) ⟨_, T.e_NoLines.g, rfl⟩) pa_nil))) (pa_cons (pe_callB (cIsV (K := K)) (by rfl) T.z_isinstance (by decide +kernel) (pa_cons (pv 0) (pa_cons (C8.pe_gc (v := .ref T.e_NoMark.C) (by rfl) ⟨_, T.e_NoMark.g, rfl⟩) pa_nil))) pa_nil)))))))
    (pss_cons (ps_set (i := 1) sc_law_kinds.nd rfl (Or.inl rfl) (pe_op oAdd (pv 1) (pe_lst (pa_cons (pe_callB (cIsV (K := K)) (by rfl) T.z_isinstance (by decide +kernel) (pa_cons (pv 0) (pa_cons (C8.pe_gc (v := .ref T.e_NoName.C) (by rfl) ⟨_, T.e_NoName.g, rfl⟩) pa_nil))) (pa_cons (pe_callB (cIsV (K := K)) (by rfl) T.z_isinstance (by decide +kernel) (pa_cons (pv 0) (pa_cons (C8.pe_gc (v := .ref T.e_NoNode.C) (by rfl) ⟨_, T.e_NoNode.g, rfl⟩) pa_nil))) (pa_cons (pe_callB (cIsV (K := K)) (by rfl) T.z_isinstance (by decide +kernel) (pa_cons (pv 0) (pa_cons (C8.pe_gc (v := .ref T.e_NoNote.C) (by rfl) ⟨_, T.e_NoNote.g, rfl⟩) pa_nil))) pa_nil))))))
    (pss_cons (ps_set (i := 1) sc_law_kinds.nd rfl (Or.inl rfl) (pe_op oAdd (pv 1) (pe_lst (pa_cons (pe_callB (cIsV (K := K)) (by rfl) T.z_isinstance (by decide +kernel) (pa_cons (pv 0) (pa_cons (C8.pe_gc (v := .ref T.e_NoNumber.C) (by rfl) ⟨_, T.e_NoNumber.g, rfl⟩) pa_nil))) (pa_cons (pe_callB (cIsV (K := K)) (by rfl) T.z_isinstance (by decide +kernel) (pa_cons (pv 0) (pa_cons (C8.pe_gc (v := .ref T.e_NoOrder.C) (by rfl) ⟨_, T.e_NoOrder.g, rfl⟩) pa_nil))) (pa_cons (pe_callB (cIsV (K := K)) (by rfl) T.z_isinstance (by decide +kernel) (pa_cons (pv 0) (pa_cons (C8.pe_gc (v := .ref T.e_NoPage.C) (by rfl) ⟨_, T.e_NoPage.g, rfl⟩) pa_nil))) pa_nil))))))
    (pss_cons (ps_set (i := 1) sc_law_kinds.nd rfl (Or.inl rfl) (pe_op oAdd (pv 1) (pe_lst (pa_cons (pe_callB (cIsV (K := K)) (by rfl) T.z_isinstance (by decide +kernel) (pa_cons (pv 0) (pa_cons (C8.pe_gc (v := .ref T.e_NoPath.C) (by rfl) ⟨_, T.e_NoPath.g, rfl⟩) pa_nil))) (pa_cons (pe_callB (cIsV (K := K)) (by rfl) T.z_isinstance (by decide +kernel) (pa_cons (pv 0) (pa_cons (C8.pe_gc (v := .ref T.e_NoPlace.C) (by rfl) ⟨_, T.e_NoPlace.g, rfl⟩) pa_nil))) (pa_cons (pe_callB (cIsV (K := K)) (by rfl) T.z_isinstance (by decide +kernel) (pa_cons (pv 0) (pa_cons (C8.pe_gc (v := .ref T.e_NoPlan.C) (by rfl) ⟨_, T.e_NoPlan.g, rfl⟩) pa_nil))) pa_nil))))))
    (pss_cons (ps_set (i := 1) sc_law_kinds.nd rfl (Or.inl rfl) (pe_op oAdd (pv 1) (pe_lst (pa_cons (pe_callB (cIsV (K := K)) (by rfl) T.z_isinstance (by decide +kernel) (pa_cons (pv 0) (pa_cons (C8.pe_gc (v := .ref T.e_NoPlay.C) (by rfl) ⟨_, T.e_NoPlay.g, rfl⟩) pa_nil))) (pa_cons (pe_callB (cIsV (K := K)) (by rfl) T.z_isinstance (by decide +kernel) (pa_cons (pv 0) (pa_cons (C8.pe_gc (v := .ref T.e_NoQuestion.C) (by rfl) ⟨_, T.e_NoQuestion.g, rfl⟩) pa_nil))) (pa_cons (pe_callB (cIsV (K := K)) (by rfl) T.z_isinstance (by decide +kernel) (pa_cons (pv 0) (pa_cons (C8.pe_gc (v := .ref T.e_NoRecord.C) (by rfl) ⟨_, T.e_NoRecord.g, rfl⟩) pa_nil))) pa_nil))))))
    (pss_cons (ps_set (i := 1) sc_law_kinds.nd rfl (Or.inl rfl) (pe_op oAdd (pv 1) (pe_lst (pa_cons (pe_callB (cIsV (K := K)) (by rfl) T.z_isinstance (by decide +kernel) (pa_cons (pv 0) (pa_cons (C8.pe_gc (v := .ref T.e_NoRoom.C) (by rfl) ⟨_, T.e_NoRoom.g, rfl⟩) pa_nil))) (pa_cons (pe_callB (cIsV (K := K)) (by rfl) T.z_isinstance (by decide +kernel) (pa_cons (pv 0) (pa_cons (C8.pe_gc (v := .ref T.e_NoSnapshot.C) (by rfl) ⟨_, T.e_NoSnapshot.g, rfl⟩) pa_nil))) (pa_cons (pe_callB (cIsV (K := K)) (by rfl) T.z_isinstance (by decide +kernel) (pa_cons (pv 0) (pa_cons (C8.pe_gc (v := .ref T.e_NoSnapshots.C) (by rfl) ⟨_, T.e_NoSnapshots.g, rfl⟩) pa_nil))) pa_nil))))))
    (pss_cons (ps_set (i := 1) sc_law_kinds.nd rfl (Or.inl rfl) (pe_op oAdd (pv 1) (pe_lst (pa_cons (pe_callB (cIsV (K := K)) (by rfl) T.z_isinstance (by decide +kernel) (pa_cons (pv 0) (pa_cons (C8.pe_gc (v := .ref T.e_NoSpot.C) (by rfl) ⟨_, T.e_NoSpot.g, rfl⟩) pa_nil))) (pa_cons (pe_callB (cIsV (K := K)) (by rfl) T.z_isinstance (by decide +kernel) (pa_cons (pv 0) (pa_cons (C8.pe_gc (v := .ref T.e_NoTieWord.C) (by rfl) ⟨_, T.e_NoTieWord.g, rfl⟩) pa_nil))) (pa_cons (pe_callB (cIsV (K := K)) (by rfl) T.z_isinstance (by decide +kernel) (pa_cons (pv 0) (pa_cons (C8.pe_gc (v := .ref T.e_NoVersion.C) (by rfl) ⟨_, T.e_NoVersion.g, rfl⟩) pa_nil))) pa_nil))))))
    (pss_cons (ps_set (i := 1) sc_law_kinds.nd rfl (Or.inl rfl) (pe_op oAdd (pv 1) (pe_lst (pa_cons (pe_callB (cIsV (K := K)) (by rfl) T.z_isinstance (by decide +kernel) (pa_cons (pv 0) (pa_cons (C8.pe_gc (v := .ref T.e_NoVersions.C) (by rfl) ⟨_, T.e_NoVersions.g, rfl⟩) pa_nil))) (pa_cons (pe_callB (cIsV (K := K)) (by rfl) T.z_isinstance (by decide +kernel) (pa_cons (pv 0) (pa_cons (C8.pe_gc (v := .ref T.e_NoWeight.C) (by rfl) ⟨_, T.e_NoWeight.g, rfl⟩) pa_nil))) (pa_cons (pe_callB (cIsV (K := K)) (by rfl) T.z_isinstance (by decide +kernel) (pa_cons (pv 0) (pa_cons (C8.pe_gc (v := .ref T.e_NoWorth.C) (by rfl) ⟨_, T.e_NoWorth.g, rfl⟩) pa_nil))) pa_nil))))))
    (pss_cons (ps_set (i := 1) sc_law_kinds.nd rfl (Or.inl rfl) (pe_op oAdd (pv 1) (pe_lst (pa_cons (pe_callB (cIsV (K := K)) (by rfl) T.z_isinstance (by decide +kernel) (pa_cons (pv 0) (pa_cons (C8.pe_gc (v := .ref T.e_NodeThere.C) (by rfl) ⟨_, T.e_NodeThere.g, rfl⟩) pa_nil))) (pa_cons (pe_callB (cIsV (K := K)) (by rfl) T.z_isinstance (by decide +kernel) (pa_cons (pv 0) (pa_cons (C8.pe_gc (v := .ref T.e_NodeTied.C) (by rfl) ⟨_, T.e_NodeTied.g, rfl⟩) pa_nil))) (pa_cons (pe_callB (cIsV (K := K)) (by rfl) T.z_isinstance (by decide +kernel) (pa_cons (pv 0) (pa_cons (C8.pe_gc (v := .ref T.e_NotANode.C) (by rfl) ⟨_, T.e_NotANode.g, rfl⟩) pa_nil))) pa_nil))))))
    (pss_cons (ps_set (i := 1) sc_law_kinds.nd rfl (Or.inl rfl) (pe_op oAdd (pv 1) (pe_lst (pa_cons (pe_callB (cIsV (K := K)) (by rfl) T.z_isinstance (by decide +kernel) (pa_cons (pv 0) (pa_cons (C8.pe_gc (v := .ref T.e_NotATie.C) (by rfl) ⟨_, T.e_NotATie.g, rfl⟩) pa_nil))) (pa_cons (pe_callB (cIsV (K := K)) (by rfl) T.z_isinstance (by decide +kernel) (pa_cons (pv 0) (pa_cons (C8.pe_gc (v := .ref T.e_NotKept.C) (by rfl) ⟨_, T.e_NotKept.g, rfl⟩) pa_nil))) (pa_cons (pe_callB (cIsV (K := K)) (by rfl) T.z_isinstance (by decide +kernel) (pa_cons (pv 0) (pa_cons (C8.pe_gc (v := .ref T.e_NotOpen.C) (by rfl) ⟨_, T.e_NotOpen.g, rfl⟩) pa_nil))) pa_nil))))))
    (pss_cons (ps_set (i := 1) sc_law_kinds.nd rfl (Or.inl rfl) (pe_op oAdd (pv 1) (pe_lst (pa_cons (pe_callB (cIsV (K := K)) (by rfl) T.z_isinstance (by decide +kernel) (pa_cons (pv 0) (pa_cons (C8.pe_gc (v := .ref T.e_NotRemembered.C) (by rfl) ⟨_, T.e_NotRemembered.g, rfl⟩) pa_nil))) (pa_cons (pe_callB (cIsV (K := K)) (by rfl) T.z_isinstance (by decide +kernel) (pa_cons (pv 0) (pa_cons (C8.pe_gc (v := .ref T.e_NotSerial.C) (by rfl) ⟨_, T.e_NotSerial.g, rfl⟩) pa_nil))) (pa_cons (pe_callB (cIsV (K := K)) (by rfl) T.z_isinstance (by decide +kernel) (pa_cons (pv 0) (pa_cons (C8.pe_gc (v := .ref T.e_NotThere.C) (by rfl) ⟨_, T.e_NotThere.g, rfl⟩) pa_nil))) pa_nil))))))
    (pss_cons (ps_set (i := 1) sc_law_kinds.nd rfl (Or.inl rfl) (pe_op oAdd (pv 1) (pe_lst (pa_cons (pe_callB (cIsV (K := K)) (by rfl) T.z_isinstance (by decide +kernel) (pa_cons (pv 0) (pa_cons (C8.pe_gc (v := .ref T.e_NotWhole.C) (by rfl) ⟨_, T.e_NotWhole.g, rfl⟩) pa_nil))) (pa_cons (pe_callB (cIsV (K := K)) (by rfl) T.z_isinstance (by decide +kernel) (pa_cons (pv 0) (pa_cons (C8.pe_gc (v := .ref T.e_NothingWaits.C) (by rfl) ⟨_, T.e_NothingWaits.g, rfl⟩) pa_nil))) (pa_cons (pe_callB (cIsV (K := K)) (by rfl) T.z_isinstance (by decide +kernel) (pa_cons (pv 0) (pa_cons (C8.pe_gc (v := .ref T.e_Over.C) (by rfl) ⟨_, T.e_Over.g, rfl⟩) pa_nil))) pa_nil))))))
    (pss_cons (ps_set (i := 1) sc_law_kinds.nd rfl (Or.inl rfl) (pe_op oAdd (pv 1) (pe_lst (pa_cons (pe_callB (cIsV (K := K)) (by rfl) T.z_isinstance (by decide +kernel) (pa_cons (pv 0) (pa_cons (C8.pe_gc (v := .ref T.e_Refused.C) (by rfl) ⟨_, T.e_Refused.g, rfl⟩) pa_nil))) (pa_cons (pe_callB (cIsV (K := K)) (by rfl) T.z_isinstance (by decide +kernel) (pa_cons (pv 0) (pa_cons (C8.pe_gc (v := .ref T.e_Stopped.C) (by rfl) ⟨_, T.e_Stopped.g, rfl⟩) pa_nil))) (pa_cons (pe_callB (cIsV (K := K)) (by rfl) T.z_isinstance (by decide +kernel) (pa_cons (pv 0) (pa_cons (C8.pe_gc (v := .ref T.e_TieThere.C) (by rfl) ⟨_, T.e_TieThere.g, rfl⟩) pa_nil))) pa_nil))))))
    (pss_one (ps_ret (pe_op oAdd (pv 1) (pe_lst (pa_cons (pe_callB (cIsV (K := K)) (by rfl) T.z_isinstance (by decide +kernel) (pa_cons (pv 0) (pa_cons (C8.pe_gc (v := .ref T.e_TooLarge.C) (by rfl) ⟨_, T.e_TooLarge.g, rfl⟩) pa_nil))) (pa_cons (pe_callB (cIsV (K := K)) (by rfl) T.z_isinstance (by decide +kernel) (pa_cons (pv 0) (pa_cons (C8.pe_gc (v := .ref T.e_TooMany.C) (by rfl) ⟨_, T.e_TooMany.g, rfl⟩) pa_nil))) pa_nil))))))))))))))))))))))))), ?_⟩
    walk_at "go"
    refine is_err T (j := 0) (hE.same (Same.refl H)) rfl ?_
    walk_at "go"
    refine is_err T (j := 1) (hE.same (Same.refl H)) rfl ?_
    walk_at "go"
    refine is_err T (j := 2) (hE.same (Same.refl H)) rfl ?_
    walk_at "go"
    refine n_new (le_size (by simp)) fun f0 H0 n0 s0 g0 => ?_
    have t0 : Same H H0 := s0
    clear n0
    rw [show List.set (L2.start n_law_kinds [y]) 1 (some (V.ref f0)) = [some y, some (V.ref f0)] from rfl]
    walk_at "go"
    refine is_err T (j := 3) (hE.same t0) rfl ?_
    walk_at "go"
    refine is_err T (j := 4) (hE.same t0) rfl ?_
    walk_at "go"
    refine is_err T (j := 5) (hE.same t0) rfl ?_
    walk_at "go"
    refine n_new (le_size (by simp)) fun l1 G1 n1 s1 h1 => ?_
    walk_at "go"
    refine o_cat (at_ s1 g0) h1 (by simp) (n_new0 fun f1 H1 m1 r1 g1 => ?_)
    have t1 : Same H H1 := t0.trans (s1.trans r1)
    clear g0 h1 n1 m1 s1 r1
    rw [show [some y, some (V.ref f0)].set 1 (some (V.ref f1)) = [some y, some (V.ref f1)] from rfl]
    walk_at "go"
    refine is_err T (j := 6) (hE.same t1) rfl ?_
    walk_at "go"
    refine is_err T (j := 7) (hE.same t1) rfl ?_
    walk_at "go"
    refine is_err T (j := 8) (hE.same t1) rfl ?_
    walk_at "go"
    refine n_new (le_size (by simp)) fun l2 G2 n2 s2 h2 => ?_
    walk_at "go"
    refine o_cat (at_ s2 g1) h2 (by simp) (n_new0 fun f2 H2 m2 r2 g2 => ?_)
    have t2 : Same H H2 := t1.trans (s2.trans r2)
    clear g1 h2 n2 m2 s2 r2
    rw [show [some y, some (V.ref f1)].set 1 (some (V.ref f2)) = [some y, some (V.ref f2)] from rfl]
    walk_at "go"
    refine is_err T (j := 9) (hE.same t2) rfl ?_
    walk_at "go"
    refine is_err T (j := 10) (hE.same t2) rfl ?_
    walk_at "go"
    refine is_err T (j := 11) (hE.same t2) rfl ?_
    walk_at "go"
    refine n_new (le_size (by simp)) fun l3 G3 n3 s3 h3 => ?_
    walk_at "go"
    refine o_cat (at_ s3 g2) h3 (by simp) (n_new0 fun f3 H3 m3 r3 g3 => ?_)
    have t3 : Same H H3 := t2.trans (s3.trans r3)
    clear g2 h3 n3 m3 s3 r3
    rw [show [some y, some (V.ref f2)].set 1 (some (V.ref f3)) = [some y, some (V.ref f3)] from rfl]
    walk_at "go"
    refine is_err T (j := 12) (hE.same t3) rfl ?_
    walk_at "go"
    refine is_err T (j := 13) (hE.same t3) rfl ?_
    walk_at "go"
    refine is_err T (j := 14) (hE.same t3) rfl ?_
    walk_at "go"
    refine n_new (le_size (by simp)) fun l4 G4 n4 s4 h4 => ?_
    walk_at "go"
    refine o_cat (at_ s4 g3) h4 (by simp) (n_new0 fun f4 H4 m4 r4 g4 => ?_)
    have t4 : Same H H4 := t3.trans (s4.trans r4)
    clear g3 h4 n4 m4 s4 r4
    rw [show [some y, some (V.ref f3)].set 1 (some (V.ref f4)) = [some y, some (V.ref f4)] from rfl]
    walk_at "go"
    refine is_err T (j := 15) (hE.same t4) rfl ?_
    walk_at "go"
    refine is_err T (j := 16) (hE.same t4) rfl ?_
    walk_at "go"
    refine is_err T (j := 17) (hE.same t4) rfl ?_
    walk_at "go"
    refine n_new (le_size (by simp)) fun l5 G5 n5 s5 h5 => ?_
    walk_at "go"
    refine o_cat (at_ s5 g4) h5 (by simp) (n_new0 fun f5 H5 m5 r5 g5 => ?_)
    have t5 : Same H H5 := t4.trans (s5.trans r5)
    clear g4 h5 n5 m5 s5 r5
    rw [show [some y, some (V.ref f4)].set 1 (some (V.ref f5)) = [some y, some (V.ref f5)] from rfl]
    walk_at "go"
    refine is_err T (j := 18) (hE.same t5) rfl ?_
    walk_at "go"
    refine is_err T (j := 19) (hE.same t5) rfl ?_
    walk_at "go"
    refine is_err T (j := 20) (hE.same t5) rfl ?_
    walk_at "go"
    refine is_err T (j := 21) (hE.same t5) rfl ?_
    walk_at "go"
    refine n_new (le_size (by simp)) fun l6 G6 n6 s6 h6 => ?_
    walk_at "go"
    refine o_cat (at_ s6 g5) h6 (by simp) (n_new0 fun f6 H6 m6 r6 g6 => ?_)
    have t6 : Same H H6 := t5.trans (s6.trans r6)
    clear g5 h6 n6 m6 s6 r6
    rw [show [some y, some (V.ref f5)].set 1 (some (V.ref f6)) = [some y, some (V.ref f6)] from rfl]
    walk_at "go"
    refine is_err T (j := 22) (hE.same t6) rfl ?_
    walk_at "go"
    refine is_err T (j := 23) (hE.same t6) rfl ?_
    walk_at "go"
    refine is_err T (j := 24) (hE.same t6) rfl ?_
    walk_at "go"
    refine n_new (le_size (by simp)) fun l7 G7 n7 s7 h7 => ?_
    walk_at "go"
    refine o_cat (at_ s7 g6) h7 (by simp) (n_new0 fun f7 H7 m7 r7 g7 => ?_)
    have t7 : Same H H7 := t6.trans (s7.trans r7)
    clear g6 h7 n7 m7 s7 r7
    rw [show [some y, some (V.ref f6)].set 1 (some (V.ref f7)) = [some y, some (V.ref f7)] from rfl]
    walk_at "go"
    refine is_err T (j := 25) (hE.same t7) rfl ?_
    walk_at "go"
    refine is_err T (j := 26) (hE.same t7) rfl ?_
    walk_at "go"
    refine is_err T (j := 27) (hE.same t7) rfl ?_
    walk_at "go"
    refine n_new (le_size (by simp)) fun l8 G8 n8 s8 h8 => ?_
    walk_at "go"
    refine o_cat (at_ s8 g7) h8 (by simp) (n_new0 fun f8 H8 m8 r8 g8 => ?_)
    have t8 : Same H H8 := t7.trans (s8.trans r8)
    clear g7 h8 n8 m8 s8 r8
    rw [show [some y, some (V.ref f7)].set 1 (some (V.ref f8)) = [some y, some (V.ref f8)] from rfl]
    walk_at "go"
    refine is_err T (j := 28) (hE.same t8) rfl ?_
    walk_at "go"
    refine is_err T (j := 29) (hE.same t8) rfl ?_
    walk_at "go"
    refine is_err T (j := 30) (hE.same t8) rfl ?_
    walk_at "go"
    refine n_new (le_size (by simp)) fun l9 G9 n9 s9 h9 => ?_
    walk_at "go"
    refine o_cat (at_ s9 g8) h9 (by simp) (n_new0 fun f9 H9 m9 r9 g9 => ?_)
    have t9 : Same H H9 := t8.trans (s9.trans r9)
    clear g8 h9 n9 m9 s9 r9
    rw [show [some y, some (V.ref f8)].set 1 (some (V.ref f9)) = [some y, some (V.ref f9)] from rfl]
    walk_at "go"
    refine is_err T (j := 31) (hE.same t9) rfl ?_
    walk_at "go"
    refine is_err T (j := 32) (hE.same t9) rfl ?_
    walk_at "go"
    refine is_err T (j := 33) (hE.same t9) rfl ?_
    walk_at "go"
    refine n_new (le_size (by simp)) fun l10 G10 n10 s10 h10 => ?_
    walk_at "go"
    refine o_cat (at_ s10 g9) h10 (by simp) (n_new0 fun f10 H10 m10 r10 g10 => ?_)
    have t10 : Same H H10 := t9.trans (s10.trans r10)
    clear g9 h10 n10 m10 s10 r10
    rw [show [some y, some (V.ref f9)].set 1 (some (V.ref f10)) = [some y, some (V.ref f10)] from rfl]
    walk_at "go"
    refine is_err T (j := 34) (hE.same t10) rfl ?_
    walk_at "go"
    refine is_err T (j := 35) (hE.same t10) rfl ?_
    walk_at "go"
    refine is_err T (j := 36) (hE.same t10) rfl ?_
    walk_at "go"
    refine n_new (le_size (by simp)) fun l11 G11 n11 s11 h11 => ?_
    walk_at "go"
    refine o_cat (at_ s11 g10) h11 (by simp) (n_new0 fun f11 H11 m11 r11 g11 => ?_)
    have t11 : Same H H11 := t10.trans (s11.trans r11)
    clear g10 h11 n11 m11 s11 r11
    rw [show [some y, some (V.ref f10)].set 1 (some (V.ref f11)) = [some y, some (V.ref f11)] from rfl]
    walk_at "go"
    refine is_err T (j := 37) (hE.same t11) rfl ?_
    walk_at "go"
    refine is_err T (j := 38) (hE.same t11) rfl ?_
    walk_at "go"
    refine is_err T (j := 39) (hE.same t11) rfl ?_
    walk_at "go"
    refine n_new (le_size (by simp)) fun l12 G12 n12 s12 h12 => ?_
    walk_at "go"
    refine o_cat (at_ s12 g11) h12 (by simp) (n_new0 fun f12 H12 m12 r12 g12 => ?_)
    have t12 : Same H H12 := t11.trans (s12.trans r12)
    clear g11 h12 n12 m12 s12 r12
    rw [show [some y, some (V.ref f11)].set 1 (some (V.ref f12)) = [some y, some (V.ref f12)] from rfl]
    walk_at "go"
    refine is_err T (j := 40) (hE.same t12) rfl ?_
    walk_at "go"
    refine is_err T (j := 41) (hE.same t12) rfl ?_
    walk_at "go"
    refine is_err T (j := 42) (hE.same t12) rfl ?_
    walk_at "go"
    refine n_new (le_size (by simp)) fun l13 G13 n13 s13 h13 => ?_
    walk_at "go"
    refine o_cat (at_ s13 g12) h13 (by simp) (n_new0 fun f13 H13 m13 r13 g13 => ?_)
    have t13 : Same H H13 := t12.trans (s13.trans r13)
    clear g12 h13 n13 m13 s13 r13
    rw [show [some y, some (V.ref f12)].set 1 (some (V.ref f13)) = [some y, some (V.ref f13)] from rfl]
    walk_at "go"
    refine is_err T (j := 43) (hE.same t13) rfl ?_
    walk_at "go"
    refine is_err T (j := 44) (hE.same t13) rfl ?_
    walk_at "go"
    refine is_err T (j := 45) (hE.same t13) rfl ?_
    walk_at "go"
    refine n_new (le_size (by simp)) fun l14 G14 n14 s14 h14 => ?_
    walk_at "go"
    refine o_cat (at_ s14 g13) h14 (by simp) (n_new0 fun f14 H14 m14 r14 g14 => ?_)
    have t14 : Same H H14 := t13.trans (s14.trans r14)
    clear g13 h14 n14 m14 s14 r14
    rw [show [some y, some (V.ref f13)].set 1 (some (V.ref f14)) = [some y, some (V.ref f14)] from rfl]
    walk_at "go"
    refine is_err T (j := 46) (hE.same t14) rfl ?_
    walk_at "go"
    refine is_err T (j := 47) (hE.same t14) rfl ?_
    walk_at "go"
    refine is_err T (j := 48) (hE.same t14) rfl ?_
    walk_at "go"
    refine n_new (le_size (by simp)) fun l15 G15 n15 s15 h15 => ?_
    walk_at "go"
    refine o_cat (at_ s15 g14) h15 (by simp) (n_new0 fun f15 H15 m15 r15 g15 => ?_)
    have t15 : Same H H15 := t14.trans (s15.trans r15)
    clear g14 h15 n15 m15 s15 r15
    rw [show [some y, some (V.ref f14)].set 1 (some (V.ref f15)) = [some y, some (V.ref f15)] from rfl]
    walk_at "go"
    refine is_err T (j := 49) (hE.same t15) rfl ?_
    walk_at "go"
    refine is_err T (j := 50) (hE.same t15) rfl ?_
    walk_at "go"
    refine is_err T (j := 51) (hE.same t15) rfl ?_
    walk_at "go"
    refine n_new (le_size (by simp)) fun l16 G16 n16 s16 h16 => ?_
    walk_at "go"
    refine o_cat (at_ s16 g15) h16 (by simp) (n_new0 fun f16 H16 m16 r16 g16 => ?_)
    have t16 : Same H H16 := t15.trans (s16.trans r16)
    clear g15 h16 n16 m16 s16 r16
    rw [show [some y, some (V.ref f15)].set 1 (some (V.ref f16)) = [some y, some (V.ref f16)] from rfl]
    walk_at "go"
    refine is_err T (j := 52) (hE.same t16) rfl ?_
    walk_at "go"
    refine is_err T (j := 53) (hE.same t16) rfl ?_
    walk_at "go"
    refine is_err T (j := 54) (hE.same t16) rfl ?_
    walk_at "go"
    refine n_new (le_size (by simp)) fun l17 G17 n17 s17 h17 => ?_
    walk_at "go"
    refine o_cat (at_ s17 g16) h17 (by simp) (n_new0 fun f17 H17 m17 r17 g17 => ?_)
    have t17 : Same H H17 := t16.trans (s17.trans r17)
    clear g16 h17 n17 m17 s17 r17
    rw [show [some y, some (V.ref f16)].set 1 (some (V.ref f17)) = [some y, some (V.ref f17)] from rfl]
    walk_at "go"
    refine is_err T (j := 55) (hE.same t17) rfl ?_
    walk_at "go"
    refine is_err T (j := 56) (hE.same t17) rfl ?_
    walk_at "go"
    refine is_err T (j := 57) (hE.same t17) rfl ?_
    walk_at "go"
    refine n_new (le_size (by simp)) fun l18 G18 n18 s18 h18 => ?_
    walk_at "go"
    refine o_cat (at_ s18 g17) h18 (by simp) (n_new0 fun f18 H18 m18 r18 g18 => ?_)
    have t18 : Same H H18 := t17.trans (s18.trans r18)
    clear g17 h18 n18 m18 s18 r18
    rw [show [some y, some (V.ref f17)].set 1 (some (V.ref f18)) = [some y, some (V.ref f18)] from rfl]
    walk_at "go"
    refine is_err T (j := 58) (hE.same t18) rfl ?_
    walk_at "go"
    refine is_err T (j := 59) (hE.same t18) rfl ?_
    walk_at "go"
    refine n_new (le_size (by simp)) fun l19 G19 n19 s19 h19 => ?_
    walk_at "go"
    refine o_cat (at_ s19 g18) h19 (by simp) (n_new0 fun f19 H19 m19 r19 g19 => ?_)
    have t19 : Same H H19 := t18.trans (s19.trans r19)
    clear g18 h19 n19 m19 s19 r19
    exact k _ _ t19 g19
end



section
variable {P : Program} {w : World} {K : PySem.W.Frag} {mg : Str → Option Value} {base : Heap}
theorem errs_cons {L : List Addr} {H : Hp} {y : V} {ys : List V} {i : Nat} {is : List Nat} (h : ErrAt K L H y i) (g : ErrsAt K L H ys is) : ErrsAt K L H (y :: ys) (i :: is) := (errs_one h).app g
def sp_plain {mg : Str → Option Value} (T : Txt K mg) : Sp := fun vs H Q _ => vs = [] ∧ ∀ p ys H', Same H H' → H' p = some (.lst ys) → ErrsAt K (clsL T) H' ys idxP → Q (.ref p) H'
theorem ok_law_plain (T : Txt K mg) : FnOk P w K mg base CX0 3 T.law_plain.f T.law_plain.fd [] (sp_plain T) := by
  refine T.law_plain.F.ok sc_law_plain (fun vs H Q E h => ?_) (fun cdv A outer s H vs Q E hr h => ?_)
  · obtain ⟨rfl, _⟩ := h
    rfl
  · obtain ⟨rfl, k⟩ := h
    refine ⟨_, (pss_cons (ps_set (i := 0) sc_law_plain.nd rfl (Or.inl rfl) (pe_lst (pa_cons (pe_vkn T.e_Ended.o T.e_Ended.i T.e_Ended.t (ok_StoreError_init T.m_StoreError_init T.z_ValueError T.vV) (hr.mono (by decide)) T.m_StoreError_init.b pass0 (by rfl) T.e_Ended.g) (pa_cons (pe_vkn T.e_BadDisk.o T.e_BadDisk.i T.e_BadDisk.t (ok_StoreError_init T.m_StoreError_init T.z_ValueError T.vV) (hr.mono (by decide)) T.m_StoreError_init.b pass0 (by rfl) T.e_BadDisk.g) (pa_cons (pe_vkn T.e_NoBlock.o T.e_NoBlock.i T.e_NoBlock.t (ok_StoreError_init T.m_StoreError_init T.z_ValueError T.vV) (hr.mono (by decide)) T.m_StoreError_init.b pass0 (by rfl) T.e_NoBlock.g) (pa_cons (pe_vkn T.e_NoContent.o T.e_NoContent.i T.e_NoContent.t (ok_StoreError_init T.m_StoreError_init T.z_ValueError T.vV) (hr.mono (by decide)) T.m_StoreError_init.b pass0 (by rfl) T.e_NoContent.g) (pa_cons (pe_vkn T.e_NothingWaits.o T.e_NothingWaits.i T.e_NothingWaits.t (ok_StoreError_init T.m_StoreError_init T.z_ValueError T.vV) (hr.mono (by decide)) T.m_StoreError_init.b pass0 (by rfl) T.e_NothingWaits.g) (pa_cons (pe_vkn T.e_Stopped.o T.e_Stopped.i T.e_Stopped.t (ok_StoreError_init T.m_StoreError_init T.z_ValueError T.vV) (hr.mono (by decide)) T.m_StoreError_init.b pass0 (by rfl) T.e_Stopped.g) (pa_cons (pe_vkn T.e_NoRecord.o T.e_NoRecord.i T.e_NoRecord.t (ok_StoreError_init T.m_StoreError_init T.z_ValueError T.vV) (hr.mono (by decide)) T.m_StoreError_init.b pass0 (by rfl) T.e_NoRecord.g) pa_nil)))))))))
    (pss_cons (ps_set (i := 0) sc_law_plain.nd rfl (Or.inl rfl) (pe_op oAdd (pv 0) (pe_lst (pa_cons (pe_vkn T.e_LogFull.o T.e_LogFull.i T.e_LogFull.t (ok_StoreError_init T.m_StoreError_init T.z_ValueError T.vV) (hr.mono (by decide)) T.m_StoreError_init.b pass0 (by rfl) T.e_LogFull.g) (pa_cons (pe_vkn T.e_NoPage.o T.e_NoPage.i T.e_NoPage.t (ok_StoreError_init T.m_StoreError_init T.z_ValueError T.vV) (hr.mono (by decide)) T.m_StoreError_init.b pass0 (by rfl) T.e_NoPage.g) (pa_cons (pe_vkn T.e_NoItems.o T.e_NoItems.i T.e_NoItems.t (ok_StoreError_init T.m_StoreError_init T.z_ValueError T.vV) (hr.mono (by decide)) T.m_StoreError_init.b pass0 (by rfl) T.e_NoItems.g) (pa_cons (pe_vkn T.e_NoRoom.o T.e_NoRoom.i T.e_NoRoom.t (ok_StoreError_init T.m_StoreError_init T.z_ValueError T.vV) (hr.mono (by decide)) T.m_StoreError_init.b pass0 (by rfl) T.e_NoRoom.g) (pa_cons (pe_vkn T.e_NoNote.o T.e_NoNote.i T.e_NoNote.t (ok_StoreError_init T.m_StoreError_init T.z_ValueError T.vV) (hr.mono (by decide)) T.m_StoreError_init.b pass0 (by rfl) T.e_NoNote.g) (pa_cons (pe_vkn T.e_TooLarge.o T.e_TooLarge.i T.e_TooLarge.t (ok_StoreError_init T.m_StoreError_init T.z_ValueError T.vV) (hr.mono (by decide)) T.m_StoreError_init.b pass0 (by rfl) T.e_TooLarge.g) (pa_cons (pe_vkn T.e_Over.o T.e_Over.i T.e_Over.t (ok_StoreError_init T.m_StoreError_init T.z_ValueError T.vV) (hr.mono (by decide)) T.m_StoreError_init.b pass0 (by rfl) T.e_Over.g) (pa_cons (pe_vkn T.e_NoSpot.o T.e_NoSpot.i T.e_NoSpot.t (ok_StoreError_init T.m_StoreError_init T.z_ValueError T.vV) (hr.mono (by decide)) T.m_StoreError_init.b pass0 (by rfl) T.e_NoSpot.g) (pa_cons (pe_vkn T.e_NoMark.o T.e_NoMark.i T.e_NoMark.t (ok_StoreError_init T.m_StoreError_init T.z_ValueError T.vV) (hr.mono (by decide)) T.m_StoreError_init.b pass0 (by rfl) T.e_NoMark.g) pa_nil))))))))))))
    (pss_cons (ps_set (i := 0) sc_law_plain.nd rfl (Or.inl rfl) (pe_op oAdd (pv 0) (pe_lst (pa_cons (pe_vkn T.e_NotThere.o T.e_NotThere.i T.e_NotThere.t (ok_StoreError_init T.m_StoreError_init T.z_ValueError T.vV) (hr.mono (by decide)) T.m_StoreError_init.b pass0 (by rfl) T.e_NotThere.g) (pa_cons (pe_vkn T.e_NoCommit.o T.e_NoCommit.i T.e_NoCommit.t (ok_StoreError_init T.m_StoreError_init T.z_ValueError T.vV) (hr.mono (by decide)) T.m_StoreError_init.b pass0 (by rfl) T.e_NoCommit.g) (pa_cons (pe_vkn T.e_NoChanges.o T.e_NoChanges.i T.e_NoChanges.t (ok_StoreError_init T.m_StoreError_init T.z_ValueError T.vV) (hr.mono (by decide)) T.m_StoreError_init.b pass0 (by rfl) T.e_NoChanges.g) (pa_cons (pe_vkn T.e_NoSnapshot.o T.e_NoSnapshot.i T.e_NoSnapshot.t (ok_StoreError_init T.m_StoreError_init T.z_ValueError T.vV) (hr.mono (by decide)) T.m_StoreError_init.b pass0 (by rfl) T.e_NoSnapshot.g) (pa_cons (pe_vkn T.e_NoKey.o T.e_NoKey.i T.e_NoKey.t (ok_StoreError_init T.m_StoreError_init T.z_ValueError T.vV) (hr.mono (by decide)) T.m_StoreError_init.b pass0 (by rfl) T.e_NoKey.g) (pa_cons (pe_vkn T.e_NoWorth.o T.e_NoWorth.i T.e_NoWorth.t (ok_StoreError_init T.m_StoreError_init T.z_ValueError T.vV) (hr.mono (by decide)) T.m_StoreError_init.b pass0 (by rfl) T.e_NoWorth.g) (pa_cons (pe_vkn T.e_NoNumber.o T.e_NoNumber.i T.e_NoNumber.t (ok_StoreError_init T.m_StoreError_init T.z_ValueError T.vV) (hr.mono (by decide)) T.m_StoreError_init.b pass0 (by rfl) T.e_NoNumber.g) pa_nil))))))))))
    (pss_cons (ps_set (i := 0) sc_law_plain.nd rfl (Or.inl rfl) (pe_op oAdd (pv 0) (pe_lst (pa_cons (pe_vkn T.e_NotOpen.o T.e_NotOpen.i T.e_NotOpen.t (ok_StoreError_init T.m_StoreError_init T.z_ValueError T.vV) (hr.mono (by decide)) T.m_StoreError_init.b pass0 (by rfl) T.e_NotOpen.g) (pa_cons (pe_vkn T.e_BadSeen.o T.e_BadSeen.i T.e_BadSeen.t (ok_StoreError_init T.m_StoreError_init T.z_ValueError T.vV) (hr.mono (by decide)) T.m_StoreError_init.b pass0 (by rfl) T.e_BadSeen.g) (pa_cons (pe_vkn T.e_BadWrites.o T.e_BadWrites.i T.e_BadWrites.t (ok_StoreError_init T.m_StoreError_init T.z_ValueError T.vV) (hr.mono (by decide)) T.m_StoreError_init.b pass0 (by rfl) T.e_BadWrites.g) (pa_cons (pe_vkn T.e_NotRemembered.o T.e_NotRemembered.i T.e_NotRemembered.t (ok_StoreError_init T.m_StoreError_init T.z_ValueError T.vV) (hr.mono (by decide)) T.m_StoreError_init.b pass0 (by rfl) T.e_NotRemembered.g) (pa_cons (pe_vkn T.e_NoIndex.o T.e_NoIndex.i T.e_NoIndex.t (ok_StoreError_init T.m_StoreError_init T.z_ValueError T.vV) (hr.mono (by decide)) T.m_StoreError_init.b pass0 (by rfl) T.e_NoIndex.g) (pa_cons (pe_vkn T.e_NoOrder.o T.e_NoOrder.i T.e_NoOrder.t (ok_StoreError_init T.m_StoreError_init T.z_ValueError T.vV) (hr.mono (by decide)) T.m_StoreError_init.b pass0 (by rfl) T.e_NoOrder.g) (pa_cons (pe_vkn T.e_NotSerial.o T.e_NotSerial.i T.e_NotSerial.t (ok_StoreError_init T.m_StoreError_init T.z_ValueError T.vV) (hr.mono (by decide)) T.m_StoreError_init.b pass0 (by rfl) T.e_NotSerial.g) pa_nil))))))))))
    (pss_cons (ps_set (i := 0) sc_law_plain.nd rfl (Or.inl rfl) (pe_op oAdd (pv 0) (pe_lst (pa_cons (pe_vkn T.e_NoSnapshots.o T.e_NoSnapshots.i T.e_NoSnapshots.t (ok_StoreError_init T.m_StoreError_init T.z_ValueError T.vV) (hr.mono (by decide)) T.m_StoreError_init.b pass0 (by rfl) T.e_NoSnapshots.g) (pa_cons (pe_vkn T.e_NoVersion.o T.e_NoVersion.i T.e_NoVersion.t (ok_StoreError_init T.m_StoreError_init T.z_ValueError T.vV) (hr.mono (by decide)) T.m_StoreError_init.b pass0 (by rfl) T.e_NoVersion.g) (pa_cons (pe_vkn T.e_NoLine.o T.e_NoLine.i T.e_NoLine.t (ok_StoreError_init T.m_StoreError_init T.z_ValueError T.vV) (hr.mono (by decide)) T.m_StoreError_init.b pass0 (by rfl) T.e_NoLine.g) (pa_cons (pe_vkn T.e_InUse.o T.e_InUse.i T.e_InUse.t (ok_StoreError_init T.m_StoreError_init T.z_ValueError T.vV) (hr.mono (by decide)) T.m_StoreError_init.b pass0 (by rfl) T.e_InUse.g) (pa_cons (pe_vkn T.e_NoLines.o T.e_NoLines.i T.e_NoLines.t (ok_StoreError_init T.m_StoreError_init T.z_ValueError T.vV) (hr.mono (by decide)) T.m_StoreError_init.b pass0 (by rfl) T.e_NoLines.g) (pa_cons (pe_vkn T.e_NotWhole.o T.e_NotWhole.i T.e_NotWhole.t (ok_StoreError_init T.m_StoreError_init T.z_ValueError T.vV) (hr.mono (by decide)) T.m_StoreError_init.b pass0 (by rfl) T.e_NotWhole.g) (pa_cons (pe_vkn T.e_NoNode.o T.e_NoNode.i T.e_NoNode.t (ok_StoreError_init T.m_StoreError_init T.z_ValueError T.vV) (hr.mono (by decide)) T.m_StoreError_init.b pass0 (by rfl) T.e_NoNode.g) pa_nil))))))))))
    (pss_cons (ps_set (i := 0) sc_law_plain.nd rfl (Or.inl rfl) (pe_op oAdd (pv 0) (pe_lst (pa_cons (pe_vkn T.e_NodeThere.o T.e_NodeThere.i T.e_NodeThere.t (ok_StoreError_init T.m_StoreError_init T.z_ValueError T.vV) (hr.mono (by decide)) T.m_StoreError_init.b pass0 (by rfl) T.e_NodeThere.g) (pa_cons (pe_vkn T.e_NodeTied.o T.e_NodeTied.i T.e_NodeTied.t (ok_StoreError_init T.m_StoreError_init T.z_ValueError T.vV) (hr.mono (by decide)) T.m_StoreError_init.b pass0 (by rfl) T.e_NodeTied.g) (pa_cons (pe_vkn T.e_NoTieWord.o T.e_NoTieWord.i T.e_NoTieWord.t (ok_StoreError_init T.m_StoreError_init T.z_ValueError T.vV) (hr.mono (by decide)) T.m_StoreError_init.b pass0 (by rfl) T.e_NoTieWord.g) (pa_cons (pe_vkn T.e_NoWeight.o T.e_NoWeight.i T.e_NoWeight.t (ok_StoreError_init T.m_StoreError_init T.z_ValueError T.vV) (hr.mono (by decide)) T.m_StoreError_init.b pass0 (by rfl) T.e_NoWeight.g) (pa_cons (pe_vkn T.e_TieThere.o T.e_TieThere.i T.e_TieThere.t (ok_StoreError_init T.m_StoreError_init T.z_ValueError T.vV) (hr.mono (by decide)) T.m_StoreError_init.b pass0 (by rfl) T.e_TieThere.g) (pa_cons (pe_vkn T.e_NotATie.o T.e_NotATie.i T.e_NotATie.t (ok_StoreError_init T.m_StoreError_init T.z_ValueError T.vV) (hr.mono (by decide)) T.m_StoreError_init.b pass0 (by rfl) T.e_NotATie.g) (pa_cons (pe_vkn T.e_NoPlan.o T.e_NoPlan.i T.e_NoPlan.t (ok_StoreError_init T.m_StoreError_init T.z_ValueError T.vV) (hr.mono (by decide)) T.m_StoreError_init.b pass0 (by rfl) T.e_NoPlan.g) pa_nil))))))))))
    (pss_one (ps_ret (pe_op oAdd (pv 0) (pe_lst (pa_cons (pe_vkn T.e_NoPath.o T.e_NoPath.i T.e_NoPath.t (ok_StoreError_init T.m_StoreError_init T.z_ValueError T.vV) (hr.mono (by decide)) T.m_StoreError_init.b pass0 (by rfl) T.e_NoPath.g) (pa_cons (pe_vkn T.e_NoExpression.o T.e_NoExpression.i T.e_NoExpression.t (ok_StoreError_init T.m_StoreError_init T.z_ValueError T.vV) (hr.mono (by decide)) T.m_StoreError_init.b pass0 (by rfl) T.e_NoExpression.g) (pa_cons (pe_vkn T.e_NoPlace.o T.e_NoPlace.i T.e_NoPlace.t (ok_StoreError_init T.m_StoreError_init T.z_ValueError T.vV) (hr.mono (by decide)) T.m_StoreError_init.b pass0 (by rfl) T.e_NoPlace.g) (pa_cons (pe_vkn T.e_NoQuestion.o T.e_NoQuestion.i T.e_NoQuestion.t (ok_StoreError_init T.m_StoreError_init T.z_ValueError T.vV) (hr.mono (by decide)) T.m_StoreError_init.b pass0 (by rfl) T.e_NoQuestion.g) (pa_cons (pe_vkn T.e_NoDeed.o T.e_NoDeed.i T.e_NoDeed.t (ok_StoreError_init T.m_StoreError_init T.z_ValueError T.vV) (hr.mono (by decide)) T.m_StoreError_init.b pass0 (by rfl) T.e_NoDeed.g) (pa_cons (pe_vkn T.e_NotKept.o T.e_NotKept.i T.e_NotKept.t (ok_StoreError_init T.m_StoreError_init T.z_ValueError T.vV) (hr.mono (by decide)) T.m_StoreError_init.b pass0 (by rfl) T.e_NotKept.g) pa_nil)))))))))))))))), ?_⟩
    walk_at "go"
    refine e_vkn T.e_Ended.o fun a0 X0 z0 s0 h0 => ?_
    clear z0
    walk_at "go"
    refine e_vkn T.e_BadDisk.o fun a1 X1 z1 s1 h1 => ?_
    clear z1
    walk_at "go"
    refine e_vkn T.e_NoBlock.o fun a2 X2 z2 s2 h2 => ?_
    clear z2
    walk_at "go"
    refine e_vkn T.e_NoContent.o fun a3 X3 z3 s3 h3 => ?_
    clear z3
    walk_at "go"
    refine e_vkn T.e_NothingWaits.o fun a4 X4 z4 s4 h4 => ?_
    clear z4
    walk_at "go"
    refine e_vkn T.e_Stopped.o fun a5 X5 z5 s5 h5 => ?_
    clear z5
    walk_at "go"
    refine e_vkn T.e_NoRecord.o fun a6 X6 z6 s6 h6 => ?_
    clear z6
    walk_at "go"
    refine n_new (le_size (by simp)) fun l G n s h => ?_
    clear n
    have u6 := s
    have u5 := s6.trans u6
    have u4 := s5.trans u5
    have u3 := s4.trans u4
    have u2 := s3.trans u3
    have u1 := s2.trans u2
    have u0 := s1.trans u1
    have EG := errs_cons (K := K) (errN (K := K) (i := 7) (L := clsL T) rfl (at_ u0 h0)) (errs_cons (K := K) (errN (K := K) (i := 1) (L := clsL T) rfl (at_ u1 h1)) (errs_cons (K := K) (errN (K := K) (i := 10) (L := clsL T) rfl (at_ u2 h2)) (errs_cons (K := K) (errN (K := K) (i := 13) (L := clsL T) rfl (at_ u3 h3)) (errs_cons (K := K) (errN (K := K) (i := 53) (L := clsL T) rfl (at_ u4 h4)) (errs_cons (K := K) (errN (K := K) (i := 56) (L := clsL T) rfl (at_ u5 h5)) (errs_cons (K := K) (errN (K := K) (i := 33) (L := clsL T) rfl (at_ u6 h6)) (errs_nil (K := K))))))))
    have ug := s0.trans u0
    clear h0 u0 h1 u1 h2 u2 h3 u3 h4 u4 h5 u5 h6 u6
    clear s s0 s1 s2 s3 s4 s5 s6
    have tt := ug
    have E := EG
    have fl := h
    clear ug EG h
    walk_at "go"
    refine e_vkn T.e_LogFull.o fun a0 X0 z0 s0 h0 => ?_
    clear z0
    walk_at "go"
    refine e_vkn T.e_NoPage.o fun a1 X1 z1 s1 h1 => ?_
    clear z1
    walk_at "go"
    refine e_vkn T.e_NoItems.o fun a2 X2 z2 s2 h2 => ?_
    clear z2
    walk_at "go"
    refine e_vkn T.e_NoRoom.o fun a3 X3 z3 s3 h3 => ?_
    clear z3
    walk_at "go"
    refine e_vkn T.e_NoNote.o fun a4 X4 z4 s4 h4 => ?_
    clear z4
    walk_at "go"
    refine e_vkn T.e_TooLarge.o fun a5 X5 z5 s5 h5 => ?_
    clear z5
    walk_at "go"
    refine e_vkn T.e_Over.o fun a6 X6 z6 s6 h6 => ?_
    clear z6
    walk_at "go"
    refine e_vkn T.e_NoSpot.o fun a7 X7 z7 s7 h7 => ?_
    clear z7
    walk_at "go"
    refine e_vkn T.e_NoMark.o fun a8 X8 z8 s8 h8 => ?_
    clear z8
    walk_at "go"
    refine n_new (le_size (by simp)) fun l G n s h => ?_
    clear n
    have u8 := s
    have u7 := s8.trans u8
    have u6 := s7.trans u7
    have u5 := s6.trans u6
    have u4 := s5.trans u5
    have u3 := s4.trans u4
    have u2 := s3.trans u3
    have u1 := s2.trans u2
    have u0 := s1.trans u1
    have EG := errs_cons (K := K) (errN (K := K) (i := 9) (L := clsL T) rfl (at_ u0 h0)) (errs_cons (K := K) (errN (K := K) (i := 27) (L := clsL T) rfl (at_ u1 h1)) (errs_cons (K := K) (errN (K := K) (i := 17) (L := clsL T) rfl (at_ u2 h2)) (errs_cons (K := K) (errN (K := K) (i := 34) (L := clsL T) rfl (at_ u3 h3)) (errs_cons (K := K) (errN (K := K) (i := 24) (L := clsL T) rfl (at_ u4 h4)) (errs_cons (K := K) (errN (K := K) (i := 58) (L := clsL T) rfl (at_ u5 h5)) (errs_cons (K := K) (errN (K := K) (i := 54) (L := clsL T) rfl (at_ u6 h6)) (errs_cons (K := K) (errN (K := K) (i := 37) (L := clsL T) rfl (at_ u7 h7)) (errs_cons (K := K) (errN (K := K) (i := 21) (L := clsL T) rfl (at_ u8 h8)) (errs_nil (K := K))))))))))
    have ug := s0.trans u0
    clear h0 u0 h1 u1 h2 u2 h3 u3 h4 u4 h5 u5 h6 u6 h7 u7 h8 u8
    clear s s0 s1 s2 s3 s4 s5 s6 s7 s8
    walk_at "go"
    refine o_cat (at_ ug fl) h (by simp) (n_new0 fun f2 H2 n2 s2 fl2 => ?_)
    have E2 := ((E.same ug).app EG).same s2
    have tt2 := tt.trans (ug.trans s2)
    clear n2 h fl E EG tt ug s2
    have E := E2
    have tt := tt2
    have fl := fl2
    clear E2 tt2 fl2
    walk_at "go"
    refine e_vkn T.e_NotThere.o fun a0 X0 z0 s0 h0 => ?_
    clear z0
    walk_at "go"
    refine e_vkn T.e_NoCommit.o fun a1 X1 z1 s1 h1 => ?_
    clear z1
    walk_at "go"
    refine e_vkn T.e_NoChanges.o fun a2 X2 z2 s2 h2 => ?_
    clear z2
    walk_at "go"
    refine e_vkn T.e_NoSnapshot.o fun a3 X3 z3 s3 h3 => ?_
    clear z3
    walk_at "go"
    refine e_vkn T.e_NoKey.o fun a4 X4 z4 s4 h4 => ?_
    clear z4
    walk_at "go"
    refine e_vkn T.e_NoWorth.o fun a5 X5 z5 s5 h5 => ?_
    clear z5
    walk_at "go"
    refine e_vkn T.e_NoNumber.o fun a6 X6 z6 s6 h6 => ?_
    clear z6
    walk_at "go"
    refine n_new (le_size (by simp)) fun l G n s h => ?_
    clear n
    have u6 := s
    have u5 := s6.trans u6
    have u4 := s5.trans u5
    have u3 := s4.trans u4
    have u2 := s3.trans u3
    have u1 := s2.trans u2
    have u0 := s1.trans u1
    have EG := errs_cons (K := K) (errN (K := K) (i := 51) (L := clsL T) rfl (at_ u0 h0)) (errs_cons (K := K) (errN (K := K) (i := 12) (L := clsL T) rfl (at_ u1 h1)) (errs_cons (K := K) (errN (K := K) (i := 11) (L := clsL T) rfl (at_ u2 h2)) (errs_cons (K := K) (errN (K := K) (i := 35) (L := clsL T) rfl (at_ u3 h3)) (errs_cons (K := K) (errN (K := K) (i := 18) (L := clsL T) rfl (at_ u4 h4)) (errs_cons (K := K) (errN (K := K) (i := 42) (L := clsL T) rfl (at_ u5 h5)) (errs_cons (K := K) (errN (K := K) (i := 25) (L := clsL T) rfl (at_ u6 h6)) (errs_nil (K := K))))))))
    have ug := s0.trans u0
    clear h0 u0 h1 u1 h2 u2 h3 u3 h4 u4 h5 u5 h6 u6
    clear s s0 s1 s2 s3 s4 s5 s6
    walk_at "go"
    refine o_cat (at_ ug fl) h (by simp) (n_new0 fun f2 H2 n2 s2 fl2 => ?_)
    have E2 := ((E.same ug).app EG).same s2
    have tt2 := tt.trans (ug.trans s2)
    clear n2 h fl E EG tt ug s2
    have E := E2
    have tt := tt2
    have fl := fl2
    clear E2 tt2 fl2
    walk_at "go"
    refine e_vkn T.e_NotOpen.o fun a0 X0 z0 s0 h0 => ?_
    clear z0
    walk_at "go"
    refine e_vkn T.e_BadSeen.o fun a1 X1 z1 s1 h1 => ?_
    clear z1
    walk_at "go"
    refine e_vkn T.e_BadWrites.o fun a2 X2 z2 s2 h2 => ?_
    clear z2
    walk_at "go"
    refine e_vkn T.e_NotRemembered.o fun a3 X3 z3 s3 h3 => ?_
    clear z3
    walk_at "go"
    refine e_vkn T.e_NoIndex.o fun a4 X4 z4 s4 h4 => ?_
    clear z4
    walk_at "go"
    refine e_vkn T.e_NoOrder.o fun a5 X5 z5 s5 h5 => ?_
    clear z5
    walk_at "go"
    refine e_vkn T.e_NotSerial.o fun a6 X6 z6 s6 h6 => ?_
    clear z6
    walk_at "go"
    refine n_new (le_size (by simp)) fun l G n s h => ?_
    clear n
    have u6 := s
    have u5 := s6.trans u6
    have u4 := s5.trans u5
    have u3 := s4.trans u4
    have u2 := s3.trans u3
    have u1 := s2.trans u2
    have u0 := s1.trans u1
    have EG := errs_cons (K := K) (errN (K := K) (i := 48) (L := clsL T) rfl (at_ u0 h0)) (errs_cons (K := K) (errN (K := K) (i := 4) (L := clsL T) rfl (at_ u1 h1)) (errs_cons (K := K) (errN (K := K) (i := 6) (L := clsL T) rfl (at_ u2 h2)) (errs_cons (K := K) (errN (K := K) (i := 49) (L := clsL T) rfl (at_ u3 h3)) (errs_cons (K := K) (errN (K := K) (i := 16) (L := clsL T) rfl (at_ u4 h4)) (errs_cons (K := K) (errN (K := K) (i := 26) (L := clsL T) rfl (at_ u5 h5)) (errs_cons (K := K) (errN (K := K) (i := 50) (L := clsL T) rfl (at_ u6 h6)) (errs_nil (K := K))))))))
    have ug := s0.trans u0
    clear h0 u0 h1 u1 h2 u2 h3 u3 h4 u4 h5 u5 h6 u6
    clear s s0 s1 s2 s3 s4 s5 s6
    walk_at "go"
    refine o_cat (at_ ug fl) h (by simp) (n_new0 fun f2 H2 n2 s2 fl2 => ?_)
    have E2 := ((E.same ug).app EG).same s2
    have tt2 := tt.trans (ug.trans s2)
    clear n2 h fl E EG tt ug s2
    have E := E2
    have tt := tt2
    have fl := fl2
    clear E2 tt2 fl2
    walk_at "go"
    refine e_vkn T.e_NoSnapshots.o fun a0 X0 z0 s0 h0 => ?_
    clear z0
    walk_at "go"
    refine e_vkn T.e_NoVersion.o fun a1 X1 z1 s1 h1 => ?_
    clear z1
    walk_at "go"
    refine e_vkn T.e_NoLine.o fun a2 X2 z2 s2 h2 => ?_
    clear z2
    walk_at "go"
    refine e_vkn T.e_InUse.o fun a3 X3 z3 s3 h3 => ?_
    clear z3
    walk_at "go"
    refine e_vkn T.e_NoLines.o fun a4 X4 z4 s4 h4 => ?_
    clear z4
    walk_at "go"
    refine e_vkn T.e_NotWhole.o fun a5 X5 z5 s5 h5 => ?_
    clear z5
    walk_at "go"
    refine e_vkn T.e_NoNode.o fun a6 X6 z6 s6 h6 => ?_
    clear z6
    walk_at "go"
    refine n_new (le_size (by simp)) fun l G n s h => ?_
    clear n
    have u6 := s
    have u5 := s6.trans u6
    have u4 := s5.trans u5
    have u3 := s4.trans u4
    have u2 := s3.trans u3
    have u1 := s2.trans u2
    have u0 := s1.trans u1
    have EG := errs_cons (K := K) (errN (K := K) (i := 36) (L := clsL T) rfl (at_ u0 h0)) (errs_cons (K := K) (errN (K := K) (i := 39) (L := clsL T) rfl (at_ u1 h1)) (errs_cons (K := K) (errN (K := K) (i := 19) (L := clsL T) rfl (at_ u2 h2)) (errs_cons (K := K) (errN (K := K) (i := 8) (L := clsL T) rfl (at_ u3 h3)) (errs_cons (K := K) (errN (K := K) (i := 20) (L := clsL T) rfl (at_ u4 h4)) (errs_cons (K := K) (errN (K := K) (i := 52) (L := clsL T) rfl (at_ u5 h5)) (errs_cons (K := K) (errN (K := K) (i := 23) (L := clsL T) rfl (at_ u6 h6)) (errs_nil (K := K))))))))
    have ug := s0.trans u0
    clear h0 u0 h1 u1 h2 u2 h3 u3 h4 u4 h5 u5 h6 u6
    clear s s0 s1 s2 s3 s4 s5 s6
    walk_at "go"
    refine o_cat (at_ ug fl) h (by simp) (n_new0 fun f2 H2 n2 s2 fl2 => ?_)
    have E2 := ((E.same ug).app EG).same s2
    have tt2 := tt.trans (ug.trans s2)
    clear n2 h fl E EG tt ug s2
    have E := E2
    have tt := tt2
    have fl := fl2
    clear E2 tt2 fl2
    walk_at "go"
    refine e_vkn T.e_NodeThere.o fun a0 X0 z0 s0 h0 => ?_
    clear z0
    walk_at "go"
    refine e_vkn T.e_NodeTied.o fun a1 X1 z1 s1 h1 => ?_
    clear z1
    walk_at "go"
    refine e_vkn T.e_NoTieWord.o fun a2 X2 z2 s2 h2 => ?_
    clear z2
    walk_at "go"
    refine e_vkn T.e_NoWeight.o fun a3 X3 z3 s3 h3 => ?_
    clear z3
    walk_at "go"
    refine e_vkn T.e_TieThere.o fun a4 X4 z4 s4 h4 => ?_
    clear z4
    walk_at "go"
    refine e_vkn T.e_NotATie.o fun a5 X5 z5 s5 h5 => ?_
    clear z5
    walk_at "go"
    refine e_vkn T.e_NoPlan.o fun a6 X6 z6 s6 h6 => ?_
    clear z6
    walk_at "go"
    refine n_new (le_size (by simp)) fun l G n s h => ?_
    clear n
    have u6 := s
    have u5 := s6.trans u6
    have u4 := s5.trans u5
    have u3 := s4.trans u4
    have u2 := s3.trans u3
    have u1 := s2.trans u2
    have u0 := s1.trans u1
    have EG := errs_cons (K := K) (errN (K := K) (i := 43) (L := clsL T) rfl (at_ u0 h0)) (errs_cons (K := K) (errN (K := K) (i := 44) (L := clsL T) rfl (at_ u1 h1)) (errs_cons (K := K) (errN (K := K) (i := 38) (L := clsL T) rfl (at_ u2 h2)) (errs_cons (K := K) (errN (K := K) (i := 41) (L := clsL T) rfl (at_ u3 h3)) (errs_cons (K := K) (errN (K := K) (i := 57) (L := clsL T) rfl (at_ u4 h4)) (errs_cons (K := K) (errN (K := K) (i := 46) (L := clsL T) rfl (at_ u5 h5)) (errs_cons (K := K) (errN (K := K) (i := 30) (L := clsL T) rfl (at_ u6 h6)) (errs_nil (K := K))))))))
    have ug := s0.trans u0
    clear h0 u0 h1 u1 h2 u2 h3 u3 h4 u4 h5 u5 h6 u6
    clear s s0 s1 s2 s3 s4 s5 s6
    walk_at "go"
    refine o_cat (at_ ug fl) h (by simp) (n_new0 fun f2 H2 n2 s2 fl2 => ?_)
    have E2 := ((E.same ug).app EG).same s2
    have tt2 := tt.trans (ug.trans s2)
    clear n2 h fl E EG tt ug s2
    have E := E2
    have tt := tt2
    have fl := fl2
    clear E2 tt2 fl2
    walk_at "go"
    refine e_vkn T.e_NoPath.o fun a0 X0 z0 s0 h0 => ?_
    clear z0
    walk_at "go"
    refine e_vkn T.e_NoExpression.o fun a1 X1 z1 s1 h1 => ?_
    clear z1
    walk_at "go"
    refine e_vkn T.e_NoPlace.o fun a2 X2 z2 s2 h2 => ?_
    clear z2
    walk_at "go"
    refine e_vkn T.e_NoQuestion.o fun a3 X3 z3 s3 h3 => ?_
    clear z3
    walk_at "go"
    refine e_vkn T.e_NoDeed.o fun a4 X4 z4 s4 h4 => ?_
    clear z4
    walk_at "go"
    refine e_vkn T.e_NotKept.o fun a5 X5 z5 s5 h5 => ?_
    clear z5
    walk_at "go"
    refine n_new (le_size (by simp)) fun l G n s h => ?_
    clear n
    have u5 := s
    have u4 := s5.trans u5
    have u3 := s4.trans u4
    have u2 := s3.trans u3
    have u1 := s2.trans u2
    have u0 := s1.trans u1
    have EG := errs_cons (K := K) (errN (K := K) (i := 28) (L := clsL T) rfl (at_ u0 h0)) (errs_cons (K := K) (errN (K := K) (i := 15) (L := clsL T) rfl (at_ u1 h1)) (errs_cons (K := K) (errN (K := K) (i := 29) (L := clsL T) rfl (at_ u2 h2)) (errs_cons (K := K) (errN (K := K) (i := 32) (L := clsL T) rfl (at_ u3 h3)) (errs_cons (K := K) (errN (K := K) (i := 14) (L := clsL T) rfl (at_ u4 h4)) (errs_cons (K := K) (errN (K := K) (i := 47) (L := clsL T) rfl (at_ u5 h5)) (errs_nil (K := K)))))))
    have ug := s0.trans u0
    clear h0 u0 h1 u1 h2 u2 h3 u3 h4 u4 h5 u5
    clear s s0 s1 s2 s3 s4 s5
    walk_at "go"
    refine o_cat (at_ ug fl) h (by simp) (n_new0 fun f2 H2 n2 s2 fl2 => ?_)
    have E2 := ((E.same ug).app EG).same s2
    have tt2 := tt.trans (ug.trans s2)
    clear n2 h fl E EG tt ug s2
    have E := E2
    have tt := tt2
    have fl := fl2
    clear E2 tt2 fl2
    exact k _ _ _ tt fl E
end



section
variable {P : Program} {w : World} {K : PySem.W.Frag} {mg : Str → Option Value} {base : Heap}
def idxA : List Nat := idxF ++ idxP
theorem idxA_lt : ∀ j ∈ idxA, j < 60 := by decide +kernel
theorem idxA_nd : idxA.Nodup := by decide +kernel
theorem idxI_nd : (idxA.map fun j : Nat => (j : Int)).Nodup := by decide +kernel
theorem idxI_len : (idxA.map fun j : Nat => (j : Int)).length = 60 := by rw [List.length_map]; decide +kernel
theorem idxA_len : idxA.length = 60 := by decide +kernel
def kindsB (i : Nat) : List Bool := ((((((((((((((((((([decide (i = 0), decide (i = 1), decide (i = 2)] ++ [decide (i = 3), decide (i = 4), decide (i = 5)]) ++ [decide (i = 6), decide (i = 7), decide (i = 8)]) ++ [decide (i = 9), decide (i = 10), decide (i = 11)]) ++ [decide (i = 12), decide (i = 13), decide (i = 14)]) ++ [decide (i = 15), decide (i = 16), decide (i = 17)]) ++ [decide (i = 18), decide (i = 19), decide (i = 20), decide (i = 21)]) ++ [decide (i = 22), decide (i = 23), decide (i = 24)]) ++ [decide (i = 25), decide (i = 26), decide (i = 27)]) ++ [decide (i = 28), decide (i = 29), decide (i = 30)]) ++ [decide (i = 31), decide (i = 32), decide (i = 33)]) ++ [decide (i = 34), decide (i = 35), decide (i = 36)]) ++ [decide (i = 37), decide (i = 38), decide (i = 39)]) ++ [decide (i = 40), decide (i = 41), decide (i = 42)]) ++ [decide (i = 43), decide (i = 44), decide (i = 45)]) ++ [decide (i = 46), decide (i = 47), decide (i = 48)]) ++ [decide (i = 49), decide (i = 50), decide (i = 51)]) ++ [decide (i = 52), decide (i = 53), decide (i = 54)]) ++ [decide (i = 55), decide (i = 56), decide (i = 57)]) ++ [decide (i = 58), decide (i = 59)])
theorem kinds_map {i : Nat} : kindsL i = (kindsB i).map V.bl := by
  unfold kindsL kindsB
  simp only [List.map_append, List.map_cons, List.map_nil]
theorem kb_ok : ((List.range 60).all fun i => ((kindsB i).countP id == 1) && (((kindsB i)[i]? == some true) && (List.range i).all fun m => (kindsB i)[m]? == some false)) = true := by decide +kernel
theorem kb_at {i : Nat} (h : i < 60) : (kindsB i).countP id = 1 ∧ (kindsB i)[i]? = some true ∧ ∀ m, m < i → (kindsB i)[m]? = some false := by
  have q := List.all_eq_true.mp kb_ok i (List.mem_range.mpr h)
  rw [Bool.and_eq_true, Bool.and_eq_true] at q
  exact ⟨eq_of_beq q.1, eq_of_beq q.2.1, fun m hm => eq_of_beq (List.all_eq_true.mp q.2.2 m (List.mem_range.mpr hm))⟩
theorem eqV_bl : ∀ b : Bool, eqV (.bl b) (.bl true) = b
  | true => rfl
  | false => rfl
theorem kinds_count {i : Nat} (h : i < 60) : (kindsL i).countP (fun z => eqV z (.bl true)) = 1 := by
  rw [kinds_map, List.countP_map, ← (kb_at h).1]
  exact congrArg (fun f => (kindsB i).countP f) (funext eqV_bl)
theorem kinds_yes {i : Nat} (h : i < 60) : (kindsL i)[i]? = some (.bl true) := by rw [kinds_map, List.getElem?_map, (kb_at h).2.1]; rfl
theorem kinds_no {i : Nat} (h : i < 60) {m : Nat} (hm : m < i) : (kindsL i)[m]? = some (.bl false) := by rw [kinds_map, List.getElem?_map, (kb_at h).2.2 m hm]; rfl
theorem kinds_flat {i : Nat} : (kindsL i).all flatV = true := by
  rw [kinds_map, List.all_map]
  exact List.all_eq_true.mpr fun b _ => rfl
theorem s_par {i j : Nat} {ta : TA} {D : Ends} {σ : L2.St} {H : Hp} (h : ta σ H fun vs H1 => ∃ v w, vs = [v, w] ∧ D.nx ((σ.set i (some v)).set j (some w)) H1) : tPar i j ta D σ H := h
theorem dr_xs {B : Bg} {H : Hp} {p : Addr} (s : SqT K H p [.str (Str.ofString "x"), .int 3]) : Dr K B H (.ref p) 0 (.tuple [.str (Str.ofString "x"), .int 3]) := ⟨.tup s (.cons (.str _) (.cons (.int _) .nil)), by decide +kernel, by decide +kernel, by decide +kernel⟩
theorem take_idx {i : Nat} (h : i < 10) : idxF.take (i + 1) = idxF.take i ++ [idxF.getD i 0] := by
  rcases (show i = 0 ∨ i = 1 ∨ i = 2 ∨ i = 3 ∨ i = 4 ∨ i = 5 ∨ i = 6 ∨ i = 7 ∨ i = 8 ∨ i = 9 by omega) with e | e | e | e | e | e | e | e | e | e <;> subst e <;> rfl
theorem peIdx {X : Cx} {K : PySem.W.Frag} {e : Expr} {to : TE} {t : TA} (h : PE X e (tBM X.K "list" (rIndex X.K) to t)) (q : X.K = K := by rfl) : PE X e (tBM K "list" (rIndex K) to t) := by
  cases q; exact h
def sp_law (K : PySem.W.Frag) : Sp := fun vs H Q _ => ∃ (a : Addr) (ns : List Int), vs = [.ref a] ∧ SqL K H a (ns.map V.int) ∧ ns.length ≤ 63 ∧ ∀ H', Q (.bl true) H'
theorem ok_law (F : Fun K "law" "law" s_law f fd) (T : Txt K mg) : FnG P w K mg base CX0 4 f fd ["script"] ((sp_law K)) := by
  refine F.okG sc_law (fun vs H Q E h => ?_) (fun cdv A outer s H vs Q E gd hr h => ?_)
  · obtain ⟨a, ns, rfl, _⟩ := h
    rfl
  · obtain ⟨a, ns0, rfl, hS, hl, k⟩ := h
    refine ⟨_, (pss_cons (ps_set (i := 1) sc_law.nd rfl (Or.inl rfl) (pe_call (ok_law_hand T) (hr.mono (by decide)) (by rfl) T.law_hand.g T.law_hand.F.kp T.law_hand.b .nil pass0 (pa_cons (pv 0) pa_nil)))
    (pss_cons (ps_par (i := 2) (j := 3) (by rfl) sc_law.nd rfl rfl (by decide) rfl rfl (pa_cons (pe_lst (pa_cons pe_non (pa_cons pe_int (pa_cons pe_bl (pa_cons pe_str (pa_cons (pe_tup pa_nil) (pa_cons (pe_tup (pa_cons pe_str (pa_cons pe_int pa_nil))) (pa_cons (pe_lst (pa_cons pe_int pa_nil)) (pa_cons pe_dnewK (pa_cons (pe_un un_neg pe_int) (pa_cons (pe_op op_pow pe_int pe_int) (pa_cons (pe_call (ok_law_deep T) (hr.mono (by decide)) (by rfl) T.law_deep.g T.law_deep.F.kp T.law_deep.b .nil pass0 (pa_cons (pv 1) pa_nil)) pa_nil)))))))))))) (pa_cons (pe_lst pa_nil) pa_nil)) (by rfl))
    (pss_cons (ps_for PassesOwn.never rfl (pi_range1 (by rfl) T.z_range (pa_cons pe_int pa_nil)) (pg_name (i := 4) sc_law.nd rfl (Or.inl rfl))
      (pss_cons (ps_set (i := 5) sc_law.nd rfl (Or.inl rfl) (pe_call (ok_law_any T) (hr.mono (by decide)) (by rfl) T.law_any.g T.law_any.F.kp T.law_any.b .nil pass0 (pa_cons (pv 1) (pa_cons (pv 2) pa_nil))))
    (pss_cons (ps_asg (pe_call (ok_law_with_field T) (hr.mono (by decide)) (by rfl) T.law_with_field.g T.law_with_field.F.kp T.law_with_field.b .nil pass0 (pa_cons (pv 4) (pa_cons (pv 5) pa_nil))) (pgTup (K := K) (n := 2) (pg_tup (n := 2) rfl (pgs_cons (pg_name (i := 6) sc_law.nd rfl (Or.inl rfl)) (pgs_cons (pg_name (i := 7) sc_law.nd rfl (Or.inl rfl)) pgs_nil)))))
    (pss_cons (ps_if (pt_cmpR (oNe (K := K) hr.units) (pe_callB (cReprA (K := K) T.sysK gd hr.units) (by rfl) T.z_repr (by decide +kernel) (pa_cons (pv 6) pa_nil)) (pe_callB (cReprA (K := K) T.sysK gd hr.units) (by rfl) T.z_repr (by decide +kernel) (pa_cons (pv 5) pa_nil)) (nomark _)) (pss_one (ps_ret pe_bl)) pss_nil)
    (pss_one (ps_expr (peApp (K := K) (pe_bm PySem.F.plainAttrs_list PySem.F.slot_list_append PySem.F.type_list_append mt_append (pv 3) (pa_cons (pv 7) pa_nil)))))))))
    (pss_cons (ps_set (i := 3) sc_law.nd rfl (Or.inl rfl) (pe_op oAdd (pv 3) (pe_call0 (ok_law_plain T) (hr.mono (by decide)) (by rfl) T.law_plain.g T.law_plain.F.kp T.law_plain.b .nil pass0)))
    (pss_cons (ps_for PassesOwn.never rfl (piL (K := K) (pv 3)) (pg_name (i := 7) sc_law.nd rfl (Or.inl rfl))
      (pss_cons (ps_if (PW.pt (pw_or (pt_not (ptTruth (K := K) (pe_callB (cIsV (K := K)) (by rfl) T.z_isinstance (by decide +kernel) (pa_cons (pv 7) (pa_cons (C8.pe_gc (v := .ref T.N_StoreError) (by rfl) ⟨_, T.g_StoreError, rfl⟩) pa_nil))) (by intro _; rfl))) (pw_or1 (pt_not (ptTruth (K := K) (pe_callB (cIsV (K := K)) (by rfl) T.z_isinstance (by decide +kernel) (pa_cons (pv 7) (pa_cons (pe_bltn (v := .ty "ValueError") (by rfl) T.z_ValueError (by decide +kernel) rfl) pa_nil))) (by intro _; rfl)))))) (pss_one (ps_ret pe_bl)) pss_nil)
    (pss_one (ps_if (pt_cmpR (oNe (K := K) hr.units) (pe_bm PySem.F.plainAttrs_list PySem.F.slot_list_count PySem.F.type_list_count mt_cntF (pe_call (ok_law_kinds T) (hr.mono (by decide)) (by rfl) T.law_kinds.g T.law_kinds.F.kp T.law_kinds.b .nil pass0 (pa_cons (pv 7) pa_nil)) (pa_cons pe_bl pa_nil)) pe_int (nomark _)) (pss_one (ps_ret pe_bl)) pss_nil))))
    (pss_one (ps_ret (pe_cmpR (oEq (K := K) hr.units) (pe_callB (cLenS (w := w)) (by rfl) T.z_len PySem.boot_len (pa_cons (pe_callTy (cSetL (K := K) (w := w) rfl) (by rfl) T.z_set (by decide +kernel) (pa_cons (pe_lc (own := [("error", 7)]) rfl sc_law.nd (piL (K := K) (pv 3)) (blkOk_by (N := n_law) (sc := defScope s_law) (by decide +kernel)) (fun _ _ _ _ _ => (pg_name (i := 7) sc_law.nd rfl (Or.inl rfl))) (fun _ _ _ _ _ => pts_nil) (fun _ _ _ _ _ => (peIdx (K := K) (pe_bm PySem.F.plainAttrs_list PySem.F.slot_list_index PySem.F.type_list_index mt_index (pe_call (ok_law_kinds T) (hr.mono (by decide)) (by rfl) T.law_kinds.g T.law_kinds.F.kp T.law_kinds.b .nil pass0 (pa_cons (pv 7) pa_nil)) (pa_cons pe_bl pa_nil))))) pa_nil)) pa_nil)) pe_int (nomark _))))))))), ?_⟩
    walk_at "go"
    refine ⟨a, ns0, rfl, hS, hl, fun B H1 nB s1 b1 => ?_⟩
    walk_at "go"
    refine s_par ?_
    walk_at "go"
    refine n_new (le_size (by simp)) fun pA HA nA sA hA => ?_
    walk_at "go"
    refine n_new (le_size (by simp)) fun pB HB nB sB hB => ?_
    walk_at "go"
    refine n_new (le_size (by simp)) fun pC HC nC sC hC => ?_
    walk_at "go"
    refine e_dnew fun pD HD nD sD hD => ?_
    have sAB := sA.trans sB
    have sAC := sAB.trans sC
    have bD := bag_same b1 (sAC.trans sD)
    walk_at "go"
    refine ⟨B, rfl, bD, fun v d HE hsE hv => ?_⟩
    walk_at "go"
    refine n_new (le_size (by simp)) fun t HF nF sF hF => ?_
    have bF := bag_same hsE.b sF
    have neC : pC ≠ B.hd := new_ne (bag_same b1 sAB) nC
    have neD : pD ≠ B.hd := new_ne (bag_same b1 sAC) nD
    have tA := st_ sF (hsE.st bD (stO (K := K) (at_ (sB.trans (sC.trans sD)) hA)))
    have tB := st_ sF (hsE.st bD (stO (K := K) (at_ (sC.trans sD) hB)))
    have lC := at_ sF (hsE.o _ _ neC (at_ sD hC))
    have dD := at_ sF (hsE.o _ _ neD hD)
    have tv := hv.hs hsE.b (Hs.of hsE.b sF)
    have tn : t ≠ B.hd := new_ne hsE.b nF
    obtain ⟨xs, ex, xl, x0, all⟩ : ∃ xs : List V, HF t = some (.lst xs) ∧ xs.length = 11 ∧ 0 < xs.length ∧ ∀ x ∈ xs, ∃ d, Dr K B HF x 29 d := by
      refine ⟨_, hF, rfl, Nat.zero_lt_succ _, fun x hx => ?_⟩
      simp only [List.mem_cons, List.not_mem_nil, or_false] at hx
      rcases hx with z | z | z | z | z | z | z | z | z | z | z <;> subst z
      · exact ⟨_, dr_non.up (by decide)⟩
      · exact ⟨_, (dr_int (by decide)).up (by decide)⟩
      · exact ⟨_, (dr_bl true).up (by decide)⟩
      · exact ⟨_, (dr_str (by decide +kernel) (by decide +kernel)).up (by decide)⟩
      · exact ⟨_, (dr_tup0 tA).up (by decide)⟩
      · exact ⟨_, (dr_xs tB).up (by decide)⟩
      · exact ⟨_, ((dr_int (i := 1) (by decide)).lst neC lC).up (by decide)⟩
      · exact ⟨_, (dr_dct0 neD dD).up (by decide)⟩
      · exact ⟨_, (dr_int (by decide)).up (by decide)⟩
      · exact ⟨_, (dr_int (by decide)).up (by decide)⟩
      · exact ⟨_, tv⟩
    clear hF tA tB lC dD tv hA hB hC hD nA nB nC nD hsE hv
    walk_at "go"
    refine n_new (le_size (by simp)) fun er HG nG sG hG => ?_
    refine ⟨_, _, rfl, ?_⟩
    walk_at "go"
    have ern : er ≠ B.hd := new_ne bF nG
    refine i_rng 10 rfl (by decide) (by decide) ?_
    refine l_rng (fun i σ H' => Hs K B HF H' ∧ ∃ (es : List V) (y4 y5 y6 y7 : Option V), σ = [some (.ref a), some (.ref B.hd), some (.ref t), some (.ref er), y4, y5, y6, y7] ∧ H' er = some (.lst es) ∧ ErrsAt K (clsL T) H' es (idxF.take i)) ⟨Hs.of bF sG, [], none, none, none, none, rfl, hG, errs_nil⟩ (fun σ H' p => ?_) (fun i σ H' hi p => ?_)
    · obtain ⟨hh, es, y4, y5, y6, y7, rfl, he, hE⟩ := p
      rw [show idxF.take 10 = idxF from rfl] at hE
      have el : es.length = 10 := hE.1
      walk_at "go"
      refine ⟨rfl, fun p ys H6 s6 h6 E2 => ?_⟩
      have yl : ys.length = 50 := E2.1
      walk_at "go"
      refine o_cat (at_ s6 he) h6 (by omega) (n_new0 fun p2 H7 n7 s7 h7 => ?_)
      have EA : ErrsAt K (clsL T) H7 (es ++ ys) idxA := ((hE.same s6).app E2).same s7
      generalize es ++ ys = zs at *
      have zl : zs.length = 60 := EA.1.trans idxA_len
      clear he hE h6 E2 el yl
      have ask : ∀ {i : Nat} {x : V}, zs[i]? = some x → ∃ j, idxA[i]? = some j ∧ j < 60 ∧ ErrAt K (clsL T) H7 x j := fun {i x} hx => by
        have hi : i < idxA.length := by
          have := (List.getElem?_eq_some_iff.mp hx).1
          rw [← EA.1]; exact this
        have hj := List.getElem?_eq_getElem hi
        exact ⟨_, hj, idxA_lt _ (List.getElem_mem hi), EA.2 i x _ hx hj⟩
      walk_at "go"
      refine i_lst (slO h7) ?_
      refine l_lst (xs := zs) (fun i σ H' => Same H7 H' ∧ ∃ (y4 y5 y6 y7 : Option V), σ = [some (.ref a), some (.ref B.hd), some (.ref t), some (.ref p2), y4, y5, y6, y7]) ⟨Same.refl _, y4, y5, y6, y7, rfl⟩ (fun i σ H' hi p => slO (at_ p.1 h7)) (fun σ H' p => ?_) (fun i x σ H' hx p => ?_)
      · obtain ⟨s8, y4, y5, y6, y7, rfl⟩ := p
        walk_at "go"
        have h8 := at_ s8 h7
        refine i_lst (slO h8) ?_
        refine c_lst (xs := zs) (fun i acc H2 => Same H' H2 ∧ acc = ((idxA.take i).map fun j : Nat => (j : Int)).map V.int) (fun D hD => ⟨upd_free (Same.refl _) hD, rfl⟩) (fun i acc H2 hi p => slO (at_ p.1 h8)) (fun acc D H2 hD hp p => ?_) (fun _ => rfl) (fun i x acc H2 D hx hD hp p => ?_)
        · obtain ⟨s2, rfl⟩ := p
          rw [zl, show idxA.take 60 = idxA by rw [← idxA_len, List.take_length]] at hp
          walk_at "go"
          refine c_setL (slO hp) (by rw [idxI_len]; decide) fun p4 c H3 hc n3 s3 h3 => ?_
          walk_at "go"
          refine ⟨_, p4, c, rfl, h3, idxI_nd, ?_⟩
          rw [idxI_len]
          walk_at "go"
          exact k _
        · obtain ⟨s2, rfl⟩ := p
          obtain ⟨j, hj, jl, hE⟩ := ask hx
          have hE2 := (hE.same s8).same s2
          walk_at "go"
          refine ⟨x, j, rfl, hE2, fun p3 H3 s3 h3 => ?_⟩
          refine ty_lst h3 ?_
          walk_at "go"
          refine ⟨p3, kindsL j, .bl true, j, .bl true, rfl, rfl, slO h3, rfl, kinds_flat, kinds_yes jl, rfl, fun m z' hm hz => ?_, ?_⟩
          · rw [kinds_no jl hm] at hz
            cases hz
            rfl
          · have hp3 := at_ s3 hp
            refine ⟨_, hp3, lt_size (by simp [idxA_len]; omega), _, upd_same, upd_free (s2.trans s3) hD, ?_⟩
            rw [List.take_add_one, hj, List.map_append, List.map_append]; rfl
      · obtain ⟨s8, y4, y5, y6, y7, rfl⟩ := p
        obtain ⟨j, hj, jl, hE⟩ := ask hx
        have hE8 := hE.same s8
        walk_at "go"
        refine is_store T hE8 ?_
        walk_at "go"
        refine is_value T hE8 ?_
        walk_at "go"
        refine ⟨x, j, rfl, hE8, fun p3 H3 s3 h3 => ?_⟩
        refine ty_lst h3 ?_
        walk_at "go"
        refine o_cntF (slO h3) rfl kinds_flat ?_
        rw [kinds_count jl]
        walk_at "go"
        exact ⟨s8.trans s3, _, _, _, _, rfl⟩
    · obtain ⟨hh, es, y4, y5, y6, y7, rfl, he, hE⟩ := p
      walk_at "go"
      refine ⟨B, t, xs, rfl, hh.b, slO (hh.ls tn ex), tn, x0, by omega, fun x H5 hx hs5 => ?_⟩
      have hh5 := hh.trans hs5
      have he5 := hs5.ls ern he
      have hE5 := hE.imp fun _ _ e => e.hs hh.b hs5
      obtain ⟨d, hd⟩ := all x hx
      have hd5 := hd.hs bF hh5
      have sh := hd5.sh (by decide)
      walk_at "go"
      refine ⟨i, x, rfl, hi, fun p y H6 s6 h6 hy => ?_⟩
      have hd6 := hd5.hs hh5.b (Hs.of hh5.b s6)
      have he6 := at_ s6 he5
      have el : es.length = i := hE.1.trans (by rw [List.length_take]; show min i 10 = i; omega)
      walk_at "go"
      refine g_pair h6 ?_
      walk_at "go"
      refine ⟨x, _, d, rfl, hd6.q, sh.s, sh.dp, sh.l, ?_⟩
      walk_at "go"
      refine ⟨x, _, d, rfl, hd6.q, sh.s, sh.dp, sh.l, ?_⟩
      walk_at "go"
      rw [if_neg (by simp)]
      walk_at "go"
      refine r_app he6 (by omega) fun H7 o7 h7 => ?_
      refine ⟨((hh5.trans (Hs.of hh5.b s6))).mut bF nG o7, _, _, _, _, _, rfl, h7, ?_⟩
      rw [take_idx hi]
      exact ((hE5.same s6).imp fun _ _ e => e.oth he6 o7).app (errs_one (hy.oth he6 o7))
end


end Vw

set_option Elab.async false
namespace Vw
open PySem PySem.Spec PyProof.Rows L2 RT
def gRef_mk {K : PySem.W.Frag} {mg : Str → Option Value} {h : Heap} {x : Str} {C : Addr} (X : K.In h) (G : h.Ns mainGlobals mg) (a : PySem.W.nsIn K mainGlobals x = some (some (.ref C))) : { N : Addr // mg x = some (.ref N) } := ⟨C, PySem.W.mg_of X G a⟩
theorem sysK_mk {K : PySem.W.Frag} {c : Value} {dd : Option Addr} {da : Data} {sl : Array (Option Value)} (l : K.lookup sysModules = some ⟨c, dd, da, sl⟩) (e : c = .type "dict") : SysK K := ⟨_, l, e⟩
theorem law_mkG {l : PySem.W.OpenLaw} {w : World} {K : PySem.W.Frag} {h : Heap} {mg : Str → Option Value} {fa f : Addr} {od an : Option Addr} {sl : Array (Option Value)} {oc kV dc pm cd ct : Value} (X : K.In h) (G : h.Ns mainGlobals mg) (hfa : mg "law" = some (.ref fa))
    (a : PySem.W.nsIn K mainGlobals "law" = some (some (.ref f))) (lk : K.lookup f = some ⟨oc, od, .func (PySem.W.fnOf "law" "law" (defArgs s_law) (defBody s_law) (defScope s_law) .none kV dc pm an cd ct), sl⟩) (c : PySem.W.codeIn K cd "law" = true) (kp : PySem.W.keepIn K (.ref f) = true) (T : Txt K mg) :
    Vw.LawAtG l w K CX0 4 63 "script" mg fa h := by
  have e := hfa.symm.trans (PySem.W.mg_of X G a)
  cases e
  have F := fun_mk (st := s_law) lk c kp
  exact ⟨PySem.W.fnOf "law" "law" (defArgs s_law) (defBody s_law) (defScope s_law) .none kV dc pm an cd ct, [], sp_law K, (fun p hp => nomatch hp), fun s v => .of_eq rfl,
    fun H a ns hl hH hS => ⟨a, ns, rfl, hS, hl, fun _ => rfl⟩, fun base _ _ hB => ok_law F T⟩
end Vw
open Lean in
local macro_rules
  | `(tactic| refine $f:ident $args*) => do
    if f.getId.eraseMacroScopes == `HeadRun.left_oneK then `(tactic| (
      refine HeadRun.left_oneKM $args* ?hp ?hq ?hloose ?hM ?hX
      (case hp => kernel_rfl)
      (case hq => kernel_rfl)
      (case hloose => kernel_rfl)
      (case hM => kernel_rfl)
      (case hX => kernel_rfl)))
    else Macro.throwUnsupported
open PySem PySem.W PyProof.Rows
set_option maxRecDepth 100000 in
set_option maxHeartbeats 0 in
theorem PySem.Challenge.cw_wholeways_k00_errors_of_the_package_holds : PySem.Challenge.rw_wholeways_k00_errors_of_the_package.Holds := by
  w_on; o_law; o_headL (PySem.W.kmHook HeadRun.K0 HeadRun.as0 HeadRun.ek0 HeadRun.ts0); (case hw => w_witness2)
  k_fill
  refine Vw.walk_ofG (l := PySem.Challenge.rw_wholeways_k00_errors_of_the_package) (n := 63) (k := 4) (x := "script") (CX := fun _ => L2.CX0) rfl (by decide) rfl ⟨rfl, by decide, by decide⟩ (fun w h Y => PySem.W.km_in_of Y) ?F (fun _ _ _ _ _ h => h)
  case F => as_aux_lemma =>
    intro w mg fa h _ KX G hmg tabs
    refine' Vw.law_mkG KX G hmg ?aL ?lL ?cL ?kL (T := {
      law_hand := (Vw.defAt_mk KX G ?a0 ?l0 ?c0 ?k0 (fun _ _ _ _ _ _ us hl => match us, hl with | [_], _ => rfl)),
      law_draw := (Vw.defAt_mk KX G ?a1 ?l1 ?c1 ?k1 (fun _ _ _ _ _ _ us hl => match us, hl with | [_, _], _ => rfl)),
      law_any := (Vw.defAt_mk KX G ?a2 ?l2 ?c2 ?k2 (fun _ _ _ _ _ _ us hl => match us, hl with | [_, _], _ => rfl)),
      law_deep := (Vw.defAt_mk KX G ?a3 ?l3 ?c3 ?k3 (fun _ _ _ _ _ _ us hl => match us, hl with | [_], _ => rfl)),
      law_with_field := (Vw.defAt_mk KX G ?a4 ?l4 ?c4 ?k4 (fun _ _ _ _ _ _ us hl => match us, hl with | [_, _], _ => rfl)),
      law_plain := (Vw.defAt_mk KX G ?a5 ?l5 ?c5 ?k5 (fun _ _ _ _ _ _ us hl => match us, hl with | [], _ => rfl)),
      law_kinds := (Vw.defAt_mk KX G ?a6 ?l6 ?c6 ?k6 (fun _ _ _ _ _ _ us hl => match us, hl with | [_], _ => rfl)),
      z_ValueError := PySem.W.mg_none_of KX G ?z_ValueError,
      z_abs := PySem.W.mg_none_of KX G ?z_abs,
      z_int := PySem.W.mg_none_of KX G ?z_int,
      z_isinstance := PySem.W.mg_none_of KX G ?z_isinstance,
      z_len := PySem.W.mg_none_of KX G ?z_len,
      z_range := PySem.W.mg_none_of KX G ?z_range,
      z_repr := PySem.W.mg_none_of KX G ?z_repr,
      z_set := PySem.W.mg_none_of KX G ?z_set,
      m_StoreError_init := Vw.initAt_mk ?il ?ic ?ik (fun _ _ _ _ _ _ us hl => match us, hl with | [_], _ => rfl),
      vV := ?vV,
      e_BadDealing := Vw.excAt_mk KX G ?ea_BadDealing ?el_BadDealing ?eb_BadDealing ?es_BadDealing ?ex_BadDealing ?et_BadDealing ?ek_BadDealing ?ei_BadDealing ?ef_BadDealing ?eh_BadDealing ?ec_BadDealing ?ee_BadDealing,
      e_BadDisk := Vw.excAt_mk KX G ?ea_BadDisk ?el_BadDisk ?eb_BadDisk ?es_BadDisk ?ex_BadDisk ?et_BadDisk ?ek_BadDisk ?ei_BadDisk ?ef_BadDisk ?eh_BadDisk ?ec_BadDisk ?ee_BadDisk,
      e_BadGraph := Vw.excAt_mk KX G ?ea_BadGraph ?el_BadGraph ?eb_BadGraph ?es_BadGraph ?ex_BadGraph ?et_BadGraph ?ek_BadGraph ?ei_BadGraph ?ef_BadGraph ?eh_BadGraph ?ec_BadGraph ?ee_BadGraph,
      e_BadHistory := Vw.excAt_mk KX G ?ea_BadHistory ?el_BadHistory ?eb_BadHistory ?es_BadHistory ?ex_BadHistory ?et_BadHistory ?ek_BadHistory ?ei_BadHistory ?ef_BadHistory ?eh_BadHistory ?ec_BadHistory ?ee_BadHistory,
      e_BadSeen := Vw.excAt_mk KX G ?ea_BadSeen ?el_BadSeen ?eb_BadSeen ?es_BadSeen ?ex_BadSeen ?et_BadSeen ?ek_BadSeen ?ei_BadSeen ?ef_BadSeen ?eh_BadSeen ?ec_BadSeen ?ee_BadSeen,
      e_BadSigns := Vw.excAt_mk KX G ?ea_BadSigns ?el_BadSigns ?eb_BadSigns ?es_BadSigns ?ex_BadSigns ?et_BadSigns ?ek_BadSigns ?ei_BadSigns ?ef_BadSigns ?eh_BadSigns ?ec_BadSigns ?ee_BadSigns,
      e_BadWrites := Vw.excAt_mk KX G ?ea_BadWrites ?el_BadWrites ?eb_BadWrites ?es_BadWrites ?ex_BadWrites ?et_BadWrites ?ek_BadWrites ?ei_BadWrites ?ef_BadWrites ?eh_BadWrites ?ec_BadWrites ?ee_BadWrites,
      e_Ended := Vw.excAt_mk KX G ?ea_Ended ?el_Ended ?eb_Ended ?es_Ended ?ex_Ended ?et_Ended ?ek_Ended ?ei_Ended ?ef_Ended ?eh_Ended ?ec_Ended ?ee_Ended,
      e_InUse := Vw.excAt_mk KX G ?ea_InUse ?el_InUse ?eb_InUse ?es_InUse ?ex_InUse ?et_InUse ?ek_InUse ?ei_InUse ?ef_InUse ?eh_InUse ?ec_InUse ?ee_InUse,
      e_LogFull := Vw.excAt_mk KX G ?ea_LogFull ?el_LogFull ?eb_LogFull ?es_LogFull ?ex_LogFull ?et_LogFull ?ek_LogFull ?ei_LogFull ?ef_LogFull ?eh_LogFull ?ec_LogFull ?ee_LogFull,
      e_NoBlock := Vw.excAt_mk KX G ?ea_NoBlock ?el_NoBlock ?eb_NoBlock ?es_NoBlock ?ex_NoBlock ?et_NoBlock ?ek_NoBlock ?ei_NoBlock ?ef_NoBlock ?eh_NoBlock ?ec_NoBlock ?ee_NoBlock,
      e_NoChanges := Vw.excAt_mk KX G ?ea_NoChanges ?el_NoChanges ?eb_NoChanges ?es_NoChanges ?ex_NoChanges ?et_NoChanges ?ek_NoChanges ?ei_NoChanges ?ef_NoChanges ?eh_NoChanges ?ec_NoChanges ?ee_NoChanges,
      e_NoCommit := Vw.excAt_mk KX G ?ea_NoCommit ?el_NoCommit ?eb_NoCommit ?es_NoCommit ?ex_NoCommit ?et_NoCommit ?ek_NoCommit ?ei_NoCommit ?ef_NoCommit ?eh_NoCommit ?ec_NoCommit ?ee_NoCommit,
      e_NoContent := Vw.excAt_mk KX G ?ea_NoContent ?el_NoContent ?eb_NoContent ?es_NoContent ?ex_NoContent ?et_NoContent ?ek_NoContent ?ei_NoContent ?ef_NoContent ?eh_NoContent ?ec_NoContent ?ee_NoContent,
      e_NoDeed := Vw.excAt_mk KX G ?ea_NoDeed ?el_NoDeed ?eb_NoDeed ?es_NoDeed ?ex_NoDeed ?et_NoDeed ?ek_NoDeed ?ei_NoDeed ?ef_NoDeed ?eh_NoDeed ?ec_NoDeed ?ee_NoDeed,
      e_NoExpression := Vw.excAt_mk KX G ?ea_NoExpression ?el_NoExpression ?eb_NoExpression ?es_NoExpression ?ex_NoExpression ?et_NoExpression ?ek_NoExpression ?ei_NoExpression ?ef_NoExpression ?eh_NoExpression ?ec_NoExpression ?ee_NoExpression,
      e_NoIndex := Vw.excAt_mk KX G ?ea_NoIndex ?el_NoIndex ?eb_NoIndex ?es_NoIndex ?ex_NoIndex ?et_NoIndex ?ek_NoIndex ?ei_NoIndex ?ef_NoIndex ?eh_NoIndex ?ec_NoIndex ?ee_NoIndex,
      e_NoItems := Vw.excAt_mk KX G ?ea_NoItems ?el_NoItems ?eb_NoItems ?es_NoItems ?ex_NoItems ?et_NoItems ?ek_NoItems ?ei_NoItems ?ef_NoItems ?eh_NoItems ?ec_NoItems ?ee_NoItems,
      e_NoKey := Vw.excAt_mk KX G ?ea_NoKey ?el_NoKey ?eb_NoKey ?es_NoKey ?ex_NoKey ?et_NoKey ?ek_NoKey ?ei_NoKey ?ef_NoKey ?eh_NoKey ?ec_NoKey ?ee_NoKey,
      e_NoLine := Vw.excAt_mk KX G ?ea_NoLine ?el_NoLine ?eb_NoLine ?es_NoLine ?ex_NoLine ?et_NoLine ?ek_NoLine ?ei_NoLine ?ef_NoLine ?eh_NoLine ?ec_NoLine ?ee_NoLine,
      e_NoLines := Vw.excAt_mk KX G ?ea_NoLines ?el_NoLines ?eb_NoLines ?es_NoLines ?ex_NoLines ?et_NoLines ?ek_NoLines ?ei_NoLines ?ef_NoLines ?eh_NoLines ?ec_NoLines ?ee_NoLines,
      e_NoMark := Vw.excAt_mk KX G ?ea_NoMark ?el_NoMark ?eb_NoMark ?es_NoMark ?ex_NoMark ?et_NoMark ?ek_NoMark ?ei_NoMark ?ef_NoMark ?eh_NoMark ?ec_NoMark ?ee_NoMark,
      e_NoName := Vw.excAt_mk KX G ?ea_NoName ?el_NoName ?eb_NoName ?es_NoName ?ex_NoName ?et_NoName ?ek_NoName ?ei_NoName ?ef_NoName ?eh_NoName ?ec_NoName ?ee_NoName,
      e_NoNode := Vw.excAt_mk KX G ?ea_NoNode ?el_NoNode ?eb_NoNode ?es_NoNode ?ex_NoNode ?et_NoNode ?ek_NoNode ?ei_NoNode ?ef_NoNode ?eh_NoNode ?ec_NoNode ?ee_NoNode,
      e_NoNote := Vw.excAt_mk KX G ?ea_NoNote ?el_NoNote ?eb_NoNote ?es_NoNote ?ex_NoNote ?et_NoNote ?ek_NoNote ?ei_NoNote ?ef_NoNote ?eh_NoNote ?ec_NoNote ?ee_NoNote,
      e_NoNumber := Vw.excAt_mk KX G ?ea_NoNumber ?el_NoNumber ?eb_NoNumber ?es_NoNumber ?ex_NoNumber ?et_NoNumber ?ek_NoNumber ?ei_NoNumber ?ef_NoNumber ?eh_NoNumber ?ec_NoNumber ?ee_NoNumber,
      e_NoOrder := Vw.excAt_mk KX G ?ea_NoOrder ?el_NoOrder ?eb_NoOrder ?es_NoOrder ?ex_NoOrder ?et_NoOrder ?ek_NoOrder ?ei_NoOrder ?ef_NoOrder ?eh_NoOrder ?ec_NoOrder ?ee_NoOrder,
      e_NoPage := Vw.excAt_mk KX G ?ea_NoPage ?el_NoPage ?eb_NoPage ?es_NoPage ?ex_NoPage ?et_NoPage ?ek_NoPage ?ei_NoPage ?ef_NoPage ?eh_NoPage ?ec_NoPage ?ee_NoPage,
      e_NoPath := Vw.excAt_mk KX G ?ea_NoPath ?el_NoPath ?eb_NoPath ?es_NoPath ?ex_NoPath ?et_NoPath ?ek_NoPath ?ei_NoPath ?ef_NoPath ?eh_NoPath ?ec_NoPath ?ee_NoPath,
      e_NoPlace := Vw.excAt_mk KX G ?ea_NoPlace ?el_NoPlace ?eb_NoPlace ?es_NoPlace ?ex_NoPlace ?et_NoPlace ?ek_NoPlace ?ei_NoPlace ?ef_NoPlace ?eh_NoPlace ?ec_NoPlace ?ee_NoPlace,
      e_NoPlan := Vw.excAt_mk KX G ?ea_NoPlan ?el_NoPlan ?eb_NoPlan ?es_NoPlan ?ex_NoPlan ?et_NoPlan ?ek_NoPlan ?ei_NoPlan ?ef_NoPlan ?eh_NoPlan ?ec_NoPlan ?ee_NoPlan,
      e_NoPlay := Vw.excAt_mk KX G ?ea_NoPlay ?el_NoPlay ?eb_NoPlay ?es_NoPlay ?ex_NoPlay ?et_NoPlay ?ek_NoPlay ?ei_NoPlay ?ef_NoPlay ?eh_NoPlay ?ec_NoPlay ?ee_NoPlay,
      e_NoQuestion := Vw.excAt_mk KX G ?ea_NoQuestion ?el_NoQuestion ?eb_NoQuestion ?es_NoQuestion ?ex_NoQuestion ?et_NoQuestion ?ek_NoQuestion ?ei_NoQuestion ?ef_NoQuestion ?eh_NoQuestion ?ec_NoQuestion ?ee_NoQuestion,
      e_NoRecord := Vw.excAt_mk KX G ?ea_NoRecord ?el_NoRecord ?eb_NoRecord ?es_NoRecord ?ex_NoRecord ?et_NoRecord ?ek_NoRecord ?ei_NoRecord ?ef_NoRecord ?eh_NoRecord ?ec_NoRecord ?ee_NoRecord,
      e_NoRoom := Vw.excAt_mk KX G ?ea_NoRoom ?el_NoRoom ?eb_NoRoom ?es_NoRoom ?ex_NoRoom ?et_NoRoom ?ek_NoRoom ?ei_NoRoom ?ef_NoRoom ?eh_NoRoom ?ec_NoRoom ?ee_NoRoom,
      e_NoSnapshot := Vw.excAt_mk KX G ?ea_NoSnapshot ?el_NoSnapshot ?eb_NoSnapshot ?es_NoSnapshot ?ex_NoSnapshot ?et_NoSnapshot ?ek_NoSnapshot ?ei_NoSnapshot ?ef_NoSnapshot ?eh_NoSnapshot ?ec_NoSnapshot ?ee_NoSnapshot,
      e_NoSnapshots := Vw.excAt_mk KX G ?ea_NoSnapshots ?el_NoSnapshots ?eb_NoSnapshots ?es_NoSnapshots ?ex_NoSnapshots ?et_NoSnapshots ?ek_NoSnapshots ?ei_NoSnapshots ?ef_NoSnapshots ?eh_NoSnapshots ?ec_NoSnapshots ?ee_NoSnapshots,
      e_NoSpot := Vw.excAt_mk KX G ?ea_NoSpot ?el_NoSpot ?eb_NoSpot ?es_NoSpot ?ex_NoSpot ?et_NoSpot ?ek_NoSpot ?ei_NoSpot ?ef_NoSpot ?eh_NoSpot ?ec_NoSpot ?ee_NoSpot,
      e_NoTieWord := Vw.excAt_mk KX G ?ea_NoTieWord ?el_NoTieWord ?eb_NoTieWord ?es_NoTieWord ?ex_NoTieWord ?et_NoTieWord ?ek_NoTieWord ?ei_NoTieWord ?ef_NoTieWord ?eh_NoTieWord ?ec_NoTieWord ?ee_NoTieWord,
      e_NoVersion := Vw.excAt_mk KX G ?ea_NoVersion ?el_NoVersion ?eb_NoVersion ?es_NoVersion ?ex_NoVersion ?et_NoVersion ?ek_NoVersion ?ei_NoVersion ?ef_NoVersion ?eh_NoVersion ?ec_NoVersion ?ee_NoVersion,
      e_NoVersions := Vw.excAt_mk KX G ?ea_NoVersions ?el_NoVersions ?eb_NoVersions ?es_NoVersions ?ex_NoVersions ?et_NoVersions ?ek_NoVersions ?ei_NoVersions ?ef_NoVersions ?eh_NoVersions ?ec_NoVersions ?ee_NoVersions,
      e_NoWeight := Vw.excAt_mk KX G ?ea_NoWeight ?el_NoWeight ?eb_NoWeight ?es_NoWeight ?ex_NoWeight ?et_NoWeight ?ek_NoWeight ?ei_NoWeight ?ef_NoWeight ?eh_NoWeight ?ec_NoWeight ?ee_NoWeight,
      e_NoWorth := Vw.excAt_mk KX G ?ea_NoWorth ?el_NoWorth ?eb_NoWorth ?es_NoWorth ?ex_NoWorth ?et_NoWorth ?ek_NoWorth ?ei_NoWorth ?ef_NoWorth ?eh_NoWorth ?ec_NoWorth ?ee_NoWorth,
      e_NodeThere := Vw.excAt_mk KX G ?ea_NodeThere ?el_NodeThere ?eb_NodeThere ?es_NodeThere ?ex_NodeThere ?et_NodeThere ?ek_NodeThere ?ei_NodeThere ?ef_NodeThere ?eh_NodeThere ?ec_NodeThere ?ee_NodeThere,
      e_NodeTied := Vw.excAt_mk KX G ?ea_NodeTied ?el_NodeTied ?eb_NodeTied ?es_NodeTied ?ex_NodeTied ?et_NodeTied ?ek_NodeTied ?ei_NodeTied ?ef_NodeTied ?eh_NodeTied ?ec_NodeTied ?ee_NodeTied,
      e_NotANode := Vw.excAt_mk KX G ?ea_NotANode ?el_NotANode ?eb_NotANode ?es_NotANode ?ex_NotANode ?et_NotANode ?ek_NotANode ?ei_NotANode ?ef_NotANode ?eh_NotANode ?ec_NotANode ?ee_NotANode,
      e_NotATie := Vw.excAt_mk KX G ?ea_NotATie ?el_NotATie ?eb_NotATie ?es_NotATie ?ex_NotATie ?et_NotATie ?ek_NotATie ?ei_NotATie ?ef_NotATie ?eh_NotATie ?ec_NotATie ?ee_NotATie,
      e_NotKept := Vw.excAt_mk KX G ?ea_NotKept ?el_NotKept ?eb_NotKept ?es_NotKept ?ex_NotKept ?et_NotKept ?ek_NotKept ?ei_NotKept ?ef_NotKept ?eh_NotKept ?ec_NotKept ?ee_NotKept,
      e_NotOpen := Vw.excAt_mk KX G ?ea_NotOpen ?el_NotOpen ?eb_NotOpen ?es_NotOpen ?ex_NotOpen ?et_NotOpen ?ek_NotOpen ?ei_NotOpen ?ef_NotOpen ?eh_NotOpen ?ec_NotOpen ?ee_NotOpen,
      e_NotRemembered := Vw.excAt_mk KX G ?ea_NotRemembered ?el_NotRemembered ?eb_NotRemembered ?es_NotRemembered ?ex_NotRemembered ?et_NotRemembered ?ek_NotRemembered ?ei_NotRemembered ?ef_NotRemembered ?eh_NotRemembered ?ec_NotRemembered ?ee_NotRemembered,
      e_NotSerial := Vw.excAt_mk KX G ?ea_NotSerial ?el_NotSerial ?eb_NotSerial ?es_NotSerial ?ex_NotSerial ?et_NotSerial ?ek_NotSerial ?ei_NotSerial ?ef_NotSerial ?eh_NotSerial ?ec_NotSerial ?ee_NotSerial,
      e_NotThere := Vw.excAt_mk KX G ?ea_NotThere ?el_NotThere ?eb_NotThere ?es_NotThere ?ex_NotThere ?et_NotThere ?ek_NotThere ?ei_NotThere ?ef_NotThere ?eh_NotThere ?ec_NotThere ?ee_NotThere,
      e_NotWhole := Vw.excAt_mk KX G ?ea_NotWhole ?el_NotWhole ?eb_NotWhole ?es_NotWhole ?ex_NotWhole ?et_NotWhole ?ek_NotWhole ?ei_NotWhole ?ef_NotWhole ?eh_NotWhole ?ec_NotWhole ?ee_NotWhole,
      e_NothingWaits := Vw.excAt_mk KX G ?ea_NothingWaits ?el_NothingWaits ?eb_NothingWaits ?es_NothingWaits ?ex_NothingWaits ?et_NothingWaits ?ek_NothingWaits ?ei_NothingWaits ?ef_NothingWaits ?eh_NothingWaits ?ec_NothingWaits ?ee_NothingWaits,
      e_Over := Vw.excAt_mk KX G ?ea_Over ?el_Over ?eb_Over ?es_Over ?ex_Over ?et_Over ?ek_Over ?ei_Over ?ef_Over ?eh_Over ?ec_Over ?ee_Over,
      e_Refused := Vw.excAt_mk KX G ?ea_Refused ?el_Refused ?eb_Refused ?es_Refused ?ex_Refused ?et_Refused ?ek_Refused ?ei_Refused ?ef_Refused ?eh_Refused ?ec_Refused ?ee_Refused,
      e_Stopped := Vw.excAt_mk KX G ?ea_Stopped ?el_Stopped ?eb_Stopped ?es_Stopped ?ex_Stopped ?et_Stopped ?ek_Stopped ?ei_Stopped ?ef_Stopped ?eh_Stopped ?ec_Stopped ?ee_Stopped,
      e_TieThere := Vw.excAt_mk KX G ?ea_TieThere ?el_TieThere ?eb_TieThere ?es_TieThere ?ex_TieThere ?et_TieThere ?ek_TieThere ?ei_TieThere ?ef_TieThere ?eh_TieThere ?ec_TieThere ?ee_TieThere,
      e_TooLarge := Vw.excAt_mk KX G ?ea_TooLarge ?el_TooLarge ?eb_TooLarge ?es_TooLarge ?ex_TooLarge ?et_TooLarge ?ek_TooLarge ?ei_TooLarge ?ef_TooLarge ?eh_TooLarge ?ec_TooLarge ?ee_TooLarge,
      e_TooMany := Vw.excAt_mk KX G ?ea_TooMany ?el_TooMany ?eb_TooMany ?es_TooMany ?ex_TooMany ?et_TooMany ?ek_TooMany ?ei_TooMany ?ef_TooMany ?eh_TooMany ?ec_TooMany ?ee_TooMany,
      m_BadDealing_init := Vw.initAt_mk ?il_BadDealing ?ic_BadDealing ?ik_BadDealing (fun _ _ _ _ _ _ us hl => match us, hl with | [_, _], _ => rfl),
      a_BadDealing_part := ?fa_BadDealing_part,
      w_BadDealing := ⟨?xq1_BadDealing, ?xq2_BadDealing, ?xq3_BadDealing, ?xq4_BadDealing⟩,
      m_BadGraph_init := Vw.initAt_mk ?il_BadGraph ?ic_BadGraph ?ik_BadGraph (fun _ _ _ _ _ _ us hl => match us, hl with | [_, _], _ => rfl),
      a_BadGraph_part := ?fa_BadGraph_part,
      w_BadGraph := ⟨?xq1_BadGraph, ?xq2_BadGraph, ?xq3_BadGraph, ?xq4_BadGraph⟩,
      m_BadHistory_init := Vw.initAt_mk ?il_BadHistory ?ic_BadHistory ?ik_BadHistory (fun _ _ _ _ _ _ us hl => match us, hl with | [_, _], _ => rfl),
      a_BadHistory_index := ?fa_BadHistory_index,
      w_BadHistory := ⟨?xq1_BadHistory, ?xq2_BadHistory, ?xq3_BadHistory, ?xq4_BadHistory⟩,
      m_BadSigns_init := Vw.initAt_mk ?il_BadSigns ?ic_BadSigns ?ik_BadSigns (fun _ _ _ _ _ _ us hl => match us, hl with | [_, _], _ => rfl),
      a_BadSigns_at := ?fa_BadSigns_at,
      w_BadSigns := ⟨?xq1_BadSigns, ?xq2_BadSigns, ?xq3_BadSigns, ?xq4_BadSigns⟩,
      m_NoName_init := Vw.initAt_mk ?il_NoName ?ic_NoName ?ik_NoName (fun _ _ _ _ _ _ us hl => match us, hl with | [_, _], _ => rfl),
      a_NoName_name := ?fa_NoName_name,
      w_NoName := ⟨?xq1_NoName, ?xq2_NoName, ?xq3_NoName, ?xq4_NoName⟩,
      m_NoPlay_init := Vw.initAt_mk ?il_NoPlay ?ic_NoPlay ?ik_NoPlay (fun _ _ _ _ _ _ us hl => match us, hl with | [_, _], _ => rfl),
      a_NoPlay_part := ?fa_NoPlay_part,
      w_NoPlay := ⟨?xq1_NoPlay, ?xq2_NoPlay, ?xq3_NoPlay, ?xq4_NoPlay⟩,
      m_NoVersions_init := Vw.initAt_mk ?il_NoVersions ?ic_NoVersions ?ik_NoVersions (fun _ _ _ _ _ _ us hl => match us, hl with | [_, _], _ => rfl),
      a_NoVersions_index := ?fa_NoVersions_index,
      w_NoVersions := ⟨?xq1_NoVersions, ?xq2_NoVersions, ?xq3_NoVersions, ?xq4_NoVersions⟩,
      m_NotANode_init := Vw.initAt_mk ?il_NotANode ?ic_NotANode ?ik_NotANode (fun _ _ _ _ _ _ us hl => match us, hl with | [_, _], _ => rfl),
      a_NotANode_name := ?fa_NotANode_name,
      w_NotANode := ⟨?xq1_NotANode, ?xq2_NotANode, ?xq3_NotANode, ?xq4_NotANode⟩,
      m_Refused_init := Vw.initAt_mk ?il_Refused ?ic_Refused ?ik_Refused (fun _ _ _ _ _ _ us hl => match us, hl with | [_, _], _ => rfl),
      a_Refused_ring := ?fa_Refused_ring,
      w_Refused := ⟨?xq1_Refused, ?xq2_Refused, ?xq3_Refused, ?xq4_Refused⟩,
      m_TooMany_init := Vw.initAt_mk ?il_TooMany ?ic_TooMany ?ik_TooMany (fun _ _ _ _ _ _ us hl => match us, hl with | [_, _], _ => rfl),
      a_TooMany_most := ?fa_TooMany_most,
      w_TooMany := ⟨?xq1_TooMany, ?xq2_TooMany, ?xq3_TooMany, ?xq4_TooMany⟩,
      sysK := Vw.sysK_mk ?sy1 ?sy2,
      N_StoreError := (Vw.gRef_mk KX G ?gn_StoreError).1,
      g_StoreError := (Vw.gRef_mk KX G ?gn_StoreError).2,
      xs := ?F_xs,
      kt := ?F_kt,
      ks := ?F_ks,
      kv := ?F_kv })
    (case aL => k_is); (case lL => k_is); (case cL => k_is); (case kL => k_is)
    (case ea_BadDealing => k_is); (case ei_BadDealing => k_is); (case eh_BadDealing => exact rfl)
    (case ea_BadDisk => k_is); (case ei_BadDisk => k_is); (case eh_BadDisk => exact rfl)
    (case ea_BadGraph => k_is); (case ei_BadGraph => k_is); (case eh_BadGraph => exact rfl)
    (case ea_BadHistory => k_is); (case ei_BadHistory => k_is); (case eh_BadHistory => exact rfl)
    (case ea_BadSeen => k_is); (case ei_BadSeen => k_is); (case eh_BadSeen => exact rfl)
    (case ea_BadSigns => k_is); (case ei_BadSigns => k_is); (case eh_BadSigns => exact rfl)
    (case ea_BadWrites => k_is); (case ei_BadWrites => k_is); (case eh_BadWrites => exact rfl)
    (case ea_Ended => k_is); (case ei_Ended => k_is); (case eh_Ended => exact rfl)
    (case ea_InUse => k_is); (case ei_InUse => k_is); (case eh_InUse => exact rfl)
    (case ea_LogFull => k_is); (case ei_LogFull => k_is); (case eh_LogFull => exact rfl)
    (case ea_NoBlock => k_is); (case ei_NoBlock => k_is); (case eh_NoBlock => exact rfl)
    (case ea_NoChanges => k_is); (case ei_NoChanges => k_is); (case eh_NoChanges => exact rfl)
    (case ea_NoCommit => k_is); (case ei_NoCommit => k_is); (case eh_NoCommit => exact rfl)
    (case ea_NoContent => k_is); (case ei_NoContent => k_is); (case eh_NoContent => exact rfl)
    (case ea_NoDeed => k_is); (case ei_NoDeed => k_is); (case eh_NoDeed => exact rfl)
    (case ea_NoExpression => k_is); (case ei_NoExpression => k_is); (case eh_NoExpression => exact rfl)
    (case ea_NoIndex => k_is); (case ei_NoIndex => k_is); (case eh_NoIndex => exact rfl)
    (case ea_NoItems => k_is); (case ei_NoItems => k_is); (case eh_NoItems => exact rfl)
    (case ea_NoKey => k_is); (case ei_NoKey => k_is); (case eh_NoKey => exact rfl)
    (case ea_NoLine => k_is); (case ei_NoLine => k_is); (case eh_NoLine => exact rfl)
    (case ea_NoLines => k_is); (case ei_NoLines => k_is); (case eh_NoLines => exact rfl)
    (case ea_NoMark => k_is); (case ei_NoMark => k_is); (case eh_NoMark => exact rfl)
    (case ea_NoName => k_is); (case ei_NoName => k_is); (case eh_NoName => exact rfl)
    (case ea_NoNode => k_is); (case ei_NoNode => k_is); (case eh_NoNode => exact rfl)
    (case ea_NoNote => k_is); (case ei_NoNote => k_is); (case eh_NoNote => exact rfl)
    (case ea_NoNumber => k_is); (case ei_NoNumber => k_is); (case eh_NoNumber => exact rfl)
    (case ea_NoOrder => k_is); (case ei_NoOrder => k_is); (case eh_NoOrder => exact rfl)
    (case ea_NoPage => k_is); (case ei_NoPage => k_is); (case eh_NoPage => exact rfl)
    (case ea_NoPath => k_is); (case ei_NoPath => k_is); (case eh_NoPath => exact rfl)
    (case ea_NoPlace => k_is); (case ei_NoPlace => k_is); (case eh_NoPlace => exact rfl)
    (case ea_NoPlan => k_is); (case ei_NoPlan => k_is); (case eh_NoPlan => exact rfl)
    (case ea_NoPlay => k_is); (case ei_NoPlay => k_is); (case eh_NoPlay => exact rfl)
    (case ea_NoQuestion => k_is); (case ei_NoQuestion => k_is); (case eh_NoQuestion => exact rfl)
    (case ea_NoRecord => k_is); (case ei_NoRecord => k_is); (case eh_NoRecord => exact rfl)
    (case ea_NoRoom => k_is); (case ei_NoRoom => k_is); (case eh_NoRoom => exact rfl)
    (case ea_NoSnapshot => k_is); (case ei_NoSnapshot => k_is); (case eh_NoSnapshot => exact rfl)
    (case ea_NoSnapshots => k_is); (case ei_NoSnapshots => k_is); (case eh_NoSnapshots => exact rfl)
    (case ea_NoSpot => k_is); (case ei_NoSpot => k_is); (case eh_NoSpot => exact rfl)
    (case ea_NoTieWord => k_is); (case ei_NoTieWord => k_is); (case eh_NoTieWord => exact rfl)
    (case ea_NoVersion => k_is); (case ei_NoVersion => k_is); (case eh_NoVersion => exact rfl)
    (case ea_NoVersions => k_is); (case ei_NoVersions => k_is); (case eh_NoVersions => exact rfl)
    (case ea_NoWeight => k_is); (case ei_NoWeight => k_is); (case eh_NoWeight => exact rfl)
    (case ea_NoWorth => k_is); (case ei_NoWorth => k_is); (case eh_NoWorth => exact rfl)
    (case ea_NodeThere => k_is); (case ei_NodeThere => k_is); (case eh_NodeThere => exact rfl)
    (case ea_NodeTied => k_is); (case ei_NodeTied => k_is); (case eh_NodeTied => exact rfl)
    (case ea_NotANode => k_is); (case ei_NotANode => k_is); (case eh_NotANode => exact rfl)
    (case ea_NotATie => k_is); (case ei_NotATie => k_is); (case eh_NotATie => exact rfl)
    (case ea_NotKept => k_is); (case ei_NotKept => k_is); (case eh_NotKept => exact rfl)
    (case ea_NotOpen => k_is); (case ei_NotOpen => k_is); (case eh_NotOpen => exact rfl)
    (case ea_NotRemembered => k_is); (case ei_NotRemembered => k_is); (case eh_NotRemembered => exact rfl)
    (case ea_NotSerial => k_is); (case ei_NotSerial => k_is); (case eh_NotSerial => exact rfl)
    (case ea_NotThere => k_is); (case ei_NotThere => k_is); (case eh_NotThere => exact rfl)
    (case ea_NotWhole => k_is); (case ei_NotWhole => k_is); (case eh_NotWhole => exact rfl)
    (case ea_NothingWaits => k_is); (case ei_NothingWaits => k_is); (case eh_NothingWaits => exact rfl)
    (case ea_Over => k_is); (case ei_Over => k_is); (case eh_Over => exact rfl)
    (case ea_Refused => k_is); (case ei_Refused => k_is); (case eh_Refused => exact rfl)
    (case ea_Stopped => k_is); (case ei_Stopped => k_is); (case eh_Stopped => exact rfl)
    (case ea_TieThere => k_is); (case ei_TieThere => k_is); (case eh_TieThere => exact rfl)
    (case ea_TooLarge => k_is); (case ei_TooLarge => k_is); (case eh_TooLarge => exact rfl)
    (case ea_TooMany => k_is); (case ei_TooMany => k_is); (case eh_TooMany => exact rfl)
    (case il => k_is); (case ic => k_is); (case ik => k_is); (case vV => k_is)
    (case il_BadDealing => k_is); (case ic_BadDealing => k_is); (case ik_BadDealing => k_is)
    (case il_BadGraph => k_is); (case ic_BadGraph => k_is); (case ik_BadGraph => k_is)
    (case il_BadHistory => k_is); (case ic_BadHistory => k_is); (case ik_BadHistory => k_is)
    (case il_BadSigns => k_is); (case ic_BadSigns => k_is); (case ik_BadSigns => k_is)
    (case il_NoName => k_is); (case ic_NoName => k_is); (case ik_NoName => k_is)
    (case il_NoPlay => k_is); (case ic_NoPlay => k_is); (case ik_NoPlay => k_is)
    (case il_NoVersions => k_is); (case ic_NoVersions => k_is); (case ik_NoVersions => k_is)
    (case il_NotANode => k_is); (case ic_NotANode => k_is); (case ik_NotANode => k_is)
    (case il_Refused => k_is); (case ic_Refused => k_is); (case ik_Refused => k_is)
    (case il_TooMany => k_is); (case ic_TooMany => k_is); (case ik_TooMany => k_is)
    (case el_BadDealing => k_is); (case eb_BadDealing => decide +kernel); (case es_BadDealing => k_is); (case ex_BadDealing => k_is); (case et_BadDealing => k_is); (case ek_BadDealing => k_is); (case ef_BadDealing => k_is); (case ec_BadDealing => k_is); (case ee_BadDealing => k_is)
    (case el_BadDisk => k_is); (case eb_BadDisk => decide +kernel); (case es_BadDisk => k_is); (case ex_BadDisk => k_is); (case et_BadDisk => k_is); (case ek_BadDisk => k_is); (case ef_BadDisk => k_is); (case ec_BadDisk => k_is); (case ee_BadDisk => k_is)
    (case el_BadGraph => k_is); (case eb_BadGraph => decide +kernel); (case es_BadGraph => k_is); (case ex_BadGraph => k_is); (case et_BadGraph => k_is); (case ek_BadGraph => k_is); (case ef_BadGraph => k_is); (case ec_BadGraph => k_is); (case ee_BadGraph => k_is)
    (case el_BadHistory => k_is); (case eb_BadHistory => decide +kernel); (case es_BadHistory => k_is); (case ex_BadHistory => k_is); (case et_BadHistory => k_is); (case ek_BadHistory => k_is); (case ef_BadHistory => k_is); (case ec_BadHistory => k_is); (case ee_BadHistory => k_is)
    (case el_BadSeen => k_is); (case eb_BadSeen => decide +kernel); (case es_BadSeen => k_is); (case ex_BadSeen => k_is); (case et_BadSeen => k_is); (case ek_BadSeen => k_is); (case ef_BadSeen => k_is); (case ec_BadSeen => k_is); (case ee_BadSeen => k_is)
    (case el_BadSigns => k_is); (case eb_BadSigns => decide +kernel); (case es_BadSigns => k_is); (case ex_BadSigns => k_is); (case et_BadSigns => k_is); (case ek_BadSigns => k_is); (case ef_BadSigns => k_is); (case ec_BadSigns => k_is); (case ee_BadSigns => k_is)
    (case el_BadWrites => k_is); (case eb_BadWrites => decide +kernel); (case es_BadWrites => k_is); (case ex_BadWrites => k_is); (case et_BadWrites => k_is); (case ek_BadWrites => k_is); (case ef_BadWrites => k_is); (case ec_BadWrites => k_is); (case ee_BadWrites => k_is)
    (case el_Ended => k_is); (case eb_Ended => decide +kernel); (case es_Ended => k_is); (case ex_Ended => k_is); (case et_Ended => k_is); (case ek_Ended => k_is); (case ef_Ended => k_is); (case ec_Ended => k_is); (case ee_Ended => k_is)
    (case el_InUse => k_is); (case eb_InUse => decide +kernel); (case es_InUse => k_is); (case ex_InUse => k_is); (case et_InUse => k_is); (case ek_InUse => k_is); (case ef_InUse => k_is); (case ec_InUse => k_is); (case ee_InUse => k_is)
    (case el_LogFull => k_is); (case eb_LogFull => decide +kernel); (case es_LogFull => k_is); (case ex_LogFull => k_is); (case et_LogFull => k_is); (case ek_LogFull => k_is); (case ef_LogFull => k_is); (case ec_LogFull => k_is); (case ee_LogFull => k_is)
    (case el_NoBlock => k_is); (case eb_NoBlock => decide +kernel); (case es_NoBlock => k_is); (case ex_NoBlock => k_is); (case et_NoBlock => k_is); (case ek_NoBlock => k_is); (case ef_NoBlock => k_is); (case ec_NoBlock => k_is); (case ee_NoBlock => k_is)
    (case el_NoChanges => k_is); (case eb_NoChanges => decide +kernel); (case es_NoChanges => k_is); (case ex_NoChanges => k_is); (case et_NoChanges => k_is); (case ek_NoChanges => k_is); (case ef_NoChanges => k_is); (case ec_NoChanges => k_is); (case ee_NoChanges => k_is)
    (case el_NoCommit => k_is); (case eb_NoCommit => decide +kernel); (case es_NoCommit => k_is); (case ex_NoCommit => k_is); (case et_NoCommit => k_is); (case ek_NoCommit => k_is); (case ef_NoCommit => k_is); (case ec_NoCommit => k_is); (case ee_NoCommit => k_is)
    (case el_NoContent => k_is); (case eb_NoContent => decide +kernel); (case es_NoContent => k_is); (case ex_NoContent => k_is); (case et_NoContent => k_is); (case ek_NoContent => k_is); (case ef_NoContent => k_is); (case ec_NoContent => k_is); (case ee_NoContent => k_is)
    (case el_NoDeed => k_is); (case eb_NoDeed => decide +kernel); (case es_NoDeed => k_is); (case ex_NoDeed => k_is); (case et_NoDeed => k_is); (case ek_NoDeed => k_is); (case ef_NoDeed => k_is); (case ec_NoDeed => k_is); (case ee_NoDeed => k_is)
    (case el_NoExpression => k_is); (case eb_NoExpression => decide +kernel); (case es_NoExpression => k_is); (case ex_NoExpression => k_is); (case et_NoExpression => k_is); (case ek_NoExpression => k_is); (case ef_NoExpression => k_is); (case ec_NoExpression => k_is); (case ee_NoExpression => k_is)
    (case el_NoIndex => k_is); (case eb_NoIndex => decide +kernel); (case es_NoIndex => k_is); (case ex_NoIndex => k_is); (case et_NoIndex => k_is); (case ek_NoIndex => k_is); (case ef_NoIndex => k_is); (case ec_NoIndex => k_is); (case ee_NoIndex => k_is)
    (case el_NoItems => k_is); (case eb_NoItems => decide +kernel); (case es_NoItems => k_is); (case ex_NoItems => k_is); (case et_NoItems => k_is); (case ek_NoItems => k_is); (case ef_NoItems => k_is); (case ec_NoItems => k_is); (case ee_NoItems => k_is)
    (case el_NoKey => k_is); (case eb_NoKey => decide +kernel); (case es_NoKey => k_is); (case ex_NoKey => k_is); (case et_NoKey => k_is); (case ek_NoKey => k_is); (case ef_NoKey => k_is); (case ec_NoKey => k_is); (case ee_NoKey => k_is)
    (case el_NoLine => k_is); (case eb_NoLine => decide +kernel); (case es_NoLine => k_is); (case ex_NoLine => k_is); (case et_NoLine => k_is); (case ek_NoLine => k_is); (case ef_NoLine => k_is); (case ec_NoLine => k_is); (case ee_NoLine => k_is)
    (case el_NoLines => k_is); (case eb_NoLines => decide +kernel); (case es_NoLines => k_is); (case ex_NoLines => k_is); (case et_NoLines => k_is); (case ek_NoLines => k_is); (case ef_NoLines => k_is); (case ec_NoLines => k_is); (case ee_NoLines => k_is)
    (case el_NoMark => k_is); (case eb_NoMark => decide +kernel); (case es_NoMark => k_is); (case ex_NoMark => k_is); (case et_NoMark => k_is); (case ek_NoMark => k_is); (case ef_NoMark => k_is); (case ec_NoMark => k_is); (case ee_NoMark => k_is)
    (case el_NoName => k_is); (case eb_NoName => decide +kernel); (case es_NoName => k_is); (case ex_NoName => k_is); (case et_NoName => k_is); (case ek_NoName => k_is); (case ef_NoName => k_is); (case ec_NoName => k_is); (case ee_NoName => k_is)
    (case el_NoNode => k_is); (case eb_NoNode => decide +kernel); (case es_NoNode => k_is); (case ex_NoNode => k_is); (case et_NoNode => k_is); (case ek_NoNode => k_is); (case ef_NoNode => k_is); (case ec_NoNode => k_is); (case ee_NoNode => k_is)
    (case el_NoNote => k_is); (case eb_NoNote => decide +kernel); (case es_NoNote => k_is); (case ex_NoNote => k_is); (case et_NoNote => k_is); (case ek_NoNote => k_is); (case ef_NoNote => k_is); (case ec_NoNote => k_is); (case ee_NoNote => k_is)
    (case el_NoNumber => k_is); (case eb_NoNumber => decide +kernel); (case es_NoNumber => k_is); (case ex_NoNumber => k_is); (case et_NoNumber => k_is); (case ek_NoNumber => k_is); (case ef_NoNumber => k_is); (case ec_NoNumber => k_is); (case ee_NoNumber => k_is)
    (case el_NoOrder => k_is); (case eb_NoOrder => decide +kernel); (case es_NoOrder => k_is); (case ex_NoOrder => k_is); (case et_NoOrder => k_is); (case ek_NoOrder => k_is); (case ef_NoOrder => k_is); (case ec_NoOrder => k_is); (case ee_NoOrder => k_is)
    (case el_NoPage => k_is); (case eb_NoPage => decide +kernel); (case es_NoPage => k_is); (case ex_NoPage => k_is); (case et_NoPage => k_is); (case ek_NoPage => k_is); (case ef_NoPage => k_is); (case ec_NoPage => k_is); (case ee_NoPage => k_is)
    (case el_NoPath => k_is); (case eb_NoPath => decide +kernel); (case es_NoPath => k_is); (case ex_NoPath => k_is); (case et_NoPath => k_is); (case ek_NoPath => k_is); (case ef_NoPath => k_is); (case ec_NoPath => k_is); (case ee_NoPath => k_is)
    (case el_NoPlace => k_is); (case eb_NoPlace => decide +kernel); (case es_NoPlace => k_is); (case ex_NoPlace => k_is); (case et_NoPlace => k_is); (case ek_NoPlace => k_is); (case ef_NoPlace => k_is); (case ec_NoPlace => k_is); (case ee_NoPlace => k_is)
    (case el_NoPlan => k_is); (case eb_NoPlan => decide +kernel); (case es_NoPlan => k_is); (case ex_NoPlan => k_is); (case et_NoPlan => k_is); (case ek_NoPlan => k_is); (case ef_NoPlan => k_is); (case ec_NoPlan => k_is); (case ee_NoPlan => k_is)
    (case el_NoPlay => k_is); (case eb_NoPlay => decide +kernel); (case es_NoPlay => k_is); (case ex_NoPlay => k_is); (case et_NoPlay => k_is); (case ek_NoPlay => k_is); (case ef_NoPlay => k_is); (case ec_NoPlay => k_is); (case ee_NoPlay => k_is)
    (case el_NoQuestion => k_is); (case eb_NoQuestion => decide +kernel); (case es_NoQuestion => k_is); (case ex_NoQuestion => k_is); (case et_NoQuestion => k_is); (case ek_NoQuestion => k_is); (case ef_NoQuestion => k_is); (case ec_NoQuestion => k_is); (case ee_NoQuestion => k_is)
    (case el_NoRecord => k_is); (case eb_NoRecord => decide +kernel); (case es_NoRecord => k_is); (case ex_NoRecord => k_is); (case et_NoRecord => k_is); (case ek_NoRecord => k_is); (case ef_NoRecord => k_is); (case ec_NoRecord => k_is); (case ee_NoRecord => k_is)
    (case el_NoRoom => k_is); (case eb_NoRoom => decide +kernel); (case es_NoRoom => k_is); (case ex_NoRoom => k_is); (case et_NoRoom => k_is); (case ek_NoRoom => k_is); (case ef_NoRoom => k_is); (case ec_NoRoom => k_is); (case ee_NoRoom => k_is)
    (case el_NoSnapshot => k_is); (case eb_NoSnapshot => decide +kernel); (case es_NoSnapshot => k_is); (case ex_NoSnapshot => k_is); (case et_NoSnapshot => k_is); (case ek_NoSnapshot => k_is); (case ef_NoSnapshot => k_is); (case ec_NoSnapshot => k_is); (case ee_NoSnapshot => k_is)
    (case el_NoSnapshots => k_is); (case eb_NoSnapshots => decide +kernel); (case es_NoSnapshots => k_is); (case ex_NoSnapshots => k_is); (case et_NoSnapshots => k_is); (case ek_NoSnapshots => k_is); (case ef_NoSnapshots => k_is); (case ec_NoSnapshots => k_is); (case ee_NoSnapshots => k_is)
    (case el_NoSpot => k_is); (case eb_NoSpot => decide +kernel); (case es_NoSpot => k_is); (case ex_NoSpot => k_is); (case et_NoSpot => k_is); (case ek_NoSpot => k_is); (case ef_NoSpot => k_is); (case ec_NoSpot => k_is); (case ee_NoSpot => k_is)
    (case el_NoTieWord => k_is); (case eb_NoTieWord => decide +kernel); (case es_NoTieWord => k_is); (case ex_NoTieWord => k_is); (case et_NoTieWord => k_is); (case ek_NoTieWord => k_is); (case ef_NoTieWord => k_is); (case ec_NoTieWord => k_is); (case ee_NoTieWord => k_is)
    (case el_NoVersion => k_is); (case eb_NoVersion => decide +kernel); (case es_NoVersion => k_is); (case ex_NoVersion => k_is); (case et_NoVersion => k_is); (case ek_NoVersion => k_is); (case ef_NoVersion => k_is); (case ec_NoVersion => k_is); (case ee_NoVersion => k_is)
    (case el_NoVersions => k_is); (case eb_NoVersions => decide +kernel); (case es_NoVersions => k_is); (case ex_NoVersions => k_is); (case et_NoVersions => k_is); (case ek_NoVersions => k_is); (case ef_NoVersions => k_is); (case ec_NoVersions => k_is); (case ee_NoVersions => k_is)
    (case el_NoWeight => k_is); (case eb_NoWeight => decide +kernel); (case es_NoWeight => k_is); (case ex_NoWeight => k_is); (case et_NoWeight => k_is); (case ek_NoWeight => k_is); (case ef_NoWeight => k_is); (case ec_NoWeight => k_is); (case ee_NoWeight => k_is)
    (case el_NoWorth => k_is); (case eb_NoWorth => decide +kernel); (case es_NoWorth => k_is); (case ex_NoWorth => k_is); (case et_NoWorth => k_is); (case ek_NoWorth => k_is); (case ef_NoWorth => k_is); (case ec_NoWorth => k_is); (case ee_NoWorth => k_is)
    (case el_NodeThere => k_is); (case eb_NodeThere => decide +kernel); (case es_NodeThere => k_is); (case ex_NodeThere => k_is); (case et_NodeThere => k_is); (case ek_NodeThere => k_is); (case ef_NodeThere => k_is); (case ec_NodeThere => k_is); (case ee_NodeThere => k_is)
    (case el_NodeTied => k_is); (case eb_NodeTied => decide +kernel); (case es_NodeTied => k_is); (case ex_NodeTied => k_is); (case et_NodeTied => k_is); (case ek_NodeTied => k_is); (case ef_NodeTied => k_is); (case ec_NodeTied => k_is); (case ee_NodeTied => k_is)
    (case el_NotANode => k_is); (case eb_NotANode => decide +kernel); (case es_NotANode => k_is); (case ex_NotANode => k_is); (case et_NotANode => k_is); (case ek_NotANode => k_is); (case ef_NotANode => k_is); (case ec_NotANode => k_is); (case ee_NotANode => k_is)
    (case el_NotATie => k_is); (case eb_NotATie => decide +kernel); (case es_NotATie => k_is); (case ex_NotATie => k_is); (case et_NotATie => k_is); (case ek_NotATie => k_is); (case ef_NotATie => k_is); (case ec_NotATie => k_is); (case ee_NotATie => k_is)
    (case el_NotKept => k_is); (case eb_NotKept => decide +kernel); (case es_NotKept => k_is); (case ex_NotKept => k_is); (case et_NotKept => k_is); (case ek_NotKept => k_is); (case ef_NotKept => k_is); (case ec_NotKept => k_is); (case ee_NotKept => k_is)
    (case el_NotOpen => k_is); (case eb_NotOpen => decide +kernel); (case es_NotOpen => k_is); (case ex_NotOpen => k_is); (case et_NotOpen => k_is); (case ek_NotOpen => k_is); (case ef_NotOpen => k_is); (case ec_NotOpen => k_is); (case ee_NotOpen => k_is)
    (case el_NotRemembered => k_is); (case eb_NotRemembered => decide +kernel); (case es_NotRemembered => k_is); (case ex_NotRemembered => k_is); (case et_NotRemembered => k_is); (case ek_NotRemembered => k_is); (case ef_NotRemembered => k_is); (case ec_NotRemembered => k_is); (case ee_NotRemembered => k_is)
    (case el_NotSerial => k_is); (case eb_NotSerial => decide +kernel); (case es_NotSerial => k_is); (case ex_NotSerial => k_is); (case et_NotSerial => k_is); (case ek_NotSerial => k_is); (case ef_NotSerial => k_is); (case ec_NotSerial => k_is); (case ee_NotSerial => k_is)
    (case el_NotThere => k_is); (case eb_NotThere => decide +kernel); (case es_NotThere => k_is); (case ex_NotThere => k_is); (case et_NotThere => k_is); (case ek_NotThere => k_is); (case ef_NotThere => k_is); (case ec_NotThere => k_is); (case ee_NotThere => k_is)
    (case el_NotWhole => k_is); (case eb_NotWhole => decide +kernel); (case es_NotWhole => k_is); (case ex_NotWhole => k_is); (case et_NotWhole => k_is); (case ek_NotWhole => k_is); (case ef_NotWhole => k_is); (case ec_NotWhole => k_is); (case ee_NotWhole => k_is)
    (case el_NothingWaits => k_is); (case eb_NothingWaits => decide +kernel); (case es_NothingWaits => k_is); (case ex_NothingWaits => k_is); (case et_NothingWaits => k_is); (case ek_NothingWaits => k_is); (case ef_NothingWaits => k_is); (case ec_NothingWaits => k_is); (case ee_NothingWaits => k_is)
    (case el_Over => k_is); (case eb_Over => decide +kernel); (case es_Over => k_is); (case ex_Over => k_is); (case et_Over => k_is); (case ek_Over => k_is); (case ef_Over => k_is); (case ec_Over => k_is); (case ee_Over => k_is)
    (case el_Refused => k_is); (case eb_Refused => decide +kernel); (case es_Refused => k_is); (case ex_Refused => k_is); (case et_Refused => k_is); (case ek_Refused => k_is); (case ef_Refused => k_is); (case ec_Refused => k_is); (case ee_Refused => k_is)
    (case el_Stopped => k_is); (case eb_Stopped => decide +kernel); (case es_Stopped => k_is); (case ex_Stopped => k_is); (case et_Stopped => k_is); (case ek_Stopped => k_is); (case ef_Stopped => k_is); (case ec_Stopped => k_is); (case ee_Stopped => k_is)
    (case el_TieThere => k_is); (case eb_TieThere => decide +kernel); (case es_TieThere => k_is); (case ex_TieThere => k_is); (case et_TieThere => k_is); (case ek_TieThere => k_is); (case ef_TieThere => k_is); (case ec_TieThere => k_is); (case ee_TieThere => k_is)
    (case el_TooLarge => k_is); (case eb_TooLarge => decide +kernel); (case es_TooLarge => k_is); (case ex_TooLarge => k_is); (case et_TooLarge => k_is); (case ek_TooLarge => k_is); (case ef_TooLarge => k_is); (case ec_TooLarge => k_is); (case ee_TooLarge => k_is)
    (case el_TooMany => k_is); (case eb_TooMany => decide +kernel); (case es_TooMany => k_is); (case ex_TooMany => k_is); (case et_TooMany => k_is); (case ek_TooMany => k_is); (case ef_TooMany => k_is); (case ec_TooMany => k_is); (case ee_TooMany => k_is)
    (case gn_StoreError => k_is)
    (case a0 => k_is); (case l0 => k_is); (case c0 => k_is); (case k0 => k_is)
    (case a1 => k_is); (case l1 => k_is); (case c1 => k_is); (case k1 => k_is)
    (case a2 => k_is); (case l2 => k_is); (case c2 => k_is); (case k2 => k_is)
    (case a3 => k_is); (case l3 => k_is); (case c3 => k_is); (case k3 => k_is)
    (case a4 => k_is); (case l4 => k_is); (case c4 => k_is); (case k4 => k_is)
    (case a5 => k_is); (case l5 => k_is); (case c5 => k_is); (case k5 => k_is)
    (case a6 => k_is); (case l6 => k_is); (case c6 => k_is); (case k6 => k_is)
    (case z_ValueError => k_is)
    (case z_abs => k_is)
    (case z_int => k_is)
    (case z_isinstance => k_is)
    (case z_len => k_is)
    (case z_range => k_is)
    (case z_repr => k_is)
    (case z_set => k_is)
    (case fa_BadDealing_part => (try dsimp only [Vw.excAt_mk, Vw.gRef_mk]); k_is); (case xq1_BadDealing => (try dsimp only [Vw.excAt_mk, Vw.gRef_mk]); k_is); (case xq2_BadDealing => (try dsimp only [Vw.excAt_mk, Vw.gRef_mk]); k_is); (case xq3_BadDealing => (try dsimp only [Vw.excAt_mk, Vw.gRef_mk]); k_is); (case xq4_BadDealing => (try dsimp only [Vw.excAt_mk, Vw.gRef_mk]); k_is)
    (case fa_BadGraph_part => (try dsimp only [Vw.excAt_mk, Vw.gRef_mk]); k_is); (case xq1_BadGraph => (try dsimp only [Vw.excAt_mk, Vw.gRef_mk]); k_is); (case xq2_BadGraph => (try dsimp only [Vw.excAt_mk, Vw.gRef_mk]); k_is); (case xq3_BadGraph => (try dsimp only [Vw.excAt_mk, Vw.gRef_mk]); k_is); (case xq4_BadGraph => (try dsimp only [Vw.excAt_mk, Vw.gRef_mk]); k_is)
    (case fa_BadHistory_index => (try dsimp only [Vw.excAt_mk, Vw.gRef_mk]); k_is); (case xq1_BadHistory => (try dsimp only [Vw.excAt_mk, Vw.gRef_mk]); k_is); (case xq2_BadHistory => (try dsimp only [Vw.excAt_mk, Vw.gRef_mk]); k_is); (case xq3_BadHistory => (try dsimp only [Vw.excAt_mk, Vw.gRef_mk]); k_is); (case xq4_BadHistory => (try dsimp only [Vw.excAt_mk, Vw.gRef_mk]); k_is)
    (case fa_BadSigns_at => (try dsimp only [Vw.excAt_mk, Vw.gRef_mk]); k_is); (case xq1_BadSigns => (try dsimp only [Vw.excAt_mk, Vw.gRef_mk]); k_is); (case xq2_BadSigns => (try dsimp only [Vw.excAt_mk, Vw.gRef_mk]); k_is); (case xq3_BadSigns => (try dsimp only [Vw.excAt_mk, Vw.gRef_mk]); k_is); (case xq4_BadSigns => (try dsimp only [Vw.excAt_mk, Vw.gRef_mk]); k_is)
    (case fa_NoName_name => (try dsimp only [Vw.excAt_mk, Vw.gRef_mk]); k_is); (case xq1_NoName => (try dsimp only [Vw.excAt_mk, Vw.gRef_mk]); k_is); (case xq2_NoName => (try dsimp only [Vw.excAt_mk, Vw.gRef_mk]); k_is); (case xq3_NoName => (try dsimp only [Vw.excAt_mk, Vw.gRef_mk]); k_is); (case xq4_NoName => (try dsimp only [Vw.excAt_mk, Vw.gRef_mk]); k_is)
    (case fa_NoPlay_part => (try dsimp only [Vw.excAt_mk, Vw.gRef_mk]); k_is); (case xq1_NoPlay => (try dsimp only [Vw.excAt_mk, Vw.gRef_mk]); k_is); (case xq2_NoPlay => (try dsimp only [Vw.excAt_mk, Vw.gRef_mk]); k_is); (case xq3_NoPlay => (try dsimp only [Vw.excAt_mk, Vw.gRef_mk]); k_is); (case xq4_NoPlay => (try dsimp only [Vw.excAt_mk, Vw.gRef_mk]); k_is)
    (case fa_NoVersions_index => (try dsimp only [Vw.excAt_mk, Vw.gRef_mk]); k_is); (case xq1_NoVersions => (try dsimp only [Vw.excAt_mk, Vw.gRef_mk]); k_is); (case xq2_NoVersions => (try dsimp only [Vw.excAt_mk, Vw.gRef_mk]); k_is); (case xq3_NoVersions => (try dsimp only [Vw.excAt_mk, Vw.gRef_mk]); k_is); (case xq4_NoVersions => (try dsimp only [Vw.excAt_mk, Vw.gRef_mk]); k_is)
    (case fa_NotANode_name => (try dsimp only [Vw.excAt_mk, Vw.gRef_mk]); k_is); (case xq1_NotANode => (try dsimp only [Vw.excAt_mk, Vw.gRef_mk]); k_is); (case xq2_NotANode => (try dsimp only [Vw.excAt_mk, Vw.gRef_mk]); k_is); (case xq3_NotANode => (try dsimp only [Vw.excAt_mk, Vw.gRef_mk]); k_is); (case xq4_NotANode => (try dsimp only [Vw.excAt_mk, Vw.gRef_mk]); k_is)
    (case fa_Refused_ring => (try dsimp only [Vw.excAt_mk, Vw.gRef_mk]); k_is); (case xq1_Refused => (try dsimp only [Vw.excAt_mk, Vw.gRef_mk]); k_is); (case xq2_Refused => (try dsimp only [Vw.excAt_mk, Vw.gRef_mk]); k_is); (case xq3_Refused => (try dsimp only [Vw.excAt_mk, Vw.gRef_mk]); k_is); (case xq4_Refused => (try dsimp only [Vw.excAt_mk, Vw.gRef_mk]); k_is)
    (case fa_TooMany_most => (try dsimp only [Vw.excAt_mk, Vw.gRef_mk]); k_is); (case xq1_TooMany => (try dsimp only [Vw.excAt_mk, Vw.gRef_mk]); k_is); (case xq2_TooMany => (try dsimp only [Vw.excAt_mk, Vw.gRef_mk]); k_is); (case xq3_TooMany => (try dsimp only [Vw.excAt_mk, Vw.gRef_mk]); k_is); (case xq4_TooMany => (try dsimp only [Vw.excAt_mk, Vw.gRef_mk]); k_is)
    (case sy1 => k_is); (case sy2 => exact rfl)
    (case F_xs => dsimp only [Vw.excAt_mk, Vw.gRef_mk]; kernel_rfl)
    (case F_kt => dsimp only [Vw.excAt_mk, Vw.gRef_mk]; kernel_rfl)
    (case F_ks => dsimp only [Vw.excAt_mk, Vw.gRef_mk]; kernel_rfl)
    (case F_kv => dsimp only [Vw.excAt_mk, Vw.gRef_mk]; kernel_rfl)

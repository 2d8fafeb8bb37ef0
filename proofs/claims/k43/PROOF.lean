import PyProof.Rows.All
import Wide.All
import OpenK.AllK
import Wide.FinOn
import KE.OsRunLaw
import HandS.ForMost
import HandS.IsInst
import HandS.SortInts
import HandS.DictComp
import HandS.Rev
import HandS.Strs
import HandS.SetFor
import HandS.Wide
import HandS.TupAny
import HandS.Evl
import KE.GoesEnum
import HandS.Walk
import HandS.Style
import HandS.Zip
import HandS.Zip0
import HandS.WordsDict
import HandS.Dict
import HandS.StrMore
import HandS.SetKeys
import HandS.Text
import HandS.ExcInit
import HandS.ExcOwn
import HandS.WordsExc
import HandS.TryOnly
import HandS.Small
import HandS.Codes
import PyProof.AutoSeq1
import HandS.Lambda
import HandS.TryMany
import HandS.EndOwn
import KE.KNest
import HandS.More
import HandS.ExcIs
import HandS.TupMul
import PyProof.StrOps2
import HandS.ListEq
import HandS.DictEq
import HandS.DeepEq
import HandS.Comp
import PyProof.Rows.ListMulArg
import PyProof.ReprRoads
import HandS.ListItems
import PyProof.DictUpdate
import HandS.ExcField
import PyProof.Rows.ReprOcc
import HandS.Conv
import PySem.Challenge.RW_wholeways_k43_versions_and_snapshots_ref
set_option Elab.async false
set_option linter.all false
set_option maxRecDepth 100000
set_option maxHeartbeats 0
namespace HeadRun
open PySem PySem.W PySem.Calls PyProof.Rows
/-- the program; what the head keeps of its top; the names that it leaves loose -/
abbrev p0 : Program := PySem.Challenge.pw_wholeways_k43_versions_and_snapshots_ref
def q0 : Program := { p0 with main := { p0.main with body := [1, 2, 3, 4, 5, 7, 8, 9, 10, 11, 12, 13, 14, 15, 17, 18, 19, 20, 21, 22, 23, 24, 25, 26, 27, 28, 29, 31, 32, 33, 34, 35, 36, 37, 38, 39, 40, 41, 42, 43, 44, 45, 46, 47].filterMap fun i : Nat => p0.main.body[i]? } }
def l0 : List PySem.Str := ["GREATEST_WORTH", "GREATEST_COMMIT"]
def lw0 : List PySem.Str := ["GREATEST_WORTH", "GREATEST_COMMIT"]
abbrev steps0 : Nat := 4706
noncomputable abbrev end0 (w : World) (os : OsState) : Option SharedT := endF (stepQ (denQ tabQ) p0 w) steps0 p0 w os
noncomputable abbrev seen0 (Xt : Shared → Bool) (s : SharedT) := seenQ q0 l0 (importedModules p0.main.body) Xt s.abs
abbrev X0 : Shared → Bool := fun s => xlAt q0 [("GREATEST_WORTH", WData.int 1000000000000000000), ("GREATEST_COMMIT", WData.int 1000000000000000000)] s && recOk (RowW.records (OpenRow.toRowW (OpenLaw.row PySem.Challenge.rw_wholeways_k43_versions_and_snapshots_ref))) s
theorem lwT : PySem.W.Fast.tw821141287760084731 q0 l0 = lw0 := by kernel_rfl
theorem lwE : looseW q0 l0 = lw0 := (congrFun (congrFun PySem.W.Fast.te821141287760084731 q0) l0).trans lwT
def hT (i : Nat) : Stmt := p0.main.body.getD i (.Pass ⟨0, 0, 0, 0⟩)
/-- the part of the heap that the walk reads -/
def K0 : Params → Frag := fun P => (nat_lit 2, ⟨.none, none, (.dict #[] 0), #[]⟩) ::
(nat_lit 3, ⟨(.type "dict"), none, (.dict (List.toArray (α := DictEntry) (⟨PyData.keyHash P (.ofString "__name__"), (.str (.ofString "__name__") 165), (.str (.ofString "law_wholeways_k43_versions_and_snapshots_ref") 450)⟩ :: ⟨PyData.keyHash P (.ofString "__doc__"), (.str (.ofString "__doc__") 166), .none⟩ :: ⟨PyData.keyHash P (.ofString "__package__"), (.str (.ofString "__package__") 167), .none⟩ :: ⟨PyData.keyHash P (.ofString "__loader__"), (.str (.ofString "__loader__") 168), (.builtin "__main__.__loader__#opaque")⟩ :: ⟨PyData.keyHash P (.ofString "__spec__"), (.str (.ofString "__spec__") 169), .none⟩ :: ⟨PyData.keyHash P (.ofString "__annotations__"), (.str (.ofString "__annotations__") 170), (.ref 6)⟩ :: ⟨PyData.keyHash P (.ofString "__builtins__"), (.str (.ofString "__builtins__") 171), (.ref 4)⟩ :: ⟨PyData.keyHash P (.ofString "__file__"), (.str (.ofString "__file__") 173), (.str (.ofString "/claim/cut.py") 172)⟩ :: ⟨PyData.keyHash P (.ofString "__cached__"), (.str (.ofString "__cached__") 174), .none⟩ :: ⟨PyData.keyHash P (.ofString "StoreError"), (.str (.ofString "StoreError") 213), (.ref 31)⟩ :: ⟨PyData.keyHash P (.ofString "NoNumber"), (.str (.ofString "NoNumber") 229), (.ref 44)⟩ :: ⟨PyData.keyHash P (.ofString "NoSnapshots"), (.str (.ofString "NoSnapshots") 245), (.ref 56)⟩ :: ⟨PyData.keyHash P (.ofString "NoVersion"), (.str (.ofString "NoVersion") 261), (.ref 68)⟩ :: ⟨PyData.keyHash P (.ofString "NoVersions"), (.str (.ofString "NoVersions") 286), (.ref 87)⟩ :: ⟨PyData.keyHash P (.ofString "GREATEST_WORTH"), (.str (.ofString "GREATEST_WORTH") 292), (.int (1000000000000000000) 291)⟩ :: ⟨PyData.keyHash P (.ofString "GREATEST_COMMIT"), (.str (.ofString "GREATEST_COMMIT") 296), (.int (1000000000000000000) 295)⟩ :: ⟨PyData.keyHash P (.ofString "is_integer"), (.str (.ofString "is_integer") 303), (.ref 96)⟩ :: ⟨PyData.keyHash P (.ofString "is_within"), (.str (.ofString "is_within") 312), (.ref 103)⟩ :: ⟨PyData.keyHash P (.ofString "is_number"), (.str (.ofString "is_number") 319), (.ref 110)⟩ :: ⟨PyData.keyHash P (.ofString "is_worth"), (.str (.ofString "is_worth") 326), (.ref 117)⟩ :: ⟨PyData.keyHash P (.ofString "is_mark"), (.str (.ofString "is_mark") 333), (.ref 124)⟩ :: ⟨PyData.keyHash P (.ofString "is_ascending"), (.str (.ofString "is_ascending") 339), (.ref 129)⟩ :: ⟨PyData.keyHash P (.ofString "is_lot"), (.str (.ofString "is_lot") 345), (.ref 134)⟩ :: ⟨PyData.keyHash P (.ofString "is_version"), (.str (.ofString "is_version") 354), (.ref 141)⟩ :: ⟨PyData.keyHash P (.ofString "need_versions"), (.str (.ofString "need_versions") 363), (.ref 148)⟩ :: ⟨PyData.keyHash P (.ofString "need_last"), (.str (.ofString "need_last") 371), (.ref 155)⟩ :: ⟨PyData.keyHash P (.ofString "need_snapshots"), (.str (.ofString "need_snapshots") 379), (.ref 162)⟩ :: ⟨PyData.keyHash P (.ofString "need_all"), (.str (.ofString "need_all") 388), (.ref 169)⟩ :: ⟨PyData.keyHash P (.ofString "asked_of"), (.str (.ofString "asked_of") 396), (.ref 176)⟩ :: ⟨PyData.keyHash P (.ofString "seen_each"), (.str (.ofString "seen_each") 407), (.ref 183)⟩ :: ⟨PyData.keyHash P (.ofString "needed"), (.str (.ofString "needed") 416), (.ref 190)⟩ :: ⟨PyData.keyHash P (.ofString "needed_commits"), (.str (.ofString "needed_commits") 422), (.ref 195)⟩ :: ⟨PyData.keyHash P (.ofString "is_kept_right"), (.str (.ofString "is_kept_right") 428), (.ref 200)⟩ :: ⟨PyData.keyHash P (.ofString "is_same"), (.str (.ofString "is_same") 436), (.ref 207)⟩ :: ⟨PyData.keyHash P (.ofString "harm"), (.str (.ofString "harm") 442), (.ref 212)⟩ :: ⟨PyData.keyHash P (.ofString "told"), (.str (.ofString "told") 449), (.ref 219)⟩ :: ⟨PyData.keyHash P (.ofString "_law_mixed"), (.str (.ofString "_law_mixed") 460), (.ref 226)⟩ :: ⟨PyData.keyHash P (.ofString "_law_bag"), (.str (.ofString "_law_bag") 466), (.ref 231)⟩ :: ⟨PyData.keyHash P (.ofString "_law_draw"), (.str (.ofString "_law_draw") 478), (.ref 238)⟩ :: ⟨PyData.keyHash P (.ofString "_law_versions"), (.str (.ofString "_law_versions") 484), (.ref 243)⟩ :: ⟨PyData.keyHash P (.ofString "_law_open"), (.str (.ofString "_law_open") 496), (.ref 250)⟩ :: ⟨PyData.keyHash P (.ofString "_law_spoiled_versions"), (.str (.ofString "_law_spoiled_versions") 510), (.ref 257)⟩ :: ⟨PyData.keyHash P (.ofString "_law_spoiled_open"), (.str (.ofString "_law_spoiled_open") 521), (.ref 264)⟩ :: ⟨PyData.keyHash P (.ofString "_law_is_within"), (.str (.ofString "_law_is_within") 530), (.ref 271)⟩ :: ⟨PyData.keyHash P (.ofString "_law_first_bad"), (.str (.ofString "_law_first_bad") 539), (.ref 278)⟩ :: ⟨PyData.keyHash P (.ofString "_law_is_lot"), (.str (.ofString "_law_is_lot") 549), (.ref 285)⟩ :: ⟨PyData.keyHash P (.ofString "_law_refusal"), (.str (.ofString "_law_refusal") 555), (.ref 290)⟩ :: ⟨PyData.keyHash P (.ofString "_law_needed"), (.str (.ofString "_law_needed") 568), (.ref 297)⟩ :: ⟨PyData.keyHash P (.ofString "_law_read"), (.str (.ofString "_law_read") 577), (.ref 304)⟩ :: ⟨PyData.keyHash P (.ofString "_law_value"), (.str (.ofString "_law_value") 583), (.ref 309)⟩ :: ⟨PyData.keyHash P (.ofString "_law_asked"), (.str (.ofString "_law_asked") 596), (.ref 316)⟩ :: ⟨PyData.keyHash P (.ofString "_law_is_met"), (.str (.ofString "_law_is_met") 612), (.ref 323)⟩ :: ⟨PyData.keyHash P (.ofString "law"), (.str (.ofString "law") 628), (.ref 330)⟩ :: [])) 53), #[]⟩) ::
(nat_lit 15, ⟨(.type "tuple"), none, (.seq #[(.type "ValueError")] 0), #[]⟩) ::
(nat_lit 22, ⟨(.type "tuple"), none, (.seq #[] 0), #[]⟩) ::
(nat_lit 24, ⟨(.type "tuple"), none, (.seq #[(.str (.ofString "self") 204)] 0), #[]⟩) ::
(nat_lit 25, ⟨(.type "tuple"), none, (.seq #[] 0), #[]⟩) ::
(nat_lit 27, ⟨(.type "code"), none, (.fields #[(.str (.ofString "__init__") 201), (.str (.ofString "StoreError.__init__") 202), (.str (.ofString "/claim/cut.py") 203), (.int (4) 0), (.int (1) 0), (.int (0) 0), (.int (0) 0), (.int (3) 0), (.ref 22), (.bool true), (.int (181) 0), (.ref 23), .none, (.ref 24), (.ref 25), (.ref 26), (.int (205) 0), (.int (4) 0), (.str (.ofString "/claim/cut.py") 206)]), #[]⟩) ::
(nat_lit 28, ⟨(.type "function"), none, (.func ⟨.ofString "__init__", .ofString "StoreError.__init__", L2.defArgs (L2.inClass (hT 1) 0), .stmts (L2.defBody (L2.inClass (hT 1) 0)), L2.defScope (L2.inClass (hT 1) 0), 3, [], .none, .none, .none, (.str (.ofString "wholeways.errors") 187), none, (.ref 27), .none, 0⟩), #[]⟩) ::
(nat_lit 29, ⟨(.type "tuple"), none, (.seq #[] 0), #[]⟩) ::
(nat_lit 30, ⟨(.type "dict"), none, (.dict #[⟨PyData.keyHash P (.ofString "__module__"), (.str (.ofString "__module__") 196), (.str (.ofString "wholeways.errors") 187)⟩, ⟨PyData.keyHash P (.ofString "__firstlineno__"), (.str (.ofString "__firstlineno__") 200), (.int (2) 199)⟩, ⟨PyData.keyHash P (.ofString "__init__"), (.str (.ofString "__init__") 207), (.ref 28)⟩, ⟨PyData.keyHash P (.ofString "__static_attributes__"), (.str (.ofString "__static_attributes__") 208), (.ref 29)⟩, ⟨PyData.keyHash P (.ofString "__weakref__"), (.str (.ofString "__weakref__") 210), (.ref 32)⟩, ⟨PyData.keyHash P (.ofString "__doc__"), (.str (.ofString "__doc__") 211), .none⟩] 3), #[]⟩) ::
(nat_lit 31, ⟨(.type "type"), none, (.cls ⟨.ofString "StoreError", [(.type "ValueError")], [(.ref 31), (.type "ValueError"), (.type "Exception"), (.type "BaseException"), (.type "object")], 30, .ofString "StoreError", true, [], [(.ref 44), (.ref 56), (.ref 68), (.ref 87)], false, none, false⟩), #[(some (.ref 15)), none, (some (.str (.ofString "StoreError") 189)), (some (.str (.ofString "StoreError") 197)), (some (.builtin "ValueError.__new__")), (some (.bool true))]⟩) ::
(nat_lit 32, ⟨(.type "getset_descriptor"), none, (.fields #[(.str (.ofString "__weakref__") 209), (.ref 31), (.builtin "ExceptionGroup.__weakref__"), .none]), #[]⟩) ::
(nat_lit 35, ⟨(.type "tuple"), none, (.seq #[(.ref 31)] 0), #[]⟩) ::
(nat_lit 42, ⟨(.type "tuple"), none, (.seq #[] 0), #[]⟩) ::
(nat_lit 43, ⟨(.type "dict"), none, (.dict #[⟨PyData.keyHash P (.ofString "__module__"), (.str (.ofString "__module__") 221), (.str (.ofString "wholeways.errors") 187)⟩, ⟨PyData.keyHash P (.ofString "__firstlineno__"), (.str (.ofString "__firstlineno__") 225), (.int (6) 224)⟩, ⟨PyData.keyHash P (.ofString "__static_attributes__"), (.str (.ofString "__static_attributes__") 226), (.ref 42)⟩, ⟨PyData.keyHash P (.ofString "__doc__"), (.str (.ofString "__doc__") 227), .none⟩] 2), #[]⟩) ::
(nat_lit 44, ⟨(.type "type"), none, (.cls ⟨.ofString "NoNumber", [(.ref 31)], [(.ref 44), (.ref 31), (.type "ValueError"), (.type "Exception"), (.type "BaseException"), (.type "object")], 43, .ofString "NoNumber", true, [], [], false, none, false⟩), #[(some (.ref 35)), none, (some (.str (.ofString "NoNumber") 214)), (some (.str (.ofString "NoNumber") 222)), (some (.builtin "ValueError.__new__")), (some (.bool true))]⟩) ::
(nat_lit 47, ⟨(.type "tuple"), none, (.seq #[(.ref 31)] 0), #[]⟩) ::
(nat_lit 54, ⟨(.type "tuple"), none, (.seq #[] 0), #[]⟩) ::
(nat_lit 55, ⟨(.type "dict"), none, (.dict #[⟨PyData.keyHash P (.ofString "__module__"), (.str (.ofString "__module__") 237), (.str (.ofString "wholeways.errors") 187)⟩, ⟨PyData.keyHash P (.ofString "__firstlineno__"), (.str (.ofString "__firstlineno__") 241), (.int (8) 240)⟩, ⟨PyData.keyHash P (.ofString "__static_attributes__"), (.str (.ofString "__static_attributes__") 242), (.ref 54)⟩, ⟨PyData.keyHash P (.ofString "__doc__"), (.str (.ofString "__doc__") 243), .none⟩] 2), #[]⟩) ::
(nat_lit 56, ⟨(.type "type"), none, (.cls ⟨.ofString "NoSnapshots", [(.ref 31)], [(.ref 56), (.ref 31), (.type "ValueError"), (.type "Exception"), (.type "BaseException"), (.type "object")], 55, .ofString "NoSnapshots", true, [], [], false, none, false⟩), #[(some (.ref 47)), none, (some (.str (.ofString "NoSnapshots") 230)), (some (.str (.ofString "NoSnapshots") 238)), (some (.builtin "ValueError.__new__")), (some (.bool true))]⟩) ::
(nat_lit 59, ⟨(.type "tuple"), none, (.seq #[(.ref 31)] 0), #[]⟩) ::
(nat_lit 66, ⟨(.type "tuple"), none, (.seq #[] 0), #[]⟩) ::
(nat_lit 67, ⟨(.type "dict"), none, (.dict #[⟨PyData.keyHash P (.ofString "__module__"), (.str (.ofString "__module__") 253), (.str (.ofString "wholeways.errors") 187)⟩, ⟨PyData.keyHash P (.ofString "__firstlineno__"), (.str (.ofString "__firstlineno__") 257), (.int (10) 256)⟩, ⟨PyData.keyHash P (.ofString "__static_attributes__"), (.str (.ofString "__static_attributes__") 258), (.ref 66)⟩, ⟨PyData.keyHash P (.ofString "__doc__"), (.str (.ofString "__doc__") 259), .none⟩] 2), #[]⟩) ::
(nat_lit 68, ⟨(.type "type"), none, (.cls ⟨.ofString "NoVersion", [(.ref 31)], [(.ref 68), (.ref 31), (.type "ValueError"), (.type "Exception"), (.type "BaseException"), (.type "object")], 67, .ofString "NoVersion", true, [], [], false, none, false⟩), #[(some (.ref 59)), none, (some (.str (.ofString "NoVersion") 246)), (some (.str (.ofString "NoVersion") 254)), (some (.builtin "ValueError.__new__")), (some (.bool true))]⟩) ::
(nat_lit 71, ⟨(.type "tuple"), none, (.seq #[(.ref 31)] 0), #[]⟩) ::
(nat_lit 78, ⟨(.type "tuple"), none, (.seq #[] 0), #[]⟩) ::
(nat_lit 80, ⟨(.type "tuple"), none, (.seq #[(.str (.ofString "self") 277), (.str (.ofString "index") 278)] 0), #[]⟩) ::
(nat_lit 81, ⟨(.type "tuple"), none, (.seq #[] 0), #[]⟩) ::
(nat_lit 83, ⟨(.type "code"), none, (.fields #[(.str (.ofString "__init__") 274), (.str (.ofString "NoVersions.__init__") 275), (.str (.ofString "/claim/cut.py") 276), (.int (14) 0), (.int (2) 0), (.int (0) 0), (.int (0) 0), (.int (3) 0), (.ref 78), (.bool true), (.int (181) 0), (.ref 79), .none, (.ref 80), (.ref 81), (.ref 82), (.int (279) 0), (.int (14) 0), (.str (.ofString "/claim/cut.py") 280)]), #[]⟩) ::
(nat_lit 84, ⟨(.type "function"), none, (.func ⟨.ofString "__init__", .ofString "NoVersions.__init__", L2.defArgs (L2.inClass (hT 5) 0), .stmts (L2.defBody (L2.inClass (hT 5) 0)), L2.defScope (L2.inClass (hT 5) 0), 3, [], .none, .none, .none, (.str (.ofString "wholeways.errors") 187), none, (.ref 83), .none, 0⟩), #[]⟩) ::
(nat_lit 85, ⟨(.type "tuple"), none, (.seq #[(.str (.ofString "index") 282)] 0), #[]⟩) ::
(nat_lit 86, ⟨(.type "dict"), none, (.dict #[⟨PyData.keyHash P (.ofString "__module__"), (.str (.ofString "__module__") 269), (.str (.ofString "wholeways.errors") 187)⟩, ⟨PyData.keyHash P (.ofString "__firstlineno__"), (.str (.ofString "__firstlineno__") 273), (.int (12) 272)⟩, ⟨PyData.keyHash P (.ofString "__init__"), (.str (.ofString "__init__") 281), (.ref 84)⟩, ⟨PyData.keyHash P (.ofString "__static_attributes__"), (.str (.ofString "__static_attributes__") 283), (.ref 85)⟩, ⟨PyData.keyHash P (.ofString "__doc__"), (.str (.ofString "__doc__") 284), .none⟩] 2), #[]⟩) ::
(nat_lit 87, ⟨(.type "type"), none, (.cls ⟨.ofString "NoVersions", [(.ref 31)], [(.ref 87), (.ref 31), (.type "ValueError"), (.type "Exception"), (.type "BaseException"), (.type "object")], 86, .ofString "NoVersions", true, [], [], false, none, false⟩), #[(some (.ref 71)), none, (some (.str (.ofString "NoVersions") 262)), (some (.str (.ofString "NoVersions") 270)), (some (.builtin "ValueError.__new__")), (some (.bool true))]⟩) ::
(nat_lit 90, ⟨(.type "tuple"), none, (.seq #[] 0), #[]⟩) ::
(nat_lit 92, ⟨(.type "tuple"), none, (.seq #[(.str (.ofString "thing") 300)] 0), #[]⟩) ::
(nat_lit 93, ⟨(.type "tuple"), none, (.seq #[] 0), #[]⟩) ::
(nat_lit 95, ⟨(.type "code"), none, (.fields #[(.str (.ofString "is_integer") 297), (.str (.ofString "is_integer") 298), (.str (.ofString "/claim/cut.py") 299), (.int (19) 0), (.int (1) 0), (.int (0) 0), (.int (0) 0), (.int (3) 0), (.ref 90), (.bool true), (.int (181) 0), (.ref 91), .none, (.ref 92), (.ref 93), (.ref 94), (.int (301) 0), (.int (19) 0), (.str (.ofString "/claim/cut.py") 302)]), #[]⟩) ::
(nat_lit 96, ⟨(.type "function"), none, (.func ⟨.ofString "is_integer", .ofString "is_integer", L2.defArgs (hT 9), .stmts (L2.defBody (hT 9)), L2.defScope (hT 9), 3, [], .none, .none, .none, (.str (.ofString "wholeways.kinds") 287), none, (.ref 95), .none, 0⟩), #[]⟩) ::
(nat_lit 97, ⟨(.type "tuple"), none, (.seq #[] 0), #[]⟩) ::
(nat_lit 99, ⟨(.type "tuple"), none, (.seq #[(.str (.ofString "thing") 307), (.str (.ofString "low") 308), (.str (.ofString "high") 309)] 0), #[]⟩) ::
(nat_lit 100, ⟨(.type "tuple"), none, (.seq #[] 0), #[]⟩) ::
(nat_lit 102, ⟨(.type "code"), none, (.fields #[(.str (.ofString "is_within") 304), (.str (.ofString "is_within") 305), (.str (.ofString "/claim/cut.py") 306), (.int (21) 0), (.int (3) 0), (.int (0) 0), (.int (0) 0), (.int (3) 0), (.ref 97), (.bool true), (.int (181) 0), (.ref 98), .none, (.ref 99), (.ref 100), (.ref 101), (.int (310) 0), (.int (21) 0), (.str (.ofString "/claim/cut.py") 311)]), #[]⟩) ::
(nat_lit 103, ⟨(.type "function"), none, (.func ⟨.ofString "is_within", .ofString "is_within", L2.defArgs (hT 10), .stmts (L2.defBody (hT 10)), L2.defScope (hT 10), 3, [], .none, .none, .none, (.str (.ofString "wholeways.kinds") 287), none, (.ref 102), .none, 0⟩), #[]⟩) ::
(nat_lit 104, ⟨(.type "tuple"), none, (.seq #[] 0), #[]⟩) ::
(nat_lit 106, ⟨(.type "tuple"), none, (.seq #[(.str (.ofString "thing") 316)] 0), #[]⟩) ::
(nat_lit 107, ⟨(.type "tuple"), none, (.seq #[] 0), #[]⟩) ::
(nat_lit 109, ⟨(.type "code"), none, (.fields #[(.str (.ofString "is_number") 313), (.str (.ofString "is_number") 314), (.str (.ofString "/claim/cut.py") 315), (.int (23) 0), (.int (1) 0), (.int (0) 0), (.int (0) 0), (.int (3) 0), (.ref 104), (.bool true), (.int (181) 0), (.ref 105), .none, (.ref 106), (.ref 107), (.ref 108), (.int (317) 0), (.int (23) 0), (.str (.ofString "/claim/cut.py") 318)]), #[]⟩) ::
(nat_lit 110, ⟨(.type "function"), none, (.func ⟨.ofString "is_number", .ofString "is_number", L2.defArgs (hT 11), .stmts (L2.defBody (hT 11)), L2.defScope (hT 11), 3, [], .none, .none, .none, (.str (.ofString "wholeways.kinds") 287), none, (.ref 109), .none, 0⟩), #[]⟩) ::
(nat_lit 111, ⟨(.type "tuple"), none, (.seq #[] 0), #[]⟩) ::
(nat_lit 113, ⟨(.type "tuple"), none, (.seq #[(.str (.ofString "thing") 323)] 0), #[]⟩) ::
(nat_lit 114, ⟨(.type "tuple"), none, (.seq #[] 0), #[]⟩) ::
(nat_lit 116, ⟨(.type "code"), none, (.fields #[(.str (.ofString "is_worth") 320), (.str (.ofString "is_worth") 321), (.str (.ofString "/claim/cut.py") 322), (.int (25) 0), (.int (1) 0), (.int (0) 0), (.int (0) 0), (.int (3) 0), (.ref 111), (.bool true), (.int (181) 0), (.ref 112), .none, (.ref 113), (.ref 114), (.ref 115), (.int (324) 0), (.int (25) 0), (.str (.ofString "/claim/cut.py") 325)]), #[]⟩) ::
(nat_lit 117, ⟨(.type "function"), none, (.func ⟨.ofString "is_worth", .ofString "is_worth", L2.defArgs (hT 12), .stmts (L2.defBody (hT 12)), L2.defScope (hT 12), 3, [], .none, .none, .none, (.str (.ofString "wholeways.kinds") 287), none, (.ref 116), .none, 0⟩), #[]⟩) ::
(nat_lit 118, ⟨(.type "tuple"), none, (.seq #[] 0), #[]⟩) ::
(nat_lit 120, ⟨(.type "tuple"), none, (.seq #[(.str (.ofString "thing") 330)] 0), #[]⟩) ::
(nat_lit 121, ⟨(.type "tuple"), none, (.seq #[] 0), #[]⟩) ::
(nat_lit 123, ⟨(.type "code"), none, (.fields #[(.str (.ofString "is_mark") 327), (.str (.ofString "is_mark") 328), (.str (.ofString "/claim/cut.py") 329), (.int (27) 0), (.int (1) 0), (.int (0) 0), (.int (0) 0), (.int (3) 0), (.ref 118), (.bool true), (.int (181) 0), (.ref 119), .none, (.ref 120), (.ref 121), (.ref 122), (.int (331) 0), (.int (27) 0), (.str (.ofString "/claim/cut.py") 332)]), #[]⟩) ::
(nat_lit 124, ⟨(.type "function"), none, (.func ⟨.ofString "is_mark", .ofString "is_mark", L2.defArgs (hT 13), .stmts (L2.defBody (hT 13)), L2.defScope (hT 13), 3, [], .none, .none, .none, (.str (.ofString "wholeways.kinds") 287), none, (.ref 123), .none, 0⟩), #[]⟩) ::
(nat_lit 125, ⟨(.type "tuple"), none, (.seq #[] 0), #[]⟩) ::
(nat_lit 128, ⟨(.type "code"), none, (.fields #[(.str (.ofString "is_ascending") 334), (.str (.ofString "is_ascending") 335), (.str (.ofString "/claim/cut.py") 336), (.int (29) 0), (.int (1) 0), (.int (0) 0), (.int (0) 0), (.int (3) 0), (.ref 125), (.bool true), (.int (181) 0), (.ref 126), .none, .none, .none, (.ref 127), (.int (337) 0), (.int (29) 0), (.str (.ofString "/claim/cut.py") 338)]), #[]⟩) ::
(nat_lit 129, ⟨(.type "function"), none, (.func ⟨.ofString "is_ascending", .ofString "is_ascending", L2.defArgs (hT 14), .stmts (L2.defBody (hT 14)), L2.defScope (hT 14), 3, [], .none, .none, .none, (.str (.ofString "wholeways.kinds") 287), none, (.ref 128), .none, 0⟩), #[]⟩) ::
(nat_lit 130, ⟨(.type "tuple"), none, (.seq #[] 0), #[]⟩) ::
(nat_lit 133, ⟨(.type "code"), none, (.fields #[(.str (.ofString "is_lot") 340), (.str (.ofString "is_lot") 341), (.str (.ofString "/claim/cut.py") 342), (.int (31) 0), (.int (1) 0), (.int (0) 0), (.int (0) 0), (.int (3) 0), (.ref 130), (.bool true), (.int (181) 0), (.ref 131), .none, .none, .none, (.ref 132), (.int (343) 0), (.int (31) 0), (.str (.ofString "/claim/cut.py") 344)]), #[]⟩) ::
(nat_lit 134, ⟨(.type "function"), none, (.func ⟨.ofString "is_lot", .ofString "is_lot", L2.defArgs (hT 15), .stmts (L2.defBody (hT 15)), L2.defScope (hT 15), 3, [], .none, .none, .none, (.str (.ofString "wholeways.kinds") 287), none, (.ref 133), .none, 0⟩), #[]⟩) ::
(nat_lit 135, ⟨(.type "tuple"), none, (.seq #[] 0), #[]⟩) ::
(nat_lit 137, ⟨(.type "tuple"), none, (.seq #[(.str (.ofString "thing") 351)] 0), #[]⟩) ::
(nat_lit 138, ⟨(.type "tuple"), none, (.seq #[] 0), #[]⟩) ::
(nat_lit 140, ⟨(.type "code"), none, (.fields #[(.str (.ofString "is_version") 348), (.str (.ofString "is_version") 349), (.str (.ofString "/claim/cut.py") 350), (.int (34) 0), (.int (1) 0), (.int (0) 0), (.int (0) 0), (.int (3) 0), (.ref 135), (.bool true), (.int (181) 0), (.ref 136), .none, (.ref 137), (.ref 138), (.ref 139), (.int (352) 0), (.int (34) 0), (.str (.ofString "/claim/cut.py") 353)]), #[]⟩) ::
(nat_lit 141, ⟨(.type "function"), none, (.func ⟨.ofString "is_version", .ofString "is_version", L2.defArgs (hT 17), .stmts (L2.defBody (hT 17)), L2.defScope (hT 17), 3, [], .none, .none, .none, (.str (.ofString "wholeways.vacuum") 346), none, (.ref 140), .none, 0⟩), #[]⟩) ::
(nat_lit 142, ⟨(.type "tuple"), none, (.seq #[] 0), #[]⟩) ::
(nat_lit 144, ⟨(.type "tuple"), none, (.seq #[(.str (.ofString "versions") 358), (.str (.ofString "index") 359), (.str (.ofString "version") 360)] 0), #[]⟩) ::
(nat_lit 145, ⟨(.type "tuple"), none, (.seq #[] 0), #[]⟩) ::
(nat_lit 147, ⟨(.type "code"), none, (.fields #[(.str (.ofString "need_versions") 355), (.str (.ofString "need_versions") 356), (.str (.ofString "/claim/cut.py") 357), (.int (38) 0), (.int (1) 0), (.int (0) 0), (.int (0) 0), (.int (3) 0), (.ref 142), (.bool true), (.int (181) 0), (.ref 143), .none, (.ref 144), (.ref 145), (.ref 146), (.int (361) 0), (.int (38) 0), (.str (.ofString "/claim/cut.py") 362)]), #[]⟩) ::
(nat_lit 148, ⟨(.type "function"), none, (.func ⟨.ofString "need_versions", .ofString "need_versions", L2.defArgs (hT 18), .stmts (L2.defBody (hT 18)), L2.defScope (hT 18), 3, [], .none, .none, .none, (.str (.ofString "wholeways.vacuum") 346), none, (.ref 147), .none, 0⟩), #[]⟩) ::
(nat_lit 149, ⟨(.type "tuple"), none, (.seq #[] 0), #[]⟩) ::
(nat_lit 151, ⟨(.type "tuple"), none, (.seq #[(.str (.ofString "last") 367), (.str (.ofString "least") 368)] 0), #[]⟩) ::
(nat_lit 152, ⟨(.type "tuple"), none, (.seq #[] 0), #[]⟩) ::
(nat_lit 154, ⟨(.type "code"), none, (.fields #[(.str (.ofString "need_last") 364), (.str (.ofString "need_last") 365), (.str (.ofString "/claim/cut.py") 366), (.int (44) 0), (.int (2) 0), (.int (0) 0), (.int (0) 0), (.int (3) 0), (.ref 149), (.bool true), (.int (181) 0), (.ref 150), .none, (.ref 151), (.ref 152), (.ref 153), (.int (369) 0), (.int (44) 0), (.str (.ofString "/claim/cut.py") 370)]), #[]⟩) ::
(nat_lit 155, ⟨(.type "function"), none, (.func ⟨.ofString "need_last", .ofString "need_last", L2.defArgs (hT 19), .stmts (L2.defBody (hT 19)), L2.defScope (hT 19), 3, [], .none, .none, .none, (.str (.ofString "wholeways.vacuum") 346), none, (.ref 154), .none, 0⟩), #[]⟩) ::
(nat_lit 156, ⟨(.type "tuple"), none, (.seq #[] 0), #[]⟩) ::
(nat_lit 158, ⟨(.type "tuple"), none, (.seq #[(.str (.ofString "open_lot") 375), (.str (.ofString "last") 376)] 0), #[]⟩) ::
(nat_lit 159, ⟨(.type "tuple"), none, (.seq #[] 0), #[]⟩) ::
(nat_lit 161, ⟨(.type "code"), none, (.fields #[(.str (.ofString "need_snapshots") 372), (.str (.ofString "need_snapshots") 373), (.str (.ofString "/claim/cut.py") 374), (.int (47) 0), (.int (2) 0), (.int (0) 0), (.int (0) 0), (.int (3) 0), (.ref 156), (.bool true), (.int (181) 0), (.ref 157), .none, (.ref 158), (.ref 159), (.ref 160), (.int (377) 0), (.int (47) 0), (.str (.ofString "/claim/cut.py") 378)]), #[]⟩) ::
(nat_lit 162, ⟨(.type "function"), none, (.func ⟨.ofString "need_snapshots", .ofString "need_snapshots", L2.defArgs (hT 20), .stmts (L2.defBody (hT 20)), L2.defScope (hT 20), 3, [], .none, .none, .none, (.str (.ofString "wholeways.vacuum") 346), none, (.ref 161), .none, 0⟩), #[]⟩) ::
(nat_lit 163, ⟨(.type "tuple"), none, (.seq #[] 0), #[]⟩) ::
(nat_lit 165, ⟨(.type "tuple"), none, (.seq #[(.str (.ofString "versions") 383), (.str (.ofString "open_lot") 384), (.str (.ofString "last") 385)] 0), #[]⟩) ::
(nat_lit 166, ⟨(.type "tuple"), none, (.seq #[] 0), #[]⟩) ::
(nat_lit 168, ⟨(.type "code"), none, (.fields #[(.str (.ofString "need_all") 380), (.str (.ofString "need_all") 381), (.str (.ofString "/claim/cut.py") 382), (.int (50) 0), (.int (3) 0), (.int (0) 0), (.int (0) 0), (.int (3) 0), (.ref 163), (.bool true), (.int (181) 0), (.ref 164), .none, (.ref 165), (.ref 166), (.ref 167), (.int (386) 0), (.int (50) 0), (.str (.ofString "/claim/cut.py") 387)]), #[]⟩) ::
(nat_lit 169, ⟨(.type "function"), none, (.func ⟨.ofString "need_all", .ofString "need_all", L2.defArgs (hT 21), .stmts (L2.defBody (hT 21)), L2.defScope (hT 21), 3, [], .none, .none, .none, (.str (.ofString "wholeways.vacuum") 346), none, (.ref 168), .none, 0⟩), #[]⟩) ::
(nat_lit 170, ⟨(.type "tuple"), none, (.seq #[] 0), #[]⟩) ::
(nat_lit 172, ⟨(.type "tuple"), none, (.seq #[(.str (.ofString "open_lot") 392), (.str (.ofString "last") 393)] 0), #[]⟩) ::
(nat_lit 173, ⟨(.type "tuple"), none, (.seq #[] 0), #[]⟩) ::
(nat_lit 175, ⟨(.type "code"), none, (.fields #[(.str (.ofString "asked_of") 389), (.str (.ofString "asked_of") 390), (.str (.ofString "/claim/cut.py") 391), (.int (54) 0), (.int (2) 0), (.int (0) 0), (.int (0) 0), (.int (3) 0), (.ref 170), (.bool true), (.int (181) 0), (.ref 171), .none, (.ref 172), (.ref 173), (.ref 174), (.int (394) 0), (.int (54) 0), (.str (.ofString "/claim/cut.py") 395)]), #[]⟩) ::
(nat_lit 176, ⟨(.type "function"), none, (.func ⟨.ofString "asked_of", .ofString "asked_of", L2.defArgs (hT 22), .stmts (L2.defBody (hT 22)), L2.defScope (hT 22), 3, [], .none, .none, .none, (.str (.ofString "wholeways.vacuum") 346), none, (.ref 175), .none, 0⟩), #[]⟩) ::
(nat_lit 177, ⟨(.type "tuple"), none, (.seq #[] 0), #[]⟩) ::
(nat_lit 179, ⟨(.type "tuple"), none, (.seq #[(.str (.ofString "versions") 400), (.str (.ofString "snapshots") 401), (.str (.ofString "found") 402), (.str (.ofString "place") 403), (.str (.ofString "snapshot") 404)] 0), #[]⟩) ::
(nat_lit 180, ⟨(.type "tuple"), none, (.seq #[] 0), #[]⟩) ::
(nat_lit 182, ⟨(.type "code"), none, (.fields #[(.str (.ofString "seen_each") 397), (.str (.ofString "seen_each") 398), (.str (.ofString "/claim/cut.py") 399), (.int (56) 0), (.int (2) 0), (.int (0) 0), (.int (0) 0), (.int (3) 0), (.ref 177), (.bool true), (.int (181) 0), (.ref 178), .none, (.ref 179), (.ref 180), (.ref 181), (.int (405) 0), (.int (56) 0), (.str (.ofString "/claim/cut.py") 406)]), #[]⟩) ::
(nat_lit 183, ⟨(.type "function"), none, (.func ⟨.ofString "seen_each", .ofString "seen_each", L2.defArgs (hT 23), .stmts (L2.defBody (hT 23)), L2.defScope (hT 23), 3, [], .none, .none, .none, (.str (.ofString "wholeways.vacuum") 346), none, (.ref 182), .none, 0⟩), #[]⟩) ::
(nat_lit 184, ⟨(.type "tuple"), none, (.seq #[] 0), #[]⟩) ::
(nat_lit 186, ⟨(.type "tuple"), none, (.seq #[(.str (.ofString "versions") 411), (.str (.ofString "open_lot") 412), (.str (.ofString "last") 413)] 0), #[]⟩) ::
(nat_lit 187, ⟨(.type "tuple"), none, (.seq #[] 0), #[]⟩) ::
(nat_lit 189, ⟨(.type "code"), none, (.fields #[(.str (.ofString "needed") 408), (.str (.ofString "needed") 409), (.str (.ofString "/claim/cut.py") 410), (.int (64) 0), (.int (3) 0), (.int (0) 0), (.int (0) 0), (.int (3) 0), (.ref 184), (.bool true), (.int (181) 0), (.ref 185), .none, (.ref 186), (.ref 187), (.ref 188), (.int (414) 0), (.int (64) 0), (.str (.ofString "/claim/cut.py") 415)]), #[]⟩) ::
(nat_lit 190, ⟨(.type "function"), none, (.func ⟨.ofString "needed", .ofString "needed", L2.defArgs (hT 24), .stmts (L2.defBody (hT 24)), L2.defScope (hT 24), 3, [], .none, .none, .none, (.str (.ofString "wholeways.vacuum") 346), none, (.ref 189), .none, 0⟩), #[]⟩) ::
(nat_lit 191, ⟨(.type "tuple"), none, (.seq #[] 0), #[]⟩) ::
(nat_lit 194, ⟨(.type "code"), none, (.fields #[(.str (.ofString "needed_commits") 417), (.str (.ofString "needed_commits") 418), (.str (.ofString "/claim/cut.py") 419), (.int (67) 0), (.int (3) 0), (.int (0) 0), (.int (0) 0), (.int (3) 0), (.ref 191), (.bool true), (.int (181) 0), (.ref 192), .none, .none, .none, (.ref 193), (.int (420) 0), (.int (67) 0), (.str (.ofString "/claim/cut.py") 421)]), #[]⟩) ::
(nat_lit 195, ⟨(.type "function"), none, (.func ⟨.ofString "needed_commits", .ofString "needed_commits", L2.defArgs (hT 25), .stmts (L2.defBody (hT 25)), L2.defScope (hT 25), 3, [], .none, .none, .none, (.str (.ofString "wholeways.vacuum") 346), none, (.ref 194), .none, 0⟩), #[]⟩) ::
(nat_lit 196, ⟨(.type "tuple"), none, (.seq #[] 0), #[]⟩) ::
(nat_lit 199, ⟨(.type "code"), none, (.fields #[(.str (.ofString "is_kept_right") 423), (.str (.ofString "is_kept_right") 424), (.str (.ofString "/claim/cut.py") 425), (.int (74) 0), (.int (4) 0), (.int (0) 0), (.int (0) 0), (.int (3) 0), (.ref 196), (.bool true), (.int (181) 0), (.ref 197), .none, .none, .none, (.ref 198), (.int (426) 0), (.int (74) 0), (.str (.ofString "/claim/cut.py") 427)]), #[]⟩) ::
(nat_lit 200, ⟨(.type "function"), none, (.func ⟨.ofString "is_kept_right", .ofString "is_kept_right", L2.defArgs (hT 26), .stmts (L2.defBody (hT 26)), L2.defScope (hT 26), 3, [], .none, .none, .none, (.str (.ofString "wholeways.vacuum") 346), none, (.ref 199), .none, 0⟩), #[]⟩) ::
(nat_lit 201, ⟨(.type "tuple"), none, (.seq #[] 0), #[]⟩) ::
(nat_lit 203, ⟨(.type "tuple"), none, (.seq #[(.str (.ofString "whole") 432), (.str (.ofString "alone") 433)] 0), #[]⟩) ::
(nat_lit 204, ⟨(.type "tuple"), none, (.seq #[] 0), #[]⟩) ::
(nat_lit 206, ⟨(.type "code"), none, (.fields #[(.str (.ofString "is_same") 429), (.str (.ofString "is_same") 430), (.str (.ofString "/claim/cut.py") 431), (.int (84) 0), (.int (2) 0), (.int (0) 0), (.int (0) 0), (.int (3) 0), (.ref 201), (.bool true), (.int (181) 0), (.ref 202), .none, (.ref 203), (.ref 204), (.ref 205), (.int (434) 0), (.int (84) 0), (.str (.ofString "/claim/cut.py") 435)]), #[]⟩) ::
(nat_lit 207, ⟨(.type "function"), none, (.func ⟨.ofString "is_same", .ofString "is_same", L2.defArgs (hT 27), .stmts (L2.defBody (hT 27)), L2.defScope (hT 27), 3, [], .none, .none, .none, (.str (.ofString "wholeways.vacuum") 346), none, (.ref 206), .none, 0⟩), #[]⟩) ::
(nat_lit 208, ⟨(.type "tuple"), none, (.seq #[] 0), #[]⟩) ::
(nat_lit 211, ⟨(.type "code"), none, (.fields #[(.str (.ofString "harm") 437), (.str (.ofString "harm") 438), (.str (.ofString "/claim/cut.py") 439), (.int (88) 0), (.int (4) 0), (.int (0) 0), (.int (0) 0), (.int (3) 0), (.ref 208), (.bool true), (.int (181) 0), (.ref 209), .none, .none, .none, (.ref 210), (.int (440) 0), (.int (88) 0), (.str (.ofString "/claim/cut.py") 441)]), #[]⟩) ::
(nat_lit 212, ⟨(.type "function"), none, (.func ⟨.ofString "harm", .ofString "harm", L2.defArgs (hT 28), .stmts (L2.defBody (hT 28)), L2.defScope (hT 28), 3, [], .none, .none, .none, (.str (.ofString "wholeways.vacuum") 346), none, (.ref 211), .none, 0⟩), #[]⟩) ::
(nat_lit 213, ⟨(.type "tuple"), none, (.seq #[] 0), #[]⟩) ::
(nat_lit 215, ⟨(.type "tuple"), none, (.seq #[(.str (.ofString "version") 446)] 0), #[]⟩) ::
(nat_lit 216, ⟨(.type "tuple"), none, (.seq #[] 0), #[]⟩) ::
(nat_lit 218, ⟨(.type "code"), none, (.fields #[(.str (.ofString "told") 443), (.str (.ofString "told") 444), (.str (.ofString "/claim/cut.py") 445), (.int (98) 0), (.int (1) 0), (.int (0) 0), (.int (0) 0), (.int (3) 0), (.ref 213), (.bool true), (.int (181) 0), (.ref 214), .none, (.ref 215), (.ref 216), (.ref 217), (.int (447) 0), (.int (98) 0), (.str (.ofString "/claim/cut.py") 448)]), #[]⟩) ::
(nat_lit 219, ⟨(.type "function"), none, (.func ⟨.ofString "told", .ofString "told", L2.defArgs (hT 29), .stmts (L2.defBody (hT 29)), L2.defScope (hT 29), 3, [], .none, .none, .none, (.str (.ofString "wholeways.vacuum") 346), none, (.ref 218), .none, 0⟩), #[]⟩) ::
(nat_lit 220, ⟨(.type "tuple"), none, (.seq #[] 0), #[]⟩) ::
(nat_lit 222, ⟨(.type "tuple"), none, (.seq #[(.str (.ofString "cell") 455), (.str (.ofString "turn") 456), (.str (.ofString "number") 457)] 0), #[]⟩) ::
(nat_lit 223, ⟨(.type "tuple"), none, (.seq #[] 0), #[]⟩) ::
(nat_lit 225, ⟨(.type "code"), none, (.fields #[(.str (.ofString "_law_mixed") 452), (.str (.ofString "_law_mixed") 453), (.str (.ofString "/claim/cut.py") 454), (.int (103) 0), (.int (2) 0), (.int (0) 0), (.int (0) 0), (.int (3) 0), (.ref 220), (.bool true), (.int (181) 0), (.ref 221), .none, (.ref 222), (.ref 223), (.ref 224), (.int (458) 0), (.int (103) 0), (.str (.ofString "/claim/cut.py") 459)]), #[]⟩) ::
(nat_lit 226, ⟨(.type "function"), none, (.func ⟨.ofString "_law_mixed", .ofString "_law_mixed", L2.defArgs (hT 31), .stmts (L2.defBody (hT 31)), L2.defScope (hT 31), 3, [], .none, .none, .none, (.str (.ofString "law_wholeways_k43_versions_and_snapshots_ref") 450), none, (.ref 225), .none, 0⟩), #[]⟩) ::
(nat_lit 227, ⟨(.type "tuple"), none, (.seq #[] 0), #[]⟩) ::
(nat_lit 230, ⟨(.type "code"), none, (.fields #[(.str (.ofString "_law_bag") 461), (.str (.ofString "_law_bag") 462), (.str (.ofString "/claim/cut.py") 463), (.int (107) 0), (.int (1) 0), (.int (0) 0), (.int (0) 0), (.int (3) 0), (.ref 227), (.bool true), (.int (181) 0), (.ref 228), .none, .none, .none, (.ref 229), (.int (464) 0), (.int (107) 0), (.str (.ofString "/claim/cut.py") 465)]), #[]⟩) ::
(nat_lit 231, ⟨(.type "function"), none, (.func ⟨.ofString "_law_bag", .ofString "_law_bag", L2.defArgs (hT 32), .stmts (L2.defBody (hT 32)), L2.defScope (hT 32), 3, [], .none, .none, .none, (.str (.ofString "law_wholeways_k43_versions_and_snapshots_ref") 450), none, (.ref 230), .none, 0⟩), #[]⟩) ::
(nat_lit 232, ⟨(.type "tuple"), none, (.seq #[] 0), #[]⟩) ::
(nat_lit 234, ⟨(.type "tuple"), none, (.seq #[(.str (.ofString "bag") 470), (.str (.ofString "many") 471), (.str (.ofString "found") 472), (.str (.ofString "cells") 473), (.str (.ofString "at") 474), (.str (.ofString "cell") 475)] 0), #[]⟩) ::
(nat_lit 235, ⟨(.type "tuple"), none, (.seq #[] 0), #[]⟩) ::
(nat_lit 237, ⟨(.type "code"), none, (.fields #[(.str (.ofString "_law_draw") 467), (.str (.ofString "_law_draw") 468), (.str (.ofString "/claim/cut.py") 469), (.int (109) 0), (.int (2) 0), (.int (0) 0), (.int (0) 0), (.int (3) 0), (.ref 232), (.bool true), (.int (181) 0), (.ref 233), .none, (.ref 234), (.ref 235), (.ref 236), (.int (476) 0), (.int (109) 0), (.str (.ofString "/claim/cut.py") 477)]), #[]⟩) ::
(nat_lit 238, ⟨(.type "function"), none, (.func ⟨.ofString "_law_draw", .ofString "_law_draw", L2.defArgs (hT 33), .stmts (L2.defBody (hT 33)), L2.defScope (hT 33), 3, [], .none, .none, .none, (.str (.ofString "law_wholeways_k43_versions_and_snapshots_ref") 450), none, (.ref 237), .none, 0⟩), #[]⟩) ::
(nat_lit 239, ⟨(.type "tuple"), none, (.seq #[] 0), #[]⟩) ::
(nat_lit 242, ⟨(.type "code"), none, (.fields #[(.str (.ofString "_law_versions") 479), (.str (.ofString "_law_versions") 480), (.str (.ofString "/claim/cut.py") 481), (.int (125) 0), (.int (1) 0), (.int (0) 0), (.int (0) 0), (.int (3) 0), (.ref 239), (.bool true), (.int (181) 0), (.ref 240), .none, .none, .none, (.ref 241), (.int (482) 0), (.int (125) 0), (.str (.ofString "/claim/cut.py") 483)]), #[]⟩) ::
(nat_lit 243, ⟨(.type "function"), none, (.func ⟨.ofString "_law_versions", .ofString "_law_versions", L2.defArgs (hT 34), .stmts (L2.defBody (hT 34)), L2.defScope (hT 34), 3, [], .none, .none, .none, (.str (.ofString "law_wholeways_k43_versions_and_snapshots_ref") 450), none, (.ref 242), .none, 0⟩), #[]⟩) ::
(nat_lit 244, ⟨(.type "tuple"), none, (.seq #[] 0), #[]⟩) ::
(nat_lit 246, ⟨(.type "tuple"), none, (.seq #[(.str (.ofString "bag") 488), (.str (.ofString "versions") 489), (.str (.ofString "last") 490), (.str (.ofString "found") 491), (.str (.ofString "k") 492), (.str (.ofString "number") 493)] 0), #[]⟩) ::
(nat_lit 247, ⟨(.type "tuple"), none, (.seq #[] 0), #[]⟩) ::
(nat_lit 249, ⟨(.type "code"), none, (.fields #[(.str (.ofString "_law_open") 485), (.str (.ofString "_law_open") 486), (.str (.ofString "/claim/cut.py") 487), (.int (135) 0), (.int (3) 0), (.int (0) 0), (.int (0) 0), (.int (3) 0), (.ref 244), (.bool true), (.int (181) 0), (.ref 245), .none, (.ref 246), (.ref 247), (.ref 248), (.int (494) 0), (.int (135) 0), (.str (.ofString "/claim/cut.py") 495)]), #[]⟩) ::
(nat_lit 250, ⟨(.type "function"), none, (.func ⟨.ofString "_law_open", .ofString "_law_open", L2.defArgs (hT 35), .stmts (L2.defBody (hT 35)), L2.defScope (hT 35), 3, [], .none, .none, .none, (.str (.ofString "law_wholeways_k43_versions_and_snapshots_ref") 450), none, (.ref 249), .none, 0⟩), #[]⟩) ::
(nat_lit 251, ⟨(.type "tuple"), none, (.seq #[] 0), #[]⟩) ::
(nat_lit 253, ⟨(.type "tuple"), none, (.seq #[(.str (.ofString "bag") 500), (.str (.ofString "versions") 501), (.str (.ofString "kind") 502), (.str (.ofString "found") 503), (.str (.ofString "k") 504), (.str (.ofString "at") 505), (.str (.ofString "pair") 506), (.str (.ofString "strange") 507)] 0), #[]⟩) ::
(nat_lit 254, ⟨(.type "tuple"), none, (.seq #[] 0), #[]⟩) ::
(nat_lit 256, ⟨(.type "code"), none, (.fields #[(.str (.ofString "_law_spoiled_versions") 497), (.str (.ofString "_law_spoiled_versions") 498), (.str (.ofString "/claim/cut.py") 499), (.int (144) 0), (.int (2) 0), (.int (0) 0), (.int (0) 0), (.int (3) 0), (.ref 251), (.bool true), (.int (181) 0), (.ref 252), .none, (.ref 253), (.ref 254), (.ref 255), (.int (508) 0), (.int (144) 0), (.str (.ofString "/claim/cut.py") 509)]), #[]⟩) ::
(nat_lit 257, ⟨(.type "function"), none, (.func ⟨.ofString "_law_spoiled_versions", .ofString "_law_spoiled_versions", L2.defArgs (hT 36), .stmts (L2.defBody (hT 36)), L2.defScope (hT 36), 3, [], .none, .none, .none, (.str (.ofString "law_wholeways_k43_versions_and_snapshots_ref") 450), none, (.ref 256), .none, 0⟩), #[]⟩) ::
(nat_lit 258, ⟨(.type "tuple"), none, (.seq #[] 0), #[]⟩) ::
(nat_lit 260, ⟨(.type "tuple"), none, (.seq #[(.str (.ofString "bag") 514), (.str (.ofString "open_lot") 515), (.str (.ofString "last") 516), (.str (.ofString "kind") 517), (.str (.ofString "at") 518)] 0), #[]⟩) ::
(nat_lit 261, ⟨(.type "tuple"), none, (.seq #[] 0), #[]⟩) ::
(nat_lit 263, ⟨(.type "code"), none, (.fields #[(.str (.ofString "_law_spoiled_open") 511), (.str (.ofString "_law_spoiled_open") 512), (.str (.ofString "/claim/cut.py") 513), (.int (168) 0), (.int (3) 0), (.int (0) 0), (.int (0) 0), (.int (3) 0), (.ref 258), (.bool true), (.int (181) 0), (.ref 259), .none, (.ref 260), (.ref 261), (.ref 262), (.int (519) 0), (.int (168) 0), (.str (.ofString "/claim/cut.py") 520)]), #[]⟩) ::
(nat_lit 264, ⟨(.type "function"), none, (.func ⟨.ofString "_law_spoiled_open", .ofString "_law_spoiled_open", L2.defArgs (hT 37), .stmts (L2.defBody (hT 37)), L2.defScope (hT 37), 3, [], .none, .none, .none, (.str (.ofString "law_wholeways_k43_versions_and_snapshots_ref") 450), none, (.ref 263), .none, 0⟩), #[]⟩) ::
(nat_lit 265, ⟨(.type "tuple"), none, (.seq #[] 0), #[]⟩) ::
(nat_lit 267, ⟨(.type "tuple"), none, (.seq #[(.str (.ofString "thing") 525), (.str (.ofString "least") 526), (.str (.ofString "most") 527)] 0), #[]⟩) ::
(nat_lit 268, ⟨(.type "tuple"), none, (.seq #[] 0), #[]⟩) ::
(nat_lit 270, ⟨(.type "code"), none, (.fields #[(.str (.ofString "_law_is_within") 522), (.str (.ofString "_law_is_within") 523), (.str (.ofString "/claim/cut.py") 524), (.int (182) 0), (.int (3) 0), (.int (0) 0), (.int (0) 0), (.int (3) 0), (.ref 265), (.bool true), (.int (181) 0), (.ref 266), .none, (.ref 267), (.ref 268), (.ref 269), (.int (528) 0), (.int (182) 0), (.str (.ofString "/claim/cut.py") 529)]), #[]⟩) ::
(nat_lit 271, ⟨(.type "function"), none, (.func ⟨.ofString "_law_is_within", .ofString "_law_is_within", L2.defArgs (hT 38), .stmts (L2.defBody (hT 38)), L2.defScope (hT 38), 3, [], .none, .none, .none, (.str (.ofString "law_wholeways_k43_versions_and_snapshots_ref") 450), none, (.ref 270), .none, 0⟩), #[]⟩) ::
(nat_lit 272, ⟨(.type "tuple"), none, (.seq #[] 0), #[]⟩) ::
(nat_lit 274, ⟨(.type "tuple"), none, (.seq #[(.str (.ofString "versions") 534), (.str (.ofString "at") 535), (.str (.ofString "pair") 536)] 0), #[]⟩) ::
(nat_lit 275, ⟨(.type "tuple"), none, (.seq #[] 0), #[]⟩) ::
(nat_lit 277, ⟨(.type "code"), none, (.fields #[(.str (.ofString "_law_first_bad") 531), (.str (.ofString "_law_first_bad") 532), (.str (.ofString "/claim/cut.py") 533), (.int (184) 0), (.int (1) 0), (.int (0) 0), (.int (0) 0), (.int (3) 0), (.ref 272), (.bool true), (.int (181) 0), (.ref 273), .none, (.ref 274), (.ref 275), (.ref 276), (.int (537) 0), (.int (184) 0), (.str (.ofString "/claim/cut.py") 538)]), #[]⟩) ::
(nat_lit 278, ⟨(.type "function"), none, (.func ⟨.ofString "_law_first_bad", .ofString "_law_first_bad", L2.defArgs (hT 39), .stmts (L2.defBody (hT 39)), L2.defScope (hT 39), 3, [], .none, .none, .none, (.str (.ofString "law_wholeways_k43_versions_and_snapshots_ref") 450), none, (.ref 277), .none, 0⟩), #[]⟩) ::
(nat_lit 279, ⟨(.type "tuple"), none, (.seq #[] 0), #[]⟩) ::
(nat_lit 281, ⟨(.type "tuple"), none, (.seq #[(.str (.ofString "thing") 543), (.str (.ofString "most") 544), (.str (.ofString "ahead") 545), (.str (.ofString "one") 546)] 0), #[]⟩) ::
(nat_lit 282, ⟨(.type "tuple"), none, (.seq #[] 0), #[]⟩) ::
(nat_lit 284, ⟨(.type "code"), none, (.fields #[(.str (.ofString "_law_is_lot") 540), (.str (.ofString "_law_is_lot") 541), (.str (.ofString "/claim/cut.py") 542), (.int (196) 0), (.int (2) 0), (.int (0) 0), (.int (0) 0), (.int (3) 0), (.ref 279), (.bool true), (.int (181) 0), (.ref 280), .none, (.ref 281), (.ref 282), (.ref 283), (.int (547) 0), (.int (196) 0), (.str (.ofString "/claim/cut.py") 548)]), #[]⟩) ::
(nat_lit 285, ⟨(.type "function"), none, (.func ⟨.ofString "_law_is_lot", .ofString "_law_is_lot", L2.defArgs (hT 40), .stmts (L2.defBody (hT 40)), L2.defScope (hT 40), 3, [], .none, .none, .none, (.str (.ofString "law_wholeways_k43_versions_and_snapshots_ref") 450), none, (.ref 284), .none, 0⟩), #[]⟩) ::
(nat_lit 286, ⟨(.type "tuple"), none, (.seq #[] 0), #[]⟩) ::
(nat_lit 289, ⟨(.type "code"), none, (.fields #[(.str (.ofString "_law_refusal") 550), (.str (.ofString "_law_refusal") 551), (.str (.ofString "/claim/cut.py") 552), (.int (205) 0), (.int (5) 0), (.int (0) 0), (.int (0) 0), (.int (3) 0), (.ref 286), (.bool true), (.int (181) 0), (.ref 287), .none, .none, .none, (.ref 288), (.int (553) 0), (.int (205) 0), (.str (.ofString "/claim/cut.py") 554)]), #[]⟩) ::
(nat_lit 290, ⟨(.type "function"), none, (.func ⟨.ofString "_law_refusal", .ofString "_law_refusal", L2.defArgs (hT 41), .stmts (L2.defBody (hT 41)), L2.defScope (hT 41), 3, [], .none, .none, .none, (.str (.ofString "law_wholeways_k43_versions_and_snapshots_ref") 450), none, (.ref 289), .none, 0⟩), #[]⟩) ::
(nat_lit 291, ⟨(.type "tuple"), none, (.seq #[] 0), #[]⟩) ::
(nat_lit 293, ⟨(.type "tuple"), none, (.seq #[(.str (.ofString "versions") 559), (.str (.ofString "open_lot") 560), (.str (.ofString "found") 561), (.str (.ofString "back") 562), (.str (.ofString "at") 563), (.str (.ofString "is_seen") 564), (.str (.ofString "snapshot") 565)] 0), #[]⟩) ::
(nat_lit 294, ⟨(.type "tuple"), none, (.seq #[] 0), #[]⟩) ::
(nat_lit 296, ⟨(.type "code"), none, (.fields #[(.str (.ofString "_law_needed") 556), (.str (.ofString "_law_needed") 557), (.str (.ofString "/claim/cut.py") 558), (.int (220) 0), (.int (2) 0), (.int (0) 0), (.int (0) 0), (.int (3) 0), (.ref 291), (.bool true), (.int (181) 0), (.ref 292), .none, (.ref 293), (.ref 294), (.ref 295), (.int (566) 0), (.int (220) 0), (.str (.ofString "/claim/cut.py") 567)]), #[]⟩) ::
(nat_lit 297, ⟨(.type "function"), none, (.func ⟨.ofString "_law_needed", .ofString "_law_needed", L2.defArgs (hT 42), .stmts (L2.defBody (hT 42)), L2.defScope (hT 42), 3, [], .none, .none, .none, (.str (.ofString "law_wholeways_k43_versions_and_snapshots_ref") 450), none, (.ref 296), .none, 0⟩), #[]⟩) ::
(nat_lit 298, ⟨(.type "tuple"), none, (.seq #[] 0), #[]⟩) ::
(nat_lit 300, ⟨(.type "tuple"), none, (.seq #[(.str (.ofString "versions") 572), (.str (.ofString "snapshot") 573), (.str (.ofString "pair") 574)] 0), #[]⟩) ::
(nat_lit 301, ⟨(.type "tuple"), none, (.seq #[] 0), #[]⟩) ::
(nat_lit 303, ⟨(.type "code"), none, (.fields #[(.str (.ofString "_law_read") 569), (.str (.ofString "_law_read") 570), (.str (.ofString "/claim/cut.py") 571), (.int (231) 0), (.int (2) 0), (.int (0) 0), (.int (0) 0), (.int (3) 0), (.ref 298), (.bool true), (.int (181) 0), (.ref 299), .none, (.ref 300), (.ref 301), (.ref 302), (.int (575) 0), (.int (231) 0), (.str (.ofString "/claim/cut.py") 576)]), #[]⟩) ::
(nat_lit 304, ⟨(.type "function"), none, (.func ⟨.ofString "_law_read", .ofString "_law_read", L2.defArgs (hT 43), .stmts (L2.defBody (hT 43)), L2.defScope (hT 43), 3, [], .none, .none, .none, (.str (.ofString "law_wholeways_k43_versions_and_snapshots_ref") 450), none, (.ref 303), .none, 0⟩), #[]⟩) ::
(nat_lit 305, ⟨(.type "tuple"), none, (.seq #[] 0), #[]⟩) ::
(nat_lit 308, ⟨(.type "code"), none, (.fields #[(.str (.ofString "_law_value") 578), (.str (.ofString "_law_value") 579), (.str (.ofString "/claim/cut.py") 580), (.int (238) 0), (.int (5) 0), (.int (0) 0), (.int (0) 0), (.int (3) 0), (.ref 305), (.bool true), (.int (181) 0), (.ref 306), .none, .none, .none, (.ref 307), (.int (581) 0), (.int (238) 0), (.str (.ofString "/claim/cut.py") 582)]), #[]⟩) ::
(nat_lit 309, ⟨(.type "function"), none, (.func ⟨.ofString "_law_value", .ofString "_law_value", L2.defArgs (hT 44), .stmts (L2.defBody (hT 44)), L2.defScope (hT 44), 3, [], .none, .none, .none, (.str (.ofString "law_wholeways_k43_versions_and_snapshots_ref") 450), none, (.ref 308), .none, 0⟩), #[]⟩) ::
(nat_lit 310, ⟨(.type "tuple"), none, (.seq #[] 0), #[]⟩) ::
(nat_lit 312, ⟨(.type "tuple"), none, (.seq #[(.str (.ofString "which") 587), (.str (.ofString "versions") 588), (.str (.ofString "open_lot") 589), (.str (.ofString "last") 590), (.str (.ofString "thing") 591), (.str (.ofString "found") 592), (.str (.ofString "e") 593)] 0), #[]⟩) ::
(nat_lit 313, ⟨(.type "tuple"), none, (.seq #[] 0), #[]⟩) ::
(nat_lit 315, ⟨(.type "code"), none, (.fields #[(.str (.ofString "_law_asked") 584), (.str (.ofString "_law_asked") 585), (.str (.ofString "/claim/cut.py") 586), (.int (248) 0), (.int (5) 0), (.int (0) 0), (.int (0) 0), (.int (3) 0), (.ref 310), (.bool true), (.int (181) 0), (.ref 311), .none, (.ref 312), (.ref 313), (.ref 314), (.int (594) 0), (.int (248) 0), (.str (.ofString "/claim/cut.py") 595)]), #[]⟩) ::
(nat_lit 316, ⟨(.type "function"), none, (.func ⟨.ofString "_law_asked", .ofString "_law_asked", L2.defArgs (hT 45), .stmts (L2.defBody (hT 45)), L2.defScope (hT 45), 3, [], .none, .none, .none, (.str (.ofString "law_wholeways_k43_versions_and_snapshots_ref") 450), none, (.ref 315), .none, 0⟩), #[]⟩) ::
(nat_lit 317, ⟨(.type "tuple"), none, (.seq #[] 0), #[]⟩) ::
(nat_lit 319, ⟨(.type "tuple"), none, (.seq #[(.str (.ofString "which") 600), (.str (.ofString "versions") 601), (.str (.ofString "open_lot") 602), (.str (.ofString "last") 603), (.str (.ofString "commit") 604), (.str (.ofString "due") 605), (.str (.ofString "thing") 606), (.str (.ofString "ahead") 607), (.str (.ofString "told_v") 608), (.str (.ofString "value") 609)] 0), #[]⟩) ::
(nat_lit 320, ⟨(.type "tuple"), none, (.seq #[] 0), #[]⟩) ::
(nat_lit 322, ⟨(.type "code"), none, (.fields #[(.str (.ofString "_law_is_met") 597), (.str (.ofString "_law_is_met") 598), (.str (.ofString "/claim/cut.py") 599), (.int (265) 0), (.int (5) 0), (.int (0) 0), (.int (0) 0), (.int (3) 0), (.ref 317), (.bool true), (.int (181) 0), (.ref 318), .none, (.ref 319), (.ref 320), (.ref 321), (.int (610) 0), (.int (265) 0), (.str (.ofString "/claim/cut.py") 611)]), #[]⟩) ::
(nat_lit 323, ⟨(.type "function"), none, (.func ⟨.ofString "_law_is_met", .ofString "_law_is_met", L2.defArgs (hT 46), .stmts (L2.defBody (hT 46)), L2.defScope (hT 46), 3, [], .none, .none, .none, (.str (.ofString "law_wholeways_k43_versions_and_snapshots_ref") 450), none, (.ref 322), .none, 0⟩), #[]⟩) ::
(nat_lit 324, ⟨(.type "tuple"), none, (.seq #[] 0), #[]⟩) ::
(nat_lit 326, ⟨(.type "tuple"), none, (.seq #[(.str (.ofString "script") 616), (.str (.ofString "bag") 617), (.str (.ofString "versions") 618), (.str (.ofString "newest") 619), (.str (.ofString "last") 620), (.str (.ofString "open_lot") 621), (.str (.ofString "k") 622), (.str (.ofString "which") 623), (.str (.ofString "commit") 624), (.str (.ofString "things") 625)] 0), #[]⟩) ::
(nat_lit 327, ⟨(.type "tuple"), none, (.seq #[] 0), #[]⟩) ::
(nat_lit 329, ⟨(.type "code"), none, (.fields #[(.str (.ofString "law") 613), (.str (.ofString "law") 614), (.str (.ofString "/claim/cut.py") 615), (.int (278) 0), (.int (1) 0), (.int (0) 0), (.int (0) 0), (.int (3) 0), (.ref 324), (.bool true), (.int (181) 0), (.ref 325), .none, (.ref 326), (.ref 327), (.ref 328), (.int (626) 0), (.int (278) 0), (.str (.ofString "/claim/cut.py") 627)]), #[]⟩) ::
(nat_lit 330, ⟨(.type "function"), none, (.func ⟨.ofString "law", .ofString "law", L2.defArgs (hT 47), .stmts (L2.defBody (hT 47)), L2.defScope (hT 47), 3, [], .none, .none, .none, (.str (.ofString "law_wholeways_k43_versions_and_snapshots_ref") 450), none, (.ref 329), .none, 0⟩), #[]⟩) ::
(nat_lit 1, ⟨(.type "dict"), none, (.dict #[⟨PyData.keyHash P (.ofString "builtins"), (.str (.ofString "builtins") 162), (.ref 4)⟩, ⟨PyData.keyHash P (.ofString "__main__"), (.str (.ofString "__main__") 163), (.ref 5)⟩] 2), #[]⟩) :: []
def as0 : List Addr := [2, 3, 15, 22, 24, 25, 27, 28, 29, 30, 31, 32, 35, 42, 43, 44, 47, 54, 55, 56, 59, 66, 67, 68, 71, 78, 80, 81, 83, 84, 85, 86, 87, 90, 92, 93, 95, 96, 97, 99, 100, 102, 103, 104, 106, 107, 109, 110, 111, 113, 114, 116, 117, 118, 120, 121, 123, 124, 125, 128, 129, 130, 133, 134, 135, 137, 138, 140, 141, 142, 144, 145, 147, 148, 149, 151, 152, 154, 155, 156, 158, 159, 161, 162, 163, 165, 166, 168, 169, 170, 172, 173, 175, 176, 177, 179, 180, 182, 183, 184, 186, 187, 189, 190, 191, 194, 195, 196, 199, 200, 201, 203, 204, 206, 207, 208, 211, 212, 213, 215, 216, 218, 219, 220, 222, 223, 225, 226, 227, 230, 231, 232, 234, 235, 237, 238, 239, 242, 243, 244, 246, 247, 249, 250, 251, 253, 254, 256, 257, 258, 260, 261, 263, 264, 265, 267, 268, 270, 271, 272, 274, 275, 277, 278, 279, 281, 282, 284, 285, 286, 289, 290, 291, 293, 294, 296, 297, 298, 300, 301, 303, 304, 305, 308, 309, 310, 312, 313, 315, 316, 317, 319, 320, 322, 323, 324, 326, 327, 329, 330, 1]
abbrev ts0 : List Addr := []
theorem ek0 : ∀ P, as0 = (K0 P).map (·.1) := fun _ => by kernel_rfl
theorem runG0 (Xt : Shared → Bool) (w : World) (os : OsState) : (end0 w os).map (fun s => looksF p0 (boot_heap w.params) s.abs) = some (true) ∧ (end0 w os).map (fun s => (seen0 Xt s).2.1) = some (bltViewBooted) ∧ (end0 w os).map (fun s => s.abs.heap.accountedOkI (importedModules p0.main.body)) = some (true) ∧ (end0 w os).map (fun s => s.abs.heap.isNs mainGlobals && s.abs.heap.isNs builtinsNs) = some (true) ∧ (end0 w os).map (fun s => tablesOk q0 s.abs.heap) = some (true) ∧ (end0 w os).map (fun s => X0 s.abs) = some (true) ∧ (end0 w os).map (fun s => (if true then s.abs.gens.size == 0 else !leftWithCleanup s.abs.gens)) = some (true) ∧ (end0 w os).map (fun s => (seen0 Xt s).2.2.2.2.1) = some (pinGoodD (drecsOf q0)) ∧ (end0 w os).map (fun s => (seen0 Xt s).2.2.2.2.2.2.1) = some (plainGoodD q0 l0) ∧ (end0 w os).map (fun s => (seen0 Xt s).2.2.2.2.2.2.2.2) = some (clsGoodW q0 l0) := ⟨by kernel_rfl, by kernel_rfl, by kernel_rfl, by kernel_rfl, by kernel_rfl, by kernel_rfl, by kernel_rfl, by kernel_rfl, by kernel_rfl, by kernel_rfl⟩
theorem runA (Xt : Shared → Bool) (w : World) (os : OsState) : (end0 w os).map (fun s => looksF p0 (boot_heap w.params) s.abs) = some (true) := (runG0 Xt w os).1
theorem runB2 (Xt : Shared → Bool) (w : World) (os : OsState) : (end0 w os).map (fun s => (seen0 Xt s).2.1) = some (bltViewBooted) := (runG0 Xt w os).2.1
theorem runB3b (Xt : Shared → Bool) (w : World) (os : OsState) : (end0 w os).map (fun s => s.abs.heap.accountedOkI (importedModules p0.main.body)) = some (true) := (runG0 Xt w os).2.2.1
theorem runB3c (Xt : Shared → Bool) (w : World) (os : OsState) : (end0 w os).map (fun s => s.abs.heap.isNs mainGlobals && s.abs.heap.isNs builtinsNs) = some (true) := (runG0 Xt w os).2.2.2.1
theorem runB3d (Xt : Shared → Bool) (w : World) (os : OsState) : (end0 w os).map (fun s => tablesOk q0 s.abs.heap) = some (true) := (runG0 Xt w os).2.2.2.2.1
theorem runB3e (Xt : Shared → Bool) (w : World) (os : OsState) : (end0 w os).map (fun s => X0 s.abs) = some (true) := (runG0 Xt w os).2.2.2.2.2.1
theorem runB3f (Xt : Shared → Bool) (w : World) (os : OsState) : (end0 w os).map (fun s => (if true then s.abs.gens.size == 0 else !leftWithCleanup s.abs.gens)) = some (true) := (runG0 Xt w os).2.2.2.2.2.2.1
theorem runB5 (Xt : Shared → Bool) (w : World) (os : OsState) : (end0 w os).map (fun s => (seen0 Xt s).2.2.2.2.1) = some (pinGoodD (drecsOf q0)) := (runG0 Xt w os).2.2.2.2.2.2.2.1
theorem runB7 (Xt : Shared → Bool) (w : World) (os : OsState) : (end0 w os).map (fun s => (seen0 Xt s).2.2.2.2.2.2.1) = some (plainGoodD q0 l0) := (runG0 Xt w os).2.2.2.2.2.2.2.2.1
theorem runB9 (Xt : Shared → Bool) (w : World) (os : OsState) : (end0 w os).map (fun s => (seen0 Xt s).2.2.2.2.2.2.2.2) = some (clsGoodW q0 l0) := (runG0 Xt w os).2.2.2.2.2.2.2.2.2
theorem runG1 (Xt : Shared → Bool) (w : World) (os : OsState) : (end0 w os).map (fun s => (seen0 Xt s).1) = some (expectedOf q0) ∧ (end0 w os).map (fun s => s.abs.heap.keysOk lw0 ((recsOf q0).map (·.name)) ((litsOf q0).map (·.1)) ((clssOf q0 lw0).map (·.name))) = some (true) := ⟨by kernel_rfl, by kernel_rfl⟩
theorem runB1 (Xt : Shared → Bool) (w : World) (os : OsState) : (end0 w os).map (fun s => (seen0 Xt s).1) = some (expectedOf q0) := (runG1 Xt w os).1
theorem runB3a (Xt : Shared → Bool) (w : World) (os : OsState) : (end0 w os).map (fun s => s.abs.heap.keysOk lw0 ((recsOf q0).map (·.name)) ((litsOf q0).map (·.1)) ((clssOf q0 lw0).map (·.name))) = some (true) := (runG1 Xt w os).2
theorem runG2 (Xt : Shared → Bool) (w : World) (os : OsState) : (end0 w os).map (fun s => (seen0 Xt s).2.2.2.1) = some (true) ∧ (end0 w os).map (fun s => (seen0 Xt s).2.2.2.2.2.2.2.1) = some (wideGood q0) := ⟨by kernel_rfl, by kernel_rfl⟩
theorem runB4 (Xt : Shared → Bool) (w : World) (os : OsState) : (end0 w os).map (fun s => (seen0 Xt s).2.2.2.1) = some (true) := (runG2 Xt w os).1
theorem runB8 (Xt : Shared → Bool) (w : World) (os : OsState) : (end0 w os).map (fun s => (seen0 Xt s).2.2.2.2.2.2.2.1) = some (wideGood q0) := (runG2 Xt w os).2
theorem runG3 (Xt : Shared → Bool) (w : World) (os : OsState) : (end0 w os).map (fun s => PySem.W.Fast.tw2386780881361962483 q0 lw0 s.abs) = some ((plainsOf q0 lw0).map fun c => some c.withCmp.plainShape) ∧ (end0 w os).map (fun s => as0.map (getT s)) = some ((K0 w.params).map fun x => some x.2) ∧ (end0 w os).map (fun s => ts0.map (getT s)) = some (ts0.map fun _ => some (tabObj #[])) := ⟨by kernel_rfl, by kernel_rfl, by kernel_rfl⟩
theorem runB6 (Xt : Shared → Bool) (w : World) (os : OsState) : (end0 w os).map (fun s => PySem.W.Fast.tw2386780881361962483 q0 lw0 s.abs) = some ((plainsOf q0 lw0).map fun c => some c.withCmp.plainShape) := (runG3 Xt w os).1
theorem runC (Xt : Shared → Bool) (w : World) (os : OsState) : (end0 w os).map (fun s => as0.map (getT s)) = some ((K0 w.params).map fun x => some x.2) := (runG3 Xt w os).2.1
theorem runD (Xt : Shared → Bool) (w : World) (os : OsState) : (end0 w os).map (fun s => ts0.map (getT s)) = some (ts0.map fun _ => some (tabObj #[])) := (runG3 Xt w os).2.2
end HeadRun

set_option Elab.async false
set_option linter.all false
set_option maxRecDepth 100000
set_option maxHeartbeats 0
namespace HeadRun
open PySem PySem.W PySem.Calls PyProof.Rows
theorem look_halves {r : Option SharedT} {g : SharedT → Addr → Option Obj} {as : List Addr} {vs : List (Option Obj)} (k : Nat) (h1 : r.map (fun s => (as.take k).map (g s)) = some (vs.take k)) (h2 : r.map (fun s => (as.drop k).map (g s)) = some (vs.drop k)) : r.map (fun s => as.map (g s)) = some vs := by
  cases r with
  | none => cases h1
  | some s =>
    have e1 : (as.take k).map (g s) = vs.take k := Option.some.inj h1
    have e2 : (as.drop k).map (g s) = vs.drop k := Option.some.inj h2
    show some (as.map (g s)) = some vs
    rw [← List.take_append_drop k as, List.map_append, e1, e2, List.take_append_drop]
theorem look_pair {r : Option SharedT} {α β : Type} {f : SharedT → α × β} {a : α} {b : β} (h1 : r.map (fun s => (f s).1) = some a) (h2 : r.map (fun s => (f s).2) = some b) : r.map f = some (a, b) := by
  cases r with
  | none => cases h1
  | some s =>
    have e1 : (f s).1 = a := Option.some.inj h1
    have e2 : (f s).2 = b := Option.some.inj h2
    exact congrArg some (Prod.ext e1 e2)
theorem look_and {r : Option SharedT} {f g : SharedT → Bool} (h1 : r.map f = some true) (h2 : r.map g = some true) : r.map (fun s => f s && g s) = some true := by
  cases r with
  | none => cases h1
  | some s =>
    have e1 : f s = true := Option.some.inj h1
    have e2 : g s = true := Option.some.inj h2
    show some (f s && g s) = some true
    rw [e1, e2]; rfl
theorem looks_four {r : Option SharedT} {α β γ δ : Type} {A : SharedT → α} {B : SharedT → β} {C : SharedT → γ} {D : SharedT → δ} {a : α} {b : β} {c : γ} {d : δ} (h1 : r.map A = some a) (h2 : r.map B = some b) (h3 : r.map C = some c) (h4 : r.map D = some d) : r.map (fun s => (A s, B s, (C s, D s))) = some (a, b, (c, d)) := by
  cases r with
  | none => cases h1
  | some s =>
    have e1 : A s = a := Option.some.inj h1
    have e2 : B s = b := Option.some.inj h2
    have e3 : C s = c := Option.some.inj h3
    have e4 : D s = d := Option.some.inj h4
    show some (A s, B s, (C s, D s)) = _
    rw [e1, e2, e3, e4]
/-- all that is seen -/
theorem seen_third (w : World) (os : OsState) : (end0 w os).map (fun s => (seen0 X0 s).2.2.1) = some true := by
  have e : (fun s : SharedT => (seen0 X0 s).2.2.1) = fun s => (openSeen q0 l0 (importedModules p0.main.body) X0 true s.abs).2.2.1 := by
    funext s
    rw [show seen0 X0 s = _ from (seenQ_eq q0 l0 (importedModules p0.main.body) X0 s.abs).symm]
  rw [e]
  have c := look_and (look_and (look_and (look_and (look_and (runB3a X0 w os) (runB3b X0 w os)) (runB3c X0 w os)) (runB3d X0 w os)) (runB3e X0 w os)) (runB3f X0 w os)
  refine Eq.trans (congrArg (fun f => (end0 w os).map f) (funext fun s => ?_)) c
  show ((((((s.abs.heap.keysOk (looseW q0 l0) _ _ ((clssOf q0 (looseW q0 l0)).map (·.name)) && s.abs.heap.accountedOkI _) && s.abs.heap.isNs mainGlobals) && s.abs.heap.isNs builtinsNs) && tablesOk _ _) && X0 s.abs) && _) = _
  rw [lwE]
  simp only [Bool.and_assoc]
theorem seen_sixth (w : World) (os : OsState) : (end0 w os).map (fun s => (seen0 X0 s).2.2.2.2.2.1) = some (plainGoodE q0 (looseW q0 l0)) := by
  have e : (fun s : SharedT => (seen0 X0 s).2.2.2.2.2.1) = fun s => PySem.W.Fast.tw2386780881361962483 q0 lw0 s.abs := by
    funext s
    show PySem.W.Fast.tw2386780881361962483 q0 (PySem.W.Fast.tw821141287760084731 q0 l0) s.abs = _
    rw [lwT]
  rw [e, lwE]
  exact runB6 X0 w os
theorem seen_all (w : World) (os : OsState) : (end0 w os).map (fun s => seenQ q0 l0 (importedModules p0.main.body) X0 s.abs) = some (openGood q0 l0) :=
  look_pair (runB1 X0 w os) (look_pair (runB2 X0 w os) (look_pair (seen_third w os) (look_pair (runB4 X0 w os) (look_pair (runB5 X0 w os) (look_pair (seen_sixth w os) (look_pair (runB7 X0 w os) (look_pair (runB8 X0 w os) (runB9 X0 w os))))))))
theorem left_oneKM {p q : Program} {loose : List PySem.Str} {Xt : Shared → Bool} {N M : Nat}
    (e : opening p = plainProg p.main.scope.names) (hN : Nat.ble 600 N = true) (f : ∀ s, fenceModules? p s = some s) (le : Nat.ble M N = true)
    (_ : ∀ (_ : World) (_ : OsState), (0 : Nat) = 0)
    (hp : p = p0) (hq : q = q0) (hl : loose = l0) (hM : M = steps0) (hX : Xt = X0) :
    LeftO p q loose Xt (Hook.obs (kmHook K0 as0 ek0 ts0)) (Hook.val (kmHook K0 as0 ek0 ts0)) N true := by
  subst hp hq hl hM hX
  exact left_one (M := steps0) e hN f le fun w os => by
    have z := looks_four (runA X0 w os) (seen_all w os) (runC X0 w os) (runD X0 w os)
    have eo : (fun s : SharedT => (looksF p0 (boot_heap w.params) s.abs, seenQ q0 l0 (importedModules p0.main.body) X0 s.abs, (as0.map (getT s), ts0.map (getT s)))) = fun s => (looksF p0 (boot_heap w.params) s.abs, seenQ q0 l0 (importedModules p0.main.body) X0 s.abs, Hook.obs (kmHook K0 as0 ek0 ts0) s.abs) := by
      funext s
      have q1 : as0.map (getT s) = as0.map s.abs.heap.get? := List.map_congr_left fun a _ => getT_eq s a
      have q2 : ts0.map (getT s) = ts0.map s.abs.heap.get? := List.map_congr_left fun a _ => getT_eq s a
      rw [q1, q2]
      rfl
    rw [eo] at z
    simp only [endQ_eq, seenQ_eq]
    exact z
end HeadRun

set_option Elab.async false
set_option linter.all false
set_option maxRecDepth 100000
set_option maxHeartbeats 4000000
namespace Vw
open PySem PySem.Spec PyProof.Rows L2 RT

/-! ### operators of more than one kind -/
section
variable {X : Cx}
def rOr (r r' : R2) : R2 := fun x y H Q => r x y H Q ∨ r' x y H Q
theorem oOr {f : Value → Value → Sem Value} {r r' : R2} (a : OpR X f r) (b : OpR X f r') : OpR X f (rOr r r') := by
  intro pins s σ H x y v u Q I rx ry q
  cases q with
  | inl q => exact a pins s σ H x y v u Q I rx ry q
  | inr q => exact b pins s σ H x y v u Q I rx ry q
def cOr (r r' : List V → Hp → VK → Prop) : List V → Hp → VK → Prop := fun x H Q => r x H Q ∨ r' x H Q
theorem kOr {f : Value} {r r' : List V → Hp → VK → Prop} (a : CallR X f r) (b : CallR X f r') : CallR X f (cOr r r') := by
  intro pins s σ H xs us Q I rx q
  cases q with
  | inl q => exact a pins s σ H xs us Q I rx q
  | inr q => exact b pins s σ H xs us Q I rx q
abbrev rIAdd : R2 := rI0 fun i j => .int (i + j)
abbrev rSAdd' : R2 := fun x y H Q => ∃ i j, x = .str i ∧ y = .str j ∧ i.length + j.length ≤ sizeLine ∧ Q (.str (i ++ j)) H
theorem oAdd : OpR X (binaryOp .Add) (rOr rIAdd (rOr rCat rSAdd')) := oOr op_add (oOr op_cat op_add_str)
abbrev rIMul : R2 := rI CMul fun i j => .int (i * j)
theorem oMul : OpR X (binaryOp .Mult) (rOr rIMul rRep) := oOr op_mul op_rep
theorem oLt : OpR X (compareOp .Lt) (rI0 fun i j => .bl (decide (i < j))) := op_lt
variable {K : PySem.W.Frag}
theorem oEq (hu : X.A.units + 64 < cLine) (e : X.K = K := by rfl) : OpR X (compareOp .Eq) (rOr rEq (rEqD K)) := by cases e; exact oOr op_eq (op_eqD hu)
theorem oNe (hu : X.A.units + 64 < cLine) (e : X.K = K := by rfl) : OpR X (compareOp .NotEq) (rOr rNe (rNeD K)) := by cases e; exact oOr op_ne (op_neD hu)
theorem oIn (e : X.K = K := by rfl) : OpR X (compareOp .In) (rIn K false) := by cases e; exact op_in_seq
theorem oNotIn (e : X.K = K := by rfl) : OpR X (compareOp .NotIn) (rIn K true) := by cases e; exact op_notIn_seq
abbrev rIxLT (K : PySem.W.Frag) : R2 := fun x y H Q => rIxL K x y H Q ∨ rIxT K x y H Q
theorem ixLT (e : X.K = K := by rfl) : IxR X (rIxLT K) := by cases e; exact IxR.or ix_list ix_tup
def rLen' (K : PySem.W.Frag) : List V → Hp → VK → Prop := fun xs H Q => ∃ x n, xs = [x] ∧ LenV K x H n ∧ Q (.int n) H
theorem cLen (e : X.K = K := by rfl) : CallR X (.builtin "len") (rLen' K) := by cases e; exact call_len
theorem cIsi (e : X.K = K := by rfl) : CallR X (.builtin "isinstance") (rIsi K) := by cases e; exact call_isi
theorem cIsiT (e : X.K = K := by rfl) : CallR X (.builtin "isinstance") (rIsiT K) := by cases e; exact call_isiT
def rIsN0 : R2 := fun x y H Q => y = .non ∧ Q (.bl (decide (x = .non))) H
def rNoN0 : R2 := fun x y H Q => y = .non ∧ Q (.bl (!decide (x = .non))) H
theorem oIsN : OpR X (compareOp .Is) rIsN0 := op_isN
theorem oNotN : OpR X (compareOp .IsNot) rNoN0 := op_notN
theorem cAll (hc : X.calm = true) (e : X.K = K := by rfl) : CallR X (.builtin "all") (rAll K) := by cases e; exact cr_all hc
theorem cAny (hc : X.calm = true) (e : X.K = K := by rfl) : CallR X (.builtin "any") (rAny K) := by cases e; exact cr_any hc
theorem cSortI (e : X.K = K := by rfl) : CallR X (.builtin "sorted") (rSortedI K) := by cases e; exact cr_sortedI
def rListOf (K : PySem.W.Frag) : List V → Hp → VK → Prop := fun xs H Q => ∃ p ys, xs = [.ref p] ∧ (SqL K H p ys ∨ SqT K H p ys) ∧ ∀ l, H l = none → Q (.ref l) (upd H l (.lst ys))
theorem cListOf (e : X.K = K := by rfl) : CallR X (.type "list") (rListOf K) := by cases e; exact call_list_of
def rTupOf (K : PySem.W.Frag) : List V → Hp → VK → Prop := fun xs H Q => ∃ p ys, xs = [.ref p] ∧ ((SqL K H p ys ∧ ∀ l, H l = none → Q (.ref l) (upd H l (.tup ys))) ∨ (SqT K H p ys ∧ Q (.ref p) H))
theorem cTupOf (e : X.K = K := by rfl) : CallR X (.type "tuple") (rTupOf K) := by cases e; exact call_tuple_of
def rInt1 : List V → Hp → VK → Prop := fun xs H Q => (∃ i, xs = [.int i] ∧ Q (.int i) H) ∨ ∃ k, xs = [.bl k] ∧ Q (.int (if k then 1 else 0)) H
theorem cInt : CallR X (.type "int") rInt1 := call_int1
def rAbs : List V → Hp → VK → Prop := fun xs H Q => ∃ i, xs = [.int i] ∧ Q (.int (if i < 0 then -i else i)) H
theorem cAbs : CallR X (.builtin "abs") rAbs := call_abs
def rMin2 : List V → Hp → VK → Prop := fun xs H Q => ∃ i j, xs = [.int i, .int j] ∧ Q (.int (if j < i then j else i)) H
theorem cMin2 (hc : X.calm = true) : CallR X (.builtin "min") rMin2 := call_min2 hc
def rMax2 : List V → Hp → VK → Prop := fun xs H Q => ∃ i j, xs = [.int i, .int j] ∧ Q (.int (if j > i then j else i)) H
theorem cMax2 (hc : X.calm = true) : CallR X (.builtin "max") rMax2 := call_max2 hc
theorem slL (e : X.K = K := by rfl) : SlR X (rSlL K) := by cases e; exact sl_list
theorem piL {tg l : Expr} {tl : TE} (hl : PE X l tl) (e : X.K = K := by rfl) : PI X tg l (iList K tl) := by cases e; exact pi_list hl
theorem piT {tg l : Expr} {tl : TE} (hl : PE X l tl) (e : X.K = K := by rfl) : PI X tg l (iTup K tl) := by cases e; exact pi_tup hl
theorem piEnum {ex : Expr} {ta : TA} {p pos tpos : Pos} {elts : List Expr} {kk : Nat} (hg : Gl X "enumerate") (hm : X.mg "enumerate" = none) (ha : PA X [ex] ta) (e : X.K = K := by rfl) (hs : starEach [ex] X.env = [(false, eval ex X.env)] := by rfl) :
    PI X (.Tuple elts kk tpos) (.Call (.Name "enumerate" p) [ex] [] pos) (iEnum K ta) := by cases e; exact pi_enum hg hm ha hs
theorem piRev {tg ex : Expr} {te : TE} {p pos : Pos} (hg : Gl X "reversed") (hm : X.mg "reversed" = none) (he : PE X ex te) (e : X.K = K := by rfl) (hs : starEach [ex] X.env = (false, eval ex X.env) :: starEach [] X.env := by rfl) :
    PI X tg (.Call (.Name "reversed" p) [ex] [] pos) (iRevA K te) := by cases e; exact pi_revA hg hm he hs
theorem pgTup {es : List Expr} {k : Nat} {t : TGs} {n : Nat} {p : Pos} (h : PG X (.Tuple es k p) (gTup X.K n t)) (e : X.K = K := by rfl) : PG X (.Tuple es k p) (gTup K n t) := by cases e; exact h
theorem peApp {o ex : Expr} {to te : TE} {apos cpos : Pos} (h : PE X (.Call (.Attribute o "append" apos) [ex] [] cpos) (tBM X.K "list" rAppend to (tCons te tNil))) (e : X.K = K := by rfl) :
    PE X (.Call (.Attribute o "append" apos) [ex] [] cpos) (tBM K "list" rAppend to (tCons te tNil)) := by cases e; exact h
def tTruE (K : PySem.W.Frag) (ta : TE) : TT := fun σ H Q => ta σ H fun x H' => ∃ k, TruV K x H' k ∧ Q k H'
theorem ptTruth {a : Expr} {ta : TE} (ha : PE X a ta) (he : ∀ whole, isTrue a X.env whole = (do let v ← whole; standAt a.pos; holding [v] (truthy v))) (e : X.K = K := by rfl) : PT X a (tTruE K ta) := by cases e; exact pt_truth ha he
end

/-! ### heaps -/
theorem Same.new {H : Hp} {p : Addr} {o : HO} (h : H p = none) : Same H (upd H p o) := fun b x e => by
  rw [upd_ne (ne_of_none e h)]; exact e
theorem at_ {H H' : Hp} {a : Addr} {o : HO} (s : Same H H') (h : H a = some o) : H' a = some o := s a o h
theorem rd_ {H H' : Hp} {a : Addr} {o : HO} (s : Same H H') (h : Rd H a o) : Rd H' a o := by
  cases h with
  | inl h => exact .inl (s _ _ h)
  | inr h => exact .inr (h.elim fun u q => ⟨u, s _ _ q⟩)
section
variable {K : PySem.W.Frag} {H H' : Hp} {a p : Addr} {xs : List V} {o : HO}
theorem sl_ (s : Same H H') (h : SqL K H a xs) : SqL K H' a xs := h.elim (fun q => .inl (rd_ s q)) .inr
theorem st_ (s : Same H H') (h : SqT K H a xs) : SqT K H' a xs := h.elim (fun q => .inl (rd_ s q)) .inr
theorem slO (h : H a = some (.lst xs)) : SqL K H a xs := .inl (.inl h)
theorem stO (h : H a = some (.tup xs)) : SqT K H a xs := .inl (.inl h)
theorem ne_new (h : H a = some o) (n : H p = none) : a ≠ p := ne_of_none h n
theorem free_ (s : Same H H') (n : H' p = none) : H p = none := s.free n
end
theorem lt_size {n : Nat} (h : n < 100000) : n < sizeLine := Nat.lt_of_lt_of_le h (by decide)
theorem le_size {n : Nat} (h : n < 100000) : n ≤ sizeLine := Nat.le_of_lt (lt_size h)
/-- a new object, wherever -/
def NewQ (o : HO) (H : Hp) (Q : VK) : Prop := ∀ p, H p = none → Q (.ref p) (upd H p o)
/-- all but one object is as it was -/
def Oth (hd : Addr) (H H' : Hp) : Prop := ∀ b o, b ≠ hd → H b = some o → H' b = some o
theorem oth_sl {K : PySem.W.Frag} {hd a : Addr} {H H' : Hp} {xs : List V} (o : Oth hd H H') (n : a ≠ hd) (s : SqL K H a xs) : SqL K H' a xs := by
  rcases s with (s | ⟨u, s⟩) | s
  · exact .inl (.inl (o _ _ n s))
  · exact .inl (.inr ⟨u, o _ _ n s⟩)
  · exact .inr s
theorem oth_st {K : PySem.W.Frag} {hd a : Addr} {H H' : Hp} {xs ys : List V} (o : Oth hd H H') (n : H hd = some (.lst ys)) (s : SqT K H a xs) : SqT K H' a xs := by
  rcases s with (s | ⟨u, s⟩) | s
  · exact .inl (.inl (o _ _ (fun z => by rw [z, n] at s; cases s) s))
  · exact .inl (.inr ⟨u, o _ _ (fun z => by rw [z, n] at s; cases s) s⟩)
  · exact .inr s
theorem Oth.trans {hd : Addr} {H H1 H2 : Hp} (a : Oth hd H H1) (b : Oth hd H1 H2) : Oth hd H H2 := fun c o n h => b c o n (a c o n h)
theorem Same.oth {hd : Addr} {H H' : Hp} (s : Same H H') : Oth hd H H' := fun c o _ h => s c o h

/-! ### one step of a reading -/
section
variable {K : PySem.W.Frag} {σ : L2.St} {H : Hp} {Q : VK} {QB : Bool → Hp → Prop} {QA : List V → Hp → Prop} {D : Ends} {ta tb te : TE} {t u : TS} {c d : TT} {i : Nat} {v : V} {b : Bool}
theorem s_seq (h : t { D with nx := u D } σ H) : tSeq t u D σ H := h
theorem s_cut (M : L2.St → Hp → Prop) (h : t { D with nx := M } σ H) (k : ∀ σ' H', M σ' H' → u D σ' H') : Evl.tCut t u D σ H := ⟨M, h, k⟩
theorem s_next (h : D.nx σ H) : tNext D σ H := h
theorem s_brk (h : D.bk σ H) : tBreak D σ H := h
theorem s_cont (h : D.ct σ H) : tCont D σ H := h
theorem s_set (h : te σ H fun x H1 => D.nx (σ.set i (some x)) H1) : tAsg te (gName i) D σ H := h
theorem s_asg {g : TG} (h : te σ H fun x H1 => g x σ H1 D.nx) : tAsg te g D σ H := h
theorem s_ret (h : te σ H D.rt) : tRet te D σ H := h
theorem s_retN (h : D.rt .non H) : tRetN D σ H := h
theorem s_drop (h : te σ H fun _ H1 => D.nx σ H1) : tDrop te D σ H := h
theorem s_if (h : c σ H fun b H1 => if b = true then t D σ H1 else u D σ H1) : tIfS c t u D σ H := h
theorem s_aug {ti : TIp} {x : V} (e : σ[i]? = some (some x)) (h : te σ H fun y H1 => ti x y H1 fun z H2 => D.nx (σ.set i (some z)) H2) : tAug i te ti D σ H := ⟨x, e, h⟩
theorem s_ipI {f : Int → Int → Int} {a b : Int} (h : Q (.int (f a b)) H) : ipI f (.int a) (.int b) H Q := ⟨a, b, rfl, rfl, h⟩
theorem e_var (h : σ[i]? = some (some v)) (q : Q v H) : tVar i σ H Q := ⟨v, h, q⟩
theorem e_c (q : Q v H) : tC v σ H Q := q
theorem e_op {r : R2} (h : ta σ H fun x H1 => tb σ H1 fun y H2 => r x y H2 Q) : tOp r ta tb σ H Q := h
theorem e_un {r : V → Hp → VK → Prop} (h : ta σ H fun x H1 => r x H1 Q) : tUn r ta σ H Q := h
theorem e_neg {a : Int} (h : Q (.int (-a)) H) : rU (fun i => V.int (-i)) (.int a) H Q := ⟨a, rfl, h⟩
theorem e_test (h : te σ H fun x H1 => ∃ k, x = .bl k ∧ QB k H1) : tTest te σ H QB := h
theorem e_tB (h : te σ H fun x H1 => ∃ k, x = .bl k ∧ QB k H1) : tB te σ H QB := h
theorem e_bl (q : QB b H) : ∃ k, V.bl b = .bl k ∧ QB k H := ⟨b, rfl, q⟩
theorem e_and (h : c σ H fun b H1 => if b = true then d σ H1 QB else QB false H1) : tAnd c d σ H QB := h
theorem e_or (h : c σ H fun b H1 => if b = true then QB true H1 else d σ H1 QB) : tOr c d σ H QB := h
theorem e_not (h : c σ H fun b H1 => QB (!b) H1) : tNot c σ H QB := h
theorem e_andV (h : ta σ H fun x H1 => ∃ k, x = .bl k ∧ if k = true then tb σ H1 Q else Q (.bl false) H1) : tAndV ta tb σ H Q := h
theorem e_orV (h : ta σ H fun x H1 => ∃ k, x = .bl k ∧ if k = true then Q (.bl true) H1 else tb σ H1 Q) : tOrV ta tb σ H Q := h
theorem e_notV (h : ta σ H fun x H1 => ∃ k, x = .bl k ∧ Q (.bl (!k)) H1) : tNotV ta σ H Q := h
theorem e_kV {P : Bool → Prop} (q : P b) : ∃ k, V.bl b = .bl k ∧ P k := ⟨b, rfl, q⟩
theorem e_ife (h : c σ H fun b H1 => if b = true then ta σ H1 Q else tb σ H1 Q) : tIf c ta tb σ H Q := h
theorem e_nil (q : QA [] H) : tNil σ H QA := q
theorem e_cons {tr : TA} (h : ta σ H fun x H1 => tr σ H1 fun xs H2 => QA (x :: xs) H2) : tCons ta tr σ H QA := h
theorem e_cb {r : List V → Hp → VK → Prop} {tt : TA} (h : tt σ H fun vs H1 => r vs H1 Q) : tCB r tt σ H Q := h
theorem e_call {sp : Sp} {dvs : List V} {E : XK} {tt : TA} (h : tt σ H fun vs H1 => sp (vs ++ dvs) H1 Q E) : tCall sp dvs E tt σ H Q := h
theorem e_chain {r r' : R2} {tc : TE} (h : ta σ H fun x H1 => tb σ H1 fun y H2 => r x y H2 fun z H3 => ∃ k, z = .bl k ∧ if k = true then tc σ H3 fun w H4 => r' y w H4 Q else Q (.bl false) H3) : tChain r r' ta tb tc σ H Q := h
theorem o_l {r r' : R2} {x y : V} (h : r x y H Q) : rOr r r' x y H Q := .inl h
theorem o_r {r r' : R2} {x y : V} (h : r' x y H Q) : rOr r r' x y H Q := .inr h
theorem o_I0 {g : Int → Int → V} {a b : Int} (h : Q (g a b) H) : rI0 g (.int a) (.int b) H Q := ⟨a, b, rfl, rfl, h⟩
theorem o_addI {r' : R2} {a b : Int} (h : Q (.int (a + b)) H) : rOr rIAdd r' (.int a) (.int b) H Q := .inl ⟨a, b, rfl, rfl, h⟩
theorem o_mod {a b : Int} (hb : 0 < b) (h : Q (.int (a % b)) H) : rI (fun _ j => 0 < j) (fun i j => V.int (i % j)) (.int a) (.int b) H Q := ⟨a, b, rfl, rfl, hb, h⟩
theorem o_modL {a b : Int} (hb : 0 < b) (h : ∀ r, 0 ≤ r → r < b → Q (.int r) H) : rI (fun _ j => 0 < j) (fun i j => V.int (i % j)) (.int a) (.int b) H Q := o_mod hb (h _ (Int.emod_nonneg _ (by omega)) (Int.emod_lt_of_pos _ hb))
theorem o_mulR {r' : R2} {a b : Int} (hb : -(2 ^ 64) < b ∧ b < 2 ^ 64) (h : Q (.int (a * b)) H) : rOr rIMul r' (.int a) (.int b) H Q := .inl ⟨a, b, rfl, rfl, .inr hb, h⟩
theorem o_mulL {r' : R2} {a b : Int} (ha : -(2 ^ 64) < a ∧ a < 2 ^ 64) (h : Q (.int (a * b)) H) : rOr rIMul r' (.int a) (.int b) H Q := .inl ⟨a, b, rfl, rfl, .inl ha, h⟩
theorem o_divW {a b : Int} (n : Nat) (hb : 0 < b) (h1 : b < 2 ^ n) (h2 : 0 < n) (h3 : n ≤ 9000) (h : Q (.int (a / b)) H) : rI CDivW (fun i j => V.int (i / j)) (.int a) (.int b) H Q := ⟨a, b, rfl, rfl, wide_div (b := n) hb (by
  have e : ((2 ^ n : Nat) : Int) = (2 : Int) ^ n := by rw [Int.natCast_pow]; rfl
  have : (b.natAbs : Int) = b := by omega
  have h4 : ((b.natAbs : Nat) : Int) < ((2 ^ n : Nat) : Int) := by rw [this, e]; exact h1
  exact Int.ofNat_lt.mp h4) h2 h3, h⟩
theorem o_div {a b : Int} (hb : 0 < b) (h1 : b < 2 ^ 100) (h : Q (.int (a / b)) H) : rI CDivW (fun i j => V.int (i / j)) (.int a) (.int b) H Q := o_divW 100 hb h1 (by decide) (by decide) h
theorem o_pow {a b : Int} (n : Nat) (e : b = (n : Nat)) (h0 : n ≤ 1000000) (h1 : a.natAbs < 2 ^ 64) (h : Q (.int (a ^ n)) H) : rI CPow (fun i j => V.int (i ^ j.toNat)) (.int a) (.int b) H Q := ⟨a, b, rfl, rfl, ⟨by omega, by omega, h1⟩, by
  have e2 : b.toNat = n := by omega
  show Q (.int (a ^ b.toNat)) H
  rw [e2]; exact h⟩
theorem o_pow1 (h : Q (.int 10) H) : rI CPow (fun i j => V.int (i ^ j.toNat)) (.int 10) (.int 1) H Q := o_pow 1 rfl (by decide) (by decide) (by rw [(by decide : (10 : Int) ^ 1 = 10)]; exact h)
theorem o_pow2 (h : Q (.int 100) H) : rI CPow (fun i j => V.int (i ^ j.toNat)) (.int 10) (.int 2) H Q := o_pow 2 rfl (by decide) (by decide) (by rw [(by decide : (10 : Int) ^ 2 = 100)]; exact h)
theorem o_pow3 (h : Q (.int 1000) H) : rI CPow (fun i j => V.int (i ^ j.toNat)) (.int 10) (.int 3) H Q := o_pow 3 rfl (by decide) (by decide) (by rw [(by decide : (10 : Int) ^ 3 = 1000)]; exact h)
theorem o_pow4 (h : Q (.int 10000) H) : rI CPow (fun i j => V.int (i ^ j.toNat)) (.int 10) (.int 4) H Q := o_pow 4 rfl (by decide) (by decide) (by rw [(by decide : (10 : Int) ^ 4 = 10000)]; exact h)
theorem o_pow5 (h : Q (.int 100000) H) : rI CPow (fun i j => V.int (i ^ j.toNat)) (.int 10) (.int 5) H Q := o_pow 5 rfl (by decide) (by decide) (by rw [(by decide : (10 : Int) ^ 5 = 100000)]; exact h)
theorem o_pow6 (h : Q (.int 1000000) H) : rI CPow (fun i j => V.int (i ^ j.toNat)) (.int 10) (.int 6) H Q := o_pow 6 rfl (by decide) (by decide) (by rw [(by decide : (10 : Int) ^ 6 = 1000000)]; exact h)
theorem o_pow9 (h : Q (.int 1000000000) H) : rI CPow (fun i j => V.int (i ^ j.toNat)) (.int 10) (.int 9) H Q := o_pow 9 rfl (by decide) (by decide) (by rw [(by decide : (10 : Int) ^ 9 = 1000000000)]; exact h)
theorem o_pow10 (h : Q (.int 10000000000) H) : rI CPow (fun i j => V.int (i ^ j.toNat)) (.int 10) (.int 10) H Q := o_pow 10 rfl (by decide) (by decide) (by rw [(by decide : (10 : Int) ^ 10 = 10000000000)]; exact h)
theorem o_pow12 (h : Q (.int 1000000000000) H) : rI CPow (fun i j => V.int (i ^ j.toNat)) (.int 10) (.int 12) H Q := o_pow 12 rfl (by decide) (by decide) (by rw [(by decide : (10 : Int) ^ 12 = 1000000000000)]; exact h)
theorem o_pow15 (h : Q (.int 1000000000000000) H) : rI CPow (fun i j => V.int (i ^ j.toNat)) (.int 10) (.int 15) H Q := o_pow 15 rfl (by decide) (by decide) (by rw [(by decide : (10 : Int) ^ 15 = 1000000000000000)]; exact h)
theorem o_pow16 (h : Q (.int 10000000000000000) H) : rI CPow (fun i j => V.int (i ^ j.toNat)) (.int 10) (.int 16) H Q := o_pow 16 rfl (by decide) (by decide) (by rw [(by decide : (10 : Int) ^ 16 = 10000000000000000)]; exact h)
theorem o_pow17 (h : Q (.int 100000000000000000) H) : rI CPow (fun i j => V.int (i ^ j.toNat)) (.int 10) (.int 17) H Q := o_pow 17 rfl (by decide) (by decide) (by rw [(by decide : (10 : Int) ^ 17 = 100000000000000000)]; exact h)
theorem o_pow18 (h : Q (.int 1000000000000000000) H) : rI CPow (fun i j => V.int (i ^ j.toNat)) (.int 10) (.int 18) H Q := o_pow 18 rfl (by decide) (by decide) (by rw [(by decide : (10 : Int) ^ 18 = 1000000000000000000)]; exact h)
theorem o_pow19 (h : Q (.int 10000000000000000000) H) : rI CPow (fun i j => V.int (i ^ j.toNat)) (.int 10) (.int 19) H Q := o_pow 19 rfl (by decide) (by decide) (by rw [(by decide : (10 : Int) ^ 19 = 10000000000000000000)]; exact h)
theorem o_pow20 (h : Q (.int 100000000000000000000) H) : rI CPow (fun i j => V.int (i ^ j.toNat)) (.int 10) (.int 20) H Q := o_pow 20 rfl (by decide) (by decide) (by rw [(by decide : (10 : Int) ^ 20 = 100000000000000000000)]; exact h)
theorem o_pow30 (h : Q (.int 1000000000000000000000000000000) H) : rI CPow (fun i j => V.int (i ^ j.toNat)) (.int 10) (.int 30) H Q := o_pow 30 rfl (by decide) (by decide) (by rw [(by decide : (10 : Int) ^ 30 = 1000000000000000000000000000000)]; exact h)
theorem o_pow31 (h : Q (.int 10000000000000000000000000000000) H) : rI CPow (fun i j => V.int (i ^ j.toNat)) (.int 10) (.int 31) H Q := o_pow 31 rfl (by decide) (by decide) (by rw [(by decide : (10 : Int) ^ 31 = 10000000000000000000000000000000)]; exact h)
theorem set_ {p : Addr} {xs : List V} {k : Int} {j : Nat} {R : Hp → Prop} (h : H p = some (.lst xs)) (e : ixN xs.length k = some j) (q : ∀ H2, Oth p H H2 → H2 p = some (.lst (xs.set j v)) → R H2) : rSetL (.ref p) (.int k) v H R :=
  ⟨p, xs, k, j, rfl, rfl, h, e, q _ (fun b o n z => by rw [upd_ne n]; exact z) upd_same⟩
theorem g_sub {to ti : TE} {tset : TSet} {R : L2.St → Hp → Prop} (h : to σ H fun o H1 => ti σ H1 fun i H2 => tset o i v H2 fun H3 => R σ H3) : gSub to ti tset v σ H R := h
theorem o_eqS {r' : R2} {x y : V} (s : scal x y = true) (h : Q (.bl (decide (x = y))) H) : rOr rEq r' x y H Q := .inl ⟨s, h⟩
theorem o_eqI {r' : R2} {a b : Int} (h : Q (.bl (decide (a = b))) H) : rOr rEq r' (.int a) (.int b) H Q := .inl ⟨rfl, by
  have e : decide (V.int a = V.int b) = decide (a = b) := by
    by_cases q : a = b
    · rw [decide_eq_true q, q]; exact decide_eq_true rfl
    · rw [decide_eq_false q]; exact decide_eq_false fun z => q (V.int.inj z)
  rw [e]; exact h⟩
theorem o_neI {r' : R2} {a b : Int} (h : Q (.bl (decide (a ≠ b))) H) : rOr rNe r' (.int a) (.int b) H Q := .inl ⟨rfl, by
  have e : (!decide (V.int a = V.int b)) = decide (a ≠ b) := by
    by_cases q : a = b
    · rw [decide_eq_false (show ¬ a ≠ b from fun z => z q), q, decide_eq_true rfl] <;> rfl
    · rw [decide_eq_true (show a ≠ b from q), decide_eq_false fun z => q (V.int.inj z)] <;> rfl
  rw [e]; exact h⟩
theorem o_ixL {p : Addr} {xs : List V} {a : Int} (s : SqL K H p xs) (e : atI xs a = some v) (q : Q v H) : rIxLT K (.ref p) (.int a) H Q := .inl ⟨p, xs, a, v, rfl, rfl, s, e, q⟩
theorem o_ixT {p : Addr} {xs : List V} {a : Int} (s : SqT K H p xs) (e : atI xs a = some v) (q : Q v H) : rIxLT K (.ref p) (.int a) H Q := .inr ⟨p, xs, a, v, rfl, rfl, s, e, q⟩
theorem o_ixA {p : Addr} {xs : List V} {a : Int} (s : H p = some (.lst xs)) (e : atI xs a = some v) (q : Q v H) : rIxLT K (.ref p) (.int a) H Q := o_ixL (slO s) e q
theorem o_ixU {p : Addr} {xs : List V} {a : Int} (s : H p = some (.tup xs)) (e : atI xs a = some v) (q : Q v H) : rIxLT K (.ref p) (.int a) H Q := o_ixT (stO s) e q
theorem ixN_in {n : Nat} {z : Int} {j : Nat} (e : z = (j : Nat)) (h : j < n) : ixN n z = some j := by
  unfold ixN
  rw [if_pos (by omega), if_pos (by omega)]
  congr 1; omega
theorem atI_in {α : Type} {xs : List α} {z : Int} {j : Nat} {x : α} (e : z = (j : Nat)) (h : xs[j]? = some x) : atI xs z = some x := by
  have hj : j < xs.length := (List.getElem?_eq_some_iff.mp h).1
  unfold atI
  rw [ixN_in e hj]
  exact h
theorem e_lenL {p : Addr} {xs : List V} (s : SqL K H p xs) (q : Q (.int (xs.length : Nat)) H) : rLen' K [.ref p] H Q := ⟨_, xs.length, rfl, .inl ⟨xs, s, rfl⟩, q⟩
theorem e_lenM {α : Type} {f : α → V} {p : Addr} {xs : List α} (s : SqL K H p (xs.map f)) (q : Q (.int (xs.length : Nat)) H) : rLen' K [.ref p] H Q := e_lenL s (by rw [List.length_map]; exact q)
theorem e_lenN {α : Type} {f : α → V} {p : Addr} {xs : List α} (s : SqT K H p (xs.map f)) (q : Q (.int (xs.length : Nat)) H) : rLen' K [.ref p] H Q := ⟨_, xs.length, rfl, .inr ⟨_, s, by rw [List.length_map]⟩, q⟩
theorem e_lenT {p : Addr} {xs : List V} (s : SqT K H p xs) (q : Q (.int (xs.length : Nat)) H) : rLen' K [.ref p] H Q := ⟨_, xs.length, rfl, .inr ⟨xs, s, rfl⟩, q⟩
theorem i_t {A B : Prop} (hb : b = true) (q : A) : if b = true then A else B := by rw [if_pos hb]; exact q
theorem i_f {A B : Prop} (hb : b = false) (q : B) : if b = true then A else B := by rw [hb]; exact iteF q
theorem i_nt {A B : Prop} (q : B) : if (!true) = true then A else B := q
theorem i_nf {A B : Prop} (q : A) : if (!false) = true then A else B := q
theorem i_dt {p A B : Prop} [Decidable p] (hp : p) (q : A) : if decide p = true then A else B := i_t (decide_eq_true hp) q
theorem i_df {p A B : Prop} [Decidable p] (hp : ¬ p) (q : B) : if decide p = true then A else B := i_f (decide_eq_false hp) q
theorem i_ndt {p A B : Prop} [Decidable p] (hp : ¬ p) (q : A) : if (!decide p) = true then A else B := i_t (by rw [decide_eq_false hp]; rfl) q
theorem i_ndf {p A B : Prop} [Decidable p] (hp : p) (q : B) : if (!decide p) = true then A else B := i_f (by rw [decide_eq_true hp]; rfl) q
theorem i_d {p A B : Prop} [Decidable p] (h1 : p → A) (h2 : ¬ p → B) : if decide p = true then A else B := by
  by_cases hp : p
  · exact i_dt hp (h1 hp)
  · exact i_df hp (h2 hp)
/-- a new list, a new tuple -/
theorem e_lst {tt : TA} (h : tt σ H fun xs H1 => xs.length ≤ sizeLine ∧ NewQ (.lst xs) H1 Q) : tLst tt σ H Q := h
theorem e_tup {tt : TA} (h : tt σ H fun xs H1 => xs.length ≤ sizeLine ∧ NewQ (.tup xs) H1 Q) : tTup tt σ H Q := h
theorem n_new {n : Nat} {o : HO} (hl : n ≤ sizeLine) (h : ∀ p H2, H p = none → Same H H2 → H2 p = some o → Q (.ref p) H2) : n ≤ sizeLine ∧ NewQ o H Q := ⟨hl, fun p hp => h p _ hp (Same.new hp) upd_same⟩
theorem n_new0 {o : HO} (h : ∀ p H2, H p = none → Same H H2 → H2 p = some o → Q (.ref p) H2) : NewQ o H Q := fun p hp => h p _ hp (Same.new hp) upd_same
theorem c_listL {p : Addr} {xs : List V} (s : SqL K H p xs) (q : NewQ (.lst xs) H Q) : rListOf K [.ref p] H Q := ⟨p, xs, rfl, .inl s, q⟩
theorem c_listT {p : Addr} {xs : List V} (s : SqT K H p xs) (q : NewQ (.lst xs) H Q) : rListOf K [.ref p] H Q := ⟨p, xs, rfl, .inr s, q⟩
theorem c_tupL {p : Addr} {xs : List V} (s : SqL K H p xs) (q : NewQ (.tup xs) H Q) : rTupOf K [.ref p] H Q := ⟨p, xs, rfl, .inl ⟨s, q⟩⟩
theorem c_tupT {p : Addr} {xs : List V} (s : SqT K H p xs) (q : Q (.ref p) H) : rTupOf K [.ref p] H Q := ⟨p, xs, rfl, .inr ⟨s, q⟩⟩
theorem isi_ {x : V} {t n : String} {b : Bool} (ty : TyX K H x (.type t)) (e : kitB t n = some b) (q : Q (.bl b) H) : rIsi K [x, .ty n] H Q := ⟨x, .ty n, .type t, .type n, b, rfl, .ty n, ty, kit_ty e, q⟩
theorem isi_int {a : Int} {n : String} (b : Bool) (e : kitB "int" n = some b) (q : Q (.bl b) H) : rIsi K [.int a, .ty n] H Q := isi_ (.base (.int a)) e q
theorem isi_non {n : String} (b : Bool) (e : kitB "NoneType" n = some b) (q : Q (.bl b) H) : rIsi K [.non, .ty n] H Q := isi_ (.base .non) e q
theorem isi_str {z : Str} {n : String} (b : Bool) (e : kitB "str" n = some b) (q : Q (.bl b) H) : rIsi K [.str z, .ty n] H Q := isi_ (.base (.str z)) e q
theorem isi_bl {z : Bool} {n : String} (b : Bool) (e : kitB "bool" n = some b) (q : Q (.bl b) H) : rIsi K [.bl z, .ty n] H Q := isi_ (.base (.bl z)) e q
theorem isi_tup {a : Addr} {xs : List V} {n : String} (b : Bool) (h : H a = some (.tup xs)) (e : kitB "tuple" n = some b) (q : Q (.bl b) H) : rIsi K [.ref a, .ty n] H Q := isi_ (.base (.tup h)) e q
theorem isi_lst {a : Addr} {xs : List V} {n : String} (b : Bool) (h : H a = some (.lst xs)) (e : kitB "list" n = some b) (q : Q (.bl b) H) : rIsi K [.ref a, .ty n] H Q := isi_ (.base (.lst h)) e q
theorem t_bl {PB : Bool → Prop} (q : PB b) : ∃ k, TruV K (.bl b) H k ∧ PB k := ⟨b, rfl, q⟩
theorem t_non {PB : Bool → Prop} (q : PB false) : ∃ k, TruV K .non H k ∧ PB k := ⟨false, rfl, q⟩
theorem t_int {PB : Bool → Prop} {a : Int} (q : PB (decide (a ≠ 0))) : ∃ k, TruV K (.int a) H k ∧ PB k := ⟨_, rfl, by
  have e : (a != 0) = decide (a ≠ 0) := by
    by_cases h : a = 0
    · subst h; rfl
    · rw [decide_eq_true h]; simpa using h
  rw [e]; exact q⟩
theorem t_lst {PB : Bool → Prop} {p : Addr} {xs : List V} (s : SqL K H p xs) (q : PB (!xs.isEmpty)) : ∃ k, TruV K (.ref p) H k ∧ PB k := ⟨_, .inl ⟨xs, s, rfl⟩, q⟩
theorem t_tup {PB : Bool → Prop} {p : Addr} {xs : List V} (s : SqT K H p xs) (q : PB (!xs.isEmpty)) : ∃ k, TruV K (.ref p) H k ∧ PB k := ⟨_, .inr (.inl ⟨xs, s, rfl⟩), q⟩
theorem isN_non (q : Q (.bl true) H) : rIsN0 .non .non H Q := ⟨rfl, q⟩
theorem isN_int {a : Int} (q : Q (.bl false) H) : rIsN0 (.int a) .non H Q := ⟨rfl, q⟩
theorem isN_ref {a : Addr} (q : Q (.bl false) H) : rIsN0 (.ref a) .non H Q := ⟨rfl, q⟩
theorem isN_str {a : Str} (q : Q (.bl false) H) : rIsN0 (.str a) .non H Q := ⟨rfl, q⟩
theorem isN_bl {a : Bool} (q : Q (.bl false) H) : rIsN0 (.bl a) .non H Q := ⟨rfl, q⟩
theorem noN_non (q : Q (.bl false) H) : rNoN0 .non .non H Q := ⟨rfl, q⟩
theorem noN_int {a : Int} (q : Q (.bl true) H) : rNoN0 (.int a) .non H Q := ⟨rfl, q⟩
theorem noN_ref {a : Addr} (q : Q (.bl true) H) : rNoN0 (.ref a) .non H Q := ⟨rfl, q⟩
theorem noN_str {a : Str} (q : Q (.bl true) H) : rNoN0 (.str a) .non H Q := ⟨rfl, q⟩
theorem noN_bl {a : Bool} (q : Q (.bl true) H) : rNoN0 (.bl a) .non H Q := ⟨rfl, q⟩
theorem tyx_st {a : Addr} {xs : List V} (s : SqT K H a xs) : TyX K H (.ref a) (.type "tuple") := by
  rcases s with (s | ⟨o, s⟩) | ⟨o, its, n, hk, hc, _⟩
  · exact .base (.tup s)
  · exact .fTuple s
  · exact .kTuple hk hc
theorem tyx_sl {a : Addr} {xs : List V} (s : SqL K H a xs) : TyX K H (.ref a) (.type "list") := by
  rcases s with (s | ⟨o, s⟩) | ⟨o, its, n, hk, hc, _⟩
  · exact .base (.lst s)
  · exact .base (.frz s)
  · exact .kList hk hc
theorem isi_t {a : Addr} {xs : List V} {n : String} (b : Bool) (s : SqT K H a xs) (e : kitB "tuple" n = some b) (q : Q (.bl b) H) : rIsi K [.ref a, .ty n] H Q := isi_ (tyx_st s) e q
theorem isi_l {a : Addr} {xs : List V} {n : String} (b : Bool) (s : SqL K H a xs) (e : kitB "list" n = some b) (q : Q (.bl b) H) : rIsi K [.ref a, .ty n] H Q := isi_ (tyx_sl s) e q
theorem e_allB {p : Addr} {bs : List Bool} (s : H p = some (.lst (bs.map V.bl))) (q : Q (.bl (bs.all id)) H) : rAll K [.ref p] H Q := ⟨p, bs, rfl, slO s, q⟩
theorem c_int {a : Int} (q : Q (.int a) H) : rInt1 [V.int a] H Q := .inl ⟨a, rfl, q⟩
theorem c_abs {a : Int} (q : Q (.int (if a < 0 then -a else a)) H) : rAbs [V.int a] H Q := ⟨a, rfl, q⟩
theorem c_min2 {a b : Int} (q : Q (.int (if b < a then b else a)) H) : rMin2 [V.int a, V.int b] H Q := ⟨a, b, rfl, q⟩
theorem c_max2 {a b : Int} (q : Q (.int (if b > a then b else a)) H) : rMax2 [V.int a, V.int b] H Q := ⟨a, b, rfl, q⟩
theorem e_tru (h : te σ H fun x H1 => ∃ k, TruV K x H1 k ∧ QB k H1) : tTruE K te σ H QB := h
theorem e_app {to : TE} (h : to σ H fun x H1 => ∃ l xs, x = .ref l ∧ SqL K H1 l xs ∧ te σ H1 fun y H2 => ∃ ys, H2 l = some (.lst ys) ∧ ys.length < sizeLine ∧ Q .non (upd H2 l (.lst (ys ++ [y])))) (mono : ∀ (H : Hp) (R R' : V → Hp → Prop), (∀ x H1, R x H1 → R' x H1) → to σ H R → to σ H R') (mono2 : ∀ (H : Hp) (R R' : V → Hp → Prop), (∀ x H1, R x H1 → R' x H1) → te σ H R → te σ H R') :
    tBM K "list" rAppend to (tCons te tNil) σ H Q := by
  refine mono H _ _ (fun x H1 q => ?_) h
  obtain ⟨l, xs, rfl, s, q⟩ := q
  refine ⟨.inl ⟨rfl, xs, s⟩, ?_⟩
  exact mono2 H1 _ _ (fun y H2 ⟨ys, h1, h2, h3⟩ => ⟨l, ys, y, rfl, rfl, h1, h2, h3⟩) q
end
/-- a def of the text as it stands, a constant of the text -/
structure DefAt (K : PySem.W.Frag) (mg : Str → Option Value) (x qual : Str) (st : Stmt) (ps : List Str) where
  f : Addr
  fd : FuncData
  F : Fun K x qual st f fd
  b : Binds K fd ps []
  g : mg x = some (.ref f)
structure CAt (mg : Str → Option Value) (x : Str) (v : V) where
  u : Value
  h : mg x = some u
  r : RelV v u
def defAt_mk {K : PySem.W.Frag} {mg : Str → Option Value} {h : Heap} {x qual : Str} {st : Stmt} {ps : List Str} {f : Addr} {od an : Option Addr} {sl : Array (Option Value)} {oc kV dc pm cd ct : Value} (X : K.In h) (G : h.Ns mainGlobals mg)
    (a : PySem.W.nsIn K mainGlobals x = some (some (.ref f))) (l : K.lookup f = some ⟨oc, od, .func (PySem.W.fnOf x qual (defArgs st) (defBody st) (defScope st) .none kV dc pm an cd ct), sl⟩) (c : PySem.W.codeIn K cd qual = true) (k : PySem.W.keepIn K (.ref f) = true)
    (b : ∀ (kV doc pm : Value) (an : Option Addr) (cdv ct : Value) (us : List Value), us.length = ps.length → bindArgs (PySem.W.fnOf x qual (defArgs st) (defBody st) (defScope st) .none kV doc pm an cdv ct) ⟨us, []⟩ = pure (ps.zip us)) : DefAt K mg x qual st ps :=
  ⟨f, _, fun_mk l c k, (fun_mk (st := st) l c k).binds b, PySem.W.mg_of X G a⟩
def cAt_mk {K : PySem.W.Frag} {mg : Str → Option Value} {h : Heap} {x : Str} {u : Value} {v : V} (X : K.In h) (G : h.Ns mainGlobals mg) (a : PySem.W.nsIn K mainGlobals x = some (some u)) (r : RelV v u) : CAt mg x v := ⟨u, PySem.W.mg_of X G a, r⟩
end Vw

set_option Elab.async false
set_option linter.all false
set_option maxRecDepth 100000
set_option maxHeartbeats 4000000
namespace Vw
open PySem PySem.Spec PyProof.Rows L2
/-! ### enumerate of a tuple -/
abbrev ti0 (t : Addr) : Obj := { cls := .type "tuple_iterator", data := .fields #[.ref t, .int 0 0] }
abbrev en0 (i : Addr) : Obj := { cls := .type "enumerate", data := .fields #[.none, .bool false, .ref i, rawInt 0, .none, .none] }
theorem new_enumT (t : Addr) (items : Array Value) :
    Meets (Builtin.«enumerate.__new__» ⟨[.type "enumerate", .ref t], []⟩) (fun _ R s => s.heap.IsTuple t items ∧
      R (.ok (.ret (.ref (s.heap.push (ti0 t)).objs.size))) { s with heap := (s.heap.push (ti0 t)).push (en0 s.heap.objs.size) }) :=
  .of_wp fun prog w A R s h => by
    obtain ⟨hp, g, d, tk, os⟩ := s
    obtain ⟨hL, h⟩ := h
    have hsub := sub_enumerate
    have hL2 := hL
    obtain ⟨⟨oc, od, odt, osl⟩, hl, hc, n, hd⟩ := hL2
    simp only at hc hd
    subst hc hd
    have hL : Heap.IsTuple (Shared.heap ⟨hp, g, d, tk, os⟩) t items := hL
    wp_walk using wpAny_loadPart' hl
    refine wpAny_stack_any fun st => wpAny_pure ?_
    split
    · rename_i c _ _ _ _ _
      cases (c == Value.type "enumerate")
      · wp_walk using wpAny_loadPart' hl, wpAny_pyIter_tuple hL
        exact ⟨_, rfl, h⟩
      · wp_walk using wpAny_loadPart' hl, wpAny_pyIter_tuple hL
        exact ⟨_, rfl, h⟩
    · wp_walk using wpAny_loadPart' hl, wpAny_pyIter_tuple hL
      exact ⟨_, rfl, h⟩
theorem call_enumT {prog : Program} {w : World} {A : Around} {E : Value → Shared → Prop} {s : Shared} {t : Addr} {items : Array Value} {Q : Value → Shared → Prop} (hL : s.heap.IsTuple t items)
    (h : ∀ h', IsEnum h' (s.heap.objs.size + 1) s.heap.objs.size 0 .none → h'.IsTupleIter s.heap.objs.size t 0 →
      (∀ b o, s.heap.get? b = some o → h'.get? b = some o) → Q (.ref (s.heap.objs.size + 1)) { s with heap := h' }) :
    wpAny (model prog w) A (call (.type "enumerate") [.ref t]) Q E s := by
  refine callType_new F.called_enumerate (by decide) (F.typeCall_enumerate_1 _) (F.newCall_enumerate_1 _) (fun obj => F.args_object_init_2 obj _) F.entry_enumerate_new (new_enumT t items) ⟨hL, ?_⟩
  have hz : (s.heap.push (ti0 t)).objs.size = s.heap.objs.size + 1 := Heap.size_push ..
  show _ ∧ _
  rw [hz]
  have he : IsEnum ((s.heap.push (ti0 t)).push (en0 s.heap.objs.size)) (s.heap.objs.size + 1) s.heap.objs.size 0 .none := by
    have q := Heap.get?_push_size (s.heap.push (ti0 t)) (o := en0 s.heap.objs.size) rfl
    rw [hz] at q; exact q
  exact ⟨⟨_, he, rfl⟩, h _ he ⟨_, Heap.get?_push_of_some _ (Heap.get?_push_size _ rfl), rfl, rfl⟩ fun b o x => Heap.get?_push_of_some _ (Heap.get?_push_of_some _ x)⟩
/-- the tuple at a, each item in a new pair -/
def ItEt (K : PySem.W.Frag) (a : Addr) : It :=
  ⟨fun i H => ∃ (xs : List V) (x : V), SqT K H a xs ∧ xs[i]? = some x, fun i H v H' => ∃ T x, v = .ref T ∧ H T = none ∧ H' = upd H T (.tup [.int (i : Nat), x]) ∧ ∀ xs, SqT K H a xs → xs[i]? = some x, fun i H => ∃ xs : List V, SqT K H a xs ∧ xs.length ≤ i⟩
theorem turn_enumT {P : Program} {w : World} {K : PySem.W.Frag} {elts : List Expr} {kk : Nat} {tpos : Pos} (a e it : Addr) :
    Turn P w K (.Tuple elts kk tpos) (ItEt K a) [e, it] e (fun i h => (∃ old, IsEnum h e it ((i : Nat) : Int) old) ∧ h.IsTupleIter it a i ∧ e ≠ it) where
  mem := List.mem_cons_self
  obj := fun i h st b hb => by
    obtain ⟨⟨old, he⟩, ⟨o, ho, hc, hd⟩, _⟩ := st
    rcases List.mem_cons.mp hb with z | z
    · rw [z]; exact ⟨_, he, fun v q => nomatch q⟩
    · rw [List.mem_singleton.mp z]; exact ⟨o, ho, fun v q => by rw [hd] at q; cases q⟩
  keep := fun i h h' ⟨⟨old, he⟩, hi, hne⟩ k => ⟨⟨old, k e List.mem_cons_self _ he⟩, hi.at fun o q => k it (List.mem_cons_of_mem _ List.mem_cons_self) o q, hne⟩
  item := by
    intro X hP hw hK hc i pins s σ H E I hf st hg
    subst hP hw hK
    obtain ⟨⟨old, he⟩, hit, hne⟩ := st
    obtain ⟨xs, x, hq, hx⟩ := hg
    obtain ⟨its, rv, p, hz⟩ := I.tuple hq
    obtain ⟨u, hu, ru⟩ := rv.get hx
    have pt : s.heap.IsTuple a its.toArray := p
    have hel : e < s.heap.objs.size := Heap.lt_size he
    have hil : it < s.heap.objs.size := by obtain ⟨_, q, _⟩ := hit; exact Heap.lt_size q
    have hai : a ≠ it := fun z => by
      obtain ⟨o1, g1, c1, _⟩ := pt
      obtain ⟨o2, g2, c2, _⟩ := hit
      rw [z, g2] at g1
      cases g1
      rw [c2] at c1
      exact absurd c1 (by decide)
    have hae : a ≠ e := fun z => by
      obtain ⟨o1, g1, c1, _⟩ := pt
      rw [z, show s.heap.get? e = _ from he] at g1
      cases g1
      have c2 : Value.type "enumerate" = Value.type "tuple" := c1
      exact absurd c2 (by decide)
    have hlt : i < its.toArray.size := by
      have := (List.getElem?_eq_some_iff.mp hu).1
      simpa using this
    refine wpAny_pyNext_enum_itemD (Draws.tuple (by rw [Around.in1_handled]; exact I.ok.hd hc) it a hai its.toArray) he ⟨hit, pt⟩ hlt hne (by simp [hne, Ne.symm hae]) fun y h' tk hy ho hst' hT hsz hk => ?_
    have ey : y = u := by
      have q : its.toArray[i]? = some u := by simpa using hu
      rw [q] at hy
      exact (Option.some.inj hy).symm
    subst ey
    refine ⟨_, rfl, wpAny_letOwnedTupleGo_enum (s := { s with heap := h', toks := tk + 1 }) ho fun h'' he' sb => ?_⟩
    have hT2 := (sb.2 _ (Nat.ne_of_gt hel)).trans hT
    have new : ObjOk X.prog X.w (upd H s.heap.objs.size (.tup [.int (i : Nat), x])) h'' s.heap.objs.size (.tup [.int (i : Nat), x]) := ⟨by show 2 ≤ sizeLine; decide, [.int i tk, y], .cons ⟨_, rfl⟩ (.cons ru .nil), ⟨_, hT2, rfl, _, rfl⟩⟩
    have I1 : Inv X pins σ (upd H s.heap.objs.size (.tup [.int (i : Nat), x])) { s with heap := h'', toks := tk + 1 } :=
      I.turnedNew (ch := [e, it]) (fun b ob hb q => (sb.2 b (fun z => hb (by simp [z]))).trans (hk b ob (fun z => hb (by simp [z])) (fun z => hb (by simp [z])) q)) hf (Nat.le_refl _) new
    refine ⟨.ref s.heap.objs.size, _, I1, rfl, ⟨_, x, rfl, I.hok.fresh (Nat.le_refl _), rfl, fun ys hy => ?_⟩, ⟨⟨y, ?_⟩, hst'.1.at fun o q => (sb.2 it (Ne.symm hne)).trans q, hne⟩, fun b hb => ?_⟩
    · rw [I.tuple_inj hy hq]; exact hx
    · rw [show ((i + 1 : Nat) : Int) = (i : Int) + 1 by omega]; exact he'
    · have hb' : b < s.heap.objs.size := by
        rcases List.mem_cons.mp hb with z | z
        · rw [z]; exact hel
        · rw [List.mem_singleton.mp z]; exact hil
      rw [upd_ne (Nat.ne_of_lt hb')]; exact (hf b hb).1
  done := by
    intro X hP hw hK hc i pins s σ H E I hf st hg
    subst hP hw hK
    obtain ⟨⟨old, he⟩, hit, hne⟩ := st
    obtain ⟨xs, hq, hx⟩ := hg
    obtain ⟨its, rv, p, hz⟩ := I.tuple hq
    obtain ⟨f0, f1, f2, f3, f4, f5⟩ := hf it (List.mem_cons_of_mem _ List.mem_cons_self)
    have pt : s.heap.IsTuple a its.toArray := p
    have hai : a ≠ it := fun z => by
      obtain ⟨o1, g1, c1, _⟩ := pt
      obtain ⟨o2, g2, c2, _⟩ := hit
      rw [z, g2] at g1
      cases g1
      rw [c2] at c1
      exact absurd c1 (by decide)
    have hl := rv.length
    have D : Draws X.prog X.w X.A.in1 it [it, a] i (fun _ _ => False) (fun j h => j = i ∧ h.IsTupleIter it a i ∧ h.IsTuple a its.toArray) := by
      refine ⟨fun j h st => let ⟨o, ho, _⟩ := st.2.1; ⟨o, ho⟩, fun j h h' st k => ⟨st.1, st.2.1.at fun o q => k it (by simp) o q, st.2.2.at fun o q => k a (by simp) o q⟩, fun j s Q E hj st _ => absurd st.1 (Nat.ne_of_lt hj), fun s Q E st hE => ?_⟩
      exact wpAny_nextOf_tuple_end (by rw [Around.in1_handled]; exact I.ok.hd hc) st.2.1 st.2.2 (by simp; omega) hE
    exact wpAny_pyNext_enum_endD D he ⟨rfl, hit, pt⟩ fun h' eb => ⟨rfl, I.turned (t' := s.toks) (fun b o hb q => eb b o hb q) f0 f1 f3 f4 f5⟩
  self := fun A i s Q E ⟨⟨_, he⟩, _⟩ h => wpAny_pyIter_enum he h
def iEnumT (K : PySem.W.Frag) (ta : TA) : TI := fun σ H R => ta σ H fun vs H1 => ∃ a xs, vs = [.ref a] ∧ ((SqL K H1 a xs ∧ R (Ite K a) H1) ∨ (SqT K H1 a xs ∧ R (ItEt K a) H1))
theorem piEnumT {K : PySem.W.Frag} {X : Cx} {e : Expr} {ta : TA} {p pos tpos : Pos} {elts : List Expr} {kk : Nat} (hg : Gl X "enumerate") (hm : X.mg "enumerate" = none) (ha : PA X [e] ta) (eK : X.K = K := by rfl) (hs : starEach [e] X.env = [(false, eval e X.env)] := by rfl) :
    PI X (.Tuple elts kk tpos) (.Call (.Name "enumerate" p) [e] [] pos) (iEnumT K ta) := by
  cases eK
  refine ⟨fun pins s σ H R I h => Call_ (ld_blt I hg hm boot_enumerate (PyProof.Rows.callWith_type1 (thn (ha.run pos pins s σ H _ I h) fun us s1 ⟨vs, H1, I1, r1, q1⟩ => ?_) hs rfl))⟩
  obtain ⟨a, xs, rfl, q⟩ := q1
  rw [Vals.ref1 r1]
  have up : ∀ b ∈ [s1.heap.objs.size + 1, s1.heap.objs.size], s1.heap.objs.size ≤ b := fun b hb => by
    rcases List.mem_cons.mp hb with z | z
    · rw [z]; exact Nat.le_add_right _ _
    · rw [List.mem_singleton.mp z]; exact Nat.le_refl _
  rcases q with ⟨hq, q⟩ | ⟨hq, q⟩
  · obtain ⟨its, rv, p', hz⟩ := I1.list hq
    refine call_enumerate_list p'.isList fun h' he hit hsz hk => wpAny_pyIter_enum he ?_
    exact ⟨s1.heap.objs.size + 1, [s1.heap.objs.size + 1, s1.heap.objs.size], _, _, H1, rfl, I1.kept (t' := s1.toks) hk, turn_enum a (s1.heap.objs.size + 1) s1.heap.objs.size, ⟨⟨.none, he⟩, hit, Nat.succ_ne_self _⟩, fun b hb => I1.fpOk (up b hb) (I1.hok.fresh (up b hb)), q⟩
  · obtain ⟨its, rv, p', hz⟩ := I1.tuple hq
    refine call_enumT (show s1.heap.IsTuple a its.toArray from p') fun h' he hit hk => wpAny_pyIter_enum he ?_
    exact ⟨s1.heap.objs.size + 1, [s1.heap.objs.size + 1, s1.heap.objs.size], _, _, H1, rfl, I1.kept (t' := s1.toks) hk, turn_enumT a (s1.heap.objs.size + 1) s1.heap.objs.size, ⟨⟨.none, he⟩, hit, Nat.succ_ne_self _⟩, fun b hb => I1.fpOk (up b hb) (I1.hok.fresh (up b hb)), q⟩
end Vw

set_option Elab.async false
set_option linter.all false
set_option maxRecDepth 100000
set_option maxHeartbeats 4000000
namespace Vw
open PySem PySem.Spec PyProof.Rows L2 RT
/-! ### loops -/
def FQ (J : It) (g : TG) (tb : TS) (D : Ends) (σ : L2.St) (H : Hp) : Prop := ∃ W : Nat → Nat → L2.St → Hp → Prop, (∃ m, W 0 m σ H) ∧ ∀ i m σ H, W i m σ H →
  (J.stop i H ∧ D.nx σ H) ∨ (J.go i H ∧ ∃ N : L2.St → Hp → Prop, (∀ σ' H', N σ' H' → ∃ m', m' < m ∧ W (i + 1) m' σ' H') ∧ ∀ x H', J.yld i H x H' → g x σ H' fun σ2 H2 => tb { D with nx := N, ct := N, bk := D.nx } σ2 H2)
def LQ (J : It) (g : TG) (tt : TT) (te : TE) (vs : List Nat) (σ : L2.St) (H1 : Hp) (Q : VK) : Prop := ∀ D, H1 D = none → ∃ W : Nat → Nat → Hp → Prop, (∃ m, W 0 m (upd H1 D (.lst []))) ∧ ∀ i m H, W i m H →
  (J.stop i H ∧ Q (.ref D) H) ∨ (J.go i H ∧ ∃ Nx : Hp → Prop, (∀ H', Nx H' → ∃ m', m' < m ∧ W (i + 1) m' H') ∧ ∀ x H', J.yld i H x H' → g x (wipe σ vs) H' fun σ2 H2 => wipe σ2 vs = wipe σ vs ∧ tt σ2 H2 fun b H3 =>
    if b = true then te σ2 H3 fun y H4 => ∃ acc, H4 D = some (.lst acc) ∧ acc.length < sizeLine ∧ Nx (upd H4 D (.lst (acc ++ [y]))) else Nx H3)
section
variable {K : PySem.W.Frag} {σ : L2.St} {H H1 : Hp} {Q : VK} {D : Ends} {ta tb te : TE} {t u : TS} {wi : TI} {g : TG} {tt : TT} {vs : List Nat} {R : It → Hp → Prop} {j : Nat} {xs : List V} {a : Addr}
theorem s_for (h : wi σ H fun J H1 => FQ J g t D σ H1) : tFor wi g t D σ H := h
theorem e_lc (h : wi σ H fun J H1 => LQ J g tt te vs σ H1 Q) : tLc wi g tt te vs σ H Q := h
def RgQ (R : It → Hp → Prop) (vs : List V) (H1 : Hp) : Prop := ∃ j : Int, vs = [.int j] ∧ -(2 ^ 62) ≤ j ∧ j < 2 ^ 62 ∧ R (Itr 0 j.toNat) H1
theorem i_rng1 {ta : TA} (h : ta σ H fun vs H1 => RgQ R vs H1) : iRng1 ta σ H R := h
theorem i_rng {i : Int} (n : Nat) (e : i.toNat = n) (h1 : -100000 ≤ i) (h2 : i ≤ 100000) (h : R (Itr 0 n) H) : RgQ R [.int i] H := ⟨i, rfl, by omega, by omega, by rw [e]; exact h⟩
def LsQ (K : PySem.W.Frag) (R : It → Hp → Prop) (x : V) (H1 : Hp) : Prop := ∃ a, x = .ref a ∧ (∃ xs, SqL K H1 a xs) ∧ R (Itl K a) H1
theorem i_lst0 {tl : TE} (h : tl σ H fun x H1 => LsQ K R x H1) : iList K tl σ H R := h
theorem i_lst (s : SqL K H a xs) (h : R (Itl K a) H) : LsQ K R (.ref a) H := ⟨a, rfl, ⟨xs, s⟩, h⟩
def TpQ (K : PySem.W.Frag) (R : It → Hp → Prop) (x : V) (H1 : Hp) : Prop := ∃ a, x = .ref a ∧ (∃ xs, SqT K H1 a xs) ∧ R (Itt K a) H1
theorem i_tup0 {tl : TE} (h : tl σ H fun x H1 => TpQ K R x H1) : iTup K tl σ H R := h
theorem i_tup (s : SqT K H a xs) (h : R (Itt K a) H) : TpQ K R (.ref a) H := ⟨a, rfl, ⟨xs, s⟩, h⟩
/-- a loop over anything that is walked -/
theorem l_it {J : It} {n : Nat} {G : Hp → Prop} {Y : Nat → Hp → V → Hp → Prop} (W : Walk J n G Y) (Pv : Nat → L2.St → Hp → Prop) (h0 : Pv 0 σ H) (hG : ∀ i σ H, i ≤ n → Pv i σ H → G H) (hd : ∀ σ H, Pv n σ H → D.nx σ H)
    (hs : ∀ i x σ H H', i < n → Pv i σ H → Y i H x H' → g x σ H' fun σ2 H2 => t { D with nx := Pv (i + 1), ct := Pv (i + 1), bk := D.nx } σ2 H2) : FQ J g t D σ H := for_it W Pv h0 hG hs hd
theorem l_rng {n : Nat} (Pv : Nat → L2.St → Hp → Prop) (h0 : Pv 0 σ H) (hd : ∀ σ H, Pv n σ H → D.nx σ H)
    (hs : ∀ (i : Nat) σ H, i < n → Pv i σ H → t { D with nx := Pv (i + 1), ct := Pv (i + 1), bk := D.nx } (σ.set j (some (.int (i : Int)))) H) : FQ (Itr 0 n) (gName j) t D σ H :=
  l_it walk_range Pv h0 (fun _ _ _ _ _ => trivial) hd fun i x σ H H' hi p y => by
    obtain ⟨rfl, rfl⟩ := y
    have e : (0 : Int) + (i : Int) = (i : Int) := Int.zero_add _
    show t _ (σ.set j (some (.int ((0 : Int) + (i : Int))))) _
    rw [e]; exact hs i σ _ hi p
theorem l_lst (Pv : Nat → L2.St → Hp → Prop) (h0 : Pv 0 σ H) (hl : ∀ i σ H, i ≤ xs.length → Pv i σ H → SqL K H a xs) (hd : ∀ σ H, Pv xs.length σ H → D.nx σ H)
    (hs : ∀ i x σ H, xs[i]? = some x → Pv i σ H → t { D with nx := Pv (i + 1), ct := Pv (i + 1), bk := D.nx } (σ.set j (some x)) H) : FQ (Itl K a) (gName j) t D σ H :=
  l_it walk_list Pv h0 hl hd fun i x σ H H' hi p y => by
    obtain ⟨rfl, e⟩ := y
    exact hs i x σ _ e p
theorem l_tup (Pv : Nat → L2.St → Hp → Prop) (h0 : Pv 0 σ H) (hl : ∀ i σ H, i ≤ xs.length → Pv i σ H → SqT K H a xs) (hd : ∀ σ H, Pv xs.length σ H → D.nx σ H)
    (hs : ∀ i x σ H, xs[i]? = some x → Pv i σ H → t { D with nx := Pv (i + 1), ct := Pv (i + 1), bk := D.nx } (σ.set j (some x)) H) : FQ (Itt K a) (gName j) t D σ H :=
  l_it walk_tup Pv h0 hl hd fun i x σ H H' hi p y => by
    obtain ⟨rfl, e⟩ := y
    exact hs i x σ _ e p
/-- the target (x, y) at a new pair -/
theorem g_pair {i1 i2 : Nat} {T : Addr} {x y : V} {R : L2.St → Hp → Prop} (h : H T = some (.tup [x, y])) (q : R ((σ.set i1 (some x)).set i2 (some y)) H) : gTup K 2 (gCons (gName i1) (gCons (gName i2) gNil)) (.ref T) σ H R :=
  ⟨T, [x, y], rfl, stO h, rfl, x, [y], rfl, y, [], rfl, rfl, q⟩
theorem g_pairS {i1 i2 : Nat} {T : Addr} {x y : V} {R : L2.St → Hp → Prop} (h : SqT K H T [x, y]) (q : R ((σ.set i1 (some x)).set i2 (some y)) H) : gTup K 2 (gCons (gName i1) (gCons (gName i2) gNil)) (.ref T) σ H R :=
  ⟨T, [x, y], rfl, h, rfl, x, [y], rfl, y, [], rfl, rfl, q⟩
theorem putK_le {c : List (Key × V)} {k : Key} {x : V} : (putK c k x).length ≤ c.length + 1 := by
  unfold putK
  split <;> simp
theorem walk_enumT : Walk (ItEt K a) xs.length (fun H => SqT K H a xs) (YPair (fun i => some (.int (i : Nat))) (fun i => xs[i]?)) := by
  refine ⟨fun i _ hi q => ⟨xs, xs[i], q, by simp [hi]⟩, fun _ q => ⟨xs, q, Nat.le_refl _⟩, fun i H v H' _ q y => ?_⟩
  obtain ⟨T, x, h1, h2, h3, h4⟩ := y
  exact ⟨T, .int (i : Nat), x, h1, h2, h3, rfl, h4 xs q⟩
def SqX (K : PySem.W.Frag) (H : Hp) (a : Addr) (xs : List V) : Prop := SqL K H a xs ∨ SqT K H a xs
theorem sx_ {H H' : Hp} {a : Addr} {xs : List V} (s : Same H H') (h : SqX K H a xs) : SqX K H' a xs := h.elim (fun h => .inl (sl_ s h)) fun h => .inr (st_ s h)
def EnQ (K : PySem.W.Frag) (R : It → Hp → Prop) (vs : List V) (H1 : Hp) : Prop := ∃ a xs, vs = [.ref a] ∧ ((SqL K H1 a xs ∧ R (Ite K a) H1) ∨ (SqT K H1 a xs ∧ R (ItEt K a) H1))
theorem i_enum0 {ta : TA} (h : ta σ H fun vs H1 => EnQ K R vs H1) : iEnumT K ta σ H R := h
theorem i_enumX {H0 : Hp} (s : SqX K H0 a xs) (ss : Same H0 H) (h : ∀ J G, (∀ H', Same H0 H' → G H') → Walk J xs.length G (YPair (fun i => some (.int (i : Nat))) (fun i => xs[i]?)) → R J H) : EnQ K R [.ref a] H :=
  ⟨a, xs, rfl, s.elim (fun s => .inl ⟨sl_ ss s, h _ _ (fun H' q => sl_ q s) walk_enum⟩) fun s => .inr ⟨st_ ss s, h _ _ (fun H' q => st_ q s) walk_enumT⟩⟩
def RvQ (K : PySem.W.Frag) (R : It → Hp → Prop) (v : V) (H1 : Hp) : Prop := ∃ (a : Addr) (xs : List V), v = .ref a ∧ ((SqL K H1 a xs ∧ R (Itv K a xs.length) H1) ∨ (SqT K H1 a xs ∧ R (ItvT K a xs.length) H1))
theorem walk_revT : Walk (ItvT K a xs.length) xs.length (fun H => SqT K H a xs) (fun i H x H' => H' = H ∧ xs[xs.length - 1 - i]? = some x) :=
  ⟨fun i _ hi q => ⟨hi, xs, xs[xs.length - 1 - i]'(by omega), q, by simp [show xs.length - 1 - i < xs.length by omega]⟩, fun _ _ => Nat.le_refl _, fun _ _ _ _ _ q y => ⟨y.1, y.2 xs q⟩⟩
theorem i_revX {H0 : Hp} (s : SqX K H0 a xs) (ss : Same H0 H) (h : ∀ J G, (∀ H', Same H0 H' → G H') → Walk J xs.length G (fun i H x H' => H' = H ∧ xs[xs.length - 1 - i]? = some x) → R J H) : RvQ K R (.ref a) H :=
  ⟨a, xs, rfl, s.elim (fun s => .inl ⟨sl_ ss s, h _ _ (fun H' q => sl_ q s) walk_rev⟩) fun s => .inr ⟨st_ ss s, h _ _ (fun H' q => st_ q s) walk_revT⟩⟩
theorem i_rev0 {te : TE} (h : te σ H fun v H1 => RvQ K R v H1) : iRevA K te σ H R := h
/-- a comprehension: Pv tells of the turn, of what is made so far, of the heap, in which the list itself stands at D -/
theorem c_it {J : It} {n : Nat} {G : Hp → Prop} {Y : Nat → Hp → V → Hp → Prop} (W : Walk J n G Y) (Pv : Nat → List V → Hp → Prop) (h0 : ∀ D, H1 D = none → Pv 0 [] (upd H1 D (.lst []))) (hG : ∀ i acc H, i ≤ n → Pv i acc H → G H)
    (hd : ∀ acc D H, H1 D = none → H D = some (.lst acc) → Pv n acc H → Q (.ref D) H)
    (hs : ∀ (i : Nat) x acc H H' D, i < n → H1 D = none → H D = some (.lst acc) → Pv i acc H → Y i H x H' → g x (wipe σ vs) H' fun σ2 H2 => wipe σ2 vs = wipe σ vs ∧ tt σ2 H2 fun b H3 =>
      if b = true then te σ2 H3 fun y H4 => ∃ acc, H4 D = some (.lst acc) ∧ acc.length < sizeLine ∧ ∃ acc2, (upd H4 D (.lst (acc ++ [y]))) D = some (.lst acc2) ∧ Pv (i + 1) acc2 (upd H4 D (.lst (acc ++ [y]))) else ∃ acc2, H3 D = some (.lst acc2) ∧ Pv (i + 1) acc2 H3) : LQ J g tt te vs σ H1 Q := fun D hD =>
  lc_it W (fun i H => ∃ acc, H D = some (.lst acc) ∧ Pv i acc H) ⟨[], upd_same, h0 D hD⟩ (fun i H hi p => hG i _ H hi p.choose_spec.2) (fun i x H H' hi p y => by
    obtain ⟨acc, hp, p⟩ := p
    exact hs i x acc H H' D hi hD hp p y) (fun H p => by
    obtain ⟨acc, hp, p⟩ := p
    exact hd acc D H hD hp p)
theorem got_ {Dl : Addr} {acc : List V} {y : V} {P : List V → Hp → Prop} (h : H Dl = some (.lst acc)) (hl : acc.length < 100000) (p : P (acc ++ [y]) (upd H Dl (.lst (acc ++ [y])))) :
    ∃ acc, H Dl = some (.lst acc) ∧ acc.length < sizeLine ∧ ∃ acc2, (upd H Dl (.lst (acc ++ [y]))) Dl = some (.lst acc2) ∧ P acc2 (upd H Dl (.lst (acc ++ [y]))) :=
  ⟨acc, h, Nat.lt_of_lt_of_le hl (by decide), _, upd_same, p⟩
theorem upd_free {H0 : Hp} {Dl : Addr} {o : HO} (s : Same H0 H) (n : H0 Dl = none) : Same H0 (upd H Dl o) := fun b u e => by rw [upd_ne (ne_of_none e n)]; exact s b u e
theorem c_rng {n : Nat} (Pv : Nat → List V → Hp → Prop) (h0 : ∀ D, H1 D = none → Pv 0 [] (upd H1 D (.lst []))) (hd : ∀ acc D H, H1 D = none → H D = some (.lst acc) → Pv n acc H → Q (.ref D) H) (hw : ∀ x, wipe ((wipe σ vs).set j x) vs = wipe σ vs)
    (hs : ∀ (i : Nat) acc H D, i < n → H1 D = none → H D = some (.lst acc) → Pv i acc H → tt ((wipe σ vs).set j (some (.int (i : Int)))) H fun b H3 =>
      if b = true then te ((wipe σ vs).set j (some (.int (i : Int)))) H3 fun y H4 => ∃ acc, H4 D = some (.lst acc) ∧ acc.length < sizeLine ∧ ∃ acc2, (upd H4 D (.lst (acc ++ [y]))) D = some (.lst acc2) ∧ Pv (i + 1) acc2 (upd H4 D (.lst (acc ++ [y]))) else ∃ acc2, H3 D = some (.lst acc2) ∧ Pv (i + 1) acc2 H3) :
    LQ (Itr 0 n) (gName j) tt te vs σ H1 Q := c_it walk_range Pv h0 (fun _ _ _ _ _ => trivial) hd fun i x acc H H' D hi hD hp p y => by
  obtain ⟨rfl, rfl⟩ := y
  have e : (0 : Int) + (i : Int) = (i : Int) := Int.zero_add _
  refine ⟨hw _, ?_⟩
  dsimp only
  rw [e]; exact hs i acc _ D hi hD hp p
theorem c_lst (Pv : Nat → List V → Hp → Prop) (h0 : ∀ D, H1 D = none → Pv 0 [] (upd H1 D (.lst []))) (hl : ∀ i acc H, i ≤ xs.length → Pv i acc H → SqL K H a xs) (hd : ∀ acc D H, H1 D = none → H D = some (.lst acc) → Pv xs.length acc H → Q (.ref D) H) (hw : ∀ x, wipe ((wipe σ vs).set j x) vs = wipe σ vs)
    (hs : ∀ (i : Nat) x acc H D, xs[i]? = some x → H1 D = none → H D = some (.lst acc) → Pv i acc H → tt ((wipe σ vs).set j (some x)) H fun b H3 =>
      if b = true then te ((wipe σ vs).set j (some x)) H3 fun y H4 => ∃ acc, H4 D = some (.lst acc) ∧ acc.length < sizeLine ∧ ∃ acc2, (upd H4 D (.lst (acc ++ [y]))) D = some (.lst acc2) ∧ Pv (i + 1) acc2 (upd H4 D (.lst (acc ++ [y]))) else ∃ acc2, H3 D = some (.lst acc2) ∧ Pv (i + 1) acc2 H3) :
    LQ (Itl K a) (gName j) tt te vs σ H1 Q := c_it walk_list Pv h0 hl hd fun i x acc H H' D hi hD hp p y => by
  obtain ⟨rfl, e⟩ := y
  exact ⟨hw _, hs i x acc _ D e hD hp p⟩
theorem c_tup (Pv : Nat → List V → Hp → Prop) (h0 : ∀ D, H1 D = none → Pv 0 [] (upd H1 D (.lst []))) (hl : ∀ i acc H, i ≤ xs.length → Pv i acc H → SqT K H a xs) (hd : ∀ acc D H, H1 D = none → H D = some (.lst acc) → Pv xs.length acc H → Q (.ref D) H) (hw : ∀ x, wipe ((wipe σ vs).set j x) vs = wipe σ vs)
    (hs : ∀ (i : Nat) x acc H D, xs[i]? = some x → H1 D = none → H D = some (.lst acc) → Pv i acc H → tt ((wipe σ vs).set j (some x)) H fun b H3 =>
      if b = true then te ((wipe σ vs).set j (some x)) H3 fun y H4 => ∃ acc, H4 D = some (.lst acc) ∧ acc.length < sizeLine ∧ ∃ acc2, (upd H4 D (.lst (acc ++ [y]))) D = some (.lst acc2) ∧ Pv (i + 1) acc2 (upd H4 D (.lst (acc ++ [y]))) else ∃ acc2, H3 D = some (.lst acc2) ∧ Pv (i + 1) acc2 H3) :
    LQ (Itt K a) (gName j) tt te vs σ H1 Q := c_it walk_tup Pv h0 hl hd fun i x acc H H' D hi hD hp p y => by
  obtain ⟨rfl, e⟩ := y
  exact ⟨hw _, hs i x acc _ D e hD hp p⟩
theorem e_yes {R : Bool → Hp → Prop} (q : R true H) : tYes σ H R := q
/-- a dict comprehension over a list -/
def DQ (J : It) (g : TG) (tt : TT) (tk tv : TE) (vs : List Nat) (σ : L2.St) (H1 : Hp) (Q : VK) : Prop := ∀ D, H1 D = none → ∃ W : Nat → Nat → Hp → Prop, (∃ m, W 0 m (upd H1 D (.dK []))) ∧ ∀ i m H, W i m H →
  (J.stop i H ∧ Q (.ref D) H) ∨ (J.go i H ∧ ∃ Nx : Hp → Prop, (∀ H', Nx H' → ∃ m', m' < m ∧ W (i + 1) m' H') ∧ ∀ x H', J.yld i H x H' → g x (wipe σ vs) H' fun σ2 H2 => wipe σ2 vs = wipe σ vs ∧ tt σ2 H2 fun b H3 =>
    if b = true then tk σ2 H3 fun y H4 => tv σ2 H4 fun z H5 => ∃ kvs k, y = kV k ∧ H5 D = some (.dK kvs) ∧ kvs.length < sizeLine ∧ Nx (upd H5 D (.dK (putK kvs k z))) else Nx H3)
theorem e_dc {tk tv : TE} (h : wi σ H fun J H1 => DQ J g tt tk tv vs σ H1 Q) : tDc wi g tt tk tv vs σ H Q := h
theorem d_it {J : It} {n : Nat} {G : Hp → Prop} {Y : Nat → Hp → V → Hp → Prop} {tk tv : TE} (W : Walk J n G Y) (Pv : Nat → List (Key × V) → Hp → Prop) (h0 : ∀ D, H1 D = none → Pv 0 [] (upd H1 D (.dK []))) (hG : ∀ i acc H, i ≤ n → Pv i acc H → G H)
    (hd : ∀ acc D H, H1 D = none → H D = some (.dK acc) → Pv n acc H → Q (.ref D) H)
    (hs : ∀ (i : Nat) x acc H H' D, i < n → H1 D = none → H D = some (.dK acc) → Pv i acc H → Y i H x H' → g x (wipe σ vs) H' fun σ2 H2 => wipe σ2 vs = wipe σ vs ∧ tt σ2 H2 fun b H3 =>
      if b = true then tk σ2 H3 fun y H4 => tv σ2 H4 fun z H5 => ∃ kvs k, y = kV k ∧ H5 D = some (.dK kvs) ∧ kvs.length < sizeLine ∧ ∃ acc2, (upd H5 D (.dK (putK kvs k z))) D = some (.dK acc2) ∧ Pv (i + 1) acc2 (upd H5 D (.dK (putK kvs k z))) else ∃ acc2, H3 D = some (.dK acc2) ∧ Pv (i + 1) acc2 H3) : DQ J g tt tk tv vs σ H1 Q := fun D hD => by
  refine ⟨fun i m H => m = n - i ∧ i ≤ n ∧ ∃ acc, H D = some (.dK acc) ∧ Pv i acc H, ⟨n, rfl, Nat.zero_le _, [], upd_same, h0 D hD⟩, ?_⟩
  rintro i m H ⟨rfl, hi, acc, hp, p⟩
  have q := hG i acc H hi p
  by_cases hlt : i < n
  · exact .inr ⟨W.goes i H hlt q, fun H => ∃ acc, H D = some (.dK acc) ∧ Pv (i + 1) acc H, fun H' p' => ⟨n - (i + 1), by omega, rfl, hlt, p'⟩, fun x H' y => hs i x acc H H' D hlt hD hp p (W.yields i H x H' hlt q y)⟩
  · have e : i = n := by omega
    subst e
    exact .inl ⟨W.stops H q, hd acc D H hD hp p⟩
theorem dgot_ {Dl : Addr} {acc : List (Key × V)} {z : V} {k : Key} {P : List (Key × V) → Hp → Prop} (h : H Dl = some (.dK acc)) (hl : acc.length < 100000) (p : P (putK acc k z) (upd H Dl (.dK (putK acc k z)))) :
    ∃ kvs k', kV k = kV k' ∧ H Dl = some (.dK kvs) ∧ kvs.length < sizeLine ∧ ∃ acc2, (upd H Dl (.dK (putK kvs k' z))) Dl = some (.dK acc2) ∧ P acc2 (upd H Dl (.dK (putK kvs k' z))) :=
  ⟨acc, k, rfl, h, Nat.lt_of_lt_of_le hl (by decide), _, upd_same, p⟩
theorem atI_map {ns : List Int} {z : Int} (i : Nat) (e : z = (i : Nat)) (h : i < ns.length) : atI (ns.map V.int) z = some (.int (ns.getD i 0)) := atI_in e (by
  rw [List.getElem?_map, List.getElem?_eq_getElem h, List.getD_eq_getElem?_getD, List.getElem?_eq_getElem h]; rfl)
theorem atI_neg {α : Type} {xs : List α} {x : α} (h0 : 0 < xs.length) (h : xs[xs.length - 1]? = some x) : atI xs (-1) = some x := by
  have e : ixN xs.length (-1) = some (xs.length - 1) := by
    unfold ixN
    rw [if_neg (by omega), if_pos (by omega)]
    congr 1; omega
  unfold atI
  rw [e]; exact h
theorem atI_negI {ns : List Int} (h0 : 0 < ns.length) : atI (ns.map V.int) (-1) = some (.int (ns.getD (ns.length - 1) 0)) := atI_neg (by simpa using h0) (by
  rw [List.length_map, List.getElem?_map, List.getD_eq_getElem?_getD, List.getElem?_eq_getElem (by omega)]; rfl)
theorem getD_mem {ns : List Int} {i : Nat} (h : i < ns.length) : ns.getD i 0 ∈ ns := by
  rw [List.getD_eq_getElem?_getD, List.getElem?_eq_getElem h]; exact List.getElem_mem h
theorem while_ {c : TT} {μ : L2.St → Hp → Nat} (Pv : L2.St → Hp → Prop) (h0 : Pv σ H)
    (hs : ∀ σ H, Pv σ H → c σ H fun b H1 => if b = true then t { D with nx := fun σ' H' => Pv σ' H' ∧ μ σ' H' < μ σ H, ct := fun σ' H' => Pv σ' H' ∧ μ σ' H' < μ σ H, bk := D.nx } σ H1 else D.nx σ H1)
    (mono : ∀ σ H Q Q', (∀ b H1, Q b H1 → Q' b H1) → c σ H Q → c σ H Q') : tWhile c t D σ H := while_by Pv μ h0 hs mono
theorem same_oth {f : Addr} {H0 H2 : Hp} (n : H0 f = none) (s : Same H0 H) (o : Oth f H H2) : Same H0 H2 := fun b u e => o b u (ne_of_none e n) (s b u e)
theorem e_bm {T : String} {r : V → List V → Hp → VK → Prop} {to : TE} {ts : TA} (h : to σ H fun x H1 => tyV K T x H1 ∧ ts σ H1 fun xs H2 => r x xs H2 Q) : tBM K T r to ts σ H Q := h
theorem ty_lst {f : Addr} {R : Prop} (h : H f = some (.lst xs)) (q : R) : tyV K "list" (.ref f) H ∧ R := ⟨.inl ⟨rfl, xs, slO h⟩, q⟩
theorem r_app {f : Addr} {y : V} (h : H f = some (.lst xs)) (hl : xs.length < 100000) (q : ∀ H2, Oth f H H2 → H2 f = some (.lst (xs ++ [y])) → Q .non H2) : rAppend (.ref f) [y] H Q :=
  ⟨f, xs, y, rfl, rfl, h, lt_size hl, q _ (fun b o n z => by rw [upd_ne n]; exact z) upd_same⟩
theorem o_cat {r' : R2} {l b : Addr} {ys : List V} (h1 : H l = some (.lst xs)) (h2 : H b = some (.lst ys)) (hl : xs.length + ys.length < 100000) (q : NewQ (.lst (xs ++ ys)) H Q) : rOr rIAdd (rOr rCat r') (.ref l) (.ref b) H Q := .inr (.inl ⟨l, b, xs, ys, rfl, rfl, h1, h2, le_size hl, q⟩)
theorem e_din {ty td : TE} (h : ty σ H fun y H1 => td σ H1 fun x H2 => ∃ a o, x = .ref a ∧ DGet H2 a y o ∧ Q (.bl o.isSome) H2) : tDIn ty td σ H Q := h
theorem g_din {PO : Option V → Prop} {d : Addr} {kvs : List (Key × V)} {k : Key} (h : H d = some (.dK kvs)) (q : PO (valV kvs k)) : ∃ a o, V.ref d = .ref a ∧ DGet H a (kV k) o ∧ PO o := ⟨d, _, rfl, DGet.k h, q⟩
theorem e_sl {r : V → Option Int → Option Int → Hp → VK → Prop} {tl th : TO} (h : te σ H fun x H1 => tl σ H1 fun l H2 => th σ H2 fun u H3 => r x l u H3 Q) : tSl r te tl th σ H Q := h
theorem e_np {R : Option Int → Hp → Prop} (h : R none H) : tNoPart σ H R := h
theorem e_pt {R : Option Int → Hp → Prop} (h : te σ H fun x H1 => ∃ i, x = .int i ∧ R (some i) H1) : tPart te σ H R := h
theorem e_ptI {PI : Int → Prop} {i : Int} (h : PI i) : ∃ j, V.int i = .int j ∧ PI j := ⟨i, rfl, h⟩
theorem r_sl {lo hi : Option Int} (s : SqL K H a xs) (q : NewQ (.lst (cutV xs lo hi)) H Q) : rSlL K (.ref a) lo hi H Q := ⟨a, xs, rfl, s, q⟩
theorem cut_map {f : Int → V} (ns : List Int) (lo hi : Option Int) : ∃ ms : List Int, cutV (ns.map f) lo hi = ms.map f ∧ ms.length ≤ ns.length ∧ ∀ z ∈ ms, z ∈ ns := by
  have key : ∀ a b : Nat, ∃ ms : List Int, ((ns.map f).drop a).take b = ms.map f ∧ ms.length ≤ ns.length ∧ ∀ z ∈ ms, z ∈ ns := fun a b =>
    ⟨(ns.drop a).take b, by rw [List.map_take, List.map_drop], by rw [List.length_take, List.length_drop]; omega, fun z hz => List.mem_of_mem_drop (List.mem_of_mem_take hz)⟩
  exact key _ _
theorem eqV_int {a b : Int} : eqV (.int a) (.int b) = decide (a = b) := by
  show (a == b) = _
  by_cases h : a = b
  · rw [h]; simp
  · simp [h]
theorem inV_int {z : Int} {ns : List Int} : inV (.int z) (ns.map V.int) = decide (z ∈ ns) := by
  unfold inV
  rw [List.any_map, Bool.eq_iff_iff, List.any_eq_true, decide_eq_true_eq]
  constructor
  · rintro ⟨y, hy, e⟩
    have := eqV_int (a := y) (b := z)
    have e : eqV (.int y) (.int z) = true := e
    rw [this, decide_eq_true_eq] at e
    rw [← e]; exact hy
  · intro h
    refine ⟨z, h, ?_⟩
    show eqV (.int z) (.int z) = true
    rw [eqV_int]; simp
theorem flat_ints {ns : List Int} : (ns.map V.int).all flatV = true := by
  rw [List.all_map, List.all_eq_true]; exact fun _ _ => rfl
theorem o_inL {p : Addr} {z : Int} {ns : List Int} (s : SqL K H p (ns.map V.int)) (q : Q (.bl (decide (z ∈ ns))) H) : rIn K false (.int z) (.ref p) H Q := ⟨p, _, rfl, .inl s, rfl, flat_ints, by rw [inV_int]; exact q⟩
theorem o_inT {p : Addr} {z : Int} {ns : List Int} (s : SqT K H p (ns.map V.int)) (q : Q (.bl (decide (z ∈ ns))) H) : rIn K false (.int z) (.ref p) H Q := ⟨p, _, rfl, .inr s, rfl, flat_ints, by rw [inV_int]; exact q⟩
theorem o_niL {p : Addr} {z : Int} {ns : List Int} (s : SqL K H p (ns.map V.int)) (q : Q (.bl (decide (z ∉ ns))) H) : rIn K true (.int z) (.ref p) H Q := ⟨p, _, rfl, .inl s, rfl, flat_ints, by
  have e : (!decide (z ∈ ns)) = decide (z ∉ ns) := by simp
  rw [inV_int]; show Q (.bl (!decide (z ∈ ns))) H; rw [e]; exact q⟩
theorem o_niT {p : Addr} {z : Int} {ns : List Int} (s : SqT K H p (ns.map V.int)) (q : Q (.bl (decide (z ∉ ns))) H) : rIn K true (.int z) (.ref p) H Q := ⟨p, _, rfl, .inr s, rfl, flat_ints, by
  have e : (!decide (z ∈ ns)) = decide (z ∉ ns) := by simp
  rw [inV_int]; show Q (.bl (!decide (z ∈ ns))) H; rw [e]; exact q⟩
def SortQ (ns : List Int) (H : Hp) (Q : VK) : Prop := ∀ (ns' : List Int) p H2, ns'.Perm ns → ns'.Pairwise (· ≤ ·) → H p = none → Same H H2 → H2 p = some (.lst (ns'.map V.int)) → Q (.ref p) H2
theorem c_sortI {p : Addr} {ns : List Int} (s : SqL K H p (ns.map V.int)) (q : SortQ ns H Q) : rSortedI K [.ref p] H Q := ⟨p, ns, rfl, s, fun ns' r h1 h2 n => q ns' r _ h1 h2 n (Same.new n) upd_same⟩
theorem s_while (h : tWhile tt t D σ H) : tWhile tt t D σ H := h
end
/-! ### what a reading asks is monotone (for the parts of a comprehension): by the shape -/
section
variable {ta tb te : TE} {c d : TT}
abbrev MoE (te : TE) : Prop := ∀ σ H (R R' : VK), (∀ v H1, R v H1 → R' v H1) → te σ H R → te σ H R'
abbrev MoT (c : TT) : Prop := ∀ σ H (R R' : Bool → Hp → Prop), (∀ b H1, R b H1 → R' b H1) → c σ H R → c σ H R'
abbrev MoA (t : TA) : Prop := ∀ σ H (R R' : List V → Hp → Prop), (∀ v H1, R v H1 → R' v H1) → t σ H R → t σ H R'
abbrev Mo2 (r : R2) : Prop := ∀ x y H (R R' : VK), (∀ v H1, R v H1 → R' v H1) → r x y H R → r x y H R'
abbrev MoC (r : List V → Hp → VK → Prop) : Prop := ∀ x H (R R' : VK), (∀ v H1, R v H1 → R' v H1) → r x H R → r x H R'
abbrev MoSp (r : Sp) : Prop := ∀ x H (R R' : VK) E, (∀ v H1, R v H1 → R' v H1) → r x H R E → r x H R' E
theorem m_yes : MoT tYes := fun _ H _ _ h q => h _ _ q
theorem m_var {i : Nat} : MoE (tVar i) := fun _ H _ _ h q => q.elim fun v q => ⟨v, q.1, h _ _ q.2⟩
theorem m_c {v : V} : MoE (tC v) := fun _ H _ _ h q => h _ _ q
theorem m_op {r : R2} (hr : Mo2 r) (ha : MoE ta) (hb : MoE tb) : MoE (tOp r ta tb) := fun σ H _ _ h q => ha σ H _ _ (fun x H1 => hb σ H1 _ _ fun y H2 => hr x y H2 _ _ h) q
theorem m_test (h : MoE te) : MoT (tTest te) := fun σ H _ _ k q => h σ H _ _ (fun x H1 ⟨b, e, z⟩ => ⟨b, e, k b H1 z⟩) q
theorem m_tB (h : MoE te) : MoT (tB te) := fun σ H _ _ k q => h σ H _ _ (fun x H1 ⟨b, e, z⟩ => ⟨b, e, k b H1 z⟩) q
theorem m_nil : MoA tNil := fun _ H _ _ h q => h _ _ q
theorem m_cons {tr : TA} (ha : MoE ta) (hr : MoA tr) : MoA (tCons ta tr) := fun σ H _ _ h q => ha σ H _ _ (fun x H1 => hr σ H1 _ _ fun xs H2 => h (x :: xs) H2) q
theorem m_cb {r : List V → Hp → VK → Prop} {tt : TA} (hr : MoC r) (ht : MoA tt) : MoE (tCB r tt) := fun σ H _ _ h q => ht σ H _ _ (fun x H1 => hr x H1 _ _ h) q
theorem m_call {sp : Sp} {dvs : List V} {E : XK} {tt : TA} (hr : MoSp sp) (ht : MoA tt) : MoE (tCall sp dvs E tt) := fun σ H _ _ h q => ht σ H _ _ (fun x H1 => hr _ H1 _ _ E h) q
theorem m_or {r r' : R2} (a : Mo2 r) (b : Mo2 r') : Mo2 (rOr r r') := fun x y H _ _ h q => q.elim (fun q => .inl (a x y H _ _ h q)) fun q => .inr (b x y H _ _ h q)
theorem m_I0 {f : Int → Int → V} : Mo2 (rI0 f) := fun x y H _ _ h ⟨i, j, e1, e2, q⟩ => ⟨i, j, e1, e2, h _ _ q⟩
theorem m_I {C : Int → Int → Prop} {f : Int → Int → V} : Mo2 (rI C f) := fun x y H _ _ h ⟨i, j, e1, e2, c, q⟩ => ⟨i, j, e1, e2, c, h _ _ q⟩
theorem m_ix {K : PySem.W.Frag} : Mo2 (rIxLT K) := fun x y H _ _ h q => q.elim (fun ⟨p, xs, i, v, e1, e2, s, e, q⟩ => .inl ⟨p, xs, i, v, e1, e2, s, e, h _ _ q⟩) fun ⟨p, xs, i, v, e1, e2, s, e, q⟩ => .inr ⟨p, xs, i, v, e1, e2, s, e, h _ _ q⟩
theorem m_in {K : PySem.W.Frag} {n : Bool} : Mo2 (rIn K n) := fun x y H _ _ h ⟨p, xs, e1, s, f1, f2, q⟩ => ⟨p, xs, e1, s, f1, f2, h _ _ q⟩
theorem m_cat : Mo2 rCat := fun x y H _ _ h ⟨l, b, xs, zs, e1, e2, h1, h2, h3, q⟩ => ⟨l, b, xs, zs, e1, e2, h1, h2, h3, fun p hp => h _ _ (q p hp)⟩
theorem m_sadd : Mo2 rSAdd' := fun x y H _ _ h ⟨i, j, e1, e2, h1, q⟩ => ⟨i, j, e1, e2, h1, h _ _ q⟩
theorem m_add : Mo2 (rOr rIAdd (rOr rCat rSAdd')) := m_or m_I0 (m_or m_cat m_sadd)
theorem m_and (h1 : MoT c) (h2 : MoT d) : MoT (tAnd c d) := fun σ H _ _ k q => h1 σ H _ _ (fun b H1 z => by cases b with
  | true => rw [if_pos rfl] at z ⊢; exact h2 σ H1 _ _ k z
  | false => rw [if_neg Bool.false_ne_true] at z ⊢; exact k _ _ z) q
theorem m_int1 : MoC rInt1 := fun x H _ _ h q => q.elim (fun ⟨i, e, q⟩ => .inl ⟨i, e, h _ _ q⟩) fun ⟨i, e, q⟩ => .inr ⟨i, e, h _ _ q⟩
theorem m_abs : MoC rAbs := fun x H _ _ h ⟨i, e, q⟩ => ⟨i, e, h _ _ q⟩
end
end Vw

set_option Elab.async false
set_option linter.all false
set_option maxRecDepth 100000
set_option maxHeartbeats 4000000
namespace Vw
open PySem PySem.Spec PyProof.Rows L2
/-- a set as it is made -/
abbrev so0 (w : World) : Obj := { cls := .type "set", dict := none, data := .set #[] 0 (.fresh 0 0 (!w.params.followText "set-order")) }
abbrev li0 (l : Addr) : Obj := { cls := .type "list_iterator", data := .fields #[.ref l, .int 0 0] }
section
variable {P : Program} {w : World} {A : Around} {E : Value → Shared → Prop} {s : Shared}
/-- what the filling of a new set by a list of ints leaves -/
def Filled (w : World) (s : Shared) (ns : List Int) (s2 : Shared) : Prop := ∃ h' tk c, s2 = { s with heap := h', toks := tk } ∧ SetR w h' s.heap.objs.size (fun j => decide (j ∈ ns)) c ∧ c ≤ ns.length ∧ ∀ b o, s.heap.get? b = some o → h'.get? b = some o
abbrev fillQ (P : Program) (w : World) (A0 : Around) (E : Value → Shared → Prop) (s : Shared) (ns : List Int) : Result → Shared → Prop := wants (fun r s2 => r = Value.none ∧ Filled w s ns s2) E
theorem fill_list {A0 : Around} {l : Addr} {items : Array Value} (ns : List Int) (hh : A.handled = none) (hl : s.heap.IsList l items) (hit : IntsAre items.toList ns) (hb : ns.length + 1 < scanBound) :
    wpAny (model P w) A (Builtin.«set.__init__» ⟨[.ref s.heap.objs.size, .ref l], []⟩) (fun fin s' => match fin with | .done f => fillQ P w A0 E s ns (.ok f) s' | .again c' => c'.quiet = true ∧ codeAny (model P w) A0 c' (fillQ P w A0 E s ns) s') (fun e s' => fillQ P w A0 E s ns (.error e) s') { s with heap := s.heap.push (so0 w) } := by
  have hz : items.size = ns.length := by have q := IntsAre.length hit; rw [Array.length_toList] at q; exact q
  have hS : (s.heap.push (so0 w)).get? s.heap.objs.size = some (so0 w) := Heap.get?_push_size _ rfl
  obtain ⟨ol, hol, hcl, nl, hdl⟩ := hl
  obtain ⟨ocls, odict, odata, oslots⟩ := ol
  simp only at hcl hdl
  subst hcl hdl
  have hol' : (s.heap.push (so0 w)).get? l = some { cls := .type "list", dict := odict, data := .seq items nl, slots := oslots } := Heap.get?_push_of_some _ hol
  have ha := F.sub_list_set; have hf := F.sub_list_frozenset
  have hd : (Value.type "list" == Value.type "dict") = false := by decide
  have hl1 : (s.heap.push (so0 w)).IsList l items := ⟨_, hol', rfl, nl, rfl⟩
  unfold Builtin.«set.__init__» noKeywords Builtin.Frozenset.updateFrom
  generalize hPI : pyIter = PI
  wp_walk
  subst hPI
  refine wpAny_pyIter_list hl1 ?_
  refine (wpAny_bind (wpAny_runValue ?_))
  have hls : l < s.heap.objs.size := Heap.lt_size hol
  have hi0 : A.in1.in1.handled = none := by simp [hh]
  have hsz : (s.heap.push (so0 w)).objs.size = s.heap.objs.size + 1 := Heap.size_push ..
  have hI : l ≠ (s.heap.push (so0 w)).objs.size := by rw [hsz]; exact Nat.ne_of_lt (Nat.lt_succ_of_lt hls)
  have hSf : s.heap.objs.size ∉ [(s.heap.push (so0 w)).objs.size, l] := by
    rw [hsz]; simp only [List.mem_cons, List.not_mem_nil, or_false, not_or]
    exact ⟨Nat.ne_of_lt (Nat.lt_succ_self _), Nat.ne_of_gt hls⟩
  have hval : ∀ (i : Nat) (v : Value), items[i]? = some v → ∃ k t, ns[i]? = some k ∧ v = .int k t := fun i v hv => by
    have hi : i < ns.length := by rw [← hz]; exact (Array.getElem?_eq_some_iff.mp hv).1
    obtain ⟨t, e⟩ := PyProof.Rows.IntsAre.int_at hit i v (by rw [Array.getElem?_toList]; exact hv)
    exact ⟨ns[i], t, List.getElem?_eq_getElem hi, by rw [e, List.getD_eq_getElem?_getD, List.getElem?_eq_getElem hi] <;> rfl⟩
  refine set_update_ints ((Walks.list (by simp [hh]) _ l hI items).toS) s.heap.objs.size hSf ns hz hb hval (items.size - 0) 0 _ (by omega) (Nat.zero_le _) ⟨⟨_, Heap.get?_push_size _ rfl, rfl, rfl⟩, (hl1.push _)⟩ ?h0 ?h1
  case h0 =>
    have hg : ((s.heap.push (so0 w)).push (li0 l)).get? s.heap.objs.size = some (so0 w) := Heap.get?_push_of_some _ hS
    exact ⟨0, Nat.le_refl 0, setR_new_at hg⟩
  case h1 =>
    intro s' c' hm hc' hS'
    obtain ⟨h', g2, d', tk', os'⟩ := s'
    have eg : g2 = s.gens := hm.gens
    have ed : d' = s.drawn := hm.drawn
    have eo : os' = s.os := hm.os
    subst eg ed eo
    show wpAny _ _ _ _ _ _
    refine wpAny_pure ?_
    show wpAny _ _ (ret Value.none) _ _ _
    refine wpAny_pure ⟨rfl, h', tk', c', rfl, hS', by omega, fun b o e => ?_⟩
    have hb0 : b < s.heap.objs.size := Heap.lt_size e
    refine hm.heap b o ?_ (Heap.get?_push_of_some _ (Heap.get?_push_of_some _ e))
    simp only [List.mem_cons, List.not_mem_nil, or_false, not_or]
    exact ⟨Nat.ne_of_lt hb0, by rw [hsz]; exact Nat.ne_of_lt (Nat.lt_succ_of_lt hb0)⟩
theorem set_of_list {l : Addr} {items : Array Value} (ns : List Int) {Q : Value → Shared → Prop} (hh : A.handled = none) (hl : s.heap.IsList l items) (hit : IntsAre items.toList ns) (hb : ns.length + 1 < scanBound)
    (h : ∀ s2, Filled w s ns s2 → Q (.ref s.heap.objs.size) s2) : wpAny (model P w) A (call (.type "set") [.ref l]) Q E s := by
  obtain ⟨c, tl, hmro⟩ := F.called_set.mro
  have hmade := F.called_set.made; have hsub := F.called_set.sub
  refine wpAny_call (codeAny_of_tree (show wpAny _ _ (callAny (.type "set") _) _ _ _ from wpAny_pure ⟨Code.quiet_builtin _ (by decide +kernel), codeAny_builtin F.entry_type_call ?_⟩))
  rw [Around.under_plain (weight_type_call_type "set" [.ref l] []) rfl]
  have h1 := F.called_set.notType; have h2 := F.called_set.canCreate; have h3 := F.typeCall_set_1 (.ref l)
  repeat (any_goals (first | assumption | wp_step))
  refine codeAny_mono (code_set_led1 (.ref l) (E := E) (Q₁ := fun obj s₁ => obj = .ref s.heap.objs.size ∧ s₁ = { s with heap := s.heap.push (so0 w) }) ⟨rfl, rfl⟩) fun r s₁ hr => ?_
  rcases r with e | fl
  · exact hr
  cases fl with
  | ret obj =>
    obtain ⟨rfl, rfl⟩ := hr
    have hS : (s.heap.push (so0 w)).get? s.heap.objs.size = some (so0 w) := Heap.get?_push_size _ rfl
    have hT : Shared.TypeIs { s with heap := s.heap.push (so0 w) } (.ref s.heap.objs.size) "set" := ⟨_, hS, rfl⟩
    have hi1 := F.called_set.init.lookup; have hi2 := F.called_set.init.bind (.ref s.heap.objs.size)
    repeat (any_goals (first | assumption | wp_step))
    refine codeAny_mono (codeAny_call_builtin (R := wants (fun r s2 => r = Value.none ∧ Filled w s ns s2) E) F.called_set.init.plain F.entry_set_init (check_set_init_1 hT (fill_list ns (by first | exact hh | simp [hh]) hl hit hb))) fun r₂ s₂ hr₂ => ?_
    rcases r₂ with e | fl₂
    · exact hr₂
    cases fl₂ with
    | ret r =>
      obtain ⟨rfl, hF⟩ := hr₂
      have hF' := hF
      obtain ⟨h', tk, c, rfl, _⟩ := hF'
      repeat (any_goals (first | assumption | wp_step))
      exact h _ hF
    | _ => exact hr₂.elim
  | _ => exact hr.elim
end
/-- set(xs) of a list of ints -/
def rSetL1 (K : PySem.W.Frag) (w : World) : List V → Hp → VK → Prop := fun xs H Q => ∃ (a : Addr) (ns : List Int), xs = [.ref a] ∧ SqL K H a (ns.map V.int) ∧ ns.length < 4000 ∧
  ∀ (p : Addr) (c : Nat), c ≤ ns.length → H p = none → Q (.ref p) (upd H p (SetO w p (fun j => decide (j ∈ ns)) c))
theorem cSetL {X : Cx} {K : PySem.W.Frag} {w : World} (hc : X.calm = true) (e : X.K = K := by rfl) (ew : X.w = w := by rfl) : CallR X (.type "set") (rSetL1 K w) := by
  cases e; cases ew
  intro pins s σ H xs us Q I r h
  obtain ⟨a, ns, rfl, hq, hl, q⟩ := h
  rw [Vals.ref1 r]
  obtain ⟨its, rv, p, hz⟩ := I.list hq
  refine set_of_list ns (I.ok.hd hc) p.isList (ints_of_vals rv) (by unfold scanBound; omega) fun s2 hF => ?_
  obtain ⟨h', tk, c, rfl, R, hcn, kp⟩ := hF
  exact ⟨.ref _, upd H s.heap.objs.size (SetO X.w s.heap.objs.size (fun j => decide (j ∈ ns)) c), I.laid (t' := tk) kp (Nat.le_refl _) (setO_new R), rfl, q _ c hcn (I.hok.fresh (Nat.le_refl _))⟩
def rSortSet (w : World) : List V → Hp → VK → Prop := fun vs H Q => ∃ (a : Addr) (S : Int → Bool) (n : Nat), vs = [V.ref a] ∧ H a = some (SetO w a S n) ∧ n < 64 ∧
  ∀ (ns : List Int) (p : Addr), ns.Pairwise (· < ·) → (∀ k : Int, k ∈ ns ↔ S k = true) → ns.length = n → H p = none → Q (.ref p) (upd H p (.lst (ns.map V.int)))
theorem cSortSet {X : Cx} {w : World} (hc : X.calm = true) (ew : X.w = w := by rfl) : CallR X (.builtin "sorted") (rSortSet w) := by cases ew; exact cr_sortedSet hc
theorem c_setL {K : PySem.W.Frag} {w : World} {H : Hp} {Q : VK} {a : Addr} {ns : List Int} (s : SqL K H a (ns.map V.int)) (hl : ns.length < 4000) (q : ∀ p c H2, c ≤ ns.length → H p = none → Same H H2 → H2 p = some (SetO w p (fun j => decide (j ∈ ns)) c) → Q (.ref p) H2) : rSetL1 K w [.ref a] H Q :=
  ⟨a, ns, rfl, s, hl, fun p c hc hp => q p c _ hc hp (Same.new hp) upd_same⟩
theorem c_sortS {w : World} {H : Hp} {Q : VK} {a : Addr} {S : Int → Bool} {n : Nat} (h : H a = some (SetO w a S n)) (hn : n < 64) (q : ∀ (ns : List Int) p H2, ns.Pairwise (· < ·) → (∀ k : Int, k ∈ ns ↔ S k = true) → ns.length = n → H p = none → Same H H2 → H2 p = some (.lst (ns.map V.int)) → Q (.ref p) H2) : rSortSet w [.ref a] H Q :=
  ⟨a, S, n, rfl, h, hn, fun ns p h1 h2 h3 hp => q ns p _ h1 h2 h3 hp (Same.new hp) upd_same⟩
end Vw

set_option Elab.async false
set_option linter.all false
set_option maxRecDepth 100000
set_option maxHeartbeats 4000000
namespace Vw
open PySem PySem.Spec PyProof.Rows L2
/-! ### a name gets a dict comprehension -/
section
variable {X : Cx}
abbrev BlkAll (X : Cx) (scope : Scope) (F : Cx → Prop) : Prop := ∀ (s : Shared) (H : Hp) (C : Addr) (cl : List (Str × Addr)) (fp : List Addr), F (X.blk s H scope (compEnvC scope cl C X.env) fp)
theorem swD_true {kx vx : Expr} {gs : List Comprehension} {scope : Scope} {pos py : Pos} {y : Str} {l : Nat} {env : Env} (h1 : env.scope.kind = .function) (h2 : env.scope.names.lookup y = some .local) (h3 : (py.line == pos.line) = true)
    (h4 : (scope.names.any fun (n, k) => n == y && (k == .local || k == .cell)) = false) : swapsWith (.DictComp kx vx gs scope pos) (some (.Name y py)) l env = pure true := by
  have e1 : env.kindOf y = some .local := h2
  have e2 : env.blockKind = .function := by unfold Env.blockKind; rw [h1]; rfl
  unfold swapsWith
  simp only [e2, e1, h4, Expr.pos, h3]; rfl
theorem ps_setDc {i : Nat} {y : Str} {py : Pos} {kx vx tg iter : Expr} {ifs : List Expr} {scope : Scope} {own : List (Str × Nat)} {pos spos : Pos} {wi : TI} {g : TG} {tt : TT} {tk tv : TE} (hc : X.calm = true) (hN : X.N.Nodup) (hy : X.N[i]? = some y) (hyl : X.env.scope.names.lookup y = some .local)
    (hsw : swapsWith (.DictComp kx vx [⟨tg, iter, ifs, 0⟩] scope pos) (some (.Name y py)) spos.line X.env = pure true) (hi : PI X tg iter wi) (ok : BlkOk X.N X.env.scope scope own) (hg : BlkAll X scope fun Y => PG Y tg g) (ht : BlkAll X scope fun Y => PTs Y ifs tt)
    (hk : BlkAll X scope fun Y => PE Y kx tk) (he : BlkAll X scope fun Y => PE Y vx tv) (hs : ∀ x, foldedSetIterable iter X.env x = pure x := by intro _; rfl) : PS X (.Assign [.Name y py] (.DictComp kx vx [⟨tg, iter, ifs, 0⟩] scope pos) spos) (tAsg (tDc wi g tt tk tv (own.map (·.2))) (gName i)) := by
  refine ⟨fun pins s σ H D I h => ?_⟩
  rw [exec_Assign_Name_used _ _ _ _ hsw]
  refine wpAny_bind (wpAny_standAt (wpAny_bind ?_))
  show wpAny _ X.A (do let _ ← comprehension (.DictComp kx vx [⟨tg, iter, ifs, 0⟩] scope pos) scope X.env (firstIterPos [⟨tg, iter, ifs, 0⟩] pos) newDict false (eval iter X.env) (some (assign (.Name y py) X.env))) _ _ s
  have h2 : tDc wi g tt tk tv (own.map (·.2)) σ H (fun x H1 => gName i x σ H1 D.nx) := h
  refine wpAny_bind (thn (dc_core (Qf := fun _ s' => SP X pins D .next s') hc hN I hi ok hg ht hk he hs h2 fun L C s' m H' I' q hn f => ?_) fun _ s' hq => wpAny_pure (wpAny_pure hq))
  show wpAny _ _ (assign (.Name y py) X.env (.ref L)) _ _ _
  refine wpAny_assign_Name (store_ok2 (v := V.ref L) I' hN hy (.inl hyl) rfl (fun s2 I2 ⟨a, sb, ha⟩ => ?_) (.inr hyl))
  obtain ⟨f0, f1, f2, f3, f4, f5⟩ := f
  have hne : C ≠ a := ha.elim (fun z => z ▸ f1) fun z e => f4 y a z e.symm
  exact ⟨m, hn.sameBut sb hne, fun h3 sb3 => ⟨_, H', I2.turned (t' := s2.toks) (fun b o hb e => (sb3.2 b hb).trans e) f0 f1 f3 f4 f5, q⟩⟩
end
end Vw

set_option Elab.async false
set_option linter.all false
set_option maxRecDepth 100000
set_option maxHeartbeats 4000000
namespace Vw
open PySem PySem.Spec PyProof.Rows L2 HT
/-! ### t[::-1] of a tuple -/
section
variable {prog : Program} {w : World} {A : Around} {E : Value → Shared → Prop} {s : Shared}
theorem backAdjust (n : Nat) : Builtin.Slice.sliceAdjust none none (-1) (n : Int) = ((n : Int) - 1, -1) := by
  unfold Builtin.Slice.sliceAdjust
  rfl
theorem backPlaces (n : Nat) : Builtin.Slice.slicePlaces ((n : Int) - 1) (-1) (-1) = n := by
  unfold Builtin.Slice.slicePlaces
  have h1 : ¬ ((-1 : Int) > 0) := by decide
  simp only [h1, if_false]
  have e : ((n : Int) - 1 - -1 - 1) / (- -1) = (n : Int) - 1 := by
    rw [show (- -1 : Int) = 1 by decide, Int.ediv_one]
    omega
  split
  · rw [e]; omega
  · omega
theorem sliceApplied_back {sl : Addr} {vs : Value} {n : Nat} {Q : Int × Int × Nat → Shared → Prop} (hs : s.heap.IsSliceOf sl .none .none vs) (ps : IsPart vs (some (-1)))
    (h : Q (((n : Int) - 1), -1, n) s) : wpAny (model prog w) A (Builtin.Slice.sliceApplied (.ref sl) (pure (n : Int))) Q E s := by
  obtain ⟨os, hos, hcs, hds⟩ := id hs
  unfold Builtin.Slice.sliceApplied Builtin.Slice.sliceFields
  refine wpAny_bind (wpAny_bind (wpAny_field hos hds (x := .none) rfl (wpAny_bind (wpAny_field hos hds (x := .none) rfl (wpAny_bind (wpAny_field hos hds (x := vs) rfl (wpAny_pure ?_)))))))
  refine wpAny_bind (slicePart_ ps ?_)
  show wpAny _ _ (if ((-1 : Int) == 0) = true then _ else _) _ _ s
  rw [if_neg (by decide)]
  refine wpAny_bind (slicePart_none (wpAny_bind (slicePart_none (wpAny_bind (wpAny_pure ?_)))))
  show wpAny _ _ (match Builtin.Slice.sliceAdjust none none (-1) (n : Int) with | (lo, hi) => pure (lo, (-1 : Int), Builtin.Slice.slicePlaces lo hi (-1))) _ _ s
  rw [backAdjust n]
  show wpAny _ _ (pure (((n : Int) - 1), (-1 : Int), Builtin.Slice.slicePlaces ((n : Int) - 1) (-1) (-1))) _ _ s
  rw [backPlaces]
  exact wpAny_pure h
theorem pick_back (xs : Array Value) : ((List.range xs.size).filterMap fun (m : Nat) => xs[((xs.size : Int) - 1 + (m : Int) * (-1)).toNat]?).toArray = xs.toList.reverse.toArray := by
  have e : (List.range xs.size).filterMap (fun (m : Nat) => xs[((xs.size : Int) - 1 + (m : Int) * (-1)).toNat]?) = ((List.range xs.size).map fun k => xs.size - 1 - k).filterMap (xs[·]?) := by
    have e2 : (List.range xs.size).map (fun k => xs.size - 1 - k) = (List.range xs.size).map fun (m : Nat) => ((xs.size : Int) - 1 + (m : Int) * (-1)).toNat := by
      apply List.map_congr_left
      intro m hm
      have := List.mem_range.mp hm
      omega
    rw [e2, List.filterMap_map]
    rfl
  rw [e, PySem.W.krv_range, List.filterMap_reverse, PySem.W.krv_all]
theorem getItem_tuple_back {t sl : Addr} {items : Array Value} {vs : Value} {Q : Value → Shared → Prop} (ht : IsTup s.heap t items) (hs : s.heap.IsSliceOf sl .none .none vs) (ps : IsPart vs (some (-1)))
    (h : Q (.ref s.heap.objs.size) { s with heap := s.heap.push { cls := .type "tuple", data := .seq items.toList.reverse.toArray } })
    (hsz : items.size ≤ sizeLine) : wpAny (model prog w) A (getItem (.ref t) (.ref sl)) Q E s := by
  have htake : sizeOk (.seq items.toList.reverse.toArray) := by
    show items.toList.reverse.toArray.size ≤ sizeLine
    rw [List.size_toArray, List.length_reverse, Array.length_toList]
    exact hsz
  obtain ⟨os, hos, hcs, hds⟩ := id hs
  have hTs : s.TypeIs (.ref sl) "slice" := ⟨os, hos, hcs⟩
  unfold getItem
  try with_reducible refine wpAny_holding ?_
  first | refine wpAny_bind (wpAny_pure ?_) | skip
  refine wpAny_bind (wpAny_sequenceKey ht.typeIs (by decide) ?_)
  refine wpAny_bind (wpAny_callSpecial?_slot (name := Str.ofString "__getitem__") ht.typeIs PyProof.Rows.slot_tuple_getitem
    (wpAny_call_entry PyProof.Rows.slot_tuple_getitem ht.typeIs entry_tuple_getitem ?_ (args_tuple_getitem _ _)))
  show wpAny _ _ (Builtin.Tuple.tupleItemsOf (.ref t) >>= _) _ _ s
  refine wpAny_bind (tupleItemsOf_ ht ?_)
  refine wpAny_bind (wpAny_typeOf hTs ?_)
  rw [if_pos (by decide)]
  refine wpAny_bind (sliceApplied_back hs ps ?_)
  have hno : ¬ ((((items.size : Int) - 1) == 0 && (-1 : Int) == 1 && items.size == items.size) = true) := by
    intro q
    rw [Bool.and_eq_true, Bool.and_eq_true] at q
    exact absurd q.1.2 (by decide)
  show wpAny _ _ (if (((items.size : Int) - 1) == 0 && (-1 : Int) == 1 && items.size == items.size) = true then _ else _) _ _ s
  rw [if_neg hno, pick_back]
  first
    | exact wpAny_bind (m := Builtin.Tuple.tupleExact _) (wpAny_newObj_type (wpAny_pure ⟨_, rfl, wpAny_pure h⟩) htake)
    | exact wpAny_bind (m := Builtin.Tuple.tupleExact _) (wpAny_newObj_type (wpAny_bind (wpAny_pure (wpAny_pure ⟨_, rfl, wpAny_pure h⟩))) htake)
    | exact wpAny_bind (wpAny_bind (m := Builtin.Tuple.tupleExact _) (wpAny_newObj_type (wpAny_pure (wpAny_pure ⟨_, rfl, wpAny_pure h⟩)) htake))
    | exact wpAny_bind (wpAny_bind (m := Builtin.Tuple.tupleExact _) (wpAny_newObj_type (wpAny_pure ⟨_, rfl, wpAny_pure h⟩) htake))
end
section
variable {X : Cx}
def tRevT (K : PySem.W.Frag) (te : TE) : TE := fun σ H Q => te σ H fun x H1 => ∃ a xs, x = .ref a ∧ SqT K H1 a xs ∧ ∀ p, H1 p = none → Q (.ref p) (upd H1 p (.tup xs.reverse))
theorem pe_revT {K : PySem.W.Frag} {e : Expr} {te : TE} {k : Nat} {p1 p2 p3 pos : Pos} (he : PE X e te) (eK : X.K = K := by rfl) : PE X (.Subscript e (.Slice none none (some (.UnaryOp .USub (.Constant (.int 1) k p1) p2)) p3) pos) (tRevT K te) := by
  cases eK
  refine ⟨fun pins s σ H Q I h => ?_⟩
  refine Subscript_ (thn (he.run pins s σ H _ I h) fun v s1 ⟨x, H1, I1, r1, q1⟩ => ?_)
  obtain ⟨a, xs, ex, hx, q⟩ := q1
  subst ex
  cases r1
  have hst : PO X (some (.UnaryOp .USub (.Constant (.int 1) k p1) p2)) (tPart (tUn (rU fun i => .int (-i)) (tC (.int 1)))) := po_some (pe_un un_neg pe_int)
  refine wpAny_Slice (thn (po_none.run pins s1 σ H1 (fun o H2 => o = none ∧ H2 = H1) I1 ⟨rfl, rfl⟩) fun vl s2 ⟨l, H2, I2, pl, el, e2⟩ => ?_)
  subst el e2
  cases pl
  refine thn (po_none.run pins s2 σ H2 (fun o H3 => o = none ∧ H3 = H2) I2 ⟨rfl, rfl⟩) fun vu s3 ⟨u, H3, I3, pu, eu, e3⟩ => ?_
  subst eu e3
  cases pu
  refine thn (hst.run pins s3 σ H3 (fun o H4 => o = some (-1) ∧ H4 = H3) I3 ⟨1, rfl, -1, rfl, rfl, rfl⟩) fun vs s4 ⟨o, H4, I4, ps, eo, e4⟩ => ?_
  subst eo e4
  have I5 : Inv X pins σ H4 { s4 with heap := s4.heap.push { cls := .type "slice", data := .fields #[.none, .none, vs] } } := I4.kept (t' := s4.toks) fun b ob q => Heap.get?_push_of_some _ q
  obtain ⟨its, r, ht, hz⟩ := I5.tuple hx
  have hlen := r.length
  show wpAny (model X.prog X.w) X.A (subscriptTail e (.Slice none none (some (.UnaryOp .USub (.Constant (.int 1) k p1) p2)) p3) (.ref a) (.ref s4.heap.objs.size)) (EP X pins σ Q) X.xe { s4 with heap := s4.heap.push { cls := .type "slice", data := .fields #[.none, .none, vs] } }
  refine tail_any (ops := [.ref a, .ref s4.heap.objs.size]) ht.typeIs (PyProof.Rows.slot_tuple_getitem.lookup) ?_ (by with_unfolding_all rfl)
  refine getItem_tuple_back ht (Heap.IsSliceOf.new _ .none .none vs) ps ?_ (by rw [List.size_toArray]; omega)
  refine ⟨.ref _, _, I5.laid (t' := s4.toks) (o := .tup xs.reverse) (fun b ob q => Heap.get?_push_of_some _ q) (Nat.le_refl _) ?_, rfl, q _ (I5.hok.fresh (Nat.le_refl _))⟩
  exact ⟨by rw [List.length_reverse]; exact hz, _, r.reverse, IsTup.new _ _⟩
end
end Vw

set_option Elab.async false
set_option linter.all false
set_option maxRecDepth 100000
set_option maxHeartbeats 4000000
namespace Vw
open PySem PySem.Spec PyProof.Rows L2 RT
/-! ### more rules under one name -/
section
variable {X : Cx} {K : PySem.W.Frag}
theorem oAddT (e : X.K = K := by rfl) : OpR X (binaryOp .Add) (rOr rIAdd (rOr rCat (rCatA K))) := by cases e; exact oOr op_add (oOr op_cat op_catA)
theorem slA (e : X.K = K := by rfl) : SlR X (rSlA K) := by cases e; exact sl_tupA
def rLenD : List V → Hp → VK → Prop := fun xs H Q => ∃ a kvs, xs = [V.ref a] ∧ H a = some (.dK kvs) ∧ Q (.int kvs.length) H
theorem cLenD : CallR X (.builtin "len") rLenD := call_lenD
theorem piZip {e e2 : Expr} {ta : TA} {p pos tpos : Pos} {elts : List Expr} {kk : Nat} (hg : Gl X "zip") (hm : X.mg "zip" = none) (ha : PA X [e, e2] ta) (eK : X.K = K := by rfl)
    (hs : starEach [e, e2] X.env = (false, eval e X.env) :: starEach [e2] X.env := by rfl) (hb : ((backTo pos (starEach [e2] X.env)).any fun x => x.fst) = false := by rfl) :
    PI X (.Tuple elts kk tpos) (.Call (.Name "zip" p) [e, e2] [] pos) (iZip K ta) := by cases eK; exact pi_zip hg hm ha hs hb
/-- over a list or a tuple -/
def iOr (w1 w2 : TI) : TI := fun σ H R => w1 σ H R ∨ w2 σ H R
theorem piOr {tg l : Expr} {w1 w2 : TI} (h1 : PI X tg l w1) (h2 : PI X tg l w2) : PI X tg l (iOr w1 w2) := ⟨fun pins s σ H R I h => h.elim (h1.run pins s σ H R I) (h2.run pins s σ H R I)⟩
theorem piX {tg l : Expr} {tl : TE} (hl : PE X l tl) (e : X.K = K := by rfl) : PI X tg l (iOr (iList K tl) (iTup K tl)) := piOr (piL (K := K) hl e) (piT (K := K) hl e)
end
section
variable {K : PySem.W.Frag} {σ : L2.St} {H H1 : Hp} {Q : VK} {R : It → Hp → Prop} {i : Nat} {a : Addr} {xs : List V}
theorem i_orX {H0 : Hp} (hv : σ[i]? = some (some (.ref a))) (s : SqX K H0 a xs) (ss : Same H0 H) (h : ∀ J G, (∀ H', Same H0 H' → G H') → Walk J xs.length G (fun i H x H' => H' = H ∧ xs[i]? = some x) → R J H) : iOr (iList K (tVar i)) (iTup K (tVar i)) σ H R :=
  s.elim (fun s => .inl ⟨.ref a, hv, a, rfl, ⟨xs, sl_ ss s⟩, h _ _ (fun H' q => sl_ q s) walk_list⟩) fun s => .inr ⟨.ref a, hv, a, rfl, ⟨xs, st_ ss s⟩, h _ _ (fun H' q => st_ q s) walk_tup⟩
def ZpQ (K : PySem.W.Frag) (R : It → Hp → Prop) (vs : List V) (H1 : Hp) : Prop := ∃ a b xs ys, vs = [V.ref a, V.ref b] ∧ SqL K H1 a xs ∧ SqL K H1 b ys ∧ R (Itz K a b) H1
theorem i_zip0 {ta : TA} (h : ta σ H fun vs H1 => ZpQ K R vs H1) : iZip K ta σ H R := h
theorem i_zip {b : Addr} {ys : List V} (h1 : SqL K H a xs) (h2 : SqL K H b ys) (q : R (Itz K a b) H) : ZpQ K R [.ref a, .ref b] H := ⟨a, b, xs, ys, rfl, h1, h2, q⟩
theorem e_lenD {kvs : List (Key × V)} (h : H a = some (.dK kvs)) (q : Q (.int (kvs.length : Nat)) H) : rLenD [.ref a] H Q := ⟨a, kvs, rfl, h, q⟩
theorem o_catA {r r' : R2} {b : Addr} {ys : List V} (h1 : SqT K H a xs) (h2 : SqT K H b ys) (hl : xs.length + ys.length ≤ 100000) (q : ∀ p H2, Same H H2 → SqT K H2 p (xs ++ ys) → Q (.ref p) H2) : rOr r (rOr r' (rCatA K)) (.ref a) (.ref b) H Q := by
  refine .inr (.inr ⟨a, b, xs, ys, rfl, rfl, h1, h2, Nat.le_trans hl (by decide), fun e => ?_, fun _ e => ?_, fun _ _ p n => ?_⟩)
  · subst e; exact q b H (Same.refl _) h2
  · subst e; exact q a H (Same.refl _) (by rw [List.append_nil]; exact h1)
  · exact q p _ (Same.new n) (stO upd_same)
theorem r_slA {lo hi : Option Int} (h1 : SqT K H a xs) (q : ∀ p H2 ys, Same H H2 → SqT K H2 p ys → ys.length ≤ xs.length → (∀ y ∈ ys, y ∈ xs) → Q (.ref p) H2) : rSlA K (.ref a) lo hi H Q := by
  refine ⟨a, xs, rfl, h1, fun _ => q a H xs (Same.refl _) h1 (Nat.le_refl _) fun _ h => h, fun _ p n => q p _ _ (Same.new n) (stO upd_same) ?_ ?_⟩
  · exact cutV_length xs lo hi
  · have key : ∀ a b : Nat, ∀ y ∈ (xs.drop a).take b, y ∈ xs := fun a b y hy => List.mem_of_mem_drop (List.mem_of_mem_take hy)
    exact key _ _
theorem e_revT {te : TE} (h : te σ H fun x H1 => ∃ a xs, x = .ref a ∧ SqT K H1 a xs ∧ NewQ (.tup xs.reverse) H1 Q) : tRevT K te σ H Q := h
theorem r_revT {Q : VK} (s : SqT K H a xs) (q : NewQ (.tup xs.reverse) H Q) : ∃ a' xs, V.ref a = .ref a' ∧ SqT K H a' xs ∧ NewQ (.tup xs.reverse) H Q := ⟨a, xs, rfl, s, q⟩
theorem isB_bl {x y : Bool} (q : Q (.bl (decide (x = y))) H) : rIsB (.bl x) (.bl y) H Q := ⟨x, y, rfl, rfl, q⟩
theorem notB_bl {x y : Bool} (q : Q (.bl (!decide (x = y))) H) : rNotB (.bl x) (.bl y) H Q := ⟨x, y, rfl, rfl, q⟩
theorem o_neB {r' : R2} {x y : Bool} (q : Q (.bl (!decide (x = y))) H) : rOr rNe r' (.bl x) (.bl y) H Q := .inl ⟨rfl, by
  have e : (!decide (V.bl x = V.bl y)) = !decide (x = y) := by
    cases x <;> cases y <;> rfl
  rw [e]; exact q⟩
theorem isi_dk {kvs : List (Key × V)} {n : String} (b : Bool) (h : H a = some (.dK kvs)) (e : kitB "dict" n = some b) (q : Q (.bl b) H) : rIsi K [.ref a, .ty n] H Q := isi_ (.base (.dK h)) e q
theorem e_dnew (q : ∀ p H2, H p = none → Same H H2 → H2 p = some (.dK []) → Q (.ref p) H2) : tDNewK σ H Q := fun p n => q p _ n (Same.new n) upd_same
theorem e_disp1 {i j : Int} (q : ∀ p H2, H p = none → Same H H2 → H2 p = some (.dK [(Sum.inl i, .int j)]) → Q (.ref p) H2) : tDisp [(tC (.int i), tC (.int j))] σ H Q := fun p n =>
  ⟨upd_same, [(Sum.inl i, .int j)], rfl, by show 1 ≤ 15; decide, q p _ n (upd_free (Same.new n) n) upd_same⟩
theorem i_nrr {r : Bool} {A B : Prop} (q : B) : if (!decide (r = r)) = true then A else B := by
  rw [show (!decide (r = r)) = false by simp]
  exact iteF q
end
end Vw

set_option Elab.async false
set_option linter.all false
set_option maxRecDepth 100000
set_option maxHeartbeats 4000000
namespace Vw
open PySem PySem.Spec PyProof.Rows L2 RT
/-! ### own classes and their methods -/
structure ClsAt (K : PySem.W.Frag) (mg : Str → Option Value) (x : Str) (C : Addr) : Prop where
  cl : Cls K C
  mks : PySem.W.makesIn K C = true
  kc : PySem.W.keepIn K (.ref C) = true
  g : mg x = some (.ref C)
theorem clsAt_mk {K : PySem.W.Frag} {mg : Str → Option Value} {h : Heap} {x : Str} {C : Addr} (X : K.In h) (G : h.Ns mainGlobals mg) (a : PySem.W.nsIn K mainGlobals x = some (some (.ref C)))
    (pg : PySem.W.plainGet K C Str.empty = true) (hd : PySem.W.hasDictIn K C = true) (po : PySem.W.plainOver K C = true) (sa : PySem.W.findIn K (.ref C) "__setattr__" = some (some (.builtin "object.__setattr__")))
    (mk : PySem.W.makesIn K C = true) (kc : PySem.W.keepIn K (.ref C) = true) : ClsAt K mg x C := ⟨⟨pg, hd, po, sa⟩, mk, kc, PySem.W.mg_of X G a⟩
structure MethAt (K : PySem.W.Frag) (C : Addr) (m qual : Str) (st : Stmt) (ps : List Str) where
  f : Addr
  fd : FuncData
  F : Fun K m qual st f fd
  b : Binds K fd ps []
  i : Meth K C m f
def methAt_mk {K : PySem.W.Frag} {C : Addr} {m qual : Str} {st : Stmt} {ps : List Str} {f : Addr} {od an : Option Addr} {sl : Array (Option Value)} {oc kV dc pm cd ct : Value}
    (a : PySem.W.findIn K (.ref C) m = some (some (.ref f))) (i : PySem.W.isFn K (.ref f) = true) (l : K.lookup f = some ⟨oc, od, .func (PySem.W.fnOf m qual (defArgs st) (defBody st) (defScope st) .none kV dc pm an cd ct), sl⟩) (c : PySem.W.codeIn K cd qual = true) (k : PySem.W.keepIn K (.ref f) = true)
    (b : ∀ (kV doc pm : Value) (an : Option Addr) (cdv ct : Value) (us : List Value), us.length = ps.length → bindArgs (PySem.W.fnOf m qual (defArgs st) (defBody st) (defScope st) .none kV doc pm an cdv ct) ⟨us, []⟩ = pure (ps.zip us)) : MethAt K C m qual st ps :=
  ⟨f, _, fun_mk l c k, (fun_mk (st := st) l c k).binds b, ⟨a, i, k⟩⟩
theorem MethAt.made {K : PySem.W.Frag} {mg : Str → Option Value} {x qual : Str} {C : Addr} {st : Stmt} {ps : List Str} (A : ClsAt K mg x C) (M : MethAt K C "__init__" qual st ps) : Mk K C M.f := ⟨A.mks, M.i.at_, M.i.fn, A.kc⟩
/-- an own instance at p, its fields -/
def InsAt (C : Addr) (H : Hp) (p : Addr) (fs : List (Str × V)) : Prop := ∃ dx, H p = some (.ins C dx fs)
section
variable {K : PySem.W.Frag} {σ : L2.St} {H : Hp} {Q : VK} {ta : TE} {C p : Addr} {fs : List (Str × V)} {f : Str} {v : V}
def FldQ (K : PySem.W.Frag) (f : Str) (x : V) (H1 : Hp) (Q : VK) : Prop := ∃ p C dx fs v, x = .ref p ∧ H1 p = some (.ins C dx fs) ∧ Cls K C ∧ NoAttr K C f ∧ fs.lookup f = some v ∧ Q v H1
theorem e_fld (h : ta σ H fun x H1 => FldQ K f x H1 Q) : tFld K ta f σ H Q := h
theorem o_fld (h : InsAt C H p fs) (cl : Cls K C) (na : NoAttr K C f) (e : fs.lookup f = some v) (q : Q v H) : FldQ K f (.ref p) H Q := h.elim fun dx h => ⟨p, C, dx, fs, v, rfl, h, cl, na, e, q⟩
end
section
variable {K : PySem.W.Frag} {σ : L2.St} {H : Hp} {Q : VK} {ta tv : TE} {C p : Addr} {fs : List (Str × V)} {m f : Str} {v y : V} {D : Ends}
def MethQ (C : Addr) (m : Str) (sp : Sp) (dvs : List V) (E : XK) (t : TA) (σ : L2.St) (x : V) (H1 : Hp) (Q : VK) : Prop := ∃ a dx fs, x = .ref a ∧ H1 a = some (.ins C dx fs) ∧ fs.lookup m = none ∧ t σ H1 fun vs H2 => sp (x :: (vs ++ dvs)) H2 Q E
theorem e_meth {sp : Sp} {dvs : List V} {E : XK} {t : TA} (h : ta σ H fun x H1 => MethQ C m sp dvs E t σ x H1 Q) : tMeth C m sp dvs E ta t σ H Q := h
theorem m_call0 {sp : Sp} {dvs : List V} {E : XK} {t : TA} (h : InsAt C H p fs) (e : fs.lookup m = none) (q : t σ H fun vs H2 => sp (.ref p :: (vs ++ dvs)) H2 Q E) : MethQ C m sp dvs E t σ (.ref p) H Q := h.elim fun dx h => ⟨p, dx, fs, rfl, h, e, q⟩
def SetQ (K : PySem.W.Frag) (f : Str) (y x : V) (H2 : Hp) (R : Hp → Prop) : Prop := ∃ a C dx fs, x = .ref a ∧ H2 a = some (.ins C dx fs) ∧ Cls K C ∧ NoAttr K C f ∧ fs.length < 1000 ∧ R (upd H2 a (.ins C dx (putF f y fs)))
theorem s_setf (h : tv σ H fun y H1 => ta σ H1 fun x H2 => SetQ K f y x H2 fun H3 => D.nx σ H3) : sFld K ta tv f D σ H := h
theorem s_fld {dx : Addr} {R : Hp → Prop} {x : V} (ex : x = .ref p) (h : H p = some (.ins C dx fs)) (cl : Cls K C) (na : NoAttr K C f) (l : fs.length < 1000) (q : R (upd H p (.ins C dx (putF f y fs)))) : SetQ K f y x H R := ⟨p, C, dx, fs, ex, h, cl, na, l, q⟩
end
section
variable {K : PySem.W.Frag} {σ : L2.St} {H : Hp} {Q : VK} {td ty : TE} {d : Addr} {kvs : List (Key × V)} {k : Key} {v : V}
def DgQ (x y : V) (H2 : Hp) (Q : VK) : Prop := ∃ a v, x = .ref a ∧ DGet H2 a y (some v) ∧ Q v H2
theorem e_dget (h : td σ H fun x H1 => ty σ H1 fun y H2 => DgQ x y H2 Q) : tDGet td ty σ H Q := h
theorem o_dget (h : H d = some (.dK kvs)) (e : valV kvs k = some v) (q : Q v H) : DgQ (.ref d) (kV k) H Q := ⟨d, v, rfl, e ▸ DGet.k h, q⟩
end
section
variable {X : Cx} {K : PySem.W.Frag} {e o value : Expr} {f : Str} {pos pos' : Pos} {ta tv : TE}
theorem peFld (h : PE X e ta) (hb : attributeBase e f X.env (eval e X.env) = eval e X.env) (eK : X.K = K := by rfl) : PE X (.Attribute e f pos) (tFld K ta f) := by cases eK; exact pe_fld h hb
theorem psFld (ho : PE X o ta) (hv : PE X value tv) (hs : swapsWith value (some (.Attribute o f pos')) pos.line X.env = pure false) (eK : X.K = K := by rfl) : PS X (.Assign [.Attribute o f pos'] value pos) (sFld K ta tv f) := by cases eK; exact ps_fld ho hv hs
end
theorem oth_stI {K : PySem.W.Frag} {p a C dx : Addr} {H H' : Hp} {fs : List (Str × V)} {xs : List V} (o : Oth p H H') (n : H p = some (.ins C dx fs)) (s : SqT K H a xs) : SqT K H' a xs := by
  rcases s with (s | ⟨u, s⟩) | s
  · exact .inl (.inl (o _ _ (fun z => by rw [z, n] at s; cases s) s))
  · exact .inl (.inr ⟨u, o _ _ (fun z => by rw [z, n] at s; cases s) s⟩)
  · exact .inr s
section
variable {K : PySem.W.Frag} {σ : L2.St} {H : Hp} {Q : VK} {td ty tx : TE} {d : Addr} {kvs : List (Key × V)} {k : Key} {v z : V}
def SdQ (x : V) (H1 : Hp) (R : Addr → Prop) : Prop := ∃ a, x = .ref a ∧ IsD H1 a ∧ R a
def SeQ (a : Addr) (y z : V) (H3 : Hp) (Q : VK) : Prop := ∃ (kvs : List (Key × V)) (k : Key), H3 a = some (.dK kvs) ∧ y = kV k ∧ kvs.length < sizeLine ∧ (∀ v, valV kvs k = some v → Q v H3) ∧ (valV kvs k = none → Q z (upd H3 a (.dK (putK kvs k z))))
theorem e_dsetd (h : td σ H fun x H1 => SdQ x H1 fun a => ty σ H1 fun y H2 => tx σ H2 fun z H3 => SeQ a y z H3 Q) : tDSetd td ty tx σ H Q := h
theorem o_dsetd {R : Addr → Prop} (h : H d = some (.dK kvs)) (q : R d) : SdQ (.ref d) H R := ⟨d, rfl, .inl ⟨kvs, .inl h⟩, q⟩
theorem o_dset (h : H d = some (.dK kvs)) (l : kvs.length < 100000) (q1 : ∀ v, valV kvs k = some v → Q v H) (q2 : valV kvs k = none → Q z (upd H d (.dK (putK kvs k z)))) : SeQ d (kV k) z H Q := ⟨kvs, k, h, rfl, lt_size l, q1, q2⟩
end
/-! ### texts -/
def rTx (g : Str → Bool) : V → List V → Hp → VK → Prop := fun x xs H Q => ∃ a, x = .str a ∧ xs = [] ∧ True ∧ Q (.bl (g a)) H
section
variable {X : Cx} {K : PySem.W.Frag} {o : Expr} {to : TE} {apos cpos : Pos}
theorem peIsascii (ho : PE X o to) (hbase : attributeBase o "isascii" X.env (eval o X.env) = eval o X.env := by rfl) (hline : (apos.endLine == cpos.line) = true := by rfl) (eK : X.K = K := by rfl) : PE X (.Call (.Attribute o "isascii" apos) [] [] cpos) (tBM0 K "str" (rTx Txt.isascii) to) := by
  cases eK; exact pe_bm0 PySem.F.plainAttrs_str PySem.F.slot_str_isascii PySem.F.type_str_isascii mt_isascii ho hbase hline
theorem peIsalpha (ho : PE X o to) (hbase : attributeBase o "isalpha" X.env (eval o X.env) = eval o X.env := by rfl) (hline : (apos.endLine == cpos.line) = true := by rfl) (eK : X.K = K := by rfl) : PE X (.Call (.Attribute o "isalpha" apos) [] [] cpos) (tBM0 K "str" (rTx Txt.isalpha) to) := by
  cases eK; exact pe_bm0 PySem.F.plainAttrs_str PySem.F.slot_str_isalpha PySem.F.type_str_isalpha mt_isalpha ho hbase hline
theorem peIslower (ho : PE X o to) (hbase : attributeBase o "islower" X.env (eval o X.env) = eval o X.env := by rfl) (hline : (apos.endLine == cpos.line) = true := by rfl) (eK : X.K = K := by rfl) : PE X (.Call (.Attribute o "islower" apos) [] [] cpos) (tBM0 K "str" (rTx Txt.islower) to) := by
  cases eK; exact pe_bm0 PySem.F.plainAttrs_str PySem.F.slot_str_islower PySem.F.type_str_islower mt_islower ho hbase hline
end
section
variable {K : PySem.W.Frag} {σ : L2.St} {H : Hp} {Q : VK} {to : TE} {z y : Str} {r' : R2}
theorem e_bm0 {T : String} {r : V → List V → Hp → VK → Prop} (h : to σ H fun x H1 => tyV K T x H1 ∧ r x [] H1 Q) : tBM0 K T r to σ H Q := h
theorem r_tx {g : Str → Bool} (q : Q (.bl (g z)) H) : tyV K "str" (.str z) H ∧ rTx g (.str z) [] H Q := ⟨rfl, z, rfl, rfl, trivial, q⟩
theorem e_lenS (h : z.length ≤ 100000) (q : Q (.int (z.length : Nat)) H) : rLen' K [.str z] H Q := ⟨.str z, z.length, rfl, ⟨Nat.le_trans h (by decide), rfl⟩, q⟩
theorem o_eqStr (q : Q (.bl (decide (z = y))) H) : rOr rEq r' (.str z) (.str y) H Q := .inl ⟨rfl, by
  have e : decide (V.str z = V.str y) = decide (z = y) := by
    by_cases h : z = y
    · rw [decide_eq_true h, h]; exact decide_eq_true rfl
    · rw [decide_eq_false h]; exact decide_eq_false fun q => h (V.str.inj q)
  rw [e]; exact q⟩
theorem o_neStr (q : Q (.bl (decide (z ≠ y))) H) : rOr rNe r' (.str z) (.str y) H Q := .inl ⟨rfl, by
  have e : (!decide (V.str z = V.str y)) = decide (z ≠ y) := by
    by_cases h : z = y
    · rw [decide_eq_false (show ¬ z ≠ y from fun q => q h), h, decide_eq_true rfl]; rfl
    · rw [decide_eq_true (show z ≠ y from h), decide_eq_false fun q => h (V.str.inj q)]; rfl
  rw [e]; exact q⟩
end
theorem e_dnin {σ : L2.St} {H : Hp} {Q : VK} {ty td : TE} (h : ty σ H fun y H1 => td σ H1 fun x H2 => ∃ a o, x = .ref a ∧ DGet H2 a y o ∧ Q (.bl (!o.isSome)) H2) : tDNotIn ty td σ H Q := h
theorem while_m {c : TT} {t : TS} {D : Ends} {σ : L2.St} {H : Hp} (W : Nat → L2.St → Hp → Prop) (m0 : Nat) (h0 : W m0 σ H) (hs : ∀ m σ H, W m σ H → c σ H fun b H1 => if b = true then ∃ N : L2.St → Hp → Prop, (∀ σ' H', N σ' H' → ∃ m', m' < m ∧ W m' σ' H') ∧ t { D with nx := N, ct := N, bk := D.nx } σ H1 else D.nx σ H1) : tWhile c t D σ H := ⟨W, ⟨m0, h0⟩, hs⟩
end Vw

set_option Elab.async false
set_option linter.all false
set_option maxRecDepth 100000
set_option maxHeartbeats 4000000
namespace Vw
open PySem PySem.Spec PyProof.Rows L2 RT
/-! ### an own exception without fields, made by C(), its __init__ inherited and walked as a def -/
theorem mk_endN {X : Cx} {pins : List (Addr × Obj)} {σ : L2.St} {H1 : Hp} {Q : XK} {hp hp2 h2 : Heap} {g1 g2 : Array GenState} {d1 d2 : Drawn} {t1 t2 : Nat} {os1 os2 : OsState} {a C : Addr} (T : Raises X (.ref C)) (I1 : Inv X pins σ H1 ⟨hp, g1, d1, t1, os1⟩)
    (ha : hp.objs.size ≤ a) (k : ∀ b o, hp.get? b = some o → hp2.get? b = some o) (un : Un (frs X.stack) [] (upd H1 a (exo a C none)) (upd H1 a (exo a C none)) hp2 h2) (hok : HOk X.prog X.w (upd H1 a (exo a C none)) h2) (ho : os2 = os1) (hb : AllBare g2)
    (q : Q (.ref C) none H1) : MkP X pins σ Q (.ref a) ⟨h2, g2, d2, t2, os2⟩ := by
  obtain ⟨t0, hoe⟩ := exo_at hok (upd_same : upd H1 a (exo a C none) a = some (exo a C none))
  have hn : H1 a = none := I1.hok.fresh ha
  obtain ⟨G, g1', g2'⟩ := restrict h2 fun b => decide (b ≠ a)
  have gk : ∀ b, b ≠ a → G.get? b = h2.get? b := fun b hb => g1' b (decide_eq_true hb)
  have ge : G.get? a = none := g2' a (by simp)
  have nha : ∀ {b : Addr} {o : Obj}, hp.get? b = some o → b ≠ a := fun {b o} z => Nat.ne_of_lt (Nat.lt_of_lt_of_le (Heap.lt_size z) ha)
  have up : ∀ {b : Addr}, b ≠ a → H1 b = none → upd H1 a (exo a C none) b = none := fun {b} hb n => by rw [upd_ne hb]; exact n
  have U : Un (frs X.stack) [] H1 H1 hp G := {
    keep := fun b o z n hf hx => by
      rw [gk b (nha z)]
      exact un.keep b o (k b o z) (up (nha z) n) hf hx
    slot := fun b o z n hf hx => by
      rw [gk b (nha z)]
      exact un.slot b o (k b o z) (up (nha z) n) hf hx
    free := fun b o z n hx => n
    there := fun b o z hx => by
      rw [gk b (nha z)]
      exact un.there b o (k b o z) hx
    tups := fun b xs z => z
    frzs := fun b o v z => z
    tbls := fun b ps z => ⟨#[], by rw [Array.append_empty]; exact z⟩ }
  have ea : upd H1 a (exo a C none) a = some (exo a C none) := upd_same
  have hok3 : HOk X.prog X.w H1 G := fun b o z => by
    have hba : b ≠ a := fun e => by
      rw [e, hn] at z
      cases z
    have noa : ∀ {c : Addr}, upd H1 a (exo a C none) c = some (.own b) → c ≠ a := fun {c} hc => at_ne ea hc exo_own
    exact (hok b o (by rw [upd_ne hba]; exact z)).stay (fun c v hc y => by
        have hca : c ≠ a := by
          rcases hc with hc | hc
          · rw [hc]
            exact hba
          · exact noa hc
        rw [gk c hca]
        exact y)
      (fun c hc => by rw [upd_ne (noa hc)] at hc; exact hc) (fun c xs hc => by rw [upd_ne (at_ne ea hc exo_tup)] at hc; exact hc)
  have J : Inv X pins σ H1 ⟨G, g2, d2, t2, os2⟩ := I1.call' (ch := []) ho U hok3 hb (fun b z => absurd z (by simp))
  refine ⟨a, _, _, ⟨G, g2, d2, t2, os2⟩, _, .ref C, none, rfl, J, fun b o z => ?_, ge, hoe, ⟨rfl, rfl⟩, rfl, rfl, hn, rfl, hb, T, q⟩
  by_cases hba : b = a
  · rw [hba, ge] at z
    cases z
  · exact (gk b hba).symm.trans z
/-- C(), its __init__ keeping sp, which leaves the exception as it is -/
def tMkN (C : Addr) (sp : Sp) : L2.St → Hp → XK → Prop := fun σ H Q => ∀ a, H a = none → sp [.ref a] (upd H a (exo a C none))
  (fun v H2 => v = .non ∧ H2 = upd H a (exo a C none) ∧ Q (.ref C) none H) (fun _ _ _ => False)
section
variable {X : Cx}
theorem pmk_oexN {CX : CXT} {x : Str} {C fI : Addr} {k : Nat} {fd : FuncData} {ps : List Str} {sp : Sp} {p pos : Pos} (T : OexC X.K C) (iC : PySem.W.findIn X.K (.ref C) "__init__" = some (some (.ref fI))) (tI : PySem.W.typeIn X.K (.ref fI) = some (.type "function"))
    (F1 : FnOk X.prog X.w X.K X.mg X.base CX k fI fd ps sp) (hr : Room (k + 1) X.A) (hb : Binds X.K fd ps []) (hx : Passes CX X (fun _ _ _ => False)) (hg : Gl X x) (hm : X.mg x = some (.ref C))
    (hdb : (x == ("__debug__" : Str)) = false := by decide) :
    PMk X (.Call (.Name x p) [] [] pos) (tMkN C sp) := by
  intro pins s σ H Q I h
  obtain ⟨nm, q, N, bs, bm, sn, sub, ab, col, dd, k0, k1, k2, k3, k5, hC, hbm⟩ := T.cls
  refine wpAny_Call_Name_kw (ld_glob I hg hm ?_ hdb)
  refine PySem.W.callWith_K0 I.kIn T.kC ?_
  show wpAny _ _ (call (.ref C) []) _ _ _
  obtain ⟨hp, g, dr, tk, os⟩ := s
  have hsz : hp.objs.size ≤ hp.objs.size + 1 := Nat.le_succ _
  have hn : H (hp.objs.size + 1) = none := I.hok.fresh hsz
  have hq := h (hp.objs.size + 1) hn
  have kk : ∀ b o, hp.get? b = some o → ((hp.push (PySem.W.kdv_tup [])).push (PySem.HandSPX.excO C hp.objs.size)).get? b = some o := fun b o e => Heap.get?_push_of_some _ (Heap.get?_push_of_some _ e)
  have hget : ((hp.push (PySem.W.kdv_tup [])).push (PySem.HandSPX.excO C hp.objs.size)).get? (hp.objs.size + 1) = some (PySem.HandSPX.excO C hp.objs.size) := by heap_get
  have I2 : Inv X pins σ (upd H (hp.objs.size + 1) (exo (hp.objs.size + 1) C none)) ⟨(hp.push (PySem.W.kdv_tup [])).push (PySem.HandSPX.excO C hp.objs.size), g, dr, tk, os⟩ :=
    I.laid (t' := tk) (a := hp.objs.size + 1) (o := exo (hp.objs.size + 1) C none) (h' := (hp.push (PySem.W.kdv_tup [])).push (PySem.HandSPX.excO C hp.objs.size)) kk hsz (exo_ok hget)
  have r2 : Vals [V.ref (hp.objs.size + 1)] [Value.ref (hp.objs.size + 1)] := .cons rfl .nil
  have hl : ([Value.ref (hp.objs.size + 1)] : List Value).length = ps.length := by
    have e := r2.length
    rw [F1.len _ _ _ _ hq] at e
    exact e.symm
  have bd := hb _ [Value.ref (hp.objs.size + 1)] I2.kIn (by rw [List.append_nil]; exact hl)
  rw [List.append_nil] at bd
  refine wpAny_call (PySem.HandSPX.call_own F.excBase_ValueError (fun Y => PySem.HandSPX.refsVE_contains Y bm hbm) (I.kIn _ _ hC) (PySem.W.looks_findIn I.kIn iC) (fun self => PySem.W.bind_fn I.kIn self tI) (Nat.zero_le _)
    (codeAny_mono (F1.run _ X.stack _ _ ⟨[Value.ref (hp.objs.size + 1)], []⟩ [Value.ref (hp.objs.size + 1)] _ _ (fun _ _ _ => False) (hr.make C [] []) (I2.env0.make C [] []) bd r2 hq) fun r s' hq' => ?_))
  cases r with
  | error er => exact hx pins σ _ _ er s' I2 hq'
  | ok fl =>
    cases fl with
    | ret u =>
      obtain ⟨v, H2, os2, bare2, un2, hok2, rv, ev, eH, q2⟩ := hq'
      subst ev
      subst eH
      obtain ⟨h2, g2, d2, t2, os'⟩ := s'
      exact ⟨rv, mk_endN (raises_own T.exC T.tyC) I hsz kk un2 hok2 os2 bare2 q2⟩
    | next => exact False.elim hq'
    | brk => exact False.elim hq'
    | cont => exact False.elim hq'
end
/-! ### methods of own instances called where a try is around -/
section
variable {X : Cx} {CX : CXT} {k : Nat} {C f : Addr} {fd : FuncData} {ps : List Str} {sp : Sp} {E : L2.St → XK} {m : Str} {p apos pos : Pos} {e o : Expr} {es : List Expr} {ta : TE} {t : TA}
def tMethE (C : Addr) (m : Str) (sp : Sp) (E : L2.St → XK) (to : TE) (t : TA) : TE := fun σ H Q => to σ H fun x H1 => ∃ a dx fs, x = .ref a ∧ H1 a = some (.ins C dx fs) ∧ fs.lookup m = none ∧ t σ H1 fun vs H2 => sp (x :: vs) H2 Q (E σ)
theorem pe_methE {pl : Sem Bool} (he : PE X o ta) (c : Cls X.K C) (hm : Meth X.K C m f) (F : FnOk X.prog X.w X.K X.mg X.base CX k f fd ps sp) (hr : Room k X.A) (hb : Binds X.K fd ps []) (hx : ∀ σ, PassesAt CX X σ (E σ)) (ha : PA X (e :: es) t)
    (hst : starEach (e :: es) X.env = (false, eval e X.env) :: starEach es X.env := by rfl) (hpl : (backTo pos (starEach es X.env)).any (·.1) = false := by rfl)
    (ht : eval (.Call (.Attribute o m apos) (e :: es) [] pos) X.env = (do
      let ov ← eval o X.env
      standAt apos.atName
      let (f, first) ← holding [ov] (getMethod ov m pl)
      callWith pos f first (backTo pos (starEach (e :: es) X.env)) (backToKw pos (keywordEach [] X.env))) := by rfl) :
    PE X (.Call (.Attribute o m apos) (e :: es) [] pos) (tMethE C m sp E ta t) := by
  refine ⟨fun pins s σ H Q I h => ?_⟩
  refine PySem.W.methodCall_KW (pl := pl) (thn (he.run pins s σ H _ I h) fun u s1 ⟨x, H1, I1, rx, a, dx, fs, ex, ea, l, q⟩ => ?_) ht
  subst ex
  obtain rfl : u = Value.ref a := rx
  refine getmeth_ok I1 ea c hm l ?_
  refine PySem.W.callWith_K (first := [.ref a]) (h₀ := X.base) I.ok.mod.kin hm.kp (thn (ha.run pos pins s1 σ H1 _ I1 q) fun us s2 ⟨vs, H2, I2, r, q2⟩ => ⟨I2.kIn, ?_⟩) hst hpl
  exact run_fnS (us := .ref a :: us) (vs := .ref a :: vs) F hr hb (hx σ) I2 (.cons rfl r) q2
theorem pe_methE0 {pl : Sem Bool} (he : PE X o ta) (c : Cls X.K C) (hm : Meth X.K C m f) (F : FnOk X.prog X.w X.K X.mg X.base CX k f fd ps sp) (hr : Room k X.A) (hb : Binds X.K fd ps []) (hx : ∀ σ, PassesAt CX X σ (E σ))
    (ht : eval (.Call (.Attribute o m apos) [] [] pos) X.env = (do
      let ov ← eval o X.env
      standAt apos.atName
      let (f, first) ← holding [ov] (getMethod ov m pl)
      callWith pos f first (backTo pos (starEach [] X.env)) (backToKw pos (keywordEach [] X.env))) := by rfl) :
    PE X (.Call (.Attribute o m apos) [] [] pos) (tMethE C m sp E ta tNil) := by
  refine ⟨fun pins s σ H Q I h => ?_⟩
  refine PySem.W.methodCall_KW (pl := pl) (thn (he.run pins s σ H _ I h) fun u s1 ⟨x, H1, I1, rx, a, dx, fs, ex, ea, l, q⟩ => ?_) ht
  subst ex
  obtain rfl : u = Value.ref a := rx
  refine getmeth_ok I1 ea c hm l ?_
  exact PySem.W.callWith_K0 (first := [.ref a]) I1.kIn hm.kp (run_fnS (us := [.ref a]) (vs := [.ref a]) F hr hb (hx σ) I1 (.cons rfl .nil) q)
end

/-! ### the facts of an own error class of the text -/
structure InitAt (K : PySem.W.Frag) (m qual : Str) (st : Stmt) (ps : List Str) where
  f : Addr
  fd : FuncData
  F : Fun K m qual st f fd
  b : Binds K fd ps []
structure ExcAt (K : PySem.W.Frag) (mg : Str → Option Value) (x : Str) (fI : Addr) where
  C : Addr
  g : mg x = some (.ref C)
  o : OexC K C
  i : PySem.W.findIn K (.ref C) "__init__" = some (some (.ref fI))
  t : PySem.W.typeIn K (.ref fI) = some (.type "function")
  te : PySem.W.exmOne K (.ref C) (.ref C) = some true
def initAt_mk {K : PySem.W.Frag} {m qual : Str} {st : Stmt} {ps : List Str} {f : Addr} {od an : Option Addr} {sl : Array (Option Value)} {oc kV dc pm cd ct : Value}
    (l : K.lookup f = some ⟨oc, od, .func (PySem.W.fnOf m qual (defArgs st) (defBody st) (defScope st) .none kV dc pm an cd ct), sl⟩) (c : PySem.W.codeIn K cd qual = true) (k : PySem.W.keepIn K (.ref f) = true)
    (b : ∀ (kV doc pm : Value) (an : Option Addr) (cdv ct : Value) (us : List Value), us.length = ps.length → bindArgs (PySem.W.fnOf m qual (defArgs st) (defBody st) (defScope st) .none kV doc pm an cdv ct) ⟨us, []⟩ = pure (ps.zip us)) : InitAt K m qual st ps :=
  ⟨f, _, fun_mk l c k, (fun_mk (st := st) l c k).binds b⟩
theorem exm_self {K : PySem.W.Frag} {S : Addr} (b : PySem.W.subIn K (.ref S) (.type "BaseException") = some true) (i : PySem.W.isClsIn K S = true) (t : PySem.W.typeIn K (.ref S) = some (.type "type")) (s : PySem.W.subIn K (.ref S) (.ref S) = some true) : PySem.W.exmOne K (.ref S) (.ref S) = some true := by
  unfold PySem.W.isClsIn at i
  unfold PySem.W.exmOne PySem.W.kitCls
  simp [b, i, t, s]
def excAt_mk {K : PySem.W.Frag} {mg : Str → Option Value} {h : Heap} {x : Str} {C fI f1 : Addr} {nm q : Str} {N : Addr} {bs bm : List Value} {sn : List Str} {sub : List Value} {ab : Bool} {col : Option Bool} {dd : Option Addr} {k0 k1 k2 k3 k5 : Option Value} (X : K.In h) (G : h.Ns mainGlobals mg) (a : PySem.W.nsIn K mainGlobals x = some (some (.ref C)))
    (l : K.lookup C = some (excClassObj nm q C N bs bm true sn sub ab col dd k0 k1 k2 k3 k5 "ValueError.__new__")) (hb : PySem.HandSPX.refsVE bm = true)
    (sa : PySem.W.findIn K (.ref C) "__setattr__" = some (some (.builtin "object.__setattr__"))) (exC : PySem.W.subIn K (.ref C) (.type "BaseException") = some true) (tyC : PySem.W.typeIn K (.ref C) = some (.type "type")) (kC : PySem.W.keepIn K (.ref C) = true)
    (i : PySem.W.findIn K (.ref C) "__init__" = some (some (.ref f1))) (t : PySem.W.typeIn K (.ref f1) = some (.type "function")) (hf : f1 = fI) (ic : PySem.W.isClsIn K C = true) (sc : PySem.W.subIn K (.ref C) (.ref C) = some true) : ExcAt K mg x fI :=
  ⟨C, PySem.W.mg_of X G a, ⟨⟨nm, q, N, bs, bm, sn, sub, ab, col, dd, k0, k1, k2, k3, k5, l, hb⟩, sa, exC, tyC, kC⟩, hf ▸ i, hf ▸ t, exm_self exC ic tyC sc⟩
def sp_exc_init (K : PySem.W.Frag) : Sp := fun vs H Q _ => ∃ a C, vs = [.ref a] ∧ OexC K C ∧ H a = some (exo a C none) ∧ Q .non H
theorem e_raise {C : Addr} {K : PySem.W.Frag} {σ : L2.St} {H : Hp} {Q : XK} (o : OexC K C) (q : Q (.ref C) none H) : tMkN C (sp_exc_init K) σ H Q := fun a na => ⟨a, C, rfl, o, upd_same, rfl, rfl, q⟩
theorem noAttr_mk {K : PySem.W.Frag} {C : Addr} {f : Str} (h : PySem.W.findIn K (.ref C) f = some none) : NoAttr K C f := h
end Vw

set_option Elab.async false
set_option linter.all false
set_option maxRecDepth 100000
set_option maxHeartbeats 4000000
namespace Vw
open PySem PySem.Spec PyProof.Rows L2 RT
section
variable {K : PySem.W.Frag} {σ : L2.St} {H : Hp} {Q : VK} {D : Ends} {td ty tx tv : TE} {d : Addr} {kvs : List (Key × V)} {k : Key} {v z : V} {R : Hp → Prop}
def DpQ (x y v : V) (H3 : Hp) (R : Hp → Prop) : Prop := ∃ a H4, x = .ref a ∧ DPut H3 a y v H4 ∧ R H4
theorem s_dput (h : tv σ H fun v H1 => td σ H1 fun x H2 => ty σ H2 fun y H3 => DpQ x y v H3 fun H4 => D.nx σ H4) : sDPut td ty tv D σ H := h
theorem o_dput (h : H d = some (.dK kvs)) (l : kvs.length < 100000) (q : R (upd H d (.dK (putK kvs k v)))) : DpQ (.ref d) (kV k) v H R := ⟨d, _, rfl, DPut.k h (lt_size l), q⟩
def Dg2Q (a : Addr) (y z : V) (H3 : Hp) (Q : VK) : Prop := ∃ o, DGet H3 a y o ∧ Q (o.getD z) H3
theorem e_dget2 (h : td σ H fun x H1 => SdQ x H1 fun a => ty σ H1 fun y H2 => tx σ H2 fun z H3 => Dg2Q a y z H3 Q) : tDGet2 td ty tx σ H Q := h
theorem o_dget2 (h : H d = some (.dK kvs)) (q : Q ((valV kvs k).getD z) H) : Dg2Q d (kV k) z H Q := ⟨_, DGet.k h, q⟩
def Dp1Q (a : Addr) (y : V) (H2 : Hp) (Q : VK) : Prop := ∃ kvs k v, H2 a = some (.dK kvs) ∧ y = kV k ∧ valV kvs k = some v ∧ Q v (upd H2 a (.dK (dropK kvs k)))
theorem e_dpop1 (h : td σ H fun x H1 => SdQ x H1 fun a => ty σ H1 fun y H2 => Dp1Q a y H2 Q) : tDPop1 td ty σ H Q := h
theorem o_dpop1 (h : H d = some (.dK kvs)) (e : valV kvs k = some v) (q : Q v (upd H d (.dK (dropK kvs k)))) : Dp1Q d (kV k) H Q := ⟨kvs, k, v, h, rfl, e, q⟩
theorem o_rep {r : R2} {l : Addr} {n : Nat} {xs : List V} (h : H l = some (.lst xs)) (hn : n ≤ 100000) (hl : xs.length * n ≤ 100000) (q : NewQ (.lst (List.replicate n xs).flatten) H Q) : rOr r rRep (.ref l) (.int n) H Q :=
  .inr ⟨l, n, xs, rfl, rfl, h, by omega, by omega, le_trans_size hl, q⟩
where le_trans_size {m : Nat} (h : m ≤ 100000) : m ≤ sizeLine := Nat.le_trans h (by decide)
theorem p_cons {tk tw : TE} {r : List (TE × TE)} {QP : List (V × V) → Hp → Prop} (h : tk σ H fun x H1 => tw σ H1 fun y H2 => tPairs r σ H2 fun ps H3 => QP ((x, y) :: ps) H3) : tPairs ((tk, tw) :: r) σ H QP := h
theorem p_nil {QP : List (V × V) → Hp → Prop} (h : QP [] H) : tPairs [] σ H QP := h
end
section
variable {K : PySem.W.Frag} {σ : L2.St} {H : Hp} {Q : VK} {to : TE} {C p : Addr} {fs : List (Str × V)} {m : Str} {D : Ends}
def MethEQ (C : Addr) (m : Str) (sp : Sp) (E : L2.St → XK) (t : TA) (σ : L2.St) (x : V) (H1 : Hp) (Q : VK) : Prop := ∃ a dx fs, x = .ref a ∧ H1 a = some (.ins C dx fs) ∧ fs.lookup m = none ∧ t σ H1 fun vs H2 => sp (x :: vs) H2 Q (E σ)
theorem e_methE {sp : Sp} {E : L2.St → XK} {t : TA} (h : to σ H fun x H1 => MethEQ C m sp E t σ x H1 Q) : tMethE C m sp E to t σ H Q := h
theorem m_callE {sp : Sp} {E : L2.St → XK} {t : TA} (h : InsAt C H p fs) (e : fs.lookup m = none) (q : t σ H fun vs H2 => sp (.ref p :: vs) H2 Q (E σ)) : MethEQ C m sp E t σ (.ref p) H Q := h.elim fun dx h => ⟨p, dx, fs, rfl, h, e, q⟩
theorem s_try {tb : WX → TS} {c : Value} {ts : Addr → Value → Option Addr → TS} {Wout : WX} (h : tb (wOnly K c ts Wout D) D σ H) : (fun (D : Ends) (σ : L2.St) (H : Hp) => tb (wOnly K c ts Wout D) D σ H) D σ H := h
theorem w_only {c cls : Value} {d : Option Addr} {ts : Addr → Value → Option Addr → TS} {Wout : WX} (e : PySem.W.exmOne K cls c = some true) (h : ∀ a, H a = none → ts a cls d D σ H) : wOnly K c ts Wout D cls d σ H := ⟨true, e, fun _ => h, fun z => nomatch z⟩
end
end Vw

set_option Elab.async false
set_option linter.all false
set_option maxRecDepth 100000
set_option maxHeartbeats 4000000
namespace Vw
open PySem PySem.Spec PyProof.Rows L2 RT
/-! ### list.extend of a tuple, whatever its dict and slots are -/
theorem list_extend_tup (l : Addr) (items : Array Value) (n : Nat) (b : Addr) (dd : Option Addr) (sl : Array (Option Value)) (items2 : Array Value) (n2 : Nat) (hs0 : ¬(!items.isEmpty && Builtin.List.listTooLong (items.size + items2.size)) = true) (hs1 : items.size ≤ sizeLine) (hs2 : items.size + items2.size ≤ sizeLine + 1) :
    Meets (Builtin.«list.extend» ⟨[.ref l, .ref b], []⟩) (fun _ R s => s.heap.get? l = some { cls := .type "list", dict := none, data := .seq items n, slots := #[] } ∧ s.heap.get? b = some { cls := .type "tuple", dict := dd, data := .seq items2 n2, slots := sl } ∧ R (.ok (.ret Value.none)) { s with heap := s.heap.update l (Obj.mapSeq fun x => x ++ items2), toks := s.toks }) :=
  .of_wp fun prog w A R s h => by
    obtain ⟨hp, g, d, tk, os⟩ := s; obtain ⟨hl, hb, h⟩ := h; have f1 := PySem.AutoSeq1.idx_int; have f2 := PySem.AutoSeq1.sub_tuple_tuple; have f3 := PySem.AutoSeq1.sub_list_list; have f4 := PySem.AutoSeq1.sub_tuple_list; have f5 := PySem.AutoSeq1.sub_list_tuple;
    have hz' : (items ++ items2).size ≤ sizeLine + 1 := by rw [Array.size_append]; exact hs2
    wp_walk using (wpAny_updateSeq hl rfl (hz := hs1) (_hz' := hz')), PySem.AutoSeq1.wpAny_loadPart' hl, PySem.AutoSeq1.wpAny_loadPart' hb; exact ⟨_, rfl, h⟩
def rExtT (K : PySem.W.Frag) : V → List V → Hp → VK → Prop := fun x vs H Q => ∃ l b xs zs, x = .ref l ∧ vs = [.ref b] ∧ H l = some (.lst xs) ∧ SqT K H b zs ∧ xs.length + zs.length ≤ sizeLine ∧ Q .non (upd H l (.lst (xs ++ zs)))
section
variable {X : Cx}
theorem mt_extT : MtM X "list.extend" (rExtT X.K) := by
  intro pins s σ H x vs v us Q I rx rv h
  obtain ⟨l, b, xs, zs, rfl, rfl, hH, hB, hz, q⟩ := h
  cases rx
  obtain ⟨u, rfl, ru⟩ := rv.one
  cases ru
  obtain ⟨z, its, n, r, hl, e⟩ := I.lstM hH
  obtain ⟨its2, r2, ⟨⟨cl, dd, da, sl⟩, e2, ec, n2, ed⟩, hl2⟩ := I.tuple hB
  cases ec
  cases ed
  have hl3 := r2.length
  have hsz : its.toArray.size + its2.toArray.size ≤ sizeLine := by rw [List.size_toArray, List.size_toArray]; omega
  have hlong : ¬ (!its.toArray.isEmpty && Builtin.List.listTooLong (its.toArray.size + its2.toArray.size)) = true := by
    rw [show Builtin.List.listTooLong (its.toArray.size + its2.toArray.size) = false from decide_eq_false (by omega), Bool.and_false]
    exact Bool.false_ne_true
  refine call_meets F.slot_list_extend ⟨_, e, rfl⟩ F.entry_list_extend (F.args_list_extend_2 _ _)
    (list_extend_tup l its.toArray n b dd sl its2.toArray n2 hlong (by rw [List.size_toArray]; omega) (by omega)) ⟨e, e2, ?_⟩
  refine ⟨.non, _, I.lset (its' := its ++ its2) hH e (by simp) (r.append r2) ?_, rfl, q⟩
  rw [List.length_append]
  omega
theorem mtExtT {K : PySem.W.Frag} (e : X.K = K := by rfl) : MtM X "list.extend" (rExtT K) := by cases e; exact mt_extT
/-! ### a test of a if t else b -/
def tIfT (t u v : TT) : TT := fun σ H Q => t σ H fun c H1 => if c = true then u σ H1 Q else v σ H1 Q
theorem pt_ifExp {c a b : Expr} {pos : Pos} {t u v : TT} (hc : PT X c t) (ha : PT X a u) (hb : PT X b v) : PT X (.IfExp c a b pos) (tIfT t u v) := by
  refine ⟨fun pins s σ H Q I h => ?_⟩
  refine isTrue_IfExp (thn (hc.run pins s σ H _ I h) fun d s1 ⟨H1, I1, q1⟩ => ?_)
  cases d with
  | true => exact ha.run pins s1 σ H1 Q I1 q1
  | false => exact hb.run pins s1 σ H1 Q I1 q1
/-! ### isinstance of an own class -/
theorem cIsC {K : PySem.W.Frag} {C : Addr} (c : C8.InsC K C) (e : X.K = K := by rfl) : CallR X (.builtin "isinstance") (fun xs H Q => ∃ a dx fs, xs = [.ref a, .ref C] ∧ H a = some (.ins C dx fs) ∧ Q (.bl true) H) := by
  cases e
  exact C8.call_isC c
end
section
variable {K : PySem.W.Frag} {σ : L2.St} {H : Hp} {Q : VK} {l b : Addr} {xs zs : List V} {C p : Addr} {fs : List (Str × V)} {t u v : TT} {QB : Bool → Hp → Prop} {R : It → Hp → Prop}
theorem r_extT (h : H l = some (.lst xs)) (hb : SqT K H b zs) (hl : xs.length + zs.length < 100000) (q : ∀ H2, Oth l H H2 → H2 l = some (.lst (xs ++ zs)) → Q .non H2) : rExtT K (.ref l) [.ref b] H Q :=
  ⟨l, b, xs, zs, rfl, rfl, h, hb, Nat.le_of_lt (lt_size hl), q _ (fun c o z e => by rw [upd_ne z]; exact e) upd_same⟩
theorem e_ifT (h : t σ H fun c H1 => if c = true then u σ H1 QB else v σ H1 QB) : tIfT t u v σ H QB := h
theorem o_isC (h : InsAt C H p fs) (q : Q (.bl true) H) : ∃ a dx fs, [V.ref p, V.ref C] = [.ref a, .ref C] ∧ H a = some (.ins C dx fs) ∧ Q (.bl true) H := h.elim fun dx h => ⟨p, dx, fs, rfl, h, q⟩
def Rg3Q (R : It → Hp → Prop) (vs : List V) (H1 : Hp) : Prop := ∃ (i j c : Int) (n : Nat), vs = [.int i, .int j, .int c] ∧ RgC i j c n ∧ R (Itc i c n) H1
theorem i_rng3 {ta : TA} (h : ta σ H fun vs H1 => Rg3Q R vs H1) : iRng3 ta σ H R := h
theorem i_rg3 {i j c : Int} {n : Nat} (r : RgC i j c n) (h : R (Itc i c n) H) : Rg3Q R [.int i, .int j, .int c] H := ⟨i, j, c, n, rfl, r, h⟩
end
end Vw

set_option Elab.async false
set_option linter.all false
set_option maxRecDepth 100000
set_option maxHeartbeats 4000000
namespace Vw
open PySem PySem.Spec PyProof.Rows L2 RT
/-! ### slices of tuples, the whole one too -/
theorem slT {X : Cx} {K : PySem.W.Frag} (e : X.K = K := by rfl) : SlR X (rSlA K) := by cases e; exact sl_tupA
theorem cut_nat {xs : List V} {i j : Nat} : cutV xs (some (i : Int)) (some (j : Int)) = (xs.drop i).take (j - i) := by
  unfold cutV
  rw [HT.sIx_nat, HT.sIx_nat]
  by_cases hi : i ≤ xs.length
  · rw [Nat.min_eq_left hi]
    by_cases hj : j ≤ xs.length
    · rw [Nat.min_eq_left hj]
    · rw [Nat.min_eq_right (by omega), List.take_of_length_le (by rw [List.length_drop]; omega), List.take_of_length_le (by rw [List.length_drop]; omega)]
  · rw [List.drop_of_length_le (show xs.length ≤ min i xs.length by omega), List.drop_of_length_le (show xs.length ≤ i by omega), List.take_nil, List.take_nil]
theorem cut_from {xs : List V} {i : Nat} : cutV xs (some (i : Int)) none = xs.drop i := by
  unfold cutV
  rw [HT.sIx_nat, HT.sIx_none, List.take_of_length_le (by rw [List.length_drop]; omega)]
  by_cases hi : i ≤ xs.length
  · rw [Nat.min_eq_left hi]
  · rw [Nat.min_eq_right (by omega), List.drop_of_length_le (by omega), List.drop_of_length_le (by omega)]
theorem cut_to {xs : List V} {j : Nat} : cutV xs none (some (j : Int)) = xs.take j := by
  unfold cutV
  rw [HT.sIx_nat, HT.sIx_none, List.drop_zero, Nat.sub_zero]
  by_cases hj : j ≤ xs.length
  · rw [Nat.min_eq_left hj]
  · rw [Nat.min_eq_right (by omega), List.take_of_length_le (by omega), List.take_of_length_le (by omega)]
section
variable {K : PySem.W.Frag} {H : Hp} {Q : VK} {a : Addr} {xs : List V} {lo hi : Option Int}
theorem r_slT (s : SqT K H a xs) (q : ∀ c H2, Same H H2 → SqT K H2 c (cutV xs lo hi) → Q (.ref c) H2) : rSlA K (.ref a) lo hi H Q := by
  refine ⟨a, xs, rfl, s, fun w => ?_, fun w p n => q p _ (Same.new n) (stO upd_same)⟩
  refine q a H (Same.refl _) ?_
  have e : cutV xs lo hi = xs := by
    unfold cutV
    rw [w.1, w.2, List.drop_zero, Nat.sub_zero, List.take_length]
  rw [e]; exact s
end
/-! ### range(0, n, 36) -/
theorem rsize36 {n : Nat} : Builtin.Range.rangeSize 0 (n : Int) 36 = (((n + 35) / 36 : Nat) : Int) := by
  unfold Builtin.Range.rangeSize
  simp only [show (36 : Int) > 0 by decide, if_true]
  split <;> omega
theorem fitL {i : Int} (h0 : 0 ≤ i) (h1 : i ≤ 1000000) : Builtin.Range.rangeFitsLong i = true := by
  unfold Builtin.Range.rangeFitsLong
  rw [Bool.and_eq_true, decide_eq_true_eq, decide_eq_true_eq]
  constructor <;> omega
theorem rgc36 {n : Nat} (h : n ≤ 100000) : RgC 0 (n : Int) 36 ((n + 35) / 36) := by
  refine ⟨by decide, by decide, ?_, rsize36⟩
  unfold Builtin.Range.small
  rw [rsize36]
  rw [fitL (by omega) (by omega), fitL (i := (n : Int)) (by omega) (by omega), fitL (i := 36) (by omega) (by omega), fitL (i := (((n + 35) / 36 : Nat) : Int)) (by omega) (by omega), if_pos (by decide), fitL (by omega) (by omega), Bool.or_true]
  rfl
def rIsC (C : Addr) : List V → Hp → VK → Prop := fun xs H Q => ∃ a dx fs, xs = [.ref a, .ref C] ∧ H a = some (.ins C dx fs) ∧ Q (.bl true) H
theorem cIsD {X : Cx} {K : PySem.W.Frag} {C : Addr} (c : C8.InsC K C) (e : X.K = K := by rfl) : CallR X (.builtin "isinstance") (rIsC C) := cIsC c e
theorem o_isD {C p : Addr} {H : Hp} {Q : VK} {fs : List (Str × V)} (h : InsAt C H p fs) (q : Q (.bl true) H) : rIsC C [.ref p, .ref C] H Q := h.elim fun dx h => ⟨p, dx, fs, rfl, h, q⟩
theorem peExt {X : Cx} {K : PySem.W.Frag} {o ex : Expr} {to te : TE} {apos cpos : Pos} {r : V → List V → Hp → VK → Prop} (h : PE X (.Call (.Attribute o "extend" apos) [ex] [] cpos) (tBM X.K "list" r to (tCons te tNil))) (e : X.K = K := by rfl) :
    PE X (.Call (.Attribute o "extend" apos) [ex] [] cpos) (tBM K "list" r to (tCons te tNil)) := by cases e; exact h
end Vw

set_option Elab.async false
set_option linter.all false
set_option maxRecDepth 100000
set_option maxHeartbeats 4000000
namespace Vw
open PySem PySem.Spec PyProof.Rows L2 RT
/-! ### a lambda called under two handlers: told is w0, wa or wb -/
def TTwo (K : PySem.W.Frag) (CA CB : Addr) (w0 wa wb : Str) : (XK → Hp → VK → Prop) → Hp → VK → Prop := fun tl H Q =>
  tl (fun cls _ H' => ∃ b, PySem.W.exmOne K cls (.ref CA) = some b ∧ (b = true → Q (.str wa) H') ∧ (b = false → ∃ b2, PySem.W.exmOne K cls (.ref CB) = some b2 ∧ (b2 = true → Q (.str wb) H') ∧ (b2 = false → False))) H fun _ H' => Q (.str w0) H'
theorem takes_len {X : Cx} {W : WX} (t : Takes X W) : Takes X (fun c d σ H => σ.length = X.N.length → W c d σ H) := fun u s' ⟨a, B, sI, pins, σ, H, cls, d, e, I, nb, up, sky, na, os, ag, w⟩ =>
  t u s' ⟨a, B, sI, pins, σ, H, cls, d, e, I, nb, up, sky, na, os, ag, w I.len⟩
theorem two_gives {X : Cx} {x a t A B q w0 wa wb : Str} {sg : Scope} {g CA CB : Addr} {cdg : Value} {j0 j1 j2 : Nat} {p1 p2 p3 p4 p5 p6 p7 p8 p9 p10 p11 p12 p13 p14 p15 p16 p17 p18 p19 : Pos}
    (hga : sg.names.lookup A = some .globalImplicit) (hma : X.mg A = some (.ref CA)) (hda : (A == ("__debug__" : Str)) = false) (hgb : sg.names.lookup B = some .globalImplicit) (hmb : X.mg B = some (.ref CB)) (hdb : (B == ("__debug__" : Str)) = false)
    (ht : sg.names.lookup t = some .local) (hn : ([a, t] : List Str).Nodup) (hd : (t == ("__debug__" : Str)) = false) (hcd : (t == ("__classdict__" : Str)) = false) :
    LamX.GivesTo X [a, t] x sg g cdg [.Assign [.Name t p1] (.Constant (.str w0) j0 p2) p3, .Try [.Expr (.Call (.Name a p4) [] [] p5) p6] [.ExceptHandler (some (.Name A p7)) none [.Assign [.Name t p8] (.Constant (.str wa) j1 p9) p10] p11, .ExceptHandler (some (.Name B p12)) none [.Assign [.Name t p13] (.Constant (.str wb) j2 p14) p15] p16] [] [] p17, .Return (some (.Name t p18)) p19] a q (TTwo X.K CA CB w0 wa wb) := by
  intro f c' s H Q tl act hc h
  have gla : Gl (cxOf C8.CX0 X.prog X.w X.K X.mg X.base [a, t] x sg g cdg X.A X.stack s H C8.E0).nox A := hga
  have glb : Gl (cxOf C8.CX0 X.prog X.w X.K X.mg X.base [a, t] x sg g cdg X.A X.stack s H C8.E0).nox B := hgb
  have ht2 : (cxOf C8.CX0 X.prog X.w X.K X.mg X.base [a, t] x sg g cdg X.A X.stack s H C8.E0).nox.env.scope.names.lookup t = some .local := ht
  refine ⟨_, pss_cons (ps_set (X := (cxOf C8.CX0 X.prog X.w X.K X.mg X.base [a, t] x sg g cdg X.A X.stack s H C8.E0).nox) (i := 1) hn rfl (.inl ht) pe_str) (pss_cons (ps_try_many (X := (cxOf C8.CX0 X.prog X.w X.K X.mg X.base [a, t] x sg g cdg X.A X.stack s H C8.E0).nox)
      (tb := fun W D σ H => ∃ Ech : XK, (∀ cls d σ' H', σ'.length = 2 → Ech cls d H' → W cls d σ' H') ∧ σ[0]? = some (some (.ref f)) ∧ H c' = some (LamX.CodeO c' q) ∧ tl Ech H fun _ H' => D.nx σ H')
      rfl rfl takes_none5 (fun W pn xe tk _ => ?_)
      (.cons ⟨gla, hda, .inl hma⟩ (fun a oe cls d pn _ _ => pss_one (ps_set (i := 1) hn rfl (.inl ht) pe_str)) (.cons ⟨glb, hdb, .inl hmb⟩ (fun a oe cls d pn _ _ => pss_one (ps_set (i := 1) hn rfl (.inl ht) pe_str)) .nil)))
    (pss_one (ps_ret (pe_var (i := 1) rfl (.inl ht) hd hcd)))), ?_⟩
  · refine ⟨fun pins s' σ H' D I h' => ?_⟩
    obtain ⟨Ech, hW, h1, h2, h3⟩ := h'
    have hp := act (fun c d σ H => σ.length = 2 → W c d σ H) pn xe Ech p4 p5 (takes_len tk) (fun cls d σ' H' e l => hW cls d σ' H' l e)
    exact (pss_one (ps_expr (pos := p6) hp)).run pins s' σ H' D I ⟨h1, h2, h3⟩
  · have len1 : ∀ (σ' : L2.St) (v : V), σ'.length = 2 → (σ'.set 1 (some v))[1]? = some (some v) := fun σ' v l => by
      rw [List.getElem?_set_self (by omega)]
    refine ⟨fun cls _ H' => ∃ b, PySem.W.exmOne X.K cls (.ref CA) = some b ∧ (b = true → Q (.str wa) H') ∧ (b = false → ∃ b2, PySem.W.exmOne X.K cls (.ref CB) = some b2 ∧ (b2 = true → Q (.str wb) H') ∧ (b2 = false → False)), fun cls d σ' H' l ⟨b, e1, e2, e3⟩ => ⟨b, e1, fun hb a _ => ?_, fun hb => ?_⟩, rfl, hc, ?_⟩
    · exact ⟨_, len1 σ' _ l, e2 hb⟩
    · obtain ⟨b2, g1, g2, g3⟩ := e3 hb
      exact ⟨b2, g1, fun hb a _ => ⟨_, len1 σ' _ l, g2 hb⟩, fun hb => g3 hb⟩
    · refine Eq.mpr (congrArg (tl _ H) (funext fun _ => funext fun H' => propext ⟨fun ⟨v, e, z⟩ => ?_, fun z => ⟨_, rfl, z⟩⟩)) h
      have e2 : V.str w0 = v := Option.some.inj (Option.some.inj e)
      rw [e2]
      exact z
/-- the end of a law whose defs hold lambdas: of each def of the row, its code object and its empty table -/
theorem walk_ofRecs {l : PySem.W.OpenLaw} {n k : Nat} {q : Program} {loose : List Str} {XP : (Str → Option Value) → Heap → Prop} {YP : World → Heap → Prop} {d : DefRec} {K : Params → PySem.W.Frag} {CX : World → CXT} {x : Str}
    (hn : l.most = some n) (hn2 : n ≤ sizeLine) (hdf : d.params.defaults = []) (hr : Room k callerA) (hY : ∀ (w : World) (h : Heap), YP w h → (K w.params).In h)
    (F : ∀ (w : World) (mg : Str → Option Value) (fa : Addr) (h : Heap), YP w h → (K w.params).In h → h.Ns mainGlobals mg → mg d.name = some (.ref fa) →
      (∀ (y : Str) (e : DefRec) (c P : Addr), (recsOf q).find? (fun e => e.name == y) = some e → PySem.W.tabIn (K w.params) y = some (c, P) → PySem.W.CodeHd h c P ∧ h.get? P = some { cls := .none, data := .fields #[] }) → LamX.LawAtS l w (K w.params) (CX w) k n x mg fa h)
    (hCX : ∀ (w : World) (H : Hp) (s : Shared) (e : Value) (s' : Shared), CX w [] H s (fun _ _ _ => False) e s' → False) :
    PySem.W.WalkO q loose XP YP l.row.toRowW d [] (fun f vs => PySem.call f vs) := by
  refine Att.attach_callB hn hdf fun w s₀ s₁ mg mb fa o pm cd doc a vs ns G Y ho hd hcd hmg hobj hints hlen hbits hg => ?_
  have KX := hY w _ Y
  obtain ⟨fd, cs, sp, hT, nT, C, hb, hsp, hF⟩ := F w mg fa _ Y KX G.T.g hmg (fun y e c P h1 h2 => PySem.W.tab_of G.T KX h1 h2)
  exact LamX.law_callTs KX G.T.g G.T.b G.T.builtins G.T.nolimit hg hT nT C G.T.bmain hobj hints (Nat.le_trans hlen hn2) hr hF hb (fun H hH hS => hsp H a ns hlen hbits hH hS) fun H e s' => hCX w H s₁ e s'
/-- a def that makes lambdas: its code object c and the table P of it -/
structure DefAtL (K : PySem.W.Frag) (mg : Str → Option Value) (x qual : Str) (st : Stmt) (ps : List Str) extends DefAt K mg x qual st ps where
  c : Addr
  P : Addr
  ex : ∃ (oc : Value) (od : Option Addr) (kV doc pm : Value) (an : Option Addr) (ct : Value) (osl : Array (Option Value)),
    fd = PySem.W.fnOf x qual (defArgs st) (defBody st) (defScope st) .none kV doc pm an (.ref c) ct ∧ K.lookup f = some ⟨oc, od, .func fd, osl⟩ ∧ PySem.W.codeIn K (.ref c) qual = true
  tb : PySem.W.tabIn K x = some (c, P)
  nP : K.lookup P = none
def defAtL_mk {K : PySem.W.Frag} {mg : Str → Option Value} {h : Heap} {x qual : Str} {st : Stmt} {ps : List Str} {f c P : Addr} {od an : Option Addr} {sl : Array (Option Value)} {oc kV dc pm ct : Value} (X : K.In h) (G : h.Ns mainGlobals mg)
    (a : PySem.W.nsIn K mainGlobals x = some (some (.ref f))) (l : K.lookup f = some ⟨oc, od, .func (PySem.W.fnOf x qual (defArgs st) (defBody st) (defScope st) .none kV dc pm an (.ref c) ct), sl⟩) (cc : PySem.W.codeIn K (.ref c) qual = true) (k : PySem.W.keepIn K (.ref f) = true)
    (tb : PySem.W.tabIn K x = some (c, P)) (nP : K.lookup P = none)
    (b : ∀ (kV doc pm : Value) (an : Option Addr) (cdv ct : Value) (us : List Value), us.length = ps.length → bindArgs (PySem.W.fnOf x qual (defArgs st) (defBody st) (defScope st) .none kV doc pm an cdv ct) ⟨us, []⟩ = pure (ps.zip us)) : DefAtL K mg x qual st ps :=
  { defAt_mk X G a l cc k b with c := c, P := P, ex := ⟨_, _, _, _, _, _, _, _, rfl, l, cc⟩, tb := tb, nP := nP }
theorem DefAtL.ok {Pg : Program} {w : World} {K : PySem.W.Frag} {mg : Str → Option Value} {base : Heap} {x qual : Str} {st : Stmt} {N ps : List Str} {k : Nat} {sp : Sp} (D : DefAtL K mg x qual st ps) (S : FnScope N ps (defScope st)) (len : ∀ vs H Q E, sp vs H Q E → vs.length = ps.length)
    (hbody : ∀ (A : Around) (outer : List Env) (s : Shared) (H : Hp) (vs : List V) (Q : VK) (E : XK), Room k (A.deeper (envOfC qual (defScope st) s.heap.objs.size D.f (.ref D.c))) → sp vs H Q E →
      ∃ t, PSs (cxOf CX0 Pg w K mg base N qual (defScope st) D.f (.ref D.c) A outer s H E).nox (defBody st) t ∧ t { nx := fun _ H' => Q .non H', rt := Q } (start N vs) H) : FnOk Pg w K mg base CX0 (k + 1) D.f D.fd ps sp := by
  obtain ⟨oc, od, kV, doc, pm, an, ct, osl, e, lk, hcd⟩ := D.ex
  rw [e] at lk ⊢
  refine fn_of lk hcd S len fun A outer s H vs Q E hr hsp => ?_
  obtain ⟨t, h, q⟩ := hbody A outer s H vs Q E hr hsp
  exact ⟨t, h.nox, q⟩
/-- x(lambda: body), of a def known as DefAt -/
theorem pe_lamF {X : Cx} {T : List (Addr × Str)} {TT : (XK → Hp → VK → Prop) → Hp → VK → Prop} {x a n : Str} {st : Stmt} {c P : Addr} {k : Nat} {Ng : List Str} {params : Arguments} {body : Expr} {scope : Scope} {t : XK → TE} {p lpos pos : Pos}
    (hq : X.env.qual = n) (D : DefAt X.K X.mg x x st [a]) (hg : Gl X x) (Sg : FnScope Ng [a] (defScope st)) (hNg : Ng[0]? = some a) (hva : Vis (defScope st) a)
    (hG : ∀ cdv : Value, LamX.GivesTo X Ng x (defScope st) D.f cdv (defBody st) a (n ++ "<lambda>") TT)
    (TB : LamX.TabB X.base X.mg c P) (hcode : X.env.code = .ref c) (hmT : (P, n ++ "<lambda>") ∈ T) (hu : ∀ p ∈ T, p.1 = P → p.2 = n ++ "<lambda>") (hr : Room (k + 2) X.A) (L : LamX.LamS X.env.scope scope) (hdef : defaultsOf params X.env = ([], []))
    (hbind : ∀ (q : Str) (cl : List (Str × Addr)) (pm cv ctv : Value), bindArgs (PySem.W.kla_fn "<lambda>" q params body scope cl pm cv ctv) ⟨[], []⟩ = pure [])
    (hbody : ∀ (A : Around) (outer : List Env) (s : Shared) (H : Hp) (E : XK) (f c' : Addr), Room k (A.deeper (LamX.lamEnv X scope s.heap.objs.size f c')) → PE (LamX.lamCx X A outer s H E scope f c') body (t E))
    (hdb : (x == ("__debug__" : Str)) = false := by decide) (hd : (a == ("__debug__" : Str)) = false := by decide) (hcd : (a == ("__classdict__" : Str)) = false := by decide) :
    PE X (.Call (.Name x p) [.Lambda params body scope lpos] [] pos) (LamX.tLam T TT t) := by
  subst hq
  obtain ⟨f, fd, F, b, g⟩ := D
  obtain ⟨oc, od, kV, doc, pm, an, cdv, ct, osl, rfl, lk, hc2⟩ := F.ex
  exact LamX.pe_lamcall hg g F.kp lk hc2 b Sg hNg hva (hG cdv) TB hcode hmT hu hr L hdef hbind hbody hdb hd hcd
theorem nox_qual {CX : CXT} {Pg : Program} {w : World} {K : PySem.W.Frag} {mg : Str → Option Value} {base : Heap} {N : List Str} {q : Str} {sc : Scope} {f : Addr} {cdv : Value} {A : Around} {outer : List Env} {s : Shared} {H : Hp} {E : XK} :
    (cxOf CX Pg w K mg base N q sc f cdv A outer s H E).nox.env.qual = q ++ ".<locals>." := rfl
/-- what a call lets out is taken by the handlers around, whatever the slots hold by then -/
theorem passLen {X : Cx} {W : WX} (n : Nat) (tk : Takes X W) (hn : X.N.length = n) : Passes (L2.CX X.prog X.w) X (fun cls d H => ∀ σ : L2.St, σ.length = n → W cls d σ H) := passes_call (takes_len tk) (fun _ _ _ _ e l => e _ (l.trans hn))
/-- tables at places of their own -/
theorem tabs_uniq {P : Addr} {q : Str} : ∀ {l : List (Addr × Str)}, (l.map (·.1)).Nodup → (P, q) ∈ l → ∀ p ∈ l, p.1 = P → p.2 = q := by
  intro l
  induction l with
  | nil => intro _ h; cases h
  | cons a l ih =>
    intro hn hm p hp e
    rw [List.map_cons, List.nodup_cons] at hn
    rcases List.mem_cons.mp hm with h | h
    · rcases List.mem_cons.mp hp with k | k
      · rw [k, ← h]
      · exact absurd (List.mem_map.mpr ⟨p, k, by rw [e, ← h]⟩) hn.1
    · rcases List.mem_cons.mp hp with k | k
      · exact absurd (List.mem_map.mpr ⟨(P, q), h, by rw [← e, k]⟩) hn.1
      · exact ih hn.2 h p k e
end Vw

set_option Elab.async false
set_option linter.all false
set_option maxRecDepth 100000
set_option maxHeartbeats 4000000
namespace Vw
open PySem PySem.Spec PyProof.Rows L2 RT
/-! ### several handlers, each with the name of what it caught -/
abbrev HdT := Value × (Addr → Value → Option Addr → TS)
/-- the ends of a handler's suite: slot i, the name's, is empty behind it -/
def offI (i : Nat) (D : Ends) : Ends := { nx := fun σ H => D.nx (σ.set i none) H, rt := D.rt, bk := fun σ H => D.bk (σ.set i none) H, ct := fun σ H => D.ct (σ.set i none) H }
def wTells (K : PySem.W.Frag) (i : Nat) (Wo : WX) (D : Ends) : List HdT → WX
  | [] => Wo
  | h :: r => fun k d σ H => ∃ b, PySem.W.exmOne K k h.1 = some b ∧ (b = true → ∀ x, H x = none → h.2 x k d (offI i D) (σ.set i (some (.ref x))) H) ∧ (b = false → wTells K i Wo D r k d σ H)
inductive TellsOk (X : Cx) (n : Str) : List ExceptHandler → List HdT → Prop
  | nil : TellsOk X n [] []
  | cons {x : Str} {c : Value} {u : Addr → Value → Option Addr → TS} {b : Stmt} {bs : List Stmt} {p1 p2 : Pos} {hds : List ExceptHandler} {l : List HdT} (hc : Names X x c)
      (hu : ∀ (x : Addr) (o : Obj) (k : Value) (d : Option Addr) (pn : List (Addr × Obj)), Zc k d o → (∃ vs, o.data = .fields vs) → PSs (X.suite x ((x, o) :: pn)) (b :: bs) (u x k d)) (r : TellsOk X n hds l) :
      TellsOk X n (.ExceptHandler (some (.Name x p1)) (some n) (b :: bs) p2 :: hds) ((c, u) :: l)
section
variable {X : Cx} {n : Str} {i : Nat} {body : List Stmt} {h1 : ExceptHandler} {hds : List ExceptHandler} {l : List HdT} {pos : Pos} {tb : WX → TS} {Wo : WX}
theorem ps_tells (st : X.stack = X.env :: X.outer) (fr : X.env.frame = some X.env.locals) (nd : X.N.Nodup) (at_ : X.N[i]? = some n) (lo : X.env.kindOf n = some .local) (tk : Takes X Wo)
    (bo : ∀ (W : WX) (pn : List (Addr × Obj)) (xe : Value → Shared → Prop), Takes (X.tr pn xe) W → PassesOwn (model X.prog X.w) X.A X.env xe → PSs (X.tr pn xe) body (tb W))
    (hh : TellsOk X n (h1 :: hds) l) : PS X (.Try body (h1 :: hds) [] [] pos) (fun D σ H => tb (wTells X.K i Wo D l) D σ H) := by
  refine ⟨fun pins s σ H D I q0 => ?_⟩
  have kk := I.ok
  have frs2 : X.A.frames = some (X.env :: X.outer) := by rw [kk.frames, st]
  have hl2 : Loc X.env.scope n := .inl lo
  refine wpAny_Try_except ?_
  refine wpAny_mono ((bo (wTells X.K i Wo D l) (X.pn ++ pins) (fun e sa => wpAny (model X.prog X.w) X.A (noteFrame e X.env) (fun _ sb => wpAny (model X.prog X.w) X.A (setFlight e none) (fun _ sc =>
    wpAny (model X.prog X.w) X.A (handleBy e X.env (h1 :: hds)) (SP X pins D) X.xe sc) X.xe sb) X.xe sa) (fun u s' xx => ?_) PassesOwn.looking).run [] s σ H D (I.toTry _) q0) (fun f s1 hsp => ?_) (fun e s1 z => z)
  · obtain ⟨x, B, sI, _, σ2, H2, k, d, rfl, Ja, nb, up, sky, nx2, os, ag, w⟩ := xx
    have Jb : Inv X pins σ2 H2 sI := Ja.ofTry kk
    have sk2 : Sky B (X.env :: X.outer) x (Zc k d) X.env.locals s'.heap := by rw [← st]; exact sky
    show wpAny (model X.prog X.w) X.A (noteFrame (.ref x) X.env) _ _ _
    refine Sky.land Zc.steady frs2 fr sk2 fun ha fa ua => ?_
    have Jc : Inv X pins σ2 H2 { s' with heap := ha } := Jb.landed nb fa.1 (up.trans ua) os ag
    obtain ⟨oa, va, ea, za, da⟩ := fa.there
    have out : ∀ {h : Heap} {o : Obj} {vs : Array Value}, h.FunFrames B (X.env :: X.outer) → h.get? x = some o → o.data = .fields vs → x ∉ frs (X.env :: X.outer) := fun {h o vs} ff e dd m => by
      obtain ⟨_, o2, e2, nf⟩ := ff.mem m
      rw [e] at e2
      cases e2
      exact nf _ dd
    have nfa := out fa.2.2.1 ea da
    have nla : x ≠ X.env.locals := fun z => nfa (List.mem_filterMap.mpr ⟨X.env, List.mem_cons_self, by rw [fr, z]⟩)
    have nfs : x ∉ X.fs := fun m => by
      obtain ⟨e, me, q⟩ := List.mem_filterMap.mp m
      exact nfa (List.mem_filterMap.mpr ⟨e, List.mem_cons_of_mem _ me, q⟩)
    have Sa := Jc.suite ea da nx2 nla nfs
    have go : ∀ {hd2 : List ExceptHandler} {l2 : List HdT}, TellsOk X n hd2 l2 → wTells X.K i Wo D l2 k d σ2 H2 → wpAny (model X.prog X.w) X.A (handleBy (.ref x) X.env hd2) (SP X pins D) X.xe { s' with heap := ha } := by
      intro hd2 l2 ok2
      induction ok2 with
      | nil =>
        intro w2
        refine wpAny_handleBy_nil ?_
        obtain ⟨_, _, _, o5, v5, T, oT, t5, e5, z5, d5, g5, _⟩ := id fa
        unfold PySem.passOn
        refine wpAny_bind (wpAny_field e5 d5 g5 ?_)
        rw [if_neg (show ¬ ((Value.ref T == Value.none) = true) by simp)]
        have fin : wpAny (model X.prog X.w) X.A (setFlight (.ref x) X.env.frame) (fun _ sd => wpAny (model X.prog X.w) X.A (throw (.ref x) : Sem Flow) (SP X pins D) X.xe sd) X.xe { s' with heap := ha } := by
          rw [fr]
          refine HandSPX.setFlight_upZ fa fun hb hhb ub => wpAny_throw (tk _ _ ?_)
          exact ⟨x, B, sI, pins, σ2, H2, k, d, rfl, Jb, nb, (up.trans ua).trans ub, .inr (.inr (by rw [st]; exact hhb)), nx2, os, ag, w2⟩
        first
          | exact wpAny_bind (wpAny_pure (wpAny_bind fin))
          | exact wpAny_bind fin
      | @cons y c u b bs p1 p2 hd3 l3 hc hu r ih =>
        intro w2
        obtain ⟨bb, e1, yes, no⟩ := w2
        refine wpAny_handleBy_cons (codeAny_handlers_test ?_) (by intro q; cases q)
        have LA : PySem.W.Looks (model X.prog X.w) ha (typeOf (.ref x)) k := fun A Q E s k2 q => wpAny_typeOf_ref (k2 _ _ ea) (by rw [za.1]; exact q)
        have LB := PySem.W.exm_one (M := model X.prog X.w) Jc.kIn LA e1
        have tst : ∀ {Q E : Value → Shared → Prop}, Q c { s' with heap := ha } → wpAny (model X.prog X.w) (X.A.mark (some (.ref x))) (eval (.Name y p1) X.env) Q E { s' with heap := ha } := fun {Q E} q => by
          obtain ⟨g1, g2, g3 | ⟨g3, g4, g5⟩⟩ := hc
          · exact ld_glob (X := X.suite x ((x, oa) :: (X.pn ++ pins))) Sa g1 g3 q g2
          · exact ld_blt (X := X.suite x ((x, oa) :: (X.pn ++ pins))) Sa g1 g3 g4 q g5 g2
        refine tst (LB.here ?_)
        cases bb with
        | true =>
          refine codeAny_handlers_suite_as ?_
          refine HandSPX.lands_againZ fa fun hb fb ub => ?_
          have Jd : Inv X pins σ2 H2 { s' with heap := hb } := Jb.landed nb fb.1 ((up.trans ua).trans ub) os ag
          obtain ⟨ob, vb, eb, zb, db⟩ := fb.there
          have Sb := Jd.suite eb db nx2 nla nfs
          refine store_ok (X := X.suite x ((x, ob) :: (X.pn ++ pins))) (v := .ref x) Sb nd at_ hl2 rfl (fun s5 Sc => ?_) (.inr lo)
          refine wpAny_mono ((hu x ob k d (X.pn ++ pins) zb ⟨_, db⟩).run [] s5 _ H2 _ Sc (yes rfl x nx2)) (fun f s6 hs6 => ?_) (fun _ _ z => z.elim)
          have fin : ∀ {σ6 : L2.St} {H6 : Hp} {Q : Shared → Prop}, Inv (X.suite x ((x, ob) :: (X.pn ++ pins))) [] σ6 H6 s6 → (∀ s7, Inv X pins (σ6.set i none) H6 s7 → Q s7) →
              wpAny (model X.prog X.w) X.A (do bindName X.env n .none; unbindBehindTheSuite X.env n p2) (fun _ s7 => Q s7) X.xe s6 := fun {σ6 H6 Q} Sd hq => gone_ok (Sd.unsuite kk) nd at_ lo hq
          cases f with
          | next =>
            obtain ⟨_, _, Sd, q6⟩ := hs6
            exact fin Sd fun s7 Je => ⟨_, _, Je, q6⟩
          | brk =>
            obtain ⟨_, _, Sd, q6⟩ := hs6
            exact fin Sd fun s7 Je => ⟨_, _, Je, q6⟩
          | cont =>
            obtain ⟨_, _, Sd, q6⟩ := hs6
            exact fin Sd fun s7 Je => ⟨_, _, Je, q6⟩
          | ret u6 =>
            obtain ⟨_, _, _, Sd, r6, q6⟩ := hs6
            exact fin Sd fun s7 Je => ⟨_, _, _, Je, r6, q6⟩
        | false =>
          show wpAny _ X.A (handleBy (.ref x) X.env hd3) _ _ _
          exact ih (no rfl)
    exact go hh w
  · cases f with
    | next =>
      obtain ⟨_, _, Je, q⟩ := hsp
      exact wpAny_execs_nil ⟨_, _, Je.ofTry kk, q⟩
    | brk =>
      obtain ⟨_, _, Je, q⟩ := hsp
      exact ⟨_, _, Je.ofTry kk, q⟩
    | cont =>
      obtain ⟨_, _, Je, q⟩ := hsp
      exact ⟨_, _, Je.ofTry kk, q⟩
    | ret u6 =>
      obtain ⟨_, _, _, Je, r, q⟩ := hsp
      exact ⟨_, _, _, Je.ofTry kk, r, q⟩
/-- a suite that is read only where what it caught is of a known class -/
theorem pss_known {X : Cx} {bs : List Stmt} {D : Addr} {k : Value} {d : Option Addr} {t : TS} (h : k = .ref D → d = none → PSs X bs t) : PSs X bs (fun E σ H => k = .ref D ∧ d = none ∧ t E σ H) :=
  ⟨fun pins s σ H E I q => (h q.1 q.2.1).run pins s σ H E I q.2.2⟩
end
end Vw

set_option Elab.async false
set_option linter.all false
set_option maxRecDepth 100000
set_option maxHeartbeats 4000000
namespace Vw
open PySem PySem.Spec PyProof.Rows L2 RT
/-! ### list.count, flat items -/
def rCntF (K : PySem.W.Frag) : V → List V → Hp → VK → Prop := fun x xs H Q => ∃ (a : Addr) (ys : List V) (y : V), x = .ref a ∧ xs = [y] ∧ SqL K H a ys ∧ flatV y = true ∧ ys.all flatV = true ∧ Q (.int (ys.countP fun z => eqV z y : Nat)) H
theorem eqU_count {y : V} (fy : flatV y = true) : ∀ {ys : List V} {its : List Value}, Vals ys its → ys.all flatV = true → its.countP (eqU y) = ys.countP fun z => eqV z y
  | [], _, h, _ => by cases h; rfl
  | z :: zs, _, h, f => by
    cases h with
    | cons r rr =>
      rw [List.all_cons, Bool.and_eq_true] at f
      rw [List.countP_cons, List.countP_cons, eqU_count fy rr f.2, eqU_of r f.1]
theorem mt_cntF {X : Cx} : MtR X "list.count" (rCntF X.K) := by
  intro pins s σ H x xs v us Q I rx rxs h
  obtain ⟨a, ys, y, rfl, rfl, hs, fy, fys, q⟩ := h
  cases rx
  cases rxs with
  | cons ry rt =>
    rename_i uy ut
    cases rt
    obtain ⟨its, rv, ⟨⟨cls, dd, data, sl⟩, n, ho, hc, hdn, hd⟩, hlen⟩ := I.list hs
    simp only at hc hd
    subst hc hd
    refine call_meets PySem.F.slot_list_count ⟨_, ho, rfl⟩ PySem.F.entry_list_count (PySem.F.args_list_count_2 _ _) (SeqAt.list_countAt a its.toArray n dd sl uy (eqU y)) ⟨ho, fun u hu => mem_eqAt ry fy rv fys u (by simpa using hu), ?_⟩
    have ec : its.toArray.toList.countP (eqU y) = ys.countP fun z => eqV z y := eqU_count fy rv fys
    refine ⟨.int (ys.countP fun z => eqV z y : Nat), H, I.tok _, ⟨s.toks, ?_⟩, q⟩
    show Value.int ((its.toArray.toList.countP (eqU y) : Nat) : Int) s.toks = _
    rw [ec]
theorem o_cntF {K : PySem.W.Frag} {a : Addr} {H : Hp} {Q : VK} {ys : List V} {y : V} (h : SqL K H a ys) (f : flatV y = true) (g : ys.all flatV = true) (q : Q (.int (ys.countP fun z => eqV z y : Nat)) H) : rCntF K (.ref a) [y] H Q := ⟨a, ys, y, rfl, rfl, h, f, g, q⟩
end Vw

set_option Elab.async false
set_option linter.all false
set_option maxRecDepth 100000
set_option maxHeartbeats 4000000
namespace Vw
open PySem PySem.Spec PyProof.Rows L2 RT
/-! ### a tuple so many times, up to 2000 -/
def rTimesT (K : PySem.W.Frag) : R2 := fun x y H Q => ∃ (a : Addr) (n : Nat) (xs : List V), x = .ref a ∧ y = .int n ∧ SqT K H a xs ∧ xs ≠ [] ∧ 2 ≤ n ∧ n ≤ 2000 ∧ xs.length ≤ 40 ∧ ∀ p, H p = none → Q (.ref p) (upd H p (.tup (List.replicate n xs).flatten))
theorem times_len {α : Type} {xs : List α} {n : Nat} (h : n ≤ 2000) (h2 : xs.length ≤ 40) : (List.replicate n xs).flatten.length ≤ sizeLine := by
  rw [PyProof.Rows.lm_len_rep_flat]
  exact Nat.le_trans (Nat.mul_le_mul h h2) (by decide)
theorem op_timesT {X : Cx} : OpR X (binaryOp .Mult) (rTimesT X.K) := by
  intro pins st σ H x y v u Q I rx ry ⟨a, n, xs, ex, ey, hT, hne, h2, hn, hz, q⟩
  subst ex ey
  cases rx
  obtain ⟨tk, rfl⟩ := ry
  obtain ⟨its, r, ⟨ob, ho, hc, m, hd⟩, hs⟩ := I.tuple hT
  obtain ⟨cls, dd, data, sl⟩ := ob
  have hc : cls = .type "tuple" := hc
  have hd : data = .seq its.toArray m := hd
  subst hc hd
  have ln : its.length = xs.length := r.length.symm
  have pos : 0 < its.length := by rw [ln]; exact List.length_pos_iff.mpr hne
  have em : its.toArray.isEmpty = false := by rw [List.isEmpty_toArray]; cases its with
    | nil => cases pos
    | cons _ _ => rfl
  have sz : its.toArray.size = xs.length := by rw [List.size_toArray, ln]
  have pm : ((its.toArray.size : Nat) : Int) * (n : Int) ≤ 80000 := by
    rw [sz, ← Int.natCast_mul]
    have := Nat.mul_le_mul hz hn
    omega
  have nn : ((n : Nat) : Int).toNat = n := Int.toNat_natCast n
  have tm : Builtin.Tuple.tupleTooMany (((its.toArray.size : Nat) : Int) * (n : Int)) = false := by
    have e : (80000 : Int) < (sizeLine : Nat) := by decide
    unfold Builtin.Tuple.tupleTooMany; exact decide_eq_false (by omega)
  have b0 : (decide ((n : Int) < -(2 ^ 63)) || decide ((n : Int) ≥ 2 ^ 63)) = false := by
    rw [Bool.or_eq_false_iff]; exact ⟨decide_eq_false (by omega), decide_eq_false (by omega)⟩
  have b1 : (its.toArray.isEmpty || (n : Int) == 1) = false := by
    rw [em, Bool.false_or, beq_eq_false_iff_ne]; omega
  have b2 : (decide ((n : Int) ≤ 0) || its.toArray.isEmpty) = false := by
    rw [em, Bool.or_false]; exact decide_eq_false (by omega)
  have fl := size_rep its n
  have road := tuple_mulW a its.toArray m dd sl (n : Int) tk b0 b1 b2 (by omega) tm (by rw [nn, fl, List.size_toArray]; exact times_len hn (by omega))
  have fin : EP X pins σ Q (.ref st.heap.objs.size) { st with heap := st.heap.push { cls := Value.type "tuple", data := Data.seq (List.replicate n its).flatten.toArray }, toks := st.toks } :=
    ⟨.ref st.heap.objs.size, _, I.laid (t' := st.toks) (o := .tup (List.replicate n xs).flatten) (fun _ _ g => Heap.get?_push_of_some _ g) (Nat.le_refl _) ⟨times_len hn hz, _, r.rep n, IsTup.new _ _⟩, rfl, q _ (I.hok.fresh (Nat.le_refl _))⟩
  exact wpAny_binaryOp_repeat_ref (T := "tuple") (U := "int") (by decide) ⟨_, ho, rfl⟩ (fun s' => typeIs_int s' (n : Int) tk) noFill_tuple_mul F.fills_int_mul F.slot_int_rmul repeat_tuple F.slot_int_index.lookup
    (call_meets F.slot_int_rmul (typeIs_int st (n : Int) tk) F.entry_int_rmul (F.args_int_rmul_2 _ _) (int_rmul_tuple (n : Int) tk a its.toArray m dd sl) ⟨ho, rfl, ⟨_, ho, rfl⟩,
      call_meets F.slot_tuple_mul ⟨_, ho, rfl⟩ F.entry_tuple_mul (F.args_tuple_mul_2 _ _) road ⟨ho, by rw [nn, fl]; exact fin⟩⟩)
theorem oTimesT {K : PySem.W.Frag} {X : Cx} (e : X.K = K := by rfl) : OpR X (binaryOp .Mult) (rTimesT K) := by cases e; exact op_timesT
section
variable {K : PySem.W.Frag} {H : Hp} {Q : VK}
theorem o_times {a : Addr} {n : Nat} {xs : List V} {i : Int} (h : SqT K H a xs) (ne : xs ≠ []) (e : i = (n : Nat)) (h2 : 2 ≤ n) (hn : n ≤ 2000) (hz : xs.length ≤ 40) (q : ∀ p H2, H p = none → Same H H2 → H2 p = some (.tup (List.replicate n xs).flatten) → Q (.ref p) H2) : rTimesT K (.ref a) (.int i) H Q :=
  ⟨a, n, xs, rfl, by rw [e], h, ne, h2, hn, hz, fun p np => q p _ np (Same.new np) upd_same⟩
end
end Vw

set_option Elab.async false
set_option linter.all false
set_option maxRecDepth 100000
set_option maxHeartbeats 4000000
namespace Vw
open PySem PySem.Spec PyProof.Rows L2 RT
/-! ### a tuple no times -/
theorem mul0_road (a : Addr) (its : Array Value) (m : Nat) (od : Option Addr) (sl : Array (Option Value)) (k : Tok) (e1 : (its.isEmpty || (0 : Int) == 1) = false) :
    Meets (Builtin.«tuple.__mul__» ⟨[.ref a, .int 0 k], []⟩) (fun _ R s => s.heap.get? a = some { cls := .type "tuple", dict := od, data := .seq its m, slots := sl } ∧
      R (.ok (.ret (Value.ref s.heap.objs.size))) { s with heap := s.heap.push { cls := Value.type "tuple", data := Data.seq #[] } }) :=
  .of_wp fun prog w A R s h => by
    obtain ⟨hp, gl, dd, tk, os⟩ := s
    obtain ⟨hl, h⟩ := h
    have f1 := AutoSeq1.idx_int
    wp_walk using wpAny_loadPart' hl
    repeat (first
      | (refine wpAny_ite_false (by decide) ?_; wp_walk using wpAny_loadPart' hl)
      | (refine wpAny_ite_false (decide_eq_false (by rw [e1]; decide)) ?_; wp_walk using wpAny_loadPart' hl)
      | (refine wpAny_ite_true (by decide) ?_; wp_walk using wpAny_loadPart' hl)
      | (refine wpAny_ite_true (by simp) ?_; wp_walk using wpAny_loadPart' hl))
    exact ⟨_, rfl, h⟩
def rNoTimes (K : PySem.W.Frag) : R2 := fun x y H Q => ∃ (a : Addr) (xs : List V), x = .ref a ∧ y = .int 0 ∧ SqT K H a xs ∧ xs ≠ [] ∧ ∀ p, H p = none → Q (.ref p) (upd H p (.tup []))
theorem op_noTimes {X : Cx} : OpR X (binaryOp .Mult) (rNoTimes X.K) := by
  intro pins st σ H x y v u Q I rx ry ⟨a, xs, ex, ey, hT, hne, q⟩
  subst ex ey
  cases rx
  obtain ⟨tk, rfl⟩ := ry
  obtain ⟨its, r, ⟨ob, ho, hc, m, hd⟩, hs⟩ := I.tuple hT
  obtain ⟨cls, dd, data, sl⟩ := ob
  have hc : cls = .type "tuple" := hc
  have hd : data = .seq its.toArray m := hd
  subst hc hd
  have ln : its.length = xs.length := r.length.symm
  have pos : 0 < its.length := by rw [ln]; exact List.length_pos_iff.mpr hne
  have em : its.toArray.isEmpty = false := by rw [List.isEmpty_toArray]; cases its with
    | nil => cases pos
    | cons _ _ => rfl
  have fin : EP X pins σ Q (.ref st.heap.objs.size) { st with heap := st.heap.push { cls := Value.type "tuple", data := Data.seq #[] } } :=
    ⟨.ref st.heap.objs.size, _, I.laid (t' := st.toks) (o := .tup []) (fun _ _ g => Heap.get?_push_of_some _ g) (Nat.le_refl _) ⟨Nat.zero_le _, [], .nil, IsTup.new _ _⟩, rfl, q _ (I.hok.fresh (Nat.le_refl _))⟩
  exact wpAny_binaryOp_repeat_ref (T := "tuple") (U := "int") (by decide) ⟨_, ho, rfl⟩ (fun s' => typeIs_int s' 0 tk) noFill_tuple_mul F.fills_int_mul F.slot_int_rmul repeat_tuple F.slot_int_index.lookup
    (call_meets F.slot_int_rmul (typeIs_int st 0 tk) F.entry_int_rmul (F.args_int_rmul_2 _ _) (int_rmul_tuple 0 tk a its.toArray m dd sl) ⟨ho, rfl, ⟨_, ho, rfl⟩,
      call_meets F.slot_tuple_mul ⟨_, ho, rfl⟩ F.entry_tuple_mul (F.args_tuple_mul_2 _ _) (mul0_road a its.toArray m dd sl tk (by rw [em]; rfl)) ⟨ho, fin⟩⟩)
theorem oMulA {K : PySem.W.Frag} {X : Cx} (e : X.K = K := by rfl) : OpR X (binaryOp .Mult) (rOr rIMul (rOr (rTimesT K) (rNoTimes K))) := by cases e; exact oOr op_mul (oOr op_timesT op_noTimes)
section
variable {K : PySem.W.Frag} {H : Hp} {Q : VK}
/-- so many times, none too -/
theorem o_timesA {r : R2} {a : Addr} {n : Nat} {xs : List V} {i : Int} (h : SqT K H a xs) (ne : xs ≠ []) (e : i = (n : Nat)) (h2 : n = 0 ∨ 2 ≤ n) (hn : n ≤ 2000) (hz : xs.length ≤ 40) (q : ∀ p H2, H p = none → Same H H2 → H2 p = some (.tup (List.replicate n xs).flatten) → Q (.ref p) H2) : rOr r (rOr (rTimesT K) (rNoTimes K)) (.ref a) (.int i) H Q := by
  rcases h2 with rfl | h2
  · exact .inr (.inr ⟨a, xs, rfl, by rw [e]; rfl, h, ne, fun p np => q p _ np (Same.new np) upd_same⟩)
  · exact .inr (.inl (o_times h ne e h2 hn hz q))
end
end Vw

set_option Elab.async false
set_option linter.all false
set_option maxRecDepth 100000
set_option maxHeartbeats 4000000
namespace Vw
open PySem PySem.Spec PyProof.Rows L2 RT
/-! ### a tuple so many times, none and once too -/
theorem mul1_road (a : Addr) (its : Array Value) (m : Nat) (od : Option Addr) (sl : Array (Option Value)) (k : Tok) (e1 : (its.isEmpty || (1 : Int) == 1) = true) :
    Meets (Builtin.«tuple.__mul__» ⟨[.ref a, .int 1 k], []⟩) (fun _ R s => s.heap.get? a = some { cls := .type "tuple", dict := od, data := .seq its m, slots := sl } ∧
      R (.ok (.ret (Value.ref a))) s) :=
  .of_wp fun prog w A R s h => by
    obtain ⟨hp, gl, dd, tk, os⟩ := s
    obtain ⟨hl, h⟩ := h
    have f1 := AutoSeq1.idx_int
    wp_walk using wpAny_loadPart' hl
    repeat (first
      | (refine wpAny_ite_false (by decide) ?_; wp_walk using wpAny_loadPart' hl)
      | (refine wpAny_ite_true (by rw [e1]) ?_; wp_walk using wpAny_loadPart' hl)
      | (refine wpAny_ite_true (decide_eq_true (by rw [e1])) ?_; wp_walk using wpAny_loadPart' hl)
      | (refine wpAny_ite_true (by decide) ?_; wp_walk using wpAny_loadPart' hl)
      | (refine wpAny_ite_true (by simp) ?_; wp_walk using wpAny_loadPart' hl))
    exact ⟨_, rfl, h⟩
def rOnce (K : PySem.W.Frag) : R2 := fun x y H Q => ∃ (a : Addr) (xs : List V), x = .ref a ∧ y = .int 1 ∧ SqT K H a xs ∧ xs ≠ [] ∧ Q (.ref a) H
theorem op_once {X : Cx} : OpR X (binaryOp .Mult) (rOnce X.K) := by
  intro pins st σ H x y v u Q I rx ry ⟨a, xs, ex, ey, hT, hne, q⟩
  subst ex ey
  cases rx
  obtain ⟨tk, rfl⟩ := ry
  obtain ⟨its, r, ⟨ob, ho, hc, m, hd⟩, hs⟩ := I.tuple hT
  obtain ⟨cls, dd, data, sl⟩ := ob
  have hc : cls = .type "tuple" := hc
  have hd : data = .seq its.toArray m := hd
  subst hc hd
  have fin : EP X pins σ Q (.ref a) st := ⟨.ref a, _, I, rfl, q⟩
  exact wpAny_binaryOp_repeat_ref (T := "tuple") (U := "int") (by decide) ⟨_, ho, rfl⟩ (fun s' => typeIs_int s' 1 tk) noFill_tuple_mul F.fills_int_mul F.slot_int_rmul repeat_tuple F.slot_int_index.lookup
    (call_meets F.slot_int_rmul (typeIs_int st 1 tk) F.entry_int_rmul (F.args_int_rmul_2 _ _) (int_rmul_tuple 1 tk a its.toArray m dd sl) ⟨ho, rfl, ⟨_, ho, rfl⟩,
      call_meets F.slot_tuple_mul ⟨_, ho, rfl⟩ F.entry_tuple_mul (F.args_tuple_mul_2 _ _) (mul1_road a its.toArray m dd sl tk (by simp)) ⟨ho, fin⟩⟩)
def rTimesW (K : PySem.W.Frag) : R2 := fun x y H Q => ∃ (a : Addr) (n : Nat) (xs : List V), x = .ref a ∧ y = .int n ∧ SqT K H a xs ∧ xs ≠ [] ∧ 2 ≤ n ∧ n ≤ 8000 ∧ xs.length ≤ 8 ∧ ∀ p, H p = none → Q (.ref p) (upd H p (.tup (List.replicate n xs).flatten))
theorem timesW_len {α : Type} {xs : List α} {n : Nat} (h : n ≤ 8000) (h2 : xs.length ≤ 8) : (List.replicate n xs).flatten.length ≤ sizeLine := by
  rw [PyProof.Rows.lm_len_rep_flat]
  exact Nat.le_trans (Nat.mul_le_mul h h2) (by decide)
theorem op_timesW {X : Cx} : OpR X (binaryOp .Mult) (rTimesW X.K) := by
  intro pins st σ H x y v u Q I rx ry ⟨a, n, xs, ex, ey, hT, hne, h2, hn, hz, q⟩
  subst ex ey
  cases rx
  obtain ⟨tk, rfl⟩ := ry
  obtain ⟨its, r, ⟨ob, ho, hc, m, hd⟩, hs⟩ := I.tuple hT
  obtain ⟨cls, dd, data, sl⟩ := ob
  have hc : cls = .type "tuple" := hc
  have hd : data = .seq its.toArray m := hd
  subst hc hd
  have ln : its.length = xs.length := r.length.symm
  have pos : 0 < its.length := by rw [ln]; exact List.length_pos_iff.mpr hne
  have em : its.toArray.isEmpty = false := by rw [List.isEmpty_toArray]; cases its with
    | nil => cases pos
    | cons _ _ => rfl
  have sz : its.toArray.size = xs.length := by rw [List.size_toArray, ln]
  have pm : ((its.toArray.size : Nat) : Int) * (n : Int) ≤ 64000 := by
    rw [sz, ← Int.natCast_mul]
    have := Nat.mul_le_mul hz hn
    omega
  have nn : ((n : Nat) : Int).toNat = n := Int.toNat_natCast n
  have tm : Builtin.Tuple.tupleTooMany (((its.toArray.size : Nat) : Int) * (n : Int)) = false := by
    have e : (64000 : Int) < (sizeLine : Nat) := by decide
    unfold Builtin.Tuple.tupleTooMany; exact decide_eq_false (by omega)
  have b0 : (decide ((n : Int) < -(2 ^ 63)) || decide ((n : Int) ≥ 2 ^ 63)) = false := by
    rw [Bool.or_eq_false_iff]; exact ⟨decide_eq_false (by omega), decide_eq_false (by omega)⟩
  have b1 : (its.toArray.isEmpty || (n : Int) == 1) = false := by
    rw [em, Bool.false_or, beq_eq_false_iff_ne]; omega
  have b2 : (decide ((n : Int) ≤ 0) || its.toArray.isEmpty) = false := by
    rw [em, Bool.or_false]; exact decide_eq_false (by omega)
  have fl := size_rep its n
  have road := tuple_mulW a its.toArray m dd sl (n : Int) tk b0 b1 b2 (by omega) tm (by rw [nn, fl, List.size_toArray]; exact timesW_len hn (by omega))
  have fin : EP X pins σ Q (.ref st.heap.objs.size) { st with heap := st.heap.push { cls := Value.type "tuple", data := Data.seq (List.replicate n its).flatten.toArray }, toks := st.toks } :=
    ⟨.ref st.heap.objs.size, _, I.laid (t' := st.toks) (o := .tup (List.replicate n xs).flatten) (fun _ _ g => Heap.get?_push_of_some _ g) (Nat.le_refl _) ⟨timesW_len hn hz, _, r.rep n, IsTup.new _ _⟩, rfl, q _ (I.hok.fresh (Nat.le_refl _))⟩
  exact wpAny_binaryOp_repeat_ref (T := "tuple") (U := "int") (by decide) ⟨_, ho, rfl⟩ (fun s' => typeIs_int s' (n : Int) tk) noFill_tuple_mul F.fills_int_mul F.slot_int_rmul repeat_tuple F.slot_int_index.lookup
    (call_meets F.slot_int_rmul (typeIs_int st (n : Int) tk) F.entry_int_rmul (F.args_int_rmul_2 _ _) (int_rmul_tuple (n : Int) tk a its.toArray m dd sl) ⟨ho, rfl, ⟨_, ho, rfl⟩,
      call_meets F.slot_tuple_mul ⟨_, ho, rfl⟩ F.entry_tuple_mul (F.args_tuple_mul_2 _ _) road ⟨ho, by rw [nn, fl]; exact fin⟩⟩)
abbrev rTimesV (K : PySem.W.Frag) : R2 := rOr (rTimesW K) (rOr (rOnce K) (rNoTimes K))
theorem oTimesV {K : PySem.W.Frag} {X : Cx} (e : X.K = K := by rfl) : OpR X (binaryOp .Mult) (rTimesV K) := by cases e; exact oOr op_timesW (oOr op_once op_noTimes)
section
variable {K : PySem.W.Frag} {H : Hp} {Q : VK}
theorem o_timesV {a : Addr} {n : Nat} {xs : List V} {i : Int} (h : SqT K H a xs) (ne : xs ≠ []) (e : i = (n : Nat)) (hn : n ≤ 8000) (hz : xs.length ≤ 8) (q : ∀ p H2, Same H H2 → SqT K H2 p (List.replicate n xs).flatten → Q (.ref p) H2) : rTimesV K (.ref a) (.int i) H Q := by
  rcases (show n = 0 ∨ n = 1 ∨ 2 ≤ n by omega) with rfl | rfl | h2
  · exact .inr (.inr ⟨a, xs, rfl, by rw [e]; rfl, h, ne, fun p np => q p _ (Same.new np) (stO upd_same)⟩)
  · exact .inr (.inl ⟨a, xs, rfl, by rw [e]; rfl, h, ne, q a H (Same.refl _) (by simpa using h)⟩)
  · exact .inl ⟨a, n, xs, rfl, by rw [e], h, ne, h2, hn, hz, fun p np => q p _ (Same.new np) (stO upd_same)⟩
end
end Vw

set_option Elab.async false
set_option linter.all false
set_option maxRecDepth 100000
set_option maxHeartbeats 4000000
namespace Vw
open PySem PySem.Spec PyProof.Rows L2 RT
/-! ### o.f as one of several targets -/
def gFld (K : PySem.W.Frag) (to : TE) (f : Str) : TG := fun v σ H Q => to σ H fun x H1 => ∃ a C dx fs, x = .ref a ∧ H1 a = some (.ins C dx fs) ∧ Cls K C ∧ NoAttr K C f ∧ fs.length < 1000 ∧ Q σ (upd H1 a (.ins C dx (putF f v fs)))
section
variable {X : Cx} {o : Expr} {to : TE} {f : Str} {pos : Pos}
theorem pg_fld (ho : PE X o to) (ha : ∀ v, assign (.Attribute o f pos) X.env v = (do
      let ov ← holding [v] (eval o X.env)
      standAt pos.atName
      holding [v, ov] (setAttr ov f v)
      release [v, ov] []) := by intro _; rfl) : PG X (.Attribute o f pos) (gFld X.K to f) := by
  refine ⟨fun pins s σ H v u Q I r h => ?_⟩
  rw [ha]
  refine wpAny_bind (wpAny_holding (thn (ho.run pins s σ H _ I h) fun ov s1 ⟨x, H1, I1, r1, a, C, dx, fs, ex, ea, c, n, l, q1⟩ => ?_))
  subst ex
  obtain rfl : ov = Value.ref a := r1
  refine wpAny_bind (wpAny_standAt (wpAny_bind (wpAny_holding ?_)))
  exact setattr_ok I1 ea c n l r fun s3 I3 => wpAny_release ⟨σ, _, I3, q1⟩
end
theorem pgFld {X : Cx} {K : PySem.W.Frag} {o : Expr} {to : TE} {f : Str} {pos : Pos} (ho : PE X o to) (eK : X.K = K := by rfl) (ha : ∀ v, assign (.Attribute o f pos) X.env v = (do
      let ov ← holding [v] (eval o X.env)
      standAt pos.atName
      holding [v, ov] (setAttr ov f v)
      release [v, ov] []) := by intro _; rfl) : PG X (.Attribute o f pos) (gFld K to f) := by cases eK; exact pg_fld ho ha
end Vw
namespace Vw
open PySem PySem.Spec PyProof.Rows L2 RT
/-! ### list.extend of a list -/
theorem list_extend_lst (l : Addr) (items : Array Value) (n : Nat) (b : Addr) (items2 : Array Value) (n2 : Nat) (hs0 : ¬(!items.isEmpty && Builtin.List.listTooLong (items.size + items2.size)) = true) (hs1 : items.size ≤ sizeLine) (hs2 : items.size + items2.size ≤ sizeLine + 1) :
    Meets (Builtin.«list.extend» ⟨[.ref l, .ref b], []⟩) (fun _ R s => s.heap.get? l = some { cls := .type "list", dict := none, data := .seq items n, slots := #[] } ∧ s.heap.get? b = some { cls := .type "list", dict := none, data := .seq items2 n2, slots := #[] } ∧ R (.ok (.ret Value.none)) { s with heap := s.heap.update l (Obj.mapSeq fun x => x ++ items2), toks := s.toks }) :=
  .of_wp fun prog w A R s h => by
    obtain ⟨hp, g, d, tk, os⟩ := s; obtain ⟨hl, hb, h⟩ := h; have f1 := PySem.AutoSeq1.idx_int; have f2 := PySem.AutoSeq1.sub_tuple_tuple; have f3 := PySem.AutoSeq1.sub_list_list; have f4 := PySem.AutoSeq1.sub_tuple_list; have f5 := PySem.AutoSeq1.sub_list_tuple;
    have hz' : (items ++ items2).size ≤ sizeLine + 1 := by rw [Array.size_append]; exact hs2
    wp_walk using (wpAny_updateSeq hl rfl (hz := hs1) (_hz' := hz')), PySem.AutoSeq1.wpAny_loadPart' hl, PySem.AutoSeq1.wpAny_loadPart' hb; exact ⟨_, rfl, h⟩
def rExtL : V → List V → Hp → VK → Prop := fun x vs H Q => ∃ l b xs zs, x = .ref l ∧ vs = [.ref b] ∧ H l = some (.lst xs) ∧ H b = some (.lst zs) ∧ xs.length + zs.length ≤ sizeLine ∧ Q .non (upd H l (.lst (xs ++ zs)))
section
variable {X : Cx}
theorem mt_extL : MtM X "list.extend" rExtL := by
  intro pins s σ H x vs v us Q I rx rv h
  obtain ⟨l, b, xs, zs, rfl, rfl, hH, hB, hz, q⟩ := h
  cases rx
  obtain ⟨u, rfl, ru⟩ := rv.one
  cases ru
  obtain ⟨z, its, n, r, hl, e⟩ := I.lstM hH
  obtain ⟨z2, its2, n2, r2, hl2, e2⟩ := I.lstM hB
  have hl3 := r2.length
  have hsz : its.toArray.size + its2.toArray.size ≤ sizeLine := by rw [List.size_toArray, List.size_toArray]; omega
  have hlong : ¬ (!its.toArray.isEmpty && Builtin.List.listTooLong (its.toArray.size + its2.toArray.size)) = true := by
    rw [show Builtin.List.listTooLong (its.toArray.size + its2.toArray.size) = false from decide_eq_false (by omega), Bool.and_false]
    exact Bool.false_ne_true
  refine call_meets F.slot_list_extend ⟨_, e, rfl⟩ F.entry_list_extend (F.args_list_extend_2 _ _)
    (list_extend_lst l its.toArray n b its2.toArray n2 hlong (by rw [List.size_toArray]; omega) (by omega)) ⟨e, e2, ?_⟩
  refine ⟨.non, _, I.lset (its' := its ++ its2) hH e (by simp) (r.append r2) ?_, rfl, q⟩
  rw [List.length_append]
  omega
end
section
variable {K : PySem.W.Frag} {σ : L2.St} {H : Hp} {Q : VK} {l b : Addr} {xs zs : List V}
theorem r_extL (h : H l = some (.lst xs)) (hb : H b = some (.lst zs)) (hl : xs.length + zs.length < 100000) (q : ∀ H2, Oth l H H2 → H2 l = some (.lst (xs ++ zs)) → Q .non H2) : rExtL (.ref l) [.ref b] H Q :=
  ⟨l, b, xs, zs, rfl, rfl, h, hb, Nat.le_of_lt (lt_size hl), q _ (fun c o z e => by rw [upd_ne z]; exact e) upd_same⟩
end
end Vw

set_option Elab.async false
set_option linter.all false
set_option maxRecDepth 100000
set_option maxHeartbeats 4000000
namespace Vw
open PySem PySem.Spec PyProof.Rows L2 RT
/-! ### a text so many times -/
def repS (z : Str) (n : Nat) : Str := ⟨(List.replicate n z.cps).foldl (· ++ ·) #[]⟩
def rTimesS : R2 := fun x y H Q => ∃ (z : Str) (n : Nat), x = .str z ∧ y = .int n ∧ 1 ≤ z.length ∧ z.length ≤ 100 ∧ 2 ≤ n ∧ n ≤ 100 ∧ (repS z n).length ≤ sizeLine ∧ Q (.str (repS z n)) H
theorem op_timesS {X : Cx} : OpR X (binaryOp .Mult) rTimesS := by
  intro pins st σ H x y v u Q I rx ry ⟨z, n, ex, ey, h1, h2, h3, h4, h5, q⟩
  subst ex ey
  obtain ⟨tz, rfl⟩ := rx
  obtain ⟨tk, rfl⟩ := ry
  have b1 : ((n : Int) == 1 || z.length == 0) = false := by
    rw [Bool.or_eq_false_iff, beq_eq_false_iff_ne, beq_eq_false_iff_ne]; omega
  refine P.mul_str ?_ (fun _ _ => ?_) (fun _ _ => ?_) ?_
  · rw [Bool.or_eq_false_iff]; exact ⟨decide_eq_false (by omega), decide_eq_false (by omega)⟩
  · have : (2 ^ 63 - 1 : Int) / (n : Int) ≥ (2 ^ 63 - 1) / 100 := by
      refine Int.le_ediv_of_mul_le (by omega) ?_
      omega
    omega
  · rw [Int.toNat_natCast]
    have := Nat.mul_le_mul h2 h4
    exact decide_eq_false (by have e : (10000 : Nat) < sizeLine := by decide
                              omega)
  · rw [if_neg (by omega), if_neg (by rw [b1]; exact Bool.false_ne_true), Int.toNat_natCast]
    exact ⟨h5, ⟨.str (repS z n), H, I.tok _, ⟨_, rfl⟩, q⟩⟩
theorem oMulVS {K : PySem.W.Frag} {X : Cx} (e : X.K = K := by rfl) : OpR X (binaryOp .Mult) (rOr rTimesS (rTimesV K)) := oOr op_timesS (oTimesV e)
section
variable {K : PySem.W.Frag} {H : Hp} {Q : VK}
theorem o_timesS {z y : Str} {i : Int} {r : R2} (n : Nat) (e : i = (n : Nat)) (h1 : 1 ≤ z.length) (h2 : z.length ≤ 100) (h3 : 2 ≤ n) (h4 : n ≤ 100) (ey : repS z n = y) (hy : y.length ≤ sizeLine) (q : Q (.str y) H) : rOr rTimesS r (.str z) (.int i) H Q := by
  subst e ey
  exact .inl ⟨z, n, rfl, rfl, h1, h2, h3, h4, hy, q⟩
end
end Vw

set_option Elab.async false
set_option linter.all false
set_option maxRecDepth 100000
set_option maxHeartbeats 4000000
namespace Vw
open PySem PySem.Spec PyProof.Rows L2 RT
/-! ### what is never reached -/
section
variable {X : Cx}
theorem pe_no {e : Expr} : PE X e (fun _ _ _ => False) := ⟨fun _ _ _ _ _ _ h => h.elim⟩
theorem pt_no {e : Expr} : PT X e (fun _ _ _ => False) := ⟨fun _ _ _ _ _ _ h => h.elim⟩
theorem ps_no {st : Stmt} : PS X st (fun _ _ _ => False) := ⟨fun _ _ _ _ _ _ h => h.elim⟩
theorem pg_no {tg : Expr} : PG X tg (fun _ _ _ _ => False) := ⟨fun _ _ _ _ _ _ _ _ _ h => h.elim⟩
theorem pss_no {st : List Stmt} : PSs X st (fun _ _ _ => False) := ⟨fun _ _ _ _ _ _ h => h.elim⟩
end
/-! ### a comprehension of several clauses over nothing -/
section
variable {prog : Program} {w : World} {A : Around} {R : Result → Shared → Prop} {s : Shared} {elt tg iter : Expr} {ifs : List Expr} {rest : List Comprehension} {scope : Scope} {pos : Pos} {it acc : Value} {env : Env}
theorem compEnds (h : wpAny (model prog w) A (pyNext it) (fun r s1 => r = none ∧ R (.ok .next) s1) (fun _ _ => False) s) :
    codeAny (model prog w) A (.compLoop (.ListComp elt (⟨tg, iter, ifs, 0⟩ :: rest) scope pos) 0 it acc env) R s := by
  refine codeAny_of_tree ?_
  show wpAny _ A ((compTurn (.ListComp elt (⟨tg, iter, ifs, 0⟩ :: rest) scope pos) 0 it acc env).onRaise (fun x => do noteFrame x env; theTreesLotGoes x)) _ _ s
  refine wpAny_noted ?_
  unfold compTurn
  refine wpAny_bind (wpAny_standAt (wpAny_bind (wpAny_mono h (fun r s1 h1 => ?_) fun _ _ z => z.elim)))
  obtain ⟨rfl, h1⟩ := h1
  exact wpAny_pure h1
end
section
variable {X : Cx}
def tLcE (wi : TI) : TE := fun σ H Q => wi σ H fun J H1 => ∀ D, H1 D = none → J.stop 0 (upd H1 D (.lst [])) ∧ Q (.ref D) (upd H1 D (.lst []))
theorem pe_lcE {elt tg iter : Expr} {ifs : List Expr} {rest : List Comprehension} {scope : Scope} {own : List (Str × Nat)} {pos : Pos} {wi : TI} (hc : X.calm = true) (hN : X.N.Nodup) (hi : PI X tg iter wi) (ok : BlkOk X.N X.env.scope scope own)
    (hs : ∀ x, foldedSetIterable iter X.env x = pure x := by intro _; rfl) : PE X (.ListComp elt (⟨tg, iter, ifs, 0⟩ :: rest) scope pos) (tLcE wi) := by
  refine ⟨fun pins s σ H Q I h => ?_⟩
  rw [eval_ListComp]
  have frees : ∀ z ∈ scope.names, z.2 = .free → ∃ c, X.env.cells.lookup z.1 = some c := fun z hz e => (ok.free z hz e).elim (fun k => I.ok.has _ (.inl k)) fun k => I.ok.has _ (.inr k)
  refine wpAny_comprehension_free (use := none) rfl hs (closure_ok frees) ok.kind (fun z hz e => by rw [ok.uniq z hz, e]) (thn (hi.run pins s σ H _ I h) fun xv s1 hx => thn hx fun itv s2 h2 => ?_)
  obtain ⟨it, fp, tn, J, H2, e, I2, T, st2, f2, q⟩ := h2
  subst e
  refine wpAny_newObj_type (newEnv_comp ?_) (by show 0 ≤ sizeLine; decide)
  generalize hD : s2.heap.objs.size = D
  have nD : H2 D = none := I2.hok.fresh (Nat.le_of_eq hD)
  obtain ⟨stop, qq⟩ := q D nD
  generalize hs3 : ({ s2 with heap := s2.heap.push { cls := .type "list", data := .seq ([] : List Value).toArray } } : Shared) = s3
  have I3 : Inv X pins σ (upd H2 D (.lst [])) s3 := by
    rw [← hs3]
    refine I2.laid (t' := s2.toks) (fun b o e => Heap.get?_push_of_some _ e) (Nat.le_of_eq hD) ⟨Nat.zero_le _, [], 0, .nil, ?_⟩
    rw [← hD]; exact Heap.get?_push_size _ rfl
  have h3 : s3.heap = s2.heap.push { cls := .type "list", data := .seq ([] : List Value).toArray } := by rw [← hs3]
  have old : ∀ b ∈ fp, b < s2.heap.objs.size := fun b hb => (T.obj _ _ st2 b hb).elim fun o e => Heap.lt_size e.1
  have f3 : ∀ b ∈ fp, FpOk X pins (upd H2 D (.lst [])) b ∧ b < s3.heap.objs.size := fun b hb => by
    have l := old b hb
    have nb : upd H2 D (.lst []) b = none := by
      rw [upd_ne (by rw [← hD]; exact Nat.ne_of_lt l)]; exact (f2 b hb).1
    exact ⟨⟨nb, (f2 b hb).2⟩, by rw [h3, Heap.size_push]; exact Nat.lt_succ_of_lt l⟩
  have st3 : tn 0 s3.heap := T.keep _ _ _ st2 fun b _ o e => by rw [h3]; exact Heap.get?_push_of_some _ e
  have I4 := block_start I3 ok hN f3
  show codeAny _ _ (.compStart (.ListComp elt (⟨tg, iter, ifs, 0⟩ :: rest) scope pos) 0 (.ref it) (.ref D) (compEnvC scope (cellsFrom (s3.heap.objs.size + 1) scope.names (cloFrom X.env.cells scope.names [])) s3.heap.objs.size X.env)) (compPost (model X.prog X.w) X.A X.xe none _ (.ref D) s3.heap.objs.size) { s3 with heap := pushCells (s3.heap.push { cls := .type "dict", data := .dict #[] }) scope.names }
  have none3 : ∀ b ∈ fp, (upd H2 D (.lst [])) b = none := fun b hb => (f3 b hb).1.1
  generalize hce : compEnvC scope (cellsFrom (s3.heap.objs.size + 1) scope.names (cloFrom X.env.cells scope.names [])) s3.heap.objs.size X.env = ce at I4 ⊢
  have cL : ce.locals = s3.heap.objs.size := by subst hce; rfl
  generalize hH3 : upd H2 D (.lst []) = H3 at I3 I4 none3 f3 stop qq
  generalize hs4 : ({ s3 with heap := pushCells (s3.heap.push { cls := .type "dict", data := .dict #[] }) scope.names } : Shared) = s4 at I4 ⊢
  have st4 : tn 0 s4.heap := T.keep _ _ _ st3 fun b _ o e => by rw [← hs4]; exact pushCells_keeps _ _ _ _ (Heap.get?_push_of_some _ e)
  have stat : ∀ b ∈ fp, FpOk (X.blk s3 H3 scope ce fp) [] H3 b := fun b hb => ⟨none3 b hb, (I4.ok.exf b hb).1, I4.ok.exfs b hb, .inl hb, fun x c e => (I4.ok.exf b hb).2 x c e, fun p hp => absurd (show p ∈ ([] : List (Addr × Obj)) ++ [] from hp) (by simp)⟩
  have loop : codeAny (model X.prog X.w) X.A (.compLoop (.ListComp elt (⟨tg, iter, ifs, 0⟩ :: rest) scope pos) 0 (.ref it) (.ref D) ce) (compPost (model X.prog X.w) X.A X.xe none (EP X pins σ Q) (.ref D) s3.heap.objs.size) s4 := by
    refine compEnds (wpAny_mono (T.done (X.blk s3 H3 scope ce fp) rfl rfl rfl hc 0 [] s4 _ H3 (fun _ _ => False) I4 stat st4 stop) (fun r s6 hr => ?_) fun _ _ z => z)
    obtain ⟨er, I6⟩ := hr
    refine ⟨er, ?_⟩
    have I7 : Inv X pins σ H3 s6 := I3.call' (ch := fp) I6.os I6.base I6.hok I6.bare fun b hb => ⟨(f3 b hb).1.2.2.2.1, (f3 b hb).1.2.1, (f3 b hb).1.2.2.2.2.1, (f3 b hb).1.2.2.2.2.2⟩
    have nC : H3 s3.heap.objs.size = none := by
      have z : H3 ce.locals = none := I6.free
      rw [cL] at z; exact z
    obtain ⟨m, hn, _⟩ := I6.loc
    have hn : s6.heap.Ns ce.locals m := hn
    rw [cL] at hn
    refine ⟨m, hn, fun h'' sb => ?_⟩
    obtain ⟨f0, f1, f2, f3, f4, f5⟩ := I3.fpOk (Nat.le_refl _) nC
    exact ⟨.ref D, H3, I7.turned (t' := s6.toks) (fun b o hb e => (sb.2 b hb).trans e) f0 f1 f3 f4 f5, rfl, qq⟩
  exact codeAny_compStart_list loop (T.self X.A 0 _ _ _ st4 loop)
end
end Vw

set_option Elab.async false
set_option linter.all false
set_option maxRecDepth 100000
set_option maxHeartbeats 4000000
namespace Vw
open PySem PySem.Spec PyProof.Rows L2 RT
/-! ### == and != of data in which dicts of whole numbers lie -/
def intK : Key → Bool
  | .inl _ => true
  | .inr _ => false
theorem intK_of {k : Key} (h : intK k = true) : ∃ i, k = Sum.inl i := by
  cases k with
  | inl i => exact ⟨i, rfl⟩
  | inr x => cases h
/-- a dict of whole numbers is one in every world -/
theorem pairs_any {p p' : Program} {w w' : World} : ∀ {es : List DictEntry} {va : List (Key × Value)}, Pairs (mixKind p w) es va → Pairs (mixKind p' w') es va := fun h => by
  induction h with
  | nil => exact .nil
  | cons a b _ k => exact .cons a b k
theorem dictOf_any {p p' : Program} {w w' : World} {h : Heap} {a : Addr} {va : List (Key × Value)} (d : h.DictOf (mixKind p w) a va) (i : ∀ q ∈ va, intK q.1 = true) : h.DictOf (mixKind p' w') a va := by
  obtain ⟨o, es, ep, h1, h2, h3, h4, h5, h6⟩ := d
  refine ⟨o, es, ep, h1, h2, h3, fun e me => ?_, pairs_any h5, h6⟩
  obtain ⟨k, k1, k2⟩ := h4 e me
  refine ⟨k, k1, ?_⟩
  obtain ⟨j, hj, ej⟩ := List.getElem_of_mem (Array.mem_toList_iff.mpr me)
  have lj : j < va.length := by rw [← h5.length]; exact hj
  obtain ⟨q1, _⟩ := h5.get? (i := j) (e := e) (k := va[j].1) (v := va[j].2) (by rw [List.getElem?_eq_getElem hj, ej]) (List.getElem?_eq_getElem lj)
  have ek : k = va[j].1 := (mixKind p w).inj _ _ _ k1 q1
  obtain ⟨n, en⟩ := intK_of (i va[j] (List.getElem_mem lj))
  rw [ek, en] at k2 ⊢
  exact k2
def EqX (K : PySem.W.Frag) (H : Hp) : Nat → V → V → Prop
  | 0 => fun _ _ => False
  | n + 1 => fun x y => (x = y ∧ flatB x = true) ∨ (∃ a b xs ys, x = .ref a ∧ y = .ref b ∧ SqT K H a xs ∧ SqT K H b ys ∧ Paired (EqX K H n) xs ys) ∨ (∃ a b xs ys, x = .ref a ∧ y = .ref b ∧ SqL K H a xs ∧ SqL K H b ys ∧ Paired (EqX K H n) xs ys) ∨
    ∃ a b ks ls, x = .ref a ∧ y = .ref b ∧ H a = some (.dK ks) ∧ H b = some (.dK ls) ∧ ks.length = ls.length ∧ (∀ p ∈ ks, intK p.1 = true) ∧ (∀ p ∈ ls, intK p.1 = true) ∧ ∀ p ∈ ks, ∃ u, valV ls p.1 = some u ∧ EqX K H n p.2 u
theorem items_at {A : Around} {s : Shared} {F : V → V → Prop} (ih : ∀ x y v u, F x y → RelV x v → RelV y u → SeqAt.EqAt A s v u true) {xs ys : List V} (hp : Paired F xs ys) :
    ∀ {us ws : List Value}, Vals xs us → Vals ys ws → ∀ j (h1 : j < us.length) (h2 : j < ws.length), SeqAt.EqAt A s us[j] ws[j] true := by
  induction hp with
  | nil =>
    intro us ws r1 _ j h1
    cases r1
    exact absurd h1 (Nat.not_lt_zero j)
  | cons h _ k =>
    intro us ws r1 r2 j h1 h2
    cases r1 with
    | cons a1 b1 =>
      cases r2 with
      | cons a2 b2 =>
        cases j with
        | zero => exact ih _ _ _ _ h a1 a2
        | succ j => exact k b1 b2 j (Nat.lt_of_succ_lt_succ h1) (Nat.lt_of_succ_lt_succ h2)
theorem hits_at {A : Around} {s : Shared} {F : V → V → Prop} (ih : ∀ x y v u, F x y → RelV x v → RelV y u → SeqAt.EqAt A s v u true) {ls : List (Key × V)} {vb : List (Key × Value)} (rb : KV ls vb) {ks : List (Key × V)} {va : List (Key × Value)}
    (ra : KV ks va) : (∀ p ∈ ks, ∃ u, valV ls p.1 = some u ∧ F p.2 u) → PySem.W.KeqHits A s vb va true := by
  unfold KV at ra
  induction ra with
  | nil => intro _; exact .nil
  | @cons p q ps qs h t k =>
    intro hp
    obtain ⟨h1, h2⟩ := h
    obtain ⟨u, e, f⟩ := hp p (by simp)
    have rr : RelO (some u) (valueAt vb p.1) := by rw [← e]; exact rb.val p.1
    obtain ⟨y, hy, ry⟩ := rr.some_of
    obtain ⟨key, v⟩ := q
    obtain rfl : p.1 = key := h1
    show PySem.W.KeqHits A s vb ((p.1, v) :: qs) (true && true)
    exact .hit hy (ih _ _ _ _ f h2 ry) (k fun p' hm => hp p' (List.mem_cons_of_mem _ hm))
theorem kv_int {ks : List (Key × V)} {va : List (Key × Value)} (r : KV ks va) : (∀ p ∈ ks, intK p.1 = true) → ∀ q ∈ va, intK q.1 = true := by
  unfold KV at r
  induction r with
  | nil => intro _ q hq; cases hq
  | @cons p q ps qs h t k =>
    intro hp x hx
    rcases List.mem_cons.mp hx with z | z
    · rw [z, ← h.1]; exact hp p (by simp)
    · exact k (fun p' hm => hp p' (List.mem_cons_of_mem _ hm)) x z
section
variable {X : Cx} {pins : List (Addr × Obj)} {σ : L2.St} {H : Hp} {s : Shared}
theorem eqX_run (I : Inv X pins σ H s) : ∀ (n : Nat) (A : Around), A.units + n < cLine → ∀ (x y : V) (v u : Value), EqX X.K H n x y → RelV x v → RelV y u → SeqAt.EqAt A s v u true
  | 0, _, _, _, _, _, _, h, _, _ => (show False from h).elim
  | n + 1, A, hu, x, y, v, u, h, rx, ry => by
    have ih := eqX_run I n A.in1 (by show A.units + 1 + n < cLine; omega)
    rcases h with ⟨rfl, f⟩ | ⟨a, b, xs, ys, rfl, rfl, ha, hb, hp⟩ | ⟨a, b, xs, ys, rfl, rfl, ha, hb, hp⟩ | ⟨a, b, ks, ls, rfl, rfl, ha, hb, hl, i1, i2, hp⟩
    · exact eqAt_same rx ry f
    all_goals (cases (show v = Value.ref a from rx); cases (show u = Value.ref b from ry); by_cases e : a = b; (· subst e; exact SeqAt.EqAt.same _); refine SeqAt.EqAt.of_refs e ?_)
    · obtain ⟨us, r1, p1, _⟩ := I.tuple ha
      obtain ⟨ws, r2, p2, _⟩ := I.tuple hb
      have sz : us.toArray.size = ws.toArray.size := by rw [List.size_toArray, List.size_toArray, ← r1.length, ← r2.length]; exact Paired.length hp
      have k := SeqAt.RcAt.tuples (e := fun _ => true) p1 p2 (A := A) (by omega) (fun j h1 h2 => by have q := items_at ih hp r1 r2 j (by simpa using h1) (by simpa using h2); simpa using q)
      rw [show ((List.range (min us.toArray.size ws.toArray.size)).all fun _ => true) = true from List.all_eq_true.mpr fun _ _ => rfl, sz] at k
      simpa using k
    · obtain ⟨us, r1, p1, _⟩ := I.list ha
      obtain ⟨ws, r2, p2, _⟩ := I.list hb
      have sz : us.toArray.size = ws.toArray.size := by rw [List.size_toArray, List.size_toArray, ← r1.length, ← r2.length]; exact Paired.length hp
      have k := SeqAt.RcAt.lists (e := fun _ => true) p1.isList p2.isList (A := A) sz (by omega) (fun j h1 h2 => by have q := items_at ih hp r1 r2 j (by simpa using h1) (by simpa using h2); simpa using q)
      rw [show ((List.range us.toArray.size).all fun _ => true) = true from List.all_eq_true.mpr fun _ _ => rfl] at k
      exact k
    · obtain ⟨_, ya, va, ra, da⟩ := (show ObjOk X.prog X.w H s.heap a (.dK ks) from I.hok a _ ha)
      obtain ⟨_, yb, vb, rb, db⟩ := (show ObjOk X.prog X.w H s.heap b (.dK ls) from I.hok b _ hb)
      intro p' w' E Q q
      have e2 : va.length = vb.length := by rw [← ra.length, ← rb.length]; exact hl
      refine PySem.W.keq_eq (knd := mixKind p' w') (r := true) ya yb (dictOf_any da (kv_int ra i1)) (dictOf_any db (kv_int rb i2)) (by omega) (fun _ => hits_at ih rb ra hp) ?_
      rw [show (va.length == vb.length && true) = true from by rw [e2]; simp]
      exact q
end
section
variable {X : Cx}
/-- two lists that are equal -/
def rNeX (K : PySem.W.Frag) : R2 := fun x y H Q => ∃ a b xs ys, x = .ref a ∧ y = .ref b ∧ SqL K H a xs ∧ SqL K H b ys ∧ Paired (EqX K H 20) xs ys ∧ Q (.bl false) H
theorem op_neX (hu : X.A.units + 64 < cLine) : OpR X (compareOp .NotEq) (rNeX X.K) := by
  intro pins s σ H x y v u Q I rx ry h
  obtain ⟨a, b, xs, ys, rfl, rfl, ha, hb, hp, q⟩ := h
  cases (show v = Value.ref a from rx)
  cases (show u = Value.ref b from ry)
  obtain ⟨us, r1, p1, _⟩ := I.list ha
  obtain ⟨ws, r2, p2, _⟩ := I.list hb
  have sz : us.toArray.size = ws.toArray.size := by rw [List.size_toArray, List.size_toArray, ← r1.length, ← r2.length]; exact Paired.length hp
  have ih := eqX_run I 20 X.A.in1 (by show X.A.units + 1 + 20 < cLine; omega)
  have k := SeqAt.RcNeAt.lists (e := fun _ => true) p1.isList p2.isList (A := X.A) sz (by omega) (fun j h1 h2 => by have q := items_at ih hp r1 r2 j (by simpa using h1) (by simpa using h2); simpa using q)
  rw [show ((List.range us.toArray.size).all fun _ => true) = true from List.all_eq_true.mpr fun _ _ => rfl] at k
  exact k X.prog X.w _ _ ⟨.bl false, H, I, rfl, q⟩
def rEqX (K : PySem.W.Frag) : R2 := fun x y H Q => ∃ a b xs ys, x = .ref a ∧ y = .ref b ∧ SqL K H a xs ∧ SqL K H b ys ∧ Paired (EqX K H 20) xs ys ∧ Q (.bl true) H
theorem op_eqX (hu : X.A.units + 64 < cLine) : OpR X (compareOp .Eq) (rEqX X.K) := by
  intro pins s σ H x y v u Q I rx ry h
  obtain ⟨a, b, xs, ys, rfl, rfl, ha, hb, hp, q⟩ := h
  cases (show v = Value.ref a from rx)
  cases (show u = Value.ref b from ry)
  obtain ⟨us, r1, p1, _⟩ := I.list ha
  obtain ⟨ws, r2, p2, _⟩ := I.list hb
  have sz : us.toArray.size = ws.toArray.size := by rw [List.size_toArray, List.size_toArray, ← r1.length, ← r2.length]; exact Paired.length hp
  have ih := eqX_run I 20 X.A.in1 (by show X.A.units + 1 + 20 < cLine; omega)
  have k := SeqAt.RcAt.lists (e := fun _ => true) p1.isList p2.isList (A := X.A) sz (by omega) (fun j h1 h2 => by have q := items_at ih hp r1 r2 j (by simpa using h1) (by simpa using h2); simpa using q)
  rw [show ((List.range us.toArray.size).all fun _ => true) = true from List.all_eq_true.mpr fun _ _ => rfl] at k
  exact k X.prog X.w _ _ ⟨.bl true, H, I, rfl, q⟩
end
theorem oNeX {K : PySem.W.Frag} {X : Cx} (hu : X.A.units + 64 < cLine) (e : X.K = K := by rfl) : OpR X (compareOp .NotEq) (rNeX K) := by cases e; exact op_neX hu
theorem oEqX {K : PySem.W.Frag} {X : Cx} (hu : X.A.units + 64 < cLine) (e : X.K = K := by rfl) : OpR X (compareOp .Eq) (rEqX K) := by cases e; exact op_eqX hu
end Vw

set_option Elab.async false
set_option linter.all false
set_option maxRecDepth 100000
set_option maxHeartbeats 4000000
namespace Vw
open PySem PySem.Spec PyProof.Rows L2 RT
/-! ### a list so many times -/
def rTimesL : R2 := fun x y H Q => ∃ (a : Addr) (n : Nat) (xs : List V), x = .ref a ∧ y = .int n ∧ H a = some (.lst xs) ∧ n * xs.length ≤ 10000 ∧ n ≤ 10000 ∧ ∀ p, H p = none → Q (.ref p) (upd H p (.lst (List.replicate n xs).flatten))
theorem op_timesL {X : Cx} : OpR X (binaryOp .Mult) rTimesL := by
  intro pins st σ H x y v u Q I rx ry ⟨a, n, xs, ex, ey, hL, hn, hn2, q⟩
  subst ex
  cases rx
  obtain ⟨j, ej⟩ : ∃ j : Int, j = (n : Nat) := ⟨_, rfl⟩
  rw [← ej] at ey
  subst ey
  obtain ⟨tk, rfl⟩ := ry
  have jn : j.toNat = n := by omega
  obtain ⟨z, its, m, r, hl, ho⟩ := I.lstM hL
  have ln : its.length = xs.length := r.length.symm
  have fl : (List.foldl (fun x1 x2 => x1 ++ x2) #[] (List.replicate (if its.toArray.isEmpty = true then 0 else j.toNat) its.toArray)) = (List.replicate n its).flatten.toArray := by
    rw [jn]
    cases its with
    | nil => simp
    | cons b bs =>
      rw [if_neg (by simp)]
      exact size_rep (b :: bs) n
  have big : (10000 : Nat) ≤ sizeLine := by decide
  have lenF : (List.replicate n xs).flatten.length ≤ sizeLine := by rw [lm_len_rep_flat]; omega
  have fin : EP X pins σ Q (.ref st.heap.objs.size) { st with heap := st.heap.push { cls := Value.type "list", data := Data.seq (List.replicate n its).flatten.toArray } } :=
    ⟨.ref st.heap.objs.size, _, I.laid (t' := st.toks) (o := .lst (List.replicate n xs).flatten) (fun _ _ g => Heap.get?_push_of_some _ g) (Nat.le_refl _) ⟨lenF, _, 0, r.rep n, Heap.get?_push_size _ rfl⟩, rfl, q _ (I.hok.fresh (Nat.le_refl _))⟩
  have sz2 : its.toArray.size * j.toNat ≤ 10000 := by rw [List.size_toArray, ln, jn, Nat.mul_comm]; exact hn
  have c0 : ¬ (!Builtin.List.listFitsIndex j) = true := by
    have : Builtin.List.listFitsIndex j = true := by
      unfold Builtin.List.listFitsIndex
      rw [Bool.and_eq_true]
      exact ⟨decide_eq_true (by omega), decide_eq_true (by omega)⟩
    rw [this]; decide
  have c2 : ¬ Builtin.List.listTooLong (its.toArray.size * j.toNat) = true := by
    intro h
    have h := of_decide_eq_true h
    omega
  have road := lm_list_mul_any a its.toArray m none #[] j tk c0 (by omega) c2
  rw [fl] at road
  exact wpAny_binaryOp_repeat_ref (T := "list") (U := "int") (by decide) ⟨_, ho, rfl⟩ (fun s' => typeIs_int s' j tk) noFill_list_mul F.fills_int_mul F.slot_int_rmul repeat_list F.slot_int_index.lookup
    (call_meets F.slot_int_rmul (typeIs_int st j tk) F.entry_int_rmul (F.args_int_rmul_2 _ _) (lm_int_rmul_list_any j tk a its.toArray m none #[]) ⟨ho, rfl, ⟨_, ho, rfl⟩,
      call_meets F.slot_list_mul ⟨_, ho, rfl⟩ F.entry_list_mul (F.args_list_mul_2 _ _) road ⟨ho, fin⟩⟩)
theorem oTimesL {X : Cx} : OpR X (binaryOp .Mult) rTimesL := op_timesL
/-! ### a handler that catches what is let out, whatever stands behind it -/
def wTell (K : PySem.W.Frag) (i : Nat) (c : Value) (u : Addr → Value → Option Addr → TS) (D : Ends) : WX := fun k d σ H => PySem.W.exmOne K k c = some true ∧ ∀ x, H x = none → u x k d (offI i D) (σ.set i (some (.ref x))) H
section
variable {X : Cx} {n x0 : Str} {i : Nat} {body bs : List Stmt} {b : Stmt} {c : Value} {u : Addr → Value → Option Addr → TS} {p1 p2 pos : Pos} {hds : List ExceptHandler} {tb : WX → TS}
theorem ps_tell1 (st : X.stack = X.env :: X.outer) (fr : X.env.frame = some X.env.locals) (nd : X.N.Nodup) (at_ : X.N[i]? = some n) (lo : X.env.kindOf n = some .local)
    (bo : ∀ (W : WX) (pn : List (Addr × Obj)) (xe : Value → Shared → Prop), Takes (X.tr pn xe) W → PassesOwn (model X.prog X.w) X.A X.env xe → PSs (X.tr pn xe) body (tb W))
    (hc : Names X x0 c) (hu : ∀ (x : Addr) (o : Obj) (k : Value) (d : Option Addr) (pn : List (Addr × Obj)), Zc k d o → (∃ vs, o.data = .fields vs) → PSs (X.suite x ((x, o) :: pn)) (b :: bs) (u x k d)) :
    PS X (.Try body (.ExceptHandler (some (.Name x0 p1)) (some n) (b :: bs) p2 :: hds) [] [] pos) (fun D σ H => tb (wTell X.K i c u D) D σ H) := by
  refine ⟨fun pins s σ H D I q0 => ?_⟩
  have kk := I.ok
  have frs2 : X.A.frames = some (X.env :: X.outer) := by rw [kk.frames, st]
  have hl2 : Loc X.env.scope n := .inl lo
  refine wpAny_Try_except ?_
  refine wpAny_mono ((bo (wTell X.K i c u D) (X.pn ++ pins) (fun e sa => wpAny (model X.prog X.w) X.A (noteFrame e X.env) (fun _ sb => wpAny (model X.prog X.w) X.A (setFlight e none) (fun _ sc =>
    wpAny (model X.prog X.w) X.A (handleBy e X.env (.ExceptHandler (some (.Name x0 p1)) (some n) (b :: bs) p2 :: hds)) (SP X pins D) X.xe sc) X.xe sb) X.xe sa) (fun u2 s' xx => ?_) PassesOwn.looking).run [] s σ H D (I.toTry _) q0) (fun f s1 hsp => ?_) (fun e s1 z => z)
  · obtain ⟨x, B, sI, _, σ2, H2, k, d, rfl, Ja, nb, up, sky, nx2, os, ag, w⟩ := xx
    have Jb : Inv X pins σ2 H2 sI := Ja.ofTry kk
    have sk2 : Sky B (X.env :: X.outer) x (Zc k d) X.env.locals s'.heap := by rw [← st]; exact sky
    show wpAny (model X.prog X.w) X.A (noteFrame (.ref x) X.env) _ _ _
    refine Sky.land Zc.steady frs2 fr sk2 fun ha fa ua => ?_
    have Jc : Inv X pins σ2 H2 { s' with heap := ha } := Jb.landed nb fa.1 (up.trans ua) os ag
    obtain ⟨oa, va, ea, za, da⟩ := fa.there
    have nfa : x ∉ frs (X.env :: X.outer) := fun m => by
      obtain ⟨_, o2, e2, nf⟩ := fa.2.2.1.mem m
      rw [ea] at e2
      cases e2
      exact nf _ da
    have nla : x ≠ X.env.locals := fun z => nfa (List.mem_filterMap.mpr ⟨X.env, List.mem_cons_self, by rw [fr, z]⟩)
    have nfs : x ∉ X.fs := fun m => by
      obtain ⟨e, me, q⟩ := List.mem_filterMap.mp m
      exact nfa (List.mem_filterMap.mpr ⟨e, List.mem_cons_of_mem _ me, q⟩)
    have Sa := Jc.suite ea da nx2 nla nfs
    obtain ⟨e1, yes⟩ := w
    refine wpAny_handleBy_cons (codeAny_handlers_test ?_) (by intro q; cases q)
    have LA : PySem.W.Looks (model X.prog X.w) ha (typeOf (.ref x)) k := fun A Q E s k2 q => wpAny_typeOf_ref (k2 _ _ ea) (by rw [za.1]; exact q)
    have LB := PySem.W.exm_one (M := model X.prog X.w) Jc.kIn LA e1
    have tst : ∀ {Q E : Value → Shared → Prop}, Q c { s' with heap := ha } → wpAny (model X.prog X.w) (X.A.mark (some (.ref x))) (eval (.Name x0 p1) X.env) Q E { s' with heap := ha } := fun {Q E} q => by
      obtain ⟨g1, g2, g3 | ⟨g3, g4, g5⟩⟩ := hc
      · exact ld_glob (X := X.suite x ((x, oa) :: (X.pn ++ pins))) Sa g1 g3 q g2
      · exact ld_blt (X := X.suite x ((x, oa) :: (X.pn ++ pins))) Sa g1 g3 g4 q g5 g2
    refine tst (LB.here ?_)
    refine codeAny_handlers_suite_as ?_
    refine HandSPX.lands_againZ fa fun hb fb ub => ?_
    have Jd : Inv X pins σ2 H2 { s' with heap := hb } := Jb.landed nb fb.1 ((up.trans ua).trans ub) os ag
    obtain ⟨ob, vb, eb, zb, db⟩ := fb.there
    have Sb := Jd.suite eb db nx2 nla nfs
    refine store_ok (X := X.suite x ((x, ob) :: (X.pn ++ pins))) (v := .ref x) Sb nd at_ hl2 rfl (fun s5 Sc => ?_) (.inr lo)
    refine wpAny_mono ((hu x ob k d (X.pn ++ pins) zb ⟨_, db⟩).run [] s5 _ H2 _ Sc (yes x nx2)) (fun f s6 hs6 => ?_) (fun _ _ z => z.elim)
    have fin : ∀ {σ6 : L2.St} {H6 : Hp} {Q : Shared → Prop}, Inv (X.suite x ((x, ob) :: (X.pn ++ pins))) [] σ6 H6 s6 → (∀ s7, Inv X pins (σ6.set i none) H6 s7 → Q s7) →
        wpAny (model X.prog X.w) X.A (do bindName X.env n .none; unbindBehindTheSuite X.env n p2) (fun _ s7 => Q s7) X.xe s6 := fun {σ6 H6 Q} Sd hq => gone_ok (Sd.unsuite kk) nd at_ lo hq
    cases f with
    | next =>
      obtain ⟨_, _, Sd, q6⟩ := hs6
      exact fin Sd fun s7 Je => ⟨_, _, Je, q6⟩
    | brk =>
      obtain ⟨_, _, Sd, q6⟩ := hs6
      exact fin Sd fun s7 Je => ⟨_, _, Je, q6⟩
    | cont =>
      obtain ⟨_, _, Sd, q6⟩ := hs6
      exact fin Sd fun s7 Je => ⟨_, _, Je, q6⟩
    | ret u6 =>
      obtain ⟨_, _, _, Sd, r6, q6⟩ := hs6
      exact fin Sd fun s7 Je => ⟨_, _, _, Je, r6, q6⟩
  · cases f with
    | next =>
      obtain ⟨_, _, Je, q⟩ := hsp
      exact wpAny_execs_nil ⟨_, _, Je.ofTry kk, q⟩
    | brk =>
      obtain ⟨_, _, Je, q⟩ := hsp
      exact ⟨_, _, Je.ofTry kk, q⟩
    | cont =>
      obtain ⟨_, _, Je, q⟩ := hsp
      exact ⟨_, _, Je.ofTry kk, q⟩
    | ret u6 =>
      obtain ⟨_, _, _, Je, r, q⟩ := hsp
      exact ⟨_, _, _, Je.ofTry kk, r, q⟩
end
end Vw

set_option Elab.async false
set_option linter.all false
set_option maxRecDepth 100000
set_option maxHeartbeats 4000000
namespace Vw
open PySem PySem.Spec PyProof.Rows L2 RT
/-! ### defs that are called where no text of an object is being made -/
structure FnG (P : Program) (w : World) (K : PySem.W.Frag) (mg : Str → Option Value) (base : Heap) (CX : CXT) (k : Nat) (f : Addr) (fd : FuncData) (ps : List Str) (sp : Sp) : Prop where
  len : ∀ vs H Q E, sp vs H Q E → vs.length = ps.length
  run : ∀ (A : Around) (outer : List Env) (s : Shared) (H : Hp) (args : Args) (us : List Value) (vs : List V) (Q : VK) (E : XK), A.guards = some [] → Room k A → Env0 P w K mg base A outer s H → BindsTo s fd args (ps.zip us) → Vals vs us → sp vs H Q E →
    codeAny (model P w) A (.call (.ref f) args) (CR CX outer P w H s Q E) s
theorem FnG.of {P : Program} {w : World} {K : PySem.W.Frag} {mg : Str → Option Value} {base : Heap} {CX : CXT} {k : Nat} {f : Addr} {fd : FuncData} {ps : List Str} {sp : Sp} (F : FnOk P w K mg base CX k f fd ps sp) : FnG P w K mg base CX k f fd ps sp :=
  ⟨F.len, fun A outer s H args us vs Q E _ => F.run A outer s H args us vs Q E⟩
section
variable {X : Cx} {CX : CXT} {k : Nat} {f : Addr} {fd : FuncData} {ps : List Str} {sp : Sp} {dvs : List V} {ds : List Value} {E : XK} {x : Str} {p pos : Pos} {e : Expr} {es : List Expr} {t : TA}
theorem run_fnG {pins : List (Addr × Obj)} {σ : L2.St} {H : Hp} {s : Shared} {Q : VK} {us : List Value} {vs : List V} (gd : X.A.guards = some []) (F : FnG X.prog X.w X.K X.mg X.base CX k f fd ps sp) (rm : Room k X.A) (bd : Binds X.K fd ps ds) (dv : Vals dvs ds) (ps1 : Passes CX X E)
    (J : Inv X pins σ H s) (rv : Vals vs us) (hs : sp (vs ++ dvs) H Q E) : wpAny (model X.prog X.w) X.A (call (.ref f) us) (EP X pins σ Q) X.xe s := by
  have all : Vals (vs ++ dvs) (us ++ ds) := rv.append dv
  have n : (us ++ ds).length = ps.length := all.length.symm.trans (F.len _ _ _ _ hs)
  refine wpAny_call (codeAny_mono (F.run X.A X.stack s H ⟨us, []⟩ _ _ Q E gd rm J.env0 (bd s us J.kIn n) all hs) ?_)
  intro res s2 z
  cases res with
  | error e => exact ps1 pins σ H s e s2 J z
  | ok fl =>
    cases fl with
    | ret u => exact J.after z
    | next => exact (show False from z).elim
    | brk => exact (show False from z).elim
    | cont => exact (show False from z).elim
theorem pe_callG (gd : X.A.guards = some []) (F : FnG X.prog X.w X.K X.mg X.base CX k f fd ps sp) (rm : Room k X.A) (gl : Gl X x) (at_ : X.mg x = some (.ref f)) (kp : PySem.W.keepIn X.K (.ref f) = true) (bd : Binds X.K fd ps ds) (dv : Vals dvs ds) (px : Passes CX X E)
    (pa : PA X (e :: es) t) (nd : (x == ("__debug__" : Str)) = false := by decide) (st1 : starEach (e :: es) X.env = (false, eval e X.env) :: starEach es X.env := by rfl) (st2 : (backTo pos (starEach es X.env)).any (·.1) = false := by rfl) :
    PE X (.Call (.Name x p) (e :: es) [] pos) (tCall sp dvs E t) :=
  ⟨fun pins s σ H Q J z => wpAny_Call_Name_kw (ld_glob J gl at_ (PySem.W.callWith_K (h₀ := X.base) J.ok.mod.kin kp (thn (pa.run pos pins s σ H _ J z) fun _ _ ⟨_, _, J1, r1, z1⟩ => ⟨J1.kIn, run_fnG gd F rm bd dv px J1 r1 z1⟩) st1 st2) nd)⟩
end
section
variable {P : Program} {w : World} {K : PySem.W.Frag} {mg : Str → Option Value} {base : Heap}
theorem fnG_of {CX : CXT} {k : Nat} {f : Addr} {nm ql : Str} {pr : Arguments} {bd : List Stmt} {sc : Scope} {dV kV dc pm cv ct oc : Value} {an od : Option Addr} {osl : Array (Option Value)} {N ps : List Str} {sp : Sp}
    (lk : K.lookup f = some ⟨oc, od, .func (PySem.W.fnOf nm ql pr bd sc dV kV dc pm an cv ct), osl⟩) (cd : PySem.W.codeIn K cv ql = true) (S : FnScope N ps sc) (len : ∀ vs H Q E, sp vs H Q E → vs.length = ps.length)
    (body : ∀ (A : Around) (outer : List Env) (s : Shared) (H : Hp) (vs : List V) (Q : VK) (E : XK), A.guards = some [] → Room k (A.deeper (envOfC ql sc s.heap.objs.size f cv)) → sp vs H Q E →
      ∃ t, PSs (cxOf CX P w K mg base N ql sc f cv A outer s H E) bd t ∧ t { nx := fun _ H' => Q .non H', rt := Q } (start N vs) H) : FnG P w K mg base CX (k + 1) f (PySem.W.fnOf nm ql pr bd sc dV kV dc pm an cv ct) ps sp := by
  refine ⟨len, fun A outer s H args us vs Q E gd rm e0 bt rv hs => ?_⟩
  have keepK : K.In s.heap := e0.mod.kin.keeps fun b o z => (e0.bs b o z).1
  have limK : s.heap.NoLimit := e0.mod.nolimit.keeps fun b o z => (e0.bs b o z).1
  have par : ∀ y ∈ ps.zip us, sc.names.lookup y.1 = some .local ∨ (sc.names.lookup y.1 = some .cell ∧ ((cellsFrom (s.heap.objs.size + 1) sc.names []).lookup y.1).isSome = true) := by
    rintro ⟨n, v⟩ hy
    exact (S.par n (List.of_mem_zip hy).1).imp id fun q => ⟨q, PySem.W.cellsFrom_some _ _ _ (.inl q)⟩
  refine codeAny_call_function rm.depth (keepK _ _ lk) rfl S.co S.gen rfl (PySem.W.codeRec_of keepK cd) (bt _ _ _ _ (wpAny_newFunctionEnv_cells S.kind par fun env he s1 x => ?_))
  subst he
  refine ⟨limK.keeps x.toInCall.keep, codeAny_func ?_⟩
  obtain ⟨t, pt, z⟩ := body A outer s H vs Q E gd (rm.deeper _) hs
  have J : Inv (cxOf CX P w K mg base N ql sc f cv A outer s H E) [] (start N vs) H s1 := inv_start S rm.hd e0 (len _ _ _ _ hs) rv x
  refine wpAny_mono (pt.run [] s1 (start N vs) H _ J z) (fun fl s2 q => ?_) fun _ _ q => q
  cases fl with
  | ret u =>
    obtain ⟨v, σ2, H2, J2, r2, q2⟩ := q
    exact ⟨v, H2, J2.os, J2.bare, J2.base, J2.hok, r2, q2⟩
  | next =>
    obtain ⟨σ2, H2, J2, q2⟩ := q
    exact ⟨V.non, H2, J2.os, J2.bare, J2.base, J2.hok, rfl, q2⟩
  | brk => exact (show False from let ⟨_, _, _, z⟩ := q; z).elim
  | cont => exact (show False from let ⟨_, _, _, z⟩ := q; z).elim
theorem _root_.L2.Fun.okG {x qual : Str} {st : Stmt} {f : Addr} {fd : FuncData} {N ps : List Str} {k : Nat} {sp : Sp} (F : Fun K x qual st f fd) (S : FnScope N ps (defScope st)) (len : ∀ vs H Q E, sp vs H Q E → vs.length = ps.length)
    (body : ∀ (cdv : Value) (A : Around) (outer : List Env) (s : Shared) (H : Hp) (vs : List V) (Q : VK) (E : XK), A.guards = some [] → Room k (A.deeper (envOfC qual (defScope st) s.heap.objs.size f cdv)) → sp vs H Q E →
      ∃ t, PSs (cxOf CX0 P w K mg base N qual (defScope st) f cdv A outer s H E).nox (defBody st) t ∧ t { nx := fun _ H' => Q .non H', rt := Q } (start N vs) H) : FnG P w K mg base CX0 (k + 1) f fd ps sp := by
  obtain ⟨_, _, _, _, _, _, cdv, _, _, rfl, lk, cd⟩ := F.ex
  exact fnG_of lk cd S len fun A outer s H vs Q E gd rm hs => let ⟨t, pt, z⟩ := body cdv A outer s H vs Q E gd rm hs; ⟨t, pt.nox, z⟩
theorem DefAtL.okG {x qual : Str} {st : Stmt} {N ps : List Str} {k : Nat} {sp : Sp} (D : DefAtL K mg x qual st ps) (S : FnScope N ps (defScope st)) (len : ∀ vs H Q E, sp vs H Q E → vs.length = ps.length)
    (body : ∀ (A : Around) (outer : List Env) (s : Shared) (H : Hp) (vs : List V) (Q : VK) (E : XK), A.guards = some [] → Room k (A.deeper (envOfC qual (defScope st) s.heap.objs.size D.f (.ref D.c))) → sp vs H Q E →
      ∃ t, PSs (cxOf CX0 P w K mg base N qual (defScope st) D.f (.ref D.c) A outer s H E).nox (defBody st) t ∧ t { nx := fun _ H' => Q .non H', rt := Q } (start N vs) H) : FnG P w K mg base CX0 (k + 1) D.f D.fd ps sp := by
  obtain ⟨_, _, _, _, _, _, _, _, e, lk, cd⟩ := D.ex
  rw [e] at lk ⊢
  exact fnG_of lk cd S len fun A outer s H vs Q E gd rm hs => let ⟨t, pt, z⟩ := body A outer s H vs Q E gd rm hs; ⟨t, pt.nox, z⟩
end
end Vw

set_option Elab.async false
set_option linter.all false
set_option maxRecDepth 100000
set_option maxHeartbeats 1000000
namespace Vw
open PySem PySem.Spec PyProof.Rows L2 RT
/-! ### the law itself called so -/
/-- the places of the script and of the tables: what may be tracked when the law is called -/
def startH (K : PySem.W.Frag) (ts : List Addr) (a : Addr) (vs : List Value) (ns : List Int) : Hp := fun b =>
  if b ∈ ts then some (.tbl #[]) else if b = a ∧ K.lookup a = none then some (.frz { cls := .type "list", data := .seq vs.toArray } (.lst (ns.map V.int))) else none
theorem law_callG {P : Program} {w : World} {K : PySem.W.Frag} {mg mb : Str → Option Value} {CX : CXT} {k : Nat} {fa a : Addr} {cs : List (Addr × Addr)} {fd : FuncData} {x : Str} {sp : Sp} {s1 : Shared} {vs : List Value} {ns : List Int}
    (kin : K.In s1.heap) (gl : s1.heap.Ns mainGlobals mg) (bl : s1.heap.Ns builtinsNs mb) (boot : ∀ y : Str, y ≠ "__name__" → mb y = bootBuiltins y) (lim : s1.heap.NoLimit) (gn : s1.gens = #[])
    (tb : ∀ p ∈ cs, s1.heap.get? p.2 = some { cls := .none, data := .fields #[] }) (tK : ∀ p ∈ cs, K.lookup p.2 = none) (hd : ∀ p ∈ cs, PySem.W.CodeHd s1.heap p.1 p.2)
    (bm : ∃ (m : Addr) (o : Obj), mg "__builtins__" = some (.ref m) ∧ m ≠ builtinsNs ∧ s1.heap.get? m = some o ∧ o.cls = .type "module" ∧ o.dict = some builtinsNs ∧ o.data = .plain)
    (sc : s1.heap.get? a = some { cls := .type "list", data := .seq vs.toArray }) (iv : IntsAre vs ns) (few : ns.length ≤ sizeLine) (rm : Room k callerA)
    (F : ∀ base : Heap, K.In base → base.Ns mainGlobals mg → (∀ p ∈ cs, LamX.TabB base mg p.1 p.2) → FnG P w K mg base CX k fa fd [x] sp) (bt : ∀ (s : Shared) (u : Value), BindsTo s fd ⟨[u], []⟩ [(x, u)])
    (ask : ∀ H : Hp, (∀ p ∈ cs, H p.2 = some (.tbl #[])) → SqL K H a (ns.map V.int) → sp [.ref a] H (fun v _ => v = .bl true) fun _ _ _ => False)
    (noE : ∀ H e s2, CX [] H s1 (fun _ _ _ => False) e s2 → False) :
    codeAny (model P w) callerA (.call (.ref fa) ⟨[.ref a], []⟩) (fun r s2 => r = .ok (.ret (.bool true)) ∧ OldK s1.heap s2.heap ∧ s2.os = s1.os ∧ AllBare s2.gens) s1 := by
  obtain ⟨ts, ets⟩ : ∃ ts : List Addr, ts = cs.map (·.2) := ⟨_, rfl⟩
  have inT : ∀ p ∈ cs, p.2 ∈ ts := fun p hp => ets ▸ List.mem_map.mpr ⟨p, hp, rfl⟩
  have ofT : ∀ b ∈ ts, ∃ p ∈ cs, p.2 = b := fun b hb => List.mem_map.mp (ets ▸ hb)
  have objT : ∀ b ∈ ts, s1.heap.get? b = some { cls := .none, data := .fields #[] } := fun b hb => let ⟨p, hp, z⟩ := ofT b hb; z ▸ tb p hp
  have aT : a ∉ ts := fun hb => by
    have z := (objT a hb).symm.trans sc
    exact nomatch (show Data.fields #[] = Data.seq vs.toArray 0 from congrArg Obj.data (Option.some.inj z))
  obtain ⟨H, eH⟩ : ∃ H : Hp, H = startH K ts a vs ns := ⟨_, rfl⟩
  have hT : ∀ b ∈ ts, H b = some (.tbl #[]) := fun b hb => by rw [eH]; exact if_pos hb
  have cases_ : ∀ b, (b ∈ ts) ∨ (b = a ∧ K.lookup a = none ∧ H b = some (.frz { cls := .type "list", data := .seq vs.toArray } (.lst (ns.map V.int)))) ∨ (b ∉ ts ∧ H b = none) := fun b => by
    by_cases h1 : b ∈ ts
    · exact .inl h1
    · by_cases h2 : b = a ∧ K.lookup a = none
      · exact .inr (.inl ⟨h2.1, h2.2, by rw [eH]; exact (if_neg h1).trans (if_pos h2)⟩)
      · exact .inr (.inr ⟨h1, by rw [eH]; exact (if_neg h1).trans (if_neg h2)⟩)
  -- what is no list and no table is not tracked
  have off : ∀ {b : Addr} {o : Obj}, s1.heap.get? b = some o → (∀ us n, o.data ≠ .seq us n) → o.data ≠ .fields #[] → H b = none := fun {b o} e n1 n2 => by
    rcases cases_ b with z | ⟨z, _, _⟩ | z
    · rw [objT b z] at e; cases e; exact absurd rfl n2
    · rw [z, sc] at e; cases e; exact absurd rfl (n1 _ _)
    · exact z.2
  have offD : ∀ {b : Addr} {o : Obj} {es : Array DictEntry} {ep : Nat}, s1.heap.get? b = some o → o.data = .dict es ep → H b = none := fun e d => off e (fun _ _ z => nomatch d.symm.trans z) fun z => nomatch d.symm.trans z
  have ns_ : ∀ {b : Addr} {m : Str → Option Value}, s1.heap.Ns b m → (hidT s1.heap H).Ns b m := fun ⟨o, es, ep, e, d, r⟩ => ⟨o, es, ep, hidT_get e (offD e d), d, r⟩
  have kinB : K.In (hidT s1.heap H) := fun b o e => by
    refine hidT_get (kin b o e) ?_
    rcases cases_ b with z | ⟨z, z2, _⟩ | z
    · obtain ⟨p, hp, ep⟩ := ofT b z
      rw [← ep, tK p hp] at e; cases e
    · rw [z, z2] at e; cases e
    · exact z.2
  have tabB : ∀ p ∈ cs, LamX.TabB (hidT s1.heap H) mg p.1 p.2 := fun p hp => by
    refine ⟨?_, ?_, fun z => ?_⟩
    · obtain ⟨o, us, file, tf, flags, tg, inF, text, tt, e1, r1, r2, r3, rr⟩ := hd p hp
      refine ⟨o, us, file, tf, flags, tg, inF, text, tt, hidT_get e1 (off e1 (fun _ _ z => nomatch r2.symm.trans z) fun z => ?_), r1, r2, r3, rr⟩
      obtain rfl : us = #[] := Data.fields.inj (r2.symm.trans z)
      simp at r3
    · obtain ⟨m, o, b1, b2, b3, b4, b5, b6⟩ := bm
      have n1 : m ≠ mainGlobals := fun z => by
        obtain ⟨o2, es, ep, e2, d2, _⟩ := gl
        rw [z, e2] at b3; cases b3
        exact nomatch d2.symm.trans b6
      have n2 : m ≠ p.2 := fun z => by
        rw [z, tb p hp] at b3; cases b3; cases b6
      exact ⟨m, o, b1, b2, n1, n2, hidT_get b3 (off b3 (fun _ _ z => nomatch b6.symm.trans z) fun z => nomatch b6.symm.trans z), b4, b5, b6⟩
    · obtain ⟨o2, es, ep, e2, d2, _⟩ := gl
      rw [z, tb p hp] at e2; cases e2; cases d2
  have sq : SqL K H a (ns.map V.int) := by
    cases q : K.lookup a with
    | none =>
      refine .inl (.inr ⟨{ cls := .type "list", data := .seq vs.toArray }, ?_⟩)
      rw [eH]
      exact (if_neg aT).trans (if_pos ⟨rfl, q⟩)
    | some o =>
      have z := (kin a o q).symm.trans sc
      cases z
      exact .inr ⟨_, vs.toArray, _, q, rfl, rfl, rfl, by rw [List.size_toArray, iv.length]; exact few, by simpa using vals_ints iv⟩
  have hok : HOk P w H s1.heap := fun b u e => by
    rcases cases_ b with z | ⟨z, _, z3⟩ | z
    · rw [hT b z] at e; cases e; exact objT b z
    · rw [z3] at e; cases e
      rw [z]
      exact ⟨sc, by rw [List.length_map]; exact few, vs, _, vals_ints iv, sc⟩
    · rw [z.2] at e; cases e
  have e0 : Env0 P w K mg (hidT s1.heap H) callerA [] s1 H := ⟨rfl, ⟨kinB, ns_ gl, ⟨mb, ns_ bl, boot⟩, let ⟨mc, l1, l2⟩ := lim; ⟨mc, ns_ l1, l2⟩⟩, fun b o e => of_hidT e, Nat.le_of_eq (hidT_size _ _), trivial, fun b hb => (List.not_mem_nil hb).elim, hok, .of_eq gn⟩
  refine codeAny_mono ((F _ kinB (ns_ gl) tabB).run callerA [] s1 H ⟨[.ref a], []⟩ [.ref a] [.ref a] _ _ rfl rm e0 (bt s1 (.ref a)) (.cons rfl .nil) (ask H (fun p hp => hT _ (inT p hp)) sq)) fun r s2 z => ?_
  cases r with
  | error e => exact (noE H e s2 z).elim
  | ok fl =>
    cases fl with
    | next => exact (show False from z).elim
    | brk => exact (show False from z).elim
    | cont => exact (show False from z).elim
    | ret u =>
      obtain ⟨v, H2, os, bare, un, hok2, rv, q⟩ := z
      have q : v = .bl true := q
      subst q
      obtain rfl : u = Value.bool true := rv
      have stay : ∀ b o, b ∉ ts → s1.heap.get? b = some o → s2.heap.get? b = some o := fun b o nb e => by
        rcases cases_ b with z | ⟨_, _, z3⟩ | z
        · exact absurd z nb
        · have f1 := (hok b _ z3).1
          have f2 := (hok2 b _ (un.frzs b _ _ z3)).1
          rw [f1] at e
          rw [f2, ← e]
        · exact un.keep b o e z.2 (fun y => List.not_mem_nil (show b ∈ ([] : List Addr) from y)) (fun y => List.not_mem_nil y)
      have grow : ∀ b ∈ ts, ∃ more : Array Value, s2.heap.get? b = some { cls := .none, data := .fields more } := fun b hb => let ⟨more, z⟩ := un.tbls b #[] (hT b hb); ⟨_, hok2 b _ z⟩
      refine ⟨rfl, ⟨fun b o e => ?_, fun b o e => ?_⟩, os, bare⟩
      · by_cases hb : b ∈ ts
        · obtain ⟨p, hp, ep⟩ := ofT b hb
          obtain ⟨more, hm⟩ := grow b hb
          have e2 := (objT b hb).symm.trans e
          cases e2
          refine .inr (.inl ⟨?_, rfl, #[], more, rfl, by rw [Array.empty_append]; exact hm⟩)
          rw [← ep]
          exact ((hd p hp).tab (tb p hp)).isCodeTable
        · exact .inl (stay b o hb e)
      · by_cases hb : b ∈ ts
        · exact let ⟨more, hm⟩ := grow b hb; ⟨_, hm⟩
        · exact ⟨o, stay b o hb e⟩
def LawAtG (l : PySem.W.OpenLaw) (w : World) (K : PySem.W.Frag) (CX : CXT) (k n : Nat) (x : Str) (mg : Str → Option Value) (fa : Addr) (h : Heap) : Prop :=
  ∃ (fd : FuncData) (cs : List (Addr × Addr)) (sp : Sp), (∀ p ∈ cs, h.get? p.2 = some { cls := .none, data := .fields #[] } ∧ K.lookup p.2 = none ∧ PySem.W.CodeHd h p.1 p.2) ∧ (∀ (s : Shared) (u : Value), BindsTo s fd ⟨[u], []⟩ [(x, u)]) ∧
    (∀ (H : Hp) (a : Addr) (ns : List Int), ns.length ≤ n → (∀ p ∈ cs, H p.2 = some (.tbl #[])) → SqL K H a (ns.map V.int) → sp [.ref a] H (fun v _ => v = .bl true) fun _ _ _ => False) ∧
    ∀ base : Heap, K.In base → base.Ns mainGlobals mg → (∀ p ∈ cs, LamX.TabB base mg p.1 p.2) → FnG l.prog w K mg base CX k fa fd [x] sp
theorem walk_ofG {l : PySem.W.OpenLaw} {n k : Nat} {q : Program} {loose : List Str} {XP : (Str → Option Value) → Heap → Prop} {YP : World → Heap → Prop} {d : DefRec} {K : Params → PySem.W.Frag} {CX : World → CXT} {x : Str}
    (most : l.most = some n) (small : n ≤ sizeLine) (nodf : d.params.defaults = []) (rm : Room k callerA) (says : ∀ (w : World) (h : Heap), YP w h → (K w.params).In h)
    (F : ∀ (w : World) (mg : Str → Option Value) (fa : Addr) (h : Heap), YP w h → (K w.params).In h → h.Ns mainGlobals mg → mg d.name = some (.ref fa) →
      (∀ (y : Str) (e : DefRec) (c P : Addr), (recsOf q).find? (fun e => e.name == y) = some e → PySem.W.tabIn (K w.params) y = some (c, P) → PySem.W.CodeHd h c P ∧ h.get? P = some { cls := .none, data := .fields #[] }) → LawAtG l w (K w.params) (CX w) k n x mg fa h)
    (noE : ∀ (w : World) (H : Hp) (s : Shared) (e : Value) (s2 : Shared), CX w [] H s (fun _ _ _ => False) e s2 → False) : PySem.W.WalkO q loose XP YP l.row.toRowW d [] (fun f vs => PySem.call f vs) :=
  Att.attach_callB most nodf fun w _ s1 mg mb fa _ _ _ _ a vs ns G Y _ _ _ at_ sc iv few _ gn => by
    have kin := says w _ Y
    obtain ⟨fd, cs, sp, T, bt, ask, FF⟩ := F w mg fa _ Y kin G.T.g at_ fun y e c P e1 e2 => PySem.W.tab_of G.T kin e1 e2
    exact law_callG kin G.T.g G.T.b G.T.builtins G.T.nolimit gn (fun p hp => (T p hp).1) (fun p hp => (T p hp).2.1) (fun p hp => (T p hp).2.2) G.T.bmain sc iv (Nat.le_trans few small) rm FF bt (fun H tH sH => ask H a ns few tH sH) fun H e s2 => noE w H s1 e s2
end Vw

set_option Elab.async false
set_option linter.all false
set_option maxRecDepth 100000
set_option maxHeartbeats 4000000
namespace Vw
open PySem PySem.Spec PyProof.Rows L2 RT
/-! ### d.update(e) -/
def rUpd : V → List V → Hp → VK → Prop := fun x vs H Q => ∃ d e kvs more, x = .ref d ∧ vs = [.ref e] ∧ H d = some (.dK kvs) ∧ H e = some (.dK more) ∧ d ≠ e ∧ kvs.length + more.length ≤ 10000 ∧ Q .non (upd H d (.dK (mergeK kvs more)))
theorem mt_upd {X : Cx} : MtR X "dict.update" rUpd := by
  intro pins s σ H x vs v us Q I rx rv h
  obtain ⟨d, e, kvs, more, rfl, rfl, hd, he, hne, hz, q⟩ := h
  cases rx
  obtain ⟨u, rfl, ru⟩ := rv.one
  cases ru
  obtain ⟨z, lo, va, rel, dd⟩ := dk_of I.hok hd
  obtain ⟨z2, lo2, vb, rel2, dd2⟩ := dk_of I.hok he
  have big : (10000 : Nat) ≤ sizeLine := by decide
  have l1 := rel.length
  have l2 := rel2.length
  refine call_meetsIn PySem.F.slot_dict_update dd.typeIs PySem.F.entry_dict_update (PySem.F.args_dict_update_2 _ _) (meets_dict_update (mixKind X.prog X.w) d e hne lo2)
    ⟨va, vb, dd, dd2, by omega, fun h' dd' _ hs => ?_⟩
  have he' : ∃ q, h'.get? d = some q := let ⟨q, _, _, hq, _⟩ := dd'; ⟨q, hq⟩
  have hlen : (mergeK kvs more).length ≤ sizeLine := by
    have := length_mergeK more kvs
    omega
  exact ⟨.non, _, d_write (t' := s.toks) I (by rw [hd]; exact True.intro) hs he' (dk_new hlen lo (KV.merge rel2 rel) dd'), rfl, q⟩
theorem peUpd {X : Cx} {K : PySem.W.Frag} {o ex : Expr} {to te : TE} {apos cpos : Pos} {r : V → List V → Hp → VK → Prop} (h : PE X (.Call (.Attribute o "update" apos) [ex] [] cpos) (tBM X.K "dict" r to (tCons te tNil))) (e : X.K = K := by rfl) :
    PE X (.Call (.Attribute o "update" apos) [ex] [] cpos) (tBM K "dict" r to (tCons te tNil)) := by cases e; exact h
theorem ty_dK {K : PySem.W.Frag} {a : Addr} {H : Hp} {kvs : List (Key × V)} (h : H a = some (.dK kvs)) : tyV K "dict" (.ref a) H := .inr (.inr (.inl ⟨rfl, .inl ⟨kvs, h⟩⟩))
theorem o_upd {H : Hp} {d e : Addr} {kvs more : List (Key × V)} {Q : VK} (hd : H d = some (.dK kvs)) (he : H e = some (.dK more)) (ne : d ≠ e) (l : kvs.length + more.length ≤ 10000) (q : ∀ H2, Oth d H H2 → H2 d = some (.dK (mergeK kvs more)) → Q .non H2) : rUpd (.ref d) [.ref e] H Q :=
  ⟨d, e, kvs, more, rfl, rfl, hd, he, ne, l, q _ (fun b o nb z => by rw [upd_ne nb]; exact z) upd_same⟩
theorem upd_len {kvs more : List (Key × V)} (h : kvs.length + more.length ≤ 10000) : kvs.length + (mergeK [] more).length ≤ 10000 := by
  have := length_mergeK more []
  rw [List.length_nil] at this
  omega
/-! ### {k: v, ..} -/
def DispE (p : Addr) (Q : VK) (ps : List (V × V)) (H2 : Hp) : Prop := H2 p = some (.dK []) ∧ ∃ kvs : List (Key × V), ps = kvs.map (fun kv => (kV kv.1, kv.2)) ∧ kvs.length ≤ 15 ∧ Q (.ref p) (upd H2 p (.dK (mergeK [] kvs)))
theorem e_disp {trs : List (TE × TE)} {σ : L2.St} {H : Hp} {Q : VK} (h : ∀ p H1, H p = none → Same H H1 → H1 p = some (.dK []) → tPairs trs σ H1 (DispE p Q)) : tDisp trs σ H Q := fun p n => h p _ n (Same.new n) upd_same
theorem disp_end {p : Addr} {Q : VK} {ps : List (V × V)} {H2 : Hp} (kvs : List (Key × V)) (h : H2 p = some (.dK [])) (e : ps = kvs.map (fun kv => (kV kv.1, kv.2))) (l : kvs.length ≤ 15) (q : ∀ H3, Oth p H2 H3 → H3 p = some (.dK (mergeK [] kvs)) → Q (.ref p) H3) : DispE p Q ps H2 :=
  ⟨h, kvs, e, l, q _ (fun b o nb z => by rw [upd_ne nb]; exact z) upd_same⟩
/-! ### repr of data without dicts -/
namespace Rp
mutual
def okD : PyData → Bool
  | .none => true
  | .bool _ => true
  | .int i => decide (i.natAbs < 10 ^ 39)
  | .str x => x.cps.all (· < 0x110000)
  | .list xs => okAll xs
  | .tuple xs => okAll xs
  | .dict _ => false
def okAll : List PyData → Bool
  | [] => true
  | x :: xs => okD x && okAll xs
end
theorem okAll_of {xs : List PyData} (h : ∀ x ∈ xs, okD x = true) : okAll xs = true := by
  induction xs with
  | nil => rfl
  | cons x xs ih =>
    show (okD x && okAll xs) = true
    rw [h x (by simp), ih fun y hy => h y (List.mem_cons_of_mem _ hy)]; rfl
theorem log_lt {n : Nat} (h : n < 10 ^ 39) : n.log2 < 1920 := by
  by_cases z : n = 0
  · subst z; decide
  · refine (Nat.log2_lt z).mpr (Nat.lt_of_lt_of_le h ?_)
    decide +kernel
mutual
theorem ok_facts : ∀ d : PyData, okD d = true → d.canLay0 = true ∧ d.showable = true ∧ d.intsShort 40 = true
  | .none, _ => ⟨rfl, by simp only [PyData.showable], rfl⟩
  | .bool _, _ => ⟨rfl, by simp only [PyData.showable], rfl⟩
  | .int i, h => by
    have h : i.natAbs < 10 ^ 39 := of_decide_eq_true h
    refine ⟨rfl, by simp only [PyData.showable, decide_eq_true (log_lt h)], ?_⟩
    show decide ((PyData.shown (.int i)).length ≤ 40) = true
    refine decide_eq_true ?_
    show (Str.ofString (toString i)).length ≤ 40
    rw [PySem.ofString_length]
    exact int_text_length_le10 (k := 39) (by decide) h
  | .str x, h => ⟨h, by simp only [PyData.showable], rfl⟩
  | .list xs, h => by
    obtain ⟨a, b, c⟩ := okAll_facts xs h
    exact ⟨by simpa only [PyData.canLay0] using a, by simpa only [PyData.showable] using b, by simpa only [PyData.intsShort] using c⟩
  | .tuple xs, h => by
    obtain ⟨a, b, c⟩ := okAll_facts xs h
    exact ⟨by simpa only [PyData.canLay0] using a, by simpa only [PyData.showable] using b, by simpa only [PyData.intsShort] using c⟩
  | .dict _, h => nomatch h
theorem okAll_facts : ∀ xs : List PyData, okAll xs = true → PyData.canLayAll0 xs = true ∧ PyData.showableAll xs = true ∧ PyData.intsShortAll 40 xs = true
  | [], _ => ⟨rfl, by simp only [PyData.showableAll], rfl⟩
  | x :: xs, h => by
    have h : (okD x && okAll xs) = true := h
    rw [Bool.and_eq_true] at h
    obtain ⟨a, b, c⟩ := ok_facts x h.1
    obtain ⟨a2, b2, c2⟩ := okAll_facts xs h.2
    exact ⟨by simp only [PyData.canLayAll0, a, a2, Bool.and_self], by simp only [PyData.showableAll, b, b2, Bool.and_self], by simp only [PyData.intsShortAll, c, c2, Bool.and_self]⟩
end
theorem ok_fits {d : PyData} (h : okD d = true) (w : d.weight ≤ 390000) : d.shown.length ≤ sizeLine := by
  obtain ⟨a, b, c⟩ := ok_facts d h
  have := PyData.shown_le 40 (by decide) d (PyData.leavesShort_of_canLay0 40 d a c)
  rw [sizeLine_eq]
  omega
theorem weight_all {m : Nat} : ∀ {xs : List PyData}, (∀ x ∈ xs, x.weight + 1 ≤ m) → PyData.weightAll xs ≤ m * xs.length
  | [], _ => by simp only [PyData.weightAll]; omega
  | x :: xs, h => by
    have h1 := h x (by simp)
    have h2 := weight_all (xs := xs) fun y hy => h y (List.mem_cons_of_mem _ hy)
    simp only [PyData.weightAll, List.length_cons]
    rw [Nat.mul_add, Nat.mul_one]
    omega
theorem weight_int {i : Int} (h : i.natAbs < 10 ^ 39) : (PyData.int i).weight ≤ 130 := by
  show (if i == 0 then 0 else i.natAbs.log2 + 1) ≤ 130
  split
  · omega
  · next z =>
    have z0 : i.natAbs ≠ 0 := by
      intro e
      exact z (by rw [Int.natAbs_eq_zero.mp e]; rfl)
    have : i.natAbs.log2 < 130 := (Nat.log2_lt z0).mpr (Nat.lt_of_lt_of_le h (by decide +kernel))
    omega
end Rp
/-- repr(x) of data -/
def rRepr (K : PySem.W.Frag) : List V → Hp → VK → Prop := fun vs H Q => ∃ a d, vs = [.ref a] ∧ Dp K H (.ref a) d ∧ Rp.okD d = true ∧ d.depth ≤ 20 ∧ d.weight ≤ 390000 ∧ Q (.str d.shown) H
theorem call_reprG {X : Cx} (gd : X.A.guards = some []) (hu : X.A.units + 64 < cLine) : CallR X (.builtin "repr") (rRepr X.K) := by
  intro pins s σ H xs us Q I r h
  obtain ⟨a, d, rfl, hd, ok, dp, hw, q⟩ := h
  obtain rfl := Vals.ref1 r
  obtain ⟨as, rd⟩ := Dp.reads I d (.ref a) (.ref a) hd rfl
  obtain ⟨cl, sh, _⟩ := Rp.ok_facts d ok
  exact repr_of_reads' rd sh (PyData.noDict_hsm (PyData.hasDict_of_canLay d cl)) gd (by omega) (fun _ _ z => z) (fun h' u tk k => ⟨.str d.shown, H, I.kept (t' := tk) k, ⟨u, rfl⟩, q⟩) (Rp.ok_fits ok hw)
theorem cReprG {K : PySem.W.Frag} {X : Cx} (gd : X.A.guards = some []) (hu : X.A.units + 64 < cLine) (e : X.K = K := by rfl) : CallR X (.builtin "repr") (rRepr K) := by cases e; exact call_reprG gd hu
end Vw

set_option Elab.async false
set_option linter.all false
set_option maxRecDepth 100000
set_option maxHeartbeats 1000000
namespace Vw
open PySem PySem.Spec PyProof.Rows L2 RT
/-! ### data, dicts among them -/
def keyD : Key → PyData
  | .inl i => .int i
  | .inr x => .str x
mutual
inductive Dq (K : PySem.W.Frag) (N : Addr → Prop) (H : Hp) : V → PyData → Prop
  | non : Dq K N H .non .none
  | bl (b : Bool) : Dq K N H (.bl b) (.bool b)
  | int (i : Int) : Dq K N H (.int i) (.int i)
  | str (x : Str) : Dq K N H (.str x) (.str x)
  | lst {a : Addr} {xs : List V} {ds : List PyData} : SqL K H a xs → N a → DqAll K N H xs ds → Dq K N H (.ref a) (.list ds)
  | tup {a : Addr} {xs : List V} {ds : List PyData} : SqT K H a xs → DqAll K N H xs ds → Dq K N H (.ref a) (.tuple ds)
  | dct {a : Addr} {kvs : List (Key × V)} {D : List (PyData × PyData)} : H a = some (.dK kvs) → N a → D.map (·.1) = kvs.map (fun p => keyD p.1) → DqAll K N H (kvs.map (·.2)) (D.map (·.2)) → Dq K N H (.ref a) (.dict D)
inductive DqAll (K : PySem.W.Frag) (N : Addr → Prop) (H : Hp) : List V → List PyData → Prop
  | nil : DqAll K N H [] []
  | cons {v : V} {vs : List V} {d : PyData} {ds : List PyData} : Dq K N H v d → DqAll K N H vs ds → DqAll K N H (v :: vs) (d :: ds)
end
section
variable {X : Cx} {pins : List (Addr × Obj)} {σ : L2.St} {H : Hp} {s : Shared} {N : Addr → Prop}
theorem keys_read {P : Program} {w : World} {h : Heap} : ∀ {es : List DictEntry} {kvs : List (Key × V)} {vs : List (Key × Value)}, Pairs (mixKind P w) es vs → KV kvs vs → ReadsAll h (es.map (·.key)) (kvs.map fun p => keyD p.1) [] ∧ Vals (kvs.map (·.2)) (es.map (·.val))
  | _, _, _, .nil, r => by
    cases r
    exact ⟨.nil, .nil⟩
  | e :: es, _, _, .cons h1 h2 p, r => by
    cases r with
    | @cons a b l1 l2 r1 r =>
    obtain ⟨e1, e2⟩ := r1
    obtain ⟨q1, q2⟩ := keys_read p r
    refine ⟨?_, .cons (by show L2.RelV a.2 e.val; rw [h2]; exact e2) q2⟩
    rw [← e1] at h1
    rcases keyIs_shape h1 with ⟨i, t, z1, z2⟩ | ⟨x, t, z1, z2⟩
    · show ReadsAll h (e.key :: _) (keyD a.1 :: _) ([] ++ [])
      rw [z1, z2]
      exact .cons (.int i t) q1
    · show ReadsAll h (e.key :: _) (keyD a.1 :: _) ([] ++ [])
      rw [z1, z2]
      exact .cons (.str x t) q1
/-- the place of the modules' dict is known -/
def SysK (K : PySem.W.Frag) : Prop := ∃ o, K.lookup sysModules = some o ∧ o.cls = .type "dict"
mutual
theorem Dq.reads (I : Inv X pins σ H s) (S : SysK X.K) : ∀ (d : PyData) (v : V) (u : Value), Dq X.K N H v d → RelV v u → ∃ as, Reads s.heap u d as ∧ sysModules ∉ as
  | .none, _, _, h, r => by
    cases h
    cases r
    exact ⟨_, Reads.none, by simp⟩
  | .bool b, _, _, h, r => by
    cases h
    cases r
    exact ⟨_, Reads.bool b, by simp⟩
  | .int i, _, _, h, r => by
    cases h
    obtain ⟨t, rfl⟩ := r
    exact ⟨_, Reads.int i t, by simp⟩
  | .str x, _, _, h, r => by
    cases h
    obtain ⟨t, rfl⟩ := r
    exact ⟨_, Reads.str x t, by simp⟩
  | .list ds, _, _, h, r => by
    cases h with
    | lst hs _ ha =>
      cases r
      obtain ⟨its, rv, ⟨o, n, ho, hc, _, hd⟩, _⟩ := I.list hs
      obtain ⟨as, hr, nm⟩ := Dq.readsAll I S ds _ its ha rv
      refine ⟨_, Reads.list ho hc hd hr, fun m => (List.mem_cons.mp m).elim (fun z => ?_) nm⟩
      obtain ⟨o2, l2, c2⟩ := S
      have := I.kIn _ o2 l2
      rw [z, ho] at this
      cases this
      rw [hc] at c2
      exact absurd c2 (by decide)
  | .tuple ds, _, _, h, r => by
    cases h with
    | tup hs ha =>
      cases r
      obtain ⟨its, rv, ⟨o, ho, hc, n, hd⟩, _⟩ := I.tuple hs
      obtain ⟨as, hr, nm⟩ := Dq.readsAll I S ds _ its ha rv
      exact ⟨_, Reads.tuple ho hc hd hr, nm⟩
  | .dict D, _, _, h, r => by
    cases h with
    | @dct a kvs _ hd _ hk hv =>
      cases r
      obtain ⟨_, ne, vs, kv, o, es, ep, ho, hc, hdt, _, hp, _⟩ := dk_of I.hok hd
      obtain ⟨k1, k2⟩ := keys_read (h := s.heap) hp kv
      obtain ⟨bs, hr, nm⟩ := Dq.readsKv I S D _ _ hv k2
      rw [← hk] at k1
      refine ⟨_, Reads.dict ho hc.1 hdt k1 hr, fun m => ?_⟩
      rcases List.mem_append.mp m with m | m
      · rcases List.mem_cons.mp m with z | z
        · rw [← z] at ne
          simp at ne
        · cases z
      · exact nm m
theorem Dq.readsKv (I : Inv X pins σ H s) (S : SysK X.K) : ∀ (D : List (PyData × PyData)) (vs : List V) (us : List Value), DqAll X.K N H vs (D.map (·.2)) → Vals vs us → ∃ as, ReadsAll s.heap us (D.map (·.2)) as ∧ sysModules ∉ as
  | [], _, _, h, r => by
    cases h
    cases r
    exact ⟨_, ReadsAll.nil, by simp⟩
  | (k, d) :: D, _, _, h, r => by
    cases h with
    | cons h1 h2 =>
      cases r with
      | cons r1 r2 =>
        obtain ⟨as, q1, n1⟩ := Dq.reads I S d _ _ h1 r1
        obtain ⟨bs, q2, n2⟩ := Dq.readsKv I S D _ _ h2 r2
        exact ⟨_, ReadsAll.cons q1 q2, fun m => (List.mem_append.mp m).elim n1 n2⟩
theorem Dq.readsAll (I : Inv X pins σ H s) (S : SysK X.K) : ∀ (ds : List PyData) (vs : List V) (us : List Value), DqAll X.K N H vs ds → Vals vs us → ∃ as, ReadsAll s.heap us ds as ∧ sysModules ∉ as
  | [], _, _, h, r => by
    cases h
    cases r
    exact ⟨_, ReadsAll.nil, by simp⟩
  | d :: ds, _, _, h, r => by
    cases h with
    | cons h1 h2 =>
      cases r with
      | cons r1 r2 =>
        obtain ⟨as, q1, n1⟩ := Dq.reads I S d _ _ h1 r1
        obtain ⟨bs, q2, n2⟩ := Dq.readsAll I S ds _ _ h2 r2
        exact ⟨_, ReadsAll.cons q1 q2, fun m => (List.mem_append.mp m).elim n1 n2⟩
end
end
/-- repr(x) of data, dicts among them -/
def rReprA (K : PySem.W.Frag) : List V → Hp → VK → Prop := fun vs H Q => ∃ x N d, vs = [x] ∧ Dq K N H x d ∧ d.showable = true ∧ d.depth ≤ 40 ∧ d.shown.length ≤ sizeLine ∧ Q (.str d.shown) H
theorem call_reprA {X : Cx} (S : SysK X.K) (gd : X.A.guards = some []) (hu : X.A.units + 64 < cLine) : CallR X (.builtin "repr") (rReprA X.K) := by
  intro pins s σ H xs us Q I r h
  obtain ⟨x, N, d, rfl, hd, sh, dp, sz, q⟩ := h
  obtain ⟨u, rfl, rv⟩ := vals1 r
  have big : ∀ {a : Addr}, u = .ref a → Dq X.K N H x d → wpAny (model X.prog X.w) X.A (call (.builtin "repr") [u]) (EP X pins σ Q) X.xe s := fun {a} e hd => by
    obtain ⟨as, rd, nm⟩ := Dq.reads I S d x u hd rv
    rw [e] at rd ⊢
    exact repr_of_reads' rd sh (fun _ => nm) gd (by omega) (fun _ _ z => z) (fun h' u tk k => ⟨.str d.shown, H, I.kept (t' := tk) k, ⟨u, rfl⟩, q⟩) sz
  cases hd with
  | non =>
    cases rv
    exact P.repr_of_none ⟨.str _, H, I.tok _, ⟨_, rfl⟩, q⟩
  | bl b =>
    cases rv
    exact P.repr_of_bool ⟨.str _, H, I.tok _, ⟨_, rfl⟩, q⟩
  | int i =>
    obtain ⟨t, rfl⟩ := rv
    exact P.repr_of_int (by simpa [PyData.showable] using sh) ⟨.str _, H, I.tok _, ⟨_, rfl⟩, q⟩
  | str z =>
    obtain ⟨t, rfl⟩ := rv
    exact P.repr_of_str ⟨.str _, H, I.tok _, ⟨_, rfl⟩, q⟩ sz
  | lst a c b => cases rv; exact big rfl (.lst a c b)
  | tup a b => cases rv; exact big rfl (.tup a b)
  | dct a z b c => cases rv; exact big rfl (.dct a z b c)
theorem cReprA {K : PySem.W.Frag} {X : Cx} (S : SysK K) (gd : X.A.guards = some []) (hu : X.A.units + 64 < cLine) (e : X.K = K := by rfl) : CallR X (.builtin "repr") (rReprA K) := by cases e; exact call_reprA S gd hu
/-! ### what keeps data -/
section
variable {K : PySem.W.Frag} {N : Addr → Prop} {H H' : Hp}
mutual
theorem Dq.mv (k1 : ∀ a xs, N a → SqL K H a xs → SqL K H' a xs) (k2 : ∀ a xs, SqT K H a xs → SqT K H' a xs) (k3 : ∀ a kvs, N a → H a = some (.dK kvs) → H' a = some (.dK kvs)) : ∀ (d : PyData) (x : V), Dq K N H x d → Dq K N H' x d
  | .none, _, h => by cases h; exact .non
  | .bool _, _, h => by cases h; exact .bl _
  | .int _, _, h => by cases h; exact .int _
  | .str _, _, h => by cases h; exact .str _
  | .list ds, _, h => by
    cases h with
    | lst a n b => exact .lst (k1 _ _ n a) n (Dq.mvAll k1 k2 k3 ds _ b)
  | .tuple ds, _, h => by
    cases h with
    | tup a b => exact .tup (k2 _ _ a) (Dq.mvAll k1 k2 k3 ds _ b)
  | .dict D, _, h => by
    cases h with
    | dct a n b c => exact .dct (k3 _ _ n a) n b (Dq.mvKv k1 k2 k3 D _ c)
theorem Dq.mvKv (k1 : ∀ a xs, N a → SqL K H a xs → SqL K H' a xs) (k2 : ∀ a xs, SqT K H a xs → SqT K H' a xs) (k3 : ∀ a kvs, N a → H a = some (.dK kvs) → H' a = some (.dK kvs)) : ∀ (D : List (PyData × PyData)) (xs : List V), DqAll K N H xs (D.map (·.2)) → DqAll K N H' xs (D.map (·.2))
  | [], _, h => by cases h; exact .nil
  | (_, d) :: D, _, h => by
    cases h with
    | cons a b => exact .cons (Dq.mv k1 k2 k3 d _ a) (Dq.mvKv k1 k2 k3 D _ b)
theorem Dq.mvAll (k1 : ∀ a xs, N a → SqL K H a xs → SqL K H' a xs) (k2 : ∀ a xs, SqT K H a xs → SqT K H' a xs) (k3 : ∀ a kvs, N a → H a = some (.dK kvs) → H' a = some (.dK kvs)) : ∀ (ds : List PyData) (xs : List V), DqAll K N H xs ds → DqAll K N H' xs ds
  | [], _, h => by cases h; exact .nil
  | d :: ds, _, h => by
    cases h with
    | cons a b => exact .cons (Dq.mv k1 k2 k3 d _ a) (Dq.mvAll k1 k2 k3 ds _ b)
end
theorem Dq.same {d : PyData} {x : V} (h : Dq K N H x d) (s : Same H H') : Dq K N H' x d := Dq.mv (fun _ _ _ => sl_ s) (fun _ _ => st_ s) (fun _ _ _ z => s _ _ z) d x h
theorem DqAll.same {ds : List PyData} {xs : List V} (h : DqAll K N H xs ds) (s : Same H H') : DqAll K N H' xs ds := Dq.mvAll (fun _ _ _ => sl_ s) (fun _ _ => st_ s) (fun _ _ _ z => s _ _ z) ds xs h
theorem DqAll.len : ∀ {ds : List PyData} {xs : List V}, DqAll K N H xs ds → xs.length = ds.length
  | [], _, h => by cases h; rfl
  | d :: ds, _, h => by
    cases h with
    | cons a b => rw [List.length_cons, List.length_cons, b.len]
theorem DqAll.get : ∀ {ds : List PyData} {xs : List V} {i : Nat} {x : V}, DqAll K N H xs ds → xs[i]? = some x → ∃ d, ds[i]? = some d ∧ Dq K N H x d
  | [], _, i, x, h, e => by cases h; cases e
  | d :: ds, _, i, x, h, e => by
    cases h with
    | cons a b =>
      cases i with
      | zero => cases e; exact ⟨d, rfl, a⟩
      | succ i => exact b.get e
def tyD : PyData → String
  | .none => "NoneType" | .bool _ => "bool" | .int _ => "int" | .str _ => "str" | .list _ => "list" | .tuple _ => "tuple" | .dict _ => "dict"
theorem dq_ty {d : PyData} {x : V} (h : Dq K N H x d) : TyX K H x (.type (tyD d)) := by
  cases h with
  | non => exact .base .non
  | bl b => exact .base (.bl b)
  | int i => exact .base (.int i)
  | str z => exact .base (.str z)
  | lst a n b => exact tyx_sl a
  | tup a b => exact tyx_st a
  | dct a n b c => exact .base (.dK a)
theorem dq_isi {d : PyData} {x : V} {n : String} {Q : VK} (b : Bool) (h : Dq K N H x d) (e : kitB (tyD d) n = some b) (q : Q (.bl b) H) : rIsi K [x, .ty n] H Q := isi_ (dq_ty h) e q
end
end Vw

set_option Elab.async false
set_option linter.all false
set_option maxRecDepth 100000
set_option maxHeartbeats 1000000
namespace Vw
open PySem PySem.Spec PyProof.Rows L2 RT
/-! ### three lists side by side -/
/-- the lists that lie at three places -/
structure Tri (K : PySem.W.Frag) (H : Hp) (a b c : Addr) (xs ys us : List V) : Prop where
  one : SqL K H a xs
  two : SqL K H b ys
  three : SqL K H c us
theorem Tri.same {K : PySem.W.Frag} {H H' : Hp} {a b c : Addr} {xs ys us : List V} (t : Tri K H a b c xs ys us) (ss : Same H H') : Tri K H' a b c xs ys us := ⟨sl_ ss t.one, sl_ ss t.two, sl_ ss t.three⟩
/-- lists of one length, one from each at a turn -/
def ItTri (K : PySem.W.Frag) (a b c : Addr) : It where
  go := fun n H => ∃ xs ys us, Tri K H a b c xs ys us ∧ n < xs.length ∧ n < ys.length ∧ n < us.length
  yld := fun n H v H' => ∃ T x y u, v = .ref T ∧ H T = none ∧ H' = upd H T (.tup [x, y, u]) ∧ ∀ xs ys us, Tri K H a b c xs ys us → xs[n]? = some x ∧ ys[n]? = some y ∧ us[n]? = some u
  stop := fun n H => ∃ xs ys us, Tri K H a b c xs ys us ∧ xs.length = n ∧ ys.length = n ∧ us.length = n
/-- how the machine's own cells stand at a turn -/
structure TriAt (h : Heap) (z TI TO j k l a b c : Addr) (n : Nat) : Prop where
  zip : IsZip h z TI TO .none
  ins : IsTupOf3 h TI (.ref j) (.ref k) (.ref l)
  out : ∃ p q r, IsTupOf3 h TO p q r
  one : h.IsListIter j a n
  two : h.IsListIter k b n
  three : h.IsListIter l c n
section
variable {P : Program} {w : World} {K : PySem.W.Frag} {z TI TO j k l a b c : Addr}
theorem tri_mem {x : Addr} (h : x ∈ [z, TI, TO, j, k, l]) {p : Addr → Prop} (h1 : p z) (h2 : p TI) (h3 : p TO) (h4 : p j) (h5 : p k) (h6 : p l) : p x := by
  simp only [List.mem_cons, List.mem_nil_iff, or_false] at h
  rcases h with e | e | e | e | e | e <;> (rw [e]; assumption)
theorem TriAt.obj {h : Heap} {n : Nat} (t : TriAt h z TI TO j k l a b c n) {x : Addr} (hx : x ∈ [z, TI, TO, j, k, l]) : ∃ o, h.get? x = some o ∧ ∀ v, o.data ≠ .cell v := by
  have it : ∀ {y d : Addr} {m : Nat}, h.IsListIter y d m → ∃ o, h.get? y = some o ∧ ∀ v, o.data ≠ .cell v := fun q => by
    obtain ⟨o, e, _, d⟩ := q
    exact ⟨o, e, fun v e' => by rw [d] at e'; cases e'⟩
  obtain ⟨p, q, r, to⟩ := t.out
  exact tri_mem (p := fun y => ∃ o, h.get? y = some o ∧ ∀ v, o.data ≠ .cell v) hx ⟨_, t.zip, fun v e => nomatch e⟩ ⟨_, t.ins, fun v e => nomatch e⟩ ⟨_, to, fun v e => nomatch e⟩ (it t.one) (it t.two) (it t.three)
theorem TriAt.keep {h h' : Heap} {n : Nat} (t : TriAt h z TI TO j k l a b c n) (q : ∀ x ∈ [z, TI, TO, j, k, l], ∀ o, h.get? x = some o → h'.get? x = some o) : TriAt h' z TI TO j k l a b c n := by
  obtain ⟨t1, t2, ⟨p, r, s, t3⟩, t4, t5, t6⟩ := t
  exact ⟨q _ (by simp) _ t1, q _ (by simp) _ t2, ⟨p, r, s, q _ (by simp) _ t3⟩, t4.at (q _ (by simp)), t5.at (q _ (by simp)), t6.at (q _ (by simp))⟩
theorem turn_tri {elts : List Expr} {kk : Nat} {tpos : Pos} (S : ZipSep3 z TI TO j k l [j, a] [k, b] [l, c]) (na : a ≠ j) (nb : b ≠ k) (nc : c ≠ l) :
    Turn P w K (.Tuple elts kk tpos) (ItTri K a b c) [z, TI, TO, j, k, l] z (fun n h => TriAt h z TI TO j k l a b c n) where
  mem := by simp
  obj := fun n h t x hx => t.obj hx
  keep := fun n h h' t q => t.keep q
  item := by
    intro X hP hw hK hc n pins s σ H E I hf t hg
    subst hP hw hK
    obtain ⟨xs, ys, us, g, gx, gy, gu⟩ := hg
    obtain ⟨is1, r1, p1, _⟩ := I.list g.one
    obtain ⟨is2, r2, p2, _⟩ := I.list g.two
    obtain ⟨is3, r3, p3, _⟩ := I.list g.three
    have hd : X.A.in1.handled = none := I.ok.hd hc
    obtain ⟨t1, t2, ⟨q1, q2, q3, t3⟩, t4, t5, t6⟩ := id t
    refine wpAny_pyNext_zipD3_item (n1 := is1.toArray.size) (n2 := is2.toArray.size) (n3 := is3.toArray.size) (i := n) S (Draws.list hd j a na is1.toArray) (Draws.list hd k b nb is2.toArray) (Draws.list hd l c nc is3.toArray) t1 t2 t3
      ⟨t4, p1.isList⟩ ⟨t5, p2.isList⟩ ⟨t6, p3.isList⟩ (by have := r1.length; simp; omega) (by have := r2.length; simp; omega) (by have := r3.length; simp; omega) fun x y u h1 tk ex ey eu z1 o1 s1 s2 s3 new sz kp => ?_
    have ex' : is1[n]? = some x := by simpa using ex
    have ey' : is2[n]? = some y := by simpa using ey
    have eu' : is3[n]? = some u := by simpa using eu
    obtain ⟨x0, hx0, rx⟩ := r1.get (List.getElem?_eq_getElem gx)
    obtain ⟨y0, hy0, ry⟩ := r2.get (List.getElem?_eq_getElem gy)
    obtain ⟨u0, hu0, ru⟩ := r3.get (List.getElem?_eq_getElem gu)
    rw [ex'] at hx0; rw [ey'] at hy0; rw [eu'] at hu0
    cases hx0; cases hy0; cases hu0
    refine ⟨_, rfl, wpAny_letOwnedTupleGo_zip (s := { s with heap := h1, toks := tk }) z1 fun h2 z2 sb => ?_⟩
    have up : ∀ d o, d ∉ [z, TI, TO, j, k, l] → s.heap.get? d = some o → h2.get? d = some o := fun d o hn e => by
      simp only [List.mem_cons, List.mem_nil_iff, or_false, not_or] at hn
      exact (sb.2 d hn.1).trans (kp d o hn.1 hn.2.2.1 hn.2.2.2.1 hn.2.2.2.2.1 hn.2.2.2.2.2 e)
    have zlt : z < s.heap.objs.size := Heap.lt_size t1
    have cell : ObjOk X.prog X.w (upd H s.heap.objs.size (.tup [xs[n], ys[n], us[n]])) h2 s.heap.objs.size (.tup [xs[n], ys[n], us[n]]) :=
      ⟨by show 3 ≤ sizeLine; decide, [x, y, u], .cons rx (.cons ry (.cons ru .nil)), ⟨_, (sb.2 _ (Nat.ne_of_gt zlt)).trans new, rfl, _, rfl⟩⟩
    refine ⟨.ref s.heap.objs.size, _, I.turnedNew (t' := tk) (ch := [z, TI, TO, j, k, l]) up hf (Nat.le_refl _) cell, rfl, ⟨_, _, _, _, rfl, I.hok.fresh (Nat.le_refl _), rfl, fun xs' ys' us' g' => ?_⟩, ⟨z2, ?_, ⟨x, y, u, ?_⟩, ?_, ?_, ?_⟩, fun d hdm => ?_⟩
    · rw [I.list_inj g'.one g.one, I.list_inj g'.two g.two, I.list_inj g'.three g.three]
      exact ⟨List.getElem?_eq_getElem gx, List.getElem?_eq_getElem gy, List.getElem?_eq_getElem gu⟩
    · exact (sb.2 _ S.TIz).trans (kp _ _ S.TIz S.TITO S.TIi1 S.TIi2 S.TIi3 t2)
    · exact (sb.2 _ S.TOz).trans o1
    · exact s1.1.at fun o e => (sb.2 _ S.zi1.symm).trans e
    · exact s2.1.at fun o e => (sb.2 _ S.zi2.symm).trans e
    · exact s3.1.at fun o e => (sb.2 _ S.zi3.symm).trans e
    · obtain ⟨o, eo, _⟩ := t.obj hdm
      rw [upd_ne (Nat.ne_of_lt (Heap.lt_size eo))]
      exact (hf d hdm).1
  done := by
    intro X hP hw hK hc n pins s σ H E I hf t hg
    subst hP hw hK
    obtain ⟨xs, ys, us, g, gx, gy, gu⟩ := hg
    obtain ⟨is1, r1, p1, _⟩ := I.list g.one
    obtain ⟨is2, r2, p2, _⟩ := I.list g.two
    obtain ⟨is3, r3, p3, _⟩ := I.list g.three
    have hd : X.A.in1.handled = none := I.ok.hd hc
    obtain ⟨t1, t2, ⟨q1, q2, q3, t3⟩, t4, t5, t6⟩ := t
    refine wpAny_pyNext_zipD3_end (n1 := is1.toArray.size) (n2 := is2.toArray.size) (n3 := is3.toArray.size) (i := n) S (Draws.list hd j a na is1.toArray) (Draws.list hd k b nb is2.toArray) (Draws.list hd l c nc is3.toArray) t1 t2 t3
      ⟨t4, p1.isList⟩ ⟨t5, p2.isList⟩ ⟨t6, p3.isList⟩ (by have := r1.length; simp; omega) (by have := r2.length; simp; omega) (by have := r3.length; simp; omega) (.inl (by have := r1.length; simp; omega)) fun h1 tk kp => ⟨rfl, ?_⟩
    refine I.turnedL (t' := tk) (ch := [z, TI, TO, j, k, l]) (fun d o hn e => ?_) hf
    simp only [List.mem_cons, List.mem_nil_iff, or_false, not_or] at hn
    exact kp d o hn.1 hn.2.2.1 hn.2.2.2.1 hn.2.2.2.2.1 hn.2.2.2.2.2 e
  self := fun A n s Q E t q => wpAny_pyIter_zip t.zip q
end
/-- what three arguments give: the lists at their places -/
def TriQ (K : PySem.W.Frag) (R : It → Hp → Prop) (vs : List V) (H : Hp) : Prop := ∃ a b c xs ys us, vs = [V.ref a, V.ref b, V.ref c] ∧ Tri K H a b c xs ys us ∧ R (ItTri K a b c) H
def iTri (K : PySem.W.Frag) (ta : TA) : TI := fun σ H R => ta σ H (TriQ K R)
theorem piTri {X : Cx} {K : PySem.W.Frag} {e1 e2 e3 : Expr} {ta : TA} {p pos tpos : Pos} {elts : List Expr} {kk : Nat} (hg : Gl X "zip") (hm : X.mg "zip" = none) (ha : PA X [e1, e2, e3] ta) (eK : X.K = K := by rfl)
    (hs : starEach [e1, e2, e3] X.env = (false, eval e1 X.env) :: starEach [e2, e3] X.env := by rfl) (hb : ((backTo pos (starEach [e2, e3] X.env)).any fun x => x.fst) = false := by rfl) :
    PI X (.Tuple elts kk tpos) (.Call (.Name "zip" p) [e1, e2, e3] [] pos) (iTri K ta) := by
  subst eK
  refine ⟨fun pins s σ H R I h => Call_ (ld_blt I hg hm PyProof.Rows.boot_zip (PyProof.Rows.callWith_type1 (thn (ha.run pos pins s σ H _ I h) fun vs' s1 q => ?_) hs hb))⟩
  obtain ⟨vs, H1, I1, rel, a, b, c, xs, ys, us, ev, t, q⟩ := q
  subst ev
  cases rel with
  | cons ra rel =>
    cases rel with
    | cons rb rel =>
      cases rel with
      | cons rc rel =>
        cases rel; cases ra; cases rb; cases rc
        obtain ⟨is1, _, p1, _⟩ := I1.list t.one
        obtain ⟨is2, _, p2, _⟩ := I1.list t.two
        obtain ⟨is3, _, p3, _⟩ := I1.list t.three
        refine zip_begins3 (begins_list a is1.toArray) (begins_list b is2.toArray) (begins_list c is3.toArray) p1.isList p2.isList p3.isList fun h' hz hi ho h1 h2 h3 hsz hk => wpAny_pyIter_zip hz ?_
        have below : ∀ {d : Addr}, d < s1.heap.objs.size → ∀ x ∈ [d], x < s1.heap.objs.size := fun hd x hx => by rw [List.mem_singleton.mp hx]; exact hd
        have ne : ∀ {d : Addr} (m : Nat), d < s1.heap.objs.size → d ≠ s1.heap.objs.size + m := fun m hd e => by
          have e' : (_ : Nat) = s1.heap.objs.size + m := e
          have hd' : (_ : Nat) < s1.heap.objs.size := hd
          omega
        refine ⟨_, _, _, _, H1, rfl, I1.kept (t' := s1.toks) hk, turn_tri (zip_sep3 (below p1.lt) (below p2.lt) (below p3.lt)) (ne 0 p1.lt) (ne 1 p2.lt) (ne 2 p3.lt), ⟨hz, hi, ⟨_, _, _, ho⟩, ⟨_, h1, rfl, rfl⟩, ⟨_, h2, rfl, rfl⟩, ⟨_, h3, rfl, rfl⟩⟩, fun x hx => ?_, q⟩
        have up : ∀ m : Nat, s1.heap.objs.size ≤ s1.heap.objs.size + m := fun m => Nat.le_add_right _ _
        have le : s1.heap.objs.size ≤ x := tri_mem (p := fun x => s1.heap.objs.size ≤ x) hx (up 5) (up 3) (up 4) (up 0) (up 1) (up 2)
        exact I1.fpOk le (I1.hok.fresh le)
theorem i_tri {K : PySem.W.Frag} {R : It → Hp → Prop} {H : Hp} {a b c : Addr} {xs ys us : List V} (t : Tri K H a b c xs ys us) (q : R (ItTri K a b c) H) : TriQ K R [.ref a, .ref b, .ref c] H := ⟨a, b, c, xs, ys, us, rfl, t, q⟩
/-- a new triple of what stands at a turn in each -/
def YTri (xs ys us : List V) : Nat → Hp → V → Hp → Prop := fun n H v H' => ∃ T x y u, v = .ref T ∧ H T = none ∧ H' = upd H T (.tup [x, y, u]) ∧ xs[n]? = some x ∧ ys[n]? = some y ∧ us[n]? = some u
theorem walk_tri {K : PySem.W.Frag} {a b c : Addr} {xs ys us : List V} {n : Nat} (e1 : xs.length = n) (e2 : ys.length = n) (e3 : us.length = n) : Walk (ItTri K a b c) n (fun H => Tri K H a b c xs ys us) (YTri xs ys us) where
  goes := fun i H hi t => ⟨xs, ys, us, t, by omega, by omega, by omega⟩
  stops := fun H t => ⟨xs, ys, us, t, e1, e2, e3⟩
  yields := fun i H v H' _ t ⟨T, x, y, u, ev, hT, eH, g⟩ => ⟨T, x, y, u, ev, hT, eH, g xs ys us t⟩
end Vw

set_option Elab.async false
set_option linter.all false
set_option maxRecDepth 100000
set_option maxHeartbeats 1000000
namespace Vw
open PySem PySem.Spec PyProof.Rows L2 RT
/-! ### isinstance of a caught error, whether it has fields or none -/
section
open PySem.W PySem.Calls
variable {prog : Program} {w : World} {A : Around} {E : Value → Shared → Prop} {K : Frag} {x D : Addr} {ox : Obj} {od : Option Obj}
theorem own_class (C : ExcC K D) : findObj K D od "__class__" = some (.bind (.builtin "getset_descriptor.__get__") (.builtin "object.__class__")) := by
  obtain ⟨cd, ec, _⟩ := any_some C.hd
  unfold findObj
  rw [show (clsIn K D).bind _ = _ from congrArg (Option.bind · _) ec, Option.bind_some, C.ha, Option.bind_some]
  simp only [C.hn, C.ht, Option.bind_some]
theorem err_class {s : Shared} {Q : Option Value → Shared → Prop} (C : ExcC K D) (kin : K.In s.heap) (at_ : InstAt s.heap x ox D od) (q : Q (some (.ref D)) { s with toks := s.toks + 1 }) : wpAny (model prog w) A (getAttr? (.ref x) "__class__") Q E s := by
  obtain ⟨hp, g, d, t, os⟩ := s
  have type_is := at_.type (M := model prog w)
  have finds := looks_find (M := model prog w) kin at_ (own_class (od := od) C)
  have base : Looks (model prog w) hp (isInstance (.ref x) (.type "BaseException")) true := type_is.andThen (looks_subIn kin C.hs)
  have differ : (Value.builtin "BaseException.__getattribute__" == Value.builtin "object.__getattribute__") = false := by decide +kernel
  unfold getAttr? getAttrBy? getAttrBy
  refine wpAny_bind (wpAny_mkText (wpAny_bind (wpAny_attempt (wpAny_holding (wpAny_bind (type_is.at (wpAny_bind ((looks_findIn (M := model prog w) kin C.hg).at ?_))))))))
  dsimp only
  rw [show (onTheHeap (Value.ref D) && Value.builtin "BaseException.__getattribute__" == Value.builtin "object.__getattribute__") = false by rw [differ]; rfl, if_neg Bool.false_ne_true]
  unfold getAttrByItsOwn hookBefore
  rw [if_pos (show onTheHeap (Value.ref D) = true from rfl)]
  refine wpAny_bind ((looks_findIn (M := model prog w) kin C.hk).at (wpAny_bind (wpAny_attempt (wpAny_holding ?_))))
  unfold callGetattribute
  rw [show (false && onTheHeap (Value.builtin "BaseException.__getattribute__")) = false from rfl, if_neg Bool.false_ne_true]
  unfold boundAndCalled
  rw [PySem.F.excAttr_ValueError.ga.bind (.ref x)]
  refine wpAny_bind (wpAny_pure ?_)
  dsimp only
  refine (wpAny_call (codeAny_call_builtin PySem.F.excAttr_ValueError.ga.plain PySem.F.entry_bexc_ga ?_))
  refine @check_slot (model prog w) _ _ ⟨hp, g, d, t + 1, os⟩ _ "BaseException" "__getattribute__" (.ref x) [.str "__class__" t] [] _ (by decide +kernel) (by decide +kernel) base (PySem.F.args_bexc_ga (.ref x) (.str "__class__" t)) ?_
  unfold Builtin.«object.__getattribute__»
  refine wpAny_bind (wpAny_of_eq (a := ((Value.ref x : Value), [Value.str "__class__" t])) (by first | rfl | (simp only [slotArgs]; rfl)) (wpAny_bind (wpAny_pure (wpAny_bind (type_is.at (wpAny_bind (finds.at ?_)))))))
  dsimp only
  refine wpAny_bind (wpAny_holding (wpAny_call (class_get (s := ⟨hp, g, d, t + 1, os⟩) (ox := ox) (od := od) kin at_ C.hm (wpAny_pure ?_))))
  show wpAny _ _ (handedOut (.ref D)) _ _ _
  rw [handedOut_of (v := .ref D) rfl]
  first
    | exact wpAny_pure (wpAny_pure q)
    | exact wpAny_pure q
    | exact wpAny_pure (wpAny_bind (wpAny_pure (wpAny_pure q)))
theorem kit_any (C : ExcC K D) : KitX K (.ref x) (.ref D) (fun h => InstAt h x ox D od) where
  ty := fun _ _ _ at_ => at_.type
  it := fun M h kin _ => by
    obtain ⟨cd, ec, _⟩ := any_some C.hd
    unfold clsIn at ec
    split at ec
    · rename_i c' d' cd' sl' ho
      intro A' Q' E' s' k q
      unfold isType loadHead
      exact wpAny_bind (wpAny_loadPart (k _ _ (kin _ _ ho)) (wpAny_pure q))
    · cases ec
  ne := fun h tp dd its n sl kin htp => by
    refine Bool.eq_false_iff.mpr fun q => ?_
    obtain rfl : D = tp := Value.ref.inj (beq_iff_eq.mp q)
    obtain ⟨cd, ec, _⟩ := any_some C.hd
    unfold clsIn at ec
    split at ec
    · rename_i c' d' cd' sl' ho
      exact absurd ((kin _ _ ho).symm.trans htp) (fun z => nomatch z)
    · cases ec
  ca := fun kin at_ q => err_class C kin at_ q
end
/-- isinstance(e, c), e the caught error, d its dict's place -/
def rIsEA (K : PySem.W.Frag) (D a : Addr) (d : Option Addr) : List V → Hp → VK → Prop := fun xs H Q => ∃ (c : V) (cv : Value) (b : Bool), xs = [.ref a, c] ∧ (∀ u, RelV c u → u = cv) ∧ PySem.W.kitOne K (.ref D) cv = some b ∧ (∀ dd, d = some dd → ∃ fs, H dd = some (.xd fs)) ∧ Q (.bl b) H
theorem call_isEA {X : Cx} {a D : Addr} {d : Option Addr} {oe : Obj} {pn : List (Addr × Obj)} (C : ExcC X.K D) (hz : Zc (.ref D) d oe) (hf : ∃ vs, oe.data = .fields vs) : CallR (X.suite a ((a, oe) :: pn)) (.builtin "isinstance") (rIsEA X.K D a d) := by
  intro pins s σ H xs us Q I rel h
  obtain ⟨c, cv, b, rfl, hcv, e, hd, q⟩ := h
  cases rel with
  | cons rx rel =>
    cases rel with
    | cons rt rel =>
      cases rel; cases rx
      obtain rfl := hcv _ rt
      obtain ⟨hget, _⟩ := I.pin (a, oe) (List.mem_append_left _ List.mem_cons_self)
      obtain ⟨vs, hv⟩ := hf
      have J : ∃ od, PySem.W.InstAt s.heap a oe D od := by
        obtain ⟨z1, z2⟩ := hz
        cases d with
        | none =>
          refine ⟨none, hget, z1, by unfold PySem.W.notCls; rw [hv] <;> rfl, ?_⟩
          rw [z2]; trivial
        | some dd =>
          obtain ⟨fs, ex⟩ := hd dd rfl
          obtain ⟨mA, hns, _⟩ : ObjOk X.prog X.w H s.heap dd (.xd fs) := I.hok dd _ ex
          obtain ⟨od, ho, _⟩ := lookIn_ns hns
          exact ⟨some od, hget, z1, by unfold PySem.W.notCls; rw [hv] <;> rfl, by rw [z2]; exact ho⟩
      obtain ⟨od, J⟩ := J
      exact PySem.W.kia_one (kit_any (od := od) C) I.kIn J e (fun z => nomatch z) fun tk => ⟨.bl b, H, I.kept (t' := tk) fun _ _ z => z, rfl, q⟩
/-- the same, the class learnt from the reading -/
def rIsEK (K : PySem.W.Frag) (D a : Addr) (k : Value) (d : Option Addr) : List V → Hp → VK → Prop := fun xs H Q => k = .ref D ∧ rIsEA K D a d xs H Q
theorem call_isEK {X : Cx} {a D : Addr} {k : Value} {d : Option Addr} {oe : Obj} {pn : List (Addr × Obj)} (C : ExcC X.K D) (hz : Zc k d oe) (hf : ∃ vs, oe.data = .fields vs) : CallR (X.suite a ((a, oe) :: pn)) (.builtin "isinstance") (rIsEK X.K D a k d) := by
  intro pins s σ H xs us Q I rel h
  obtain ⟨rfl, h⟩ := h
  exact call_isEA C hz hf pins s σ H xs us Q I rel h
end Vw

set_option Elab.async false
set_option linter.all false
set_option maxRecDepth 100000
set_option maxHeartbeats 1000000
namespace Vw
open PySem PySem.Spec PyProof.Rows L2 RT
/-! ### what repr shows is a text of good signs -/
theorem sOk_app {a b : Str} (ha : PyData.strOk a = true) (hb : PyData.strOk b = true) : PyData.strOk (a ++ b) = true := by
  show (a.cps ++ b.cps).all _ = true
  rw [Array.all_append]
  have ha : a.cps.all (· < 0x110000) = true := ha
  have hb : b.cps.all (· < 0x110000) = true := hb
  rw [ha, hb]; rfl
theorem sOk_from : ∀ (ts : List Str) (k : Nat) (acc : Str), PyData.strOk acc = true → (∀ t ∈ ts, PyData.strOk t = true) → PyData.strOk (textFrom k acc ts) = true
  | [], _, _, h, _ => h
  | t :: r, k, acc, h, ht => by
    refine sOk_from r (k + 1) _ (sOk_app (sOk_app h ?_) (ht t List.mem_cons_self)) fun u hu => ht u (List.mem_cons_of_mem _ hu)
    split <;> decide +kernel
theorem sOk_join : ∀ (ts : List Str), (∀ t ∈ ts, PyData.strOk t = true) → PyData.strOk (Str.join ", " ts) = true
  | [], _ => by decide +kernel
  | [x], h => h x List.mem_cons_self
  | x :: y :: r, h => by
    have ih := sOk_join (y :: r) fun u hu => h u (List.mem_cons_of_mem _ hu)
    show PyData.strOk (x ++ ", " ++ Str.join ", " (y :: r)) = true
    exact sOk_app (sOk_app (h x List.mem_cons_self) (by decide +kernel)) ih
theorem sOk_int (i : Int) : PyData.strOk (PyData.int i).shown = true := by
  show Array.all _ _ = true
  rw [Array.all_eq_true_iff_forall_mem]
  intro k hk
  by_cases q : k ≠ 45 ∧ (k < 48 ∨ 57 < k)
  · exact absurd (Array.mem_toList_iff.mpr hk) (shown_int_free' q i)
  · exact decide_eq_true (by omega)
mutual
/-- data whose texts show well -/
inductive TxD : PyData → Prop
  | non : TxD .none
  | bl (b : Bool) : TxD (.bool b)
  | int (i : Int) : TxD (.int i)
  | str (x : Str) : PyData.strOk (PyData.str x).shown = true → TxD (.str x)
  | lst (xs : List PyData) : TxA xs → TxD (.list xs)
  | tup (xs : List PyData) : TxA xs → TxD (.tuple xs)
  | dct (D : List (PyData × PyData)) : TxA (D.map (·.1)) → TxA (D.map (·.2)) → TxD (.dict D)
inductive TxA : List PyData → Prop
  | nil : TxA []
  | cons {d : PyData} {ds : List PyData} : TxD d → TxA ds → TxA (d :: ds)
end
mutual
theorem tx_ok : ∀ d : PyData, TxD d → PyData.strOk d.shown = true
  | .none, _ => by decide +kernel
  | .bool b, _ => by cases b <;> decide +kernel
  | .int i, _ => sOk_int i
  | .str x, h => by cases h; assumption
  | .list xs, h => by
    cases h with
    | lst _ h => exact sOk_app (sOk_from _ 0 _ (by decide +kernel) (tx_all xs h)) (by decide +kernel)
  | .tuple xs, h => by
    cases h with
    | tup _ h =>
      refine sOk_app (sOk_app (by decide +kernel) (sOk_join _ (tx_all xs h))) ?_
      split <;> decide +kernel
  | .dict D, h => by
    cases h with
    | dct _ h1 h2 => exact sOk_app (sOk_app (by decide +kernel) (sOk_join _ (tx_kv D h1 h2))) (by decide +kernel)
theorem tx_all : ∀ ds : List PyData, TxA ds → ∀ t ∈ PyData.shownAll ds, PyData.strOk t = true
  | [], _, t, ht => nomatch ht
  | d :: ds, h, t, ht => by
    cases h with
    | cons h1 h2 =>
      rcases List.mem_cons.mp ht with e | e
      · rw [e]; exact tx_ok d h1
      · exact tx_all ds h2 t e
theorem tx_kv : ∀ D : List (PyData × PyData), TxA (D.map (·.1)) → TxA (D.map (·.2)) → ∀ t ∈ PyData.shownKv D, PyData.strOk t = true
  | [], _, _, t, ht => nomatch ht
  | (k, v) :: D, h1, h2, t, ht => by
    cases h1 with
    | cons a1 b1 =>
      cases h2 with
      | cons a2 b2 =>
        rcases List.mem_cons.mp ht with e | e
        · rw [e]; exact sOk_app (sOk_app (tx_ok k a1) (by decide +kernel)) (tx_ok v a2)
        · exact tx_kv D b1 b2 t e
end
/-! ### small data -/
mutual
def smB : PyData → Bool
  | .none => true
  | .bool _ => true
  | .int i => decide (i.natAbs < 10 ^ 41)
  | .str x => PyData.strOk (PyData.str x).shown && x.cps.toList.all fun c => decide (c < 16 ^ 8)
  | .list xs => smA xs
  | .tuple xs => smA xs
  | .dict D => smK D
def smA : List PyData → Bool
  | [] => true
  | d :: ds => smB d && smA ds
def smK : List (PyData × PyData) → Bool
  | [] => true
  | (k, v) :: D => smB k && smB v && smK D
end
theorem log_lt41 {n : Nat} (h : n < 10 ^ 41) : n.log2 < 1920 := by
  by_cases z : n = 0
  · subst z; decide
  · refine (Nat.log2_lt z).mpr (Nat.lt_of_lt_of_le h ?_)
    decide +kernel
mutual
theorem sm_facts : ∀ d : PyData, smB d = true → TxD d ∧ d.showable = true ∧ d.leavesShort 50 = true
  | .none, _ => ⟨.non, by simp only [PyData.showable], rfl⟩
  | .bool b, _ => ⟨.bl b, by simp only [PyData.showable], rfl⟩
  | .int i, h => by
    have h : i.natAbs < 10 ^ 41 := of_decide_eq_true h
    refine ⟨.int i, by simp only [PyData.showable, decide_eq_true (log_lt41 h)], ?_⟩
    show decide ((PyData.shown (.int i)).length ≤ 50) = true
    refine decide_eq_true (Nat.le_trans (m := 42) ?_ (by decide))
    show (Str.ofString (toString i)).length ≤ 42
    rw [PySem.ofString_length]
    exact int_text_length_le10 (k := 41) (by decide) h
  | .str x, h => by
    have h : (PyData.strOk (PyData.str x).shown && x.cps.toList.all fun c => decide (c < 16 ^ 8)) = true := h
    rw [Bool.and_eq_true] at h
    exact ⟨.str x h.1, by simp only [PyData.showable], h.2⟩
  | .list xs, h => by
    obtain ⟨a, b, c⟩ := sm_all xs h
    exact ⟨.lst xs a, by simpa only [PyData.showable] using b, by simpa only [PyData.leavesShort] using c⟩
  | .tuple xs, h => by
    obtain ⟨a, b, c⟩ := sm_all xs h
    exact ⟨.tup xs a, by simpa only [PyData.showable] using b, by simpa only [PyData.leavesShort] using c⟩
  | .dict D, h => by
    obtain ⟨a1, a2, b, c⟩ := sm_kv D h
    exact ⟨.dct D a1 a2, by simpa only [PyData.showable] using b, by simpa only [PyData.leavesShort] using c⟩
theorem sm_all : ∀ ds : List PyData, smA ds = true → TxA ds ∧ PyData.showableAll ds = true ∧ PyData.leavesShortAll 50 ds = true
  | [], _ => ⟨.nil, by simp only [PyData.showableAll], rfl⟩
  | d :: ds, h => by
    have h : (smB d && smA ds) = true := h
    rw [Bool.and_eq_true] at h
    obtain ⟨a, b, c⟩ := sm_facts d h.1
    obtain ⟨a2, b2, c2⟩ := sm_all ds h.2
    exact ⟨.cons a a2, by simp only [PyData.showableAll, b, b2, Bool.and_self], by simp only [PyData.leavesShortAll, c, c2, Bool.and_self]⟩
theorem sm_kv : ∀ D : List (PyData × PyData), smK D = true → TxA (D.map (·.1)) ∧ TxA (D.map (·.2)) ∧ PyData.showableKv D = true ∧ PyData.leavesShortKv 50 D = true
  | [], _ => ⟨.nil, .nil, by simp only [PyData.showableKv], rfl⟩
  | (k, v) :: D, h => by
    have h : ((smB k && smB v) && smK D) = true := h
    rw [Bool.and_eq_true, Bool.and_eq_true] at h
    obtain ⟨a, b, c⟩ := sm_facts k h.1.1
    obtain ⟨a2, b2, c2⟩ := sm_facts v h.1.2
    obtain ⟨a3, a4, b3, c3⟩ := sm_kv D h.2
    exact ⟨.cons a a3, .cons a2 a4, by simp only [PyData.showableKv, b, b2, b3, Bool.and_self], by simp only [PyData.leavesShortKv, c, c2, c3, Bool.and_self]⟩
end
theorem sm_fits {d : PyData} (h : smB d = true) (w : d.weight ≤ 300000) : d.shown.length ≤ sizeLine := by
  have := PyData.shown_le 50 (by decide) d (sm_facts d h).2.2
  have e : sizeLine = 16777216 := by decide +kernel
  rw [e]
  omega
theorem smA_of {ds : List PyData} (h : ∀ d ∈ ds, smB d = true) : smA ds = true := by
  induction ds with
  | nil => rfl
  | cons d ds ih =>
    show (smB d && smA ds) = true
    rw [h d List.mem_cons_self, ih fun y hy => h y (List.mem_cons_of_mem _ hy)]; rfl
/-! ### data over more addresses -/
section
variable {K : PySem.W.Frag} {N N' : Addr → Prop} {H : Hp}
mutual
theorem dq_mono (h : ∀ a, N a → N' a) : ∀ (d : PyData) (x : V), Dq K N H x d → Dq K N' H x d
  | .none, _, q => by cases q; exact .non
  | .bool _, _, q => by cases q; exact .bl _
  | .int _, _, q => by cases q; exact .int _
  | .str _, _, q => by cases q; exact .str _
  | .list ds, _, q => by
    cases q with
    | lst a n b => exact .lst a (h _ n) (dq_monoA h ds _ b)
  | .tuple ds, _, q => by
    cases q with
    | tup a b => exact .tup a (dq_monoA h ds _ b)
  | .dict D, _, q => by
    cases q with
    | dct a n b c => exact .dct a (h _ n) b (dq_monoK h D _ c)
theorem dq_monoK (h : ∀ a, N a → N' a) : ∀ (D : List (PyData × PyData)) (xs : List V), DqAll K N H xs (D.map (·.2)) → DqAll K N' H xs (D.map (·.2))
  | [], _, q => by cases q; exact .nil
  | (_, d) :: D, _, q => by
    cases q with
    | cons a b => exact .cons (dq_mono h d _ a) (dq_monoK h D _ b)
theorem dq_monoA (h : ∀ a, N a → N' a) : ∀ (ds : List PyData) (xs : List V), DqAll K N H xs ds → DqAll K N' H xs ds
  | [], _, q => by cases q; exact .nil
  | d :: ds, _, q => by
    cases q with
    | cons a b => exact .cons (dq_mono h d _ a) (dq_monoA h ds _ b)
end
end
end Vw

set_option Elab.async false
set_option linter.all false
set_option maxRecDepth 100000
set_option maxHeartbeats 4000000
namespace Vw
open PySem PySem.Spec PyProof.Rows L2 RT
local macro_rules | `(tactic| walk_at "s") => `(tactic| with_reducible first
  | refine' s_seq ?_ | refine' s_next ?_ | refine' s_set ?_ | refine' s_ret ?_ | refine' s_retN ?_ | refine' s_drop ?_ | refine' s_if ?_ | refine' s_ipI ?_
  | refine' e_c ?_ | refine' e_op ?_ | refine' e_un ?_ | refine' e_neg ?_ | refine' e_test ?_ | refine' e_tB ?_ | refine' e_bl ?_ | refine' e_and ?_ | refine' e_or ?_ | refine' e_not ?_
  | refine' e_andV ?_ | refine' e_orV ?_ | refine' e_notV ?_ | refine' e_kV ?_ | refine' e_ife ?_ | refine' e_nil ?_ | refine' e_cons ?_ | refine' e_cb ?_ | refine' e_call ?_ | refine' e_chain ?_
  | refine' o_addI ?_ | refine' o_eqI ?_ | refine' o_neI ?_ | refine' o_I0 ?_ | refine' o_pow16 ?_ | refine' o_pow17 ?_ | refine' o_pow18 ?_ | refine' o_pow19 ?_ | refine' o_pow30 ?_ | refine' o_pow31 ?_ | refine' o_pow1 ?_ | refine' o_pow2 ?_ | refine' o_pow3 ?_ | refine' o_pow4 ?_ | refine' o_pow5 ?_ | refine' o_pow6 ?_ | refine' o_pow9 ?_ | refine' o_pow10 ?_ | refine' o_pow12 ?_ | refine' o_pow15 ?_ | refine' o_pow20 ?_ | refine' e_lst ?_ | refine' e_tup ?_ | refine' iteT ?_ | refine' i_nt ?_ | refine' i_nf ?_ | refine' iteF ?_ | refine' c_int ?_ | refine' c_abs ?_ | refine' c_min2 ?_ | refine' c_max2 ?_ | refine' e_tru ?_ | refine' t_bl ?_ | refine' t_non ?_ | refine' t_int ?_ | refine' isN_non ?_ | refine' isN_int ?_ | refine' isN_ref ?_ | refine' isN_str ?_ | refine' isN_bl ?_ | refine' noN_non ?_ | refine' noN_int ?_ | refine' noN_ref ?_ | refine' noN_str ?_ | refine' noN_bl ?_
  | refine' s_brk ?_ | refine' s_cont ?_ | refine' s_for ?_ | refine' e_lc ?_ | refine' e_dc ?_ | refine' e_yes ?_ | refine' i_rng1 ?_ | refine' i_lst0 ?_ | refine' i_tup0 ?_ | refine' e_bm ?_ | refine' e_sl ?_ | refine' e_np ?_ | refine' e_pt ?_ | refine' e_ptI ?_ | refine' e_din ?_ | refine' e_dnin ?_ | refine' e_methE ?_ | refine' p_cons ?_ | refine' p_nil ?_ | refine' s_dput ?_ | refine' e_dget2 ?_ | refine' e_dpop1 ?_ | refine' i_enum0 ?_ | refine' i_rev0 ?_ | refine' g_sub ?_ | refine' s_asg ?_ | refine' i_zip0 ?_ | refine' e_revT ?_ | refine' isB_bl ?_ | refine' notB_bl ?_ | refine' o_neB ?_ | refine' i_nrr ?_ | refine' e_meth ?_ | refine' s_setf ?_ | refine' e_fld ?_ | refine' e_bm0 ?_ | refine' r_tx ?_ | refine' o_eqStr ?_ | refine' o_neStr ?_)
local macro_rules | `(tactic| walk_at "v") => `(tactic| ((with_reducible refine' e_var ?hv ?_); (case hv => exact rfl)))
local macro_rules | `(tactic| walk_at "a") => `(tactic| ((with_reducible refine' s_aug ?hv ?_); (case hv => exact rfl)))
local macro_rules | `(tactic| walk_at "m") => `(tactic| first
  | ((with_reducible refine' o_mod ?hv ?_); (case hv => first | decide | omega))
  | ((with_reducible refine' o_mulR ?hv ?_); (case hv => omega))
  | ((with_reducible refine' o_mulL ?hv ?_); (case hv => omega))
  | ((with_reducible refine' o_div ?hv ?hw ?_); (case hv => omega); (case hw => omega))
  | ((with_reducible refine' o_pow _ ?hv ?hw ?hx ?_); (case hv => exact rfl); (case hw => decide); (case hx => decide)))
local macro_rules | `(tactic| walk_at "i") => `(tactic| (first
  | ((with_reducible refine' isi_int true ?hv ?_); (case hv => exact (by decide +kernel)))
  | ((with_reducible refine' isi_int false ?hv ?_); (case hv => exact (by decide +kernel)))
  | ((with_reducible refine' isi_non true ?hv ?_); (case hv => exact (by decide +kernel)))
  | ((with_reducible refine' isi_non false ?hv ?_); (case hv => exact (by decide +kernel)))
  | ((with_reducible refine' isi_str true ?hv ?_); (case hv => exact (by decide +kernel)))
  | ((with_reducible refine' isi_str false ?hv ?_); (case hv => exact (by decide +kernel)))
  | ((with_reducible refine' isi_bl true ?hv ?_); (case hv => exact (by decide +kernel)))
  | ((with_reducible refine' isi_bl false ?hv ?_); (case hv => exact (by decide +kernel)))
  | ((with_reducible refine' isi_t true ?hw ?hv ?_); (case hw => assumption); (case hv => exact (by decide +kernel)))
  | ((with_reducible refine' isi_t false ?hw ?hv ?_); (case hw => assumption); (case hv => exact (by decide +kernel)))
  | ((with_reducible refine' isi_l true ?hw ?hv ?_); (case hw => assumption); (case hv => exact (by decide +kernel)))
  | ((with_reducible refine' isi_l false ?hw ?hv ?_); (case hw => assumption); (case hv => exact (by decide +kernel)))
  | ((with_reducible refine' isi_tup true ?hw ?hv ?_); (case hw => assumption); (case hv => exact (by decide +kernel)))
  | ((with_reducible refine' isi_tup false ?hw ?hv ?_); (case hw => assumption); (case hv => exact (by decide +kernel)))
  | ((with_reducible refine' isi_lst true ?hw ?hv ?_); (case hw => assumption); (case hv => exact (by decide +kernel)))
  | ((with_reducible refine' isi_lst false ?hw ?hv ?_); (case hw => assumption); (case hv => exact (by decide +kernel)))))
local macro_rules | `(tactic| walk_at "om") => `(tactic| first | omega | (simp only [List.length_cons, List.length_nil, List.length_map, List.length_append, List.length_range]; omega))
local macro_rules | `(tactic| walk_at "d") => `(tactic| (first
  | ((with_reducible refine' i_dt ?hv ?_); (case hv => walk_at "om"))
  | ((with_reducible refine' i_df ?hv ?_); (case hv => walk_at "om"))
  | ((with_reducible refine' i_ndt ?hv ?_); (case hv => walk_at "om"))
  | ((with_reducible refine' i_ndf ?hv ?_); (case hv => walk_at "om"))))
local macro_rules | `(tactic| walk_at "x") => `(tactic| first
  | ((with_reducible refine' o_ixA ?hv ?hw ?_); (case hv => assumption); (case hw => exact rfl))
  | ((with_reducible refine' o_ixU ?hv ?hw ?_); (case hv => assumption); (case hw => exact rfl))
  | ((with_reducible refine' o_ixL ?hv ?hw ?_); (case hv => assumption); (case hw => exact rfl))
  | ((with_reducible refine' o_ixT ?hv ?hw ?_); (case hv => assumption); (case hw => exact rfl))
  | ((with_reducible refine' set_ ?hv ?hw ?_); (case hv => assumption); (case hw => exact rfl))
  | ((with_reducible refine' e_lenM ?hv ?_); (case hv => first | assumption | exact slO (by assumption)))
  | ((with_reducible refine' e_lenN ?hv ?_); (case hv => first | assumption | exact stO (by assumption)))
  | ((with_reducible refine' e_lenL ?hv ?_); (case hv => first | assumption | exact slO (by assumption)))
  | ((with_reducible refine' e_lenT ?hv ?_); (case hv => first | assumption | exact stO (by assumption))))
local macro_rules | `(tactic| walk_at "c") => `(tactic| first
  | ((with_reducible refine' c_listL ?hv ?_); (case hv => assumption))
  | ((with_reducible refine' c_listT ?hv ?_); (case hv => assumption))
  | ((with_reducible refine' c_tupL ?hv ?_); (case hv => first | assumption | exact slO (by assumption)))
  | ((with_reducible refine' c_tupT ?hv ?_); (case hv => assumption))
  | ((with_reducible refine' t_lst ?hv ?_); (case hv => first | assumption | exact slO (by assumption)))
  | ((with_reducible refine' t_tup ?hv ?_); (case hv => assumption))
  | ((with_reducible refine' r_sl ?hv ?_); (case hv => first | assumption | exact slO (by assumption)))
  | ((with_reducible refine' o_inL ?hv ?_); (case hv => first | assumption | exact slO (by assumption)))
  | ((with_reducible refine' o_inT ?hv ?_); (case hv => first | assumption | exact stO (by assumption)))
  | ((with_reducible refine' o_niL ?hv ?_); (case hv => first | assumption | exact slO (by assumption)))
  | ((with_reducible refine' o_niT ?hv ?_); (case hv => first | assumption | exact stO (by assumption)))
  | ((with_reducible refine' ty_lst ?hv ?_); (case hv => assumption)))
local macro_rules | `(tactic| walk_at "mo") => `(tactic| repeat' (first | exact m_yes | exact m_var | exact m_c | exact m_I0 | exact m_I | exact m_ix | exact m_add | exact m_in | exact m_int1 | exact m_abs | exact m_nil | refine' m_and ?_ ?_ | refine' m_test ?_ | refine' m_tB ?_ | refine' m_op ?_ ?_ ?_ | refine' m_cons ?_ ?_ | refine' m_cb ?_ ?_))
local macro_rules | `(tactic| walk_at "go") => `(tactic| repeat' (first | walk_at "s" | walk_at "v" | walk_at "a" | walk_at "x" | walk_at "m" | walk_at "c" | walk_at "i" | walk_at "d"))

def topS (i : Nat) : Stmt := PySem.Challenge.pw_wholeways_k43_versions_and_snapshots_ref.main.body.getD i (.Pass ⟨0, 0, 0, 0⟩)
abbrev s_StoreError_init : Stmt := (inClass (topS 1) 0)
abbrev n_StoreError_init : List Str := ["self"]
theorem sc_StoreError_init : FnScope n_StoreError_init ["self"] (defScope s_StoreError_init) := ⟨rfl, rfl, rfl, by decide +kernel, rfl, by decide +kernel, by decide +kernel⟩
abbrev s_NoVersions_init : Stmt := (inClass (topS 5) 0)
abbrev n_NoVersions_init : List Str := ["self", "index"]
theorem sc_NoVersions_init : FnScope n_NoVersions_init ["self", "index"] (defScope s_NoVersions_init) := ⟨rfl, rfl, rfl, by decide +kernel, rfl, by decide +kernel, by decide +kernel⟩
abbrev s_is_integer : Stmt := (topS 9)
abbrev n_is_integer : List Str := ["thing"]
theorem sc_is_integer : FnScope n_is_integer ["thing"] (defScope s_is_integer) := ⟨rfl, rfl, rfl, by decide +kernel, rfl, by decide +kernel, by decide +kernel⟩
abbrev s_is_within : Stmt := (topS 10)
abbrev n_is_within : List Str := ["thing", "low", "high"]
theorem sc_is_within : FnScope n_is_within ["thing", "low", "high"] (defScope s_is_within) := ⟨rfl, rfl, rfl, by decide +kernel, rfl, by decide +kernel, by decide +kernel⟩
abbrev s_is_number : Stmt := (topS 11)
abbrev n_is_number : List Str := ["thing"]
theorem sc_is_number : FnScope n_is_number ["thing"] (defScope s_is_number) := ⟨rfl, rfl, rfl, by decide +kernel, rfl, by decide +kernel, by decide +kernel⟩
abbrev s_is_worth : Stmt := (topS 12)
abbrev n_is_worth : List Str := ["thing"]
theorem sc_is_worth : FnScope n_is_worth ["thing"] (defScope s_is_worth) := ⟨rfl, rfl, rfl, by decide +kernel, rfl, by decide +kernel, by decide +kernel⟩
abbrev s_is_mark : Stmt := (topS 13)
abbrev n_is_mark : List Str := ["thing"]
theorem sc_is_mark : FnScope n_is_mark ["thing"] (defScope s_is_mark) := ⟨rfl, rfl, rfl, by decide +kernel, rfl, by decide +kernel, by decide +kernel⟩
abbrev s_is_ascending : Stmt := (topS 14)
abbrev n_is_ascending : List Str := ["row", "k"]
theorem sc_is_ascending : FnScope n_is_ascending ["row"] (defScope s_is_ascending) := ⟨rfl, rfl, rfl, by decide +kernel, rfl, by decide +kernel, by decide +kernel⟩
abbrev s_is_lot : Stmt := (topS 15)
abbrev n_is_lot : List Str := ["thing", "item"]
theorem sc_is_lot : FnScope n_is_lot ["thing"] (defScope s_is_lot) := ⟨rfl, rfl, rfl, by decide +kernel, rfl, by decide +kernel, by decide +kernel⟩
abbrev s_is_version : Stmt := (topS 17)
abbrev n_is_version : List Str := ["thing"]
theorem sc_is_version : FnScope n_is_version ["thing"] (defScope s_is_version) := ⟨rfl, rfl, rfl, by decide +kernel, rfl, by decide +kernel, by decide +kernel⟩
abbrev s_need_versions : Stmt := (topS 18)
abbrev n_need_versions : List Str := ["versions", "index", "version"]
theorem sc_need_versions : FnScope n_need_versions ["versions"] (defScope s_need_versions) := ⟨rfl, rfl, rfl, by decide +kernel, rfl, by decide +kernel, by decide +kernel⟩
abbrev s_need_last : Stmt := (topS 19)
abbrev n_need_last : List Str := ["last", "least"]
theorem sc_need_last : FnScope n_need_last ["last", "least"] (defScope s_need_last) := ⟨rfl, rfl, rfl, by decide +kernel, rfl, by decide +kernel, by decide +kernel⟩
abbrev s_need_snapshots : Stmt := (topS 20)
abbrev n_need_snapshots : List Str := ["open_lot", "last"]
theorem sc_need_snapshots : FnScope n_need_snapshots ["open_lot", "last"] (defScope s_need_snapshots) := ⟨rfl, rfl, rfl, by decide +kernel, rfl, by decide +kernel, by decide +kernel⟩
abbrev s_need_all : Stmt := (topS 21)
abbrev n_need_all : List Str := ["versions", "open_lot", "last"]
theorem sc_need_all : FnScope n_need_all ["versions", "open_lot", "last"] (defScope s_need_all) := ⟨rfl, rfl, rfl, by decide +kernel, rfl, by decide +kernel, by decide +kernel⟩
abbrev s_asked_of : Stmt := (topS 22)
abbrev n_asked_of : List Str := ["open_lot", "last"]
theorem sc_asked_of : FnScope n_asked_of ["open_lot", "last"] (defScope s_asked_of) := ⟨rfl, rfl, rfl, by decide +kernel, rfl, by decide +kernel, by decide +kernel⟩
abbrev s_seen_each : Stmt := (topS 23)
abbrev n_seen_each : List Str := ["versions", "snapshots", "found", "place", "snapshot"]
theorem sc_seen_each : FnScope n_seen_each ["versions", "snapshots"] (defScope s_seen_each) := ⟨rfl, rfl, rfl, by decide +kernel, rfl, by decide +kernel, by decide +kernel⟩
abbrev s_needed : Stmt := (topS 24)
abbrev n_needed : List Str := ["versions", "open_lot", "last"]
theorem sc_needed : FnScope n_needed ["versions", "open_lot", "last"] (defScope s_needed) := ⟨rfl, rfl, rfl, by decide +kernel, rfl, by decide +kernel, by decide +kernel⟩
abbrev s_needed_commits : Stmt := (topS 25)
abbrev n_needed_commits : List Str := ["versions", "open_lot", "last", "seen", "found", "commit", "mark", "version"]
theorem sc_needed_commits : FnScope n_needed_commits ["versions", "open_lot", "last"] (defScope s_needed_commits) := ⟨rfl, rfl, rfl, by decide +kernel, rfl, by decide +kernel, by decide +kernel⟩
abbrev s_is_kept_right : Stmt := (topS 26)
abbrev n_is_kept_right : List Str := ["versions", "open_lot", "last", "thing", "chosen", "kept", "asked", "commit", "version", "whole", "alone"]
theorem sc_is_kept_right : FnScope n_is_kept_right ["versions", "open_lot", "last", "thing"] (defScope s_is_kept_right) := ⟨rfl, rfl, rfl, by decide +kernel, rfl, by decide +kernel, by decide +kernel⟩
abbrev s_is_same : Stmt := (topS 27)
abbrev n_is_same : List Str := ["whole", "alone"]
theorem sc_is_same : FnScope n_is_same ["whole", "alone"] (defScope s_is_same) := ⟨rfl, rfl, rfl, by decide +kernel, rfl, by decide +kernel, by decide +kernel⟩
abbrev s_harm : Stmt := (topS 28)
abbrev n_harm : List Str := ["versions", "open_lot", "last", "commit", "others", "asked", "snapshot", "whole", "less", "number", "_", "version"]
theorem sc_harm : FnScope n_harm ["versions", "open_lot", "last", "commit"] (defScope s_harm) := ⟨rfl, rfl, rfl, by decide +kernel, rfl, by decide +kernel, by decide +kernel⟩
abbrev s_told : Stmt := (topS 29)
abbrev n_told : List Str := ["version"]
theorem sc_told : FnScope n_told ["version"] (defScope s_told) := ⟨rfl, rfl, rfl, by decide +kernel, rfl, by decide +kernel, by decide +kernel⟩
abbrev s_law_mixed : Stmt := (topS 31)
abbrev n_law_mixed : List Str := ["cell", "turn", "number"]
theorem sc_law_mixed : FnScope n_law_mixed ["cell", "turn"] (defScope s_law_mixed) := ⟨rfl, rfl, rfl, by decide +kernel, rfl, by decide +kernel, by decide +kernel⟩
abbrev s_law_bag : Stmt := (topS 32)
abbrev n_law_bag : List Str := ["script", "cell"]
theorem sc_law_bag : FnScope n_law_bag ["script"] (defScope s_law_bag) := ⟨rfl, rfl, rfl, by decide +kernel, rfl, by decide +kernel, by decide +kernel⟩
abbrev s_law_draw : Stmt := (topS 33)
abbrev n_law_draw : List Str := ["bag", "many", "found", "cells", "at", "cell"]
theorem sc_law_draw : FnScope n_law_draw ["bag", "many"] (defScope s_law_draw) := ⟨rfl, rfl, rfl, by decide +kernel, rfl, by decide +kernel, by decide +kernel⟩
abbrev s_law_versions : Stmt := (topS 34)
abbrev n_law_versions : List Str := ["bag", "found", "commit", "k", "worth", "pair"]
theorem sc_law_versions : FnScope n_law_versions ["bag"] (defScope s_law_versions) := ⟨rfl, rfl, rfl, by decide +kernel, rfl, by decide +kernel, by decide +kernel⟩
abbrev s_law_open : Stmt := (topS 35)
abbrev n_law_open : List Str := ["bag", "versions", "last", "found", "k", "number"]
theorem sc_law_open : FnScope n_law_open ["bag", "versions", "last"] (defScope s_law_open) := ⟨rfl, rfl, rfl, by decide +kernel, rfl, by decide +kernel, by decide +kernel⟩
abbrev s_law_spoiled_versions : Stmt := (topS 36)
abbrev n_law_spoiled_versions : List Str := ["bag", "versions", "kind", "found", "k", "at", "pair", "strange"]
theorem sc_law_spoiled_versions : FnScope n_law_spoiled_versions ["bag", "versions"] (defScope s_law_spoiled_versions) := ⟨rfl, rfl, rfl, by decide +kernel, rfl, by decide +kernel, by decide +kernel⟩
abbrev s_law_spoiled_open : Stmt := (topS 37)
abbrev n_law_spoiled_open : List Str := ["bag", "open_lot", "last", "kind", "at"]
theorem sc_law_spoiled_open : FnScope n_law_spoiled_open ["bag", "open_lot", "last"] (defScope s_law_spoiled_open) := ⟨rfl, rfl, rfl, by decide +kernel, rfl, by decide +kernel, by decide +kernel⟩
abbrev s_law_is_within : Stmt := (topS 38)
abbrev n_law_is_within : List Str := ["thing", "least", "most"]
theorem sc_law_is_within : FnScope n_law_is_within ["thing", "least", "most"] (defScope s_law_is_within) := ⟨rfl, rfl, rfl, by decide +kernel, rfl, by decide +kernel, by decide +kernel⟩
abbrev s_law_first_bad : Stmt := (topS 39)
abbrev n_law_first_bad : List Str := ["versions", "at", "pair"]
theorem sc_law_first_bad : FnScope n_law_first_bad ["versions"] (defScope s_law_first_bad) := ⟨rfl, rfl, rfl, by decide +kernel, rfl, by decide +kernel, by decide +kernel⟩
abbrev s_law_is_lot : Stmt := (topS 40)
abbrev n_law_is_lot : List Str := ["thing", "most", "ahead", "one"]
theorem sc_law_is_lot : FnScope n_law_is_lot ["thing", "most"] (defScope s_law_is_lot) := ⟨rfl, rfl, rfl, by decide +kernel, rfl, by decide +kernel, by decide +kernel⟩
abbrev s_law_refusal : Stmt := (topS 41)
abbrev n_law_refusal : List Str := ["which", "versions", "open_lot", "last", "commit", "bad", "newest", "pair"]
theorem sc_law_refusal : FnScope n_law_refusal ["which", "versions", "open_lot", "last", "commit"] (defScope s_law_refusal) := ⟨rfl, rfl, rfl, by decide +kernel, rfl, by decide +kernel, by decide +kernel⟩
abbrev s_law_needed : Stmt := (topS 42)
abbrev n_law_needed : List Str := ["versions", "open_lot", "found", "back", "at", "is_seen", "snapshot"]
theorem sc_law_needed : FnScope n_law_needed ["versions", "open_lot"] (defScope s_law_needed) := ⟨rfl, rfl, rfl, by decide +kernel, rfl, by decide +kernel, by decide +kernel⟩
abbrev s_law_read : Stmt := (topS 43)
abbrev n_law_read : List Str := ["versions", "snapshot", "pair"]
theorem sc_law_read : FnScope n_law_read ["versions", "snapshot"] (defScope s_law_read) := ⟨rfl, rfl, rfl, by decide +kernel, rfl, by decide +kernel, by decide +kernel⟩
abbrev s_law_value : Stmt := (topS 44)
abbrev n_law_value : List Str := ["which", "versions", "open_lot", "last", "commit", "left", "snapshot", "pair", "one"]
theorem sc_law_value : FnScope n_law_value ["which", "versions", "open_lot", "last", "commit"] (defScope s_law_value) := ⟨rfl, rfl, rfl, by decide +kernel, rfl, by decide +kernel, by decide +kernel⟩
abbrev s_law_asked : Stmt := (topS 45)
abbrev n_law_asked : List Str := ["which", "versions", "open_lot", "last", "thing", "found", "e"]
theorem sc_law_asked : FnScope n_law_asked ["which", "versions", "open_lot", "last", "thing"] (defScope s_law_asked) := ⟨rfl, rfl, rfl, by decide +kernel, rfl, by decide +kernel, by decide +kernel⟩
abbrev s_law_is_met : Stmt := (topS 46)
abbrev n_law_is_met : List Str := ["which", "versions", "open_lot", "last", "commit", "due", "thing", "ahead", "told_v", "value"]
theorem sc_law_is_met : FnScope n_law_is_met ["which", "versions", "open_lot", "last", "commit"] (defScope s_law_is_met) := ⟨rfl, rfl, rfl, by decide +kernel, rfl, by decide +kernel, by decide +kernel⟩
abbrev s_law : Stmt := (topS 47)
abbrev n_law : List Str := ["script", "bag", "versions", "newest", "last", "open_lot", "k", "which", "commit", "things"]
theorem sc_law : FnScope n_law ["script"] (defScope s_law) := ⟨rfl, rfl, rfl, by decide +kernel, rfl, by decide +kernel, by decide +kernel⟩
structure Txt (K : PySem.W.Frag) (mg : Str → Option Value) where
  is_integer : DefAt K mg "is_integer" "is_integer" s_is_integer ["thing"]
  is_within : DefAt K mg "is_within" "is_within" s_is_within ["thing", "low", "high"]
  is_number : DefAt K mg "is_number" "is_number" s_is_number ["thing"]
  is_worth : DefAt K mg "is_worth" "is_worth" s_is_worth ["thing"]
  is_mark : DefAt K mg "is_mark" "is_mark" s_is_mark ["thing"]
  is_ascending : DefAt K mg "is_ascending" "is_ascending" s_is_ascending ["row"]
  is_lot : DefAt K mg "is_lot" "is_lot" s_is_lot ["thing"]
  is_version : DefAt K mg "is_version" "is_version" s_is_version ["thing"]
  need_versions : DefAt K mg "need_versions" "need_versions" s_need_versions ["versions"]
  need_last : DefAt K mg "need_last" "need_last" s_need_last ["last", "least"]
  need_snapshots : DefAt K mg "need_snapshots" "need_snapshots" s_need_snapshots ["open_lot", "last"]
  need_all : DefAt K mg "need_all" "need_all" s_need_all ["versions", "open_lot", "last"]
  asked_of : DefAt K mg "asked_of" "asked_of" s_asked_of ["open_lot", "last"]
  seen_each : DefAt K mg "seen_each" "seen_each" s_seen_each ["versions", "snapshots"]
  needed : DefAt K mg "needed" "needed" s_needed ["versions", "open_lot", "last"]
  needed_commits : DefAt K mg "needed_commits" "needed_commits" s_needed_commits ["versions", "open_lot", "last"]
  is_kept_right : DefAt K mg "is_kept_right" "is_kept_right" s_is_kept_right ["versions", "open_lot", "last", "thing"]
  is_same : DefAt K mg "is_same" "is_same" s_is_same ["whole", "alone"]
  harm : DefAt K mg "harm" "harm" s_harm ["versions", "open_lot", "last", "commit"]
  told : DefAt K mg "told" "told" s_told ["version"]
  law_mixed : DefAt K mg "_law_mixed" "_law_mixed" s_law_mixed ["cell", "turn"]
  law_bag : DefAt K mg "_law_bag" "_law_bag" s_law_bag ["script"]
  law_draw : DefAt K mg "_law_draw" "_law_draw" s_law_draw ["bag", "many"]
  law_versions : DefAt K mg "_law_versions" "_law_versions" s_law_versions ["bag"]
  law_open : DefAt K mg "_law_open" "_law_open" s_law_open ["bag", "versions", "last"]
  law_spoiled_versions : DefAt K mg "_law_spoiled_versions" "_law_spoiled_versions" s_law_spoiled_versions ["bag", "versions"]
  law_spoiled_open : DefAt K mg "_law_spoiled_open" "_law_spoiled_open" s_law_spoiled_open ["bag", "open_lot", "last"]
  law_is_within : DefAt K mg "_law_is_within" "_law_is_within" s_law_is_within ["thing", "least", "most"]
  law_first_bad : DefAt K mg "_law_first_bad" "_law_first_bad" s_law_first_bad ["versions"]
  law_is_lot : DefAt K mg "_law_is_lot" "_law_is_lot" s_law_is_lot ["thing", "most"]
  law_refusal : DefAt K mg "_law_refusal" "_law_refusal" s_law_refusal ["which", "versions", "open_lot", "last", "commit"]
  law_needed : DefAt K mg "_law_needed" "_law_needed" s_law_needed ["versions", "open_lot"]
  law_read : DefAt K mg "_law_read" "_law_read" s_law_read ["versions", "snapshot"]
  law_value : DefAt K mg "_law_value" "_law_value" s_law_value ["which", "versions", "open_lot", "last", "commit"]
  law_asked : DefAt K mg "_law_asked" "_law_asked" s_law_asked ["which", "versions", "open_lot", "last", "thing"]
  law_is_met : DefAt K mg "_law_is_met" "_law_is_met" s_law_is_met ["which", "versions", "open_lot", "last", "commit"]
  m_StoreError_init : InitAt K "__init__" "StoreError.__init__" s_StoreError_init ["self"]
  vV : PySem.W.findCls K (.type "ValueError") (.type "type") "__init__" = some (.val (.builtin "ValueError.__init__"))
  m_NoVersions_init : InitAt K "__init__" "NoVersions.__init__" s_NoVersions_init ["self", "index"]
  e_NoVersions : ExcAt K mg "NoVersions" m_NoVersions_init.f
  e_NoNumber : ExcAt K mg "NoNumber" m_StoreError_init.f
  e_NoSnapshots : ExcAt K mg "NoSnapshots" m_StoreError_init.f
  e_NoVersion : ExcAt K mg "NoVersion" m_StoreError_init.f
  a_NoVersions_index : PySem.W.findIn K (.ref e_NoVersions.C) "index" = some none
  w_NoVersions : XfC K e_NoVersions.C
  sysK : SysK K
  x_NoVersions : L2.ExcC K e_NoVersions.C
  x_NoNumber : L2.ExcC K e_NoNumber.C
  x_NoSnapshots : L2.ExcC K e_NoSnapshots.C
  x_NoVersion : L2.ExcC K e_NoVersion.C
  N_StoreError : Addr
  g_StoreError : mg "StoreError" = some (.ref N_StoreError)
  ks_NoVersions : PySem.W.kitOne K (.ref e_NoVersions.C) (.ref N_StoreError) = some true
  ks_NoNumber : PySem.W.kitOne K (.ref e_NoNumber.C) (.ref N_StoreError) = some true
  ks_NoSnapshots : PySem.W.kitOne K (.ref e_NoSnapshots.C) (.ref N_StoreError) = some true
  ks_NoVersion : PySem.W.kitOne K (.ref e_NoVersion.C) (.ref N_StoreError) = some true
  xn_NoNumber_NoVersions : PySem.W.exmOne K (.ref e_NoNumber.C) (.ref e_NoVersions.C) = some false
  xn_NoSnapshots_NoVersions : PySem.W.exmOne K (.ref e_NoSnapshots.C) (.ref e_NoVersions.C) = some false
  xn_NoSnapshots_NoNumber : PySem.W.exmOne K (.ref e_NoSnapshots.C) (.ref e_NoNumber.C) = some false
  xn_NoVersion_NoVersions : PySem.W.exmOne K (.ref e_NoVersion.C) (.ref e_NoVersions.C) = some false
  xn_NoVersion_NoNumber : PySem.W.exmOne K (.ref e_NoVersion.C) (.ref e_NoNumber.C) = some false
  xn_NoVersion_NoSnapshots : PySem.W.exmOne K (.ref e_NoVersion.C) (.ref e_NoSnapshots.C) = some false
  z_ValueError : mg "ValueError" = none
  z_abs : mg "abs" = none
  z_all : mg "all" = none
  z_bool : mg "bool" = none
  z_enumerate : mg "enumerate" = none
  z_int : mg "int" = none
  z_isinstance : mg "isinstance" = none
  z_len : mg "len" = none
  z_list : mg "list" = none
  z_max : mg "max" = none
  z_min : mg "min" = none
  z_range : mg "range" = none
  z_repr : mg "repr" = none
  z_reversed : mg "reversed" = none
  z_set : mg "set" = none
  z_sorted : mg "sorted" = none
  z_tuple : mg "tuple" = none
  z_zip : mg "zip" = none
  c_GREATEST_WORTH : CAt mg "GREATEST_WORTH" (.int (1000000000000000000))
  c_GREATEST_COMMIT : CAt mg "GREATEST_COMMIT" (.int (1000000000000000000))



section
variable {P : Program} {w : World} {K : PySem.W.Frag} {mg : Str → Option Value} {base : Heap}
theorem ok_StoreError_init (M : InitAt K "__init__" "StoreError.__init__" s_StoreError_init ["self"]) (z : mg "ValueError" = none) (vV : PySem.W.findCls K (.type "ValueError") (.type "type") "__init__" = some (.val (.builtin "ValueError.__init__"))) : FnOk P w K mg base CX0 1 M.f M.fd ["self"] (sp_exc_init K) := by
  refine M.F.ok sc_StoreError_init (fun vs H Q E h => ?_) (fun cdv A outer s H vs Q E hr h => ?_)
  · obtain ⟨a, C, rfl, _⟩ := h
    rfl
  · obtain ⟨a, C, rfl, o, ha, k⟩ := h
    exact ⟨_, pss_one (ps_expr (pe_veinit (by rfl) z vV (pa_cons (pv 0) pa_nil))), _, rfl, a, C, [], rfl, by decide, o, ha, k⟩
/-- an __init__ that sets one field -/
def sp_fld_init (K : PySem.W.Frag) (f : Str) : Sp := fun vs H Q _ => ∃ (a C : Addr) (x : V), vs = [.ref a, x] ∧ OexC K C ∧ PySem.W.findIn K (.ref C) f = some none ∧ H a = some (exo a C none) ∧ ∀ dx, H dx = none → dx ≠ a → Q .non (upd (upd H dx (exd dx [(f, x)])) a (exo a C (some dx)))
theorem ok_NoVersions_init (M : InitAt K "__init__" "NoVersions.__init__" s_NoVersions_init ["self", "index"]) : FnOk P w K mg base CX0 1 M.f M.fd ["self", "index"] (sp_fld_init K "index") := by
  refine M.F.ok sc_NoVersions_init (fun vs H Q E h => ?_) (fun cdv A outer s H vs Q E hr h => ?_)
  · obtain ⟨a, C, x, rfl, _⟩ := h
    rfl
  · obtain ⟨a, C, x, rfl, o, hn, ha, k⟩ := h
    exact ⟨_, (pss_one (ps_ost (pv 0) (pv 1))), _, rfl, _, rfl, a, C, rfl, o, hn, .inl ⟨ha, k⟩⟩
def MkFQ (K : PySem.W.Frag) (C : Addr) (f : Str) (Q : XK) (vs : List V) (H1 : Hp) : Prop := vs.length ≤ 1000 ∧ ∀ a, H1 a = none → sp_fld_init K f (.ref a :: (vs ++ [])) (upd H1 a (exo a C none))
  (fun v H2 => v = .non ∧ ∃ (d : Addr) (fs : List (Str × V)), H2 a = some (exo a C (some d)) ∧ H2 d = some (exd d fs) ∧ H1 d = none ∧ Q (.ref C) (some d) (upd (del H2 a) d (.xd fs))) (fun _ _ _ => False)
theorem e_mkO {C : Addr} {f : Str} {ta : TA} {σ : L2.St} {H : Hp} {Q : XK} (h : ta σ H (MkFQ K C f Q)) : tMkO C (sp_fld_init K f) [] ta σ H Q := h
theorem o_mkF {C : Addr} {f : Str} {x : V} {H1 : Hp} {Q : XK} (o : OexC K C) (hn : PySem.W.findIn K (.ref C) f = some none) (q : ∀ d, H1 d = none → Q (.ref C) (some d) (upd H1 d (.xd [(f, x)]))) : MkFQ K C f Q [x] H1 := by
  refine ⟨Nat.le_of_ble_eq_true rfl, fun a na => ⟨a, C, x, rfl, o, hn, upd_same, fun d hd ne => ⟨rfl, d, [(f, x)], upd_same, by rw [upd_ne ne]; exact upd_same, ?_, ?_⟩⟩⟩
  · rw [upd_ne ne] at hd; exact hd
  · have hd1 : H1 d = none := by rw [upd_ne ne] at hd; exact hd
    have e2 : upd (del (upd (upd (upd H1 a (exo a C none)) d (exd d [(f, x)])) a (exo a C (some d))) a) d (.xd [(f, x)]) = upd H1 d (.xd [(f, x)]) := by
      funext b
      by_cases z : b = d
      · subst z; rw [upd_same, upd_same]
      · rw [upd_ne z, upd_ne z]
        by_cases y : b = a
        · subst y; rw [del_same, na]
        · rw [del_ne y, upd_ne y, upd_ne z, upd_ne y]
    rw [e2]
    exact q d hd1
end



section
variable {P : Program} {w : World} {K : PySem.W.Frag} {mg : Str → Option Value} {base : Heap}
/-! ### kinds of numbers, of data -/
abbrev GC : Int := 1000000000000000000
abbrev isID : PyData → Bool
  | .int _ => true
  | _ => false
abbrev isND : PyData → Bool
  | .int i => decide (0 ≤ i)
  | _ => false
abbrev withinD (d : PyData) (lo hi : Int) : Bool := match d with
  | .int i => decide (lo ≤ i) && decide (i ≤ hi)
  | _ => false
abbrev markD : PyData → Bool
  | .none => true
  | d => withinD d (-1000000000000000000) 1000000000000000000
def sp_is_integer (K : PySem.W.Frag) : Sp := fun vs H Q _ => ∃ x N d, vs = [x] ∧ Dq K N H x d ∧ Q (.bl (isID d)) H
theorem ok_is_integer (T : Txt K mg) : FnOk P w K mg base CX0 1 T.is_integer.f T.is_integer.fd ["thing"] (sp_is_integer K) := by
  refine T.is_integer.F.ok sc_is_integer (fun vs H Q E h => ?_) (fun cdv A outer s H vs Q E hr h => ?_)
  · obtain ⟨x, N, d, rfl, _⟩ := h
    rfl
  · obtain ⟨x, N, d, rfl, hd, k⟩ := h
    refine ⟨_, (pss_one (ps_ret (pe_and (pe_callB (cIsi (K := K)) (by rfl) T.z_isinstance (by decide +kernel) (pa_cons (pv 0) (pa_cons (pe_bltn (v := .ty "int") (by rfl) T.z_int (by decide +kernel) rfl) pa_nil))) (pe_one (pe_not (pe_callB (cIsi (K := K)) (by rfl) T.z_isinstance (by decide +kernel) (pa_cons (pv 0) (pa_cons (pe_bltn (v := .ty "bool") (by rfl) T.z_bool (by decide +kernel) rfl) pa_nil)))))))), ?_⟩
    walk_at "go"
    cases id hd with
    | int i => walk_at "go"; exact k
    | non => walk_at "go"; exact k
    | bl b => walk_at "go"; exact k
    | str z => walk_at "go"; exact k
    | lst a n b => refine dq_isi false hd (by simp only [tyD]; decide +kernel) ?_; walk_at "go"; exact k
    | tup a b => refine dq_isi false hd (by simp only [tyD]; decide +kernel) ?_; walk_at "go"; exact k
    | dct a n b c => refine dq_isi false hd (by simp only [tyD]; decide +kernel) ?_; walk_at "go"; exact k
def sp_is_within (K : PySem.W.Frag) : Sp := fun vs H Q _ => ∃ x N d lo hi, vs = [x, .int lo, .int hi] ∧ Dq K N H x d ∧ Q (.bl (withinD d lo hi)) H
theorem ok_is_within (T : Txt K mg) : FnOk P w K mg base CX0 2 T.is_within.f T.is_within.fd ["thing", "low", "high"] (sp_is_within K) := by
  refine T.is_within.F.ok sc_is_within (fun vs H Q E h => ?_) (fun cdv A outer s H vs Q E hr h => ?_)
  · obtain ⟨x, N, d, lo, hi, rfl, _⟩ := h
    rfl
  · obtain ⟨x, N, d, lo, hi, rfl, hd, k⟩ := h
    refine ⟨_, (pss_one (ps_ret (pe_and (pe_call (ok_is_integer T) (hr.mono (by decide)) (by rfl) T.is_integer.g T.is_integer.F.kp T.is_integer.b .nil pass0 (pa_cons (pv 0) pa_nil)) (pe_one (pe_chain op_le op_le (pv 1) (pv 0) (pv 2)))))), ?_⟩
    walk_at "go"
    refine ⟨x, N, d, rfl, hd, ?_⟩
    cases hd with
    | int a =>
      walk_at "go"
      refine i_d (fun h1 => ?_) (fun h1 => ?_)
      · walk_at "go"
        simpa [withinD, h1] using k
      · walk_at "go"
        simpa [withinD, h1] using k
    | _ => walk_at "go"; exact k
def sp_is_number (K : PySem.W.Frag) : Sp := fun vs H Q _ => ∃ x N d, vs = [x] ∧ Dq K N H x d ∧ Q (.bl (isND d)) H
theorem ok_is_number (T : Txt K mg) : FnOk P w K mg base CX0 2 T.is_number.f T.is_number.fd ["thing"] (sp_is_number K) := by
  refine T.is_number.F.ok sc_is_number (fun vs H Q E h => ?_) (fun cdv A outer s H vs Q E hr h => ?_)
  · obtain ⟨x, N, d, rfl, _⟩ := h
    rfl
  · obtain ⟨x, N, d, rfl, hd, k⟩ := h
    refine ⟨_, (pss_one (ps_ret (pe_and (pe_call (ok_is_integer T) (hr.mono (by decide)) (by rfl) T.is_integer.g T.is_integer.F.kp T.is_integer.b .nil pass0 (pa_cons (pv 0) pa_nil)) (pe_one (pe_cmpR op_ge (pv 0) pe_int (nomark _)))))), ?_⟩
    walk_at "go"
    refine ⟨x, N, d, rfl, hd, ?_⟩
    cases hd with
    | _ => walk_at "go"; exact k
def sp_is_worth (K : PySem.W.Frag) : Sp := fun vs H Q _ => ∃ x N d, vs = [x] ∧ Dq K N H x d ∧ Q (.bl (withinD d (-1000000000000000000) 1000000000000000000)) H
theorem ok_is_worth (T : Txt K mg) : FnOk P w K mg base CX0 3 T.is_worth.f T.is_worth.fd ["thing"] (sp_is_worth K) := by
  refine T.is_worth.F.ok sc_is_worth (fun vs H Q E h => ?_) (fun cdv A outer s H vs Q E hr h => ?_)
  · obtain ⟨x, N, d, rfl, _⟩ := h
    rfl
  · obtain ⟨x, N, d, rfl, hd, k⟩ := h
    refine ⟨_, (pss_one (ps_ret (pe_call (ok_is_within T) (hr.mono (by decide)) (by rfl) T.is_within.g T.is_within.F.kp T.is_within.b .nil pass0 (pa_cons (pv 0) (pa_cons (pe_un un_neg (pe_glob (by rfl) T.c_GREATEST_WORTH.h T.c_GREATEST_WORTH.r)) (pa_cons (pe_glob (by rfl) T.c_GREATEST_WORTH.h T.c_GREATEST_WORTH.r) pa_nil)))))), ?_⟩
    walk_at "go"
    exact ⟨x, N, d, _, _, rfl, hd, k⟩
def sp_is_mark (K : PySem.W.Frag) : Sp := fun vs H Q _ => ∃ x N d, vs = [x] ∧ Dq K N H x d ∧ Q (.bl (markD d)) H
theorem ok_is_mark (T : Txt K mg) : FnOk P w K mg base CX0 4 T.is_mark.f T.is_mark.fd ["thing"] (sp_is_mark K) := by
  refine T.is_mark.F.ok sc_is_mark (fun vs H Q E h => ?_) (fun cdv A outer s H vs Q E hr h => ?_)
  · obtain ⟨x, N, d, rfl, _⟩ := h
    rfl
  · obtain ⟨x, N, d, rfl, hd, k⟩ := h
    refine ⟨_, (pss_one (ps_ret (pe_or (pe_cmpR oIsN (pv 0) pe_non (nomark _)) (pe_one (pe_call (ok_is_worth T) (hr.mono (by decide)) (by rfl) T.is_worth.g T.is_worth.F.kp T.is_worth.b .nil pass0 (pa_cons (pv 0) pa_nil)))))), ?_⟩
    walk_at "go"
    cases id hd with
    | non => walk_at "go"; exact k
    | _ => walk_at "go"; exact ⟨_, N, _, rfl, hd, k⟩
/-! ### lots -/
def ascF (ns : List Int) (k : Nat) : Bool := decide (ns.getD k 0 < ns.getD (k + 1) 0)
def ascB (ns : List Int) : Bool := ((List.range (ns.length - 1)).map (ascF ns)).all id
def sp_is_ascending (K : PySem.W.Frag) : Sp := fun vs H Q _ => ∃ a ns, vs = [.ref a] ∧ SqT K H a (ns.map V.int) ∧ ns.length ≤ 1000 ∧ ∀ H', Same H H' → Q (.bl (ascB ns)) H'
theorem ok_is_ascending (T : Txt K mg) : FnOk P w K mg base CX0 1 T.is_ascending.f T.is_ascending.fd ["row"] (sp_is_ascending K) := by
  refine T.is_ascending.F.ok sc_is_ascending (fun vs H Q E h => ?_) (fun cdv A outer s H vs Q E hr h => ?_)
  · obtain ⟨a, ns, rfl, _⟩ := h
    rfl
  · obtain ⟨a, ns, rfl, hS, hl, k⟩ := h
    refine ⟨_, (pss_one (ps_ret (pe_callB (cAll (K := K) rfl) (by rfl) T.z_all (by decide +kernel) (pa_cons (pe_lc (own := [("k", 1)]) rfl sc_is_ascending.nd (pi_range1 (by rfl) T.z_range (pa_cons (pe_op op_sub (pe_callB (cLen (K := K)) (by rfl) T.z_len PySem.boot_len (pa_cons (pv 0) pa_nil)) pe_int) pa_nil)) (blkOk_by (N := n_is_ascending) (sc := defScope s_is_ascending) (by decide +kernel)) (fun _ _ _ _ _ => (pg_name (i := 1) sc_is_ascending.nd rfl (Or.inl rfl))) (fun _ _ _ _ _ => pts_nil) (fun _ _ _ _ _ => (pe_cmpR oLt (pe_ix (ixLT (K := K)) (pv 0) (pv 1) (fun _ _ => rfl)) (pe_ix (ixLT (K := K)) (pv 0) (pe_op oAdd (pv 1) pe_int) (fun _ _ => rfl)) (nomark _)))) pa_nil)))), ?_⟩
    walk_at "go"
    refine i_rng (ns.length - 1) (by omega) (by omega) (by omega) ?_
    refine c_rng (fun i acc H1 => Same H H1 ∧ acc = ((List.range i).map (ascF ns)).map V.bl) (fun D hD => ⟨upd_free (Same.refl _) hD, rfl⟩) (fun acc D H1 hD hp p => ?_) (fun _ => rfl) (fun i acc H1 D hi hD hp p => ?_)
    · obtain ⟨p1, rfl⟩ := p
      walk_at "go"
      exact e_allB hp (k _ p1)
    · obtain ⟨p1, rfl⟩ := p
      have hS1 := st_ p1 hS
      walk_at "go"
      refine o_ixT hS1 (atI_map i rfl (by omega)) ?_
      walk_at "go"
      refine o_ixT hS1 (atI_map (i + 1) (by omega) (by omega)) ?_
      walk_at "go"
      refine ⟨_, hp, lt_size (by simp; omega), _, upd_same, upd_free p1 hD, ?_⟩
      rw [List.range_succ, List.map_append, List.map_append]; rfl
def lotB (ns : List Int) : Bool := ns.all (fun i => decide (0 ≤ i)) && ascB ns
def toID : PyData → Int
  | .int i => i
  | _ => 0
def lotPD : PyData → Bool
  | .tuple ds => ds.all isND && ascB (ds.map toID)
  | _ => false
theorem intsD_of {N : Addr → Prop} {H : Hp} : ∀ {ds : List PyData} {xs : List V}, DqAll K N H xs ds → ds.all isND = true → xs = (ds.map toID).map V.int
  | [], _, h, _ => by cases h; rfl
  | d :: ds, _, h, e => by
    cases h with
    | @cons x xs _ _ a b =>
      rw [List.all_cons, Bool.and_eq_true_iff] at e
      rw [intsD_of b e.2]
      cases a with
      | int i => simp [toID]
      | _ => cases e.1
theorem lot_ints {ns : List Int} : lotPD (.tuple (ns.map PyData.int)) = lotB ns := by
  show ((ns.map PyData.int).all isND && ascB ((ns.map PyData.int).map toID)) = _
  unfold lotB
  rw [List.all_map, List.map_map]
  have e : ns.map (toID ∘ PyData.int) = ns := by
    conv => rhs; rw [← List.map_id ns]
    rfl
  rw [e]; rfl
def sp_is_lot (K : PySem.W.Frag) : Sp := fun vs H Q _ => ∃ x N d, vs = [x] ∧ Dq K N H x d ∧ (∀ ds, d = .tuple ds → ds.length ≤ 1000) ∧ ∀ H', Same H H' → Q (.bl (lotPD d)) H'
theorem ok_is_lot (T : Txt K mg) : FnOk P w K mg base CX0 3 T.is_lot.f T.is_lot.fd ["thing"] (sp_is_lot K) := by
  refine T.is_lot.F.ok sc_is_lot (fun vs H Q E h => ?_) (fun cdv A outer s H vs Q E hr h => ?_)
  · obtain ⟨x, N, d, rfl, _⟩ := h
    rfl
  · obtain ⟨x, N, d, rfl, hd, hl, k⟩ := h
    refine ⟨_, (pss_one (ps_ret (pe_and (pe_callB (cIsi (K := K)) (by rfl) T.z_isinstance (by decide +kernel) (pa_cons (pv 0) (pa_cons (pe_bltn (v := .ty "tuple") (by rfl) T.z_tuple (by decide +kernel) rfl) pa_nil))) (pe_and (pe_callB (cAll (K := K) rfl) (by rfl) T.z_all (by decide +kernel) (pa_cons (pe_lc (own := [("item", 1)]) rfl sc_is_lot.nd (piT (K := K) (pv 0)) (blkOk_by (N := n_is_lot) (sc := defScope s_is_lot) (by decide +kernel)) (fun _ _ _ _ _ => (pg_name (i := 1) sc_is_lot.nd rfl (Or.inl rfl))) (fun _ _ _ _ _ => pts_nil) (fun _ _ _ _ _ => (pe_call (ok_is_number T) (hr.mono (by decide)) (by rfl) T.is_number.g T.is_number.F.kp T.is_number.b .nil pass0 (pa_cons (pv 1) pa_nil)))) pa_nil)) (pe_one (pe_call (ok_is_ascending T) (hr.mono (by decide)) (by rfl) T.is_ascending.g T.is_ascending.F.kp T.is_ascending.b .nil pass0 (pa_cons (pv 0) pa_nil))))))), ?_⟩
    walk_at "go"
    cases id hd with
    | int i => walk_at "go"; exact k _ (Same.refl _)
    | non => walk_at "go"; exact k _ (Same.refl _)
    | bl b => walk_at "go"; exact k _ (Same.refl _)
    | str z => walk_at "go"; exact k _ (Same.refl _)
    | lst a n b => refine dq_isi false hd (by simp only [tyD]; decide +kernel) ?_; walk_at "go"; exact k _ (Same.refl _)
    | dct a n b c => refine dq_isi false hd (by simp only [tyD]; decide +kernel) ?_; walk_at "go"; exact k _ (Same.refl _)
    | @tup a ys ds hS hA =>
      have hl := hl ds rfl
      have ll := hA.len
      walk_at "go"
      refine i_tup hS ?_
      refine c_tup (xs := ys) (fun i acc H1 => Same H H1 ∧ acc = ((ds.take i).map isND).map V.bl) (fun D hD => ⟨upd_free (Same.refl _) hD, rfl⟩) (fun i acc H1 hi p => st_ p.1 hS) (fun acc D H1 hD hp p => ?_) (fun _ => rfl) (fun i x acc H1 D hx hD hp p => ?_)
      · obtain ⟨p1, rfl⟩ := p
        walk_at "go"
        refine e_allB hp ?_
        walk_at "go"
        have e0 : (List.map isND (List.take ys.length ds)).all id = ds.all isND := by
          rw [ll, List.take_length, List.all_map]; rfl
        rw [e0]
        have e2 : lotPD (.tuple ds) = (ds.all isND && ascB (ds.map toID)) := rfl
        cases e1 : ds.all isND with
        | true =>
          walk_at "go"
          have hS1 := st_ p1 hS
          rw [intsD_of hA e1] at hS1
          refine ⟨a, ds.map toID, rfl, hS1, by rw [List.length_map]; exact hl, fun H2 s2 => ?_⟩
          have e3 : lotPD (.tuple ds) = ascB (ds.map toID) := by rw [e2, e1]; rfl
          rw [← e3]
          exact k _ (p1.trans s2)
        | false =>
          walk_at "go"
          have e3 : lotPD (.tuple ds) = false := by rw [e2, e1]; rfl
          rw [← e3]
          exact k _ p1
      · obtain ⟨p1, rfl⟩ := p
        obtain ⟨d, ed, hdx⟩ := hA.get hx
        have hi : i < ds.length := (List.getElem?_eq_some_iff.mp ed).1
        walk_at "go"
        refine ⟨x, N, d, rfl, hdx.same p1, ?_⟩
        refine ⟨_, hp, lt_size (by simp; omega), _, upd_same, upd_free p1 hD, ?_⟩
        rw [List.take_add_one, ed, List.map_append, List.map_append]; rfl
/-! ### versions -/
def verD : PyData → Bool
  | .tuple [a, b] => withinD a 1 GC && markD b
  | _ => false
def sp_is_version (K : PySem.W.Frag) : Sp := fun vs H Q _ => ∃ x N d, vs = [x] ∧ Dq K N H x d ∧ Q (.bl (verD d)) H
theorem ok_is_version (T : Txt K mg) : FnOk P w K mg base CX0 5 T.is_version.f T.is_version.fd ["thing"] (sp_is_version K) := by
  refine T.is_version.F.ok sc_is_version (fun vs H Q E h => ?_) (fun cdv A outer s H vs Q E hr h => ?_)
  · obtain ⟨x, N, d, rfl, _⟩ := h
    rfl
  · obtain ⟨x, N, d, rfl, hd, k⟩ := h
    refine ⟨_, (pss_cons (ps_if (PW.pt (pw_or (pt_not (ptTruth (K := K) (pe_callB (cIsi (K := K)) (by rfl) T.z_isinstance (by decide +kernel) (pa_cons (pv 0) (pa_cons (pe_bltn (v := .ty "tuple") (by rfl) T.z_tuple (by decide +kernel) rfl) pa_nil))) (by intro _; rfl))) (pw_or1 (pt_cmpR (oNe (K := K) hr.units) (pe_callB (cLen (K := K)) (by rfl) T.z_len PySem.boot_len (pa_cons (pv 0) pa_nil)) pe_int (nomark _))))) (pss_one (ps_ret pe_bl)) pss_nil)
    (pss_one (ps_ret (pe_and (pe_call (ok_is_within T) (hr.mono (by decide)) (by rfl) T.is_within.g T.is_within.F.kp T.is_within.b .nil pass0 (pa_cons (pe_ix (ixLT (K := K)) (pv 0) pe_int (fun _ _ => rfl)) (pa_cons pe_int (pa_cons (pe_glob (by rfl) T.c_GREATEST_COMMIT.h T.c_GREATEST_COMMIT.r) pa_nil)))) (pe_one (pe_call (ok_is_mark T) (hr.mono (by decide)) (by rfl) T.is_mark.g T.is_mark.F.kp T.is_mark.b .nil pass0 (pa_cons (pe_ix (ixLT (K := K)) (pv 0) pe_int (fun _ _ => rfl)) pa_nil))))))), ?_⟩
    walk_at "go"
    cases id hd with
    | int i => walk_at "go"; exact k
    | non => walk_at "go"; exact k
    | bl b => walk_at "go"; exact k
    | str z => walk_at "go"; exact k
    | lst a n b => refine dq_isi false hd (by simp only [tyD]; decide +kernel) ?_; walk_at "go"; exact k
    | dct a n b c => refine dq_isi false hd (by simp only [tyD]; decide +kernel) ?_; walk_at "go"; exact k
    | @tup a ys ds hS hA =>
      have ll := hA.len
      walk_at "go"
      refine i_d (fun q => ?_) (fun q => ?_)
      · walk_at "go"
        have e : verD (.tuple ds) = false := by
          unfold verD
          split
          · next e => cases e; exact absurd (by rw [ll]; rfl) q
          · rfl
        rw [e] at k
        exact k
      · have l2 : ds.length = 2 := by omega
        match ds, hA, l2 with
        | [da, db], hA, _ =>
          cases hA with
          | @cons xa _ _ _ ha hA =>
            cases hA with
            | @cons xb _ _ _ hb hA =>
              cases hA
              walk_at "go"
              refine ⟨xa, N, da, _, _, rfl, ha, ?_⟩
              cases e : withinD da 1 1000000000000000000 with
              | true =>
                walk_at "go"
                refine ⟨xb, N, db, rfl, hb, ?_⟩
                have e2 : verD (.tuple [da, db]) = markD db := by show (withinD da 1 1000000000000000000 && markD db) = _; rw [e]; rfl
                rw [e2] at k
                exact k
              | false =>
                walk_at "go"
                have e2 : verD (.tuple [da, db]) = false := by show (withinD da 1 1000000000000000000 && markD db) = _; rw [e]; rfl
                rw [e2] at k
                exact k
end



section
variable {P : Program} {w : World} {K : PySem.W.Frag} {mg : Str → Option Value} {base : Heap}
/-! ### versions -/
abbrev markV : Option Int → V
  | none => .non
  | some i => .int i
abbrev markP : Option Int → PyData
  | none => .none
  | some i => .int i
def PairsAt (K : PySem.W.Frag) (H : Hp) (ps : List Addr) (vs : List (Int × Option Int)) : Prop := ps.length = vs.length ∧ ∀ (i : Nat) p v, ps[i]? = some p → vs[i]? = some v → SqT K H p [.int v.1, markV v.2]
theorem pa_ {H H' : Hp} {ps : List Addr} {vs : List (Int × Option Int)} (s : Same H H') (h : PairsAt K H ps vs) : PairsAt K H' ps vs := ⟨h.1, fun i p v a b => st_ s (h.2 i p v a b)⟩
structure Valid (vs : List (Int × Option Int)) : Prop where
  desc : vs.Pairwise (fun a b => b.1 < a.1)
  comm : ∀ v ∈ vs, 1 ≤ v.1 ∧ v.1 ≤ GC
  mark : ∀ v ∈ vs, markD (markP v.2) = true
  few : vs.length ≤ 1000
theorem Valid.lt {vs : List (Int × Option Int)} (h : Valid vs) {i j : Nat} (hij : i < j) (hj : j < vs.length) : (vs[j]).1 < (vs[i]'(by omega)).1 := List.pairwise_iff_getElem.mp h.desc i j (by omega) hj hij
theorem o_ixX {H : Hp} {Q : VK} {p : Addr} {xs : List V} {a : Int} {v : V} (s : SqX K H p xs) (e : atI xs a = some v) (q : Q v H) : rIxLT K (.ref p) (.int a) H Q := s.elim (fun s => o_ixL s e q) fun s => o_ixT s e q
theorem e_lenX {α : Type} {f : α → V} {H : Hp} {Q : VK} {p : Addr} {xs : List α} (s : SqX K H p (xs.map f)) (q : Q (.int (xs.length : Nat)) H) : rLen' K [.ref p] H Q := s.elim (fun s => e_lenM s q) fun s => e_lenN s q
theorem e_lenX' {H : Hp} {Q : VK} {p : Addr} {xs : List V} (s : SqX K H p xs) (q : Q (.int (xs.length : Nat)) H) : rLen' K [.ref p] H Q := s.elim (fun s => e_lenL s q) fun s => e_lenT s q
theorem atI_ref {ps : List Addr} {z : Int} (i : Nat) (e : z = (i : Nat)) (h : i < ps.length) : atI (ps.map V.ref) z = some (.ref ps[i]) := atI_in e (by rw [List.getElem?_map, List.getElem?_eq_getElem h]; rfl)
theorem PairsAt.at {H : Hp} {ps : List Addr} {vs : List (Int × Option Int)} (h : PairsAt K H ps vs) {i : Nat} (hi : i < vs.length) : SqT K H (ps[i]'(by rw [h.1]; exact hi)) [.int vs[i].1, markV vs[i].2] := h.2 i _ _ (List.getElem?_eq_getElem _) (List.getElem?_eq_getElem _)
/-- what is told of versions, as data -/
def vsD : PyData → Option (List PyData)
  | .list ds => some ds
  | .tuple ds => some ds
  | _ => none
def comD : PyData → Int
  | .tuple (.int c :: _) => c
  | _ => 0
def badAt (ds : List PyData) (i : Nat) : Bool := !verD (ds.getD i .none) || (decide (0 < i) && decide (comD (ds.getD (i - 1) .none) ≤ comD (ds.getD i .none)))
def firstBad (ds : List PyData) : Option Nat := (List.range ds.length).find? (badAt ds)
def badD (d : PyData) : Option Int := match vsD d with
  | none => some (-1)
  | some ds => (firstBad ds).map fun i : Nat => (i : Int)
theorem verD_tup {N : Addr → Prop} {H : Hp} {x : V} {d : PyData} (h : Dq K N H x d) (e : verD d = true) : ∃ (a : Addr) (c : Int) (y : V) (m : PyData), x = .ref a ∧ SqT K H a [.int c, y] ∧ d = .tuple [.int c, m] ∧ Dq K N H y m ∧ 1 ≤ c ∧ c ≤ GC ∧ markD m = true := by
  unfold verD at e
  split at e
  · next da db =>
    rw [Bool.and_eq_true] at e
    cases h with
    | tup hS hA =>
      cases hA with
      | cons ha hA =>
        cases hA with
        | cons hb hA =>
          cases hA
          cases ha with
          | int c =>
            have e1 : (decide (1 ≤ c) && decide (c ≤ GC)) = true := e.1
            rw [Bool.and_eq_true] at e1
            exact ⟨_, c, _, db, rfl, hS, rfl, hb, of_decide_eq_true e1.1, of_decide_eq_true e1.2, e.2⟩
          | _ => cases e.1
  · cases e
theorem find_range {p : Nat → Bool} {n i : Nat} (hi : i < n) (h : p i = true) (b : ∀ j, j < i → p j = false) : (List.range n).find? p = some i := by
  rw [List.find?_range_eq_some]
  exact ⟨h, List.mem_range.mpr hi, fun j hj => by rw [b j hj]; rfl⟩
theorem find_none {p : Nat → Bool} {n : Nat} (b : ∀ j, j < n → p j = false) : (List.range n).find? p = none :=
  List.find?_eq_none.mpr fun j hj => by rw [b j (List.mem_range.mp hj)]; exact Bool.false_ne_true
theorem isiT_any {N : Addr → Prop} {H : Hp} {Q : VK} {x : V} {d : PyData} {tp : Addr} {b : Bool} (h : Dq K N H x d) (ht : H tp = some (.tup [.ty "list", .ty "tuple"])) (eb : (vsD d).isSome = b) (q : Q (.bl b) H) : rIsiT K [x, .ref tp] H Q := by
  subst eb
  have ty := dq_ty h
  cases h with
  | lst a n b => exact ⟨_, tp, _, .type "list", [.type "list", .type "tuple"], true, rfl, ht, .cons (.ty _) (.cons (.ty _) .nil), ty, kitAny_cons (b := true) (kit_ty (by decide +kernel)) (fun z => nomatch z) (fun _ => rfl), q⟩
  | tup a b => exact ⟨_, tp, _, .type "tuple", [.type "list", .type "tuple"], true, rfl, ht, .cons (.ty _) (.cons (.ty _) .nil), ty, kitAny_cons (b := false) (kit_ty (by decide +kernel)) (fun _ => kitAny_cons (b := true) (kit_ty (by decide +kernel)) (fun z => nomatch z) (fun _ => rfl)) (fun z => nomatch z), q⟩
  | non => exact ⟨_, tp, _, .type "NoneType", [.type "list", .type "tuple"], false, rfl, ht, .cons (.ty _) (.cons (.ty _) .nil), ty, kitAny_cons (b := false) (kit_ty (by decide +kernel)) (fun _ => kitAny_cons (b := false) (kit_ty (by decide +kernel)) (fun _ => rfl) (fun z => nomatch z)) (fun z => nomatch z), q⟩
  | bl b => exact ⟨_, tp, _, .type "bool", [.type "list", .type "tuple"], false, rfl, ht, .cons (.ty _) (.cons (.ty _) .nil), ty, kitAny_cons (b := false) (kit_ty (by decide +kernel)) (fun _ => kitAny_cons (b := false) (kit_ty (by decide +kernel)) (fun _ => rfl) (fun z => nomatch z)) (fun z => nomatch z), q⟩
  | int b => exact ⟨_, tp, _, .type "int", [.type "list", .type "tuple"], false, rfl, ht, .cons (.ty _) (.cons (.ty _) .nil), ty, kitAny_cons (b := false) (kit_ty (by decide +kernel)) (fun _ => kitAny_cons (b := false) (kit_ty (by decide +kernel)) (fun _ => rfl) (fun z => nomatch z)) (fun z => nomatch z), q⟩
  | str b => exact ⟨_, tp, _, .type "str", [.type "list", .type "tuple"], false, rfl, ht, .cons (.ty _) (.cons (.ty _) .nil), ty, kitAny_cons (b := false) (kit_ty (by decide +kernel)) (fun _ => kitAny_cons (b := false) (kit_ty (by decide +kernel)) (fun _ => rfl) (fun z => nomatch z)) (fun z => nomatch z), q⟩
  | dct a n b c => exact ⟨_, tp, _, .type "dict", [.type "list", .type "tuple"], false, rfl, ht, .cons (.ty _) (.cons (.ty _) .nil), ty, kitAny_cons (b := false) (kit_ty (by decide +kernel)) (fun _ => kitAny_cons (b := false) (kit_ty (by decide +kernel)) (fun _ => rfl) (fun z => nomatch z)) (fun z => nomatch z), q⟩
theorem vs_sq {N : Addr → Prop} {H : Hp} {x : V} {d : PyData} {ds : List PyData} (h : Dq K N H x d) (e : vsD d = some ds) : ∃ a xs, x = .ref a ∧ SqX K H a xs ∧ DqAll K N H xs ds := by
  cases h with
  | lst a n b => cases e; exact ⟨_, _, rfl, .inl a, b⟩
  | tup a b => cases e; exact ⟨_, _, rfl, .inr a, b⟩
  | _ => cases e
def FldE (E : XK) (C : Addr) (f : Str) (x : V) (H : Hp) : Prop := ∀ H' dd, Same H H' → H' dd = none → E (.ref C) (some dd) (upd H' dd (.xd [(f, x)]))
def sp_need_versions (K : PySem.W.Frag) (Cv : Addr) : Sp := fun vs H Q E => ∃ x N d, vs = [x] ∧ Dq K N H x d ∧ (∀ ds, vsD d = some ds → ds.length ≤ 1000) ∧ (badD d = none → ∀ H', Same H H' → Q .non H') ∧ (∀ i, badD d = some i → FldE E Cv "index" (.int i) H)
theorem ok_need_versions (T : Txt K mg) : FnOk P w K mg base (L2.CX P w) 6 T.need_versions.f T.need_versions.fd ["versions"] ((sp_need_versions K T.e_NoVersions.C)) := by
  refine T.need_versions.F.okX sc_need_versions (fun vs H Q E h => ?_) (fun cdv A outer s H vs Q E hr h => ?_)
  · obtain ⟨x, N, d, rfl, _⟩ := h
    rfl
  · obtain ⟨x, N, d, rfl, hd, hl, k, kE⟩ := h
    refine ⟨_, (pss_cons (ps_if (pt_not (ptTruth (K := K) (pe_callB (cIsiT (K := K)) (by rfl) T.z_isinstance (by decide +kernel) (pa_cons (pv 0) (pa_cons (pe_tup (pa_cons (pe_bltn (v := .ty "list") (by rfl) T.z_list (by decide +kernel) rfl) (pa_cons (pe_bltn (v := .ty "tuple") (by rfl) T.z_tuple (by decide +kernel) rfl) pa_nil))) pa_nil))) (by intro _; rfl))) (pss_one (ps_raise rfl (takes_of rfl rfl rfl rfl) (pmk_oex T.e_NoVersions.o T.e_NoVersions.i T.e_NoVersions.t (ok_NoVersions_init T.m_NoVersions_init) (hr.mono (by decide)) T.m_NoVersions_init.b .nil pass0 (by rfl) T.e_NoVersions.g (pa_cons (pe_un un_neg pe_int) pa_nil)))) pss_nil)
    (pss_one (ps_for (passes_of rfl) rfl (piEnumT (K := K) (by rfl) T.z_enumerate (pa_cons (pv 0) pa_nil)) (pgTup (K := K) (n := 2) (pg_tup (n := 2) rfl (pgs_cons (pg_name (i := 1) sc_need_versions.nd rfl (Or.inl rfl)) (pgs_cons (pg_name (i := 2) sc_need_versions.nd rfl (Or.inl rfl)) pgs_nil))))
      (pss_one (ps_if (PW.pt (pw_or (pt_not (ptTruth (K := K) (pe_call (ok_is_version T) (hr.mono (by decide)) (by rfl) T.is_version.g T.is_version.F.kp T.is_version.b .nil pass0 (pa_cons (pv 2) pa_nil)) (by intro _; rfl))) (pw_or1 (PW.pt (pw_and (pt_cmpR op_gt (pv 1) pe_int (nomark _)) (pw_and1 (pt_cmpR op_ge (pe_ix (ixLT (K := K)) (pv 2) pe_int (fun _ _ => rfl)) (pe_ix (ixLT (K := K)) (pe_ix (ixLT (K := K)) (pv 0) (pe_op op_sub (pv 1) pe_int) (fun _ _ => rfl)) pe_int (fun _ _ => rfl)) (nomark _)))))))) (pss_one (ps_raise rfl (takes_of rfl rfl rfl rfl) (pmk_oex T.e_NoVersions.o T.e_NoVersions.i T.e_NoVersions.t (ok_NoVersions_init T.m_NoVersions_init) (hr.mono (by decide)) T.m_NoVersions_init.b .nil pass0 (by rfl) T.e_NoVersions.g (pa_cons (pv 1) pa_nil)))) pss_nil))))), ?_⟩
    walk_at "go"
    refine n_new (by decide) fun tp H1 n1 s1 h1 => ?_
    walk_at "go"
    cases ev : vsD d with
    | none =>
      refine isiT_any (b := false) (hd.same s1) h1 (by rw [ev]; rfl) ?_
      have eb : badD d = some (-1) := by unfold badD; rw [ev]
      walk_at "go"
      refine e_mkO ?_
      walk_at "go"
      exact o_mkF T.e_NoVersions.o T.a_NoVersions_index fun dd nd => kE _ eb _ _ s1 nd
    | some ds =>
      obtain ⟨a, xs, rfl, hS, hA⟩ := vs_sq hd ev
      have hl := hl ds ev
      have ll := hA.len
      refine isiT_any (b := true) (hd.same s1) h1 (by rw [ev]; rfl) ?_
      walk_at "go"
      refine i_enumX hS s1 fun J G hG hW => ?_
      refine l_it hW (fun i σ H2 => (∃ y1 y2, σ = [some (.ref a), y1, y2]) ∧ Same H1 H2 ∧ ∀ j, j < i → badAt ds j = false) ⟨⟨none, none, rfl⟩, Same.refl _, fun j hj => absurd hj (Nat.not_lt_zero _)⟩ (fun i σ H2 hi p => hG _ (s1.trans p.2.1)) (fun σ H2 p => ?_) fun i x σ H2 H3 hi p y => ?_
      · obtain ⟨_, s2, b⟩ := p
        refine k ?_ _ (s1.trans s2)
        unfold badD firstBad
        rw [ev]
        show Option.map _ _ = none
        rw [find_none (by rw [← ll]; exact b)]; rfl
      obtain ⟨⟨y1, y2, rfl⟩, s2, b⟩ := p
      obtain ⟨Tp, x1, x2, rfl, nT, rfl, e1, e2⟩ := y
      have ex1 : x1 = .int (i : Nat) := (Option.some.inj e1).symm
      subst ex1
      obtain ⟨dx, edx, hdx⟩ := hA.get e2
      have hi2 : i < ds.length := (List.getElem?_eq_some_iff.mp edx).1
      have egd : ds.getD i .none = dx := by rw [List.getD_eq_getElem?_getD, edx]; rfl
      have s3 : Same H2 (upd H2 Tp (.tup [.int (i : Nat), x2])) := Same.new nT
      refine g_pair upd_same ?_
      generalize upd H2 Tp (.tup [.int (i : Nat), x2]) = H3 at s3
      have s4 : Same H H3 := s1.trans (s2.trans s3)
      have raise : badAt ds i = true → ∀ H', Same H H' → ∀ dd, H' dd = none → E (.ref T.e_NoVersions.C) (some dd) (upd H' dd (.xd [("index", .int (i : Nat))])) := fun hb H' s dd nd => kE _ (by
        unfold badD firstBad
        rw [ev]
        show Option.map _ _ = _
        rw [find_range hi2 hb b]; rfl) _ _ s nd
      walk_at "go"
      refine ⟨x2, N, dx, rfl, hdx.same s4, ?_⟩
      cases hv : verD dx with
      | false =>
        walk_at "go"
        refine e_mkO ?_
        walk_at "go"
        exact o_mkF T.e_NoVersions.o T.a_NoVersions_index fun dd nd => raise (by unfold badAt; rw [egd, hv]; rfl) _ s4 _ nd
      | true =>
        obtain ⟨ax, c, yx, m, rfl, hSx, edt, hm, c1, c2, hmk⟩ := verD_tup hdx hv
        have hSx3 := st_ s4 hSx
        walk_at "go"
        refine i_d (fun h0 => ?_) (fun h0 => ?_)
        · walk_at "go"
          have hi1 : i - 1 < ds.length := by omega
          obtain ⟨x3, ex3⟩ : ∃ x3, xs[i - 1]? = some x3 := ⟨_, List.getElem?_eq_getElem (by omega)⟩
          obtain ⟨d3, ed3, hd3⟩ := hA.get ex3
          have eg3 : ds.getD (i - 1) .none = d3 := by rw [List.getD_eq_getElem?_getD, ed3]; rfl
          have hv3 : verD d3 = true := by
            have := b (i - 1) (by omega)
            unfold badAt at this
            rw [eg3] at this
            cases z : verD d3 with
            | true => rfl
            | false => rw [z] at this; cases this
          obtain ⟨a3, c3, y3, m3, rfl, hS3, edt3, _⟩ := verD_tup hd3 hv3
          have hS33 := st_ s4 hS3
          refine o_ixX (sx_ s4 hS) (atI_in (j := i - 1) (by omega) ex3) ?_
          walk_at "go"
          have eb : badAt ds i = decide (c3 ≤ c) := by
            unfold badAt
            rw [egd, eg3, hv, edt, edt3, decide_eq_true (show 0 < i by omega)]
            show (false || (true && decide (c3 ≤ c))) = _
            rw [Bool.true_and, Bool.false_or]
          refine i_d (fun q => ?_) (fun q => ?_)
          · walk_at "go"
            refine e_mkO ?_
            walk_at "go"
            exact o_mkF T.e_NoVersions.o T.a_NoVersions_index fun dd nd => raise (by rw [eb]; exact decide_eq_true (by omega)) _ s4 _ nd
          · walk_at "go"
            refine ⟨⟨_, _, rfl⟩, s2.trans s3, fun j hj => ?_⟩
            by_cases z : j = i
            · rw [z, eb]; exact decide_eq_false (by omega)
            · exact b j (by omega)
        · walk_at "go"
          refine ⟨⟨_, _, rfl⟩, s2.trans s3, fun j hj => ?_⟩
          have z : j = i := by omega
          rw [z]
          unfold badAt
          rw [egd, hv, decide_eq_false (show ¬ 0 < i by omega)]; rfl
end



section
variable {P : Program} {w : World} {K : PySem.W.Frag} {mg : Str → Option Value} {base : Heap}
/-! ### what is refused -/
def sp_need_last (K : PySem.W.Frag) (Cn : Addr) : Sp := fun vs H Q E => ∃ x N d b, vs = [x, .int b] ∧ Dq K N H x d ∧ (withinD d b GC = true → Q .non H) ∧ (withinD d b GC = false → E (.ref Cn) none H)
theorem ok_need_last (T : Txt K mg) : FnOk P w K mg base (L2.CX P w) 3 T.need_last.f T.need_last.fd ["last", "least"] ((sp_need_last K T.e_NoNumber.C)) := by
  refine T.need_last.F.okX sc_need_last (fun vs H Q E h => ?_) (fun cdv A outer s H vs Q E hr h => ?_)
  · obtain ⟨x, N, d, b, rfl, _⟩ := h
    rfl
  · obtain ⟨x, N, d, b, rfl, hd, k, kE⟩ := h
    refine ⟨_, (pss_one (ps_if (pt_not (ptTruth (K := K) (pe_call (ok_is_within T) (hr.mono (by decide)) (by rfl) T.is_within.g T.is_within.F.kp T.is_within.b .nil pass0 (pa_cons (pv 0) (pa_cons (pv 1) (pa_cons (pe_glob (by rfl) T.c_GREATEST_COMMIT.h T.c_GREATEST_COMMIT.r) pa_nil)))) (by intro _; rfl))) (pss_one (ps_raise rfl (takes_of rfl rfl rfl rfl) (pmk_oexN T.e_NoNumber.o T.e_NoNumber.i T.e_NoNumber.t (ok_StoreError_init T.m_StoreError_init T.z_ValueError T.vV) (hr.mono (by decide)) T.m_StoreError_init.b pass0 (by rfl) T.e_NoNumber.g))) pss_nil)), ?_⟩
    walk_at "go"
    refine ⟨x, N, d, _, _, rfl, hd, ?_⟩
    cases e : withinD d b 1000000000000000000 with
    | true =>
      walk_at "go"
      exact k e
    | false =>
      walk_at "go"
      exact e_raise T.e_NoNumber.o (kE e)
def snapD (d : PyData) (b : Int) : Bool := lotPD d && (match d with
  | .tuple ds => ds.isEmpty || decide (toID (ds.getD (ds.length - 1) .none) ≤ b)
  | _ => false)
def sp_need_snapshots (K : PySem.W.Frag) (Cs : Addr) : Sp := fun vs H Q E => ∃ x N d b, vs = [x, .int b] ∧ Dq K N H x d ∧ (∀ ds, d = .tuple ds → ds.length ≤ 1000) ∧ (snapD d b = true → ∀ H', Same H H' → Q .non H') ∧ (snapD d b = false → ∀ H', Same H H' → E (.ref Cs) none H')
theorem ok_need_snapshots (T : Txt K mg) : FnOk P w K mg base (L2.CX P w) 4 T.need_snapshots.f T.need_snapshots.fd ["open_lot", "last"] ((sp_need_snapshots K T.e_NoSnapshots.C)) := by
  refine T.need_snapshots.F.okX sc_need_snapshots (fun vs H Q E h => ?_) (fun cdv A outer s H vs Q E hr h => ?_)
  · obtain ⟨x, N, d, b, rfl, _⟩ := h
    rfl
  · obtain ⟨x, N, d, b, rfl, hd, hl, k, kE⟩ := h
    refine ⟨_, (pss_one (ps_if (PW.pt (pw_or (pt_not (ptTruth (K := K) (pe_call (ok_is_lot T) (hr.mono (by decide)) (by rfl) T.is_lot.g T.is_lot.F.kp T.is_lot.b .nil pass0 (pa_cons (pv 0) pa_nil)) (by intro _; rfl))) (pw_or1 (PW.pt (pw_and (pt_cmpR op_gt (pe_callB (cLen (K := K)) (by rfl) T.z_len PySem.boot_len (pa_cons (pv 0) pa_nil)) pe_int (nomark _)) (pw_and1 (pt_cmpR op_gt (pe_ix (ixLT (K := K)) (pv 0) (pe_un un_neg pe_int) (fun _ _ => rfl)) (pv 1) (nomark _)))))))) (pss_one (ps_raise rfl (takes_of rfl rfl rfl rfl) (pmk_oexN T.e_NoSnapshots.o T.e_NoSnapshots.i T.e_NoSnapshots.t (ok_StoreError_init T.m_StoreError_init T.z_ValueError T.vV) (hr.mono (by decide)) T.m_StoreError_init.b pass0 (by rfl) T.e_NoSnapshots.g))) pss_nil)), ?_⟩
    walk_at "go"
    refine ⟨x, N, d, rfl, hd, hl, fun H1 s1 => ?_⟩
    cases e : lotPD d with
    | false =>
      walk_at "go"
      exact e_raise T.e_NoSnapshots.o (kE (by unfold snapD; rw [e]; rfl) _ s1)
    | true =>
      have et : ∃ ds, d = .tuple ds := by
        unfold lotPD at e
        split at e
        · exact ⟨_, rfl⟩
        · cases e
      obtain ⟨ds, rfl⟩ := et
      cases id hd with
      | @tup a ys _ hS hA =>
        have en : (ds.all isND && ascB (ds.map toID)) = true := e
        rw [Bool.and_eq_true] at en
        have ey := intsD_of hA en.1
        have hS1 := st_ s1 hS
        have ll := hA.len
        have es : snapD (.tuple ds) b = (ds.isEmpty || decide (toID (ds.getD (ds.length - 1) .none) ≤ b)) := by
          show (lotPD (.tuple ds) && _) = _
          rw [e, Bool.true_and]
        rw [es] at k kE
        walk_at "go"
        refine i_d (fun h0 => ?_) (fun h0 => ?_)
        · walk_at "go"
          have hne : ds.length ≠ 0 := by omega
          have eg : ys[ds.length - 1]? = some (.int (toID (ds.getD (ds.length - 1) .none))) := by
            rw [ey, List.getElem?_map, List.getElem?_map, List.getD_eq_getElem?_getD, List.getElem?_eq_getElem (by omega)]; rfl
          have eAt : atI ys (-1) = some (.int (toID (ds.getD (ds.length - 1) .none))) := by
            exact atI_neg (by omega) (by rw [ll]; exact eg)
          refine o_ixT hS1 eAt ?_
          walk_at "go"
          have ee : ds.isEmpty = false := by
            cases ds with
            | nil => exact absurd rfl hne
            | cons a b => rfl
          rw [ee, Bool.false_or] at k kE
          refine i_d (fun q => ?_) (fun q => ?_)
          · walk_at "go"
            exact e_raise T.e_NoSnapshots.o (kE (decide_eq_false (by omega)) _ s1)
          · walk_at "go"
            exact k (decide_eq_true (by omega)) _ s1
        · walk_at "go"
          have e0 : ds = [] := List.length_eq_zero_iff.mp (by omega)
          subst e0
          exact k rfl _ s1
def topD (d : PyData) : Int := match vsD d with
  | some (x :: _) => comD x
  | _ => 0
inductive Rf
  | v (i : Int)
  | n
  | s
def refuse (dv ds dl : PyData) : Option Rf := match badD dv with
  | some i => some (.v i)
  | none => if withinD dl (topD dv) GC = true then (if snapD ds (toID dl) = true then none else some .s) else some .n
def RfE (Cv Cn Cs : Addr) (E : XK) (H : Hp) : Rf → Prop
  | .v i => FldE E Cv "index" (.int i) H
  | .n => ∀ H', Same H H' → E (.ref Cn) none H'
  | .s => ∀ H', Same H H' → E (.ref Cs) none H'
def SzD (d : PyData) : Prop := ∀ ds, vsD d = some ds → ds.length ≤ 1000
def sp_need_all (K : PySem.W.Frag) (Cv Cn Cs : Addr) : Sp := fun vs H Q E => ∃ x y z N1 N2 N3 dv ds dl, vs = [x, y, z] ∧ Dq K N1 H x dv ∧ Dq K N2 H y ds ∧ Dq K N3 H z dl ∧ SzD dv ∧ SzD ds ∧ (refuse dv ds dl = none → ∀ H', Same H H' → Q .non H') ∧ (∀ r, refuse dv ds dl = some r → RfE Cv Cn Cs E H r)
theorem ok_need_all (T : Txt K mg) : FnOk P w K mg base (L2.CX P w) 7 T.need_all.f T.need_all.fd ["versions", "open_lot", "last"] ((sp_need_all K T.e_NoVersions.C T.e_NoNumber.C T.e_NoSnapshots.C)) := by
  refine T.need_all.F.okX sc_need_all (fun vs H Q E h => ?_) (fun cdv A outer s H vs Q E hr h => ?_)
  · obtain ⟨x, y, z, N1, N2, N3, dv, ds, dl, rfl, _⟩ := h
    rfl
  · obtain ⟨x, y, z, N1, N2, N3, dv, ds, dl, rfl, hv, hs, hd, z1, z2, k, kE⟩ := h
    refine ⟨_, (pss_cons (ps_expr (pe_call (ok_need_versions T) (hr.mono (by decide)) (by rfl) T.need_versions.g T.need_versions.F.kp T.need_versions.b .nil (passes_call (takes_of rfl rfl rfl rfl) (fun _ _ _ _ h => h)) (pa_cons (pv 0) pa_nil)))
    (pss_cons (ps_expr (pe_call (ok_need_last T) (hr.mono (by decide)) (by rfl) T.need_last.g T.need_last.F.kp T.need_last.b .nil (passes_call (takes_of rfl rfl rfl rfl) (fun _ _ _ _ h => h)) (pa_cons (pv 2) (pa_cons (pe_ifExp (pt_cmpR op_gt (pe_callB (cLen (K := K)) (by rfl) T.z_len PySem.boot_len (pa_cons (pv 0) pa_nil)) pe_int (nomark _)) (pe_ix (ixLT (K := K)) (pe_ix (ixLT (K := K)) (pv 0) pe_int (fun _ _ => rfl)) pe_int (fun _ _ => rfl)) pe_int) pa_nil))))
    (pss_one (ps_expr (pe_call (ok_need_snapshots T) (hr.mono (by decide)) (by rfl) T.need_snapshots.g T.need_snapshots.F.kp T.need_snapshots.b .nil (passes_call (takes_of rfl rfl rfl rfl) (fun _ _ _ _ h => h)) (pa_cons (pv 1) (pa_cons (pv 2) pa_nil))))))), ?_⟩
    walk_at "go"
    refine ⟨x, N1, dv, rfl, hv, z1, fun eb H1 s1 => ?_, fun i eb => kE (.v i) (by unfold refuse; rw [eb])⟩
    walk_at "go"
    cases ev : vsD dv with
    | none => unfold badD at eb; rw [ev] at eb; cases eb
    | some vs =>
      obtain ⟨a, xs, rfl, hS, hA⟩ := vs_sq hv ev
      have ll := hA.len
      have fin : ∀ H2, Same H1 H2 → withinD dl (topD dv) GC = true → sp_need_snapshots K T.e_NoSnapshots.C [y, z] H2 (fun _ H2 => Q .non H2) E := fun H2 s2 ew => by
        have el : ∃ l, dl = .int l := by
          cases dl with
          | int l => exact ⟨l, rfl⟩
          | _ => cases ew
        obtain ⟨l, rfl⟩ := el
        cases hd
        refine ⟨y, N2, ds, l, rfl, (hs.same (s1.trans s2)), fun us e => z2 us (by rw [e]; rfl), fun es H3 s3 => k (by unfold refuse; rw [eb]; show (if _ then _ else _) = none; rw [if_pos ew, if_pos (show snapD ds (toID (PyData.int l)) = true from es)]) _ (s1.trans (s2.trans s3)), fun es H3 s3 => ?_⟩
        exact kE .s (by unfold refuse; rw [eb]; show (if _ then _ else _) = _; rw [if_pos ew, if_neg (show ¬ snapD ds (toID (PyData.int l)) = true by show ¬ snapD ds l = true; rw [es]; exact Bool.false_ne_true)]) _ (s1.trans (s2.trans s3))
      refine e_lenX' (sx_ s1 hS) ?_
      walk_at "go"
      refine i_d (fun h0 => ?_) (fun h0 => ?_)
      · walk_at "go"
        have hx : 0 < vs.length := by omega
        obtain ⟨x0, ex0⟩ : ∃ x0, xs[0]? = some x0 := ⟨_, List.getElem?_eq_getElem (by omega)⟩
        obtain ⟨d0, ed0, hd0⟩ := hA.get ex0
        refine o_ixX (sx_ s1 hS) (atI_in (j := 0) rfl ex0) ?_
        have hv0 : verD d0 = true := by
          unfold badD firstBad at eb
          rw [ev] at eb
          have eb : Option.map _ ((List.range vs.length).find? (badAt vs)) = none := eb
          rw [Option.map_eq_none_iff, List.find?_eq_none] at eb
          have := eb 0 (List.mem_range.mpr hx)
          unfold badAt at this
          rw [show vs.getD 0 .none = d0 by rw [List.getD_eq_getElem?_getD, ed0]; rfl] at this
          cases q : verD d0 with
          | true => rfl
          | false => rw [q] at this; exact absurd rfl this
        obtain ⟨a0, c0, y0, m0, rfl, hS0, edt0, _⟩ := verD_tup hd0 hv0
        have hS01 := st_ s1 hS0
        walk_at "go"
        have et : topD dv = c0 := by
          unfold topD
          rw [ev]
          cases vs with
          | nil => cases ed0
          | cons v r => cases ed0; rw [edt0]; rfl
        refine ⟨z, N3, dl, c0, rfl, hd.same s1, fun ew => ?_, fun ew => ?_⟩
        · walk_at "go"
          exact fin _ (Same.refl _) (by rw [et]; exact ew)
        · exact kE .n (by unfold refuse; rw [eb]; show (if _ then _ else _) = _; rw [if_neg (by rw [et, ew]; exact Bool.false_ne_true)]) _ s1
      · walk_at "go"
        have et : topD dv = 0 := by
          unfold topD
          rw [ev]
          cases vs with
          | nil => rfl
          | cons v r => exact absurd (show 0 < (xs.length : Int) by rw [ll, List.length_cons]; omega) h0
        refine ⟨z, N3, dl, 0, rfl, hd.same s1, fun ew => ?_, fun ew => ?_⟩
        · walk_at "go"
          exact fin _ (Same.refl _) (by rw [et]; exact ew)
        · exact kE .n (by unfold refuse; rw [eb]; show (if _ then _ else _) = _; rw [if_neg (by rw [et, ew]; exact Bool.false_ne_true)]) _ s1
end



section
variable {P : Program} {w : World} {K : PySem.W.Frag} {mg : Str → Option Value} {base : Heap}
def sp_asked_of (K : PySem.W.Frag) : Sp := fun vs H Q _ => ∃ b ns l, vs = [.ref b, .int l] ∧ SqT K H b (ns.map V.int) ∧ ns.length < 60 ∧
  ∀ p H' (as : List Int), H p = none → Same H H' → H' p = some (.lst (as.map V.int)) → as.Pairwise (· < ·) → (∀ z, z ∈ as ↔ z ∈ ns ++ [l]) → as.length < 64 → Q (.ref p) H'
theorem ok_asked_of (T : Txt K mg) : FnOk P w K mg base CX0 1 T.asked_of.f T.asked_of.fd ["open_lot", "last"] (sp_asked_of K) := by
  refine T.asked_of.F.ok sc_asked_of (fun vs H Q E h => ?_) (fun cdv A outer s H vs Q E hr h => ?_)
  · obtain ⟨b, ns, l, rfl, _⟩ := h
    rfl
  · obtain ⟨b, ns, l, rfl, hT, hl, k⟩ := h
    refine ⟨_, (pss_one (ps_ret (pe_callB (cSortSet (w := w) rfl) (by rfl) T.z_sorted (by decide +kernel) (pa_cons (pe_callTy (cSetL (K := K) (w := w) rfl) (by rfl) T.z_set (by decide +kernel) (pa_cons (pe_op oAdd (pe_callTy (cListOf (K := K)) (by rfl) T.z_list (by decide +kernel) (pa_cons (pv 0) pa_nil)) (pe_lst (pa_cons (pv 1) pa_nil))) pa_nil)) pa_nil)))), ?_⟩
    walk_at "go"
    refine n_new0 fun p1 H1 n1 s1 h1 => ?_
    walk_at "go"
    refine n_new (le_size (by simp)) fun p2 H2 n2 s2 h2 => ?_
    have h12 := at_ s2 h1
    walk_at "go"
    refine o_cat h12 h2 (by simp; omega) (n_new0 fun p3 H3 n3 s3 h3 => ?_)
    have e3 : ns.map V.int ++ [V.int l] = (ns ++ [l]).map V.int := by rw [List.map_append]; rfl
    rw [e3] at h3
    walk_at "go"
    refine c_setL (slO h3) (by simp; omega) fun p4 c H4 hc n4 s4 h4 => ?_
    walk_at "go"
    have hc' : c < 64 := by simp at hc; omega
    refine c_sortS h4 hc' fun as p5 H5 a1 a2 a3 n5 s5 h5 => ?_
    have ss := s1.trans (s2.trans (s3.trans (s4.trans s5)))
    exact k p5 H5 as (free_ (s1.trans (s2.trans (s3.trans s4))) n5) ss h5 a1 (fun z => (a2 z).trans (by simp)) (by omega)
/-- the place of the version that is seen -/
def fi (xs : List (Int × Option Int)) (s : Int) : Nat := xs.findIdx fun v => decide (v.1 ≤ s)
def seenV (ps : List Addr) (xs : List (Int × Option Int)) (s : Int) : V := match ps[fi xs s]? with
  | some p => .ref p
  | none => .non
theorem fi_le {xs : List (Int × Option Int)} {s : Int} : fi xs s ≤ xs.length := List.findIdx_le_length
theorem fi_min {xs : List (Int × Option Int)} {s : Int} {j : Nat} (hj : j < xs.length) (h : xs[j].1 ≤ s) : fi xs s ≤ j := by
  refine Nat.not_lt.mp fun z => ?_
  have := List.not_of_lt_findIdx (p := fun v : Int × Option Int => decide (v.1 ≤ s)) (xs := xs) (i := j) z
  simp at this
  omega
theorem fi_at {xs : List (Int × Option Int)} {s : Int} (h : fi xs s < xs.length) : xs[fi xs s].1 ≤ s := by
  have := List.findIdx_getElem (p := fun v : Int × Option Int => decide (v.1 ≤ s)) (xs := xs) (w := h)
  exact of_decide_eq_true this
theorem fi_behind {xs : List (Int × Option Int)} (hV : Valid xs) {s : Int} {j : Nat} (h : fi xs s ≤ j) (hj : j < xs.length) : xs[j].1 ≤ s := by
  rcases Nat.lt_or_eq_of_le h with z | z
  · have h1 := fi_at (xs := xs) (s := s) (by omega)
    have h2 := hV.lt z hj
    omega
  · have h1 := fi_at (xs := xs) (s := s) (by omega)
    simp only [z] at h1
    exact h1
theorem fi_mono {xs : List (Int × Option Int)} {s t : Int} (h : s ≤ t) : fi xs t ≤ fi xs s := by
  rcases Nat.lt_or_ge (fi xs s) xs.length with z | z
  · exact fi_min z (by have := fi_at z; omega)
  · exact Nat.le_trans fi_le z
def slotN (i : Nat) (σ : L2.St) : Nat := match σ[i]? with
  | some (some (V.int z)) => z.toNat
  | _ => 0
def sp_seen_each (K : PySem.W.Frag) : Sp := fun vs H Q _ => ∃ a ps xs b, ∃ as : List Int, vs = [.ref a, .ref b] ∧ SqX K H a (ps.map V.ref) ∧ PairsAt K H ps xs ∧ Valid xs ∧ H b = some (.lst (as.map V.int)) ∧ as.Pairwise (· < ·) ∧ as.length < 64 ∧
  ∀ p H', H p = none → Same H H' → H' p = some (.lst (as.map (seenV ps xs))) → Q (.ref p) H'
theorem ok_seen_each (T : Txt K mg) : FnOk P w K mg base CX0 1 T.seen_each.f T.seen_each.fd ["versions", "snapshots"] (sp_seen_each K) := by
  refine T.seen_each.F.ok sc_seen_each (fun vs H Q E h => ?_) (fun cdv A outer s H vs Q E hr h => ?_)
  · obtain ⟨a, ps, xs, b, as, rfl, _⟩ := h
    rfl
  · obtain ⟨a, ps, xs, b, as, rfl, hS, hP, hV, hA, hasc, hlen, k⟩ := h
    refine ⟨_, (pss_cons (ps_set (i := 2) sc_seen_each.nd rfl (Or.inl rfl) (pe_lst pa_nil))
    (pss_cons (ps_set (i := 3) sc_seen_each.nd rfl (Or.inl rfl) (pe_callB (cLen (K := K)) (by rfl) T.z_len PySem.boot_len (pa_cons (pv 0) pa_nil)))
    (pss_cons (ps_for PassesOwn.never rfl (piL (K := K) (pv 1)) (pg_name (i := 4) sc_seen_each.nd rfl (Or.inl rfl))
      (pss_cons (ps_while PassesOwn.never (PW.pt (pw_and (pt_cmpR op_gt (pv 3) pe_int (nomark _)) (pw_and1 (pt_cmpR op_le (pe_ix (ixLT (K := K)) (pe_ix (ixLT (K := K)) (pv 0) (pe_op op_sub (pv 3) pe_int) (fun _ _ => rfl)) pe_int (fun _ _ => rfl)) (pv 4) (nomark _))))) (pss_one (ps_aug (i := 3) sc_seen_each.nd rfl (Or.inl rfl) pe_int ip_sub)))
    (pss_one (ps_expr (peApp (K := K) (pe_bm PySem.F.plainAttrs_list PySem.F.slot_list_append PySem.F.type_list_append mt_append (pv 2) (pa_cons (pe_ifExp (pt_cmpR oLt (pv 3) (pe_callB (cLen (K := K)) (by rfl) T.z_len PySem.boot_len (pa_cons (pv 0) pa_nil)) (nomark _)) (pe_ix (ixLT (K := K)) (pv 0) (pv 3) (fun _ _ => rfl)) pe_non) pa_nil)))))))
    (pss_one (ps_ret (pv 2)))))), ?_⟩
    walk_at "go"
    refine n_new (by decide) fun f H1 n1 s1 h1 => ?_
    walk_at "go"
    refine e_lenX (sx_ s1 hS) ?_
    walk_at "go"
    have hA1 := at_ s1 hA
    refine i_lst (slO hA1) ?_
    refine l_lst (xs := as.map V.int) (fun i σ H' => (∃ (j : Nat) (y : Option V), σ = [some (.ref a), some (.ref b), some (.ref f), some (.int (j : Nat)), y] ∧ j ≤ xs.length ∧ ∀ s, as[i]? = some s → fi xs s ≤ j) ∧ Same H H' ∧ H' f = some (.lst ((as.take i).map (seenV ps xs)))) ?_ (fun i σ H' hi p => slO (at_ p.2.1 hA)) (fun σ H' p => ?_) (fun i x σ H' hx p => ?_)
    · refine ⟨⟨ps.length, none, rfl, Nat.le_of_eq hP.1, fun s _ => by rw [hP.1]; exact fi_le⟩, s1, ?_⟩
      rw [h1]; rfl
    · obtain ⟨⟨j, y, rfl, hj, _⟩, s2, h2⟩ := p
      rw [List.length_map, List.take_length] at h2
      walk_at "go"
      exact k f H' n1 s2 h2
    · obtain ⟨⟨j, y, rfl, hj, hfi⟩, s2, h2⟩ := p
      have hi : i < as.length := by
        have := (List.getElem?_eq_some_iff.mp hx).1
        simpa using this
      have ex : x = .int as[i] := by
        rw [List.getElem?_map, List.getElem?_eq_getElem hi] at hx
        exact (Option.some.inj hx).symm
      subst ex
      have hf := hfi _ (List.getElem?_eq_getElem hi)
      walk_at "go"
      refine while_ (μ := fun σ _ => slotN 3 σ) (fun σ2 H2 => H2 = H' ∧ ∃ j' : Nat, σ2 = [some (.ref a), some (.ref b), some (.ref f), some (.int (j' : Nat)), some (.int as[i])] ∧ fi xs as[i] ≤ j' ∧ j' ≤ xs.length) ⟨rfl, j, rfl, hf, hj⟩ ?_ (by walk_at "mo")
      rintro σ2 H2 ⟨eH, j', rfl, g1, g2⟩
      have eH := eH.symm
      subst eH
      have hP' := pa_ s2 hP
      have done : fi xs as[i] = j' → tDrop (tBM K "list" rAppend (tVar 2) (tCons (tIf (tTest (tOp (rI0 fun i j => V.bl (decide (i < j))) (tVar 3) (tCB (rLen' K) (tCons (tVar 0) tNil)))) (tOp (rIxLT K) (tVar 0) (tVar 3)) (tC V.non)) tNil))
          { nx := fun σ H' => (∃ (j : Nat) (y : Option V), σ = [some (.ref a), some (.ref b), some (.ref f), some (.int (j : Nat)), y] ∧ j ≤ xs.length ∧ ∀ s, as[i + 1]? = some s → fi xs s ≤ j) ∧ Same H H' ∧ H' f = some (.lst ((as.take (i + 1)).map (seenV ps xs))), rt := Q }
          [some (.ref a), some (.ref b), some (.ref f), some (.int (j' : Nat)), some (.int as[i])] H' := fun ej => by
        have e1 : (as.take (i + 1)).map (seenV ps xs) = (as.take i).map (seenV ps xs) ++ [seenV ps xs as[i]] := by
          rw [List.take_add_one, List.getElem?_eq_getElem hi, List.map_append]; rfl
        have nxt : ∀ s, as[i + 1]? = some s → fi xs s ≤ j' := fun s hs => by
          obtain ⟨hi1, e⟩ := List.getElem?_eq_some_iff.mp hs
          have := List.pairwise_iff_getElem.mp hasc i (i + 1) hi hi1 (by omega)
          rw [← ej, ← e]
          exact fi_mono (by omega)
        walk_at "go"
        refine e_lenX (sx_ s2 hS) ?_
        walk_at "go"
        refine i_d (fun h0 => ?_) (fun h0 => ?_)
        · have hj : j' < ps.length := by omega
          walk_at "go"
          refine o_ixX (sx_ s2 hS) (atI_ref j' rfl hj) ?_
          walk_at "go"
          refine r_app h2 (by simp; omega) fun H3 o3 h3 => ?_
          refine ⟨⟨j', _, rfl, g2, nxt⟩, same_oth n1 s2 o3, ?_⟩
          have e2 : seenV ps xs as[i] = .ref ps[j'] := by
            unfold seenV
            rw [ej, List.getElem?_eq_getElem hj]
          rw [h3, e1, e2]
        · walk_at "go"
          refine r_app h2 (by simp; omega) fun H3 o3 h3 => ?_
          refine ⟨⟨j', _, rfl, g2, nxt⟩, same_oth n1 s2 o3, ?_⟩
          have e2 : seenV ps xs as[i] = .non := by
            unfold seenV
            rw [ej, List.getElem?_eq_none (by omega)]
          rw [h3, e1, e2]
      walk_at "go"
      refine i_d (fun h0 => ?_) (fun h0 => ?_)
      · have hj1 : j' - 1 < xs.length := by omega
        have hv := hP'.at hj1
        walk_at "go"
        refine o_ixX (sx_ s2 hS) (atI_ref (j' - 1) (by omega) (by rw [hP.1]; exact hj1)) ?_
        walk_at "go"
        refine i_d (fun h1 => ?_) (fun h1 => ?_)
        · walk_at "go"
          have e : ((j' : Nat) : Int) - 1 = ((j' - 1 : Nat) : Int) := by omega
          refine ⟨⟨rfl, j' - 1, ?_, fi_min hj1 h1, by omega⟩, ?_⟩
          · rw [e]; rfl
          · show (((j' : Nat) : Int) - 1).toNat < ((j' : Nat) : Int).toNat
            omega
        · refine done (Nat.le_antisymm g1 (Nat.not_lt.mp fun z => h1 ?_))
          exact fi_behind hV (by omega) hj1
      · refine iteF ?_
        exact done (by omega)
end



section
variable {P : Program} {w : World} {K : PySem.W.Frag} {mg : Str → Option Value} {base : Heap}
def top (xs : List (Int × Option Int)) : Int := match xs with
  | [] => 0
  | v :: _ => v.1
/-! ### good ones, as data -/
def pairP (v : Int × Option Int) : PyData := .tuple [.int v.1, markP v.2]
theorem dq_int {N : Addr → Prop} {H : Hp} : ∀ ns : List Int, DqAll K N H (ns.map V.int) (ns.map PyData.int)
  | [] => .nil
  | i :: ns => .cons (.int i) (dq_int ns)
theorem dq_mark {N : Addr → Prop} {H : Hp} : ∀ m : Option Int, Dq K N H (markV m) (markP m)
  | none => .non
  | some i => .int i
theorem dq_pairs {N : Addr → Prop} {H : Hp} : ∀ {ps : List Addr} {xs : List (Int × Option Int)}, PairsAt K H ps xs → DqAll K N H (ps.map V.ref) (xs.map pairP)
  | [], [], _ => .nil
  | [], _ :: _, h => by have := h.1; cases this
  | _ :: _, [], h => by have := h.1; cases this
  | p :: ps, v :: xs, h => .cons (.tup (h.2 0 p v rfl rfl) (.cons (.int _) (.cons (dq_mark _) .nil))) (dq_pairs ⟨Nat.succ.inj h.1, fun i p v a b => h.2 (i + 1) p v a b⟩)
theorem ver_pair {xs : List (Int × Option Int)} (hV : Valid xs) {v : Int × Option Int} (hv : v ∈ xs) : verD (pairP v) = true := by
  show (withinD (.int v.1) 1 GC && markD (markP v.2)) = true
  have := hV.comm v hv
  rw [hV.mark v hv, Bool.and_true]
  show (decide _ && decide _) = true
  rw [decide_eq_true this.1, decide_eq_true this.2]; rfl
theorem bad_valid {xs : List (Int × Option Int)} (hV : Valid xs) : firstBad (xs.map pairP) = none := by
  unfold firstBad
  refine find_none fun j hj => ?_
  rw [List.length_map] at hj
  have e : ∀ i, (hi : i < xs.length) → (xs.map pairP).getD i .none = pairP xs[i] := fun i hi => by rw [List.getD_eq_getElem?_getD, List.getElem?_map, List.getElem?_eq_getElem hi]; rfl
  unfold badAt
  rw [e j hj, ver_pair hV (List.getElem_mem hj)]
  by_cases z : 0 < j
  · rw [e (j - 1) (by omega)]
    have := hV.lt (show j - 1 < j by omega) hj
    rw [decide_eq_true z]
    show (false || (true && decide ((xs[j - 1]).1 ≤ (xs[j]).1))) = false
    rw [decide_eq_false (by omega)]; rfl
  · rw [decide_eq_false z]; rfl
theorem good_dq {H : Hp} {a : Addr} {ps : List Addr} {xs : List (Int × Option Int)} (hS : SqX K H a (ps.map V.ref)) (hP : PairsAt K H ps xs) (hV : Valid xs) : ∃ d, Dq K (fun _ => True) H (.ref a) d ∧ vsD d = some (xs.map pairP) := by
  rcases hS with h | h
  · exact ⟨.list (xs.map pairP), .lst h trivial (dq_pairs hP), rfl⟩
  · exact ⟨.tuple (xs.map pairP), .tup h (dq_pairs hP), rfl⟩
theorem good_refuse {d : PyData} {xs : List (Int × Option Int)} {ns : List Int} {l : Int} (e : vsD d = some (xs.map pairP)) (hV : Valid xs) (h1 : lotB ns = true) (h2 : ∀ z ∈ ns, z ≤ l) (h3 : top xs ≤ l) (h4 : l ≤ GC) : refuse d (.tuple (ns.map PyData.int)) (.int l) = none := by
  have eb : badD d = none := by
    unfold badD
    rw [e]
    show Option.map _ _ = none
    rw [bad_valid hV]; rfl
  have et : topD d = top xs := by
    unfold topD
    rw [e]
    cases xs with
    | nil => rfl
    | cons v r => rfl
  unfold refuse
  rw [eb]
  show (if _ then _ else _) = none
  rw [et, if_pos (show withinD (.int l) (top xs) GC = true by show (decide _ && decide _) = true; rw [decide_eq_true h3, decide_eq_true h4]; rfl)]
  rw [if_pos]
  show snapD _ l = true
  unfold snapD
  rw [lot_ints, h1]
  show ((ns.map PyData.int).isEmpty || _) = true
  cases ns with
  | nil => rfl
  | cons z r =>
    rw [Bool.or_eq_true]
    refine .inr (decide_eq_true ?_)
    rw [List.length_map, List.getD_eq_getElem?_getD, List.getElem?_map, List.getElem?_eq_getElem (by simp)]
    exact h2 _ (List.getElem_mem _)
/-- the bad call, as told by all three -/
def BadQ (K : PySem.W.Frag) (Cv Cn Cs : Addr) (E : XK) (H : Hp) (x y z : V) : Prop := ∃ N1 N2 N3 dv ds dl r, Dq K N1 H x dv ∧ Dq K N2 H y ds ∧ Dq K N3 H z dl ∧ SzD dv ∧ SzD ds ∧ refuse dv ds dl = some r ∧ RfE Cv Cn Cs E H r
theorem BadQ.all {Cv Cn Cs : Addr} {E : XK} {H : Hp} {x y z : V} {Q : VK} (h : BadQ K Cv Cn Cs E H x y z) : sp_need_all K Cv Cn Cs [x, y, z] H Q E := by
  obtain ⟨N1, N2, N3, dv, ds, dl, r, a, b, c, z1, z2, e, k⟩ := h
  exact ⟨x, y, z, N1, N2, N3, dv, ds, dl, rfl, a, b, c, z1, z2, (fun z => by rw [e] at z; cases z), fun r' e' => by rw [e] at e'; cases e'; exact k⟩
structure GoodQ (K : PySem.W.Frag) (H : Hp) (a : Addr) (ps : List Addr) (xs : List (Int × Option Int)) (b : Addr) (ns : List Int) (l : Int) : Prop where
  hS : SqX K H a (ps.map V.ref)
  hP : PairsAt K H ps xs
  hV : Valid xs
  hB : SqT K H b (ns.map V.int)
  n : ns.length < 60
  lo : lotB ns = true
  le : ∀ z ∈ ns, z ≤ l
  t : top xs ≤ l
  g : l ≤ GC
theorem GoodQ.all {Cv Cn Cs : Addr} {E : XK} {H : Hp} {a b : Addr} {ps : List Addr} {xs : List (Int × Option Int)} {ns : List Int} {l : Int} {Q : VK} (h : GoodQ K H a ps xs b ns l) (q : ∀ H', Same H H' → Q .non H') : sp_need_all K Cv Cn Cs [.ref a, .ref b, .int l] H Q E := by
  obtain ⟨d, hd, ev⟩ := good_dq h.hS h.hP h.hV
  have er := good_refuse ev h.hV h.lo h.le h.t h.g
  refine ⟨_, _, _, fun _ => True, fun _ => True, fun _ => True, d, .tuple (ns.map PyData.int), .int l, rfl, hd, .tup h.hB (dq_int ns), .int l, fun us e => ?_, fun us e => ?_, fun _ => q, fun r e => by rw [er] at e; cases e⟩
  · rw [ev] at e; cases e; rw [List.length_map]; exact h.hV.few
  · cases e; rw [List.length_map]; have := h.n; omega
def hit (xs : List (Int × Option Int)) (c s : Int) : Bool := match xs[fi xs s]? with
  | some v => decide (v.1 = c)
  | none => false
def seenC (xs : List (Int × Option Int)) (as : List Int) (c : Int) : Bool := as.any (hit xs c)
theorem seenC_congr {xs : List (Int × Option Int)} {as bs : List Int} (h : ∀ z, z ∈ as ↔ z ∈ bs) : seenC xs as = seenC xs bs := by
  funext c
  unfold seenC
  rw [Bool.eq_iff_iff, List.any_eq_true, List.any_eq_true]
  exact ⟨fun ⟨z, a, b⟩ => ⟨z, (h z).mp a, b⟩, fun ⟨z, a, b⟩ => ⟨z, (h z).mpr a, b⟩⟩
def keepF (S : Int → Bool) (acc : List Int) (v : Int × Option Int) : List Int := if S v.1 && (v.2.isSome || !acc.isEmpty) then acc ++ [v.1] else acc
def keepC (S : Int → Bool) (xs : List (Int × Option Int)) : List Int := xs.reverse.foldl (keepF S) []
theorem keepF_len (S : Int → Bool) (acc : List Int) (v : Int × Option Int) : (keepF S acc v).length ≤ acc.length + 1 := by
  unfold keepF
  split <;> simp
theorem foldl_keep_len (S : Int → Bool) : ∀ (l : List (Int × Option Int)) (acc : List Int), (l.foldl (keepF S) acc).length ≤ acc.length + l.length
  | [], acc => by simp
  | v :: l, acc => by
    rw [List.foldl_cons]
    have h1 := foldl_keep_len S l (keepF S acc v)
    have h2 := keepF_len S acc v
    simp only [List.length_cons]
    omega
def sp_needed_commits (K : PySem.W.Frag) : Sp := fun vs H Q _ => ∃ a ps xs b l, ∃ ns : List Int, vs = [.ref a, .ref b, .int l] ∧ SqX K H a (ps.map V.ref) ∧ PairsAt K H ps xs ∧ Valid xs ∧ SqT K H b (ns.map V.int) ∧ ns.length < 60 ∧
  ∀ p H', H p = none → Same H H' → H' p = some (.tup ((keepC (seenC xs (ns ++ [l])) xs).map V.int)) → Q (.ref p) H'
theorem ok_needed_commits (T : Txt K mg) : FnOk P w K mg base CX0 2 T.needed_commits.f T.needed_commits.fd ["versions", "open_lot", "last"] (sp_needed_commits K) := by
  refine T.needed_commits.F.ok sc_needed_commits (fun vs H Q E h => ?_) (fun cdv A outer s H vs Q E hr h => ?_)
  · obtain ⟨a, ps, xs, b, l, ns, rfl, _⟩ := h
    rfl
  · obtain ⟨a, ps, xs, b, l, ns, rfl, hS, hP, hV, hB, hl, k⟩ := h
    refine ⟨_, (pss_cons (ps_setDc (i := 3) (own := [("version", 7)]) rfl sc_needed_commits.nd rfl rfl (swD_true rfl rfl rfl (by decide +kernel)) (piL (K := K) (pe_call (ok_seen_each T) (hr.mono (by decide)) (by rfl) T.seen_each.g T.seen_each.F.kp T.seen_each.b .nil pass0 (pa_cons (pv 0) (pa_cons (pe_call (ok_asked_of T) (hr.mono (by decide)) (by rfl) T.asked_of.g T.asked_of.F.kp T.asked_of.b .nil pass0 (pa_cons (pv 1) (pa_cons (pv 2) pa_nil))) pa_nil)))) (blkOk_by (N := n_needed_commits) (sc := defScope s_needed_commits) (by decide +kernel)) (fun _ _ _ _ _ => (pg_name (i := 7) sc_needed_commits.nd rfl (Or.inl rfl))) (fun _ _ _ _ _ => (pts_one (pt_cmpR oNotN (pv 7) pe_non (nomark _)))) (fun _ _ _ _ _ => (pe_ix (ixLT (K := K)) (pv 7) pe_int (fun _ _ => rfl))) (fun _ _ _ _ _ => pe_bl))
    (pss_cons (ps_set (i := 4) sc_needed_commits.nd rfl (Or.inl rfl) (pe_lst pa_nil))
    (pss_cons (ps_for PassesOwn.never rfl (piRev (K := K) (by rfl) T.z_reversed (pv 0)) (pgTup (K := K) (n := 2) (pg_tup (n := 2) rfl (pgs_cons (pg_name (i := 5) sc_needed_commits.nd rfl (Or.inl rfl)) (pgs_cons (pg_name (i := 6) sc_needed_commits.nd rfl (Or.inl rfl)) pgs_nil))))
      (pss_one (ps_if (PW.pt (pw_and (pt_cmp (pc_din (hu_of hr) (pv 5) (pv 3))) (pw_and1 (PW.pt (pw_or (pt_cmpR oNotN (pv 6) pe_non (nomark _)) (pw_or1 (ptTruth (K := K) (pv 4) (by intro _; rfl)))))))) (pss_one (ps_expr (peApp (K := K) (pe_bm PySem.F.plainAttrs_list PySem.F.slot_list_append PySem.F.type_list_append mt_append (pv 4) (pa_cons (pv 5) pa_nil))))) pss_nil)))
    (pss_one (ps_ret (pe_callTy (cTupOf (K := K)) (by rfl) T.z_tuple (by decide +kernel) (pa_cons (pv 4) pa_nil))))))), ?_⟩
    walk_at "go"
    refine ⟨b, ns, l, rfl, hB, hl, fun p1 H1 as n1 s1 h1 a1 a2 a3 => ?_⟩
    walk_at "go"
    refine ⟨a, ps, xs, p1, as, rfl, sx_ s1 hS, pa_ s1 hP, hV, h1, a1, a3, fun p2 H2 n2 s2 h2 => ?_⟩
    have s12 := s1.trans s2
    walk_at "go"
    refine i_lst (slO h2) ?_
    refine d_it walk_list (fun i acc H' => Same H2 H' ∧ acc.length ≤ i ∧ ∀ c : Int, (valV acc (Sum.inl c : Key)).isSome = seenC xs (as.take i) c) (fun D hD => ⟨upd_free (Same.refl _) hD, Nat.zero_le _, fun c => rfl⟩) (fun i acc H' hi p => slO (at_ p.1 h2)) (fun acc D H3 hD hp p => ?_) (fun i x acc H' H'' D hi hD hp p y => ?_)
    · obtain ⟨s3, _, hk⟩ := p
      rw [List.length_map, List.take_length, seenC_congr a2] at hk
      have s13 := s12.trans s3
      walk_at "go"
      refine n_new (le_size (by simp)) fun f H4 n4 s4 h4 => ?_
      have nf : H f = none := free_ s13 n4
      have s14 := s13.trans s4
      have hd4 := at_ s4 hp
      walk_at "go"
      refine i_revX hS s14 fun J G hG hW => ?_
      refine l_it hW (fun i σ H' => (∃ y5 y6 y7, σ = [some (.ref a), some (.ref b), some (.int l), some (.ref D), some (.ref f), y5, y6, y7]) ∧ Same H3 H' ∧ H' f = some (.lst (((xs.reverse.take i).foldl (keepF (seenC xs (ns ++ [l]))) []).map V.int))) ⟨⟨none, none, none, rfl⟩, s4, h4⟩ (fun i σ H' hi p => hG _ (s13.trans p.2.1)) (fun σ H' p => ?_) (fun i x σ H' H'' hi p y => ?_)
      · obtain ⟨⟨y5, y6, y7, rfl⟩, s5, h5⟩ := p
        have e5 : xs.reverse.take (ps.map V.ref).length = xs.reverse := by
          rw [List.length_map, hP.1]
          exact List.take_of_length_le (by simp)
        rw [e5] at h5
        walk_at "go"
        refine n_new0 fun q H6 n6 s6 h6 => ?_
        exact k q H6 (free_ (s13.trans s5) n6) (s13.trans (s5.trans s6)) h6
      · obtain ⟨⟨y5, y6, y7, rfl⟩, s5, h5⟩ := p
        obtain ⟨rfl, hx⟩ := y
        have hi' : i < ps.length := by simpa using hi
        have hj : xs.length - 1 - i < xs.length := by have := hP.1; omega
        have ex : x = .ref (ps[xs.length - 1 - i]'(by rw [hP.1]; exact hj)) := by
          rw [List.length_map, List.getElem?_map, hP.1, List.getElem?_eq_getElem (by rw [hP.1]; exact hj)] at hx
          exact (Option.some.inj hx).symm
        subst ex
        have hv := (pa_ (s13.trans s5) hP).at hj
        have hd5 := at_ s5 hp
        have er : xs.reverse[i]? = some xs[xs.length - 1 - i] := by
          rw [List.getElem?_reverse (by have := hP.1; omega), List.getElem?_eq_getElem hj]
        have et : (xs.reverse.take (i + 1)).foldl (keepF (seenC xs (ns ++ [l]))) [] = keepF (seenC xs (ns ++ [l])) ((xs.reverse.take i).foldl (keepF (seenC xs (ns ++ [l]))) []) xs[xs.length - 1 - i] := by
          rw [List.take_add_one, er, List.foldl_append]; rfl
        have hlen := foldl_keep_len (seenC xs (ns ++ [l])) (xs.reverse.take i) []
        generalize (xs.reverse.take i).foldl (keepF (seenC xs (ns ++ [l]))) [] = acc1 at *
        generalize xs[xs.length - 1 - i] = v at *
        have hacc : acc1.length < 5000 := by have := hV.few; simp at hlen; omega
        refine g_pairS hv ?_
        walk_at "go"
        refine g_din (k := Sum.inl v.1) hd5 ?_
        rw [hk v.1]
        have app : keepF (seenC xs (ns ++ [l])) acc1 v = acc1 ++ [v.1] → ∀ H6, Oth f H'' H6 → H6 f = some (.lst (acc1.map V.int ++ [.int v.1])) → Same H3 H6 ∧ H6 f = some (.lst (((xs.reverse.take (i + 1)).foldl (keepF (seenC xs (ns ++ [l]))) []).map V.int)) := fun ek H6 o6 h6 => ⟨same_oth n4 s5 o6, by rw [h6, et, ek, List.map_append]; rfl⟩
        have skip : keepF (seenC xs (ns ++ [l])) acc1 v = acc1 → H'' f = some (.lst (((xs.reverse.take (i + 1)).foldl (keepF (seenC xs (ns ++ [l]))) []).map V.int)) := fun ek => by rw [h5, et, ek]
        cases e1 : seenC xs (ns ++ [l]) v.1 with
        | false =>
          walk_at "go"
          exact ⟨⟨_, _, _, rfl⟩, s5, skip (by unfold keepF; rw [e1]; rfl)⟩
        | true =>
          cases e2 : v.2 with
          | some z =>
            walk_at "go"
            refine r_app h5 (by simp; omega) fun H6 o6 h6 => ⟨⟨_, _, _, rfl⟩, app (by unfold keepF; rw [e1, e2]; rfl) H6 o6 h6⟩
          | none =>
            walk_at "go"
            cases acc1 with
            | nil =>
              walk_at "go"
              exact ⟨⟨_, _, _, rfl⟩, s5, skip (by unfold keepF; rw [e1, e2]; rfl)⟩
            | cons z r =>
              walk_at "go"
              refine i_t rfl ?_
              walk_at "go"
              refine r_app h5 (by simp at *; omega) fun H6 o6 h6 => ⟨⟨_, _, _, rfl⟩, app (by unfold keepF; rw [e1, e2]; rfl) H6 o6 h6⟩
    · obtain ⟨s3, hz, hk⟩ := p
      obtain ⟨rfl, hx⟩ := y
      have hi' : i < as.length := by simpa using hi
      have ex : x = seenV ps xs as[i] := by
        rw [List.getElem?_map, List.getElem?_eq_getElem hi'] at hx
        exact (Option.some.inj hx).symm
      subst ex
      have et : ∀ c, seenC xs (as.take (i + 1)) c = (seenC xs (as.take i) c || hit xs c as[i]) := fun c => by
        unfold seenC
        rw [List.take_add_one, List.getElem?_eq_getElem hi', List.any_append]
        simp
      refine ⟨rfl, ?_⟩
      rcases Nat.lt_or_ge (fi xs as[i]) xs.length with hf | hf
      · have hf' : fi xs as[i] < ps.length := by rw [hP.1]; exact hf
        have e3 : seenV ps xs as[i] = .ref ps[fi xs as[i]] := by unfold seenV; rw [List.getElem?_eq_getElem hf']
        have hh : ∀ c, hit xs c as[i] = decide (xs[fi xs as[i]].1 = c) := fun c => by unfold hit; rw [List.getElem?_eq_getElem hf]
        have hv := (pa_ (s12.trans s3) hP).at hf
        rw [e3]
        walk_at "go"
        refine ⟨acc, Sum.inl xs[fi xs as[i]].1, rfl, hp, lt_size (by omega), _, upd_same, upd_free s3 hD, Nat.le_trans putK_le (by omega), fun c => ?_⟩
        rw [valV_put, et, hh]
        by_cases hc : xs[fi xs as[i]].1 = c
        · rw [if_pos (by rw [hc]), decide_eq_true hc]; simp
        · rw [if_neg (fun z => hc (Sum.inl.inj z).symm), hk, decide_eq_false hc]; simp
      · have e3 : seenV ps xs as[i] = .non := by unfold seenV; rw [List.getElem?_eq_none (by rw [hP.1]; exact hf)]
        have hh : ∀ c, hit xs c as[i] = false := fun c => by unfold hit; rw [List.getElem?_eq_none hf]
        rw [e3]
        walk_at "go"
        exact ⟨acc, hp, s3, by omega, fun c => by rw [et, hh, hk]; simp⟩
def sp_needed (K : PySem.W.Frag) (Cv Cn Cs : Addr) : Sp := fun vs H Q E => (∃ x y z, vs = [x, y, z] ∧ BadQ K Cv Cn Cs E H x y z) ∨ (∃ a ps xs b l, ∃ ns : List Int, vs = [.ref a, .ref b, .int l] ∧ GoodQ K H a ps xs b ns l ∧
  ∀ p H', H p = none → Same H H' → H' p = some (.tup ((keepC (seenC xs (ns ++ [l])) xs).map V.int)) → Q (.ref p) H')
theorem ok_needed (T : Txt K mg) : FnOk P w K mg base (L2.CX P w) 8 T.needed.f T.needed.fd ["versions", "open_lot", "last"] ((sp_needed K T.e_NoVersions.C T.e_NoNumber.C T.e_NoSnapshots.C)) := by
  refine T.needed.F.okX sc_needed (fun vs H Q E h => ?_) (fun cdv A outer s H vs Q E hr h => ?_)
  · rcases h with ⟨x, y, z, rfl, _⟩ | ⟨a, ps, xs, b, l, ns, rfl, _⟩ <;> rfl
  · rcases h with ⟨x, y, z, rfl, hb⟩ | ⟨a, ps, xs, b, l, ns, rfl, g, k⟩
    · refine ⟨_, (pss_cons (ps_expr (pe_call (ok_need_all T) (hr.mono (by decide)) (by rfl) T.need_all.g T.need_all.F.kp T.need_all.b .nil (passes_call (takes_of rfl rfl rfl rfl) (fun _ _ _ _ h => h)) (pa_cons (pv 0) (pa_cons (pv 1) (pa_cons (pv 2) pa_nil)))))
    (pss_one (ps_ret (pe_call (ok_needed_commits T) (hr.mono (by decide)) (by rfl) T.needed_commits.g T.needed_commits.F.kp T.needed_commits.b .nil pass0 (pa_cons (pv 0) (pa_cons (pv 1) (pa_cons (pv 2) pa_nil))))))), ?_⟩
      walk_at "go"
      exact hb.all
    · refine ⟨_, (pss_cons (ps_expr (pe_call (ok_need_all T) (hr.mono (by decide)) (by rfl) T.need_all.g T.need_all.F.kp T.need_all.b .nil (passes_call (takes_of rfl rfl rfl rfl) (fun _ _ _ _ h => h)) (pa_cons (pv 0) (pa_cons (pv 1) (pa_cons (pv 2) pa_nil)))))
    (pss_one (ps_ret (pe_call (ok_needed_commits T) (hr.mono (by decide)) (by rfl) T.needed_commits.g T.needed_commits.F.kp T.needed_commits.b .nil pass0 (pa_cons (pv 0) (pa_cons (pv 1) (pa_cons (pv 2) pa_nil))))))), ?_⟩
      walk_at "go"
      refine g.all fun H1 s1 => ?_
      walk_at "go"
      exact ⟨a, ps, xs, b, l, ns, rfl, sx_ s1 g.hS, pa_ s1 g.hP, g.hV, st_ s1 g.hB, g.n, fun p H2 n2 s2 h2 => k p H2 (free_ s1 n2) (s1.trans s2) h2⟩
end



section
variable {P : Program} {w : World} {K : PySem.W.Frag} {mg : Str → Option Value} {base : Heap}
def dueS (xs : List (Int × Option Int)) (ns : List Int) (c : Int) : Bool := decide (top xs = c) || ns.any (hit xs c)
/-- what one snapshot says of the version at a place -/
def isAt (xs : List (Int × Option Int)) (j : Nat) (s : Int) : Bool := decide ((xs.getD j (0, none)).1 ≤ s) && (decide (j = 0) || decide (s < (xs.getD (j - 1) (0, none)).1))
theorem getD_at {xs : List (Int × Option Int)} {j : Nat} (h : j < xs.length) : xs.getD j (0, none) = xs[j] := by
  rw [List.getD_eq_getElem?_getD, List.getElem?_eq_getElem h]; rfl
theorem Valid.inj {xs : List (Int × Option Int)} (hV : Valid xs) {i j : Nat} (hi : i < xs.length) (hj : j < xs.length) (e : xs[i].1 = xs[j].1) : i = j := by
  rcases Nat.lt_trichotomy i j with h | h | h
  · have := hV.lt h hj; omega
  · exact h
  · have := hV.lt h hi; omega
theorem hit_at {xs : List (Int × Option Int)} (hV : Valid xs) {j : Nat} (hj : j < xs.length) (s : Int) : hit xs xs[j].1 s = isAt xs j s := by
  have e1 : isAt xs j s = (decide (xs[j].1 ≤ s) && (decide (j = 0) || decide (s < (xs.getD (j - 1) (0, none)).1))) := by unfold isAt; rw [getD_at hj]
  have e2 : hit xs xs[j].1 s = decide (fi xs s = j) := by
    unfold hit
    rcases Nat.lt_or_ge (fi xs s) xs.length with z | z
    · rw [List.getElem?_eq_getElem z]
      show decide (xs[fi xs s].1 = xs[j].1) = _
      by_cases q : fi xs s = j
      · have e : xs[fi xs s].1 = xs[j].1 := by simp only [q]
        rw [decide_eq_true q]
        exact decide_eq_true e
      · rw [decide_eq_false q]
        exact decide_eq_false fun e => q (hV.inj z hj e)
    · rw [List.getElem?_eq_none z]
      exact (decide_eq_false (by omega)).symm
  rw [e1, e2]
  by_cases h1 : xs[j].1 ≤ s
  · rw [decide_eq_true h1]
    have hle := fi_min hj h1
    by_cases h0 : j = 0
    · rw [decide_eq_true h0, decide_eq_true (show fi xs s = j by omega)]; rfl
    · have hj1 : j - 1 < xs.length := by omega
      rw [decide_eq_false h0, getD_at hj1]
      by_cases h2 : s < xs[j - 1].1
      · rw [decide_eq_true h2]
        refine (decide_eq_true (Nat.le_antisymm hle (Nat.not_lt.mp fun z => ?_))).trans rfl
        have := fi_behind hV (s := s) (j := j - 1) (by omega) hj1
        omega
      · rw [decide_eq_false h2]
        refine (decide_eq_false fun z => ?_).trans rfl
        have := fi_min (s := s) hj1 (by omega)
        omega
  · rw [decide_eq_false h1]
    refine (decide_eq_false fun z => h1 ?_).trans rfl
    exact fi_behind hV (by omega) hj
theorem top_at {xs : List (Int × Option Int)} (hV : Valid xs) {j : Nat} (hj : j < xs.length) : decide (top xs = xs[j].1) = decide (j = 0) := by
  have h0 : 0 < xs.length := by omega
  have e : top xs = xs[0].1 := by
    cases xs with
    | nil => simp at h0
    | cons v r => rfl
  by_cases q : j = 0
  · subst q
    rw [decide_eq_true (show (0 : Nat) = 0 from rfl)]
    exact decide_eq_true e
  · rw [decide_eq_false q]
    exact decide_eq_false fun z => q (hV.inj hj h0 (by rw [← z, e]))
theorem dueS_at {xs : List (Int × Option Int)} (hV : Valid xs) {j : Nat} (hj : j < xs.length) (ns : List Int) : dueS xs ns xs[j].1 = (decide (j = 0) || ns.any (isAt xs j)) := by
  unfold dueS
  rw [top_at hV hj]
  congr 1
  exact congrArg ns.any (funext fun s => hit_at hV hj s)
/-! ### what is kept -/
theorem keepF_congr {S S' : Int → Bool} {acc : List Int} {v : Int × Option Int} (h : S v.1 = S' v.1) : keepF S acc v = keepF S' acc v := by unfold keepF; rw [h]
theorem foldl_congr {S S' : Int → Bool} : ∀ {l : List (Int × Option Int)} {acc : List Int}, (∀ v ∈ l, S v.1 = S' v.1) → l.foldl (keepF S) acc = l.foldl (keepF S') acc
  | [], _, _ => rfl
  | v :: l, acc, h => by
    rw [List.foldl_cons, List.foldl_cons, keepF_congr (h v List.mem_cons_self)]
    exact foldl_congr fun u hu => h u (List.mem_cons_of_mem _ hu)
theorem keepC_congr {S S' : Int → Bool} {xs : List (Int × Option Int)} (h : ∀ v ∈ xs, S v.1 = S' v.1) : keepC S xs = keepC S' xs := foldl_congr fun v hv => h v (List.mem_reverse.mp hv)
theorem seen_due {xs : List (Int × Option Int)} (hV : Valid xs) {l : Int} (hl : top xs ≤ l) (ns : List Int) : keepC (seenC xs (ns ++ [l])) xs = keepC (dueS xs ns) xs := by
  refine keepC_congr fun v hv => ?_
  obtain ⟨j, hj, e⟩ := List.getElem_of_mem hv
  subst e
  have h0 : 0 < xs.length := by omega
  have et : top xs = xs[0].1 := by
    cases xs with
    | nil => simp at h0
    | cons v r => rfl
  have ef : fi xs l = 0 := Nat.le_zero.mp (fi_min h0 (by omega))
  have eh : hit xs xs[j].1 l = decide (top xs = xs[j].1) := by
    unfold hit
    rw [ef, List.getElem?_eq_getElem h0, et]
  unfold seenC dueS
  rw [List.any_append, ← eh, Bool.or_comm]
  simp
theorem keepF_sub {S : Int → Bool} {acc : List Int} {v : Int × Option Int} : (keepF S acc v = acc ++ [v.1] ∧ S v.1 = true ∧ (v.2.isSome || !acc.isEmpty) = true) ∨ keepF S acc v = acc := by
  unfold keepF
  cases e : S v.1 && (v.2.isSome || !acc.isEmpty) with
  | true =>
    rw [if_pos rfl]
    exact .inl ⟨rfl, Bool.and_eq_true_iff.mp e⟩
  | false => rw [if_neg Bool.false_ne_true]; exact .inr rfl
theorem foldl_mem {S : Int → Bool} : ∀ {l : List (Int × Option Int)} {acc : List Int} {c : Int}, c ∈ l.foldl (keepF S) acc → c ∈ acc ∨ (∃ v ∈ l, v.1 = c) ∧ S c = true
  | [], _, _, h => .inl h
  | v :: l, acc, c, h => by
    rw [List.foldl_cons] at h
    rcases foldl_mem h with h1 | ⟨⟨u, hu, e⟩, hs⟩
    · rcases keepF_sub (S := S) (acc := acc) (v := v) with ⟨e, e2, _⟩ | e
      · rw [e] at h1
        rcases List.mem_append.mp h1 with h2 | h2
        · exact .inl h2
        · have : c = v.1 := by simpa using h2
          exact .inr ⟨⟨v, List.mem_cons_self, this.symm⟩, by rw [this]; exact e2⟩
      · rw [e] at h1; exact .inl h1
    · exact .inr ⟨⟨u, List.mem_cons_of_mem _ hu, e⟩, hs⟩
theorem foldl_acc {S : Int → Bool} : ∀ {l : List (Int × Option Int)} {acc : List Int} {c : Int}, c ∈ acc → c ∈ l.foldl (keepF S) acc
  | [], _, _, h => h
  | v :: l, acc, c, h => by
    rw [List.foldl_cons]
    refine foldl_acc ?_
    rcases keepF_sub (S := S) (acc := acc) (v := v) with ⟨e, _⟩ | e
    · rw [e]; exact List.mem_append_left _ h
    · rw [e]; exact h
/-- only what was kept is kept of it -/
theorem foldl_filter {S S' : Int → Bool} : ∀ (l : List (Int × Option Int)) (acc : List Int), l.Pairwise (fun a b => a.1 ≠ b.1) → (∀ v ∈ l, v.1 ∉ acc) → (∀ v ∈ l, v.1 ∈ l.foldl (keepF S) acc → S' v.1 = true) →
    (l.filter fun v => decide (v.1 ∈ l.foldl (keepF S) acc)).foldl (keepF S') acc = l.foldl (keepF S) acc
  | [], _, _, _, _ => rfl
  | v :: l, acc, hp, hn, hs => by
    obtain ⟨p1, p2⟩ := List.pairwise_cons.mp hp
    rw [List.foldl_cons] at hs ⊢
    have nv : v.1 ∉ acc := hn v List.mem_cons_self
    rcases keepF_sub (S := S) (acc := acc) (v := v) with ⟨e, _, e3⟩ | e
    · have hm : v.1 ∈ l.foldl (keepF S) (keepF S acc v) := foldl_acc (by rw [e]; simp)
      rw [List.filter_cons, if_pos (decide_eq_true hm), List.foldl_cons]
      have e4 : keepF S' acc v = keepF S acc v := by
        rw [e]
        unfold keepF
        rw [hs v List.mem_cons_self hm, e3]; rfl
      rw [e4]
      exact foldl_filter l _ p2 (fun u hu z => by
        rw [e] at z
        rcases List.mem_append.mp z with z | z
        · exact hn u (List.mem_cons_of_mem _ hu) z
        · exact p1 u hu (List.mem_singleton.mp z).symm) fun u hu => hs u (List.mem_cons_of_mem _ hu)
    · have hm : v.1 ∉ l.foldl (keepF S) (keepF S acc v) := fun z => by
        rcases foldl_mem z with z | ⟨⟨u, hu, z⟩, _⟩
        · rw [e] at z; exact nv z
        · exact p1 u hu z.symm
      rw [List.filter_cons, if_neg (by simpa using hm)]
      rw [e] at hs hm ⊢
      exact foldl_filter l acc p2 (fun u hu => hn u (List.mem_cons_of_mem _ hu)) fun u hu => hs u (List.mem_cons_of_mem _ hu)
/-- seen, by the greatest commit -/
theorem hit_iff {xs : List (Int × Option Int)} (hV : Valid xs) {v : Int × Option Int} (hv : v ∈ xs) (s : Int) : hit xs v.1 s = true ↔ v.1 ≤ s ∧ ∀ u ∈ xs, u.1 ≤ s → u.1 ≤ v.1 := by
  obtain ⟨j, hj, e⟩ := List.getElem_of_mem hv
  subst e
  constructor
  · intro h
    unfold hit at h
    rcases Nat.lt_or_ge (fi xs s) xs.length with z | z
    · rw [List.getElem?_eq_getElem z] at h
      have h2 : xs[fi xs s].1 = xs[j].1 := of_decide_eq_true h
      have e := hV.inj z hj h2
      refine ⟨by rw [← h2]; exact fi_at z, fun u hu hus => ?_⟩
      obtain ⟨i, hi, e2⟩ := List.getElem_of_mem hu
      subst e2
      have := fi_min hi hus
      rcases Nat.lt_or_eq_of_le this with q | q
      · have := hV.lt q hi; omega
      · have e3 : xs[i].1 = xs[fi xs s].1 := by simp only [q]
        omega
    · rw [List.getElem?_eq_none z] at h; cases h
  · rintro ⟨h1, h2⟩
    have hle := fi_min hj h1
    have z : fi xs s < xs.length := by omega
    have h3 := h2 _ (List.getElem_mem z) (fi_at z)
    unfold hit
    rw [List.getElem?_eq_getElem z]
    refine decide_eq_true ?_
    rcases Nat.lt_or_eq_of_le hle with q | q
    · have := hV.lt q hj; omega
    · simp only [q]
theorem top_iff {xs : List (Int × Option Int)} (hV : Valid xs) {v : Int × Option Int} (hv : v ∈ xs) : top xs = v.1 ↔ ∀ u ∈ xs, u.1 ≤ v.1 := by
  cases xs with
  | nil => cases hv
  | cons z r =>
    constructor
    · intro e u hu
      have e : z.1 = v.1 := e
      rcases List.mem_cons.mp hu with q | q
      · rw [q]; omega
      · have := (List.pairwise_cons.mp hV.desc).1 u q; omega
    · intro h
      have h1 := h z List.mem_cons_self
      show z.1 = v.1
      rcases List.mem_cons.mp hv with q | q
      · rw [q]
      · have := (List.pairwise_cons.mp hV.desc).1 v q; omega
theorem due_iff {xs : List (Int × Option Int)} (hV : Valid xs) {v : Int × Option Int} (hv : v ∈ xs) (ns : List Int) : dueS xs ns v.1 = true ↔ (∀ u ∈ xs, u.1 ≤ v.1) ∨ ∃ s ∈ ns, v.1 ≤ s ∧ ∀ u ∈ xs, u.1 ≤ s → u.1 ≤ v.1 := by
  unfold dueS
  rw [Bool.or_eq_true_iff, decide_eq_true_iff, top_iff hV hv, List.any_eq_true]
  exact or_congr Iff.rfl ⟨fun ⟨s, a, b⟩ => ⟨s, a, (hit_iff hV hv s).mp b⟩, fun ⟨s, a, b⟩ => ⟨s, a, (hit_iff hV hv s).mpr b⟩⟩
theorem Valid.sub {xs ys : List (Int × Option Int)} (hV : Valid xs) (h : ys.Sublist xs) : Valid ys := ⟨hV.desc.sublist h, fun v hv => hV.comm v (h.subset hv), fun v hv => hV.mark v (h.subset hv), Nat.le_trans h.length_le hV.few⟩
def keptOf (xs : List (Int × Option Int)) (due : List Int) : List (Int × Option Int) := xs.filter fun v => decide (v.1 ∈ due)
theorem kept_due {xs : List (Int × Option Int)} (hV : Valid xs) (ns : List Int) : keepC (dueS (keptOf xs (keepC (dueS xs ns) xs)) ns) (keptOf xs (keepC (dueS xs ns) xs)) = keepC (dueS xs ns) xs := by
  have hsub : (keptOf xs (keepC (dueS xs ns) xs)).Sublist xs := List.filter_sublist
  have hV2 := hV.sub hsub
  have e : (keptOf xs (keepC (dueS xs ns) xs)).reverse = xs.reverse.filter fun v => decide (v.1 ∈ xs.reverse.foldl (keepF (dueS xs ns)) []) := by
    unfold keptOf keepC
    rw [List.filter_reverse]
  show (keptOf xs (keepC (dueS xs ns) xs)).reverse.foldl (keepF _) [] = _
  rw [e]
  refine foldl_filter xs.reverse [] (List.pairwise_reverse.mpr (hV.desc.imp fun h => by omega)) (fun v _ z => nomatch z) fun v hv hm => ?_
  have hv1 : v ∈ xs := List.mem_reverse.mp hv
  have hv2 : v ∈ keptOf xs (keepC (dueS xs ns) xs) := List.mem_filter.mpr ⟨hv1, decide_eq_true hm⟩
  rcases foldl_mem hm with z | ⟨_, z⟩
  · cases z
  refine (due_iff hV2 hv2 ns).mpr ?_
  rcases (due_iff hV hv1 ns).mp z with h | ⟨s, a, b, c⟩
  · exact .inl fun u hu => h u (hsub.subset hu)
  · exact .inr ⟨s, a, b, fun u hu => c u (hsub.subset hu)⟩
theorem top_kept {xs ys : List (Int × Option Int)} (hV : Valid xs) (h : ys.Sublist xs) (h0 : 0 ≤ top xs) : top ys ≤ top xs := by
  cases ys with
  | nil => exact h0
  | cons v r =>
    have hv : v ∈ xs := h.subset List.mem_cons_self
    cases xs with
    | nil => cases hv
    | cons z q =>
      show v.1 ≤ z.1
      rcases List.mem_cons.mp hv with e | e
      · rw [e]; omega
      · have := (List.pairwise_cons.mp hV.desc).1 v e; omega
theorem asc_lot {ns : List Int} (h : ns.Pairwise (· < ·)) (h0 : ∀ z ∈ ns, 0 ≤ z) : lotB ns = true := by
  unfold lotB
  rw [Bool.and_eq_true_iff]
  refine ⟨List.all_eq_true.mpr fun z hz => decide_eq_true (h0 z hz), ?_⟩
  unfold ascB
  rw [List.all_map, List.all_eq_true]
  intro k hk
  have hk : k < ns.length - 1 := List.mem_range.mp hk
  show ascF ns k = true
  unfold ascF
  rw [List.getD_eq_getElem?_getD, List.getD_eq_getElem?_getD, List.getElem?_eq_getElem (show k < ns.length by omega), List.getElem?_eq_getElem (show k + 1 < ns.length by omega)]
  exact decide_eq_true (List.pairwise_iff_getElem.mp h k (k + 1) (by omega) (by omega) (by omega))
/-! ### versions as data -/
def datV (v : Int × Option Int) : PyData := .tuple [.int v.1, match v.2 with | none => .none | some i => .int i]
theorem dat_all {H : Hp} : ∀ {ps : List Addr} {xs : List (Int × Option Int)}, PairsAt K H ps xs → DpAll K H (ps.map V.ref) (xs.map datV)
  | [], [], _ => .nil
  | [], _ :: _, h => by have := h.1; simp at this
  | _ :: _, [], h => by have := h.1; simp at this
  | p :: ps, v :: xs, h => by
    have h0 := h.2 0 p v rfl rfl
    refine .cons (.tup h0 (.cons (.int _) (.cons ?_ .nil))) (dat_all ⟨by have := h.1; simpa using this, fun i q u a b => h.2 (i + 1) q u a b⟩)
    cases v.2 with
    | none => exact .non
    | some i => exact .int i
theorem dat_lay : ∀ (xs : List (Int × Option Int)), PyData.canLayAll0 (xs.map datV) = true ∧ PyData.depthAll (xs.map datV) ≤ 2
  | [] => ⟨by simp [PyData.canLayAll0], by simp [PyData.depthAll]⟩
  | v :: xs => by
    obtain ⟨h1, h2⟩ := dat_lay xs
    have e : PyData.canLay0 (datV v) = true ∧ PyData.depth (datV v) ≤ 2 := by
      unfold datV
      cases v.2 <;> simp [PyData.canLay0, PyData.canLayAll0, PyData.depth, PyData.depthAll]
    rw [List.map_cons]
    refine ⟨by simp [PyData.canLayAll0, e.1, h1], ?_⟩
    simp only [PyData.depthAll]
    exact Nat.max_le.mpr ⟨e.2, h2⟩
theorem dat_shaped (xs : List (Int × Option Int)) : SeqAt.shaped (.list (xs.map datV)) = true := by
  obtain ⟨h1, h2⟩ := dat_lay xs
  unfold SeqAt.shaped
  rw [Bool.and_eq_true_iff]
  refine ⟨by simpa [PyData.canLay0] using h1, decide_eq_true ?_⟩
  simp only [PyData.depth]
  omega
theorem dat_refl (xs : List (Int × Option Int)) : PyData.eqv (.list (xs.map datV)) (.list (xs.map datV)) = true := SeqAt.eqv_refl _ (by simpa [PyData.canLay0] using (dat_lay xs).1)
theorem o_neV {H : Hp} {Q : VK} {r : R2} {a b : Addr} {ps : List Addr} {xs : List (Int × Option Int)} (h1 : SqL K H a (ps.map V.ref)) (h2 : SqL K H b (ps.map V.ref)) (hP : PairsAt K H ps xs) (q : Q (.bl false) H) : rOr r (rNeD K) (.ref a) (.ref b) H Q :=
  .inr ⟨_, _, .lst h1 (dat_all hP), .lst h2 (dat_all hP), dat_shaped xs, dat_shaped xs, by rw [dat_refl]; exact q⟩
theorem o_eqV {H : Hp} {Q : VK} {r : R2} {a b : Addr} {ps : List Addr} {xs : List (Int × Option Int)} (h1 : SqL K H a (ps.map V.ref)) (h2 : SqL K H b (ps.map V.ref)) (hP : PairsAt K H ps xs) (q : Q (.bl true) H) : rOr r (rEqD K) (.ref a) (.ref b) H Q :=
  .inr ⟨_, _, .lst h1 (dat_all hP), .lst h2 (dat_all hP), dat_shaped xs, dat_shaped xs, by rw [dat_refl]; exact q⟩
theorem pairs_zip {H : Hp} {ps : List Addr} {xs : List (Int × Option Int)} (h : PairsAt K H ps xs) (zs : List (Addr × (Int × Option Int))) (hz : ∀ z ∈ zs, z ∈ ps.zip xs) : PairsAt K H (zs.map (·.1)) (zs.map (·.2)) := by
  refine ⟨by simp, fun i p v a b => ?_⟩
  rw [List.getElem?_map] at a b
  cases e : zs[i]? with
  | none => rw [e] at a; cases a
  | some z =>
    rw [e] at a b
    have ea : z.1 = p := Option.some.inj a
    have eb : z.2 = v := Option.some.inj b
    subst ea eb
    obtain ⟨j, hj, ej⟩ := List.getElem_of_mem (hz z (List.mem_of_getElem? e))
    have h1 := hj
    rw [List.length_zip] at h1
    rw [List.getElem_zip] at ej
    have := h.2 j ps[j] xs[j] (List.getElem?_eq_getElem (by omega)) (List.getElem?_eq_getElem (by omega))
    rw [← ej]; exact this
theorem kept_zip {ps : List Addr} {xs : List (Int × Option Int)} (h : ps.length = xs.length) (due : List Int) : ((ps.zip xs).filter fun z => decide (z.2.1 ∈ due)).map (·.2) = keptOf xs due := by
  unfold keptOf
  have e : xs = (ps.zip xs).map (·.2) := (List.map_snd_zip (by omega)).symm
  conv => rhs; rw [e]
  rw [List.filter_map]; rfl

/-! ### what is enough -/
theorem nodup_sub_len : ∀ {ms A : List Int}, ms.Nodup → (∀ x ∈ ms, x ∈ A) → ms.length ≤ A.length
  | [], _, _, _ => Nat.zero_le _
  | m :: r, A, h, hs => by
    obtain ⟨h1, h2⟩ := List.nodup_cons.mp h
    have hm := hs m List.mem_cons_self
    have := nodup_sub_len (A := A.erase m) h2 fun x hx => (List.mem_erase_of_ne (a := x) (b := m) fun e => h1 (by rw [← e]; exact hx)).mpr (hs x (List.mem_cons_of_mem _ hx))
    rw [List.length_erase_of_mem hm] at this
    have : 0 < A.length := List.length_pos_of_mem hm
    simp only [List.length_cons]
    omega
def inAll (xs : List (Int × Option Int)) (ms : List Int) : Bool := ms.all fun m => decide (m ∈ xs.map (·.1))
theorem kept_len {xs : List (Int × Option Int)} (hV : Valid xs) {ms : List Int} (hm : ms.Nodup) : inAll xs ms = !decide ((keptOf xs ms).length < ms.length) := by
  have hA : ((keptOf xs ms).map (·.1)).Nodup := (List.pairwise_map.mpr ((hV.sub List.filter_sublist).desc.imp fun {a b} (h : b.1 < a.1) => (by omega : a.1 ≠ b.1)))
  have hl : (keptOf xs ms).length = ((keptOf xs ms).map (·.1)).length := by rw [List.length_map]
  have hsub : ∀ x ∈ (keptOf xs ms).map (·.1), x ∈ ms := fun x hx => by
    obtain ⟨v, hv, e⟩ := List.mem_map.mp hx
    subst e
    exact of_decide_eq_true (List.mem_filter.mp hv).2
  have hin : ∀ x ∈ ms, x ∈ xs.map (·.1) → x ∈ (keptOf xs ms).map (·.1) := fun x hx h => by
    obtain ⟨v, hv, e⟩ := List.mem_map.mp h
    subst e
    exact List.mem_map.mpr ⟨v, List.mem_filter.mpr ⟨hv, decide_eq_true hx⟩, rfl⟩
  by_cases q : (keptOf xs ms).length < ms.length
  · rw [decide_eq_true q]
    refine Bool.eq_false_iff.mpr fun z => ?_
    have := nodup_sub_len hm fun x hx => hin x hx (of_decide_eq_true (List.all_eq_true.mp z x hx))
    omega
  · rw [decide_eq_false q]
    refine List.all_eq_true.mpr fun m hmm => decide_eq_true ?_
    by_cases z : m ∈ (keptOf xs ms).map (·.1)
    · obtain ⟨v, hv, e⟩ := List.mem_map.mp z
      exact List.mem_map.mpr ⟨v, (List.mem_filter.mp hv).1, e⟩
    · exfalso
      have := nodup_sub_len (A := ms.erase m) hA fun x hx => (List.mem_erase_of_ne (a := x) (b := m) fun e => z (by rw [← e]; exact hx)).mpr (hsub x hx)
      rw [List.length_erase_of_mem hmm] at this
      have : 0 < ms.length := List.length_pos_of_mem hmm
      omega
def sameO (o1 o2 : Option (Int × Option Int)) : Bool := match o2 with
  | none => match o1 with
    | none => true
    | some u => u.2.isNone
  | some v => decide (o1 = some v)
def okS (xs ys : List (Int × Option Int)) (s : Int) : Bool := sameO xs[fi xs s]? ys[fi ys s]?
def keptR (xs : List (Int × Option Int)) (ask : List Int) (ms : List Int) : Bool := inAll xs ms && ask.all (okS xs (keptOf xs ms))
theorem lotB_asc {ns : List Int} (h : ascB ns = true) : ns.Pairwise (· < ·) := by
  have h1 : ∀ k, k + 1 < ns.length → ns.getD k 0 < ns.getD (k + 1) 0 := fun k hk => by
    unfold ascB at h
    rw [List.all_map, List.all_eq_true] at h
    have := h k (List.mem_range.mpr (by omega))
    exact of_decide_eq_true this
  have h2 : ∀ d k, k + d + 1 < ns.length → ns.getD k 0 < ns.getD (k + d + 1) 0 := fun d => by
    induction d with
    | zero => exact fun k hk => h1 k hk
    | succ d ih => exact fun k hk => Int.lt_trans (ih k (by omega)) (h1 (k + d + 1) (by omega))
  refine List.pairwise_iff_getElem.mpr fun i j hi hj hij => ?_
  have := h2 (j - i - 1) i (by omega)
  rw [show i + (j - i - 1) + 1 = j by omega, List.getD_eq_getElem?_getD, List.getD_eq_getElem?_getD, List.getElem?_eq_getElem hi, List.getElem?_eq_getElem hj] at this
  exact this
theorem fi_mem {xs : List (Int × Option Int)} {s : Int} {v : Int × Option Int} (h : xs[fi xs s]? = some v) : v ∈ xs ∧ v.1 ≤ s := by
  obtain ⟨hi, e⟩ := List.getElem?_eq_some_iff.mp h
  subst e
  exact ⟨List.getElem_mem hi, fi_at hi⟩
theorem fi_some {xs : List (Int × Option Int)} {s : Int} {v : Int × Option Int} (h : v ∈ xs) (hs : v.1 ≤ s) : ∃ u, xs[fi xs s]? = some u := by
  obtain ⟨j, hj, e⟩ := List.getElem_of_mem h
  subst e
  have := fi_min hj hs
  exact ⟨_, List.getElem?_eq_getElem (by omega)⟩
theorem fi_top {xs : List (Int × Option Int)} (hV : Valid xs) {s : Int} {u v : Int × Option Int} (h : xs[fi xs s]? = some u) (hv : v ∈ xs) (hs : v.1 ≤ s) : v.1 ≤ u.1 := by
  obtain ⟨hi, e⟩ := List.getElem?_eq_some_iff.mp h
  subst e
  obtain ⟨j, hj, e⟩ := List.getElem_of_mem hv
  subst e
  have := fi_min hj hs
  rcases Nat.lt_or_eq_of_le this with q | q
  · have := hV.lt q hj; omega
  · simp only [q]; omega
theorem Valid.eq {xs : List (Int × Option Int)} (hV : Valid xs) {u v : Int × Option Int} (hu : u ∈ xs) (hv : v ∈ xs) (e : u.1 = v.1) : u = v := by
  obtain ⟨i, hi, e1⟩ := List.getElem_of_mem hu
  obtain ⟨j, hj, e2⟩ := List.getElem_of_mem hv
  subst e1 e2
  have := hV.inj hi hj e
  simp only [this]
theorem eqv_dat (v u : Int × Option Int) : PyData.eqv (datV v) (datV u) = decide (v = u) := by
  obtain ⟨a, b⟩ := v
  obtain ⟨c, d⟩ := u
  unfold datV
  rw [Bool.eq_iff_iff, decide_eq_true_iff]
  cases b <;> cases d <;> simp [PyData.eqv, PyData.eqvAll]
theorem dat_lay1 (v : Int × Option Int) : SeqAt.shaped (datV v) = true := by
  unfold SeqAt.shaped datV
  cases v.2 <;> simp [PyData.canLay0, PyData.canLayAll0, PyData.depth, PyData.depthAll]
theorem dat_at {H : Hp} {p : Addr} {v : Int × Option Int} (h : SqT K H p [.int v.1, markV v.2]) : Dp K H (.ref p) (datV v) := by
  refine .tup h (.cons (.int _) (.cons ?_ .nil))
  cases v.2 with
  | none => exact .non
  | some i => exact .int i
theorem o_eqT {H : Hp} {Q : VK} {r : R2} {a b : Addr} {v u : Int × Option Int} (h1 : SqT K H a [.int v.1, markV v.2]) (h2 : SqT K H b [.int u.1, markV u.2]) (q : Q (.bl (decide (v = u))) H) : rOr r (rEqD K) (.ref a) (.ref b) H Q :=
  .inr ⟨_, _, dat_at h1, dat_at h2, dat_lay1 v, dat_lay1 u, by rw [eqv_dat]; exact q⟩
def SeenAt (K : PySem.W.Frag) (H : Hp) (x : V) : Option (Int × Option Int) → Prop
  | none => x = .non
  | some v => ∃ p, x = .ref p ∧ SqT K H p [.int v.1, markV v.2]
theorem seen_at {H : Hp} {ps : List Addr} {xs : List (Int × Option Int)} (hP : PairsAt K H ps xs) (s : Int) : SeenAt K H (seenV ps xs s) xs[fi xs s]? := by
  unfold seenV
  rcases Nat.lt_or_ge (fi xs s) xs.length with h | h
  · rw [List.getElem?_eq_getElem h, List.getElem?_eq_getElem (show fi xs s < ps.length by rw [hP.1]; exact h)]
    exact ⟨_, rfl, hP.at h⟩
  · rw [List.getElem?_eq_none h, List.getElem?_eq_none (show ps.length ≤ fi xs s by rw [hP.1]; exact h)]
    exact rfl
end



section
variable {P : Program} {w : World} {K : PySem.W.Frag} {mg : Str → Option Value} {base : Heap}
def sp_is_same (K : PySem.W.Frag) : Sp := fun vs H Q _ => ∃ x y o1 o2, vs = [x, y] ∧ SeenAt K H x o1 ∧ SeenAt K H y o2 ∧ (o1 = none → o2 = none) ∧ Q (.bl (sameO o1 o2)) H
theorem ok_is_same (T : Txt K mg) : FnOk P w K mg base CX0 1 T.is_same.f T.is_same.fd ["whole", "alone"] (sp_is_same K) := by
  refine T.is_same.F.ok sc_is_same (fun vs H Q E h => ?_) (fun cdv A outer s H vs Q E hr h => ?_)
  · obtain ⟨x, y, o1, o2, rfl, _⟩ := h
    rfl
  · obtain ⟨x, y, o1, o2, rfl, h1, h2, h3, k⟩ := h
    refine ⟨_, (pss_cons (ps_if (pt_cmpR oIsN (pv 1) pe_non (nomark _)) (pss_one (ps_ret (pe_or (pe_cmpR oIsN (pv 0) pe_non (nomark _)) (pe_one (pe_cmpR oIsN (pe_ix (ixLT (K := K)) (pv 0) pe_int (fun _ _ => rfl)) pe_non (nomark _)))))) pss_nil)
    (pss_one (ps_ret (pe_cmpR (oEq (K := K) hr.units) (pv 1) (pv 0) (nomark _))))), ?_⟩
    cases o2 with
    | none =>
      have h2 : y = .non := h2
      subst h2
      cases o1 with
      | none =>
        have h1 : x = .non := h1
        subst h1
        walk_at "go"
        exact k
      | some u =>
        obtain ⟨p, rfl, hp⟩ := h1
        walk_at "go"
        have e : sameO (some u) none = u.2.isNone := rfl
        rw [e] at k
        cases e2 : u.2 with
        | none =>
          rw [e2] at hp k
          walk_at "go"
          exact k
        | some z =>
          rw [e2] at hp k
          walk_at "go"
          exact k
    | some v =>
      obtain ⟨q, rfl, hq⟩ := h2
      cases o1 with
      | none => exact absurd (h3 rfl) (by simp)
      | some u =>
        obtain ⟨p, rfl, hp⟩ := h1
        walk_at "go"
        refine o_eqT hq hp ?_
        have e : sameO (some u) (some v) = decide (v = u) := by
          show decide (some u = some v) = _
          rw [Bool.eq_iff_iff, decide_eq_true_iff, decide_eq_true_iff]
          exact ⟨fun h => (Option.some.inj h).symm, fun h => by rw [h]⟩
        rw [← e]
        exact k
def sp_is_kept_right (K : PySem.W.Frag) (Cv Cn Cs : Addr) : Sp := fun vs H Q E => (∃ x y z t, vs = [x, y, z, t] ∧ BadQ K Cv Cn Cs E H x y z) ∨ (∃ a ps xs b l t, ∃ ns ms : List Int, vs = [.ref a, .ref b, .int l, .ref t] ∧ GoodQ K H a ps xs b ns l ∧ SqT K H t (ms.map V.int) ∧ ms.length ≤ 1000 ∧ lotB ms = true ∧
  ∀ H', Same H H' → Q (.bl (keptR xs (ns ++ [l]) ms)) H')
theorem ok_is_kept_right (T : Txt K mg) : FnOk P w K mg base (L2.CX P w) 8 T.is_kept_right.f T.is_kept_right.fd ["versions", "open_lot", "last", "thing"] ((sp_is_kept_right K T.e_NoVersions.C T.e_NoNumber.C T.e_NoSnapshots.C)) := by
  refine T.is_kept_right.F.okX sc_is_kept_right (fun vs H Q E h => ?_) (fun cdv A outer s H vs Q E hr h => ?_)
  · rcases h with ⟨x, y, z, t, rfl, _⟩ | ⟨a, ps, xs, b, l, t, ns, ms, rfl, _⟩ <;> rfl
  · rcases h with ⟨x, y, z, t, rfl, hb⟩ | ⟨a, ps, xs, b, l, t, ns, ms, rfl, g, hT, ml, hlo, k⟩
    · refine ⟨_, (pss_cons (ps_expr (pe_call (ok_need_all T) (hr.mono (by decide)) (by rfl) T.need_all.g T.need_all.F.kp T.need_all.b .nil (passes_call (takes_of rfl rfl rfl rfl) (fun _ _ _ _ h => h)) (pa_cons (pv 0) (pa_cons (pv 1) (pa_cons (pv 2) pa_nil)))))
    (pss_cons (ps_if (pt_not (ptTruth (K := K) (pe_call (ok_is_lot T) (hr.mono (by decide)) (by rfl) T.is_lot.g T.is_lot.F.kp T.is_lot.b .nil pass0 (pa_cons (pv 3) pa_nil)) (by intro _; rfl))) (pss_one (ps_ret pe_bl)) pss_nil)
    (pss_cons (ps_set (i := 4) sc_is_kept_right.nd rfl (Or.inr rfl) (pe_dc (own := [("commit", 7)]) rfl sc_is_kept_right.nd (piT (K := K) (pv 3)) (blkOk_by (N := n_is_kept_right) (sc := defScope s_is_kept_right) (by decide +kernel)) (fun _ _ _ _ _ => (pg_name (i := 7) sc_is_kept_right.nd rfl (Or.inl rfl))) (fun _ _ _ _ _ => pts_nil) (fun _ _ _ _ _ => (pv 7)) (fun _ _ _ _ _ => pe_bl)))
    (pss_cons (ps_setLc (i := 5) (own := [("version", 8)]) rfl sc_is_kept_right.nd rfl rfl (sw_true rfl rfl rfl (by decide +kernel)) (piX (K := K) (pv 0)) (blkOk_by (N := n_is_kept_right) (sc := defScope s_is_kept_right) (by decide +kernel)) (fun _ _ _ _ _ => (pg_name (i := 8) sc_is_kept_right.nd rfl (Or.inl rfl))) (fun _ _ _ _ _ => (pts_one (pt_cmp (pc_din (hu_of hr) (pe_ix (ixLT (K := K)) (pv 8) pe_int (fun _ _ => rfl)) (pv 4))))) (fun _ _ _ _ _ => (pv 8)))
    (pss_cons (ps_if (pt_cmpR oLt (pe_callB (cLen (K := K)) (by rfl) T.z_len PySem.boot_len (pa_cons (pv 5) pa_nil)) (pe_callB cLenD (by rfl) T.z_len PySem.boot_len (pa_cons (pv 4) pa_nil)) (nomark _)) (pss_one (ps_ret pe_bl)) pss_nil)
    (pss_cons (ps_set (i := 6) sc_is_kept_right.nd rfl (Or.inl rfl) (pe_call (ok_asked_of T) (hr.mono (by decide)) (by rfl) T.asked_of.g T.asked_of.F.kp T.asked_of.b .nil pass0 (pa_cons (pv 1) (pa_cons (pv 2) pa_nil))))
    (pss_one (ps_ret (pe_callB (cAll (K := K) rfl) (by rfl) T.z_all (by decide +kernel) (pa_cons (pe_lc (own := [("whole", 9), ("alone", 10)]) rfl sc_is_kept_right.nd (piZip (K := K) (by rfl) T.z_zip (pa_cons (pe_call (ok_seen_each T) (hr.mono (by decide)) (by rfl) T.seen_each.g T.seen_each.F.kp T.seen_each.b .nil pass0 (pa_cons (pv 0) (pa_cons (pv 6) pa_nil))) (pa_cons (pe_call (ok_seen_each T) (hr.mono (by decide)) (by rfl) T.seen_each.g T.seen_each.F.kp T.seen_each.b .nil pass0 (pa_cons (pv 5) (pa_cons (pv 6) pa_nil))) pa_nil))) (blkOk_by (N := n_is_kept_right) (sc := defScope s_is_kept_right) (by decide +kernel)) (fun _ _ _ _ _ => (pgTup (K := K) (n := 2) (pg_tup (n := 2) rfl (pgs_cons (pg_name (i := 9) sc_is_kept_right.nd rfl (Or.inl rfl)) (pgs_cons (pg_name (i := 10) sc_is_kept_right.nd rfl (Or.inl rfl)) pgs_nil))))) (fun _ _ _ _ _ => pts_nil) (fun _ _ _ _ _ => (pe_call (ok_is_same T) (hr.mono (by decide)) (by rfl) T.is_same.g T.is_same.F.kp T.is_same.b .nil pass0 (pa_cons (pv 9) (pa_cons (pv 10) pa_nil))))) pa_nil)))))))))), ?_⟩
      walk_at "go"
      exact hb.all
    · refine ⟨_, (pss_cons (ps_expr (pe_call (ok_need_all T) (hr.mono (by decide)) (by rfl) T.need_all.g T.need_all.F.kp T.need_all.b .nil (passes_call (takes_of rfl rfl rfl rfl) (fun _ _ _ _ h => h)) (pa_cons (pv 0) (pa_cons (pv 1) (pa_cons (pv 2) pa_nil)))))
    (pss_cons (ps_if (pt_not (ptTruth (K := K) (pe_call (ok_is_lot T) (hr.mono (by decide)) (by rfl) T.is_lot.g T.is_lot.F.kp T.is_lot.b .nil pass0 (pa_cons (pv 3) pa_nil)) (by intro _; rfl))) (pss_one (ps_ret pe_bl)) pss_nil)
    (pss_cons (ps_set (i := 4) sc_is_kept_right.nd rfl (Or.inr rfl) (pe_dc (own := [("commit", 7)]) rfl sc_is_kept_right.nd (piT (K := K) (pv 3)) (blkOk_by (N := n_is_kept_right) (sc := defScope s_is_kept_right) (by decide +kernel)) (fun _ _ _ _ _ => (pg_name (i := 7) sc_is_kept_right.nd rfl (Or.inl rfl))) (fun _ _ _ _ _ => pts_nil) (fun _ _ _ _ _ => (pv 7)) (fun _ _ _ _ _ => pe_bl)))
    (pss_cons (ps_setLc (i := 5) (own := [("version", 8)]) rfl sc_is_kept_right.nd rfl rfl (sw_true rfl rfl rfl (by decide +kernel)) (piX (K := K) (pv 0)) (blkOk_by (N := n_is_kept_right) (sc := defScope s_is_kept_right) (by decide +kernel)) (fun _ _ _ _ _ => (pg_name (i := 8) sc_is_kept_right.nd rfl (Or.inl rfl))) (fun _ _ _ _ _ => (pts_one (pt_cmp (pc_din (hu_of hr) (pe_ix (ixLT (K := K)) (pv 8) pe_int (fun _ _ => rfl)) (pv 4))))) (fun _ _ _ _ _ => (pv 8)))
    (pss_cons (ps_if (pt_cmpR oLt (pe_callB (cLen (K := K)) (by rfl) T.z_len PySem.boot_len (pa_cons (pv 5) pa_nil)) (pe_callB cLenD (by rfl) T.z_len PySem.boot_len (pa_cons (pv 4) pa_nil)) (nomark _)) (pss_one (ps_ret pe_bl)) pss_nil)
    (pss_cons (ps_set (i := 6) sc_is_kept_right.nd rfl (Or.inl rfl) (pe_call (ok_asked_of T) (hr.mono (by decide)) (by rfl) T.asked_of.g T.asked_of.F.kp T.asked_of.b .nil pass0 (pa_cons (pv 1) (pa_cons (pv 2) pa_nil))))
    (pss_one (ps_ret (pe_callB (cAll (K := K) rfl) (by rfl) T.z_all (by decide +kernel) (pa_cons (pe_lc (own := [("whole", 9), ("alone", 10)]) rfl sc_is_kept_right.nd (piZip (K := K) (by rfl) T.z_zip (pa_cons (pe_call (ok_seen_each T) (hr.mono (by decide)) (by rfl) T.seen_each.g T.seen_each.F.kp T.seen_each.b .nil pass0 (pa_cons (pv 0) (pa_cons (pv 6) pa_nil))) (pa_cons (pe_call (ok_seen_each T) (hr.mono (by decide)) (by rfl) T.seen_each.g T.seen_each.F.kp T.seen_each.b .nil pass0 (pa_cons (pv 5) (pa_cons (pv 6) pa_nil))) pa_nil))) (blkOk_by (N := n_is_kept_right) (sc := defScope s_is_kept_right) (by decide +kernel)) (fun _ _ _ _ _ => (pgTup (K := K) (n := 2) (pg_tup (n := 2) rfl (pgs_cons (pg_name (i := 9) sc_is_kept_right.nd rfl (Or.inl rfl)) (pgs_cons (pg_name (i := 10) sc_is_kept_right.nd rfl (Or.inl rfl)) pgs_nil))))) (fun _ _ _ _ _ => pts_nil) (fun _ _ _ _ _ => (pe_call (ok_is_same T) (hr.mono (by decide)) (by rfl) T.is_same.g T.is_same.F.kp T.is_same.b .nil pass0 (pa_cons (pv 9) (pa_cons (pv 10) pa_nil))))) pa_nil)))))))))), ?_⟩
      have hS := g.hS
      have hP := g.hP
      have hV := g.hV
      have hB := g.hB
      have hl := g.n
      walk_at "go"
      refine g.all fun H1 s1 => ?_
      walk_at "go"
      refine ⟨.ref t, fun _ => True, .tuple (ms.map PyData.int), rfl, .tup (st_ s1 hT) (dq_int ms), fun us e => by cases e; rw [List.length_map]; exact ml, fun H2 s2 => ?_⟩
      rw [lot_ints, hlo]
      have s12 := s1.trans s2
      have hY : SqT K H2 t (ms.map V.int) := st_ s12 hT
      have asc : ms.Pairwise (· < ·) := lotB_asc (by
        unfold lotB at hlo
        exact (Bool.and_eq_true_iff.mp hlo).2)
      have eR : keptR xs (ns ++ [l]) ms = (inAll xs ms && (ns ++ [l]).all (okS xs (keptOf xs ms))) := rfl
      rw [eR] at k
      have mnd : ms.Nodup := asc.imp fun h => by omega
      walk_at "go"
      refine i_tup hY ?_
      refine d_it walk_tup (fun i acc H' => Same H2 H' ∧ acc.length = i ∧ ∀ c : Int, (valV acc (Sum.inl c : Key)).isSome = decide (c ∈ ms.take i)) (fun D hD => ⟨upd_free (Same.refl _) hD, rfl, fun c => rfl⟩) (fun i acc H' hi p => st_ p.1 hY) (fun acc D H3 hD hp p => ?_) (fun i x acc H' H'' D hi hD hp p y => ?_)
      rotate_left 1
      · obtain ⟨s3, hz, hk⟩ := p
        obtain ⟨rfl, hx⟩ := y
        have hi' : i < ms.length := by simpa using hi
        have ex : x = .int ms[i] := by
          rw [List.getElem?_map, List.getElem?_eq_getElem hi'] at hx
          exact (Option.some.inj hx).symm
        subst ex
        refine ⟨rfl, ?_⟩
        have nw : valV acc (Sum.inl ms[i] : Key) = none := by
          have := hk ms[i]
          rw [decide_eq_false (fun z => ?_)] at this
          · exact Option.isNone_iff_eq_none.mp (by simpa using this)
          · obtain ⟨j, hj, e⟩ := List.getElem_of_mem z
            rw [List.getElem_take] at e
            have hj' : j < i := by simp at hj; omega
            have := List.pairwise_iff_getElem.mp asc j i (by omega) hi' hj'
            omega
        walk_at "go"
        refine ⟨acc, Sum.inl ms[i], rfl, hp, lt_size (by omega), _, upd_same, upd_free s3 hD, ?_, fun c => ?_⟩
        · rw [putK_new _ nw]; simp [hz]
        · have et : decide (c ∈ ms.take (i + 1)) = (decide (c ∈ ms.take i) || decide (c = ms[i])) := by
            rw [List.take_add_one, List.getElem?_eq_getElem hi', Bool.eq_iff_iff]
            simp only [Option.toList_some, List.mem_append, List.mem_singleton, Bool.or_eq_true_iff, decide_eq_true_iff]
          rw [valV_put, et]
          by_cases hc : c = ms[i]
          · rw [if_pos (by rw [hc]), decide_eq_true hc, Bool.or_true]; rfl
          · rw [if_neg (fun z => hc (Sum.inl.inj z)), hk, decide_eq_false hc, Bool.or_false]
      · obtain ⟨s3, hz, hk⟩ := p
        rw [List.length_map] at hz
        have hk : ∀ c : Int, (valV acc (Sum.inl c : Key)).isSome = decide (c ∈ ms) := fun c => by rw [hk c, List.length_map, List.take_length]
        have s13 := s12.trans s3
        walk_at "go"
        refine i_orX rfl hS s13 fun J G hG hW => ?_
        have hlen : ps.length = xs.length := hP.1
        have few := hV.few
        refine c_it hW (fun i acc H' => Same H3 H' ∧ acc = ((((ps.zip xs).take i).filter fun z => decide (z.2.1 ∈ ms)).map (·.1)).map V.ref) (fun D hD => ⟨upd_free (Same.refl _) hD, rfl⟩) (fun i acc H' hi p => hG _ (s13.trans p.1)) (fun acc2 D2 H4 hD2 hp2 p => ?_) (fun i x acc H' H'' D2 hi hD2 hp2 p y => ?_)
        rotate_left 1
        · obtain ⟨s4, rfl⟩ := p
          obtain ⟨rfl, hx⟩ := y
          have hi' : i < ps.length := by simpa using hi
          have ex : x = .ref ps[i] := by
            rw [List.getElem?_map, List.getElem?_eq_getElem hi'] at hx
            exact (Option.some.inj hx).symm
          subst ex
          have hzz : (ps.zip xs)[i]? = some (ps[i], xs[i]) := by rw [List.getElem?_zip_eq_some]; exact ⟨List.getElem?_eq_getElem hi', List.getElem?_eq_getElem (by omega)⟩
          have hv := (pa_ (s13.trans s4) hP).at (show i < xs.length by omega)
          have hd4 := at_ s4 hp
          have few2 : ((ps.zip xs).take i).length ≤ 1000 := by simp; omega
          refine ⟨rfl, ?_⟩
          walk_at "go"
          refine g_din (k := Sum.inl xs[i].1) hd4 ?_
          rw [hk]
          walk_at "go"
          refine i_d (fun q => ?_) (fun q => ?_)
          · walk_at "go"
            refine ⟨_, hp2, lt_size (by have := List.length_filter_le (fun z : Addr × (Int × Option Int) => decide (z.2.1 ∈ ms)) ((ps.zip xs).take i); simp at *; omega), _, upd_same, upd_free s4 hD2, ?_⟩
            rw [List.take_add_one, hzz, List.filter_append, List.map_append, List.map_append]
            have e : List.filter (fun z : Addr × (Int × Option Int) => decide (z.2.1 ∈ ms)) [(ps[i], xs[i])] = [(ps[i], xs[i])] := by rw [List.filter_cons, if_pos (decide_eq_true q)]; rfl
            show _ = _ ++ List.map V.ref (List.map (·.1) (List.filter _ [(ps[i], xs[i])]))
            rw [e]; rfl
          · refine ⟨_, hp2, s4, ?_⟩
            rw [List.take_add_one, hzz, List.filter_append, List.map_append, List.map_append]
            have e : List.filter (fun z : Addr × (Int × Option Int) => decide (z.2.1 ∈ ms)) [(ps[i], xs[i])] = [] := by rw [List.filter_cons, if_neg (by simpa using q)]; rfl
            show _ = _ ++ List.map V.ref (List.map (·.1) (List.filter _ [(ps[i], xs[i])]))
            rw [e]; simp
        · obtain ⟨s4, rfl⟩ := p
          have s14 := s13.trans s4
          rw [show (ps.zip xs).take (ps.map V.ref).length = ps.zip xs from List.take_of_length_le (by simp; omega)] at hp2
          have PK := pairs_zip (pa_ s14 hP) ((ps.zip xs).filter fun z => decide (z.2.1 ∈ ms)) fun z hz => (List.mem_filter.mp hz).1
          rw [kept_zip hlen] at PK
          generalize hkp : ((ps.zip xs).filter fun z => decide (z.2.1 ∈ ms)).map (·.1) = kp at *
          have hVK : Valid (keptOf xs ms) := hV.sub List.filter_sublist
          have eL := kept_len hV mnd
          have hd4 := at_ s4 hp
          walk_at "go"
          refine e_lenD hd4 ?_
          walk_at "go"
          have ekl := PK.1
          refine i_d (fun q => ?_) (fun q => ?_)
          · walk_at "go"
            have e2 : (inAll xs ms && (ns ++ [l]).all (okS xs (keptOf xs ms))) = false := by
              rw [eL, decide_eq_true (show (keptOf xs ms).length < ms.length by omega)]; rfl
            rw [← e2]
            exact k _ s14
          · have e2 : (inAll xs ms && (ns ++ [l]).all (okS xs (keptOf xs ms))) = (ns ++ [l]).all (okS xs (keptOf xs ms)) := by
              rw [eL, decide_eq_false (show ¬ (keptOf xs ms).length < ms.length by omega)]; rfl
            rw [e2] at k
            walk_at "go"
            refine ⟨b, ns, l, rfl, st_ s14 hB, hl, fun p5 H5 as n5 s5 h5 a1 a2 a3 => ?_⟩
            have s15 := s14.trans s5
            walk_at "go"
            refine ⟨a, ps, xs, p5, as, rfl, sx_ s15 hS, pa_ s15 hP, hV, h5, a1, a3, fun p6 H6 n6 s6 h6 => ?_⟩
            have s16 := s15.trans s6
            walk_at "go"
            refine ⟨D2, kp, keptOf xs ms, p5, as, rfl, .inl (slO (at_ (s5.trans s6) hp2)), pa_ (s5.trans s6) PK, hVK, at_ s6 h5, a1, a3, fun p7 H7 n7 s7 h7 => ?_⟩
            have s17 := s16.trans s7
            have h67 := at_ s7 h6
            walk_at "go"
            refine i_zip (slO h67) (slO h7) ?_
            have hP7 := pa_ s17 hP
            have PK7 := pa_ (s5.trans (s6.trans s7)) PK
            refine c_it (walk_zip (n := as.length) (by simp)) (fun i acc H' => Same H7 H' ∧ acc = ((as.take i).map (okS xs (keptOf xs ms))).map V.bl) (fun D hD => ⟨upd_free (Same.refl _) hD, rfl⟩) (fun i acc H' hi p => ⟨slO (at_ p.1 h67), slO (at_ p.1 h7)⟩) (fun acc3 D3 H8 hD3 hp3 p => ?_) (fun i x acc H' H'' D3 hi hD3 hp3 p y => ?_)
            · obtain ⟨s8, rfl⟩ := p
              walk_at "go"
              refine e_allB hp3 ?_
              walk_at "go"
              have e5 : (List.map (okS xs (keptOf xs ms)) (as.take as.length)).all id = (ns ++ [l]).all (okS xs (keptOf xs ms)) := by
                rw [List.take_length, List.all_map, Bool.eq_iff_iff, List.all_eq_true, List.all_eq_true]
                exact ⟨fun h x hx => h x ((a2 x).mpr hx), fun h x hx => h x ((a2 x).mp hx)⟩
              rw [e5]
              exact k _ (s17.trans s8)
            · obtain ⟨s8, rfl⟩ := p
              obtain ⟨Tp, x1, x2, rfl, nT, rfl, y1, y2⟩ := y
              have y1 : (as.map (seenV ps xs))[i]? = some x1 := y1
              have y2 : (as.map (seenV kp (keptOf xs ms)))[i]? = some x2 := y2
              have ex1 : x1 = seenV ps xs as[i] := by
                rw [List.getElem?_map, List.getElem?_eq_getElem hi] at y1
                exact (Option.some.inj y1).symm
              have ex2 : x2 = seenV kp (keptOf xs ms) as[i] := by
                rw [List.getElem?_map, List.getElem?_eq_getElem hi] at y2
                exact (Option.some.inj y2).symm
              subst ex1 ex2
              have s9 : Same H' (upd H' Tp (.tup [seenV ps xs as[i], seenV kp (keptOf xs ms) as[i]])) := Same.new nT
              have neD : D3 ≠ Tp := ne_new hp3 nT
              have hp9 := at_ s9 hp3
              refine g_pair upd_same ?_
              generalize upd H' Tp (.tup [seenV ps xs as[i], seenV kp (keptOf xs ms) as[i]]) = H9 at *
              have s79 := s8.trans s9
              refine ⟨rfl, ?_⟩
              walk_at "go"
              refine ⟨_, _, xs[fi xs as[i]]?, (keptOf xs ms)[fi (keptOf xs ms) as[i]]?, rfl, seen_at (pa_ s79 hP7) _, seen_at (pa_ s79 PK7) _, fun z => ?_, ?_⟩
              · cases e : (keptOf xs ms)[fi (keptOf xs ms) as[i]]? with
                | none => rfl
                | some v =>
                  obtain ⟨g1, g2⟩ := fi_mem e
                  obtain ⟨u, hu⟩ := fi_some (xs := xs) (List.mem_filter.mp g1).1 g2
                  rw [z] at hu; cases hu
              · refine ⟨_, hp9, lt_size (by simp; omega), _, upd_same, upd_free s79 hD3, ?_⟩
                rw [List.take_add_one, List.getElem?_eq_getElem hi, List.map_append, List.map_append]; rfl
end



section
variable {P : Program} {w : World} {K : PySem.W.Frag} {mg : Str → Option Value} {base : Heap}
/-! ### what is enough, and what is needed -/
theorem keep_sub {S : Int → Bool} : ∀ (l : List (Int × Option Int)) (acc : List Int), ∃ t : List Int, l.foldl (keepF S) acc = acc ++ t ∧ t.Sublist (l.map (·.1))
  | [], acc => ⟨[], by simp, List.Sublist.refl _⟩
  | v :: l, acc => by
    rw [List.foldl_cons]
    obtain ⟨t, e, s⟩ := keep_sub (S := S) l (keepF S acc v)
    rw [e]
    rcases keepF_sub (S := S) (acc := acc) (v := v) with ⟨e2, _⟩ | e2
    · rw [e2]
      exact ⟨v.1 :: t, by simp, s.cons_cons _⟩
    · rw [e2]
      exact ⟨t, rfl, s.cons _⟩
theorem told_asc {S : Int → Bool} {xs : List (Int × Option Int)} (hV : Valid xs) : (keepC S xs).Pairwise (· < ·) ∧ ∀ c ∈ keepC S xs, c ∈ xs.map (·.1) := by
  obtain ⟨t, e, s⟩ := keep_sub (S := S) xs.reverse []
  have e : keepC S xs = t := by rw [show keepC S xs = xs.reverse.foldl (keepF S) [] from rfl, e]; rfl
  rw [e]
  refine ⟨List.Pairwise.sublist s ?_, fun c hc => ?_⟩
  · rw [List.map_reverse, List.pairwise_reverse, List.pairwise_map]
    exact hV.desc
  · have := s.subset hc
    rw [List.map_reverse, List.mem_reverse] at this
    exact this
theorem inAll_iff {xs : List (Int × Option Int)} {ms : List Int} : inAll xs ms = true ↔ ∀ m ∈ ms, m ∈ xs.map (·.1) := by
  unfold inAll
  rw [List.all_eq_true]
  exact ⟨fun h m hm => of_decide_eq_true (h m hm), fun h m hm => decide_eq_true (h m hm)⟩
theorem Valid.pos {xs : List (Int × Option Int)} (hV : Valid xs) {c : Int} (h : c ∈ xs.map (·.1)) : 1 ≤ c := by
  obtain ⟨v, hv, e⟩ := List.mem_map.mp h
  rw [← e]
  exact (hV.comm v hv).1
theorem lotB_of {ns : List Int} (h : ns.Pairwise (· < ·)) (h0 : ∀ z ∈ ns, 0 ≤ z) : lotB ns = true := asc_lot h h0
theorem fi_zero {xs : List (Int × Option Int)} {s : Int} (h : top xs ≤ s) : fi xs s = 0 := by
  cases xs with
  | nil => rfl
  | cons v r => exact Nat.le_zero.mp (fi_min (Nat.zero_lt_succ _) h)
theorem okS_last {xs ys : List (Int × Option Int)} {l l2 : Int} (h1 : top xs ≤ l) (h2 : top ys ≤ l) (h3 : l ≤ l2) : okS xs ys l2 = okS xs ys l := by
  unfold okS
  rw [fi_zero h1, fi_zero h2, fi_zero (s := l2) (by omega), fi_zero (xs := ys) (s := l2) (by omega)]
theorem seenC_iff {xs : List (Int × Option Int)} {ask : List Int} {c : Int} : seenC xs ask c = true ↔ ∃ s ∈ ask, ∃ u, xs[fi xs s]? = some u ∧ u.1 = c := by
  unfold seenC
  rw [List.any_eq_true]
  refine ⟨fun ⟨s, hs, h⟩ => ⟨s, hs, ?_⟩, fun ⟨s, hs, u, hu, e⟩ => ⟨s, hs, ?_⟩⟩
  · unfold hit at h
    cases e : xs[fi xs s]? with
    | none => rw [e] at h; cases h
    | some u => rw [e] at h; exact ⟨u, rfl, of_decide_eq_true h⟩
  · unfold hit
    rw [hu]
    exact decide_eq_true e
/-- what a right lot leaves out is not needed -/
theorem told_in {xs : List (Int × Option Int)} (hV : Valid xs) {ask ms : List Int} (hok : ∀ s ∈ ask, okS xs (keptOf xs ms) s = true) : ∀ (l2 l1 : List (Int × Option Int)) (acc : List Int), xs.reverse = l1 ++ l2 → (∀ c ∈ acc, c ∈ ms ∧ c ∈ l1.map (·.1)) →
    ∀ c ∈ l2.foldl (keepF (seenC xs ask)) acc, c ∈ ms
  | [], _, acc, _, h, c, hc => (h c hc).1
  | v :: l2, l1, acc, e, h, c, hc => by
    rw [List.foldl_cons] at hc
    refine told_in hV hok l2 (l1 ++ [v]) (keepF (seenC xs ask) acc v) (by rw [e]; simp) (fun c hc => ?_) c hc
    rcases keepF_sub (S := seenC xs ask) (acc := acc) (v := v) with ⟨e2, e3, e4⟩ | e2
    · rw [e2] at hc
      rcases List.mem_append.mp hc with hc | hc
      · obtain ⟨g1, g2⟩ := h c hc
        exact ⟨g1, by rw [List.map_append]; exact List.mem_append_left _ g2⟩
      · have ec : c = v.1 := List.mem_singleton.mp hc
        refine ⟨?_, by rw [ec, List.map_append]; exact List.mem_append_right _ List.mem_cons_self⟩
        obtain ⟨s, hs, u, hu, eu⟩ := seenC_iff.mp e3
        have hv : v ∈ xs := List.mem_reverse.mp (by rw [e]; simp)
        obtain ⟨u1, u2⟩ := fi_mem hu
        have euv : u = v := hV.eq u1 hv eu
        subst euv
        have ok := hok s hs
        unfold okS at ok
        rw [hu] at ok
        cases ek : (keptOf xs ms)[fi (keptOf xs ms) s]? with
        | some z =>
          rw [ek] at ok
          have ez : some u = some z := of_decide_eq_true ok
          cases ez
          rw [ec]
          exact of_decide_eq_true (List.mem_filter.mp (fi_mem ek).1).2
        | none =>
          rw [ek] at ok
          have ok : u.2.isNone = true := ok
          have ne : acc.isEmpty = false := by
            cases hu2 : u.2 with
            | none => rw [hu2] at e4; simpa using e4
            | some z => rw [hu2] at ok; cases ok
          cases acc with
          | nil => cases ne
          | cons a r =>
            exfalso
            obtain ⟨g1, g2⟩ := h a List.mem_cons_self
            obtain ⟨y, hy, ey⟩ := List.mem_map.mp g2
            have hyx : y ∈ xs := List.mem_reverse.mp (by rw [e]; exact List.mem_append_left _ hy)
            have hlt : y.1 < u.1 := by
              have hp : xs.reverse.Pairwise (fun a b => a.1 < b.1) := List.pairwise_reverse.mpr hV.desc
              rw [e] at hp
              exact (List.pairwise_append.mp hp).2.2 y hy u List.mem_cons_self
            obtain ⟨z, hz⟩ := fi_some (xs := keptOf xs ms) (s := s) (List.mem_filter.mpr ⟨hyx, decide_eq_true (by rw [ey]; exact g1)⟩) (by omega)
            rw [ek] at hz; cases hz
    · rw [e2] at hc
      obtain ⟨g1, g2⟩ := h c hc
      exact ⟨g1, by rw [List.map_append]; exact List.mem_append_left _ g2⟩
/-- what is needed is enough -/
theorem told_ok {xs : List (Int × Option Int)} (hV : Valid xs) {ask : List Int} {s : Int} (hs : s ∈ ask) : okS xs (keptOf xs (keepC (seenC xs ask) xs)) s = true := by
  have hVK : Valid (keptOf xs (keepC (seenC xs ask) xs)) := hV.sub List.filter_sublist
  unfold okS
  cases eu : xs[fi xs s]? with
  | none =>
    cases ek : (keptOf xs (keepC (seenC xs ask) xs))[fi (keptOf xs (keepC (seenC xs ask) xs)) s]? with
    | none => rfl
    | some z =>
      obtain ⟨g1, g2⟩ := fi_mem ek
      obtain ⟨u, hu⟩ := fi_some (xs := xs) (List.mem_filter.mp g1).1 g2
      rw [eu] at hu; cases hu
  | some u =>
    obtain ⟨u1, u2⟩ := fi_mem eu
    have hS : seenC xs ask u.1 = true := seenC_iff.mpr ⟨s, hs, u, eu, rfl⟩
    cases ek : (keptOf xs (keepC (seenC xs ask) xs))[fi (keptOf xs (keepC (seenC xs ask) xs)) s]? with
    | some z =>
      obtain ⟨g1, g2⟩ := fi_mem ek
      show decide (some u = some z) = true
      refine decide_eq_true ?_
      by_cases q : z = u
      · rw [q]
      · exfalso
        have hz := fi_top hV eu (List.mem_filter.mp g1).1 g2
        have hne : z.1 ≠ u.1 := fun e => q (hV.eq (List.mem_filter.mp g1).1 u1 e)
        have hzt : z.1 ∈ keepC (seenC xs ask) xs := of_decide_eq_true (List.mem_filter.mp g1).2
        -- u lies behind z among the eldest first; z was kept, so u is
        have hu' : u.1 ∈ keepC (seenC xs ask) xs := by
          obtain ⟨l1, l2, e⟩ := List.append_of_mem (List.mem_reverse.mpr u1)
          have hp : xs.reverse.Pairwise (fun a b => a.1 < b.1) := List.pairwise_reverse.mpr hV.desc
          have eK : keepC (seenC xs ask) xs = (l1 ++ u :: l2).foldl (keepF (seenC xs ask)) [] := by rw [← e]; rfl
          rw [e] at hp
          rw [eK, List.foldl_append, List.foldl_cons]
          rw [eK, List.foldl_append, List.foldl_cons] at hzt
          refine foldl_acc ?_
          have hz2 : z.1 ∈ l1.foldl (keepF (seenC xs ask)) [] := by
            rcases foldl_mem hzt with h | ⟨⟨y, hy, ey⟩, _⟩
            · rcases keepF_sub (S := seenC xs ask) (acc := l1.foldl (keepF (seenC xs ask)) []) (v := u) with ⟨e2, _⟩ | e2
              · rw [e2] at h
                rcases List.mem_append.mp h with h | h
                · exact h
                · exact absurd (List.mem_singleton.mp h) hne
              · rw [e2] at h; exact h
            · exfalso
              have := (List.pairwise_cons.mp (List.pairwise_append.mp hp).2.1).1 y hy
              omega
          unfold keepF
          have : (l1.foldl (keepF (seenC xs ask)) []).isEmpty = false := by
            cases hh : l1.foldl (keepF (seenC xs ask)) [] with
            | nil => rw [hh] at hz2; cases hz2
            | cons a r => rfl
          unfold keepF at this
          rw [if_pos (by rw [hS, this]; simp)]
          exact List.mem_append_right _ List.mem_cons_self
        have := fi_top hVK ek (List.mem_filter.mpr ⟨u1, decide_eq_true hu'⟩) u2
        omega
    | none =>
      show u.2.isNone = true
      cases hu2 : u.2 with
      | none => rfl
      | some y =>
        exfalso
        have hu' : u.1 ∈ keepC (seenC xs ask) xs := by
          obtain ⟨l1, l2, e⟩ := List.append_of_mem (List.mem_reverse.mpr u1)
          have eK : keepC (seenC xs ask) xs = (l1 ++ u :: l2).foldl (keepF (seenC xs ask)) [] := by rw [← e]; rfl
          rw [eK, List.foldl_append, List.foldl_cons]
          refine foldl_acc ?_
          unfold keepF
          rw [if_pos (by rw [hS, hu2]; rfl)]
          exact List.mem_append_right _ List.mem_cons_self
        obtain ⟨z, hz⟩ := fi_some (xs := keptOf xs (keepC (seenC xs ask) xs)) (List.mem_filter.mpr ⟨u1, decide_eq_true hu'⟩) u2
        rw [ek] at hz; cases hz
theorem told_right {xs : List (Int × Option Int)} (hV : Valid xs) (ask : List Int) : keptR xs ask (keepC (seenC xs ask) xs) = true := by
  show (inAll xs _ && ask.all (okS xs (keptOf xs _))) = true
  obtain ⟨h1, h2⟩ := told_asc (S := seenC xs ask) hV
  rw [inAll_iff.mpr h2, List.all_eq_true.mpr fun s hs => told_ok hV hs]
  rfl
theorem told_lot {xs : List (Int × Option Int)} (hV : Valid xs) (ask : List Int) : lotB (keepC (seenC xs ask) xs) = true := by
  obtain ⟨h1, h2⟩ := told_asc (S := seenC xs ask) hV
  exact lotB_of h1 fun z hz => by have := hV.pos (h2 z hz); omega
/-! ### harm -/
def toldV (o : Option (Int × Option Int)) : Option Int := match o with
  | some (c, some _) => some c
  | _ => none
def optV : Option Int → V
  | none => .non
  | some i => .int i
def sp_told (K : PySem.W.Frag) : Sp := fun vs H Q _ => ∃ x o, vs = [x] ∧ SeenAt K H x o ∧ Q (optV (toldV o)) H
theorem ok_told (T : Txt K mg) : FnOk P w K mg base CX0 1 T.told.f T.told.fd ["version"] (sp_told K) := by
  refine T.told.F.ok sc_told (fun vs H Q E h => ?_) (fun cdv A outer s H vs Q E hr h => ?_)
  · obtain ⟨x, o, rfl, _⟩ := h
    rfl
  · obtain ⟨x, o, rfl, hx, k⟩ := h
    refine ⟨_, (pss_cons (ps_if (PW.pt (pw_or (pt_cmpR oIsN (pv 0) pe_non (nomark _)) (pw_or1 (pt_cmpR oIsN (pe_ix (ixLT (K := K)) (pv 0) pe_int (fun _ _ => rfl)) pe_non (nomark _))))) (pss_one (ps_ret pe_non)) pss_nil)
    (pss_one (ps_ret (pe_ix (ixLT (K := K)) (pv 0) pe_int (fun _ _ => rfl))))), ?_⟩
    cases o with
    | none =>
      have hx : x = .non := hx
      subst hx
      walk_at "go"
      exact k
    | some u =>
      obtain ⟨p, rfl, hp⟩ := hx
      obtain ⟨c, m⟩ := u
      cases m with
      | none =>
        walk_at "go"
        exact k
      | some z =>
        walk_at "go"
        exact k
end



section
variable {P : Program} {w : World} {K : PySem.W.Frag} {mg : Str → Option Value} {base : Heap}
theorem g_trip {σ : L2.St} {H : Hp} {i1 i2 i3 : Nat} {T : Addr} {x y u : V} {R : L2.St → Hp → Prop} (h : H T = some (.tup [x, y, u])) (q : R (((σ.set i1 (some x)).set i2 (some y)).set i3 (some u)) H) : gTup K 3 (gCons (gName i1) (gCons (gName i2) (gCons (gName i3) gNil))) (.ref T) σ H R :=
  ⟨T, [x, y, u], rfl, stO h, rfl, x, [y, u], rfl, y, [u], rfl, u, [], rfl, rfl, q⟩
/-! ### harm -/
def askL (ns : List Int) (l : Int) : List Int := ns.filter (fun z => decide (z < l)) ++ [l]
theorem asc_same : ∀ {xs ys : List Int}, xs.Pairwise (· < ·) → ys.Pairwise (· < ·) → (∀ b, b ∈ xs ↔ b ∈ ys) → xs = ys
  | [], [], _, _, _ => rfl
  | [], y :: ys, _, _, h => absurd ((h y).mpr (by simp)) (by simp)
  | x :: xs, [], _, _, h => absurd ((h x).mp (by simp)) (by simp)
  | x :: xs, y :: ys, h1, h2, h => by
    obtain ⟨a1, a2⟩ := List.pairwise_cons.mp h1
    obtain ⟨b1, b2⟩ := List.pairwise_cons.mp h2
    have e : x = y := by
      rcases List.mem_cons.mp ((h x).mp (by simp)) with z | z
      · exact z
      · rcases List.mem_cons.mp ((h y).mpr (by simp)) with q | q
        · exact q.symm
        · have := a1 y q; have := b1 x z; omega
    subst e
    rw [asc_same a2 b2 fun b => ⟨fun m => ?_, fun m => ?_⟩]
    · rcases List.mem_cons.mp ((h b).mp (List.mem_cons_of_mem _ m)) with z | z
      · have := a1 b m; omega
      · exact z
    · rcases List.mem_cons.mp ((h b).mpr (List.mem_cons_of_mem _ m)) with z | z
      · have := b1 b m; omega
      · exact z
theorem ask_eq {as ns : List Int} {l : Int} (h1 : as.Pairwise (· < ·)) (h2 : ∀ z, z ∈ as ↔ z ∈ ns ++ [l]) (h3 : ns.Pairwise (· < ·)) (h4 : ∀ z ∈ ns, z ≤ l) : as = askL ns l := by
  refine asc_same h1 ?_ fun z => (h2 z).trans ?_
  · refine List.pairwise_append.mpr ⟨h3.sublist List.filter_sublist, List.pairwise_singleton _ _, fun a ha b hb => ?_⟩
    rw [List.mem_singleton.mp hb]
    exact of_decide_eq_true (List.mem_filter.mp ha).2
  · unfold askL
    rw [List.mem_append, List.mem_append, List.mem_filter, List.mem_singleton, decide_eq_true_iff]
    constructor
    · rintro (h | h)
      · by_cases q : z < l
        · exact .inl ⟨h, q⟩
        · exact .inr (by have := h4 z h; omega)
      · exact .inr h
    · rintro (h | h)
      · exact .inl h.1
      · exact .inr h
def toldAt (xs : List (Int × Option Int)) (s : Int) : Option Int := toldV xs[fi xs s]?
def othersOf (xs : List (Int × Option Int)) (c : Int) : List (Int × Option Int) := xs.filter fun v => !decide (v.1 = c)
def harmV (xs ys : List (Int × Option Int)) (as : List Int) : Option Int := as.find? fun s => !decide (toldAt xs s = toldAt ys s)
def comOk (xs : List (Int × Option Int)) (d : PyData) : Bool := isID d && decide (toID d ∈ xs.map (·.1))
theorem others_zip {ps : List Addr} {xs : List (Int × Option Int)} (h : ps.length = xs.length) (c : Int) : ((ps.zip xs).filter fun z => !decide (z.2.1 = c)).map (·.2) = othersOf xs c := by
  unfold othersOf
  have e : xs = (ps.zip xs).map (·.2) := (List.map_snd_zip (by omega)).symm
  conv => rhs; rw [e]
  rw [List.filter_map]; rfl
theorem i_nd {p A B : Prop} [Decidable p] (h1 : p → B) (h2 : ¬ p → A) : if (!decide p) = true then A else B := by
  by_cases h : p
  · exact i_ndf h (h1 h)
  · exact i_ndt h (h2 h)
theorem i_tri0 {ta : TA} {σ : L2.St} {H : Hp} {R : It → Hp → Prop} (h : ta σ H fun vs H1 => TriQ K R vs H1) : iTri K ta σ H R := h
theorem o_neO {r' : R2} {o1 o2 : Option Int} {H : Hp} {Q : VK} (q : Q (.bl (!decide (o1 = o2))) H) : rOr rNe r' (optV o1) (optV o2) H Q := by
  have e : decide (optV o1 = optV o2) = decide (o1 = o2) := by
    cases o1 <;> cases o2 <;> simp [optV]
  cases o1 <;> cases o2 <;> exact .inl ⟨rfl, by rw [e]; exact q⟩
def sp_harm (K : PySem.W.Frag) (Cv Cn Cs Cw : Addr) : Sp := fun vs H Q E => (∃ x y z u, vs = [x, y, z, u] ∧ BadQ K Cv Cn Cs E H x y z) ∨ (∃ a ps xs b l, ∃ ns : List Int, ∃ u N du, vs = [.ref a, .ref b, .int l, u] ∧ GoodQ K H a ps xs b ns l ∧ Dq K N H u du ∧
  (comOk xs du = false → ∀ H', Same H H' → E (.ref Cw) none H') ∧ (comOk xs du = true → ∀ H', Same H H' → Q (optV (harmV xs (othersOf xs (toID du)) (askL ns l))) H'))
theorem ok_harm (T : Txt K mg) : FnOk P w K mg base (L2.CX P w) 8 T.harm.f T.harm.fd ["versions", "open_lot", "last", "commit"] ((sp_harm K T.e_NoVersions.C T.e_NoNumber.C T.e_NoSnapshots.C T.e_NoVersion.C)) := by
  refine T.harm.F.okX sc_harm (fun vs H Q E h => ?_) (fun cdv A outer s H vs Q E hr h => ?_)
  · rcases h with ⟨x, y, z, u, rfl, _⟩ | ⟨a, ps, xs, b, l, ns, u, N, du, rfl, _⟩ <;> rfl
  · rcases h with ⟨x, y, z, u, rfl, hb⟩ | ⟨a, ps, xs, b, l, ns, u, N, du, rfl, g, hu, kE, k⟩
    · refine ⟨_, (pss_cons (ps_expr (pe_call (ok_need_all T) (hr.mono (by decide)) (by rfl) T.need_all.g T.need_all.F.kp T.need_all.b .nil (passes_call (takes_of rfl rfl rfl rfl) (fun _ _ _ _ h => h)) (pa_cons (pv 0) (pa_cons (pv 1) (pa_cons (pv 2) pa_nil)))))
    (pss_cons (ps_if (PW.pt (pw_or (pt_not (ptTruth (K := K) (pe_call (ok_is_integer T) (hr.mono (by decide)) (by rfl) T.is_integer.g T.is_integer.F.kp T.is_integer.b .nil pass0 (pa_cons (pv 3) pa_nil)) (by intro _; rfl))) (pw_or1 (pt_cmpR (oNotIn (K := K)) (pv 3) (pe_lc (own := [("number", 9), ("_", 10)]) rfl sc_harm.nd (piX (K := K) (pv 0)) (blkOk_by (N := n_harm) (sc := defScope s_harm) (by decide +kernel)) (fun _ _ _ _ _ => (pgTup (K := K) (n := 2) (pg_tup (n := 2) rfl (pgs_cons (pg_name (i := 9) sc_harm.nd rfl (Or.inl rfl)) (pgs_cons (pg_name (i := 10) sc_harm.nd rfl (Or.inl rfl)) pgs_nil))))) (fun _ _ _ _ _ => pts_nil) (fun _ _ _ _ _ => (pv 9))) (by rfl))))) (pss_one (ps_raise rfl (takes_of rfl rfl rfl rfl) (pmk_oexN T.e_NoVersion.o T.e_NoVersion.i T.e_NoVersion.t (ok_StoreError_init T.m_StoreError_init T.z_ValueError T.vV) (hr.mono (by decide)) T.m_StoreError_init.b pass0 (by rfl) T.e_NoVersion.g))) pss_nil)
    (pss_cons (ps_setLc (i := 4) (own := [("version", 11)]) rfl sc_harm.nd rfl rfl (sw_true rfl rfl rfl (by decide +kernel)) (piX (K := K) (pv 0)) (blkOk_by (N := n_harm) (sc := defScope s_harm) (by decide +kernel)) (fun _ _ _ _ _ => (pg_name (i := 11) sc_harm.nd rfl (Or.inl rfl))) (fun _ _ _ _ _ => (pts_one (pt_cmpR (oNe (K := K) hr.units) (pe_ix (ixLT (K := K)) (pv 11) pe_int (fun _ _ => rfl)) (pv 3) (nomark _)))) (fun _ _ _ _ _ => (pv 11)))
    (pss_cons (ps_set (i := 5) sc_harm.nd rfl (Or.inl rfl) (pe_call (ok_asked_of T) (hr.mono (by decide)) (by rfl) T.asked_of.g T.asked_of.F.kp T.asked_of.b .nil pass0 (pa_cons (pv 1) (pa_cons (pv 2) pa_nil))))
    (pss_cons (ps_for (passes_of rfl) rfl (piTri (K := K) (by rfl) T.z_zip (pa_cons (pv 5) (pa_cons (pe_call (ok_seen_each T) (hr.mono (by decide)) (by rfl) T.seen_each.g T.seen_each.F.kp T.seen_each.b .nil pass0 (pa_cons (pv 0) (pa_cons (pv 5) pa_nil))) (pa_cons (pe_call (ok_seen_each T) (hr.mono (by decide)) (by rfl) T.seen_each.g T.seen_each.F.kp T.seen_each.b .nil pass0 (pa_cons (pv 4) (pa_cons (pv 5) pa_nil))) pa_nil)))) (pgTup (K := K) (n := 3) (pg_tup (n := 3) rfl (pgs_cons (pg_name (i := 6) sc_harm.nd rfl (Or.inl rfl)) (pgs_cons (pg_name (i := 7) sc_harm.nd rfl (Or.inl rfl)) (pgs_cons (pg_name (i := 8) sc_harm.nd rfl (Or.inl rfl)) pgs_nil)))))
      (pss_one (ps_if (pt_cmpR (oNe (K := K) hr.units) (pe_call (ok_told T) (hr.mono (by decide)) (by rfl) T.told.g T.told.F.kp T.told.b .nil pass0 (pa_cons (pv 7) pa_nil)) (pe_call (ok_told T) (hr.mono (by decide)) (by rfl) T.told.g T.told.F.kp T.told.b .nil pass0 (pa_cons (pv 8) pa_nil)) (nomark _)) (pss_one (ps_ret (pv 6))) pss_nil)))
    (pss_one (ps_ret pe_non))))))), ?_⟩
      walk_at "go"
      exact hb.all
    · refine ⟨_, (pss_cons (ps_expr (pe_call (ok_need_all T) (hr.mono (by decide)) (by rfl) T.need_all.g T.need_all.F.kp T.need_all.b .nil (passes_call (takes_of rfl rfl rfl rfl) (fun _ _ _ _ h => h)) (pa_cons (pv 0) (pa_cons (pv 1) (pa_cons (pv 2) pa_nil)))))
    (pss_cons (ps_if (PW.pt (pw_or (pt_not (ptTruth (K := K) (pe_call (ok_is_integer T) (hr.mono (by decide)) (by rfl) T.is_integer.g T.is_integer.F.kp T.is_integer.b .nil pass0 (pa_cons (pv 3) pa_nil)) (by intro _; rfl))) (pw_or1 (pt_cmpR (oNotIn (K := K)) (pv 3) (pe_lc (own := [("number", 9), ("_", 10)]) rfl sc_harm.nd (piX (K := K) (pv 0)) (blkOk_by (N := n_harm) (sc := defScope s_harm) (by decide +kernel)) (fun _ _ _ _ _ => (pgTup (K := K) (n := 2) (pg_tup (n := 2) rfl (pgs_cons (pg_name (i := 9) sc_harm.nd rfl (Or.inl rfl)) (pgs_cons (pg_name (i := 10) sc_harm.nd rfl (Or.inl rfl)) pgs_nil))))) (fun _ _ _ _ _ => pts_nil) (fun _ _ _ _ _ => (pv 9))) (by rfl))))) (pss_one (ps_raise rfl (takes_of rfl rfl rfl rfl) (pmk_oexN T.e_NoVersion.o T.e_NoVersion.i T.e_NoVersion.t (ok_StoreError_init T.m_StoreError_init T.z_ValueError T.vV) (hr.mono (by decide)) T.m_StoreError_init.b pass0 (by rfl) T.e_NoVersion.g))) pss_nil)
    (pss_cons (ps_setLc (i := 4) (own := [("version", 11)]) rfl sc_harm.nd rfl rfl (sw_true rfl rfl rfl (by decide +kernel)) (piX (K := K) (pv 0)) (blkOk_by (N := n_harm) (sc := defScope s_harm) (by decide +kernel)) (fun _ _ _ _ _ => (pg_name (i := 11) sc_harm.nd rfl (Or.inl rfl))) (fun _ _ _ _ _ => (pts_one (pt_cmpR (oNe (K := K) hr.units) (pe_ix (ixLT (K := K)) (pv 11) pe_int (fun _ _ => rfl)) (pv 3) (nomark _)))) (fun _ _ _ _ _ => (pv 11)))
    (pss_cons (ps_set (i := 5) sc_harm.nd rfl (Or.inl rfl) (pe_call (ok_asked_of T) (hr.mono (by decide)) (by rfl) T.asked_of.g T.asked_of.F.kp T.asked_of.b .nil pass0 (pa_cons (pv 1) (pa_cons (pv 2) pa_nil))))
    (pss_cons (ps_for (passes_of rfl) rfl (piTri (K := K) (by rfl) T.z_zip (pa_cons (pv 5) (pa_cons (pe_call (ok_seen_each T) (hr.mono (by decide)) (by rfl) T.seen_each.g T.seen_each.F.kp T.seen_each.b .nil pass0 (pa_cons (pv 0) (pa_cons (pv 5) pa_nil))) (pa_cons (pe_call (ok_seen_each T) (hr.mono (by decide)) (by rfl) T.seen_each.g T.seen_each.F.kp T.seen_each.b .nil pass0 (pa_cons (pv 4) (pa_cons (pv 5) pa_nil))) pa_nil)))) (pgTup (K := K) (n := 3) (pg_tup (n := 3) rfl (pgs_cons (pg_name (i := 6) sc_harm.nd rfl (Or.inl rfl)) (pgs_cons (pg_name (i := 7) sc_harm.nd rfl (Or.inl rfl)) (pgs_cons (pg_name (i := 8) sc_harm.nd rfl (Or.inl rfl)) pgs_nil)))))
      (pss_one (ps_if (pt_cmpR (oNe (K := K) hr.units) (pe_call (ok_told T) (hr.mono (by decide)) (by rfl) T.told.g T.told.F.kp T.told.b .nil pass0 (pa_cons (pv 7) pa_nil)) (pe_call (ok_told T) (hr.mono (by decide)) (by rfl) T.told.g T.told.F.kp T.told.b .nil pass0 (pa_cons (pv 8) pa_nil)) (nomark _)) (pss_one (ps_ret (pv 6))) pss_nil)))
    (pss_one (ps_ret pe_non))))))), ?_⟩
      walk_at "go"
      refine g.all fun H1 s1 => ?_
      walk_at "go"
      refine ⟨u, N, du, rfl, hu.same s1, ?_⟩
      cases ei : isID du with
      | false =>
        walk_at "go"
        exact e_raise T.e_NoVersion.o (kE (by unfold comOk; rw [ei]; rfl) _ s1)
      | true =>
        have ec : ∃ c, du = .int c := by
          cases du with
          | int c => exact ⟨c, rfl⟩
          | _ => cases ei
        obtain ⟨c, rfl⟩ := ec
        cases hu
        have hS1 := sx_ s1 g.hS
        have hP1 := pa_ s1 g.hP
        have few := g.hV.few
        have hlen : ps.length = xs.length := g.hP.1
        walk_at "go"
        refine i_orX rfl hS1 (Same.refl _) fun J G hG hW => ?_
        refine c_it hW (fun i acc H' => Same H1 H' ∧ acc = ((xs.take i).map (·.1)).map V.int) (fun D hD => ⟨upd_free (Same.refl _) hD, rfl⟩) (fun i acc H' hi p => hG _ p.1) (fun acc D H2 hD hp p => ?_) (fun i x acc H' H'' D hi hD hp p y => ?_)
        rotate_left 1
        · obtain ⟨s2, rfl⟩ := p
          obtain ⟨rfl, hx⟩ := y
          have hi' : i < ps.length := by simpa using hi
          have ex : x = .ref ps[i] := by
            rw [List.getElem?_map, List.getElem?_eq_getElem hi'] at hx
            exact (Option.some.inj hx).symm
          subst ex
          have hv := (pa_ s2 hP1).at (show i < xs.length by omega)
          refine g_pairS hv ?_
          refine ⟨rfl, ?_⟩
          walk_at "go"
          refine ⟨_, hp, lt_size (by simp; omega), _, upd_same, upd_free s2 hD, ?_⟩
          rw [List.take_add_one, List.getElem?_eq_getElem (show i < xs.length by omega), List.map_append, List.map_append]; rfl
        · obtain ⟨s2, rfl⟩ := p
          have s12 := s1.trans s2
          rw [show xs.take (ps.map V.ref).length = xs from List.take_of_length_le (by simp; omega)] at hp
          have ek : comOk xs (.int c) = decide (c ∈ xs.map (·.1)) := by show (true && _) = _; rfl
          walk_at "go"
          refine i_d (fun q => ?_) (fun q => ?_)
          · walk_at "go"
            exact e_raise T.e_NoVersion.o (kE (by rw [ek]; exact decide_eq_false q) _ s12)
          · have hc : c ∈ xs.map (·.1) := Classical.not_not.mp q
            have k := k (by rw [ek]; exact decide_eq_true hc)
            walk_at "go"
            refine i_orX rfl hS1 s2 fun J G hG hW => ?_
            refine c_it hW (fun i acc H' => Same H2 H' ∧ acc = ((((ps.zip xs).take i).filter fun z => !decide (z.2.1 = c)).map (·.1)).map V.ref) (fun D hD => ⟨upd_free (Same.refl _) hD, rfl⟩) (fun i acc H' hi p => hG _ (s2.trans p.1)) (fun acc D2 H3 hD2 hp2 p => ?_) (fun i x acc H' H'' D2 hi hD2 hp2 p y => ?_)
            rotate_left 1
            · obtain ⟨s3, rfl⟩ := p
              obtain ⟨rfl, hx⟩ := y
              have hi' : i < ps.length := by simpa using hi
              have ex : x = .ref ps[i] := by
                rw [List.getElem?_map, List.getElem?_eq_getElem hi'] at hx
                exact (Option.some.inj hx).symm
              subst ex
              have hzz : (ps.zip xs)[i]? = some (ps[i], xs[i]) := by rw [List.getElem?_zip_eq_some]; exact ⟨List.getElem?_eq_getElem hi', List.getElem?_eq_getElem (by omega)⟩
              have hv := (pa_ (s2.trans s3) hP1).at (show i < xs.length by omega)
              have few2 : ((ps.zip xs).take i).length ≤ 1000 := by simp; omega
              refine ⟨rfl, ?_⟩
              walk_at "go"
              refine i_d (fun q => ?_) (fun q => ?_)
              rotate_left 1
              · have q : xs[i].1 = c := Classical.not_not.mp q
                refine ⟨_, hp2, s3, ?_⟩
                rw [List.take_add_one, hzz, List.filter_append, List.map_append, List.map_append]
                have e : List.filter (fun z : Addr × (Int × Option Int) => !decide (z.2.1 = c)) [(ps[i], xs[i])] = [] := by rw [List.filter_cons, if_neg (by simpa using q)]; rfl
                show _ = _ ++ List.map V.ref (List.map (·.1) (List.filter _ [(ps[i], xs[i])]))
                rw [e]; simp
              · walk_at "go"
                refine ⟨_, hp2, lt_size (by have := List.length_filter_le (fun z : Addr × (Int × Option Int) => !decide (z.2.1 = c)) ((ps.zip xs).take i); simp at *; omega), _, upd_same, upd_free s3 hD2, ?_⟩
                rw [List.take_add_one, hzz, List.filter_append, List.map_append, List.map_append]
                have e : List.filter (fun z : Addr × (Int × Option Int) => !decide (z.2.1 = c)) [(ps[i], xs[i])] = [(ps[i], xs[i])] := by rw [List.filter_cons, if_pos (by simpa using q)]; rfl
                show _ = _ ++ List.map V.ref (List.map (·.1) (List.filter _ [(ps[i], xs[i])]))
                rw [e]; rfl
            · obtain ⟨s3, rfl⟩ := p
              have s13 := s12.trans s3
              have s23 := s2.trans s3
              rw [show (ps.zip xs).take (ps.map V.ref).length = ps.zip xs from List.take_of_length_le (by simp; omega)] at hp2
              have PK := pairs_zip (pa_ s23 hP1) ((ps.zip xs).filter fun z => !decide (z.2.1 = c)) fun z hz => (List.mem_filter.mp hz).1
              rw [others_zip hlen] at PK
              generalize hkp : ((ps.zip xs).filter fun z => !decide (z.2.1 = c)).map (·.1) = kp at *
              have hVK : Valid (othersOf xs c) := g.hV.sub List.filter_sublist
              walk_at "go"
              refine ⟨b, ns, l, rfl, st_ s13 g.hB, g.n, fun p5 H5 as n5 s5 h5 a1 a2 a3 => ?_⟩
              have s35 := s23.trans s5
              walk_at "go"
              refine i_tri0 ?_
              walk_at "go"
              refine ⟨a, ps, xs, p5, as, rfl, sx_ s35 hS1, pa_ s35 hP1, g.hV, h5, a1, a3, fun p6 H6 n6 s6 h6 => ?_⟩
              have s36 := s35.trans s6
              walk_at "go"
              refine ⟨D2, kp, othersOf xs c, p5, as, rfl, .inl (slO (at_ (s5.trans s6) hp2)), pa_ (s5.trans s6) PK, hVK, at_ s6 h5, a1, a3, fun p7 H7 n7 s7 h7 => ?_⟩
              have s37 := s36.trans s7
              have h67 := at_ s7 h6
              have h57 := at_ (s6.trans s7) h5
              have hP7 := pa_ s37 hP1
              have PK7 := pa_ (s5.trans (s6.trans s7)) PK
              have ea : as = askL ns l := by
                have hlo := g.lo
                unfold lotB at hlo
                rw [Bool.and_eq_true] at hlo
                exact ask_eq a1 a2 (lotB_asc hlo.2) g.le
              walk_at "go"
              refine i_tri ⟨slO h57, slO h67, slO h7⟩ ?_
              refine l_it (walk_tri (xs := as.map V.int) (n := as.length) (by simp) (by simp) (by simp)) (fun i σ H' => (∃ y6 y7 y8 y9 y10 y11, σ = [some (.ref a), some (.ref b), some (.int l), some (.int c), some (.ref D2), some (.ref p5), y6, y7, y8, y9, y10, y11]) ∧ Same H7 H' ∧ ∀ s ∈ as.take i, toldAt xs s = toldAt (othersOf xs c) s) ⟨⟨_, _, _, _, _, _, rfl⟩, Same.refl _, by simp⟩ (fun i σ H' hi p => (Tri.mk (slO h57) (slO h67) (slO h7)).same p.2.1) (fun σ H' p => ?_) (fun i x σ H' H'' hi p y => ?_)
              · obtain ⟨⟨y6, y7, y8, y9, y10, y11, rfl⟩, s8, hal⟩ := p
                rw [List.take_length] at hal
                walk_at "go"
                have eh : harmV xs (othersOf xs c) (askL ns l) = none := by
                  rw [← ea]
                  unfold harmV
                  rw [List.find?_eq_none]
                  intro s hs
                  rw [hal s hs]; simp
                have k := k _ (s1.trans (s37.trans s8))
                rw [show toID (.int c) = c from rfl, eh] at k
                exact k
              · obtain ⟨⟨y6, y7, y8, y9, y10, y11, rfl⟩, s8, hal⟩ := p
                obtain ⟨Tp, x1, x2, x3, rfl, nT, rfl, e1, e2, e3⟩ := y
                rw [List.getElem?_map, List.getElem?_eq_getElem hi] at e1 e2 e3
                cases e1; cases e2; cases e3
                refine g_trip upd_same ?_
                have s9 : Same H' (upd H' Tp (.tup [V.int as[i], seenV ps xs as[i], seenV kp (othersOf xs c) as[i]])) := Same.new nT
                generalize upd H' Tp (.tup [V.int as[i], seenV ps xs as[i], seenV kp (othersOf xs c) as[i]]) = H9 at *
                have s79 := s8.trans s9
                walk_at "go"
                refine ⟨_, _, rfl, seen_at (pa_ s79 hP7) _, ?_⟩
                walk_at "go"
                refine ⟨_, _, rfl, seen_at (pa_ s79 PK7) _, ?_⟩
                refine o_neO (o1 := toldV xs[fi xs as[i]]?) (o2 := toldV (othersOf xs c)[fi (othersOf xs c) as[i]]?) ?_
                refine ⟨_, rfl, ?_⟩
                refine i_nd (fun q => ?_) (fun q => ?_)
                · walk_at "go"
                  refine ⟨⟨_, _, _, _, _, _, rfl⟩, s79, fun s hs => ?_⟩
                  rw [List.take_add_one, List.getElem?_eq_getElem hi] at hs
                  rcases List.mem_append.mp hs with hs | hs
                  · exact hal s hs
                  · cases List.mem_singleton.mp hs
                    exact q
                · walk_at "go"
                  have eh : harmV xs (othersOf xs c) (askL ns l) = some as[i] := by
                    rw [← ea]
                    unfold harmV
                    rw [List.find?_eq_some_iff_getElem]
                    have q : ¬ toldAt xs as[i] = toldAt (othersOf xs c) as[i] := q
                    refine ⟨by simpa using q, i, hi, rfl, fun j hj => ?_⟩
                    have := hal as[j] (List.mem_take_iff_getElem.mpr ⟨j, by omega, rfl⟩)
                    rw [this]; simp
                  have k := k _ (s1.trans (s37.trans s79))
                  rw [show toID (.int c) = c from rfl, eh] at k
                  exact k
end



section
variable {P : Program} {w : World} {K : PySem.W.Frag} {mg : Str → Option Value} {base : Heap}
def sp_mixed : Sp := fun vs H Q _ => ∃ a b : Int, vs = [.int a, .int b] ∧ ∀ r, 0 ≤ r → r < 2147483399 → Q (.int r) H
theorem ok_law_mixed (T : Txt K mg) : FnOk P w K mg base CX0 1 T.law_mixed.f T.law_mixed.fd ["cell", "turn"] (sp_mixed) := by
  refine T.law_mixed.F.ok sc_law_mixed (fun vs H Q E h => ?_) (fun cdv A outer s H vs Q E hr h => ?_)
  · obtain ⟨a, b, rfl, _⟩ := h
    rfl
  · obtain ⟨a, b, rfl, k⟩ := h
    refine ⟨_, (pss_cons (ps_set (i := 2) sc_law_mixed.nd rfl (Or.inl rfl) (pe_op op_mod (pe_op oMul (pe_op oAdd (pe_op oAdd (pe_op op_mod (pe_callTy cInt (by rfl) T.z_int (by decide +kernel) (pa_cons (pv 0) pa_nil)) pe_int) (pe_op oMul pe_int (pv 1))) pe_int) pe_int) pe_int))
    (pss_cons (ps_set (i := 2) sc_law_mixed.nd rfl (Or.inl rfl) (pe_op op_mod (pe_op oMul (pv 2) (pe_op oAdd (pe_op op_fdivW (pv 2) pe_int) pe_int)) pe_int))
    (pss_one (ps_ret (pe_op op_fdivW (pe_op op_mod (pe_op oMul (pv 2) (pe_op oAdd (pe_op op_fdivW (pv 2) pe_int) pe_int)) pe_int) pe_int))))), ?_⟩
    walk_at "go"
    refine k _ ?_ ?_ <;> omega
/-! ### the draws' object -/
/-- the draws' object: its list, the list of cells, the cells -/
structure Bg where
  hd : Addr
  g : Addr
  ns : List Int
def BagAt (K : PySem.W.Frag) (H : Hp) (B : Bg) : Prop := ∃ i big c : Int, H B.hd = some (.lst [.ref B.g, .int i, .int big, .int c]) ∧ SqL K H B.g (B.ns.map V.int) ∧ B.g ≠ B.hd ∧ B.ns.length ≤ 63 ∧ 0 ≤ i ∧ 0 ≤ big ∧ 0 ≤ c
structure Hs (K : PySem.W.Frag) (B : Bg) (H H' : Hp) : Prop where
  o : Oth B.hd H H'
  b : BagAt K H' B
theorem Hs.trans {B : Bg} {H H1 H2 : Hp} (a : Hs K B H H1) (b : Hs K B H1 H2) : Hs K B H H2 := ⟨a.o.trans b.o, b.b⟩
theorem bag_same {B : Bg} {H H' : Hp} (b : BagAt K H B) (s : Same H H') : BagAt K H' B := by
  obtain ⟨i, big, c, h1, h2, h3⟩ := b
  exact ⟨i, big, c, s _ _ h1, sl_ s h2, h3⟩
theorem Hs.of {B : Bg} {H H' : Hp} (b : BagAt K H B) (s : Same H H') : Hs K B H H' := ⟨fun c o _ h => s c o h, bag_same b s⟩
theorem Hs.sl {B : Bg} {a : Addr} {H H' : Hp} {xs : List V} (h : Hs K B H H') (n : a ≠ B.hd) (s : SqL K H a xs) : SqL K H' a xs := oth_sl h.o n s
theorem bag_lst {B : Bg} {H : Hp} (b : BagAt K H B) : ∃ xs, H B.hd = some (.lst xs) := by
  obtain ⟨i, big, c, h1, h2, h3⟩ := b
  exact ⟨_, h1⟩
theorem Hs.st {B : Bg} {a : Addr} {H H' : Hp} {xs : List V} (h : Hs K B H H') (b : BagAt K H B) (s : SqT K H a xs) : SqT K H' a xs := by
  obtain ⟨ys, q⟩ := bag_lst b
  exact oth_st h.o q s
theorem Hs.ls {B : Bg} {a : Addr} {H H' : Hp} {xs : List V} (h : Hs K B H H') (n : a ≠ B.hd) (s : H a = some (.lst xs)) : H' a = some (.lst xs) := h.o _ _ n s
theorem new_ne {B : Bg} {p : Addr} {H : Hp} (b : BagAt K H B) (n : H p = none) : p ≠ B.hd := by
  obtain ⟨xs, h⟩ := bag_lst b
  exact (ne_of_none h n).symm
theorem Hs.free {B : Bg} {p : Addr} {H H' : Hp} (h : Hs K B H H') (n : H' p = none) : H p = none := by
  cases e : H p with
  | none => rfl
  | some o =>
    by_cases z : p = B.hd
    · obtain ⟨xs, q⟩ := bag_lst h.b
      rw [← z, n] at q; cases q
    · rw [h.o p o z e] at n; cases n
/-- an object of one's own, not there at H, may change -/
theorem Hs.mut {B : Bg} {f : Addr} {H H3 H4 : Hp} (h : Hs K B H H3) (b : BagAt K H B) (n : H f = none) (o : Oth f H3 H4) : Hs K B H H4 := by
  refine ⟨fun c u nc z => o c u (ne_of_none z n) (h.o c u nc z), ?_⟩
  obtain ⟨i, big, c, h1, h2, h3⟩ := b
  obtain ⟨i', big', c', g1, g2, g3⟩ := h.b
  refine ⟨i', big', c', o _ _ (ne_of_none h1 n) g1, ?_, g3⟩
  rcases h2 with (s | ⟨u, s⟩) | s
  · exact oth_sl o (ne_of_none s n) g2
  · exact oth_sl o (ne_of_none s n) g2
  · exact .inr s
def sp_draw (K : PySem.W.Frag) : Sp := fun vs H Q _ => ∃ (B : Bg) (m : Int), vs = [.ref B.hd, .int m] ∧ BagAt K H B ∧ 0 < m ∧ m < 2 ^ 100 ∧ ∀ r H', 0 ≤ r → r < m → Hs K B H H' → Q (.int r) H'
theorem ok_law_draw (T : Txt K mg) : FnOk P w K mg base CX0 2 T.law_draw.f T.law_draw.fd ["bag", "many"] (sp_draw K) := by
  refine T.law_draw.F.ok sc_law_draw (fun vs H Q E h => ?_) (fun cdv A outer s H vs Q E hr h => ?_)
  · obtain ⟨a, b, rfl, _⟩ := h
    rfl
  · obtain ⟨⟨hd, g, ns⟩, m, rfl, ⟨i, big, c, h1, h2, h3, h4, h5, h6, h7⟩, hm, hM, k⟩ := h
    dsimp only at h1 h2 h3 h4 h5 h6 h7 k ⊢
    refine ⟨_, (pss_cons (ps_asg (pe_op oAdd (pe_ix (ixLT (K := K)) (pv 0) pe_int (fun _ _ => rfl)) pe_int) (pg_sub (pv 0) pe_int set_list))
    (pss_cons (ps_if (pt_cmpR op_gt (pe_ix (ixLT (K := K)) (pv 0) pe_int (fun _ _ => rfl)) pe_int (nomark _)) (pss_cons (ps_set (i := 2) sc_law_draw.nd rfl (Or.inl rfl) (pe_op op_mod (pe_callTy cInt (by rfl) T.z_int (by decide +kernel) (pa_cons (pe_ix (ixLT (K := K)) (pv 0) pe_int (fun _ _ => rfl)) pa_nil)) (pv 1)))
    (pss_cons (ps_asg (pe_op op_fdivW (pe_ix (ixLT (K := K)) (pv 0) pe_int (fun _ _ => rfl)) (pv 1)) (pg_sub (pv 0) pe_int set_list))
    (pss_one (ps_ret (pv 2))))) pss_nil)
    (pss_cons (ps_set (i := 3) sc_law_draw.nd rfl (Or.inl rfl) (pe_ix (ixLT (K := K)) (pv 0) pe_int (fun _ _ => rfl)))
    (pss_cons (ps_if (pt_cmpR (oEq (K := K) hr.units) (pe_callB (cLen (K := K)) (by rfl) T.z_len PySem.boot_len (pa_cons (pv 3) pa_nil)) pe_int (nomark _)) (pss_one (ps_ret (pe_op op_mod (pe_call (ok_law_mixed T) (hr.mono (by decide)) (by rfl) T.law_mixed.g T.law_mixed.F.kp T.law_mixed.b .nil pass0 (pa_cons pe_int (pa_cons (pe_ix (ixLT (K := K)) (pv 0) pe_int (fun _ _ => rfl)) pa_nil))) (pv 1)))) pss_nil)
    (pss_cons (ps_set (i := 4) sc_law_draw.nd rfl (Or.inl rfl) (pe_ix (ixLT (K := K)) (pv 0) pe_int (fun _ _ => rfl)))
    (pss_cons (ps_asg (pe_op oAdd (pv 4) pe_int) (pg_sub (pv 0) pe_int set_list))
    (pss_cons (ps_set (i := 5) sc_law_draw.nd rfl (Or.inl rfl) (pe_ix (ixLT (K := K)) (pv 3) (pe_op op_mod (pe_callTy cInt (by rfl) T.z_int (by decide +kernel) (pa_cons (pv 4) pa_nil)) (pe_callB (cLen (K := K)) (by rfl) T.z_len PySem.boot_len (pa_cons (pv 3) pa_nil))) (fun _ _ => rfl)))
    (pss_cons (ps_if (PW.pt (pw_and (pt_cmpR oLt (pv 4) (pe_callB (cLen (K := K)) (by rfl) T.z_len PySem.boot_len (pa_cons (pv 3) pa_nil)) (nomark _)) (pw_and1 (pt_cmpR op_ge (pe_callB cAbs (by rfl) T.z_abs (by decide +kernel) (pa_cons (pv 5) pa_nil)) (pe_op op_pow pe_int pe_int) (nomark _))))) (pss_cons (ps_asg (pe_op op_fdivW (pe_callB cAbs (by rfl) T.z_abs (by decide +kernel) (pa_cons (pv 5) pa_nil)) (pv 1)) (pg_sub (pv 0) pe_int set_list))
    (pss_one (ps_ret (pe_op op_mod (pe_callTy cInt (by rfl) T.z_int (by decide +kernel) (pa_cons (pe_callB cAbs (by rfl) T.z_abs (by decide +kernel) (pa_cons (pv 5) pa_nil)) pa_nil)) (pv 1))))) pss_nil)
    (pss_one (ps_ret (pe_op op_mod (pe_call (ok_law_mixed T) (hr.mono (by decide)) (by rfl) T.law_mixed.g T.law_mixed.F.kp T.law_mixed.b .nil pass0 (pa_cons (pv 5) (pa_cons (pe_ix (ixLT (K := K)) (pv 0) pe_int (fun _ _ => rfl)) pa_nil))) (pv 1)))))))))))), ?_⟩
    walk_at "go"
    intro H1 o1 e1
    have g1 : SqL K H1 g (ns.map V.int) := oth_sl o1 h3 h2
    walk_at "go"
    refine i_d (fun hb => ?_) (fun hb => ?_)
    · walk_at "go"
      intro H2 o2 e2
      walk_at "go"
      exact k _ _ (Int.emod_nonneg _ (by omega)) (Int.emod_lt_of_pos _ hm) ⟨o1.trans o2, i, big / m, c + 1, e2, oth_sl o2 h3 g1, h3, h4, h5, Int.ediv_nonneg h6 (by omega), by omega⟩
    · walk_at "go"
      refine i_d (fun hn => ?_) (fun hn => ?_)
      · walk_at "go"
        refine ⟨_, _, rfl, fun r hr0 hr1 => ?_⟩
        walk_at "go"
        exact k _ _ (Int.emod_nonneg _ (by omega)) (Int.emod_lt_of_pos _ hm) ⟨o1, i, big, c + 1, e1, g1, h3, h4, h5, h6, by omega⟩
      · walk_at "go"
        intro H2 o2 e2
        have g2 : SqL K H2 g (ns.map V.int) := oth_sl o2 h3 g1
        have hl : 0 < (ns.length : Int) := by omega
        walk_at "go"
        have hz : 0 ≤ i % (ns.length : Int) ∧ i % (ns.length : Int) < ns.length := ⟨Int.emod_nonneg _ (by omega), Int.emod_lt_of_pos _ hl⟩
        refine o_ixL g2 (atI_in (j := (i % (ns.length : Int)).toNat) (by omega) (by rw [List.getElem?_map, List.getElem?_eq_getElem (by omega)]; rfl)) ?_
        generalize ns[(i % (ns.length : Int)).toNat]'_ = cell
        walk_at "go"
        refine i_d (fun hi => ?_) (fun hi => ?_)
        · walk_at "go"
          refine i_d (fun hc => ?_) (fun hc => ?_)
          · walk_at "go"
            intro H3 o3 e3
            walk_at "go"
            exact k _ _ (Int.emod_nonneg _ (by omega)) (Int.emod_lt_of_pos _ hm) ⟨o1.trans (o2.trans o3), i + 1, (if cell < 0 then -cell else cell) / m, c + 1, e3, oth_sl o3 h3 g2, h3, h4, by omega, Int.ediv_nonneg (by split <;> omega) (by omega), by omega⟩
          · walk_at "go"
            refine ⟨_, _, rfl, fun r hr0 hr1 => ?_⟩
            walk_at "go"
            exact k _ _ (Int.emod_nonneg _ (by omega)) (Int.emod_lt_of_pos _ hm) ⟨o1.trans o2, i + 1, big, c + 1, e2, g2, h3, h4, by omega, h6, by omega⟩
        · walk_at "go"
          refine ⟨_, _, rfl, fun r hr0 hr1 => ?_⟩
          walk_at "go"
          exact k _ _ (Int.emod_nonneg _ (by omega)) (Int.emod_lt_of_pos _ hm) ⟨o1.trans o2, i + 1, big, c + 1, e2, g2, h3, h4, by omega, h6, by omega⟩
def sp_bag (K : PySem.W.Frag) : Sp := fun vs H Q _ => ∃ a, ∃ ns : List Int, vs = [.ref a] ∧ SqL K H a (ns.map V.int) ∧ ns.length ≤ 63 ∧ ∀ (B : Bg) H', H B.hd = none → Same H H' → BagAt K H' B → Q (.ref B.hd) H'
theorem ok_law_bag (T : Txt K mg) : FnOk P w K mg base CX0 1 T.law_bag.f T.law_bag.fd ["script"] (sp_bag K) := by
  refine T.law_bag.F.ok sc_law_bag (fun vs H Q E h => ?_) (fun cdv A outer s H vs Q E hr h => ?_)
  · obtain ⟨a, ns, rfl, _⟩ := h
    rfl
  · obtain ⟨a, ns, rfl, hS, hl, k⟩ := h
    refine ⟨_, (pss_one (ps_ret (pe_lst (pa_cons (pe_lc (own := [("cell", 1)]) rfl sc_law_bag.nd (piL (K := K) (pe_slice (slL (K := K)) (pv 0) po_none (po_some pe_int))) (blkOk_by (N := n_law_bag) (sc := defScope s_law_bag) (by decide +kernel)) (fun _ _ _ _ _ => (pg_name (i := 1) sc_law_bag.nd rfl (Or.inl rfl))) (fun _ _ _ _ _ => pts_nil) (fun _ _ _ _ _ => (pe_callTy cInt (by rfl) T.z_int (by decide +kernel) (pa_cons (pv 1) pa_nil)))) (pa_cons pe_int (pa_cons pe_int (pa_cons pe_int pa_nil))))))), ?_⟩
    walk_at "go"
    refine n_new0 fun p1 H1 n1 s1 h1 => ?_
    obtain ⟨ms, e1, e2, _⟩ := cut_map (f := V.int) ns none (some 63)
    rw [e1] at h1
    refine i_lst (slO h1) ?_
    refine c_lst (xs := ms.map V.int) (fun i acc H' => Same H1 H' ∧ acc = (ms.take i).map V.int) (fun D hD => ⟨upd_free (Same.refl _) hD, rfl⟩) (fun i acc H' hi p => slO (at_ p.1 h1)) (fun acc D H2 hD hp p => ?_) (fun _ => rfl) (fun i x acc H' D hx hD hp p => ?_)
    · obtain ⟨s2, rfl⟩ := p
      rw [List.length_map, List.take_length] at hp
      walk_at "go"
      refine n_new (le_size (by simp)) fun p3 H3 n3 s3 h3 => ?_
      have ss := s1.trans s2
      refine k ⟨p3, D, ms⟩ H3 (free_ ss n3) (ss.trans s3) ⟨0, 0, 0, h3, slO (at_ s3 hp), ne_new hp n3, by show ms.length ≤ 63; omega, by omega, by omega, by omega⟩
    · obtain ⟨s2, rfl⟩ := p
      have hi : i < ms.length := by
        have := (List.getElem?_eq_some_iff.mp hx).1
        simpa using this
      have ex : x = .int ms[i] := by
        rw [List.getElem?_map, List.getElem?_eq_getElem hi] at hx
        exact (Option.some.inj hx).symm
      subst ex
      walk_at "go"
      refine ⟨_, hp, lt_size (by simp; omega), _, upd_same, upd_free s2 hD, ?_⟩
      rw [List.take_add_one, List.getElem?_eq_getElem hi, List.map_append]; rfl
end



section
variable {P : Program} {w : World} {K : PySem.W.Frag} {mg : Str → Option Value} {base : Heap}
theorem upd_oth {D : Addr} {H : Hp} {o : HO} : Oth D H (upd H D o) := fun b u ne h => by rw [upd_ne ne]; exact h
theorem markD_int {z : Int} (h : -1000000000000000000 ≤ z ∧ z ≤ 1000000000000000000) : markD (markP (some z)) = true := by
  show (decide _ && decide _) = true
  rw [decide_eq_true h.1, decide_eq_true h.2]; rfl
theorem Hs.pa {B : Bg} {H H' : Hp} {ps : List Addr} {vs : List (Int × Option Int)} (h : Hs K B H H') (b : BagAt K H B) (p : PairsAt K H ps vs) : PairsAt K H' ps vs := ⟨p.1, fun i q v a c => h.st b (p.2 i q v a c)⟩
def Vers0 (K : PySem.W.Frag) (H : Hp) (ps : List Addr) (xs : List (Int × Option Int)) (i : Nat) : Prop := PairsAt K H ps xs ∧ Valid xs ∧ xs.length ≤ i ∧ 0 ≤ top xs ∧ top xs ≤ (i : Nat) * 10000000000000000
theorem Valid.tp {xs : List (Int × Option Int)} (hV : Valid xs) {v : Int × Option Int} (h : v ∈ xs) : v.1 ≤ top xs := by
  cases xs with
  | nil => cases h
  | cons z r =>
    rcases List.mem_cons.mp h with e | e
    · rw [e]; exact Int.le_refl _
    · exact Int.le_of_lt ((List.pairwise_cons.mp hV.desc).1 v e)
def shV (d : Int) (v : Int × Option Int) : Int × Option Int := (v.1 + 1000000000000000000 - d, v.2)
theorem Valid.sh {xs : List (Int × Option Int)} (hV : Valid xs) (h : top xs ≤ GC) : Valid (xs.map (shV (top xs))) := by
  refine ⟨List.pairwise_map.mpr (hV.desc.imp fun {a b} q => by show b.1 + 1000000000000000000 - top xs < a.1 + 1000000000000000000 - top xs; omega), fun v hv => ?_, fun v hv => ?_, by rw [List.length_map]; exact hV.few⟩
  · obtain ⟨u, hu, e⟩ := List.mem_map.mp hv
    subst e
    have h1 := hV.comm u hu
    have h2 := hV.tp hu
    show 1 ≤ u.1 + 1000000000000000000 - top xs ∧ u.1 + 1000000000000000000 - top xs ≤ 1000000000000000000
    have h : top xs ≤ 1000000000000000000 := h
    omega
  · obtain ⟨u, hu, e⟩ := List.mem_map.mp hv
    subst e
    exact hV.mark u hu
theorem pairs_app {H : Hp} {ps : List Addr} {vs : List (Int × Option Int)} {p : Addr} {v : Int × Option Int} (h : PairsAt K H ps vs) (hp : SqT K H p [.int v.1, markV v.2]) : PairsAt K H (ps ++ [p]) (vs ++ [v]) := by
  refine ⟨by simp [h.1], fun i q u a b => ?_⟩
  have hl := h.1
  rcases Nat.lt_or_ge i ps.length with hi | hi
  · rw [List.getElem?_append_left hi] at a
    rw [List.getElem?_append_left (by omega)] at b
    exact h.2 i q u a b
  · rw [List.getElem?_append_right hi] at a
    rw [List.getElem?_append_right (by omega)] at b
    rw [hl] at a
    cases e : i - vs.length with
    | zero =>
      rw [e] at a b
      cases a; cases b
      exact hp
    | succ n => rw [e] at a; cases a
def sp_versions (K : PySem.W.Frag) : Sp := fun vs H Q _ => ∃ B : Bg, vs = [.ref B.hd] ∧ BagAt K H B ∧ ∀ p (ps : List Addr) xs H', Hs K B H H' → H p = none → H' p = some (.lst (ps.map V.ref)) → PairsAt K H' ps xs → Valid xs → xs.length ≤ 10 → 0 ≤ top xs → top xs ≤ GC → Q (.ref p) H'
theorem ok_law_versions (T : Txt K mg) : FnOk P w K mg base CX0 3 T.law_versions.f T.law_versions.fd ["bag"] (sp_versions K) := by
  refine T.law_versions.F.ok sc_law_versions (fun vs H Q E h => ?_) (fun cdv A outer s H vs Q E hr h => ?_)
  · obtain ⟨B, rfl, _⟩ := h
    rfl
  · obtain ⟨B, rfl, b, k⟩ := h
    refine ⟨_, (pss_cons (ps_set (i := 1) sc_law_versions.nd rfl (Or.inl rfl) (pe_lst pa_nil))
    (pss_cons (ps_set (i := 2) sc_law_versions.nd rfl (Or.inr rfl) pe_int)
    (pss_cons (ps_for PassesOwn.never rfl (pi_range1 (by rfl) T.z_range (pa_cons (pe_call (ok_law_draw T) (hr.mono (by decide)) (by rfl) T.law_draw.g T.law_draw.F.kp T.law_draw.b .nil pass0 (pa_cons (pv 0) (pa_cons (pe_ix (ixLT (K := K)) (pe_lst (pa_cons pe_int (pa_cons pe_int (pa_cons pe_int pa_nil)))) (pe_call (ok_law_draw T) (hr.mono (by decide)) (by rfl) T.law_draw.g T.law_draw.F.kp T.law_draw.b .nil pass0 (pa_cons (pv 0) (pa_cons pe_int pa_nil))) (fun _ _ => rfl)) pa_nil))) pa_nil)) (pg_name (i := 3) sc_law_versions.nd rfl (Or.inl rfl))
      (pss_cons (ps_set (i := 2) sc_law_versions.nd rfl (Or.inr rfl) (pe_op oAdd (pe_op oAdd (pv 2) pe_int) (pe_call (ok_law_draw T) (hr.mono (by decide)) (by rfl) T.law_draw.g T.law_draw.F.kp T.law_draw.b .nil pass0 (pa_cons (pv 0) (pa_cons (pe_ix (ixLT (K := K)) (pe_lst (pa_cons pe_int (pa_cons pe_int (pa_cons (pe_op op_pow pe_int pe_int) pa_nil)))) (pe_call (ok_law_draw T) (hr.mono (by decide)) (by rfl) T.law_draw.g T.law_draw.F.kp T.law_draw.b .nil pass0 (pa_cons (pv 0) (pa_cons pe_int pa_nil))) (fun _ _ => rfl)) pa_nil)))))
    (pss_cons (ps_set (i := 4) sc_law_versions.nd rfl (Or.inl rfl) (pe_ix (ixLT (K := K)) (pe_lst (pa_cons pe_non (pa_cons pe_int (pa_cons pe_int (pa_cons (pe_op op_pow pe_int pe_int) (pa_cons (pe_un un_neg (pe_op op_pow pe_int pe_int)) pa_nil)))))) (pe_call (ok_law_draw T) (hr.mono (by decide)) (by rfl) T.law_draw.g T.law_draw.F.kp T.law_draw.b .nil pass0 (pa_cons (pv 0) (pa_cons pe_int pa_nil))) (fun _ _ => rfl)))
    (pss_one (ps_set (i := 1) sc_law_versions.nd rfl (Or.inl rfl) (pe_op oAdd (pe_lst (pa_cons (pe_tup (pa_cons (pv 2) (pa_cons (pv 4) pa_nil))) pa_nil)) (pv 1)))))))
    (Evl.pss_cut (ps_if (PW.pt (pw_and (pt_cmpR op_gt (pe_callB (cLen (K := K)) (by rfl) T.z_len PySem.boot_len (pa_cons (pv 1) pa_nil)) pe_int (nomark _)) (pw_and1 (pt_cmpR (oEq (K := K) hr.units) (pe_call (ok_law_draw T) (hr.mono (by decide)) (by rfl) T.law_draw.g T.law_draw.F.kp T.law_draw.b .nil pass0 (pa_cons (pv 0) (pa_cons pe_int pa_nil))) pe_int (nomark _))))) (pss_one (ps_setLc (i := 1) (own := [("pair", 5)]) rfl sc_law_versions.nd rfl rfl (sw_true rfl rfl rfl (by decide +kernel)) (piL (K := K) (pv 1)) (blkOk_by (N := n_law_versions) (sc := defScope s_law_versions) (by decide +kernel)) (fun _ _ _ _ _ => (pg_name (i := 5) sc_law_versions.nd rfl (Or.inl rfl))) (fun _ _ _ _ _ => pts_nil) (fun _ _ _ _ _ => (pe_tup (pa_cons (pe_op op_sub (pe_op oAdd (pe_ix (ixLT (K := K)) (pv 5) pe_int (fun _ _ => rfl)) (pe_op op_pow pe_int pe_int)) (pv 2)) (pa_cons (pe_ix (ixLT (K := K)) (pv 5) pe_int (fun _ _ => rfl)) pa_nil)))))) pss_nil)
    (pss_one (ps_ret (pv 1))))))), ?_⟩
    walk_at "go"
    refine n_new (le_size (by simp)) fun p5 H5 n5 s5 h5 => ?_
    have b5 := bag_same b s5
    have hh5 := Hs.of b s5
    walk_at "go"
    refine n_new (le_size (by simp)) fun p2 H2 n2 s2 h2 => ?_
    walk_at "go"
    refine ⟨B, _, rfl, bag_same b5 s2, by omega, by omega, fun r3 H3 r30 r31 hs3 => ?_⟩
    have h3 := hs3.ls (new_ne b5 n2) h2
    have hh3 := hh5.trans ((Hs.of b5 s2).trans hs3)
    have h53 := ((Hs.of b5 s2).trans hs3).ls (new_ne b n5) h5
    obtain ⟨M, hM, m0, m1⟩ : ∃ M : Int, atI [V.int 3, V.int 6, V.int 11] r3 = some (.int M) ∧ 0 < M ∧ M ≤ 11 := by
      rcases (show r3 = 0 ∨ r3 = 1 ∨ r3 = 2 by omega) with e | e | e <;> subst e <;> exact ⟨_, rfl, by decide, by decide⟩
    refine o_ixA h3 hM ?_
    walk_at "go"
    refine ⟨B, M, rfl, hs3.b, m0, by omega, fun r4 H4 r40 r41 hs4 => ?_⟩
    have hh4 := hh3.trans hs4
    have h54 := hs4.ls (new_ne b n5) h53
    walk_at "go"
    refine i_rng r4.toNat rfl (by omega) (by omega) ?_
    refine l_rng (fun i σ H' => Hs K B H H' ∧ ∃ (f : Addr) (ps : List Addr) (xs : List (Int × Option Int)) (y y2 y3 : Option V), σ = [some (.ref B.hd), some (.ref f), some (.int (top xs)), y, y2, y3] ∧ H f = none ∧ H' f = some (.lst (ps.map V.ref)) ∧ Vers0 K H' ps xs i) ⟨hh4, p5, [], [], none, none, none, rfl, n5, h54, ⟨rfl, fun i p v a c => by simp at a⟩, ⟨List.Pairwise.nil, fun v hv => (nomatch hv), fun v hv => (nomatch hv), by simp⟩, by simp, by decide, by decide⟩ (fun σ H' p => ?_) (fun i σ H' hi p => ?_)
    · obtain ⟨hh, f, ps, xs, y, y2, y3, rfl, nf, hf, V1, V2, V3, V4, V5⟩ := p
      have tg : top xs ≤ GC := by show _ ≤ (1000000000000000000 : Int); omega
      have fne : f ≠ B.hd := new_ne b nf
      have hlen : ps.length = xs.length := V1.1
      refine s_cut (fun σ2 H2 => ∃ p ps2 xs2 y y2 y3, σ2 = [some (.ref B.hd), some (.ref p), some (.int (top xs)), y, y2, y3] ∧ Hs K B H H2 ∧ H p = none ∧ H2 p = some (.lst (ps2.map V.ref)) ∧ PairsAt K H2 ps2 xs2 ∧ Valid xs2 ∧ xs2.length ≤ 10 ∧ 0 ≤ top xs2 ∧ top xs2 ≤ GC) ?_ ?_
      · have fin : ∀ H2 y y2 y3, Hs K B H' H2 → ∃ p ps2 xs2 y' y2' y3', ([some (.ref B.hd), some (.ref f), some (.int (top xs)), y, y2, y3] : L2.St) = [some (.ref B.hd), some (.ref p), some (.int (top xs)), y', y2', y3'] ∧ Hs K B H H2 ∧ H p = none ∧ H2 p = some (.lst (ps2.map V.ref)) ∧ PairsAt K H2 ps2 xs2 ∧ Valid xs2 ∧ xs2.length ≤ 10 ∧ 0 ≤ top xs2 ∧ top xs2 ≤ GC := fun H2 y y2 y3 h2 =>
          ⟨f, ps, xs, y, y2, y3, rfl, hh.trans h2, nf, h2.ls fne hf, h2.pa hh.b V1, V2, by omega, V4, tg⟩
        walk_at "go"
        refine i_d (fun q0 => ?_) (fun q0 => ?_)
        · walk_at "go"
          refine ⟨B, _, rfl, hh.b, by omega, by omega, fun r9 H9 r90 r91 hs9 => ?_⟩
          walk_at "go"
          refine i_d (fun q1 => ?_) (fun q1 => ?_)
          · have hf9 := hs9.ls fne hf
            have V19 := hs9.pa hh.b V1
            have few := V2.few
            walk_at "go"
            refine i_lst (slO hf9) ?_
            refine c_it walk_list (fun i acc H2 => Same H9 H2 ∧ ∃ qs : List Addr, acc = qs.map V.ref ∧ PairsAt K H2 qs ((xs.take i).map (shV (top xs)))) (fun D hD => ⟨upd_free (Same.refl _) hD, [], rfl, rfl, fun i p v a c => by simp at a⟩) (fun i acc H2 hi p => slO (at_ p.1 hf9)) (fun acc D H2 hD hp p => ?_) (fun i x acc H2 H3 D hi hD hp p y => ?_)
            · obtain ⟨s2, qs, rfl, hq⟩ := p
              rw [show xs.take (ps.map V.ref).length = xs from List.take_of_length_le (by simp; omega)] at hq
              walk_at "go"
              have hh9 := hh.trans hs9
              have t0 : 0 ≤ top (xs.map (shV (top xs))) ∧ top (xs.map (shV (top xs))) ≤ GC := by
                cases xs with
                | nil => exact ⟨by decide, by decide⟩
                | cons v r =>
                  show 0 ≤ v.1 + 1000000000000000000 - v.1 ∧ v.1 + 1000000000000000000 - v.1 ≤ (1000000000000000000 : Int)
                  omega
              exact ⟨D, qs, _, _, _, _, rfl, hh9.trans (Hs.of hs9.b s2), hh9.free hD, hp, hq, V2.sh tg, by rw [List.length_map]; omega, t0.1, t0.2⟩
            · obtain ⟨s2, qs, rfl, hq⟩ := p
              obtain ⟨rfl, hx⟩ := y
              have hi' : i < ps.length := by simpa using hi
              have ex : x = .ref ps[i] := by
                rw [List.getElem?_map, List.getElem?_eq_getElem hi'] at hx
                exact (Option.some.inj hx).symm
              subst ex
              have hv := (pa_ s2 V19).at (show i < xs.length by omega)
              have lq := hq.1
              rw [List.length_map, List.length_take] at lq
              refine ⟨rfl, ?_⟩
              walk_at "go"
              refine n_new (le_size (by simp)) fun p4 H4 n4 s4 h4 => ?_
              have hp4 := at_ s4 hp
              have ne : D ≠ p4 := ne_new hp n4
              walk_at "go"
              refine ⟨_, hp4, lt_size (by simp; omega), _, upd_same, upd_free (s2.trans s4) hD, qs ++ [p4], by rw [List.map_append]; rfl, ?_⟩
              rw [List.take_add_one, List.getElem?_eq_getElem (show i < xs.length by omega), List.map_append]
              refine pairs_app ⟨hq.1, fun j u v a b => oth_st upd_oth hp4 (st_ s4 (hq.2 j u v a b))⟩ ?_
              exact oth_st upd_oth hp4 (stO h4)
          · walk_at "go"
            exact fin _ _ _ _ hs9
        · walk_at "go"
          exact fin _ _ _ _ ⟨fun _ _ _ h => h, hh.b⟩
      · rintro σ2 H7 ⟨p, ps2, xs2, y, y2, y3, rfl, hhz, np, hp, w1, w2, w3, w4, w5⟩
        walk_at "go"
        exact k p ps2 xs2 H7 hhz np hp w1 w2 w3 w4 w5
    · obtain ⟨hh, f, ps, xs, y, y2, y3, rfl, nf, hf, V1, V2, V3, V4, V5⟩ := p
      have fne : f ≠ B.hd := new_ne b nf
      walk_at "go"
      refine n_new (le_size (by simp)) fun p6 H6 n6 s6 h6 => ?_
      have b6 := bag_same hh.b s6
      walk_at "go"
      refine ⟨B, _, rfl, b6, by omega, by omega, fun r6 H7 r60 r61 hs6 => ?_⟩
      have h7 := hs6.ls (new_ne hh.b n6) h6
      obtain ⟨M2, hM2, n0, n1⟩ : ∃ M : Int, atI [V.int 1, V.int 3, V.int 10000000000000000] r6 = some (.int M) ∧ 0 < M ∧ M ≤ 10000000000000000 := by
        rcases (show r6 = 0 ∨ r6 = 1 ∨ r6 = 2 by omega) with e | e | e <;> subst e <;> exact ⟨_, rfl, by decide, by decide⟩
      refine o_ixA h7 hM2 ?_
      walk_at "go"
      refine ⟨B, M2, rfl, hs6.b, n0, by omega, fun r8 H8 r80 r81 hs8 => ?_⟩
      have hsA := (Hs.of hh.b s6).trans (hs6.trans hs8)
      obtain ⟨c, hc⟩ : ∃ c, top xs + 1 + r8 = c := ⟨_, rfl⟩
      have c1 : top xs < c := by omega
      have c2 : c ≤ top xs + 10000000000000000 := by omega
      walk_at "go"
      rw [hc]
      refine n_new (le_size (by simp)) fun p7 H9 n7 s7 h7 => ?_
      have b9 := bag_same hs8.b s7
      walk_at "go"
      refine ⟨B, _, rfl, b9, by omega, by omega, fun r9 H10 r90 r91 hs9 => ?_⟩
      have h10 := hs9.ls (new_ne hs8.b n7) h7
      obtain ⟨m, hm1, hm⟩ : ∃ m : Option Int, atI [V.non, V.int 0, V.int 7, V.int 1000000000000000000, V.int (-1000000000000000000)] r9 = some (markV m) ∧ markD (markP m) = true := by
        rcases (show r9 = 0 ∨ r9 = 1 ∨ r9 = 2 ∨ r9 = 3 ∨ r9 = 4 by omega) with e | e | e | e | e <;> subst e
        · exact ⟨none, rfl, rfl⟩
        · exact ⟨some 0, rfl, rfl⟩
        · exact ⟨some 7, rfl, rfl⟩
        · exact ⟨some 1000000000000000000, rfl, rfl⟩
        · exact ⟨some (-1000000000000000000), rfl, rfl⟩
      refine o_ixA h10 hm1 ?_
      have hsD := hsA.trans ((Hs.of hs8.b s7).trans hs9)
      have hh7 := hh.trans hsD
      have hf7 := hsD.ls fne hf
      have V17 := hsD.pa hh.b V1
      walk_at "go"
      refine n_new (le_size (by simp)) fun p8 H8x n8 s8 h8 => ?_
      walk_at "go"
      refine n_new (le_size (by simp)) fun p9 H9 n9 s9 h9 => ?_
      have hf9 := at_ s9 (at_ s8 hf7)
      have hlen : ps.length < 1000 := by have := V1.1; omega
      walk_at "go"
      refine o_cat h9 hf9 (by simp; omega) (n_new0 fun q Hq nq sq hq => ?_)
      have hhq := hh7.trans (Hs.of hh7.b (s8.trans (s9.trans sq)))
      walk_at "go"
      have e1 : c = top ((c, m) :: xs) := rfl
      have vd : Valid ((c, m) :: xs) := by
        refine ⟨List.pairwise_cons.mpr ⟨fun v hv => ?_, V2.desc⟩, fun v hv => ?_, fun v hv => ?_, by simp; omega⟩
        · have := V2.tp hv
          show v.1 < c
          omega
        · rcases List.mem_cons.mp hv with e | e
          · subst e
            show 1 ≤ c ∧ c ≤ GC
            exact ⟨by omega, by show c ≤ 1000000000000000000; omega⟩
          · exact V2.comm v e
        · rcases List.mem_cons.mp hv with e | e
          · subst e; exact hm
          · exact V2.mark v e
      refine ⟨hhq, q, p8 :: ps, (c, m) :: xs, _, _, _, rfl, (hh7.trans (Hs.of hh7.b (s8.trans s9))).free nq, hq, ⟨?_, vd, by simp; omega, by show 0 ≤ c; omega, by show c ≤ _; omega⟩⟩
      refine ⟨by simp [V1.1], fun j p v e1 e2 => ?_⟩
      cases j with
      | zero =>
        have ep : p8 = p := Option.some.inj e1
        have ev : (c, m) = v := Option.some.inj e2
        subst ep ev
        exact stO (at_ sq (at_ s9 h8))
      | succ j => exact st_ (s8.trans (s9.trans sq)) (V17.2 j p v e1 e2)
end



section
variable {P : Program} {w : World} {K : PySem.W.Frag} {mg : Str → Option Value} {base : Heap}
theorem lt_of_sorted : ∀ {ns : List Int}, ns.Pairwise (· ≤ ·) → ns.Nodup → ns.Pairwise (· < ·)
  | [], _, _ => .nil
  | a :: r, h1, h2 => by
    obtain ⟨a1, a2⟩ := List.pairwise_cons.mp h1
    obtain ⟨b1, b2⟩ := List.nodup_cons.mp h2
    exact List.pairwise_cons.mpr ⟨fun z hz => by
      have h3 := a1 z hz
      have h4 : a ≠ z := fun e => b1 (e ▸ hz)
      omega, lt_of_sorted a2 b2⟩
def sp_open (K : PySem.W.Frag) : Sp := fun vs H Q _ => ∃ (B : Bg) (a : Addr) (ps : List Addr) (xs : List (Int × Option Int)) (l : Int), vs = [.ref B.hd, .ref a, .int l] ∧ BagAt K H B ∧ SqL K H a (ps.map V.ref) ∧ a ≠ B.hd ∧ PairsAt K H ps xs ∧ Valid xs ∧ 0 ≤ l ∧ l ≤ 2000000000000000000 ∧
  ∀ p (ns : List Int) H', Hs K B H H' → H p = none → H' p = some (.tup (ns.map V.int)) → ns.Pairwise (· < ·) → (∀ z ∈ ns, 0 ≤ z ∧ z ≤ l) → ns.length ≤ 8 → Q (.ref p) H'
theorem ok_law_open (T : Txt K mg) : FnOk P w K mg base CX0 3 T.law_open.f T.law_open.fd ["bag", "versions", "last"] (sp_open K) := by
  refine T.law_open.F.ok sc_law_open (fun vs H Q E h => ?_) (fun cdv A outer s H vs Q E hr h => ?_)
  · obtain ⟨B, a, ps, xs, l, rfl, _⟩ := h
    rfl
  · obtain ⟨B, a, ps, xs, l, rfl, b, hS, ha, hP, hV, l0, l1, k⟩ := h
    refine ⟨_, (pss_cons (ps_set (i := 3) sc_law_open.nd rfl (Or.inl rfl) (pe_lst pa_nil))
    (pss_cons (ps_for PassesOwn.never rfl (pi_range1 (by rfl) T.z_range (pa_cons (pe_call (ok_law_draw T) (hr.mono (by decide)) (by rfl) T.law_draw.g T.law_draw.F.kp T.law_draw.b .nil pass0 (pa_cons (pv 0) (pa_cons pe_int pa_nil))) pa_nil)) (pg_name (i := 4) sc_law_open.nd rfl (Or.inl rfl))
      (pss_cons (ps_set (i := 5) sc_law_open.nd rfl (Or.inl rfl) (pe_call (ok_law_draw T) (hr.mono (by decide)) (by rfl) T.law_draw.g T.law_draw.F.kp T.law_draw.b .nil pass0 (pa_cons (pv 0) (pa_cons (pe_op oAdd (pv 2) pe_int) pa_nil))))
    (Evl.pss_cut (ps_if (PW.pt (pw_and (pt_cmpR op_gt (pe_callB (cLen (K := K)) (by rfl) T.z_len PySem.boot_len (pa_cons (pv 1) pa_nil)) pe_int (nomark _)) (pw_and1 (pt_cmpR op_gt (pe_call (ok_law_draw T) (hr.mono (by decide)) (by rfl) T.law_draw.g T.law_draw.F.kp T.law_draw.b .nil pass0 (pa_cons (pv 0) (pa_cons pe_int pa_nil))) pe_int (nomark _))))) (pss_one (ps_set (i := 5) sc_law_open.nd rfl (Or.inl rfl) (pe_callB (cMin2 rfl) (by rfl) T.z_min (by decide +kernel) (pa_cons (pv 2) (pa_cons (pe_op op_sub (pe_op oAdd (pe_ix (ixLT (K := K)) (pe_ix (ixLT (K := K)) (pv 1) (pe_call (ok_law_draw T) (hr.mono (by decide)) (by rfl) T.law_draw.g T.law_draw.F.kp T.law_draw.b .nil pass0 (pa_cons (pv 0) (pa_cons (pe_callB (cLen (K := K)) (by rfl) T.z_len PySem.boot_len (pa_cons (pv 1) pa_nil)) pa_nil))) (fun _ _ => rfl)) pe_int (fun _ _ => rfl)) (pe_call (ok_law_draw T) (hr.mono (by decide)) (by rfl) T.law_draw.g T.law_draw.F.kp T.law_draw.b .nil pass0 (pa_cons (pv 0) (pa_cons pe_int pa_nil)))) pe_int) pa_nil))))) pss_nil)
    (pss_one (ps_if (pt_cmpR (oNotIn (K := K)) (pv 5) (pv 3) (by rfl)) (pss_one (ps_expr (peApp (K := K) (pe_bm PySem.F.plainAttrs_list PySem.F.slot_list_append PySem.F.type_list_append mt_append (pv 3) (pa_cons (pv 5) pa_nil))))) pss_nil)))))
    (pss_one (ps_ret (pe_callTy (cTupOf (K := K)) (by rfl) T.z_tuple (by decide +kernel) (pa_cons (pe_callB (cSortI (K := K)) (by rfl) T.z_sorted (by decide +kernel) (pa_cons (pv 3) pa_nil)) pa_nil)))))), ?_⟩
    walk_at "go"
    refine n_new (le_size (by simp)) fun f H1 n1 s1 h1 => ?_
    have hs1 := Hs.of b s1
    have fne : f ≠ B.hd := new_ne b n1
    walk_at "go"
    refine ⟨B, _, rfl, hs1.b, by omega, by omega, fun r H2 r0 r1 hs2 => ?_⟩
    walk_at "go"
    refine i_rng r.toNat rfl (by omega) (by omega) ?_
    refine l_rng (fun i σ H' => Hs K B H H' ∧ ∃ (ns : List Int) (y4 y5 : Option V), σ = [some (.ref B.hd), some (.ref a), some (.int l), some (.ref f), y4, y5] ∧ H' f = some (.lst (ns.map V.int)) ∧ ns.Nodup ∧ (∀ z ∈ ns, 0 ≤ z ∧ z ≤ l) ∧ ns.length ≤ i) ⟨hs1.trans hs2, [], none, none, rfl, hs2.ls fne h1, List.nodup_nil, by simp, by simp⟩ (fun σ H' p => ?_) (fun i σ H' hi p => ?_)
    · obtain ⟨hh, ns, y4, y5, rfl, hf, a1, a2, a3⟩ := p
      walk_at "go"
      refine c_sortI (slO hf) fun ns' p H3 b1 b2 n3 s3 h3 => ?_
      walk_at "go"
      refine n_new0 fun q H4 n4 s4 h4 => ?_
      refine k q ns' H4 (hh.trans (Hs.of hh.b (s3.trans s4))) ((hh.trans (Hs.of hh.b s3)).free n4) h4 (lt_of_sorted b2 (b1.nodup_iff.mpr a1)) (fun z hz => a2 z (b1.mem_iff.mp hz)) ?_
      rw [b1.length_eq]; omega
    · obtain ⟨hh, ns, y4, y5, rfl, hf, a1, a2, a3⟩ := p
      walk_at "go"
      refine ⟨B, _, rfl, hh.b, by omega, by omega, fun r5 H5 r50 r51 hs5 => ?_⟩
      have hh5 := hh.trans hs5
      walk_at "go"
      refine s_cut (fun σ2 H2 => Hs K B H' H2 ∧ ∃ s : Int, σ2 = [some (.ref B.hd), some (.ref a), some (.int l), some (.ref f), some (.int (i : Nat)), some (.int s)] ∧ 0 ≤ s ∧ s ≤ l) ?_ ?_
      · have hS5 := hh5.sl ha hS
        have ekl := hP.1
        have few := hV.few
        walk_at "go"
        refine i_d (fun q1 => ?_) (fun q1 => ?_)
        · walk_at "go"
          refine ⟨B, _, rfl, hs5.b, by omega, by omega, fun r6 H6 r60 r61 hs6 => ?_⟩
          walk_at "go"
          refine i_d (fun q2 => ?_) (fun q2 => ?_)
          · have hS6 := hs6.sl ha hS5
            walk_at "go"
            refine ⟨B, _, rfl, hs6.b, by omega, by omega, fun r7 H7 r70 r71 hs7 => ?_⟩
            have hS7 := hs7.sl ha hS6
            have hP7 := hs7.pa hs6.b (hs6.pa hs5.b (hh5.pa b hP))
            have hj : r7.toNat < xs.length := by omega
            refine o_ixL hS7 (atI_ref r7.toNat (by omega) (by omega)) ?_
            have hv := hP7.at hj
            have hc := hV.comm _ (List.getElem_mem hj)
            walk_at "go"
            refine ⟨B, _, rfl, hs7.b, by omega, by omega, fun r8 H8 r80 r81 hs8 => ?_⟩
            walk_at "go"
            exact ⟨hs5.trans (hs6.trans (hs7.trans hs8)), _, rfl, by split <;> omega, by split <;> omega⟩
          · walk_at "go"
            exact ⟨hs5.trans hs6, _, rfl, by omega, by omega⟩
        · walk_at "go"
          exact ⟨hs5, _, rfl, by omega, by omega⟩
      · rintro σ2 H3 ⟨hs3, s, rfl, q0, q1⟩
        have hf3 := hs3.ls fne hf
        walk_at "go"
        refine i_d (fun e => ?_) (fun e => ?_)
        · walk_at "go"
          refine r_app hf3 (by simp; omega) fun H4 o4 h4 => ?_
          refine ⟨(hh.trans hs3).mut b n1 o4, ns ++ [s], _, _, rfl, by rw [h4, List.map_append]; rfl, ?_, fun z hz => ?_, by simp; omega⟩
          · exact List.nodup_append.mpr ⟨a1, by simp, by intro x hx y hy; simp at hy; subst hy; exact fun z => e (z ▸ hx)⟩
          · rcases List.mem_append.mp hz with hz | hz
            · exact a2 z hz
            · simp at hz; subst hz; exact ⟨q0, q1⟩
        · walk_at "go"
          exact ⟨hh.trans hs3, ns, _, _, rfl, hf3, a1, a2, by omega⟩
end



section
variable {P : Program} {w : World} {K : PySem.W.Frag} {mg : Str → Option Value} {base : Heap}
def sp_law_within (K : PySem.W.Frag) : Sp := fun vs H Q _ => ∃ x N d lo hi, vs = [x, .int lo, .int hi] ∧ Dq K N H x d ∧ Q (.bl (withinD d lo hi)) H
theorem ok_law_is_within (T : Txt K mg) : FnOk P w K mg base CX0 1 T.law_is_within.f T.law_is_within.fd ["thing", "least", "most"] (sp_law_within K) := by
  refine T.law_is_within.F.ok sc_law_is_within (fun vs H Q E h => ?_) (fun cdv A outer s H vs Q E hr h => ?_)
  · obtain ⟨x, N, d, lo, hi, rfl, _⟩ := h
    rfl
  · obtain ⟨x, N, d, lo, hi, rfl, hd, k⟩ := h
    refine ⟨_, (pss_one (ps_ret (pe_and (pe_callB (cIsi (K := K)) (by rfl) T.z_isinstance (by decide +kernel) (pa_cons (pv 0) (pa_cons (pe_bltn (v := .ty "int") (by rfl) T.z_int (by decide +kernel) rfl) pa_nil))) (pe_and (pe_not (pe_callB (cIsi (K := K)) (by rfl) T.z_isinstance (by decide +kernel) (pa_cons (pv 0) (pa_cons (pe_bltn (v := .ty "bool") (by rfl) T.z_bool (by decide +kernel) rfl) pa_nil)))) (pe_one (pe_chain op_le op_le (pv 1) (pv 0) (pv 2))))))), ?_⟩
    walk_at "go"
    cases id hd with
    | int i =>
      walk_at "go"
      have e : withinD (.int i) lo hi = (decide (lo ≤ i) && decide (i ≤ hi)) := rfl
      rw [e] at k
      refine i_d (fun q => ?_) (fun q => ?_)
      · rw [decide_eq_true q, Bool.true_and] at k
        walk_at "go"
        exact k
      · rw [decide_eq_false q, Bool.false_and] at k
        walk_at "go"
        exact k
    | non => walk_at "go"; exact k
    | bl b => walk_at "go"; exact k
    | str z => walk_at "go"; exact k
    | lst a n b => refine dq_isi false hd (by simp only [tyD]; decide +kernel) ?_; walk_at "go"; exact k
    | tup a b => refine dq_isi false hd (by simp only [tyD]; decide +kernel) ?_; walk_at "go"; exact k
    | dct a n b c => refine dq_isi false hd (by simp only [tyD]; decide +kernel) ?_; walk_at "go"; exact k
end



section
variable {P : Program} {w : World} {K : PySem.W.Frag} {mg : Str → Option Value} {base : Heap}
def badV (d : PyData) : V := match badD d with
  | none => .non
  | some i => .int i
def sp_first_bad (K : PySem.W.Frag) : Sp := fun vs H Q _ => ∃ x N d, vs = [x] ∧ Dq K N H x d ∧ SzD d ∧ ∀ H', Same H H' → Q (badV d) H'
theorem ok_law_first_bad (T : Txt K mg) : FnOk P w K mg base CX0 2 T.law_first_bad.f T.law_first_bad.fd ["versions"] (sp_first_bad K) := by
  refine T.law_first_bad.F.ok sc_law_first_bad (fun vs H Q E h => ?_) (fun cdv A outer s H vs Q E hr h => ?_)
  · obtain ⟨x, N, d, rfl, _⟩ := h
    rfl
  · obtain ⟨x, N, d, rfl, hd, hl, k⟩ := h
    refine ⟨_, (pss_cons (ps_if (pt_not (ptTruth (K := K) (pe_callB (cIsiT (K := K)) (by rfl) T.z_isinstance (by decide +kernel) (pa_cons (pv 0) (pa_cons (pe_tup (pa_cons (pe_bltn (v := .ty "list") (by rfl) T.z_list (by decide +kernel) rfl) (pa_cons (pe_bltn (v := .ty "tuple") (by rfl) T.z_tuple (by decide +kernel) rfl) pa_nil))) pa_nil))) (by intro _; rfl))) (pss_one (ps_ret (pe_un un_neg pe_int))) pss_nil)
    (pss_cons (ps_for PassesOwn.never rfl (pi_range1 (by rfl) T.z_range (pa_cons (pe_callB (cLen (K := K)) (by rfl) T.z_len PySem.boot_len (pa_cons (pv 0) pa_nil)) pa_nil)) (pg_name (i := 1) sc_law_first_bad.nd rfl (Or.inl rfl))
      (pss_cons (ps_set (i := 2) sc_law_first_bad.nd rfl (Or.inl rfl) (pe_ix (ixLT (K := K)) (pv 0) (pv 1) (fun _ _ => rfl)))
    (pss_cons (ps_if (PW.pt (pw_or (pt_not (ptTruth (K := K) (pe_callB (cIsi (K := K)) (by rfl) T.z_isinstance (by decide +kernel) (pa_cons (pv 2) (pa_cons (pe_bltn (v := .ty "tuple") (by rfl) T.z_tuple (by decide +kernel) rfl) pa_nil))) (by intro _; rfl))) (pw_or (pt_cmpR (oNe (K := K) hr.units) (pe_callB (cLen (K := K)) (by rfl) T.z_len PySem.boot_len (pa_cons (pv 2) pa_nil)) pe_int (nomark _)) (pw_or1 (pt_not (ptTruth (K := K) (pe_call (ok_law_is_within T) (hr.mono (by decide)) (by rfl) T.law_is_within.g T.law_is_within.F.kp T.law_is_within.b .nil pass0 (pa_cons (pe_ix (ixLT (K := K)) (pv 2) pe_int (fun _ _ => rfl)) (pa_cons pe_int (pa_cons (pe_op op_pow pe_int pe_int) pa_nil)))) (by intro _; rfl))))))) (pss_one (ps_ret (pv 1))) pss_nil)
    (Evl.pss_cut (ps_if (PW.pt (pw_and (pt_cmpR oNotN (pe_ix (ixLT (K := K)) (pv 2) pe_int (fun _ _ => rfl)) pe_non (nomark _)) (pw_and1 (pt_not (ptTruth (K := K) (pe_call (ok_law_is_within T) (hr.mono (by decide)) (by rfl) T.law_is_within.g T.law_is_within.F.kp T.law_is_within.b .nil pass0 (pa_cons (pe_ix (ixLT (K := K)) (pv 2) pe_int (fun _ _ => rfl)) (pa_cons (pe_un un_neg (pe_op op_pow pe_int pe_int)) (pa_cons (pe_op op_pow pe_int pe_int) pa_nil)))) (by intro _; rfl)))))) (pss_one (ps_ret (pv 1))) pss_nil)
    (pss_one (ps_if (PW.pt (pw_and (pt_cmpR op_gt (pv 1) pe_int (nomark _)) (pw_and1 (pt_cmpR op_ge (pe_ix (ixLT (K := K)) (pv 2) pe_int (fun _ _ => rfl)) (pe_ix (ixLT (K := K)) (pe_ix (ixLT (K := K)) (pv 0) (pe_op op_sub (pv 1) pe_int) (fun _ _ => rfl)) pe_int (fun _ _ => rfl)) (nomark _))))) (pss_one (ps_ret (pv 1))) pss_nil))))))
    (pss_one (ps_ret pe_non)))), ?_⟩
    walk_at "go"
    refine n_new (by decide) fun tp H1 n1 s1 h1 => ?_
    walk_at "go"
    cases ev : vsD d with
    | none =>
      refine isiT_any (b := false) (hd.same s1) h1 (by rw [ev]; rfl) ?_
      have eb : badV d = .int (-1) := by unfold badV badD; rw [ev]
      walk_at "go"
      rw [eb] at k
      exact k _ s1
    | some ds =>
      obtain ⟨a, xs, rfl, hS, hA⟩ := vs_sq hd ev
      have hl := hl ds ev
      have ll := hA.len
      refine isiT_any (b := true) (hd.same s1) h1 (by rw [ev]; rfl) ?_
      walk_at "go"
      refine e_lenX' (sx_ s1 hS) ?_
      walk_at "go"
      refine i_rng xs.length rfl (by omega) (by omega) ?_
      refine l_rng (fun i σ H2 => (∃ y1 y2, σ = [some (.ref a), y1, y2]) ∧ Same H1 H2 ∧ ∀ j, j < i → badAt ds j = false) ⟨⟨none, none, rfl⟩, Same.refl _, fun j hj => absurd hj (Nat.not_lt_zero _)⟩ (fun σ H2 p => ?_) fun i σ H2 hi p => ?_
      · obtain ⟨⟨y1, y2, rfl⟩, s2, b⟩ := p
        have eb : badV d = .non := by
          unfold badV badD firstBad
          rw [ev]
          show (match Option.map _ _ with | none => V.non | some i => V.int i) = _
          rw [find_none (by rw [← ll]; exact b)]; rfl
        walk_at "go"
        rw [eb] at k
        exact k _ (s1.trans s2)
      obtain ⟨⟨y1, y2, rfl⟩, s2, b⟩ := p
      have s4 : Same H H2 := s1.trans s2
      have hSx := sx_ s4 hS
      obtain ⟨x2, e2⟩ : ∃ x2, xs[i]? = some x2 := ⟨_, List.getElem?_eq_getElem hi⟩
      obtain ⟨dx, edx, hdx⟩ := hA.get e2
      have hi2 : i < ds.length := (List.getElem?_eq_some_iff.mp edx).1
      have egd : ds.getD i .none = dx := by rw [List.getD_eq_getElem?_getD, edx]; rfl
      have fin : badAt ds i = true → Q (.int (i : Nat)) H2 := fun hb => by
        have eb : badV d = .int (i : Nat) := by
          unfold badV badD firstBad
          rw [ev]
          show (match Option.map _ _ with | none => V.non | some i => V.int i) = _
          rw [find_range hi2 hb b]; rfl
        rw [← eb]
        exact k _ s4
      have nov : verD dx = false → Q (.int (i : Nat)) H2 := fun hv => fin (by unfold badAt; rw [egd, hv]; rfl)
      walk_at "go"
      refine o_ixX hSx (atI_in (j := i) rfl e2) ?_
      have hdx2 := hdx.same s4
      walk_at "go"
      cases id hdx2 with
      | int z => walk_at "go"; exact nov rfl
      | non => walk_at "go"; exact nov rfl
      | bl z => walk_at "go"; exact nov rfl
      | str z => walk_at "go"; exact nov rfl
      | lst a n b => refine dq_isi false hdx2 (by simp only [tyD]; decide +kernel) ?_; walk_at "go"; exact nov rfl
      | dct a n b c => refine dq_isi false hdx2 (by simp only [tyD]; decide +kernel) ?_; walk_at "go"; exact nov rfl
      | @tup p ys es hS2 hA2 =>
        have l2 := hA2.len
        walk_at "go"
        refine i_d (fun q => ?_) (fun q => ?_)
        · walk_at "go"
          refine nov ?_
          unfold verD
          split
          · next e => cases e; exact absurd (by rw [l2]; rfl) q
          · rfl
        · have l3 : es.length = 2 := by omega
          match es, hA2, l3, nov, egd with
          | [da, db], hA2, _, nov, egd =>
            cases hA2 with
            | @cons xa _ _ _ ha hA2 =>
              cases hA2 with
              | @cons xb _ _ _ hb hA2 =>
                cases hA2
                walk_at "go"
                refine ⟨xa, N, da, _, _, rfl, ha, ?_⟩
                have ev0 : verD (.tuple [da, db]) = (withinD da 1 1000000000000000000 && markD db) := rfl
                cases e : withinD da 1 1000000000000000000 with
                | false =>
                  walk_at "go"
                  exact nov (by rw [ev0, e]; rfl)
                | true =>
                  rw [e, Bool.true_and] at ev0
                  walk_at "go"
                  have hS22 := hS2
                  refine s_cut (fun σ3 H3 => σ3 = [some (.ref a), some (.int (i : Nat)), some (.ref p)] ∧ H3 = H2 ∧ markD db = true) ?_ ?_
                  · have no : markD db = false → Q (.int (i : Nat)) H2 := fun e => nov (by rw [ev0, e])
                    walk_at "go"
                    cases id hb with
                    | non => walk_at "go"; exact ⟨rfl, rfl, rfl⟩
                    | int z =>
                      walk_at "go"
                      refine ⟨_, N, _, _, _, rfl, hb, ?_⟩
                      cases em : withinD (.int z) (-1000000000000000000) 1000000000000000000 with
                      | true => walk_at "go"; exact ⟨rfl, rfl, em⟩
                      | false => walk_at "go"; exact no em
                    | bl z => walk_at "go"; refine ⟨_, N, _, _, _, rfl, hb, ?_⟩; walk_at "go"; exact no rfl
                    | str z => walk_at "go"; refine ⟨_, N, _, _, _, rfl, hb, ?_⟩; walk_at "go"; exact no rfl
                    | lst a1 n1 b1 => walk_at "go"; refine ⟨_, N, _, _, _, rfl, hb, ?_⟩; walk_at "go"; exact no rfl
                    | tup a1 b1 => walk_at "go"; refine ⟨_, N, _, _, _, rfl, hb, ?_⟩; walk_at "go"; exact no rfl
                    | dct a1 n1 b1 c1 => walk_at "go"; refine ⟨_, N, _, _, _, rfl, hb, ?_⟩; walk_at "go"; exact no rfl
                  · rintro σ3 H3 ⟨rfl, rfl, em⟩
                    rw [em] at ev0
                    cases ha with
                    | int c =>
                      walk_at "go"
                      refine i_d (fun h0 => ?_) (fun h0 => ?_)
                      · walk_at "go"
                        have hi1 : i - 1 < ds.length := by omega
                        obtain ⟨x3, ex3⟩ : ∃ x3, xs[i - 1]? = some x3 := ⟨_, List.getElem?_eq_getElem (by omega)⟩
                        obtain ⟨d3, ed3, hd3⟩ := hA.get ex3
                        have eg3 : ds.getD (i - 1) .none = d3 := by rw [List.getD_eq_getElem?_getD, ed3]; rfl
                        have hv3 : verD d3 = true := by
                          have := b (i - 1) (by omega)
                          unfold badAt at this
                          rw [eg3] at this
                          cases z : verD d3 with
                          | true => rfl
                          | false => rw [z] at this; cases this
                        obtain ⟨a3, c3, y3, m3, rfl, hS3, edt3, _⟩ := verD_tup hd3 hv3
                        have hS33 := st_ s4 hS3
                        refine o_ixX hSx (atI_in (j := i - 1) (by omega) ex3) ?_
                        walk_at "go"
                        have eb : badAt ds i = decide (c3 ≤ c) := by
                          unfold badAt
                          rw [egd, eg3, ev0, edt3, decide_eq_true (show 0 < i by omega)]
                          show (false || (true && decide (c3 ≤ c))) = _
                          rw [Bool.true_and, Bool.false_or]
                        refine i_d (fun q => ?_) (fun q => ?_)
                        · walk_at "go"
                          exact fin (by rw [eb]; exact decide_eq_true (by omega))
                        · walk_at "go"
                          refine ⟨⟨_, _, rfl⟩, s2, fun j hj => ?_⟩
                          by_cases z : j = i
                          · rw [z, eb]; exact decide_eq_false (by omega)
                          · exact b j (by omega)
                      · walk_at "go"
                        refine ⟨⟨_, _, rfl⟩, s2, fun j hj => ?_⟩
                        have z : j = i := by omega
                        rw [z]
                        unfold badAt
                        rw [egd, ev0, decide_eq_false (show ¬ 0 < i by omega)]; rfl
                    | _ => cases e
end



section
variable {P : Program} {w : World} {K : PySem.W.Frag} {mg : Str → Option Value} {base : Heap}
/-! ### what is right, back from the data -/
theorem marks_of {N : Addr → Prop} {H : Hp} {y : V} {m : PyData} (h : Dq K N H y m) (e : markD m = true) : ∃ o : Option Int, y = markV o ∧ m = markP o := by
  cases h with
  | non => exact ⟨none, rfl, rfl⟩
  | int z => exact ⟨some z, rfl, rfl⟩
  | _ => cases e
theorem vers_of {N : Addr → Prop} {H : Hp} : ∀ {ys : List V} {ds : List PyData}, DqAll K N H ys ds → (∀ d ∈ ds, verD d = true) →
    ∃ (ps : List Addr) (xs : List (Int × Option Int)), ys = ps.map V.ref ∧ ds = xs.map pairP ∧ PairsAt K H ps xs ∧ ∀ v ∈ xs, (1 ≤ v.1 ∧ v.1 ≤ GC) ∧ markD (markP v.2) = true
  | _, _, .nil, _ => ⟨[], [], rfl, rfl, ⟨rfl, fun i p v a b => by simp at a⟩, fun v hv => nomatch hv⟩
  | _, _, .cons h hs, hv => by
    obtain ⟨ps, xs, e1, e2, e3, e4⟩ := vers_of hs fun d hd => hv d (List.mem_cons_of_mem _ hd)
    obtain ⟨a, c, y, m, ex, hS, ed, hm, c1, c2, hk⟩ := verD_tup h (hv _ List.mem_cons_self)
    obtain ⟨o, ey, em⟩ := marks_of hm hk
    subst ex ed ey em e1 e2
    refine ⟨a :: ps, (c, o) :: xs, rfl, rfl, ⟨by simp [e3.1], fun i p v q1 q2 => ?_⟩, fun v hv => ?_⟩
    · cases i with
      | zero => cases q1; cases q2; exact hS
      | succ i => exact e3.2 i p v q1 q2
    · rcases List.mem_cons.mp hv with e | e
      · subst e; exact ⟨⟨c1, c2⟩, hk⟩
      · exact e4 v e
theorem desc_of {n : Nat} {f : Nat → Int} (h : ∀ j, j + 1 < n → f (j + 1) < f j) : ∀ d i, i + d + 1 < n → f (i + d + 1) < f i
  | 0, i, hn => h i hn
  | d + 1, i, hn => Int.lt_trans (h (i + d + 1) hn) (desc_of h d i (by omega))
theorem good_vs {N : Addr → Prop} {H : Hp} {x : V} {d : PyData} (h : Dq K N H x d) (hz : SzD d) (e : badD d = none) :
    ∃ (a : Addr) (ps : List Addr) (xs : List (Int × Option Int)), x = .ref a ∧ SqX K H a (ps.map V.ref) ∧ PairsAt K H ps xs ∧ Valid xs ∧ vsD d = some (xs.map pairP) := by
  cases ev : vsD d with
  | none => unfold badD at e; rw [ev] at e; cases e
  | some ds =>
    obtain ⟨a, ys, rfl, hS, hA⟩ := vs_sq h ev
    unfold badD firstBad at e
    rw [ev] at e
    have e : Option.map _ ((List.range ds.length).find? (badAt ds)) = none := e
    rw [Option.map_eq_none_iff, List.find?_eq_none] at e
    have eb : ∀ j, j < ds.length → badAt ds j = false := fun j hj => by
      have := e j (List.mem_range.mpr hj)
      cases q : badAt ds j with
      | true => exact absurd q this
      | false => rfl
    have gd : ∀ j, (hj : j < ds.length) → ds.getD j .none = ds[j] := fun j hj => by rw [List.getD_eq_getElem?_getD, List.getElem?_eq_getElem hj]; rfl
    have ve : ∀ u ∈ ds, verD u = true := fun u hu => by
      obtain ⟨j, hj, ej⟩ := List.getElem_of_mem hu
      have := eb j hj
      unfold badAt at this
      rw [gd j hj, ej] at this
      cases q : verD u with
      | true => rfl
      | false => rw [q] at this; cases this
    obtain ⟨ps, xs, e1, e2, e3, e4⟩ := vers_of hA ve
    subst e1 e2
    refine ⟨a, ps, xs, rfl, hS, e3, ⟨?_, fun v hv => (e4 v hv).1, fun v hv => (e4 v hv).2, by have := hz _ ev; rwa [List.length_map] at this⟩, rfl⟩
    rw [List.length_map] at eb
    have st : ∀ j, j + 1 < xs.length → (xs.getD (j + 1) (0, none)).1 < (xs.getD j (0, none)).1 := fun j hj => by
      have := eb (j + 1) hj
      unfold badAt at this
      rw [gd (j + 1) (by rw [List.length_map]; exact hj), show j + 1 - 1 = j from rfl, gd j (by rw [List.length_map]; omega)] at this
      rw [List.getElem_map, List.getElem_map] at this
      rw [Bool.or_eq_false_iff] at this
      have h2 : decide ((xs[j]'(by omega)).1 ≤ (xs[j + 1]).1) = false := by
        have := this.2
        rw [decide_eq_true (Nat.zero_lt_succ j), Bool.true_and] at this
        exact this
      have := of_decide_eq_false h2
      rw [List.getD_eq_getElem?_getD, List.getD_eq_getElem?_getD, List.getElem?_eq_getElem hj, List.getElem?_eq_getElem (show j < xs.length by omega)]
      show (xs[j + 1]).1 < (xs[j]).1
      omega
    refine List.pairwise_iff_getElem.mpr fun i j hi hj hij => ?_
    have := desc_of st (j - i - 1) i (by omega)
    rw [show i + (j - i - 1) + 1 = j by omega] at this
    rw [List.getD_eq_getElem?_getD, List.getD_eq_getElem?_getD, List.getElem?_eq_getElem hj, List.getElem?_eq_getElem hi] at this
    exact this
theorem snap_of {d : PyData} {m : Int} (h : snapD d m = true) : ∃ ns : List Int, d = .tuple (ns.map PyData.int) ∧ lotB ns = true ∧ ∀ z ∈ ns, z ≤ m := by
  unfold snapD at h
  rw [Bool.and_eq_true] at h
  obtain ⟨h1, h2⟩ := h
  cases d with
  | tuple ds =>
    have h1' : (ds.all isND && ascB (ds.map toID)) = true := h1
    rw [Bool.and_eq_true] at h1'
    have e : ds = (ds.map toID).map PyData.int := by
      rw [List.map_map]
      have : ∀ u ∈ ds, (PyData.int ∘ toID) u = u := fun u hu => by
        have := List.all_eq_true.mp h1'.1 u hu
        cases u with
        | int i => rfl
        | _ => cases this
      rw [List.map_congr_left this]; simp
    generalize ds.map toID = ns at e
    subst e
    rw [lot_ints] at h1
    refine ⟨ns, rfl, h1, fun z hz => ?_⟩
    have hlo := h1
    unfold lotB at hlo
    rw [Bool.and_eq_true] at hlo
    have asc := lotB_asc hlo.2
    have h2 : ((ns.map PyData.int).isEmpty || decide (toID ((ns.map PyData.int).getD ((ns.map PyData.int).length - 1) .none) ≤ m)) = true := h2
    obtain ⟨i, hi, ei⟩ := List.getElem_of_mem hz
    have ne : (ns.map PyData.int).isEmpty = false := by
      cases ns with
      | nil => cases hz
      | cons a r => rfl
    rw [ne, Bool.false_or] at h2
    have h2 := of_decide_eq_true h2
    rw [List.length_map, List.getD_eq_getElem?_getD, List.getElem?_map, List.getElem?_eq_getElem (by omega)] at h2
    have h2 : ns[ns.length - 1] ≤ m := h2
    rcases Nat.lt_or_ge i (ns.length - 1) with q | q
    · have := List.pairwise_iff_getElem.mp asc i (ns.length - 1) hi (by omega) q
      omega
    · have : i = ns.length - 1 := by omega
      subst this
      omega
  | _ => cases h1
theorem snap_ints {ns : List Int} {l : Int} (h1 : lotB ns = true) (h2 : ∀ z ∈ ns, z ≤ l) : snapD (.tuple (ns.map PyData.int)) l = true := by
  unfold snapD
  rw [lot_ints, h1]
  show ((ns.map PyData.int).isEmpty || _) = true
  cases ns with
  | nil => rfl
  | cons z r =>
    rw [Bool.or_eq_true]
    refine .inr (decide_eq_true ?_)
    rw [List.length_map, List.getD_eq_getElem?_getD, List.getElem?_map, List.getElem?_eq_getElem (by simp)]
    exact h2 _ (List.getElem_mem _)
/-- all right: from the data, the pairs, the numbers, the last one -/
theorem GoodQ.of {N1 N2 N3 : Addr → Prop} {H : Hp} {x y z : V} {dv ds dl : PyData} (hv : Dq K N1 H x dv) (hs : Dq K N2 H y ds) (hd : Dq K N3 H z dl) (z1 : SzD dv) (z2 : ∀ us, ds = .tuple us → us.length < 60) (e : refuse dv ds dl = none) :
    ∃ a ps xs b ns l, x = .ref a ∧ y = .ref b ∧ z = .int l ∧ GoodQ K H a ps xs b ns l ∧ vsD dv = some (xs.map pairP) ∧ ds = .tuple (ns.map PyData.int) ∧ dl = .int l := by
  unfold refuse at e
  cases eb : badD dv with
  | some i => rw [eb] at e; cases e
  | none =>
    rw [eb] at e
    have e : (if withinD dl (topD dv) GC = true then (if snapD ds (toID dl) = true then none else some Rf.s) else some Rf.n) = none := e
    by_cases e1 : withinD dl (topD dv) GC = true
    · rw [if_pos e1] at e
      by_cases e2 : snapD ds (toID dl) = true
      · obtain ⟨a, ps, xs, rfl, hS, hP, hV, ev⟩ := good_vs hv z1 eb
        obtain ⟨ns, rfl, n1, n2⟩ := snap_of e2
        cases dl with
        | int l =>
          cases hd
          cases hs with
          | @tup b ys _ hB hA =>
            have ey := intsD_of hA (by rw [List.all_map]; have := n1; unfold lotB at this; rw [Bool.and_eq_true] at this; exact this.1)
            have e3 : (ns.map PyData.int).map toID = ns := by rw [List.map_map]; exact List.map_id ns
            rw [e3] at ey
            subst ey
            have e1 : (decide (topD dv ≤ l) && decide (l ≤ GC)) = true := e1
            rw [Bool.and_eq_true] at e1
            have et : topD dv = top xs := by
              unfold topD
              rw [ev]
              cases xs with
              | nil => rfl
              | cons v r => rfl
            rw [et] at e1
            exact ⟨a, ps, xs, b, ns, l, rfl, rfl, rfl, ⟨hS, hP, hV, hB, by have := z2 _ rfl; rwa [List.length_map] at this, n1, n2, of_decide_eq_true e1.1, of_decide_eq_true e1.2⟩, ev, rfl, rfl⟩
        | _ => cases e1
      · rw [if_neg e2] at e; cases e
    · rw [if_neg e1] at e; cases e
/-! ### the law's own lot -/
def lotL : List PyData → Int → Int → Bool
  | [], _, _ => true
  | d :: ds, a, m => withinD d (a + 1) m && lotL ds (toID d) m
theorem lotL_of : ∀ {ds : List PyData} {a m : Int}, lotL ds a m = true → ∃ ns : List Int, ds = ns.map PyData.int ∧ ns.Pairwise (· < ·) ∧ ∀ z ∈ ns, a < z ∧ z ≤ m
  | [], _, _, _ => ⟨[], rfl, .nil, fun z hz => nomatch hz⟩
  | d :: ds, a, m, h => by
    have h : (withinD d (a + 1) m && lotL ds (toID d) m) = true := h
    rw [Bool.and_eq_true] at h
    obtain ⟨ns, e, p, q⟩ := lotL_of h.2
    cases d with
    | int i =>
      have h1 : (decide (a + 1 ≤ i) && decide (i ≤ m)) = true := h.1
      rw [Bool.and_eq_true] at h1
      have a1 := of_decide_eq_true h1.1
      have a2 := of_decide_eq_true h1.2
      refine ⟨i :: ns, by rw [e]; rfl, List.pairwise_cons.mpr ⟨fun z hz => (q z hz).1, p⟩, fun z hz => ?_⟩
      rcases List.mem_cons.mp hz with e | e
      · subst e; exact ⟨by omega, a2⟩
      · have := q z e
        have h3 : i < z := this.1
        exact ⟨by omega, this.2⟩
    | _ => cases h.1
theorem lotL_ints : ∀ {ns : List Int} {a m : Int}, ns.Pairwise (· < ·) → (∀ z ∈ ns, a < z ∧ z ≤ m) → lotL (ns.map PyData.int) a m = true
  | [], _, _, _, _ => rfl
  | i :: ns, a, m, p, q => by
    obtain ⟨p1, p2⟩ := List.pairwise_cons.mp p
    show (withinD (.int i) (a + 1) m && lotL (ns.map PyData.int) i m) = true
    have := q i List.mem_cons_self
    rw [lotL_ints p2 fun z hz => ⟨p1 z hz, (q z (List.mem_cons_of_mem _ hz)).2⟩, Bool.and_true]
    show (decide _ && decide _) = true
    rw [decide_eq_true (show a + 1 ≤ i by omega), decide_eq_true this.2]; rfl
theorem lotL_snap {ds : List PyData} {m : Int} : lotL ds (-1) m = snapD (.tuple ds) m := by
  rw [Bool.eq_iff_iff]
  constructor
  · intro h
    obtain ⟨ns, rfl, p, q⟩ := lotL_of h
    exact snap_ints (asc_lot p fun z hz => by have := (q z hz).1; omega) fun z hz => (q z hz).2
  · intro h
    obtain ⟨ns, e, n1, n2⟩ := snap_of h
    cases e
    have hlo := n1
    unfold lotB at hlo
    rw [Bool.and_eq_true] at hlo
    refine lotL_ints (lotB_asc hlo.2) fun z hz => ⟨?_, n2 z hz⟩
    have := of_decide_eq_true (List.all_eq_true.mp hlo.1 z hz)
    omega
def sp_law_is_lot (K : PySem.W.Frag) : Sp := fun vs H Q _ => ∃ x N d m, vs = [x, .int m] ∧ Dq K N H x d ∧ (∀ us, d = .tuple us → us.length ≤ 1000) ∧ Q (.bl (snapD d m)) H
theorem ok_law_is_lot (T : Txt K mg) : FnOk P w K mg base CX0 2 T.law_is_lot.f T.law_is_lot.fd ["thing", "most"] (sp_law_is_lot K) := by
  refine T.law_is_lot.F.ok sc_law_is_lot (fun vs H Q E h => ?_) (fun cdv A outer s H vs Q E hr h => ?_)
  · obtain ⟨x, N, d, m, rfl, _⟩ := h
    rfl
  · obtain ⟨x, N, d, m, rfl, hd, hl, k⟩ := h
    refine ⟨_, (pss_cons (ps_if (pt_not (ptTruth (K := K) (pe_callB (cIsi (K := K)) (by rfl) T.z_isinstance (by decide +kernel) (pa_cons (pv 0) (pa_cons (pe_bltn (v := .ty "tuple") (by rfl) T.z_tuple (by decide +kernel) rfl) pa_nil))) (by intro _; rfl))) (pss_one (ps_ret pe_bl)) pss_nil)
    (pss_cons (ps_set (i := 2) sc_law_is_lot.nd rfl (Or.inl rfl) (pe_un un_neg pe_int))
    (pss_cons (ps_for PassesOwn.never rfl (piT (K := K) (pv 0)) (pg_name (i := 3) sc_law_is_lot.nd rfl (Or.inl rfl))
      (pss_cons (ps_if (pt_not (ptTruth (K := K) (pe_call (ok_law_is_within T) (hr.mono (by decide)) (by rfl) T.law_is_within.g T.law_is_within.F.kp T.law_is_within.b .nil pass0 (pa_cons (pv 3) (pa_cons (pe_op oAdd (pv 2) pe_int) (pa_cons (pv 1) pa_nil)))) (by intro _; rfl))) (pss_one (ps_ret pe_bl)) pss_nil)
    (pss_one (ps_set (i := 2) sc_law_is_lot.nd rfl (Or.inl rfl) (pv 3)))))
    (pss_one (ps_ret pe_bl))))), ?_⟩
    walk_at "go"
    cases id hd with
    | int i => walk_at "go"; exact k
    | non => walk_at "go"; exact k
    | bl b => walk_at "go"; exact k
    | str z => walk_at "go"; exact k
    | lst a n b => refine dq_isi false hd (by simp only [tyD]; decide +kernel) ?_; walk_at "go"; exact k
    | dct a n b c => refine dq_isi false hd (by simp only [tyD]; decide +kernel) ?_; walk_at "go"; exact k
    | @tup a ys ds hS hA =>
      have hl := hl ds rfl
      have ll := hA.len
      rw [← lotL_snap] at k
      walk_at "go"
      refine i_tup hS ?_
      refine l_tup (xs := ys) (fun i σ H2 => (∃ ah y3, σ = [some (.ref a), some (.int m), some (.int ah), y3] ∧ lotL (ds.drop i) ah m = lotL ds (-1) m) ∧ H2 = H) ⟨⟨-1, none, rfl, rfl⟩, rfl⟩ (fun i σ H2 hi p => by rw [p.2]; exact hS) (fun σ H2 p => ?_) (fun i x σ H2 hx p => ?_)
      · obtain ⟨⟨ah, y3, rfl, e⟩, rfl⟩ := p
        rw [List.drop_of_length_le (by omega)] at e
        have e : true = lotL ds (-1) m := e
        rw [← e] at k
        walk_at "go"
        exact k
      · obtain ⟨⟨ah, y3, rfl, e⟩, rfl⟩ := p
        obtain ⟨dx, edx, hdx⟩ := hA.get hx
        have hi : i < ds.length := (List.getElem?_eq_some_iff.mp edx).1
        have e0 : ds.drop i = dx :: ds.drop (i + 1) := by
          rw [List.drop_eq_getElem_cons hi, (List.getElem?_eq_some_iff.mp edx).2]
        rw [e0] at e
        have e : (withinD dx (ah + 1) m && lotL (ds.drop (i + 1)) (toID dx) m) = lotL ds (-1) m := e
        walk_at "go"
        refine ⟨x, N, dx, _, _, rfl, hdx, ?_⟩
        cases ew : withinD dx (ah + 1) m with
        | false =>
          rw [ew] at e
          have e : false = lotL ds (-1) m := e
          rw [← e] at k
          walk_at "go"
          exact k
        | true =>
          rw [ew, Bool.true_and] at e
          cases hdx with
          | int z =>
            walk_at "go"
            exact ⟨⟨z, _, rfl, e⟩, rfl⟩
          | _ => cases ew
end



section
variable {P : Program} {w : World} {K : PySem.W.Frag} {mg : Str → Option Value} {base : Heap}
def comOkD (dv du : PyData) : Bool := isID du && decide (toID du ∈ ((vsD dv).getD []).map comD)
def dueW (which : Int) (dv ds dl du : PyData) : Option (Str × Int) := match refuse dv ds dl with
  | some (.v i) => some (Str.ofString "NoVersions", i)
  | some .n => some (Str.ofString "NoNumber", 0)
  | some .s => some (Str.ofString "NoSnapshots", 0)
  | none => if (decide (which = 2) && !comOkD dv du) = true then some (Str.ofString "NoVersion", 0) else none
def DueQ (H H' : Hp) (Q : VK) : Option (Str × Int) → Prop
  | none => Q .non H'
  | some (s, i) => ∀ p H2, H p = none → Same H' H2 → H2 p = some (.tup [.str s, .int i, .bl true]) → Q (.ref p) H2
theorem com_pairs {dv : PyData} {xs : List (Int × Option Int)} (ev : vsD dv = some (xs.map pairP)) (du : PyData) : comOkD dv du = comOk xs du := by
  unfold comOkD comOk
  rw [ev]
  show (_ && decide (_ ∈ (xs.map pairP).map comD)) = _
  rw [List.map_map]; rfl
theorem top_pairs {dv : PyData} {xs : List (Int × Option Int)} (ev : vsD dv = some (xs.map pairP)) : topD dv = top xs := by
  unfold topD
  rw [ev]
  cases xs with
  | nil => rfl
  | cons v r => rfl
def sp_refusal (K : PySem.W.Frag) : Sp := fun vs H Q _ => ∃ which x y z u N1 N2 N3 N4 dv ds dl du, vs = [.int which, x, y, z, u] ∧ Dq K N1 H x dv ∧ Dq K N2 H y ds ∧ Dq K N3 H z dl ∧ Dq K N4 H u du ∧ SzD dv ∧ (∀ us, ds = .tuple us → us.length ≤ 1000) ∧ ∀ H', Same H H' → DueQ H H' Q (dueW which dv ds dl du)
theorem ok_law_refusal (T : Txt K mg) : FnOk P w K mg base CX0 3 T.law_refusal.f T.law_refusal.fd ["which", "versions", "open_lot", "last", "commit"] (sp_refusal K) := by
  refine T.law_refusal.F.ok sc_law_refusal (fun vs H Q E h => ?_) (fun cdv A outer s H vs Q E hr h => ?_)
  · obtain ⟨which, x, y, z, u, N1, N2, N3, N4, dv, ds, dl, du, rfl, _⟩ := h
    rfl
  · obtain ⟨which, x, y, z, u, N1, N2, N3, N4, dv, ds, dl, du, rfl, hv, hs, hd, hu, z1, z2, k⟩ := h
    refine ⟨_, (pss_cons (ps_set (i := 5) sc_law_refusal.nd rfl (Or.inl rfl) (pe_call (ok_law_first_bad T) (hr.mono (by decide)) (by rfl) T.law_first_bad.g T.law_first_bad.F.kp T.law_first_bad.b .nil pass0 (pa_cons (pv 1) pa_nil)))
    (pss_cons (ps_if (pt_cmpR oNotN (pv 5) pe_non (nomark _)) (pss_one (ps_ret (pe_tup (pa_cons pe_str (pa_cons (pv 5) (pa_cons pe_bl pa_nil)))))) pss_nil)
    (pss_cons (ps_set (i := 6) sc_law_refusal.nd rfl (Or.inl rfl) pe_int)
    (Evl.pss_cut (ps_if (pt_cmpR op_gt (pe_callB (cLen (K := K)) (by rfl) T.z_len PySem.boot_len (pa_cons (pv 1) pa_nil)) pe_int (nomark _)) (pss_one (ps_set (i := 6) sc_law_refusal.nd rfl (Or.inl rfl) (pe_ix (ixLT (K := K)) (pe_ix (ixLT (K := K)) (pv 1) pe_int (fun _ _ => rfl)) pe_int (fun _ _ => rfl)))) pss_nil)
    (pss_cons (ps_if (pt_not (ptTruth (K := K) (pe_call (ok_law_is_within T) (hr.mono (by decide)) (by rfl) T.law_is_within.g T.law_is_within.F.kp T.law_is_within.b .nil pass0 (pa_cons (pv 3) (pa_cons (pv 6) (pa_cons (pe_op op_pow pe_int pe_int) pa_nil)))) (by intro _; rfl))) (pss_one (ps_ret (pe_tup (pa_cons pe_str (pa_cons pe_int (pa_cons pe_bl pa_nil)))))) pss_nil)
    (pss_cons (ps_if (pt_not (ptTruth (K := K) (pe_call (ok_law_is_lot T) (hr.mono (by decide)) (by rfl) T.law_is_lot.g T.law_is_lot.F.kp T.law_is_lot.b .nil pass0 (pa_cons (pv 2) (pa_cons (pv 3) pa_nil))) (by intro _; rfl))) (pss_one (ps_ret (pe_tup (pa_cons pe_str (pa_cons pe_int (pa_cons pe_bl pa_nil)))))) pss_nil)
    (Evl.pss_cut (ps_if (pt_cmpR (oEq (K := K) hr.units) (pv 0) pe_int (nomark _)) (pss_one (ps_if (PW.pt (pw_or (pt_not (ptTruth (K := K) (pe_call (ok_law_is_within T) (hr.mono (by decide)) (by rfl) T.law_is_within.g T.law_is_within.F.kp T.law_is_within.b .nil pass0 (pa_cons (pv 4) (pa_cons pe_int (pa_cons (pe_op op_pow pe_int pe_int) pa_nil)))) (by intro _; rfl))) (pw_or1 (pt_cmpR (oNotIn (K := K)) (pv 4) (pe_lc (own := [("pair", 7)]) rfl sc_law_refusal.nd (piX (K := K) (pv 1)) (blkOk_by (N := n_law_refusal) (sc := defScope s_law_refusal) (by decide +kernel)) (fun _ _ _ _ _ => (pg_name (i := 7) sc_law_refusal.nd rfl (Or.inl rfl))) (fun _ _ _ _ _ => pts_nil) (fun _ _ _ _ _ => (pe_ix (ixLT (K := K)) (pv 7) pe_int (fun _ _ => rfl)))) (by rfl))))) (pss_one (ps_ret (pe_tup (pa_cons pe_str (pa_cons pe_int (pa_cons pe_bl pa_nil)))))) pss_nil)) pss_nil)
    (pss_one (ps_ret pe_non))))))))), ?_⟩
    walk_at "go"
    refine ⟨x, N1, dv, rfl, hv, z1, fun H1 s1 => ?_⟩
    cases eb : badD dv with
    | some i =>
      have e1 : badV dv = .int i := by unfold badV; rw [eb]
      have e2 : dueW which dv ds dl du = some (Str.ofString "NoVersions", i) := by unfold dueW refuse; rw [eb]
      rw [e1]
      walk_at "go"
      refine n_new (le_size (by simp)) fun p H2 n2 s2 h2 => ?_
      have k := k H1 s1
      rw [e2] at k
      exact k p H2 (free_ s1 n2) s2 h2
    | none =>
      have e1 : badV dv = .non := by unfold badV; rw [eb]
      obtain ⟨a, ps, xs, rfl, hS, hP, hV, ev⟩ := good_vs hv z1 eb
      have et := top_pairs ev
      have hS1 := sx_ s1 hS
      have hP1 := pa_ s1 hP
      have few := hV.few
      have hlen : ps.length = xs.length := hP.1
      rw [e1]
      walk_at "go"
      refine s_cut (fun σ2 H2 => H2 = H1 ∧ ∃ y6, σ2 = [some (.int which), some (.ref a), some y, some z, some u, some .non, some (.int (top xs)), y6]) ?_ ?_
      · walk_at "go"
        refine e_lenX' hS1 ?_
        walk_at "go"
        refine i_d (fun q => ?_) (fun q => ?_)
        · walk_at "go"
          have hx : 0 < xs.length := by simp at q; omega
          refine o_ixX hS1 (atI_ref 0 rfl (by omega)) ?_
          have hv0 := hP1.at hx
          walk_at "go"
          have e0 : xs[0].1 = top xs := by
            cases xs with
            | nil => cases hx
            | cons v r => rfl
          exact ⟨rfl, none, by rw [e0]; rfl⟩
        · walk_at "go"
          have e0 : xs = [] := List.length_eq_zero_iff.mp (by rw [List.length_map] at q; omega)
          subst e0
          exact ⟨rfl, none, rfl⟩
      · rintro σ2 H2 ⟨rfl, y6, rfl⟩
        walk_at "go"
        refine ⟨z, N3, dl, _, _, rfl, hd.same s1, ?_⟩
        have er : refuse dv ds dl = if withinD dl (top xs) GC = true then (if snapD ds (toID dl) = true then none else some .s) else some .n := by
          unfold refuse
          rw [eb, et]
        cases ew : withinD dl (top xs) 1000000000000000000 with
        | false =>
          have e2 : dueW which dv ds dl du = some (Str.ofString "NoNumber", 0) := by
            unfold dueW
            rw [er, if_neg (by show ¬ withinD dl (top xs) 1000000000000000000 = true; rw [ew]; exact Bool.false_ne_true)]
          walk_at "go"
          refine n_new (le_size (by simp)) fun p H3 n3 s3 h3 => ?_
          have k := k H2 s1
          rw [e2] at k
          exact k p H3 (free_ s1 n3) s3 h3
        | true =>
          have el : ∃ l, dl = .int l := by
            cases dl with
            | int l => exact ⟨l, rfl⟩
            | _ => cases ew
          obtain ⟨l, rfl⟩ := el
          cases hd
          walk_at "go"
          refine ⟨y, N2, ds, l, rfl, hs.same s1, z2, ?_⟩
          rw [if_pos (show withinD (.int l) (top xs) GC = true from ew)] at er
          cases es : snapD ds l with
          | false =>
            have e2 : dueW which dv ds (.int l) du = some (Str.ofString "NoSnapshots", 0) := by
              unfold dueW
              rw [er, if_neg (by show ¬ snapD ds l = true; rw [es]; exact Bool.false_ne_true)]
            walk_at "go"
            refine n_new (le_size (by simp)) fun p H3 n3 s3 h3 => ?_
            have k := k H2 s1
            rw [e2] at k
            exact k p H3 (free_ s1 n3) s3 h3
          | true =>
            rw [if_pos (show snapD ds (toID (.int l)) = true from es)] at er
            have e2 : dueW which dv ds (.int l) du = if (decide (which = 2) && !comOk xs du) = true then some (Str.ofString "NoVersion", 0) else none := by
              unfold dueW
              rw [er, com_pairs ev]
            walk_at "go"
            refine s_cut (fun σ3 H3 => Same H2 H3 ∧ (decide (which = 2) && !comOk xs du) = false) ?_ ?_
            · walk_at "go"
              refine i_d (fun q => ?_) (fun q => ?_)
              · have no : comOk xs du = false → ∀ p H3, H2 p = none → Same H2 H3 → H3 p = some (.tup [.str (Str.ofString "NoVersion"), .int 0, .bl true]) → Q (.ref p) H3 := fun e p H3 n3 s3 h3 => by
                  have k := k H2 s1
                  rw [e2, if_pos (by rw [decide_eq_true q, e]; rfl)] at k
                  exact k p H3 (free_ s1 n3) s3 h3
                walk_at "go"
                refine ⟨u, N4, du, _, _, rfl, hu.same s1, ?_⟩
                cases ec : withinD du 1 1000000000000000000 with
                | false =>
                  have e3 : comOk xs du = false := by
                    unfold comOk
                    cases du with
                    | int c =>
                      show (true && decide (c ∈ xs.map (·.1))) = false
                      rw [Bool.true_and]
                      refine decide_eq_false fun hc => ?_
                      obtain ⟨v, hv, e⟩ := List.mem_map.mp hc
                      subst e
                      have := hV.comm v hv
                      have ec : (decide (1 ≤ v.1) && decide (v.1 ≤ GC)) = false := ec
                      rw [decide_eq_true this.1, decide_eq_true this.2] at ec
                      cases ec
                    | _ => rfl
                  walk_at "go"
                  refine n_new (le_size (by simp)) fun p H3 n3 s3 h3 => ?_
                  exact no e3 p H3 n3 s3 h3
                | true =>
                  have ed : ∃ c, du = .int c := by
                    cases du with
                    | int c => exact ⟨c, rfl⟩
                    | _ => cases ec
                  obtain ⟨c, rfl⟩ := ed
                  cases hu
                  walk_at "go"
                  refine i_orX rfl hS1 (Same.refl _) fun J G hG hW => ?_
                  refine c_it hW (fun i acc H' => Same H2 H' ∧ acc = ((xs.take i).map (·.1)).map V.int) (fun D hD => ⟨upd_free (Same.refl _) hD, rfl⟩) (fun i acc H' hi p => hG _ p.1) (fun acc D H3 hD hp p => ?_) (fun i x acc H' H'' D hi hD hp p y => ?_)
                  rotate_left 1
                  · obtain ⟨s2, rfl⟩ := p
                    obtain ⟨rfl, hx⟩ := y
                    have hi' : i < ps.length := by simpa using hi
                    have ex : x = .ref ps[i] := by
                      rw [List.getElem?_map, List.getElem?_eq_getElem hi'] at hx
                      exact (Option.some.inj hx).symm
                    subst ex
                    have hv := (pa_ s2 hP1).at (show i < xs.length by omega)
                    refine ⟨rfl, ?_⟩
                    walk_at "go"
                    refine ⟨_, hp, lt_size (by simp; omega), _, upd_same, upd_free s2 hD, ?_⟩
                    rw [List.take_add_one, List.getElem?_eq_getElem (show i < xs.length by omega), List.map_append, List.map_append]; rfl
                  · obtain ⟨s2, rfl⟩ := p
                    rw [show xs.take (ps.map V.ref).length = xs from List.take_of_length_le (by simp; omega)] at hp
                    have ek : comOk xs (.int c) = decide (c ∈ xs.map (·.1)) := by show (true && _) = _; rfl
                    walk_at "go"
                    refine i_d (fun q2 => ?_) (fun q2 => ?_)
                    · walk_at "go"
                      refine n_new (le_size (by simp)) fun p H4 n4 s4 h4 => ?_
                      exact no (by rw [ek]; exact decide_eq_false q2) p H4 (free_ s2 n4) (s2.trans s4) h4
                    · walk_at "go"
                      refine ⟨s2, ?_⟩
                      rw [ek, decide_eq_true (Classical.not_not.mp q2)]
                      simp
              · walk_at "go"
                exact ⟨Same.refl _, by rw [decide_eq_false q]; rfl⟩
            · rintro σ3 H3 ⟨s3, e3⟩
              rw [e3] at e2
              walk_at "go"
              have k := k H3 (s1.trans s3)
              rw [e2] at k
              exact k
end



section
variable {P : Program} {w : World} {K : PySem.W.Frag} {mg : Str → Option Value} {base : Heap}
def sp_lawneeded (K : PySem.W.Frag) : Sp := fun vs H Q _ => ∃ (a : Addr) (ps : List Addr) (xs : List (Int × Option Int)) (b : Addr) (ns : List Int), vs = [.ref a, .ref b] ∧ SqX K H a (ps.map V.ref) ∧ PairsAt K H ps xs ∧ Valid xs ∧ SqT K H b (ns.map V.int) ∧
  ∀ p H', H p = none → Same H H' → H' p = some (.tup ((keepC (dueS xs ns) xs).map V.int)) → Q (.ref p) H'
theorem ok_law_needed (T : Txt K mg) : FnOk P w K mg base CX0 1 T.law_needed.f T.law_needed.fd ["versions", "open_lot"] (sp_lawneeded K) := by
  refine T.law_needed.F.ok sc_law_needed (fun vs H Q E h => ?_) (fun cdv A outer s H vs Q E hr h => ?_)
  · obtain ⟨a, ps, xs, b, ns, rfl, _⟩ := h
    rfl
  · obtain ⟨a, ps, xs, b, ns, rfl, hS, hP, hV, hB, k⟩ := h
    refine ⟨_, (pss_cons (ps_set (i := 2) sc_law_needed.nd rfl (Or.inl rfl) (pe_lst pa_nil))
    (pss_cons (ps_for PassesOwn.never rfl (pi_range1 (by rfl) T.z_range (pa_cons (pe_callB (cLen (K := K)) (by rfl) T.z_len PySem.boot_len (pa_cons (pv 0) pa_nil)) pa_nil)) (pg_name (i := 3) sc_law_needed.nd rfl (Or.inl rfl))
      (pss_cons (ps_set (i := 4) sc_law_needed.nd rfl (Or.inl rfl) (pe_op op_sub (pe_op op_sub (pe_callB (cLen (K := K)) (by rfl) T.z_len PySem.boot_len (pa_cons (pv 0) pa_nil)) pe_int) (pv 3)))
    (pss_cons (ps_set (i := 5) sc_law_needed.nd rfl (Or.inl rfl) (pe_cmpR (oEq (K := K) hr.units) (pv 4) pe_int (nomark _)))
    (pss_cons (ps_for PassesOwn.never rfl (piT (K := K) (pv 1)) (pg_name (i := 6) sc_law_needed.nd rfl (Or.inl rfl))
      (pss_one (ps_if (PW.pt (pw_and (pt_cmpR op_le (pe_ix (ixLT (K := K)) (pe_ix (ixLT (K := K)) (pv 0) (pv 4) (fun _ _ => rfl)) pe_int (fun _ _ => rfl)) (pv 6) (nomark _)) (pw_and1 (PW.pt (pw_or (pt_cmpR (oEq (K := K) hr.units) (pv 4) pe_int (nomark _)) (pw_or1 (pt_cmpR oLt (pv 6) (pe_ix (ixLT (K := K)) (pe_ix (ixLT (K := K)) (pv 0) (pe_op op_sub (pv 4) pe_int) (fun _ _ => rfl)) pe_int (fun _ _ => rfl)) (nomark _)))))))) (pss_one (ps_set (i := 5) sc_law_needed.nd rfl (Or.inl rfl) pe_bl)) pss_nil)))
    (pss_one (ps_if (PW.pt (pw_and (ptTruth (K := K) (pv 5) (by intro _; rfl)) (pw_and1 (PW.pt (pw_or (pt_cmpR oNotN (pe_ix (ixLT (K := K)) (pe_ix (ixLT (K := K)) (pv 0) (pv 4) (fun _ _ => rfl)) pe_int (fun _ _ => rfl)) pe_non (nomark _)) (pw_or1 (pt_cmpR op_gt (pe_callB (cLen (K := K)) (by rfl) T.z_len PySem.boot_len (pa_cons (pv 2) pa_nil)) pe_int (nomark _)))))))) (pss_one (ps_expr (peApp (K := K) (pe_bm PySem.F.plainAttrs_list PySem.F.slot_list_append PySem.F.type_list_append mt_append (pv 2) (pa_cons (pe_ix (ixLT (K := K)) (pe_ix (ixLT (K := K)) (pv 0) (pv 4) (fun _ _ => rfl)) pe_int (fun _ _ => rfl)) pa_nil))))) pss_nil))))))
    (pss_one (ps_ret (pe_callTy (cTupOf (K := K)) (by rfl) T.z_tuple (by decide +kernel) (pa_cons (pv 2) pa_nil)))))), ?_⟩
    walk_at "go"
    refine n_new (le_size (by simp)) fun f H1 n1 s1 h1 => ?_
    have hS1 := sx_ s1 hS
    walk_at "go"
    have few := hV.few
    refine e_lenX (f := V.ref) hS1 ?_
    walk_at "go"
    refine i_rng ps.length (by omega) (by omega) (by have := hP.1; omega) ?_
    refine l_rng (fun i σ H' => (∃ y3 y4 y5 y6, σ = [some (.ref a), some (.ref b), some (.ref f), y3, y4, y5, y6]) ∧ Same H H' ∧ H' f = some (.lst (((xs.reverse.take i).foldl (keepF (dueS xs ns)) []).map V.int))) ⟨⟨none, none, none, none, rfl⟩, s1, h1⟩ (fun σ H' p => ?_) (fun i σ H' hi p => ?_)
    · obtain ⟨⟨y3, y4, y5, y6, rfl⟩, s5, h5⟩ := p
      have e5 : xs.reverse.take ps.length = xs.reverse := by
        rw [hP.1]
        exact List.take_of_length_le (by simp)
      rw [e5] at h5
      walk_at "go"
      refine n_new0 fun q H6 n6 s6 h6 => ?_
      exact k q H6 (free_ s5 n6) (s5.trans s6) h6
    · obtain ⟨⟨y3, y4, y5, y6, rfl⟩, s5, h5⟩ := p
      have hlen : ps.length = xs.length := hP.1
      have hj : xs.length - 1 - i < xs.length := by omega
      have er : xs.reverse[i]? = some xs[xs.length - 1 - i] := by
        rw [List.getElem?_reverse (by omega), List.getElem?_eq_getElem hj]
      have et : (xs.reverse.take (i + 1)).foldl (keepF (dueS xs ns)) [] = keepF (dueS xs ns) ((xs.reverse.take i).foldl (keepF (dueS xs ns)) []) xs[xs.length - 1 - i] := by
        rw [List.take_add_one, er, List.foldl_append]; rfl
      have hl2 := foldl_keep_len (dueS xs ns) (xs.reverse.take i) []
      have hacc : ((xs.reverse.take i).foldl (keepF (dueS xs ns)) []).length < 5000 := by simp at hl2; omega
      generalize (xs.reverse.take i).foldl (keepF (dueS xs ns)) [] = acc1 at *
      have eD := dueS_at hV hj ns
      have hS5 := sx_ s5 hS
      have hP5 := pa_ s5 hP
      have hB5 := st_ s5 hB
      have hv := hP5.at hj
      have ej : (((ps.length : Nat) : Int) - 1 - (i : Nat)) = ((xs.length - 1 - i : Nat) : Int) := by omega
      generalize hjj : xs.length - 1 - i = j at *
      walk_at "go"
      refine e_lenX (f := V.ref) hS5 ?_
      walk_at "go"
      rw [ej]
      have ej0 : decide (((j : Nat) : Int) = 0) = decide (j = 0) := by
        by_cases q : j = 0
        · rw [decide_eq_true q, decide_eq_true (by omega)]
        · rw [decide_eq_false q, decide_eq_false (by omega)]
      rw [ej0]
      refine i_tup hB5 ?_
      refine l_tup (xs := ns.map V.int) (fun m σ H2 => (∃ y7, σ = [some (.ref a), some (.ref b), some (.ref f), some (.int (i : Nat)), some (.int (j : Nat)), some (.bl (decide (j = 0) || (ns.take m).any (isAt xs j))), y7]) ∧ H2 = H') ⟨⟨y6, by simp⟩, rfl⟩ (fun m σ H2 hm p => by rw [p.2]; exact hB5) (fun σ H2 p => ?_) (fun m x σ H2 hx p => ?_)
      · obtain ⟨⟨y7, rfl⟩, e2⟩ := p
        subst e2
        rw [List.length_map, List.take_length, ← eD]
        have app : keepF (dueS xs ns) acc1 xs[j] = acc1 ++ [xs[j].1] → ∀ H6, Oth f H2 H6 → H6 f = some (.lst (acc1.map V.int ++ [.int xs[j].1])) → Same H H6 ∧ H6 f = some (.lst (((xs.reverse.take (i + 1)).foldl (keepF (dueS xs ns)) []).map V.int)) := fun ek H6 o6 h6 => ⟨same_oth n1 s5 o6, by rw [h6, et, ek, List.map_append]; rfl⟩
        have skip : keepF (dueS xs ns) acc1 xs[j] = acc1 → H2 f = some (.lst (((xs.reverse.take (i + 1)).foldl (keepF (dueS xs ns)) []).map V.int)) := fun ek => by rw [h5, et, ek]
        cases e1 : dueS xs ns xs[j].1 with
        | false =>
          walk_at "go"
          exact ⟨⟨_, _, _, _, rfl⟩, s5, skip (by unfold keepF; rw [e1]; rfl)⟩
        | true =>
          walk_at "go"
          refine o_ixX hS5 (atI_ref j rfl (by omega)) ?_
          cases e2 : xs[j].2 with
          | some z =>
            rw [e2] at hv
            walk_at "go"
            refine o_ixX hS5 (atI_ref j rfl (by omega)) ?_
            walk_at "go"
            refine r_app h5 (by simp; omega) fun H6 o6 h6 => ⟨⟨_, _, _, _, rfl⟩, app (by unfold keepF; rw [e1, e2]; rfl) H6 o6 h6⟩
          | none =>
            rw [e2] at hv
            walk_at "go"
            cases acc1 with
            | nil =>
              walk_at "go"
              exact ⟨⟨_, _, _, _, rfl⟩, s5, skip (by unfold keepF; rw [e1, e2]; rfl)⟩
            | cons z r =>
              walk_at "go"
              refine o_ixX hS5 (atI_ref j rfl (by omega)) ?_
              walk_at "go"
              refine r_app h5 (by simp at *; omega) fun H6 o6 h6 => ⟨⟨_, _, _, _, rfl⟩, app (by unfold keepF; rw [e1, e2]; rfl) H6 o6 h6⟩
      · obtain ⟨⟨y7, rfl⟩, e2⟩ := p
        subst e2
        have hm : m < ns.length := by
          have := (List.getElem?_eq_some_iff.mp hx).1
          simpa using this
        have ex : x = .int ns[m] := by
          rw [List.getElem?_map, List.getElem?_eq_getElem hm] at hx
          exact (Option.some.inj hx).symm
        subst ex
        have ea : (ns.take (m + 1)).any (isAt xs j) = ((ns.take m).any (isAt xs j) || isAt xs j ns[m]) := by
          rw [List.take_add_one, List.getElem?_eq_getElem hm, List.any_append]; simp
        have yes : isAt xs j ns[m] = true → (decide (j = 0) || (ns.take (m + 1)).any (isAt xs j)) = true := fun q => by rw [ea, q]; simp
        have no : isAt xs j ns[m] = false → (decide (j = 0) || (ns.take (m + 1)).any (isAt xs j)) = (decide (j = 0) || (ns.take m).any (isAt xs j)) := fun q => by rw [ea, q]; simp
        have ei : isAt xs j ns[m] = (decide (xs[j].1 ≤ ns[m]) && (decide (j = 0) || decide (ns[m] < (xs.getD (j - 1) (0, none)).1))) := by unfold isAt; rw [getD_at hj]
        walk_at "go"
        refine o_ixX hS5 (atI_ref j rfl (by omega)) ?_
        walk_at "go"
        refine i_d (fun q1 => ?_) (fun q1 => ?_)
        · walk_at "go"
          refine i_d (fun q2 => ?_) (fun q2 => ?_)
          · walk_at "go"
            refine ⟨⟨some (.int ns[m]), ?_⟩, rfl⟩
            rw [yes (by rw [ei, decide_eq_true q1, decide_eq_true (show j = 0 by omega)]; rfl)]; rfl
          · have hj1 : j - 1 < xs.length := by omega
            have hv1 := hP5.at hj1
            walk_at "go"
            refine o_ixX hS5 (atI_ref (j - 1) (by omega) (by omega)) ?_
            walk_at "go"
            rw [getD_at hj1] at ei
            refine i_d (fun q3 => ?_) (fun q3 => ?_)
            · walk_at "go"
              refine ⟨⟨some (.int ns[m]), ?_⟩, rfl⟩
              rw [yes (by rw [ei, decide_eq_true q1, decide_eq_true q3]; simp)]; rfl
            · walk_at "go"
              refine ⟨⟨some (.int ns[m]), ?_⟩, rfl⟩
              rw [no (by rw [ei, decide_eq_true q1, decide_eq_false q3, decide_eq_false (show ¬ j = 0 by omega)]; rfl)]; rfl
        · walk_at "go"
          refine ⟨⟨some (.int ns[m]), ?_⟩, rfl⟩
          rw [no (by rw [ei, decide_eq_false q1]; rfl)]; rfl
/-! ### what a snapshot reads -/
def readV (xs : List (Int × Option Int)) (s : Int) : Int := (toldAt xs s).getD 0
theorem told_pos {xs : List (Int × Option Int)} (hV : Valid xs) {s c : Int} (h : toldAt xs s = some c) : 1 ≤ c := by
  unfold toldAt at h
  cases e : xs[fi xs s]? with
  | none => rw [e] at h; cases h
  | some v =>
    rw [e] at h
    obtain ⟨d, m⟩ := v
    cases m with
    | none => cases h
    | some z =>
      cases h
      exact (hV.comm _ (List.mem_of_getElem? e)).1
theorem read_eq {xs ys : List (Int × Option Int)} (h1 : Valid xs) (h2 : Valid ys) (s : Int) : decide (readV xs s = readV ys s) = decide (toldAt xs s = toldAt ys s) := by
  unfold readV
  cases e1 : toldAt xs s with
  | none =>
    cases e2 : toldAt ys s with
    | none => rfl
    | some d =>
      have := told_pos h2 e2
      rw [decide_eq_false (show ¬ (none : Option Int).getD 0 = (some d).getD 0 by show ¬ (0 : Int) = d; omega), decide_eq_false (by simp)]
  | some c =>
    have := told_pos h1 e1
    cases e2 : toldAt ys s with
    | none => rw [decide_eq_false (show ¬ (some c).getD 0 = (none : Option Int).getD 0 by show ¬ c = (0 : Int); omega), decide_eq_false (by simp)]
    | some d =>
      show decide (c = d) = decide (some c = some d)
      simp
theorem g_nm {σ : L2.St} {H : Hp} {i : Nat} {x : V} {R : L2.St → Hp → Prop} (q : R (σ.set i (some x)) H) : gName i x σ H R := q
def sp_law_read (K : PySem.W.Frag) : Sp := fun vs H Q _ => ∃ a ps xs s, vs = [.ref a, .int s] ∧ SqX K H a (ps.map V.ref) ∧ PairsAt K H ps xs ∧ xs.length ≤ 1000 ∧ Q (.int (readV xs s)) H
theorem ok_law_read (T : Txt K mg) : FnOk P w K mg base CX0 1 T.law_read.f T.law_read.fd ["versions", "snapshot"] (sp_law_read K) := by
  refine T.law_read.F.ok sc_law_read (fun vs H Q E h => ?_) (fun cdv A outer s H vs Q E hr h => ?_)
  · obtain ⟨a, ps, xs, s, rfl, _⟩ := h
    rfl
  · obtain ⟨a, ps, xs, sn, rfl, hS, hP, few, k⟩ := h
    refine ⟨_, (pss_cons (ps_for PassesOwn.never rfl (piX (K := K) (pv 0)) (pg_name (i := 2) sc_law_read.nd rfl (Or.inl rfl))
      (pss_one (ps_if (pt_cmpR op_le (pe_ix (ixLT (K := K)) (pv 2) pe_int (fun _ _ => rfl)) (pv 1) (nomark _)) (pss_cons (ps_if (pt_cmpR oIsN (pe_ix (ixLT (K := K)) (pv 2) pe_int (fun _ _ => rfl)) pe_non (nomark _)) (pss_one (ps_ret pe_int)) pss_nil)
    (pss_one (ps_ret (pe_ix (ixLT (K := K)) (pv 2) pe_int (fun _ _ => rfl))))) pss_nil)))
    (pss_one (ps_ret pe_int))), ?_⟩
    walk_at "go"
    have hlen : ps.length = xs.length := hP.1
    refine i_orX rfl hS (Same.refl _) fun J G hG hW => ?_
    refine l_it hW (fun i σ H2 => (∃ y2, σ = [some (.ref a), some (.int sn), y2]) ∧ H2 = H ∧ ∀ j, (hj : j < xs.length) → j < i → ¬ xs[j].1 ≤ sn) ⟨⟨none, rfl⟩, rfl, fun j _ hj => absurd hj (Nat.not_lt_zero _)⟩ (fun i σ H2 hi p => by rw [p.2.1]; exact hG _ (Same.refl _)) (fun σ H2 p => ?_) (fun i x σ H2 H3 hi p y => ?_)
    · obtain ⟨⟨y2, rfl⟩, rfl, b⟩ := p
      have e0 : readV xs sn = 0 := by
        unfold readV toldAt
        have : fi xs sn = xs.length := by
          unfold fi
          rw [List.findIdx_eq_length]
          intro v hv
          obtain ⟨j, hj, ej⟩ := List.getElem_of_mem hv
          have := b j hj (by rw [List.length_map]; omega)
          rw [← ej]
          exact decide_eq_false this
        rw [this, List.getElem?_eq_none (Nat.le_refl _)]; rfl
      rw [e0] at k
      walk_at "go"
      exact k
    · obtain ⟨⟨y2, rfl⟩, rfl, b⟩ := p
      obtain ⟨rfl, hx⟩ := y
      have hi' : i < ps.length := by simpa using hi
      have ex : x = .ref ps[i] := by
        rw [List.getElem?_map, List.getElem?_eq_getElem hi'] at hx
        exact (Option.some.inj hx).symm
      subst ex
      have hix : i < xs.length := by omega
      have hv := hP.at hix
      refine g_nm ?_
      walk_at "go"
      refine i_d (fun q => ?_) (fun q => ?_)
      · have ef : fi xs sn = i := by
          refine Nat.le_antisymm (fi_min hix q) (Nat.not_lt.mp fun z => ?_)
          have hl : fi xs sn < xs.length := by omega
          exact b _ hl z (fi_at hl)
        have er : readV xs sn = (toldV (some xs[i])).getD 0 := by unfold readV toldAt; rw [ef, List.getElem?_eq_getElem hix]
        rw [er] at k
        generalize xs[i] = v at *
        obtain ⟨c, m⟩ := v
        cases m with
        | none =>
          walk_at "go"
          exact k
        | some z =>
          walk_at "go"
          exact k
      · walk_at "go"
        refine ⟨⟨_, rfl⟩, rfl, fun j hj hji => ?_⟩
        by_cases z : j = i
        · subst z; exact q
        · exact b j hj (by omega)
end



section
variable {P : Program} {w : World} {K : PySem.W.Frag} {mg : Str → Option Value} {base : Heap}
def sp_law_value (K : PySem.W.Frag) : Sp := fun vs H Q _ => ∃ which a ps xs b ns l u, vs = [.int which, .ref a, .ref b, .int l, u] ∧ GoodQ K H a ps xs b ns l ∧
  (which = 0 → ∀ p H', H p = none → Same H H' → H' p = some (.tup ((keepC (dueS xs ns) xs).map V.int)) → Q (.ref p) H') ∧
  (which = 1 → Q (.bl true) H) ∧
  (which ≠ 0 → which ≠ 1 → ∃ c, u = .int c ∧ ∀ H', Same H H' → Q (optV (harmV xs (othersOf xs c) (askL ns l))) H')
theorem ok_law_value (T : Txt K mg) : FnOk P w K mg base CX0 2 T.law_value.f T.law_value.fd ["which", "versions", "open_lot", "last", "commit"] (sp_law_value K) := by
  refine T.law_value.F.ok sc_law_value (fun vs H Q E h => ?_) (fun cdv A outer s H vs Q E hr h => ?_)
  · obtain ⟨which, a, ps, xs, b, ns, l, u, rfl, _⟩ := h
    rfl
  · obtain ⟨which, a, ps, xs, b, ns, l, u, rfl, g, k0, k1, k2⟩ := h
    refine ⟨_, (pss_cons (ps_if (pt_cmpR (oEq (K := K) hr.units) (pv 0) pe_int (nomark _)) (pss_one (ps_ret (pe_call (ok_law_needed T) (hr.mono (by decide)) (by rfl) T.law_needed.g T.law_needed.F.kp T.law_needed.b .nil pass0 (pa_cons (pv 1) (pa_cons (pv 2) pa_nil))))) pss_nil)
    (pss_cons (ps_if (pt_cmpR (oEq (K := K) hr.units) (pv 0) pe_int (nomark _)) (pss_one (ps_ret pe_bl)) pss_nil)
    (pss_cons (ps_setLc (i := 5) (own := [("pair", 7)]) rfl sc_law_value.nd rfl rfl (sw_true rfl rfl rfl (by decide +kernel)) (piX (K := K) (pv 1)) (blkOk_by (N := n_law_value) (sc := defScope s_law_value) (by decide +kernel)) (fun _ _ _ _ _ => (pg_name (i := 7) sc_law_value.nd rfl (Or.inl rfl))) (fun _ _ _ _ _ => (pts_one (pt_cmpR (oNe (K := K) hr.units) (pe_ix (ixLT (K := K)) (pv 7) pe_int (fun _ _ => rfl)) (pv 4) (nomark _)))) (fun _ _ _ _ _ => (pv 7)))
    (pss_cons (ps_for PassesOwn.never rfl (piL (K := K) (pe_op oAdd (pe_lc (own := [("one", 8)]) rfl sc_law_value.nd (piT (K := K) (pv 2)) (blkOk_by (N := n_law_value) (sc := defScope s_law_value) (by decide +kernel)) (fun _ _ _ _ _ => (pg_name (i := 8) sc_law_value.nd rfl (Or.inl rfl))) (fun _ _ _ _ _ => (pts_one (pt_cmpR oLt (pv 8) (pv 3) (nomark _)))) (fun _ _ _ _ _ => (pv 8))) (pe_lst (pa_cons (pv 3) pa_nil)))) (pg_name (i := 6) sc_law_value.nd rfl (Or.inl rfl))
      (pss_one (ps_if (pt_cmpR (oNe (K := K) hr.units) (pe_call (ok_law_read T) (hr.mono (by decide)) (by rfl) T.law_read.g T.law_read.F.kp T.law_read.b .nil pass0 (pa_cons (pv 1) (pa_cons (pv 6) pa_nil))) (pe_call (ok_law_read T) (hr.mono (by decide)) (by rfl) T.law_read.g T.law_read.F.kp T.law_read.b .nil pass0 (pa_cons (pv 5) (pa_cons (pv 6) pa_nil))) (nomark _)) (pss_one (ps_ret (pv 6))) pss_nil)))
    (pss_one (ps_ret pe_non)))))), ?_⟩
    walk_at "go"
    refine i_d (fun q0 => ?_) (fun q0 => ?_)
    · walk_at "go"
      exact ⟨a, ps, xs, b, ns, rfl, g.hS, g.hP, g.hV, g.hB, fun p H' n s h => k0 q0 p H' n s h⟩
    · walk_at "go"
      refine i_d (fun q1 => ?_) (fun q1 => ?_)
      · walk_at "go"
        exact k1 q1
      · obtain ⟨c, rfl, k⟩ := k2 q0 q1
        have hS1 := g.hS
        have hP1 := g.hP
        have few := g.hV.few
        have hlen : ps.length = xs.length := g.hP.1
        have nl := g.n
        walk_at "go"
        refine i_orX rfl hS1 (Same.refl _) fun J G hG hW => ?_
        refine c_it hW (fun i acc H' => Same H H' ∧ acc = ((((ps.zip xs).take i).filter fun z => !decide (z.2.1 = c)).map (·.1)).map V.ref) (fun D hD => ⟨upd_free (Same.refl _) hD, rfl⟩) (fun i acc H' hi p => hG _ p.1) (fun acc D2 H3 hD2 hp2 p => ?_) (fun i x acc H' H'' D2 hi hD2 hp2 p y => ?_)
        rotate_left 1
        · obtain ⟨s3, rfl⟩ := p
          obtain ⟨rfl, hx⟩ := y
          have hi' : i < ps.length := by simpa using hi
          have ex : x = .ref ps[i] := by
            rw [List.getElem?_map, List.getElem?_eq_getElem hi'] at hx
            exact (Option.some.inj hx).symm
          subst ex
          have hzz : (ps.zip xs)[i]? = some (ps[i], xs[i]) := by rw [List.getElem?_zip_eq_some]; exact ⟨List.getElem?_eq_getElem hi', List.getElem?_eq_getElem (by omega)⟩
          have hv := (pa_ s3 hP1).at (show i < xs.length by omega)
          have few2 : ((ps.zip xs).take i).length ≤ 1000 := by simp; omega
          refine ⟨rfl, ?_⟩
          walk_at "go"
          refine i_d (fun q => ?_) (fun q => ?_)
          rotate_left 1
          · have q : xs[i].1 = c := Classical.not_not.mp q
            refine ⟨_, hp2, s3, ?_⟩
            rw [List.take_add_one, hzz, List.filter_append, List.map_append, List.map_append]
            have e : List.filter (fun z : Addr × (Int × Option Int) => !decide (z.2.1 = c)) [(ps[i], xs[i])] = [] := by rw [List.filter_cons, if_neg (by simpa using q)]; rfl
            show _ = _ ++ List.map V.ref (List.map (·.1) (List.filter _ [(ps[i], xs[i])]))
            rw [e]; simp
          · walk_at "go"
            refine ⟨_, hp2, lt_size (by have := List.length_filter_le (fun z : Addr × (Int × Option Int) => !decide (z.2.1 = c)) ((ps.zip xs).take i); simp at *; omega), _, upd_same, upd_free s3 hD2, ?_⟩
            rw [List.take_add_one, hzz, List.filter_append, List.map_append, List.map_append]
            have e : List.filter (fun z : Addr × (Int × Option Int) => !decide (z.2.1 = c)) [(ps[i], xs[i])] = [(ps[i], xs[i])] := by rw [List.filter_cons, if_pos (by simpa using q)]; rfl
            show _ = _ ++ List.map V.ref (List.map (·.1) (List.filter _ [(ps[i], xs[i])]))
            rw [e]; rfl
        · obtain ⟨s3, rfl⟩ := p
          rw [show (ps.zip xs).take (ps.map V.ref).length = ps.zip xs from List.take_of_length_le (by simp; omega)] at hp2
          have PK := pairs_zip (pa_ s3 hP1) ((ps.zip xs).filter fun z => !decide (z.2.1 = c)) fun z hz => (List.mem_filter.mp hz).1
          rw [others_zip hlen] at PK
          generalize hkp : ((ps.zip xs).filter fun z => !decide (z.2.1 = c)).map (·.1) = kp at *
          have hVK : Valid (othersOf xs c) := g.hV.sub List.filter_sublist
          have hB3 := st_ s3 g.hB
          walk_at "go"
          refine i_tup hB3 ?_
          refine c_tup (xs := ns.map V.int) (fun i acc H' => Same H3 H' ∧ acc = ((ns.take i).filter fun z => decide (z < l)).map V.int) (fun D hD => ⟨upd_free (Same.refl _) hD, rfl⟩) (fun i acc H' hi p => st_ p.1 hB3) (fun acc D4 H4 hD4 hp4 p => ?_) (fun _ => rfl) (fun i x acc H4 D4 hx hD4 hp4 p => ?_)
          rotate_left 1
          · obtain ⟨s4, rfl⟩ := p
            have hi : i < ns.length := by
              have := (List.getElem?_eq_some_iff.mp hx).1
              simpa using this
            have ex : x = .int ns[i] := by
              rw [List.getElem?_map, List.getElem?_eq_getElem hi] at hx
              exact (Option.some.inj hx).symm
            subst ex
            walk_at "go"
            refine i_d (fun q => ?_) (fun q => ?_)
            · walk_at "go"
              refine ⟨_, hp4, lt_size (by have := List.length_filter_le (fun z : Int => decide (z < l)) (ns.take i); simp at *; omega), _, upd_same, upd_free s4 hD4, ?_⟩
              rw [List.take_add_one, List.getElem?_eq_getElem hi, List.filter_append, List.map_append]
              show _ = _ ++ List.map V.int (List.filter _ [ns[i]])
              rw [List.filter_cons, if_pos (decide_eq_true q)]; rfl
            · refine ⟨_, hp4, s4, ?_⟩
              rw [List.take_add_one, List.getElem?_eq_getElem hi, List.filter_append, List.map_append]
              show _ = _ ++ List.map V.int (List.filter _ [ns[i]])
              rw [List.filter_cons, if_neg (by simpa using q)]; simp
          · obtain ⟨s4, rfl⟩ := p
            rw [List.length_map, List.take_length] at hp4
            walk_at "go"
            refine n_new (le_size (by simp)) fun p5 H5 n5 s5 h5 => ?_
            have fl := List.length_filter_le (fun z : Int => decide (z < l)) ns
            walk_at "go"
            refine o_cat (at_ s5 hp4) h5 (by simp; omega) (n_new0 fun p6 H6 n6 s6 h6 => ?_)
            have ea : (ns.filter fun z => decide (z < l)).map V.int ++ [V.int l] = (askL ns l).map V.int := by unfold askL; rw [List.map_append]; rfl
            rw [ea] at h6
            generalize eas : askL ns l = as at *
            have s06 := s3.trans (s4.trans (s5.trans s6))
            have s36 := s4.trans (s5.trans s6)
            have hSk := sl_ s36 (show SqL K H3 D2 (kp.map V.ref) from slO hp2)
            walk_at "go"
            refine i_lst (slO h6) ?_
            refine l_it walk_list (fun i σ H' => (∃ y6 y7 y8, σ = [some (.int which), some (.ref a), some (.ref b), some (.int l), some (.int c), some (.ref D2), y6, y7, y8]) ∧ H' = H6 ∧ ∀ s ∈ as.take i, toldAt xs s = toldAt (othersOf xs c) s) ⟨⟨none, none, none, rfl⟩, rfl, by simp⟩ (fun i σ H' hi p => by rw [p.2.1]; exact slO h6) (fun σ H' p => ?_) (fun i x σ H' H'' hi p y => ?_)
            · obtain ⟨⟨y6, y7, y8, rfl⟩, rfl, hal⟩ := p
              rw [List.length_map, List.take_length] at hal
              walk_at "go"
              have eh : harmV xs (othersOf xs c) as = none := by
                unfold harmV
                rw [List.find?_eq_none]
                intro s hs
                rw [hal s hs]; simp
              have k := k _ s06
              rw [eh] at k
              exact k
            · obtain ⟨⟨y6, y7, y8, rfl⟩, rfl, hal⟩ := p
              obtain ⟨rfl, hx⟩ := y
              have hi' : i < as.length := by simpa using hi
              have ex : x = .int as[i] := by
                rw [List.getElem?_map, List.getElem?_eq_getElem hi'] at hx
                exact (Option.some.inj hx).symm
              subst ex
              refine g_nm ?_
              walk_at "go"
              refine ⟨a, ps, xs, as[i], rfl, sx_ s06 hS1, pa_ s06 hP1, few, ?_⟩
              walk_at "go"
              refine ⟨D2, kp, othersOf xs c, as[i], rfl, .inl hSk, pa_ s36 PK, hVK.few, ?_⟩
              walk_at "go"
              have er := read_eq g.hV hVK as[i]
              refine i_d (fun q => ?_) (fun q => ?_)
              · have qt : ¬ toldAt xs as[i] = toldAt (othersOf xs c) as[i] := of_decide_eq_false (by rw [← er]; exact decide_eq_false q)
                walk_at "go"
                have eh : harmV xs (othersOf xs c) as = some as[i] := by
                  unfold harmV
                  rw [List.find?_eq_some_iff_getElem]
                  refine ⟨by simpa using qt, i, hi', rfl, fun j hj => ?_⟩
                  have := hal as[j] (List.mem_take_iff_getElem.mpr ⟨j, by omega, rfl⟩)
                  rw [this]; simp
                have k := k _ s06
                rw [eh] at k
                exact k
              · have qt : toldAt xs as[i] = toldAt (othersOf xs c) as[i] := of_decide_eq_true (by rw [← er]; exact decide_eq_true (Classical.not_not.mp q))
                walk_at "go"
                refine ⟨⟨_, _, _, rfl⟩, rfl, fun s hs => ?_⟩
                rw [List.take_add_one, List.getElem?_eq_getElem hi'] at hs
                rcases List.mem_append.mp hs with hs | hs
                · exact hal s hs
                · cases List.mem_singleton.mp hs
                  exact qt
end



section
variable {P : Program} {w : World} {K : PySem.W.Frag} {mg : Str → Option Value} {base : Heap}
def XfQ (a : Addr) (k : Value) (d : Option Addr) (C : Addr) (f : Str) (Q : VK) (x : V) (H1 : Hp) : Prop := x = .ref a ∧ k = .ref C ∧ ∃ (dd : Addr) (fs : List (Str × V)) (v : V), d = some dd ∧ H1 dd = some (.xd fs) ∧ fs.lookup f = some v ∧ Q v H1
theorem e_xf {a : Addr} {k : Value} {d : Option Addr} {C : Addr} {f : Str} {i : Nat} {x : V} {σ : L2.St} {H : Hp} {Q : VK} (h : σ[i]? = some (some x) ∧ XfQ a k d C f Q x H) : tXf a k d C f (tVar i) σ H Q := ⟨x, h.1, h.2⟩
theorem e_offn {i : Nat} {D : Ends} {σ : L2.St} {H : Hp} (h : D.nx (σ.set i none) H) : (offI i D).nx σ H := h
theorem e_callS {sp : Sp} {E : L2.St → XK} {t : TA} {σ : L2.St} {H : Hp} {Q : VK} (h : t σ H fun vs H1 => sp vs H1 Q (E σ)) : tCallS sp E t σ H Q := h
def RfT : Rf → List V
  | .v i => [.str (Str.ofString "NoVersions"), .int i, .bl true]
  | .n => [.str (Str.ofString "NoNumber"), .int 0, .bl true]
  | .s => [.str (Str.ofString "NoSnapshots"), .int 0, .bl true]
def TellQ (H : Hp) (Q : VK) (vs : List V) : Prop := ∀ p H', H p = none → Same H H' → H' p = some (.tup vs) → Q (.ref p) H'
abbrev vTold : V := .str (Str.ofString "told")
def GoodA (K : PySem.W.Frag) (H : Hp) (Q : VK) (which : Int) (xs : List (Int × Option Int)) (ns : List Int) (l : Int) (u : V) : Prop :=
  (which = 0 → ∀ p q H', H p = none → Same H H' → H' p = some (.tup [vTold, .ref q]) → H' q = some (.tup ((keepC (seenC xs (ns ++ [l])) xs).map V.int)) → Q (.ref p) H') ∧
  (which = 1 → ∃ t ms, u = .ref t ∧ SqT K H t (ms.map V.int) ∧ ms.length ≤ 1000 ∧ lotB ms = true ∧ TellQ H Q [vTold, .bl (keptR xs (ns ++ [l]) ms)]) ∧
  (which ≠ 0 → which ≠ 1 → ∃ N du, Dq K N H u du ∧ (comOk xs du = false → TellQ H Q [.str (Str.ofString "NoVersion"), .int 0, .bl true]) ∧ (comOk xs du = true → TellQ H Q [vTold, optV (harmV xs (othersOf xs (toID du)) (askL ns l))]))
def sp_asked (K : PySem.W.Frag) : Sp := fun vs H Q _ => (∃ which a ps xs b ns l u, vs = [.int which, .ref a, .ref b, .int l, u] ∧ GoodQ K H a ps xs b ns l ∧ GoodA K H Q which xs ns l u) ∨ (∃ which x y z u N1 N2 N3 dv ds dl r, vs = [.int which, x, y, z, u] ∧ Dq K N1 H x dv ∧ Dq K N2 H y ds ∧ Dq K N3 H z dl ∧ SzD dv ∧ SzD ds ∧ refuse dv ds dl = some r ∧ TellQ H Q (RfT r))
theorem ok_law_asked (T : Txt K mg) : FnOk P w K mg base CX0 9 T.law_asked.f T.law_asked.fd ["which", "versions", "open_lot", "last", "thing"] (sp_asked K) := by
  refine T.law_asked.F.ok sc_law_asked (fun vs H Q E h => ?_) (fun cdv A outer s H vs Q E hr h => ?_)
  · rcases h with ⟨which, a, ps, xs, b, ns, l, u, rfl, _⟩ | ⟨which, x, y, z, u, N1, N2, N3, dv, ds, dl, r, rfl, _⟩ <;> rfl
  · rcases h with ⟨which, a, ps, xs, b, ns, l, u, rfl, g, k0, k1, k2⟩ | ⟨which, x, y, z, u, N1, N2, N3, dv, ds, dl, r, rfl, hv, hs, hd, z1, z2, er, k⟩
    · refine ⟨_, (pss_cons (ps_tells (i := 6) (n := "e") rfl rfl sc_law_asked.nd rfl rfl takes0 (fun W pn xe tk _ => (pss_one (ps_if (pt_cmpR (oEq (K := K) hr.units) (pv 0) pe_int (nomark _)) (pss_one (ps_set (i := 5) sc_law_asked.nd rfl (Or.inl rfl) (pe_tup (pa_cons pe_str (pa_cons (pe_callS (ok_needed T) (hr.mono (by decide)) (by rfl) T.needed.g T.needed.F.kp T.needed.b (fun σ => passAt tk σ) (pa_cons (pv 1) (pa_cons (pv 2) (pa_cons (pv 3) pa_nil)))) pa_nil))))) (pss_one (ps_if (pt_cmpR (oEq (K := K) hr.units) (pv 0) pe_int (nomark _)) (pss_one (ps_set (i := 5) sc_law_asked.nd rfl (Or.inl rfl) (pe_tup (pa_cons pe_str (pa_cons (pe_callS (ok_is_kept_right T) (hr.mono (by decide)) (by rfl) T.is_kept_right.g T.is_kept_right.F.kp T.is_kept_right.b (fun σ => passAt tk σ) (pa_cons (pv 1) (pa_cons (pv 2) (pa_cons (pv 3) (pa_cons (pv 4) pa_nil))))) pa_nil))))) (pss_one (ps_set (i := 5) sc_law_asked.nd rfl (Or.inl rfl) (pe_tup (pa_cons pe_str (pa_cons (pe_callS (ok_harm T) (hr.mono (by decide)) (by rfl) T.harm.g T.harm.F.kp T.harm.b (fun σ => passAt tk σ) (pa_cons (pv 1) (pa_cons (pv 2) (pa_cons (pv 3) (pa_cons (pv 4) pa_nil))))) pa_nil)))))))))) (.cons ⟨by rfl, by decide, .inl T.e_NoVersions.g⟩ (fun a oe k dd pn hz hf => (pss_one (ps_set (i := 5) sc_law_asked.nd rfl (Or.inl rfl) (pe_tup (pa_cons pe_str (pa_cons (pe_xf T.w_NoVersions T.a_NoVersions_index hz hf (pv 6)) (pa_cons (pe_callB (call_isEK T.x_NoVersions hz hf) (by rfl) T.z_isinstance (by decide +kernel) (pa_cons (pv 6) (pa_cons (C8.pe_gc (v := .ref T.N_StoreError) (by rfl) ⟨_, T.g_StoreError, rfl⟩) pa_nil))) pa_nil))))))) (.cons ⟨by rfl, by decide, .inl T.e_NoNumber.g⟩ (fun a oe k dd pn hz hf => (pss_one (ps_set (i := 5) sc_law_asked.nd rfl (Or.inl rfl) (pe_tup (pa_cons pe_str (pa_cons pe_int (pa_cons (pe_callB (call_isEK T.x_NoNumber hz hf) (by rfl) T.z_isinstance (by decide +kernel) (pa_cons (pv 6) (pa_cons (C8.pe_gc (v := .ref T.N_StoreError) (by rfl) ⟨_, T.g_StoreError, rfl⟩) pa_nil))) pa_nil))))))) (.cons ⟨by rfl, by decide, .inl T.e_NoSnapshots.g⟩ (fun a oe k dd pn hz hf => (pss_one (ps_set (i := 5) sc_law_asked.nd rfl (Or.inl rfl) (pe_tup (pa_cons pe_str (pa_cons pe_int (pa_cons (pe_callB (call_isEK T.x_NoSnapshots hz hf) (by rfl) T.z_isinstance (by decide +kernel) (pa_cons (pv 6) (pa_cons (C8.pe_gc (v := .ref T.N_StoreError) (by rfl) ⟨_, T.g_StoreError, rfl⟩) pa_nil))) pa_nil))))))) (.cons ⟨by rfl, by decide, .inl T.e_NoVersion.g⟩ (fun a oe k dd pn hz hf => (pss_one (ps_set (i := 5) sc_law_asked.nd rfl (Or.inl rfl) (pe_tup (pa_cons pe_str (pa_cons pe_int (pa_cons (pe_callB (call_isEK T.x_NoVersion hz hf) (by rfl) T.z_isinstance (by decide +kernel) (pa_cons (pv 6) (pa_cons (C8.pe_gc (v := .ref T.N_StoreError) (by rfl) ⟨_, T.g_StoreError, rfl⟩) pa_nil))) pa_nil))))))) .nil)))))
    (pss_one (ps_ret (pv 5)))), ?_⟩
      walk_at "go"
      refine i_d (fun q => ?_) (fun q => ?_)
      · walk_at "go"
        refine e_callS ?_
        walk_at "go"
        refine .inr ⟨a, ps, xs, b, l, ns, rfl, g, fun q1 H1 n1 s1 h1 => ?_⟩
        walk_at "go"
        refine n_new (le_size (by simp)) fun p H2 n2 s2 h2 => ?_
        walk_at "go"
        exact k0 q p q1 H2 (free_ s1 n2) (s1.trans s2) h2 (at_ s2 h1)
      · walk_at "go"
        refine i_d (fun q2 => ?_) (fun q2 => ?_)
        · obtain ⟨t, ms, rfl, hT, ml, hlo, k⟩ := k1 q2
          walk_at "go"
          refine e_callS ?_
          walk_at "go"
          refine .inr ⟨a, ps, xs, b, l, t, ns, ms, rfl, g, hT, ml, hlo, fun H1 s1 => ?_⟩
          walk_at "go"
          refine n_new (le_size (by simp)) fun p H2 n2 s2 h2 => ?_
          walk_at "go"
          exact k p H2 (free_ s1 n2) (s1.trans s2) h2
        · obtain ⟨N, du, hu, kn, ky⟩ := k2 q q2
          walk_at "go"
          refine e_callS ?_
          walk_at "go"
          refine .inr ⟨a, ps, xs, b, l, ns, u, N, du, rfl, g, hu, fun e H1 s1 => ?_, fun e H1 s1 => ?_⟩
          · refine ⟨false, T.xn_NoVersion_NoVersions, (fun z => nomatch z), fun _ => ⟨false, T.xn_NoVersion_NoNumber, (fun z => nomatch z), fun _ => ⟨false, T.xn_NoVersion_NoSnapshots, (fun z => nomatch z), fun _ => ⟨true, T.e_NoVersion.te, fun _ a ha => ?_, (fun z => nomatch z)⟩⟩⟩⟩
            walk_at "go"
            refine ⟨rfl, _, _, true, rfl, (fun u r => by cases r; rfl), T.ks_NoVersion, (fun _ e => nomatch e), ?_⟩
            walk_at "go"
            refine n_new (le_size (by simp)) fun p H2 n2 s3 h2 => ?_
            refine e_offn ?_
            walk_at "go"
            exact kn e p H2 (free_ s1 n2) (s1.trans s3) h2
          · walk_at "go"
            refine n_new (le_size (by simp)) fun p H2 n2 s2 h2 => ?_
            walk_at "go"
            exact ky e p H2 (free_ s1 n2) (s1.trans s2) h2
    · refine ⟨_, (pss_cons (ps_tells (i := 6) (n := "e") rfl rfl sc_law_asked.nd rfl rfl takes0 (fun W pn xe tk _ => (pss_one (ps_if (pt_cmpR (oEq (K := K) hr.units) (pv 0) pe_int (nomark _)) (pss_one (ps_set (i := 5) sc_law_asked.nd rfl (Or.inl rfl) (pe_tup (pa_cons pe_str (pa_cons (pe_callS (ok_needed T) (hr.mono (by decide)) (by rfl) T.needed.g T.needed.F.kp T.needed.b (fun σ => passAt tk σ) (pa_cons (pv 1) (pa_cons (pv 2) (pa_cons (pv 3) pa_nil)))) pa_nil))))) (pss_one (ps_if (pt_cmpR (oEq (K := K) hr.units) (pv 0) pe_int (nomark _)) (pss_one (ps_set (i := 5) sc_law_asked.nd rfl (Or.inl rfl) (pe_tup (pa_cons pe_str (pa_cons (pe_callS (ok_is_kept_right T) (hr.mono (by decide)) (by rfl) T.is_kept_right.g T.is_kept_right.F.kp T.is_kept_right.b (fun σ => passAt tk σ) (pa_cons (pv 1) (pa_cons (pv 2) (pa_cons (pv 3) (pa_cons (pv 4) pa_nil))))) pa_nil))))) (pss_one (ps_set (i := 5) sc_law_asked.nd rfl (Or.inl rfl) (pe_tup (pa_cons pe_str (pa_cons (pe_callS (ok_harm T) (hr.mono (by decide)) (by rfl) T.harm.g T.harm.F.kp T.harm.b (fun σ => passAt tk σ) (pa_cons (pv 1) (pa_cons (pv 2) (pa_cons (pv 3) (pa_cons (pv 4) pa_nil))))) pa_nil)))))))))) (.cons ⟨by rfl, by decide, .inl T.e_NoVersions.g⟩ (fun a oe k dd pn hz hf => (pss_one (ps_set (i := 5) sc_law_asked.nd rfl (Or.inl rfl) (pe_tup (pa_cons pe_str (pa_cons (pe_xf T.w_NoVersions T.a_NoVersions_index hz hf (pv 6)) (pa_cons (pe_callB (call_isEK T.x_NoVersions hz hf) (by rfl) T.z_isinstance (by decide +kernel) (pa_cons (pv 6) (pa_cons (C8.pe_gc (v := .ref T.N_StoreError) (by rfl) ⟨_, T.g_StoreError, rfl⟩) pa_nil))) pa_nil))))))) (.cons ⟨by rfl, by decide, .inl T.e_NoNumber.g⟩ (fun a oe k dd pn hz hf => (pss_one (ps_set (i := 5) sc_law_asked.nd rfl (Or.inl rfl) (pe_tup (pa_cons pe_str (pa_cons pe_int (pa_cons (pe_callB (call_isEK T.x_NoNumber hz hf) (by rfl) T.z_isinstance (by decide +kernel) (pa_cons (pv 6) (pa_cons (C8.pe_gc (v := .ref T.N_StoreError) (by rfl) ⟨_, T.g_StoreError, rfl⟩) pa_nil))) pa_nil))))))) (.cons ⟨by rfl, by decide, .inl T.e_NoSnapshots.g⟩ (fun a oe k dd pn hz hf => (pss_one (ps_set (i := 5) sc_law_asked.nd rfl (Or.inl rfl) (pe_tup (pa_cons pe_str (pa_cons pe_int (pa_cons (pe_callB (call_isEK T.x_NoSnapshots hz hf) (by rfl) T.z_isinstance (by decide +kernel) (pa_cons (pv 6) (pa_cons (C8.pe_gc (v := .ref T.N_StoreError) (by rfl) ⟨_, T.g_StoreError, rfl⟩) pa_nil))) pa_nil))))))) (.cons ⟨by rfl, by decide, .inl T.e_NoVersion.g⟩ (fun a oe k dd pn hz hf => (pss_one (ps_set (i := 5) sc_law_asked.nd rfl (Or.inl rfl) (pe_tup (pa_cons pe_str (pa_cons pe_int (pa_cons (pe_callB (call_isEK T.x_NoVersion hz hf) (by rfl) T.z_isinstance (by decide +kernel) (pa_cons (pv 6) (pa_cons (C8.pe_gc (v := .ref T.N_StoreError) (by rfl) ⟨_, T.g_StoreError, rfl⟩) pa_nil))) pa_nil))))))) .nil)))))
    (pss_one (ps_ret (pv 5)))), ?_⟩
      walk_at "go"
      refine i_d (fun q => ?_) (fun q => ?_)
      rotate_left 1
      walk_at "go"
      refine i_d (fun q2 => ?_) (fun q2 => ?_)
      all_goals walk_at "go"
      all_goals refine e_callS ?_
      all_goals walk_at "go"
      all_goals (first
        | refine .inl ⟨x, y, z, rfl, N1, N2, N3, dv, ds, dl, r, hv, hs, hd, z1, z2, er, ?_⟩
        | refine .inl ⟨x, y, z, u, rfl, N1, N2, N3, dv, ds, dl, r, hv, hs, hd, z1, z2, er, ?_⟩)
      all_goals (cases r with
        | v i =>
          intro H1 dd s1 nd
          refine ⟨true, T.e_NoVersions.te, fun _ a ha => ?_, fun z => nomatch z⟩
          have s2 : Same H1 (upd H1 dd (.xd [(Str.ofString "index", V.int i)])) := Same.new nd
          walk_at "go"
          refine e_xf ⟨rfl, rfl, rfl, dd, _, _, rfl, upd_same, rfl, ?_⟩
          walk_at "go"
          refine ⟨rfl, _, _, true, rfl, (fun u r => by cases r; rfl), T.ks_NoVersions, (fun _ e => by cases e; exact ⟨_, upd_same⟩), ?_⟩
          walk_at "go"
          refine n_new (le_size (by simp)) fun p H2 n2 s3 h2 => ?_
          refine e_offn ?_
          walk_at "go"
          exact k p H2 (free_ (s1.trans s2) n2) (s1.trans (s2.trans s3)) h2
        | n =>
          intro H1 s1
          refine ⟨false, T.xn_NoNumber_NoVersions, (fun z => nomatch z), fun _ => ⟨true, T.e_NoNumber.te, fun _ a ha => ?_, (fun z => nomatch z)⟩⟩
          walk_at "go"
          refine ⟨rfl, _, _, true, rfl, (fun u r => by cases r; rfl), T.ks_NoNumber, (fun _ e => nomatch e), ?_⟩
          walk_at "go"
          refine n_new (le_size (by simp)) fun p H2 n2 s3 h2 => ?_
          refine e_offn ?_
          walk_at "go"
          exact k p H2 (free_ s1 n2) (s1.trans s3) h2
        | s =>
          intro H1 s1
          refine ⟨false, T.xn_NoSnapshots_NoVersions, (fun z => nomatch z), fun _ => ⟨false, T.xn_NoSnapshots_NoNumber, (fun z => nomatch z), fun _ => ⟨true, T.e_NoSnapshots.te, fun _ a ha => ?_, (fun z => nomatch z)⟩⟩⟩
          walk_at "go"
          refine ⟨rfl, _, _, true, rfl, (fun u r => by cases r; rfl), T.ks_NoSnapshots, (fun _ e => nomatch e), ?_⟩
          walk_at "go"
          refine n_new (le_size (by simp)) fun p H2 n2 s3 h2 => ?_
          refine e_offn ?_
          walk_at "go"
          exact k p H2 (free_ s1 n2) (s1.trans s3) h2)
end



section
variable {P : Program} {w : World} {K : PySem.W.Frag} {mg : Str → Option Value} {base : Heap}
theorem shp {d : PyData} (l : PyData.canLay0 d = true) (h : d.depth ≤ 64) : SeqAt.shaped d = true := by
  unfold SeqAt.shaped
  rw [l, decide_eq_true h]; rfl
theorem o_eqSame {H : Hp} {Q : VK} {r : R2} {x y : V} {d : PyData} (h1 : Dp K H x d) (h2 : Dp K H y d) (l : PyData.canLay0 d = true) (dp : d.depth ≤ 20) (q : Q (.bl true) H) : rOr r (rEqD K) x y H Q := .inr ⟨d, d, h1, h2, shp l (by omega), shp l (by omega), by rw [SeqAt.eqv_refl _ l]; exact q⟩
theorem o_neSame {H : Hp} {Q : VK} {r : R2} {x y : V} {d : PyData} (h1 : Dp K H x d) (h2 : Dp K H y d) (l : PyData.canLay0 d = true) (dp : d.depth ≤ 20) (q : Q (.bl false) H) : rOr r (rNeD K) x y H Q := .inr ⟨d, d, h1, h2, shp l (by omega), shp l (by omega), by rw [SeqAt.eqv_refl _ l]; exact q⟩
theorem rf_due {which : Int} {dv ds dl du : PyData} {r : Rf} (e : refuse dv ds dl = some r) : ∃ nm i, dueW which dv ds dl du = some (nm, i) ∧ RfT r = [.str nm, .int i, .bl true] ∧ PyData.strOk nm = true := by
  unfold dueW
  rw [e]
  cases r with
  | v i => exact ⟨_, _, rfl, rfl, by decide +kernel⟩
  | n => exact ⟨_, _, rfl, rfl, by decide +kernel⟩
  | s => exact ⟨_, _, rfl, rfl, by decide +kernel⟩
theorem due_split {H H' : Hp} {Q : VK} {o : Option (Str × Int)} (h : ∀ due H2, Same H' H2 → ((o = none ∧ due = .non ∧ H2 = H') ∨ ∃ nm i p, o = some (nm, i) ∧ due = .ref p ∧ H2 p = some (.tup [.str nm, .int i, .bl true])) → Q due H2) : DueQ H H' Q o := by
  cases o with
  | none => exact h _ _ (Same.refl _) (.inl ⟨rfl, rfl, rfl⟩)
  | some u => exact fun p H2 n s e => h _ _ s (.inr ⟨u.1, u.2, p, rfl, rfl, e⟩)
theorem due_none {which : Int} {dv ds dl du : PyData} (e : dueW which dv ds dl du = none) : refuse dv ds dl = none := by
  cases er : refuse dv ds dl with
  | none => rfl
  | some r =>
    obtain ⟨nm, i, ed, _⟩ := rf_due (which := which) (du := du) er
    rw [ed] at e; cases e
theorem due_two {which : Int} {dv ds dl du : PyData} {u : Str × Int} (e : dueW which dv ds dl du = some u) (er : refuse dv ds dl = none) : which ≠ 1 := by
  intro q
  unfold dueW at e
  rw [er] at e
  have e : (if (decide (which = 2) && !comOkD dv du) = true then some (Str.ofString "NoVersion", (0 : Int)) else none) = some u := e
  rw [decide_eq_false (show ¬ which = 2 by omega), Bool.false_and, if_neg Bool.false_ne_true] at e
  cases e
theorem due_good {which : Int} {dv ds dl du : PyData} {xs : List (Int × Option Int)} (er : refuse dv ds dl = none) (ev : vsD dv = some (xs.map pairP)) : dueW which dv ds dl du = if (decide (which = 2) && !comOk xs du) = true then some (Str.ofString "NoVersion", 0) else none := by
  unfold dueW
  rw [er, com_pairs ev]
theorem pairP_inj : ∀ {xs ys : List (Int × Option Int)}, ys.map pairP = xs.map pairP → xs = ys
  | [], [], _ => rfl
  | [], _ :: _, e => by cases e
  | _ :: _, [], e => by cases e
  | (c, m) :: xs, (d, n) :: ys, e => by
    obtain ⟨e1, e2⟩ := List.cons.inj e
    rw [pairP_inj e2]
    unfold pairP at e1
    cases m <;> cases n <;> simp [markP] at e1 <;> simp [e1]
theorem ints_inj : ∀ {xs ys : List Int}, ys.map PyData.int = xs.map PyData.int → xs = ys
  | [], [], _ => rfl
  | [], _ :: _, e => by cases e
  | _ :: _, [], e => by cases e
  | a :: xs, b :: ys, e => by
    obtain ⟨e1, e2⟩ := List.cons.inj e
    rw [ints_inj e2]
    cases e1; rfl
theorem dp_ints {H : Hp} : ∀ ns : List Int, DpAll K H (ns.map V.int) (ns.map PyData.int)
  | [] => .nil
  | i :: ns => .cons (.int i) (dp_ints ns)
theorem lay_all : ∀ ns : List Int, PyData.canLayAll0 (ns.map PyData.int) = true
  | [] => rfl
  | i :: ns => by rw [List.map_cons]; simp [PyData.canLayAll0, PyData.canLay0, lay_all ns]
theorem lay_ints (ns : List Int) : PyData.canLay0 (.tuple (ns.map PyData.int)) = true := by rw [PyData.canLay0]; exact lay_all ns
theorem dep_all : ∀ ns : List Int, PyData.depthAll (ns.map PyData.int) ≤ 1
  | [] => by simp [PyData.depthAll]
  | i :: ns => by
    have := dep_all ns
    rw [List.map_cons]
    simp [PyData.depthAll, PyData.depth] at *
    try omega
theorem dep_ints (ns : List Int) : PyData.depth (.tuple (ns.map PyData.int)) ≤ 20 := by
  have := dep_all ns
  rw [PyData.depth]
  omega
structure ShD (d : PyData) : Prop where
  s : d.showable = true
  dp : d.depth ≤ 40
  l : d.shown.length ≤ sizeLine
  c : PyData.strOk d.shown = true
/-- what is told of a right call -/
def GoodR (K : PySem.W.Frag) (H : Hp) (which : Int) (xs : List (Int × Option Int)) (ns : List Int) (l : Int) (du : PyData) (v : V) : Prop :=
  (which = 0 → ∃ q, v = .ref q ∧ SqT K H q ((keepC (seenC xs (ns ++ [l])) xs).map V.int)) ∧ (which = 1 → v = .bl true) ∧ (which ≠ 0 → which ≠ 1 → ∃ c, du = .int c ∧ v = optV (harmV xs (othersOf xs c) (askL ns l)))
def MetQ (K : PySem.W.Frag) (H H3 : Hp) (which : Int) (x y z u : V) (dv ds du : PyData) (σ : L2.St) : Prop := ∃ due thing ar told y9, σ = [some (.int which), some x, some y, some z, some u, some due, some thing, some (.ref ar), some told, y9] ∧ Same H H3 ∧ H3 ar = some (.tup [.str dv.shown, .str ds.shown]) ∧
  ((∃ nm i p pt, due = .ref p ∧ told = .ref pt ∧ H3 p = some (.tup [.str nm, .int i, .bl true]) ∧ H3 pt = some (.tup [.str nm, .int i, .bl true]) ∧ PyData.strOk nm = true) ∨
   (due = .non ∧ ∃ pt v a ps xs b ns l, told = .ref pt ∧ H3 pt = some (.tup [vTold, v]) ∧ x = .ref a ∧ y = .ref b ∧ z = .int l ∧ GoodQ K H a ps xs b ns l ∧ vsD dv = some (xs.map pairP) ∧ GoodR K H3 which xs ns l du v))
def sp_is_met (K : PySem.W.Frag) : Sp := fun vs H Q _ => ∃ which x y z u N1 N2 N3 N4 dv ds dl du, vs = [.int which, x, y, z, u] ∧ Dq K N1 H x dv ∧ Dq K N2 H y ds ∧ Dq K N3 H z dl ∧ Dq K N4 H u du ∧ SzD dv ∧ SzD ds ∧ (∀ us, ds = .tuple us → us.length < 60) ∧ ShD dv ∧ ShD ds ∧ 0 ≤ which ∧ which ≤ 2 ∧ ∀ H', Same H H' → Q (.bl true) H'
theorem ok_law_is_met (T : Txt K mg) : FnG P w K mg base CX0 10 T.law_is_met.f T.law_is_met.fd ["which", "versions", "open_lot", "last", "commit"] (sp_is_met K) := by
  refine T.law_is_met.F.okG sc_law_is_met (fun vs H Q E h => ?_) (fun cdv A outer s H vs Q E gd hr h => ?_)
  · obtain ⟨which, x, y, z, u, N1, N2, N3, N4, dv, ds, dl, du, rfl, _⟩ := h
    rfl
  · obtain ⟨which, x, y, z, u, N1, N2, N3, N4, dv, ds, dl, du, rfl, hv, hs, hd, hu, z1, z2, z3, sv, so, w0, w2, k⟩ := h
    refine ⟨_, (pss_cons (ps_set (i := 5) sc_law_is_met.nd rfl (Or.inl rfl) (pe_call (ok_law_refusal T) (hr.mono (by decide)) (by rfl) T.law_refusal.g T.law_refusal.F.kp T.law_refusal.b .nil pass0 (pa_cons (pv 0) (pa_cons (pv 1) (pa_cons (pv 2) (pa_cons (pv 3) (pa_cons (pv 4) pa_nil)))))))
    (pss_cons (ps_set (i := 6) sc_law_is_met.nd rfl (Or.inl rfl) (pv 4))
    (Evl.pss_cut (ps_if (PW.pt (pw_and (pt_cmpR (oEq (K := K) hr.units) (pv 0) pe_int (nomark _)) (pw_and1 (pt_cmpR oIsN (pv 5) pe_non (nomark _))))) (pss_one (ps_set (i := 6) sc_law_is_met.nd rfl (Or.inl rfl) (pe_call (ok_law_needed T) (hr.mono (by decide)) (by rfl) T.law_needed.g T.law_needed.F.kp T.law_needed.b .nil pass0 (pa_cons (pv 1) (pa_cons (pv 2) pa_nil))))) pss_nil)
    (pss_cons (ps_set (i := 7) sc_law_is_met.nd rfl (Or.inl rfl) (pe_tup (pa_cons (pe_callB (cReprA (K := K) T.sysK gd hr.units) (by rfl) T.z_repr (by decide +kernel) (pa_cons (pv 1) pa_nil)) (pa_cons (pe_callB (cReprA (K := K) T.sysK gd hr.units) (by rfl) T.z_repr (by decide +kernel) (pa_cons (pv 2) pa_nil)) pa_nil))))
    (Evl.pss_cut (ps_set (i := 8) sc_law_is_met.nd rfl (Or.inl rfl) (pe_call (ok_law_asked T) (hr.mono (by decide)) (by rfl) T.law_asked.g T.law_asked.F.kp T.law_asked.b .nil pass0 (pa_cons (pv 0) (pa_cons (pv 1) (pa_cons (pv 2) (pa_cons (pv 3) (pa_cons (pv 6) pa_nil)))))))
    (pss_cons (ps_if (pt_cmpR (oNe (K := K) hr.units) (pe_tup (pa_cons (pe_callB (cReprA (K := K) T.sysK gd hr.units) (by rfl) T.z_repr (by decide +kernel) (pa_cons (pv 1) pa_nil)) (pa_cons (pe_callB (cReprA (K := K) T.sysK gd hr.units) (by rfl) T.z_repr (by decide +kernel) (pa_cons (pv 2) pa_nil)) pa_nil))) (pv 7) (nomark _)) (pss_one (ps_ret pe_bl)) pss_nil)
    (pss_cons (ps_if (pt_cmpR oNotN (pv 5) pe_non (nomark _)) (pss_one (ps_ret (pe_and (pe_cmpR (oEq (K := K) hr.units) (pv 8) (pv 5) (nomark _)) (pe_one (pe_not (pe_callB (cIsi (K := K)) (by rfl) T.z_isinstance (by decide +kernel) (pa_cons (pe_ix (ixLT (K := K)) (pv 8) pe_int (fun _ _ => rfl)) (pa_cons (pe_bltn (v := .ty "bool") (by rfl) T.z_bool (by decide +kernel) rfl) pa_nil)))))))) pss_nil)
    (pss_cons (ps_set (i := 9) sc_law_is_met.nd rfl (Or.inl rfl) (pe_call (ok_law_value T) (hr.mono (by decide)) (by rfl) T.law_value.g T.law_value.F.kp T.law_value.b .nil pass0 (pa_cons (pv 0) (pa_cons (pv 1) (pa_cons (pv 2) (pa_cons (pv 3) (pa_cons (pv 4) pa_nil)))))))
    (pss_one (ps_ret (pe_and (pe_cmpR (oEq (K := K) hr.units) (pe_ix (ixLT (K := K)) (pv 8) pe_int (fun _ _ => rfl)) pe_str (nomark _)) (pe_and (pe_cmpR (oEq (K := K) hr.units) (pe_callB (cIsi (K := K)) (by rfl) T.z_isinstance (by decide +kernel) (pa_cons (pe_ix (ixLT (K := K)) (pv 8) pe_int (fun _ _ => rfl)) (pa_cons (pe_bltn (v := .ty "bool") (by rfl) T.z_bool (by decide +kernel) rfl) pa_nil))) (pe_cmpR (oEq (K := K) hr.units) (pv 0) pe_int (nomark _)) (nomark _)) (pe_one (pe_cmpR (oEq (K := K) hr.units) (pe_ix (ixLT (K := K)) (pv 8) pe_int (fun _ _ => rfl)) (pv 9) (nomark _))))))))))))))), ?_⟩
    walk_at "go"
    refine ⟨which, x, y, z, u, N1, N2, N3, N4, dv, ds, dl, du, rfl, hv, hs, hd, hu, z1, fun us e => Nat.le_of_lt (Nat.lt_trans (z3 us e) (by decide)), fun H1 s1 => due_split fun due H2 s2 hdue => ?_⟩
    have s12 := s1.trans s2
    walk_at "go"
    refine s_cut (fun σ3 H3 => ∃ th y7 y8 y9, σ3 = [some (.int which), some x, some y, some z, some u, some due, some th, y7, y8, y9] ∧ Same H2 H3 ∧ (which ≠ 1 → th = u) ∧ (refuse dv ds dl = none → which = 1 → ∃ t xs ns, th = .ref t ∧ vsD dv = some (xs.map pairP) ∧ ds = .tuple (ns.map PyData.int) ∧ SqT K H3 t ((keepC (dueS xs ns) xs).map V.int))) ?_ ?_
    · rcases hdue with ⟨ed, rfl, rfl⟩ | ⟨nm, i, p, ed, rfl, hp⟩
      · walk_at "go"
        refine i_d (fun q => ?_) (fun q => ?_)
        · have er := due_none ed
          obtain ⟨a, ps, xs, b, ns, l, rfl, rfl, rfl, g, ev, rfl, rfl⟩ := GoodQ.of hv hs hd z1 z3 er
          walk_at "go"
          refine ⟨a, ps, xs, b, ns, rfl, sx_ s12 g.hS, pa_ s12 g.hP, g.hV, st_ s12 g.hB, fun t H3 n3 s3 h3 => ?_⟩
          walk_at "go"
          exact ⟨_, _, _, _, rfl, s3, fun e => absurd q e, fun _ _ => ⟨t, xs, ns, rfl, ev, rfl, stO h3⟩⟩
        · walk_at "go"
          exact ⟨_, _, _, _, rfl, Same.refl _, fun _ => rfl, fun _ e => absurd e q⟩
      · have no : refuse dv ds dl = none → which ≠ 1 := fun e => due_two ed e
        walk_at "go"
        refine i_d (fun q => ?_) (fun q => ?_)
        · walk_at "go"
          exact ⟨_, _, _, _, rfl, Same.refl _, fun _ => rfl, fun e q => absurd q (no e)⟩
        · walk_at "go"
          exact ⟨_, _, _, _, rfl, Same.refl _, fun _ => rfl, fun e q => absurd q (no e)⟩
    · rintro σ3 H3 ⟨th, y7, y8, y9, rfl, s3, t1, t2⟩
      have s13 := s12.trans s3
      walk_at "go"
      refine ⟨x, N1, dv, rfl, hv.same s13, sv.s, sv.dp, sv.l, ?_⟩
      walk_at "go"
      refine ⟨y, N2, ds, rfl, hs.same s13, so.s, so.dp, so.l, ?_⟩
      walk_at "go"
      refine n_new (le_size (by simp)) fun ar H4 n4 s4 h4 => ?_
      walk_at "go"
      have s14 := s13.trans s4
      refine s_cut (fun σ5 H5 => MetQ K H H5 which x y z u dv ds du σ5) ?_ ?_
      · walk_at "go"
        cases er : refuse dv ds dl with
        | some r =>
          obtain ⟨nm, i, ed, et, enm⟩ := rf_due (which := which) (du := du) er
          rcases hdue with ⟨ed2, _⟩ | ⟨nm2, i2, p, ed2, rfl, hp⟩
          · rw [ed] at ed2; cases ed2
          · rw [ed] at ed2
            cases ed2
            refine .inr ⟨which, x, y, z, th, N1, N2, N3, dv, ds, dl, r, rfl, hv.same s14, hs.same s14, hd.same s14, z1, z2, er, fun pt H5 n5 s5 h5 => ?_⟩
            walk_at "go"
            exact ⟨_, _, _, _, _, rfl, s14.trans s5, at_ s5 h4, .inl ⟨nm, i, p, pt, rfl, rfl, at_ (s3.trans (s4.trans s5)) hp, by rw [h5, et], enm⟩⟩
        | none =>
          obtain ⟨a, ps, xs, b, ns, l, rfl, rfl, rfl, g, ev, rfl, rfl⟩ := GoodQ.of hv hs hd z1 z3 er
          have g4 : GoodQ K H4 a ps xs b ns l := ⟨sx_ s14 g.hS, pa_ s14 g.hP, g.hV, st_ s14 g.hB, g.n, g.lo, g.le, g.t, g.g⟩
          have ed := due_good (which := which) (du := du) er ev
          refine .inl ⟨which, a, ps, xs, b, ns, l, th, rfl, g4, fun q p1 q1 H5 n5 s5 h5 h6 => ?_, fun q => ?_, fun q q2 => ?_⟩
          · rw [if_neg (by rw [decide_eq_false (by omega)]; exact Bool.false_ne_true)] at ed
            rcases hdue with ⟨ed2, rfl, rfl⟩ | ⟨nm2, i2, p, ed2, _⟩
            · walk_at "go"
              exact ⟨_, _, _, _, _, rfl, s14.trans s5, at_ s5 h4, .inr ⟨rfl, p1, _, a, ps, xs, b, ns, l, rfl, h5, rfl, rfl, rfl, g, ev, fun _ => ⟨q1, rfl, stO h6⟩, fun e => by omega, fun e => absurd q e⟩⟩
            · rw [ed] at ed2; cases ed2
          · rw [if_neg (by rw [decide_eq_false (by omega)]; exact Bool.false_ne_true)] at ed
            obtain ⟨t, xs2, ns2, rfl, ev2, en2, hT⟩ := t2 er q
            have exs : xs2 = xs := pairP_inj (by rw [ev] at ev2; exact Option.some.inj ev2)
            have ens : ns2 = ns := ints_inj (PyData.tuple.inj en2)
            subst exs ens
            rw [← seen_due g.hV g.t] at hT
            have hlo := g.lo
            have ml : (keepC (seenC xs2 (ns2 ++ [l])) xs2).length ≤ 1000 := by
              have := foldl_keep_len (seenC xs2 (ns2 ++ [l])) xs2.reverse []
              have := g.hV.few
              unfold keepC
              simp at *; omega
            refine ⟨t, _, rfl, st_ s4 hT, ml, told_lot g.hV _, fun pt H5 n5 s5 h5 => ?_⟩
            rw [told_right g.hV] at h5
            rcases hdue with ⟨ed2, rfl, rfl⟩ | ⟨nm2, i2, p, ed2, _⟩
            · walk_at "go"
              exact ⟨_, _, _, _, _, rfl, s14.trans s5, at_ s5 h4, .inr ⟨rfl, pt, _, a, ps, xs2, b, ns2, l, rfl, h5, rfl, rfl, rfl, g, ev, fun e => by omega, fun _ => rfl, fun _ e => absurd q e⟩⟩
            · rw [ed] at ed2; cases ed2
          · have w2' : which = 2 := by omega
            obtain rfl := t1 q2
            refine ⟨N4, du, hu.same s14, fun e pt H5 n5 s5 h5 => ?_, fun e pt H5 n5 s5 h5 => ?_⟩
            · rw [if_pos (by rw [decide_eq_true w2', e]; rfl)] at ed
              rcases hdue with ⟨ed2, _⟩ | ⟨nm2, i2, p, ed2, rfl, hp⟩
              · rw [ed] at ed2; cases ed2
              · rw [ed] at ed2
                cases ed2
                walk_at "go"
                exact ⟨_, _, _, _, _, rfl, s14.trans s5, at_ s5 h4, .inl ⟨_, _, p, pt, rfl, rfl, at_ (s3.trans (s4.trans s5)) hp, h5, by decide +kernel⟩⟩
            · rw [if_neg (by rw [e]; simp)] at ed
              have ec : ∃ c, du = .int c := by
                cases du with
                | int c => exact ⟨c, rfl⟩
                | _ => cases e
              obtain ⟨c, rfl⟩ := ec
              rcases hdue with ⟨ed2, rfl, rfl⟩ | ⟨nm2, i2, p, ed2, _⟩
              · walk_at "go"
                exact ⟨_, _, _, _, _, rfl, s14.trans s5, at_ s5 h4, .inr ⟨rfl, pt, _, a, ps, xs, b, ns, l, rfl, h5, rfl, rfl, rfl, g, ev, fun e => absurd e q, fun e => absurd e q2, fun _ _ => ⟨c, rfl, rfl⟩⟩⟩
              · rw [ed] at ed2; cases ed2
      · rintro σ5 H5 ⟨due, thing, ar, told, y9, rfl, s5, har, hm⟩
        walk_at "go"
        refine ⟨x, N1, dv, rfl, hv.same s5, sv.s, sv.dp, sv.l, ?_⟩
        walk_at "go"
        refine ⟨y, N2, ds, rfl, hs.same s5, so.s, so.dp, so.l, ?_⟩
        walk_at "go"
        refine n_new (le_size (by simp)) fun ar2 H6 n6 s6 h6 => ?_
        walk_at "go"
        refine o_neSame (d := .tuple [.str dv.shown, .str ds.shown]) (.tup (stO h6) (.cons (.str _) (.cons (.str _) .nil))) (.tup (stO (at_ s6 har)) (.cons (.str _) (.cons (.str _) .nil))) (by simp [PyData.canLay0, PyData.canLayAll0, sv.c, so.c]) (by simp [PyData.depth, PyData.depthAll]) ?_
        have s56 := s5.trans s6
        rcases hm with ⟨nm, i, p, pt, rfl, rfl, hp, hpt, enm⟩ | ⟨rfl, pt, v, a, ps, xs, b, ns, l, rfl, hpt, rfl, rfl, rfl, g, ev, r0, r1, r2⟩
        · have hpt6 := at_ s6 hpt
          have hS := stO (K := K) hpt6
          walk_at "go"
          refine o_eqSame (d := .tuple [.str nm, .int i, .bool true]) (.tup hS (.cons (.str _) (.cons (.int _) (.cons (.bl _) .nil)))) (.tup (stO (at_ s6 hp)) (.cons (.str _) (.cons (.int _) (.cons (.bl _) .nil)))) (by simp [PyData.canLay0, PyData.canLayAll0, enm]) (by simp [PyData.depth, PyData.depthAll]) ?_
          walk_at "go"
          exact k _ s56
        · have hpt6 := at_ s6 hpt
          have g6 : GoodQ K H6 a ps xs b ns l := ⟨sx_ s56 g.hS, pa_ s56 g.hP, g.hV, st_ s56 g.hB, g.n, g.lo, g.le, g.t, g.g⟩
          walk_at "go"
          refine ⟨which, a, ps, xs, b, ns, l, u, rfl, g6, fun q p H7 n7 s7 h7 => ?_, fun q => ?_, fun q q2 => ?_⟩
          · obtain ⟨q1, rfl, hq1⟩ := r0 q
            have hS := stO (K := K) (at_ s7 hpt6)
            have s57 := s6.trans s7
            have hq7 := st_ s57 hq1
            rw [← seen_due g.hV g.t] at h7
            obtain rfl : which = 0 := q
            walk_at "go"
            refine i_t (decide_eq_true rfl) ?_
            walk_at "go"
            refine o_eqS rfl ⟨_, rfl, i_t (by simp) ?_⟩
            walk_at "go"
            refine o_eqSame (d := .tuple ((keepC (seenC xs (ns ++ [l])) xs).map PyData.int)) (.tup hq7 (dp_ints _)) (.tup (stO h7) (dp_ints _)) (lay_ints _) (dep_ints _) ?_
            walk_at "go"
            exact k _ (s56.trans s7)
          · obtain rfl := r1 q
            have hS := stO (K := K) hpt6
            obtain rfl : which = 1 := q
            walk_at "go"
            refine i_t (decide_eq_true rfl) ?_
            walk_at "go"
            refine o_eqS rfl ⟨_, rfl, i_t (by simp) ?_⟩
            walk_at "go"
            refine o_eqS rfl ?_
            rw [decide_eq_true (show V.bl true = V.bl true from rfl)]
            exact k _ s56
          · obtain ⟨c, rfl, rfl⟩ := r2 q q2
            cases hu
            refine ⟨c, rfl, fun H7 s7 => ?_⟩
            have hS := stO (K := K) (at_ s7 hpt6)
            obtain rfl : which = 2 := by omega
            walk_at "go"
            refine i_t (decide_eq_true rfl) ?_
            generalize harmV xs (othersOf xs c) (askL ns l) = o at *
            cases o with
            | none =>
              have hS : SqT K H7 pt [vTold, .non] := hS
              walk_at "go"
              refine o_eqS rfl ⟨_, rfl, i_t (by simp) ?_⟩
              walk_at "go"
              refine o_eqS rfl ?_
              rw [decide_eq_true (show V.non = optV none from rfl)]
              exact k _ (s56.trans s7)
            | some i =>
              have hS : SqT K H7 pt [vTold, .int i] := hS
              walk_at "go"
              refine o_eqS rfl ⟨_, rfl, i_t (by simp) ?_⟩
              walk_at "go"
              refine o_eqS rfl ?_
              rw [decide_eq_true (show V.int i = optV (some i) from rfl)]
              exact k _ (s56.trans s7)
end



section
variable {P : Program} {w : World} {K : PySem.W.Frag} {mg : Str → Option Value} {base : Heap}
/-! ### drawn things -/
structure Drw (K : PySem.W.Frag) (N : Addr → Prop) (H : Hp) (x : V) (d : PyData) : Prop where
  q : Dq K N H x d
  z : SzD d
  z2 : ∀ us, d = .tuple us → us.length < 60
  s : ShD d
/-- neither the bag's list nor two others -/
abbrev Nf (B : Bg) (f t : Addr) : Addr → Prop := fun a => a ≠ B.hd ∧ a ≠ f ∧ a ≠ t
structure ItD (K : PySem.W.Frag) (N : Addr → Prop) (H : Hp) (y : V) (d : PyData) : Prop where
  q : Dq K N H y d
  m : smB d = true
  w : d.weight ≤ 1000
  p : d.depth ≤ 10
theorem sh_of {d : PyData} (m : smB d = true) (w : d.weight ≤ 300000) (p : d.depth ≤ 40) : ShD d := ⟨(sm_facts d m).2.1, p, sm_fits m w, tx_ok d (sm_facts d m).1⟩
theorem its_of {N : Addr → Prop} {H : Hp} : ∀ {ys : List V}, (∀ y ∈ ys, ∃ d, ItD K N H y d) → ∃ ds, DqAll K N H ys ds ∧ smA ds = true ∧ PyData.weightAll ds ≤ 1001 * ds.length ∧ PyData.depthAll ds ≤ 10
  | [], _ => ⟨[], .nil, rfl, by simp [PyData.weightAll], by simp [PyData.depthAll]⟩
  | y :: ys, h => by
    obtain ⟨d, hd⟩ := h y List.mem_cons_self
    obtain ⟨ds, h1, h2, h3, h4⟩ := its_of fun u hu => h u (List.mem_cons_of_mem _ hu)
    refine ⟨d :: ds, .cons hd.q h1, ?_, ?_, ?_⟩
    · show (smB d && smA ds) = true
      rw [hd.m, h2]; rfl
    · have := hd.w
      simp only [PyData.weightAll, List.length_cons]
      omega
    · have := hd.p
      simp only [PyData.depthAll]
      omega
theorem tup_drw {N : Addr → Prop} {H : Hp} {p : Addr} {ys : List V} (h : SqT K H p ys) (l : ys.length ≤ 40) (hi : ∀ y ∈ ys, ∃ d, ItD K N H y d) : ∃ d, Drw K N H (.ref p) d := by
  obtain ⟨ds, h1, h2, h3, h4⟩ := its_of hi
  have ll := h1.len
  exact ⟨.tuple ds, .tup h h1, fun us e => by cases e; omega, fun us e => by cases e; omega, sh_of h2 (by rw [PyData.weight]; omega) (by rw [PyData.depth]; omega)⟩
theorem lst_drw {N : Addr → Prop} {H : Hp} {p : Addr} {ys : List V} (h : SqL K H p ys) (n : N p) (l : ys.length ≤ 40) (hi : ∀ y ∈ ys, ∃ d, ItD K N H y d) : ∃ d, Drw K N H (.ref p) d := by
  obtain ⟨ds, h1, h2, h3, h4⟩ := its_of hi
  have ll := h1.len
  exact ⟨.list ds, .lst h n h1, fun us e => by cases e; omega, (fun us e => nomatch e), sh_of h2 (by rw [PyData.weight]; omega) (by rw [PyData.depth]; omega)⟩
theorem it_int {N : Addr → Prop} {H : Hp} {i : Int} (h : i.natAbs < 10 ^ 41) : ItD K N H (.int i) (.int i) := by
  refine ⟨.int i, decide_eq_true h, ?_, by simp [PyData.depth]⟩
  show (if i == 0 then 0 else i.natAbs.log2 + 1) ≤ 1000
  split
  · omega
  · next z =>
    have z0 : i.natAbs ≠ 0 := by
      intro e
      exact z (by rw [Int.natAbs_eq_zero.mp e]; rfl)
    have : i.natAbs.log2 < 999 := (Nat.log2_lt z0).mpr (Nat.lt_of_lt_of_le h (by decide +kernel))
    omega
theorem it_bl {N : Addr → Prop} {H : Hp} (b : Bool) : ItD K N H (.bl b) (.bool b) := ⟨.bl b, rfl, by simp [PyData.weight], by simp [PyData.depth]⟩
theorem it_non {N : Addr → Prop} {H : Hp} : ItD K N H .non .none := ⟨.non, rfl, by simp [PyData.weight], by simp [PyData.depth]⟩
theorem it_str {N : Addr → Prop} {H : Hp} {x : Str} (h : smB (.str x) = true) (w : x.cps.size ≤ 1000) : ItD K N H (.str x) (.str x) := ⟨.str x, h, by rw [PyData.weight]; exact w, by simp [PyData.depth]⟩
theorem it_tup {N : Addr → Prop} {H : Hp} {p : Addr} {ys : List V} {ds : List PyData} (s : SqT K H p ys) (h : DqAll K N H ys ds) (m : smA ds = true) (w : PyData.weightAll ds ≤ 1000) (dp : PyData.depthAll ds ≤ 5) : ItD K N H (.ref p) (.tuple ds) := ⟨.tup s h, m, by rw [PyData.weight]; exact w, by rw [PyData.depth]; omega⟩
theorem ItD.same {N : Addr → Prop} {H H' : Hp} {y : V} {d : PyData} (h : ItD K N H y d) (s : Same H H') : ItD K N H' y d := ⟨h.q.same s, h.m, h.w, h.p⟩
theorem ItD.drw {N : Addr → Prop} {H : Hp} {y : V} {d : PyData} (h : ItD K N H y d) (e : vsD d = none) : Drw K N H y d := ⟨h.q, (fun us q => by rw [e] at q; cases q), (fun us q => by rw [q] at e; cases e), sh_of h.m (by have := h.w; omega) (by have := h.p; omega)⟩
theorem it_ints {N : Addr → Prop} {H : Hp} {ns : List Int} (h : ∀ z ∈ ns, 0 ≤ z ∧ z ≤ 2000000000000000000) : ∀ y ∈ ns.map V.int, ∃ d, ItD K N H y d := fun y hy => by
  obtain ⟨z, hz, e⟩ := List.mem_map.mp hy
  subst e
  have := h z hz
  exact ⟨_, it_int (by omega)⟩
def sp_spoiled_open (K : PySem.W.Frag) : Sp := fun vs H Q _ => ∃ (B : Bg) (b : Addr) (ns : List Int) (l : Int) (t : Addr) (ot : HO), vs = [.ref B.hd, .ref b, .int l] ∧ H t = some ot ∧ t ≠ B.hd ∧ BagAt K H B ∧ SqT K H b (ns.map V.int) ∧ ns.length ≤ 8 ∧ (∀ z ∈ ns, 0 ≤ z ∧ z ≤ 2000000000000000000) ∧ 0 ≤ l ∧ l ≤ 1000000000000000000 ∧
  ∀ x H', Hs K B H H' → (∃ d, Drw K (Nf B t t) H' x d) → Q x H'
theorem ok_law_spoiled_open (T : Txt K mg) : FnOk P w K mg base CX0 3 T.law_spoiled_open.f T.law_spoiled_open.fd ["bag", "open_lot", "last"] (sp_spoiled_open K) := by
  refine T.law_spoiled_open.F.ok sc_law_spoiled_open (fun vs H Q E h => ?_) (fun cdv A outer s H vs Q E hr h => ?_)
  · obtain ⟨B, b, ns, l, t, ot, rfl, _⟩ := h
    rfl
  · obtain ⟨B, c, ns, l, t, ot, rfl, ht, tn, b, hS, hl, hr0, l0, l1, k⟩ := h
    refine ⟨_, (pss_cons (ps_set (i := 3) sc_law_spoiled_open.nd rfl (Or.inl rfl) (pe_call (ok_law_draw T) (hr.mono (by decide)) (by rfl) T.law_draw.g T.law_draw.F.kp T.law_draw.b .nil pass0 (pa_cons (pv 0) (pa_cons pe_int pa_nil))))
    (pss_cons (ps_set (i := 4) sc_law_spoiled_open.nd rfl (Or.inl rfl) (pe_call (ok_law_draw T) (hr.mono (by decide)) (by rfl) T.law_draw.g T.law_draw.F.kp T.law_draw.b .nil pass0 (pa_cons (pv 0) (pa_cons (pe_op (oAddT (K := K)) (pe_callB (cLen (K := K)) (by rfl) T.z_len PySem.boot_len (pa_cons (pv 1) pa_nil)) pe_int) pa_nil))))
    (pss_cons (ps_if (pt_cmpR (oEq (K := K) hr.units) (pv 3) pe_int (nomark _)) (pss_one (ps_ret (pe_callTy (cListOf (K := K)) (by rfl) T.z_list (by decide +kernel) (pa_cons (pv 1) pa_nil)))) pss_nil)
    (pss_cons (ps_if (pt_cmpR (oEq (K := K) hr.units) (pv 3) pe_int (nomark _)) (pss_one (ps_ret (pe_revT (K := K) (pv 1)))) pss_nil)
    (pss_cons (ps_if (pt_cmpR (oEq (K := K) hr.units) (pv 3) pe_int (nomark _)) (pss_one (ps_ret (pe_op (oAddT (K := K)) (pe_slice (slA (K := K)) (pv 1) po_none (po_some (pv 4))) (pe_slice (slA (K := K)) (pv 1) (po_some (pe_callB (cMax2 rfl) (by rfl) T.z_max (by decide +kernel) (pa_cons pe_int (pa_cons (pe_op op_sub (pv 4) pe_int) pa_nil)))) po_none)))) pss_nil)
    (pss_cons (ps_if (pt_cmpR (oEq (K := K) hr.units) (pv 3) pe_int (nomark _)) (pss_one (ps_ret (pe_op (oAddT (K := K)) (pv 1) (pe_tup (pa_cons (pe_op (oAddT (K := K)) (pe_op (oAddT (K := K)) (pv 2) pe_int) (pe_call (ok_law_draw T) (hr.mono (by decide)) (by rfl) T.law_draw.g T.law_draw.F.kp T.law_draw.b .nil pass0 (pa_cons (pv 0) (pa_cons pe_int pa_nil)))) pa_nil))))) pss_nil)
    (pss_cons (ps_if (pt_cmpR (oEq (K := K) hr.units) (pv 3) pe_int (nomark _)) (pss_one (ps_ret (pe_op (oAddT (K := K)) (pe_op (oAddT (K := K)) (pe_slice (slA (K := K)) (pv 1) po_none (po_some (pv 4))) (pe_tup (pa_cons (pe_ix (ixLT (K := K)) (pe_lst (pa_cons pe_bl (pa_cons pe_non (pa_cons pe_str (pa_cons (pe_un un_neg pe_int) (pa_cons (pe_tup pa_nil) (pa_cons (pe_tup (pa_cons pe_int pa_nil)) (pa_cons pe_bl (pa_cons (pe_op op_pow pe_int pe_int) pa_nil))))))))) (pe_call (ok_law_draw T) (hr.mono (by decide)) (by rfl) T.law_draw.g T.law_draw.F.kp T.law_draw.b .nil pass0 (pa_cons (pv 0) (pa_cons pe_int pa_nil))) (fun _ _ => rfl)) pa_nil))) (pe_slice (slA (K := K)) (pv 1) (po_some (pv 4)) po_none)))) pss_nil)
    (pss_one (ps_ret (pe_ix (ixLT (K := K)) (pe_lst (pa_cons pe_non (pa_cons pe_int (pa_cons pe_bl (pa_cons pe_str (pa_cons pe_dnewK (pa_cons (pe_disp (pps_cons pe_int pe_int pps_nil) (by rfl) (by rfl) (fun z => by cases z) (by decide)) (pa_cons pe_str pa_nil)))))))) (pe_call (ok_law_draw T) (hr.mono (by decide)) (by rfl) T.law_draw.g T.law_draw.F.kp T.law_draw.b .nil pass0 (pa_cons (pv 0) (pa_cons pe_int pa_nil))) (fun _ _ => rfl))))))))))), ?_⟩
    walk_at "go"
    refine ⟨B, _, rfl, b, by omega, by omega, fun r1 H1 r10 r11 hs1 => ?_⟩
    have hS1 := hs1.st b hS
    walk_at "go"
    refine ⟨B, _, rfl, hs1.b, by omega, by omega, fun r2 H2 r20 r21 hs2 => ?_⟩
    have hS2 := hs2.st hs1.b hS1
    have hh2 := hs1.trans hs2
    have b2 := hh2.b
    have ht2 := hh2.o t _ tn ht
    have ml : (ns.map V.int).length ≤ 8 := by rw [List.length_map]; exact hl
    walk_at "go"
    refine i_d (fun q0 => ?_) (fun q0 => ?_)
    · walk_at "go"
      refine n_new0 fun p H3 n3 s3 h3 => ?_
      exact k _ H3 (hh2.trans (Hs.of b2 s3)) (lst_drw (slO h3) ⟨new_ne b2 n3, (ne_of_none ht2 n3).symm, (ne_of_none ht2 n3).symm⟩ (by omega) (it_ints hr0))
    walk_at "go"
    refine i_d (fun q1 => ?_) (fun q1 => ?_)
    · walk_at "go"
      refine r_revT hS2 (n_new0 fun p H3 n3 s3 h3 => ?_)
      exact k _ H3 (hh2.trans (Hs.of b2 s3)) (tup_drw (stO h3) (by rw [List.length_reverse]; omega) fun y hy => it_ints hr0 y (List.mem_reverse.mp hy))
    walk_at "go"
    refine i_d (fun q2 => ?_) (fun q2 => ?_)
    · walk_at "go"
      refine r_slA hS2 fun p3 H3 y3 s3 h3 l3 m3 => ?_
      have hS3 := st_ s3 hS2
      walk_at "go"
      refine r_slA hS3 fun p4 H4 y4 s4 h4 l4 m4 => ?_
      walk_at "go"
      refine o_catA (st_ s4 h3) h4 (by omega) fun p5 H5 s5 h5 => ?_
      exact k _ H5 (hh2.trans (Hs.of b2 (s3.trans (s4.trans s5)))) (tup_drw h5 (by rw [List.length_append]; omega) fun y hy => it_ints hr0 y ((List.mem_append.mp hy).elim (m3 y) (m4 y)))
    walk_at "go"
    refine i_d (fun q3 => ?_) (fun q3 => ?_)
    · walk_at "go"
      refine ⟨B, _, rfl, b2, by omega, by omega, fun r4 H4 r40 r41 hs4 => ?_⟩
      have hS4 := hs4.st b2 hS2
      walk_at "go"
      refine n_new (le_size (by simp)) fun p6 H6 n6 s6 h6 => ?_
      walk_at "go"
      refine o_catA (st_ s6 hS4) (stO h6) (by simp; omega) fun p5 H5 s5 h5 => ?_
      exact k _ H5 ((hh2.trans hs4).trans (Hs.of hs4.b (s6.trans s5))) (tup_drw h5 (by rw [List.length_append]; simp; omega) fun y hy => (List.mem_append.mp hy).elim (it_ints hr0 y) fun hy => by
        rw [List.mem_singleton.mp hy]
        exact ⟨_, it_int (by omega)⟩)
    walk_at "go"
    refine i_d (fun q4 => ?_) (fun q4 => ?_)
    · walk_at "go"
      refine r_slA hS2 fun p3 H3 y3 s3 h3 l3 m3 => ?_
      walk_at "go"
      refine n_new (le_size (by simp)) fun p4 H4 n4 s4 h4 => ?_
      walk_at "go"
      refine n_new (le_size (by simp)) fun p5 H5 n5 s5 h5 => ?_
      walk_at "go"
      refine n_new (le_size (by simp)) fun p6 H6 n6 s6 h6 => ?_
      have s26 := s3.trans (s4.trans (s5.trans s6))
      have b6 := bag_same b2 s26
      have s25 := s3.trans (s4.trans s5)
      have b5 := bag_same b2 s25
      walk_at "go"
      refine ⟨B, _, rfl, b6, by omega, by omega, fun r7 H7 r70 r71 hs7 => ?_⟩
      have h7 := hs7.ls (new_ne b5 n6) h6
      have t4 := hs7.st b6 (stO (K := K) (at_ (s5.trans s6) h4))
      have t5 := hs7.st b6 (stO (K := K) (at_ s6 h5))
      obtain ⟨v, hv, d, hd⟩ : ∃ v, atI [V.bl true, V.non, V.str (Str.ofString "1"), V.int (-1), V.ref p4, V.ref p5, V.bl false, V.int 1000000000000000000000000000000] r7 = some v ∧ ∃ d, ItD K (Nf B t t) H7 v d := by
        rcases (show r7 = 0 ∨ r7 = 1 ∨ r7 = 2 ∨ r7 = 3 ∨ r7 = 4 ∨ r7 = 5 ∨ r7 = 6 ∨ r7 = 7 by omega) with e | e | e | e | e | e | e | e <;> subst e
        · exact ⟨_, rfl, _, it_bl true⟩
        · exact ⟨_, rfl, _, it_non⟩
        · exact ⟨_, rfl, _, it_str (by decide +kernel) (by decide +kernel)⟩
        · exact ⟨_, rfl, _, it_int (by decide)⟩
        · exact ⟨_, rfl, _, it_tup t4 .nil rfl (by decide +kernel) (by simp [PyData.depthAll])⟩
        · exact ⟨_, rfl, _, it_tup t5 (.cons (.int 0) .nil) (by decide +kernel) (by decide +kernel) (by simp [PyData.depthAll, PyData.depth])⟩
        · exact ⟨_, rfl, _, it_bl false⟩
        · exact ⟨_, rfl, _, it_int (by decide)⟩
      refine o_ixA h7 hv ?_
      have hh7 := hh2.trans ((Hs.of b2 s26).trans hs7)
      walk_at "go"
      refine n_new (le_size (by simp)) fun p8 H8 n8 s8 h8 => ?_
      have h38 := st_ s8 (hs7.st b6 (st_ (s4.trans (s5.trans s6)) h3))
      walk_at "go"
      refine o_catA h38 (stO h8) (by simp; omega) fun p9 H9 s9 h9 => ?_
      have hS9 := st_ (s8.trans s9) (hs7.st b6 (st_ s26 hS2))
      walk_at "go"
      refine r_slA hS9 fun pa Ha ya sa ha la ma => ?_
      walk_at "go"
      refine o_catA (st_ sa h9) ha (by simp; omega) fun pb Hb sb hb => ?_
      have sfin := s8.trans (s9.trans (sa.trans sb))
      refine k _ Hb (hh7.trans (Hs.of hh7.b sfin)) (tup_drw hb (by simp; omega) fun y hy => ?_)
      rcases List.mem_append.mp hy with hy | hy
      · rcases List.mem_append.mp hy with hy | hy
        · exact it_ints hr0 y (m3 y hy)
        · rw [List.mem_singleton.mp hy]
          exact ⟨d, hd.same sfin⟩
      · exact it_ints hr0 y (ma y hy)
    walk_at "go"
    refine e_dnew fun p3 H3 n3 s3 h3 => ?_
    have b3 := bag_same b2 s3
    walk_at "go"
    refine e_disp fun p4 H4 n4 s4 h4 => ?_
    walk_at "go"
    refine disp_end [(Sum.inl 1, .int 1)] h4 rfl (by show 1 ≤ 15; decide) fun H5 o5 h5 => ?_
    have s35 : Same H3 H5 := fun a o e => o5 a o (ne_of_none e n4) (s4 a o e)
    have h53 := at_ s35 h3
    have b5 := bag_same b3 s35
    walk_at "go"
    refine n_new (le_size (by simp)) fun p6 H6 n6 s6 h6 => ?_
    have b6 := bag_same b5 s6
    walk_at "go"
    refine ⟨B, _, rfl, b6, by omega, by omega, fun r7 H7 r70 r71 hs7 => ?_⟩
    have h7 := hs7.ls (new_ne b5 n6) h6
    have ne3 : Nf B t t p3 := ⟨new_ne b2 n3, (ne_of_none ht2 n3).symm, (ne_of_none ht2 n3).symm⟩
    have ht3 := s3 _ _ ht2
    have ne4 : Nf B t t p4 := ⟨new_ne b3 n4, (ne_of_none ht3 n4).symm, (ne_of_none ht3 n4).symm⟩
    have e3 : H7 p3 = some (.dK []) := hs7.o p3 _ ne3.1 (at_ s6 h53)
    have e4 : H7 p4 = some (.dK [(Sum.inl 1, .int 1)]) := hs7.o p4 _ ne4.1 (at_ s6 h5)
    obtain ⟨v, hv, d, hd, hs⟩ : ∃ v, atI [V.non, V.int 0, V.bl true, V.str (Str.ofString ""), V.ref p3, V.ref p4, V.str (Str.ofString "(1,)")] r7 = some v ∧ ∃ d, ItD K (Nf B t t) H7 v d ∧ vsD d = none := by
      rcases (show r7 = 0 ∨ r7 = 1 ∨ r7 = 2 ∨ r7 = 3 ∨ r7 = 4 ∨ r7 = 5 ∨ r7 = 6 by omega) with e | e | e | e | e | e | e <;> subst e
      · exact ⟨_, rfl, _, it_non, rfl⟩
      · exact ⟨_, rfl, _, it_int (by decide), rfl⟩
      · exact ⟨_, rfl, _, it_bl true, rfl⟩
      · exact ⟨_, rfl, _, it_str (by decide +kernel) (by decide +kernel), rfl⟩
      · exact ⟨_, rfl, .dict [], ⟨.dct e3 ne3 rfl .nil, rfl, by simp [PyData.weight, PyData.weightKv], by simp [PyData.depth, PyData.depthKv]⟩, rfl⟩
      · exact ⟨_, rfl, .dict [(.int 1, .int 1)], ⟨.dct e4 ne4 rfl (.cons (.int 1) .nil), by decide +kernel, by decide +kernel, by decide +kernel⟩, rfl⟩
      · exact ⟨_, rfl, _, it_str (by decide +kernel) (by decide +kernel), rfl⟩
    refine o_ixA h7 hv ?_
    exact k _ H7 (hh2.trans ((Hs.of b2 (s3.trans (s35.trans s6))).trans hs7)) ⟨d, hd.drw hs⟩
end



section
variable {P : Program} {w : World} {K : PySem.W.Frag} {mg : Str → Option Value} {base : Heap}
theorem ItD.mv {N : Addr → Prop} {H H' : Hp} {y : V} {d : PyData} (h : ItD K N H y d) (k1 : ∀ a xs, N a → SqL K H a xs → SqL K H' a xs) (k2 : ∀ a xs, SqT K H a xs → SqT K H' a xs) (k3 : ∀ a kvs, N a → H a = some (.dK kvs) → H' a = some (.dK kvs)) : ItD K N H' y d := ⟨Dq.mv k1 k2 k3 d y h.q, h.m, h.w, h.p⟩
theorem ItD.hs {B : Bg} {f t : Addr} {H H' : Hp} {y : V} {d : PyData} (h : ItD K (Nf B f t) H y d) (b : BagAt K H B) (s : Hs K B H H') : ItD K (Nf B f t) H' y d := h.mv (fun _ _ n q => s.sl n.1 q) (fun _ _ q => s.st b q) (fun a _ n q => s.o a _ n.1 q)
theorem ItD.mut {B : Bg} {f t : Addr} {H H' : Hp} {y : V} {d : PyData} {xs : List V} (h : ItD K (Nf B f t) H y d) (e : H f = some (.lst xs)) (o : Oth f H H') : ItD K (Nf B f t) H' y d := h.mv (fun _ _ n q => oth_sl o n.2.1 q) (fun _ _ q => oth_st o e q) (fun a _ n q => o a _ n.2.1 q)
theorem ItD.mono {N M : Addr → Prop} {H : Hp} {y : V} {d : PyData} (h : ItD K N H y d) (k : ∀ a, N a → M a) : ItD K M H y d := ⟨dq_mono k d y h.q, h.m, h.w, h.p⟩
def ItsD (K : PySem.W.Frag) (N : Addr → Prop) (H : Hp) (ys : List V) : Prop := ∀ y ∈ ys, ∃ d, ItD K N H y d
theorem int_w {i : Int} (h : i.natAbs < 10 ^ 41) : (PyData.int i).weight ≤ 140 := by
  show (if i == 0 then 0 else i.natAbs.log2 + 1) ≤ 140
  split
  · omega
  · next z =>
    have z0 : i.natAbs ≠ 0 := by
      intro e
      exact z (by rw [Int.natAbs_eq_zero.mp e]; rfl)
    have : i.natAbs.log2 < 139 := (Nat.log2_lt z0).mpr (Nat.lt_of_lt_of_le h (by decide +kernel))
    omega
/-- a leaf: a small thing within a tuple -/
structure Lf (K : PySem.W.Frag) (N : Addr → Prop) (H : Hp) (y : V) (d : PyData) : Prop where
  q : Dq K N H y d
  m : smB d = true
  w : d.weight ≤ 300
  p : d.depth ≤ 3
theorem lf_int {N : Addr → Prop} {H : Hp} {i : Int} (h : i.natAbs < 10 ^ 41) : Lf K N H (.int i) (.int i) := ⟨.int i, decide_eq_true h, Nat.le_trans (int_w h) (by decide), by simp [PyData.depth]⟩
theorem lf_non {N : Addr → Prop} {H : Hp} : Lf K N H .non .none := ⟨.non, rfl, by simp [PyData.weight], by simp [PyData.depth]⟩
theorem lf_bl {N : Addr → Prop} {H : Hp} (b : Bool) : Lf K N H (.bl b) (.bool b) := ⟨.bl b, rfl, by simp [PyData.weight], by simp [PyData.depth]⟩
theorem lf_str {N : Addr → Prop} {H : Hp} {x : Str} (h : smB (.str x) = true) (w : x.cps.size ≤ 300) : Lf K N H (.str x) (.str x) := ⟨.str x, h, by rw [PyData.weight]; exact w, by simp [PyData.depth]⟩
theorem Lf.it {N : Addr → Prop} {H : Hp} {y : V} {d : PyData} (h : Lf K N H y d) : ItD K N H y d := ⟨h.q, h.m, by have := h.w; omega, by have := h.p; omega⟩
theorem it_tup1 {N : Addr → Prop} {H : Hp} {p : Addr} {y : V} {d : PyData} (s : SqT K H p [y]) (h : Lf K N H y d) : ItD K N H (.ref p) (.tuple [d]) :=
  ⟨.tup s (.cons h.q .nil), (by show (smB d && true) = true; rw [h.m]; rfl), (by have := h.w; simp only [PyData.weight, PyData.weightAll]; omega), (by have := h.p; simp only [PyData.depth, PyData.depthAll]; omega)⟩
theorem it_tup2 {N : Addr → Prop} {H : Hp} {p : Addr} {y z : V} {d e : PyData} (s : SqT K H p [y, z]) (h : Lf K N H y d) (g : Lf K N H z e) : ItD K N H (.ref p) (.tuple [d, e]) :=
  ⟨.tup s (.cons h.q (.cons g.q .nil)), (by show (smB d && (smB e && true)) = true; rw [h.m, g.m]; rfl), (by have := h.w; have := g.w; simp only [PyData.weight, PyData.weightAll]; omega), (by have := h.p; have := g.p; simp only [PyData.depth, PyData.depthAll]; omega)⟩
theorem it_tup3 {N : Addr → Prop} {H : Hp} {p : Addr} {y z u : V} {d e f : PyData} (s : SqT K H p [y, z, u]) (h : Lf K N H y d) (g : Lf K N H z e) (k : Lf K N H u f) : ItD K N H (.ref p) (.tuple [d, e, f]) :=
  ⟨.tup s (.cons h.q (.cons g.q (.cons k.q .nil))), (by show (smB d && (smB e && (smB f && true))) = true; rw [h.m, g.m, k.m]; rfl), (by have := h.w; have := g.w; have := k.w; simp only [PyData.weight, PyData.weightAll]; omega), (by have := h.p; have := g.p; have := k.p; simp only [PyData.depth, PyData.depthAll]; omega)⟩
theorem it_lst2 {N : Addr → Prop} {H : Hp} {p : Addr} {y z : V} {d e : PyData} (s : SqL K H p [y, z]) (n : N p) (h : Lf K N H y d) (g : Lf K N H z e) : ItD K N H (.ref p) (.list [d, e]) :=
  ⟨.lst s n (.cons h.q (.cons g.q .nil)), (by show (smB d && (smB e && true)) = true; rw [h.m, g.m]; rfl), (by have := h.w; have := g.w; simp only [PyData.weight, PyData.weightAll]; omega), (by have := h.p; have := g.p; simp only [PyData.depth, PyData.depthAll]; omega)⟩
theorem lf_com {N : Addr → Prop} {H : Hp} {c : Int} (h : 1 ≤ c ∧ c ≤ GC) : Lf K N H (.int c) (.int c) := by
  have h : 1 ≤ c ∧ c ≤ 1000000000000000000 := h
  exact lf_int (by omega)
theorem lf_mark {N : Addr → Prop} {H : Hp} {m : Option Int} (h : markD (markP m) = true) : Lf K N H (markV m) (markP m) := by
  cases m with
  | none => exact lf_non
  | some z =>
    have h : (decide (-1000000000000000000 ≤ z) && decide (z ≤ 1000000000000000000)) = true := h
    rw [Bool.and_eq_true] at h
    have a1 := of_decide_eq_true h.1
    have a2 := of_decide_eq_true h.2
    exact lf_int (by omega)
theorem it_pair {N : Addr → Prop} {H : Hp} {p : Addr} {v : Int × Option Int} (s : SqT K H p [.int v.1, markV v.2]) (h1 : 1 ≤ v.1 ∧ v.1 ≤ GC) (h2 : markD (markP v.2) = true) : ItD K N H (.ref p) (pairP v) := it_tup2 s (lf_com h1) (lf_mark h2)
theorem it_pairs {N : Addr → Prop} {H : Hp} {ps : List Addr} {xs : List (Int × Option Int)} (hP : PairsAt K H ps xs) (hV : Valid xs) : ItsD K N H (ps.map V.ref) := fun y hy => by
  obtain ⟨p, hp, e⟩ := List.mem_map.mp hy
  subst e
  obtain ⟨i, hi, ei⟩ := List.getElem_of_mem hp
  have hx : i < xs.length := by rw [← hP.1]; exact hi
  have := hP.at hx
  rw [ei] at this
  exact ⟨_, it_pair this (hV.comm _ (List.getElem_mem hx)) (hV.mark _ (List.getElem_mem hx))⟩
end



section
variable {P : Program} {w : World} {K : PySem.W.Frag} {mg : Str → Option Value} {base : Heap}
theorem lf_tup0 {N : Addr → Prop} {H : Hp} {p : Addr} (s : SqT K H p []) : Lf K N H (.ref p) (.tuple []) := ⟨.tup s .nil, rfl, by simp [PyData.weight, PyData.weightAll], by simp [PyData.depth, PyData.depthAll]⟩
theorem lf_tupI {N : Addr → Prop} {H : Hp} {p : Addr} {c : Int} (s : SqT K H p [.int c]) (h : c.natAbs < 10 ^ 41) : Lf K N H (.ref p) (.tuple [.int c]) := ⟨.tup s (.cons (.int c) .nil), (by show (decide _ && true) = true; rw [decide_eq_true h]; rfl), (by have := int_w h; simp only [PyData.weight, PyData.weightAll] at *; omega), by simp [PyData.depth, PyData.depthAll]⟩
theorem lf_lst0 {N : Addr → Prop} {H : Hp} {p : Addr} (s : SqL K H p []) (n : N p) : Lf K N H (.ref p) (.list []) := ⟨.lst s n .nil, rfl, by simp [PyData.weight, PyData.weightAll], by simp [PyData.depth, PyData.depthAll]⟩
theorem lf_lstI {N : Addr → Prop} {H : Hp} {p : Addr} {c : Int} (s : SqL K H p [.int c]) (n : N p) (h : c.natAbs < 10 ^ 41) : Lf K N H (.ref p) (.list [.int c]) := ⟨.lst s n (.cons (.int c) .nil), (by show (decide _ && true) = true; rw [decide_eq_true h]; rfl), (by have := int_w h; simp only [PyData.weight, PyData.weightAll] at *; omega), by simp [PyData.depth, PyData.depthAll]⟩
theorem lf_dct0 {N : Addr → Prop} {H : Hp} {p : Addr} (e : H p = some (.dK [])) (n : N p) : Lf K N H (.ref p) (.dict []) := ⟨.dct e n rfl .nil, rfl, by simp [PyData.weight, PyData.weightKv], by simp [PyData.depth, PyData.depthKv]⟩
theorem com_n {c : Int} (h : 1 ≤ c ∧ c ≤ GC) : c.natAbs < 10 ^ 41 := by
  have h : 1 ≤ c ∧ c ≤ 1000000000000000000 := h
  omega
theorem markP_w {m : Option Int} (h : markD (markP m) = true) : (markP m).weight ≤ 140 ∧ (markP m).depth ≤ 1 ∧ smB (markP m) = true := by
  cases m with
  | none => exact ⟨by simp [markP, PyData.weight], by simp [markP, PyData.depth], rfl⟩
  | some z =>
    have h : (decide (-1000000000000000000 ≤ z) && decide (z ≤ 1000000000000000000)) = true := h
    rw [Bool.and_eq_true] at h
    have a1 := of_decide_eq_true h.1
    have a2 := of_decide_eq_true h.2
    have a3 : z.natAbs < 10 ^ 41 := by omega
    exact ⟨int_w a3, by simp [markP, PyData.depth], decide_eq_true a3⟩
theorem lf_pair {N : Addr → Prop} {H : Hp} {p : Addr} {v : Int × Option Int} (s : SqT K H p [.int v.1, markV v.2]) (h1 : 1 ≤ v.1 ∧ v.1 ≤ GC) (h2 : markD (markP v.2) = true) : Lf K N H (.ref p) (pairP v) := by
  obtain ⟨w1, w2, w3⟩ := markP_w h2
  have w4 := int_w (com_n h1)
  refine ⟨.tup s (.cons (.int _) (.cons (dq_mark _) .nil)), ?_, ?_, ?_⟩
  · show (decide _ && (smB (markP v.2) && true)) = true
    rw [decide_eq_true (com_n h1), w3]; rfl
  · show (PyData.tuple [.int v.1, markP v.2]).weight ≤ 300
    simp only [PyData.weight, PyData.weightAll] at *; omega
  · show (PyData.tuple [.int v.1, markP v.2]).depth ≤ 3
    simp only [PyData.depth, PyData.depthAll] at *; omega
theorem ItsD.set {N : Addr → Prop} {H : Hp} {ys : List V} {j : Nat} {v : V} (h : ItsD K N H ys) (hv : ∃ d, ItD K N H v d) : ItsD K N H (ys.set j v) := fun y hy => by
  rcases List.mem_or_eq_of_mem_set hy with e | e
  · exact h y e
  · rw [e]; exact hv
theorem ItsD.hs {B : Bg} {f t : Addr} {H H' : Hp} {ys : List V} (h : ItsD K (Nf B f t) H ys) (b : BagAt K H B) (s : Hs K B H H') : ItsD K (Nf B f t) H' ys := fun y hy => (h y hy).imp fun _ d => d.hs b s
theorem ItsD.mut {B : Bg} {f t : Addr} {H H' : Hp} {ys xs : List V} (h : ItsD K (Nf B f t) H ys) (e : H f = some (.lst xs)) (o : Oth f H H') : ItsD K (Nf B f t) H' ys := fun y hy => (h y hy).imp fun _ d => d.mut e o
theorem ItsD.same {N : Addr → Prop} {H H' : Hp} {ys : List V} (h : ItsD K N H ys) (s : Same H H') : ItsD K N H' ys := fun y hy => (h y hy).imp fun _ d => d.same s
theorem Lf.same {N : Addr → Prop} {H H' : Hp} {y : V} {d : PyData} (h : Lf K N H y d) (s : Same H H') : Lf K N H' y d := ⟨h.q.same s, h.m, h.w, h.p⟩
theorem e_revL {te : TE} {σ : L2.St} {H : Hp} {Q : VK} (h : te σ H fun x H1 => ∃ a xs, x = .ref a ∧ SqL K H1 a xs ∧ NewQ (.lst xs.reverse) H1 Q) : tRevL K te σ H Q := h
def sp_spoiled_versions (K : PySem.W.Frag) : Sp := fun vs H Q _ => ∃ (B : Bg) (a : Addr) (ps : List Addr) (xs : List (Int × Option Int)) (t : Addr) (ot : HO), vs = [.ref B.hd, .ref a] ∧ H t = some ot ∧ t ≠ B.hd ∧ BagAt K H B ∧ SqL K H a (ps.map V.ref) ∧ a ≠ B.hd ∧ PairsAt K H ps xs ∧ Valid xs ∧ xs.length ≤ 10 ∧
  ∀ x H', Hs K B H H' → (∃ d, Drw K (Nf B t t) H' x d) → Q x H'
theorem ok_law_spoiled_versions (T : Txt K mg) : FnOk P w K mg base CX0 3 T.law_spoiled_versions.f T.law_spoiled_versions.fd ["bag", "versions"] (sp_spoiled_versions K) := by
  refine T.law_spoiled_versions.F.ok sc_law_spoiled_versions (fun vs H Q E h => ?_) (fun cdv A outer s H vs Q E hr h => ?_)
  · obtain ⟨B, a, ps, xs, t, ot, rfl, _⟩ := h
    rfl
  · obtain ⟨B, a, ps, xs, t, ot, rfl, ht, tn, b, hS, ha, hP, hV, hl, k⟩ := h
    refine ⟨_, (pss_cons (ps_set (i := 2) sc_law_spoiled_versions.nd rfl (Or.inl rfl) (pe_call (ok_law_draw T) (hr.mono (by decide)) (by rfl) T.law_draw.g T.law_draw.F.kp T.law_draw.b .nil pass0 (pa_cons (pv 0) (pa_cons pe_int pa_nil))))
    (pss_cons (ps_if (PW.pt (pw_or (pt_cmpR (oEq (K := K) hr.units) (pv 2) pe_int (nomark _)) (pw_or1 (pt_cmpR (oEq (K := K) hr.units) (pe_callB (cLen (K := K)) (by rfl) T.z_len PySem.boot_len (pa_cons (pv 1) pa_nil)) pe_int (nomark _))))) (pss_one (ps_ret (pe_ix (ixLT (K := K)) (pe_lst (pa_cons pe_non (pa_cons pe_dnewK (pa_cons pe_str (pa_cons pe_int (pa_cons pe_bl (pa_cons pe_str (pa_cons (pe_disp (pps_cons pe_int pe_int pps_nil) (by rfl) (by rfl) (fun z => by cases z) (by decide)) (pa_cons (pe_un un_neg pe_int) pa_nil))))))))) (pe_call (ok_law_draw T) (hr.mono (by decide)) (by rfl) T.law_draw.g T.law_draw.F.kp T.law_draw.b .nil pass0 (pa_cons (pv 0) (pa_cons pe_int pa_nil))) (fun _ _ => rfl)))) pss_nil)
    (pss_cons (ps_set (i := 3) sc_law_spoiled_versions.nd rfl (Or.inl rfl) (pe_callTy (cListOf (K := K)) (by rfl) T.z_list (by decide +kernel) (pa_cons (pv 1) pa_nil)))
    (pss_cons (ps_for PassesOwn.never rfl (pi_range1 (by rfl) T.z_range (pa_cons (pe_op oAdd pe_int (pe_call (ok_law_draw T) (hr.mono (by decide)) (by rfl) T.law_draw.g T.law_draw.F.kp T.law_draw.b .nil pass0 (pa_cons (pv 0) (pa_cons pe_int pa_nil)))) pa_nil)) (pg_name (i := 4) sc_law_spoiled_versions.nd rfl (Or.inl rfl))
      (pss_cons (ps_set (i := 5) sc_law_spoiled_versions.nd rfl (Or.inl rfl) (pe_call (ok_law_draw T) (hr.mono (by decide)) (by rfl) T.law_draw.g T.law_draw.F.kp T.law_draw.b .nil pass0 (pa_cons (pv 0) (pa_cons (pe_callB (cLen (K := K)) (by rfl) T.z_len PySem.boot_len (pa_cons (pv 3) pa_nil)) pa_nil))))
    (pss_cons (ps_set (i := 6) sc_law_spoiled_versions.nd rfl (Or.inl rfl) (pe_ix (ixLT (K := K)) (pv 1) (pe_callB (cMin2 rfl) (by rfl) T.z_min (by decide +kernel) (pa_cons (pv 5) (pa_cons (pe_op op_sub (pe_callB (cLen (K := K)) (by rfl) T.z_len PySem.boot_len (pa_cons (pv 1) pa_nil)) pe_int) pa_nil))) (fun _ _ => rfl)))
    (pss_one (ps_if (pt_cmpR oLt (pv 2) pe_int (nomark _)) (pss_cons (ps_set (i := 7) sc_law_spoiled_versions.nd rfl (Or.inl rfl) (pe_lst (pa_cons pe_non (pa_cons pe_int (pa_cons pe_str (pa_cons (pe_lst pa_nil) (pa_cons (pe_tup pa_nil) (pa_cons (pe_tup (pa_cons (pe_ix (ixLT (K := K)) (pv 6) pe_int (fun _ _ => rfl)) pa_nil)) (pa_cons (pe_tup (pa_cons (pe_ix (ixLT (K := K)) (pv 6) pe_int (fun _ _ => rfl)) (pa_cons pe_int (pa_cons pe_int pa_nil)))) (pa_cons (pe_lst (pa_cons (pe_ix (ixLT (K := K)) (pv 6) pe_int (fun _ _ => rfl)) (pa_cons pe_int pa_nil))) (pa_cons (pe_tup (pa_cons (pv 6) pa_nil)) (pa_cons (pe_tup (pa_cons pe_non (pa_cons pe_non pa_nil))) pa_nil))))))))))))
    (pss_one (ps_asg (pe_ix (ixLT (K := K)) (pv 7) (pe_call (ok_law_draw T) (hr.mono (by decide)) (by rfl) T.law_draw.g T.law_draw.F.kp T.law_draw.b .nil pass0 (pa_cons (pv 0) (pa_cons pe_int pa_nil))) (fun _ _ => rfl)) (pg_sub (pv 3) (pv 5) set_list)))) (pss_one (ps_if (pt_cmpR (oEq (K := K) hr.units) (pv 2) pe_int (nomark _)) (pss_cons (ps_set (i := 7) sc_law_spoiled_versions.nd rfl (Or.inl rfl) (pe_lst (pa_cons pe_int (pa_cons (pe_un un_neg (pe_ix (ixLT (K := K)) (pv 6) pe_int (fun _ _ => rfl))) (pa_cons pe_bl (pa_cons pe_non (pa_cons pe_str (pa_cons (pe_op oAdd (pe_op op_pow pe_int pe_int) pe_int) (pa_cons (pe_tup (pa_cons (pe_ix (ixLT (K := K)) (pv 6) pe_int (fun _ _ => rfl)) pa_nil)) (pa_cons pe_bl (pa_cons (pe_op op_pow pe_int pe_int) pa_nil)))))))))))
    (pss_one (ps_asg (pe_tup (pa_cons (pe_ix (ixLT (K := K)) (pv 7) (pe_call (ok_law_draw T) (hr.mono (by decide)) (by rfl) T.law_draw.g T.law_draw.F.kp T.law_draw.b .nil pass0 (pa_cons (pv 0) (pa_cons pe_int pa_nil))) (fun _ _ => rfl)) (pa_cons (pe_ix (ixLT (K := K)) (pv 6) pe_int (fun _ _ => rfl)) pa_nil))) (pg_sub (pv 3) (pv 5) set_list)))) (pss_one (ps_if (pt_cmpR (oEq (K := K) hr.units) (pv 2) pe_int (nomark _)) (pss_cons (ps_set (i := 7) sc_law_spoiled_versions.nd rfl (Or.inl rfl) (pe_lst (pa_cons pe_bl (pa_cons pe_bl (pa_cons pe_str (pa_cons pe_str (pa_cons (pe_op oAdd (pe_op op_pow pe_int pe_int) pe_int) (pa_cons (pe_op op_sub (pe_un un_neg (pe_op op_pow pe_int pe_int)) pe_int) (pa_cons (pe_tup pa_nil) (pa_cons (pe_lst (pa_cons pe_int pa_nil)) (pa_cons pe_dnewK pa_nil)))))))))))
    (pss_one (ps_asg (pe_tup (pa_cons (pe_ix (ixLT (K := K)) (pv 6) pe_int (fun _ _ => rfl)) (pa_cons (pe_ix (ixLT (K := K)) (pv 7) (pe_call (ok_law_draw T) (hr.mono (by decide)) (by rfl) T.law_draw.g T.law_draw.F.kp T.law_draw.b .nil pass0 (pa_cons (pv 0) (pa_cons pe_int pa_nil))) (fun _ _ => rfl)) pa_nil))) (pg_sub (pv 3) (pv 5) set_list)))) (pss_one (ps_if (pt_cmpR (oEq (K := K) hr.units) (pv 2) pe_int (nomark _)) (pss_one (ps_set (i := 3) sc_law_spoiled_versions.nd rfl (Or.inl rfl) (pe_op oAdd (pe_op oAdd (pe_slice (slL (K := K)) (pv 3) po_none (po_some (pv 5))) (pe_lst (pa_cons (pe_ix (ixLT (K := K)) (pv 3) (pv 5) (fun _ _ => rfl)) pa_nil))) (pe_slice (slL (K := K)) (pv 3) (po_some (pv 5)) po_none)))) (pss_one (ps_set (i := 3) sc_law_spoiled_versions.nd rfl (Or.inl rfl) (pe_op oAdd (pe_slice (slL (K := K)) (pv 3) po_none (po_some (pv 5))) (pe_revL (pe_slice (slL (K := K)) (pv 3) (po_some (pv 5)) po_none))))))))))))))))
    (pss_cons (ps_if (pt_cmpR (oEq (K := K) hr.units) (pe_call (ok_law_draw T) (hr.mono (by decide)) (by rfl) T.law_draw.g T.law_draw.F.kp T.law_draw.b .nil pass0 (pa_cons (pv 0) (pa_cons pe_int pa_nil))) pe_int (nomark _)) (pss_one (ps_ret (pe_callTy (cTupOf (K := K)) (by rfl) T.z_tuple (by decide +kernel) (pa_cons (pv 3) pa_nil)))) pss_nil)
    (pss_one (ps_ret (pv 3)))))))), ?_⟩
    have lp : ps.length = xs.length := hP.1
    walk_at "go"
    refine ⟨B, _, rfl, b, by omega, by omega, fun r1 H1 r10 r11 hs1 => ?_⟩
    have hS1 := hs1.sl ha hS
    have hP1 := hs1.pa b hP
    have b1 := hs1.b
    walk_at "go"
    refine i_d (fun q0 => ?_) (fun q0 => ?_)
    · walk_at "go"
      refine e_dnew fun p2 H2 n2 s2 h2 => ?_
      have b2 := bag_same b1 s2
      have ht1 := hs1.o t _ tn ht
      have ht2 := s2 _ _ ht1
      walk_at "go"
      refine e_disp fun p3 H3 n3 s3 h3 => ?_
      walk_at "go"
      refine disp_end [(Sum.inl 1, .int 2)] h3 rfl (by show 1 ≤ 15; decide) fun H4 o4 h4 => ?_
      have s24 : Same H2 H4 := fun a o e => o4 a o (ne_of_none e n3) (s3 a o e)
      have h24 := at_ s24 h2
      have b4 := bag_same b2 s24
      walk_at "go"
      refine n_new (le_size (by simp)) fun p6 H6 n6 s6 h6 => ?_
      have b6 := bag_same b4 s6
      walk_at "go"
      refine ⟨B, _, rfl, b6, by omega, by omega, fun r7 H7 r70 r71 hs7 => ?_⟩
      have h7 := hs7.ls (new_ne b4 n6) h6
      have ne2 : Nf B t t p2 := ⟨new_ne b1 n2, (ne_of_none ht1 n2).symm, (ne_of_none ht1 n2).symm⟩
      have ne3 : Nf B t t p3 := ⟨new_ne b2 n3, (ne_of_none ht2 n3).symm, (ne_of_none ht2 n3).symm⟩
      have e2 : H7 p2 = some (.dK []) := hs7.o p2 _ ne2.1 (at_ s6 h24)
      have e3 : H7 p3 = some (.dK [(Sum.inl 1, .int 2)]) := hs7.o p3 _ ne3.1 (at_ s6 h4)
      obtain ⟨v, hv, d, hd, hs⟩ : ∃ v, atI [V.non, V.ref p2, V.str (Str.ofString ""), V.int 5, V.bl true, V.str (Str.ofString "ab"), V.ref p3, V.int (-1)] r7 = some v ∧ ∃ d, ItD K (Nf B t t) H7 v d ∧ vsD d = none := by
        rcases (show r7 = 0 ∨ r7 = 1 ∨ r7 = 2 ∨ r7 = 3 ∨ r7 = 4 ∨ r7 = 5 ∨ r7 = 6 ∨ r7 = 7 by omega) with e | e | e | e | e | e | e | e <;> subst e
        · exact ⟨_, rfl, _, it_non, rfl⟩
        · exact ⟨_, rfl, .dict [], ⟨.dct e2 ne2 rfl .nil, rfl, by simp [PyData.weight, PyData.weightKv], by simp [PyData.depth, PyData.depthKv]⟩, rfl⟩
        · exact ⟨_, rfl, _, it_str (by decide +kernel) (by decide +kernel), rfl⟩
        · exact ⟨_, rfl, _, it_int (by decide), rfl⟩
        · exact ⟨_, rfl, _, it_bl true, rfl⟩
        · exact ⟨_, rfl, _, it_str (by decide +kernel) (by decide +kernel), rfl⟩
        · exact ⟨_, rfl, .dict [(.int 1, .int 2)], ⟨.dct e3 ne3 rfl (.cons (.int 2) .nil), by decide +kernel, by decide +kernel, by decide +kernel⟩, rfl⟩
        · exact ⟨_, rfl, _, it_int (by decide), rfl⟩
      refine o_ixA h7 hv ?_
      exact k _ H7 (hs1.trans ((Hs.of b1 (s2.trans (s24.trans s6))).trans hs7)) ⟨d, hd.drw hs⟩
    walk_at "go"
    refine i_d (fun q1 => ?_) (fun q1 => ?_)
    · walk_at "go"
      refine e_dnew fun p2 H2 n2 s2 h2 => ?_
      have b2 := bag_same b1 s2
      have ht1 := hs1.o t _ tn ht
      have ht2 := s2 _ _ ht1
      walk_at "go"
      refine e_disp fun p3 H3 n3 s3 h3 => ?_
      walk_at "go"
      refine disp_end [(Sum.inl 1, .int 2)] h3 rfl (by show 1 ≤ 15; decide) fun H4 o4 h4 => ?_
      have s24 : Same H2 H4 := fun a o e => o4 a o (ne_of_none e n3) (s3 a o e)
      have h24 := at_ s24 h2
      have b4 := bag_same b2 s24
      walk_at "go"
      refine n_new (le_size (by simp)) fun p6 H6 n6 s6 h6 => ?_
      have b6 := bag_same b4 s6
      walk_at "go"
      refine ⟨B, _, rfl, b6, by omega, by omega, fun r7 H7 r70 r71 hs7 => ?_⟩
      have h7 := hs7.ls (new_ne b4 n6) h6
      have ne2 : Nf B t t p2 := ⟨new_ne b1 n2, (ne_of_none ht1 n2).symm, (ne_of_none ht1 n2).symm⟩
      have ne3 : Nf B t t p3 := ⟨new_ne b2 n3, (ne_of_none ht2 n3).symm, (ne_of_none ht2 n3).symm⟩
      have e2 : H7 p2 = some (.dK []) := hs7.o p2 _ ne2.1 (at_ s6 h24)
      have e3 : H7 p3 = some (.dK [(Sum.inl 1, .int 2)]) := hs7.o p3 _ ne3.1 (at_ s6 h4)
      obtain ⟨v, hv, d, hd, hs⟩ : ∃ v, atI [V.non, V.ref p2, V.str (Str.ofString ""), V.int 5, V.bl true, V.str (Str.ofString "ab"), V.ref p3, V.int (-1)] r7 = some v ∧ ∃ d, ItD K (Nf B t t) H7 v d ∧ vsD d = none := by
        rcases (show r7 = 0 ∨ r7 = 1 ∨ r7 = 2 ∨ r7 = 3 ∨ r7 = 4 ∨ r7 = 5 ∨ r7 = 6 ∨ r7 = 7 by omega) with e | e | e | e | e | e | e | e <;> subst e
        · exact ⟨_, rfl, _, it_non, rfl⟩
        · exact ⟨_, rfl, .dict [], ⟨.dct e2 ne2 rfl .nil, rfl, by simp [PyData.weight, PyData.weightKv], by simp [PyData.depth, PyData.depthKv]⟩, rfl⟩
        · exact ⟨_, rfl, _, it_str (by decide +kernel) (by decide +kernel), rfl⟩
        · exact ⟨_, rfl, _, it_int (by decide), rfl⟩
        · exact ⟨_, rfl, _, it_bl true, rfl⟩
        · exact ⟨_, rfl, _, it_str (by decide +kernel) (by decide +kernel), rfl⟩
        · exact ⟨_, rfl, .dict [(.int 1, .int 2)], ⟨.dct e3 ne3 rfl (.cons (.int 2) .nil), by decide +kernel, by decide +kernel, by decide +kernel⟩, rfl⟩
        · exact ⟨_, rfl, _, it_int (by decide), rfl⟩
      refine o_ixA h7 hv ?_
      exact k _ H7 (hs1.trans ((Hs.of b1 (s2.trans (s24.trans s6))).trans hs7)) ⟨d, hd.drw hs⟩
    have hx0 : 0 < xs.length := by omega
    walk_at "go"
    refine n_new0 fun f H2 n2 s2 h2 => ?_
    have hs2 := hs1.trans (Hs.of b1 s2)
    have fn : H f = none := hs1.free n2
    have lm : (ps.map V.ref).length = xs.length := by rw [List.length_map, lp]
    walk_at "go"
    refine ⟨B, _, rfl, hs2.b, by omega, by omega, fun r3 H3 r30 r31 hs3 => ?_⟩
    have hs13 := hs2.trans hs3
    walk_at "go"
    refine i_rng (1 + r3).toNat rfl (by omega) (by omega) ?_
    refine l_rng (fun i σ H' => Hs K B H H' ∧ ∃ (g : Addr) (ys : List V) (y4 y5 y6 y7 : Option V), σ = [some (.ref B.hd), some (.ref a), some (.int r1), some (.ref g), y4, y5, y6, y7] ∧ H g = none ∧ H' g = some (.lst ys) ∧ (r1 < 5 → g = f) ∧ 0 < ys.length ∧ ys.length ≤ 10 + i ∧ ItsD K (Nf B f t) H' ys) ⟨hs13, f, ps.map V.ref, none, none, none, none, rfl, fn, hs3.ls (new_ne b fn) h2, fun _ => rfl, by omega, by omega, it_pairs (hs13.pa b hP) hV⟩ (fun σ H' p => ?_) (fun i σ H' hi p => ?_)
    · obtain ⟨hh, g, ys, y4, y5, y6, y7, rfl, gn, hg, gf, l0, l1, hi⟩ := p
      have gne : g ≠ B.hd := new_ne b gn
      have gt : g ≠ t := (ne_of_none ht gn).symm
      walk_at "go"
      refine ⟨B, _, rfl, hh.b, by omega, by omega, fun r9 H9 r90 r91 hs9 => ?_⟩
      have hg9 := hs9.ls gne hg
      have hi9 := hi.hs hh.b hs9
      have hh9 := hh.trans hs9
      have hit : ∀ {H2 : Hp}, Same H9 H2 → ∀ y ∈ ys, ∃ d, ItD K (Nf B t t) H2 y d := fun s y hy => (hi9 y hy).imp fun _ d => (d.same s).mono fun a n => ⟨n.1, n.2.2, n.2.2⟩
      walk_at "go"
      refine i_d (fun q2 => ?_) (fun q2 => ?_)
      · walk_at "go"
        refine n_new0 fun p H4 n4 s4 h4 => ?_
        exact k _ H4 (hh9.trans (Hs.of hh9.b s4)) (tup_drw (stO h4) (by omega) (hit s4))
      · walk_at "go"
        exact k _ H9 hh9 (lst_drw (slO hg9) ⟨gne, gt, gt⟩ (by omega) (hit (Same.refl _)))
    · obtain ⟨hh, g, ys, y4, y5, y6, y7, rfl, gn, hg, gf, l0, l1, hi⟩ := p
      have gne : g ≠ B.hd := new_ne b gn
      have gt : g ≠ t := (ne_of_none ht gn).symm
      walk_at "go"
      refine ⟨B, _, rfl, hh.b, by omega, by omega, fun r5 H5 r50 r51 hs5 => ?_⟩
      have hh5 := hh.trans hs5
      have hg5 := hs5.ls gne hg
      have hi5 := hi.hs hh.b hs5
      have hS5 := hh5.sl ha hS
      have hP5 := hh5.pa b hP
      walk_at "go"
      obtain ⟨m, hm, m0, m1⟩ : ∃ m : Int, (if (ps.length : Int) - 1 < r5 then (ps.length : Int) - 1 else r5) = m ∧ 0 ≤ m ∧ m < (xs.length : Nat) := ⟨_, rfl, by split <;> omega, by split <;> omega⟩
      rw [hm]
      have hj : m.toNat < xs.length := by omega
      refine o_ixL hS5 (atI_ref m.toNat (by omega) (by omega)) ?_
      have hv5 := hP5.at hj
      have hc := hV.comm _ (List.getElem_mem hj)
      have hk := hV.mark _ (List.getElem_mem hj)
      generalize ps[m.toNat]'_ = pp at *
      obtain ⟨⟨c, mk⟩, hv⟩ : ∃ v, xs[m.toNat] = v := ⟨_, rfl⟩
      rw [hv] at hv5 hc hk
      dsimp only at hv5 hc hk
      have hcn := com_n hc
      have ht5 := hh5.o t _ tn ht
      have b5 := hs5.b
      obtain ⟨j, rfl⟩ : ∃ j : Nat, r5 = (j : Int) := ⟨r5.toNat, by omega⟩
      have jl : j < ys.length := by omega
      walk_at "go"
      refine i_d (fun k3 => ?_) (fun k3 => ?_)
      · obtain rfl : g = f := gf (by omega)
        have nf : ∀ {H2 : Hp} {p : Addr}, Same H5 H2 → H2 p = none → Nf B g t p := fun s n => ⟨new_ne (bag_same b5 s) n, (ne_of_none (at_ s hg5) n).symm, (ne_of_none (s _ _ ht5) n).symm⟩
        walk_at "go"
        refine n_new (le_size (by simp)) fun pA HA nA sA hA => ?_
        walk_at "go"
        refine n_new (le_size (by simp)) fun pB HB nB sB hB => ?_
        have sB' := sA.trans sB
        have vB := st_ sB' hv5
        walk_at "go"
        refine n_new (le_size (by simp)) fun pC HC nC sC hC => ?_
        have sC' := sB'.trans sC
        have vC := st_ sC' hv5
        walk_at "go"
        refine n_new (le_size (by simp)) fun pD HD nD sD hD => ?_
        have sD' := sC'.trans sD
        have vD := st_ sD' hv5
        walk_at "go"
        refine n_new (le_size (by simp)) fun pE HE nE sE hE => ?_
        have sE' := sD'.trans sE
        walk_at "go"
        refine n_new (le_size (by simp)) fun pF HF nF sF hF => ?_
        have sF' := sE'.trans sF
        walk_at "go"
        refine n_new (le_size (by simp)) fun pG HG nG sG hG => ?_
        have sG' := sF'.trans sG
        walk_at "go"
        refine n_new (le_size (by simp)) fun p7 H7 n7 s7 h7 => ?_
        have s7' := sG'.trans s7
        have b7 := bag_same b5 s7'
        walk_at "go"
        refine ⟨B, _, rfl, b7, by omega, by omega, fun r8 H8 r80 r81 hs8 => ?_⟩
        have h8 := hs8.ls (new_ne (bag_same b5 sG') n7) h7
        have tB := hs8.st b7 (stO (K := K) (at_ (sC.trans (sD.trans (sE.trans (sF.trans (sG.trans s7))))) hB))
        have tC := hs8.st b7 (stO (K := K) (at_ (sD.trans (sE.trans (sF.trans (sG.trans s7)))) hC))
        have tD := hs8.st b7 (stO (K := K) (at_ (sE.trans (sF.trans (sG.trans s7))) hD))
        have tF := hs8.st b7 (stO (K := K) (at_ (sG.trans s7) hF))
        have tG := hs8.st b7 (stO (K := K) (at_ s7 hG))
        have nfA := nf (Same.refl _) nA
        have nfE := nf sD' nE
        have tA : SqL K H8 pA [] := slO (hs8.ls nfA.1 (at_ (sB.trans (sC.trans (sD.trans (sE.trans (sF.trans (sG.trans s7)))))) hA))
        have tE : SqL K H8 pE [.int c, .int 1] := slO (hs8.ls nfE.1 (at_ (sF.trans (sG.trans s7)) hE))
        have tP := hs8.st b7 (st_ s7' hv5)
        obtain ⟨v, hv, d, hd⟩ : ∃ v, atI [V.non, V.int 3, V.str (Str.ofString "ab"), V.ref pA, V.ref pB, V.ref pC, V.ref pD, V.ref pE, V.ref pF, V.ref pG] r8 = some v ∧ ∃ d, ItD K (Nf B g t) H8 v d := by
          rcases (show r8 = 0 ∨ r8 = 1 ∨ r8 = 2 ∨ r8 = 3 ∨ r8 = 4 ∨ r8 = 5 ∨ r8 = 6 ∨ r8 = 7 ∨ r8 = 8 ∨ r8 = 9 by omega) with e | e | e | e | e | e | e | e | e | e <;> subst e
          · exact ⟨_, rfl, _, it_non⟩
          · exact ⟨_, rfl, _, it_int (by decide)⟩
          · exact ⟨_, rfl, _, it_str (by decide +kernel) (by decide +kernel)⟩
          · exact ⟨_, rfl, _, (lf_lst0 tA nfA).it⟩
          · exact ⟨_, rfl, _, (lf_tup0 tB).it⟩
          · exact ⟨_, rfl, _, (lf_tupI tC hcn).it⟩
          · exact ⟨_, rfl, _, it_tup3 tD (lf_int hcn) (lf_int (by decide)) (lf_int (by decide))⟩
          · exact ⟨_, rfl, _, it_lst2 tE nfE (lf_int hcn) (lf_int (by decide))⟩
          · exact ⟨_, rfl, _, it_tup1 tF (lf_pair (v := (c, mk)) tP hc hk)⟩
          · exact ⟨_, rfl, _, it_tup2 tG lf_non lf_non⟩
        refine o_ixA h8 hv ?_
        have hg8 := hs8.ls gne (at_ s7' hg5)
        walk_at "go"
        refine set_ (j := j) hg8 (ixN_in rfl jl) fun H9 o9 h9 => ?_
        have hh8 := hh5.trans ((Hs.of b5 s7').trans hs8)
        have hi8 : ItsD K (Nf B g t) H8 ys := (hi5.same s7').hs b7 hs8
        exact ⟨hh8.mut b fn o9, g, ys.set j v, _, _, _, _, rfl, gn, h9, gf, by rw [List.length_set]; omega, by rw [List.length_set]; omega, (hi8.set ⟨d, hd⟩).mut hg8 o9⟩
      walk_at "go"
      refine i_d (fun k4 => ?_) (fun k4 => ?_)
      · obtain rfl : g = f := gf (by omega)
        walk_at "go"
        refine n_new (le_size (by simp)) fun pA HA nA sA hA => ?_
        walk_at "go"
        refine n_new (le_size (by simp)) fun p7 H7 n7 s7 h7 => ?_
        have s7' := sA.trans s7
        have b7 := bag_same b5 s7'
        walk_at "go"
        refine ⟨B, _, rfl, b7, by omega, by omega, fun r8 H8 r80 r81 hs8 => ?_⟩
        have h8 := hs8.ls (new_ne (bag_same b5 sA) n7) h7
        have tA := hs8.st b7 (stO (K := K) (at_ s7 hA))
        have tP := hs8.st b7 (st_ s7' hv5)
        obtain ⟨v, hv, d, hd⟩ : ∃ v, atI [V.int 0, V.int (-c), V.bl true, V.non, V.str (Str.ofString "1"), V.int (1000000000000000000 + 1), V.ref pA, V.bl false, V.int 10000000000000000000000000000000000000000] r8 = some v ∧ ∃ d, Lf K (Nf B g t) H8 v d := by
          rcases (show r8 = 0 ∨ r8 = 1 ∨ r8 = 2 ∨ r8 = 3 ∨ r8 = 4 ∨ r8 = 5 ∨ r8 = 6 ∨ r8 = 7 ∨ r8 = 8 by omega) with e | e | e | e | e | e | e | e | e <;> subst e
          · exact ⟨_, rfl, _, lf_int (by decide)⟩
          · exact ⟨_, rfl, _, lf_int (by omega)⟩
          · exact ⟨_, rfl, _, lf_bl true⟩
          · exact ⟨_, rfl, _, lf_non⟩
          · exact ⟨_, rfl, _, lf_str (by decide +kernel) (by decide +kernel)⟩
          · exact ⟨_, rfl, _, lf_int (by decide)⟩
          · exact ⟨_, rfl, _, lf_tupI tA hcn⟩
          · exact ⟨_, rfl, _, lf_bl false⟩
          · exact ⟨_, rfl, _, lf_int (by decide)⟩
        refine o_ixA h8 hv ?_
        have hg8 := hs8.ls gne (at_ s7' hg5)
        walk_at "go"
        refine n_new (le_size (by simp)) fun p8 Ha n8 s8 h8b => ?_
        have hga := at_ s8 hg8
        walk_at "go"
        refine set_ (j := j) hga (ixN_in rfl jl) fun H9 o9 h9 => ?_
        have hh8 := hh5.trans (((Hs.of b5 s7').trans hs8).trans (Hs.of hs8.b s8))
        have hi8 : ItsD K (Nf B g t) Ha ys := ((hi5.same s7').hs b7 hs8).same s8
        have hd8 : Lf K (Nf B g t) Ha v d := hd.same s8
        exact ⟨hh8.mut b fn o9, g, ys.set j (.ref p8), _, _, _, _, rfl, gn, h9, gf, by rw [List.length_set]; omega, by rw [List.length_set]; omega, (hi8.set ⟨_, it_tup2 (stO h8b) hd8 (lf_mark hk)⟩).mut hga o9⟩
      walk_at "go"
      refine i_d (fun k5 => ?_) (fun k5 => ?_)
      · obtain rfl : g = f := gf (by omega)
        have nf : ∀ {H2 : Hp} {p : Addr}, Same H5 H2 → H2 p = none → Nf B g t p := fun s n => ⟨new_ne (bag_same b5 s) n, (ne_of_none (at_ s hg5) n).symm, (ne_of_none (s _ _ ht5) n).symm⟩
        walk_at "go"
        refine n_new (le_size (by simp)) fun pA HA nA sA hA => ?_
        walk_at "go"
        refine n_new (le_size (by simp)) fun pB HB nB sB hB => ?_
        walk_at "go"
        refine e_dnew fun pC HC nC sC hC => ?_
        have sC' := (sA.trans sB).trans sC
        walk_at "go"
        refine n_new (le_size (by simp)) fun p7 H7 n7 s7 h7 => ?_
        have s7' := sC'.trans s7
        have b7 := bag_same b5 s7'
        have v7 := st_ s7' hv5
        walk_at "go"
        refine ⟨B, _, rfl, b7, by omega, by omega, fun r8 H8 r80 r81 hs8 => ?_⟩
        have h8 := hs8.ls (new_ne (bag_same b5 sC') n7) h7
        have nfB := nf sA nB
        have nfC := nf (sA.trans sB) nC
        have tA := hs8.st b7 (stO (K := K) (at_ (sB.trans (sC.trans s7)) hA))
        have tB : SqL K H8 pB [.int 1] := slO (hs8.ls nfB.1 (at_ (sC.trans s7) hB))
        have tC : H8 pC = some (.dK []) := hs8.o _ _ nfC.1 (at_ s7 hC)
        obtain ⟨v, hv, d, hd⟩ : ∃ v, atI [V.bl true, V.bl false, V.str (Str.ofString "a"), V.str (Str.ofString ""), V.int (1000000000000000000 + 1), V.int (-1000000000000000000 - 1), V.ref pA, V.ref pB, V.ref pC] r8 = some v ∧ ∃ d, Lf K (Nf B g t) H8 v d := by
          rcases (show r8 = 0 ∨ r8 = 1 ∨ r8 = 2 ∨ r8 = 3 ∨ r8 = 4 ∨ r8 = 5 ∨ r8 = 6 ∨ r8 = 7 ∨ r8 = 8 by omega) with e | e | e | e | e | e | e | e | e <;> subst e
          · exact ⟨_, rfl, _, lf_bl true⟩
          · exact ⟨_, rfl, _, lf_bl false⟩
          · exact ⟨_, rfl, _, lf_str (by decide +kernel) (by decide +kernel)⟩
          · exact ⟨_, rfl, _, lf_str (by decide +kernel) (by decide +kernel)⟩
          · exact ⟨_, rfl, _, lf_int (by decide)⟩
          · exact ⟨_, rfl, _, lf_int (by decide)⟩
          · exact ⟨_, rfl, _, lf_tup0 tA⟩
          · exact ⟨_, rfl, _, lf_lstI tB nfB (by decide)⟩
          · exact ⟨_, rfl, _, lf_dct0 tC nfC⟩
        refine o_ixA h8 hv ?_
        have hg8 := hs8.ls gne (at_ s7' hg5)
        walk_at "go"
        refine n_new (le_size (by simp)) fun p8 Ha n8 s8 h8b => ?_
        have hga := at_ s8 hg8
        walk_at "go"
        refine set_ (j := j) hga (ixN_in rfl jl) fun H9 o9 h9 => ?_
        have hh8 := hh5.trans (((Hs.of b5 s7').trans hs8).trans (Hs.of hs8.b s8))
        have hi8 : ItsD K (Nf B g t) Ha ys := ((hi5.same s7').hs b7 hs8).same s8
        have hd8 : Lf K (Nf B g t) Ha v d := hd.same s8
        exact ⟨hh8.mut b fn o9, g, ys.set j (.ref p8), _, _, _, _, rfl, gn, h9, gf, by rw [List.length_set]; omega, by rw [List.length_set]; omega, (hi8.set ⟨_, it_tup2 (stO h8b) (lf_int hcn) hd8⟩).mut hga o9⟩
      walk_at "go"
      refine i_d (fun k6 => ?_) (fun k6 => ?_)
      · walk_at "go"
        refine n_new0 fun p1 Ha n1 s1 h1 => ?_
        have ga := at_ s1 hg5
        walk_at "go"
        obtain ⟨y, hy⟩ : ∃ y, ys[j]? = some y := ⟨_, List.getElem?_eq_getElem jl⟩
        refine o_ixL (slO ga) (atI_in rfl hy) ?_
        walk_at "go"
        refine n_new (le_size (by simp)) fun p2 Hb n2 s2 h2 => ?_
        rw [cut_to] at h1
        have l1' : (ys.take j).length ≤ j := by rw [List.length_take]; omega
        refine o_cat (at_ s2 h1) h2 (by simp; omega) (n_new0 fun p3 Hc n3 s3 h3 => ?_)
        have sc := s1.trans (s2.trans s3)
        have gc := at_ sc hg5
        walk_at "go"
        refine n_new0 fun p4 Hd n4 s4 h4 => ?_
        rw [cut_from] at h4
        have l4 : (ys.drop j).length = ys.length - j := List.length_drop
        refine o_cat (at_ s4 h3) h4 (by simp; omega) (n_new0 fun p5 He n5 s5 h5 => ?_)
        have se := sc.trans (s4.trans s5)
        walk_at "go"
        refine ⟨hh5.trans (Hs.of b5 se), p5, _, _, _, _, _, rfl, (hh5.trans (Hs.of b5 (sc.trans s4))).free n5, h5, fun q => absurd q (by omega), by simp; omega, by simp; omega, fun z hz => ?_⟩
        have hie := hi5.same se
        rcases List.mem_append.mp hz with hz | hz
        · rcases List.mem_append.mp hz with hz | hz
          · exact hie z (List.mem_of_mem_take hz)
          · rw [List.mem_singleton.mp hz]
            exact hie y (List.mem_of_getElem? hy)
        · exact hie z (List.mem_of_mem_drop hz)
      · walk_at "go"
        refine n_new0 fun p1 Ha n1 s1 h1 => ?_
        have ga := at_ s1 hg5
        refine e_revL (K := K) ?_
        walk_at "go"
        refine n_new0 fun p2 Hb n2 s2 h2 => ?_
        refine ⟨p2, _, rfl, slO h2, n_new0 fun p3 Hc n3 s3 h3 => ?_⟩
        rw [cut_to] at h1
        rw [cut_from] at h3
        have l1' : (ys.take j).length ≤ j := by rw [List.length_take]; omega
        have l4 : (ys.drop j).length = ys.length - j := List.length_drop
        refine o_cat (at_ (s2.trans s3) h1) h3 (by simp; omega) (n_new0 fun p5 He n5 s5 h5 => ?_)
        have sc := s1.trans (s2.trans s3)
        have se := sc.trans s5
        walk_at "go"
        refine ⟨hh5.trans (Hs.of b5 se), p5, _, _, _, _, _, rfl, (hh5.trans (Hs.of b5 sc)).free n5, h5, fun q => absurd q (by omega), by simp; omega, by simp; omega, fun z hz => ?_⟩
        have hie := hi5.same se
        rcases List.mem_append.mp hz with hz | hz
        · exact hie z (List.mem_of_mem_take hz)
        · exact hie z (List.mem_of_mem_drop (List.mem_reverse.mp hz))
end



section
variable {P : Program} {w : World} {K : PySem.W.Frag} {mg : Str → Option Value} {base : Heap}
theorem dq_hs {B : Bg} {t : Addr} {H H' : Hp} {y : V} {d : PyData} (h : Dq K (Nf B t t) H y d) (b : BagAt K H B) (s : Hs K B H H') : Dq K (Nf B t t) H' y d := Dq.mv (fun _ _ n q => s.sl n.1 q) (fun _ _ q => s.st b q) (fun a _ n q => s.o a _ n.1 q) d y h
theorem dq_mut {B : Bg} {t : Addr} {H H' : Hp} {y : V} {d : PyData} {xs : List V} (h : Dq K (Nf B t t) H y d) (e : H t = some (.lst xs)) (o : Oth t H H') : Dq K (Nf B t t) H' y d := Dq.mv (fun _ _ n q => oth_sl o n.2.1 q) (fun _ _ q => oth_st o e q) (fun a _ n q => o a _ n.2.1 q) d y h
theorem drw_hs {B : Bg} {t : Addr} {H H' : Hp} {y : V} {d : PyData} (h : Drw K (Nf B t t) H y d) (b : BagAt K H B) (s : Hs K B H H') : Drw K (Nf B t t) H' y d := ⟨dq_hs h.q b s, h.z, h.z2, h.s⟩
theorem drw_mut {B : Bg} {t : Addr} {H H' : Hp} {y : V} {d : PyData} {xs : List V} (h : Drw K (Nf B t t) H y d) (e : H t = some (.lst xs)) (o : Oth t H H') : Drw K (Nf B t t) H' y d := ⟨dq_mut h.q e o, h.z, h.z2, h.s⟩
/-- the four things of a turn -/
structure Th (K : PySem.W.Frag) (B : Bg) (t : Addr) (H : Hp) (x z y u : V) : Prop where
  h : H t = some (.lst [x, z, y, u])
  x : ∃ d, Drw K (Nf B t t) H x d
  z : ∃ d, Dq K (Nf B t t) H z d
  y : ∃ d, Drw K (Nf B t t) H y d
  u : ∃ d, Dq K (Nf B t t) H u d
theorem Th.hs {B : Bg} {t : Addr} {H H' : Hp} {x z y u : V} (T : Th K B t H x z y u) (b : BagAt K H B) (n : t ≠ B.hd) (s : Hs K B H H') : Th K B t H' x z y u := ⟨s.o _ _ n T.h, T.x.imp fun _ d => drw_hs d b s, T.z.imp fun _ d => dq_hs d b s, T.y.imp fun _ d => drw_hs d b s, T.u.imp fun _ d => dq_hs d b s⟩
theorem Th.sx {B : Bg} {t : Addr} {H H' : Hp} {x z y u v : V} (T : Th K B t H x z y u) (o : Oth t H H') (e : H' t = some (.lst [v, z, y, u])) (d : ∃ d, Drw K (Nf B t t) H v d) : Th K B t H' v z y u := ⟨e, d.imp fun _ d => drw_mut d T.h o, T.z.imp fun _ d => dq_mut d T.h o, T.y.imp fun _ d => drw_mut d T.h o, T.u.imp fun _ d => dq_mut d T.h o⟩
theorem Th.sz {B : Bg} {t : Addr} {H H' : Hp} {x z y u v : V} (T : Th K B t H x z y u) (o : Oth t H H') (e : H' t = some (.lst [x, v, y, u])) (d : ∃ d, Dq K (Nf B t t) H v d) : Th K B t H' x v y u := ⟨e, T.x.imp fun _ d => drw_mut d T.h o, d.imp fun _ d => dq_mut d T.h o, T.y.imp fun _ d => drw_mut d T.h o, T.u.imp fun _ d => dq_mut d T.h o⟩
theorem Th.sy {B : Bg} {t : Addr} {H H' : Hp} {x z y u v : V} (T : Th K B t H x z y u) (o : Oth t H H') (e : H' t = some (.lst [x, z, v, u])) (d : ∃ d, Drw K (Nf B t t) H v d) : Th K B t H' x z v u := ⟨e, T.x.imp fun _ d => drw_mut d T.h o, T.z.imp fun _ d => dq_mut d T.h o, d.imp fun _ d => drw_mut d T.h o, T.u.imp fun _ d => dq_mut d T.h o⟩
theorem Th.su {B : Bg} {t : Addr} {H H' : Hp} {x z y u v : V} (T : Th K B t H x z y u) (o : Oth t H H') (e : H' t = some (.lst [x, z, y, v])) (d : ∃ d, Dq K (Nf B t t) H v d) : Th K B t H' x z y v := ⟨e, T.x.imp fun _ d => drw_mut d T.h o, T.z.imp fun _ d => dq_mut d T.h o, T.y.imp fun _ d => drw_mut d T.h o, d.imp fun _ d => dq_mut d T.h o⟩
def sp_law (K : PySem.W.Frag) : Sp := fun vs H Q _ => ∃ (a : Addr) (ns : List Int), vs = [.ref a] ∧ SqL K H a (ns.map V.int) ∧ ns.length ≤ 63 ∧ ∀ H', Q (.bl true) H'
theorem ok_law (F : Fun K "law" "law" s_law f fd) (T : Txt K mg) : FnG P w K mg base CX0 11 f fd ["script"] ((sp_law K)) := by
  refine F.okG sc_law (fun vs H Q E h => ?_) (fun cdv A outer s H vs Q E gd hr h => ?_)
  · obtain ⟨a, ns, rfl, _⟩ := h
    rfl
  · obtain ⟨a, ns0, rfl, hS, hl, k⟩ := h
    refine ⟨_, (pss_cons (ps_set (i := 1) sc_law.nd rfl (Or.inl rfl) (pe_call (ok_law_bag T) (hr.mono (by decide)) (by rfl) T.law_bag.g T.law_bag.F.kp T.law_bag.b .nil pass0 (pa_cons (pv 0) pa_nil)))
    (pss_cons (ps_set (i := 2) sc_law.nd rfl (Or.inl rfl) (pe_call (ok_law_versions T) (hr.mono (by decide)) (by rfl) T.law_versions.g T.law_versions.F.kp T.law_versions.b .nil pass0 (pa_cons (pv 1) pa_nil)))
    (pss_cons (ps_set (i := 3) sc_law.nd rfl (Or.inl rfl) pe_int)
    (Evl.pss_cut (ps_if (pt_cmpR op_gt (pe_callB (cLen (K := K)) (by rfl) T.z_len PySem.boot_len (pa_cons (pv 2) pa_nil)) pe_int (nomark _)) (pss_one (ps_set (i := 3) sc_law.nd rfl (Or.inl rfl) (pe_ix (ixLT (K := K)) (pe_ix (ixLT (K := K)) (pv 2) pe_int (fun _ _ => rfl)) pe_int (fun _ _ => rfl)))) pss_nil)
    (pss_cons (ps_set (i := 4) sc_law.nd rfl (Or.inl rfl) (pe_callB (cMin2 rfl) (by rfl) T.z_min (by decide +kernel) (pa_cons (pe_op op_pow pe_int pe_int) (pa_cons (pe_op oAdd (pv 3) (pe_call (ok_law_draw T) (hr.mono (by decide)) (by rfl) T.law_draw.g T.law_draw.F.kp T.law_draw.b .nil pass0 (pa_cons (pv 1) (pa_cons pe_int pa_nil)))) pa_nil))))
    (pss_cons (ps_set (i := 5) sc_law.nd rfl (Or.inl rfl) (pe_call (ok_law_open T) (hr.mono (by decide)) (by rfl) T.law_open.g T.law_open.F.kp T.law_open.b .nil pass0 (pa_cons (pv 1) (pa_cons (pv 2) (pa_cons (pv 4) pa_nil)))))
    (pss_cons (ps_for PassesOwn.never rfl (pi_range1 (by rfl) T.z_range (pa_cons pe_int pa_nil)) (pg_name (i := 6) sc_law.nd rfl (Or.inl rfl))
      (pss_cons (ps_set (i := 7) sc_law.nd rfl (Or.inl rfl) (pe_call (ok_law_draw T) (hr.mono (by decide)) (by rfl) T.law_draw.g T.law_draw.F.kp T.law_draw.b .nil pass0 (pa_cons (pv 1) (pa_cons pe_int pa_nil))))
    (pss_cons (ps_set (i := 8) sc_law.nd rfl (Or.inl rfl) (pe_op oAdd pe_int (pe_call (ok_law_draw T) (hr.mono (by decide)) (by rfl) T.law_draw.g T.law_draw.F.kp T.law_draw.b .nil pass0 (pa_cons (pv 1) (pa_cons pe_int pa_nil)))))
    (Evl.pss_cut (ps_if (PW.pt (pw_and (pt_cmpR op_gt (pe_callB (cLen (K := K)) (by rfl) T.z_len PySem.boot_len (pa_cons (pv 2) pa_nil)) pe_int (nomark _)) (pw_and1 (pt_cmpR op_gt (pe_call (ok_law_draw T) (hr.mono (by decide)) (by rfl) T.law_draw.g T.law_draw.F.kp T.law_draw.b .nil pass0 (pa_cons (pv 1) (pa_cons pe_int pa_nil))) pe_int (nomark _))))) (pss_one (ps_set (i := 8) sc_law.nd rfl (Or.inl rfl) (pe_ix (ixLT (K := K)) (pe_ix (ixLT (K := K)) (pv 2) (pe_call (ok_law_draw T) (hr.mono (by decide)) (by rfl) T.law_draw.g T.law_draw.F.kp T.law_draw.b .nil pass0 (pa_cons (pv 1) (pa_cons (pe_callB (cLen (K := K)) (by rfl) T.z_len PySem.boot_len (pa_cons (pv 2) pa_nil)) pa_nil))) (fun _ _ => rfl)) pe_int (fun _ _ => rfl)))) pss_nil)
    (pss_cons (ps_set (i := 9) sc_law.nd rfl (Or.inl rfl) (pe_lst (pa_cons (pe_callTy (cListOf (K := K)) (by rfl) T.z_list (by decide +kernel) (pa_cons (pv 2) pa_nil)) (pa_cons (pv 4) (pa_cons (pv 5) (pa_cons (pv 8) pa_nil))))))
    (pss_cons (ps_if (pt_not (ptTruth (K := K) (pe_callG gd (ok_law_is_met T) (hr.mono (by decide)) (by rfl) T.law_is_met.g T.law_is_met.F.kp T.law_is_met.b .nil pass0 (pa_cons (pv 7) (pa_cons (pe_ix (ixLT (K := K)) (pv 9) pe_int (fun _ _ => rfl)) (pa_cons (pe_ix (ixLT (K := K)) (pv 9) pe_int (fun _ _ => rfl)) (pa_cons (pe_ix (ixLT (K := K)) (pv 9) pe_int (fun _ _ => rfl)) (pa_cons (pe_ix (ixLT (K := K)) (pv 9) pe_int (fun _ _ => rfl)) pa_nil)))))) (by intro _; rfl))) (pss_one (ps_ret pe_bl)) pss_nil)
    (Evl.pss_cut (ps_if (pt_cmpR (oEq (K := K) hr.units) (pe_call (ok_law_draw T) (hr.mono (by decide)) (by rfl) T.law_draw.g T.law_draw.F.kp T.law_draw.b .nil pass0 (pa_cons (pv 1) (pa_cons pe_int pa_nil))) pe_int (nomark _)) (pss_one (ps_asg (pe_call (ok_law_spoiled_versions T) (hr.mono (by decide)) (by rfl) T.law_spoiled_versions.g T.law_spoiled_versions.F.kp T.law_spoiled_versions.b .nil pass0 (pa_cons (pv 1) (pa_cons (pv 2) pa_nil))) (pg_sub (pv 9) pe_int set_list))) pss_nil)
    (Evl.pss_cut (ps_if (pt_cmpR (oEq (K := K) hr.units) (pe_call (ok_law_draw T) (hr.mono (by decide)) (by rfl) T.law_draw.g T.law_draw.F.kp T.law_draw.b .nil pass0 (pa_cons (pv 1) (pa_cons pe_int pa_nil))) pe_int (nomark _)) (pss_one (ps_asg (pe_ix (ixLT (K := K)) (pe_lst (pa_cons (pe_op op_sub (pv 3) pe_int) (pa_cons (pe_op oAdd (pe_op op_pow pe_int pe_int) pe_int) (pa_cons (pe_un un_neg pe_int) (pa_cons pe_bl (pa_cons pe_non (pa_cons pe_str (pa_cons (pe_tup (pa_cons (pv 4) pa_nil)) (pa_cons (pe_op op_pow pe_int pe_int) pa_nil))))))))) (pe_call (ok_law_draw T) (hr.mono (by decide)) (by rfl) T.law_draw.g T.law_draw.F.kp T.law_draw.b .nil pass0 (pa_cons (pv 1) (pa_cons pe_int pa_nil))) (fun _ _ => rfl)) (pg_sub (pv 9) pe_int set_list))) pss_nil)
    (Evl.pss_cut (ps_if (pt_cmpR (oEq (K := K) hr.units) (pe_call (ok_law_draw T) (hr.mono (by decide)) (by rfl) T.law_draw.g T.law_draw.F.kp T.law_draw.b .nil pass0 (pa_cons (pv 1) (pa_cons pe_int pa_nil))) pe_int (nomark _)) (pss_one (ps_asg (pe_call (ok_law_spoiled_open T) (hr.mono (by decide)) (by rfl) T.law_spoiled_open.g T.law_spoiled_open.F.kp T.law_spoiled_open.b .nil pass0 (pa_cons (pv 1) (pa_cons (pv 5) (pa_cons (pv 4) pa_nil)))) (pg_sub (pv 9) pe_int set_list))) pss_nil)
    (Evl.pss_cut (ps_if (pt_cmpR (oEq (K := K) hr.units) (pe_call (ok_law_draw T) (hr.mono (by decide)) (by rfl) T.law_draw.g T.law_draw.F.kp T.law_draw.b .nil pass0 (pa_cons (pv 1) (pa_cons pe_int pa_nil))) pe_int (nomark _)) (pss_one (ps_asg (pe_ix (ixLT (K := K)) (pe_lst (pa_cons pe_bl (pa_cons pe_non (pa_cons pe_str (pa_cons (pe_tup (pa_cons (pv 8) pa_nil)) (pa_cons pe_int (pa_cons (pe_un un_neg pe_int) (pa_cons (pe_op oAdd (pv 3) pe_int) (pa_cons (pe_op op_pow pe_int pe_int) (pa_cons pe_dnewK pa_nil)))))))))) (pe_call (ok_law_draw T) (hr.mono (by decide)) (by rfl) T.law_draw.g T.law_draw.F.kp T.law_draw.b .nil pass0 (pa_cons (pv 1) (pa_cons pe_int pa_nil))) (fun _ _ => rfl)) (pg_sub (pv 9) pe_int set_list))) pss_nil)
    (pss_one (ps_if (pt_not (ptTruth (K := K) (pe_callG gd (ok_law_is_met T) (hr.mono (by decide)) (by rfl) T.law_is_met.g T.law_is_met.F.kp T.law_is_met.b .nil pass0 (pa_cons (pv 7) (pa_cons (pe_ix (ixLT (K := K)) (pv 9) pe_int (fun _ _ => rfl)) (pa_cons (pe_ix (ixLT (K := K)) (pv 9) pe_int (fun _ _ => rfl)) (pa_cons (pe_ix (ixLT (K := K)) (pv 9) pe_int (fun _ _ => rfl)) (pa_cons (pe_ix (ixLT (K := K)) (pv 9) pe_int (fun _ _ => rfl)) pa_nil)))))) (by intro _; rfl))) (pss_one (ps_ret pe_bl)) pss_nil))))))))))))
    (pss_one (ps_ret pe_bl))))))))), ?_⟩
    walk_at "go"
    refine ⟨a, ns0, rfl, hS, hl, fun B H1 nB s1 b1 => ?_⟩
    walk_at "go"
    refine ⟨B, rfl, b1, fun p ps xs H2 hs2 np hp hP hV hl10 t0 t1 => ?_⟩
    have pn : p ≠ B.hd := new_ne b1 np
    have lp : ps.length = xs.length := hP.1
    have t1 : top xs ≤ 1000000000000000000 := t1
    walk_at "go"
    refine s_cut (fun σ3 H3 => H3 = H2 ∧ σ3 = [some (.ref a), some (.ref B.hd), some (.ref p), some (.int (top xs)), none, none, none, none, none, none]) ?_ ?_
    · walk_at "go"
      refine i_d (fun q0 => ?_) (fun q0 => ?_)
      · cases xs with
        | nil => exact absurd lp (by rw [List.length_nil]; omega)
        | cons v r =>
          have hj : 0 < (v :: r).length := Nat.zero_lt_succ _
          walk_at "go"
          refine o_ixL (slO hp) (atI_ref 0 rfl (by omega)) ?_
          have hv := hP.at hj
          walk_at "go"
          exact ⟨rfl, rfl⟩
      · have : xs = [] := List.length_eq_zero_iff.mp (by omega)
        subst this
        walk_at "go"
        exact ⟨rfl, rfl⟩
    · rintro σ3 H3 ⟨rfl, rfl⟩
      walk_at "go"
      refine ⟨B, _, rfl, hs2.b, by omega, by omega, fun r H4 r0 r1 hs4 => ?_⟩
      walk_at "go"
      obtain ⟨l, el⟩ : ∃ l : Int, (if top xs + r < 1000000000000000000 then top xs + r else 1000000000000000000) = l := ⟨_, rfl⟩
      have l0 : 0 ≤ l := by subst el; split <;> omega
      have l1 : l ≤ 1000000000000000000 := by subst el; split <;> omega
      rw [el]
      clear el
      have hp4 := hs4.ls pn hp
      have hP4 := hs4.pa hs2.b hP
      refine ⟨B, p, ps, xs, l, rfl, hs4.b, slO hp4, pn, hP4, hV, l0, by omega, fun op ns H5 hs5 nop hop o1 o2 o3 => ?_⟩
      have hp5 := hs5.ls pn hp4
      have hP5 := hs5.pa hs4.b hP4
      have on : op ≠ B.hd := new_ne hs4.b nop
      have b5 := hs5.b
      clear hs4 hs5 hP4 hp4 hP hp nop
      walk_at "go"
      refine i_rng 6 rfl (by decide) (by decide) ?_
      refine l_rng (fun i σ H' => Hs K B H5 H' ∧ ∃ y6 y7 y8 y9 : Option V, σ = [some (.ref a), some (.ref B.hd), some (.ref p), some (.int (top xs)), some (.int l), some (.ref op), y6, y7, y8, y9]) ⟨⟨fun _ _ _ h => h, b5⟩, none, none, none, none, rfl⟩ (fun σ H' p => ?_) (fun i σ H' hi p => ?_)
      · obtain ⟨hh, y6, y7, y8, y9, rfl⟩ := p
        walk_at "go"
        exact k _
      · obtain ⟨hh, y6, y7, y8, y9, rfl⟩ := p
        walk_at "go"
        refine ⟨B, _, rfl, hh.b, by omega, by omega, fun wh H6 w0 w1 hs6 => ?_⟩
        have hh6 := hh.trans hs6
        walk_at "go"
        refine ⟨B, _, rfl, hh6.b, by omega, by omega, fun cc H7 c0 c1 hs7 => ?_⟩
        have hh7 := hh6.trans hs7
        walk_at "go"
        refine s_cut (fun σ2 H2 => Hs K B H7 H2 ∧ ∃ c : Int, σ2 = [some (.ref a), some (.ref B.hd), some (.ref p), some (.int (top xs)), some (.int l), some (.ref op), some (.int (i : Nat)), some (.int wh), some (.int c), y9] ∧ 1 ≤ c ∧ c ≤ 1000000000000000000) ?_ ?_
        · have hp7 := hh7.ls pn hp5
          have hP7 := hh7.pa b5 hP5
          walk_at "go"
          refine i_d (fun q1 => ?_) (fun q1 => ?_)
          · walk_at "go"
            refine ⟨B, _, rfl, hh7.b, by omega, by omega, fun r8 H8 r80 r81 hs8 => ?_⟩
            walk_at "go"
            refine i_d (fun q2 => ?_) (fun q2 => ?_)
            · have hp8 := hs8.ls pn hp7
              walk_at "go"
              refine ⟨B, _, rfl, hs8.b, by omega, by omega, fun r9 H9 r90 r91 hs9 => ?_⟩
              have hp9 := hs9.ls pn hp8
              have hP9 := hs9.pa hs8.b (hs8.pa hh7.b hP7)
              have hj : r9.toNat < xs.length := by omega
              refine o_ixL (slO hp9) (atI_ref r9.toNat (by omega) (by omega)) ?_
              have hv := hP9.at hj
              have hc : 1 ≤ (xs[r9.toNat]'hj).1 ∧ (xs[r9.toNat]'hj).1 ≤ (1000000000000000000 : Int) := hV.comm _ (List.getElem_mem hj)
              walk_at "go"
              exact ⟨hs8.trans hs9, _, rfl, hc.1, hc.2⟩
            · walk_at "go"
              exact ⟨hs8, _, rfl, by omega, by omega⟩
          · walk_at "go"
            exact ⟨⟨fun _ _ _ h => h, hh7.b⟩, _, rfl, by omega, by omega⟩
        · rintro σ2 H8 ⟨hs8, c, rfl, c0, c1⟩
          have hh8 := hh7.trans hs8
          have hp8 := hh8.ls pn hp5
          have hP8 := hh8.pa b5 hP5
          have hpS := slO (K := K) hp8
          have ho8 : SqT K H8 op (ns.map V.int) := hh8.st b5 (stO hop)
          walk_at "go"
          refine n_new0 fun q Hq nq sq hq => ?_
          walk_at "go"
          refine n_new (le_size (by simp)) fun t Ht nt st ht => ?_
          have sqt := sq.trans st
          have hht := hh8.trans (Hs.of hh8.b sqt)
          have bt := hht.b
          have tn : t ≠ B.hd := new_ne (bag_same hh8.b sq) nt
          have t5 : H5 t = none := (hh8.trans (Hs.of hh8.b sq)).free nt
          have nfq : Nf B t t q := ⟨new_ne hh8.b nq, ne_of_none hq nt, ne_of_none hq nt⟩
          have lm : (ps.map V.ref).length ≤ 40 := by rw [List.length_map]; omega
          have lo : (ns.map V.int).length ≤ 40 := by rw [List.length_map]; omega
          have o2' : ∀ z ∈ ns, 0 ≤ z ∧ z ≤ 2000000000000000000 := fun z hz => ⟨(o2 z hz).1, by have := (o2 z hz).2; omega⟩
          have T0 : Th K B t Ht (.ref q) (.int l) (.ref op) (.int c) := ⟨ht, lst_drw (slO (at_ st hq)) nfq lm (it_pairs (pa_ sqt hP8) hV), ⟨_, .int l⟩, tup_drw (st_ sqt ho8) lo (it_ints o2'), ⟨_, .int c⟩⟩
          walk_at "go"
          obtain ⟨dx, hx⟩ := T0.x
          obtain ⟨dy, hy⟩ := T0.y
          refine ⟨wh, _, _, _, _, _, _, _, _, dx, dy, _, _, rfl, hx.q, hy.q, .int (N := Nf B t t) l, .int (N := Nf B t t) c, hx.z, hy.z, hy.z2, hx.s, hy.s, w0, by omega, fun H9 s9 => ?_⟩
          have hh9 := hht.trans (Hs.of bt s9)
          have T1 := T0.hs bt tn (Hs.of bt s9)
          clear hx hy T0 ht hq nt nq st sq sqt nfq ho8 hp8 hP8 hpS bt hht
          walk_at "go"
          refine s_cut (fun σ2 H2 => Hs K B H5 H2 ∧ ∃ x z y u, σ2 = [some (.ref a), some (.ref B.hd), some (.ref p), some (.int (top xs)), some (.int l), some (.ref op), some (.int (i : Nat)), some (.int wh), some (.int c), some (.ref t)] ∧ Th K B t H2 x z y u) ?_ ?_
          · walk_at "go"
            refine ⟨B, _, rfl, hh9.b, by omega, by omega, fun ra Ha ra0 ra1 hsa => ?_⟩
            have TA := T1.hs hh9.b tn hsa
            have hha := hh9.trans hsa
            walk_at "go"
            refine i_d (fun q1 => ?_) (fun q1 => ?_)
            · walk_at "go"
              refine ⟨B, p, ps, xs, t, _, rfl, TA.h, tn, hsa.b, slO (hha.ls pn hp5), pn, hha.pa b5 hP5, hV, hl10, fun x2 Hb hsb hx2 => ?_⟩
              have TB := TA.hs hsa.b tn hsb
              walk_at "go"
              refine set_ (j := 0) TB.h rfl fun Hc oc hc => ?_
              exact ⟨(hha.trans hsb).mut b5 t5 oc, _, _, _, _, rfl, TB.sx oc hc hx2⟩
            · walk_at "go"
              exact ⟨hha, _, _, _, _, rfl, TA⟩
          · rintro σ2 H10 ⟨hh10, x, z, y, u, rfl, T2⟩
            walk_at "go"
            refine s_cut (fun σ2 H2 => Hs K B H5 H2 ∧ ∃ x z y u, σ2 = [some (.ref a), some (.ref B.hd), some (.ref p), some (.int (top xs)), some (.int l), some (.ref op), some (.int (i : Nat)), some (.int wh), some (.int c), some (.ref t)] ∧ Th K B t H2 x z y u) ?_ ?_
            · walk_at "go"
              refine ⟨B, _, rfl, hh10.b, by omega, by omega, fun ra Ha ra0 ra1 hsa => ?_⟩
              have TA := T2.hs hh10.b tn hsa
              have hha := hh10.trans hsa
              walk_at "go"
              refine i_d (fun q1 => ?_) (fun q1 => ?_)
              · walk_at "go"
                refine n_new (le_size (by simp)) fun pA HA nA sA hA => ?_
                walk_at "go"
                refine n_new (le_size (by simp)) fun pB HB nB sB hB => ?_
                have sAB := sA.trans sB
                have bB := bag_same hsa.b sAB
                walk_at "go"
                refine ⟨B, _, rfl, bB, by omega, by omega, fun rb Hb rb0 rb1 hsb => ?_⟩
                have hB' := hsb.ls (new_ne (bag_same hsa.b sA) nB) hB
                have tA := hsb.st bB (stO (K := K) (at_ sB hA))
                obtain ⟨v, hv, d, hd⟩ : ∃ v, atI [V.int (top xs - 1), V.int (1000000000000000000 + 1), V.int (-1), V.bl true, V.non, V.str (Str.ofString "1"), V.ref pA, V.int 1000000000000000000000000000000] rb = some v ∧ ∃ d, Dq K (Nf B t t) Hb v d := by
                  rcases (show rb = 0 ∨ rb = 1 ∨ rb = 2 ∨ rb = 3 ∨ rb = 4 ∨ rb = 5 ∨ rb = 6 ∨ rb = 7 by omega) with e | e | e | e | e | e | e | e <;> subst e
                  · exact ⟨_, rfl, _, .int _⟩
                  · exact ⟨_, rfl, _, .int _⟩
                  · exact ⟨_, rfl, _, .int _⟩
                  · exact ⟨_, rfl, _, .bl _⟩
                  · exact ⟨_, rfl, _, .non⟩
                  · exact ⟨_, rfl, _, .str _⟩
                  · exact ⟨_, rfl, _, .tup tA (.cons (.int _) .nil)⟩
                  · exact ⟨_, rfl, _, .int _⟩
                have TB := TA.hs hsa.b tn ((Hs.of hsa.b sAB).trans hsb)
                refine o_ixA hB' hv ?_
                walk_at "go"
                refine set_ (j := 1) TB.h rfl fun Hc oc hc => ?_
                exact ⟨(hha.trans ((Hs.of hsa.b sAB).trans hsb)).mut b5 t5 oc, _, _, _, _, rfl, TB.sz oc hc ⟨d, hd⟩⟩
              · walk_at "go"
                exact ⟨hha, _, _, _, _, rfl, TA⟩
            · clear T1 T2 x z y u hh9 hh10
              rintro σ2 H11 ⟨hh11, x, z, y, u, rfl, T3⟩
              walk_at "go"
              refine s_cut (fun σ2 H2 => Hs K B H5 H2 ∧ ∃ x z y u, σ2 = [some (.ref a), some (.ref B.hd), some (.ref p), some (.int (top xs)), some (.int l), some (.ref op), some (.int (i : Nat)), some (.int wh), some (.int c), some (.ref t)] ∧ Th K B t H2 x z y u) ?_ ?_
              · walk_at "go"
                refine ⟨B, _, rfl, hh11.b, by omega, by omega, fun ra Ha ra0 ra1 hsa => ?_⟩
                have TA := T3.hs hh11.b tn hsa
                have hha := hh11.trans hsa
                walk_at "go"
                refine i_d (fun q1 => ?_) (fun q1 => ?_)
                · walk_at "go"
                  refine ⟨B, op, ns, l, t, _, rfl, TA.h, tn, hsa.b, hha.st b5 (stO hop), o3, o2', l0, l1, fun y2 Hb hsb hy2 => ?_⟩
                  have TB := TA.hs hsa.b tn hsb
                  walk_at "go"
                  refine set_ (j := 2) TB.h rfl fun Hc oc hc => ?_
                  exact ⟨(hha.trans hsb).mut b5 t5 oc, _, _, _, _, rfl, TB.sy oc hc hy2⟩
                · walk_at "go"
                  exact ⟨hha, _, _, _, _, rfl, TA⟩
              · rintro σ2 H12 ⟨hh12, x2, z2, y2, u2, rfl, T4⟩
                walk_at "go"
                refine s_cut (fun σ2 H2 => Hs K B H5 H2 ∧ ∃ x z y u, σ2 = [some (.ref a), some (.ref B.hd), some (.ref p), some (.int (top xs)), some (.int l), some (.ref op), some (.int (i : Nat)), some (.int wh), some (.int c), some (.ref t)] ∧ Th K B t H2 x z y u) ?_ ?_
                · walk_at "go"
                  refine ⟨B, _, rfl, hh12.b, by omega, by omega, fun ra Ha ra0 ra1 hsa => ?_⟩
                  have TA := T4.hs hh12.b tn hsa
                  have hha := hh12.trans hsa
                  walk_at "go"
                  refine i_d (fun q1 => ?_) (fun q1 => ?_)
                  · walk_at "go"
                    refine n_new (le_size (by simp)) fun pA HA nA sA hA => ?_
                    walk_at "go"
                    refine e_dnew fun pC HC nC sC hC => ?_
                    walk_at "go"
                    refine n_new (le_size (by simp)) fun pB HB nB sB hB => ?_
                    have sAC := sA.trans sC
                    have sAB := sAC.trans sB
                    have bB := bag_same hsa.b sAB
                    walk_at "go"
                    refine ⟨B, _, rfl, bB, by omega, by omega, fun rb Hb rb0 rb1 hsb => ?_⟩
                    have hB' := hsb.ls (new_ne (bag_same hsa.b sAC) nB) hB
                    have tA := hsb.st bB (stO (K := K) (at_ (sC.trans sB) hA))
                    have htA := at_ sA TA.h
                    have nfC : Nf B t t pC := ⟨new_ne (bag_same hsa.b sA) nC, (ne_of_none htA nC).symm, (ne_of_none htA nC).symm⟩
                    have tC := hsb.o _ _ nfC.1 (at_ sB hC)
                    obtain ⟨v, hv, d, hd⟩ : ∃ v, atI [V.bl true, V.non, V.str (Str.ofString "1"), V.ref pA, V.int 0, V.int (-1), V.int (top xs + 1), V.int 1000000000000000000000000000000, V.ref pC] rb = some v ∧ ∃ d, Dq K (Nf B t t) Hb v d := by
                      rcases (show rb = 0 ∨ rb = 1 ∨ rb = 2 ∨ rb = 3 ∨ rb = 4 ∨ rb = 5 ∨ rb = 6 ∨ rb = 7 ∨ rb = 8 by omega) with e | e | e | e | e | e | e | e | e <;> subst e
                      · exact ⟨_, rfl, _, .bl _⟩
                      · exact ⟨_, rfl, _, .non⟩
                      · exact ⟨_, rfl, _, .str _⟩
                      · exact ⟨_, rfl, _, .tup tA (.cons (.int _) .nil)⟩
                      · exact ⟨_, rfl, _, .int _⟩
                      · exact ⟨_, rfl, _, .int _⟩
                      · exact ⟨_, rfl, _, .int _⟩
                      · exact ⟨_, rfl, _, .int _⟩
                      · exact ⟨_, rfl, _, .dct (D := []) tC nfC rfl .nil⟩
                    have TB := TA.hs hsa.b tn ((Hs.of hsa.b sAB).trans hsb)
                    refine o_ixA hB' hv ?_
                    walk_at "go"
                    refine set_ (j := 3) TB.h rfl fun Hc oc hc => ?_
                    exact ⟨(hha.trans ((Hs.of hsa.b sAB).trans hsb)).mut b5 t5 oc, _, _, _, _, rfl, TB.su oc hc ⟨d, hd⟩⟩
                  · walk_at "go"
                    exact ⟨hha, _, _, _, _, rfl, TA⟩
                · rintro σ2 H13 ⟨hh13, x3, z3, y3, u3, rfl, T5⟩
                  have hT5 := T5.h
                  walk_at "go"
                  obtain ⟨dx, hx⟩ := T5.x
                  obtain ⟨dy, hy⟩ := T5.y
                  obtain ⟨dz, hz⟩ := T5.z
                  obtain ⟨du, hu⟩ := T5.u
                  refine ⟨wh, _, _, _, _, _, _, _, _, dx, dy, dz, du, rfl, hx.q, hy.q, hz, hu, hx.z, hy.z, hy.z2, hx.s, hy.s, w0, by omega, fun H9 s9 => ?_⟩
                  walk_at "go"
                  exact ⟨hh13.trans (Hs.of hh13.b s9), _, _, _, _, rfl⟩
end


end Vw

set_option Elab.async false
namespace Vw
open PySem PySem.Spec PyProof.Rows L2 RT
def gRef_mk {K : PySem.W.Frag} {mg : Str → Option Value} {h : Heap} {x : Str} {C : Addr} (X : K.In h) (G : h.Ns mainGlobals mg) (a : PySem.W.nsIn K mainGlobals x = some (some (.ref C))) : { N : Addr // mg x = some (.ref N) } := ⟨C, PySem.W.mg_of X G a⟩
theorem sysK_mk {K : PySem.W.Frag} {c : Value} {dd : Option Addr} {da : Data} {sl : Array (Option Value)} (l : K.lookup sysModules = some ⟨c, dd, da, sl⟩) (e : c = .type "dict") : SysK K := ⟨_, l, e⟩
theorem law_mkG {l : PySem.W.OpenLaw} {w : World} {K : PySem.W.Frag} {h : Heap} {mg : Str → Option Value} {fa f : Addr} {od an : Option Addr} {sl : Array (Option Value)} {oc kV dc pm cd ct : Value} (X : K.In h) (G : h.Ns mainGlobals mg) (hfa : mg "law" = some (.ref fa))
    (a : PySem.W.nsIn K mainGlobals "law" = some (some (.ref f))) (lk : K.lookup f = some ⟨oc, od, .func (PySem.W.fnOf "law" "law" (defArgs s_law) (defBody s_law) (defScope s_law) .none kV dc pm an cd ct), sl⟩) (c : PySem.W.codeIn K cd "law" = true) (kp : PySem.W.keepIn K (.ref f) = true) (T : Txt K mg) :
    Vw.LawAtG l w K CX0 11 63 "script" mg fa h := by
  have e := hfa.symm.trans (PySem.W.mg_of X G a)
  cases e
  have F := fun_mk (st := s_law) lk c kp
  exact ⟨PySem.W.fnOf "law" "law" (defArgs s_law) (defBody s_law) (defScope s_law) .none kV dc pm an cd ct, [], sp_law K, (fun p hp => nomatch hp), fun s v => .of_eq rfl,
    fun H a ns hl hH hS => ⟨a, ns, rfl, hS, hl, fun _ => rfl⟩, fun base _ _ hB => ok_law F T⟩
end Vw
open Lean in
local macro_rules
  | `(tactic| refine $f:ident $args*) => do
    if f.getId.eraseMacroScopes == `HeadRun.left_oneK then `(tactic| (
      refine HeadRun.left_oneKM $args* ?hp ?hq ?hloose ?hM ?hX
      (case hp => kernel_rfl)
      (case hq => kernel_rfl)
      (case hloose => kernel_rfl)
      (case hM => kernel_rfl)
      (case hX => kernel_rfl)))
    else Macro.throwUnsupported
open PySem PySem.W PyProof.Rows
set_option maxRecDepth 100000 in
set_option maxHeartbeats 0 in
theorem PySem.Challenge.cw_wholeways_k43_versions_and_snapshots_ref_holds : PySem.Challenge.rw_wholeways_k43_versions_and_snapshots_ref.Holds := by
  w_on; o_law; o_headL (PySem.W.kmHook HeadRun.K0 HeadRun.as0 HeadRun.ek0 HeadRun.ts0); (case hw => w_witness2)
  k_fill
  refine Vw.walk_ofG (l := PySem.Challenge.rw_wholeways_k43_versions_and_snapshots_ref) (n := 63) (k := 11) (x := "script") (CX := fun _ => L2.CX0) rfl (by decide) rfl ⟨rfl, by decide, by decide⟩ (fun w h Y => PySem.W.km_in_of Y) ?F (fun _ _ _ _ _ h => h)
  case F => as_aux_lemma =>
    intro w mg fa h _ KX G hmg tabs
    refine' Vw.law_mkG KX G hmg ?aL ?lL ?cL ?kL (T := {
      is_integer := (Vw.defAt_mk KX G ?a0 ?l0 ?c0 ?k0 (fun _ _ _ _ _ _ us hl => match us, hl with | [_], _ => rfl)),
      is_within := (Vw.defAt_mk KX G ?a1 ?l1 ?c1 ?k1 (fun _ _ _ _ _ _ us hl => match us, hl with | [_, _, _], _ => rfl)),
      is_number := (Vw.defAt_mk KX G ?a2 ?l2 ?c2 ?k2 (fun _ _ _ _ _ _ us hl => match us, hl with | [_], _ => rfl)),
      is_worth := (Vw.defAt_mk KX G ?a3 ?l3 ?c3 ?k3 (fun _ _ _ _ _ _ us hl => match us, hl with | [_], _ => rfl)),
      is_mark := (Vw.defAt_mk KX G ?a4 ?l4 ?c4 ?k4 (fun _ _ _ _ _ _ us hl => match us, hl with | [_], _ => rfl)),
      is_ascending := (Vw.defAt_mk KX G ?a5 ?l5 ?c5 ?k5 (fun _ _ _ _ _ _ us hl => match us, hl with | [_], _ => rfl)),
      is_lot := (Vw.defAt_mk KX G ?a6 ?l6 ?c6 ?k6 (fun _ _ _ _ _ _ us hl => match us, hl with | [_], _ => rfl)),
      is_version := (Vw.defAt_mk KX G ?a7 ?l7 ?c7 ?k7 (fun _ _ _ _ _ _ us hl => match us, hl with | [_], _ => rfl)),
      need_versions := (Vw.defAt_mk KX G ?a8 ?l8 ?c8 ?k8 (fun _ _ _ _ _ _ us hl => match us, hl with | [_], _ => rfl)),
      need_last := (Vw.defAt_mk KX G ?a9 ?l9 ?c9 ?k9 (fun _ _ _ _ _ _ us hl => match us, hl with | [_, _], _ => rfl)),
      need_snapshots := (Vw.defAt_mk KX G ?a10 ?l10 ?c10 ?k10 (fun _ _ _ _ _ _ us hl => match us, hl with | [_, _], _ => rfl)),
      need_all := (Vw.defAt_mk KX G ?a11 ?l11 ?c11 ?k11 (fun _ _ _ _ _ _ us hl => match us, hl with | [_, _, _], _ => rfl)),
      asked_of := (Vw.defAt_mk KX G ?a12 ?l12 ?c12 ?k12 (fun _ _ _ _ _ _ us hl => match us, hl with | [_, _], _ => rfl)),
      seen_each := (Vw.defAt_mk KX G ?a13 ?l13 ?c13 ?k13 (fun _ _ _ _ _ _ us hl => match us, hl with | [_, _], _ => rfl)),
      needed := (Vw.defAt_mk KX G ?a14 ?l14 ?c14 ?k14 (fun _ _ _ _ _ _ us hl => match us, hl with | [_, _, _], _ => rfl)),
      needed_commits := (Vw.defAt_mk KX G ?a15 ?l15 ?c15 ?k15 (fun _ _ _ _ _ _ us hl => match us, hl with | [_, _, _], _ => rfl)),
      is_kept_right := (Vw.defAt_mk KX G ?a16 ?l16 ?c16 ?k16 (fun _ _ _ _ _ _ us hl => match us, hl with | [_, _, _, _], _ => rfl)),
      is_same := (Vw.defAt_mk KX G ?a17 ?l17 ?c17 ?k17 (fun _ _ _ _ _ _ us hl => match us, hl with | [_, _], _ => rfl)),
      harm := (Vw.defAt_mk KX G ?a18 ?l18 ?c18 ?k18 (fun _ _ _ _ _ _ us hl => match us, hl with | [_, _, _, _], _ => rfl)),
      told := (Vw.defAt_mk KX G ?a19 ?l19 ?c19 ?k19 (fun _ _ _ _ _ _ us hl => match us, hl with | [_], _ => rfl)),
      law_mixed := (Vw.defAt_mk KX G ?a20 ?l20 ?c20 ?k20 (fun _ _ _ _ _ _ us hl => match us, hl with | [_, _], _ => rfl)),
      law_bag := (Vw.defAt_mk KX G ?a21 ?l21 ?c21 ?k21 (fun _ _ _ _ _ _ us hl => match us, hl with | [_], _ => rfl)),
      law_draw := (Vw.defAt_mk KX G ?a22 ?l22 ?c22 ?k22 (fun _ _ _ _ _ _ us hl => match us, hl with | [_, _], _ => rfl)),
      law_versions := (Vw.defAt_mk KX G ?a23 ?l23 ?c23 ?k23 (fun _ _ _ _ _ _ us hl => match us, hl with | [_], _ => rfl)),
      law_open := (Vw.defAt_mk KX G ?a24 ?l24 ?c24 ?k24 (fun _ _ _ _ _ _ us hl => match us, hl with | [_, _, _], _ => rfl)),
      law_spoiled_versions := (Vw.defAt_mk KX G ?a25 ?l25 ?c25 ?k25 (fun _ _ _ _ _ _ us hl => match us, hl with | [_, _], _ => rfl)),
      law_spoiled_open := (Vw.defAt_mk KX G ?a26 ?l26 ?c26 ?k26 (fun _ _ _ _ _ _ us hl => match us, hl with | [_, _, _], _ => rfl)),
      law_is_within := (Vw.defAt_mk KX G ?a27 ?l27 ?c27 ?k27 (fun _ _ _ _ _ _ us hl => match us, hl with | [_, _, _], _ => rfl)),
      law_first_bad := (Vw.defAt_mk KX G ?a28 ?l28 ?c28 ?k28 (fun _ _ _ _ _ _ us hl => match us, hl with | [_], _ => rfl)),
      law_is_lot := (Vw.defAt_mk KX G ?a29 ?l29 ?c29 ?k29 (fun _ _ _ _ _ _ us hl => match us, hl with | [_, _], _ => rfl)),
      law_refusal := (Vw.defAt_mk KX G ?a30 ?l30 ?c30 ?k30 (fun _ _ _ _ _ _ us hl => match us, hl with | [_, _, _, _, _], _ => rfl)),
      law_needed := (Vw.defAt_mk KX G ?a31 ?l31 ?c31 ?k31 (fun _ _ _ _ _ _ us hl => match us, hl with | [_, _], _ => rfl)),
      law_read := (Vw.defAt_mk KX G ?a32 ?l32 ?c32 ?k32 (fun _ _ _ _ _ _ us hl => match us, hl with | [_, _], _ => rfl)),
      law_value := (Vw.defAt_mk KX G ?a33 ?l33 ?c33 ?k33 (fun _ _ _ _ _ _ us hl => match us, hl with | [_, _, _, _, _], _ => rfl)),
      law_asked := (Vw.defAt_mk KX G ?a34 ?l34 ?c34 ?k34 (fun _ _ _ _ _ _ us hl => match us, hl with | [_, _, _, _, _], _ => rfl)),
      law_is_met := (Vw.defAt_mk KX G ?a35 ?l35 ?c35 ?k35 (fun _ _ _ _ _ _ us hl => match us, hl with | [_, _, _, _, _], _ => rfl)),
      z_ValueError := PySem.W.mg_none_of KX G ?z_ValueError,
      z_abs := PySem.W.mg_none_of KX G ?z_abs,
      z_all := PySem.W.mg_none_of KX G ?z_all,
      z_bool := PySem.W.mg_none_of KX G ?z_bool,
      z_enumerate := PySem.W.mg_none_of KX G ?z_enumerate,
      z_int := PySem.W.mg_none_of KX G ?z_int,
      z_isinstance := PySem.W.mg_none_of KX G ?z_isinstance,
      z_len := PySem.W.mg_none_of KX G ?z_len,
      z_list := PySem.W.mg_none_of KX G ?z_list,
      z_max := PySem.W.mg_none_of KX G ?z_max,
      z_min := PySem.W.mg_none_of KX G ?z_min,
      z_range := PySem.W.mg_none_of KX G ?z_range,
      z_repr := PySem.W.mg_none_of KX G ?z_repr,
      z_reversed := PySem.W.mg_none_of KX G ?z_reversed,
      z_set := PySem.W.mg_none_of KX G ?z_set,
      z_sorted := PySem.W.mg_none_of KX G ?z_sorted,
      z_tuple := PySem.W.mg_none_of KX G ?z_tuple,
      z_zip := PySem.W.mg_none_of KX G ?z_zip,
      c_GREATEST_WORTH := Vw.cAt_mk KX G ?q_GREATEST_WORTH ?r_GREATEST_WORTH,
      c_GREATEST_COMMIT := Vw.cAt_mk KX G ?q_GREATEST_COMMIT ?r_GREATEST_COMMIT,
      m_StoreError_init := Vw.initAt_mk ?il ?ic ?ik (fun _ _ _ _ _ _ us hl => match us, hl with | [_], _ => rfl),
      vV := ?vV,
      e_NoVersions := Vw.excAt_mk KX G ?ea_NoVersions ?el_NoVersions ?eb_NoVersions ?es_NoVersions ?ex_NoVersions ?et_NoVersions ?ek_NoVersions ?ei_NoVersions ?ef_NoVersions ?eh_NoVersions ?ec_NoVersions ?ee_NoVersions,
      e_NoNumber := Vw.excAt_mk KX G ?ea_NoNumber ?el_NoNumber ?eb_NoNumber ?es_NoNumber ?ex_NoNumber ?et_NoNumber ?ek_NoNumber ?ei_NoNumber ?ef_NoNumber ?eh_NoNumber ?ec_NoNumber ?ee_NoNumber,
      e_NoSnapshots := Vw.excAt_mk KX G ?ea_NoSnapshots ?el_NoSnapshots ?eb_NoSnapshots ?es_NoSnapshots ?ex_NoSnapshots ?et_NoSnapshots ?ek_NoSnapshots ?ei_NoSnapshots ?ef_NoSnapshots ?eh_NoSnapshots ?ec_NoSnapshots ?ee_NoSnapshots,
      e_NoVersion := Vw.excAt_mk KX G ?ea_NoVersion ?el_NoVersion ?eb_NoVersion ?es_NoVersion ?ex_NoVersion ?et_NoVersion ?ek_NoVersion ?ei_NoVersion ?ef_NoVersion ?eh_NoVersion ?ec_NoVersion ?ee_NoVersion,
      m_NoVersions_init := Vw.initAt_mk ?il_NoVersions ?ic_NoVersions ?ik_NoVersions (fun _ _ _ _ _ _ us hl => match us, hl with | [_, _], _ => rfl),
      a_NoVersions_index := ?fa_NoVersions_index,
      w_NoVersions := ⟨?xq1_NoVersions, ?xq2_NoVersions, ?xq3_NoVersions, ?xq4_NoVersions⟩,
      sysK := Vw.sysK_mk ?sy1 ?sy2,
      N_StoreError := (Vw.gRef_mk KX G ?gn_StoreError).1,
      g_StoreError := (Vw.gRef_mk KX G ?gn_StoreError).2,
      x_NoVersions := ⟨?xa_NoVersions, ?xb_NoVersions, ?xc_NoVersions, ?xd_NoVersions, ?xe_NoVersions, ?xf_NoVersions, ?xg_NoVersions, ?xh_NoVersions⟩,
      ks_NoVersions := ?ks_NoVersions,
      x_NoNumber := ⟨?xa_NoNumber, ?xb_NoNumber, ?xc_NoNumber, ?xd_NoNumber, ?xe_NoNumber, ?xf_NoNumber, ?xg_NoNumber, ?xh_NoNumber⟩,
      ks_NoNumber := ?ks_NoNumber,
      x_NoSnapshots := ⟨?xa_NoSnapshots, ?xb_NoSnapshots, ?xc_NoSnapshots, ?xd_NoSnapshots, ?xe_NoSnapshots, ?xf_NoSnapshots, ?xg_NoSnapshots, ?xh_NoSnapshots⟩,
      ks_NoSnapshots := ?ks_NoSnapshots,
      x_NoVersion := ⟨?xa_NoVersion, ?xb_NoVersion, ?xc_NoVersion, ?xd_NoVersion, ?xe_NoVersion, ?xf_NoVersion, ?xg_NoVersion, ?xh_NoVersion⟩,
      ks_NoVersion := ?ks_NoVersion,
      xn_NoNumber_NoVersions := PySem.W.exm_ref ?n1_NoNumber_NoVersions ?n2_NoNumber_NoVersions ?n3_NoNumber_NoVersions ?n4_NoNumber_NoVersions,
      xn_NoSnapshots_NoVersions := PySem.W.exm_ref ?n1_NoSnapshots_NoVersions ?n2_NoSnapshots_NoVersions ?n3_NoSnapshots_NoVersions ?n4_NoSnapshots_NoVersions,
      xn_NoSnapshots_NoNumber := PySem.W.exm_ref ?n1_NoSnapshots_NoNumber ?n2_NoSnapshots_NoNumber ?n3_NoSnapshots_NoNumber ?n4_NoSnapshots_NoNumber,
      xn_NoVersion_NoVersions := PySem.W.exm_ref ?n1_NoVersion_NoVersions ?n2_NoVersion_NoVersions ?n3_NoVersion_NoVersions ?n4_NoVersion_NoVersions,
      xn_NoVersion_NoNumber := PySem.W.exm_ref ?n1_NoVersion_NoNumber ?n2_NoVersion_NoNumber ?n3_NoVersion_NoNumber ?n4_NoVersion_NoNumber,
      xn_NoVersion_NoSnapshots := PySem.W.exm_ref ?n1_NoVersion_NoSnapshots ?n2_NoVersion_NoSnapshots ?n3_NoVersion_NoSnapshots ?n4_NoVersion_NoSnapshots })
    (case aL => k_is); (case lL => k_is); (case cL => k_is); (case kL => k_is)
    (case ea_NoVersions => k_is); (case ei_NoVersions => k_is); (case eh_NoVersions => exact rfl)
    (case ea_NoNumber => k_is); (case ei_NoNumber => k_is); (case eh_NoNumber => exact rfl)
    (case ea_NoSnapshots => k_is); (case ei_NoSnapshots => k_is); (case eh_NoSnapshots => exact rfl)
    (case ea_NoVersion => k_is); (case ei_NoVersion => k_is); (case eh_NoVersion => exact rfl)
    (case il => k_is); (case ic => k_is); (case ik => k_is); (case vV => k_is)
    (case il_NoVersions => k_is); (case ic_NoVersions => k_is); (case ik_NoVersions => k_is)
    (case el_NoVersions => k_is); (case eb_NoVersions => decide +kernel); (case es_NoVersions => k_is); (case ex_NoVersions => k_is); (case et_NoVersions => k_is); (case ek_NoVersions => k_is); (case ef_NoVersions => k_is); (case ec_NoVersions => k_is); (case ee_NoVersions => k_is)
    (case el_NoNumber => k_is); (case eb_NoNumber => decide +kernel); (case es_NoNumber => k_is); (case ex_NoNumber => k_is); (case et_NoNumber => k_is); (case ek_NoNumber => k_is); (case ef_NoNumber => k_is); (case ec_NoNumber => k_is); (case ee_NoNumber => k_is)
    (case el_NoSnapshots => k_is); (case eb_NoSnapshots => decide +kernel); (case es_NoSnapshots => k_is); (case ex_NoSnapshots => k_is); (case et_NoSnapshots => k_is); (case ek_NoSnapshots => k_is); (case ef_NoSnapshots => k_is); (case ec_NoSnapshots => k_is); (case ee_NoSnapshots => k_is)
    (case el_NoVersion => k_is); (case eb_NoVersion => decide +kernel); (case es_NoVersion => k_is); (case ex_NoVersion => k_is); (case et_NoVersion => k_is); (case ek_NoVersion => k_is); (case ef_NoVersion => k_is); (case ec_NoVersion => k_is); (case ee_NoVersion => k_is)
    (case gn_StoreError => k_is)
    (case a0 => k_is); (case l0 => k_is); (case c0 => k_is); (case k0 => k_is)
    (case a1 => k_is); (case l1 => k_is); (case c1 => k_is); (case k1 => k_is)
    (case a2 => k_is); (case l2 => k_is); (case c2 => k_is); (case k2 => k_is)
    (case a3 => k_is); (case l3 => k_is); (case c3 => k_is); (case k3 => k_is)
    (case a4 => k_is); (case l4 => k_is); (case c4 => k_is); (case k4 => k_is)
    (case a5 => k_is); (case l5 => k_is); (case c5 => k_is); (case k5 => k_is)
    (case a6 => k_is); (case l6 => k_is); (case c6 => k_is); (case k6 => k_is)
    (case a7 => k_is); (case l7 => k_is); (case c7 => k_is); (case k7 => k_is)
    (case a8 => k_is); (case l8 => k_is); (case c8 => k_is); (case k8 => k_is)
    (case a9 => k_is); (case l9 => k_is); (case c9 => k_is); (case k9 => k_is)
    (case a10 => k_is); (case l10 => k_is); (case c10 => k_is); (case k10 => k_is)
    (case a11 => k_is); (case l11 => k_is); (case c11 => k_is); (case k11 => k_is)
    (case a12 => k_is); (case l12 => k_is); (case c12 => k_is); (case k12 => k_is)
    (case a13 => k_is); (case l13 => k_is); (case c13 => k_is); (case k13 => k_is)
    (case a14 => k_is); (case l14 => k_is); (case c14 => k_is); (case k14 => k_is)
    (case a15 => k_is); (case l15 => k_is); (case c15 => k_is); (case k15 => k_is)
    (case a16 => k_is); (case l16 => k_is); (case c16 => k_is); (case k16 => k_is)
    (case a17 => k_is); (case l17 => k_is); (case c17 => k_is); (case k17 => k_is)
    (case a18 => k_is); (case l18 => k_is); (case c18 => k_is); (case k18 => k_is)
    (case a19 => k_is); (case l19 => k_is); (case c19 => k_is); (case k19 => k_is)
    (case a20 => k_is); (case l20 => k_is); (case c20 => k_is); (case k20 => k_is)
    (case a21 => k_is); (case l21 => k_is); (case c21 => k_is); (case k21 => k_is)
    (case a22 => k_is); (case l22 => k_is); (case c22 => k_is); (case k22 => k_is)
    (case a23 => k_is); (case l23 => k_is); (case c23 => k_is); (case k23 => k_is)
    (case a24 => k_is); (case l24 => k_is); (case c24 => k_is); (case k24 => k_is)
    (case a25 => k_is); (case l25 => k_is); (case c25 => k_is); (case k25 => k_is)
    (case a26 => k_is); (case l26 => k_is); (case c26 => k_is); (case k26 => k_is)
    (case a27 => k_is); (case l27 => k_is); (case c27 => k_is); (case k27 => k_is)
    (case a28 => k_is); (case l28 => k_is); (case c28 => k_is); (case k28 => k_is)
    (case a29 => k_is); (case l29 => k_is); (case c29 => k_is); (case k29 => k_is)
    (case a30 => k_is); (case l30 => k_is); (case c30 => k_is); (case k30 => k_is)
    (case a31 => k_is); (case l31 => k_is); (case c31 => k_is); (case k31 => k_is)
    (case a32 => k_is); (case l32 => k_is); (case c32 => k_is); (case k32 => k_is)
    (case a33 => k_is); (case l33 => k_is); (case c33 => k_is); (case k33 => k_is)
    (case a34 => k_is); (case l34 => k_is); (case c34 => k_is); (case k34 => k_is)
    (case a35 => k_is); (case l35 => k_is); (case c35 => k_is); (case k35 => k_is)
    (case z_ValueError => k_is)
    (case z_abs => k_is)
    (case z_all => k_is)
    (case z_bool => k_is)
    (case z_enumerate => k_is)
    (case z_int => k_is)
    (case z_isinstance => k_is)
    (case z_len => k_is)
    (case z_list => k_is)
    (case z_max => k_is)
    (case z_min => k_is)
    (case z_range => k_is)
    (case z_repr => k_is)
    (case z_reversed => k_is)
    (case z_set => k_is)
    (case z_sorted => k_is)
    (case z_tuple => k_is)
    (case z_zip => k_is)
    (case q_GREATEST_WORTH => k_is); (case r_GREATEST_WORTH => exact ⟨_, rfl⟩)
    (case q_GREATEST_COMMIT => k_is); (case r_GREATEST_COMMIT => exact ⟨_, rfl⟩)
    (case xa_NoVersions => (try dsimp only [Vw.excAt_mk, Vw.gRef_mk]); k_is); (case xb_NoVersions => (try dsimp only [Vw.excAt_mk, Vw.gRef_mk]); k_is); (case xc_NoVersions => (try dsimp only [Vw.excAt_mk, Vw.gRef_mk]); k_is); (case xd_NoVersions => (try dsimp only [Vw.excAt_mk, Vw.gRef_mk]); k_is); (case xe_NoVersions => (try dsimp only [Vw.excAt_mk, Vw.gRef_mk]); k_is); (case xf_NoVersions => (try dsimp only [Vw.excAt_mk, Vw.gRef_mk]); k_is); (case xg_NoVersions => (try dsimp only [Vw.excAt_mk, Vw.gRef_mk]); k_is); (case xh_NoVersions => (try dsimp only [Vw.excAt_mk, Vw.gRef_mk]); k_is); (case ks_NoVersions => (try dsimp only [Vw.excAt_mk, Vw.gRef_mk]); kit_is)
    (case xa_NoNumber => (try dsimp only [Vw.excAt_mk, Vw.gRef_mk]); k_is); (case xb_NoNumber => (try dsimp only [Vw.excAt_mk, Vw.gRef_mk]); k_is); (case xc_NoNumber => (try dsimp only [Vw.excAt_mk, Vw.gRef_mk]); k_is); (case xd_NoNumber => (try dsimp only [Vw.excAt_mk, Vw.gRef_mk]); k_is); (case xe_NoNumber => (try dsimp only [Vw.excAt_mk, Vw.gRef_mk]); k_is); (case xf_NoNumber => (try dsimp only [Vw.excAt_mk, Vw.gRef_mk]); k_is); (case xg_NoNumber => (try dsimp only [Vw.excAt_mk, Vw.gRef_mk]); k_is); (case xh_NoNumber => (try dsimp only [Vw.excAt_mk, Vw.gRef_mk]); k_is); (case ks_NoNumber => (try dsimp only [Vw.excAt_mk, Vw.gRef_mk]); kit_is)
    (case xa_NoSnapshots => (try dsimp only [Vw.excAt_mk, Vw.gRef_mk]); k_is); (case xb_NoSnapshots => (try dsimp only [Vw.excAt_mk, Vw.gRef_mk]); k_is); (case xc_NoSnapshots => (try dsimp only [Vw.excAt_mk, Vw.gRef_mk]); k_is); (case xd_NoSnapshots => (try dsimp only [Vw.excAt_mk, Vw.gRef_mk]); k_is); (case xe_NoSnapshots => (try dsimp only [Vw.excAt_mk, Vw.gRef_mk]); k_is); (case xf_NoSnapshots => (try dsimp only [Vw.excAt_mk, Vw.gRef_mk]); k_is); (case xg_NoSnapshots => (try dsimp only [Vw.excAt_mk, Vw.gRef_mk]); k_is); (case xh_NoSnapshots => (try dsimp only [Vw.excAt_mk, Vw.gRef_mk]); k_is); (case ks_NoSnapshots => (try dsimp only [Vw.excAt_mk, Vw.gRef_mk]); kit_is)
    (case xa_NoVersion => (try dsimp only [Vw.excAt_mk, Vw.gRef_mk]); k_is); (case xb_NoVersion => (try dsimp only [Vw.excAt_mk, Vw.gRef_mk]); k_is); (case xc_NoVersion => (try dsimp only [Vw.excAt_mk, Vw.gRef_mk]); k_is); (case xd_NoVersion => (try dsimp only [Vw.excAt_mk, Vw.gRef_mk]); k_is); (case xe_NoVersion => (try dsimp only [Vw.excAt_mk, Vw.gRef_mk]); k_is); (case xf_NoVersion => (try dsimp only [Vw.excAt_mk, Vw.gRef_mk]); k_is); (case xg_NoVersion => (try dsimp only [Vw.excAt_mk, Vw.gRef_mk]); k_is); (case xh_NoVersion => (try dsimp only [Vw.excAt_mk, Vw.gRef_mk]); k_is); (case ks_NoVersion => (try dsimp only [Vw.excAt_mk, Vw.gRef_mk]); kit_is)
    (case n1_NoNumber_NoVersions => (try dsimp only [Vw.excAt_mk, Vw.gRef_mk]); k_is); (case n2_NoNumber_NoVersions => (try dsimp only [Vw.excAt_mk, Vw.gRef_mk]); k_is); (case n3_NoNumber_NoVersions => (try dsimp only [Vw.excAt_mk, Vw.gRef_mk]); k_is); (case n4_NoNumber_NoVersions => (try dsimp only [Vw.excAt_mk, Vw.gRef_mk]); k_is)
    (case n1_NoSnapshots_NoVersions => (try dsimp only [Vw.excAt_mk, Vw.gRef_mk]); k_is); (case n2_NoSnapshots_NoVersions => (try dsimp only [Vw.excAt_mk, Vw.gRef_mk]); k_is); (case n3_NoSnapshots_NoVersions => (try dsimp only [Vw.excAt_mk, Vw.gRef_mk]); k_is); (case n4_NoSnapshots_NoVersions => (try dsimp only [Vw.excAt_mk, Vw.gRef_mk]); k_is)
    (case n1_NoSnapshots_NoNumber => (try dsimp only [Vw.excAt_mk, Vw.gRef_mk]); k_is); (case n2_NoSnapshots_NoNumber => (try dsimp only [Vw.excAt_mk, Vw.gRef_mk]); k_is); (case n3_NoSnapshots_NoNumber => (try dsimp only [Vw.excAt_mk, Vw.gRef_mk]); k_is); (case n4_NoSnapshots_NoNumber => (try dsimp only [Vw.excAt_mk, Vw.gRef_mk]); k_is)
    (case n1_NoVersion_NoVersions => (try dsimp only [Vw.excAt_mk, Vw.gRef_mk]); k_is); (case n2_NoVersion_NoVersions => (try dsimp only [Vw.excAt_mk, Vw.gRef_mk]); k_is); (case n3_NoVersion_NoVersions => (try dsimp only [Vw.excAt_mk, Vw.gRef_mk]); k_is); (case n4_NoVersion_NoVersions => (try dsimp only [Vw.excAt_mk, Vw.gRef_mk]); k_is)
    (case n1_NoVersion_NoNumber => (try dsimp only [Vw.excAt_mk, Vw.gRef_mk]); k_is); (case n2_NoVersion_NoNumber => (try dsimp only [Vw.excAt_mk, Vw.gRef_mk]); k_is); (case n3_NoVersion_NoNumber => (try dsimp only [Vw.excAt_mk, Vw.gRef_mk]); k_is); (case n4_NoVersion_NoNumber => (try dsimp only [Vw.excAt_mk, Vw.gRef_mk]); k_is)
    (case n1_NoVersion_NoSnapshots => (try dsimp only [Vw.excAt_mk, Vw.gRef_mk]); k_is); (case n2_NoVersion_NoSnapshots => (try dsimp only [Vw.excAt_mk, Vw.gRef_mk]); k_is); (case n3_NoVersion_NoSnapshots => (try dsimp only [Vw.excAt_mk, Vw.gRef_mk]); k_is); (case n4_NoVersion_NoSnapshots => (try dsimp only [Vw.excAt_mk, Vw.gRef_mk]); k_is)
    (case fa_NoVersions_index => (try dsimp only [Vw.excAt_mk, Vw.gRef_mk]); k_is); (case xq1_NoVersions => (try dsimp only [Vw.excAt_mk, Vw.gRef_mk]); k_is); (case xq2_NoVersions => (try dsimp only [Vw.excAt_mk, Vw.gRef_mk]); k_is); (case xq3_NoVersions => (try dsimp only [Vw.excAt_mk, Vw.gRef_mk]); k_is); (case xq4_NoVersions => (try dsimp only [Vw.excAt_mk, Vw.gRef_mk]); k_is)
    (case sy1 => k_is); (case sy2 => exact rfl)

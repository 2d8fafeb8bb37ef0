import PyProof.Rows.All
import Wide.All
import OpenK.AllK
import Wide.FinOn
import KE.OsRunLaw
import HandS.ForMost
import HandS.IsInst
import HandS.SortInts
import HandS.DictComp
import HandS.Rev
import HandS.Strs
import HandS.SetFor
import HandS.Wide
import HandS.TupAny
import HandS.Evl
import KE.GoesEnum
import HandS.Walk
import HandS.Style
import HandS.Zip
import HandS.Zip0
import HandS.WordsDict
import HandS.Dict
import HandS.StrMore
import HandS.SetKeys
import HandS.Text
import HandS.ExcInit
import HandS.ExcOwn
import HandS.WordsExc
import HandS.TryOnly
import HandS.Small
import HandS.Codes
import PyProof.AutoSeq1
import HandS.TupMul
import HandS.Lambda
import HandS.TryMany
import HandS.EndOwn
import KE.KNest
import HandS.More
import HandS.ExcIs
import PyProof.StrOps2
import HandS.ListEq
import HandS.DictEq
import HandS.DeepEq
import HandS.Comp
import PyProof.Rows.ListMulArg
import HandS.Conv
import PySem.Challenge.RW_wholeways_k19_disks_that_mean_nothing_re
set_option Elab.async false
set_option linter.all false
set_option maxRecDepth 100000
set_option maxHeartbeats 0
namespace HeadRun
open PySem PySem.W PySem.Calls PyProof.Rows
/-- the program; what the head keeps of its top; the names that it leaves loose -/
abbrev p0 : Program := PySem.Challenge.pw_wholeways_k19_disks_that_mean_nothing_re
def q0 : Program := { p0 with main := { p0.main with body := [0, 2, 3, 4, 5, 6, 7, 8, 9, 10, 11, 12, 13, 14, 15, 17, 18, 19, 20, 21, 22, 23, 24, 25, 26, 27, 29, 30, 31, 32, 33, 35, 36, 37, 38, 39, 40, 41, 42, 43, 44, 45, 46, 47, 48, 49, 50, 51, 53, 54, 55, 56, 57, 58, 59, 60, 61, 62, 63, 65, 66, 67, 68, 70, 71, 72, 73, 75, 76, 77, 79, 80, 81, 82, 83, 85, 86, 87, 88, 89, 90, 91].filterMap fun i : Nat => p0.main.body[i]? } }
def l0 : List PySem.Str := ["GREATEST_ITEM", "GREATEST_COMMIT", "MOST_POWER"]
def lw0 : List PySem.Str := ["GREATEST_ITEM", "GREATEST_COMMIT", "MOST_POWER"]
abbrev steps0 : Nat := 14764
noncomputable abbrev end0 (w : World) (os : OsState) : Option SharedT := endF (stepQ (denQ tabQ) p0 w) steps0 p0 w os
noncomputable abbrev seen0 (Xt : Shared → Bool) (s : SharedT) := seenQ q0 l0 (importedModules p0.main.body) Xt s.abs
abbrev X0 : Shared → Bool := fun s => xlAt q0 [("GREATEST_ITEM", WData.int 1000000000000000000000000000000), ("GREATEST_COMMIT", WData.int 1000000000000000000), ("MOST_POWER", WData.int 1000000)] s && recOk (RowW.records (OpenRow.toRowW (OpenLaw.row PySem.Challenge.rw_wholeways_k19_disks_that_mean_nothing_re))) s
theorem lwT : PySem.W.Fast.tw821141287760084731 q0 l0 = lw0 := by kernel_rfl
theorem lwE : looseW q0 l0 = lw0 := (congrFun (congrFun PySem.W.Fast.te821141287760084731 q0) l0).trans lwT
theorem runG0 (Xt : Shared → Bool) (w : World) (os : OsState) : (end0 w os).map (fun s => looksF p0 (boot_heap w.params) s.abs) = some (true) ∧ (end0 w os).map (fun s => (seen0 Xt s).2.1) = some (bltViewBooted) ∧ (end0 w os).map (fun s => s.abs.heap.accountedOkI (importedModules p0.main.body)) = some (true) ∧ (end0 w os).map (fun s => s.abs.heap.isNs mainGlobals && s.abs.heap.isNs builtinsNs) = some (true) ∧ (end0 w os).map (fun s => tablesOk q0 s.abs.heap) = some (true) ∧ (end0 w os).map (fun s => X0 s.abs) = some (true) ∧ (end0 w os).map (fun s => (if true then s.abs.gens.size == 0 else !leftWithCleanup s.abs.gens)) = some (true) ∧ (end0 w os).map (fun s => (seen0 Xt s).2.2.2.2.1) = some (pinGoodD (drecsOf q0)) ∧ (end0 w os).map (fun s => (seen0 Xt s).2.2.2.2.2.2.1) = some (plainGoodD q0 l0) ∧ (end0 w os).map (fun s => (seen0 Xt s).2.2.2.2.2.2.2.2) = some (clsGoodW q0 l0) := ⟨by kernel_rfl, by kernel_rfl, by kernel_rfl, by kernel_rfl, by kernel_rfl, by kernel_rfl, by kernel_rfl, by kernel_rfl, by kernel_rfl, by kernel_rfl⟩
theorem runA (Xt : Shared → Bool) (w : World) (os : OsState) : (end0 w os).map (fun s => looksF p0 (boot_heap w.params) s.abs) = some (true) := (runG0 Xt w os).1
theorem runB2 (Xt : Shared → Bool) (w : World) (os : OsState) : (end0 w os).map (fun s => (seen0 Xt s).2.1) = some (bltViewBooted) := (runG0 Xt w os).2.1
theorem runB3b (Xt : Shared → Bool) (w : World) (os : OsState) : (end0 w os).map (fun s => s.abs.heap.accountedOkI (importedModules p0.main.body)) = some (true) := (runG0 Xt w os).2.2.1
theorem runB3c (Xt : Shared → Bool) (w : World) (os : OsState) : (end0 w os).map (fun s => s.abs.heap.isNs mainGlobals && s.abs.heap.isNs builtinsNs) = some (true) := (runG0 Xt w os).2.2.2.1
theorem runB3d (Xt : Shared → Bool) (w : World) (os : OsState) : (end0 w os).map (fun s => tablesOk q0 s.abs.heap) = some (true) := (runG0 Xt w os).2.2.2.2.1
theorem runB3e (Xt : Shared → Bool) (w : World) (os : OsState) : (end0 w os).map (fun s => X0 s.abs) = some (true) := (runG0 Xt w os).2.2.2.2.2.1
theorem runB3f (Xt : Shared → Bool) (w : World) (os : OsState) : (end0 w os).map (fun s => (if true then s.abs.gens.size == 0 else !leftWithCleanup s.abs.gens)) = some (true) := (runG0 Xt w os).2.2.2.2.2.2.1
theorem runB5 (Xt : Shared → Bool) (w : World) (os : OsState) : (end0 w os).map (fun s => (seen0 Xt s).2.2.2.2.1) = some (pinGoodD (drecsOf q0)) := (runG0 Xt w os).2.2.2.2.2.2.2.1
theorem runB7 (Xt : Shared → Bool) (w : World) (os : OsState) : (end0 w os).map (fun s => (seen0 Xt s).2.2.2.2.2.2.1) = some (plainGoodD q0 l0) := (runG0 Xt w os).2.2.2.2.2.2.2.2.1
theorem runB9 (Xt : Shared → Bool) (w : World) (os : OsState) : (end0 w os).map (fun s => (seen0 Xt s).2.2.2.2.2.2.2.2) = some (clsGoodW q0 l0) := (runG0 Xt w os).2.2.2.2.2.2.2.2.2
theorem runG1 (Xt : Shared → Bool) (w : World) (os : OsState) : (end0 w os).map (fun s => (seen0 Xt s).1) = some (expectedOf q0) ∧ (end0 w os).map (fun s => s.abs.heap.keysOk lw0 ((recsOf q0).map (·.name)) ((litsOf q0).map (·.1)) ((clssOf q0 lw0).map (·.name))) = some (true) := ⟨by kernel_rfl, by kernel_rfl⟩
theorem runB1 (Xt : Shared → Bool) (w : World) (os : OsState) : (end0 w os).map (fun s => (seen0 Xt s).1) = some (expectedOf q0) := (runG1 Xt w os).1
theorem runB3a (Xt : Shared → Bool) (w : World) (os : OsState) : (end0 w os).map (fun s => s.abs.heap.keysOk lw0 ((recsOf q0).map (·.name)) ((litsOf q0).map (·.1)) ((clssOf q0 lw0).map (·.name))) = some (true) := (runG1 Xt w os).2
theorem runG2 (Xt : Shared → Bool) (w : World) (os : OsState) : (end0 w os).map (fun s => (seen0 Xt s).2.2.2.1) = some (true) ∧ (end0 w os).map (fun s => (seen0 Xt s).2.2.2.2.2.2.2.1) = some (wideGood q0) := ⟨by kernel_rfl, by kernel_rfl⟩
theorem runB4 (Xt : Shared → Bool) (w : World) (os : OsState) : (end0 w os).map (fun s => (seen0 Xt s).2.2.2.1) = some (true) := (runG2 Xt w os).1
theorem runB8 (Xt : Shared → Bool) (w : World) (os : OsState) : (end0 w os).map (fun s => (seen0 Xt s).2.2.2.2.2.2.2.1) = some (wideGood q0) := (runG2 Xt w os).2
theorem runB6 (Xt : Shared → Bool) (w : World) (os : OsState) : (end0 w os).map (fun s => PySem.W.Fast.tw2386780881361962483 q0 lw0 s.abs) = some ((plainsOf q0 lw0).map fun c => some c.withCmp.plainShape) := by kernel_rfl
end HeadRun

set_option Elab.async false
set_option linter.all false
set_option maxRecDepth 100000
set_option maxHeartbeats 0
namespace HeadRun
open PySem PySem.W PySem.Calls PyProof.Rows
theorem look_halves {r : Option SharedT} {g : SharedT → Addr → Option Obj} {as : List Addr} {vs : List (Option Obj)} (k : Nat) (h1 : r.map (fun s => (as.take k).map (g s)) = some (vs.take k)) (h2 : r.map (fun s => (as.drop k).map (g s)) = some (vs.drop k)) : r.map (fun s => as.map (g s)) = some vs := by
  cases r with
  | none => cases h1
  | some s =>
    have e1 : (as.take k).map (g s) = vs.take k := Option.some.inj h1
    have e2 : (as.drop k).map (g s) = vs.drop k := Option.some.inj h2
    show some (as.map (g s)) = some vs
    rw [← List.take_append_drop k as, List.map_append, e1, e2, List.take_append_drop]
theorem look_pair {r : Option SharedT} {α β : Type} {f : SharedT → α × β} {a : α} {b : β} (h1 : r.map (fun s => (f s).1) = some a) (h2 : r.map (fun s => (f s).2) = some b) : r.map f = some (a, b) := by
  cases r with
  | none => cases h1
  | some s =>
    have e1 : (f s).1 = a := Option.some.inj h1
    have e2 : (f s).2 = b := Option.some.inj h2
    exact congrArg some (Prod.ext e1 e2)
theorem look_and {r : Option SharedT} {f g : SharedT → Bool} (h1 : r.map f = some true) (h2 : r.map g = some true) : r.map (fun s => f s && g s) = some true := by
  cases r with
  | none => cases h1
  | some s =>
    have e1 : f s = true := Option.some.inj h1
    have e2 : g s = true := Option.some.inj h2
    show some (f s && g s) = some true
    rw [e1, e2]; rfl
theorem looks_four {r : Option SharedT} {α β γ δ : Type} {A : SharedT → α} {B : SharedT → β} {C : SharedT → γ} {D : SharedT → δ} {a : α} {b : β} {c : γ} {d : δ} (h1 : r.map A = some a) (h2 : r.map B = some b) (h3 : r.map C = some c) (h4 : r.map D = some d) : r.map (fun s => (A s, B s, (C s, D s))) = some (a, b, (c, d)) := by
  cases r with
  | none => cases h1
  | some s =>
    have e1 : A s = a := Option.some.inj h1
    have e2 : B s = b := Option.some.inj h2
    have e3 : C s = c := Option.some.inj h3
    have e4 : D s = d := Option.some.inj h4
    show some (A s, B s, (C s, D s)) = _
    rw [e1, e2, e3, e4]
/-- all that is seen -/
theorem seen_third (w : World) (os : OsState) : (end0 w os).map (fun s => (seen0 X0 s).2.2.1) = some true := by
  have e : (fun s : SharedT => (seen0 X0 s).2.2.1) = fun s => (openSeen q0 l0 (importedModules p0.main.body) X0 true s.abs).2.2.1 := by
    funext s
    rw [show seen0 X0 s = _ from (seenQ_eq q0 l0 (importedModules p0.main.body) X0 s.abs).symm]
  rw [e]
  have c := look_and (look_and (look_and (look_and (look_and (runB3a X0 w os) (runB3b X0 w os)) (runB3c X0 w os)) (runB3d X0 w os)) (runB3e X0 w os)) (runB3f X0 w os)
  refine Eq.trans (congrArg (fun f => (end0 w os).map f) (funext fun s => ?_)) c
  show ((((((s.abs.heap.keysOk (looseW q0 l0) _ _ ((clssOf q0 (looseW q0 l0)).map (·.name)) && s.abs.heap.accountedOkI _) && s.abs.heap.isNs mainGlobals) && s.abs.heap.isNs builtinsNs) && tablesOk _ _) && X0 s.abs) && _) = _
  rw [lwE]
  simp only [Bool.and_assoc]
theorem seen_sixth (w : World) (os : OsState) : (end0 w os).map (fun s => (seen0 X0 s).2.2.2.2.2.1) = some (plainGoodE q0 (looseW q0 l0)) := by
  have e : (fun s : SharedT => (seen0 X0 s).2.2.2.2.2.1) = fun s => PySem.W.Fast.tw2386780881361962483 q0 lw0 s.abs := by
    funext s
    show PySem.W.Fast.tw2386780881361962483 q0 (PySem.W.Fast.tw821141287760084731 q0 l0) s.abs = _
    rw [lwT]
  rw [e, lwE]
  exact runB6 X0 w os
theorem seen_all (w : World) (os : OsState) : (end0 w os).map (fun s => seenQ q0 l0 (importedModules p0.main.body) X0 s.abs) = some (openGood q0 l0) :=
  look_pair (runB1 X0 w os) (look_pair (runB2 X0 w os) (look_pair (seen_third w os) (look_pair (runB4 X0 w os) (look_pair (runB5 X0 w os) (look_pair (seen_sixth w os) (look_pair (runB7 X0 w os) (look_pair (runB8 X0 w os) (runB9 X0 w os))))))))
theorem left_oneKM {p q : Program} {loose : List PySem.Str} {Xt : Shared → Bool} {K : Params → Frag} {as ts : List Addr} {ek : ∀ P, as = (K P).map (·.1)} {N M : Nat}
    (e : opening p = plainProg p.main.scope.names) (hN : Nat.ble 600 N = true) (f : ∀ s, fenceModules? p s = some s) (le : Nat.ble M N = true)
    (_ : ∀ (_ : World) (_ : OsState), (0 : Nat) = 0)
    (hp : p = p0) (hq : q = q0) (hl : loose = l0) (hM : M = steps0) (hX : Xt = X0)
    (rC : ∀ (w : World) (os : OsState), (end0 w os).map (fun s => as.map (getT s)) = some ((K w.params).map fun x => some x.2))
    (rD : ∀ (w : World) (os : OsState), (end0 w os).map (fun s => ts.map (getT s)) = some (ts.map fun _ => some (tabObj #[]))) :
    LeftO p q loose Xt (Hook.obs (kmHook K as ek ts)) (Hook.val (kmHook K as ek ts)) N true := by
  subst hp hq hl hM hX
  exact left_one (M := steps0) e hN f le fun w os => by
    have z := looks_four (runA X0 w os) (seen_all w os) (rC w os) (rD w os)
    have eo : (fun s : SharedT => (looksF p0 (boot_heap w.params) s.abs, seenQ q0 l0 (importedModules p0.main.body) X0 s.abs, (as.map (getT s), ts.map (getT s)))) = fun s => (looksF p0 (boot_heap w.params) s.abs, seenQ q0 l0 (importedModules p0.main.body) X0 s.abs, Hook.obs (kmHook K as ek ts) s.abs) := by
      funext s
      have q1 : as.map (getT s) = as.map s.abs.heap.get? := List.map_congr_left fun a _ => getT_eq s a
      have q2 : ts.map (getT s) = ts.map s.abs.heap.get? := List.map_congr_left fun a _ => getT_eq s a
      rw [q1, q2]
      rfl
    rw [eo] at z
    simp only [endQ_eq, seenQ_eq]
    exact z
end HeadRun

set_option Elab.async false
set_option linter.all false
set_option maxRecDepth 100000
set_option maxHeartbeats 4000000
namespace Vw
open PySem PySem.Spec PyProof.Rows L2 RT

/-! ### operators of more than one kind -/
section
variable {X : Cx}
def rOr (r r' : R2) : R2 := fun x y H Q => r x y H Q ∨ r' x y H Q
theorem oOr {f : Value → Value → Sem Value} {r r' : R2} (a : OpR X f r) (b : OpR X f r') : OpR X f (rOr r r') := by
  intro pins s σ H x y v u Q I rx ry q
  cases q with
  | inl q => exact a pins s σ H x y v u Q I rx ry q
  | inr q => exact b pins s σ H x y v u Q I rx ry q
def cOr (r r' : List V → Hp → VK → Prop) : List V → Hp → VK → Prop := fun x H Q => r x H Q ∨ r' x H Q
theorem kOr {f : Value} {r r' : List V → Hp → VK → Prop} (a : CallR X f r) (b : CallR X f r') : CallR X f (cOr r r') := by
  intro pins s σ H xs us Q I rx q
  cases q with
  | inl q => exact a pins s σ H xs us Q I rx q
  | inr q => exact b pins s σ H xs us Q I rx q
abbrev rIAdd : R2 := rI0 fun i j => .int (i + j)
abbrev rSAdd' : R2 := fun x y H Q => ∃ i j, x = .str i ∧ y = .str j ∧ i.length + j.length ≤ sizeLine ∧ Q (.str (i ++ j)) H
theorem oAdd : OpR X (binaryOp .Add) (rOr rIAdd (rOr rCat rSAdd')) := oOr op_add (oOr op_cat op_add_str)
abbrev rIMul : R2 := rI CMul fun i j => .int (i * j)
theorem oMul : OpR X (binaryOp .Mult) (rOr rIMul rRep) := oOr op_mul op_rep
theorem oLt : OpR X (compareOp .Lt) (rI0 fun i j => .bl (decide (i < j))) := op_lt
variable {K : PySem.W.Frag}
theorem oEq (hu : X.A.units + 64 < cLine) (e : X.K = K := by rfl) : OpR X (compareOp .Eq) (rOr rEq (rEqD K)) := by cases e; exact oOr op_eq (op_eqD hu)
theorem oNe (hu : X.A.units + 64 < cLine) (e : X.K = K := by rfl) : OpR X (compareOp .NotEq) (rOr rNe (rNeD K)) := by cases e; exact oOr op_ne (op_neD hu)
theorem oIn (e : X.K = K := by rfl) : OpR X (compareOp .In) (rIn K false) := by cases e; exact op_in_seq
theorem oNotIn (e : X.K = K := by rfl) : OpR X (compareOp .NotIn) (rIn K true) := by cases e; exact op_notIn_seq
abbrev rIxLT (K : PySem.W.Frag) : R2 := fun x y H Q => rIxL K x y H Q ∨ rIxT K x y H Q
theorem ixLT (e : X.K = K := by rfl) : IxR X (rIxLT K) := by cases e; exact IxR.or ix_list ix_tup
def rLen' (K : PySem.W.Frag) : List V → Hp → VK → Prop := fun xs H Q => ∃ x n, xs = [x] ∧ LenV K x H n ∧ Q (.int n) H
theorem cLen (e : X.K = K := by rfl) : CallR X (.builtin "len") (rLen' K) := by cases e; exact call_len
theorem cIsi (e : X.K = K := by rfl) : CallR X (.builtin "isinstance") (rIsi K) := by cases e; exact call_isi
theorem cIsiT (e : X.K = K := by rfl) : CallR X (.builtin "isinstance") (rIsiT K) := by cases e; exact call_isiT
def rIsN0 : R2 := fun x y H Q => y = .non ∧ Q (.bl (decide (x = .non))) H
def rNoN0 : R2 := fun x y H Q => y = .non ∧ Q (.bl (!decide (x = .non))) H
theorem oIsN : OpR X (compareOp .Is) rIsN0 := op_isN
theorem oNotN : OpR X (compareOp .IsNot) rNoN0 := op_notN
theorem cAll (hc : X.calm = true) (e : X.K = K := by rfl) : CallR X (.builtin "all") (rAll K) := by cases e; exact cr_all hc
theorem cAny (hc : X.calm = true) (e : X.K = K := by rfl) : CallR X (.builtin "any") (rAny K) := by cases e; exact cr_any hc
theorem cSortI (e : X.K = K := by rfl) : CallR X (.builtin "sorted") (rSortedI K) := by cases e; exact cr_sortedI
def rListOf (K : PySem.W.Frag) : List V → Hp → VK → Prop := fun xs H Q => ∃ p ys, xs = [.ref p] ∧ (SqL K H p ys ∨ SqT K H p ys) ∧ ∀ l, H l = none → Q (.ref l) (upd H l (.lst ys))
theorem cListOf (e : X.K = K := by rfl) : CallR X (.type "list") (rListOf K) := by cases e; exact call_list_of
def rTupOf (K : PySem.W.Frag) : List V → Hp → VK → Prop := fun xs H Q => ∃ p ys, xs = [.ref p] ∧ ((SqL K H p ys ∧ ∀ l, H l = none → Q (.ref l) (upd H l (.tup ys))) ∨ (SqT K H p ys ∧ Q (.ref p) H))
theorem cTupOf (e : X.K = K := by rfl) : CallR X (.type "tuple") (rTupOf K) := by cases e; exact call_tuple_of
def rInt1 : List V → Hp → VK → Prop := fun xs H Q => (∃ i, xs = [.int i] ∧ Q (.int i) H) ∨ ∃ k, xs = [.bl k] ∧ Q (.int (if k then 1 else 0)) H
theorem cInt : CallR X (.type "int") rInt1 := call_int1
def rAbs : List V → Hp → VK → Prop := fun xs H Q => ∃ i, xs = [.int i] ∧ Q (.int (if i < 0 then -i else i)) H
theorem cAbs : CallR X (.builtin "abs") rAbs := call_abs
def rMin2 : List V → Hp → VK → Prop := fun xs H Q => ∃ i j, xs = [.int i, .int j] ∧ Q (.int (if j < i then j else i)) H
theorem cMin2 (hc : X.calm = true) : CallR X (.builtin "min") rMin2 := call_min2 hc
def rMax2 : List V → Hp → VK → Prop := fun xs H Q => ∃ i j, xs = [.int i, .int j] ∧ Q (.int (if j > i then j else i)) H
theorem cMax2 (hc : X.calm = true) : CallR X (.builtin "max") rMax2 := call_max2 hc
theorem slL (e : X.K = K := by rfl) : SlR X (rSlL K) := by cases e; exact sl_list
theorem piL {tg l : Expr} {tl : TE} (hl : PE X l tl) (e : X.K = K := by rfl) : PI X tg l (iList K tl) := by cases e; exact pi_list hl
theorem piT {tg l : Expr} {tl : TE} (hl : PE X l tl) (e : X.K = K := by rfl) : PI X tg l (iTup K tl) := by cases e; exact pi_tup hl
theorem piEnum {ex : Expr} {ta : TA} {p pos tpos : Pos} {elts : List Expr} {kk : Nat} (hg : Gl X "enumerate") (hm : X.mg "enumerate" = none) (ha : PA X [ex] ta) (e : X.K = K := by rfl) (hs : starEach [ex] X.env = [(false, eval ex X.env)] := by rfl) :
    PI X (.Tuple elts kk tpos) (.Call (.Name "enumerate" p) [ex] [] pos) (iEnum K ta) := by cases e; exact pi_enum hg hm ha hs
theorem piRev {tg ex : Expr} {te : TE} {p pos : Pos} (hg : Gl X "reversed") (hm : X.mg "reversed" = none) (he : PE X ex te) (e : X.K = K := by rfl) (hs : starEach [ex] X.env = (false, eval ex X.env) :: starEach [] X.env := by rfl) :
    PI X tg (.Call (.Name "reversed" p) [ex] [] pos) (iRevA K te) := by cases e; exact pi_revA hg hm he hs
theorem pgTup {es : List Expr} {k : Nat} {t : TGs} {n : Nat} {p : Pos} (h : PG X (.Tuple es k p) (gTup X.K n t)) (e : X.K = K := by rfl) : PG X (.Tuple es k p) (gTup K n t) := by cases e; exact h
theorem peApp {o ex : Expr} {to te : TE} {apos cpos : Pos} (h : PE X (.Call (.Attribute o "append" apos) [ex] [] cpos) (tBM X.K "list" rAppend to (tCons te tNil))) (e : X.K = K := by rfl) :
    PE X (.Call (.Attribute o "append" apos) [ex] [] cpos) (tBM K "list" rAppend to (tCons te tNil)) := by cases e; exact h
def tTruE (K : PySem.W.Frag) (ta : TE) : TT := fun σ H Q => ta σ H fun x H' => ∃ k, TruV K x H' k ∧ Q k H'
theorem ptTruth {a : Expr} {ta : TE} (ha : PE X a ta) (he : ∀ whole, isTrue a X.env whole = (do let v ← whole; standAt a.pos; holding [v] (truthy v))) (e : X.K = K := by rfl) : PT X a (tTruE K ta) := by cases e; exact pt_truth ha he
end

/-! ### heaps -/
theorem Same.new {H : Hp} {p : Addr} {o : HO} (h : H p = none) : Same H (upd H p o) := fun b x e => by
  rw [upd_ne (ne_of_none e h)]; exact e
theorem at_ {H H' : Hp} {a : Addr} {o : HO} (s : Same H H') (h : H a = some o) : H' a = some o := s a o h
theorem rd_ {H H' : Hp} {a : Addr} {o : HO} (s : Same H H') (h : Rd H a o) : Rd H' a o := by
  cases h with
  | inl h => exact .inl (s _ _ h)
  | inr h => exact .inr (h.elim fun u q => ⟨u, s _ _ q⟩)
section
variable {K : PySem.W.Frag} {H H' : Hp} {a p : Addr} {xs : List V} {o : HO}
theorem sl_ (s : Same H H') (h : SqL K H a xs) : SqL K H' a xs := h.elim (fun q => .inl (rd_ s q)) .inr
theorem st_ (s : Same H H') (h : SqT K H a xs) : SqT K H' a xs := h.elim (fun q => .inl (rd_ s q)) .inr
theorem slO (h : H a = some (.lst xs)) : SqL K H a xs := .inl (.inl h)
theorem stO (h : H a = some (.tup xs)) : SqT K H a xs := .inl (.inl h)
theorem ne_new (h : H a = some o) (n : H p = none) : a ≠ p := ne_of_none h n
theorem free_ (s : Same H H') (n : H' p = none) : H p = none := s.free n
end
theorem lt_size {n : Nat} (h : n < 100000) : n < sizeLine := Nat.lt_of_lt_of_le h (by decide)
theorem le_size {n : Nat} (h : n < 100000) : n ≤ sizeLine := Nat.le_of_lt (lt_size h)
/-- a new object, wherever -/
def NewQ (o : HO) (H : Hp) (Q : VK) : Prop := ∀ p, H p = none → Q (.ref p) (upd H p o)
/-- all but one object is as it was -/
def Oth (hd : Addr) (H H' : Hp) : Prop := ∀ b o, b ≠ hd → H b = some o → H' b = some o
theorem oth_sl {K : PySem.W.Frag} {hd a : Addr} {H H' : Hp} {xs : List V} (o : Oth hd H H') (n : a ≠ hd) (s : SqL K H a xs) : SqL K H' a xs := by
  rcases s with (s | ⟨u, s⟩) | s
  · exact .inl (.inl (o _ _ n s))
  · exact .inl (.inr ⟨u, o _ _ n s⟩)
  · exact .inr s
theorem oth_st {K : PySem.W.Frag} {hd a : Addr} {H H' : Hp} {xs ys : List V} (o : Oth hd H H') (n : H hd = some (.lst ys)) (s : SqT K H a xs) : SqT K H' a xs := by
  rcases s with (s | ⟨u, s⟩) | s
  · exact .inl (.inl (o _ _ (fun z => by rw [z, n] at s; cases s) s))
  · exact .inl (.inr ⟨u, o _ _ (fun z => by rw [z, n] at s; cases s) s⟩)
  · exact .inr s
theorem Oth.trans {hd : Addr} {H H1 H2 : Hp} (a : Oth hd H H1) (b : Oth hd H1 H2) : Oth hd H H2 := fun c o n h => b c o n (a c o n h)
theorem Same.oth {hd : Addr} {H H' : Hp} (s : Same H H') : Oth hd H H' := fun c o _ h => s c o h

/-! ### one step of a reading -/
section
variable {K : PySem.W.Frag} {σ : L2.St} {H : Hp} {Q : VK} {QB : Bool → Hp → Prop} {QA : List V → Hp → Prop} {D : Ends} {ta tb te : TE} {t u : TS} {c d : TT} {i : Nat} {v : V} {b : Bool}
theorem s_seq (h : t { D with nx := u D } σ H) : tSeq t u D σ H := h
theorem s_cut (M : L2.St → Hp → Prop) (h : t { D with nx := M } σ H) (k : ∀ σ' H', M σ' H' → u D σ' H') : Evl.tCut t u D σ H := ⟨M, h, k⟩
theorem s_next (h : D.nx σ H) : tNext D σ H := h
theorem s_brk (h : D.bk σ H) : tBreak D σ H := h
theorem s_cont (h : D.ct σ H) : tCont D σ H := h
theorem s_set (h : te σ H fun x H1 => D.nx (σ.set i (some x)) H1) : tAsg te (gName i) D σ H := h
theorem s_asg {g : TG} (h : te σ H fun x H1 => g x σ H1 D.nx) : tAsg te g D σ H := h
theorem s_ret (h : te σ H D.rt) : tRet te D σ H := h
theorem s_retN (h : D.rt .non H) : tRetN D σ H := h
theorem s_drop (h : te σ H fun _ H1 => D.nx σ H1) : tDrop te D σ H := h
theorem s_if (h : c σ H fun b H1 => if b = true then t D σ H1 else u D σ H1) : tIfS c t u D σ H := h
theorem s_aug {ti : TIp} {x : V} (e : σ[i]? = some (some x)) (h : te σ H fun y H1 => ti x y H1 fun z H2 => D.nx (σ.set i (some z)) H2) : tAug i te ti D σ H := ⟨x, e, h⟩
theorem s_ipI {f : Int → Int → Int} {a b : Int} (h : Q (.int (f a b)) H) : ipI f (.int a) (.int b) H Q := ⟨a, b, rfl, rfl, h⟩
theorem e_var (h : σ[i]? = some (some v)) (q : Q v H) : tVar i σ H Q := ⟨v, h, q⟩
theorem e_c (q : Q v H) : tC v σ H Q := q
theorem e_op {r : R2} (h : ta σ H fun x H1 => tb σ H1 fun y H2 => r x y H2 Q) : tOp r ta tb σ H Q := h
theorem e_un {r : V → Hp → VK → Prop} (h : ta σ H fun x H1 => r x H1 Q) : tUn r ta σ H Q := h
theorem e_neg {a : Int} (h : Q (.int (-a)) H) : rU (fun i => V.int (-i)) (.int a) H Q := ⟨a, rfl, h⟩
theorem e_test (h : te σ H fun x H1 => ∃ k, x = .bl k ∧ QB k H1) : tTest te σ H QB := h
theorem e_tB (h : te σ H fun x H1 => ∃ k, x = .bl k ∧ QB k H1) : tB te σ H QB := h
theorem e_bl (q : QB b H) : ∃ k, V.bl b = .bl k ∧ QB k H := ⟨b, rfl, q⟩
theorem e_and (h : c σ H fun b H1 => if b = true then d σ H1 QB else QB false H1) : tAnd c d σ H QB := h
theorem e_or (h : c σ H fun b H1 => if b = true then QB true H1 else d σ H1 QB) : tOr c d σ H QB := h
theorem e_not (h : c σ H fun b H1 => QB (!b) H1) : tNot c σ H QB := h
theorem e_andV (h : ta σ H fun x H1 => ∃ k, x = .bl k ∧ if k = true then tb σ H1 Q else Q (.bl false) H1) : tAndV ta tb σ H Q := h
theorem e_orV (h : ta σ H fun x H1 => ∃ k, x = .bl k ∧ if k = true then Q (.bl true) H1 else tb σ H1 Q) : tOrV ta tb σ H Q := h
theorem e_notV (h : ta σ H fun x H1 => ∃ k, x = .bl k ∧ Q (.bl (!k)) H1) : tNotV ta σ H Q := h
theorem e_kV {P : Bool → Prop} (q : P b) : ∃ k, V.bl b = .bl k ∧ P k := ⟨b, rfl, q⟩
theorem e_ife (h : c σ H fun b H1 => if b = true then ta σ H1 Q else tb σ H1 Q) : tIf c ta tb σ H Q := h
theorem e_nil (q : QA [] H) : tNil σ H QA := q
theorem e_cons {tr : TA} (h : ta σ H fun x H1 => tr σ H1 fun xs H2 => QA (x :: xs) H2) : tCons ta tr σ H QA := h
theorem e_cb {r : List V → Hp → VK → Prop} {tt : TA} (h : tt σ H fun vs H1 => r vs H1 Q) : tCB r tt σ H Q := h
theorem e_call {sp : Sp} {dvs : List V} {E : XK} {tt : TA} (h : tt σ H fun vs H1 => sp (vs ++ dvs) H1 Q E) : tCall sp dvs E tt σ H Q := h
theorem e_chain {r r' : R2} {tc : TE} (h : ta σ H fun x H1 => tb σ H1 fun y H2 => r x y H2 fun z H3 => ∃ k, z = .bl k ∧ if k = true then tc σ H3 fun w H4 => r' y w H4 Q else Q (.bl false) H3) : tChain r r' ta tb tc σ H Q := h
theorem o_l {r r' : R2} {x y : V} (h : r x y H Q) : rOr r r' x y H Q := .inl h
theorem o_r {r r' : R2} {x y : V} (h : r' x y H Q) : rOr r r' x y H Q := .inr h
theorem o_I0 {g : Int → Int → V} {a b : Int} (h : Q (g a b) H) : rI0 g (.int a) (.int b) H Q := ⟨a, b, rfl, rfl, h⟩
theorem o_addI {r' : R2} {a b : Int} (h : Q (.int (a + b)) H) : rOr rIAdd r' (.int a) (.int b) H Q := .inl ⟨a, b, rfl, rfl, h⟩
theorem o_mod {a b : Int} (hb : 0 < b) (h : Q (.int (a % b)) H) : rI (fun _ j => 0 < j) (fun i j => V.int (i % j)) (.int a) (.int b) H Q := ⟨a, b, rfl, rfl, hb, h⟩
theorem o_modL {a b : Int} (hb : 0 < b) (h : ∀ r, 0 ≤ r → r < b → Q (.int r) H) : rI (fun _ j => 0 < j) (fun i j => V.int (i % j)) (.int a) (.int b) H Q := o_mod hb (h _ (Int.emod_nonneg _ (by omega)) (Int.emod_lt_of_pos _ hb))
theorem o_mulR {r' : R2} {a b : Int} (hb : -(2 ^ 64) < b ∧ b < 2 ^ 64) (h : Q (.int (a * b)) H) : rOr rIMul r' (.int a) (.int b) H Q := .inl ⟨a, b, rfl, rfl, .inr hb, h⟩
theorem o_mulL {r' : R2} {a b : Int} (ha : -(2 ^ 64) < a ∧ a < 2 ^ 64) (h : Q (.int (a * b)) H) : rOr rIMul r' (.int a) (.int b) H Q := .inl ⟨a, b, rfl, rfl, .inl ha, h⟩
theorem o_divW {a b : Int} (n : Nat) (hb : 0 < b) (h1 : b < 2 ^ n) (h2 : 0 < n) (h3 : n ≤ 9000) (h : Q (.int (a / b)) H) : rI CDivW (fun i j => V.int (i / j)) (.int a) (.int b) H Q := ⟨a, b, rfl, rfl, wide_div (b := n) hb (by
  have e : ((2 ^ n : Nat) : Int) = (2 : Int) ^ n := by rw [Int.natCast_pow]; rfl
  have : (b.natAbs : Int) = b := by omega
  have h4 : ((b.natAbs : Nat) : Int) < ((2 ^ n : Nat) : Int) := by rw [this, e]; exact h1
  exact Int.ofNat_lt.mp h4) h2 h3, h⟩
theorem o_div {a b : Int} (hb : 0 < b) (h1 : b < 2 ^ 100) (h : Q (.int (a / b)) H) : rI CDivW (fun i j => V.int (i / j)) (.int a) (.int b) H Q := o_divW 100 hb h1 (by decide) (by decide) h
theorem o_pow {a b : Int} (n : Nat) (e : b = (n : Nat)) (h0 : n ≤ 1000000) (h1 : a.natAbs < 2 ^ 64) (h : Q (.int (a ^ n)) H) : rI CPow (fun i j => V.int (i ^ j.toNat)) (.int a) (.int b) H Q := ⟨a, b, rfl, rfl, ⟨by omega, by omega, h1⟩, by
  have e2 : b.toNat = n := by omega
  show Q (.int (a ^ b.toNat)) H
  rw [e2]; exact h⟩
theorem o_pow1 (h : Q (.int 10) H) : rI CPow (fun i j => V.int (i ^ j.toNat)) (.int 10) (.int 1) H Q := o_pow 1 rfl (by decide) (by decide) (by rw [(by decide : (10 : Int) ^ 1 = 10)]; exact h)
theorem o_pow2 (h : Q (.int 100) H) : rI CPow (fun i j => V.int (i ^ j.toNat)) (.int 10) (.int 2) H Q := o_pow 2 rfl (by decide) (by decide) (by rw [(by decide : (10 : Int) ^ 2 = 100)]; exact h)
theorem o_pow3 (h : Q (.int 1000) H) : rI CPow (fun i j => V.int (i ^ j.toNat)) (.int 10) (.int 3) H Q := o_pow 3 rfl (by decide) (by decide) (by rw [(by decide : (10 : Int) ^ 3 = 1000)]; exact h)
theorem o_pow4 (h : Q (.int 10000) H) : rI CPow (fun i j => V.int (i ^ j.toNat)) (.int 10) (.int 4) H Q := o_pow 4 rfl (by decide) (by decide) (by rw [(by decide : (10 : Int) ^ 4 = 10000)]; exact h)
theorem o_pow5 (h : Q (.int 100000) H) : rI CPow (fun i j => V.int (i ^ j.toNat)) (.int 10) (.int 5) H Q := o_pow 5 rfl (by decide) (by decide) (by rw [(by decide : (10 : Int) ^ 5 = 100000)]; exact h)
theorem o_pow6 (h : Q (.int 1000000) H) : rI CPow (fun i j => V.int (i ^ j.toNat)) (.int 10) (.int 6) H Q := o_pow 6 rfl (by decide) (by decide) (by rw [(by decide : (10 : Int) ^ 6 = 1000000)]; exact h)
theorem o_pow9 (h : Q (.int 1000000000) H) : rI CPow (fun i j => V.int (i ^ j.toNat)) (.int 10) (.int 9) H Q := o_pow 9 rfl (by decide) (by decide) (by rw [(by decide : (10 : Int) ^ 9 = 1000000000)]; exact h)
theorem o_pow10 (h : Q (.int 10000000000) H) : rI CPow (fun i j => V.int (i ^ j.toNat)) (.int 10) (.int 10) H Q := o_pow 10 rfl (by decide) (by decide) (by rw [(by decide : (10 : Int) ^ 10 = 10000000000)]; exact h)
theorem o_pow12 (h : Q (.int 1000000000000) H) : rI CPow (fun i j => V.int (i ^ j.toNat)) (.int 10) (.int 12) H Q := o_pow 12 rfl (by decide) (by decide) (by rw [(by decide : (10 : Int) ^ 12 = 1000000000000)]; exact h)
theorem o_pow15 (h : Q (.int 1000000000000000) H) : rI CPow (fun i j => V.int (i ^ j.toNat)) (.int 10) (.int 15) H Q := o_pow 15 rfl (by decide) (by decide) (by rw [(by decide : (10 : Int) ^ 15 = 1000000000000000)]; exact h)
theorem o_pow16 (h : Q (.int 10000000000000000) H) : rI CPow (fun i j => V.int (i ^ j.toNat)) (.int 10) (.int 16) H Q := o_pow 16 rfl (by decide) (by decide) (by rw [(by decide : (10 : Int) ^ 16 = 10000000000000000)]; exact h)
theorem o_pow17 (h : Q (.int 100000000000000000) H) : rI CPow (fun i j => V.int (i ^ j.toNat)) (.int 10) (.int 17) H Q := o_pow 17 rfl (by decide) (by decide) (by rw [(by decide : (10 : Int) ^ 17 = 100000000000000000)]; exact h)
theorem o_pow18 (h : Q (.int 1000000000000000000) H) : rI CPow (fun i j => V.int (i ^ j.toNat)) (.int 10) (.int 18) H Q := o_pow 18 rfl (by decide) (by decide) (by rw [(by decide : (10 : Int) ^ 18 = 1000000000000000000)]; exact h)
theorem o_pow19 (h : Q (.int 10000000000000000000) H) : rI CPow (fun i j => V.int (i ^ j.toNat)) (.int 10) (.int 19) H Q := o_pow 19 rfl (by decide) (by decide) (by rw [(by decide : (10 : Int) ^ 19 = 10000000000000000000)]; exact h)
theorem o_pow20 (h : Q (.int 100000000000000000000) H) : rI CPow (fun i j => V.int (i ^ j.toNat)) (.int 10) (.int 20) H Q := o_pow 20 rfl (by decide) (by decide) (by rw [(by decide : (10 : Int) ^ 20 = 100000000000000000000)]; exact h)
theorem o_pow30 (h : Q (.int 1000000000000000000000000000000) H) : rI CPow (fun i j => V.int (i ^ j.toNat)) (.int 10) (.int 30) H Q := o_pow 30 rfl (by decide) (by decide) (by rw [(by decide : (10 : Int) ^ 30 = 1000000000000000000000000000000)]; exact h)
theorem o_pow31 (h : Q (.int 10000000000000000000000000000000) H) : rI CPow (fun i j => V.int (i ^ j.toNat)) (.int 10) (.int 31) H Q := o_pow 31 rfl (by decide) (by decide) (by rw [(by decide : (10 : Int) ^ 31 = 10000000000000000000000000000000)]; exact h)
theorem set_ {p : Addr} {xs : List V} {k : Int} {j : Nat} {R : Hp → Prop} (h : H p = some (.lst xs)) (e : ixN xs.length k = some j) (q : ∀ H2, Oth p H H2 → H2 p = some (.lst (xs.set j v)) → R H2) : rSetL (.ref p) (.int k) v H R :=
  ⟨p, xs, k, j, rfl, rfl, h, e, q _ (fun b o n z => by rw [upd_ne n]; exact z) upd_same⟩
theorem g_sub {to ti : TE} {tset : TSet} {R : L2.St → Hp → Prop} (h : to σ H fun o H1 => ti σ H1 fun i H2 => tset o i v H2 fun H3 => R σ H3) : gSub to ti tset v σ H R := h
theorem o_eqS {r' : R2} {x y : V} (s : scal x y = true) (h : Q (.bl (decide (x = y))) H) : rOr rEq r' x y H Q := .inl ⟨s, h⟩
theorem o_eqI {r' : R2} {a b : Int} (h : Q (.bl (decide (a = b))) H) : rOr rEq r' (.int a) (.int b) H Q := .inl ⟨rfl, by
  have e : decide (V.int a = V.int b) = decide (a = b) := by
    by_cases q : a = b
    · rw [decide_eq_true q, q]; exact decide_eq_true rfl
    · rw [decide_eq_false q]; exact decide_eq_false fun z => q (V.int.inj z)
  rw [e]; exact h⟩
theorem o_neI {r' : R2} {a b : Int} (h : Q (.bl (decide (a ≠ b))) H) : rOr rNe r' (.int a) (.int b) H Q := .inl ⟨rfl, by
  have e : (!decide (V.int a = V.int b)) = decide (a ≠ b) := by
    by_cases q : a = b
    · rw [decide_eq_false (show ¬ a ≠ b from fun z => z q), q, decide_eq_true rfl] <;> rfl
    · rw [decide_eq_true (show a ≠ b from q), decide_eq_false fun z => q (V.int.inj z)] <;> rfl
  rw [e]; exact h⟩
theorem o_ixL {p : Addr} {xs : List V} {a : Int} (s : SqL K H p xs) (e : atI xs a = some v) (q : Q v H) : rIxLT K (.ref p) (.int a) H Q := .inl ⟨p, xs, a, v, rfl, rfl, s, e, q⟩
theorem o_ixT {p : Addr} {xs : List V} {a : Int} (s : SqT K H p xs) (e : atI xs a = some v) (q : Q v H) : rIxLT K (.ref p) (.int a) H Q := .inr ⟨p, xs, a, v, rfl, rfl, s, e, q⟩
theorem o_ixA {p : Addr} {xs : List V} {a : Int} (s : H p = some (.lst xs)) (e : atI xs a = some v) (q : Q v H) : rIxLT K (.ref p) (.int a) H Q := o_ixL (slO s) e q
theorem o_ixU {p : Addr} {xs : List V} {a : Int} (s : H p = some (.tup xs)) (e : atI xs a = some v) (q : Q v H) : rIxLT K (.ref p) (.int a) H Q := o_ixT (stO s) e q
theorem ixN_in {n : Nat} {z : Int} {j : Nat} (e : z = (j : Nat)) (h : j < n) : ixN n z = some j := by
  unfold ixN
  rw [if_pos (by omega), if_pos (by omega)]
  congr 1; omega
theorem atI_in {α : Type} {xs : List α} {z : Int} {j : Nat} {x : α} (e : z = (j : Nat)) (h : xs[j]? = some x) : atI xs z = some x := by
  have hj : j < xs.length := (List.getElem?_eq_some_iff.mp h).1
  unfold atI
  rw [ixN_in e hj]
  exact h
theorem e_lenL {p : Addr} {xs : List V} (s : SqL K H p xs) (q : Q (.int (xs.length : Nat)) H) : rLen' K [.ref p] H Q := ⟨_, xs.length, rfl, .inl ⟨xs, s, rfl⟩, q⟩
theorem e_lenM {α : Type} {f : α → V} {p : Addr} {xs : List α} (s : SqL K H p (xs.map f)) (q : Q (.int (xs.length : Nat)) H) : rLen' K [.ref p] H Q := e_lenL s (by rw [List.length_map]; exact q)
theorem e_lenN {α : Type} {f : α → V} {p : Addr} {xs : List α} (s : SqT K H p (xs.map f)) (q : Q (.int (xs.length : Nat)) H) : rLen' K [.ref p] H Q := ⟨_, xs.length, rfl, .inr ⟨_, s, by rw [List.length_map]⟩, q⟩
theorem e_lenT {p : Addr} {xs : List V} (s : SqT K H p xs) (q : Q (.int (xs.length : Nat)) H) : rLen' K [.ref p] H Q := ⟨_, xs.length, rfl, .inr ⟨xs, s, rfl⟩, q⟩
theorem i_t {A B : Prop} (hb : b = true) (q : A) : if b = true then A else B := by rw [if_pos hb]; exact q
theorem i_f {A B : Prop} (hb : b = false) (q : B) : if b = true then A else B := by rw [hb]; exact iteF q
theorem i_nt {A B : Prop} (q : B) : if (!true) = true then A else B := q
theorem i_nf {A B : Prop} (q : A) : if (!false) = true then A else B := q
theorem i_dt {p A B : Prop} [Decidable p] (hp : p) (q : A) : if decide p = true then A else B := i_t (decide_eq_true hp) q
theorem i_df {p A B : Prop} [Decidable p] (hp : ¬ p) (q : B) : if decide p = true then A else B := i_f (decide_eq_false hp) q
theorem i_ndt {p A B : Prop} [Decidable p] (hp : ¬ p) (q : A) : if (!decide p) = true then A else B := i_t (by rw [decide_eq_false hp]; rfl) q
theorem i_ndf {p A B : Prop} [Decidable p] (hp : p) (q : B) : if (!decide p) = true then A else B := i_f (by rw [decide_eq_true hp]; rfl) q
theorem i_d {p A B : Prop} [Decidable p] (h1 : p → A) (h2 : ¬ p → B) : if decide p = true then A else B := by
  by_cases hp : p
  · exact i_dt hp (h1 hp)
  · exact i_df hp (h2 hp)
/-- a new list, a new tuple -/
theorem e_lst {tt : TA} (h : tt σ H fun xs H1 => xs.length ≤ sizeLine ∧ NewQ (.lst xs) H1 Q) : tLst tt σ H Q := h
theorem e_tup {tt : TA} (h : tt σ H fun xs H1 => xs.length ≤ sizeLine ∧ NewQ (.tup xs) H1 Q) : tTup tt σ H Q := h
theorem n_new {n : Nat} {o : HO} (hl : n ≤ sizeLine) (h : ∀ p H2, H p = none → Same H H2 → H2 p = some o → Q (.ref p) H2) : n ≤ sizeLine ∧ NewQ o H Q := ⟨hl, fun p hp => h p _ hp (Same.new hp) upd_same⟩
theorem n_new0 {o : HO} (h : ∀ p H2, H p = none → Same H H2 → H2 p = some o → Q (.ref p) H2) : NewQ o H Q := fun p hp => h p _ hp (Same.new hp) upd_same
theorem c_listL {p : Addr} {xs : List V} (s : SqL K H p xs) (q : NewQ (.lst xs) H Q) : rListOf K [.ref p] H Q := ⟨p, xs, rfl, .inl s, q⟩
theorem c_listT {p : Addr} {xs : List V} (s : SqT K H p xs) (q : NewQ (.lst xs) H Q) : rListOf K [.ref p] H Q := ⟨p, xs, rfl, .inr s, q⟩
theorem c_tupL {p : Addr} {xs : List V} (s : SqL K H p xs) (q : NewQ (.tup xs) H Q) : rTupOf K [.ref p] H Q := ⟨p, xs, rfl, .inl ⟨s, q⟩⟩
theorem c_tupT {p : Addr} {xs : List V} (s : SqT K H p xs) (q : Q (.ref p) H) : rTupOf K [.ref p] H Q := ⟨p, xs, rfl, .inr ⟨s, q⟩⟩
theorem isi_ {x : V} {t n : String} {b : Bool} (ty : TyX K H x (.type t)) (e : kitB t n = some b) (q : Q (.bl b) H) : rIsi K [x, .ty n] H Q := ⟨x, .ty n, .type t, .type n, b, rfl, .ty n, ty, kit_ty e, q⟩
theorem isi_int {a : Int} {n : String} (b : Bool) (e : kitB "int" n = some b) (q : Q (.bl b) H) : rIsi K [.int a, .ty n] H Q := isi_ (.base (.int a)) e q
theorem isi_non {n : String} (b : Bool) (e : kitB "NoneType" n = some b) (q : Q (.bl b) H) : rIsi K [.non, .ty n] H Q := isi_ (.base .non) e q
theorem isi_str {z : Str} {n : String} (b : Bool) (e : kitB "str" n = some b) (q : Q (.bl b) H) : rIsi K [.str z, .ty n] H Q := isi_ (.base (.str z)) e q
theorem isi_bl {z : Bool} {n : String} (b : Bool) (e : kitB "bool" n = some b) (q : Q (.bl b) H) : rIsi K [.bl z, .ty n] H Q := isi_ (.base (.bl z)) e q
theorem isi_tup {a : Addr} {xs : List V} {n : String} (b : Bool) (h : H a = some (.tup xs)) (e : kitB "tuple" n = some b) (q : Q (.bl b) H) : rIsi K [.ref a, .ty n] H Q := isi_ (.base (.tup h)) e q
theorem isi_lst {a : Addr} {xs : List V} {n : String} (b : Bool) (h : H a = some (.lst xs)) (e : kitB "list" n = some b) (q : Q (.bl b) H) : rIsi K [.ref a, .ty n] H Q := isi_ (.base (.lst h)) e q
theorem t_bl {PB : Bool → Prop} (q : PB b) : ∃ k, TruV K (.bl b) H k ∧ PB k := ⟨b, rfl, q⟩
theorem t_non {PB : Bool → Prop} (q : PB false) : ∃ k, TruV K .non H k ∧ PB k := ⟨false, rfl, q⟩
theorem t_int {PB : Bool → Prop} {a : Int} (q : PB (decide (a ≠ 0))) : ∃ k, TruV K (.int a) H k ∧ PB k := ⟨_, rfl, by
  have e : (a != 0) = decide (a ≠ 0) := by
    by_cases h : a = 0
    · subst h; rfl
    · rw [decide_eq_true h]; simpa using h
  rw [e]; exact q⟩
theorem t_lst {PB : Bool → Prop} {p : Addr} {xs : List V} (s : SqL K H p xs) (q : PB (!xs.isEmpty)) : ∃ k, TruV K (.ref p) H k ∧ PB k := ⟨_, .inl ⟨xs, s, rfl⟩, q⟩
theorem t_tup {PB : Bool → Prop} {p : Addr} {xs : List V} (s : SqT K H p xs) (q : PB (!xs.isEmpty)) : ∃ k, TruV K (.ref p) H k ∧ PB k := ⟨_, .inr (.inl ⟨xs, s, rfl⟩), q⟩
theorem isN_non (q : Q (.bl true) H) : rIsN0 .non .non H Q := ⟨rfl, q⟩
theorem isN_int {a : Int} (q : Q (.bl false) H) : rIsN0 (.int a) .non H Q := ⟨rfl, q⟩
theorem isN_ref {a : Addr} (q : Q (.bl false) H) : rIsN0 (.ref a) .non H Q := ⟨rfl, q⟩
theorem isN_str {a : Str} (q : Q (.bl false) H) : rIsN0 (.str a) .non H Q := ⟨rfl, q⟩
theorem isN_bl {a : Bool} (q : Q (.bl false) H) : rIsN0 (.bl a) .non H Q := ⟨rfl, q⟩
theorem noN_non (q : Q (.bl false) H) : rNoN0 .non .non H Q := ⟨rfl, q⟩
theorem noN_int {a : Int} (q : Q (.bl true) H) : rNoN0 (.int a) .non H Q := ⟨rfl, q⟩
theorem noN_ref {a : Addr} (q : Q (.bl true) H) : rNoN0 (.ref a) .non H Q := ⟨rfl, q⟩
theorem noN_str {a : Str} (q : Q (.bl true) H) : rNoN0 (.str a) .non H Q := ⟨rfl, q⟩
theorem noN_bl {a : Bool} (q : Q (.bl true) H) : rNoN0 (.bl a) .non H Q := ⟨rfl, q⟩
theorem tyx_st {a : Addr} {xs : List V} (s : SqT K H a xs) : TyX K H (.ref a) (.type "tuple") := by
  rcases s with (s | ⟨o, s⟩) | ⟨o, its, n, hk, hc, _⟩
  · exact .base (.tup s)
  · exact .fTuple s
  · exact .kTuple hk hc
theorem tyx_sl {a : Addr} {xs : List V} (s : SqL K H a xs) : TyX K H (.ref a) (.type "list") := by
  rcases s with (s | ⟨o, s⟩) | ⟨o, its, n, hk, hc, _⟩
  · exact .base (.lst s)
  · exact .base (.frz s)
  · exact .kList hk hc
theorem isi_t {a : Addr} {xs : List V} {n : String} (b : Bool) (s : SqT K H a xs) (e : kitB "tuple" n = some b) (q : Q (.bl b) H) : rIsi K [.ref a, .ty n] H Q := isi_ (tyx_st s) e q
theorem isi_l {a : Addr} {xs : List V} {n : String} (b : Bool) (s : SqL K H a xs) (e : kitB "list" n = some b) (q : Q (.bl b) H) : rIsi K [.ref a, .ty n] H Q := isi_ (tyx_sl s) e q
theorem e_allB {p : Addr} {bs : List Bool} (s : H p = some (.lst (bs.map V.bl))) (q : Q (.bl (bs.all id)) H) : rAll K [.ref p] H Q := ⟨p, bs, rfl, slO s, q⟩
theorem c_int {a : Int} (q : Q (.int a) H) : rInt1 [V.int a] H Q := .inl ⟨a, rfl, q⟩
theorem c_abs {a : Int} (q : Q (.int (if a < 0 then -a else a)) H) : rAbs [V.int a] H Q := ⟨a, rfl, q⟩
theorem c_min2 {a b : Int} (q : Q (.int (if b < a then b else a)) H) : rMin2 [V.int a, V.int b] H Q := ⟨a, b, rfl, q⟩
theorem c_max2 {a b : Int} (q : Q (.int (if b > a then b else a)) H) : rMax2 [V.int a, V.int b] H Q := ⟨a, b, rfl, q⟩
theorem e_tru (h : te σ H fun x H1 => ∃ k, TruV K x H1 k ∧ QB k H1) : tTruE K te σ H QB := h
theorem e_app {to : TE} (h : to σ H fun x H1 => ∃ l xs, x = .ref l ∧ SqL K H1 l xs ∧ te σ H1 fun y H2 => ∃ ys, H2 l = some (.lst ys) ∧ ys.length < sizeLine ∧ Q .non (upd H2 l (.lst (ys ++ [y])))) (mono : ∀ (H : Hp) (R R' : V → Hp → Prop), (∀ x H1, R x H1 → R' x H1) → to σ H R → to σ H R') (mono2 : ∀ (H : Hp) (R R' : V → Hp → Prop), (∀ x H1, R x H1 → R' x H1) → te σ H R → te σ H R') :
    tBM K "list" rAppend to (tCons te tNil) σ H Q := by
  refine mono H _ _ (fun x H1 q => ?_) h
  obtain ⟨l, xs, rfl, s, q⟩ := q
  refine ⟨.inl ⟨rfl, xs, s⟩, ?_⟩
  exact mono2 H1 _ _ (fun y H2 ⟨ys, h1, h2, h3⟩ => ⟨l, ys, y, rfl, rfl, h1, h2, h3⟩) q
end
/-- a def of the text as it stands, a constant of the text -/
structure DefAt (K : PySem.W.Frag) (mg : Str → Option Value) (x qual : Str) (st : Stmt) (ps : List Str) where
  f : Addr
  fd : FuncData
  F : Fun K x qual st f fd
  b : Binds K fd ps []
  g : mg x = some (.ref f)
structure CAt (mg : Str → Option Value) (x : Str) (v : V) where
  u : Value
  h : mg x = some u
  r : RelV v u
def defAt_mk {K : PySem.W.Frag} {mg : Str → Option Value} {h : Heap} {x qual : Str} {st : Stmt} {ps : List Str} {f : Addr} {od an : Option Addr} {sl : Array (Option Value)} {oc kV dc pm cd ct : Value} (X : K.In h) (G : h.Ns mainGlobals mg)
    (a : PySem.W.nsIn K mainGlobals x = some (some (.ref f))) (l : K.lookup f = some ⟨oc, od, .func (PySem.W.fnOf x qual (defArgs st) (defBody st) (defScope st) .none kV dc pm an cd ct), sl⟩) (c : PySem.W.codeIn K cd qual = true) (k : PySem.W.keepIn K (.ref f) = true)
    (b : ∀ (kV doc pm : Value) (an : Option Addr) (cdv ct : Value) (us : List Value), us.length = ps.length → bindArgs (PySem.W.fnOf x qual (defArgs st) (defBody st) (defScope st) .none kV doc pm an cdv ct) ⟨us, []⟩ = pure (ps.zip us)) : DefAt K mg x qual st ps :=
  ⟨f, _, fun_mk l c k, (fun_mk (st := st) l c k).binds b, PySem.W.mg_of X G a⟩
def cAt_mk {K : PySem.W.Frag} {mg : Str → Option Value} {h : Heap} {x : Str} {u : Value} {v : V} (X : K.In h) (G : h.Ns mainGlobals mg) (a : PySem.W.nsIn K mainGlobals x = some (some u)) (r : RelV v u) : CAt mg x v := ⟨u, PySem.W.mg_of X G a, r⟩
end Vw

set_option Elab.async false
set_option linter.all false
set_option maxRecDepth 100000
set_option maxHeartbeats 4000000
namespace Vw
open PySem PySem.Spec PyProof.Rows L2
/-! ### enumerate of a tuple -/
abbrev ti0 (t : Addr) : Obj := { cls := .type "tuple_iterator", data := .fields #[.ref t, .int 0 0] }
abbrev en0 (i : Addr) : Obj := { cls := .type "enumerate", data := .fields #[.none, .bool false, .ref i, rawInt 0, .none, .none] }
theorem new_enumT (t : Addr) (items : Array Value) :
    Meets (Builtin.«enumerate.__new__» ⟨[.type "enumerate", .ref t], []⟩) (fun _ R s => s.heap.IsTuple t items ∧
      R (.ok (.ret (.ref (s.heap.push (ti0 t)).objs.size))) { s with heap := (s.heap.push (ti0 t)).push (en0 s.heap.objs.size) }) :=
  .of_wp fun prog w A R s h => by
    obtain ⟨hp, g, d, tk, os⟩ := s
    obtain ⟨hL, h⟩ := h
    have hsub := sub_enumerate
    have hL2 := hL
    obtain ⟨⟨oc, od, odt, osl⟩, hl, hc, n, hd⟩ := hL2
    simp only at hc hd
    subst hc hd
    have hL : Heap.IsTuple (Shared.heap ⟨hp, g, d, tk, os⟩) t items := hL
    wp_walk using wpAny_loadPart' hl
    refine wpAny_stack_any fun st => wpAny_pure ?_
    split
    · rename_i c _ _ _ _ _
      cases (c == Value.type "enumerate")
      · wp_walk using wpAny_loadPart' hl, wpAny_pyIter_tuple hL
        exact ⟨_, rfl, h⟩
      · wp_walk using wpAny_loadPart' hl, wpAny_pyIter_tuple hL
        exact ⟨_, rfl, h⟩
    · wp_walk using wpAny_loadPart' hl, wpAny_pyIter_tuple hL
      exact ⟨_, rfl, h⟩
theorem call_enumT {prog : Program} {w : World} {A : Around} {E : Value → Shared → Prop} {s : Shared} {t : Addr} {items : Array Value} {Q : Value → Shared → Prop} (hL : s.heap.IsTuple t items)
    (h : ∀ h', IsEnum h' (s.heap.objs.size + 1) s.heap.objs.size 0 .none → h'.IsTupleIter s.heap.objs.size t 0 →
      (∀ b o, s.heap.get? b = some o → h'.get? b = some o) → Q (.ref (s.heap.objs.size + 1)) { s with heap := h' }) :
    wpAny (model prog w) A (call (.type "enumerate") [.ref t]) Q E s := by
  refine callType_new F.called_enumerate (by decide) (F.typeCall_enumerate_1 _) (F.newCall_enumerate_1 _) (fun obj => F.args_object_init_2 obj _) F.entry_enumerate_new (new_enumT t items) ⟨hL, ?_⟩
  have hz : (s.heap.push (ti0 t)).objs.size = s.heap.objs.size + 1 := Heap.size_push ..
  show _ ∧ _
  rw [hz]
  have he : IsEnum ((s.heap.push (ti0 t)).push (en0 s.heap.objs.size)) (s.heap.objs.size + 1) s.heap.objs.size 0 .none := by
    have q := Heap.get?_push_size (s.heap.push (ti0 t)) (o := en0 s.heap.objs.size) rfl
    rw [hz] at q; exact q
  exact ⟨⟨_, he, rfl⟩, h _ he ⟨_, Heap.get?_push_of_some _ (Heap.get?_push_size _ rfl), rfl, rfl⟩ fun b o x => Heap.get?_push_of_some _ (Heap.get?_push_of_some _ x)⟩
/-- the tuple at a, each item in a new pair -/
def ItEt (K : PySem.W.Frag) (a : Addr) : It :=
  ⟨fun i H => ∃ (xs : List V) (x : V), SqT K H a xs ∧ xs[i]? = some x, fun i H v H' => ∃ T x, v = .ref T ∧ H T = none ∧ H' = upd H T (.tup [.int (i : Nat), x]) ∧ ∀ xs, SqT K H a xs → xs[i]? = some x, fun i H => ∃ xs : List V, SqT K H a xs ∧ xs.length ≤ i⟩
theorem turn_enumT {P : Program} {w : World} {K : PySem.W.Frag} {elts : List Expr} {kk : Nat} {tpos : Pos} (a e it : Addr) :
    Turn P w K (.Tuple elts kk tpos) (ItEt K a) [e, it] e (fun i h => (∃ old, IsEnum h e it ((i : Nat) : Int) old) ∧ h.IsTupleIter it a i ∧ e ≠ it) where
  mem := List.mem_cons_self
  obj := fun i h st b hb => by
    obtain ⟨⟨old, he⟩, ⟨o, ho, hc, hd⟩, _⟩ := st
    rcases List.mem_cons.mp hb with z | z
    · rw [z]; exact ⟨_, he, fun v q => nomatch q⟩
    · rw [List.mem_singleton.mp z]; exact ⟨o, ho, fun v q => by rw [hd] at q; cases q⟩
  keep := fun i h h' ⟨⟨old, he⟩, hi, hne⟩ k => ⟨⟨old, k e List.mem_cons_self _ he⟩, hi.at fun o q => k it (List.mem_cons_of_mem _ List.mem_cons_self) o q, hne⟩
  item := by
    intro X hP hw hK hc i pins s σ H E I hf st hg
    subst hP hw hK
    obtain ⟨⟨old, he⟩, hit, hne⟩ := st
    obtain ⟨xs, x, hq, hx⟩ := hg
    obtain ⟨its, rv, p, hz⟩ := I.tuple hq
    obtain ⟨u, hu, ru⟩ := rv.get hx
    have pt : s.heap.IsTuple a its.toArray := p
    have hel : e < s.heap.objs.size := Heap.lt_size he
    have hil : it < s.heap.objs.size := by obtain ⟨_, q, _⟩ := hit; exact Heap.lt_size q
    have hai : a ≠ it := fun z => by
      obtain ⟨o1, g1, c1, _⟩ := pt
      obtain ⟨o2, g2, c2, _⟩ := hit
      rw [z, g2] at g1
      cases g1
      rw [c2] at c1
      exact absurd c1 (by decide)
    have hae : a ≠ e := fun z => by
      obtain ⟨o1, g1, c1, _⟩ := pt
      rw [z, show s.heap.get? e = _ from he] at g1
      cases g1
      have c2 : Value.type "enumerate" = Value.type "tuple" := c1
      exact absurd c2 (by decide)
    have hlt : i < its.toArray.size := by
      have := (List.getElem?_eq_some_iff.mp hu).1
      simpa using this
    refine wpAny_pyNext_enum_itemD (Draws.tuple (by rw [Around.in1_handled]; exact I.ok.hd hc) it a hai its.toArray) he ⟨hit, pt⟩ hlt hne (by simp [hne, Ne.symm hae]) fun y h' tk hy ho hst' hT hsz hk => ?_
    have ey : y = u := by
      have q : its.toArray[i]? = some u := by simpa using hu
      rw [q] at hy
      exact (Option.some.inj hy).symm
    subst ey
    refine ⟨_, rfl, wpAny_letOwnedTupleGo_enum (s := { s with heap := h', toks := tk + 1 }) ho fun h'' he' sb => ?_⟩
    have hT2 := (sb.2 _ (Nat.ne_of_gt hel)).trans hT
    have new : ObjOk X.prog X.w (upd H s.heap.objs.size (.tup [.int (i : Nat), x])) h'' s.heap.objs.size (.tup [.int (i : Nat), x]) := ⟨by show 2 ≤ sizeLine; decide, [.int i tk, y], .cons ⟨_, rfl⟩ (.cons ru .nil), ⟨_, hT2, rfl, _, rfl⟩⟩
    have I1 : Inv X pins σ (upd H s.heap.objs.size (.tup [.int (i : Nat), x])) { s with heap := h'', toks := tk + 1 } :=
      I.turnedNew (ch := [e, it]) (fun b ob hb q => (sb.2 b (fun z => hb (by simp [z]))).trans (hk b ob (fun z => hb (by simp [z])) (fun z => hb (by simp [z])) q)) hf (Nat.le_refl _) new
    refine ⟨.ref s.heap.objs.size, _, I1, rfl, ⟨_, x, rfl, I.hok.fresh (Nat.le_refl _), rfl, fun ys hy => ?_⟩, ⟨⟨y, ?_⟩, hst'.1.at fun o q => (sb.2 it (Ne.symm hne)).trans q, hne⟩, fun b hb => ?_⟩
    · rw [I.tuple_inj hy hq]; exact hx
    · rw [show ((i + 1 : Nat) : Int) = (i : Int) + 1 by omega]; exact he'
    · have hb' : b < s.heap.objs.size := by
        rcases List.mem_cons.mp hb with z | z
        · rw [z]; exact hel
        · rw [List.mem_singleton.mp z]; exact hil
      rw [upd_ne (Nat.ne_of_lt hb')]; exact (hf b hb).1
  done := by
    intro X hP hw hK hc i pins s σ H E I hf st hg
    subst hP hw hK
    obtain ⟨⟨old, he⟩, hit, hne⟩ := st
    obtain ⟨xs, hq, hx⟩ := hg
    obtain ⟨its, rv, p, hz⟩ := I.tuple hq
    obtain ⟨f0, f1, f2, f3, f4, f5⟩ := hf it (List.mem_cons_of_mem _ List.mem_cons_self)
    have pt : s.heap.IsTuple a its.toArray := p
    have hai : a ≠ it := fun z => by
      obtain ⟨o1, g1, c1, _⟩ := pt
      obtain ⟨o2, g2, c2, _⟩ := hit
      rw [z, g2] at g1
      cases g1
      rw [c2] at c1
      exact absurd c1 (by decide)
    have hl := rv.length
    have D : Draws X.prog X.w X.A.in1 it [it, a] i (fun _ _ => False) (fun j h => j = i ∧ h.IsTupleIter it a i ∧ h.IsTuple a its.toArray) := by
      refine ⟨fun j h st => let ⟨o, ho, _⟩ := st.2.1; ⟨o, ho⟩, fun j h h' st k => ⟨st.1, st.2.1.at fun o q => k it (by simp) o q, st.2.2.at fun o q => k a (by simp) o q⟩, fun j s Q E hj st _ => absurd st.1 (Nat.ne_of_lt hj), fun s Q E st hE => ?_⟩
      exact wpAny_nextOf_tuple_end (by rw [Around.in1_handled]; exact I.ok.hd hc) st.2.1 st.2.2 (by simp; omega) hE
    exact wpAny_pyNext_enum_endD D he ⟨rfl, hit, pt⟩ fun h' eb => ⟨rfl, I.turned (t' := s.toks) (fun b o hb q => eb b o hb q) f0 f1 f3 f4 f5⟩
  self := fun A i s Q E ⟨⟨_, he⟩, _⟩ h => wpAny_pyIter_enum he h
def iEnumT (K : PySem.W.Frag) (ta : TA) : TI := fun σ H R => ta σ H fun vs H1 => ∃ a xs, vs = [.ref a] ∧ ((SqL K H1 a xs ∧ R (Ite K a) H1) ∨ (SqT K H1 a xs ∧ R (ItEt K a) H1))
theorem piEnumT {K : PySem.W.Frag} {X : Cx} {e : Expr} {ta : TA} {p pos tpos : Pos} {elts : List Expr} {kk : Nat} (hg : Gl X "enumerate") (hm : X.mg "enumerate" = none) (ha : PA X [e] ta) (eK : X.K = K := by rfl) (hs : starEach [e] X.env = [(false, eval e X.env)] := by rfl) :
    PI X (.Tuple elts kk tpos) (.Call (.Name "enumerate" p) [e] [] pos) (iEnumT K ta) := by
  cases eK
  refine ⟨fun pins s σ H R I h => Call_ (ld_blt I hg hm boot_enumerate (PyProof.Rows.callWith_type1 (thn (ha.run pos pins s σ H _ I h) fun us s1 ⟨vs, H1, I1, r1, q1⟩ => ?_) hs rfl))⟩
  obtain ⟨a, xs, rfl, q⟩ := q1
  rw [Vals.ref1 r1]
  have up : ∀ b ∈ [s1.heap.objs.size + 1, s1.heap.objs.size], s1.heap.objs.size ≤ b := fun b hb => by
    rcases List.mem_cons.mp hb with z | z
    · rw [z]; exact Nat.le_add_right _ _
    · rw [List.mem_singleton.mp z]; exact Nat.le_refl _
  rcases q with ⟨hq, q⟩ | ⟨hq, q⟩
  · obtain ⟨its, rv, p', hz⟩ := I1.list hq
    refine call_enumerate_list p'.isList fun h' he hit hsz hk => wpAny_pyIter_enum he ?_
    exact ⟨s1.heap.objs.size + 1, [s1.heap.objs.size + 1, s1.heap.objs.size], _, _, H1, rfl, I1.kept (t' := s1.toks) hk, turn_enum a (s1.heap.objs.size + 1) s1.heap.objs.size, ⟨⟨.none, he⟩, hit, Nat.succ_ne_self _⟩, fun b hb => I1.fpOk (up b hb) (I1.hok.fresh (up b hb)), q⟩
  · obtain ⟨its, rv, p', hz⟩ := I1.tuple hq
    refine call_enumT (show s1.heap.IsTuple a its.toArray from p') fun h' he hit hk => wpAny_pyIter_enum he ?_
    exact ⟨s1.heap.objs.size + 1, [s1.heap.objs.size + 1, s1.heap.objs.size], _, _, H1, rfl, I1.kept (t' := s1.toks) hk, turn_enumT a (s1.heap.objs.size + 1) s1.heap.objs.size, ⟨⟨.none, he⟩, hit, Nat.succ_ne_self _⟩, fun b hb => I1.fpOk (up b hb) (I1.hok.fresh (up b hb)), q⟩
end Vw

set_option Elab.async false
set_option linter.all false
set_option maxRecDepth 100000
set_option maxHeartbeats 4000000
namespace Vw
open PySem PySem.Spec PyProof.Rows L2 RT
/-! ### loops -/
def FQ (J : It) (g : TG) (tb : TS) (D : Ends) (σ : L2.St) (H : Hp) : Prop := ∃ W : Nat → Nat → L2.St → Hp → Prop, (∃ m, W 0 m σ H) ∧ ∀ i m σ H, W i m σ H →
  (J.stop i H ∧ D.nx σ H) ∨ (J.go i H ∧ ∃ N : L2.St → Hp → Prop, (∀ σ' H', N σ' H' → ∃ m', m' < m ∧ W (i + 1) m' σ' H') ∧ ∀ x H', J.yld i H x H' → g x σ H' fun σ2 H2 => tb { D with nx := N, ct := N, bk := D.nx } σ2 H2)
def LQ (J : It) (g : TG) (tt : TT) (te : TE) (vs : List Nat) (σ : L2.St) (H1 : Hp) (Q : VK) : Prop := ∀ D, H1 D = none → ∃ W : Nat → Nat → Hp → Prop, (∃ m, W 0 m (upd H1 D (.lst []))) ∧ ∀ i m H, W i m H →
  (J.stop i H ∧ Q (.ref D) H) ∨ (J.go i H ∧ ∃ Nx : Hp → Prop, (∀ H', Nx H' → ∃ m', m' < m ∧ W (i + 1) m' H') ∧ ∀ x H', J.yld i H x H' → g x (wipe σ vs) H' fun σ2 H2 => wipe σ2 vs = wipe σ vs ∧ tt σ2 H2 fun b H3 =>
    if b = true then te σ2 H3 fun y H4 => ∃ acc, H4 D = some (.lst acc) ∧ acc.length < sizeLine ∧ Nx (upd H4 D (.lst (acc ++ [y]))) else Nx H3)
section
variable {K : PySem.W.Frag} {σ : L2.St} {H H1 : Hp} {Q : VK} {D : Ends} {ta tb te : TE} {t u : TS} {wi : TI} {g : TG} {tt : TT} {vs : List Nat} {R : It → Hp → Prop} {j : Nat} {xs : List V} {a : Addr}
theorem s_for (h : wi σ H fun J H1 => FQ J g t D σ H1) : tFor wi g t D σ H := h
theorem e_lc (h : wi σ H fun J H1 => LQ J g tt te vs σ H1 Q) : tLc wi g tt te vs σ H Q := h
def RgQ (R : It → Hp → Prop) (vs : List V) (H1 : Hp) : Prop := ∃ j : Int, vs = [.int j] ∧ -(2 ^ 62) ≤ j ∧ j < 2 ^ 62 ∧ R (Itr 0 j.toNat) H1
theorem i_rng1 {ta : TA} (h : ta σ H fun vs H1 => RgQ R vs H1) : iRng1 ta σ H R := h
theorem i_rng {i : Int} (n : Nat) (e : i.toNat = n) (h1 : -100000 ≤ i) (h2 : i ≤ 100000) (h : R (Itr 0 n) H) : RgQ R [.int i] H := ⟨i, rfl, by omega, by omega, by rw [e]; exact h⟩
def LsQ (K : PySem.W.Frag) (R : It → Hp → Prop) (x : V) (H1 : Hp) : Prop := ∃ a, x = .ref a ∧ (∃ xs, SqL K H1 a xs) ∧ R (Itl K a) H1
theorem i_lst0 {tl : TE} (h : tl σ H fun x H1 => LsQ K R x H1) : iList K tl σ H R := h
theorem i_lst (s : SqL K H a xs) (h : R (Itl K a) H) : LsQ K R (.ref a) H := ⟨a, rfl, ⟨xs, s⟩, h⟩
def TpQ (K : PySem.W.Frag) (R : It → Hp → Prop) (x : V) (H1 : Hp) : Prop := ∃ a, x = .ref a ∧ (∃ xs, SqT K H1 a xs) ∧ R (Itt K a) H1
theorem i_tup0 {tl : TE} (h : tl σ H fun x H1 => TpQ K R x H1) : iTup K tl σ H R := h
theorem i_tup (s : SqT K H a xs) (h : R (Itt K a) H) : TpQ K R (.ref a) H := ⟨a, rfl, ⟨xs, s⟩, h⟩
/-- a loop over anything that is walked -/
theorem l_it {J : It} {n : Nat} {G : Hp → Prop} {Y : Nat → Hp → V → Hp → Prop} (W : Walk J n G Y) (Pv : Nat → L2.St → Hp → Prop) (h0 : Pv 0 σ H) (hG : ∀ i σ H, i ≤ n → Pv i σ H → G H) (hd : ∀ σ H, Pv n σ H → D.nx σ H)
    (hs : ∀ i x σ H H', i < n → Pv i σ H → Y i H x H' → g x σ H' fun σ2 H2 => t { D with nx := Pv (i + 1), ct := Pv (i + 1), bk := D.nx } σ2 H2) : FQ J g t D σ H := for_it W Pv h0 hG hs hd
theorem l_rng {n : Nat} (Pv : Nat → L2.St → Hp → Prop) (h0 : Pv 0 σ H) (hd : ∀ σ H, Pv n σ H → D.nx σ H)
    (hs : ∀ (i : Nat) σ H, i < n → Pv i σ H → t { D with nx := Pv (i + 1), ct := Pv (i + 1), bk := D.nx } (σ.set j (some (.int (i : Int)))) H) : FQ (Itr 0 n) (gName j) t D σ H :=
  l_it walk_range Pv h0 (fun _ _ _ _ _ => trivial) hd fun i x σ H H' hi p y => by
    obtain ⟨rfl, rfl⟩ := y
    have e : (0 : Int) + (i : Int) = (i : Int) := Int.zero_add _
    show t _ (σ.set j (some (.int ((0 : Int) + (i : Int))))) _
    rw [e]; exact hs i σ _ hi p
theorem l_lst (Pv : Nat → L2.St → Hp → Prop) (h0 : Pv 0 σ H) (hl : ∀ i σ H, i ≤ xs.length → Pv i σ H → SqL K H a xs) (hd : ∀ σ H, Pv xs.length σ H → D.nx σ H)
    (hs : ∀ i x σ H, xs[i]? = some x → Pv i σ H → t { D with nx := Pv (i + 1), ct := Pv (i + 1), bk := D.nx } (σ.set j (some x)) H) : FQ (Itl K a) (gName j) t D σ H :=
  l_it walk_list Pv h0 hl hd fun i x σ H H' hi p y => by
    obtain ⟨rfl, e⟩ := y
    exact hs i x σ _ e p
theorem l_tup (Pv : Nat → L2.St → Hp → Prop) (h0 : Pv 0 σ H) (hl : ∀ i σ H, i ≤ xs.length → Pv i σ H → SqT K H a xs) (hd : ∀ σ H, Pv xs.length σ H → D.nx σ H)
    (hs : ∀ i x σ H, xs[i]? = some x → Pv i σ H → t { D with nx := Pv (i + 1), ct := Pv (i + 1), bk := D.nx } (σ.set j (some x)) H) : FQ (Itt K a) (gName j) t D σ H :=
  l_it walk_tup Pv h0 hl hd fun i x σ H H' hi p y => by
    obtain ⟨rfl, e⟩ := y
    exact hs i x σ _ e p
/-- the target (x, y) at a new pair -/
theorem g_pair {i1 i2 : Nat} {T : Addr} {x y : V} {R : L2.St → Hp → Prop} (h : H T = some (.tup [x, y])) (q : R ((σ.set i1 (some x)).set i2 (some y)) H) : gTup K 2 (gCons (gName i1) (gCons (gName i2) gNil)) (.ref T) σ H R :=
  ⟨T, [x, y], rfl, stO h, rfl, x, [y], rfl, y, [], rfl, rfl, q⟩
theorem g_pairS {i1 i2 : Nat} {T : Addr} {x y : V} {R : L2.St → Hp → Prop} (h : SqT K H T [x, y]) (q : R ((σ.set i1 (some x)).set i2 (some y)) H) : gTup K 2 (gCons (gName i1) (gCons (gName i2) gNil)) (.ref T) σ H R :=
  ⟨T, [x, y], rfl, h, rfl, x, [y], rfl, y, [], rfl, rfl, q⟩
theorem putK_le {c : List (Key × V)} {k : Key} {x : V} : (putK c k x).length ≤ c.length + 1 := by
  unfold putK
  split <;> simp
theorem walk_enumT : Walk (ItEt K a) xs.length (fun H => SqT K H a xs) (YPair (fun i => some (.int (i : Nat))) (fun i => xs[i]?)) := by
  refine ⟨fun i _ hi q => ⟨xs, xs[i], q, by simp [hi]⟩, fun _ q => ⟨xs, q, Nat.le_refl _⟩, fun i H v H' _ q y => ?_⟩
  obtain ⟨T, x, h1, h2, h3, h4⟩ := y
  exact ⟨T, .int (i : Nat), x, h1, h2, h3, rfl, h4 xs q⟩
def SqX (K : PySem.W.Frag) (H : Hp) (a : Addr) (xs : List V) : Prop := SqL K H a xs ∨ SqT K H a xs
theorem sx_ {H H' : Hp} {a : Addr} {xs : List V} (s : Same H H') (h : SqX K H a xs) : SqX K H' a xs := h.elim (fun h => .inl (sl_ s h)) fun h => .inr (st_ s h)
def EnQ (K : PySem.W.Frag) (R : It → Hp → Prop) (vs : List V) (H1 : Hp) : Prop := ∃ a xs, vs = [.ref a] ∧ ((SqL K H1 a xs ∧ R (Ite K a) H1) ∨ (SqT K H1 a xs ∧ R (ItEt K a) H1))
theorem i_enum0 {ta : TA} (h : ta σ H fun vs H1 => EnQ K R vs H1) : iEnumT K ta σ H R := h
theorem i_enumX {H0 : Hp} (s : SqX K H0 a xs) (ss : Same H0 H) (h : ∀ J G, (∀ H', Same H0 H' → G H') → Walk J xs.length G (YPair (fun i => some (.int (i : Nat))) (fun i => xs[i]?)) → R J H) : EnQ K R [.ref a] H :=
  ⟨a, xs, rfl, s.elim (fun s => .inl ⟨sl_ ss s, h _ _ (fun H' q => sl_ q s) walk_enum⟩) fun s => .inr ⟨st_ ss s, h _ _ (fun H' q => st_ q s) walk_enumT⟩⟩
def RvQ (K : PySem.W.Frag) (R : It → Hp → Prop) (v : V) (H1 : Hp) : Prop := ∃ (a : Addr) (xs : List V), v = .ref a ∧ ((SqL K H1 a xs ∧ R (Itv K a xs.length) H1) ∨ (SqT K H1 a xs ∧ R (ItvT K a xs.length) H1))
theorem walk_revT : Walk (ItvT K a xs.length) xs.length (fun H => SqT K H a xs) (fun i H x H' => H' = H ∧ xs[xs.length - 1 - i]? = some x) :=
  ⟨fun i _ hi q => ⟨hi, xs, xs[xs.length - 1 - i]'(by omega), q, by simp [show xs.length - 1 - i < xs.length by omega]⟩, fun _ _ => Nat.le_refl _, fun _ _ _ _ _ q y => ⟨y.1, y.2 xs q⟩⟩
theorem i_revX {H0 : Hp} (s : SqX K H0 a xs) (ss : Same H0 H) (h : ∀ J G, (∀ H', Same H0 H' → G H') → Walk J xs.length G (fun i H x H' => H' = H ∧ xs[xs.length - 1 - i]? = some x) → R J H) : RvQ K R (.ref a) H :=
  ⟨a, xs, rfl, s.elim (fun s => .inl ⟨sl_ ss s, h _ _ (fun H' q => sl_ q s) walk_rev⟩) fun s => .inr ⟨st_ ss s, h _ _ (fun H' q => st_ q s) walk_revT⟩⟩
theorem i_rev0 {te : TE} (h : te σ H fun v H1 => RvQ K R v H1) : iRevA K te σ H R := h
/-- a comprehension: Pv tells of the turn, of what is made so far, of the heap, in which the list itself stands at D -/
theorem c_it {J : It} {n : Nat} {G : Hp → Prop} {Y : Nat → Hp → V → Hp → Prop} (W : Walk J n G Y) (Pv : Nat → List V → Hp → Prop) (h0 : ∀ D, H1 D = none → Pv 0 [] (upd H1 D (.lst []))) (hG : ∀ i acc H, i ≤ n → Pv i acc H → G H)
    (hd : ∀ acc D H, H1 D = none → H D = some (.lst acc) → Pv n acc H → Q (.ref D) H)
    (hs : ∀ (i : Nat) x acc H H' D, i < n → H1 D = none → H D = some (.lst acc) → Pv i acc H → Y i H x H' → g x (wipe σ vs) H' fun σ2 H2 => wipe σ2 vs = wipe σ vs ∧ tt σ2 H2 fun b H3 =>
      if b = true then te σ2 H3 fun y H4 => ∃ acc, H4 D = some (.lst acc) ∧ acc.length < sizeLine ∧ ∃ acc2, (upd H4 D (.lst (acc ++ [y]))) D = some (.lst acc2) ∧ Pv (i + 1) acc2 (upd H4 D (.lst (acc ++ [y]))) else ∃ acc2, H3 D = some (.lst acc2) ∧ Pv (i + 1) acc2 H3) : LQ J g tt te vs σ H1 Q := fun D hD =>
  lc_it W (fun i H => ∃ acc, H D = some (.lst acc) ∧ Pv i acc H) ⟨[], upd_same, h0 D hD⟩ (fun i H hi p => hG i _ H hi p.choose_spec.2) (fun i x H H' hi p y => by
    obtain ⟨acc, hp, p⟩ := p
    exact hs i x acc H H' D hi hD hp p y) (fun H p => by
    obtain ⟨acc, hp, p⟩ := p
    exact hd acc D H hD hp p)
theorem got_ {Dl : Addr} {acc : List V} {y : V} {P : List V → Hp → Prop} (h : H Dl = some (.lst acc)) (hl : acc.length < 100000) (p : P (acc ++ [y]) (upd H Dl (.lst (acc ++ [y])))) :
    ∃ acc, H Dl = some (.lst acc) ∧ acc.length < sizeLine ∧ ∃ acc2, (upd H Dl (.lst (acc ++ [y]))) Dl = some (.lst acc2) ∧ P acc2 (upd H Dl (.lst (acc ++ [y]))) :=
  ⟨acc, h, Nat.lt_of_lt_of_le hl (by decide), _, upd_same, p⟩
theorem upd_free {H0 : Hp} {Dl : Addr} {o : HO} (s : Same H0 H) (n : H0 Dl = none) : Same H0 (upd H Dl o) := fun b u e => by rw [upd_ne (ne_of_none e n)]; exact s b u e
theorem c_rng {n : Nat} (Pv : Nat → List V → Hp → Prop) (h0 : ∀ D, H1 D = none → Pv 0 [] (upd H1 D (.lst []))) (hd : ∀ acc D H, H1 D = none → H D = some (.lst acc) → Pv n acc H → Q (.ref D) H) (hw : ∀ x, wipe ((wipe σ vs).set j x) vs = wipe σ vs)
    (hs : ∀ (i : Nat) acc H D, i < n → H1 D = none → H D = some (.lst acc) → Pv i acc H → tt ((wipe σ vs).set j (some (.int (i : Int)))) H fun b H3 =>
      if b = true then te ((wipe σ vs).set j (some (.int (i : Int)))) H3 fun y H4 => ∃ acc, H4 D = some (.lst acc) ∧ acc.length < sizeLine ∧ ∃ acc2, (upd H4 D (.lst (acc ++ [y]))) D = some (.lst acc2) ∧ Pv (i + 1) acc2 (upd H4 D (.lst (acc ++ [y]))) else ∃ acc2, H3 D = some (.lst acc2) ∧ Pv (i + 1) acc2 H3) :
    LQ (Itr 0 n) (gName j) tt te vs σ H1 Q := c_it walk_range Pv h0 (fun _ _ _ _ _ => trivial) hd fun i x acc H H' D hi hD hp p y => by
  obtain ⟨rfl, rfl⟩ := y
  have e : (0 : Int) + (i : Int) = (i : Int) := Int.zero_add _
  refine ⟨hw _, ?_⟩
  dsimp only
  rw [e]; exact hs i acc _ D hi hD hp p
theorem c_lst (Pv : Nat → List V → Hp → Prop) (h0 : ∀ D, H1 D = none → Pv 0 [] (upd H1 D (.lst []))) (hl : ∀ i acc H, i ≤ xs.length → Pv i acc H → SqL K H a xs) (hd : ∀ acc D H, H1 D = none → H D = some (.lst acc) → Pv xs.length acc H → Q (.ref D) H) (hw : ∀ x, wipe ((wipe σ vs).set j x) vs = wipe σ vs)
    (hs : ∀ (i : Nat) x acc H D, xs[i]? = some x → H1 D = none → H D = some (.lst acc) → Pv i acc H → tt ((wipe σ vs).set j (some x)) H fun b H3 =>
      if b = true then te ((wipe σ vs).set j (some x)) H3 fun y H4 => ∃ acc, H4 D = some (.lst acc) ∧ acc.length < sizeLine ∧ ∃ acc2, (upd H4 D (.lst (acc ++ [y]))) D = some (.lst acc2) ∧ Pv (i + 1) acc2 (upd H4 D (.lst (acc ++ [y]))) else ∃ acc2, H3 D = some (.lst acc2) ∧ Pv (i + 1) acc2 H3) :
    LQ (Itl K a) (gName j) tt te vs σ H1 Q := c_it walk_list Pv h0 hl hd fun i x acc H H' D hi hD hp p y => by
  obtain ⟨rfl, e⟩ := y
  exact ⟨hw _, hs i x acc _ D e hD hp p⟩
theorem c_tup (Pv : Nat → List V → Hp → Prop) (h0 : ∀ D, H1 D = none → Pv 0 [] (upd H1 D (.lst []))) (hl : ∀ i acc H, i ≤ xs.length → Pv i acc H → SqT K H a xs) (hd : ∀ acc D H, H1 D = none → H D = some (.lst acc) → Pv xs.length acc H → Q (.ref D) H) (hw : ∀ x, wipe ((wipe σ vs).set j x) vs = wipe σ vs)
    (hs : ∀ (i : Nat) x acc H D, xs[i]? = some x → H1 D = none → H D = some (.lst acc) → Pv i acc H → tt ((wipe σ vs).set j (some x)) H fun b H3 =>
      if b = true then te ((wipe σ vs).set j (some x)) H3 fun y H4 => ∃ acc, H4 D = some (.lst acc) ∧ acc.length < sizeLine ∧ ∃ acc2, (upd H4 D (.lst (acc ++ [y]))) D = some (.lst acc2) ∧ Pv (i + 1) acc2 (upd H4 D (.lst (acc ++ [y]))) else ∃ acc2, H3 D = some (.lst acc2) ∧ Pv (i + 1) acc2 H3) :
    LQ (Itt K a) (gName j) tt te vs σ H1 Q := c_it walk_tup Pv h0 hl hd fun i x acc H H' D hi hD hp p y => by
  obtain ⟨rfl, e⟩ := y
  exact ⟨hw _, hs i x acc _ D e hD hp p⟩
theorem e_yes {R : Bool → Hp → Prop} (q : R true H) : tYes σ H R := q
/-- a dict comprehension over a list -/
def DQ (J : It) (g : TG) (tt : TT) (tk tv : TE) (vs : List Nat) (σ : L2.St) (H1 : Hp) (Q : VK) : Prop := ∀ D, H1 D = none → ∃ W : Nat → Nat → Hp → Prop, (∃ m, W 0 m (upd H1 D (.dK []))) ∧ ∀ i m H, W i m H →
  (J.stop i H ∧ Q (.ref D) H) ∨ (J.go i H ∧ ∃ Nx : Hp → Prop, (∀ H', Nx H' → ∃ m', m' < m ∧ W (i + 1) m' H') ∧ ∀ x H', J.yld i H x H' → g x (wipe σ vs) H' fun σ2 H2 => wipe σ2 vs = wipe σ vs ∧ tt σ2 H2 fun b H3 =>
    if b = true then tk σ2 H3 fun y H4 => tv σ2 H4 fun z H5 => ∃ kvs k, y = kV k ∧ H5 D = some (.dK kvs) ∧ kvs.length < sizeLine ∧ Nx (upd H5 D (.dK (putK kvs k z))) else Nx H3)
theorem e_dc {tk tv : TE} (h : wi σ H fun J H1 => DQ J g tt tk tv vs σ H1 Q) : tDc wi g tt tk tv vs σ H Q := h
theorem d_it {J : It} {n : Nat} {G : Hp → Prop} {Y : Nat → Hp → V → Hp → Prop} {tk tv : TE} (W : Walk J n G Y) (Pv : Nat → List (Key × V) → Hp → Prop) (h0 : ∀ D, H1 D = none → Pv 0 [] (upd H1 D (.dK []))) (hG : ∀ i acc H, i ≤ n → Pv i acc H → G H)
    (hd : ∀ acc D H, H1 D = none → H D = some (.dK acc) → Pv n acc H → Q (.ref D) H)
    (hs : ∀ (i : Nat) x acc H H' D, i < n → H1 D = none → H D = some (.dK acc) → Pv i acc H → Y i H x H' → g x (wipe σ vs) H' fun σ2 H2 => wipe σ2 vs = wipe σ vs ∧ tt σ2 H2 fun b H3 =>
      if b = true then tk σ2 H3 fun y H4 => tv σ2 H4 fun z H5 => ∃ kvs k, y = kV k ∧ H5 D = some (.dK kvs) ∧ kvs.length < sizeLine ∧ ∃ acc2, (upd H5 D (.dK (putK kvs k z))) D = some (.dK acc2) ∧ Pv (i + 1) acc2 (upd H5 D (.dK (putK kvs k z))) else ∃ acc2, H3 D = some (.dK acc2) ∧ Pv (i + 1) acc2 H3) : DQ J g tt tk tv vs σ H1 Q := fun D hD => by
  refine ⟨fun i m H => m = n - i ∧ i ≤ n ∧ ∃ acc, H D = some (.dK acc) ∧ Pv i acc H, ⟨n, rfl, Nat.zero_le _, [], upd_same, h0 D hD⟩, ?_⟩
  rintro i m H ⟨rfl, hi, acc, hp, p⟩
  have q := hG i acc H hi p
  by_cases hlt : i < n
  · exact .inr ⟨W.goes i H hlt q, fun H => ∃ acc, H D = some (.dK acc) ∧ Pv (i + 1) acc H, fun H' p' => ⟨n - (i + 1), by omega, rfl, hlt, p'⟩, fun x H' y => hs i x acc H H' D hlt hD hp p (W.yields i H x H' hlt q y)⟩
  · have e : i = n := by omega
    subst e
    exact .inl ⟨W.stops H q, hd acc D H hD hp p⟩
theorem dgot_ {Dl : Addr} {acc : List (Key × V)} {z : V} {k : Key} {P : List (Key × V) → Hp → Prop} (h : H Dl = some (.dK acc)) (hl : acc.length < 100000) (p : P (putK acc k z) (upd H Dl (.dK (putK acc k z)))) :
    ∃ kvs k', kV k = kV k' ∧ H Dl = some (.dK kvs) ∧ kvs.length < sizeLine ∧ ∃ acc2, (upd H Dl (.dK (putK kvs k' z))) Dl = some (.dK acc2) ∧ P acc2 (upd H Dl (.dK (putK kvs k' z))) :=
  ⟨acc, k, rfl, h, Nat.lt_of_lt_of_le hl (by decide), _, upd_same, p⟩
theorem atI_map {ns : List Int} {z : Int} (i : Nat) (e : z = (i : Nat)) (h : i < ns.length) : atI (ns.map V.int) z = some (.int (ns.getD i 0)) := atI_in e (by
  rw [List.getElem?_map, List.getElem?_eq_getElem h, List.getD_eq_getElem?_getD, List.getElem?_eq_getElem h]; rfl)
theorem atI_neg {α : Type} {xs : List α} {x : α} (h0 : 0 < xs.length) (h : xs[xs.length - 1]? = some x) : atI xs (-1) = some x := by
  have e : ixN xs.length (-1) = some (xs.length - 1) := by
    unfold ixN
    rw [if_neg (by omega), if_pos (by omega)]
    congr 1; omega
  unfold atI
  rw [e]; exact h
theorem atI_negI {ns : List Int} (h0 : 0 < ns.length) : atI (ns.map V.int) (-1) = some (.int (ns.getD (ns.length - 1) 0)) := atI_neg (by simpa using h0) (by
  rw [List.length_map, List.getElem?_map, List.getD_eq_getElem?_getD, List.getElem?_eq_getElem (by omega)]; rfl)
theorem getD_mem {ns : List Int} {i : Nat} (h : i < ns.length) : ns.getD i 0 ∈ ns := by
  rw [List.getD_eq_getElem?_getD, List.getElem?_eq_getElem h]; exact List.getElem_mem h
theorem while_ {c : TT} {μ : L2.St → Hp → Nat} (Pv : L2.St → Hp → Prop) (h0 : Pv σ H)
    (hs : ∀ σ H, Pv σ H → c σ H fun b H1 => if b = true then t { D with nx := fun σ' H' => Pv σ' H' ∧ μ σ' H' < μ σ H, ct := fun σ' H' => Pv σ' H' ∧ μ σ' H' < μ σ H, bk := D.nx } σ H1 else D.nx σ H1)
    (mono : ∀ σ H Q Q', (∀ b H1, Q b H1 → Q' b H1) → c σ H Q → c σ H Q') : tWhile c t D σ H := while_by Pv μ h0 hs mono
theorem same_oth {f : Addr} {H0 H2 : Hp} (n : H0 f = none) (s : Same H0 H) (o : Oth f H H2) : Same H0 H2 := fun b u e => o b u (ne_of_none e n) (s b u e)
theorem e_bm {T : String} {r : V → List V → Hp → VK → Prop} {to : TE} {ts : TA} (h : to σ H fun x H1 => tyV K T x H1 ∧ ts σ H1 fun xs H2 => r x xs H2 Q) : tBM K T r to ts σ H Q := h
theorem ty_lst {f : Addr} {R : Prop} (h : H f = some (.lst xs)) (q : R) : tyV K "list" (.ref f) H ∧ R := ⟨.inl ⟨rfl, xs, slO h⟩, q⟩
theorem r_app {f : Addr} {y : V} (h : H f = some (.lst xs)) (hl : xs.length < 100000) (q : ∀ H2, Oth f H H2 → H2 f = some (.lst (xs ++ [y])) → Q .non H2) : rAppend (.ref f) [y] H Q :=
  ⟨f, xs, y, rfl, rfl, h, lt_size hl, q _ (fun b o n z => by rw [upd_ne n]; exact z) upd_same⟩
theorem o_cat {r' : R2} {l b : Addr} {ys : List V} (h1 : H l = some (.lst xs)) (h2 : H b = some (.lst ys)) (hl : xs.length + ys.length < 100000) (q : NewQ (.lst (xs ++ ys)) H Q) : rOr rIAdd (rOr rCat r') (.ref l) (.ref b) H Q := .inr (.inl ⟨l, b, xs, ys, rfl, rfl, h1, h2, le_size hl, q⟩)
theorem e_din {ty td : TE} (h : ty σ H fun y H1 => td σ H1 fun x H2 => ∃ a o, x = .ref a ∧ DGet H2 a y o ∧ Q (.bl o.isSome) H2) : tDIn ty td σ H Q := h
theorem g_din {PO : Option V → Prop} {d : Addr} {kvs : List (Key × V)} {k : Key} (h : H d = some (.dK kvs)) (q : PO (valV kvs k)) : ∃ a o, V.ref d = .ref a ∧ DGet H a (kV k) o ∧ PO o := ⟨d, _, rfl, DGet.k h, q⟩
theorem e_sl {r : V → Option Int → Option Int → Hp → VK → Prop} {tl th : TO} (h : te σ H fun x H1 => tl σ H1 fun l H2 => th σ H2 fun u H3 => r x l u H3 Q) : tSl r te tl th σ H Q := h
theorem e_np {R : Option Int → Hp → Prop} (h : R none H) : tNoPart σ H R := h
theorem e_pt {R : Option Int → Hp → Prop} (h : te σ H fun x H1 => ∃ i, x = .int i ∧ R (some i) H1) : tPart te σ H R := h
theorem e_ptI {PI : Int → Prop} {i : Int} (h : PI i) : ∃ j, V.int i = .int j ∧ PI j := ⟨i, rfl, h⟩
theorem r_sl {lo hi : Option Int} (s : SqL K H a xs) (q : NewQ (.lst (cutV xs lo hi)) H Q) : rSlL K (.ref a) lo hi H Q := ⟨a, xs, rfl, s, q⟩
theorem cut_map {f : Int → V} (ns : List Int) (lo hi : Option Int) : ∃ ms : List Int, cutV (ns.map f) lo hi = ms.map f ∧ ms.length ≤ ns.length ∧ ∀ z ∈ ms, z ∈ ns := by
  have key : ∀ a b : Nat, ∃ ms : List Int, ((ns.map f).drop a).take b = ms.map f ∧ ms.length ≤ ns.length ∧ ∀ z ∈ ms, z ∈ ns := fun a b =>
    ⟨(ns.drop a).take b, by rw [List.map_take, List.map_drop], by rw [List.length_take, List.length_drop]; omega, fun z hz => List.mem_of_mem_drop (List.mem_of_mem_take hz)⟩
  exact key _ _
theorem eqV_int {a b : Int} : eqV (.int a) (.int b) = decide (a = b) := by
  show (a == b) = _
  by_cases h : a = b
  · rw [h]; simp
  · simp [h]
theorem inV_int {z : Int} {ns : List Int} : inV (.int z) (ns.map V.int) = decide (z ∈ ns) := by
  unfold inV
  rw [List.any_map, Bool.eq_iff_iff, List.any_eq_true, decide_eq_true_eq]
  constructor
  · rintro ⟨y, hy, e⟩
    have := eqV_int (a := y) (b := z)
    have e : eqV (.int y) (.int z) = true := e
    rw [this, decide_eq_true_eq] at e
    rw [← e]; exact hy
  · intro h
    refine ⟨z, h, ?_⟩
    show eqV (.int z) (.int z) = true
    rw [eqV_int]; simp
theorem flat_ints {ns : List Int} : (ns.map V.int).all flatV = true := by
  rw [List.all_map, List.all_eq_true]; exact fun _ _ => rfl
theorem o_inL {p : Addr} {z : Int} {ns : List Int} (s : SqL K H p (ns.map V.int)) (q : Q (.bl (decide (z ∈ ns))) H) : rIn K false (.int z) (.ref p) H Q := ⟨p, _, rfl, .inl s, rfl, flat_ints, by rw [inV_int]; exact q⟩
theorem o_inT {p : Addr} {z : Int} {ns : List Int} (s : SqT K H p (ns.map V.int)) (q : Q (.bl (decide (z ∈ ns))) H) : rIn K false (.int z) (.ref p) H Q := ⟨p, _, rfl, .inr s, rfl, flat_ints, by rw [inV_int]; exact q⟩
theorem o_niL {p : Addr} {z : Int} {ns : List Int} (s : SqL K H p (ns.map V.int)) (q : Q (.bl (decide (z ∉ ns))) H) : rIn K true (.int z) (.ref p) H Q := ⟨p, _, rfl, .inl s, rfl, flat_ints, by
  have e : (!decide (z ∈ ns)) = decide (z ∉ ns) := by simp
  rw [inV_int]; show Q (.bl (!decide (z ∈ ns))) H; rw [e]; exact q⟩
theorem o_niT {p : Addr} {z : Int} {ns : List Int} (s : SqT K H p (ns.map V.int)) (q : Q (.bl (decide (z ∉ ns))) H) : rIn K true (.int z) (.ref p) H Q := ⟨p, _, rfl, .inr s, rfl, flat_ints, by
  have e : (!decide (z ∈ ns)) = decide (z ∉ ns) := by simp
  rw [inV_int]; show Q (.bl (!decide (z ∈ ns))) H; rw [e]; exact q⟩
def SortQ (ns : List Int) (H : Hp) (Q : VK) : Prop := ∀ (ns' : List Int) p H2, ns'.Perm ns → ns'.Pairwise (· ≤ ·) → H p = none → Same H H2 → H2 p = some (.lst (ns'.map V.int)) → Q (.ref p) H2
theorem c_sortI {p : Addr} {ns : List Int} (s : SqL K H p (ns.map V.int)) (q : SortQ ns H Q) : rSortedI K [.ref p] H Q := ⟨p, ns, rfl, s, fun ns' r h1 h2 n => q ns' r _ h1 h2 n (Same.new n) upd_same⟩
theorem s_while (h : tWhile tt t D σ H) : tWhile tt t D σ H := h
end
/-! ### what a reading asks is monotone (for the parts of a comprehension): by the shape -/
section
variable {ta tb te : TE} {c d : TT}
abbrev MoE (te : TE) : Prop := ∀ σ H (R R' : VK), (∀ v H1, R v H1 → R' v H1) → te σ H R → te σ H R'
abbrev MoT (c : TT) : Prop := ∀ σ H (R R' : Bool → Hp → Prop), (∀ b H1, R b H1 → R' b H1) → c σ H R → c σ H R'
abbrev MoA (t : TA) : Prop := ∀ σ H (R R' : List V → Hp → Prop), (∀ v H1, R v H1 → R' v H1) → t σ H R → t σ H R'
abbrev Mo2 (r : R2) : Prop := ∀ x y H (R R' : VK), (∀ v H1, R v H1 → R' v H1) → r x y H R → r x y H R'
abbrev MoC (r : List V → Hp → VK → Prop) : Prop := ∀ x H (R R' : VK), (∀ v H1, R v H1 → R' v H1) → r x H R → r x H R'
abbrev MoSp (r : Sp) : Prop := ∀ x H (R R' : VK) E, (∀ v H1, R v H1 → R' v H1) → r x H R E → r x H R' E
theorem m_yes : MoT tYes := fun _ H _ _ h q => h _ _ q
theorem m_var {i : Nat} : MoE (tVar i) := fun _ H _ _ h q => q.elim fun v q => ⟨v, q.1, h _ _ q.2⟩
theorem m_c {v : V} : MoE (tC v) := fun _ H _ _ h q => h _ _ q
theorem m_op {r : R2} (hr : Mo2 r) (ha : MoE ta) (hb : MoE tb) : MoE (tOp r ta tb) := fun σ H _ _ h q => ha σ H _ _ (fun x H1 => hb σ H1 _ _ fun y H2 => hr x y H2 _ _ h) q
theorem m_test (h : MoE te) : MoT (tTest te) := fun σ H _ _ k q => h σ H _ _ (fun x H1 ⟨b, e, z⟩ => ⟨b, e, k b H1 z⟩) q
theorem m_tB (h : MoE te) : MoT (tB te) := fun σ H _ _ k q => h σ H _ _ (fun x H1 ⟨b, e, z⟩ => ⟨b, e, k b H1 z⟩) q
theorem m_nil : MoA tNil := fun _ H _ _ h q => h _ _ q
theorem m_cons {tr : TA} (ha : MoE ta) (hr : MoA tr) : MoA (tCons ta tr) := fun σ H _ _ h q => ha σ H _ _ (fun x H1 => hr σ H1 _ _ fun xs H2 => h (x :: xs) H2) q
theorem m_cb {r : List V → Hp → VK → Prop} {tt : TA} (hr : MoC r) (ht : MoA tt) : MoE (tCB r tt) := fun σ H _ _ h q => ht σ H _ _ (fun x H1 => hr x H1 _ _ h) q
theorem m_call {sp : Sp} {dvs : List V} {E : XK} {tt : TA} (hr : MoSp sp) (ht : MoA tt) : MoE (tCall sp dvs E tt) := fun σ H _ _ h q => ht σ H _ _ (fun x H1 => hr _ H1 _ _ E h) q
theorem m_or {r r' : R2} (a : Mo2 r) (b : Mo2 r') : Mo2 (rOr r r') := fun x y H _ _ h q => q.elim (fun q => .inl (a x y H _ _ h q)) fun q => .inr (b x y H _ _ h q)
theorem m_I0 {f : Int → Int → V} : Mo2 (rI0 f) := fun x y H _ _ h ⟨i, j, e1, e2, q⟩ => ⟨i, j, e1, e2, h _ _ q⟩
theorem m_I {C : Int → Int → Prop} {f : Int → Int → V} : Mo2 (rI C f) := fun x y H _ _ h ⟨i, j, e1, e2, c, q⟩ => ⟨i, j, e1, e2, c, h _ _ q⟩
theorem m_ix {K : PySem.W.Frag} : Mo2 (rIxLT K) := fun x y H _ _ h q => q.elim (fun ⟨p, xs, i, v, e1, e2, s, e, q⟩ => .inl ⟨p, xs, i, v, e1, e2, s, e, h _ _ q⟩) fun ⟨p, xs, i, v, e1, e2, s, e, q⟩ => .inr ⟨p, xs, i, v, e1, e2, s, e, h _ _ q⟩
theorem m_in {K : PySem.W.Frag} {n : Bool} : Mo2 (rIn K n) := fun x y H _ _ h ⟨p, xs, e1, s, f1, f2, q⟩ => ⟨p, xs, e1, s, f1, f2, h _ _ q⟩
theorem m_cat : Mo2 rCat := fun x y H _ _ h ⟨l, b, xs, zs, e1, e2, h1, h2, h3, q⟩ => ⟨l, b, xs, zs, e1, e2, h1, h2, h3, fun p hp => h _ _ (q p hp)⟩
theorem m_sadd : Mo2 rSAdd' := fun x y H _ _ h ⟨i, j, e1, e2, h1, q⟩ => ⟨i, j, e1, e2, h1, h _ _ q⟩
theorem m_add : Mo2 (rOr rIAdd (rOr rCat rSAdd')) := m_or m_I0 (m_or m_cat m_sadd)
theorem m_and (h1 : MoT c) (h2 : MoT d) : MoT (tAnd c d) := fun σ H _ _ k q => h1 σ H _ _ (fun b H1 z => by cases b with
  | true => rw [if_pos rfl] at z ⊢; exact h2 σ H1 _ _ k z
  | false => rw [if_neg Bool.false_ne_true] at z ⊢; exact k _ _ z) q
theorem m_int1 : MoC rInt1 := fun x H _ _ h q => q.elim (fun ⟨i, e, q⟩ => .inl ⟨i, e, h _ _ q⟩) fun ⟨i, e, q⟩ => .inr ⟨i, e, h _ _ q⟩
theorem m_abs : MoC rAbs := fun x H _ _ h ⟨i, e, q⟩ => ⟨i, e, h _ _ q⟩
end
end Vw

set_option Elab.async false
set_option linter.all false
set_option maxRecDepth 100000
set_option maxHeartbeats 4000000
namespace Vw
open PySem PySem.Spec PyProof.Rows L2
/-- a set as it is made -/
abbrev so0 (w : World) : Obj := { cls := .type "set", dict := none, data := .set #[] 0 (.fresh 0 0 (!w.params.followText "set-order")) }
abbrev li0 (l : Addr) : Obj := { cls := .type "list_iterator", data := .fields #[.ref l, .int 0 0] }
section
variable {P : Program} {w : World} {A : Around} {E : Value → Shared → Prop} {s : Shared}
/-- what the filling of a new set by a list of ints leaves -/
def Filled (w : World) (s : Shared) (ns : List Int) (s2 : Shared) : Prop := ∃ h' tk c, s2 = { s with heap := h', toks := tk } ∧ SetR w h' s.heap.objs.size (fun j => decide (j ∈ ns)) c ∧ c ≤ ns.length ∧ ∀ b o, s.heap.get? b = some o → h'.get? b = some o
abbrev fillQ (P : Program) (w : World) (A0 : Around) (E : Value → Shared → Prop) (s : Shared) (ns : List Int) : Result → Shared → Prop := wants (fun r s2 => r = Value.none ∧ Filled w s ns s2) E
theorem fill_list {A0 : Around} {l : Addr} {items : Array Value} (ns : List Int) (hh : A.handled = none) (hl : s.heap.IsList l items) (hit : IntsAre items.toList ns) (hb : ns.length + 1 < scanBound) :
    wpAny (model P w) A (Builtin.«set.__init__» ⟨[.ref s.heap.objs.size, .ref l], []⟩) (fun fin s' => match fin with | .done f => fillQ P w A0 E s ns (.ok f) s' | .again c' => c'.quiet = true ∧ codeAny (model P w) A0 c' (fillQ P w A0 E s ns) s') (fun e s' => fillQ P w A0 E s ns (.error e) s') { s with heap := s.heap.push (so0 w) } := by
  have hz : items.size = ns.length := by have q := IntsAre.length hit; rw [Array.length_toList] at q; exact q
  have hS : (s.heap.push (so0 w)).get? s.heap.objs.size = some (so0 w) := Heap.get?_push_size _ rfl
  obtain ⟨ol, hol, hcl, nl, hdl⟩ := hl
  obtain ⟨ocls, odict, odata, oslots⟩ := ol
  simp only at hcl hdl
  subst hcl hdl
  have hol' : (s.heap.push (so0 w)).get? l = some { cls := .type "list", dict := odict, data := .seq items nl, slots := oslots } := Heap.get?_push_of_some _ hol
  have ha := F.sub_list_set; have hf := F.sub_list_frozenset
  have hd : (Value.type "list" == Value.type "dict") = false := by decide
  have hl1 : (s.heap.push (so0 w)).IsList l items := ⟨_, hol', rfl, nl, rfl⟩
  unfold Builtin.«set.__init__» noKeywords Builtin.Frozenset.updateFrom
  generalize hPI : pyIter = PI
  wp_walk
  subst hPI
  refine wpAny_pyIter_list hl1 ?_
  refine (wpAny_bind (wpAny_runValue ?_))
  have hls : l < s.heap.objs.size := Heap.lt_size hol
  have hi0 : A.in1.in1.handled = none := by simp [hh]
  have hsz : (s.heap.push (so0 w)).objs.size = s.heap.objs.size + 1 := Heap.size_push ..
  have hI : l ≠ (s.heap.push (so0 w)).objs.size := by rw [hsz]; exact Nat.ne_of_lt (Nat.lt_succ_of_lt hls)
  have hSf : s.heap.objs.size ∉ [(s.heap.push (so0 w)).objs.size, l] := by
    rw [hsz]; simp only [List.mem_cons, List.not_mem_nil, or_false, not_or]
    exact ⟨Nat.ne_of_lt (Nat.lt_succ_self _), Nat.ne_of_gt hls⟩
  have hval : ∀ (i : Nat) (v : Value), items[i]? = some v → ∃ k t, ns[i]? = some k ∧ v = .int k t := fun i v hv => by
    have hi : i < ns.length := by rw [← hz]; exact (Array.getElem?_eq_some_iff.mp hv).1
    obtain ⟨t, e⟩ := PyProof.Rows.IntsAre.int_at hit i v (by rw [Array.getElem?_toList]; exact hv)
    exact ⟨ns[i], t, List.getElem?_eq_getElem hi, by rw [e, List.getD_eq_getElem?_getD, List.getElem?_eq_getElem hi] <;> rfl⟩
  refine set_update_ints ((Walks.list (by simp [hh]) _ l hI items).toS) s.heap.objs.size hSf ns hz hb hval (items.size - 0) 0 _ (by omega) (Nat.zero_le _) ⟨⟨_, Heap.get?_push_size _ rfl, rfl, rfl⟩, (hl1.push _)⟩ ?h0 ?h1
  case h0 =>
    have hg : ((s.heap.push (so0 w)).push (li0 l)).get? s.heap.objs.size = some (so0 w) := Heap.get?_push_of_some _ hS
    exact ⟨0, Nat.le_refl 0, setR_new_at hg⟩
  case h1 =>
    intro s' c' hm hc' hS'
    obtain ⟨h', g2, d', tk', os'⟩ := s'
    have eg : g2 = s.gens := hm.gens
    have ed : d' = s.drawn := hm.drawn
    have eo : os' = s.os := hm.os
    subst eg ed eo
    show wpAny _ _ _ _ _ _
    refine wpAny_pure ?_
    show wpAny _ _ (ret Value.none) _ _ _
    refine wpAny_pure ⟨rfl, h', tk', c', rfl, hS', by omega, fun b o e => ?_⟩
    have hb0 : b < s.heap.objs.size := Heap.lt_size e
    refine hm.heap b o ?_ (Heap.get?_push_of_some _ (Heap.get?_push_of_some _ e))
    simp only [List.mem_cons, List.not_mem_nil, or_false, not_or]
    exact ⟨Nat.ne_of_lt hb0, by rw [hsz]; exact Nat.ne_of_lt (Nat.lt_succ_of_lt hb0)⟩
theorem set_of_list {l : Addr} {items : Array Value} (ns : List Int) {Q : Value → Shared → Prop} (hh : A.handled = none) (hl : s.heap.IsList l items) (hit : IntsAre items.toList ns) (hb : ns.length + 1 < scanBound)
    (h : ∀ s2, Filled w s ns s2 → Q (.ref s.heap.objs.size) s2) : wpAny (model P w) A (call (.type "set") [.ref l]) Q E s := by
  obtain ⟨c, tl, hmro⟩ := F.called_set.mro
  have hmade := F.called_set.made; have hsub := F.called_set.sub
  refine wpAny_call (codeAny_of_tree (show wpAny _ _ (callAny (.type "set") _) _ _ _ from wpAny_pure ⟨Code.quiet_builtin _ (by decide +kernel), codeAny_builtin F.entry_type_call ?_⟩))
  rw [Around.under_plain (weight_type_call_type "set" [.ref l] []) rfl]
  have h1 := F.called_set.notType; have h2 := F.called_set.canCreate; have h3 := F.typeCall_set_1 (.ref l)
  repeat (any_goals (first | assumption | wp_step))
  refine codeAny_mono (code_set_led1 (.ref l) (E := E) (Q₁ := fun obj s₁ => obj = .ref s.heap.objs.size ∧ s₁ = { s with heap := s.heap.push (so0 w) }) ⟨rfl, rfl⟩) fun r s₁ hr => ?_
  rcases r with e | fl
  · exact hr
  cases fl with
  | ret obj =>
    obtain ⟨rfl, rfl⟩ := hr
    have hS : (s.heap.push (so0 w)).get? s.heap.objs.size = some (so0 w) := Heap.get?_push_size _ rfl
    have hT : Shared.TypeIs { s with heap := s.heap.push (so0 w) } (.ref s.heap.objs.size) "set" := ⟨_, hS, rfl⟩
    have hi1 := F.called_set.init.lookup; have hi2 := F.called_set.init.bind (.ref s.heap.objs.size)
    repeat (any_goals (first | assumption | wp_step))
    refine codeAny_mono (codeAny_call_builtin (R := wants (fun r s2 => r = Value.none ∧ Filled w s ns s2) E) F.called_set.init.plain F.entry_set_init (check_set_init_1 hT (fill_list ns (by first | exact hh | simp [hh]) hl hit hb))) fun r₂ s₂ hr₂ => ?_
    rcases r₂ with e | fl₂
    · exact hr₂
    cases fl₂ with
    | ret r =>
      obtain ⟨rfl, hF⟩ := hr₂
      have hF' := hF
      obtain ⟨h', tk, c, rfl, _⟩ := hF'
      repeat (any_goals (first | assumption | wp_step))
      exact h _ hF
    | _ => exact hr₂.elim
  | _ => exact hr.elim
end
/-- set(xs) of a list of ints -/
def rSetL1 (K : PySem.W.Frag) (w : World) : List V → Hp → VK → Prop := fun xs H Q => ∃ (a : Addr) (ns : List Int), xs = [.ref a] ∧ SqL K H a (ns.map V.int) ∧ ns.length < 4000 ∧
  ∀ (p : Addr) (c : Nat), c ≤ ns.length → H p = none → Q (.ref p) (upd H p (SetO w p (fun j => decide (j ∈ ns)) c))
theorem cSetL {X : Cx} {K : PySem.W.Frag} {w : World} (hc : X.calm = true) (e : X.K = K := by rfl) (ew : X.w = w := by rfl) : CallR X (.type "set") (rSetL1 K w) := by
  cases e; cases ew
  intro pins s σ H xs us Q I r h
  obtain ⟨a, ns, rfl, hq, hl, q⟩ := h
  rw [Vals.ref1 r]
  obtain ⟨its, rv, p, hz⟩ := I.list hq
  refine set_of_list ns (I.ok.hd hc) p.isList (ints_of_vals rv) (by unfold scanBound; omega) fun s2 hF => ?_
  obtain ⟨h', tk, c, rfl, R, hcn, kp⟩ := hF
  exact ⟨.ref _, upd H s.heap.objs.size (SetO X.w s.heap.objs.size (fun j => decide (j ∈ ns)) c), I.laid (t' := tk) kp (Nat.le_refl _) (setO_new R), rfl, q _ c hcn (I.hok.fresh (Nat.le_refl _))⟩
def rSortSet (w : World) : List V → Hp → VK → Prop := fun vs H Q => ∃ (a : Addr) (S : Int → Bool) (n : Nat), vs = [V.ref a] ∧ H a = some (SetO w a S n) ∧ n < 64 ∧
  ∀ (ns : List Int) (p : Addr), ns.Pairwise (· < ·) → (∀ k : Int, k ∈ ns ↔ S k = true) → ns.length = n → H p = none → Q (.ref p) (upd H p (.lst (ns.map V.int)))
theorem cSortSet {X : Cx} {w : World} (hc : X.calm = true) (ew : X.w = w := by rfl) : CallR X (.builtin "sorted") (rSortSet w) := by cases ew; exact cr_sortedSet hc
theorem c_setL {K : PySem.W.Frag} {w : World} {H : Hp} {Q : VK} {a : Addr} {ns : List Int} (s : SqL K H a (ns.map V.int)) (hl : ns.length < 4000) (q : ∀ p c H2, c ≤ ns.length → H p = none → Same H H2 → H2 p = some (SetO w p (fun j => decide (j ∈ ns)) c) → Q (.ref p) H2) : rSetL1 K w [.ref a] H Q :=
  ⟨a, ns, rfl, s, hl, fun p c hc hp => q p c _ hc hp (Same.new hp) upd_same⟩
theorem c_sortS {w : World} {H : Hp} {Q : VK} {a : Addr} {S : Int → Bool} {n : Nat} (h : H a = some (SetO w a S n)) (hn : n < 64) (q : ∀ (ns : List Int) p H2, ns.Pairwise (· < ·) → (∀ k : Int, k ∈ ns ↔ S k = true) → ns.length = n → H p = none → Same H H2 → H2 p = some (.lst (ns.map V.int)) → Q (.ref p) H2) : rSortSet w [.ref a] H Q :=
  ⟨a, S, n, rfl, h, hn, fun ns p h1 h2 h3 hp => q ns p _ h1 h2 h3 hp (Same.new hp) upd_same⟩
end Vw

set_option Elab.async false
set_option linter.all false
set_option maxRecDepth 100000
set_option maxHeartbeats 4000000
namespace Vw
open PySem PySem.Spec PyProof.Rows L2
/-! ### a name gets a dict comprehension -/
section
variable {X : Cx}
abbrev BlkAll (X : Cx) (scope : Scope) (F : Cx → Prop) : Prop := ∀ (s : Shared) (H : Hp) (C : Addr) (cl : List (Str × Addr)) (fp : List Addr), F (X.blk s H scope (compEnvC scope cl C X.env) fp)
theorem swD_true {kx vx : Expr} {gs : List Comprehension} {scope : Scope} {pos py : Pos} {y : Str} {l : Nat} {env : Env} (h1 : env.scope.kind = .function) (h2 : env.scope.names.lookup y = some .local) (h3 : (py.line == pos.line) = true)
    (h4 : (scope.names.any fun (n, k) => n == y && (k == .local || k == .cell)) = false) : swapsWith (.DictComp kx vx gs scope pos) (some (.Name y py)) l env = pure true := by
  have e1 : env.kindOf y = some .local := h2
  have e2 : env.blockKind = .function := by unfold Env.blockKind; rw [h1]; rfl
  unfold swapsWith
  simp only [e2, e1, h4, Expr.pos, h3]; rfl
theorem ps_setDc {i : Nat} {y : Str} {py : Pos} {kx vx tg iter : Expr} {ifs : List Expr} {scope : Scope} {own : List (Str × Nat)} {pos spos : Pos} {wi : TI} {g : TG} {tt : TT} {tk tv : TE} (hc : X.calm = true) (hN : X.N.Nodup) (hy : X.N[i]? = some y) (hyl : X.env.scope.names.lookup y = some .local)
    (hsw : swapsWith (.DictComp kx vx [⟨tg, iter, ifs, 0⟩] scope pos) (some (.Name y py)) spos.line X.env = pure true) (hi : PI X tg iter wi) (ok : BlkOk X.N X.env.scope scope own) (hg : BlkAll X scope fun Y => PG Y tg g) (ht : BlkAll X scope fun Y => PTs Y ifs tt)
    (hk : BlkAll X scope fun Y => PE Y kx tk) (he : BlkAll X scope fun Y => PE Y vx tv) (hs : ∀ x, foldedSetIterable iter X.env x = pure x := by intro _; rfl) : PS X (.Assign [.Name y py] (.DictComp kx vx [⟨tg, iter, ifs, 0⟩] scope pos) spos) (tAsg (tDc wi g tt tk tv (own.map (·.2))) (gName i)) := by
  refine ⟨fun pins s σ H D I h => ?_⟩
  rw [exec_Assign_Name_used _ _ _ _ hsw]
  refine wpAny_bind (wpAny_standAt (wpAny_bind ?_))
  show wpAny _ X.A (do let _ ← comprehension (.DictComp kx vx [⟨tg, iter, ifs, 0⟩] scope pos) scope X.env (firstIterPos [⟨tg, iter, ifs, 0⟩] pos) newDict false (eval iter X.env) (some (assign (.Name y py) X.env))) _ _ s
  have h2 : tDc wi g tt tk tv (own.map (·.2)) σ H (fun x H1 => gName i x σ H1 D.nx) := h
  refine wpAny_bind (thn (dc_core (Qf := fun _ s' => SP X pins D .next s') hc hN I hi ok hg ht hk he hs h2 fun L C s' m H' I' q hn f => ?_) fun _ s' hq => wpAny_pure (wpAny_pure hq))
  show wpAny _ _ (assign (.Name y py) X.env (.ref L)) _ _ _
  refine wpAny_assign_Name (store_ok2 (v := V.ref L) I' hN hy (.inl hyl) rfl (fun s2 I2 ⟨a, sb, ha⟩ => ?_) (.inr hyl))
  obtain ⟨f0, f1, f2, f3, f4, f5⟩ := f
  have hne : C ≠ a := ha.elim (fun z => z ▸ f1) fun z e => f4 y a z e.symm
  exact ⟨m, hn.sameBut sb hne, fun h3 sb3 => ⟨_, H', I2.turned (t' := s2.toks) (fun b o hb e => (sb3.2 b hb).trans e) f0 f1 f3 f4 f5, q⟩⟩
end
end Vw

set_option Elab.async false
set_option linter.all false
set_option maxRecDepth 100000
set_option maxHeartbeats 4000000
namespace Vw
open PySem PySem.Spec PyProof.Rows L2 HT
/-! ### t[::-1] of a tuple -/
section
variable {prog : Program} {w : World} {A : Around} {E : Value → Shared → Prop} {s : Shared}
theorem backAdjust (n : Nat) : Builtin.Slice.sliceAdjust none none (-1) (n : Int) = ((n : Int) - 1, -1) := by
  unfold Builtin.Slice.sliceAdjust
  rfl
theorem backPlaces (n : Nat) : Builtin.Slice.slicePlaces ((n : Int) - 1) (-1) (-1) = n := by
  unfold Builtin.Slice.slicePlaces
  have h1 : ¬ ((-1 : Int) > 0) := by decide
  simp only [h1, if_false]
  have e : ((n : Int) - 1 - -1 - 1) / (- -1) = (n : Int) - 1 := by
    rw [show (- -1 : Int) = 1 by decide, Int.ediv_one]
    omega
  split
  · rw [e]; omega
  · omega
theorem sliceApplied_back {sl : Addr} {vs : Value} {n : Nat} {Q : Int × Int × Nat → Shared → Prop} (hs : s.heap.IsSliceOf sl .none .none vs) (ps : IsPart vs (some (-1)))
    (h : Q (((n : Int) - 1), -1, n) s) : wpAny (model prog w) A (Builtin.Slice.sliceApplied (.ref sl) (pure (n : Int))) Q E s := by
  obtain ⟨os, hos, hcs, hds⟩ := id hs
  unfold Builtin.Slice.sliceApplied Builtin.Slice.sliceFields
  refine wpAny_bind (wpAny_bind (wpAny_field hos hds (x := .none) rfl (wpAny_bind (wpAny_field hos hds (x := .none) rfl (wpAny_bind (wpAny_field hos hds (x := vs) rfl (wpAny_pure ?_)))))))
  refine wpAny_bind (slicePart_ ps ?_)
  show wpAny _ _ (if ((-1 : Int) == 0) = true then _ else _) _ _ s
  rw [if_neg (by decide)]
  refine wpAny_bind (slicePart_none (wpAny_bind (slicePart_none (wpAny_bind (wpAny_pure ?_)))))
  show wpAny _ _ (match Builtin.Slice.sliceAdjust none none (-1) (n : Int) with | (lo, hi) => pure (lo, (-1 : Int), Builtin.Slice.slicePlaces lo hi (-1))) _ _ s
  rw [backAdjust n]
  show wpAny _ _ (pure (((n : Int) - 1), (-1 : Int), Builtin.Slice.slicePlaces ((n : Int) - 1) (-1) (-1))) _ _ s
  rw [backPlaces]
  exact wpAny_pure h
theorem pick_back (xs : Array Value) : ((List.range xs.size).filterMap fun (m : Nat) => xs[((xs.size : Int) - 1 + (m : Int) * (-1)).toNat]?).toArray = xs.toList.reverse.toArray := by
  have e : (List.range xs.size).filterMap (fun (m : Nat) => xs[((xs.size : Int) - 1 + (m : Int) * (-1)).toNat]?) = ((List.range xs.size).map fun k => xs.size - 1 - k).filterMap (xs[·]?) := by
    have e2 : (List.range xs.size).map (fun k => xs.size - 1 - k) = (List.range xs.size).map fun (m : Nat) => ((xs.size : Int) - 1 + (m : Int) * (-1)).toNat := by
      apply List.map_congr_left
      intro m hm
      have := List.mem_range.mp hm
      omega
    rw [e2, List.filterMap_map]
    rfl
  rw [e, PySem.W.krv_range, List.filterMap_reverse, PySem.W.krv_all]
theorem getItem_tuple_back {t sl : Addr} {items : Array Value} {vs : Value} {Q : Value → Shared → Prop} (ht : IsTup s.heap t items) (hs : s.heap.IsSliceOf sl .none .none vs) (ps : IsPart vs (some (-1)))
    (h : Q (.ref s.heap.objs.size) { s with heap := s.heap.push { cls := .type "tuple", data := .seq items.toList.reverse.toArray } })
    (hsz : items.size ≤ sizeLine) : wpAny (model prog w) A (getItem (.ref t) (.ref sl)) Q E s := by
  have htake : sizeOk (.seq items.toList.reverse.toArray) := by
    show items.toList.reverse.toArray.size ≤ sizeLine
    rw [List.size_toArray, List.length_reverse, Array.length_toList]
    exact hsz
  obtain ⟨os, hos, hcs, hds⟩ := id hs
  have hTs : s.TypeIs (.ref sl) "slice" := ⟨os, hos, hcs⟩
  unfold getItem
  try with_reducible refine wpAny_holding ?_
  first | refine wpAny_bind (wpAny_pure ?_) | skip
  refine wpAny_bind (wpAny_sequenceKey ht.typeIs (by decide) ?_)
  refine wpAny_bind (wpAny_callSpecial?_slot (name := Str.ofString "__getitem__") ht.typeIs PyProof.Rows.slot_tuple_getitem
    (wpAny_call_entry PyProof.Rows.slot_tuple_getitem ht.typeIs entry_tuple_getitem ?_ (args_tuple_getitem _ _)))
  show wpAny _ _ (Builtin.Tuple.tupleItemsOf (.ref t) >>= _) _ _ s
  refine wpAny_bind (tupleItemsOf_ ht ?_)
  refine wpAny_bind (wpAny_typeOf hTs ?_)
  rw [if_pos (by decide)]
  refine wpAny_bind (sliceApplied_back hs ps ?_)
  have hno : ¬ ((((items.size : Int) - 1) == 0 && (-1 : Int) == 1 && items.size == items.size) = true) := by
    intro q
    rw [Bool.and_eq_true, Bool.and_eq_true] at q
    exact absurd q.1.2 (by decide)
  show wpAny _ _ (if (((items.size : Int) - 1) == 0 && (-1 : Int) == 1 && items.size == items.size) = true then _ else _) _ _ s
  rw [if_neg hno, pick_back]
  first
    | exact wpAny_bind (m := Builtin.Tuple.tupleExact _) (wpAny_newObj_type (wpAny_pure ⟨_, rfl, wpAny_pure h⟩) htake)
    | exact wpAny_bind (m := Builtin.Tuple.tupleExact _) (wpAny_newObj_type (wpAny_bind (wpAny_pure (wpAny_pure ⟨_, rfl, wpAny_pure h⟩))) htake)
    | exact wpAny_bind (wpAny_bind (m := Builtin.Tuple.tupleExact _) (wpAny_newObj_type (wpAny_pure (wpAny_pure ⟨_, rfl, wpAny_pure h⟩)) htake))
    | exact wpAny_bind (wpAny_bind (m := Builtin.Tuple.tupleExact _) (wpAny_newObj_type (wpAny_pure ⟨_, rfl, wpAny_pure h⟩) htake))
end
section
variable {X : Cx}
def tRevT (K : PySem.W.Frag) (te : TE) : TE := fun σ H Q => te σ H fun x H1 => ∃ a xs, x = .ref a ∧ SqT K H1 a xs ∧ ∀ p, H1 p = none → Q (.ref p) (upd H1 p (.tup xs.reverse))
theorem pe_revT {K : PySem.W.Frag} {e : Expr} {te : TE} {k : Nat} {p1 p2 p3 pos : Pos} (he : PE X e te) (eK : X.K = K := by rfl) : PE X (.Subscript e (.Slice none none (some (.UnaryOp .USub (.Constant (.int 1) k p1) p2)) p3) pos) (tRevT K te) := by
  cases eK
  refine ⟨fun pins s σ H Q I h => ?_⟩
  refine Subscript_ (thn (he.run pins s σ H _ I h) fun v s1 ⟨x, H1, I1, r1, q1⟩ => ?_)
  obtain ⟨a, xs, ex, hx, q⟩ := q1
  subst ex
  cases r1
  have hst : PO X (some (.UnaryOp .USub (.Constant (.int 1) k p1) p2)) (tPart (tUn (rU fun i => .int (-i)) (tC (.int 1)))) := po_some (pe_un un_neg pe_int)
  refine wpAny_Slice (thn (po_none.run pins s1 σ H1 (fun o H2 => o = none ∧ H2 = H1) I1 ⟨rfl, rfl⟩) fun vl s2 ⟨l, H2, I2, pl, el, e2⟩ => ?_)
  subst el e2
  cases pl
  refine thn (po_none.run pins s2 σ H2 (fun o H3 => o = none ∧ H3 = H2) I2 ⟨rfl, rfl⟩) fun vu s3 ⟨u, H3, I3, pu, eu, e3⟩ => ?_
  subst eu e3
  cases pu
  refine thn (hst.run pins s3 σ H3 (fun o H4 => o = some (-1) ∧ H4 = H3) I3 ⟨1, rfl, -1, rfl, rfl, rfl⟩) fun vs s4 ⟨o, H4, I4, ps, eo, e4⟩ => ?_
  subst eo e4
  have I5 : Inv X pins σ H4 { s4 with heap := s4.heap.push { cls := .type "slice", data := .fields #[.none, .none, vs] } } := I4.kept (t' := s4.toks) fun b ob q => Heap.get?_push_of_some _ q
  obtain ⟨its, r, ht, hz⟩ := I5.tuple hx
  have hlen := r.length
  show wpAny (model X.prog X.w) X.A (subscriptTail e (.Slice none none (some (.UnaryOp .USub (.Constant (.int 1) k p1) p2)) p3) (.ref a) (.ref s4.heap.objs.size)) (EP X pins σ Q) X.xe { s4 with heap := s4.heap.push { cls := .type "slice", data := .fields #[.none, .none, vs] } }
  refine tail_any (ops := [.ref a, .ref s4.heap.objs.size]) ht.typeIs (PyProof.Rows.slot_tuple_getitem.lookup) ?_ (by with_unfolding_all rfl)
  refine getItem_tuple_back ht (Heap.IsSliceOf.new _ .none .none vs) ps ?_ (by rw [List.size_toArray]; omega)
  refine ⟨.ref _, _, I5.laid (t' := s4.toks) (o := .tup xs.reverse) (fun b ob q => Heap.get?_push_of_some _ q) (Nat.le_refl _) ?_, rfl, q _ (I5.hok.fresh (Nat.le_refl _))⟩
  exact ⟨by rw [List.length_reverse]; exact hz, _, r.reverse, IsTup.new _ _⟩
end
end Vw

set_option Elab.async false
set_option linter.all false
set_option maxRecDepth 100000
set_option maxHeartbeats 4000000
namespace Vw
open PySem PySem.Spec PyProof.Rows L2 RT
/-! ### more rules under one name -/
section
variable {X : Cx} {K : PySem.W.Frag}
theorem oAddT (e : X.K = K := by rfl) : OpR X (binaryOp .Add) (rOr rIAdd (rOr rCat (rCatA K))) := by cases e; exact oOr op_add (oOr op_cat op_catA)
theorem slA (e : X.K = K := by rfl) : SlR X (rSlA K) := by cases e; exact sl_tupA
def rLenD : List V → Hp → VK → Prop := fun xs H Q => ∃ a kvs, xs = [V.ref a] ∧ H a = some (.dK kvs) ∧ Q (.int kvs.length) H
theorem cLenD : CallR X (.builtin "len") rLenD := call_lenD
theorem piZip {e e2 : Expr} {ta : TA} {p pos tpos : Pos} {elts : List Expr} {kk : Nat} (hg : Gl X "zip") (hm : X.mg "zip" = none) (ha : PA X [e, e2] ta) (eK : X.K = K := by rfl)
    (hs : starEach [e, e2] X.env = (false, eval e X.env) :: starEach [e2] X.env := by rfl) (hb : ((backTo pos (starEach [e2] X.env)).any fun x => x.fst) = false := by rfl) :
    PI X (.Tuple elts kk tpos) (.Call (.Name "zip" p) [e, e2] [] pos) (iZip K ta) := by cases eK; exact pi_zip hg hm ha hs hb
/-- over a list or a tuple -/
def iOr (w1 w2 : TI) : TI := fun σ H R => w1 σ H R ∨ w2 σ H R
theorem piOr {tg l : Expr} {w1 w2 : TI} (h1 : PI X tg l w1) (h2 : PI X tg l w2) : PI X tg l (iOr w1 w2) := ⟨fun pins s σ H R I h => h.elim (h1.run pins s σ H R I) (h2.run pins s σ H R I)⟩
theorem piX {tg l : Expr} {tl : TE} (hl : PE X l tl) (e : X.K = K := by rfl) : PI X tg l (iOr (iList K tl) (iTup K tl)) := piOr (piL (K := K) hl e) (piT (K := K) hl e)
end
section
variable {K : PySem.W.Frag} {σ : L2.St} {H H1 : Hp} {Q : VK} {R : It → Hp → Prop} {i : Nat} {a : Addr} {xs : List V}
theorem i_orX {H0 : Hp} (hv : σ[i]? = some (some (.ref a))) (s : SqX K H0 a xs) (ss : Same H0 H) (h : ∀ J G, (∀ H', Same H0 H' → G H') → Walk J xs.length G (fun i H x H' => H' = H ∧ xs[i]? = some x) → R J H) : iOr (iList K (tVar i)) (iTup K (tVar i)) σ H R :=
  s.elim (fun s => .inl ⟨.ref a, hv, a, rfl, ⟨xs, sl_ ss s⟩, h _ _ (fun H' q => sl_ q s) walk_list⟩) fun s => .inr ⟨.ref a, hv, a, rfl, ⟨xs, st_ ss s⟩, h _ _ (fun H' q => st_ q s) walk_tup⟩
def ZpQ (K : PySem.W.Frag) (R : It → Hp → Prop) (vs : List V) (H1 : Hp) : Prop := ∃ a b xs ys, vs = [V.ref a, V.ref b] ∧ SqL K H1 a xs ∧ SqL K H1 b ys ∧ R (Itz K a b) H1
theorem i_zip0 {ta : TA} (h : ta σ H fun vs H1 => ZpQ K R vs H1) : iZip K ta σ H R := h
theorem i_zip {b : Addr} {ys : List V} (h1 : SqL K H a xs) (h2 : SqL K H b ys) (q : R (Itz K a b) H) : ZpQ K R [.ref a, .ref b] H := ⟨a, b, xs, ys, rfl, h1, h2, q⟩
theorem e_lenD {kvs : List (Key × V)} (h : H a = some (.dK kvs)) (q : Q (.int (kvs.length : Nat)) H) : rLenD [.ref a] H Q := ⟨a, kvs, rfl, h, q⟩
theorem o_catA {r r' : R2} {b : Addr} {ys : List V} (h1 : SqT K H a xs) (h2 : SqT K H b ys) (hl : xs.length + ys.length ≤ 100000) (q : ∀ p H2, Same H H2 → SqT K H2 p (xs ++ ys) → Q (.ref p) H2) : rOr r (rOr r' (rCatA K)) (.ref a) (.ref b) H Q := by
  refine .inr (.inr ⟨a, b, xs, ys, rfl, rfl, h1, h2, Nat.le_trans hl (by decide), fun e => ?_, fun _ e => ?_, fun _ _ p n => ?_⟩)
  · subst e; exact q b H (Same.refl _) h2
  · subst e; exact q a H (Same.refl _) (by rw [List.append_nil]; exact h1)
  · exact q p _ (Same.new n) (stO upd_same)
theorem r_slA {lo hi : Option Int} (h1 : SqT K H a xs) (q : ∀ p H2 ys, Same H H2 → SqT K H2 p ys → ys.length ≤ xs.length → (∀ y ∈ ys, y ∈ xs) → Q (.ref p) H2) : rSlA K (.ref a) lo hi H Q := by
  refine ⟨a, xs, rfl, h1, fun _ => q a H xs (Same.refl _) h1 (Nat.le_refl _) fun _ h => h, fun _ p n => q p _ _ (Same.new n) (stO upd_same) ?_ ?_⟩
  · exact cutV_length xs lo hi
  · have key : ∀ a b : Nat, ∀ y ∈ (xs.drop a).take b, y ∈ xs := fun a b y hy => List.mem_of_mem_drop (List.mem_of_mem_take hy)
    exact key _ _
theorem e_revT {te : TE} (h : te σ H fun x H1 => ∃ a xs, x = .ref a ∧ SqT K H1 a xs ∧ NewQ (.tup xs.reverse) H1 Q) : tRevT K te σ H Q := h
theorem r_revT {Q : VK} (s : SqT K H a xs) (q : NewQ (.tup xs.reverse) H Q) : ∃ a' xs, V.ref a = .ref a' ∧ SqT K H a' xs ∧ NewQ (.tup xs.reverse) H Q := ⟨a, xs, rfl, s, q⟩
theorem isB_bl {x y : Bool} (q : Q (.bl (decide (x = y))) H) : rIsB (.bl x) (.bl y) H Q := ⟨x, y, rfl, rfl, q⟩
theorem notB_bl {x y : Bool} (q : Q (.bl (!decide (x = y))) H) : rNotB (.bl x) (.bl y) H Q := ⟨x, y, rfl, rfl, q⟩
theorem o_neB {r' : R2} {x y : Bool} (q : Q (.bl (!decide (x = y))) H) : rOr rNe r' (.bl x) (.bl y) H Q := .inl ⟨rfl, by
  have e : (!decide (V.bl x = V.bl y)) = !decide (x = y) := by
    cases x <;> cases y <;> rfl
  rw [e]; exact q⟩
theorem isi_dk {kvs : List (Key × V)} {n : String} (b : Bool) (h : H a = some (.dK kvs)) (e : kitB "dict" n = some b) (q : Q (.bl b) H) : rIsi K [.ref a, .ty n] H Q := isi_ (.base (.dK h)) e q
theorem e_dnew (q : ∀ p H2, H p = none → Same H H2 → H2 p = some (.dK []) → Q (.ref p) H2) : tDNewK σ H Q := fun p n => q p _ n (Same.new n) upd_same
theorem e_disp1 {i j : Int} (q : ∀ p H2, H p = none → Same H H2 → H2 p = some (.dK [(Sum.inl i, .int j)]) → Q (.ref p) H2) : tDisp [(tC (.int i), tC (.int j))] σ H Q := fun p n =>
  ⟨upd_same, [(Sum.inl i, .int j)], rfl, by show 1 ≤ 15; decide, q p _ n (upd_free (Same.new n) n) upd_same⟩
theorem i_nrr {r : Bool} {A B : Prop} (q : B) : if (!decide (r = r)) = true then A else B := by
  rw [show (!decide (r = r)) = false by simp]
  exact iteF q
end
end Vw

set_option Elab.async false
set_option linter.all false
set_option maxRecDepth 100000
set_option maxHeartbeats 4000000
namespace Vw
open PySem PySem.Spec PyProof.Rows L2 RT
/-! ### own classes and their methods -/
structure ClsAt (K : PySem.W.Frag) (mg : Str → Option Value) (x : Str) (C : Addr) : Prop where
  cl : Cls K C
  mks : PySem.W.makesIn K C = true
  kc : PySem.W.keepIn K (.ref C) = true
  g : mg x = some (.ref C)
theorem clsAt_mk {K : PySem.W.Frag} {mg : Str → Option Value} {h : Heap} {x : Str} {C : Addr} (X : K.In h) (G : h.Ns mainGlobals mg) (a : PySem.W.nsIn K mainGlobals x = some (some (.ref C)))
    (pg : PySem.W.plainGet K C Str.empty = true) (hd : PySem.W.hasDictIn K C = true) (po : PySem.W.plainOver K C = true) (sa : PySem.W.findIn K (.ref C) "__setattr__" = some (some (.builtin "object.__setattr__")))
    (mk : PySem.W.makesIn K C = true) (kc : PySem.W.keepIn K (.ref C) = true) : ClsAt K mg x C := ⟨⟨pg, hd, po, sa⟩, mk, kc, PySem.W.mg_of X G a⟩
structure MethAt (K : PySem.W.Frag) (C : Addr) (m qual : Str) (st : Stmt) (ps : List Str) where
  f : Addr
  fd : FuncData
  F : Fun K m qual st f fd
  b : Binds K fd ps []
  i : Meth K C m f
def methAt_mk {K : PySem.W.Frag} {C : Addr} {m qual : Str} {st : Stmt} {ps : List Str} {f : Addr} {od an : Option Addr} {sl : Array (Option Value)} {oc kV dc pm cd ct : Value}
    (a : PySem.W.findIn K (.ref C) m = some (some (.ref f))) (i : PySem.W.isFn K (.ref f) = true) (l : K.lookup f = some ⟨oc, od, .func (PySem.W.fnOf m qual (defArgs st) (defBody st) (defScope st) .none kV dc pm an cd ct), sl⟩) (c : PySem.W.codeIn K cd qual = true) (k : PySem.W.keepIn K (.ref f) = true)
    (b : ∀ (kV doc pm : Value) (an : Option Addr) (cdv ct : Value) (us : List Value), us.length = ps.length → bindArgs (PySem.W.fnOf m qual (defArgs st) (defBody st) (defScope st) .none kV doc pm an cdv ct) ⟨us, []⟩ = pure (ps.zip us)) : MethAt K C m qual st ps :=
  ⟨f, _, fun_mk l c k, (fun_mk (st := st) l c k).binds b, ⟨a, i, k⟩⟩
theorem MethAt.made {K : PySem.W.Frag} {mg : Str → Option Value} {x qual : Str} {C : Addr} {st : Stmt} {ps : List Str} (A : ClsAt K mg x C) (M : MethAt K C "__init__" qual st ps) : Mk K C M.f := ⟨A.mks, M.i.at_, M.i.fn, A.kc⟩
/-- an own instance at p, its fields -/
def InsAt (C : Addr) (H : Hp) (p : Addr) (fs : List (Str × V)) : Prop := ∃ dx, H p = some (.ins C dx fs)
section
variable {K : PySem.W.Frag} {σ : L2.St} {H : Hp} {Q : VK} {ta : TE} {C p : Addr} {fs : List (Str × V)} {f : Str} {v : V}
def FldQ (K : PySem.W.Frag) (f : Str) (x : V) (H1 : Hp) (Q : VK) : Prop := ∃ p C dx fs v, x = .ref p ∧ H1 p = some (.ins C dx fs) ∧ Cls K C ∧ NoAttr K C f ∧ fs.lookup f = some v ∧ Q v H1
theorem e_fld (h : ta σ H fun x H1 => FldQ K f x H1 Q) : tFld K ta f σ H Q := h
theorem o_fld (h : InsAt C H p fs) (cl : Cls K C) (na : NoAttr K C f) (e : fs.lookup f = some v) (q : Q v H) : FldQ K f (.ref p) H Q := h.elim fun dx h => ⟨p, C, dx, fs, v, rfl, h, cl, na, e, q⟩
end
section
variable {K : PySem.W.Frag} {σ : L2.St} {H : Hp} {Q : VK} {ta tv : TE} {C p : Addr} {fs : List (Str × V)} {m f : Str} {v y : V} {D : Ends}
def MethQ (C : Addr) (m : Str) (sp : Sp) (dvs : List V) (E : XK) (t : TA) (σ : L2.St) (x : V) (H1 : Hp) (Q : VK) : Prop := ∃ a dx fs, x = .ref a ∧ H1 a = some (.ins C dx fs) ∧ fs.lookup m = none ∧ t σ H1 fun vs H2 => sp (x :: (vs ++ dvs)) H2 Q E
theorem e_meth {sp : Sp} {dvs : List V} {E : XK} {t : TA} (h : ta σ H fun x H1 => MethQ C m sp dvs E t σ x H1 Q) : tMeth C m sp dvs E ta t σ H Q := h
theorem m_call0 {sp : Sp} {dvs : List V} {E : XK} {t : TA} (h : InsAt C H p fs) (e : fs.lookup m = none) (q : t σ H fun vs H2 => sp (.ref p :: (vs ++ dvs)) H2 Q E) : MethQ C m sp dvs E t σ (.ref p) H Q := h.elim fun dx h => ⟨p, dx, fs, rfl, h, e, q⟩
def SetQ (K : PySem.W.Frag) (f : Str) (y x : V) (H2 : Hp) (R : Hp → Prop) : Prop := ∃ a C dx fs, x = .ref a ∧ H2 a = some (.ins C dx fs) ∧ Cls K C ∧ NoAttr K C f ∧ fs.length < 1000 ∧ R (upd H2 a (.ins C dx (putF f y fs)))
theorem s_setf (h : tv σ H fun y H1 => ta σ H1 fun x H2 => SetQ K f y x H2 fun H3 => D.nx σ H3) : sFld K ta tv f D σ H := h
theorem s_fld {dx : Addr} {R : Hp → Prop} {x : V} (ex : x = .ref p) (h : H p = some (.ins C dx fs)) (cl : Cls K C) (na : NoAttr K C f) (l : fs.length < 1000) (q : R (upd H p (.ins C dx (putF f y fs)))) : SetQ K f y x H R := ⟨p, C, dx, fs, ex, h, cl, na, l, q⟩
end
section
variable {K : PySem.W.Frag} {σ : L2.St} {H : Hp} {Q : VK} {td ty : TE} {d : Addr} {kvs : List (Key × V)} {k : Key} {v : V}
def DgQ (x y : V) (H2 : Hp) (Q : VK) : Prop := ∃ a v, x = .ref a ∧ DGet H2 a y (some v) ∧ Q v H2
theorem e_dget (h : td σ H fun x H1 => ty σ H1 fun y H2 => DgQ x y H2 Q) : tDGet td ty σ H Q := h
theorem o_dget (h : H d = some (.dK kvs)) (e : valV kvs k = some v) (q : Q v H) : DgQ (.ref d) (kV k) H Q := ⟨d, v, rfl, e ▸ DGet.k h, q⟩
end
section
variable {X : Cx} {K : PySem.W.Frag} {e o value : Expr} {f : Str} {pos pos' : Pos} {ta tv : TE}
theorem peFld (h : PE X e ta) (hb : attributeBase e f X.env (eval e X.env) = eval e X.env) (eK : X.K = K := by rfl) : PE X (.Attribute e f pos) (tFld K ta f) := by cases eK; exact pe_fld h hb
theorem psFld (ho : PE X o ta) (hv : PE X value tv) (hs : swapsWith value (some (.Attribute o f pos')) pos.line X.env = pure false) (eK : X.K = K := by rfl) : PS X (.Assign [.Attribute o f pos'] value pos) (sFld K ta tv f) := by cases eK; exact ps_fld ho hv hs
end
theorem oth_stI {K : PySem.W.Frag} {p a C dx : Addr} {H H' : Hp} {fs : List (Str × V)} {xs : List V} (o : Oth p H H') (n : H p = some (.ins C dx fs)) (s : SqT K H a xs) : SqT K H' a xs := by
  rcases s with (s | ⟨u, s⟩) | s
  · exact .inl (.inl (o _ _ (fun z => by rw [z, n] at s; cases s) s))
  · exact .inl (.inr ⟨u, o _ _ (fun z => by rw [z, n] at s; cases s) s⟩)
  · exact .inr s
section
variable {K : PySem.W.Frag} {σ : L2.St} {H : Hp} {Q : VK} {td ty tx : TE} {d : Addr} {kvs : List (Key × V)} {k : Key} {v z : V}
def SdQ (x : V) (H1 : Hp) (R : Addr → Prop) : Prop := ∃ a, x = .ref a ∧ IsD H1 a ∧ R a
def SeQ (a : Addr) (y z : V) (H3 : Hp) (Q : VK) : Prop := ∃ (kvs : List (Key × V)) (k : Key), H3 a = some (.dK kvs) ∧ y = kV k ∧ kvs.length < sizeLine ∧ (∀ v, valV kvs k = some v → Q v H3) ∧ (valV kvs k = none → Q z (upd H3 a (.dK (putK kvs k z))))
theorem e_dsetd (h : td σ H fun x H1 => SdQ x H1 fun a => ty σ H1 fun y H2 => tx σ H2 fun z H3 => SeQ a y z H3 Q) : tDSetd td ty tx σ H Q := h
theorem o_dsetd {R : Addr → Prop} (h : H d = some (.dK kvs)) (q : R d) : SdQ (.ref d) H R := ⟨d, rfl, .inl ⟨kvs, .inl h⟩, q⟩
theorem o_dset (h : H d = some (.dK kvs)) (l : kvs.length < 100000) (q1 : ∀ v, valV kvs k = some v → Q v H) (q2 : valV kvs k = none → Q z (upd H d (.dK (putK kvs k z)))) : SeQ d (kV k) z H Q := ⟨kvs, k, h, rfl, lt_size l, q1, q2⟩
end
/-! ### texts -/
def rTx (g : Str → Bool) : V → List V → Hp → VK → Prop := fun x xs H Q => ∃ a, x = .str a ∧ xs = [] ∧ True ∧ Q (.bl (g a)) H
section
variable {X : Cx} {K : PySem.W.Frag} {o : Expr} {to : TE} {apos cpos : Pos}
theorem peIsascii (ho : PE X o to) (hbase : attributeBase o "isascii" X.env (eval o X.env) = eval o X.env := by rfl) (hline : (apos.endLine == cpos.line) = true := by rfl) (eK : X.K = K := by rfl) : PE X (.Call (.Attribute o "isascii" apos) [] [] cpos) (tBM0 K "str" (rTx Txt.isascii) to) := by
  cases eK; exact pe_bm0 PySem.F.plainAttrs_str PySem.F.slot_str_isascii PySem.F.type_str_isascii mt_isascii ho hbase hline
theorem peIsalpha (ho : PE X o to) (hbase : attributeBase o "isalpha" X.env (eval o X.env) = eval o X.env := by rfl) (hline : (apos.endLine == cpos.line) = true := by rfl) (eK : X.K = K := by rfl) : PE X (.Call (.Attribute o "isalpha" apos) [] [] cpos) (tBM0 K "str" (rTx Txt.isalpha) to) := by
  cases eK; exact pe_bm0 PySem.F.plainAttrs_str PySem.F.slot_str_isalpha PySem.F.type_str_isalpha mt_isalpha ho hbase hline
theorem peIslower (ho : PE X o to) (hbase : attributeBase o "islower" X.env (eval o X.env) = eval o X.env := by rfl) (hline : (apos.endLine == cpos.line) = true := by rfl) (eK : X.K = K := by rfl) : PE X (.Call (.Attribute o "islower" apos) [] [] cpos) (tBM0 K "str" (rTx Txt.islower) to) := by
  cases eK; exact pe_bm0 PySem.F.plainAttrs_str PySem.F.slot_str_islower PySem.F.type_str_islower mt_islower ho hbase hline
end
section
variable {K : PySem.W.Frag} {σ : L2.St} {H : Hp} {Q : VK} {to : TE} {z y : Str} {r' : R2}
theorem e_bm0 {T : String} {r : V → List V → Hp → VK → Prop} (h : to σ H fun x H1 => tyV K T x H1 ∧ r x [] H1 Q) : tBM0 K T r to σ H Q := h
theorem r_tx {g : Str → Bool} (q : Q (.bl (g z)) H) : tyV K "str" (.str z) H ∧ rTx g (.str z) [] H Q := ⟨rfl, z, rfl, rfl, trivial, q⟩
theorem e_lenS (h : z.length ≤ 100000) (q : Q (.int (z.length : Nat)) H) : rLen' K [.str z] H Q := ⟨.str z, z.length, rfl, ⟨Nat.le_trans h (by decide), rfl⟩, q⟩
theorem o_eqStr (q : Q (.bl (decide (z = y))) H) : rOr rEq r' (.str z) (.str y) H Q := .inl ⟨rfl, by
  have e : decide (V.str z = V.str y) = decide (z = y) := by
    by_cases h : z = y
    · rw [decide_eq_true h, h]; exact decide_eq_true rfl
    · rw [decide_eq_false h]; exact decide_eq_false fun q => h (V.str.inj q)
  rw [e]; exact q⟩
theorem o_neStr (q : Q (.bl (decide (z ≠ y))) H) : rOr rNe r' (.str z) (.str y) H Q := .inl ⟨rfl, by
  have e : (!decide (V.str z = V.str y)) = decide (z ≠ y) := by
    by_cases h : z = y
    · rw [decide_eq_false (show ¬ z ≠ y from fun q => q h), h, decide_eq_true rfl]; rfl
    · rw [decide_eq_true (show z ≠ y from h), decide_eq_false fun q => h (V.str.inj q)]; rfl
  rw [e]; exact q⟩
end
theorem e_dnin {σ : L2.St} {H : Hp} {Q : VK} {ty td : TE} (h : ty σ H fun y H1 => td σ H1 fun x H2 => ∃ a o, x = .ref a ∧ DGet H2 a y o ∧ Q (.bl (!o.isSome)) H2) : tDNotIn ty td σ H Q := h
theorem while_m {c : TT} {t : TS} {D : Ends} {σ : L2.St} {H : Hp} (W : Nat → L2.St → Hp → Prop) (m0 : Nat) (h0 : W m0 σ H) (hs : ∀ m σ H, W m σ H → c σ H fun b H1 => if b = true then ∃ N : L2.St → Hp → Prop, (∀ σ' H', N σ' H' → ∃ m', m' < m ∧ W m' σ' H') ∧ t { D with nx := N, ct := N, bk := D.nx } σ H1 else D.nx σ H1) : tWhile c t D σ H := ⟨W, ⟨m0, h0⟩, hs⟩
end Vw

set_option Elab.async false
set_option linter.all false
set_option maxRecDepth 100000
set_option maxHeartbeats 4000000
namespace Vw
open PySem PySem.Spec PyProof.Rows L2 RT
/-! ### an own exception without fields, made by C(), its __init__ inherited and walked as a def -/
theorem mk_endN {X : Cx} {pins : List (Addr × Obj)} {σ : L2.St} {H1 : Hp} {Q : XK} {hp hp2 h2 : Heap} {g1 g2 : Array GenState} {d1 d2 : Drawn} {t1 t2 : Nat} {os1 os2 : OsState} {a C : Addr} (T : Raises X (.ref C)) (I1 : Inv X pins σ H1 ⟨hp, g1, d1, t1, os1⟩)
    (ha : hp.objs.size ≤ a) (k : ∀ b o, hp.get? b = some o → hp2.get? b = some o) (un : Un (frs X.stack) [] (upd H1 a (exo a C none)) (upd H1 a (exo a C none)) hp2 h2) (hok : HOk X.prog X.w (upd H1 a (exo a C none)) h2) (ho : os2 = os1) (hb : AllBare g2)
    (q : Q (.ref C) none H1) : MkP X pins σ Q (.ref a) ⟨h2, g2, d2, t2, os2⟩ := by
  obtain ⟨t0, hoe⟩ := exo_at hok (upd_same : upd H1 a (exo a C none) a = some (exo a C none))
  have hn : H1 a = none := I1.hok.fresh ha
  obtain ⟨G, g1', g2'⟩ := restrict h2 fun b => decide (b ≠ a)
  have gk : ∀ b, b ≠ a → G.get? b = h2.get? b := fun b hb => g1' b (decide_eq_true hb)
  have ge : G.get? a = none := g2' a (by simp)
  have nha : ∀ {b : Addr} {o : Obj}, hp.get? b = some o → b ≠ a := fun {b o} z => Nat.ne_of_lt (Nat.lt_of_lt_of_le (Heap.lt_size z) ha)
  have up : ∀ {b : Addr}, b ≠ a → H1 b = none → upd H1 a (exo a C none) b = none := fun {b} hb n => by rw [upd_ne hb]; exact n
  have U : Un (frs X.stack) [] H1 H1 hp G := {
    keep := fun b o z n hf hx => by
      rw [gk b (nha z)]
      exact un.keep b o (k b o z) (up (nha z) n) hf hx
    slot := fun b o z n hf hx => by
      rw [gk b (nha z)]
      exact un.slot b o (k b o z) (up (nha z) n) hf hx
    free := fun b o z n hx => n
    there := fun b o z hx => by
      rw [gk b (nha z)]
      exact un.there b o (k b o z) hx
    tups := fun b xs z => z
    frzs := fun b o v z => z
    tbls := fun b ps z => ⟨#[], by rw [Array.append_empty]; exact z⟩ }
  have ea : upd H1 a (exo a C none) a = some (exo a C none) := upd_same
  have hok3 : HOk X.prog X.w H1 G := fun b o z => by
    have hba : b ≠ a := fun e => by
      rw [e, hn] at z
      cases z
    have noa : ∀ {c : Addr}, upd H1 a (exo a C none) c = some (.own b) → c ≠ a := fun {c} hc => at_ne ea hc exo_own
    exact (hok b o (by rw [upd_ne hba]; exact z)).stay (fun c v hc y => by
        have hca : c ≠ a := by
          rcases hc with hc | hc
          · rw [hc]
            exact hba
          · exact noa hc
        rw [gk c hca]
        exact y)
      (fun c hc => by rw [upd_ne (noa hc)] at hc; exact hc) (fun c xs hc => by rw [upd_ne (at_ne ea hc exo_tup)] at hc; exact hc)
  have J : Inv X pins σ H1 ⟨G, g2, d2, t2, os2⟩ := I1.call' (ch := []) ho U hok3 hb (fun b z => absurd z (by simp))
  refine ⟨a, _, _, ⟨G, g2, d2, t2, os2⟩, _, .ref C, none, rfl, J, fun b o z => ?_, ge, hoe, ⟨rfl, rfl⟩, rfl, rfl, hn, rfl, hb, T, q⟩
  by_cases hba : b = a
  · rw [hba, ge] at z
    cases z
  · exact (gk b hba).symm.trans z
/-- C(), its __init__ keeping sp, which leaves the exception as it is -/
def tMkN (C : Addr) (sp : Sp) : L2.St → Hp → XK → Prop := fun σ H Q => ∀ a, H a = none → sp [.ref a] (upd H a (exo a C none))
  (fun v H2 => v = .non ∧ H2 = upd H a (exo a C none) ∧ Q (.ref C) none H) (fun _ _ _ => False)
section
variable {X : Cx}
theorem pmk_oexN {CX : CXT} {x : Str} {C fI : Addr} {k : Nat} {fd : FuncData} {ps : List Str} {sp : Sp} {p pos : Pos} (T : OexC X.K C) (iC : PySem.W.findIn X.K (.ref C) "__init__" = some (some (.ref fI))) (tI : PySem.W.typeIn X.K (.ref fI) = some (.type "function"))
    (F1 : FnOk X.prog X.w X.K X.mg X.base CX k fI fd ps sp) (hr : Room (k + 1) X.A) (hb : Binds X.K fd ps []) (hx : Passes CX X (fun _ _ _ => False)) (hg : Gl X x) (hm : X.mg x = some (.ref C))
    (hdb : (x == ("__debug__" : Str)) = false := by decide) :
    PMk X (.Call (.Name x p) [] [] pos) (tMkN C sp) := by
  intro pins s σ H Q I h
  obtain ⟨nm, q, N, bs, bm, sn, sub, ab, col, dd, k0, k1, k2, k3, k5, hC, hbm⟩ := T.cls
  refine wpAny_Call_Name_kw (ld_glob I hg hm ?_ hdb)
  refine PySem.W.callWith_K0 I.kIn T.kC ?_
  show wpAny _ _ (call (.ref C) []) _ _ _
  obtain ⟨hp, g, dr, tk, os⟩ := s
  have hsz : hp.objs.size ≤ hp.objs.size + 1 := Nat.le_succ _
  have hn : H (hp.objs.size + 1) = none := I.hok.fresh hsz
  have hq := h (hp.objs.size + 1) hn
  have kk : ∀ b o, hp.get? b = some o → ((hp.push (PySem.W.kdv_tup [])).push (PySem.HandSPX.excO C hp.objs.size)).get? b = some o := fun b o e => Heap.get?_push_of_some _ (Heap.get?_push_of_some _ e)
  have hget : ((hp.push (PySem.W.kdv_tup [])).push (PySem.HandSPX.excO C hp.objs.size)).get? (hp.objs.size + 1) = some (PySem.HandSPX.excO C hp.objs.size) := by heap_get
  have I2 : Inv X pins σ (upd H (hp.objs.size + 1) (exo (hp.objs.size + 1) C none)) ⟨(hp.push (PySem.W.kdv_tup [])).push (PySem.HandSPX.excO C hp.objs.size), g, dr, tk, os⟩ :=
    I.laid (t' := tk) (a := hp.objs.size + 1) (o := exo (hp.objs.size + 1) C none) (h' := (hp.push (PySem.W.kdv_tup [])).push (PySem.HandSPX.excO C hp.objs.size)) kk hsz (exo_ok hget)
  have r2 : Vals [V.ref (hp.objs.size + 1)] [Value.ref (hp.objs.size + 1)] := .cons rfl .nil
  have hl : ([Value.ref (hp.objs.size + 1)] : List Value).length = ps.length := by
    have e := r2.length
    rw [F1.len _ _ _ _ hq] at e
    exact e.symm
  have bd := hb _ [Value.ref (hp.objs.size + 1)] I2.kIn (by rw [List.append_nil]; exact hl)
  rw [List.append_nil] at bd
  refine wpAny_call (PySem.HandSPX.call_own F.excBase_ValueError (fun Y => PySem.HandSPX.refsVE_contains Y bm hbm) (I.kIn _ _ hC) (PySem.W.looks_findIn I.kIn iC) (fun self => PySem.W.bind_fn I.kIn self tI) (Nat.zero_le _)
    (codeAny_mono (F1.run _ X.stack _ _ ⟨[Value.ref (hp.objs.size + 1)], []⟩ [Value.ref (hp.objs.size + 1)] _ _ (fun _ _ _ => False) (hr.make C [] []) (I2.env0.make C [] []) bd r2 hq) fun r s' hq' => ?_))
  cases r with
  | error er => exact hx pins σ _ _ er s' I2 hq'
  | ok fl =>
    cases fl with
    | ret u =>
      obtain ⟨v, H2, os2, bare2, un2, hok2, rv, ev, eH, q2⟩ := hq'
      subst ev
      subst eH
      obtain ⟨h2, g2, d2, t2, os'⟩ := s'
      exact ⟨rv, mk_endN (raises_own T.exC T.tyC) I hsz kk un2 hok2 os2 bare2 q2⟩
    | next => exact False.elim hq'
    | brk => exact False.elim hq'
    | cont => exact False.elim hq'
end
/-! ### methods of own instances called where a try is around -/
section
variable {X : Cx} {CX : CXT} {k : Nat} {C f : Addr} {fd : FuncData} {ps : List Str} {sp : Sp} {E : L2.St → XK} {m : Str} {p apos pos : Pos} {e o : Expr} {es : List Expr} {ta : TE} {t : TA}
def tMethE (C : Addr) (m : Str) (sp : Sp) (E : L2.St → XK) (to : TE) (t : TA) : TE := fun σ H Q => to σ H fun x H1 => ∃ a dx fs, x = .ref a ∧ H1 a = some (.ins C dx fs) ∧ fs.lookup m = none ∧ t σ H1 fun vs H2 => sp (x :: vs) H2 Q (E σ)
theorem pe_methE {pl : Sem Bool} (he : PE X o ta) (c : Cls X.K C) (hm : Meth X.K C m f) (F : FnOk X.prog X.w X.K X.mg X.base CX k f fd ps sp) (hr : Room k X.A) (hb : Binds X.K fd ps []) (hx : ∀ σ, PassesAt CX X σ (E σ)) (ha : PA X (e :: es) t)
    (hst : starEach (e :: es) X.env = (false, eval e X.env) :: starEach es X.env := by rfl) (hpl : (backTo pos (starEach es X.env)).any (·.1) = false := by rfl)
    (ht : eval (.Call (.Attribute o m apos) (e :: es) [] pos) X.env = (do
      let ov ← eval o X.env
      standAt apos.atName
      let (f, first) ← holding [ov] (getMethod ov m pl)
      callWith pos f first (backTo pos (starEach (e :: es) X.env)) (backToKw pos (keywordEach [] X.env))) := by rfl) :
    PE X (.Call (.Attribute o m apos) (e :: es) [] pos) (tMethE C m sp E ta t) := by
  refine ⟨fun pins s σ H Q I h => ?_⟩
  refine PySem.W.methodCall_KW (pl := pl) (thn (he.run pins s σ H _ I h) fun u s1 ⟨x, H1, I1, rx, a, dx, fs, ex, ea, l, q⟩ => ?_) ht
  subst ex
  obtain rfl : u = Value.ref a := rx
  refine getmeth_ok I1 ea c hm l ?_
  refine PySem.W.callWith_K (first := [.ref a]) (h₀ := X.base) I.ok.mod.kin hm.kp (thn (ha.run pos pins s1 σ H1 _ I1 q) fun us s2 ⟨vs, H2, I2, r, q2⟩ => ⟨I2.kIn, ?_⟩) hst hpl
  exact run_fnS (us := .ref a :: us) (vs := .ref a :: vs) F hr hb (hx σ) I2 (.cons rfl r) q2
theorem pe_methE0 {pl : Sem Bool} (he : PE X o ta) (c : Cls X.K C) (hm : Meth X.K C m f) (F : FnOk X.prog X.w X.K X.mg X.base CX k f fd ps sp) (hr : Room k X.A) (hb : Binds X.K fd ps []) (hx : ∀ σ, PassesAt CX X σ (E σ))
    (ht : eval (.Call (.Attribute o m apos) [] [] pos) X.env = (do
      let ov ← eval o X.env
      standAt apos.atName
      let (f, first) ← holding [ov] (getMethod ov m pl)
      callWith pos f first (backTo pos (starEach [] X.env)) (backToKw pos (keywordEach [] X.env))) := by rfl) :
    PE X (.Call (.Attribute o m apos) [] [] pos) (tMethE C m sp E ta tNil) := by
  refine ⟨fun pins s σ H Q I h => ?_⟩
  refine PySem.W.methodCall_KW (pl := pl) (thn (he.run pins s σ H _ I h) fun u s1 ⟨x, H1, I1, rx, a, dx, fs, ex, ea, l, q⟩ => ?_) ht
  subst ex
  obtain rfl : u = Value.ref a := rx
  refine getmeth_ok I1 ea c hm l ?_
  exact PySem.W.callWith_K0 (first := [.ref a]) I1.kIn hm.kp (run_fnS (us := [.ref a]) (vs := [.ref a]) F hr hb (hx σ) I1 (.cons rfl .nil) q)
end

/-! ### the facts of an own error class of the text -/
structure InitAt (K : PySem.W.Frag) (m qual : Str) (st : Stmt) (ps : List Str) where
  f : Addr
  fd : FuncData
  F : Fun K m qual st f fd
  b : Binds K fd ps []
structure ExcAt (K : PySem.W.Frag) (mg : Str → Option Value) (x : Str) (fI : Addr) where
  C : Addr
  g : mg x = some (.ref C)
  o : OexC K C
  i : PySem.W.findIn K (.ref C) "__init__" = some (some (.ref fI))
  t : PySem.W.typeIn K (.ref fI) = some (.type "function")
  te : PySem.W.exmOne K (.ref C) (.ref C) = some true
def initAt_mk {K : PySem.W.Frag} {m qual : Str} {st : Stmt} {ps : List Str} {f : Addr} {od an : Option Addr} {sl : Array (Option Value)} {oc kV dc pm cd ct : Value}
    (l : K.lookup f = some ⟨oc, od, .func (PySem.W.fnOf m qual (defArgs st) (defBody st) (defScope st) .none kV dc pm an cd ct), sl⟩) (c : PySem.W.codeIn K cd qual = true) (k : PySem.W.keepIn K (.ref f) = true)
    (b : ∀ (kV doc pm : Value) (an : Option Addr) (cdv ct : Value) (us : List Value), us.length = ps.length → bindArgs (PySem.W.fnOf m qual (defArgs st) (defBody st) (defScope st) .none kV doc pm an cdv ct) ⟨us, []⟩ = pure (ps.zip us)) : InitAt K m qual st ps :=
  ⟨f, _, fun_mk l c k, (fun_mk (st := st) l c k).binds b⟩
theorem exm_self {K : PySem.W.Frag} {S : Addr} (b : PySem.W.subIn K (.ref S) (.type "BaseException") = some true) (i : PySem.W.isClsIn K S = true) (t : PySem.W.typeIn K (.ref S) = some (.type "type")) (s : PySem.W.subIn K (.ref S) (.ref S) = some true) : PySem.W.exmOne K (.ref S) (.ref S) = some true := by
  unfold PySem.W.isClsIn at i
  unfold PySem.W.exmOne PySem.W.kitCls
  simp [b, i, t, s]
def excAt_mk {K : PySem.W.Frag} {mg : Str → Option Value} {h : Heap} {x : Str} {C fI f1 : Addr} {nm q : Str} {N : Addr} {bs bm : List Value} {sn : List Str} {sub : List Value} {ab : Bool} {col : Option Bool} {dd : Option Addr} {k0 k1 k2 k3 k5 : Option Value} (X : K.In h) (G : h.Ns mainGlobals mg) (a : PySem.W.nsIn K mainGlobals x = some (some (.ref C)))
    (l : K.lookup C = some (excClassObj nm q C N bs bm true sn sub ab col dd k0 k1 k2 k3 k5 "ValueError.__new__")) (hb : PySem.HandSPX.refsVE bm = true)
    (sa : PySem.W.findIn K (.ref C) "__setattr__" = some (some (.builtin "object.__setattr__"))) (exC : PySem.W.subIn K (.ref C) (.type "BaseException") = some true) (tyC : PySem.W.typeIn K (.ref C) = some (.type "type")) (kC : PySem.W.keepIn K (.ref C) = true)
    (i : PySem.W.findIn K (.ref C) "__init__" = some (some (.ref f1))) (t : PySem.W.typeIn K (.ref f1) = some (.type "function")) (hf : f1 = fI) (ic : PySem.W.isClsIn K C = true) (sc : PySem.W.subIn K (.ref C) (.ref C) = some true) : ExcAt K mg x fI :=
  ⟨C, PySem.W.mg_of X G a, ⟨⟨nm, q, N, bs, bm, sn, sub, ab, col, dd, k0, k1, k2, k3, k5, l, hb⟩, sa, exC, tyC, kC⟩, hf ▸ i, hf ▸ t, exm_self exC ic tyC sc⟩
def sp_exc_init (K : PySem.W.Frag) : Sp := fun vs H Q _ => ∃ a C, vs = [.ref a] ∧ OexC K C ∧ H a = some (exo a C none) ∧ Q .non H
theorem e_raise {C : Addr} {K : PySem.W.Frag} {σ : L2.St} {H : Hp} {Q : XK} (o : OexC K C) (q : Q (.ref C) none H) : tMkN C (sp_exc_init K) σ H Q := fun a na => ⟨a, C, rfl, o, upd_same, rfl, rfl, q⟩
theorem noAttr_mk {K : PySem.W.Frag} {C : Addr} {f : Str} (h : PySem.W.findIn K (.ref C) f = some none) : NoAttr K C f := h
end Vw

set_option Elab.async false
set_option linter.all false
set_option maxRecDepth 100000
set_option maxHeartbeats 4000000
namespace Vw
open PySem PySem.Spec PyProof.Rows L2 RT
section
variable {K : PySem.W.Frag} {σ : L2.St} {H : Hp} {Q : VK} {D : Ends} {td ty tx tv : TE} {d : Addr} {kvs : List (Key × V)} {k : Key} {v z : V} {R : Hp → Prop}
def DpQ (x y v : V) (H3 : Hp) (R : Hp → Prop) : Prop := ∃ a H4, x = .ref a ∧ DPut H3 a y v H4 ∧ R H4
theorem s_dput (h : tv σ H fun v H1 => td σ H1 fun x H2 => ty σ H2 fun y H3 => DpQ x y v H3 fun H4 => D.nx σ H4) : sDPut td ty tv D σ H := h
theorem o_dput (h : H d = some (.dK kvs)) (l : kvs.length < 100000) (q : R (upd H d (.dK (putK kvs k v)))) : DpQ (.ref d) (kV k) v H R := ⟨d, _, rfl, DPut.k h (lt_size l), q⟩
def Dg2Q (a : Addr) (y z : V) (H3 : Hp) (Q : VK) : Prop := ∃ o, DGet H3 a y o ∧ Q (o.getD z) H3
theorem e_dget2 (h : td σ H fun x H1 => SdQ x H1 fun a => ty σ H1 fun y H2 => tx σ H2 fun z H3 => Dg2Q a y z H3 Q) : tDGet2 td ty tx σ H Q := h
theorem o_dget2 (h : H d = some (.dK kvs)) (q : Q ((valV kvs k).getD z) H) : Dg2Q d (kV k) z H Q := ⟨_, DGet.k h, q⟩
def Dp1Q (a : Addr) (y : V) (H2 : Hp) (Q : VK) : Prop := ∃ kvs k v, H2 a = some (.dK kvs) ∧ y = kV k ∧ valV kvs k = some v ∧ Q v (upd H2 a (.dK (dropK kvs k)))
theorem e_dpop1 (h : td σ H fun x H1 => SdQ x H1 fun a => ty σ H1 fun y H2 => Dp1Q a y H2 Q) : tDPop1 td ty σ H Q := h
theorem o_dpop1 (h : H d = some (.dK kvs)) (e : valV kvs k = some v) (q : Q v (upd H d (.dK (dropK kvs k)))) : Dp1Q d (kV k) H Q := ⟨kvs, k, v, h, rfl, e, q⟩
theorem o_rep {r : R2} {l : Addr} {n : Nat} {xs : List V} (h : H l = some (.lst xs)) (hn : n ≤ 100000) (hl : xs.length * n ≤ 100000) (q : NewQ (.lst (List.replicate n xs).flatten) H Q) : rOr r rRep (.ref l) (.int n) H Q :=
  .inr ⟨l, n, xs, rfl, rfl, h, by omega, by omega, le_trans_size hl, q⟩
where le_trans_size {m : Nat} (h : m ≤ 100000) : m ≤ sizeLine := Nat.le_trans h (by decide)
theorem p_cons {tk tw : TE} {r : List (TE × TE)} {QP : List (V × V) → Hp → Prop} (h : tk σ H fun x H1 => tw σ H1 fun y H2 => tPairs r σ H2 fun ps H3 => QP ((x, y) :: ps) H3) : tPairs ((tk, tw) :: r) σ H QP := h
theorem p_nil {QP : List (V × V) → Hp → Prop} (h : QP [] H) : tPairs [] σ H QP := h
end
section
variable {K : PySem.W.Frag} {σ : L2.St} {H : Hp} {Q : VK} {to : TE} {C p : Addr} {fs : List (Str × V)} {m : Str} {D : Ends}
def MethEQ (C : Addr) (m : Str) (sp : Sp) (E : L2.St → XK) (t : TA) (σ : L2.St) (x : V) (H1 : Hp) (Q : VK) : Prop := ∃ a dx fs, x = .ref a ∧ H1 a = some (.ins C dx fs) ∧ fs.lookup m = none ∧ t σ H1 fun vs H2 => sp (x :: vs) H2 Q (E σ)
theorem e_methE {sp : Sp} {E : L2.St → XK} {t : TA} (h : to σ H fun x H1 => MethEQ C m sp E t σ x H1 Q) : tMethE C m sp E to t σ H Q := h
theorem m_callE {sp : Sp} {E : L2.St → XK} {t : TA} (h : InsAt C H p fs) (e : fs.lookup m = none) (q : t σ H fun vs H2 => sp (.ref p :: vs) H2 Q (E σ)) : MethEQ C m sp E t σ (.ref p) H Q := h.elim fun dx h => ⟨p, dx, fs, rfl, h, e, q⟩
theorem s_try {tb : WX → TS} {c : Value} {ts : Addr → Value → Option Addr → TS} {Wout : WX} (h : tb (wOnly K c ts Wout D) D σ H) : (fun (D : Ends) (σ : L2.St) (H : Hp) => tb (wOnly K c ts Wout D) D σ H) D σ H := h
theorem w_only {c cls : Value} {d : Option Addr} {ts : Addr → Value → Option Addr → TS} {Wout : WX} (e : PySem.W.exmOne K cls c = some true) (h : ∀ a, H a = none → ts a cls d D σ H) : wOnly K c ts Wout D cls d σ H := ⟨true, e, fun _ => h, fun z => nomatch z⟩
end
end Vw

set_option Elab.async false
set_option linter.all false
set_option maxRecDepth 100000
set_option maxHeartbeats 4000000
namespace Vw
open PySem PySem.Spec PyProof.Rows L2 RT
/-! ### list.extend of a tuple, whatever its dict and slots are -/
theorem list_extend_tup (l : Addr) (items : Array Value) (n : Nat) (b : Addr) (dd : Option Addr) (sl : Array (Option Value)) (items2 : Array Value) (n2 : Nat) (hs0 : ¬(!items.isEmpty && Builtin.List.listTooLong (items.size + items2.size)) = true) (hs1 : items.size ≤ sizeLine) (hs2 : items.size + items2.size ≤ sizeLine + 1) :
    Meets (Builtin.«list.extend» ⟨[.ref l, .ref b], []⟩) (fun _ R s => s.heap.get? l = some { cls := .type "list", dict := none, data := .seq items n, slots := #[] } ∧ s.heap.get? b = some { cls := .type "tuple", dict := dd, data := .seq items2 n2, slots := sl } ∧ R (.ok (.ret Value.none)) { s with heap := s.heap.update l (Obj.mapSeq fun x => x ++ items2), toks := s.toks }) :=
  .of_wp fun prog w A R s h => by
    obtain ⟨hp, g, d, tk, os⟩ := s; obtain ⟨hl, hb, h⟩ := h; have f1 := PySem.AutoSeq1.idx_int; have f2 := PySem.AutoSeq1.sub_tuple_tuple; have f3 := PySem.AutoSeq1.sub_list_list; have f4 := PySem.AutoSeq1.sub_tuple_list; have f5 := PySem.AutoSeq1.sub_list_tuple;
    have hz' : (items ++ items2).size ≤ sizeLine + 1 := by rw [Array.size_append]; exact hs2
    wp_walk using (wpAny_updateSeq hl rfl (hz := hs1) (_hz' := hz')), PySem.AutoSeq1.wpAny_loadPart' hl, PySem.AutoSeq1.wpAny_loadPart' hb; exact ⟨_, rfl, h⟩
def rExtT (K : PySem.W.Frag) : V → List V → Hp → VK → Prop := fun x vs H Q => ∃ l b xs zs, x = .ref l ∧ vs = [.ref b] ∧ H l = some (.lst xs) ∧ SqT K H b zs ∧ xs.length + zs.length ≤ sizeLine ∧ Q .non (upd H l (.lst (xs ++ zs)))
section
variable {X : Cx}
theorem mt_extT : MtM X "list.extend" (rExtT X.K) := by
  intro pins s σ H x vs v us Q I rx rv h
  obtain ⟨l, b, xs, zs, rfl, rfl, hH, hB, hz, q⟩ := h
  cases rx
  obtain ⟨u, rfl, ru⟩ := rv.one
  cases ru
  obtain ⟨z, its, n, r, hl, e⟩ := I.lstM hH
  obtain ⟨its2, r2, ⟨⟨cl, dd, da, sl⟩, e2, ec, n2, ed⟩, hl2⟩ := I.tuple hB
  cases ec
  cases ed
  have hl3 := r2.length
  have hsz : its.toArray.size + its2.toArray.size ≤ sizeLine := by rw [List.size_toArray, List.size_toArray]; omega
  have hlong : ¬ (!its.toArray.isEmpty && Builtin.List.listTooLong (its.toArray.size + its2.toArray.size)) = true := by
    rw [show Builtin.List.listTooLong (its.toArray.size + its2.toArray.size) = false from decide_eq_false (by omega), Bool.and_false]
    exact Bool.false_ne_true
  refine call_meets F.slot_list_extend ⟨_, e, rfl⟩ F.entry_list_extend (F.args_list_extend_2 _ _)
    (list_extend_tup l its.toArray n b dd sl its2.toArray n2 hlong (by rw [List.size_toArray]; omega) (by omega)) ⟨e, e2, ?_⟩
  refine ⟨.non, _, I.lset (its' := its ++ its2) hH e (by simp) (r.append r2) ?_, rfl, q⟩
  rw [List.length_append]
  omega
theorem mtExtT {K : PySem.W.Frag} (e : X.K = K := by rfl) : MtM X "list.extend" (rExtT K) := by cases e; exact mt_extT
/-! ### a test of a if t else b -/
def tIfT (t u v : TT) : TT := fun σ H Q => t σ H fun c H1 => if c = true then u σ H1 Q else v σ H1 Q
theorem pt_ifExp {c a b : Expr} {pos : Pos} {t u v : TT} (hc : PT X c t) (ha : PT X a u) (hb : PT X b v) : PT X (.IfExp c a b pos) (tIfT t u v) := by
  refine ⟨fun pins s σ H Q I h => ?_⟩
  refine isTrue_IfExp (thn (hc.run pins s σ H _ I h) fun d s1 ⟨H1, I1, q1⟩ => ?_)
  cases d with
  | true => exact ha.run pins s1 σ H1 Q I1 q1
  | false => exact hb.run pins s1 σ H1 Q I1 q1
/-! ### isinstance of an own class -/
theorem cIsC {K : PySem.W.Frag} {C : Addr} (c : C8.InsC K C) (e : X.K = K := by rfl) : CallR X (.builtin "isinstance") (fun xs H Q => ∃ a dx fs, xs = [.ref a, .ref C] ∧ H a = some (.ins C dx fs) ∧ Q (.bl true) H) := by
  cases e
  exact C8.call_isC c
end
section
variable {K : PySem.W.Frag} {σ : L2.St} {H : Hp} {Q : VK} {l b : Addr} {xs zs : List V} {C p : Addr} {fs : List (Str × V)} {t u v : TT} {QB : Bool → Hp → Prop} {R : It → Hp → Prop}
theorem r_extT (h : H l = some (.lst xs)) (hb : SqT K H b zs) (hl : xs.length + zs.length < 100000) (q : ∀ H2, Oth l H H2 → H2 l = some (.lst (xs ++ zs)) → Q .non H2) : rExtT K (.ref l) [.ref b] H Q :=
  ⟨l, b, xs, zs, rfl, rfl, h, hb, Nat.le_of_lt (lt_size hl), q _ (fun c o z e => by rw [upd_ne z]; exact e) upd_same⟩
theorem e_ifT (h : t σ H fun c H1 => if c = true then u σ H1 QB else v σ H1 QB) : tIfT t u v σ H QB := h
theorem o_isC (h : InsAt C H p fs) (q : Q (.bl true) H) : ∃ a dx fs, [V.ref p, V.ref C] = [.ref a, .ref C] ∧ H a = some (.ins C dx fs) ∧ Q (.bl true) H := h.elim fun dx h => ⟨p, dx, fs, rfl, h, q⟩
def Rg3Q (R : It → Hp → Prop) (vs : List V) (H1 : Hp) : Prop := ∃ (i j c : Int) (n : Nat), vs = [.int i, .int j, .int c] ∧ RgC i j c n ∧ R (Itc i c n) H1
theorem i_rng3 {ta : TA} (h : ta σ H fun vs H1 => Rg3Q R vs H1) : iRng3 ta σ H R := h
theorem i_rg3 {i j c : Int} {n : Nat} (r : RgC i j c n) (h : R (Itc i c n) H) : Rg3Q R [.int i, .int j, .int c] H := ⟨i, j, c, n, rfl, r, h⟩
end
end Vw

set_option Elab.async false
set_option linter.all false
set_option maxRecDepth 100000
set_option maxHeartbeats 4000000
namespace Vw
open PySem PySem.Spec PyProof.Rows L2 RT
/-! ### slices of tuples, the whole one too -/
theorem slT {X : Cx} {K : PySem.W.Frag} (e : X.K = K := by rfl) : SlR X (rSlA K) := by cases e; exact sl_tupA
theorem cut_nat {xs : List V} {i j : Nat} : cutV xs (some (i : Int)) (some (j : Int)) = (xs.drop i).take (j - i) := by
  unfold cutV
  rw [HT.sIx_nat, HT.sIx_nat]
  by_cases hi : i ≤ xs.length
  · rw [Nat.min_eq_left hi]
    by_cases hj : j ≤ xs.length
    · rw [Nat.min_eq_left hj]
    · rw [Nat.min_eq_right (by omega), List.take_of_length_le (by rw [List.length_drop]; omega), List.take_of_length_le (by rw [List.length_drop]; omega)]
  · rw [List.drop_of_length_le (show xs.length ≤ min i xs.length by omega), List.drop_of_length_le (show xs.length ≤ i by omega), List.take_nil, List.take_nil]
theorem cut_from {xs : List V} {i : Nat} : cutV xs (some (i : Int)) none = xs.drop i := by
  unfold cutV
  rw [HT.sIx_nat, HT.sIx_none, List.take_of_length_le (by rw [List.length_drop]; omega)]
  by_cases hi : i ≤ xs.length
  · rw [Nat.min_eq_left hi]
  · rw [Nat.min_eq_right (by omega), List.drop_of_length_le (by omega), List.drop_of_length_le (by omega)]
theorem cut_to {xs : List V} {j : Nat} : cutV xs none (some (j : Int)) = xs.take j := by
  unfold cutV
  rw [HT.sIx_nat, HT.sIx_none, List.drop_zero, Nat.sub_zero]
  by_cases hj : j ≤ xs.length
  · rw [Nat.min_eq_left hj]
  · rw [Nat.min_eq_right (by omega), List.take_of_length_le (by omega), List.take_of_length_le (by omega)]
section
variable {K : PySem.W.Frag} {H : Hp} {Q : VK} {a : Addr} {xs : List V} {lo hi : Option Int}
theorem r_slT (s : SqT K H a xs) (q : ∀ c H2, Same H H2 → SqT K H2 c (cutV xs lo hi) → Q (.ref c) H2) : rSlA K (.ref a) lo hi H Q := by
  refine ⟨a, xs, rfl, s, fun w => ?_, fun w p n => q p _ (Same.new n) (stO upd_same)⟩
  refine q a H (Same.refl _) ?_
  have e : cutV xs lo hi = xs := by
    unfold cutV
    rw [w.1, w.2, List.drop_zero, Nat.sub_zero, List.take_length]
  rw [e]; exact s
end
/-! ### range(0, n, 36) -/
theorem rsize36 {n : Nat} : Builtin.Range.rangeSize 0 (n : Int) 36 = (((n + 35) / 36 : Nat) : Int) := by
  unfold Builtin.Range.rangeSize
  simp only [show (36 : Int) > 0 by decide, if_true]
  split <;> omega
theorem fitL {i : Int} (h0 : 0 ≤ i) (h1 : i ≤ 1000000) : Builtin.Range.rangeFitsLong i = true := by
  unfold Builtin.Range.rangeFitsLong
  rw [Bool.and_eq_true, decide_eq_true_eq, decide_eq_true_eq]
  constructor <;> omega
theorem rgc36 {n : Nat} (h : n ≤ 100000) : RgC 0 (n : Int) 36 ((n + 35) / 36) := by
  refine ⟨by decide, by decide, ?_, rsize36⟩
  unfold Builtin.Range.small
  rw [rsize36]
  rw [fitL (by omega) (by omega), fitL (i := (n : Int)) (by omega) (by omega), fitL (i := 36) (by omega) (by omega), fitL (i := (((n + 35) / 36 : Nat) : Int)) (by omega) (by omega), if_pos (by decide), fitL (by omega) (by omega), Bool.or_true]
  rfl
def rIsC (C : Addr) : List V → Hp → VK → Prop := fun xs H Q => ∃ a dx fs, xs = [.ref a, .ref C] ∧ H a = some (.ins C dx fs) ∧ Q (.bl true) H
theorem cIsD {X : Cx} {K : PySem.W.Frag} {C : Addr} (c : C8.InsC K C) (e : X.K = K := by rfl) : CallR X (.builtin "isinstance") (rIsC C) := cIsC c e
theorem o_isD {C p : Addr} {H : Hp} {Q : VK} {fs : List (Str × V)} (h : InsAt C H p fs) (q : Q (.bl true) H) : rIsC C [.ref p, .ref C] H Q := h.elim fun dx h => ⟨p, dx, fs, rfl, h, q⟩
theorem peExt {X : Cx} {K : PySem.W.Frag} {o ex : Expr} {to te : TE} {apos cpos : Pos} {r : V → List V → Hp → VK → Prop} (h : PE X (.Call (.Attribute o "extend" apos) [ex] [] cpos) (tBM X.K "list" r to (tCons te tNil))) (e : X.K = K := by rfl) :
    PE X (.Call (.Attribute o "extend" apos) [ex] [] cpos) (tBM K "list" r to (tCons te tNil)) := by cases e; exact h
end Vw

set_option Elab.async false
set_option linter.all false
set_option maxRecDepth 100000
set_option maxHeartbeats 4000000
namespace Vw
open PySem PySem.Spec PyProof.Rows L2 RT
/-! ### a tuple so many times, up to 2000 -/
def rTimesT (K : PySem.W.Frag) : R2 := fun x y H Q => ∃ (a : Addr) (n : Nat) (xs : List V), x = .ref a ∧ y = .int n ∧ SqT K H a xs ∧ xs ≠ [] ∧ 2 ≤ n ∧ n ≤ 2000 ∧ xs.length ≤ 40 ∧ ∀ p, H p = none → Q (.ref p) (upd H p (.tup (List.replicate n xs).flatten))
theorem times_len {α : Type} {xs : List α} {n : Nat} (h : n ≤ 2000) (h2 : xs.length ≤ 40) : (List.replicate n xs).flatten.length ≤ sizeLine := by
  rw [PyProof.Rows.lm_len_rep_flat]
  exact Nat.le_trans (Nat.mul_le_mul h h2) (by decide)
theorem op_timesT {X : Cx} : OpR X (binaryOp .Mult) (rTimesT X.K) := by
  intro pins st σ H x y v u Q I rx ry ⟨a, n, xs, ex, ey, hT, hne, h2, hn, hz, q⟩
  subst ex ey
  cases rx
  obtain ⟨tk, rfl⟩ := ry
  obtain ⟨its, r, ⟨ob, ho, hc, m, hd⟩, hs⟩ := I.tuple hT
  obtain ⟨cls, dd, data, sl⟩ := ob
  have hc : cls = .type "tuple" := hc
  have hd : data = .seq its.toArray m := hd
  subst hc hd
  have ln : its.length = xs.length := r.length.symm
  have pos : 0 < its.length := by rw [ln]; exact List.length_pos_iff.mpr hne
  have em : its.toArray.isEmpty = false := by rw [List.isEmpty_toArray]; cases its with
    | nil => cases pos
    | cons _ _ => rfl
  have sz : its.toArray.size = xs.length := by rw [List.size_toArray, ln]
  have pm : ((its.toArray.size : Nat) : Int) * (n : Int) ≤ 80000 := by
    rw [sz, ← Int.natCast_mul]
    have := Nat.mul_le_mul hz hn
    omega
  have nn : ((n : Nat) : Int).toNat = n := Int.toNat_natCast n
  have tm : Builtin.Tuple.tupleTooMany (((its.toArray.size : Nat) : Int) * (n : Int)) = false := by
    have e : (80000 : Int) < (sizeLine : Nat) := by decide
    unfold Builtin.Tuple.tupleTooMany; exact decide_eq_false (by omega)
  have b0 : (decide ((n : Int) < -(2 ^ 63)) || decide ((n : Int) ≥ 2 ^ 63)) = false := by
    rw [Bool.or_eq_false_iff]; exact ⟨decide_eq_false (by omega), decide_eq_false (by omega)⟩
  have b1 : (its.toArray.isEmpty || (n : Int) == 1) = false := by
    rw [em, Bool.false_or, beq_eq_false_iff_ne]; omega
  have b2 : (decide ((n : Int) ≤ 0) || its.toArray.isEmpty) = false := by
    rw [em, Bool.or_false]; exact decide_eq_false (by omega)
  have fl := size_rep its n
  have road := tuple_mulW a its.toArray m dd sl (n : Int) tk b0 b1 b2 (by omega) tm (by rw [nn, fl, List.size_toArray]; exact times_len hn (by omega))
  have fin : EP X pins σ Q (.ref st.heap.objs.size) { st with heap := st.heap.push { cls := Value.type "tuple", data := Data.seq (List.replicate n its).flatten.toArray }, toks := st.toks } :=
    ⟨.ref st.heap.objs.size, _, I.laid (t' := st.toks) (o := .tup (List.replicate n xs).flatten) (fun _ _ g => Heap.get?_push_of_some _ g) (Nat.le_refl _) ⟨times_len hn hz, _, r.rep n, IsTup.new _ _⟩, rfl, q _ (I.hok.fresh (Nat.le_refl _))⟩
  exact wpAny_binaryOp_repeat_ref (T := "tuple") (U := "int") (by decide) ⟨_, ho, rfl⟩ (fun s' => typeIs_int s' (n : Int) tk) noFill_tuple_mul F.fills_int_mul F.slot_int_rmul repeat_tuple F.slot_int_index.lookup
    (call_meets F.slot_int_rmul (typeIs_int st (n : Int) tk) F.entry_int_rmul (F.args_int_rmul_2 _ _) (int_rmul_tuple (n : Int) tk a its.toArray m dd sl) ⟨ho, rfl, ⟨_, ho, rfl⟩,
      call_meets F.slot_tuple_mul ⟨_, ho, rfl⟩ F.entry_tuple_mul (F.args_tuple_mul_2 _ _) road ⟨ho, by rw [nn, fl]; exact fin⟩⟩)
theorem oTimesT {K : PySem.W.Frag} {X : Cx} (e : X.K = K := by rfl) : OpR X (binaryOp .Mult) (rTimesT K) := by cases e; exact op_timesT
section
variable {K : PySem.W.Frag} {H : Hp} {Q : VK}
theorem o_times {a : Addr} {n : Nat} {xs : List V} {i : Int} (h : SqT K H a xs) (ne : xs ≠ []) (e : i = (n : Nat)) (h2 : 2 ≤ n) (hn : n ≤ 2000) (hz : xs.length ≤ 40) (q : ∀ p H2, H p = none → Same H H2 → H2 p = some (.tup (List.replicate n xs).flatten) → Q (.ref p) H2) : rTimesT K (.ref a) (.int i) H Q :=
  ⟨a, n, xs, rfl, by rw [e], h, ne, h2, hn, hz, fun p np => q p _ np (Same.new np) upd_same⟩
end
end Vw

set_option Elab.async false
set_option linter.all false
set_option maxRecDepth 100000
set_option maxHeartbeats 4000000
namespace Vw
open PySem PySem.Spec PyProof.Rows L2 RT
/-! ### a tuple no times -/
theorem mul0_road (a : Addr) (its : Array Value) (m : Nat) (od : Option Addr) (sl : Array (Option Value)) (k : Tok) (e1 : (its.isEmpty || (0 : Int) == 1) = false) :
    Meets (Builtin.«tuple.__mul__» ⟨[.ref a, .int 0 k], []⟩) (fun _ R s => s.heap.get? a = some { cls := .type "tuple", dict := od, data := .seq its m, slots := sl } ∧
      R (.ok (.ret (Value.ref s.heap.objs.size))) { s with heap := s.heap.push { cls := Value.type "tuple", data := Data.seq #[] } }) :=
  .of_wp fun prog w A R s h => by
    obtain ⟨hp, gl, dd, tk, os⟩ := s
    obtain ⟨hl, h⟩ := h
    have f1 := AutoSeq1.idx_int
    wp_walk using wpAny_loadPart' hl
    repeat (first
      | (refine wpAny_ite_false (by decide) ?_; wp_walk using wpAny_loadPart' hl)
      | (refine wpAny_ite_false (decide_eq_false (by rw [e1]; decide)) ?_; wp_walk using wpAny_loadPart' hl)
      | (refine wpAny_ite_true (by decide) ?_; wp_walk using wpAny_loadPart' hl)
      | (refine wpAny_ite_true (by simp) ?_; wp_walk using wpAny_loadPart' hl))
    exact ⟨_, rfl, h⟩
def rNoTimes (K : PySem.W.Frag) : R2 := fun x y H Q => ∃ (a : Addr) (xs : List V), x = .ref a ∧ y = .int 0 ∧ SqT K H a xs ∧ xs ≠ [] ∧ ∀ p, H p = none → Q (.ref p) (upd H p (.tup []))
theorem op_noTimes {X : Cx} : OpR X (binaryOp .Mult) (rNoTimes X.K) := by
  intro pins st σ H x y v u Q I rx ry ⟨a, xs, ex, ey, hT, hne, q⟩
  subst ex ey
  cases rx
  obtain ⟨tk, rfl⟩ := ry
  obtain ⟨its, r, ⟨ob, ho, hc, m, hd⟩, hs⟩ := I.tuple hT
  obtain ⟨cls, dd, data, sl⟩ := ob
  have hc : cls = .type "tuple" := hc
  have hd : data = .seq its.toArray m := hd
  subst hc hd
  have ln : its.length = xs.length := r.length.symm
  have pos : 0 < its.length := by rw [ln]; exact List.length_pos_iff.mpr hne
  have em : its.toArray.isEmpty = false := by rw [List.isEmpty_toArray]; cases its with
    | nil => cases pos
    | cons _ _ => rfl
  have fin : EP X pins σ Q (.ref st.heap.objs.size) { st with heap := st.heap.push { cls := Value.type "tuple", data := Data.seq #[] } } :=
    ⟨.ref st.heap.objs.size, _, I.laid (t' := st.toks) (o := .tup []) (fun _ _ g => Heap.get?_push_of_some _ g) (Nat.le_refl _) ⟨Nat.zero_le _, [], .nil, IsTup.new _ _⟩, rfl, q _ (I.hok.fresh (Nat.le_refl _))⟩
  exact wpAny_binaryOp_repeat_ref (T := "tuple") (U := "int") (by decide) ⟨_, ho, rfl⟩ (fun s' => typeIs_int s' 0 tk) noFill_tuple_mul F.fills_int_mul F.slot_int_rmul repeat_tuple F.slot_int_index.lookup
    (call_meets F.slot_int_rmul (typeIs_int st 0 tk) F.entry_int_rmul (F.args_int_rmul_2 _ _) (int_rmul_tuple 0 tk a its.toArray m dd sl) ⟨ho, rfl, ⟨_, ho, rfl⟩,
      call_meets F.slot_tuple_mul ⟨_, ho, rfl⟩ F.entry_tuple_mul (F.args_tuple_mul_2 _ _) (mul0_road a its.toArray m dd sl tk (by rw [em]; rfl)) ⟨ho, fin⟩⟩)
theorem oMulA {K : PySem.W.Frag} {X : Cx} (e : X.K = K := by rfl) : OpR X (binaryOp .Mult) (rOr rIMul (rOr (rTimesT K) (rNoTimes K))) := by cases e; exact oOr op_mul (oOr op_timesT op_noTimes)
section
variable {K : PySem.W.Frag} {H : Hp} {Q : VK}
/-- so many times, none too -/
theorem o_timesA {r : R2} {a : Addr} {n : Nat} {xs : List V} {i : Int} (h : SqT K H a xs) (ne : xs ≠ []) (e : i = (n : Nat)) (h2 : n = 0 ∨ 2 ≤ n) (hn : n ≤ 2000) (hz : xs.length ≤ 40) (q : ∀ p H2, H p = none → Same H H2 → H2 p = some (.tup (List.replicate n xs).flatten) → Q (.ref p) H2) : rOr r (rOr (rTimesT K) (rNoTimes K)) (.ref a) (.int i) H Q := by
  rcases h2 with rfl | h2
  · exact .inr (.inr ⟨a, xs, rfl, by rw [e]; rfl, h, ne, fun p np => q p _ np (Same.new np) upd_same⟩)
  · exact .inr (.inl (o_times h ne e h2 hn hz q))
end
end Vw

set_option Elab.async false
set_option linter.all false
set_option maxRecDepth 100000
set_option maxHeartbeats 4000000
namespace Vw
open PySem PySem.Spec PyProof.Rows L2 RT
/-! ### a lambda called under two handlers: told is w0, wa or wb -/
def TTwo (K : PySem.W.Frag) (CA CB : Addr) (w0 wa wb : Str) : (XK → Hp → VK → Prop) → Hp → VK → Prop := fun tl H Q =>
  tl (fun cls _ H' => ∃ b, PySem.W.exmOne K cls (.ref CA) = some b ∧ (b = true → Q (.str wa) H') ∧ (b = false → ∃ b2, PySem.W.exmOne K cls (.ref CB) = some b2 ∧ (b2 = true → Q (.str wb) H') ∧ (b2 = false → False))) H fun _ H' => Q (.str w0) H'
theorem takes_len {X : Cx} {W : WX} (t : Takes X W) : Takes X (fun c d σ H => σ.length = X.N.length → W c d σ H) := fun u s' ⟨a, B, sI, pins, σ, H, cls, d, e, I, nb, up, sky, na, os, ag, w⟩ =>
  t u s' ⟨a, B, sI, pins, σ, H, cls, d, e, I, nb, up, sky, na, os, ag, w I.len⟩
theorem two_gives {X : Cx} {x a t A B q w0 wa wb : Str} {sg : Scope} {g CA CB : Addr} {cdg : Value} {j0 j1 j2 : Nat} {p1 p2 p3 p4 p5 p6 p7 p8 p9 p10 p11 p12 p13 p14 p15 p16 p17 p18 p19 : Pos}
    (hga : sg.names.lookup A = some .globalImplicit) (hma : X.mg A = some (.ref CA)) (hda : (A == ("__debug__" : Str)) = false) (hgb : sg.names.lookup B = some .globalImplicit) (hmb : X.mg B = some (.ref CB)) (hdb : (B == ("__debug__" : Str)) = false)
    (ht : sg.names.lookup t = some .local) (hn : ([a, t] : List Str).Nodup) (hd : (t == ("__debug__" : Str)) = false) (hcd : (t == ("__classdict__" : Str)) = false) :
    LamX.GivesTo X [a, t] x sg g cdg [.Assign [.Name t p1] (.Constant (.str w0) j0 p2) p3, .Try [.Expr (.Call (.Name a p4) [] [] p5) p6] [.ExceptHandler (some (.Name A p7)) none [.Assign [.Name t p8] (.Constant (.str wa) j1 p9) p10] p11, .ExceptHandler (some (.Name B p12)) none [.Assign [.Name t p13] (.Constant (.str wb) j2 p14) p15] p16] [] [] p17, .Return (some (.Name t p18)) p19] a q (TTwo X.K CA CB w0 wa wb) := by
  intro f c' s H Q tl act hc h
  have gla : Gl (cxOf C8.CX0 X.prog X.w X.K X.mg X.base [a, t] x sg g cdg X.A X.stack s H C8.E0).nox A := hga
  have glb : Gl (cxOf C8.CX0 X.prog X.w X.K X.mg X.base [a, t] x sg g cdg X.A X.stack s H C8.E0).nox B := hgb
  have ht2 : (cxOf C8.CX0 X.prog X.w X.K X.mg X.base [a, t] x sg g cdg X.A X.stack s H C8.E0).nox.env.scope.names.lookup t = some .local := ht
  refine ⟨_, pss_cons (ps_set (X := (cxOf C8.CX0 X.prog X.w X.K X.mg X.base [a, t] x sg g cdg X.A X.stack s H C8.E0).nox) (i := 1) hn rfl (.inl ht) pe_str) (pss_cons (ps_try_many (X := (cxOf C8.CX0 X.prog X.w X.K X.mg X.base [a, t] x sg g cdg X.A X.stack s H C8.E0).nox)
      (tb := fun W D σ H => ∃ Ech : XK, (∀ cls d σ' H', σ'.length = 2 → Ech cls d H' → W cls d σ' H') ∧ σ[0]? = some (some (.ref f)) ∧ H c' = some (LamX.CodeO c' q) ∧ tl Ech H fun _ H' => D.nx σ H')
      rfl rfl takes_none5 (fun W pn xe tk _ => ?_)
      (.cons ⟨gla, hda, .inl hma⟩ (fun a oe cls d pn _ _ => pss_one (ps_set (i := 1) hn rfl (.inl ht) pe_str)) (.cons ⟨glb, hdb, .inl hmb⟩ (fun a oe cls d pn _ _ => pss_one (ps_set (i := 1) hn rfl (.inl ht) pe_str)) .nil)))
    (pss_one (ps_ret (pe_var (i := 1) rfl (.inl ht) hd hcd)))), ?_⟩
  · refine ⟨fun pins s' σ H' D I h' => ?_⟩
    obtain ⟨Ech, hW, h1, h2, h3⟩ := h'
    have hp := act (fun c d σ H => σ.length = 2 → W c d σ H) pn xe Ech p4 p5 (takes_len tk) (fun cls d σ' H' e l => hW cls d σ' H' l e)
    exact (pss_one (ps_expr (pos := p6) hp)).run pins s' σ H' D I ⟨h1, h2, h3⟩
  · have len1 : ∀ (σ' : L2.St) (v : V), σ'.length = 2 → (σ'.set 1 (some v))[1]? = some (some v) := fun σ' v l => by
      rw [List.getElem?_set_self (by omega)]
    refine ⟨fun cls _ H' => ∃ b, PySem.W.exmOne X.K cls (.ref CA) = some b ∧ (b = true → Q (.str wa) H') ∧ (b = false → ∃ b2, PySem.W.exmOne X.K cls (.ref CB) = some b2 ∧ (b2 = true → Q (.str wb) H') ∧ (b2 = false → False)), fun cls d σ' H' l ⟨b, e1, e2, e3⟩ => ⟨b, e1, fun hb a _ => ?_, fun hb => ?_⟩, rfl, hc, ?_⟩
    · exact ⟨_, len1 σ' _ l, e2 hb⟩
    · obtain ⟨b2, g1, g2, g3⟩ := e3 hb
      exact ⟨b2, g1, fun hb a _ => ⟨_, len1 σ' _ l, g2 hb⟩, fun hb => g3 hb⟩
    · refine Eq.mpr (congrArg (tl _ H) (funext fun _ => funext fun H' => propext ⟨fun ⟨v, e, z⟩ => ?_, fun z => ⟨_, rfl, z⟩⟩)) h
      have e2 : V.str w0 = v := Option.some.inj (Option.some.inj e)
      rw [e2]
      exact z
/-- the end of a law whose defs hold lambdas: of each def of the row, its code object and its empty table -/
theorem walk_ofRecs {l : PySem.W.OpenLaw} {n k : Nat} {q : Program} {loose : List Str} {XP : (Str → Option Value) → Heap → Prop} {YP : World → Heap → Prop} {d : DefRec} {K : Params → PySem.W.Frag} {CX : World → CXT} {x : Str}
    (hn : l.most = some n) (hn2 : n ≤ sizeLine) (hdf : d.params.defaults = []) (hr : Room k callerA) (hY : ∀ (w : World) (h : Heap), YP w h → (K w.params).In h)
    (F : ∀ (w : World) (mg : Str → Option Value) (fa : Addr) (h : Heap), YP w h → (K w.params).In h → h.Ns mainGlobals mg → mg d.name = some (.ref fa) →
      (∀ (y : Str) (e : DefRec) (c P : Addr), (recsOf q).find? (fun e => e.name == y) = some e → PySem.W.tabIn (K w.params) y = some (c, P) → PySem.W.CodeHd h c P ∧ h.get? P = some { cls := .none, data := .fields #[] }) → LamX.LawAtS l w (K w.params) (CX w) k n x mg fa h)
    (hCX : ∀ (w : World) (H : Hp) (s : Shared) (e : Value) (s' : Shared), CX w [] H s (fun _ _ _ => False) e s' → False) :
    PySem.W.WalkO q loose XP YP l.row.toRowW d [] (fun f vs => PySem.call f vs) := by
  refine Att.attach_callB hn hdf fun w s₀ s₁ mg mb fa o pm cd doc a vs ns G Y ho hd hcd hmg hobj hints hlen hbits hg => ?_
  have KX := hY w _ Y
  obtain ⟨fd, cs, sp, hT, nT, C, hb, hsp, hF⟩ := F w mg fa _ Y KX G.T.g hmg (fun y e c P h1 h2 => PySem.W.tab_of G.T KX h1 h2)
  exact LamX.law_callTs KX G.T.g G.T.b G.T.builtins G.T.nolimit hg hT nT C G.T.bmain hobj hints (Nat.le_trans hlen hn2) hr hF hb (fun H hH hS => hsp H a ns hlen hbits hH hS) fun H e s' => hCX w H s₁ e s'
/-- a def that makes lambdas: its code object c and the table P of it -/
structure DefAtL (K : PySem.W.Frag) (mg : Str → Option Value) (x qual : Str) (st : Stmt) (ps : List Str) extends DefAt K mg x qual st ps where
  c : Addr
  P : Addr
  ex : ∃ (oc : Value) (od : Option Addr) (kV doc pm : Value) (an : Option Addr) (ct : Value) (osl : Array (Option Value)),
    fd = PySem.W.fnOf x qual (defArgs st) (defBody st) (defScope st) .none kV doc pm an (.ref c) ct ∧ K.lookup f = some ⟨oc, od, .func fd, osl⟩ ∧ PySem.W.codeIn K (.ref c) qual = true
  tb : PySem.W.tabIn K x = some (c, P)
  nP : K.lookup P = none
def defAtL_mk {K : PySem.W.Frag} {mg : Str → Option Value} {h : Heap} {x qual : Str} {st : Stmt} {ps : List Str} {f c P : Addr} {od an : Option Addr} {sl : Array (Option Value)} {oc kV dc pm ct : Value} (X : K.In h) (G : h.Ns mainGlobals mg)
    (a : PySem.W.nsIn K mainGlobals x = some (some (.ref f))) (l : K.lookup f = some ⟨oc, od, .func (PySem.W.fnOf x qual (defArgs st) (defBody st) (defScope st) .none kV dc pm an (.ref c) ct), sl⟩) (cc : PySem.W.codeIn K (.ref c) qual = true) (k : PySem.W.keepIn K (.ref f) = true)
    (tb : PySem.W.tabIn K x = some (c, P)) (nP : K.lookup P = none)
    (b : ∀ (kV doc pm : Value) (an : Option Addr) (cdv ct : Value) (us : List Value), us.length = ps.length → bindArgs (PySem.W.fnOf x qual (defArgs st) (defBody st) (defScope st) .none kV doc pm an cdv ct) ⟨us, []⟩ = pure (ps.zip us)) : DefAtL K mg x qual st ps :=
  { defAt_mk X G a l cc k b with c := c, P := P, ex := ⟨_, _, _, _, _, _, _, _, rfl, l, cc⟩, tb := tb, nP := nP }
theorem DefAtL.ok {Pg : Program} {w : World} {K : PySem.W.Frag} {mg : Str → Option Value} {base : Heap} {x qual : Str} {st : Stmt} {N ps : List Str} {k : Nat} {sp : Sp} (D : DefAtL K mg x qual st ps) (S : FnScope N ps (defScope st)) (len : ∀ vs H Q E, sp vs H Q E → vs.length = ps.length)
    (hbody : ∀ (A : Around) (outer : List Env) (s : Shared) (H : Hp) (vs : List V) (Q : VK) (E : XK), Room k (A.deeper (envOfC qual (defScope st) s.heap.objs.size D.f (.ref D.c))) → sp vs H Q E →
      ∃ t, PSs (cxOf CX0 Pg w K mg base N qual (defScope st) D.f (.ref D.c) A outer s H E).nox (defBody st) t ∧ t { nx := fun _ H' => Q .non H', rt := Q } (start N vs) H) : FnOk Pg w K mg base CX0 (k + 1) D.f D.fd ps sp := by
  obtain ⟨oc, od, kV, doc, pm, an, ct, osl, e, lk, hcd⟩ := D.ex
  rw [e] at lk ⊢
  refine fn_of lk hcd S len fun A outer s H vs Q E hr hsp => ?_
  obtain ⟨t, h, q⟩ := hbody A outer s H vs Q E hr hsp
  exact ⟨t, h.nox, q⟩
/-- x(lambda: body), of a def known as DefAt -/
theorem pe_lamF {X : Cx} {T : List (Addr × Str)} {TT : (XK → Hp → VK → Prop) → Hp → VK → Prop} {x a n : Str} {st : Stmt} {c P : Addr} {k : Nat} {Ng : List Str} {params : Arguments} {body : Expr} {scope : Scope} {t : XK → TE} {p lpos pos : Pos}
    (hq : X.env.qual = n) (D : DefAt X.K X.mg x x st [a]) (hg : Gl X x) (Sg : FnScope Ng [a] (defScope st)) (hNg : Ng[0]? = some a) (hva : Vis (defScope st) a)
    (hG : ∀ cdv : Value, LamX.GivesTo X Ng x (defScope st) D.f cdv (defBody st) a (n ++ "<lambda>") TT)
    (TB : LamX.TabB X.base X.mg c P) (hcode : X.env.code = .ref c) (hmT : (P, n ++ "<lambda>") ∈ T) (hu : ∀ p ∈ T, p.1 = P → p.2 = n ++ "<lambda>") (hr : Room (k + 2) X.A) (L : LamX.LamS X.env.scope scope) (hdef : defaultsOf params X.env = ([], []))
    (hbind : ∀ (q : Str) (cl : List (Str × Addr)) (pm cv ctv : Value), bindArgs (PySem.W.kla_fn "<lambda>" q params body scope cl pm cv ctv) ⟨[], []⟩ = pure [])
    (hbody : ∀ (A : Around) (outer : List Env) (s : Shared) (H : Hp) (E : XK) (f c' : Addr), Room k (A.deeper (LamX.lamEnv X scope s.heap.objs.size f c')) → PE (LamX.lamCx X A outer s H E scope f c') body (t E))
    (hdb : (x == ("__debug__" : Str)) = false := by decide) (hd : (a == ("__debug__" : Str)) = false := by decide) (hcd : (a == ("__classdict__" : Str)) = false := by decide) :
    PE X (.Call (.Name x p) [.Lambda params body scope lpos] [] pos) (LamX.tLam T TT t) := by
  subst hq
  obtain ⟨f, fd, F, b, g⟩ := D
  obtain ⟨oc, od, kV, doc, pm, an, cdv, ct, osl, rfl, lk, hc2⟩ := F.ex
  exact LamX.pe_lamcall hg g F.kp lk hc2 b Sg hNg hva (hG cdv) TB hcode hmT hu hr L hdef hbind hbody hdb hd hcd
theorem nox_qual {CX : CXT} {Pg : Program} {w : World} {K : PySem.W.Frag} {mg : Str → Option Value} {base : Heap} {N : List Str} {q : Str} {sc : Scope} {f : Addr} {cdv : Value} {A : Around} {outer : List Env} {s : Shared} {H : Hp} {E : XK} :
    (cxOf CX Pg w K mg base N q sc f cdv A outer s H E).nox.env.qual = q ++ ".<locals>." := rfl
/-- what a call lets out is taken by the handlers around, whatever the slots hold by then -/
theorem passLen {X : Cx} {W : WX} (n : Nat) (tk : Takes X W) (hn : X.N.length = n) : Passes (L2.CX X.prog X.w) X (fun cls d H => ∀ σ : L2.St, σ.length = n → W cls d σ H) := passes_call (takes_len tk) (fun _ _ _ _ e l => e _ (l.trans hn))
/-- tables at places of their own -/
theorem tabs_uniq {P : Addr} {q : Str} : ∀ {l : List (Addr × Str)}, (l.map (·.1)).Nodup → (P, q) ∈ l → ∀ p ∈ l, p.1 = P → p.2 = q := by
  intro l
  induction l with
  | nil => intro _ h; cases h
  | cons a l ih =>
    intro hn hm p hp e
    rw [List.map_cons, List.nodup_cons] at hn
    rcases List.mem_cons.mp hm with h | h
    · rcases List.mem_cons.mp hp with k | k
      · rw [k, ← h]
      · exact absurd (List.mem_map.mpr ⟨p, k, by rw [e, ← h]⟩) hn.1
    · rcases List.mem_cons.mp hp with k | k
      · exact absurd (List.mem_map.mpr ⟨(P, q), h, by rw [← e, k]⟩) hn.1
      · exact ih hn.2 h p k e
end Vw

set_option Elab.async false
set_option linter.all false
set_option maxRecDepth 100000
set_option maxHeartbeats 4000000
namespace Vw
open PySem PySem.Spec PyProof.Rows L2 RT
/-! ### several handlers, each with the name of what it caught -/
abbrev HdT := Value × (Addr → Value → Option Addr → TS)
/-- the ends of a handler's suite: slot i, the name's, is empty behind it -/
def offI (i : Nat) (D : Ends) : Ends := { nx := fun σ H => D.nx (σ.set i none) H, rt := D.rt, bk := fun σ H => D.bk (σ.set i none) H, ct := fun σ H => D.ct (σ.set i none) H }
def wTells (K : PySem.W.Frag) (i : Nat) (Wo : WX) (D : Ends) : List HdT → WX
  | [] => Wo
  | h :: r => fun k d σ H => ∃ b, PySem.W.exmOne K k h.1 = some b ∧ (b = true → ∀ x, H x = none → h.2 x k d (offI i D) (σ.set i (some (.ref x))) H) ∧ (b = false → wTells K i Wo D r k d σ H)
inductive TellsOk (X : Cx) (n : Str) : List ExceptHandler → List HdT → Prop
  | nil : TellsOk X n [] []
  | cons {x : Str} {c : Value} {u : Addr → Value → Option Addr → TS} {b : Stmt} {bs : List Stmt} {p1 p2 : Pos} {hds : List ExceptHandler} {l : List HdT} (hc : Names X x c)
      (hu : ∀ (x : Addr) (o : Obj) (k : Value) (d : Option Addr) (pn : List (Addr × Obj)), Zc k d o → (∃ vs, o.data = .fields vs) → PSs (X.suite x ((x, o) :: pn)) (b :: bs) (u x k d)) (r : TellsOk X n hds l) :
      TellsOk X n (.ExceptHandler (some (.Name x p1)) (some n) (b :: bs) p2 :: hds) ((c, u) :: l)
section
variable {X : Cx} {n : Str} {i : Nat} {body : List Stmt} {h1 : ExceptHandler} {hds : List ExceptHandler} {l : List HdT} {pos : Pos} {tb : WX → TS} {Wo : WX}
theorem ps_tells (st : X.stack = X.env :: X.outer) (fr : X.env.frame = some X.env.locals) (nd : X.N.Nodup) (at_ : X.N[i]? = some n) (lo : X.env.kindOf n = some .local) (tk : Takes X Wo)
    (bo : ∀ (W : WX) (pn : List (Addr × Obj)) (xe : Value → Shared → Prop), Takes (X.tr pn xe) W → PassesOwn (model X.prog X.w) X.A X.env xe → PSs (X.tr pn xe) body (tb W))
    (hh : TellsOk X n (h1 :: hds) l) : PS X (.Try body (h1 :: hds) [] [] pos) (fun D σ H => tb (wTells X.K i Wo D l) D σ H) := by
  refine ⟨fun pins s σ H D I q0 => ?_⟩
  have kk := I.ok
  have frs2 : X.A.frames = some (X.env :: X.outer) := by rw [kk.frames, st]
  have hl2 : Loc X.env.scope n := .inl lo
  refine wpAny_Try_except ?_
  refine wpAny_mono ((bo (wTells X.K i Wo D l) (X.pn ++ pins) (fun e sa => wpAny (model X.prog X.w) X.A (noteFrame e X.env) (fun _ sb => wpAny (model X.prog X.w) X.A (setFlight e none) (fun _ sc =>
    wpAny (model X.prog X.w) X.A (handleBy e X.env (h1 :: hds)) (SP X pins D) X.xe sc) X.xe sb) X.xe sa) (fun u s' xx => ?_) PassesOwn.looking).run [] s σ H D (I.toTry _) q0) (fun f s1 hsp => ?_) (fun e s1 z => z)
  · obtain ⟨x, B, sI, _, σ2, H2, k, d, rfl, Ja, nb, up, sky, nx2, os, ag, w⟩ := xx
    have Jb : Inv X pins σ2 H2 sI := Ja.ofTry kk
    have sk2 : Sky B (X.env :: X.outer) x (Zc k d) X.env.locals s'.heap := by rw [← st]; exact sky
    show wpAny (model X.prog X.w) X.A (noteFrame (.ref x) X.env) _ _ _
    refine Sky.land Zc.steady frs2 fr sk2 fun ha fa ua => ?_
    have Jc : Inv X pins σ2 H2 { s' with heap := ha } := Jb.landed nb fa.1 (up.trans ua) os ag
    obtain ⟨oa, va, ea, za, da⟩ := fa.there
    have out : ∀ {h : Heap} {o : Obj} {vs : Array Value}, h.FunFrames B (X.env :: X.outer) → h.get? x = some o → o.data = .fields vs → x ∉ frs (X.env :: X.outer) := fun {h o vs} ff e dd m => by
      obtain ⟨_, o2, e2, nf⟩ := ff.mem m
      rw [e] at e2
      cases e2
      exact nf _ dd
    have nfa := out fa.2.2.1 ea da
    have nla : x ≠ X.env.locals := fun z => nfa (List.mem_filterMap.mpr ⟨X.env, List.mem_cons_self, by rw [fr, z]⟩)
    have nfs : x ∉ X.fs := fun m => by
      obtain ⟨e, me, q⟩ := List.mem_filterMap.mp m
      exact nfa (List.mem_filterMap.mpr ⟨e, List.mem_cons_of_mem _ me, q⟩)
    have Sa := Jc.suite ea da nx2 nla nfs
    have go : ∀ {hd2 : List ExceptHandler} {l2 : List HdT}, TellsOk X n hd2 l2 → wTells X.K i Wo D l2 k d σ2 H2 → wpAny (model X.prog X.w) X.A (handleBy (.ref x) X.env hd2) (SP X pins D) X.xe { s' with heap := ha } := by
      intro hd2 l2 ok2
      induction ok2 with
      | nil =>
        intro w2
        refine wpAny_handleBy_nil ?_
        obtain ⟨_, _, _, o5, v5, T, oT, t5, e5, z5, d5, g5, _⟩ := id fa
        unfold PySem.passOn
        refine wpAny_bind (wpAny_field e5 d5 g5 ?_)
        rw [if_neg (show ¬ ((Value.ref T == Value.none) = true) by simp)]
        have fin : wpAny (model X.prog X.w) X.A (setFlight (.ref x) X.env.frame) (fun _ sd => wpAny (model X.prog X.w) X.A (throw (.ref x) : Sem Flow) (SP X pins D) X.xe sd) X.xe { s' with heap := ha } := by
          rw [fr]
          refine HandSPX.setFlight_upZ fa fun hb hhb ub => wpAny_throw (tk _ _ ?_)
          exact ⟨x, B, sI, pins, σ2, H2, k, d, rfl, Jb, nb, (up.trans ua).trans ub, .inr (.inr (by rw [st]; exact hhb)), nx2, os, ag, w2⟩
        first
          | exact wpAny_bind (wpAny_pure (wpAny_bind fin))
          | exact wpAny_bind fin
      | @cons y c u b bs p1 p2 hd3 l3 hc hu r ih =>
        intro w2
        obtain ⟨bb, e1, yes, no⟩ := w2
        refine wpAny_handleBy_cons (codeAny_handlers_test ?_) (by intro q; cases q)
        have LA : PySem.W.Looks (model X.prog X.w) ha (typeOf (.ref x)) k := fun A Q E s k2 q => wpAny_typeOf_ref (k2 _ _ ea) (by rw [za.1]; exact q)
        have LB := PySem.W.exm_one (M := model X.prog X.w) Jc.kIn LA e1
        have tst : ∀ {Q E : Value → Shared → Prop}, Q c { s' with heap := ha } → wpAny (model X.prog X.w) (X.A.mark (some (.ref x))) (eval (.Name y p1) X.env) Q E { s' with heap := ha } := fun {Q E} q => by
          obtain ⟨g1, g2, g3 | ⟨g3, g4, g5⟩⟩ := hc
          · exact ld_glob (X := X.suite x ((x, oa) :: (X.pn ++ pins))) Sa g1 g3 q g2
          · exact ld_blt (X := X.suite x ((x, oa) :: (X.pn ++ pins))) Sa g1 g3 g4 q g5 g2
        refine tst (LB.here ?_)
        cases bb with
        | true =>
          refine codeAny_handlers_suite_as ?_
          refine HandSPX.lands_againZ fa fun hb fb ub => ?_
          have Jd : Inv X pins σ2 H2 { s' with heap := hb } := Jb.landed nb fb.1 ((up.trans ua).trans ub) os ag
          obtain ⟨ob, vb, eb, zb, db⟩ := fb.there
          have Sb := Jd.suite eb db nx2 nla nfs
          refine store_ok (X := X.suite x ((x, ob) :: (X.pn ++ pins))) (v := .ref x) Sb nd at_ hl2 rfl (fun s5 Sc => ?_) (.inr lo)
          refine wpAny_mono ((hu x ob k d (X.pn ++ pins) zb ⟨_, db⟩).run [] s5 _ H2 _ Sc (yes rfl x nx2)) (fun f s6 hs6 => ?_) (fun _ _ z => z.elim)
          have fin : ∀ {σ6 : L2.St} {H6 : Hp} {Q : Shared → Prop}, Inv (X.suite x ((x, ob) :: (X.pn ++ pins))) [] σ6 H6 s6 → (∀ s7, Inv X pins (σ6.set i none) H6 s7 → Q s7) →
              wpAny (model X.prog X.w) X.A (do bindName X.env n .none; unbindBehindTheSuite X.env n p2) (fun _ s7 => Q s7) X.xe s6 := fun {σ6 H6 Q} Sd hq => gone_ok (Sd.unsuite kk) nd at_ lo hq
          cases f with
          | next =>
            obtain ⟨_, _, Sd, q6⟩ := hs6
            exact fin Sd fun s7 Je => ⟨_, _, Je, q6⟩
          | brk =>
            obtain ⟨_, _, Sd, q6⟩ := hs6
            exact fin Sd fun s7 Je => ⟨_, _, Je, q6⟩
          | cont =>
            obtain ⟨_, _, Sd, q6⟩ := hs6
            exact fin Sd fun s7 Je => ⟨_, _, Je, q6⟩
          | ret u6 =>
            obtain ⟨_, _, _, Sd, r6, q6⟩ := hs6
            exact fin Sd fun s7 Je => ⟨_, _, _, Je, r6, q6⟩
        | false =>
          show wpAny _ X.A (handleBy (.ref x) X.env hd3) _ _ _
          exact ih (no rfl)
    exact go hh w
  · cases f with
    | next =>
      obtain ⟨_, _, Je, q⟩ := hsp
      exact wpAny_execs_nil ⟨_, _, Je.ofTry kk, q⟩
    | brk =>
      obtain ⟨_, _, Je, q⟩ := hsp
      exact ⟨_, _, Je.ofTry kk, q⟩
    | cont =>
      obtain ⟨_, _, Je, q⟩ := hsp
      exact ⟨_, _, Je.ofTry kk, q⟩
    | ret u6 =>
      obtain ⟨_, _, _, Je, r, q⟩ := hsp
      exact ⟨_, _, _, Je.ofTry kk, r, q⟩
/-- a suite that is read only where what it caught is of a known class -/
theorem pss_known {X : Cx} {bs : List Stmt} {D : Addr} {k : Value} {d : Option Addr} {t : TS} (h : k = .ref D → d = none → PSs X bs t) : PSs X bs (fun E σ H => k = .ref D ∧ d = none ∧ t E σ H) :=
  ⟨fun pins s σ H E I q => (h q.1 q.2.1).run pins s σ H E I q.2.2⟩
end
end Vw

set_option Elab.async false
set_option linter.all false
set_option maxRecDepth 100000
set_option maxHeartbeats 4000000
namespace Vw
open PySem PySem.Spec PyProof.Rows L2 RT
/-! ### list.count, flat items -/
def rCntF (K : PySem.W.Frag) : V → List V → Hp → VK → Prop := fun x xs H Q => ∃ (a : Addr) (ys : List V) (y : V), x = .ref a ∧ xs = [y] ∧ SqL K H a ys ∧ flatV y = true ∧ ys.all flatV = true ∧ Q (.int (ys.countP fun z => eqV z y : Nat)) H
theorem eqU_count {y : V} (fy : flatV y = true) : ∀ {ys : List V} {its : List Value}, Vals ys its → ys.all flatV = true → its.countP (eqU y) = ys.countP fun z => eqV z y
  | [], _, h, _ => by cases h; rfl
  | z :: zs, _, h, f => by
    cases h with
    | cons r rr =>
      rw [List.all_cons, Bool.and_eq_true] at f
      rw [List.countP_cons, List.countP_cons, eqU_count fy rr f.2, eqU_of r f.1]
theorem mt_cntF {X : Cx} : MtR X "list.count" (rCntF X.K) := by
  intro pins s σ H x xs v us Q I rx rxs h
  obtain ⟨a, ys, y, rfl, rfl, hs, fy, fys, q⟩ := h
  cases rx
  cases rxs with
  | cons ry rt =>
    rename_i uy ut
    cases rt
    obtain ⟨its, rv, ⟨⟨cls, dd, data, sl⟩, n, ho, hc, hdn, hd⟩, hlen⟩ := I.list hs
    simp only at hc hd
    subst hc hd
    refine call_meets PySem.F.slot_list_count ⟨_, ho, rfl⟩ PySem.F.entry_list_count (PySem.F.args_list_count_2 _ _) (SeqAt.list_countAt a its.toArray n dd sl uy (eqU y)) ⟨ho, fun u hu => mem_eqAt ry fy rv fys u (by simpa using hu), ?_⟩
    have ec : its.toArray.toList.countP (eqU y) = ys.countP fun z => eqV z y := eqU_count fy rv fys
    refine ⟨.int (ys.countP fun z => eqV z y : Nat), H, I.tok _, ⟨s.toks, ?_⟩, q⟩
    show Value.int ((its.toArray.toList.countP (eqU y) : Nat) : Int) s.toks = _
    rw [ec]
theorem o_cntF {K : PySem.W.Frag} {a : Addr} {H : Hp} {Q : VK} {ys : List V} {y : V} (h : SqL K H a ys) (f : flatV y = true) (g : ys.all flatV = true) (q : Q (.int (ys.countP fun z => eqV z y : Nat)) H) : rCntF K (.ref a) [y] H Q := ⟨a, ys, y, rfl, rfl, h, f, g, q⟩
end Vw

set_option Elab.async false
set_option linter.all false
set_option maxRecDepth 100000
set_option maxHeartbeats 4000000
namespace Vw
open PySem PySem.Spec PyProof.Rows L2 RT
/-! ### a tuple so many times, none and once too -/
theorem mul1_road (a : Addr) (its : Array Value) (m : Nat) (od : Option Addr) (sl : Array (Option Value)) (k : Tok) (e1 : (its.isEmpty || (1 : Int) == 1) = true) :
    Meets (Builtin.«tuple.__mul__» ⟨[.ref a, .int 1 k], []⟩) (fun _ R s => s.heap.get? a = some { cls := .type "tuple", dict := od, data := .seq its m, slots := sl } ∧
      R (.ok (.ret (Value.ref a))) s) :=
  .of_wp fun prog w A R s h => by
    obtain ⟨hp, gl, dd, tk, os⟩ := s
    obtain ⟨hl, h⟩ := h
    have f1 := AutoSeq1.idx_int
    wp_walk using wpAny_loadPart' hl
    repeat (first
      | (refine wpAny_ite_false (by decide) ?_; wp_walk using wpAny_loadPart' hl)
      | (refine wpAny_ite_true (by rw [e1]) ?_; wp_walk using wpAny_loadPart' hl)
      | (refine wpAny_ite_true (decide_eq_true (by rw [e1])) ?_; wp_walk using wpAny_loadPart' hl)
      | (refine wpAny_ite_true (by decide) ?_; wp_walk using wpAny_loadPart' hl)
      | (refine wpAny_ite_true (by simp) ?_; wp_walk using wpAny_loadPart' hl))
    exact ⟨_, rfl, h⟩
def rOnce (K : PySem.W.Frag) : R2 := fun x y H Q => ∃ (a : Addr) (xs : List V), x = .ref a ∧ y = .int 1 ∧ SqT K H a xs ∧ xs ≠ [] ∧ Q (.ref a) H
theorem op_once {X : Cx} : OpR X (binaryOp .Mult) (rOnce X.K) := by
  intro pins st σ H x y v u Q I rx ry ⟨a, xs, ex, ey, hT, hne, q⟩
  subst ex ey
  cases rx
  obtain ⟨tk, rfl⟩ := ry
  obtain ⟨its, r, ⟨ob, ho, hc, m, hd⟩, hs⟩ := I.tuple hT
  obtain ⟨cls, dd, data, sl⟩ := ob
  have hc : cls = .type "tuple" := hc
  have hd : data = .seq its.toArray m := hd
  subst hc hd
  have fin : EP X pins σ Q (.ref a) st := ⟨.ref a, _, I, rfl, q⟩
  exact wpAny_binaryOp_repeat_ref (T := "tuple") (U := "int") (by decide) ⟨_, ho, rfl⟩ (fun s' => typeIs_int s' 1 tk) noFill_tuple_mul F.fills_int_mul F.slot_int_rmul repeat_tuple F.slot_int_index.lookup
    (call_meets F.slot_int_rmul (typeIs_int st 1 tk) F.entry_int_rmul (F.args_int_rmul_2 _ _) (int_rmul_tuple 1 tk a its.toArray m dd sl) ⟨ho, rfl, ⟨_, ho, rfl⟩,
      call_meets F.slot_tuple_mul ⟨_, ho, rfl⟩ F.entry_tuple_mul (F.args_tuple_mul_2 _ _) (mul1_road a its.toArray m dd sl tk (by simp)) ⟨ho, fin⟩⟩)
def rTimesW (K : PySem.W.Frag) : R2 := fun x y H Q => ∃ (a : Addr) (n : Nat) (xs : List V), x = .ref a ∧ y = .int n ∧ SqT K H a xs ∧ xs ≠ [] ∧ 2 ≤ n ∧ n ≤ 8000 ∧ xs.length ≤ 8 ∧ ∀ p, H p = none → Q (.ref p) (upd H p (.tup (List.replicate n xs).flatten))
theorem timesW_len {α : Type} {xs : List α} {n : Nat} (h : n ≤ 8000) (h2 : xs.length ≤ 8) : (List.replicate n xs).flatten.length ≤ sizeLine := by
  rw [PyProof.Rows.lm_len_rep_flat]
  exact Nat.le_trans (Nat.mul_le_mul h h2) (by decide)
theorem op_timesW {X : Cx} : OpR X (binaryOp .Mult) (rTimesW X.K) := by
  intro pins st σ H x y v u Q I rx ry ⟨a, n, xs, ex, ey, hT, hne, h2, hn, hz, q⟩
  subst ex ey
  cases rx
  obtain ⟨tk, rfl⟩ := ry
  obtain ⟨its, r, ⟨ob, ho, hc, m, hd⟩, hs⟩ := I.tuple hT
  obtain ⟨cls, dd, data, sl⟩ := ob
  have hc : cls = .type "tuple" := hc
  have hd : data = .seq its.toArray m := hd
  subst hc hd
  have ln : its.length = xs.length := r.length.symm
  have pos : 0 < its.length := by rw [ln]; exact List.length_pos_iff.mpr hne
  have em : its.toArray.isEmpty = false := by rw [List.isEmpty_toArray]; cases its with
    | nil => cases pos
    | cons _ _ => rfl
  have sz : its.toArray.size = xs.length := by rw [List.size_toArray, ln]
  have pm : ((its.toArray.size : Nat) : Int) * (n : Int) ≤ 64000 := by
    rw [sz, ← Int.natCast_mul]
    have := Nat.mul_le_mul hz hn
    omega
  have nn : ((n : Nat) : Int).toNat = n := Int.toNat_natCast n
  have tm : Builtin.Tuple.tupleTooMany (((its.toArray.size : Nat) : Int) * (n : Int)) = false := by
    have e : (64000 : Int) < (sizeLine : Nat) := by decide
    unfold Builtin.Tuple.tupleTooMany; exact decide_eq_false (by omega)
  have b0 : (decide ((n : Int) < -(2 ^ 63)) || decide ((n : Int) ≥ 2 ^ 63)) = false := by
    rw [Bool.or_eq_false_iff]; exact ⟨decide_eq_false (by omega), decide_eq_false (by omega)⟩
  have b1 : (its.toArray.isEmpty || (n : Int) == 1) = false := by
    rw [em, Bool.false_or, beq_eq_false_iff_ne]; omega
  have b2 : (decide ((n : Int) ≤ 0) || its.toArray.isEmpty) = false := by
    rw [em, Bool.or_false]; exact decide_eq_false (by omega)
  have fl := size_rep its n
  have road := tuple_mulW a its.toArray m dd sl (n : Int) tk b0 b1 b2 (by omega) tm (by rw [nn, fl, List.size_toArray]; exact timesW_len hn (by omega))
  have fin : EP X pins σ Q (.ref st.heap.objs.size) { st with heap := st.heap.push { cls := Value.type "tuple", data := Data.seq (List.replicate n its).flatten.toArray }, toks := st.toks } :=
    ⟨.ref st.heap.objs.size, _, I.laid (t' := st.toks) (o := .tup (List.replicate n xs).flatten) (fun _ _ g => Heap.get?_push_of_some _ g) (Nat.le_refl _) ⟨timesW_len hn hz, _, r.rep n, IsTup.new _ _⟩, rfl, q _ (I.hok.fresh (Nat.le_refl _))⟩
  exact wpAny_binaryOp_repeat_ref (T := "tuple") (U := "int") (by decide) ⟨_, ho, rfl⟩ (fun s' => typeIs_int s' (n : Int) tk) noFill_tuple_mul F.fills_int_mul F.slot_int_rmul repeat_tuple F.slot_int_index.lookup
    (call_meets F.slot_int_rmul (typeIs_int st (n : Int) tk) F.entry_int_rmul (F.args_int_rmul_2 _ _) (int_rmul_tuple (n : Int) tk a its.toArray m dd sl) ⟨ho, rfl, ⟨_, ho, rfl⟩,
      call_meets F.slot_tuple_mul ⟨_, ho, rfl⟩ F.entry_tuple_mul (F.args_tuple_mul_2 _ _) road ⟨ho, by rw [nn, fl]; exact fin⟩⟩)
abbrev rTimesV (K : PySem.W.Frag) : R2 := rOr (rTimesW K) (rOr (rOnce K) (rNoTimes K))
theorem oTimesV {K : PySem.W.Frag} {X : Cx} (e : X.K = K := by rfl) : OpR X (binaryOp .Mult) (rTimesV K) := by cases e; exact oOr op_timesW (oOr op_once op_noTimes)
section
variable {K : PySem.W.Frag} {H : Hp} {Q : VK}
theorem o_timesV {a : Addr} {n : Nat} {xs : List V} {i : Int} (h : SqT K H a xs) (ne : xs ≠ []) (e : i = (n : Nat)) (hn : n ≤ 8000) (hz : xs.length ≤ 8) (q : ∀ p H2, Same H H2 → SqT K H2 p (List.replicate n xs).flatten → Q (.ref p) H2) : rTimesV K (.ref a) (.int i) H Q := by
  rcases (show n = 0 ∨ n = 1 ∨ 2 ≤ n by omega) with rfl | rfl | h2
  · exact .inr (.inr ⟨a, xs, rfl, by rw [e]; rfl, h, ne, fun p np => q p _ (Same.new np) (stO upd_same)⟩)
  · exact .inr (.inl ⟨a, xs, rfl, by rw [e]; rfl, h, ne, q a H (Same.refl _) (by simpa using h)⟩)
  · exact .inl ⟨a, n, xs, rfl, by rw [e], h, ne, h2, hn, hz, fun p np => q p _ (Same.new np) (stO upd_same)⟩
end
end Vw

set_option Elab.async false
set_option linter.all false
set_option maxRecDepth 100000
set_option maxHeartbeats 4000000
namespace Vw
open PySem PySem.Spec PyProof.Rows L2 RT
/-! ### o.f as one of several targets -/
def gFld (K : PySem.W.Frag) (to : TE) (f : Str) : TG := fun v σ H Q => to σ H fun x H1 => ∃ a C dx fs, x = .ref a ∧ H1 a = some (.ins C dx fs) ∧ Cls K C ∧ NoAttr K C f ∧ fs.length < 1000 ∧ Q σ (upd H1 a (.ins C dx (putF f v fs)))
section
variable {X : Cx} {o : Expr} {to : TE} {f : Str} {pos : Pos}
theorem pg_fld (ho : PE X o to) (ha : ∀ v, assign (.Attribute o f pos) X.env v = (do
      let ov ← holding [v] (eval o X.env)
      standAt pos.atName
      holding [v, ov] (setAttr ov f v)
      release [v, ov] []) := by intro _; rfl) : PG X (.Attribute o f pos) (gFld X.K to f) := by
  refine ⟨fun pins s σ H v u Q I r h => ?_⟩
  rw [ha]
  refine wpAny_bind (wpAny_holding (thn (ho.run pins s σ H _ I h) fun ov s1 ⟨x, H1, I1, r1, a, C, dx, fs, ex, ea, c, n, l, q1⟩ => ?_))
  subst ex
  obtain rfl : ov = Value.ref a := r1
  refine wpAny_bind (wpAny_standAt (wpAny_bind (wpAny_holding ?_)))
  exact setattr_ok I1 ea c n l r fun s3 I3 => wpAny_release ⟨σ, _, I3, q1⟩
end
theorem pgFld {X : Cx} {K : PySem.W.Frag} {o : Expr} {to : TE} {f : Str} {pos : Pos} (ho : PE X o to) (eK : X.K = K := by rfl) (ha : ∀ v, assign (.Attribute o f pos) X.env v = (do
      let ov ← holding [v] (eval o X.env)
      standAt pos.atName
      holding [v, ov] (setAttr ov f v)
      release [v, ov] []) := by intro _; rfl) : PG X (.Attribute o f pos) (gFld K to f) := by cases eK; exact pg_fld ho ha
end Vw
namespace Vw
open PySem PySem.Spec PyProof.Rows L2 RT
/-! ### list.extend of a list -/
theorem list_extend_lst (l : Addr) (items : Array Value) (n : Nat) (b : Addr) (items2 : Array Value) (n2 : Nat) (hs0 : ¬(!items.isEmpty && Builtin.List.listTooLong (items.size + items2.size)) = true) (hs1 : items.size ≤ sizeLine) (hs2 : items.size + items2.size ≤ sizeLine + 1) :
    Meets (Builtin.«list.extend» ⟨[.ref l, .ref b], []⟩) (fun _ R s => s.heap.get? l = some { cls := .type "list", dict := none, data := .seq items n, slots := #[] } ∧ s.heap.get? b = some { cls := .type "list", dict := none, data := .seq items2 n2, slots := #[] } ∧ R (.ok (.ret Value.none)) { s with heap := s.heap.update l (Obj.mapSeq fun x => x ++ items2), toks := s.toks }) :=
  .of_wp fun prog w A R s h => by
    obtain ⟨hp, g, d, tk, os⟩ := s; obtain ⟨hl, hb, h⟩ := h; have f1 := PySem.AutoSeq1.idx_int; have f2 := PySem.AutoSeq1.sub_tuple_tuple; have f3 := PySem.AutoSeq1.sub_list_list; have f4 := PySem.AutoSeq1.sub_tuple_list; have f5 := PySem.AutoSeq1.sub_list_tuple;
    have hz' : (items ++ items2).size ≤ sizeLine + 1 := by rw [Array.size_append]; exact hs2
    wp_walk using (wpAny_updateSeq hl rfl (hz := hs1) (_hz' := hz')), PySem.AutoSeq1.wpAny_loadPart' hl, PySem.AutoSeq1.wpAny_loadPart' hb; exact ⟨_, rfl, h⟩
def rExtL : V → List V → Hp → VK → Prop := fun x vs H Q => ∃ l b xs zs, x = .ref l ∧ vs = [.ref b] ∧ H l = some (.lst xs) ∧ H b = some (.lst zs) ∧ xs.length + zs.length ≤ sizeLine ∧ Q .non (upd H l (.lst (xs ++ zs)))
section
variable {X : Cx}
theorem mt_extL : MtM X "list.extend" rExtL := by
  intro pins s σ H x vs v us Q I rx rv h
  obtain ⟨l, b, xs, zs, rfl, rfl, hH, hB, hz, q⟩ := h
  cases rx
  obtain ⟨u, rfl, ru⟩ := rv.one
  cases ru
  obtain ⟨z, its, n, r, hl, e⟩ := I.lstM hH
  obtain ⟨z2, its2, n2, r2, hl2, e2⟩ := I.lstM hB
  have hl3 := r2.length
  have hsz : its.toArray.size + its2.toArray.size ≤ sizeLine := by rw [List.size_toArray, List.size_toArray]; omega
  have hlong : ¬ (!its.toArray.isEmpty && Builtin.List.listTooLong (its.toArray.size + its2.toArray.size)) = true := by
    rw [show Builtin.List.listTooLong (its.toArray.size + its2.toArray.size) = false from decide_eq_false (by omega), Bool.and_false]
    exact Bool.false_ne_true
  refine call_meets F.slot_list_extend ⟨_, e, rfl⟩ F.entry_list_extend (F.args_list_extend_2 _ _)
    (list_extend_lst l its.toArray n b its2.toArray n2 hlong (by rw [List.size_toArray]; omega) (by omega)) ⟨e, e2, ?_⟩
  refine ⟨.non, _, I.lset (its' := its ++ its2) hH e (by simp) (r.append r2) ?_, rfl, q⟩
  rw [List.length_append]
  omega
end
section
variable {K : PySem.W.Frag} {σ : L2.St} {H : Hp} {Q : VK} {l b : Addr} {xs zs : List V}
theorem r_extL (h : H l = some (.lst xs)) (hb : H b = some (.lst zs)) (hl : xs.length + zs.length < 100000) (q : ∀ H2, Oth l H H2 → H2 l = some (.lst (xs ++ zs)) → Q .non H2) : rExtL (.ref l) [.ref b] H Q :=
  ⟨l, b, xs, zs, rfl, rfl, h, hb, Nat.le_of_lt (lt_size hl), q _ (fun c o z e => by rw [upd_ne z]; exact e) upd_same⟩
end
end Vw

set_option Elab.async false
set_option linter.all false
set_option maxRecDepth 100000
set_option maxHeartbeats 4000000
namespace Vw
open PySem PySem.Spec PyProof.Rows L2 RT
/-! ### a text so many times -/
def repS (z : Str) (n : Nat) : Str := ⟨(List.replicate n z.cps).foldl (· ++ ·) #[]⟩
def rTimesS : R2 := fun x y H Q => ∃ (z : Str) (n : Nat), x = .str z ∧ y = .int n ∧ 1 ≤ z.length ∧ z.length ≤ 100 ∧ 2 ≤ n ∧ n ≤ 100 ∧ (repS z n).length ≤ sizeLine ∧ Q (.str (repS z n)) H
theorem op_timesS {X : Cx} : OpR X (binaryOp .Mult) rTimesS := by
  intro pins st σ H x y v u Q I rx ry ⟨z, n, ex, ey, h1, h2, h3, h4, h5, q⟩
  subst ex ey
  obtain ⟨tz, rfl⟩ := rx
  obtain ⟨tk, rfl⟩ := ry
  have b1 : ((n : Int) == 1 || z.length == 0) = false := by
    rw [Bool.or_eq_false_iff, beq_eq_false_iff_ne, beq_eq_false_iff_ne]; omega
  refine P.mul_str ?_ (fun _ _ => ?_) (fun _ _ => ?_) ?_
  · rw [Bool.or_eq_false_iff]; exact ⟨decide_eq_false (by omega), decide_eq_false (by omega)⟩
  · have : (2 ^ 63 - 1 : Int) / (n : Int) ≥ (2 ^ 63 - 1) / 100 := by
      refine Int.le_ediv_of_mul_le (by omega) ?_
      omega
    omega
  · rw [Int.toNat_natCast]
    have := Nat.mul_le_mul h2 h4
    exact decide_eq_false (by have e : (10000 : Nat) < sizeLine := by decide
                              omega)
  · rw [if_neg (by omega), if_neg (by rw [b1]; exact Bool.false_ne_true), Int.toNat_natCast]
    exact ⟨h5, ⟨.str (repS z n), H, I.tok _, ⟨_, rfl⟩, q⟩⟩
theorem oMulVS {K : PySem.W.Frag} {X : Cx} (e : X.K = K := by rfl) : OpR X (binaryOp .Mult) (rOr rTimesS (rTimesV K)) := oOr op_timesS (oTimesV e)
section
variable {K : PySem.W.Frag} {H : Hp} {Q : VK}
theorem o_timesS {z y : Str} {i : Int} {r : R2} (n : Nat) (e : i = (n : Nat)) (h1 : 1 ≤ z.length) (h2 : z.length ≤ 100) (h3 : 2 ≤ n) (h4 : n ≤ 100) (ey : repS z n = y) (hy : y.length ≤ sizeLine) (q : Q (.str y) H) : rOr rTimesS r (.str z) (.int i) H Q := by
  subst e ey
  exact .inl ⟨z, n, rfl, rfl, h1, h2, h3, h4, hy, q⟩
end
end Vw

set_option Elab.async false
set_option linter.all false
set_option maxRecDepth 100000
set_option maxHeartbeats 4000000
namespace Vw
open PySem PySem.Spec PyProof.Rows L2 RT
/-! ### what is never reached -/
section
variable {X : Cx}
theorem pe_no {e : Expr} : PE X e (fun _ _ _ => False) := ⟨fun _ _ _ _ _ _ h => h.elim⟩
theorem pt_no {e : Expr} : PT X e (fun _ _ _ => False) := ⟨fun _ _ _ _ _ _ h => h.elim⟩
theorem ps_no {st : Stmt} : PS X st (fun _ _ _ => False) := ⟨fun _ _ _ _ _ _ h => h.elim⟩
theorem pg_no {tg : Expr} : PG X tg (fun _ _ _ _ => False) := ⟨fun _ _ _ _ _ _ _ _ _ h => h.elim⟩
theorem pss_no {st : List Stmt} : PSs X st (fun _ _ _ => False) := ⟨fun _ _ _ _ _ _ h => h.elim⟩
end
/-! ### a comprehension of several clauses over nothing -/
section
variable {prog : Program} {w : World} {A : Around} {R : Result → Shared → Prop} {s : Shared} {elt tg iter : Expr} {ifs : List Expr} {rest : List Comprehension} {scope : Scope} {pos : Pos} {it acc : Value} {env : Env}
theorem compEnds (h : wpAny (model prog w) A (pyNext it) (fun r s1 => r = none ∧ R (.ok .next) s1) (fun _ _ => False) s) :
    codeAny (model prog w) A (.compLoop (.ListComp elt (⟨tg, iter, ifs, 0⟩ :: rest) scope pos) 0 it acc env) R s := by
  refine codeAny_of_tree ?_
  show wpAny _ A ((compTurn (.ListComp elt (⟨tg, iter, ifs, 0⟩ :: rest) scope pos) 0 it acc env).onRaise (fun x => do noteFrame x env; theTreesLotGoes x)) _ _ s
  refine wpAny_noted ?_
  unfold compTurn
  refine wpAny_bind (wpAny_standAt (wpAny_bind (wpAny_mono h (fun r s1 h1 => ?_) fun _ _ z => z.elim)))
  obtain ⟨rfl, h1⟩ := h1
  exact wpAny_pure h1
end
section
variable {X : Cx}
def tLcE (wi : TI) : TE := fun σ H Q => wi σ H fun J H1 => ∀ D, H1 D = none → J.stop 0 (upd H1 D (.lst [])) ∧ Q (.ref D) (upd H1 D (.lst []))
theorem pe_lcE {elt tg iter : Expr} {ifs : List Expr} {rest : List Comprehension} {scope : Scope} {own : List (Str × Nat)} {pos : Pos} {wi : TI} (hc : X.calm = true) (hN : X.N.Nodup) (hi : PI X tg iter wi) (ok : BlkOk X.N X.env.scope scope own)
    (hs : ∀ x, foldedSetIterable iter X.env x = pure x := by intro _; rfl) : PE X (.ListComp elt (⟨tg, iter, ifs, 0⟩ :: rest) scope pos) (tLcE wi) := by
  refine ⟨fun pins s σ H Q I h => ?_⟩
  rw [eval_ListComp]
  have frees : ∀ z ∈ scope.names, z.2 = .free → ∃ c, X.env.cells.lookup z.1 = some c := fun z hz e => (ok.free z hz e).elim (fun k => I.ok.has _ (.inl k)) fun k => I.ok.has _ (.inr k)
  refine wpAny_comprehension_free (use := none) rfl hs (closure_ok frees) ok.kind (fun z hz e => by rw [ok.uniq z hz, e]) (thn (hi.run pins s σ H _ I h) fun xv s1 hx => thn hx fun itv s2 h2 => ?_)
  obtain ⟨it, fp, tn, J, H2, e, I2, T, st2, f2, q⟩ := h2
  subst e
  refine wpAny_newObj_type (newEnv_comp ?_) (by show 0 ≤ sizeLine; decide)
  generalize hD : s2.heap.objs.size = D
  have nD : H2 D = none := I2.hok.fresh (Nat.le_of_eq hD)
  obtain ⟨stop, qq⟩ := q D nD
  generalize hs3 : ({ s2 with heap := s2.heap.push { cls := .type "list", data := .seq ([] : List Value).toArray } } : Shared) = s3
  have I3 : Inv X pins σ (upd H2 D (.lst [])) s3 := by
    rw [← hs3]
    refine I2.laid (t' := s2.toks) (fun b o e => Heap.get?_push_of_some _ e) (Nat.le_of_eq hD) ⟨Nat.zero_le _, [], 0, .nil, ?_⟩
    rw [← hD]; exact Heap.get?_push_size _ rfl
  have h3 : s3.heap = s2.heap.push { cls := .type "list", data := .seq ([] : List Value).toArray } := by rw [← hs3]
  have old : ∀ b ∈ fp, b < s2.heap.objs.size := fun b hb => (T.obj _ _ st2 b hb).elim fun o e => Heap.lt_size e.1
  have f3 : ∀ b ∈ fp, FpOk X pins (upd H2 D (.lst [])) b ∧ b < s3.heap.objs.size := fun b hb => by
    have l := old b hb
    have nb : upd H2 D (.lst []) b = none := by
      rw [upd_ne (by rw [← hD]; exact Nat.ne_of_lt l)]; exact (f2 b hb).1
    exact ⟨⟨nb, (f2 b hb).2⟩, by rw [h3, Heap.size_push]; exact Nat.lt_succ_of_lt l⟩
  have st3 : tn 0 s3.heap := T.keep _ _ _ st2 fun b _ o e => by rw [h3]; exact Heap.get?_push_of_some _ e
  have I4 := block_start I3 ok hN f3
  show codeAny _ _ (.compStart (.ListComp elt (⟨tg, iter, ifs, 0⟩ :: rest) scope pos) 0 (.ref it) (.ref D) (compEnvC scope (cellsFrom (s3.heap.objs.size + 1) scope.names (cloFrom X.env.cells scope.names [])) s3.heap.objs.size X.env)) (compPost (model X.prog X.w) X.A X.xe none _ (.ref D) s3.heap.objs.size) { s3 with heap := pushCells (s3.heap.push { cls := .type "dict", data := .dict #[] }) scope.names }
  have none3 : ∀ b ∈ fp, (upd H2 D (.lst [])) b = none := fun b hb => (f3 b hb).1.1
  generalize hce : compEnvC scope (cellsFrom (s3.heap.objs.size + 1) scope.names (cloFrom X.env.cells scope.names [])) s3.heap.objs.size X.env = ce at I4 ⊢
  have cL : ce.locals = s3.heap.objs.size := by subst hce; rfl
  generalize hH3 : upd H2 D (.lst []) = H3 at I3 I4 none3 f3 stop qq
  generalize hs4 : ({ s3 with heap := pushCells (s3.heap.push { cls := .type "dict", data := .dict #[] }) scope.names } : Shared) = s4 at I4 ⊢
  have st4 : tn 0 s4.heap := T.keep _ _ _ st3 fun b _ o e => by rw [← hs4]; exact pushCells_keeps _ _ _ _ (Heap.get?_push_of_some _ e)
  have stat : ∀ b ∈ fp, FpOk (X.blk s3 H3 scope ce fp) [] H3 b := fun b hb => ⟨none3 b hb, (I4.ok.exf b hb).1, I4.ok.exfs b hb, .inl hb, fun x c e => (I4.ok.exf b hb).2 x c e, fun p hp => absurd (show p ∈ ([] : List (Addr × Obj)) ++ [] from hp) (by simp)⟩
  have loop : codeAny (model X.prog X.w) X.A (.compLoop (.ListComp elt (⟨tg, iter, ifs, 0⟩ :: rest) scope pos) 0 (.ref it) (.ref D) ce) (compPost (model X.prog X.w) X.A X.xe none (EP X pins σ Q) (.ref D) s3.heap.objs.size) s4 := by
    refine compEnds (wpAny_mono (T.done (X.blk s3 H3 scope ce fp) rfl rfl rfl hc 0 [] s4 _ H3 (fun _ _ => False) I4 stat st4 stop) (fun r s6 hr => ?_) fun _ _ z => z)
    obtain ⟨er, I6⟩ := hr
    refine ⟨er, ?_⟩
    have I7 : Inv X pins σ H3 s6 := I3.call' (ch := fp) I6.os I6.base I6.hok I6.bare fun b hb => ⟨(f3 b hb).1.2.2.2.1, (f3 b hb).1.2.1, (f3 b hb).1.2.2.2.2.1, (f3 b hb).1.2.2.2.2.2⟩
    have nC : H3 s3.heap.objs.size = none := by
      have z : H3 ce.locals = none := I6.free
      rw [cL] at z; exact z
    obtain ⟨m, hn, _⟩ := I6.loc
    have hn : s6.heap.Ns ce.locals m := hn
    rw [cL] at hn
    refine ⟨m, hn, fun h'' sb => ?_⟩
    obtain ⟨f0, f1, f2, f3, f4, f5⟩ := I3.fpOk (Nat.le_refl _) nC
    exact ⟨.ref D, H3, I7.turned (t' := s6.toks) (fun b o hb e => (sb.2 b hb).trans e) f0 f1 f3 f4 f5, rfl, qq⟩
  exact codeAny_compStart_list loop (T.self X.A 0 _ _ _ st4 loop)
end
end Vw

set_option Elab.async false
set_option linter.all false
set_option maxRecDepth 100000
set_option maxHeartbeats 4000000
namespace Vw
open PySem PySem.Spec PyProof.Rows L2 RT
/-! ### == and != of data in which dicts of whole numbers lie -/
def intK : Key → Bool
  | .inl _ => true
  | .inr _ => false
theorem intK_of {k : Key} (h : intK k = true) : ∃ i, k = Sum.inl i := by
  cases k with
  | inl i => exact ⟨i, rfl⟩
  | inr x => cases h
/-- a dict of whole numbers is one in every world -/
theorem pairs_any {p p' : Program} {w w' : World} : ∀ {es : List DictEntry} {va : List (Key × Value)}, Pairs (mixKind p w) es va → Pairs (mixKind p' w') es va := fun h => by
  induction h with
  | nil => exact .nil
  | cons a b _ k => exact .cons a b k
theorem dictOf_any {p p' : Program} {w w' : World} {h : Heap} {a : Addr} {va : List (Key × Value)} (d : h.DictOf (mixKind p w) a va) (i : ∀ q ∈ va, intK q.1 = true) : h.DictOf (mixKind p' w') a va := by
  obtain ⟨o, es, ep, h1, h2, h3, h4, h5, h6⟩ := d
  refine ⟨o, es, ep, h1, h2, h3, fun e me => ?_, pairs_any h5, h6⟩
  obtain ⟨k, k1, k2⟩ := h4 e me
  refine ⟨k, k1, ?_⟩
  obtain ⟨j, hj, ej⟩ := List.getElem_of_mem (Array.mem_toList_iff.mpr me)
  have lj : j < va.length := by rw [← h5.length]; exact hj
  obtain ⟨q1, _⟩ := h5.get? (i := j) (e := e) (k := va[j].1) (v := va[j].2) (by rw [List.getElem?_eq_getElem hj, ej]) (List.getElem?_eq_getElem lj)
  have ek : k = va[j].1 := (mixKind p w).inj _ _ _ k1 q1
  obtain ⟨n, en⟩ := intK_of (i va[j] (List.getElem_mem lj))
  rw [ek, en] at k2 ⊢
  exact k2
def EqX (K : PySem.W.Frag) (H : Hp) : Nat → V → V → Prop
  | 0 => fun _ _ => False
  | n + 1 => fun x y => (x = y ∧ flatB x = true) ∨ (∃ a b xs ys, x = .ref a ∧ y = .ref b ∧ SqT K H a xs ∧ SqT K H b ys ∧ Paired (EqX K H n) xs ys) ∨ (∃ a b xs ys, x = .ref a ∧ y = .ref b ∧ SqL K H a xs ∧ SqL K H b ys ∧ Paired (EqX K H n) xs ys) ∨
    ∃ a b ks ls, x = .ref a ∧ y = .ref b ∧ H a = some (.dK ks) ∧ H b = some (.dK ls) ∧ ks.length = ls.length ∧ (∀ p ∈ ks, intK p.1 = true) ∧ (∀ p ∈ ls, intK p.1 = true) ∧ ∀ p ∈ ks, ∃ u, valV ls p.1 = some u ∧ EqX K H n p.2 u
theorem items_at {A : Around} {s : Shared} {F : V → V → Prop} (ih : ∀ x y v u, F x y → RelV x v → RelV y u → SeqAt.EqAt A s v u true) {xs ys : List V} (hp : Paired F xs ys) :
    ∀ {us ws : List Value}, Vals xs us → Vals ys ws → ∀ j (h1 : j < us.length) (h2 : j < ws.length), SeqAt.EqAt A s us[j] ws[j] true := by
  induction hp with
  | nil =>
    intro us ws r1 _ j h1
    cases r1
    exact absurd h1 (Nat.not_lt_zero j)
  | cons h _ k =>
    intro us ws r1 r2 j h1 h2
    cases r1 with
    | cons a1 b1 =>
      cases r2 with
      | cons a2 b2 =>
        cases j with
        | zero => exact ih _ _ _ _ h a1 a2
        | succ j => exact k b1 b2 j (Nat.lt_of_succ_lt_succ h1) (Nat.lt_of_succ_lt_succ h2)
theorem hits_at {A : Around} {s : Shared} {F : V → V → Prop} (ih : ∀ x y v u, F x y → RelV x v → RelV y u → SeqAt.EqAt A s v u true) {ls : List (Key × V)} {vb : List (Key × Value)} (rb : KV ls vb) {ks : List (Key × V)} {va : List (Key × Value)}
    (ra : KV ks va) : (∀ p ∈ ks, ∃ u, valV ls p.1 = some u ∧ F p.2 u) → PySem.W.KeqHits A s vb va true := by
  unfold KV at ra
  induction ra with
  | nil => intro _; exact .nil
  | @cons p q ps qs h t k =>
    intro hp
    obtain ⟨h1, h2⟩ := h
    obtain ⟨u, e, f⟩ := hp p (by simp)
    have rr : RelO (some u) (valueAt vb p.1) := by rw [← e]; exact rb.val p.1
    obtain ⟨y, hy, ry⟩ := rr.some_of
    obtain ⟨key, v⟩ := q
    obtain rfl : p.1 = key := h1
    show PySem.W.KeqHits A s vb ((p.1, v) :: qs) (true && true)
    exact .hit hy (ih _ _ _ _ f h2 ry) (k fun p' hm => hp p' (List.mem_cons_of_mem _ hm))
theorem kv_int {ks : List (Key × V)} {va : List (Key × Value)} (r : KV ks va) : (∀ p ∈ ks, intK p.1 = true) → ∀ q ∈ va, intK q.1 = true := by
  unfold KV at r
  induction r with
  | nil => intro _ q hq; cases hq
  | @cons p q ps qs h t k =>
    intro hp x hx
    rcases List.mem_cons.mp hx with z | z
    · rw [z, ← h.1]; exact hp p (by simp)
    · exact k (fun p' hm => hp p' (List.mem_cons_of_mem _ hm)) x z
section
variable {X : Cx} {pins : List (Addr × Obj)} {σ : L2.St} {H : Hp} {s : Shared}
theorem eqX_run (I : Inv X pins σ H s) : ∀ (n : Nat) (A : Around), A.units + n < cLine → ∀ (x y : V) (v u : Value), EqX X.K H n x y → RelV x v → RelV y u → SeqAt.EqAt A s v u true
  | 0, _, _, _, _, _, _, h, _, _ => (show False from h).elim
  | n + 1, A, hu, x, y, v, u, h, rx, ry => by
    have ih := eqX_run I n A.in1 (by show A.units + 1 + n < cLine; omega)
    rcases h with ⟨rfl, f⟩ | ⟨a, b, xs, ys, rfl, rfl, ha, hb, hp⟩ | ⟨a, b, xs, ys, rfl, rfl, ha, hb, hp⟩ | ⟨a, b, ks, ls, rfl, rfl, ha, hb, hl, i1, i2, hp⟩
    · exact eqAt_same rx ry f
    all_goals (cases (show v = Value.ref a from rx); cases (show u = Value.ref b from ry); by_cases e : a = b; (· subst e; exact SeqAt.EqAt.same _); refine SeqAt.EqAt.of_refs e ?_)
    · obtain ⟨us, r1, p1, _⟩ := I.tuple ha
      obtain ⟨ws, r2, p2, _⟩ := I.tuple hb
      have sz : us.toArray.size = ws.toArray.size := by rw [List.size_toArray, List.size_toArray, ← r1.length, ← r2.length]; exact Paired.length hp
      have k := SeqAt.RcAt.tuples (e := fun _ => true) p1 p2 (A := A) (by omega) (fun j h1 h2 => by have q := items_at ih hp r1 r2 j (by simpa using h1) (by simpa using h2); simpa using q)
      rw [show ((List.range (min us.toArray.size ws.toArray.size)).all fun _ => true) = true from List.all_eq_true.mpr fun _ _ => rfl, sz] at k
      simpa using k
    · obtain ⟨us, r1, p1, _⟩ := I.list ha
      obtain ⟨ws, r2, p2, _⟩ := I.list hb
      have sz : us.toArray.size = ws.toArray.size := by rw [List.size_toArray, List.size_toArray, ← r1.length, ← r2.length]; exact Paired.length hp
      have k := SeqAt.RcAt.lists (e := fun _ => true) p1.isList p2.isList (A := A) sz (by omega) (fun j h1 h2 => by have q := items_at ih hp r1 r2 j (by simpa using h1) (by simpa using h2); simpa using q)
      rw [show ((List.range us.toArray.size).all fun _ => true) = true from List.all_eq_true.mpr fun _ _ => rfl] at k
      exact k
    · obtain ⟨_, ya, va, ra, da⟩ := (show ObjOk X.prog X.w H s.heap a (.dK ks) from I.hok a _ ha)
      obtain ⟨_, yb, vb, rb, db⟩ := (show ObjOk X.prog X.w H s.heap b (.dK ls) from I.hok b _ hb)
      intro p' w' E Q q
      have e2 : va.length = vb.length := by rw [← ra.length, ← rb.length]; exact hl
      refine PySem.W.keq_eq (knd := mixKind p' w') (r := true) ya yb (dictOf_any da (kv_int ra i1)) (dictOf_any db (kv_int rb i2)) (by omega) (fun _ => hits_at ih rb ra hp) ?_
      rw [show (va.length == vb.length && true) = true from by rw [e2]; simp]
      exact q
end
section
variable {X : Cx}
/-- two lists that are equal -/
def rNeX (K : PySem.W.Frag) : R2 := fun x y H Q => ∃ a b xs ys, x = .ref a ∧ y = .ref b ∧ SqL K H a xs ∧ SqL K H b ys ∧ Paired (EqX K H 20) xs ys ∧ Q (.bl false) H
theorem op_neX (hu : X.A.units + 64 < cLine) : OpR X (compareOp .NotEq) (rNeX X.K) := by
  intro pins s σ H x y v u Q I rx ry h
  obtain ⟨a, b, xs, ys, rfl, rfl, ha, hb, hp, q⟩ := h
  cases (show v = Value.ref a from rx)
  cases (show u = Value.ref b from ry)
  obtain ⟨us, r1, p1, _⟩ := I.list ha
  obtain ⟨ws, r2, p2, _⟩ := I.list hb
  have sz : us.toArray.size = ws.toArray.size := by rw [List.size_toArray, List.size_toArray, ← r1.length, ← r2.length]; exact Paired.length hp
  have ih := eqX_run I 20 X.A.in1 (by show X.A.units + 1 + 20 < cLine; omega)
  have k := SeqAt.RcNeAt.lists (e := fun _ => true) p1.isList p2.isList (A := X.A) sz (by omega) (fun j h1 h2 => by have q := items_at ih hp r1 r2 j (by simpa using h1) (by simpa using h2); simpa using q)
  rw [show ((List.range us.toArray.size).all fun _ => true) = true from List.all_eq_true.mpr fun _ _ => rfl] at k
  exact k X.prog X.w _ _ ⟨.bl false, H, I, rfl, q⟩
def rEqX (K : PySem.W.Frag) : R2 := fun x y H Q => ∃ a b xs ys, x = .ref a ∧ y = .ref b ∧ SqL K H a xs ∧ SqL K H b ys ∧ Paired (EqX K H 20) xs ys ∧ Q (.bl true) H
theorem op_eqX (hu : X.A.units + 64 < cLine) : OpR X (compareOp .Eq) (rEqX X.K) := by
  intro pins s σ H x y v u Q I rx ry h
  obtain ⟨a, b, xs, ys, rfl, rfl, ha, hb, hp, q⟩ := h
  cases (show v = Value.ref a from rx)
  cases (show u = Value.ref b from ry)
  obtain ⟨us, r1, p1, _⟩ := I.list ha
  obtain ⟨ws, r2, p2, _⟩ := I.list hb
  have sz : us.toArray.size = ws.toArray.size := by rw [List.size_toArray, List.size_toArray, ← r1.length, ← r2.length]; exact Paired.length hp
  have ih := eqX_run I 20 X.A.in1 (by show X.A.units + 1 + 20 < cLine; omega)
  have k := SeqAt.RcAt.lists (e := fun _ => true) p1.isList p2.isList (A := X.A) sz (by omega) (fun j h1 h2 => by have q := items_at ih hp r1 r2 j (by simpa using h1) (by simpa using h2); simpa using q)
  rw [show ((List.range us.toArray.size).all fun _ => true) = true from List.all_eq_true.mpr fun _ _ => rfl] at k
  exact k X.prog X.w _ _ ⟨.bl true, H, I, rfl, q⟩
end
theorem oNeX {K : PySem.W.Frag} {X : Cx} (hu : X.A.units + 64 < cLine) (e : X.K = K := by rfl) : OpR X (compareOp .NotEq) (rNeX K) := by cases e; exact op_neX hu
theorem oEqX {K : PySem.W.Frag} {X : Cx} (hu : X.A.units + 64 < cLine) (e : X.K = K := by rfl) : OpR X (compareOp .Eq) (rEqX K) := by cases e; exact op_eqX hu
end Vw

set_option Elab.async false
set_option linter.all false
set_option maxRecDepth 100000
set_option maxHeartbeats 4000000
namespace Vw
open PySem PySem.Spec PyProof.Rows L2 RT
/-! ### a list so many times -/
def rTimesL : R2 := fun x y H Q => ∃ (a : Addr) (n : Nat) (xs : List V), x = .ref a ∧ y = .int n ∧ H a = some (.lst xs) ∧ n * xs.length ≤ 10000 ∧ n ≤ 10000 ∧ ∀ p, H p = none → Q (.ref p) (upd H p (.lst (List.replicate n xs).flatten))
theorem op_timesL {X : Cx} : OpR X (binaryOp .Mult) rTimesL := by
  intro pins st σ H x y v u Q I rx ry ⟨a, n, xs, ex, ey, hL, hn, hn2, q⟩
  subst ex
  cases rx
  obtain ⟨j, ej⟩ : ∃ j : Int, j = (n : Nat) := ⟨_, rfl⟩
  rw [← ej] at ey
  subst ey
  obtain ⟨tk, rfl⟩ := ry
  have jn : j.toNat = n := by omega
  obtain ⟨z, its, m, r, hl, ho⟩ := I.lstM hL
  have ln : its.length = xs.length := r.length.symm
  have fl : (List.foldl (fun x1 x2 => x1 ++ x2) #[] (List.replicate (if its.toArray.isEmpty = true then 0 else j.toNat) its.toArray)) = (List.replicate n its).flatten.toArray := by
    rw [jn]
    cases its with
    | nil => simp
    | cons b bs =>
      rw [if_neg (by simp)]
      exact size_rep (b :: bs) n
  have big : (10000 : Nat) ≤ sizeLine := by decide
  have lenF : (List.replicate n xs).flatten.length ≤ sizeLine := by rw [lm_len_rep_flat]; omega
  have fin : EP X pins σ Q (.ref st.heap.objs.size) { st with heap := st.heap.push { cls := Value.type "list", data := Data.seq (List.replicate n its).flatten.toArray } } :=
    ⟨.ref st.heap.objs.size, _, I.laid (t' := st.toks) (o := .lst (List.replicate n xs).flatten) (fun _ _ g => Heap.get?_push_of_some _ g) (Nat.le_refl _) ⟨lenF, _, 0, r.rep n, Heap.get?_push_size _ rfl⟩, rfl, q _ (I.hok.fresh (Nat.le_refl _))⟩
  have sz2 : its.toArray.size * j.toNat ≤ 10000 := by rw [List.size_toArray, ln, jn, Nat.mul_comm]; exact hn
  have c0 : ¬ (!Builtin.List.listFitsIndex j) = true := by
    have : Builtin.List.listFitsIndex j = true := by
      unfold Builtin.List.listFitsIndex
      rw [Bool.and_eq_true]
      exact ⟨decide_eq_true (by omega), decide_eq_true (by omega)⟩
    rw [this]; decide
  have c2 : ¬ Builtin.List.listTooLong (its.toArray.size * j.toNat) = true := by
    intro h
    have h := of_decide_eq_true h
    omega
  have road := lm_list_mul_any a its.toArray m none #[] j tk c0 (by omega) c2
  rw [fl] at road
  exact wpAny_binaryOp_repeat_ref (T := "list") (U := "int") (by decide) ⟨_, ho, rfl⟩ (fun s' => typeIs_int s' j tk) noFill_list_mul F.fills_int_mul F.slot_int_rmul repeat_list F.slot_int_index.lookup
    (call_meets F.slot_int_rmul (typeIs_int st j tk) F.entry_int_rmul (F.args_int_rmul_2 _ _) (lm_int_rmul_list_any j tk a its.toArray m none #[]) ⟨ho, rfl, ⟨_, ho, rfl⟩,
      call_meets F.slot_list_mul ⟨_, ho, rfl⟩ F.entry_list_mul (F.args_list_mul_2 _ _) road ⟨ho, fin⟩⟩)
theorem oTimesL {X : Cx} : OpR X (binaryOp .Mult) rTimesL := op_timesL
/-! ### a handler that catches what is let out, whatever stands behind it -/
def wTell (K : PySem.W.Frag) (i : Nat) (c : Value) (u : Addr → Value → Option Addr → TS) (D : Ends) : WX := fun k d σ H => PySem.W.exmOne K k c = some true ∧ ∀ x, H x = none → u x k d (offI i D) (σ.set i (some (.ref x))) H
section
variable {X : Cx} {n x0 : Str} {i : Nat} {body bs : List Stmt} {b : Stmt} {c : Value} {u : Addr → Value → Option Addr → TS} {p1 p2 pos : Pos} {hds : List ExceptHandler} {tb : WX → TS}
theorem ps_tell1 (st : X.stack = X.env :: X.outer) (fr : X.env.frame = some X.env.locals) (nd : X.N.Nodup) (at_ : X.N[i]? = some n) (lo : X.env.kindOf n = some .local)
    (bo : ∀ (W : WX) (pn : List (Addr × Obj)) (xe : Value → Shared → Prop), Takes (X.tr pn xe) W → PassesOwn (model X.prog X.w) X.A X.env xe → PSs (X.tr pn xe) body (tb W))
    (hc : Names X x0 c) (hu : ∀ (x : Addr) (o : Obj) (k : Value) (d : Option Addr) (pn : List (Addr × Obj)), Zc k d o → (∃ vs, o.data = .fields vs) → PSs (X.suite x ((x, o) :: pn)) (b :: bs) (u x k d)) :
    PS X (.Try body (.ExceptHandler (some (.Name x0 p1)) (some n) (b :: bs) p2 :: hds) [] [] pos) (fun D σ H => tb (wTell X.K i c u D) D σ H) := by
  refine ⟨fun pins s σ H D I q0 => ?_⟩
  have kk := I.ok
  have frs2 : X.A.frames = some (X.env :: X.outer) := by rw [kk.frames, st]
  have hl2 : Loc X.env.scope n := .inl lo
  refine wpAny_Try_except ?_
  refine wpAny_mono ((bo (wTell X.K i c u D) (X.pn ++ pins) (fun e sa => wpAny (model X.prog X.w) X.A (noteFrame e X.env) (fun _ sb => wpAny (model X.prog X.w) X.A (setFlight e none) (fun _ sc =>
    wpAny (model X.prog X.w) X.A (handleBy e X.env (.ExceptHandler (some (.Name x0 p1)) (some n) (b :: bs) p2 :: hds)) (SP X pins D) X.xe sc) X.xe sb) X.xe sa) (fun u2 s' xx => ?_) PassesOwn.looking).run [] s σ H D (I.toTry _) q0) (fun f s1 hsp => ?_) (fun e s1 z => z)
  · obtain ⟨x, B, sI, _, σ2, H2, k, d, rfl, Ja, nb, up, sky, nx2, os, ag, w⟩ := xx
    have Jb : Inv X pins σ2 H2 sI := Ja.ofTry kk
    have sk2 : Sky B (X.env :: X.outer) x (Zc k d) X.env.locals s'.heap := by rw [← st]; exact sky
    show wpAny (model X.prog X.w) X.A (noteFrame (.ref x) X.env) _ _ _
    refine Sky.land Zc.steady frs2 fr sk2 fun ha fa ua => ?_
    have Jc : Inv X pins σ2 H2 { s' with heap := ha } := Jb.landed nb fa.1 (up.trans ua) os ag
    obtain ⟨oa, va, ea, za, da⟩ := fa.there
    have nfa : x ∉ frs (X.env :: X.outer) := fun m => by
      obtain ⟨_, o2, e2, nf⟩ := fa.2.2.1.mem m
      rw [ea] at e2
      cases e2
      exact nf _ da
    have nla : x ≠ X.env.locals := fun z => nfa (List.mem_filterMap.mpr ⟨X.env, List.mem_cons_self, by rw [fr, z]⟩)
    have nfs : x ∉ X.fs := fun m => by
      obtain ⟨e, me, q⟩ := List.mem_filterMap.mp m
      exact nfa (List.mem_filterMap.mpr ⟨e, List.mem_cons_of_mem _ me, q⟩)
    have Sa := Jc.suite ea da nx2 nla nfs
    obtain ⟨e1, yes⟩ := w
    refine wpAny_handleBy_cons (codeAny_handlers_test ?_) (by intro q; cases q)
    have LA : PySem.W.Looks (model X.prog X.w) ha (typeOf (.ref x)) k := fun A Q E s k2 q => wpAny_typeOf_ref (k2 _ _ ea) (by rw [za.1]; exact q)
    have LB := PySem.W.exm_one (M := model X.prog X.w) Jc.kIn LA e1
    have tst : ∀ {Q E : Value → Shared → Prop}, Q c { s' with heap := ha } → wpAny (model X.prog X.w) (X.A.mark (some (.ref x))) (eval (.Name x0 p1) X.env) Q E { s' with heap := ha } := fun {Q E} q => by
      obtain ⟨g1, g2, g3 | ⟨g3, g4, g5⟩⟩ := hc
      · exact ld_glob (X := X.suite x ((x, oa) :: (X.pn ++ pins))) Sa g1 g3 q g2
      · exact ld_blt (X := X.suite x ((x, oa) :: (X.pn ++ pins))) Sa g1 g3 g4 q g5 g2
    refine tst (LB.here ?_)
    refine codeAny_handlers_suite_as ?_
    refine HandSPX.lands_againZ fa fun hb fb ub => ?_
    have Jd : Inv X pins σ2 H2 { s' with heap := hb } := Jb.landed nb fb.1 ((up.trans ua).trans ub) os ag
    obtain ⟨ob, vb, eb, zb, db⟩ := fb.there
    have Sb := Jd.suite eb db nx2 nla nfs
    refine store_ok (X := X.suite x ((x, ob) :: (X.pn ++ pins))) (v := .ref x) Sb nd at_ hl2 rfl (fun s5 Sc => ?_) (.inr lo)
    refine wpAny_mono ((hu x ob k d (X.pn ++ pins) zb ⟨_, db⟩).run [] s5 _ H2 _ Sc (yes x nx2)) (fun f s6 hs6 => ?_) (fun _ _ z => z.elim)
    have fin : ∀ {σ6 : L2.St} {H6 : Hp} {Q : Shared → Prop}, Inv (X.suite x ((x, ob) :: (X.pn ++ pins))) [] σ6 H6 s6 → (∀ s7, Inv X pins (σ6.set i none) H6 s7 → Q s7) →
        wpAny (model X.prog X.w) X.A (do bindName X.env n .none; unbindBehindTheSuite X.env n p2) (fun _ s7 => Q s7) X.xe s6 := fun {σ6 H6 Q} Sd hq => gone_ok (Sd.unsuite kk) nd at_ lo hq
    cases f with
    | next =>
      obtain ⟨_, _, Sd, q6⟩ := hs6
      exact fin Sd fun s7 Je => ⟨_, _, Je, q6⟩
    | brk =>
      obtain ⟨_, _, Sd, q6⟩ := hs6
      exact fin Sd fun s7 Je => ⟨_, _, Je, q6⟩
    | cont =>
      obtain ⟨_, _, Sd, q6⟩ := hs6
      exact fin Sd fun s7 Je => ⟨_, _, Je, q6⟩
    | ret u6 =>
      obtain ⟨_, _, _, Sd, r6, q6⟩ := hs6
      exact fin Sd fun s7 Je => ⟨_, _, _, Je, r6, q6⟩
  · cases f with
    | next =>
      obtain ⟨_, _, Je, q⟩ := hsp
      exact wpAny_execs_nil ⟨_, _, Je.ofTry kk, q⟩
    | brk =>
      obtain ⟨_, _, Je, q⟩ := hsp
      exact ⟨_, _, Je.ofTry kk, q⟩
    | cont =>
      obtain ⟨_, _, Je, q⟩ := hsp
      exact ⟨_, _, Je.ofTry kk, q⟩
    | ret u6 =>
      obtain ⟨_, _, _, Je, r, q⟩ := hsp
      exact ⟨_, _, _, Je.ofTry kk, r, q⟩
end
end Vw

set_option Elab.async false
set_option linter.all false
set_option maxRecDepth 100000
set_option maxHeartbeats 4000000
namespace Vw
open PySem PySem.Spec PyProof.Rows L2 RT
local macro_rules | `(tactic| walk_at "s") => `(tactic| with_reducible first
  | refine' s_seq ?_ | refine' s_next ?_ | refine' s_set ?_ | refine' s_ret ?_ | refine' s_retN ?_ | refine' s_drop ?_ | refine' s_if ?_ | refine' s_ipI ?_
  | refine' e_c ?_ | refine' e_op ?_ | refine' e_un ?_ | refine' e_neg ?_ | refine' e_test ?_ | refine' e_tB ?_ | refine' e_bl ?_ | refine' e_and ?_ | refine' e_or ?_ | refine' e_not ?_
  | refine' e_andV ?_ | refine' e_orV ?_ | refine' e_notV ?_ | refine' e_kV ?_ | refine' e_ife ?_ | refine' e_nil ?_ | refine' e_cons ?_ | refine' e_cb ?_ | refine' e_call ?_ | refine' e_chain ?_
  | refine' o_addI ?_ | refine' o_eqI ?_ | refine' o_neI ?_ | refine' o_I0 ?_ | refine' o_pow16 ?_ | refine' o_pow17 ?_ | refine' o_pow18 ?_ | refine' o_pow19 ?_ | refine' o_pow30 ?_ | refine' o_pow31 ?_ | refine' o_pow1 ?_ | refine' o_pow2 ?_ | refine' o_pow3 ?_ | refine' o_pow4 ?_ | refine' o_pow5 ?_ | refine' o_pow6 ?_ | refine' o_pow9 ?_ | refine' o_pow10 ?_ | refine' o_pow12 ?_ | refine' o_pow15 ?_ | refine' o_pow20 ?_ | refine' e_lst ?_ | refine' e_tup ?_ | refine' iteT ?_ | refine' i_nt ?_ | refine' i_nf ?_ | refine' iteF ?_ | refine' c_int ?_ | refine' c_abs ?_ | refine' c_min2 ?_ | refine' c_max2 ?_ | refine' e_tru ?_ | refine' t_bl ?_ | refine' t_non ?_ | refine' t_int ?_ | refine' isN_non ?_ | refine' isN_int ?_ | refine' isN_ref ?_ | refine' isN_str ?_ | refine' isN_bl ?_ | refine' noN_non ?_ | refine' noN_int ?_ | refine' noN_ref ?_ | refine' noN_str ?_ | refine' noN_bl ?_
  | refine' s_brk ?_ | refine' s_cont ?_ | refine' s_for ?_ | refine' e_lc ?_ | refine' e_dc ?_ | refine' e_yes ?_ | refine' i_rng1 ?_ | refine' i_lst0 ?_ | refine' i_tup0 ?_ | refine' e_bm ?_ | refine' e_sl ?_ | refine' e_np ?_ | refine' e_pt ?_ | refine' e_ptI ?_ | refine' e_din ?_ | refine' e_dnin ?_ | refine' e_methE ?_ | refine' p_cons ?_ | refine' p_nil ?_ | refine' s_dput ?_ | refine' e_dget2 ?_ | refine' e_dpop1 ?_ | refine' i_enum0 ?_ | refine' i_rev0 ?_ | refine' g_sub ?_ | refine' s_asg ?_ | refine' i_zip0 ?_ | refine' e_revT ?_ | refine' isB_bl ?_ | refine' notB_bl ?_ | refine' o_neB ?_ | refine' i_nrr ?_ | refine' e_meth ?_ | refine' s_setf ?_ | refine' e_fld ?_ | refine' e_bm0 ?_ | refine' r_tx ?_ | refine' o_eqStr ?_ | refine' o_neStr ?_)
local macro_rules | `(tactic| walk_at "v") => `(tactic| ((with_reducible refine' e_var ?hv ?_); (case hv => exact rfl)))
local macro_rules | `(tactic| walk_at "a") => `(tactic| ((with_reducible refine' s_aug ?hv ?_); (case hv => exact rfl)))
local macro_rules | `(tactic| walk_at "m") => `(tactic| first
  | ((with_reducible refine' o_mod ?hv ?_); (case hv => first | decide | omega))
  | ((with_reducible refine' o_mulR ?hv ?_); (case hv => omega))
  | ((with_reducible refine' o_mulL ?hv ?_); (case hv => omega))
  | ((with_reducible refine' o_div ?hv ?hw ?_); (case hv => omega); (case hw => omega))
  | ((with_reducible refine' o_pow _ ?hv ?hw ?hx ?_); (case hv => exact rfl); (case hw => decide); (case hx => decide)))
local macro_rules | `(tactic| walk_at "i") => `(tactic| (first
  | ((with_reducible refine' isi_int true ?hv ?_); (case hv => exact (by decide +kernel)))
  | ((with_reducible refine' isi_int false ?hv ?_); (case hv => exact (by decide +kernel)))
  | ((with_reducible refine' isi_non true ?hv ?_); (case hv => exact (by decide +kernel)))
  | ((with_reducible refine' isi_non false ?hv ?_); (case hv => exact (by decide +kernel)))
  | ((with_reducible refine' isi_str true ?hv ?_); (case hv => exact (by decide +kernel)))
  | ((with_reducible refine' isi_str false ?hv ?_); (case hv => exact (by decide +kernel)))
  | ((with_reducible refine' isi_bl true ?hv ?_); (case hv => exact (by decide +kernel)))
  | ((with_reducible refine' isi_bl false ?hv ?_); (case hv => exact (by decide +kernel)))
  | ((with_reducible refine' isi_t true ?hw ?hv ?_); (case hw => assumption); (case hv => exact (by decide +kernel)))
  | ((with_reducible refine' isi_t false ?hw ?hv ?_); (case hw => assumption); (case hv => exact (by decide +kernel)))
  | ((with_reducible refine' isi_l true ?hw ?hv ?_); (case hw => assumption); (case hv => exact (by decide +kernel)))
  | ((with_reducible refine' isi_l false ?hw ?hv ?_); (case hw => assumption); (case hv => exact (by decide +kernel)))
  | ((with_reducible refine' isi_tup true ?hw ?hv ?_); (case hw => assumption); (case hv => exact (by decide +kernel)))
  | ((with_reducible refine' isi_tup false ?hw ?hv ?_); (case hw => assumption); (case hv => exact (by decide +kernel)))
  | ((with_reducible refine' isi_lst true ?hw ?hv ?_); (case hw => assumption); (case hv => exact (by decide +kernel)))
  | ((with_reducible refine' isi_lst false ?hw ?hv ?_); (case hw => assumption); (case hv => exact (by decide +kernel)))))
local macro_rules | `(tactic| walk_at "om") => `(tactic| first | omega | (simp only [List.length_cons, List.length_nil, List.length_map, List.length_append, List.length_range]; omega))
local macro_rules | `(tactic| walk_at "d") => `(tactic| (first
  | ((with_reducible refine' i_dt ?hv ?_); (case hv => walk_at "om"))
  | ((with_reducible refine' i_df ?hv ?_); (case hv => walk_at "om"))
  | ((with_reducible refine' i_ndt ?hv ?_); (case hv => walk_at "om"))
  | ((with_reducible refine' i_ndf ?hv ?_); (case hv => walk_at "om"))))
local macro_rules | `(tactic| walk_at "x") => `(tactic| first
  | ((with_reducible refine' o_ixA ?hv ?hw ?_); (case hv => assumption); (case hw => exact rfl))
  | ((with_reducible refine' o_ixU ?hv ?hw ?_); (case hv => assumption); (case hw => exact rfl))
  | ((with_reducible refine' o_ixL ?hv ?hw ?_); (case hv => assumption); (case hw => exact rfl))
  | ((with_reducible refine' o_ixT ?hv ?hw ?_); (case hv => assumption); (case hw => exact rfl))
  | ((with_reducible refine' set_ ?hv ?hw ?_); (case hv => assumption); (case hw => exact rfl))
  | ((with_reducible refine' e_lenM ?hv ?_); (case hv => first | assumption | exact slO (by assumption)))
  | ((with_reducible refine' e_lenN ?hv ?_); (case hv => first | assumption | exact stO (by assumption)))
  | ((with_reducible refine' e_lenL ?hv ?_); (case hv => first | assumption | exact slO (by assumption)))
  | ((with_reducible refine' e_lenT ?hv ?_); (case hv => first | assumption | exact stO (by assumption))))
local macro_rules | `(tactic| walk_at "c") => `(tactic| first
  | ((with_reducible refine' c_listL ?hv ?_); (case hv => assumption))
  | ((with_reducible refine' c_listT ?hv ?_); (case hv => assumption))
  | ((with_reducible refine' c_tupL ?hv ?_); (case hv => first | assumption | exact slO (by assumption)))
  | ((with_reducible refine' c_tupT ?hv ?_); (case hv => assumption))
  | ((with_reducible refine' t_lst ?hv ?_); (case hv => first | assumption | exact slO (by assumption)))
  | ((with_reducible refine' t_tup ?hv ?_); (case hv => assumption))
  | ((with_reducible refine' r_sl ?hv ?_); (case hv => first | assumption | exact slO (by assumption)))
  | ((with_reducible refine' o_inL ?hv ?_); (case hv => first | assumption | exact slO (by assumption)))
  | ((with_reducible refine' o_inT ?hv ?_); (case hv => first | assumption | exact stO (by assumption)))
  | ((with_reducible refine' o_niL ?hv ?_); (case hv => first | assumption | exact slO (by assumption)))
  | ((with_reducible refine' o_niT ?hv ?_); (case hv => first | assumption | exact stO (by assumption)))
  | ((with_reducible refine' ty_lst ?hv ?_); (case hv => assumption)))
local macro_rules | `(tactic| walk_at "mo") => `(tactic| repeat' (first | exact m_yes | exact m_var | exact m_c | exact m_I0 | exact m_I | exact m_ix | exact m_add | exact m_in | exact m_int1 | exact m_abs | exact m_nil | refine' m_and ?_ ?_ | refine' m_test ?_ | refine' m_tB ?_ | refine' m_op ?_ ?_ ?_ | refine' m_cons ?_ ?_ | refine' m_cb ?_ ?_))
local macro_rules | `(tactic| walk_at "go") => `(tactic| repeat' (first | walk_at "s" | walk_at "v" | walk_at "a" | walk_at "x" | walk_at "m" | walk_at "c" | walk_at "i" | walk_at "d"))

def topS (i : Nat) : Stmt := PySem.Challenge.pw_wholeways_k19_disks_that_mean_nothing_re.main.body.getD i (.Pass ⟨0, 0, 0, 0⟩)
abbrev s_wall : Stmt := (topS 0)
abbrev n_wall : List Str := ["k"]
theorem sc_wall : FnScope n_wall ["k"] (defScope s_wall) := ⟨rfl, rfl, rfl, by decide +kernel, rfl, by decide +kernel, by decide +kernel⟩
abbrev s_StoreError_init : Stmt := (inClass (topS 2) 0)
abbrev n_StoreError_init : List Str := ["self"]
theorem sc_StoreError_init : FnScope n_StoreError_init ["self"] (defScope s_StoreError_init) := ⟨rfl, rfl, rfl, by decide +kernel, rfl, by decide +kernel, by decide +kernel⟩
abbrev s_is_integer : Stmt := (topS 20)
abbrev n_is_integer : List Str := ["thing"]
theorem sc_is_integer : FnScope n_is_integer ["thing"] (defScope s_is_integer) := ⟨rfl, rfl, rfl, by decide +kernel, rfl, by decide +kernel, by decide +kernel⟩
abbrev s_is_within : Stmt := (topS 21)
abbrev n_is_within : List Str := ["thing", "low", "high"]
theorem sc_is_within : FnScope n_is_within ["thing", "low", "high"] (defScope s_is_within) := ⟨rfl, rfl, rfl, by decide +kernel, rfl, by decide +kernel, by decide +kernel⟩
abbrev s_is_number : Stmt := (topS 22)
abbrev n_is_number : List Str := ["thing"]
theorem sc_is_number : FnScope n_is_number ["thing"] (defScope s_is_number) := ⟨rfl, rfl, rfl, by decide +kernel, rfl, by decide +kernel, by decide +kernel⟩
abbrev s_is_word : Stmt := (topS 23)
abbrev n_is_word : List Str := ["thing"]
theorem sc_is_word : FnScope n_is_word ["thing"] (defScope s_is_word) := ⟨rfl, rfl, rfl, by decide +kernel, rfl, by decide +kernel, by decide +kernel⟩
abbrev s_is_item : Stmt := (topS 24)
abbrev n_is_item : List Str := ["thing"]
theorem sc_is_item : FnScope n_is_item ["thing"] (defScope s_is_item) := ⟨rfl, rfl, rfl, by decide +kernel, rfl, by decide +kernel, by decide +kernel⟩
abbrev s_is_ascending : Stmt := (topS 25)
abbrev n_is_ascending : List Str := ["row", "k"]
theorem sc_is_ascending : FnScope n_is_ascending ["row"] (defScope s_is_ascending) := ⟨rfl, rfl, rfl, by decide +kernel, rfl, by decide +kernel, by decide +kernel⟩
abbrev s_is_lot : Stmt := (topS 26)
abbrev n_is_lot : List Str := ["thing", "item"]
theorem sc_is_lot : FnScope n_is_lot ["thing"] (defScope s_is_lot) := ⟨rfl, rfl, rfl, by decide +kernel, rfl, by decide +kernel, by decide +kernel⟩
abbrev s_is_items : Stmt := (topS 27)
abbrev n_is_items : List Str := ["thing", "least", "most", "item"]
theorem sc_is_items : FnScope n_is_items ["thing", "least", "most"] (defScope s_is_items) := ⟨rfl, rfl, rfl, by decide +kernel, rfl, by decide +kernel, by decide +kernel⟩
abbrev s_Disk_init : Stmt := (inClass (topS 33) 0)
abbrev n_Disk_init : List Str := ["self", "blocks", "_"]
theorem sc_Disk_init : FnScope n_Disk_init ["self", "blocks"] (defScope s_Disk_init) := ⟨rfl, rfl, rfl, by decide +kernel, rfl, by decide +kernel, by decide +kernel⟩
abbrev s_Disk_blocks : Stmt := (inClass (topS 33) 1)
abbrev n_Disk_blocks : List Str := ["self"]
theorem sc_Disk_blocks : FnScope n_Disk_blocks ["self"] (defScope s_Disk_blocks) := ⟨rfl, rfl, rfl, by decide +kernel, rfl, by decide +kernel, by decide +kernel⟩
abbrev s_Disk_write : Stmt := (inClass (topS 33) 2)
abbrev n_Disk_write : List Str := ["self", "block", "content"]
theorem sc_Disk_write : FnScope n_Disk_write ["self", "block", "content"] (defScope s_Disk_write) := ⟨rfl, rfl, rfl, by decide +kernel, rfl, by decide +kernel, by decide +kernel⟩
abbrev s_Disk_read : Stmt := (inClass (topS 33) 3)
abbrev n_Disk_read : List Str := ["self", "block"]
theorem sc_Disk_read : FnScope n_Disk_read ["self", "block"] (defScope s_Disk_read) := ⟨rfl, rfl, rfl, by decide +kernel, rfl, by decide +kernel, by decide +kernel⟩
abbrev s_Disk_reach : Stmt := (inClass (topS 33) 4)
abbrev n_Disk_reach : List Str := ["self", "block"]
theorem sc_Disk_reach : FnScope n_Disk_reach ["self", "block"] (defScope s_Disk_reach) := ⟨rfl, rfl, rfl, by decide +kernel, rfl, by decide +kernel, by decide +kernel⟩
abbrev s_Disk_force : Stmt := (inClass (topS 33) 5)
abbrev n_Disk_force : List Str := ["self", "lot", "block"]
theorem sc_Disk_force : FnScope n_Disk_force ["self", "lot"] (defScope s_Disk_force) := ⟨rfl, rfl, rfl, by decide +kernel, rfl, by decide +kernel, by decide +kernel⟩
abbrev s_Disk_calm : Stmt := (inClass (topS 33) 6)
abbrev n_Disk_calm : List Str := ["self"]
theorem sc_Disk_calm : FnScope n_Disk_calm ["self"] (defScope s_Disk_calm) := ⟨rfl, rfl, rfl, by decide +kernel, rfl, by decide +kernel, by decide +kernel⟩
abbrev s_Disk_power : Stmt := (inClass (topS 33) 7)
abbrev n_Disk_power : List Str := ["self", "many"]
theorem sc_Disk_power : FnScope n_Disk_power ["self", "many"] (defScope s_Disk_power) := ⟨rfl, rfl, rfl, by decide +kernel, rfl, by decide +kernel, by decide +kernel⟩
abbrev s_Disk_cut : Stmt := (inClass (topS 33) 8)
abbrev n_Disk_cut : List Str := ["self"]
theorem sc_Disk_cut : FnScope n_Disk_cut ["self"] (defScope s_Disk_cut) := ⟨rfl, rfl, rfl, by decide +kernel, rfl, by decide +kernel, by decide +kernel⟩
abbrev s_Disk_waiting : Stmt := (inClass (topS 33) 9)
abbrev n_Disk_waiting : List Str := ["self", "block"]
theorem sc_Disk_waiting : FnScope n_Disk_waiting ["self"] (defScope s_Disk_waiting) := ⟨rfl, rfl, rfl, by decide +kernel, rfl, by decide +kernel, by decide +kernel⟩
abbrev s_Disk_lying : Stmt := (inClass (topS 33) 10)
abbrev n_Disk_lying : List Str := ["self", "block"]
theorem sc_Disk_lying : FnScope n_Disk_lying ["self", "block"] (defScope s_Disk_lying) := ⟨rfl, rfl, rfl, by decide +kernel, rfl, by decide +kernel, by decide +kernel⟩
abbrev s_Disk_reached : Stmt := (inClass (topS 33) 11)
abbrev n_Disk_reached : List Str := ["self"]
theorem sc_Disk_reached : FnScope n_Disk_reached ["self"] (defScope s_Disk_reached) := ⟨rfl, rfl, rfl, by decide +kernel, rfl, by decide +kernel, by decide +kernel⟩
abbrev s_Disk_copy : Stmt := (inClass (topS 33) 12)
abbrev n_Disk_copy : List Str := ["self", "other"]
theorem sc_Disk_copy : FnScope n_Disk_copy ["self"] (defScope s_Disk_copy) := ⟨rfl, rfl, rfl, by decide +kernel, rfl, by decide +kernel, by decide +kernel⟩
abbrev s_Disk__need_block : Stmt := (inClass (topS 33) 13)
abbrev n_Disk__need_block : List Str := ["self", "block"]
theorem sc_Disk__need_block : FnScope n_Disk__need_block ["self", "block"] (defScope s_Disk__need_block) := ⟨rfl, rfl, rfl, by decide +kernel, rfl, by decide +kernel, by decide +kernel⟩
abbrev s_Disk__reach_one : Stmt := (inClass (topS 33) 14)
abbrev n_Disk__reach_one : List Str := ["self", "block", "row"]
theorem sc_Disk__reach_one : FnScope n_Disk__reach_one ["self", "block"] (defScope s_Disk__reach_one) := ⟨rfl, rfl, rfl, by decide +kernel, rfl, by decide +kernel, by decide +kernel⟩
abbrev s_formatted : Stmt := (topS 41)
abbrev n_formatted : List Str := ["blocks", "ring", "disk"]
theorem sc_formatted : FnScope n_formatted ["blocks", "ring"] (defScope s_formatted) := ⟨rfl, rfl, rfl, by decide +kernel, rfl, by decide +kernel, by decide +kernel⟩
abbrev s_is_ring_size : Stmt := (topS 42)
abbrev n_is_ring_size : List Str := ["ring", "blocks"]
theorem sc_is_ring_size : FnScope n_is_ring_size ["ring", "blocks"] (defScope s_is_ring_size) := ⟨rfl, rfl, rfl, by decide +kernel, rfl, by decide +kernel, by decide +kernel⟩
abbrev s_is_master : Stmt := (topS 43)
abbrev n_is_master : List Str := ["content", "blocks", "item"]
theorem sc_is_master : FnScope n_is_master ["content", "blocks"] (defScope s_is_master) := ⟨rfl, rfl, rfl, by decide +kernel, rfl, by decide +kernel, by decide +kernel⟩
abbrev s_pieces_of : Stmt := (topS 44)
abbrev n_pieces_of : List Str := ["record", "k"]
theorem sc_pieces_of : FnScope n_pieces_of ["record"] (defScope s_pieces_of) := ⟨rfl, rfl, rfl, by decide +kernel, rfl, by decide +kernel, by decide +kernel⟩
abbrev s_master_of : Stmt := (topS 45)
abbrev n_master_of : List Str := ["disk"]
theorem sc_master_of : FnScope n_master_of ["disk"] (defScope s_master_of) := ⟨rfl, rfl, rfl, by decide +kernel, rfl, by decide +kernel, by decide +kernel⟩
abbrev s_counted : Stmt := (topS 46)
abbrev n_counted : List Str := ["disk", "latest", "master", "found", "k", "content"]
theorem sc_counted : FnScope n_counted ["disk", "latest"] (defScope s_counted) := ⟨rfl, rfl, rfl, by decide +kernel, rfl, by decide +kernel, by decide +kernel⟩
abbrev s_is_piece : Stmt := (topS 47)
abbrev n_is_piece : List Str := ["content", "k", "item"]
theorem sc_is_piece : FnScope n_is_piece ["content", "k"] (defScope s_is_piece) := ⟨rfl, rfl, rfl, by decide +kernel, rfl, by decide +kernel, by decide +kernel⟩
abbrev s_begins : Stmt := (topS 48)
abbrev n_begins : List Str := ["master", "content"]
theorem sc_begins : FnScope n_begins ["master", "content"] (defScope s_begins) := ⟨rfl, rfl, rfl, by decide +kernel, rfl, by decide +kernel, by decide +kernel⟩
abbrev s_goes_on : Stmt := (topS 49)
abbrev n_goes_on : List Str := ["ahead", "content", "_", "epoch", "record", "left"]
theorem sc_goes_on : FnScope n_goes_on ["ahead", "content"] (defScope s_goes_on) := ⟨rfl, rfl, rfl, by decide +kernel, rfl, by decide +kernel, by decide +kernel⟩
abbrev s_read_prefix : Stmt := (topS 50)
abbrev n_read_prefix : List Str := ["disk", "latest", "found", "items", "content"]
theorem sc_read_prefix : FnScope n_read_prefix ["disk", "latest"] (defScope s_read_prefix) := ⟨rfl, rfl, rfl, by decide +kernel, rfl, by decide +kernel, by decide +kernel⟩
abbrev s_Log_init : Stmt := (inClass (topS 51) 0)
abbrev n_Log_init : List Str := ["self", "disk", "_", "epoch", "ring", "k", "number", "first", "record", "written"]
theorem sc_Log_init : FnScope n_Log_init ["self", "disk"] (defScope s_Log_init) := ⟨rfl, rfl, rfl, by decide +kernel, rfl, by decide +kernel, by decide +kernel⟩
abbrev s_Log__keep : Stmt := (inClass (topS 51) 1)
abbrev n_Log__keep : List Str := ["self", "record", "epoch"]
theorem sc_Log__keep : FnScope n_Log__keep ["self", "record", "epoch"] (defScope s_Log__keep) := ⟨rfl, rfl, rfl, by decide +kernel, rfl, by decide +kernel, by decide +kernel⟩
abbrev s_Log_append : Stmt := (inClass (topS 51) 2)
abbrev n_Log_append : List Str := ["self", "thing", "pieces", "number", "place", "piece", "k"]
theorem sc_Log_append : FnScope n_Log_append ["self", "thing"] (defScope s_Log_append) := ⟨rfl, rfl, rfl, by decide +kernel, rfl, by decide +kernel, by decide +kernel⟩
abbrev s_Log__block : Stmt := (inClass (topS 51) 3)
abbrev n_Log__block : List Str := ["self", "k"]
theorem sc_Log__block : FnScope n_Log__block ["self", "k"] (defScope s_Log__block) := ⟨rfl, rfl, rfl, by decide +kernel, rfl, by decide +kernel, by decide +kernel⟩
abbrev s_Log_force : Stmt := (inClass (topS 51) 4)
abbrev n_Log_force : List Str := ["self", "number", "first", "k"]
theorem sc_Log_force : FnScope n_Log_force ["self", "number"] (defScope s_Log_force) := ⟨rfl, rfl, rfl, by decide +kernel, rfl, by decide +kernel, by decide +kernel⟩
abbrev s_Log__first_k : Stmt := (inClass (topS 51) 5)
abbrev n_Log__first_k : List Str := ["self", "number"]
theorem sc_Log__first_k : FnScope n_Log__first_k ["self", "number"] (defScope s_Log__first_k) := ⟨rfl, rfl, rfl, by decide +kernel, rfl, by decide +kernel, by decide +kernel⟩
abbrev s_Log_forced : Stmt := (inClass (topS 51) 6)
abbrev n_Log_forced : List Str := ["self"]
theorem sc_Log_forced : FnScope n_Log_forced ["self"] (defScope s_Log_forced) := ⟨rfl, rfl, rfl, by decide +kernel, rfl, by decide +kernel, by decide +kernel⟩
abbrev s_Log_last : Stmt := (inClass (topS 51) 7)
abbrev n_Log_last : List Str := ["self"]
theorem sc_Log_last : FnScope n_Log_last ["self"] (defScope s_Log_last) := ⟨rfl, rfl, rfl, by decide +kernel, rfl, by decide +kernel, by decide +kernel⟩
abbrev s_Log_records : Stmt := (inClass (topS 51) 8)
abbrev n_Log_records : List Str := ["self", "place", "row"]
theorem sc_Log_records : FnScope n_Log_records ["self"] (defScope s_Log_records) := ⟨rfl, rfl, rfl, by decide +kernel, rfl, by decide +kernel, by decide +kernel⟩
abbrev s_Log_room : Stmt := (inClass (topS 51) 9)
abbrev n_Log_room : List Str := ["self"]
theorem sc_Log_room : FnScope n_Log_room ["self"] (defScope s_Log_room) := ⟨rfl, rfl, rfl, by decide +kernel, rfl, by decide +kernel, by decide +kernel⟩
abbrev s_Log_ring_size : Stmt := (inClass (topS 51) 10)
abbrev n_Log_ring_size : List Str := ["self"]
theorem sc_Log_ring_size : FnScope n_Log_ring_size ["self"] (defScope s_Log_ring_size) := ⟨rfl, rfl, rfl, by decide +kernel, rfl, by decide +kernel, by decide +kernel⟩
abbrev s_Log_begin_at : Stmt := (inClass (topS 51) 11)
abbrev n_Log_begin_at : List Str := ["self", "number", "first_k", "kept", "first"]
theorem sc_Log_begin_at : FnScope n_Log_begin_at ["self", "number"] (defScope s_Log_begin_at) := ⟨rfl, rfl, rfl, by decide +kernel, rfl, by decide +kernel, by decide +kernel⟩
abbrev s_record_of : Stmt := (topS 57)
abbrev n_record_of : List Str := ["note", "changes", "items", "page"]
theorem sc_record_of : FnScope n_record_of ["note", "changes"] (defScope s_record_of) := ⟨rfl, rfl, rfl, by decide +kernel, rfl, by decide +kernel, by decide +kernel⟩
abbrev s_note_of : Stmt := (topS 58)
abbrev n_note_of : List Str := ["record"]
theorem sc_note_of : FnScope n_note_of ["record"] (defScope s_note_of) := ⟨rfl, rfl, rfl, by decide +kernel, rfl, by decide +kernel, by decide +kernel⟩
abbrev s_changes_of : Stmt := (topS 59)
abbrev n_changes_of : List Str := ["record", "told", "at", "begin"]
theorem sc_changes_of : FnScope n_changes_of ["record"] (defScope s_changes_of) := ⟨rfl, rfl, rfl, by decide +kernel, rfl, by decide +kernel, by decide +kernel⟩
abbrev s_last_told : Stmt := (topS 60)
abbrev n_last_told : List Str := ["disk", "told", "number", "record", "_", "page", "items"]
theorem sc_last_told : FnScope n_last_told ["disk"] (defScope s_last_told) := ⟨rfl, rfl, rfl, by decide +kernel, rfl, by decide +kernel, by decide +kernel⟩
abbrev s_is_meta : Stmt := (topS 61)
abbrev n_is_meta : List Str := ["items", "many", "_", "head", "high", "root", "last"]
theorem sc_is_meta : FnScope n_is_meta ["items", "many"] (defScope s_is_meta) := ⟨rfl, rfl, rfl, by decide +kernel, rfl, by decide +kernel, by decide +kernel⟩
abbrev s_Pages_init : Stmt := (inClass (topS 62) 0)
abbrev n_Pages_init : List Str := ["self", "disk", "first", "told", "lying", "meta", "page", "number", "items", "block"]
theorem sc_Pages_init : FnScope n_Pages_init ["self", "disk"] (defScope s_Pages_init) := ⟨rfl, rfl, rfl, by decide +kernel, rfl, by decide +kernel, by decide +kernel⟩
abbrev s_Pages_batch : Stmt := (inClass (topS 62) 1)
abbrev n_Pages_batch : List Str := ["self"]
theorem sc_Pages_batch : FnScope n_Pages_batch ["self"] (defScope s_Pages_batch) := ⟨rfl, rfl, rfl, by decide +kernel, rfl, by decide +kernel, by decide +kernel⟩
abbrev s_Pages_held : Stmt := (inClass (topS 62) 2)
abbrev n_Pages_held : List Str := ["self", "page"]
theorem sc_Pages_held : FnScope n_Pages_held ["self", "page"] (defScope s_Pages_held) := ⟨rfl, rfl, rfl, by decide +kernel, rfl, by decide +kernel, by decide +kernel⟩
abbrev s_Pages__need_page : Stmt := (inClass (topS 62) 3)
abbrev n_Pages__need_page : List Str := ["self", "page"]
theorem sc_Pages__need_page : FnScope n_Pages__need_page ["self", "page"] (defScope s_Pages__need_page) := ⟨rfl, rfl, rfl, by decide +kernel, rfl, by decide +kernel, by decide +kernel⟩
abbrev s_Pages_dirty : Stmt := (inClass (topS 62) 4)
abbrev n_Pages_dirty : List Str := ["self"]
theorem sc_Pages_dirty : FnScope n_Pages_dirty ["self"] (defScope s_Pages_dirty) := ⟨rfl, rfl, rfl, by decide +kernel, rfl, by decide +kernel, by decide +kernel⟩
abbrev s_Pages_write_out : Stmt := (inClass (topS 62) 5)
abbrev n_Pages_write_out : List Str := ["self", "page", "number"]
theorem sc_Pages_write_out : FnScope n_Pages_write_out ["self", "page"] (defScope s_Pages_write_out) := ⟨rfl, rfl, rfl, by decide +kernel, rfl, by decide +kernel, by decide +kernel⟩
abbrev s_Pages_force : Stmt := (inClass (topS 62) 6)
abbrev n_Pages_force : List Str := ["self", "number"]
theorem sc_Pages_force : FnScope n_Pages_force ["self", "number"] (defScope s_Pages_force) := ⟨rfl, rfl, rfl, by decide +kernel, rfl, by decide +kernel, by decide +kernel⟩
abbrev s_Pages_record : Stmt := (inClass (topS 62) 7)
abbrev n_Pages_record : List Str := ["self"]
theorem sc_Pages_record : FnScope n_Pages_record ["self"] (defScope s_Pages_record) := ⟨rfl, rfl, rfl, by decide +kernel, rfl, by decide +kernel, by decide +kernel⟩
abbrev s_Pages_forced : Stmt := (inClass (topS 62) 8)
abbrev n_Pages_forced : List Str := ["self"]
theorem sc_Pages_forced : FnScope n_Pages_forced ["self"] (defScope s_Pages_forced) := ⟨rfl, rfl, rfl, by decide +kernel, rfl, by decide +kernel, by decide +kernel⟩
abbrev s_Pages_room : Stmt := (inClass (topS 62) 9)
abbrev n_Pages_room : List Str := ["self"]
theorem sc_Pages_room : FnScope n_Pages_room ["self"] (defScope s_Pages_room) := ⟨rfl, rfl, rfl, by decide +kernel, rfl, by decide +kernel, by decide +kernel⟩
abbrev s_Pages_notes : Stmt := (inClass (topS 62) 10)
abbrev n_Pages_notes : List Str := ["self", "number", "record"]
theorem sc_Pages_notes : FnScope n_Pages_notes ["self"] (defScope s_Pages_notes) := ⟨rfl, rfl, rfl, by decide +kernel, rfl, by decide +kernel, by decide +kernel⟩
abbrev s_Pages_checkpoint : Stmt := (inClass (topS 62) 11)
abbrev n_Pages_checkpoint : List Str := ["self", "page"]
theorem sc_Pages_checkpoint : FnScope n_Pages_checkpoint ["self"] (defScope s_Pages_checkpoint) := ⟨rfl, rfl, rfl, by decide +kernel, rfl, by decide +kernel, by decide +kernel⟩
abbrev s_Pages_in_use : Stmt := (inClass (topS 62) 12)
abbrev n_Pages_in_use : List Str := ["self"]
theorem sc_Pages_in_use : FnScope n_Pages_in_use ["self"] (defScope s_Pages_in_use) := ⟨rfl, rfl, rfl, by decide +kernel, rfl, by decide +kernel, by decide +kernel⟩
abbrev s_Pages_high : Stmt := (inClass (topS 62) 13)
abbrev n_Pages_high : List Str := ["self"]
theorem sc_Pages_high : FnScope n_Pages_high ["self"] (defScope s_Pages_high) := ⟨rfl, rfl, rfl, by decide +kernel, rfl, by decide +kernel, by decide +kernel⟩
abbrev s_Pages_many : Stmt := (inClass (topS 62) 14)
abbrev n_Pages_many : List Str := ["self"]
theorem sc_Pages_many : FnScope n_Pages_many ["self"] (defScope s_Pages_many) := ⟨rfl, rfl, rfl, by decide +kernel, rfl, by decide +kernel, by decide +kernel⟩
abbrev s_Pages_take_in : Stmt := (inClass (topS 62) 15)
abbrev n_Pages_take_in : List Str := ["self", "note", "changes", "record", "blocks", "number", "page", "items"]
theorem sc_Pages_take_in : FnScope n_Pages_take_in ["self", "note", "changes"] (defScope s_Pages_take_in) := ⟨rfl, rfl, rfl, by decide +kernel, rfl, by decide +kernel, by decide +kernel⟩
abbrev s_Batch_init : Stmt := (inClass (topS 63) 0)
abbrev n_Batch_init : List Str := ["self", "pages", "_"]
theorem sc_Batch_init : FnScope n_Batch_init ["self", "pages"] (defScope s_Batch_init) := ⟨rfl, rfl, rfl, by decide +kernel, rfl, by decide +kernel, by decide +kernel⟩
abbrev s_Batch_get : Stmt := (inClass (topS 63) 1)
abbrev n_Batch_get : List Str := ["self", "page"]
theorem sc_Batch_get : FnScope n_Batch_get ["self", "page"] (defScope s_Batch_get) := ⟨rfl, rfl, rfl, by decide +kernel, rfl, by decide +kernel, by decide +kernel⟩
abbrev s_Batch_put : Stmt := (inClass (topS 63) 2)
abbrev n_Batch_put : List Str := ["self", "page", "items"]
theorem sc_Batch_put : FnScope n_Batch_put ["self", "page", "items"] (defScope s_Batch_put) := ⟨rfl, rfl, rfl, by decide +kernel, rfl, by decide +kernel, by decide +kernel⟩
abbrev s_Batch_take_page : Stmt := (inClass (topS 63) 3)
abbrev n_Batch_take_page : List Str := ["self"]
theorem sc_Batch_take_page : FnScope n_Batch_take_page ["self"] (defScope s_Batch_take_page) := ⟨rfl, rfl, rfl, by decide +kernel, rfl, by decide +kernel, by decide +kernel⟩
abbrev s_Batch_give_page : Stmt := (inClass (topS 63) 4)
abbrev n_Batch_give_page : List Str := ["self", "page"]
theorem sc_Batch_give_page : FnScope n_Batch_give_page ["self", "page"] (defScope s_Batch_give_page) := ⟨rfl, rfl, rfl, by decide +kernel, rfl, by decide +kernel, by decide +kernel⟩
abbrev s_Batch_root : Stmt := (inClass (topS 63) 5)
abbrev n_Batch_root : List Str := ["self"]
theorem sc_Batch_root : FnScope n_Batch_root ["self"] (defScope s_Batch_root) := ⟨rfl, rfl, rfl, by decide +kernel, rfl, by decide +kernel, by decide +kernel⟩
abbrev s_Batch_last : Stmt := (inClass (topS 63) 6)
abbrev n_Batch_last : List Str := ["self"]
theorem sc_Batch_last : FnScope n_Batch_last ["self"] (defScope s_Batch_last) := ⟨rfl, rfl, rfl, by decide +kernel, rfl, by decide +kernel, by decide +kernel⟩
abbrev s_Batch_set_root : Stmt := (inClass (topS 63) 7)
abbrev n_Batch_set_root : List Str := ["self", "page"]
theorem sc_Batch_set_root : FnScope n_Batch_set_root ["self", "page"] (defScope s_Batch_set_root) := ⟨rfl, rfl, rfl, by decide +kernel, rfl, by decide +kernel, by decide +kernel⟩
abbrev s_Batch_set_last : Stmt := (inClass (topS 63) 8)
abbrev n_Batch_set_last : List Str := ["self", "number"]
theorem sc_Batch_set_last : FnScope n_Batch_set_last ["self", "number"] (defScope s_Batch_set_last) := ⟨rfl, rfl, rfl, by decide +kernel, rfl, by decide +kernel, by decide +kernel⟩
abbrev s_Batch_changed : Stmt := (inClass (topS 63) 9)
abbrev n_Batch_changed : List Str := ["self", "pages"]
theorem sc_Batch_changed : FnScope n_Batch_changed ["self"] (defScope s_Batch_changed) := ⟨rfl, rfl, rfl, by decide +kernel, rfl, by decide +kernel, by decide +kernel⟩
abbrev s_Batch_done : Stmt := (inClass (topS 63) 10)
abbrev n_Batch_done : List Str := ["self", "note", "number", "page"]
theorem sc_Batch_done : FnScope n_Batch_done ["self", "note"] (defScope s_Batch_done) := ⟨rfl, rfl, rfl, by decide +kernel, rfl, by decide +kernel, by decide +kernel⟩
abbrev s_Batch_dropped : Stmt := (inClass (topS 63) 11)
abbrev n_Batch_dropped : List Str := ["self"]
theorem sc_Batch_dropped : FnScope n_Batch_dropped ["self"] (defScope s_Batch_dropped) := ⟨rfl, rfl, rfl, by decide +kernel, rfl, by decide +kernel, by decide +kernel⟩
abbrev s_Batch_ended : Stmt := (inClass (topS 63) 12)
abbrev n_Batch_ended : List Str := ["self"]
theorem sc_Batch_ended : FnScope n_Batch_ended ["self"] (defScope s_Batch_ended) := ⟨rfl, rfl, rfl, by decide +kernel, rfl, by decide +kernel, by decide +kernel⟩
abbrev s_Batch__meta : Stmt := (inClass (topS 63) 13)
abbrev n_Batch__meta : List Str := ["self"]
theorem sc_Batch__meta : FnScope n_Batch__meta ["self"] (defScope s_Batch__meta) := ⟨rfl, rfl, rfl, by decide +kernel, rfl, by decide +kernel, by decide +kernel⟩
abbrev s_Batch__items : Stmt := (inClass (topS 63) 14)
abbrev n_Batch__items : List Str := ["self", "page"]
theorem sc_Batch__items : FnScope n_Batch__items ["self", "page"] (defScope s_Batch__items) := ⟨rfl, rfl, rfl, by decide +kernel, rfl, by decide +kernel, by decide +kernel⟩
abbrev s_Batch__need_under_way : Stmt := (inClass (topS 63) 15)
abbrev n_Batch__need_under_way : List Str := ["self"]
theorem sc_Batch__need_under_way : FnScope n_Batch__need_under_way ["self"] (defScope s_Batch__need_under_way) := ⟨rfl, rfl, rfl, by decide +kernel, rfl, by decide +kernel, by decide +kernel⟩
abbrev s_Batch__need_page : Stmt := (inClass (topS 63) 16)
abbrev n_Batch__need_page : List Str := ["self", "page"]
theorem sc_Batch__need_page : FnScope n_Batch__need_page ["self", "page"] (defScope s_Batch__need_page) := ⟨rfl, rfl, rfl, by decide +kernel, rfl, by decide +kernel, by decide +kernel⟩
abbrev s_Batch__need_in_use : Stmt := (inClass (topS 63) 17)
abbrev n_Batch__need_in_use : List Str := ["self", "page"]
theorem sc_Batch__need_in_use : FnScope n_Batch__need_in_use ["self", "page"] (defScope s_Batch__need_in_use) := ⟨rfl, rfl, rfl, by decide +kernel, rfl, by decide +kernel, by decide +kernel⟩
abbrev s_rows_of : Stmt := (topS 67)
abbrev n_rows_of : List Str := ["items", "fence", "rows", "k"]
theorem sc_rows_of : FnScope n_rows_of ["items", "fence"] (defScope s_rows_of) := ⟨rfl, rfl, rfl, by decide +kernel, rfl, by decide +kernel, by decide +kernel⟩
abbrev s_parted_children : Stmt := (topS 68)
abbrev n_parted_children : List Str := ["rows", "low", "high", "fences", "fence", "_", "k"]
theorem sc_parted_children : FnScope n_parted_children ["rows", "low", "high"] (defScope s_parted_children) := ⟨rfl, rfl, rfl, by decide +kernel, rfl, by decide +kernel, by decide +kernel⟩
abbrev s_all_spots : Stmt := (topS 70)
abbrev n_all_spots : List Str := ["batch"]
theorem sc_all_spots : FnScope n_all_spots ["batch"] (defScope s_all_spots) := ⟨rfl, rfl, rfl, by decide +kernel, rfl, by decide +kernel, by decide +kernel⟩
abbrev s_triples_between : Stmt := (topS 71)
abbrev n_triples_between : List Str := ["batch", "low", "high", "leaves", "pages", "page", "spot", "mark"]
theorem sc_triples_between : FnScope n_triples_between ["batch", "low", "high"] (defScope s_triples_between) := ⟨rfl, rfl, rfl, by decide +kernel, rfl, by decide +kernel, by decide +kernel⟩
abbrev s_levels_between : Stmt := (topS 72)
abbrev n_levels_between : List Str := ["batch", "low", "high", "level", "levels", "further", "page", "begin", "end", "items", "_", "child"]
theorem sc_levels_between : FnScope n_levels_between ["batch", "low", "high"] (defScope s_levels_between) := ⟨rfl, rfl, rfl, by decide +kernel, rfl, by decide +kernel, by decide +kernel⟩
abbrev s_meets : Stmt := (topS 73)
abbrev n_meets : List Str := ["child", "low", "high", "_", "begin", "end"]
theorem sc_meets : FnScope n_meets ["child", "low", "high"] (defScope s_meets) := ⟨rfl, rfl, rfl, by decide +kernel, rfl, by decide +kernel, by decide +kernel⟩
abbrev s_need_snapshot : Stmt := (topS 75)
abbrev n_need_snapshot : List Str := ["snapshot"]
theorem sc_need_snapshot : FnScope n_need_snapshot ["snapshot"] (defScope s_need_snapshot) := ⟨rfl, rfl, rfl, by decide +kernel, rfl, by decide +kernel, by decide +kernel⟩
abbrev s_seen_pairs : Stmt := (topS 76)
abbrev n_seen_pairs : List Str := ["triples", "snapshot", "seen", "key", "number", "mark", "worth"]
theorem sc_seen_pairs : FnScope n_seen_pairs ["triples", "snapshot"] (defScope s_seen_pairs) := ⟨rfl, rfl, rfl, by decide +kernel, rfl, by decide +kernel, by decide +kernel⟩
abbrev s_dict_at : Stmt := (topS 77)
abbrev n_dict_at : List Str := ["batch", "snapshot"]
theorem sc_dict_at : FnScope n_dict_at ["batch", "snapshot"] (defScope s_dict_at) := ⟨rfl, rfl, rfl, by decide +kernel, rfl, by decide +kernel, by decide +kernel⟩
abbrev s_opened_copy : Stmt := (topS 79)
abbrev n_opened_copy : List Str := ["disk"]
theorem sc_opened_copy : FnScope n_opened_copy ["disk"] (defScope s_opened_copy) := ⟨rfl, rfl, rfl, by decide +kernel, rfl, by decide +kernel, by decide +kernel⟩
abbrev s_pages_of : Stmt := (topS 80)
abbrev n_pages_of : List Str := ["disk", "pages", "page"]
theorem sc_pages_of : FnScope n_pages_of ["disk"] (defScope s_pages_of) := ⟨rfl, rfl, rfl, by decide +kernel, rfl, by decide +kernel, by decide +kernel⟩
abbrev s_prefix_of : Stmt := (topS 81)
abbrev n_prefix_of : List Str := ["disk"]
theorem sc_prefix_of : FnScope n_prefix_of ["disk"] (defScope s_prefix_of) := ⟨rfl, rfl, rfl, by decide +kernel, rfl, by decide +kernel, by decide +kernel⟩
abbrev s_meaning : Stmt := (topS 82)
abbrev n_meaning : List Str := ["disk"]
theorem sc_meaning : FnScope n_meaning ["disk"] (defScope s_meaning) := ⟨rfl, rfl, rfl, by decide +kernel, rfl, by decide +kernel, by decide +kernel⟩
abbrev s_commits_of : Stmt := (topS 83)
abbrev n_commits_of : List Str := ["disk"]
theorem sc_commits_of : FnScope n_commits_of ["disk"] (defScope s_commits_of) := ⟨rfl, rfl, rfl, by decide +kernel, rfl, by decide +kernel, by decide +kernel⟩
abbrev s_law_tape : Stmt := (topS 85)
abbrev n_law_tape : List Str := ["script"]
theorem sc_law_tape : FnScope n_law_tape ["script"] (defScope s_law_tape) := ⟨rfl, rfl, rfl, by decide +kernel, rfl, by decide +kernel, by decide +kernel⟩
abbrev s_law_pick : Stmt := (topS 86)
abbrev n_law_pick : List Str := ["tape", "many", "digit", "cell", "mixed"]
theorem sc_law_pick : FnScope n_law_pick ["tape", "many"] (defScope s_law_pick) := ⟨rfl, rfl, rfl, by decide +kernel, rfl, by decide +kernel, by decide +kernel⟩
abbrev s_law_any : Stmt := (topS 87)
abbrev n_law_any : List Str := ["tape", "some"]
theorem sc_law_any : FnScope n_law_any ["tape", "some"] (defScope s_law_any) := ⟨rfl, rfl, rfl, by decide +kernel, rfl, by decide +kernel, by decide +kernel⟩
abbrev s_law_word : Stmt := (topS 88)
abbrev n_law_word : List Str := ["call", "found"]
theorem sc_law_word : FnScope n_law_word ["call"] (defScope s_law_word) := ⟨rfl, rfl, rfl, by decide +kernel, rfl, by decide +kernel, by decide +kernel⟩
abbrev s_law_master : Stmt := (topS 89)
abbrev n_law_master : List Str := ["tape", "blocks", "ring", "right", "at", "odd", "bent", "menu", "size"]
theorem sc_law_master : FnScope n_law_master ["tape", "blocks", "ring"] (defScope s_law_master) := ⟨rfl, rfl, rfl, by decide +kernel, rfl, by decide +kernel, by decide +kernel⟩
abbrev s_law_asked : Stmt := (topS 90)
abbrev n_law_asked : List Str := ["disk", "found"]
theorem sc_law_asked : FnScope n_law_asked ["disk"] (defScope s_law_asked) := ⟨rfl, rfl, rfl, by decide +kernel, rfl, by decide +kernel, by decide +kernel⟩
abbrev s_law : Stmt := (topS 91)
abbrev n_law : List Str := ["script", "tape", "turn", "blocks", "ring", "disk", "content", "is_right", "due"]
theorem sc_law : FnScope n_law ["script"] (defScope s_law) := ⟨rfl, rfl, rfl, by decide +kernel, rfl, by decide +kernel, by decide +kernel⟩
structure Txt (K : PySem.W.Frag) (mg : Str → Option Value) where
  is_integer : DefAt K mg "is_integer" "is_integer" s_is_integer ["thing"]
  is_within : DefAt K mg "is_within" "is_within" s_is_within ["thing", "low", "high"]
  is_number : DefAt K mg "is_number" "is_number" s_is_number ["thing"]
  is_word : DefAt K mg "is_word" "is_word" s_is_word ["thing"]
  is_item : DefAt K mg "is_item" "is_item" s_is_item ["thing"]
  is_ascending : DefAt K mg "is_ascending" "is_ascending" s_is_ascending ["row"]
  is_lot : DefAt K mg "is_lot" "is_lot" s_is_lot ["thing"]
  is_items : DefAt K mg "is_items" "is_items" s_is_items ["thing", "least", "most"]
  formatted : DefAt K mg "formatted" "formatted" s_formatted ["blocks", "ring"]
  is_ring_size : DefAt K mg "is_ring_size" "is_ring_size" s_is_ring_size ["ring", "blocks"]
  is_master : DefAt K mg "is_master" "is_master" s_is_master ["content", "blocks"]
  pieces_of : DefAt K mg "pieces_of" "pieces_of" s_pieces_of ["record"]
  master_of : DefAt K mg "master_of" "master_of" s_master_of ["disk"]
  counted : DefAt K mg "counted" "counted" s_counted ["disk", "latest"]
  is_piece : DefAt K mg "is_piece" "is_piece" s_is_piece ["content", "k"]
  begins : DefAt K mg "begins" "begins" s_begins ["master", "content"]
  goes_on : DefAt K mg "goes_on" "goes_on" s_goes_on ["ahead", "content"]
  read_prefix : DefAt K mg "read_prefix" "read_prefix" s_read_prefix ["disk", "latest"]
  note_of : DefAt K mg "note_of" "note_of" s_note_of ["record"]
  changes_of : DefAt K mg "changes_of" "changes_of" s_changes_of ["record"]
  last_told : DefAt K mg "last_told" "last_told" s_last_told ["disk"]
  is_meta : DefAt K mg "is_meta" "is_meta" s_is_meta ["items", "many"]
  all_spots : DefAt K mg "all_spots" "all_spots" s_all_spots ["batch"]
  triples_between : DefAt K mg "triples_between" "triples_between" s_triples_between ["batch", "low", "high"]
  levels_between : DefAt K mg "levels_between" "levels_between" s_levels_between ["batch", "low", "high"]
  need_snapshot : DefAt K mg "need_snapshot" "need_snapshot" s_need_snapshot ["snapshot"]
  seen_pairs : DefAt K mg "seen_pairs" "seen_pairs" s_seen_pairs ["triples", "snapshot"]
  dict_at : DefAt K mg "dict_at" "dict_at" s_dict_at ["batch", "snapshot"]
  opened_copy : DefAt K mg "opened_copy" "opened_copy" s_opened_copy ["disk"]
  pages_of : DefAt K mg "pages_of" "pages_of" s_pages_of ["disk"]
  prefix_of : DefAt K mg "prefix_of" "prefix_of" s_prefix_of ["disk"]
  meaning : DefAt K mg "meaning" "meaning" s_meaning ["disk"]
  commits_of : DefAt K mg "commits_of" "commits_of" s_commits_of ["disk"]
  law_tape : DefAt K mg "_law_tape" "_law_tape" s_law_tape ["script"]
  law_pick : DefAt K mg "_law_pick" "_law_pick" s_law_pick ["tape", "many"]
  law_any : DefAt K mg "_law_any" "_law_any" s_law_any ["tape", "some"]
  law_word : DefAt K mg "_law_word" "_law_word" s_law_word ["call"]
  law_master : DefAt K mg "_law_master" "_law_master" s_law_master ["tape", "blocks", "ring"]
  law_asked : DefAtL K mg "_law_asked" "_law_asked" s_law_asked ["disk"]
  C_Disk : Addr
  k_Disk : ClsAt K mg "Disk" C_Disk
  C_Log : Addr
  k_Log : ClsAt K mg "Log" C_Log
  C_Pages : Addr
  k_Pages : ClsAt K mg "Pages" C_Pages
  C_Batch : Addr
  k_Batch : ClsAt K mg "Batch" C_Batch
  i_Disk : C8.InsC K C_Disk
  m_Disk_init : MethAt K C_Disk "__init__" "Disk.__init__" s_Disk_init ["self", "blocks"]
  m_Disk_blocks : MethAt K C_Disk "blocks" "Disk.blocks" s_Disk_blocks ["self"]
  m_Disk_write : MethAt K C_Disk "write" "Disk.write" s_Disk_write ["self", "block", "content"]
  m_Disk_read : MethAt K C_Disk "read" "Disk.read" s_Disk_read ["self", "block"]
  m_Disk_reach : MethAt K C_Disk "reach" "Disk.reach" s_Disk_reach ["self", "block"]
  m_Disk_force : MethAt K C_Disk "force" "Disk.force" s_Disk_force ["self", "lot"]
  m_Disk_calm : MethAt K C_Disk "calm" "Disk.calm" s_Disk_calm ["self"]
  m_Disk_power : MethAt K C_Disk "power" "Disk.power" s_Disk_power ["self", "many"]
  m_Disk_cut : MethAt K C_Disk "cut" "Disk.cut" s_Disk_cut ["self"]
  m_Disk_waiting : MethAt K C_Disk "waiting" "Disk.waiting" s_Disk_waiting ["self"]
  m_Disk_lying : MethAt K C_Disk "lying" "Disk.lying" s_Disk_lying ["self", "block"]
  m_Disk_copy : MethAt K C_Disk "copy" "Disk.copy" s_Disk_copy ["self"]
  m_Disk__need_block : MethAt K C_Disk "_need_block" "Disk._need_block" s_Disk__need_block ["self", "block"]
  m_Disk__reach_one : MethAt K C_Disk "_reach_one" "Disk._reach_one" s_Disk__reach_one ["self", "block"]
  m_Log_init : MethAt K C_Log "__init__" "Log.__init__" s_Log_init ["self", "disk"]
  m_Log__keep : MethAt K C_Log "_keep" "Log._keep" s_Log__keep ["self", "record", "epoch"]
  m_Log_last : MethAt K C_Log "last" "Log.last" s_Log_last ["self"]
  m_Log_records : MethAt K C_Log "records" "Log.records" s_Log_records ["self"]
  m_Pages_init : MethAt K C_Pages "__init__" "Pages.__init__" s_Pages_init ["self", "disk"]
  m_Pages_batch : MethAt K C_Pages "batch" "Pages.batch" s_Pages_batch ["self"]
  m_Pages_held : MethAt K C_Pages "held" "Pages.held" s_Pages_held ["self", "page"]
  m_Pages__need_page : MethAt K C_Pages "_need_page" "Pages._need_page" s_Pages__need_page ["self", "page"]
  m_Pages_notes : MethAt K C_Pages "notes" "Pages.notes" s_Pages_notes ["self"]
  m_Pages_high : MethAt K C_Pages "high" "Pages.high" s_Pages_high ["self"]
  m_Batch_init : MethAt K C_Batch "__init__" "Batch.__init__" s_Batch_init ["self", "pages"]
  m_Batch_root : MethAt K C_Batch "root" "Batch.root" s_Batch_root ["self"]
  m_Batch_last : MethAt K C_Batch "last" "Batch.last" s_Batch_last ["self"]
  m_Batch__need_under_way : MethAt K C_Batch "_need_under_way" "Batch._need_under_way" s_Batch__need_under_way ["self"]
  m_StoreError_init : InitAt K "__init__" "StoreError.__init__" s_StoreError_init ["self"]
  vV : PySem.W.findCls K (.type "ValueError") (.type "type") "__init__" = some (.val (.builtin "ValueError.__init__"))
  e_Stopped : ExcAt K mg "Stopped" m_StoreError_init.f
  e_BadDisk : ExcAt K mg "BadDisk" m_StoreError_init.f
  n_Disk__lies : NoAttr K C_Disk "_lies"
  n_Disk__waits : NoAttr K C_Disk "_waits"
  n_Disk__power : NoAttr K C_Disk "_power"
  n_Disk__reached : NoAttr K C_Disk "_reached"
  n_Log__disk : NoAttr K C_Log "_disk"
  n_Log__epoch : NoAttr K C_Log "_epoch"
  n_Log__ring : NoAttr K C_Log "_ring"
  n_Log__begin : NoAttr K C_Log "_begin"
  n_Log__kept : NoAttr K C_Log "_kept"
  n_Log__begin_k : NoAttr K C_Log "_begin_k"
  n_Log__next_k : NoAttr K C_Log "_next_k"
  n_Log__forced : NoAttr K C_Log "_forced"
  n_Pages__log : NoAttr K C_Pages "_log"
  n_Pages__disk : NoAttr K C_Pages "_disk"
  n_Pages__first : NoAttr K C_Pages "_first"
  n_Pages__many : NoAttr K C_Pages "_many"
  n_Pages__held : NoAttr K C_Pages "_held"
  n_Pages__dirty : NoAttr K C_Pages "_dirty"
  n_Pages__batch : NoAttr K C_Pages "_batch"
  n_Batch__pages : NoAttr K C_Batch "_pages"
  n_Batch__is_over : NoAttr K C_Batch "_is_over"
  n_Batch__changed : NoAttr K C_Batch "_changed"
  n_Batch__root : NoAttr K C_Batch "_root"
  n_Batch__last : NoAttr K C_Batch "_last"
  n_Batch__head : NoAttr K C_Batch "_head"
  n_Batch__high : NoAttr K C_Batch "_high"
  x_BadDisk : L2.ExcC K e_BadDisk.C
  N_StoreError : Addr
  g_StoreError : mg "StoreError" = some (.ref N_StoreError)
  ks_BadDisk : PySem.W.kitOne K (.ref e_BadDisk.C) (.ref N_StoreError) = some true
  kv_BadDisk : PySem.W.kitOne K (.ref e_BadDisk.C) (.type "ValueError") = some true
  dst : ([law_asked.P] : List Addr).Nodup
  z_ValueError : mg "ValueError" = none
  z_all : mg "all" = none
  z_bool : mg "bool" = none
  z_dict : mg "dict" = none
  z_enumerate : mg "enumerate" = none
  z_int : mg "int" = none
  z_isinstance : mg "isinstance" = none
  z_len : mg "len" = none
  z_list : mg "list" = none
  z_range : mg "range" = none
  z_sorted : mg "sorted" = none
  z_str : mg "str" = none
  z_tuple : mg "tuple" = none
  c_GREATEST_ITEM : CAt mg "GREATEST_ITEM" (.int (1000000000000000000000000000000))
  c_GREATEST_COMMIT : CAt mg "GREATEST_COMMIT" (.int (1000000000000000000))
  c_LONGEST_WORD : CAt mg "LONGEST_WORD" (.int (12))
  c_LEAST_BLOCKS : CAt mg "LEAST_BLOCKS" (.int (16))
  c_MOST_BLOCKS : CAt mg "MOST_BLOCKS" (.int (600))
  c_MOST_ITEMS : CAt mg "MOST_ITEMS" (.int (40))
  c_MOST_POWER : CAt mg "MOST_POWER" (.int (1000000))
  c_MASTER : CAt mg "MASTER" (.str "master")
  c_LEAST_RING : CAt mg "LEAST_RING" (.int (4))
  c_OTHER_BLOCKS : CAt mg "OTHER_BLOCKS" (.int (8))
  c_PIECE : CAt mg "PIECE" (.int (36))
  c_HEAD : CAt mg "HEAD" (.int (4))
  c_META : CAt mg "META" (.str "meta")
  c_META_PAGE : CAt mg "META_PAGE" (.int (0))
  c_NO_FREE : CAt mg "NO_FREE" (.int (-1))
abbrev tabsL {K : PySem.W.Frag} {mg : Str → Option Value} (T : Txt K mg) : List (Addr × Str) := [(T.law_asked.P, (("_law_asked" : Str) ++ ".<locals>.") ++ "<lambda>")]
theorem tabsM_law_asked {K : PySem.W.Frag} {mg : Str → Option Value} (T : Txt K mg) : (T.law_asked.P, (("_law_asked" : Str) ++ ".<locals>.") ++ "<lambda>") ∈ tabsL T := .head _



section
variable {P : Program} {w : World} {K : PySem.W.Frag} {mg : Str → Option Value} {base : Heap}
theorem ok_StoreError_init (M : InitAt K "__init__" "StoreError.__init__" s_StoreError_init ["self"]) (z : mg "ValueError" = none) (vV : PySem.W.findCls K (.type "ValueError") (.type "type") "__init__" = some (.val (.builtin "ValueError.__init__"))) : FnOk P w K mg base CX0 1 M.f M.fd ["self"] (sp_exc_init K) := by
  refine M.F.ok sc_StoreError_init (fun vs H Q E h => ?_) (fun cdv A outer s H vs Q E hr h => ?_)
  · obtain ⟨a, C, rfl, _⟩ := h
    rfl
  · obtain ⟨a, C, rfl, o, ha, k⟩ := h
    exact ⟨_, pss_one (ps_expr (pe_veinit (by rfl) z vV (pa_cons (pv 0) pa_nil))), _, rfl, a, C, [], rfl, by decide, o, ha, k⟩
end



section
variable {P : Program} {w : World} {K : PySem.W.Frag} {mg : Str → Option Value} {base : Heap}
/-! ### kinds of numbers -/
abbrev isI : V → Bool
  | .int _ => true
  | _ => false
abbrev isN : V → Bool
  | .int i => decide (0 ≤ i)
  | _ => false
abbrev plainV : V → Bool
  | .int _ => true | .non => true | .bl _ => true | .str _ => true
  | _ => false
abbrev within (x : V) (lo hi : Int) : Bool := match x with
  | .int i => decide (lo ≤ i) && decide (i ≤ hi)
  | _ => false
abbrev markB : V → Bool
  | .non => true
  | x => within x (-1000000000000000000) 1000000000000000000
/-- something that is no scalar: a tuple (b), or something else -/
structure Kd (K : PySem.W.Frag) (H : Hp) (v : V) (b : Bool) : Prop where
  ex : ∃ (a : Addr) (t : Value), v = .ref a ∧ TyX K H v t ∧ PySem.W.kitOne K t (.type "int") = some false ∧ PySem.W.kitOne K t (.type "bool") = some false ∧ PySem.W.kitOne K t (.type "str") = some false ∧ PySem.W.kitOne K t (.type "tuple") = some b
theorem Kd.tup {H : Hp} {a : Addr} {xs : List V} (h : SqT K H a xs) : Kd K H (.ref a) true := ⟨a, _, rfl, tyx_st h, kit_ty (by decide +kernel), kit_ty (by decide +kernel), kit_ty (by decide +kernel), kit_ty (by decide +kernel)⟩
theorem Kd.lst {H : Hp} {a : Addr} {xs : List V} (h : H a = some (.lst xs)) : Kd K H (.ref a) false := ⟨a, _, rfl, .base (.lst h), kit_ty (by decide +kernel), kit_ty (by decide +kernel), kit_ty (by decide +kernel), kit_ty (by decide +kernel)⟩
theorem Kd.dct {H : Hp} {a : Addr} {kvs : List (Key × V)} (h : H a = some (.dK kvs)) : Kd K H (.ref a) false := ⟨a, _, rfl, .base (.dK h), kit_ty (by decide +kernel), kit_ty (by decide +kernel), kit_ty (by decide +kernel), kit_ty (by decide +kernel)⟩
section
variable {H : Hp} {v : V} {b : Bool} {Q : VK}
theorem Kd.int (h : Kd K H v b) (q : Q (.bl false) H) : rIsi K [v, .ty "int"] H Q := by
  obtain ⟨a, t, rfl, ty, h1, h2, h3, h4⟩ := h
  exact ⟨_, _, t, _, false, rfl, .ty _, ty, h1, q⟩
theorem Kd.str (h : Kd K H v b) (q : Q (.bl false) H) : rIsi K [v, .ty "str"] H Q := by
  obtain ⟨a, t, rfl, ty, h1, h2, h3, h4⟩ := h
  exact ⟨_, _, t, _, false, rfl, .ty _, ty, h3, q⟩
theorem Kd.tpl (h : Kd K H v b) (q : Q (.bl b) H) : rIsi K [v, .ty "tuple"] H Q := by
  obtain ⟨a, t, rfl, ty, h1, h2, h3, h4⟩ := h
  exact ⟨_, _, t, _, b, rfl, .ty _, ty, h4, q⟩
theorem Kd.ref (h : Kd K H v b) : ∃ a, v = .ref a := by
  obtain ⟨a, _, e, _⟩ := h.ex
  exact ⟨a, e⟩
end
/-- a scalar, or anything else -/
def Od (K : PySem.W.Frag) (H : Hp) (v : V) : Prop := plainV v = true ∨ ∃ b, Kd K H v b
def OdS (K : PySem.W.Frag) (H : Hp) (v : V) : Prop := (match v with | .str z => decide (z.length ≤ 100000) | x => plainV x) = true ∨ ∃ b, Kd K H v b
def sp_is_integer (K : PySem.W.Frag) : Sp := fun vs H Q _ => ∃ x, vs = [x] ∧ Od K H x ∧ Q (.bl (isI x)) H
theorem ok_is_integer (T : Txt K mg) : FnOk P w K mg base CX0 1 T.is_integer.f T.is_integer.fd ["thing"] (sp_is_integer K) := by
  refine T.is_integer.F.ok sc_is_integer (fun vs H Q E h => ?_) (fun cdv A outer s H vs Q E hr h => ?_)
  · obtain ⟨x, rfl, _⟩ := h
    rfl
  · obtain ⟨x, rfl, hp, k⟩ := h
    refine ⟨_, (pss_one (ps_ret (pe_and (pe_callB (cIsi (K := K)) (by rfl) T.z_isinstance (by decide +kernel) (pa_cons (pv 0) (pa_cons (pe_bltn (v := .ty "int") (by rfl) T.z_int (by decide +kernel) rfl) pa_nil))) (pe_one (pe_not (pe_callB (cIsi (K := K)) (by rfl) T.z_isinstance (by decide +kernel) (pa_cons (pv 0) (pa_cons (pe_bltn (v := .ty "bool") (by rfl) T.z_bool (by decide +kernel) rfl) pa_nil)))))))), ?_⟩
    rcases hp with hp | ⟨b, hp⟩
    rotate_left 1
    · walk_at "go"
      refine hp.int ?_
      obtain ⟨a, rfl⟩ := hp.ref
      walk_at "go"
      exact k
    cases x with
    | int a => walk_at "go"; exact k
    | non => walk_at "go"; exact k
    | bl b => walk_at "go"; exact k
    | str z => walk_at "go"; exact k
    | _ => cases hp
def sp_is_within (K : PySem.W.Frag) : Sp := fun vs H Q _ => ∃ x lo hi, vs = [x, .int lo, .int hi] ∧ Od K H x ∧ Q (.bl (within x lo hi)) H
theorem ok_is_within (T : Txt K mg) : FnOk P w K mg base CX0 2 T.is_within.f T.is_within.fd ["thing", "low", "high"] (sp_is_within K) := by
  refine T.is_within.F.ok sc_is_within (fun vs H Q E h => ?_) (fun cdv A outer s H vs Q E hr h => ?_)
  · obtain ⟨x, lo, hi, rfl, _⟩ := h
    rfl
  · obtain ⟨x, lo, hi, rfl, hp, k⟩ := h
    refine ⟨_, (pss_one (ps_ret (pe_and (pe_call (ok_is_integer T) (hr.mono (by decide)) (by rfl) T.is_integer.g T.is_integer.F.kp T.is_integer.b .nil pass0 (pa_cons (pv 0) pa_nil)) (pe_one (pe_chain op_le op_le (pv 1) (pv 0) (pv 2)))))), ?_⟩
    walk_at "go"
    refine ⟨x, rfl, hp, ?_⟩
    rcases hp with hp | ⟨b, hp⟩
    rotate_left 1
    · obtain ⟨a, rfl⟩ := hp.ref
      walk_at "go"
      exact k
    cases x with
    | int a =>
      walk_at "go"
      refine i_d (fun h1 => ?_) (fun h1 => ?_)
      · walk_at "go"
        simpa [within, h1] using k
      · walk_at "go"
        simpa [within, h1] using k
    | non => walk_at "go"; exact k
    | bl b => walk_at "go"; exact k
    | str z => walk_at "go"; exact k
    | _ => cases hp
def sp_is_number (K : PySem.W.Frag) : Sp := fun vs H Q _ => ∃ x, vs = [x] ∧ Od K H x ∧ Q (.bl (isN x)) H
theorem ok_is_number (T : Txt K mg) : FnOk P w K mg base CX0 2 T.is_number.f T.is_number.fd ["thing"] (sp_is_number K) := by
  refine T.is_number.F.ok sc_is_number (fun vs H Q E h => ?_) (fun cdv A outer s H vs Q E hr h => ?_)
  · obtain ⟨x, rfl, _⟩ := h
    rfl
  · obtain ⟨x, rfl, hp, k⟩ := h
    refine ⟨_, (pss_one (ps_ret (pe_and (pe_call (ok_is_integer T) (hr.mono (by decide)) (by rfl) T.is_integer.g T.is_integer.F.kp T.is_integer.b .nil pass0 (pa_cons (pv 0) pa_nil)) (pe_one (pe_cmpR op_ge (pv 0) pe_int (nomark _)))))), ?_⟩
    walk_at "go"
    refine ⟨x, rfl, hp, ?_⟩
    rcases hp with hp | ⟨b, hp⟩
    rotate_left 1
    · obtain ⟨a, rfl⟩ := hp.ref
      walk_at "go"
      exact k
    cases x with
    | int a => walk_at "go"; exact k
    | non => walk_at "go"; exact k
    | bl b => walk_at "go"; exact k
    | str z => walk_at "go"; exact k
    | _ => cases hp
/-! ### words and items -/
def wordB (z : Str) : Bool := decide (z.length ≤ 12) && (decide (z = "") || (Txt.isascii z && (Txt.isalpha z && Txt.islower z)))
abbrev smallV (x : V) : Bool := match x with
  | .str z => decide (z.length ≤ 100000)
  | x => plainV x
theorem small_plain {x : V} (h : smallV x = true) : plainV x = true := by
  cases x <;> first | rfl | exact h
abbrev isW : V → Bool
  | .str z => wordB z
  | _ => false
theorem OdS.od {H : Hp} {v : V} (h : OdS K H v) : Od K H v := h.imp (fun h => small_plain h) id
def sp_is_word (K : PySem.W.Frag) : Sp := fun vs H Q _ => ∃ x, vs = [x] ∧ OdS K H x ∧ Q (.bl (isW x)) H
theorem ok_is_word (T : Txt K mg) : FnOk P w K mg base CX0 1 T.is_word.f T.is_word.fd ["thing"] (sp_is_word K) := by
  refine T.is_word.F.ok sc_is_word (fun vs H Q E h => ?_) (fun cdv A outer s H vs Q E hr h => ?_)
  · obtain ⟨x, rfl, _⟩ := h
    rfl
  · obtain ⟨x, rfl, hp, k⟩ := h
    refine ⟨_, (pss_cons (ps_if (PW.pt (pw_or (pt_not (ptTruth (K := K) (pe_callB (cIsi (K := K)) (by rfl) T.z_isinstance (by decide +kernel) (pa_cons (pv 0) (pa_cons (pe_bltn (v := .ty "str") (by rfl) T.z_str (by decide +kernel) rfl) pa_nil))) (by intro _; rfl))) (pw_or1 (pt_cmpR op_gt (pe_callB (cLen (K := K)) (by rfl) T.z_len PySem.boot_len (pa_cons (pv 0) pa_nil)) (pe_glob (by rfl) T.c_LONGEST_WORD.h T.c_LONGEST_WORD.r) (nomark _))))) (pss_one (ps_ret pe_bl)) pss_nil)
    (pss_one (ps_ret (pe_or (pe_cmpR (oEq (K := K) hr.units) (pv 0) pe_str (nomark _)) (pe_one (pe_and (peIsascii (K := K) (pv 0)) (pe_and (peIsalpha (K := K) (pv 0)) (pe_one (peIslower (K := K) (pv 0)))))))))), ?_⟩
    rcases hp with hp | ⟨b, hp⟩
    rotate_left 1
    · walk_at "go"
      refine hp.str ?_
      obtain ⟨a, rfl⟩ := hp.ref
      walk_at "go"
      exact k
    cases x with
    | int a => walk_at "go"; exact k
    | non => walk_at "go"; exact k
    | bl b => walk_at "go"; exact k
    | str z =>
      have hz : z.length ≤ 100000 := of_decide_eq_true hp
      walk_at "go"
      refine e_lenS hz ?_
      walk_at "go"
      have k : Q (.bl (wordB z)) H := k
      unfold wordB at k
      refine i_d (fun q => ?_) (fun q => ?_)
      · rw [decide_eq_false (show ¬ z.length ≤ 12 by omega)] at k
        walk_at "go"
        exact k
      · rw [decide_eq_true (show z.length ≤ 12 by omega), Bool.true_and] at k
        walk_at "go"
        refine i_d (fun q2 => ?_) (fun q2 => ?_)
        · rw [decide_eq_true q2, Bool.true_or] at k
          walk_at "go"
          exact k
        · rw [decide_eq_false q2, Bool.false_or] at k
          walk_at "go"
          cases e1 : Txt.isascii z with
          | false =>
            rw [e1] at k
            walk_at "go"
            exact k
          | true =>
            rw [e1, Bool.true_and] at k
            walk_at "go"
            cases e2 : Txt.isalpha z with
            | false =>
              rw [e2] at k
              walk_at "go"
              exact k
            | true =>
              rw [e2, Bool.true_and] at k
              walk_at "go"
              exact k
    | _ => cases hp
def itemB (x : V) : Bool := isW x || within x (-1000000000000000000000000000000) 1000000000000000000000000000000
def sp_is_item (K : PySem.W.Frag) : Sp := fun vs H Q _ => ∃ x, vs = [x] ∧ OdS K H x ∧ Q (.bl (itemB x)) H
theorem ok_is_item (T : Txt K mg) : FnOk P w K mg base CX0 3 T.is_item.f T.is_item.fd ["thing"] (sp_is_item K) := by
  refine T.is_item.F.ok sc_is_item (fun vs H Q E h => ?_) (fun cdv A outer s H vs Q E hr h => ?_)
  · obtain ⟨x, rfl, _⟩ := h
    rfl
  · obtain ⟨x, rfl, hp, k⟩ := h
    refine ⟨_, (pss_one (ps_ret (pe_or (pe_call (ok_is_word T) (hr.mono (by decide)) (by rfl) T.is_word.g T.is_word.F.kp T.is_word.b .nil pass0 (pa_cons (pv 0) pa_nil)) (pe_one (pe_call (ok_is_within T) (hr.mono (by decide)) (by rfl) T.is_within.g T.is_within.F.kp T.is_within.b .nil pass0 (pa_cons (pv 0) (pa_cons (pe_un un_neg (pe_glob (by rfl) T.c_GREATEST_ITEM.h T.c_GREATEST_ITEM.r)) (pa_cons (pe_glob (by rfl) T.c_GREATEST_ITEM.h T.c_GREATEST_ITEM.r) pa_nil)))))))), ?_⟩
    walk_at "go"
    refine ⟨x, rfl, hp, ?_⟩
    unfold itemB at k
    cases e : isW x with
    | true =>
      rw [e] at k
      walk_at "go"
      exact k
    | false =>
      rw [e, Bool.false_or] at k
      walk_at "go"
      exact ⟨x, _, _, rfl, hp.od, k⟩
/-! ### lots -/
def ascF (ns : List Int) (k : Nat) : Bool := decide (ns.getD k 0 < ns.getD (k + 1) 0)
def ascB (ns : List Int) : Bool := ((List.range (ns.length - 1)).map (ascF ns)).all id
def sp_is_ascending (K : PySem.W.Frag) : Sp := fun vs H Q _ => ∃ a ns, vs = [.ref a] ∧ SqT K H a (ns.map V.int) ∧ ns.length ≤ 10000 ∧ ∀ H', Same H H' → Q (.bl (ascB ns)) H'
theorem ok_is_ascending (T : Txt K mg) : FnOk P w K mg base CX0 1 T.is_ascending.f T.is_ascending.fd ["row"] (sp_is_ascending K) := by
  refine T.is_ascending.F.ok sc_is_ascending (fun vs H Q E h => ?_) (fun cdv A outer s H vs Q E hr h => ?_)
  · obtain ⟨a, ns, rfl, _⟩ := h
    rfl
  · obtain ⟨a, ns, rfl, hS, hl, k⟩ := h
    refine ⟨_, (pss_one (ps_ret (pe_callB (cAll (K := K) rfl) (by rfl) T.z_all (by decide +kernel) (pa_cons (pe_lc (own := [("k", 1)]) rfl sc_is_ascending.nd (pi_range1 (by rfl) T.z_range (pa_cons (pe_op op_sub (pe_callB (cLen (K := K)) (by rfl) T.z_len PySem.boot_len (pa_cons (pv 0) pa_nil)) pe_int) pa_nil)) (blkOk_by (N := n_is_ascending) (sc := defScope s_is_ascending) (by decide +kernel)) (fun _ _ _ _ _ => (pg_name (i := 1) sc_is_ascending.nd rfl (Or.inl rfl))) (fun _ _ _ _ _ => pts_nil) (fun _ _ _ _ _ => (pe_cmpR oLt (pe_ix (ixLT (K := K)) (pv 0) (pv 1) (fun _ _ => rfl)) (pe_ix (ixLT (K := K)) (pv 0) (pe_op oAdd (pv 1) pe_int) (fun _ _ => rfl)) (nomark _)))) pa_nil)))), ?_⟩
    walk_at "go"
    refine i_rng (ns.length - 1) (by omega) (by omega) (by omega) ?_
    refine c_rng (fun i acc H1 => Same H H1 ∧ acc = ((List.range i).map (ascF ns)).map V.bl) (fun D hD => ⟨upd_free (Same.refl _) hD, rfl⟩) (fun acc D H1 hD hp p => ?_) (fun _ => rfl) (fun i acc H1 D hi hD hp p => ?_)
    · obtain ⟨p1, rfl⟩ := p
      walk_at "go"
      exact e_allB hp (k _ p1)
    · obtain ⟨p1, rfl⟩ := p
      have hS1 := st_ p1 hS
      walk_at "go"
      refine o_ixT hS1 (atI_map i rfl (by omega)) ?_
      walk_at "go"
      refine o_ixT hS1 (atI_map (i + 1) (by omega) (by omega)) ?_
      walk_at "go"
      refine ⟨_, hp, lt_size (by simp; omega), _, upd_same, upd_free p1 hD, ?_⟩
      rw [List.range_succ, List.map_append, List.map_append]; rfl
def lotB (ns : List Int) : Bool := ns.all (fun i => decide (0 ≤ i)) && ascB ns
def vInt : V → Int
  | .int i => i
  | _ => 0
def lotV (xs : List V) : Bool := xs.all isN && ascB (xs.map vInt)
theorem all_nums : ∀ {xs : List V}, xs.all isN = true → xs = (xs.map vInt).map V.int
  | [], _ => rfl
  | x :: xs, h => by
    rw [List.all_cons, Bool.and_eq_true] at h
    have e : x = V.int (vInt x) := by
      cases x with
      | int i => rfl
      | _ => cases h.1
    rw [List.map_cons, List.map_cons, ← all_nums h.2, ← e]
theorem ty_same {H H' : Hp} {v : V} {t : Value} (h : TyX K H v t) (s : Same H H') : TyX K H' v t := by
  cases h with
  | base h =>
    refine .base ?_
    cases h with
    | non => exact .non
    | bl x => exact .bl x
    | int i => exact .int i
    | str x => exact .str x
    | flt x => exact .flt x
    | lst e => exact .lst (s _ _ e)
    | frz e => exact .frz (s _ _ e)
    | tup e => exact .tup (s _ _ e)
    | dK e => exact .dK (s _ _ e)
    | dT e => exact .dT (s _ _ e)
    | ins e cl ha hn htk hm => exact .ins (s _ _ e) cl ha hn htk hm
  | byt b => exact .byt b
  | set e => exact .set (s _ _ e)
  | kList e c => exact .kList e c
  | kTuple e c => exact .kTuple e c
  | kDict e c => exact .kDict e c
  | fTuple e => exact .fTuple (s _ _ e)
  | fDict e => exact .fDict (s _ _ e)
theorem Kd.same {H H' : Hp} {v : V} {b : Bool} (h : Kd K H v b) (s : Same H H') : Kd K H' v b := by
  obtain ⟨a, t, rfl, ty, r⟩ := h
  exact ⟨a, t, rfl, ty_same ty s, r⟩
theorem Od.same {H H' : Hp} {v : V} (h : Od K H v) (s : Same H H') : Od K H' v := h.imp id fun ⟨b, h⟩ => ⟨b, h.same s⟩
theorem OdS.same {H H' : Hp} {v : V} (h : OdS K H v) (s : Same H H') : OdS K H' v := h.imp id fun ⟨b, h⟩ => ⟨b, h.same s⟩
/-- a thing with a look into it: a scalar, something that is no tuple, or a tuple of such -/
inductive Th (K : PySem.W.Frag) (H : Hp) : V → Option (List V) → Prop
  | od {v : V} (h : (match v with | .str z => decide (z.length ≤ 100000) | x => plainV x) = true ∨ Kd K H v false) : Th K H v none
  | tup {a : Addr} {xs : List V} (h : SqT K H a xs) (l : xs.length ≤ 10000) (i : ∀ x ∈ xs, OdS K H x) : Th K H (.ref a) (some xs)
theorem Th.ods {H : Hp} {v : V} {o : Option (List V)} (h : Th K H v o) : OdS K H v := by
  cases h with
  | od h => exact h.imp id fun h => ⟨false, h⟩
  | tup h l i => exact .inr ⟨true, Kd.tup h⟩
theorem Th.same {H H' : Hp} {v : V} {o : Option (List V)} (h : Th K H v o) (s : Same H H') : Th K H' v o := by
  cases h with
  | od h => exact .od (h.imp id fun h => h.same s)
  | tup h l i => exact .tup (st_ s h) l fun x hx => (i x hx).same s
def lotO : Option (List V) → Bool
  | some xs => lotV xs
  | none => false
def sp_is_lot (K : PySem.W.Frag) : Sp := fun vs H Q _ => ∃ v o, vs = [v] ∧ Th K H v o ∧ ∀ H', Same H H' → Q (.bl (lotO o)) H'
theorem ok_is_lot (T : Txt K mg) : FnOk P w K mg base CX0 3 T.is_lot.f T.is_lot.fd ["thing"] (sp_is_lot K) := by
  refine T.is_lot.F.ok sc_is_lot (fun vs H Q E h => ?_) (fun cdv A outer s H vs Q E hr h => ?_)
  · obtain ⟨v, o, rfl, _⟩ := h
    rfl
  · obtain ⟨v, o, rfl, hv, k⟩ := h
    refine ⟨_, (pss_one (ps_ret (pe_and (pe_callB (cIsi (K := K)) (by rfl) T.z_isinstance (by decide +kernel) (pa_cons (pv 0) (pa_cons (pe_bltn (v := .ty "tuple") (by rfl) T.z_tuple (by decide +kernel) rfl) pa_nil))) (pe_and (pe_callB (cAll (K := K) rfl) (by rfl) T.z_all (by decide +kernel) (pa_cons (pe_lc (own := [("item", 1)]) rfl sc_is_lot.nd (piT (K := K) (pv 0)) (blkOk_by (N := n_is_lot) (sc := defScope s_is_lot) (by decide +kernel)) (fun _ _ _ _ _ => (pg_name (i := 1) sc_is_lot.nd rfl (Or.inl rfl))) (fun _ _ _ _ _ => pts_nil) (fun _ _ _ _ _ => (pe_call (ok_is_number T) (hr.mono (by decide)) (by rfl) T.is_number.g T.is_number.F.kp T.is_number.b .nil pass0 (pa_cons (pv 1) pa_nil)))) pa_nil)) (pe_one (pe_call (ok_is_ascending T) (hr.mono (by decide)) (by rfl) T.is_ascending.g T.is_ascending.F.kp T.is_ascending.b .nil pass0 (pa_cons (pv 0) pa_nil))))))), ?_⟩
    cases hv with
    | od hv =>
      rcases hv with hp | hp
      · cases v with
        | int a => walk_at "go"; exact k _ (Same.refl _)
        | non => walk_at "go"; exact k _ (Same.refl _)
        | bl b => walk_at "go"; exact k _ (Same.refl _)
        | str z => walk_at "go"; exact k _ (Same.refl _)
        | _ => cases hp
      · walk_at "go"
        refine hp.tpl ?_
        walk_at "go"
        exact k _ (Same.refl _)
    | @tup a xs hS hl hi =>
      walk_at "go"
      refine i_tup hS ?_
      refine c_tup (xs := xs) (fun i acc H1 => Same H H1 ∧ acc = ((xs.take i).map isN).map V.bl) (fun D hD => ⟨upd_free (Same.refl _) hD, rfl⟩) (fun i acc H1 hi p => st_ p.1 hS) (fun acc D H1 hD hp p => ?_) (fun _ => rfl) (fun i x acc H1 D hx hD hp p => ?_)
      · obtain ⟨p1, rfl⟩ := p
        walk_at "go"
        refine e_allB hp ?_
        walk_at "go"
        have e0 : (List.map isN (List.take xs.length xs)).all id = xs.all isN := by
          rw [List.take_length, List.all_map]; rfl
        rw [e0]
        cases e1 : xs.all isN with
        | true =>
          walk_at "go"
          refine ⟨a, xs.map vInt, rfl, by rw [← all_nums e1]; exact st_ p1 hS, by rw [List.length_map]; exact hl, fun H2 s2 => ?_⟩
          have e2 : lotO (some xs) = ascB (xs.map vInt) := by show (xs.all isN && ascB (xs.map vInt)) = _; rw [e1]; rfl
          rw [← e2]
          exact k _ (p1.trans s2)
        | false =>
          walk_at "go"
          have e2 : lotO (some xs) = false := by show (xs.all isN && ascB (xs.map vInt)) = _; rw [e1]; rfl
          rw [← e2]
          exact k _ p1
      · obtain ⟨p1, rfl⟩ := p
        have hi2 : i < xs.length := (List.getElem?_eq_some_iff.mp hx).1
        walk_at "go"
        refine ⟨x, rfl, ((hi x (List.mem_of_getElem? hx)).same p1).od, ?_⟩
        refine ⟨_, hp, lt_size (by simp; omega), _, upd_same, upd_free p1 hD, ?_⟩
        rw [List.take_add_one, hx, List.map_append, List.map_append]; rfl
def itemsB (xs : List V) (lo hi : Int) : Bool := decide (lo ≤ xs.length) && (decide ((xs.length : Int) ≤ hi) && xs.all itemB)
def itemsO (lo hi : Int) : Option (List V) → Bool
  | some xs => itemsB xs lo hi
  | none => false
def sp_is_items (K : PySem.W.Frag) : Sp := fun vs H Q _ => ∃ v o lo hi, vs = [v, .int lo, .int hi] ∧ Th K H v o ∧ ∀ H', Same H H' → Q (.bl (itemsO lo hi o)) H'
theorem ok_is_items (T : Txt K mg) : FnOk P w K mg base CX0 4 T.is_items.f T.is_items.fd ["thing", "least", "most"] (sp_is_items K) := by
  refine T.is_items.F.ok sc_is_items (fun vs H Q E h => ?_) (fun cdv A outer s H vs Q E hr h => ?_)
  · obtain ⟨v, o, lo, hi, rfl, _⟩ := h
    rfl
  · obtain ⟨v, o, lo, hi, rfl, hv, k⟩ := h
    refine ⟨_, (pss_one (ps_ret (pe_and (pe_callB (cIsi (K := K)) (by rfl) T.z_isinstance (by decide +kernel) (pa_cons (pv 0) (pa_cons (pe_bltn (v := .ty "tuple") (by rfl) T.z_tuple (by decide +kernel) rfl) pa_nil))) (pe_and (pe_chain op_le op_le (pv 1) (pe_callB (cLen (K := K)) (by rfl) T.z_len PySem.boot_len (pa_cons (pv 0) pa_nil)) (pv 2)) (pe_one (pe_callB (cAll (K := K) rfl) (by rfl) T.z_all (by decide +kernel) (pa_cons (pe_lc (own := [("item", 3)]) rfl sc_is_items.nd (piT (K := K) (pv 0)) (blkOk_by (N := n_is_items) (sc := defScope s_is_items) (by decide +kernel)) (fun _ _ _ _ _ => (pg_name (i := 3) sc_is_items.nd rfl (Or.inl rfl))) (fun _ _ _ _ _ => pts_nil) (fun _ _ _ _ _ => (pe_call (ok_is_item T) (hr.mono (by decide)) (by rfl) T.is_item.g T.is_item.F.kp T.is_item.b .nil pass0 (pa_cons (pv 3) pa_nil)))) pa_nil))))))), ?_⟩
    cases hv with
    | od hv =>
      rcases hv with hp | hp
      · cases v with
        | int a => walk_at "go"; exact k _ (Same.refl _)
        | non => walk_at "go"; exact k _ (Same.refl _)
        | bl b => walk_at "go"; exact k _ (Same.refl _)
        | str z => walk_at "go"; exact k _ (Same.refl _)
        | _ => cases hp
      · walk_at "go"
        refine hp.tpl ?_
        walk_at "go"
        exact k _ (Same.refl _)
    | @tup a xs hS hl hx =>
      walk_at "go"
      have k : ∀ H', Same H H' → Q (.bl (itemsB xs lo hi)) H' := k
      unfold itemsB at k
      refine i_d (fun q1 => ?_) (fun q1 => ?_)
      · rw [decide_eq_true q1, Bool.true_and] at k
        walk_at "go"
        refine i_d (fun q2 => ?_) (fun q2 => ?_)
        · rw [decide_eq_true q2, Bool.true_and] at k
          walk_at "go"
          refine i_tup hS ?_
          refine c_tup (xs := xs) (fun i acc H1 => Same H H1 ∧ acc = ((xs.take i).map itemB).map V.bl) (fun D hD => ⟨upd_free (Same.refl _) hD, rfl⟩) (fun i acc H1 hi p => st_ p.1 hS) (fun acc D H1 hD hp p => ?_) (fun _ => rfl) (fun i x acc H1 D hx1 hD hp p => ?_)
          · obtain ⟨p1, rfl⟩ := p
            walk_at "go"
            refine e_allB hp ?_
            rw [List.take_length, List.all_map]
            exact k _ p1
          · obtain ⟨p1, rfl⟩ := p
            have hi : i < xs.length := (List.getElem?_eq_some_iff.mp hx1).1
            walk_at "go"
            refine ⟨x, rfl, (hx x (List.mem_of_getElem? hx1)).same p1, ?_⟩
            refine ⟨_, hp, lt_size (by simp; omega), _, upd_same, upd_free p1 hD, ?_⟩
            rw [List.take_add_one, hx1, List.map_append, List.map_append]; rfl
        · rw [decide_eq_false q2] at k
          simp only [Bool.false_and] at k
          walk_at "go"
          exact k _ (Same.refl _)
      · rw [decide_eq_false q1, Bool.false_and] at k
        walk_at "go"
        exact k _ (Same.refl _)
end



section
variable {P : Program} {w : World} {K : PySem.W.Frag} {mg : Str → Option Value} {base : Heap}
/-! ### the hand that draws -/
/-- its list, the list of cells, the cells -/
structure Bg where
  hd : Addr
  g : Addr
  ns : List Int
def BagAt (K : PySem.W.Frag) (H : Hp) (B : Bg) : Prop := ∃ i big mix c : Int, H B.hd = some (.lst [.ref B.g, .int i, .int big, .int mix, .int c]) ∧ H B.g = some (.lst (B.ns.map V.int)) ∧ B.g ≠ B.hd ∧ B.ns.length ≤ 63 ∧ 0 ≤ i ∧ 0 ≤ big ∧ 0 ≤ mix ∧ mix < 2147483648 ∧ 0 ≤ c
structure Hs (K : PySem.W.Frag) (B : Bg) (H H' : Hp) : Prop where
  o : Oth B.hd H H'
  b : BagAt K H' B
theorem Hs.trans {B : Bg} {H H1 H2 : Hp} (a : Hs K B H H1) (b : Hs K B H1 H2) : Hs K B H H2 := ⟨a.o.trans b.o, b.b⟩
theorem bag_same {B : Bg} {H H' : Hp} (b : BagAt K H B) (s : Same H H') : BagAt K H' B := by
  obtain ⟨i, big, x, c, h1, h2, h3⟩ := b
  exact ⟨i, big, x, c, s _ _ h1, s _ _ h2, h3⟩
theorem Hs.of {B : Bg} {H H' : Hp} (b : BagAt K H B) (s : Same H H') : Hs K B H H' := ⟨fun c o _ h => s c o h, bag_same b s⟩
theorem Hs.sl {B : Bg} {a : Addr} {H H' : Hp} {xs : List V} (h : Hs K B H H') (n : a ≠ B.hd) (s : SqL K H a xs) : SqL K H' a xs := oth_sl h.o n s
theorem bag_lst {B : Bg} {H : Hp} (b : BagAt K H B) : ∃ xs, H B.hd = some (.lst xs) := by
  obtain ⟨i, big, x, c, h1, h2, h3⟩ := b
  exact ⟨_, h1⟩
theorem Hs.st {B : Bg} {a : Addr} {H H' : Hp} {xs : List V} (h : Hs K B H H') (b : BagAt K H B) (s : SqT K H a xs) : SqT K H' a xs := by
  obtain ⟨ys, q⟩ := bag_lst b
  exact oth_st h.o q s
theorem Hs.ls {B : Bg} {a : Addr} {H H' : Hp} {xs : List V} (h : Hs K B H H') (n : a ≠ B.hd) (s : H a = some (.lst xs)) : H' a = some (.lst xs) := h.o _ _ n s
theorem new_ne {B : Bg} {p : Addr} {H : Hp} (b : BagAt K H B) (n : H p = none) : p ≠ B.hd := by
  obtain ⟨xs, h⟩ := bag_lst b
  exact (ne_of_none h n).symm
theorem Hs.free {B : Bg} {p : Addr} {H H' : Hp} (h : Hs K B H H') (n : H' p = none) : H p = none := by
  cases e : H p with
  | none => rfl
  | some o =>
    by_cases z : p = B.hd
    · obtain ⟨xs, q⟩ := bag_lst h.b
      rw [← z, n] at q; cases q
    · rw [h.o p o z e] at n; cases n
/-- an object of one's own, not there at H, may change -/
theorem Hs.mut {B : Bg} {f : Addr} {H H3 H4 : Hp} (h : Hs K B H H3) (b : BagAt K H B) (n : H f = none) (o : Oth f H3 H4) : Hs K B H H4 := by
  refine ⟨fun c u nc z => o c u (ne_of_none z n) (h.o c u nc z), ?_⟩
  obtain ⟨i, big, x, c, h1, h2, h3⟩ := b
  obtain ⟨i', big', x', c', g1, g2, g3⟩ := h.b
  exact ⟨i', big', x', c', o _ _ (ne_of_none h1 n) g1, o _ _ (ne_of_none h2 n) g2, g3⟩
def sp_hand (K : PySem.W.Frag) : Sp := fun vs H Q _ => ∃ a, ∃ ns : List Int, vs = [.ref a] ∧ SqL K H a (ns.map V.int) ∧ ns.length ≤ 63 ∧ ∀ (B : Bg) H', H B.hd = none → Same H H' → BagAt K H' B → Q (.ref B.hd) H'
theorem ok_law_tape (T : Txt K mg) : FnOk P w K mg base CX0 1 T.law_tape.f T.law_tape.fd ["script"] (sp_hand K) := by
  refine T.law_tape.F.ok sc_law_tape (fun vs H Q E h => ?_) (fun cdv A outer s H vs Q E hr h => ?_)
  · obtain ⟨a, ns, rfl, _⟩ := h
    rfl
  · obtain ⟨a, ns, rfl, hS, hl, k⟩ := h
    refine ⟨_, (pss_one (ps_ret (pe_lst (pa_cons (pe_callTy (cListOf (K := K)) (by rfl) T.z_list (by decide +kernel) (pa_cons (pv 0) pa_nil)) (pa_cons pe_int (pa_cons pe_int (pa_cons pe_int (pa_cons pe_int pa_nil)))))))), ?_⟩
    walk_at "go"
    refine n_new0 fun g H1 n1 s1 h1 => ?_
    walk_at "go"
    refine n_new (le_size (by simp)) fun p H2 n2 s2 h2 => ?_
    exact k ⟨p, g, ns⟩ H2 (free_ s1 n2) (s1.trans s2) ⟨0, 0, 1, 0, h2, s2 _ _ h1, ne_new h1 n2, hl, by omega, by omega, by omega, by omega, by omega⟩
def sp_draw (K : PySem.W.Frag) : Sp := fun vs H Q _ => ∃ (B : Bg) (m : Int), vs = [.ref B.hd, .int m] ∧ BagAt K H B ∧ 0 < m ∧ m < 2 ^ 62 ∧ ∀ r H', 0 ≤ r → r < m → Hs K B H H' → Q (.int r) H'
theorem ok_law_pick (T : Txt K mg) : FnOk P w K mg base CX0 1 T.law_pick.f T.law_pick.fd ["tape", "many"] (sp_draw K) := by
  refine T.law_pick.F.ok sc_law_pick (fun vs H Q E h => ?_) (fun cdv A outer s H vs Q E hr h => ?_)
  · obtain ⟨a, b, rfl, _⟩ := h
    rfl
  · obtain ⟨⟨hd, g, ns⟩, m, rfl, ⟨i, big, mix, c, h1, h2, h3, h4, h5, h6, h7, h8, h9⟩, hm, hM, k⟩ := h
    dsimp only at h1 h2 h3 h4 k ⊢
    refine ⟨_, (pss_cons (ps_if (pt_cmpR op_gt (pe_ix (ixLT (K := K)) (pv 0) pe_int (fun _ _ => rfl)) pe_int (nomark _)) (pss_cons (ps_set (i := 2) sc_law_pick.nd rfl (Or.inl rfl) (pe_op op_mod (pe_callTy cInt (by rfl) T.z_int (by decide +kernel) (pa_cons (pe_ix (ixLT (K := K)) (pv 0) pe_int (fun _ _ => rfl)) pa_nil)) (pv 1)))
    (pss_cons (ps_asg (pe_op op_fdivW (pe_ix (ixLT (K := K)) (pv 0) pe_int (fun _ _ => rfl)) (pv 1)) (pg_sub (pv 0) pe_int set_list))
    (pss_one (ps_ret (pv 2))))) pss_nil)
    (pss_cons (ps_asg (pe_op oAdd (pe_ix (ixLT (K := K)) (pv 0) pe_int (fun _ _ => rfl)) pe_int) (pg_sub (pv 0) pe_int set_list))
    (pss_cons (ps_set (i := 3) sc_law_pick.nd rfl (Or.inl rfl) pe_int)
    (Evl.pss_cut (ps_if (pt_cmpR oLt (pe_ix (ixLT (K := K)) (pv 0) pe_int (fun _ _ => rfl)) (pe_callB (cLen (K := K)) (by rfl) T.z_len PySem.boot_len (pa_cons (pe_ix (ixLT (K := K)) (pv 0) pe_int (fun _ _ => rfl)) pa_nil)) (nomark _)) (pss_cons (ps_set (i := 3) sc_law_pick.nd rfl (Or.inl rfl) (pe_ix (ixLT (K := K)) (pe_ix (ixLT (K := K)) (pv 0) pe_int (fun _ _ => rfl)) (pe_ix (ixLT (K := K)) (pv 0) pe_int (fun _ _ => rfl)) (fun _ _ => rfl)))
    (pss_one (ps_asg (pe_op oAdd (pe_ix (ixLT (K := K)) (pv 0) pe_int (fun _ _ => rfl)) pe_int) (pg_sub (pv 0) pe_int set_list)))) pss_nil)
    (pss_cons (ps_if (pt_cmpR op_ge (pv 3) (pe_op op_pow pe_int pe_int) (nomark _)) (pss_cons (ps_asg (pe_op op_fdivW (pv 3) (pv 1)) (pg_sub (pv 0) pe_int set_list))
    (pss_one (ps_ret (pe_op op_mod (pe_callTy cInt (by rfl) T.z_int (by decide +kernel) (pa_cons (pv 3) pa_nil)) (pv 1))))) pss_nil)
    (pss_cons (ps_set (i := 4) sc_law_pick.nd rfl (Or.inl rfl) (pe_callTy cInt (by rfl) T.z_int (by decide +kernel) (pa_cons (pe_op oAdd (pe_op oMul (pe_ix (ixLT (K := K)) (pv 0) pe_int (fun _ _ => rfl)) pe_int) (pe_op oMul (pe_ix (ixLT (K := K)) (pv 0) pe_int (fun _ _ => rfl)) pe_int)) pa_nil)))
    (pss_cons (ps_set (i := 4) sc_law_pick.nd rfl (Or.inl rfl) (pe_op op_mod (pe_callTy cInt (by rfl) T.z_int (by decide +kernel) (pa_cons (pe_op oAdd (pv 4) (pe_op op_mod (pe_callTy cInt (by rfl) T.z_int (by decide +kernel) (pa_cons (pv 3) pa_nil)) pe_int)) pa_nil)) pe_int))
    (pss_cons (ps_set (i := 4) sc_law_pick.nd rfl (Or.inl rfl) (pe_op op_mod (pe_callTy cInt (by rfl) T.z_int (by decide +kernel) (pa_cons (pe_op oMul (pv 4) (pe_op oAdd (pe_op op_fdivW (pv 4) pe_int) pe_int)) pa_nil)) pe_int))
    (pss_cons (ps_asg (pv 4) (pg_sub (pv 0) pe_int set_list))
    (pss_one (ps_ret (pe_op op_mod (pe_callTy cInt (by rfl) T.z_int (by decide +kernel) (pa_cons (pe_op op_fdivW (pv 4) pe_int) pa_nil)) (pv 1))))))))))))), ?_⟩
    walk_at "go"
    refine i_d (fun q1 => ?_) (fun q1 => ?_)
    · walk_at "go"
      intro H3 o3 e3
      walk_at "go"
      exact k _ _ (Int.emod_nonneg _ (by omega)) (Int.emod_lt_of_pos _ hm) ⟨o3, i, big / m, mix, c, e3, o3 _ _ h3 h2, h3, h4, h5, Int.ediv_nonneg h6 (by omega), h7, h8, h9⟩
    · walk_at "go"
      intro H1 o1 e1
      have g1 : H1 g = some (.lst (ns.map V.int)) := o1 _ _ h3 h2
      walk_at "go"
      refine s_cut (fun σ2 H2 => Oth hd H H2 ∧ ∃ i' cell : Int, σ2 = [some (.ref hd), some (.int m), none, some (.int cell), none] ∧ H2 hd = some (.lst [.ref g, .int i', .int big, .int mix, .int (c + 1)]) ∧ 0 ≤ i') ?_ ?_
      · walk_at "go"
        refine i_d (fun q2 => ?_) (fun q2 => ?_)
        · walk_at "go"
          have hj : i.toNat < ns.length := by omega
          refine o_ixL (slO g1) (atI_map i.toNat (by omega) hj) ?_
          generalize ns.getD i.toNat 0 = cell at *
          walk_at "go"
          intro H2 o2 e2
          exact ⟨o1.trans o2, i + 1, cell, rfl, e2, by omega⟩
        · walk_at "go"
          exact ⟨o1, i, 0, rfl, e1, h5⟩
      · rintro σ2 H2 ⟨o2, i', cell, rfl, e2, g5⟩
        have g2 : H2 g = some (.lst (ns.map V.int)) := o2 _ _ h3 h2
        clear h1 e1 g1
        walk_at "go"
        refine i_d (fun q3 => ?_) (fun q3 => ?_)
        · walk_at "go"
          intro H3 o3 e3
          walk_at "go"
          exact k _ _ (Int.emod_nonneg _ (by omega)) (Int.emod_lt_of_pos _ hm) ⟨o2.trans o3, i', cell / m, mix, c + 1, e3, o3 _ _ h3 g2, h3, h4, g5, Int.ediv_nonneg (by omega) (by omega), h7, h8, by omega⟩
        · walk_at "go"
          have m0 : 0 ≤ (mix * 48271 + (c + 1) * 69621 + cell % 2147483629) % 2147483647 := Int.emod_nonneg _ (by omega)
          have m1 : (mix * 48271 + (c + 1) * 69621 + cell % 2147483629) % 2147483647 < 2147483647 := Int.emod_lt_of_pos _ (by omega)
          generalize (mix * 48271 + (c + 1) * 69621 + cell % 2147483629) % 2147483647 = mix2 at *
          walk_at "go"
          have m2 : 0 ≤ (mix2 * (mix2 / 1009 + 40692)) % 2147483399 := Int.emod_nonneg _ (by omega)
          have m3 : (mix2 * (mix2 / 1009 + 40692)) % 2147483399 < 2147483399 := Int.emod_lt_of_pos _ (by omega)
          generalize (mix2 * (mix2 / 1009 + 40692)) % 2147483399 = mix3 at *
          intro H3 o3 e3
          walk_at "go"
          exact k _ _ (Int.emod_nonneg _ (by omega)) (Int.emod_lt_of_pos _ hm) ⟨o2.trans o3, i', big, mix3, c + 1, e3, o3 _ _ h3 g2, h3, h4, g5, h6, by omega, by omega, by omega⟩
def sp_any (K : PySem.W.Frag) : Sp := fun vs H Q _ => ∃ (B : Bg) (a : Addr) (xs : List V), vs = [.ref B.hd, .ref a] ∧ BagAt K H B ∧ SqL K H a xs ∧ a ≠ B.hd ∧ 0 < xs.length ∧ xs.length < 100000 ∧ ∀ x H', x ∈ xs → Hs K B H H' → Q x H'
theorem ok_law_any (T : Txt K mg) : FnOk P w K mg base CX0 2 T.law_any.f T.law_any.fd ["tape", "some"] (sp_any K) := by
  refine T.law_any.F.ok sc_law_any (fun vs H Q E h => ?_) (fun cdv A outer s H vs Q E hr h => ?_)
  · obtain ⟨B, a, xs, rfl, _⟩ := h
    rfl
  · obtain ⟨B, a, xs, rfl, b, hS, ha, h0, h1, k⟩ := h
    refine ⟨_, (pss_one (ps_ret (pe_ix (ixLT (K := K)) (pv 1) (pe_call (ok_law_pick T) (hr.mono (by decide)) (by rfl) T.law_pick.g T.law_pick.F.kp T.law_pick.b .nil pass0 (pa_cons (pv 0) (pa_cons (pe_callB (cLen (K := K)) (by rfl) T.z_len PySem.boot_len (pa_cons (pv 1) pa_nil)) pa_nil))) (fun _ _ => rfl)))), ?_⟩
    walk_at "go"
    refine ⟨B, _, rfl, b, by omega, by omega, fun r H1 r0 r1 hs => ?_⟩
    have hj : r.toNat < xs.length := by omega
    refine o_ixL (hs.sl ha hS) (atI_in (j := r.toNat) (by omega) (List.getElem?_eq_getElem hj)) ?_
    walk_at "go"
    exact k _ H1 (List.getElem_mem hj) hs
end



section
variable {P : Program} {w : World} {K : PySem.W.Frag} {mg : Str → Option Value} {base : Heap}
/-! ### a disk's fields -/
def df (l w : Addr) (pw : V) (rc : Int) : List (Str × V) := [("_lies", .ref l), ("_waits", .ref w), ("_power", pw), ("_reached", .int rc)]
section
variable (l w : Addr) (pw v : V) (rc n : Int)
theorem df_l : (df l w pw rc).lookup ("_lies" : Str) = some (V.ref l) := rfl
theorem df_w : (df l w pw rc).lookup ("_waits" : Str) = some (V.ref w) := rfl
theorem df_p : (df l w pw rc).lookup ("_power" : Str) = some pw := rfl
theorem df_r : (df l w pw rc).lookup ("_reached" : Str) = some (V.int rc) := rfl
theorem df_pp : putF "_power" v (df l w pw rc) = df l w v rc := rfl
theorem df_pr : putF "_reached" (.int n) (df l w pw rc) = df l w pw n := rfl
theorem df_pw (w2 : Addr) : putF "_waits" (.ref w2) (df l w pw rc) = df l w2 pw rc := rfl
theorem df_new : putF "_reached" (.int rc) (putF "_power" pw (putF "_waits" (.ref w) (putF "_lies" (.ref l) []))) = df l w pw rc := rfl
theorem df_no {m : Str} (h : ((["_lies", "_waits", "_power", "_reached"] : List Str)).contains m = false) : (df l w pw rc).lookup m = none := by
  unfold df
  simp only [List.contains_cons, List.contains_nil, Bool.or_false, Bool.or_eq_false_iff] at h
  simp only [List.lookup, h.1, h.2.1, h.2.2.1, h.2.2.2]
end
abbrev pwV : Option Int → V
  | none => .non
  | some i => .int i
structure Dsk where
  l : Addr
  lies : List Addr
  w : Addr
  rows : List (Int × Addr × List Addr)
  pw : Option Int
  rc : Int
structure DiskAt (C : Addr) (H : Hp) (p : Addr) (D : Dsk) : Prop where
  ob : InsAt C H p (df D.l D.w (pwV D.pw) D.rc)
  hl : H D.l = some (.lst (D.lies.map V.ref))
  hw : H D.w = some (.dK (D.rows.map fun r => ((Sum.inl r.1 : Key), V.ref r.2.1)))
  hr : ∀ r ∈ D.rows, H r.2.1 = some (.lst (r.2.2.map V.ref)) ∧ r.2.2 ≠ []
  nd : (D.rows.map (·.2.1)).Nodup
  kd : (D.rows.map (·.1)).Nodup
  lr : D.l ∉ D.rows.map (·.2.1)
  few : D.lies.length ≤ 600
  kb : ∀ r ∈ D.rows, 0 ≤ r.1 ∧ r.1 < D.lies.length
/-- the places that a disk holds -/
def Dsk.foot (D : Dsk) (p : Addr) : List Addr := p :: D.l :: D.w :: D.rows.map (·.2.1)
/-- all but some places is as it was -/
def But (as : List Addr) (H H' : Hp) : Prop := ∀ b o, b ∉ as → H b = some o → H' b = some o
theorem ins_same {C p : Addr} {H H' : Hp} {fs : List (Str × V)} (s : Same H H') (h : InsAt C H p fs) : InsAt C H' p fs := h.elim fun dx h => ⟨dx, s _ _ h⟩
theorem DiskAt.same {C p : Addr} {H H' : Hp} {D : Dsk} (s : Same H H') (h : DiskAt C H p D) : DiskAt C H' p D :=
  ⟨ins_same s h.ob, s _ _ h.hl, s _ _ h.hw, fun r hr => ⟨s _ _ (h.hr r hr).1, (h.hr r hr).2⟩, h.nd, h.kd, h.lr, h.few, h.kb⟩
def sp_disk_blocks (C : Addr) : Sp := fun vs H Q _ => ∃ p D, vs = [.ref p] ∧ DiskAt C H p D ∧ Q (.int D.lies.length) H
theorem ok_Disk_blocks (T : Txt K mg) : FnOk P w K mg base CX0 1 T.m_Disk_blocks.f T.m_Disk_blocks.fd ["self"] ((sp_disk_blocks T.C_Disk)) := by
  refine T.m_Disk_blocks.F.ok sc_Disk_blocks (fun vs H Q E h => ?_) (fun cdv A outer s H vs Q E hr h => ?_)
  · obtain ⟨p, D, rfl, _⟩ := h
    rfl
  · obtain ⟨p, D, rfl, h, k⟩ := h
    refine ⟨_, (pss_one (ps_ret (pe_callB (cLen (K := K)) (by rfl) T.z_len PySem.boot_len (pa_cons (peFld (K := K) (pv 0) rfl) pa_nil)))), ?_⟩
    have hl := slO (K := K) h.hl
    walk_at "go"
    refine o_fld h.ob T.k_Disk.cl T.n_Disk__lies (df_l _ _ _ _) ?_
    walk_at "go"
    exact k
def sp_disk_need_block (C : Addr) : Sp := fun vs H Q _ => ∃ p D b, vs = [.ref p, .int b] ∧ DiskAt C H p D ∧ 0 ≤ b ∧ b < D.lies.length ∧ Q .non H
theorem ok_Disk__need_block (T : Txt K mg) : FnOk P w K mg base CX0 3 T.m_Disk__need_block.f T.m_Disk__need_block.fd ["self", "block"] ((sp_disk_need_block T.C_Disk)) := by
  refine T.m_Disk__need_block.F.ok sc_Disk__need_block (fun vs H Q E h => ?_) (fun cdv A outer s H vs Q E hr h => ?_)
  · obtain ⟨p, D, b, rfl, _⟩ := h
    rfl
  · obtain ⟨p, D, b, rfl, h, h0, h1, k⟩ := h
    refine ⟨_, (pss_one (ps_if (pt_not (ptTruth (K := K) (pe_call (ok_is_within T) (hr.mono (by decide)) (by rfl) T.is_within.g T.is_within.F.kp T.is_within.b .nil pass0 (pa_cons (pv 1) (pa_cons pe_int (pa_cons (pe_op op_sub (pe_callB (cLen (K := K)) (by rfl) T.z_len PySem.boot_len (pa_cons (peFld (K := K) (pv 0) rfl) pa_nil)) pe_int) pa_nil)))) (by intro _; rfl))) (pss_one ps_never) pss_nil)), ?_⟩
    have hl := slO (K := K) h.hl
    walk_at "go"
    refine o_fld h.ob T.k_Disk.cl T.n_Disk__lies (df_l _ _ _ _) ?_
    walk_at "go"
    refine ⟨_, _, _, rfl, .inl rfl, ?_⟩
    have e : within (.int b) 0 ((D.lies.length : Int) - 1) = true := by simp [within, h0]; omega
    rw [e]
    walk_at "go"
    exact k
def sp_disk_lying (C : Addr) : Sp := fun vs H Q _ => ∃ p D b c, vs = [.ref p, .int b] ∧ DiskAt C H p D ∧ 0 ≤ b ∧ D.lies[b.toNat]? = some c ∧ Q (.ref c) H
theorem ok_Disk_lying (T : Txt K mg) : FnOk P w K mg base CX0 4 T.m_Disk_lying.f T.m_Disk_lying.fd ["self", "block"] ((sp_disk_lying T.C_Disk)) := by
  refine T.m_Disk_lying.F.ok sc_Disk_lying (fun vs H Q E h => ?_) (fun cdv A outer s H vs Q E hr h => ?_)
  · obtain ⟨p, D, b, c, rfl, _⟩ := h
    rfl
  · obtain ⟨p, D, b, c, rfl, h, h0, h1, k⟩ := h
    refine ⟨_, (pss_cons (ps_expr (pe_meth (pv 0) T.k_Disk.cl T.m_Disk__need_block.i (ok_Disk__need_block T) (hr.mono (by decide)) T.m_Disk__need_block.b .nil pass0 (pa_cons (pv 1) pa_nil)))
    (pss_one (ps_ret (pe_ix (ixLT (K := K)) (peFld (K := K) (pv 0) rfl) (pv 1) (fun _ _ => rfl))))), ?_⟩
    have hl := slO (K := K) h.hl
    have hb := (List.getElem?_eq_some_iff.mp h1).1
    walk_at "go"
    refine m_call0 h.ob (df_no _ _ _ _ (by decide +kernel)) ?_
    walk_at "go"
    refine ⟨p, D, b, rfl, h, h0, by omega, ?_⟩
    walk_at "go"
    refine o_fld h.ob T.k_Disk.cl T.n_Disk__lies (df_l _ _ _ _) ?_
    walk_at "go"
    refine o_ixL hl (atI_in (j := b.toNat) (by omega) (by rw [List.getElem?_map, h1]; rfl)) ?_
    walk_at "go"
    exact k
def sp_disk_power (C : Addr) : Sp := fun vs H Q _ => ∃ p D m, vs = [.ref p, pwV m] ∧ DiskAt C H p D ∧ (∀ i, m = some i → 0 ≤ i ∧ i ≤ 1000000) ∧ ∀ H', DiskAt C H' p { D with pw := m } → But [p] H H' → Q .non H'
theorem ok_Disk_power (T : Txt K mg) : FnOk P w K mg base CX0 3 T.m_Disk_power.f T.m_Disk_power.fd ["self", "many"] ((sp_disk_power T.C_Disk)) := by
  refine T.m_Disk_power.F.ok sc_Disk_power (fun vs H Q E h => ?_) (fun cdv A outer s H vs Q E hr h => ?_)
  · obtain ⟨p, D, m, rfl, _⟩ := h
    rfl
  · obtain ⟨p, D, m, rfl, h, hm, k⟩ := h
    refine ⟨_, (pss_cons (ps_if (PW.pt (pw_and (pt_cmpR oNotN (pv 1) pe_non (nomark _)) (pw_and1 (pt_not (ptTruth (K := K) (pe_call (ok_is_within T) (hr.mono (by decide)) (by rfl) T.is_within.g T.is_within.F.kp T.is_within.b .nil pass0 (pa_cons (pv 1) (pa_cons pe_int (pa_cons (pe_glob (by rfl) T.c_MOST_POWER.h T.c_MOST_POWER.r) pa_nil)))) (by intro _; rfl)))))) (pss_one ps_never) pss_nil)
    (pss_one (psFld (K := K) (pv 0) (pv 1) rfl))), ?_⟩
    have fin : ∀ σ, (∃ v, σ = L2.start n_Disk_power [.ref p, v]) → True := fun _ _ => trivial
    obtain ⟨dx, hob⟩ := h.ob
    have set1 : Q .non (upd H p (.ins T.C_Disk dx (df D.l D.w (pwV m) D.rc))) := by
      refine k _ ⟨⟨dx, upd_same⟩, ?_, ?_, fun r hr => ⟨?_, (h.hr r hr).2⟩, h.nd, h.kd, h.lr, h.few, h.kb⟩ fun b o hb e => by rw [upd_ne (fun z => hb (by rw [z]; exact List.mem_cons_self))]; exact e
      · show upd H p _ D.l = _
        rw [upd_ne (fun z => by have := h.hl; rw [z, hob] at this; cases this)]; exact h.hl
      · show upd H p _ D.w = _
        rw [upd_ne (fun z => by have := h.hw; rw [z, hob] at this; cases this)]; exact h.hw
      · rw [upd_ne (fun z => by have := (h.hr r hr).1; rw [z, hob] at this; cases this)]; exact (h.hr r hr).1
    cases m with
    | none =>
      walk_at "go"
      refine s_fld rfl hob T.k_Disk.cl T.n_Disk__power (by show 4 < 1000; decide) ?_
      rw [df_pp]
      exact set1
    | some i =>
      obtain ⟨i0, i1⟩ := hm i rfl
      walk_at "go"
      refine ⟨_, _, _, rfl, .inl rfl, ?_⟩
      have e : within (.int i) 0 1000000 = true := by simp [within, i0, i1]
      rw [e]
      walk_at "go"
      refine s_fld rfl hob T.k_Disk.cl T.n_Disk__power (by show 4 < 1000; decide) ?_
      rw [df_pp]
      exact set1
/-- the row of a block -/
def Dsk.row (D : Dsk) (b : Int) : Option (Int × Addr × List Addr) := D.rows.find? fun r => decide (r.1 = b)
theorem val_row {rows : List (Int × Addr × List Addr)} {b : Int} : valV (rows.map fun r => ((Sum.inl r.1 : Key), V.ref r.2.1)) (Sum.inl b : Key) = (rows.find? fun r => decide (r.1 = b)).map fun r => V.ref r.2.1 := by
  unfold valV
  rw [List.find?_map, Option.map_map]
  have e : ((fun kv : Key × V => decide (kv.1 = (Sum.inl b : Key))) ∘ fun r : Int × Addr × List Addr => ((Sum.inl r.1 : Key), V.ref r.2.1)) = fun r => decide (r.1 = b) := by
    funext r
    show decide ((Sum.inl r.1 : Key) = Sum.inl b) = decide (r.1 = b)
    by_cases h : r.1 = b
    · rw [decide_eq_true h, h]; exact decide_eq_true rfl
    · rw [decide_eq_false h]; exact decide_eq_false fun z => h (Sum.inl.inj z)
  rw [e]; rfl
def Dsk.shows (D : Dsk) (b : Int) : Option Addr := match D.row b with
  | some r => r.2.2[r.2.2.length - 1]?
  | none => D.lies[b.toNat]?
def sp_disk_read (C : Addr) : Sp := fun vs H Q _ => ∃ p D b c, vs = [.ref p, .int b] ∧ DiskAt C H p D ∧ 0 ≤ b ∧ b < D.lies.length ∧ D.shows b = some c ∧ Q (.ref c) H
theorem ok_Disk_read (T : Txt K mg) : FnOk P w K mg base CX0 4 T.m_Disk_read.f T.m_Disk_read.fd ["self", "block"] ((sp_disk_read T.C_Disk)) := by
  refine T.m_Disk_read.F.ok sc_Disk_read (fun vs H Q E h => ?_) (fun cdv A outer s H vs Q E hr h => ?_)
  · obtain ⟨p, D, b, c, rfl, _⟩ := h
    rfl
  · obtain ⟨p, D, b, c, rfl, h, h0, hb, h1, k⟩ := h
    refine ⟨_, (pss_cons (ps_expr (pe_meth (pv 0) T.k_Disk.cl T.m_Disk__need_block.i (ok_Disk__need_block T) (hr.mono (by decide)) T.m_Disk__need_block.b .nil pass0 (pa_cons (pv 1) pa_nil)))
    (pss_cons (ps_if (pt_cmp (pc_din (hu_of hr) (pv 1) (peFld (K := K) (pv 0) rfl))) (pss_one (ps_ret (pe_ix (ixLT (K := K)) (pe_dget (hu_of hr) (peFld (K := K) (pv 0) rfl) (pv 1) (fun _ _ => rfl)) (pe_un un_neg pe_int) (fun _ _ => rfl)))) pss_nil)
    (pss_one (ps_ret (pe_ix (ixLT (K := K)) (peFld (K := K) (pv 0) rfl) (pv 1) (fun _ _ => rfl)))))), ?_⟩
    have hl := slO (K := K) h.hl
    walk_at "go"
    refine m_call0 h.ob (df_no _ _ _ _ (by decide +kernel)) ?_
    walk_at "go"
    refine ⟨p, D, b, rfl, h, h0, by omega, ?_⟩
    walk_at "go"
    refine o_fld h.ob T.k_Disk.cl T.n_Disk__waits (df_w _ _ _ _) ?_
    refine g_din (k := Sum.inl b) h.hw ?_
    unfold Dsk.shows at h1
    unfold Dsk.row at h1
    cases e : D.rows.find? fun r => decide (r.1 = b) with
    | none =>
      rw [e] at h1
      have h1 : D.lies[b.toNat]? = some c := h1
      rw [show (valV (D.rows.map fun r => ((Sum.inl r.1 : Key), V.ref r.2.1)) (Sum.inl b : Key)).isSome = false by rw [val_row, e]; rfl]
      walk_at "go"
      refine o_fld h.ob T.k_Disk.cl T.n_Disk__lies (df_l _ _ _ _) ?_
      walk_at "go"
      refine o_ixL hl (atI_in (j := b.toNat) (by omega) (by rw [List.getElem?_map, h1]; rfl)) ?_
      walk_at "go"
      exact k
    | some r =>
      rw [e] at h1
      have h1 : r.2.2[r.2.2.length - 1]? = some c := h1
      have hrow := h.hr r (List.mem_of_find?_eq_some e)
      rw [show (valV (D.rows.map fun r => ((Sum.inl r.1 : Key), V.ref r.2.1)) (Sum.inl b : Key)).isSome = true by rw [val_row, e]; rfl]
      walk_at "go"
      refine e_dget ?_
      walk_at "go"
      refine o_fld h.ob T.k_Disk.cl T.n_Disk__waits (df_w _ _ _ _) ?_
      walk_at "go"
      refine o_dget (k := Sum.inl b) h.hw (by rw [val_row, e]; rfl) ?_
      walk_at "go"
      have pos : 0 < r.2.2.length := List.length_pos_iff.mpr hrow.2
      refine o_ixL (slO hrow.1) (atI_neg (by rw [List.length_map]; exact pos) (by rw [List.length_map, List.getElem?_map, h1]; rfl)) ?_
      walk_at "go"
      exact k
def sp_disk_cut (C : Addr) : Sp := fun vs H Q _ => ∃ p D, vs = [.ref p] ∧ DiskAt C H p D ∧ ∀ w' H', H w' = none → DiskAt C H' p { D with w := w', rows := [], pw := none } → But [p] H H' → Q .non H'
theorem ok_Disk_cut (T : Txt K mg) : FnOk P w K mg base CX0 1 T.m_Disk_cut.f T.m_Disk_cut.fd ["self"] ((sp_disk_cut T.C_Disk)) := by
  refine T.m_Disk_cut.F.ok sc_Disk_cut (fun vs H Q E h => ?_) (fun cdv A outer s H vs Q E hr h => ?_)
  · obtain ⟨p, D, rfl, _⟩ := h
    rfl
  · obtain ⟨p, D, rfl, h, k⟩ := h
    refine ⟨_, (pss_cons (psFld (K := K) (pv 0) pe_dnewK rfl)
    (pss_one (psFld (K := K) (pv 0) pe_non rfl))), ?_⟩
    walk_at "go"
    refine e_dnew fun w' H1 n1 s1 h1 => ?_
    have g1 := h.same s1
    obtain ⟨dx, hob⟩ := g1.ob
    walk_at "go"
    refine s_fld rfl hob T.k_Disk.cl T.n_Disk__waits (by show 4 < 1000; decide) ?_
    rw [df_pw]
    walk_at "go"
    refine s_fld rfl upd_same T.k_Disk.cl T.n_Disk__power (by show 4 < 1000; decide) ?_
    rw [df_pp]
    have nw : w' ≠ p := fun z => by rw [z, hob] at h1; cases h1
    have oth : ∀ b, b ≠ p → ∀ fs fs', upd (upd H1 p fs) p fs' b = H1 b := fun b hb fs fs' => by rw [upd_ne hb, upd_ne hb]
    refine k w' _ n1 ⟨⟨dx, upd_same⟩, ?_, ?_, fun r hr => (nomatch hr), List.nodup_nil, List.nodup_nil, by simp, h.few, fun r hr => (nomatch hr)⟩ fun b o hb e => ?_
    · show upd _ p _ D.l = _
      rw [oth _ (fun z => by have := g1.hl; rw [z, hob] at this; cases this)]; exact g1.hl
    · show upd _ p _ w' = _
      rw [oth _ nw]; exact h1
    · rw [oth _ (fun z => hb (by rw [z]; exact List.mem_cons_self))]; exact s1 _ _ e
theorem within_int {v : V} {lo hi : Int} (h : within v lo hi = true) : ∃ b, v = .int b ∧ lo ≤ b ∧ b ≤ hi := by
  cases v with
  | int b =>
    have h : (decide (lo ≤ b) && decide (b ≤ hi)) = true := h
    rw [Bool.and_eq_true, decide_eq_true_eq, decide_eq_true_eq] at h
    exact ⟨b, rfl, h.1, h.2⟩
  | _ => cases h
def sp_disk_init (K : PySem.W.Frag) (C Cb : Addr) : Sp := fun vs H Q E => (∃ p n, vs = [.ref p, .int n] ∧ InsAt C H p [] ∧ 16 ≤ n ∧ n ≤ 600 ∧ ∀ H' D, DiskAt C H' p D → (∀ a ∈ D.foot p, a = p ∨ H a = none) → D.lies.length = n.toNat → (∀ c ∈ D.lies, SqT K H' c []) → D.rows = [] → D.pw = none → D.rc = 0 → But [p] H H' → Q .non H') ∨ (∃ p v, vs = [.ref p, v] ∧ Od K H v ∧ within v 16 600 = false ∧ E (.ref Cb) none H)
theorem ok_Disk_init (T : Txt K mg) : FnOk P w K mg base (L2.CX P w) 3 T.m_Disk_init.f T.m_Disk_init.fd ["self", "blocks"] ((sp_disk_init K T.C_Disk T.e_BadDisk.C)) := by
  refine T.m_Disk_init.F.okX sc_Disk_init (fun vs H Q E h => ?_) (fun cdv A outer s H vs Q E hr h => ?_)
  · rcases h with ⟨p, n, rfl, _⟩ | ⟨p, v, rfl, _⟩
    · rfl
    · rfl
  · rcases h with ⟨p, n, rfl, hp', h0, h1, k⟩ | ⟨p, v, rfl, hv, hb, kE⟩
    rotate_left 1
    · refine ⟨_, (pss_cons (ps_if (pt_not (ptTruth (K := K) (pe_call (ok_is_within T) (hr.mono (by decide)) (by rfl) T.is_within.g T.is_within.F.kp T.is_within.b .nil pass0 (pa_cons (pv 1) (pa_cons (pe_glob (by rfl) T.c_LEAST_BLOCKS.h T.c_LEAST_BLOCKS.r) (pa_cons (pe_glob (by rfl) T.c_MOST_BLOCKS.h T.c_MOST_BLOCKS.r) pa_nil)))) (by intro _; rfl))) (pss_one (ps_raise rfl (takes_of rfl rfl rfl rfl) (pmk_oexN T.e_BadDisk.o T.e_BadDisk.i T.e_BadDisk.t (ok_StoreError_init T.m_StoreError_init T.z_ValueError T.vV) (hr.mono (by decide)) T.m_StoreError_init.b pass0 (by rfl) T.e_BadDisk.g))) pss_nil)
    (pss_cons (psFld (K := K) (pv 0) (pe_lc (own := [("_", 2)]) rfl sc_Disk_init.nd (pi_range1 (by rfl) T.z_range (pa_cons (pv 1) pa_nil)) (blkOk_by (N := n_Disk_init) (sc := defScope s_Disk_init) (by decide +kernel)) (fun _ _ _ _ _ => (pg_name (i := 2) sc_Disk_init.nd rfl (Or.inl rfl))) (fun _ _ _ _ _ => pts_nil) (fun _ _ _ _ _ => (pe_tup pa_nil))) rfl)
    (pss_cons (psFld (K := K) (pv 0) pe_dnewK rfl)
    (pss_cons (psFld (K := K) (pv 0) pe_non rfl)
    (pss_one (psFld (K := K) (pv 0) pe_int rfl)))))), ?_⟩
      walk_at "go"
      refine ⟨_, _, _, rfl, hv, ?_⟩
      rw [hb]
      walk_at "go"
      exact e_raise T.e_BadDisk.o kE
    refine ⟨_, (pss_cons (ps_if (pt_not (ptTruth (K := K) (pe_call (ok_is_within T) (hr.mono (by decide)) (by rfl) T.is_within.g T.is_within.F.kp T.is_within.b .nil pass0 (pa_cons (pv 1) (pa_cons (pe_glob (by rfl) T.c_LEAST_BLOCKS.h T.c_LEAST_BLOCKS.r) (pa_cons (pe_glob (by rfl) T.c_MOST_BLOCKS.h T.c_MOST_BLOCKS.r) pa_nil)))) (by intro _; rfl))) (pss_one (ps_raise rfl (takes_of rfl rfl rfl rfl) (pmk_oexN T.e_BadDisk.o T.e_BadDisk.i T.e_BadDisk.t (ok_StoreError_init T.m_StoreError_init T.z_ValueError T.vV) (hr.mono (by decide)) T.m_StoreError_init.b pass0 (by rfl) T.e_BadDisk.g))) pss_nil)
    (pss_cons (psFld (K := K) (pv 0) (pe_lc (own := [("_", 2)]) rfl sc_Disk_init.nd (pi_range1 (by rfl) T.z_range (pa_cons (pv 1) pa_nil)) (blkOk_by (N := n_Disk_init) (sc := defScope s_Disk_init) (by decide +kernel)) (fun _ _ _ _ _ => (pg_name (i := 2) sc_Disk_init.nd rfl (Or.inl rfl))) (fun _ _ _ _ _ => pts_nil) (fun _ _ _ _ _ => (pe_tup pa_nil))) rfl)
    (pss_cons (psFld (K := K) (pv 0) pe_dnewK rfl)
    (pss_cons (psFld (K := K) (pv 0) pe_non rfl)
    (pss_one (psFld (K := K) (pv 0) pe_int rfl)))))), ?_⟩
    walk_at "go"
    refine ⟨_, _, _, rfl, .inl rfl, ?_⟩
    have e : within (.int n) 16 600 = true := by simp [within, h0, h1]
    rw [e]
    walk_at "go"
    refine i_rng n.toNat rfl (by omega) (by omega) ?_
    refine c_rng (fun i acc H1 => Same H H1 ∧ ∃ cs : List Addr, acc = cs.map V.ref ∧ cs.length = i ∧ ∀ c ∈ cs, SqT K H1 c []) (fun D hD => ⟨upd_free (Same.refl _) hD, [], rfl, rfl, fun c hc => nomatch hc⟩) (fun acc L H1 hL hp q => ?_) (fun _ => rfl) (fun i acc H1 L hi hL hq q => ?_)
    rotate_left 1
    · obtain ⟨s1, cs, rfl, lc, hc⟩ := q
      walk_at "go"
      refine n_new (le_size (by simp)) fun c H2 n2 s2 h2 => ?_
      have hq2 := at_ s2 hq
      refine ⟨_, hq2, lt_size (by simp; omega), _, upd_same, upd_free (s1.trans s2) hL, cs ++ [c], by rw [List.map_append]; rfl, by simp; omega, fun c' hc' => ?_⟩
      have keep : ∀ c', SqT K H2 c' [] → SqT K (upd H2 L (.lst (cs.map V.ref ++ [V.ref c]))) c' [] := fun c' h => oth_st (fun b o nb z => by rw [upd_ne nb]; exact z) hq2 h
      rcases List.mem_append.mp hc' with z | z
      · exact keep c' (st_ s2 (hc c' z))
      · rw [List.mem_singleton.mp z]; exact keep c (stO h2)
    · obtain ⟨s1, cs, rfl, lc, hc⟩ := q
      obtain ⟨dx, hob⟩ := ins_same s1 hp'
      have pL : p ≠ L := fun z => by
        obtain ⟨dx2, h2⟩ := hp'
        rw [z, hL] at h2; cases h2
      walk_at "go"
      refine s_fld rfl hob T.k_Disk.cl T.n_Disk__lies (by show 0 < 1000; decide) ?_
      have hL2 : upd H1 p (.ins T.C_Disk dx (putF "_lies" (.ref L) [])) L = some (.lst (cs.map V.ref)) := by rw [upd_ne pL.symm]; exact hp
      have hp2 : upd H1 p (.ins T.C_Disk dx (putF "_lies" (.ref L) [])) p = some (.ins T.C_Disk dx (putF "_lies" (.ref L) [])) := upd_same
      have b2 : But [p] H (upd H1 p (.ins T.C_Disk dx (putF "_lies" (.ref L) []))) := fun b o hb e => by rw [upd_ne (fun z => hb (by rw [z]; exact List.mem_cons_self))]; exact s1 _ _ e
      have hc2 : ∀ c ∈ cs, SqT K (upd H1 p (.ins T.C_Disk dx (putF "_lies" (.ref L) []))) c [] := fun c hm => oth_stI (fun b o nb z => by rw [upd_ne nb]; exact z) hob (hc c hm)
      generalize upd H1 p (.ins T.C_Disk dx (putF "_lies" (.ref L) [])) = H2 at *
      walk_at "go"
      refine e_dnew fun w' H3 n3 s3 h3 => ?_
      walk_at "go"
      refine s_fld rfl (at_ s3 hp2) T.k_Disk.cl T.n_Disk__waits (by show 1 < 1000; decide) ?_
      walk_at "go"
      refine s_fld rfl upd_same T.k_Disk.cl T.n_Disk__power (by show 2 < 1000; decide) ?_
      walk_at "go"
      refine s_fld rfl upd_same T.k_Disk.cl T.n_Disk__reached (by show 3 < 1000; decide) ?_
      rw [df_new]
      have nw : w' ≠ p := (ne_of_none hp2 n3).symm
      have oth : ∀ b, b ≠ p → ∀ x y z, upd (upd (upd H3 p x) p y) p z b = H3 b := fun b hb x y z => by rw [upd_ne hb, upd_ne hb, upd_ne hb]
      refine k _ ⟨L, cs, w', [], none, 0⟩ ⟨⟨dx, upd_same⟩, ?_, ?_, fun r hr => (nomatch hr), List.nodup_nil, List.nodup_nil, by simp, by show cs.length ≤ 600; omega, fun r hr => (nomatch hr)⟩ (fun a ha => ?_) lc (fun c hm => ?_) rfl rfl rfl fun b o hb e => ?_
      · show upd _ p _ L = _
        rw [oth _ pL.symm]; exact at_ s3 hL2
      · show upd _ p _ w' = _
        rw [oth _ nw]; exact h3
      · have ha : a ∈ [p, L, w'] := ha
        simp only [List.mem_cons, List.not_mem_nil, or_false] at ha
        rcases ha with z | z | z
        · exact .inl z
        · exact .inr (by rw [z]; exact hL)
        · by_cases q : a = p
          · exact .inl q
          · refine .inr ?_
            cases e : H a with
            | none => rfl
            | some o => have := b2 a o (by simpa using q) e; rw [z, n3] at this; cases this
      · have h4 := st_ s3 (hc2 c hm)
        have hp3 := at_ s3 hp2
        have u : ∀ (G : Hp) (x : HO), Oth p G (upd G p x) := fun G x b o nb z => by rw [upd_ne nb]; exact z
        exact oth_stI (u _ _) upd_same (oth_stI (u _ _) upd_same (oth_stI (u _ _) hp3 h4))
      · rw [oth _ (fun z => hb (by rw [z]; exact List.mem_cons_self))]; exact s3 _ _ (b2 _ _ hb e)
/-- a write waits behind the row of its block, or in a new row at r' -/
def addRow (rows : List (Int × Addr × List Addr)) (b : Int) (c r' : Addr) : List (Int × Addr × List Addr) := match rows.find? fun r => decide (r.1 = b) with
  | some _ => rows.map fun r => if r.1 = b then (r.1, r.2.1, r.2.2 ++ [c]) else r
  | none => rows ++ [(b, r', [c])]
theorem row_uniq : ∀ {rows : List (Int × Addr × List Addr)}, (rows.map (·.1)).Nodup → ∀ r ∈ rows, ∀ s ∈ rows, r.1 = s.1 → r = s
  | [], _, _, h, _, _, _ => nomatch h
  | a :: l, h, r, hr, s, hs, e => by
    obtain ⟨h1, h2⟩ := List.nodup_cons.mp h
    rcases List.mem_cons.mp hr with q | q <;> rcases List.mem_cons.mp hs with q2 | q2
    · rw [q, q2]
    · exact absurd (List.mem_map.mpr ⟨s, q2, by rw [← e, q]⟩) h1
    · exact absurd (List.mem_map.mpr ⟨r, q, by rw [e, q2]⟩) h1
    · exact row_uniq h2 r q s q2 e
theorem adr_uniq : ∀ {rows : List (Int × Addr × List Addr)}, (rows.map (·.2.1)).Nodup → ∀ r ∈ rows, ∀ s ∈ rows, r.2.1 = s.2.1 → r = s
  | [], _, _, h, _, _, _ => nomatch h
  | a :: l, h, r, hr, s, hs, e => by
    obtain ⟨h1, h2⟩ := List.nodup_cons.mp h
    rcases List.mem_cons.mp hr with q | q <;> rcases List.mem_cons.mp hs with q2 | q2
    · rw [q, q2]
    · exact absurd (List.mem_map.mpr ⟨s, q2, by rw [← e, q]⟩) h1
    · exact absurd (List.mem_map.mpr ⟨r, q, by rw [e, q2]⟩) h1
    · exact adr_uniq h2 r q s q2 e
def sp_disk_write (K : PySem.W.Frag) (C : Addr) : Sp := fun vs H Q _ => ∃ p D b c xs, vs = [.ref p, .int b, .ref c] ∧ DiskAt C H p D ∧ 0 ≤ b ∧ b < D.lies.length ∧ SqT K H c xs ∧ xs.length ≤ 1000 ∧ (∀ x ∈ xs, smallV x = true) ∧ itemsB xs 0 40 = true ∧ D.rows.length < 1000 ∧ (∀ r ∈ D.rows, r.2.2.length < 1000) ∧
  ∀ H' r', (r' ∈ D.foot p ∨ H r' = none) → DiskAt C H' p { D with rows := addRow D.rows b c r' } → But (D.foot p) H H' → Q .non H'
theorem ok_Disk_write (T : Txt K mg) : FnOk P w K mg base CX0 5 T.m_Disk_write.f T.m_Disk_write.fd ["self", "block", "content"] ((sp_disk_write K T.C_Disk)) := by
  refine T.m_Disk_write.F.ok sc_Disk_write (fun vs H Q E h => ?_) (fun cdv A outer s H vs Q E hr h => ?_)
  · obtain ⟨p, D, b, c, xs, rfl, _⟩ := h
    rfl
  · obtain ⟨p, D, b, c, xs, rfl, h, h0, hb, hc, hl, hx, hi, hn, hrw, k⟩ := h
    refine ⟨_, (pss_cons (ps_expr (pe_meth (pv 0) T.k_Disk.cl T.m_Disk__need_block.i (ok_Disk__need_block T) (hr.mono (by decide)) T.m_Disk__need_block.b .nil pass0 (pa_cons (pv 1) pa_nil)))
    (pss_cons (ps_if (pt_not (ptTruth (K := K) (pe_call (ok_is_items T) (hr.mono (by decide)) (by rfl) T.is_items.g T.is_items.F.kp T.is_items.b .nil pass0 (pa_cons (pv 2) (pa_cons pe_int (pa_cons (pe_glob (by rfl) T.c_MOST_ITEMS.h T.c_MOST_ITEMS.r) pa_nil)))) (by intro _; rfl))) (pss_one ps_never) pss_nil)
    (pss_one (ps_expr (peApp (K := K) (pe_bm PySem.F.plainAttrs_list PySem.F.slot_list_append PySem.F.type_list_append mt_append (pe_dsetd (peFld (K := K) (pv 0) rfl) (pv 1) (pe_lst pa_nil) ⟨by rfl, by rfl, by rfl, by rfl⟩) (pa_cons (pv 2) pa_nil))))))), ?_⟩
    walk_at "go"
    refine m_call0 h.ob (df_no _ _ _ _ (by decide +kernel)) ?_
    walk_at "go"
    refine ⟨p, D, b, rfl, h, h0, by omega, ?_⟩
    walk_at "go"
    refine ⟨.ref c, some xs, 0, 40, rfl, .tup hc (by omega) fun x hm => .inl (hx x hm), fun H1 s1 => ?_⟩
    rw [show itemsO 0 40 (some xs) = true from hi]
    have h1 := h.same s1
    walk_at "go"
    refine e_dsetd ?_
    walk_at "go"
    refine o_fld h1.ob T.k_Disk.cl T.n_Disk__waits (df_w _ _ _ _) ?_
    refine o_dsetd h1.hw ?_
    walk_at "go"
    refine n_new (le_size (by simp)) fun n H2 n2 s2 h2n => ?_
    have h2 := h1.same s2
    have s12 := s1.trans s2
    refine o_dset (k := Sum.inl b) h2.hw (by rw [List.length_map]; omega) (fun v e => ?_) fun e => ?_
    · rw [val_row] at e
      cases e2 : D.rows.find? fun r => decide (r.1 = b) with
      | none => rw [e2] at e; cases e
      | some r =>
        rw [e2] at e
        have ev : v = .ref r.2.1 := (Option.some.inj e).symm
        subst ev
        have hm := List.mem_of_find?_eq_some e2
        have hk : r.1 = b := of_decide_eq_true (List.find?_some (p := fun r : Int × Addr × List Addr => decide (r.1 = b)) e2)
        have hrow := h2.hr r hm
        refine ty_lst hrow.1 ?_
        walk_at "go"
        refine r_app hrow.1 (by rw [List.length_map]; have := hrw r hm; omega) fun H3 o3 h3 => ?_
        have fm : r.2.1 ∈ D.foot p := List.mem_cons_of_mem _ (List.mem_cons_of_mem _ (List.mem_cons_of_mem _ (List.mem_map.mpr ⟨r, hm, rfl⟩)))
        have ea : addRow D.rows b c r.2.1 = D.rows.map fun r => if r.1 = b then (r.1, r.2.1, r.2.2 ++ [c]) else r := by unfold addRow; rw [e2]
        have k2 := k H3 r.2.1 (.inl fm)
        rw [ea] at k2
        have m1 : ∀ f : Int × Addr × List Addr → Int, True := fun _ => trivial
        have em1 : (D.rows.map fun r => if r.1 = b then (r.1, r.2.1, r.2.2 ++ [c]) else r).map (·.1) = D.rows.map (·.1) := by
          rw [List.map_map]; apply List.map_congr_left; intro q _; show (if q.1 = b then _ else _ : Int × Addr × List Addr).1 = q.1; split <;> rfl
        have em2 : (D.rows.map fun r => if r.1 = b then (r.1, r.2.1, r.2.2 ++ [c]) else r).map (·.2.1) = D.rows.map (·.2.1) := by
          rw [List.map_map]; apply List.map_congr_left; intro q _; show (if q.1 = b then _ else _ : Int × Addr × List Addr).2.1 = q.2.1; split <;> rfl
        have em3 : (D.rows.map fun r => if r.1 = b then (r.1, r.2.1, r.2.2 ++ [c]) else r).map (fun r => ((Sum.inl r.1 : Key), V.ref r.2.1)) = D.rows.map fun r => ((Sum.inl r.1 : Key), V.ref r.2.1) := by
          rw [List.map_map]; apply List.map_congr_left; intro q _; show ((Sum.inl (if q.1 = b then _ else _ : Int × Addr × List Addr).1 : Key), V.ref (if q.1 = b then _ else _ : Int × Addr × List Addr).2.1) = _; split <;> rfl
        obtain ⟨dx, hob⟩ := h2.ob
        refine k2 ⟨⟨dx, o3 _ _ (fun z => by have := hrow.1; rw [← z, hob] at this; cases this) hob⟩, ?_, ?_, fun q hq => ?_, ?_, ?_, ?_, h.few, fun q hq => ?_⟩ fun a o ha e => o3 _ _ (fun z => ha (z ▸ fm)) (s12 _ _ e)
        · exact o3 _ _ (fun z => h.lr (z ▸ List.mem_map.mpr ⟨r, hm, rfl⟩)) h2.hl
        · show H3 D.w = _
          rw [show ({ D with rows := D.rows.map fun r => if r.1 = b then (r.1, r.2.1, r.2.2 ++ [c]) else r } : Dsk).rows.map (fun r => ((Sum.inl r.1 : Key), V.ref r.2.1)) = D.rows.map fun r => ((Sum.inl r.1 : Key), V.ref r.2.1) from em3]
          exact o3 _ _ (fun z => by have := h2.hw; rw [z, hrow.1] at this; cases this) h2.hw
        · obtain ⟨q0, hq0, e0⟩ := List.mem_map.mp hq
          subst e0
          by_cases z : q0.1 = b
          · have eq : q0 = r := row_uniq h.kd q0 hq0 r hm (by rw [z, hk])
            subst eq
            rw [if_pos z]
            exact ⟨by rw [h3, List.map_append]; rfl, by simp⟩
          · rw [if_neg z]
            exact ⟨o3 _ _ (fun y => z (by rw [adr_uniq h.nd q0 hq0 r hm y]; exact hk)) (h2.hr q0 hq0).1, (h2.hr q0 hq0).2⟩
        · show (List.map _ _).Nodup
          rw [em2]; exact h.nd
        · show (List.map _ _).Nodup
          rw [em1]; exact h.kd
        · show D.l ∉ List.map _ _
          rw [em2]; exact h.lr
        · obtain ⟨q0, hq0, e0⟩ := List.mem_map.mp hq
          subst e0
          have := h.kb q0 hq0
          by_cases z : q0.1 = b
          · rw [if_pos z]; exact this
          · rw [if_neg z]; exact this
    · have e2 : D.rows.find? (fun r => decide (r.1 = b)) = none := by
        rw [val_row] at e
        cases q : D.rows.find? fun r => decide (r.1 = b) with
        | none => rfl
        | some r => rw [q] at e; cases e
      rw [putK_new _ e]
      have nl : n ≠ D.w := fun z => by have := h2.hw; rw [← z, h2n] at this; cases this
      have hn3 : upd H2 D.w (.dK ((D.rows.map fun r => ((Sum.inl r.1 : Key), V.ref r.2.1)) ++ [((Sum.inl b : Key), V.ref n)])) n = some (.lst []) := by rw [upd_ne nl]; exact h2n
      have hw3 : upd H2 D.w (.dK ((D.rows.map fun r => ((Sum.inl r.1 : Key), V.ref r.2.1)) ++ [((Sum.inl b : Key), V.ref n)])) D.w = some (.dK ((D.rows.map fun r => ((Sum.inl r.1 : Key), V.ref r.2.1)) ++ [((Sum.inl b : Key), V.ref n)])) := upd_same
      have o3 : Oth D.w H2 (upd H2 D.w (.dK ((D.rows.map fun r => ((Sum.inl r.1 : Key), V.ref r.2.1)) ++ [((Sum.inl b : Key), V.ref n)]))) := fun a o na z => by rw [upd_ne na]; exact z
      generalize upd H2 D.w (.dK ((D.rows.map fun r => ((Sum.inl r.1 : Key), V.ref r.2.1)) ++ [((Sum.inl b : Key), V.ref n)])) = H3 at *
      refine ty_lst hn3 ?_
      walk_at "go"
      refine r_app hn3 (by simp) fun H4 o4 h4 => ?_
      have nfree : H n = none := free_ s1 n2
      have ea : addRow D.rows b c n = D.rows ++ [(b, n, [c])] := by unfold addRow; rw [e2]
      have k2 := k H4 n (.inr nfree)
      rw [ea] at k2
      have go : ∀ a o, a ≠ n → a ≠ D.w → H2 a = some o → H4 a = some o := fun a o na nw e => o4 _ _ na (o3 _ _ nw e)
      have old : ∀ a o, H a = some o → a ≠ n := fun a o e z => by rw [z, nfree] at e; cases e
      obtain ⟨dx, hob⟩ := h.ob
      have nb : ∀ r ∈ D.rows, r.1 ≠ b := fun r hr z => by
        have := List.find?_eq_none.mp e2 r hr
        exact this (decide_eq_true z)
      refine k2 ⟨⟨dx, go _ _ (old _ _ hob) (fun z => by have := h.hw; rw [← z, hob] at this; cases this) (s12 _ _ hob)⟩, ?_, ?_, fun q hq => ?_, ?_, ?_, ?_, h.few, fun q hq => ?_⟩ fun a o ha e => go _ _ (old _ _ e) (fun z => ha (by rw [z]; exact List.mem_cons_of_mem _ (List.mem_cons_of_mem _ List.mem_cons_self))) (s12 _ _ e)
      · exact go _ _ (old _ _ h.hl) (fun z => by have := h.hw; rw [← z, h.hl] at this; cases this) (s12 _ _ h.hl)
      · show H4 D.w = some (.dK (List.map _ (D.rows ++ [(b, n, [c])])))
        rw [List.map_append]
        exact o4 _ _ nl.symm hw3
      · rcases List.mem_append.mp hq with z | z
        · have hr0 := h.hr q z
          exact ⟨go _ _ (old _ _ hr0.1) (fun y => by have := h.hw; rw [← y, hr0.1] at this; cases this) (s12 _ _ hr0.1), hr0.2⟩
        · have z := List.mem_singleton.mp z
          subst z
          exact ⟨h4, by simp⟩
      · show (List.map _ (D.rows ++ [(b, n, [c])])).Nodup
        rw [List.map_append]
        refine List.nodup_append.mpr ⟨h.nd, by simp, fun x hx y hy e => ?_⟩
        obtain ⟨r, hr, er⟩ := List.mem_map.mp hx
        have hy := List.mem_singleton.mp hy
        exact old _ _ (h.hr r hr).1 (by rw [er, e, hy])
      · show (List.map _ (D.rows ++ [(b, n, [c])])).Nodup
        rw [List.map_append]
        refine List.nodup_append.mpr ⟨h.kd, by simp, fun x hx y hy e => ?_⟩
        obtain ⟨r, hr, er⟩ := List.mem_map.mp hx
        have hy := List.mem_singleton.mp hy
        exact nb r hr (by rw [er, e, hy])
      · show D.l ∉ List.map _ (D.rows ++ [(b, n, [c])])
        rw [List.map_append]
        intro z
        rcases List.mem_append.mp z with z | z
        · exact h.lr z
        · exact old _ _ h.hl (List.mem_singleton.mp z)
      · rcases List.mem_append.mp hq with z | z
        · exact h.kb q z
        · have z := List.mem_singleton.mp z
          subst z
          exact ⟨h0, hb⟩
end



section
variable {P : Program} {w : World} {K : PySem.W.Frag} {mg : Str → Option Value} {base : Heap}
/-! ### what may change -/
def muT : HO → Bool
  | .tup _ => true
  | .frz _ _ => true
  | .ext _ => true
  | .tbl _ => true
  | _ => false
def Ch (F : List Addr) (H H' : Hp) : Prop := ∀ a o, H a = some o → (a ∉ F ∨ muT o = true) → H' a = some o
section
variable {F F' : List Addr} {H H1 H2 H' : Hp} {a c p : Addr} {o x : HO} {xs : List V}
theorem Ch.refl : Ch F H H := fun _ _ h _ => h
theorem Ch.of_same (s : Same H H') : Ch F H H' := fun a o h _ => s a o h
theorem Ch.trans (h1 : Ch F H H1) (h2 : Ch F' H1 H2) (hf : ∀ a ∈ F', a ∈ F ∨ H a = none) : Ch F H H2 := fun a o h c => by
  refine h2 a o (h1 a o h c) ?_
  rcases c with c | c
  · refine .inl fun m => ?_
    rcases hf a m with z | z
    · exact c z
    · rw [h] at z; cases z
  · exact .inr c
theorem Ch.upd1 (m : a ∈ F) (n : ∀ o, H a = some o → muT o = false) : Ch F H (upd H a x) := fun b o h c => by
  by_cases e : b = a
  · subst e
    rcases c with c | c
    · exact absurd m c
    · rw [n o h] at c; cases c
  · rw [upd_ne e]; exact h
theorem Ch.st (h : Ch F H H') (s : SqT K H c xs) : SqT K H' c xs := by
  rcases s with (s | ⟨u, s⟩) | s
  · exact .inl (.inl (h _ _ s (.inr rfl)))
  · exact .inl (.inr ⟨u, h _ _ s (.inr rfl)⟩)
  · exact .inr s
theorem Ch.sl (h : Ch F H H') (n : c ∉ F) (s : SqL K H c xs) : SqL K H' c xs := by
  rcases s with (s | ⟨u, s⟩) | s
  · exact .inl (.inl (h _ _ s (.inl n)))
  · exact .inl (.inr ⟨u, h _ _ s (.inl n)⟩)
  · exact .inr s
theorem Ch.at_ (h : Ch F H H') (n : a ∉ F) (e : H a = some o) : H' a = some o := h a o e (.inl n)
theorem Ch.mono (h : Ch F H H') (hs : ∀ a ∈ F, a ∈ F' ∨ H a = none) : Ch F' H H' := fun a o e c => h a o e (c.imp (fun c m => by
  rcases hs a m with z | z
  · exact c z
  · rw [e] at z; cases z) id)
theorem Ch.of_but (b : But F H H') (n : ∀ a ∈ F, ∀ o, H a = some o → muT o = false) : Ch F H H' := fun a o e c => by
  by_cases m : a ∈ F
  · rcases c with c | c
    · exact absurd m c
    · rw [n a m o e] at c; cases c
  · exact b a o m e
theorem Ch.of_oth (b : Oth p H H') (m : p ∈ F) (n : ∀ o, H p = some o → muT o = false) : Ch F H H' := fun a o e c => by
  by_cases z : a = p
  · subst z
    rcases c with c | c
    · exact absurd m c
    · rw [n o e] at c; cases c
  · exact b a o z e
end
theorem Ch.tabs {F : List Addr} {H H' : Hp} {TL : List (Addr × Str)} (h : Ch F H H') (t : LamX.Tabs TL H) : LamX.Tabs TL H' := fun p hp => by
  obtain ⟨ps, h1, h2, h3⟩ := t p hp
  refine ⟨ps, h _ _ h1 (.inr rfl), h2, fun pos cv hc => ?_⟩
  obtain ⟨c, e1, e2⟩ := h3 pos cv hc
  exact ⟨c, e1, h _ _ e2 (.inr rfl)⟩
theorem DiskAt.mut {C p : Addr} {H : Hp} {D : Dsk} (h : DiskAt C H p D) : ∀ a ∈ D.foot p, ∀ o, H a = some o → muT o = false := fun a m o e => by
  obtain ⟨dx, hob⟩ := h.ob
  unfold Dsk.foot at m
  rcases List.mem_cons.mp m with z | m
  · subst z; rw [hob] at e; cases e; rfl
  rcases List.mem_cons.mp m with z | m
  · subst z; rw [h.hl] at e; cases e; rfl
  rcases List.mem_cons.mp m with z | m
  · subst z; rw [h.hw] at e; cases e; rfl
  · obtain ⟨r, hr, z⟩ := List.mem_map.mp m
    subst z; rw [(h.hr r hr).1] at e; cases e; rfl
theorem DiskAt.there {C p : Addr} {H : Hp} {D : Dsk} (h : DiskAt C H p D) : ∀ a ∈ D.foot p, H a ≠ none := fun a m e => by
  obtain ⟨dx, hob⟩ := h.ob
  unfold Dsk.foot at m
  rcases List.mem_cons.mp m with z | m
  · subst z; rw [hob] at e; cases e
  rcases List.mem_cons.mp m with z | m
  · subst z; rw [h.hl] at e; cases e
  rcases List.mem_cons.mp m with z | m
  · subst z; rw [h.hw] at e; cases e
  · obtain ⟨r, hr, z⟩ := List.mem_map.mp m
    subst z; rw [(h.hr r hr).1] at e; cases e
/-! ### what a disk is, as data -/
abbrev Ct := List V
structure SD where
  lies : List Ct
  rows : Int → List Ct
  pw : Option Int
  rc : Int
def CtOk (xs : Ct) : Prop := xs.length ≤ 1000 ∧ (∀ x ∈ xs, smallV x = true) ∧ itemsB xs 0 40 = true
structure SD.Ok (S : SD) : Prop where
  ln : S.lies.length ≤ 600
  cl : ∀ xs ∈ S.lies, CtOk xs
  cr : ∀ b, ∀ xs ∈ S.rows b, CtOk xs
  out : ∀ b, S.rows b ≠ [] → 0 ≤ b ∧ b < S.lies.length
  pw : ∀ i, S.pw = some i → 0 ≤ i
/-- the tuples at some places -/
def TupsAt (K : PySem.W.Frag) (H : Hp) (cs : List Addr) (xss : List Ct) : Prop := cs.length = xss.length ∧ ∀ (i : Nat) c xs, cs[i]? = some c → xss[i]? = some xs → SqT K H c xs
section
variable {F : List Addr} {H H' : Hp} {cs : List Addr} {xss : List Ct} {c : Addr} {xs : Ct}
theorem TupsAt.ch (h : TupsAt K H cs xss) (s : Ch F H H') : TupsAt K H' cs xss := ⟨h.1, fun i c xs a b => s.st (h.2 i c xs a b)⟩
theorem TupsAt.nil : TupsAt K H [] [] := ⟨rfl, fun _ _ _ a _ => by cases a⟩
theorem TupsAt.snoc (h : TupsAt K H cs xss) (t : SqT K H c xs) : TupsAt K H (cs ++ [c]) (xss ++ [xs]) := by
  refine ⟨by rw [List.length_append, List.length_append, h.1]; rfl, fun i d ys a b => ?_⟩
  have l := h.1
  by_cases hi : i < cs.length
  · rw [List.getElem?_append_left hi] at a
    rw [List.getElem?_append_left (by omega)] at b
    exact h.2 i d ys a b
  · rw [List.getElem?_append_right (by omega)] at a
    rw [List.getElem?_append_right (by omega)] at b
    rw [l] at a
    cases e : i - xss.length with
    | zero =>
      rw [e] at a b
      cases a; cases b; exact t
    | succ n => rw [e] at a; cases a
theorem TupsAt.cons_inv (h : TupsAt K H cs (xs :: xss)) : ∃ d ds, cs = d :: ds ∧ SqT K H d xs ∧ TupsAt K H ds xss := by
  cases cs with
  | nil => have := h.1; cases this
  | cons d ds => exact ⟨d, ds, rfl, h.2 0 d xs rfl rfl, by have := h.1; simpa using this, fun i c ys a b => h.2 (i + 1) c ys a b⟩
theorem TupsAt.set (h : TupsAt K H cs xss) (i : Nat) (t : SqT K H c xs) : TupsAt K H (cs.set i c) (xss.set i xs) := by
  refine ⟨by rw [List.length_set, List.length_set, h.1], fun j d ys a b => ?_⟩
  rw [List.getElem?_set] at a b
  by_cases e : i = j
  · rw [if_pos e] at a b
    split at a
    · split at b
      · cases a; cases b; exact t
      · cases b
    · cases a
  · rw [if_neg e] at a b
    exact h.2 j d ys a b
theorem TupsAt.get (h : TupsAt K H cs xss) {i : Nat} (e : xss[i]? = some xs) : ∃ d, cs[i]? = some d ∧ SqT K H d xs := by
  have l : i < cs.length := by have := (List.getElem?_eq_some_iff.mp e).1; have := h.1; omega
  exact ⟨cs[i], List.getElem?_eq_getElem l, h.2 i _ _ (List.getElem?_eq_getElem l) e⟩
end
/-- a disk's rows tell S's -/
def RowsAt (K : PySem.W.Frag) (H : Hp) (rows : List (Int × Addr × List Addr)) (f : Int → List Ct) : Prop := ∀ b, match rows.find? fun r => decide (r.1 = b) with
  | none => f b = []
  | some r => TupsAt K H r.2.2 (f b)
structure Sees (K : PySem.W.Frag) (H : Hp) (D : Dsk) (S : SD) : Prop where
  ok : S.Ok
  lv : TupsAt K H D.lies S.lies
  rv : RowsAt K H D.rows S.rows
  pw : D.pw = S.pw
  rc : D.rc = S.rc
def DS (K : PySem.W.Frag) (C : Addr) (H : Hp) (p : Addr) (F : List Addr) (S : SD) : Prop := ∃ D, DiskAt C H p D ∧ F = D.foot p ∧ Sees K H D S
theorem RowsAt.ch {F : List Addr} {H H' : Hp} {rows : List (Int × Addr × List Addr)} {f : Int → List Ct} (h : RowsAt K H rows f) (s : Ch F H H') : RowsAt K H' rows f := fun b => by
  have hb := h b
  split at hb
  · exact hb
  · exact hb.ch s
theorem RowsAt.som {H : Hp} {rows : List (Int × Addr × List Addr)} {f : Int → List Ct} {b : Int} {r} (h : RowsAt K H rows f) (e : rows.find? (fun r => decide (r.1 = b)) = some r) : TupsAt K H r.2.2 (f b) := by
  have hb := h b
  rw [e] at hb; exact hb
theorem RowsAt.non {H : Hp} {rows : List (Int × Addr × List Addr)} {f : Int → List Ct} {b : Int} (h : RowsAt K H rows f) (e : rows.find? (fun r => decide (r.1 = b)) = none) : f b = [] := by
  have hb := h b
  rw [e] at hb; exact hb
theorem RowsAt.there {H : Hp} {rows : List (Int × Addr × List Addr)} {f : Int → List Ct} {b : Int} (h : RowsAt K H rows f) (n : f b ≠ []) : ∃ r, rows.find? (fun r => decide (r.1 = b)) = some r ∧ r ∈ rows ∧ r.1 = b ∧ TupsAt K H r.2.2 (f b) := by
  cases e : rows.find? (fun r => decide (r.1 = b)) with
  | none => exact absurd (h.non e) n
  | some r => exact ⟨r, rfl, List.mem_of_find?_eq_some e, of_decide_eq_true (List.find?_some (p := fun r : Int × Addr × List Addr => decide (r.1 = b)) e), h.som e⟩
theorem Sees.ch {F : List Addr} {H H' : Hp} {D : Dsk} {S : SD} (h : Sees K H D S) (s : Ch F H H') : Sees K H' D S := ⟨h.ok, h.lv.ch s, h.rv.ch s, h.pw, h.rc⟩
/-- a change elsewhere -/
theorem DiskAt.ch {C p : Addr} {F : List Addr} {H H' : Hp} {D : Dsk} (h : DiskAt C H p D) (s : Ch F H H') (n : ∀ a ∈ D.foot p, a ∉ F) : DiskAt C H' p D := by
  obtain ⟨dx, hob⟩ := h.ob
  refine ⟨⟨dx, s.at_ (n p (by unfold Dsk.foot; simp)) hob⟩, s.at_ (n _ (by unfold Dsk.foot; simp)) h.hl, s.at_ (n _ (by unfold Dsk.foot; simp)) h.hw, fun r hr => ⟨s.at_ (n _ ?_) (h.hr r hr).1, (h.hr r hr).2⟩, h.nd, h.kd, h.lr, h.few, h.kb⟩
  unfold Dsk.foot
  exact List.mem_cons_of_mem _ (List.mem_cons_of_mem _ (List.mem_cons_of_mem _ (List.mem_map.mpr ⟨r, hr, rfl⟩)))
theorem DS.ch {C p : Addr} {F G : List Addr} {H H' : Hp} {S : SD} (h : DS K C H p F S) (s : Ch G H H') (n : ∀ a ∈ F, a ∉ G) : DS K C H' p F S := by
  obtain ⟨D, h1, rfl, h2⟩ := h
  exact ⟨D, h1.ch s n, rfl, h2.ch s⟩
theorem DS.same {C p : Addr} {F : List Addr} {H H' : Hp} {S : SD} (h : DS K C H p F S) (s : Same H H') : DS K C H' p F S := h.ch (G := []) (Ch.of_same s) (by simp)
theorem DS.there {C p : Addr} {F : List Addr} {H : Hp} {S : SD} (h : DS K C H p F S) : ∀ a ∈ F, H a ≠ none := by
  obtain ⟨D, h1, rfl, h2⟩ := h
  exact h1.there
end



section
variable {P : Program} {w : World} {K : PySem.W.Frag} {mg : Str → Option Value} {base : Heap}
def SD.got (S : SD) (b : Int) (c : Ct) (cs : List Ct) : SD := ⟨S.lies.set b.toNat c, fun x => if x = b then cs else S.rows x, S.pw.map (· - 1), S.rc + 1⟩
theorem SD.got_ok {S : SD} {b : Int} {c : Ct} {cs : List Ct} (h : S.Ok) (e : S.rows b = c :: cs) (np : S.pw ≠ some 0) : (S.got b c cs).Ok := by
  refine ⟨by show (S.lies.set _ _).length ≤ 600; rw [List.length_set]; exact h.ln, fun xs hx => ?_, fun x xs hx => ?_, fun x hx => ?_, fun i hi => ?_⟩
  · rcases List.mem_or_eq_of_mem_set hx with z | z
    · exact h.cl xs z
    · subst z; exact h.cr b _ (by rw [e]; simp)
  · have hx : xs ∈ (if x = b then cs else S.rows x) := hx
    split at hx
    · exact h.cr b _ (by rw [e]; exact List.mem_cons_of_mem _ hx)
    · exact h.cr x _ hx
  · show 0 ≤ x ∧ x < (S.lies.set _ _).length
    rw [List.length_set]
    have hx : (if x = b then cs else S.rows x) ≠ [] := hx
    split at hx
    · next z => rw [z]; exact h.out b (by rw [e]; simp)
    · exact h.out x hx
  · have hi : S.pw.map (· - 1) = some i := hi
    cases q : S.pw with
    | none => rw [q] at hi; cases hi
    | some j =>
      rw [q] at hi
      have := h.pw j q
      have e2 : j - 1 = i := Option.some.inj hi
      have : j ≠ 0 := fun z => np (by rw [q, z])
      omega
/-- the rows behind a write that reached -/
def gotRows (rows : List (Int × Addr × List Addr)) (b : Int) (as : List Addr) : List (Int × Addr × List Addr) := if as = [] then rows.filter (fun q => decide (q.1 ≠ b)) else rows.map fun q => if q.1 = b then (q.1, q.2.1, as) else q
theorem gotRows_find {rows : List (Int × Addr × List Addr)} {b : Int} {as : List Addr} {x : Int} : (gotRows rows b as).find? (fun q => decide (q.1 = x)) =
    if x = b then (if as = [] then none else (rows.find? fun q => decide (q.1 = b)).map fun q => (q.1, q.2.1, as)) else rows.find? fun q => decide (q.1 = x) := by
  unfold gotRows
  by_cases ha : as = []
  · rw [if_pos ha, if_pos ha, List.find?_filter]
    by_cases hx : x = b
    · rw [if_pos hx, List.find?_eq_none]
      intro q _ z
      simp only [decide_not, Bool.and_eq_true, Bool.not_eq_true', decide_eq_false_iff_not, decide_eq_true_eq] at z
      exact z.1 (by rw [z.2, hx])
    · rw [if_neg hx]
      congr 1
      funext q
      by_cases z : q.1 = x
      · have : q.1 ≠ b := fun y => hx (by rw [← z, y])
        simp [z, this, hx]
      · simp [z]
  · rw [if_neg ha, if_neg ha, List.find?_map]
    have e : ((fun q : Int × Addr × List Addr => decide (q.1 = x)) ∘ fun q => if q.1 = b then (q.1, q.2.1, as) else q) = fun q => decide (q.1 = x) := by
      funext q
      show decide ((if q.1 = b then (q.1, q.2.1, as) else q).1 = x) = decide (q.1 = x)
      split <;> rfl
    rw [e]
    by_cases hx : x = b
    · rw [if_pos hx, hx]
      cases q : rows.find? fun q => decide (q.1 = b) with
      | none => rfl
      | some r =>
        have : r.1 = b := of_decide_eq_true (List.find?_some (p := fun r : Int × Addr × List Addr => decide (r.1 = b)) q)
        show some (if r.1 = b then (r.1, r.2.1, as) else r) = some (r.1, r.2.1, as)
        rw [if_pos this]
    · rw [if_neg hx]
      cases q : rows.find? fun q => decide (q.1 = x) with
      | none => rfl
      | some r =>
        have : r.1 = x := of_decide_eq_true (List.find?_some (p := fun r : Int × Addr × List Addr => decide (r.1 = x)) q)
        show some (if r.1 = b then (r.1, r.2.1, as) else r) = some r
        rw [if_neg (by rw [this]; exact hx)]
theorem gotRows_sub {rows : List (Int × Addr × List Addr)} {b : Int} {as : List Addr} {q} (h : q ∈ gotRows rows b as) : ∃ q0 ∈ rows, q0.1 = q.1 ∧ q0.2.1 = q.2.1 ∧ ((q0.1 ≠ b ∧ q = q0) ∨ (q0.1 = b ∧ as ≠ [] ∧ q.2.2 = as)) := by
  unfold gotRows at h
  split at h
  · obtain ⟨h1, h2⟩ := List.mem_filter.mp h
    exact ⟨q, h1, rfl, rfl, .inl ⟨of_decide_eq_true h2, rfl⟩⟩
  · next ha =>
    obtain ⟨q0, h1, h2⟩ := List.mem_map.mp h
    by_cases z : q0.1 = b
    · rw [if_pos z] at h2
      subst h2
      exact ⟨q0, h1, rfl, rfl, .inr ⟨z, ha, rfl⟩⟩
    · rw [if_neg z] at h2
      subst h2
      exact ⟨q0, h1, rfl, rfl, .inl ⟨z, rfl⟩⟩
theorem sub_nodup {α β : Type} [DecidableEq β] {f : α → β} {l : List α} (p : α → Bool) (h : (l.map f).Nodup) : ((l.filter p).map f).Nodup := h.sublist (List.Sublist.map f List.filter_sublist)
theorem gotRows_m1 {rows : List (Int × Addr × List Addr)} {b : Int} {as : List Addr} (h : (rows.map (·.1)).Nodup) : ((gotRows rows b as).map (·.1)).Nodup := by
  unfold gotRows
  split
  · exact sub_nodup _ h
  · rw [List.map_map]
    have e : ((fun q : Int × Addr × List Addr => q.1) ∘ fun q => if q.1 = b then (q.1, q.2.1, as) else q) = (·.1) := by
      funext q
      show (if q.1 = b then (q.1, q.2.1, as) else q).1 = q.1
      split <;> rfl
    rw [e]; exact h
theorem gotRows_m2 {rows : List (Int × Addr × List Addr)} {b : Int} {as : List Addr} (h : (rows.map (·.2.1)).Nodup) : ((gotRows rows b as).map (·.2.1)).Nodup := by
  unfold gotRows
  split
  · exact sub_nodup _ h
  · rw [List.map_map]
    have e : ((fun q : Int × Addr × List Addr => q.2.1) ∘ fun q => if q.1 = b then (q.1, q.2.1, as) else q) = (·.2.1) := by
      funext q
      show (if q.1 = b then (q.1, q.2.1, as) else q).2.1 = q.2.1
      split <;> rfl
    rw [e]; exact h
abbrev kvs_of (rows : List (Int × Addr × List Addr)) : List (Key × V) := rows.map fun r => ((Sum.inl r.1 : Key), V.ref r.2.1)
theorem gotRows_kvs {rows : List (Int × Addr × List Addr)} {b : Int} {as : List Addr} : kvs_of (gotRows rows b as) = if as = [] then dropK (kvs_of rows) (Sum.inl b) else kvs_of rows := by
  unfold gotRows kvs_of dropK
  split
  · rw [List.filter_map]
    congr 1
    congr 1
    funext q
    show decide (q.1 ≠ b) = decide ((Sum.inl q.1 : Key) ≠ Sum.inl b)
    by_cases h : q.1 = b
    · simp [h]
    · simp [h]
  · rw [List.map_map]
    congr 1
    funext q
    show ((Sum.inl (if q.1 = b then (q.1, q.2.1, as) else q).1 : Key), V.ref (if q.1 = b then (q.1, q.2.1, as) else q).2.1) = _
    split <;> rfl
theorem got_core {C p : Addr} {H H4 : Hp} {D : Dsk} {S : SD} {b : Int} {c : Ct} {cs : List Ct} {r : Int × Addr × List Addr} {a : Addr} {as : List Addr} (h : DiskAt C H p D) (v : Sees K H D S) (e : S.rows b = c :: cs) (np : S.pw ≠ some 0)
    (hm : r ∈ D.rows) (hk : r.1 = b) (ef : D.rows.find? (fun r => decide (r.1 = b)) = some r) (er : r.2.2 = a :: as) (ha : SqT K H a c) (has : TupsAt K H as cs)
    (ob : InsAt C H4 p (df D.l D.w (pwV (D.pw.map (· - 1))) (D.rc + 1))) (hl : H4 D.l = some (.lst ((D.lies.set b.toNat a).map V.ref))) (hw : H4 D.w = some (.dK (kvs_of (gotRows D.rows b as)))) (hra : H4 r.2.1 = some (.lst (as.map V.ref)))
    (oth : ∀ x o, x ≠ p → x ≠ D.l → x ≠ D.w → x ≠ r.2.1 → H x = some o → H4 x = some o) :
    DS K C H4 p (({ D with lies := D.lies.set b.toNat a, rows := gotRows D.rows b as, pw := D.pw.map (· - 1), rc := D.rc + 1 } : Dsk).foot p) (S.got b c cs) ∧ Ch (D.foot p) H H4 ∧ ∀ x ∈ ({ D with lies := D.lies.set b.toNat a, rows := gotRows D.rows b as, pw := D.pw.map (· - 1), rc := D.rc + 1 } : Dsk).foot p, x ∈ D.foot p := by
  have fr : r.2.1 ∈ D.foot p := by
    unfold Dsk.foot
    exact List.mem_cons_of_mem _ (List.mem_cons_of_mem _ (List.mem_cons_of_mem _ (List.mem_map.mpr ⟨r, hm, rfl⟩)))
  have ch : Ch (D.foot p) H H4 := fun x o hx q => by
    have n : x ∉ D.foot p := fun m => by
      rcases q with q | q
      · exact q m
      · rw [h.mut x m o hx] at q; cases q
    exact oth x o (fun z => n (by rw [z]; unfold Dsk.foot; simp)) (fun z => n (by rw [z]; unfold Dsk.foot; simp)) (fun z => n (by rw [z]; unfold Dsk.foot; simp)) (fun z => n (by rw [z]; exact fr)) hx
  refine ⟨⟨_, ⟨ob, hl, hw, fun q hq => ?_, gotRows_m2 h.nd, gotRows_m1 h.kd, fun z => ?_, ?_, fun q hq => ?_⟩, rfl, ⟨SD.got_ok v.ok e np, (v.lv.ch ch).set _ (ch.st ha), fun x => ?_, ?_, ?_⟩⟩, ch, fun x hx => ?_⟩
  · obtain ⟨q0, h0, e1, e2, z⟩ := gotRows_sub hq
    rcases z with ⟨z, rfl⟩ | ⟨z, n, e3⟩
    · refine ⟨oth _ _ ?_ ?_ ?_ ?_ (h.hr q h0).1, (h.hr q h0).2⟩
      · intro y; obtain ⟨dx, hob⟩ := h.ob; have := (h.hr q h0).1; rw [y, hob] at this; cases this
      · intro y; exact h.lr (y ▸ List.mem_map.mpr ⟨q, h0, rfl⟩)
      · intro y; have := (h.hr q h0).1; rw [y, h.hw] at this; cases this
      · intro y; have := adr_uniq h.nd q h0 r hm y; rw [this] at z; exact z hk
    · have : q0 = r := row_uniq h.kd q0 h0 r hm (by rw [z, hk])
      subst this
      rw [← e2, e3]; exact ⟨hra, n⟩
  · obtain ⟨q, hq, y⟩ := List.mem_map.mp z
    obtain ⟨q0, h0, e1, e2, _⟩ := gotRows_sub hq
    exact h.lr (List.mem_map.mpr ⟨q0, h0, by rw [e2, y]⟩)
  · show (D.lies.set _ _).length ≤ 600
    rw [List.length_set]; exact h.few
  · obtain ⟨q0, h0, e1, e2, _⟩ := gotRows_sub hq
    show 0 ≤ q.1 ∧ q.1 < ((D.lies.set _ _).length : Nat)
    rw [← e1, List.length_set]; exact h.kb q0 h0
  · have hx := v.rv x
    show match (gotRows D.rows b as).find? fun q => decide (q.1 = x) with
      | none => (if x = b then cs else S.rows x) = []
      | some r => TupsAt K H4 r.2.2 (if x = b then cs else S.rows x)
    rw [gotRows_find]
    by_cases hxb : x = b
    · rw [if_pos hxb, if_pos hxb]
      by_cases hna : as = []
      · rw [if_pos hna]
        have := has.1
        rw [hna] at this
        exact List.length_eq_zero_iff.mp this.symm
      · rw [if_neg hna, ef]
        exact has.ch ch
    · rw [if_neg hxb, if_neg hxb]
      exact (v.rv.ch ch) x
  · show D.pw.map _ = S.pw.map _
    rw [v.pw]
  · show D.rc + 1 = S.rc + 1
    rw [v.rc]
  · unfold Dsk.foot at hx ⊢
    simp only [List.mem_cons] at hx ⊢
    rcases hx with z | z | z | z
    · exact .inl z
    · exact .inr (.inl z)
    · exact .inr (.inr (.inl z))
    · obtain ⟨q, hq, y⟩ := List.mem_map.mp z
      obtain ⟨q0, h0, e1, e2, _⟩ := gotRows_sub hq
      exact .inr (.inr (.inr (List.mem_map.mpr ⟨q0, h0, by rw [e2, y]⟩)))
end



section
variable {P : Program} {w : World} {K : PySem.W.Frag} {mg : Str → Option Value} {base : Heap}
theorem r_pop0 {l : Addr} {y : V} {ys : List V} {H : Hp} {Q : VK} (h : H l = some (.lst (y :: ys))) (q : ∀ H2, Oth l H H2 → H2 l = some (.lst ys) → Q y H2) : rPopAt (.ref l) [.int 0] H Q :=
  ⟨l, y :: ys, 0, 0, y, rfl, rfl, h, by decide, by decide, by simp [seqIndex?], rfl, q _ (fun b o n z => by rw [upd_ne n]; exact z) upd_same⟩
def sp_reach1 (K : PySem.W.Frag) (C Cs : Addr) : Sp := fun vs H Q E => ∃ p F S b c cs, vs = [.ref p, .int b] ∧ DS K C H p F S ∧ S.rows b = c :: cs ∧ (S.pw = some 0 → E (.ref Cs) none H) ∧
  (S.pw ≠ some 0 → ∀ H' F', DS K C H' p F' (S.got b c cs) → Ch F H H' → (∀ a ∈ F', a ∈ F) → Q .non H')
theorem ok_Disk__reach_one (T : Txt K mg) : FnOk P w K mg base (L2.CX P w) 3 T.m_Disk__reach_one.f T.m_Disk__reach_one.fd ["self", "block"] ((sp_reach1 K T.C_Disk T.e_Stopped.C)) := by
  refine T.m_Disk__reach_one.F.okX sc_Disk__reach_one (fun vs H Q E h => ?_) (fun cdv A outer s H vs Q E hr h => ?_)
  · obtain ⟨p, F, S, b, c, cs, rfl, _⟩ := h
    rfl
  · obtain ⟨p, F, S, b, c, cs, rfl, ⟨D, hD, rfl, v⟩, hrow, k0, k1⟩ := h
    refine ⟨_, (Evl.pss_cut (ps_if (pt_cmpR oNotN (peFld (K := K) (pv 0) rfl) pe_non (nomark _)) (pss_cons (ps_if (pt_cmpR (oEq (K := K) hr.units) (peFld (K := K) (pv 0) rfl) pe_int (nomark _)) (pss_one (ps_raise rfl (takes_of rfl rfl rfl rfl) (pmk_oexN T.e_Stopped.o T.e_Stopped.i T.e_Stopped.t (ok_StoreError_init T.m_StoreError_init T.z_ValueError T.vV) (hr.mono (by decide)) T.m_StoreError_init.b pass0 (by rfl) T.e_Stopped.g))) pss_nil)
    (pss_one (ps_fldaug (pv 0) pe_int in_sub))) pss_nil)
    (pss_cons (ps_set (i := 2) sc_Disk__reach_one.nd rfl (Or.inl rfl) (pe_dget (hu_of hr) (peFld (K := K) (pv 0) rfl) (pv 1) (fun _ _ => rfl)))
    (pss_cons (ps_asg (pe_bm PySem.F.plainAttrs_list PySem.F.slot_list_pop PySem.F.type_list_pop mt_popAt (pv 2) (pa_cons pe_int pa_nil)) (pg_sub (peFld (K := K) (pv 0) rfl) (pv 1) set_list))
    (pss_cons (ps_fldaug (pv 0) pe_int in_add)
    (pss_one (ps_if (pt_not (ptTruth (K := K) (pv 2) (by intro _; rfl))) (pss_one (ps_ddel (peFld (K := K) (pv 0) rfl) (pv 1))) pss_nil)))))), ?_⟩
    walk_at "go"
    refine s_cut (fun σ2 H2 => S.pw ≠ some 0 ∧ σ2 = [some (.ref p), some (.int b), none] ∧ InsAt T.C_Disk H2 p (df D.l D.w (pwV (D.pw.map (· - 1))) D.rc) ∧ (∀ x, x ≠ p → H2 x = H x)) ?_ ?_
    · walk_at "go"
      refine o_fld hD.ob T.k_Disk.cl T.n_Disk__power (df_p _ _ _ _) ?_
      have epw := v.pw
      have hob := hD.ob
      cases ep : D.pw with
      | none =>
        rw [ep] at hob
        walk_at "go"
        exact ⟨by rw [← epw, ep]; simp, rfl, hob, fun _ _ => rfl⟩
      | some i =>
        rw [ep] at hob
        walk_at "go"
        refine o_fld hob T.k_Disk.cl T.n_Disk__power (df_p _ _ _ _) ?_
        walk_at "go"
        refine i_d (fun q => ?_) (fun q => ?_)
        · subst q
          walk_at "go"
          exact e_raise T.e_Stopped.o (k0 (by rw [← epw, ep]))
        · walk_at "go"
          obtain ⟨dx, hob⟩ := hob
          refine ⟨_, rfl, p, T.C_Disk, dx, _, _, rfl, hob, T.k_Disk.cl, T.n_Disk__power, df_p _ _ _ _, ?_⟩
          refine ⟨_, _, rfl, rfl, dx, _, hob, by show 4 < 1000; decide, ?_⟩
          rw [df_pp]
          exact ⟨by rw [← epw, ep]; intro z; exact q (Option.some.inj z), rfl, ⟨dx, upd_same⟩, fun x hx => upd_ne hx⟩
    · rintro σ2 H2 ⟨np, rfl, hob, hoth⟩
      obtain ⟨r, ef, hm, hk, tu⟩ := v.rv.there (b := b) (by rw [hrow]; simp)
      rw [hrow] at tu
      obtain ⟨a, as, er, ta, tas⟩ := tu.cons_inv
      have hr0 := hD.hr r hm
      rw [er] at hr0
      obtain ⟨dx0, hob0⟩ := hD.ob
      have hpw : D.w ≠ p := fun z => by have := hD.hw; rw [z, hob0] at this; cases this
      have hpl : D.l ≠ p := fun z => by have := hD.hl; rw [z, hob0] at this; cases this
      have hpr : r.2.1 ≠ p := fun z => by have := hr0.1; rw [z, hob0] at this; cases this
      have hrl : r.2.1 ≠ D.l := fun z => hD.lr (z ▸ List.mem_map.mpr ⟨r, hm, rfl⟩)
      have hrw : r.2.1 ≠ D.w := fun z => by have := hr0.1; rw [z, hD.hw] at this; cases this
      have hlw : D.l ≠ D.w := fun z => by have := hD.hl; rw [z, hD.hw] at this; cases this
      have hb := hD.kb r hm
      rw [hk] at hb
      have h2w : H2 D.w = _ := (hoth _ hpw).trans hD.hw
      have h2l : H2 D.l = _ := (hoth _ hpl).trans hD.hl
      have h2r : H2 r.2.1 = _ := (hoth _ hpr).trans hr0.1
      walk_at "go"
      refine e_dget ?_
      walk_at "go"
      refine o_fld hob T.k_Disk.cl T.n_Disk__waits (df_w _ _ _ _) ?_
      walk_at "go"
      refine o_dget (k := Sum.inl b) h2w (by rw [val_row, ef]; rfl) ?_
      walk_at "go"
      refine r_pop0 h2r fun H3 o3 h3 => ?_
      obtain ⟨dx, hob⟩ := hob
      have h3p : H3 p = _ := o3 _ _ hpr.symm hob
      have h3l : H3 D.l = _ := o3 _ _ hrl.symm h2l
      have h3w : H3 D.w = _ := o3 _ _ hrw.symm h2w
      walk_at "go"
      refine o_fld ⟨dx, h3p⟩ T.k_Disk.cl T.n_Disk__lies (df_l _ _ _ _) ?_
      walk_at "go"
      refine set_ (j := b.toNat) h3l (ixN_in (by omega) (by rw [List.length_map]; omega)) fun H4 o4 h4 => ?_
      have h4p : H4 p = _ := o4 _ _ hpl.symm h3p
      have h4w : H4 D.w = _ := o4 _ _ hlw.symm h3w
      have h4r : H4 r.2.1 = _ := o4 _ _ hrl h3
      walk_at "go"
      refine ⟨_, rfl, p, T.C_Disk, dx, _, _, rfl, h4p, T.k_Disk.cl, T.n_Disk__reached, df_r _ _ _ _, ?_⟩
      refine ⟨_, _, rfl, rfl, dx, _, h4p, by show 4 < 1000; decide, ?_⟩
      rw [df_pr]
      have h5p : upd H4 p (.ins T.C_Disk dx (df D.l D.w (pwV (D.pw.map (· - 1))) (D.rc + 1))) p = some (.ins T.C_Disk dx (df D.l D.w (pwV (D.pw.map (· - 1))) (D.rc + 1))) := upd_same
      have h5 : ∀ x, x ≠ p → upd H4 p (.ins T.C_Disk dx (df D.l D.w (pwV (D.pw.map (· - 1))) (D.rc + 1))) x = H4 x := fun x hx => upd_ne hx
      generalize upd H4 p (.ins T.C_Disk dx (df D.l D.w (pwV (D.pw.map (· - 1))) (D.rc + 1))) = H5 at *
      have h5r : H5 r.2.1 = _ := (h5 _ hpr).trans h4r
      have h5w : H5 D.w = _ := (h5 _ hpw).trans h4w
      have old : ∀ x o, x ≠ p → x ≠ D.l → x ≠ D.w → x ≠ r.2.1 → H x = some o → H5 x = some o := fun x o n1 n2 n3 n4 q => by
        rw [h5 x n1]; exact o4 _ _ n2 (o3 _ _ n4 ((hoth x n1).trans q))
      have fin := fun (H6 : Hp) (h6 : ∀ x, x ≠ D.w → H6 x = H5 x) (h6w : H6 D.w = some (.dK (kvs_of (gotRows D.rows b as)))) => got_core (H4 := H6) hD v hrow np hm hk ef er ta tas ⟨dx, (h6 p hpw.symm).trans h5p⟩ (by rw [h6 _ hlw, h5 _ hpl, h4, List.map_set]) h6w ((h6 _ hrw).trans h5r) (fun x o n1 n2 n3 n4 q => by rw [h6 x n3]; exact old x o n1 n2 n3 n4 q)
      walk_at "go"
      cases as with
      | nil =>
        walk_at "go"
        refine ⟨_, rfl, p, T.C_Disk, dx, _, _, rfl, h5p, T.k_Disk.cl, T.n_Disk__waits, df_w _ _ _ _, ?_⟩
        refine ⟨_, rfl, D.w, _, Sum.inl b, rfl, h5w, rfl, by rw [val_row, ef]; rfl, ?_⟩
        obtain ⟨g1, g2, g3⟩ := fin (upd H5 D.w (.dK (dropK (kvs_of D.rows) (Sum.inl b)))) (fun x hx => upd_ne hx) (by rw [gotRows_kvs, if_pos rfl]; exact upd_same)
        exact k1 np _ _ g1 g2 g3
      | cons a2 as2 =>
        walk_at "go"
        obtain ⟨g1, g2, g3⟩ := fin H5 (fun x hx => rfl) (by rw [gotRows_kvs, if_neg (by simp)]; exact h5w)
        exact k1 np _ _ g1 g2 g3
end



section
variable {P : Program} {w : World} {K : PySem.W.Frag} {mg : Str → Option Value} {base : Heap}
theorem ok_Disk_reach (T : Txt K mg) : FnOk P w K mg base (L2.CX P w) 4 T.m_Disk_reach.f T.m_Disk_reach.fd ["self", "block"] ((sp_reach1 K T.C_Disk T.e_Stopped.C)) := by
  refine T.m_Disk_reach.F.okX sc_Disk_reach (fun vs H Q E h => ?_) (fun cdv A outer s H vs Q E hr h => ?_)
  · obtain ⟨p, F, S, b, c, cs, rfl, _⟩ := h
    rfl
  · obtain ⟨p, F, S, b, c, cs, rfl, hS, hrow, k0, k1⟩ := h
    refine ⟨_, (pss_cons (ps_expr (pe_meth (pv 0) T.k_Disk.cl T.m_Disk__need_block.i (ok_Disk__need_block T) (hr.mono (by decide)) T.m_Disk__need_block.b .nil pass0 (pa_cons (pv 1) pa_nil)))
    (pss_cons (ps_if (pt_cmp (pc_dnotin (hu_of hr) (pv 1) (peFld (K := K) (pv 0) rfl))) (pss_one ps_never) pss_nil)
    (pss_one (ps_expr (pe_meth (pv 0) T.k_Disk.cl T.m_Disk__reach_one.i (ok_Disk__reach_one T) (hr.mono (by decide)) T.m_Disk__reach_one.b .nil (passes_call (takes_of rfl rfl rfl rfl) (fun _ _ _ _ h => h)) (pa_cons (pv 1) pa_nil)))))), ?_⟩
    obtain ⟨D, hD, eF, v⟩ := id hS
    obtain ⟨r, ef, hm, hk, tu⟩ := v.rv.there (b := b) (by rw [hrow]; simp)
    have hb := hD.kb r hm
    rw [hk] at hb
    walk_at "go"
    refine m_call0 hD.ob (df_no _ _ _ _ (by decide +kernel)) ?_
    walk_at "go"
    refine ⟨p, D, b, rfl, hD, hb.1, hb.2, ?_⟩
    walk_at "go"
    refine o_fld hD.ob T.k_Disk.cl T.n_Disk__waits (df_w _ _ _ _) ?_
    refine ⟨_, _, rfl, DGet.k (k := Sum.inl b) hD.hw, ?_⟩
    rw [show (valV (D.rows.map fun r => ((Sum.inl r.1 : Key), V.ref r.2.1)) (Sum.inl b : Key)).isSome = true by rw [val_row, ef]; rfl]
    walk_at "go"
    refine m_call0 hD.ob (df_no _ _ _ _ (by decide +kernel)) ?_
    walk_at "go"
    refine ⟨p, F, S, b, c, cs, rfl, hS, hrow, k0, fun np H' F' h1 h2 h3 => ?_⟩
    walk_at "go"
    exact k1 np H' F' h1 h2 h3
/-! ### forcing -/
def SD.fB (b : Int) : Nat → SD → SD × Bool
  | 0, S => (S, true)
  | n + 1, S => match S.rows b with
    | [] => (S, true)
    | c :: cs => if S.pw = some 0 then (S, false) else fB b n (S.got b c cs)
def SD.forceB (S : SD) (b : Int) : SD × Bool := SD.fB b (S.rows b).length S
def SD.forceL : List Int → SD → SD × Bool
  | [], S => (S, true)
  | b :: bs, S => if (S.forceB b).2 = true then SD.forceL bs (S.forceB b).1 else ((S.forceB b).1, false)
theorem SD.forceL_cons {S : SD} {b : Int} {bs : List Int} : SD.forceL (b :: bs) S = if (S.forceB b).2 = true then SD.forceL bs (S.forceB b).1 else ((S.forceB b).1, false) := rfl
theorem SD.forceB_nil {S : SD} {b : Int} (h : S.rows b = []) : S.forceB b = (S, true) := by unfold SD.forceB; rw [h]; rfl
theorem SD.forceB_stop {S : SD} {b : Int} {c : Ct} {cs : List Ct} (h : S.rows b = c :: cs) (e : S.pw = some 0) : S.forceB b = (S, false) := by
  unfold SD.forceB
  rw [h, List.length_cons]
  unfold SD.fB
  rw [h]
  exact if_pos e
theorem SD.forceB_got {S : SD} {b : Int} {c : Ct} {cs : List Ct} (h : S.rows b = c :: cs) (e : S.pw ≠ some 0) : S.forceB b = (S.got b c cs).forceB b := by
  have e2 : (S.got b c cs).rows b = cs := if_pos rfl
  unfold SD.forceB
  rw [e2, h, List.length_cons]
  show (match S.rows b with | [] => (S, true) | c' :: cs' => if S.pw = some 0 then (S, false) else SD.fB b cs.length (S.got b c' cs')) = _
  rw [h]
  exact if_neg e
/-- whatever holds at first and is kept by each write that reaches, holds behind a force -/
theorem SD.fB_ind {b : Int} {Pr : SD → Prop} (hs : ∀ S c cs, Pr S → S.rows b = c :: cs → S.pw ≠ some 0 → Pr (S.got b c cs)) : ∀ (n : Nat) (S : SD), Pr S → Pr (SD.fB b n S).1
  | 0, S, h => h
  | n + 1, S, h => by
    unfold SD.fB
    split
    · exact h
    · next c cs e =>
      split
      · exact h
      · next np => exact SD.fB_ind hs n _ (hs S c cs h e np)
theorem SD.forceL_ind {Pr : SD → Prop} (hs : ∀ b S c cs, Pr S → S.rows b = c :: cs → S.pw ≠ some 0 → Pr (S.got b c cs)) : ∀ (l : List Int) (S : SD), Pr S → Pr (SD.forceL l S).1
  | [], S, h => h
  | b :: bs, S, h => by
    have h1 : Pr (S.forceB b).1 := SD.fB_ind (hs b) _ S h
    unfold SD.forceL
    split
    · exact SD.forceL_ind hs bs _ h1
    · exact h1
def sp_force (K : PySem.W.Frag) (C Cs : Addr) : Sp := fun vs H Q E => ∃ p F S a ns, vs = [.ref p, .ref a] ∧ DS K C H p F S ∧ SqT K H a (ns.map V.int) ∧ ns.length ≤ 1000 ∧ lotB ns = true ∧ (∀ n ∈ ns, n < S.lies.length) ∧
  ∀ H' F', DS K C H' p F' (SD.forceL ns S).1 → Ch F H H' → (∀ a ∈ F', a ∈ F ∨ H a = none) → if (SD.forceL ns S).2 = true then Q .non H' else E (.ref Cs) none H'
theorem ok_Disk_force (T : Txt K mg) : FnOk P w K mg base (L2.CX P w) 4 T.m_Disk_force.f T.m_Disk_force.fd ["self", "lot"] ((sp_force K T.C_Disk T.e_Stopped.C)) := by
  refine T.m_Disk_force.F.okX sc_Disk_force (fun vs H Q E h => ?_) (fun cdv A outer s H vs Q E hr h => ?_)
  · obtain ⟨p, F, S, a, ns, rfl, _⟩ := h
    rfl
  · obtain ⟨p, F, S, a, ns, rfl, hS, ht, hl, hlot, hlt, k⟩ := h
    refine ⟨_, (Evl.pss_cut (ps_if (PW.pt (pw_or (pt_not (ptTruth (K := K) (pe_call (ok_is_lot T) (hr.mono (by decide)) (by rfl) T.is_lot.g T.is_lot.F.kp T.is_lot.b .nil pass0 (pa_cons (pv 1) pa_nil)) (by intro _; rfl))) (pw_or1 (PW.pt (pw_and (pt_cmpR op_gt (pe_callB (cLen (K := K)) (by rfl) T.z_len PySem.boot_len (pa_cons (pv 1) pa_nil)) pe_int (nomark _)) (pw_and1 (pt_cmpR op_ge (pe_ix (ixLT (K := K)) (pv 1) (pe_un un_neg pe_int) (fun _ _ => rfl)) (pe_callB (cLen (K := K)) (by rfl) T.z_len PySem.boot_len (pa_cons (peFld (K := K) (pv 0) rfl) pa_nil)) (nomark _)))))))) (pss_one ps_never) pss_nil)
    (pss_one (ps_for (passes_of rfl) rfl (piT (K := K) (pv 1)) (pg_name (i := 2) sc_Disk_force.nd rfl (Or.inl rfl))
      (pss_one (ps_while (passes_of rfl) (pt_cmp (pc_din (hu_of hr) (pv 2) (peFld (K := K) (pv 0) rfl))) (pss_one (ps_expr (pe_meth (pv 0) T.k_Disk.cl T.m_Disk__reach_one.i (ok_Disk__reach_one T) (hr.mono (by decide)) T.m_Disk__reach_one.b .nil (passes_call (takes_of rfl rfl rfl rfl) (fun _ _ _ _ h => h)) (pa_cons (pv 2) pa_nil))))))))), ?_⟩
    obtain ⟨D, hD, eF, v⟩ := id hS
    walk_at "go"
    refine s_cut (fun σ2 H2 => σ2 = [some (.ref p), some (.ref a), none] ∧ Same H H2) ?_ ?_
    · walk_at "go"
      refine ⟨.ref a, some (ns.map V.int), rfl, .tup ht (by rw [List.length_map]; omega) (fun x hx => by
        obtain ⟨i, _, rfl⟩ := List.mem_map.mp hx
        exact .inl rfl), fun H1 s1 => ?_⟩
      rw [show lotO (some (ns.map V.int)) = true by
        show ((ns.map V.int).all isN && ascB ((ns.map V.int).map vInt)) = true
        unfold lotB at hlot
        rw [List.all_map, List.map_map]
        have e : (vInt ∘ V.int) = id := rfl
        rw [e, List.map_id]
        exact hlot]
      have ht1 := st_ s1 ht
      have hD1 := hD.same s1
      walk_at "go"
      refine i_d (fun q1 => ?_) (fun q1 => ?_)
      · walk_at "go"
        have e1 : 0 < ns.length := by omega
        refine o_ixT ht1 (atI_negI e1) ?_
        walk_at "go"
        refine o_fld hD1.ob T.k_Disk.cl T.n_Disk__lies (df_l _ _ _ _) ?_
        have hl1 := slO (K := K) hD1.hl
        walk_at "go"
        have := hlt _ (getD_mem (i := ns.length - 1) (by omega))
        have l2 := v.lv.1
        refine i_df (by omega) ?_
        walk_at "go"
        exact ⟨rfl, s1⟩
      · walk_at "go"
        exact ⟨rfl, s1⟩
    · rintro σ2 H2 ⟨rfl, s2⟩
      walk_at "go"
      have ht2 := st_ s2 ht
      refine i_tup ht2 ?_
      refine l_tup (xs := ns.map V.int) (fun i σ3 H3 => ∃ (y : Option V) (S3 : SD) (F3 : List Addr), σ3 = [some (.ref p), some (.ref a), y] ∧ DS K T.C_Disk H3 p F3 S3 ∧ Ch F H H3 ∧ (∀ x ∈ F3, x ∈ F ∨ H x = none) ∧ SD.forceL (ns.drop i) S3 = SD.forceL ns S) ⟨none, S, F, rfl, hS.same s2, Ch.of_same s2, fun x hx => .inl hx, rfl⟩ (fun i σ3 H3 hi q => ?_) (fun σ3 H3 q => ?_) (fun i x σ3 H3 hx q => ?_)
      · obtain ⟨y, S3, F3, _, _, c3, _, _⟩ := q
        exact c3.st ht
      · obtain ⟨y, S3, F3, rfl, d3, c3, f3, e3⟩ := q
        rw [List.length_map, List.drop_length] at e3
        have e4 : SD.forceL ns S = (S3, true) := e3.symm
        have := k H3 F3 (by rw [e4]; exact d3) c3 f3
        rw [e4] at this
        walk_at "go"
        exact this
      · obtain ⟨y, S3, F3, rfl, d3, c3, f3, e3⟩ := q
        have hi : i < ns.length := by
          have := (List.getElem?_eq_some_iff.mp hx).1
          simpa using this
        have ex : x = .int ns[i] := by
          rw [List.getElem?_map, List.getElem?_eq_getElem hi] at hx
          exact (Option.some.inj hx).symm
        subst ex
        rw [List.drop_eq_getElem_cons hi] at e3
        generalize ns[i] = b at *
        walk_at "go"
        refine while_m (fun m σ4 H4 => ∃ (S4 : SD) (F4 : List Addr), m = (S4.rows b).length ∧ σ4 = [some (.ref p), some (.ref a), some (.int b)] ∧ DS K T.C_Disk H4 p F4 S4 ∧ Ch F H H4 ∧ (∀ x ∈ F4, x ∈ F ∨ H x = none) ∧ S4.forceB b = S3.forceB b) _ ⟨S3, F3, rfl, rfl, d3, c3, f3, rfl⟩ ?_
        rintro m σ4 H4 ⟨S4, F4, rfl, rfl, d4, c4, f4, e4⟩
        obtain ⟨D4, hD4, eF4, v4⟩ := id d4
        walk_at "go"
        refine o_fld hD4.ob T.k_Disk.cl T.n_Disk__waits (df_w _ _ _ _) ?_
        refine ⟨_, _, rfl, DGet.k (k := Sum.inl b) hD4.hw, ?_⟩
        cases er : S4.rows b with
        | nil =>
          have ef : D4.rows.find? (fun r => decide (r.1 = b)) = none := by
            cases q : D4.rows.find? (fun r => decide (r.1 = b)) with
            | none => rfl
            | some r =>
              have tu := v4.rv.som q
              rw [er] at tu
              have := (hD4.hr r (List.mem_of_find?_eq_some q)).2
              exact absurd (List.length_eq_zero_iff.mp tu.1) this
          rw [show (valV (D4.rows.map fun r => ((Sum.inl r.1 : Key), V.ref r.2.1)) (Sum.inl b : Key)).isSome = false by rw [val_row, ef]; rfl]
          walk_at "go"
          refine ⟨_, S4, F4, rfl, d4, c4, f4, ?_⟩
          have z : S3.forceB b = (S4, true) := by rw [← e4, SD.forceB_nil er]
          rw [SD.forceL_cons, z, if_pos rfl] at e3
          exact e3
        | cons c cs =>
          obtain ⟨r, ef, hm, hk, tu⟩ := v4.rv.there (b := b) (by rw [er]; simp)
          rw [show (valV (D4.rows.map fun r => ((Sum.inl r.1 : Key), V.ref r.2.1)) (Sum.inl b : Key)).isSome = true by rw [val_row, ef]; rfl]
          walk_at "go"
          refine ⟨fun σ5 H5 => ∃ (S4 : SD) (F4 : List Addr), cs.length = (S4.rows b).length ∧ σ5 = [some (.ref p), some (.ref a), some (.int b)] ∧ DS K T.C_Disk H5 p F4 S4 ∧ Ch F H H5 ∧ (∀ x ∈ F4, x ∈ F ∨ H x = none) ∧ S4.forceB b = S3.forceB b, fun σ5 H5 q => ⟨cs.length, by simp, q⟩, ?_⟩
          walk_at "go"
          refine m_call0 hD4.ob (df_no _ _ _ _ (by decide +kernel)) ?_
          walk_at "go"
          refine ⟨p, F4, S4, b, c, cs, rfl, d4, er, fun np => ?_, fun np H5 F5 g1 g2 g3 => ?_⟩
          · have z : S3.forceB b = (S4, false) := by rw [← e4, SD.forceB_stop er np]
            rw [SD.forceL_cons, z, if_neg Bool.false_ne_true] at e3
            have e4 : SD.forceL ns S = (S4, false) := e3.symm
            have := k H4 F4 (by rw [e4]; exact d4) c4 f4
            rw [e4] at this
            exact this
          · walk_at "go"
            refine ⟨S4.got b c cs, F5, ?_, rfl, g1, c4.trans g2 f4, fun x hx => f4 x (g3 x hx), by rw [← e4, SD.forceB_got er np]⟩
            show cs.length = (if b = b then cs else S4.rows b).length
            rw [if_pos rfl]
end



section
variable {P : Program} {w : World} {K : PySem.W.Frag} {mg : Str → Option Value} {base : Heap}
theorem len_le_of_sub {α : Type} [DecidableEq α] : ∀ {l L : List α}, l.Nodup → (∀ x ∈ l, x ∈ L) → l.length ≤ L.length
  | [], L, _, _ => Nat.zero_le _
  | a :: l, L, h, s => by
    obtain ⟨h1, h2⟩ := List.nodup_cons.mp h
    have ha := s a (by simp)
    have : l.length ≤ (L.erase a).length := len_le_of_sub h2 fun x hx => by
      have : x ≠ a := fun z => h1 (z ▸ hx)
      exact (List.mem_erase_of_ne this).mpr (s x (List.mem_cons_of_mem _ hx))
    rw [List.length_erase_of_mem ha] at this
    have := List.length_pos_of_mem ha
    simp only [List.length_cons]; omega
theorem asc_ext : ∀ {l m : List Int}, l.Pairwise (· < ·) → m.Pairwise (· < ·) → (∀ x, x ∈ l ↔ x ∈ m) → l = m
  | [], [], _, _, _ => rfl
  | [], b :: m, _, _, h => absurd ((h b).mpr (by simp)) (by simp)
  | a :: l, [], _, _, h => absurd ((h a).mp (by simp)) (by simp)
  | a :: l, b :: m, h1, h2, h => by
    obtain ⟨p1, q1⟩ := List.pairwise_cons.mp h1
    obtain ⟨p2, q2⟩ := List.pairwise_cons.mp h2
    have e : a = b := by
      rcases List.mem_cons.mp ((h a).mp (by simp)) with z | z
      · exact z
      · rcases List.mem_cons.mp ((h b).mpr (by simp)) with y | y
        · exact y.symm
        · have := p2 a z; have := p1 b y; omega
    subst e
    rw [asc_ext q1 q2 fun x => ?_]
    refine ⟨fun z => ?_, fun z => ?_⟩
    · rcases List.mem_cons.mp ((h x).mp (List.mem_cons_of_mem _ z)) with y | y
      · have := p1 x z; omega
      · exact y
    · rcases List.mem_cons.mp ((h x).mpr (List.mem_cons_of_mem _ z)) with y | y
      · have := p2 x z; omega
      · exact y
theorem asc_of {l : List Int} (h1 : l.Pairwise (· ≤ ·)) (h2 : l.Nodup) : l.Pairwise (· < ·) := by
  refine (h1.and h2).imp fun {a b} h => ?_
  have h3 : a ≠ b := h.2
  have := h.1
  omega
theorem lotB_of {ns : List Int} (h0 : ∀ n ∈ ns, 0 ≤ n) (h : ns.Pairwise (· < ·)) : lotB ns = true := by
  unfold lotB
  rw [Bool.and_eq_true]
  refine ⟨List.all_eq_true.mpr fun n hn => decide_eq_true (h0 n hn), ?_⟩
  unfold ascB
  rw [List.all_map]
  refine List.all_eq_true.mpr fun k hk => ?_
  have hk := List.mem_range.mp hk
  show ascF ns k = true
  unfold ascF
  refine decide_eq_true ?_
  rw [List.getD_eq_getElem?_getD, List.getD_eq_getElem?_getD, List.getElem?_eq_getElem (by omega), List.getElem?_eq_getElem (by omega)]
  exact List.pairwise_iff_getElem.mp h k (k + 1) (by omega) (by omega) (by omega)
/-- the blocks for which something waits -/
structure Wt (S : SD) (ns : List Int) : Prop where
  asc : ns.Pairwise (· < ·)
  mem : ∀ b, b ∈ ns ↔ S.rows b ≠ []
theorem Wt.uniq {S : SD} {ns ms : List Int} (a : Wt S ns) (b : Wt S ms) : ns = ms := asc_ext a.asc b.asc fun x => (a.mem x).trans (b.mem x).symm
def Few (S : SD) : Prop := ∃ L : List Int, L.length < 64 ∧ ∀ b, S.rows b ≠ [] → b ∈ L
theorem rows_mem {C p : Addr} {H : Hp} {D : Dsk} {S : SD} (h : DiskAt C H p D) (v : RowsAt K H D.rows S.rows) (b : Int) : b ∈ D.rows.map (·.1) ↔ S.rows b ≠ [] := by
  refine ⟨fun m => ?_, fun n => ?_⟩
  · obtain ⟨r, hr, e⟩ := List.mem_map.mp m
    cases q : D.rows.find? (fun r => decide (r.1 = b)) with
    | none => exact absurd (decide_eq_true e) (List.find?_eq_none.mp q r hr)
    | some r2 =>
      have tu := v.som q
      have n2 := (h.hr r2 (List.mem_of_find?_eq_some q)).2
      intro z
      rw [z] at tu
      exact n2 (List.length_eq_zero_iff.mp tu.1)
  · obtain ⟨r, _, hm, hk, _⟩ := v.there n
    exact List.mem_map.mpr ⟨r, hm, hk⟩
theorem wt_of {C p : Addr} {H : Hp} {D : Dsk} {S : SD} (h : DiskAt C H p D) (v : RowsAt K H D.rows S.rows) {ys : List Int} (p1 : ys.Perm (D.rows.map (·.1))) (p2 : ys.Pairwise (· ≤ ·)) : Wt S ys :=
  ⟨asc_of p2 (p1.nodup_iff.mpr h.kd), fun b => (p1.mem_iff).trans (rows_mem h v b)⟩
theorem few_of {C p : Addr} {H : Hp} {D : Dsk} {S : SD} (h : DiskAt C H p D) (v : RowsAt K H D.rows S.rows) (f : Few S) : (D.rows.map (·.1)).length < 64 := by
  obtain ⟨L, hl, hL⟩ := f
  have := len_le_of_sub h.kd (L := L) fun x hx => hL x ((rows_mem h v x).mp hx)
  omega
def sp_calm (K : PySem.W.Frag) (C Cs : Addr) : Sp := fun vs H Q E => ∃ p F S, vs = [.ref p] ∧ DS K C H p F S ∧ Few S ∧
  ∀ ns, Wt S ns → ∀ H' F', DS K C H' p F' (SD.forceL ns S).1 → Ch F H H' → (∀ a ∈ F', a ∈ F ∨ H a = none) → if (SD.forceL ns S).2 = true then Q .non H' else E (.ref Cs) none H'
theorem ok_Disk_calm (T : Txt K mg) : FnOk P w K mg base (L2.CX P w) 5 T.m_Disk_calm.f T.m_Disk_calm.fd ["self"] ((sp_calm K T.C_Disk T.e_Stopped.C)) := by
  refine T.m_Disk_calm.F.okX sc_Disk_calm (fun vs H Q E h => ?_) (fun cdv A outer s H vs Q E hr h => ?_)
  · obtain ⟨p, F, S, rfl, _⟩ := h
    rfl
  · obtain ⟨p, F, S, rfl, hS, hf, k⟩ := h
    refine ⟨_, (pss_one (ps_expr (pe_meth (pv 0) T.k_Disk.cl T.m_Disk_force.i (ok_Disk_force T) (hr.mono (by decide)) T.m_Disk_force.b .nil (passes_call (takes_of rfl rfl rfl rfl) (fun _ _ _ _ h => h)) (pa_cons (pe_callTy (cTupOf (K := K)) (by rfl) T.z_tuple (by decide +kernel) (pa_cons (pe_callB (call_sortedDI rfl) (by rfl) T.z_sorted (by decide +kernel) (pa_cons (peFld (K := K) (pv 0) rfl) pa_nil)) pa_nil)) pa_nil)))), ?_⟩
    obtain ⟨D, hD, eF, v⟩ := id hS
    walk_at "go"
    refine m_call0 hD.ob (df_no _ _ _ _ (by decide +kernel)) ?_
    walk_at "go"
    refine o_fld hD.ob T.k_Disk.cl T.n_Disk__waits (df_w _ _ _ _) ?_
    walk_at "go"
    have fw := few_of hD v.rv hf
    refine ⟨D.w, _, D.rows.map (·.1), rfl, .inl hD.hw, by rw [List.map_map, List.map_map]; rfl, fw, fun ys l p1 p2 nl => ?_⟩
    have W := wt_of hD v.rv p1 p2
    have s1 : Same H (upd H l (.lst (ys.map V.int))) := Same.new nl
    have hl : upd H l (.lst (ys.map V.int)) l = some (.lst (ys.map V.int)) := upd_same
    generalize upd H l (.lst (ys.map V.int)) = H1 at *
    walk_at "go"
    refine n_new0 fun t H2 n2 s2 h2 => ?_
    walk_at "go"
    have s12 := s1.trans s2
    have yl : ys.length < 64 := by rw [p1.length_eq]; exact fw
    refine ⟨p, F, S, t, ys, rfl, hS.same s12, stO h2, by omega, lotB_of (fun n hn => (v.ok.out n ((W.mem n).mp hn)).1) W.asc, fun n hn => (v.ok.out n ((W.mem n).mp hn)).2, fun H' F' g1 g2 g3 => ?_⟩
    have g4 := k ys W H' F' g1 (Ch.trans (F' := F) (Ch.of_same s12) g2 fun a ha => .inl ha) (fun a ha => (g3 a ha).imp id (free_ s12))
    split
    · next q =>
      rw [if_pos q] at g4
      walk_at "go"
      exact g4
    · next q =>
      rw [if_neg q] at g4
      exact g4
def waitKvs (S : SD) (ns : List Int) : List (Key × V) := ns.map fun b => ((Sum.inl b : Key), V.int ((S.rows b).length : Nat))
def sp_waiting (K : PySem.W.Frag) (C : Addr) : Sp := fun vs H Q E => ∃ p F S, vs = [.ref p] ∧ DS K C H p F S ∧ Few S ∧ (∀ b, (S.rows b).length < 1000) ∧ ∀ ns q H', Wt S ns → Same H H' → H q = none → H' q = some (.dK (waitKvs S ns)) → Q (.ref q) H'
theorem ok_Disk_waiting (T : Txt K mg) : FnOk P w K mg base CX0 1 T.m_Disk_waiting.f T.m_Disk_waiting.fd ["self"] ((sp_waiting K T.C_Disk)) := by
  refine T.m_Disk_waiting.F.ok sc_Disk_waiting (fun vs H Q E h => ?_) (fun cdv A outer s H vs Q E hr h => ?_)
  · obtain ⟨p, F, S, rfl, _⟩ := h
    rfl
  · obtain ⟨p, F, S, rfl, hS, hf, hc, k⟩ := h
    refine ⟨_, (pss_one (ps_ret (pe_dc (own := [("block", 1)]) rfl sc_Disk_waiting.nd (piL (K := K) (pe_callB (call_sortedDI rfl) (by rfl) T.z_sorted (by decide +kernel) (pa_cons (peFld (K := K) (pv 0) rfl) pa_nil))) (blkOk_by (N := n_Disk_waiting) (sc := defScope s_Disk_waiting) (by decide +kernel)) (fun _ _ _ _ _ => (pg_name (i := 1) sc_Disk_waiting.nd rfl (Or.inl rfl))) (fun _ _ _ _ _ => pts_nil) (fun _ _ _ _ _ => (pv 1)) (fun _ _ _ _ _ => (pe_callB (cLen (K := K)) (by rfl) T.z_len PySem.boot_len (pa_cons (pe_dget (hu_of hr) (peFld (K := K) (pv 0) rfl) (pv 1) (fun _ _ => rfl)) pa_nil)))))), ?_⟩
    obtain ⟨D, hD, eF, v⟩ := id hS
    walk_at "go"
    refine o_fld hD.ob T.k_Disk.cl T.n_Disk__waits (df_w _ _ _ _) ?_
    walk_at "go"
    have fw := few_of hD v.rv hf
    refine ⟨D.w, _, D.rows.map (·.1), rfl, .inl hD.hw, by rw [List.map_map, List.map_map]; rfl, fw, fun ys l p1 p2 nl => ?_⟩
    have W := wt_of hD v.rv p1 p2
    have s1 : Same H (upd H l (.lst (ys.map V.int))) := Same.new nl
    have hl : upd H l (.lst (ys.map V.int)) l = some (.lst (ys.map V.int)) := upd_same
    generalize upd H l (.lst (ys.map V.int)) = H1 at *
    have yl : ys.length < 64 := by rw [p1.length_eq]; exact fw
    walk_at "go"
    refine i_lst (slO hl) ?_
    refine d_it (walk_list (xs := ys.map V.int)) (fun i acc H2 => Same H1 H2 ∧ acc = waitKvs S (ys.take i)) (fun q hq => ⟨upd_free (Same.refl _) hq, rfl⟩) (fun i acc H2 hi q => slO (at_ q.1 hl)) (fun acc q H2 nq hq z => ?_) (fun i x acc H2 H3 q hi nq hq z y => ?_)
    · obtain ⟨s2, rfl⟩ := z
      rw [List.length_map, List.take_length] at hq
      walk_at "go"
      exact k ys q H2 W (s1.trans s2) (free_ s1 nq) hq
    · obtain ⟨s2, rfl⟩ := z
      obtain ⟨rfl, hx⟩ := y
      have hi : i < ys.length := by simpa using hi
      have ex : x = .int ys[i] := by
        rw [List.getElem?_map, List.getElem?_eq_getElem hi] at hx
        exact (Option.some.inj hx).symm
      subst ex
      have hn := (W.mem ys[i]).mp (List.getElem_mem hi)
      have hD2 := hD.same (s1.trans s2)
      obtain ⟨r, ef, hm, hk, tu⟩ := v.rv.there hn
      have hr2 := hD2.hr r hm
      refine ⟨rfl, ?_⟩
      walk_at "go"
      refine e_dget ?_
      walk_at "go"
      refine o_fld hD2.ob T.k_Disk.cl T.n_Disk__waits (df_w _ _ _ _) ?_
      walk_at "go"
      refine o_dget (k := Sum.inl ys[i]) hD2.hw (by rw [val_row, ef]; rfl) ?_
      have hsl := slO (K := K) hr2.1
      walk_at "go"
      refine dgot_ (k := Sum.inl ys[i]) (P := fun acc H => Same H1 H ∧ acc = waitKvs S (ys.take (i + 1))) hq (by unfold waitKvs; rw [List.length_map, List.length_take]; omega) ⟨upd_free s2 nq, ?_⟩
      rw [putK_new]
      · unfold waitKvs
        rw [List.take_add_one, List.getElem?_eq_getElem hi, List.map_append, tu.1]
        rfl
      · unfold waitKvs valV
        rw [List.find?_map, Option.map_map]
        have e0 : (List.take i ys).find? ((fun kv : Key × V => decide (kv.1 = Sum.inl ys[i])) ∘ fun b => ((Sum.inl b : Key), V.int ((S.rows b).length : Nat))) = none := by
          refine List.find?_eq_none.mpr fun b hb z => ?_
          have e1 : b = ys[i] := Sum.inl.inj (of_decide_eq_true z)
          obtain ⟨j, hj, e2⟩ := List.getElem_of_mem hb
          rw [List.length_take] at hj
          rw [List.getElem_take] at e2
          have := List.pairwise_iff_getElem.mp W.asc j i (by omega) hi (by omega)
          omega
        rw [e0]; rfl
end



section
variable {P : Program} {w : World} {K : PySem.W.Frag} {mg : Str → Option Value} {base : Heap}
/-! ### the kinds of a log's blocks -/
def sp_is_ring_size (K : PySem.W.Frag) : Sp := fun vs H Q _ => ∃ r b, vs = [r, .int b] ∧ Od K H r ∧ Q (.bl (within r 4 (b - 8))) H
theorem ok_is_ring_size (T : Txt K mg) : FnOk P w K mg base CX0 3 T.is_ring_size.f T.is_ring_size.fd ["ring", "blocks"] (sp_is_ring_size K) := by
  refine T.is_ring_size.F.ok sc_is_ring_size (fun vs H Q E h => ?_) (fun cdv A outer s H vs Q E hr h => ?_)
  · obtain ⟨r, b, rfl, _⟩ := h
    rfl
  · obtain ⟨r, b, rfl, hr0, k⟩ := h
    refine ⟨_, (pss_one (ps_ret (pe_call (ok_is_within T) (hr.mono (by decide)) (by rfl) T.is_within.g T.is_within.F.kp T.is_within.b .nil pass0 (pa_cons (pv 0) (pa_cons (pe_glob (by rfl) T.c_LEAST_RING.h T.c_LEAST_RING.r) (pa_cons (pe_op op_sub (pv 1) (pe_glob (by rfl) T.c_OTHER_BLOCKS.h T.c_OTHER_BLOCKS.r)) pa_nil)))))), ?_⟩
    walk_at "go"
    exact ⟨_, _, _, rfl, hr0, k⟩
/-- a master's content: epoch, ring, k, number, first -/
structure Mst where
  e : Nat
  r : Nat
  k : Nat
  m : Nat
  f : Nat
def Mst.ct (M : Mst) : List V := [.str "master", .int M.e, .int M.r, .int M.k, .int M.m, .int M.f]
/-- whether items are a master on a disk of so many blocks -/
def masterB : List V → Int → Bool
  | [x0, x1, x2, x3, x4, x5], b => decide (x0 = V.str "master") && ([x1, x2, x3, x4, x5].all isN && within x2 4 (b - 8))
  | _, _ => false
theorem mst_is {M : Mst} {b : Int} (h4 : 4 ≤ M.r) (h8 : (M.r : Int) ≤ b - 8) : masterB (Mst.ct M) b = true := by
  have e : masterB (Mst.ct M) b = (decide (V.str "master" = V.str "master") && ([V.int M.e, V.int M.r, V.int M.k, V.int M.m, V.int M.f].all isN && within (V.int M.r) 4 (b - 8))) := rfl
  rw [e, decide_eq_true rfl]
  simp [isN, within]
  omega
theorem mst_not {xs : List V} {b : Int} (h : xs.length ≠ 6) : masterB xs b = false := by
  match xs, h with
  | [], _ => rfl
  | [_], _ => rfl
  | [_, _], _ => rfl
  | [_, _, _], _ => rfl
  | [_, _, _, _], _ => rfl
  | [_, _, _, _, _], _ => rfl
  | [_, _, _, _, _, _], h => exact absurd rfl h
  | _ :: _ :: _ :: _ :: _ :: _ :: _ :: _, _ => rfl
theorem item_or {x : V} (h : itemB x = true) : (∃ i, x = .int i) ∨ ∃ z, x = .str z := by
  cases x with
  | int i => exact .inl ⟨i, rfl⟩
  | str z => exact .inr ⟨z, rfl⟩
  | _ => exfalso; unfold itemB at h; simp [within] at h
theorem o_neItem {x : V} {z : Str} {r' : R2} {H : Hp} {Q : VK} (h : itemB x = true) (q : Q (.bl (decide (x ≠ V.str z))) H) : rOr rNe r' x (.str z) H Q := by
  refine .inl ⟨?_, ?_⟩
  · rcases item_or h with ⟨i, rfl⟩ | ⟨y, rfl⟩ <;> rfl
  · have e : (!decide (x = V.str z)) = decide (x ≠ V.str z) := by
      by_cases p : x = V.str z
      · rw [decide_eq_true p, decide_eq_false (fun n => n p)]; rfl
      · rw [decide_eq_false p, decide_eq_true p]; rfl
    rw [e]; exact q
theorem item_sm {x : V} (h : itemB x = true) : smallV x = true := by
  cases x with
  | str z =>
    unfold itemB at h
    have h : (wordB z || false) = true := h
    rw [Bool.or_false] at h
    unfold wordB at h
    rw [Bool.and_eq_true] at h
    have := of_decide_eq_true h.1
    exact decide_eq_true (by omega)
  | int i => rfl
  | non => rfl
  | bl b => rfl
  | _ => cases h
def sp_is_master (K : PySem.W.Frag) : Sp := fun vs H Q _ => ∃ a xs b, vs = [.ref a, .int b] ∧ SqT K H a xs ∧ xs.length ≤ 1000 ∧ (∀ x ∈ xs, itemB x = true) ∧ ∀ H', Same H H' → Q (.bl (masterB xs b)) H'
theorem ok_is_master (T : Txt K mg) : FnOk P w K mg base CX0 4 T.is_master.f T.is_master.fd ["content", "blocks"] (sp_is_master K) := by
  refine T.is_master.F.ok sc_is_master (fun vs H Q E h => ?_) (fun cdv A outer s H vs Q E hr h => ?_)
  · obtain ⟨a, xs, b, rfl, _⟩ := h
    rfl
  · obtain ⟨a, xs, b, rfl, hS, hl, hit, k⟩ := h
    refine ⟨_, (pss_cons (ps_if (PW.pt (pw_or (pt_cmpR (oNe (K := K) hr.units) (pe_callB (cLen (K := K)) (by rfl) T.z_len PySem.boot_len (pa_cons (pv 0) pa_nil)) pe_int (nomark _)) (pw_or1 (pt_cmpR (oNe (K := K) hr.units) (pe_ix (ixLT (K := K)) (pv 0) pe_int (fun _ _ => rfl)) (pe_glob (by rfl) T.c_MASTER.h T.c_MASTER.r) (nomark _))))) (pss_one (ps_ret pe_bl)) pss_nil)
    (pss_one (ps_ret (pe_and (pe_callB (cAll (K := K) rfl) (by rfl) T.z_all (by decide +kernel) (pa_cons (pe_lc (own := [("item", 2)]) rfl sc_is_master.nd (piT (K := K) (pe_slice (slT (K := K)) (pv 0) (po_some pe_int) po_none)) (blkOk_by (N := n_is_master) (sc := defScope s_is_master) (by decide +kernel)) (fun _ _ _ _ _ => (pg_name (i := 2) sc_is_master.nd rfl (Or.inl rfl))) (fun _ _ _ _ _ => pts_nil) (fun _ _ _ _ _ => (pe_call (ok_is_number T) (hr.mono (by decide)) (by rfl) T.is_number.g T.is_number.F.kp T.is_number.b .nil pass0 (pa_cons (pv 2) pa_nil)))) pa_nil)) (pe_one (pe_call (ok_is_ring_size T) (hr.mono (by decide)) (by rfl) T.is_ring_size.g T.is_ring_size.F.kp T.is_ring_size.b .nil pass0 (pa_cons (pe_ix (ixLT (K := K)) (pv 0) pe_int (fun _ _ => rfl)) (pa_cons (pv 1) pa_nil)))))))), ?_⟩
    by_cases h6 : xs.length = 6
    rotate_left 1
    · rw [mst_not h6] at k
      walk_at "go"
      exact k _ (Same.refl _)
    obtain ⟨x0, x1, x2, x3, x4, x5, rfl⟩ : ∃ x0 x1 x2 x3 x4 x5, xs = [x0, x1, x2, x3, x4, x5] := by
      match xs, h6 with
      | [x0, x1, x2, x3, x4, x5], _ => exact ⟨x0, x1, x2, x3, x4, x5, rfl⟩
    have k : ∀ H', Same H H' → Q (.bl (decide (x0 = V.str "master") && ([x1, x2, x3, x4, x5].all isN && within x2 4 (b - 8)))) H' := k
    walk_at "go"
    refine o_neItem (hit x0 (by simp)) ?_
    walk_at "go"
    refine i_d (fun q => ?_) (fun q => ?_)
    · rw [decide_eq_false q, Bool.false_and] at k
      walk_at "go"
      exact k _ (Same.refl _)
    rw [decide_eq_true (Decidable.not_not.mp q), Bool.true_and] at k
    walk_at "go"
    refine r_slT hS fun c H1 s1 hc => ?_
    have ey : cutV [x0, x1, x2, x3, x4, x5] (some 1) none = [x1, x2, x3, x4, x5] := cut_from (i := 1)
    rw [ey] at hc
    refine i_tup hc ?_
    refine c_tup (xs := [x1, x2, x3, x4, x5]) (fun i acc H2 => Same H1 H2 ∧ acc = (([x1, x2, x3, x4, x5].take i).map isN).map V.bl) (fun D hD => ⟨upd_free (Same.refl _) hD, rfl⟩) (fun i acc H2 hi p => st_ p.1 hc) (fun acc D H2 hD hp p => ?_) (fun _ => rfl) (fun i x acc H2 D hx hD hp p => ?_)
    · obtain ⟨p1, rfl⟩ := p
      have hS2 : SqT K H2 a [x0, x1, x2, x3, x4, x5] := st_ (s1.trans p1) hS
      walk_at "go"
      refine e_allB hp ?_
      have e0 : (List.map isN (List.take [x1, x2, x3, x4, x5].length [x1, x2, x3, x4, x5])).all id = [x1, x2, x3, x4, x5].all isN := by
        rw [List.take_length, List.all_map]; rfl
      rw [e0]
      cases e1 : [x1, x2, x3, x4, x5].all isN with
      | false =>
        rw [e1, Bool.false_and] at k
        walk_at "go"
        exact k _ (s1.trans p1)
      | true =>
        rw [e1, Bool.true_and] at k
        walk_at "go"
        refine ⟨_, _, rfl, .inl (small_plain (item_sm (hit x2 (by simp)))), ?_⟩
        exact k _ (s1.trans p1)
    · obtain ⟨p1, rfl⟩ := p
      have hi := (List.getElem?_eq_some_iff.mp hx).1
      have hpl : plainV x = true := small_plain (item_sm (hit x (List.mem_cons_of_mem _ (List.mem_of_getElem? hx))))
      walk_at "go"
      refine ⟨x, rfl, .inl hpl, ?_⟩
      refine ⟨_, hp, lt_size (by simp only [List.length_map, List.length_take, List.length_cons, List.length_nil] at hi ⊢; omega), _, upd_same, upd_free p1 hD, ?_⟩
      rw [List.take_add_one, hx, List.map_append, List.map_append]; rfl
/-- the content of a block that was written as a piece -/
structure Pc where
  k : Nat
  e : Nat
  r : Nat
  l : Nat
  xs : List V
def Pc.ct (p : Pc) : List V := .int p.k :: .int p.e :: .int p.r :: .int p.l :: p.xs
def octs : Option Pc → List V
  | none => []
  | some p => p.ct
def pieceB (o : Option Pc) (k : Int) : Bool := match o with
  | none => false
  | some p => decide ((p.k : Int) = k)
def sp_is_piece (K : PySem.W.Frag) : Sp := fun vs H Q _ => ∃ (a : Addr) (o : Option Pc) (k : Int), vs = [.ref a, .int k] ∧ SqT K H a (octs o) ∧ (∀ p, o = some p → p.xs ≠ []) ∧ (octs o).length ≤ 1000 ∧
  ∀ H', Same H H' → Q (.bl (pieceB o k)) H'
theorem ok_is_piece (T : Txt K mg) : FnOk P w K mg base CX0 3 T.is_piece.f T.is_piece.fd ["content", "k"] (sp_is_piece K) := by
  refine T.is_piece.F.ok sc_is_piece (fun vs H Q E h => ?_) (fun cdv A outer s H vs Q E hr h => ?_)
  · obtain ⟨a, o, n, rfl, _⟩ := h
    rfl
  · obtain ⟨a, o, n, rfl, hS, hne, hl, k⟩ := h
    refine ⟨_, (pss_one (ps_ret (pe_and (pe_cmpR op_gt (pe_callB (cLen (K := K)) (by rfl) T.z_len PySem.boot_len (pa_cons (pv 0) pa_nil)) (pe_glob (by rfl) T.c_HEAD.h T.c_HEAD.r) (nomark _)) (pe_and (pe_callB (cAll (K := K) rfl) (by rfl) T.z_all (by decide +kernel) (pa_cons (pe_lc (own := [("item", 2)]) rfl sc_is_piece.nd (piT (K := K) (pe_slice (slT (K := K)) (pv 0) po_none (po_some (pe_glob (by rfl) T.c_HEAD.h T.c_HEAD.r)))) (blkOk_by (N := n_is_piece) (sc := defScope s_is_piece) (by decide +kernel)) (fun _ _ _ _ _ => (pg_name (i := 2) sc_is_piece.nd rfl (Or.inl rfl))) (fun _ _ _ _ _ => pts_nil) (fun _ _ _ _ _ => (pe_call (ok_is_number T) (hr.mono (by decide)) (by rfl) T.is_number.g T.is_number.F.kp T.is_number.b .nil pass0 (pa_cons (pv 2) pa_nil)))) pa_nil)) (pe_one (pe_cmpR (oEq (K := K) hr.units) (pe_ix (ixLT (K := K)) (pv 0) pe_int (fun _ _ => rfl)) (pv 1) (nomark _))))))), ?_⟩
    cases o with
    | none =>
      have hS' : SqT K H a [] := hS
      walk_at "go"
      exact k _ (Same.refl _)
    | some p =>
      have h0 := List.length_pos_iff.mpr (hne p rfl)
      have el : (octs (some p)).length = p.xs.length + 4 := rfl
      walk_at "go"
      refine r_slT hS fun c H1 s1 hc => ?_
      have ey : cutV (octs (some p)) none (some 4) = [V.int p.k, V.int p.e, V.int p.r, V.int p.l] := cut_to (j := 4)
      rw [ey] at hc
      refine i_tup hc ?_
      refine c_tup (xs := [V.int p.k, V.int p.e, V.int p.r, V.int p.l]) (fun i acc H2 => Same H1 H2 ∧ acc = (([V.int p.k, V.int p.e, V.int p.r, V.int p.l].take i).map isN).map V.bl) (fun D hD => ⟨upd_free (Same.refl _) hD, rfl⟩) (fun i acc H2 hi p => st_ p.1 hc) (fun acc D H2 hD hp p1 => ?_) (fun _ => rfl) (fun i x acc H2 D hx hD hp p1 => ?_)
      · obtain ⟨p1, rfl⟩ := p1
        have hS2 := st_ (s1.trans p1) hS
        walk_at "go"
        refine e_allB hp ?_
        have e0 : (List.map isN (List.take [V.int p.k, V.int p.e, V.int p.r, V.int p.l].length [V.int p.k, V.int p.e, V.int p.r, V.int p.l])).all id = true := by
          simp [isN]
        rw [e0]
        walk_at "go"
        refine o_ixT hS2 (atI_in (j := 0) rfl rfl) ?_
        walk_at "go"
        exact k _ (s1.trans p1)
      · obtain ⟨p1, rfl⟩ := p1
        have hi := (List.getElem?_eq_some_iff.mp hx).1
        have hn : isI x = true := by
          have m := List.mem_of_getElem? hx
          simp only [List.mem_cons, List.not_mem_nil, or_false] at m
          rcases m with rfl | rfl | rfl | rfl <;> rfl
        have hpl : plainV x = true := by cases x <;> first | rfl | cases hn
        walk_at "go"
        refine ⟨x, rfl, .inl hpl, ?_⟩
        refine ⟨_, hp, lt_size (by simp only [List.length_map, List.length_take, List.length_cons, List.length_nil] at hi ⊢; omega), _, upd_same, upd_free p1 hD, ?_⟩
        rw [List.take_add_one, hx, List.map_append, List.map_append]; rfl
def beginsB (M : Mst) (p : Pc) : Bool := decide (p.r = M.m) && decide (M.f ≤ p.e)
def sp_begins (K : PySem.W.Frag) : Sp := fun vs H Q _ => ∃ a b M p, vs = [.ref a, .ref b] ∧ SqT K H a (Mst.ct M) ∧ SqT K H b (Pc.ct p) ∧ Q (.bl (beginsB M p)) H
theorem ok_begins (T : Txt K mg) : FnOk P w K mg base CX0 1 T.begins.f T.begins.fd ["master", "content"] (sp_begins K) := by
  refine T.begins.F.ok sc_begins (fun vs H Q E h => ?_) (fun cdv A outer s H vs Q E hr h => ?_)
  · obtain ⟨a, b, M, p, rfl, _⟩ := h
    rfl
  · obtain ⟨a, b, M, p, rfl, hA, hB, k⟩ := h
    refine ⟨_, (pss_one (ps_ret (pe_and (pe_cmpR (oEq (K := K) hr.units) (pe_ix (ixLT (K := K)) (pv 1) pe_int (fun _ _ => rfl)) (pe_ix (ixLT (K := K)) (pv 0) pe_int (fun _ _ => rfl)) (nomark _)) (pe_one (pe_cmpR op_ge (pe_ix (ixLT (K := K)) (pv 1) pe_int (fun _ _ => rfl)) (pe_ix (ixLT (K := K)) (pv 0) pe_int (fun _ _ => rfl)) (nomark _)))))), ?_⟩
    have hA' : SqT K H a [.str "master", .int M.e, .int M.r, .int M.k, .int M.m, .int M.f] := hA
    have hB' : SqT K H b (.int p.k :: .int p.e :: .int p.r :: .int p.l :: p.xs) := hB
    walk_at "go"
    refine o_ixT hB' (atI_in (j := 2) rfl rfl) ?_
    walk_at "go"
    have e1 : decide ((p.r : Int) = (M.m : Int)) = decide (p.r = M.m) := decide_eq_decide.mpr (by omega)
    rw [e1]
    unfold beginsB at k
    cases e2 : decide (p.r = M.m) with
    | false =>
      rw [e2] at k
      walk_at "go"
      exact k
    | true =>
      rw [e2] at k
      walk_at "go"
      refine o_ixT hB' (atI_in (j := 1) rfl rfl) ?_
      walk_at "go"
      rw [show decide ((p.e : Int) ≥ (M.f : Int)) = decide (M.f ≤ p.e) from decide_eq_decide.mpr (by omega)]
      exact k
def goesB (p q : Pc) : Bool := if p.l = 0 then decide (q.r = p.r + 1) && decide (p.e ≤ q.e) else decide (q.r = p.r) && (decide (q.l + 1 = p.l) && decide (q.e = p.e))
def sp_goes_on (K : PySem.W.Frag) : Sp := fun vs H Q _ => ∃ a b p q, vs = [.ref a, .ref b] ∧ SqT K H a (Pc.ct p) ∧ SqT K H b (Pc.ct q) ∧ ∀ H', Same H H' → Q (.bl (goesB p q)) H'
theorem ok_goes_on (T : Txt K mg) : FnOk P w K mg base CX0 1 T.goes_on.f T.goes_on.fd ["ahead", "content"] (sp_goes_on K) := by
  refine T.goes_on.F.ok sc_goes_on (fun vs H Q E h => ?_) (fun cdv A outer s H vs Q E hr h => ?_)
  · obtain ⟨a, b, p, q, rfl, _⟩ := h
    rfl
  · obtain ⟨a, b, p, q, rfl, hA, hB, k⟩ := h
    refine ⟨_, (pss_cons (ps_asg (pe_slice (slT (K := K)) (pv 1) po_none (po_some (pe_glob (by rfl) T.c_HEAD.h T.c_HEAD.r))) (pgTup (K := K) (n := 4) (pg_tup (n := 4) rfl (pgs_cons (pg_name (i := 2) sc_goes_on.nd rfl (Or.inl rfl)) (pgs_cons (pg_name (i := 3) sc_goes_on.nd rfl (Or.inl rfl)) (pgs_cons (pg_name (i := 4) sc_goes_on.nd rfl (Or.inl rfl)) (pgs_cons (pg_name (i := 5) sc_goes_on.nd rfl (Or.inl rfl)) pgs_nil)))))))
    (pss_cons (ps_if (pt_cmpR (oEq (K := K) hr.units) (pe_ix (ixLT (K := K)) (pv 0) pe_int (fun _ _ => rfl)) pe_int (nomark _)) (pss_one (ps_ret (pe_and (pe_cmpR (oEq (K := K) hr.units) (pv 4) (pe_op oAdd (pe_ix (ixLT (K := K)) (pv 0) pe_int (fun _ _ => rfl)) pe_int) (nomark _)) (pe_one (pe_cmpR op_ge (pv 3) (pe_ix (ixLT (K := K)) (pv 0) pe_int (fun _ _ => rfl)) (nomark _)))))) pss_nil)
    (pss_one (ps_ret (pe_and (pe_cmpR (oEq (K := K) hr.units) (pv 4) (pe_ix (ixLT (K := K)) (pv 0) pe_int (fun _ _ => rfl)) (nomark _)) (pe_and (pe_cmpR (oEq (K := K) hr.units) (pv 5) (pe_op op_sub (pe_ix (ixLT (K := K)) (pv 0) pe_int (fun _ _ => rfl)) pe_int) (nomark _)) (pe_one (pe_cmpR (oEq (K := K) hr.units) (pv 3) (pe_ix (ixLT (K := K)) (pv 0) pe_int (fun _ _ => rfl)) (nomark _))))))))), ?_⟩
    walk_at "go"
    refine r_slT hB fun c H1 s1 hc => ?_
    have ey : cutV (Pc.ct q) none (some 4) = [V.int q.k, V.int q.e, V.int q.r, V.int q.l] := cut_to (j := 4)
    rw [ey] at hc
    have hA1 := st_ s1 hA
    have ei : ∀ (j : Nat) (v : V), (Pc.ct p)[j]? = some v → atI (Pc.ct p) (j : Int) = some v := fun j v e => atI_in rfl e
    refine ⟨c, _, rfl, hc, rfl, _, _, rfl, _, _, rfl, _, _, rfl, _, _, rfl, rfl, ?_⟩
    walk_at "go"
    refine o_ixT hA1 (ei 3 _ rfl) ?_
    walk_at "go"
    unfold goesB at k
    refine i_d (fun z => ?_) (fun z => ?_)
    · rw [if_pos (by omega)] at k
      walk_at "go"
      refine o_ixT hA1 (ei 2 _ rfl) ?_
      walk_at "go"
      rw [show decide ((q.r : Int) = (p.r : Int) + 1) = decide (q.r = p.r + 1) from decide_eq_decide.mpr (by omega)]
      cases e2 : decide (q.r = p.r + 1) with
      | false =>
        rw [e2] at k
        walk_at "go"
        exact k _ s1
      | true =>
        rw [e2] at k
        walk_at "go"
        refine o_ixT hA1 (ei 1 _ rfl) ?_
        walk_at "go"
        rw [show decide ((p.e : Int) ≤ (q.e : Int)) = decide (p.e ≤ q.e) from decide_eq_decide.mpr (by omega)]
        exact k _ s1
    · rw [if_neg (by omega)] at k
      walk_at "go"
      refine o_ixT hA1 (ei 2 _ rfl) ?_
      walk_at "go"
      rw [show decide ((q.r : Int) = (p.r : Int)) = decide (q.r = p.r) from decide_eq_decide.mpr (by omega)]
      cases e2 : decide (q.r = p.r) with
      | false =>
        rw [e2] at k
        walk_at "go"
        exact k _ s1
      | true =>
        rw [e2] at k
        walk_at "go"
        refine o_ixT hA1 (ei 3 _ rfl) ?_
        walk_at "go"
        rw [show decide ((q.l : Int) = (p.l : Int) - 1) = decide (q.l + 1 = p.l) from decide_eq_decide.mpr (by omega)]
        cases e3 : decide (q.l + 1 = p.l) with
        | false =>
          rw [e3] at k
          walk_at "go"
          exact k _ s1
        | true =>
          rw [e3] at k
          walk_at "go"
          refine o_ixT hA1 (ei 1 _ rfl) ?_
          walk_at "go"
          rw [show decide ((q.e : Int) = (p.e : Int)) = decide (q.e = p.e) from decide_eq_decide.mpr (by omega)]
          exact k _ s1
end



section
variable {P : Program} {w : World} {K : PySem.W.Frag} {mg : Str → Option Value} {base : Heap}
theorem c_rg3 {tt : TT} {te : TE} {vs : List Nat} {σ : L2.St} {H1 : Hp} {Q : VK} {j : Nat} {lo c : Int} {n : Nat} (Pv : Nat → List V → Hp → Prop) (h0 : ∀ D, H1 D = none → Pv 0 [] (upd H1 D (.lst []))) (hd : ∀ acc D H, H1 D = none → H D = some (.lst acc) → Pv n acc H → Q (.ref D) H) (hw : ∀ x, wipe ((wipe σ vs).set j x) vs = wipe σ vs)
    (hs : ∀ (i : Nat) acc H D, i < n → H1 D = none → H D = some (.lst acc) → Pv i acc H → tt ((wipe σ vs).set j (some (.int (lo + (i : Nat) * c)))) H fun b H3 =>
      if b = true then te ((wipe σ vs).set j (some (.int (lo + (i : Nat) * c)))) H3 fun y H4 => ∃ acc, H4 D = some (.lst acc) ∧ acc.length < sizeLine ∧ ∃ acc2, (upd H4 D (.lst (acc ++ [y]))) D = some (.lst acc2) ∧ Pv (i + 1) acc2 (upd H4 D (.lst (acc ++ [y]))) else ∃ acc2, H3 D = some (.lst acc2) ∧ Pv (i + 1) acc2 H3) :
    LQ (Itc lo c n) (gName j) tt te vs σ H1 Q := c_it walk_rangeC Pv h0 (fun _ _ _ _ _ => trivial) hd fun i x acc H H' D hi hD hp p y => by
  obtain ⟨rfl, rfl⟩ := y
  exact ⟨hw _, hs i acc _ D hi hD hp p⟩
/-! ### a record's pieces -/
def cutN (xs : List V) : Nat := (xs.length + 35) / 36
def cutAt (xs : List V) (i : Nat) : Ct := (xs.drop (36 * i)).take 36
def cutUp (xs : List V) : List Ct := (List.range (cutN xs)).map (cutAt xs)
theorem cutUp_length {xs : List V} : (cutUp xs).length = cutN xs := by unfold cutUp; rw [List.length_map, List.length_range]
theorem TupsAt.same {H H' : Hp} {cs : List Addr} {xss : List Ct} (h : TupsAt K H cs xss) (s : Same H H') : TupsAt K H' cs xss := h.ch (F := []) (Ch.of_same s)
def sp_cut (K : PySem.W.Frag) : Sp := fun vs H Q _ => ∃ a xs, vs = [.ref a] ∧ SqT K H a xs ∧ xs.length ≤ 30000 ∧ ∀ D cs H', Same H H' → H D = none → H' D = some (.lst (cs.map V.ref)) → TupsAt K H' cs (cutUp xs) → Q (.ref D) H'
theorem ok_pieces_of (T : Txt K mg) : FnOk P w K mg base CX0 1 T.pieces_of.f T.pieces_of.fd ["record"] ((sp_cut K)) := by
  refine T.pieces_of.F.ok sc_pieces_of (fun vs H Q E h => ?_) (fun cdv A outer s H vs Q E hr h => ?_)
  · obtain ⟨a, xs, rfl, _⟩ := h
    rfl
  · obtain ⟨a, xs, rfl, hS, hl, k⟩ := h
    refine ⟨_, (pss_one (ps_ret (pe_lc (own := [("k", 1)]) rfl sc_pieces_of.nd (pi_range3 (by rfl) T.z_range (pa_cons pe_int (pa_cons (pe_callB (cLen (K := K)) (by rfl) T.z_len PySem.boot_len (pa_cons (pv 0) pa_nil)) (pa_cons (pe_glob (by rfl) T.c_PIECE.h T.c_PIECE.r) pa_nil)))) (blkOk_by (N := n_pieces_of) (sc := defScope s_pieces_of) (by decide +kernel)) (fun _ _ _ _ _ => (pg_name (i := 1) sc_pieces_of.nd rfl (Or.inl rfl))) (fun _ _ _ _ _ => pts_nil) (fun _ _ _ _ _ => (pe_slice (slT (K := K)) (pv 0) (po_some (pv 1)) (po_some (pe_op oAdd (pv 1) (pe_glob (by rfl) T.c_PIECE.h T.c_PIECE.r)))))))), ?_⟩
    walk_at "go"
    refine i_rng3 ?_
    walk_at "go"
    refine i_rg3 (rgc36 (by omega)) ?_
    refine c_rg3 (fun i acc H1 => Same H H1 ∧ ∃ cs, acc = cs.map V.ref ∧ TupsAt K H1 cs ((List.range i).map (cutAt xs))) (fun D hD => ⟨upd_free (Same.refl _) hD, [], rfl, TupsAt.nil⟩) (fun acc D H1 hD hp p => ?_) (fun _ => rfl) (fun i acc H1 D hi hD hp p => ?_)
    · obtain ⟨p1, cs, rfl, p3⟩ := p
      exact k D cs H1 p1 hD hp p3
    · obtain ⟨p1, cs, rfl, p3⟩ := p
      have hS1 := st_ p1 hS
      walk_at "go"
      refine r_slT hS1 fun c H2 s2 hc => ?_
      have ey : cutV xs (some (0 + (i : Int) * 36)) (some (0 + (i : Int) * 36 + 36)) = cutAt xs i := by
        rw [show (0 + (i : Int) * 36) = ((36 * i : Nat) : Int) by omega, show (((36 * i : Nat) : Int) + 36) = ((36 * i + 36 : Nat) : Int) by omega, cut_nat]
        unfold cutAt
        rw [show 36 * i + 36 - 36 * i = 36 by omega]
      rw [ey] at hc
      have hl2 : cs.length = i := by rw [p3.1]; simp
      have hd2 := s2 _ _ hp
      refine ⟨_, hd2, lt_size (by rw [List.length_map]; omega), _, upd_same, upd_free (p1.trans s2) hD, cs ++ [c], by rw [List.map_append]; rfl, ?_⟩
      rw [List.range_succ, List.map_append]
      exact ((p3.same s2).snoc hc).ch (F := [D]) (Ch.upd1 (by simp) fun o e => by rw [hd2] at e; cases e; rfl)
end



section
variable {P : Program} {w : World} {K : PySem.W.Frag} {mg : Str → Option Value} {base : Heap}
abbrev Rw := List (Int × Addr × List Addr)
/-! ### the disk's other deeds, as data -/
def SD.shows (S : SD) (b : Int) : Option Ct := if S.rows b = [] then S.lies[b.toNat]? else (S.rows b)[(S.rows b).length - 1]?
theorem shows_at {H : Hp} {D : Dsk} {S : SD} (v : Sees K H D S) (hr : ∀ r ∈ D.rows, r.2.2 ≠ []) {b : Int} (h0 : 0 ≤ b) (h1 : b < S.lies.length) : ∃ c xs, D.shows b = some c ∧ S.shows b = some xs ∧ SqT K H c xs ∧ CtOk xs := by
  unfold Dsk.shows Dsk.row SD.shows
  cases e : D.rows.find? fun r => decide (r.1 = b) with
  | none =>
    rw [v.rv.non e, if_pos rfl]
    have hl : b.toNat < S.lies.length := by omega
    obtain ⟨d, e1, e2⟩ := v.lv.get (List.getElem?_eq_getElem hl)
    exact ⟨d, _, e1, List.getElem?_eq_getElem hl, e2, v.ok.cl _ (List.getElem_mem hl)⟩
  | some r =>
    have tu := v.rv.som e
    have ne := hr r (List.mem_of_find?_eq_some e)
    have nz : S.rows b ≠ [] := fun z => by
      rw [z] at tu
      exact ne (List.length_eq_zero_iff.mp tu.1)
    rw [if_neg nz]
    have pos := List.length_pos_iff.mpr nz
    have hl : (S.rows b).length - 1 < (S.rows b).length := by omega
    obtain ⟨d, e1, e2⟩ := tu.get (List.getElem?_eq_getElem hl)
    refine ⟨d, _, ?_, List.getElem?_eq_getElem hl, e2, v.ok.cr b _ (List.getElem_mem hl)⟩
    show r.2.2[r.2.2.length - 1]? = some d
    rw [tu.1]; exact e1
def SD.wrote (S : SD) (b : Int) (c : Ct) : SD := { S with rows := fun x => if x = b then S.rows b ++ [c] else S.rows x }
theorem SD.wrote_ok {S : SD} {b : Int} {c : Ct} (h : S.Ok) (h0 : 0 ≤ b) (h1 : b < S.lies.length) (hc : CtOk c) : (S.wrote b c).Ok := by
  refine ⟨h.ln, h.cl, fun x xs hx => ?_, fun x hx => ?_, h.pw⟩
  · have hx : xs ∈ (if x = b then S.rows b ++ [c] else S.rows x) := hx
    split at hx
    · rcases List.mem_append.mp hx with z | z
      · exact h.cr b _ z
      · rw [List.mem_singleton.mp z]; exact hc
    · exact h.cr x _ hx
  · show 0 ≤ x ∧ x < S.lies.length
    have hx : (if x = b then S.rows b ++ [c] else S.rows x) ≠ [] := hx
    split at hx
    · next z => rw [z]; exact ⟨h0, h1⟩
    · exact h.out x hx
def SD.cut (S : SD) : SD := { S with rows := fun _ => [], pw := none }
theorem SD.cut_ok {S : SD} (h : S.Ok) : S.cut.Ok := ⟨h.ln, h.cl, fun b xs hx => (nomatch hx), fun b z => absurd rfl z, fun i z => (nomatch z)⟩
theorem addRow_find {rows : Rw} {b : Int} {c r' : Addr} {x : Int} : (addRow rows b c r').find? (fun q => decide (q.1 = x)) = if x = b then some (match rows.find? fun q => decide (q.1 = b) with | some r => (r.1, r.2.1, r.2.2 ++ [c]) | none => (b, r', [c])) else rows.find? fun q => decide (q.1 = x) := by
  unfold addRow
  cases e : rows.find? fun r => decide (r.1 = b) with
  | some r0 =>
    show (rows.map fun r => if r.1 = b then (r.1, r.2.1, r.2.2 ++ [c]) else r).find? _ = _
    rw [List.find?_map]
    have e2 : ((fun q : Int × Addr × List Addr => decide (q.1 = x)) ∘ fun q => if q.1 = b then (q.1, q.2.1, q.2.2 ++ [c]) else q) = fun q => decide (q.1 = x) := by
      funext q
      show decide ((if q.1 = b then (q.1, q.2.1, q.2.2 ++ [c]) else q).1 = x) = decide (q.1 = x)
      split <;> rfl
    rw [e2]
    by_cases hx : x = b
    · rw [if_pos hx, hx, e]
      have : r0.1 = b := of_decide_eq_true (List.find?_some (p := fun r : Int × Addr × List Addr => decide (r.1 = b)) e)
      show some (if r0.1 = b then _ else r0) = _
      rw [if_pos this]
    · rw [if_neg hx]
      cases q : rows.find? fun q => decide (q.1 = x) with
      | none => rfl
      | some r =>
        have : r.1 = x := of_decide_eq_true (List.find?_some (p := fun r : Int × Addr × List Addr => decide (r.1 = x)) q)
        show some (if r.1 = b then _ else r) = some r
        rw [if_neg (by rw [this]; exact hx)]
  | none =>
    show (rows ++ [(b, r', [c])]).find? _ = _
    rw [List.find?_append]
    by_cases hx : x = b
    · rw [if_pos hx, hx, e, Option.none_or]
      simp
    · rw [if_neg hx]
      cases q : rows.find? fun q => decide (q.1 = x) with
      | none => rw [Option.none_or]; simp [Ne.symm hx]
      | some r => rfl
theorem ds_wrote {p : Addr} {H H' : Hp} {D : Dsk} {S : SD} {b : Int} {c r' : Addr} {xs : Ct} (v : Sees K H D S) (hc : SqT K H c xs) (ok : CtOk xs) (h0 : 0 ≤ b) (h1 : b < S.lies.length) (s : Ch (D.foot p) H H') : Sees K H' { D with rows := addRow D.rows b c r' } (S.wrote b xs) := by
  refine ⟨SD.wrote_ok v.ok h0 h1 ok, v.lv.ch s, fun x => ?_, v.pw, v.rc⟩
  show match (addRow D.rows b c r').find? fun q => decide (q.1 = x) with
    | none => (if x = b then S.rows b ++ [xs] else S.rows x) = []
    | some r => TupsAt K H' r.2.2 (if x = b then S.rows b ++ [xs] else S.rows x)
  rw [addRow_find]
  by_cases hx : x = b
  · rw [if_pos hx, if_pos hx]
    cases e : D.rows.find? fun q => decide (q.1 = b) with
    | some r => exact ((v.rv.som e).ch s).snoc (s.st hc)
    | none =>
      rw [v.rv.non e]
      exact TupsAt.nil.snoc (s.st hc)
  · rw [if_neg hx, if_neg hx]
    exact (v.rv.ch s) x
theorem addRow_foot {D : Dsk} {b : Int} {c r' p : Addr} {x : Addr} (h : x ∈ ({ D with rows := addRow D.rows b c r' } : Dsk).foot p) : x ∈ D.foot p ∨ x = r' := by
  unfold Dsk.foot addRow at *
  simp only [List.mem_cons] at h ⊢
  rcases h with z | z | z | z
  · exact .inl (.inl z)
  · exact .inl (.inr (.inl z))
  · exact .inl (.inr (.inr (.inl z)))
  · obtain ⟨q, hq, e⟩ := List.mem_map.mp z
    split at hq
    · obtain ⟨q0, h0, e0⟩ := List.mem_map.mp hq
      refine .inl (.inr (.inr (.inr (List.mem_map.mpr ⟨q0, h0, ?_⟩))))
      rw [← e, ← e0]
      split <;> rfl
    · rcases List.mem_append.mp hq with y | y
      · exact .inl (.inr (.inr (.inr (List.mem_map.mpr ⟨q, y, e⟩))))
      · rw [List.mem_singleton.mp y] at e
        exact .inr e.symm
theorem wr_pre {C p : Addr} {H : Hp} {D : Dsk} {S : SD} (h : DiskAt C H p D) (v : Sees K H D S) (bd : ∀ x, (S.rows x).length < 1000) : D.rows.length < 1000 ∧ ∀ r ∈ D.rows, r.2.2.length < 1000 := by
  refine ⟨?_, fun r hr => ?_⟩
  · have := len_le_of_sub h.kd (L := (List.range D.lies.length).map Int.ofNat) fun x hx => by
      obtain ⟨r, hr, e⟩ := List.mem_map.mp hx
      have := h.kb r hr
      rw [e] at this
      exact List.mem_map.mpr ⟨x.toNat, List.mem_range.mpr (by omega), by show ((x.toNat : Nat) : Int) = x; omega⟩
    rw [List.length_map, List.length_map, List.length_range] at this
    have := h.few
    omega
  · have hx := (rows_mem h v.rv r.1).mp (List.mem_map.mpr ⟨r, hr, rfl⟩)
    obtain ⟨r2, _, hm, hk, tu⟩ := v.rv.there hx
    have : r2 = r := row_uniq h.kd r2 hm r hr hk
    subst this
    rw [tu.1]; exact bd _
theorem ds_write {C p : Addr} {H H' : Hp} {D : Dsk} {S : SD} {b : Int} {c r' : Addr} {xs : Ct} (h : DiskAt C H p D) (v : Sees K H D S) (hc : SqT K H c xs) (ok : CtOk xs) (h0 : 0 ≤ b) (h1 : b < S.lies.length) (hr : r' ∈ D.foot p ∨ H r' = none) (h' : DiskAt C H' p { D with rows := addRow D.rows b c r' }) (but : But (D.foot p) H H') :
    DS K C H' p (({ D with rows := addRow D.rows b c r' } : Dsk).foot p) (S.wrote b xs) ∧ Ch (D.foot p) H H' ∧ ∀ x ∈ ({ D with rows := addRow D.rows b c r' } : Dsk).foot p, x ∈ D.foot p ∨ H x = none := by
  have ch := Ch.of_but but h.mut
  refine ⟨⟨_, h', rfl, ds_wrote v hc ok h0 h1 ch⟩, ch, fun x hx => ?_⟩
  rcases addRow_foot hx with z | z
  · exact .inl z
  · rw [z]; exact hr
theorem ds_cut {C p w' : Addr} {H H' : Hp} {D : Dsk} {S : SD} (h : DiskAt C H p D) (v : Sees K H D S) (hw : H w' = none) (h' : DiskAt C H' p { D with w := w', rows := [], pw := none }) (but : But [p] H H') :
    DS K C H' p (({ D with w := w', rows := [], pw := none } : Dsk).foot p) S.cut ∧ Ch (D.foot p) H H' ∧ ∀ x ∈ ({ D with w := w', rows := [], pw := none } : Dsk).foot p, x ∈ D.foot p ∨ H x = none := by
  have ch : Ch (D.foot p) H H' := Ch.of_but (fun b o n e => but b o (fun z => n (by rw [List.mem_singleton.mp z]; unfold Dsk.foot; simp)) e) h.mut
  refine ⟨⟨_, h', rfl, ⟨SD.cut_ok v.ok, v.lv.ch ch, fun b => rfl, rfl, v.rc⟩⟩, ch, fun x hx => ?_⟩
  have hx : x ∈ [p, D.l, w'] := hx
  simp only [List.mem_cons, List.not_mem_nil, or_false] at hx
  rcases hx with z | z | z <;> subst z
  · exact .inl (by unfold Dsk.foot; simp)
  · exact .inl (by unfold Dsk.foot; simp)
  · exact .inr hw
/-! ### the words of a disk, as data -/
theorem w_read {C p : Addr} {F : List Addr} {S : SD} {H : Hp} {Q : VK} {E : XK} {b : Int} (h : DS K C H p F S) (h0 : 0 ≤ b) (h1 : b < S.lies.length) (q : ∀ c xs, S.shows b = some xs → SqT K H c xs → CtOk xs → Q (.ref c) H) : sp_disk_read C [.ref p, .int b] H Q E := by
  obtain ⟨D, hD, rfl, v⟩ := h
  obtain ⟨c, xs, e1, e2, tc, ok⟩ := shows_at v (fun r hr => (hD.hr r hr).2) h0 h1
  have := v.lv.1
  exact ⟨p, D, b, c, rfl, hD, h0, by omega, e1, q c xs e2 tc ok⟩
theorem w_lying {C p : Addr} {F : List Addr} {S : SD} {H : Hp} {Q : VK} {E : XK} {b : Int} {xs : Ct} (h : DS K C H p F S) (h0 : 0 ≤ b) (e : S.lies[b.toNat]? = some xs) (q : ∀ c, SqT K H c xs → Q (.ref c) H) : sp_disk_lying C [.ref p, .int b] H Q E := by
  obtain ⟨D, hD, rfl, v⟩ := h
  obtain ⟨d, e1, e2⟩ := v.lv.get e
  exact ⟨p, D, b, d, rfl, hD, h0, e1, q d e2⟩
theorem w_write {C p c : Addr} {F : List Addr} {S : SD} {H : Hp} {Q : VK} {E : XK} {b : Int} {xs : Ct} (h : DS K C H p F S) (bd : ∀ x, (S.rows x).length < 1000) (h0 : 0 ≤ b) (h1 : b < S.lies.length) (hc : SqT K H c xs) (ok : CtOk xs)
    (q : ∀ F' H', DS K C H' p F' (S.wrote b xs) → Ch F H H' → (∀ a ∈ F', a ∈ F ∨ H a = none) → Q .non H') : sp_disk_write K C [.ref p, .int b, .ref c] H Q E := by
  obtain ⟨D, hD, rfl, v⟩ := h
  obtain ⟨w1, w2⟩ := wr_pre hD v bd
  have := v.lv.1
  refine ⟨p, D, b, c, xs, rfl, hD, h0, by omega, hc, ok.1, ok.2.1, ok.2.2, w1, w2, fun H' r' hr h' but => ?_⟩
  obtain ⟨d, c2, f⟩ := ds_write hD v hc ok h0 h1 hr h' but
  exact q _ H' d c2 f
theorem w_cut {C p : Addr} {F : List Addr} {S : SD} {H : Hp} {Q : VK} {E : XK} (h : DS K C H p F S) (q : ∀ F' H', DS K C H' p F' S.cut → Ch F H H' → (∀ a ∈ F', a ∈ F ∨ H a = none) → Q .non H') : sp_disk_cut C [.ref p] H Q E := by
  obtain ⟨D, hD, rfl, v⟩ := h
  refine ⟨p, D, rfl, hD, fun w' H' nw h' but => ?_⟩
  obtain ⟨d, c2, f⟩ := ds_cut hD v nw h' but
  exact q _ H' d c2 f
theorem w_blocks {C p : Addr} {F : List Addr} {S : SD} {H : Hp} {Q : VK} {E : XK} (h : DS K C H p F S) (q : Q (.int S.lies.length) H) : sp_disk_blocks C [.ref p] H Q E := by
  obtain ⟨D, hD, rfl, v⟩ := h
  exact ⟨p, D, rfl, hD, by rw [v.lv.1]; exact q⟩
def SD.new (n : Nat) : SD := ⟨List.replicate n [], fun _ => [], none, 0⟩
theorem SD.new_ok {n : Nat} (h : n ≤ 600) : (SD.new n).Ok := ⟨by show (List.replicate n _).length ≤ 600; rw [List.length_replicate]; exact h, fun xs hx => (by rw [List.eq_of_mem_replicate hx]; exact ⟨by simp, by simp, by decide +kernel⟩), fun b xs hx => (nomatch hx), fun b h => absurd rfl h, fun i h => (nomatch h)⟩
theorem w_init {C Cb p : Addr} {H : Hp} {Q : VK} {E : XK} {n : Nat} (h : InsAt C H p []) (h0 : 16 ≤ n) (h1 : n ≤ 600) (q : ∀ F H', DS K C H' p F (SD.new n) → But [p] H H' → (∀ a ∈ F, a = p ∨ H a = none) → Q .non H') : sp_disk_init K C Cb [.ref p, .int n] H Q E := by
  refine .inl ⟨p, n, rfl, h, by omega, by omega, fun H' D hD hf hl hc hr hp hrc but => q _ H' ⟨D, hD, rfl, ⟨SD.new_ok h1, ⟨?_, fun i c xs e1 e2 => ?_⟩, fun b => ?_, hp, hrc⟩⟩ but hf⟩
  · show D.lies.length = (List.replicate n _).length
    rw [List.length_replicate, hl]; omega
  · have e2 : (List.replicate n ([] : Ct))[i]? = some xs := e2
    rw [List.eq_of_mem_replicate (List.mem_of_getElem? e2)]
    exact hc c (List.mem_of_getElem? e1)
  · rw [hr]; rfl
end



section
variable {P : Program} {w : World} {K : PySem.W.Frag} {mg : Str → Option Value} {base : Heap}
/-! ### the master -/
theorem ct_items {xs : Ct} (h : CtOk xs) : ∀ x ∈ xs, itemB x = true := by
  have := h.2.2
  unfold itemsB at this
  rw [Bool.and_eq_true, Bool.and_eq_true] at this
  exact List.all_eq_true.mp this.2.2
theorem DS.len {C p : Addr} {F : List Addr} {S : SD} {H : Hp} (h : DS K C H p F S) : S.lies.length ≤ 600 := by
  obtain ⟨D, hD, rfl, v⟩ := h
  exact v.ok.ln
theorem ins_of_ds {C p : Addr} {F : List Addr} {S : SD} {H : Hp} (h : DS K C H p F S) : ∃ fs, InsAt C H p fs ∧ ∀ m : Str, ((["_lies", "_waits", "_power", "_reached"] : List Str)).contains m = false → fs.lookup m = none := by
  obtain ⟨D, hD, rfl, v⟩ := h
  exact ⟨_, hD.ob, fun m e => df_no _ _ _ _ e⟩
def sp_master_of (K : PySem.W.Frag) (C Cb : Addr) : Sp := fun vs H Q E => (∃ p F S M, vs = [.ref p] ∧ DS K C H p F S ∧ S.shows 0 = some (Mst.ct M) ∧ 4 ≤ M.r ∧ M.r + 8 ≤ S.lies.length ∧ ∀ c H', SqT K H' c (Mst.ct M) → Same H H' → Q (.ref c) H') ∨ (∃ p F S xs, vs = [.ref p] ∧ DS K C H p F S ∧ 0 < S.lies.length ∧ S.shows 0 = some xs ∧ masterB xs S.lies.length = false ∧ ∀ H', Same H H' → E (.ref Cb) none H')
theorem ok_master_of (T : Txt K mg) : FnOk P w K mg base (L2.CX P w) 5 T.master_of.f T.master_of.fd ["disk"] ((sp_master_of K T.C_Disk T.e_BadDisk.C)) := by
  refine T.master_of.F.okX sc_master_of (fun vs H Q E h => ?_) (fun cdv A outer s H vs Q E hr h => ?_)
  · rcases h with ⟨p, F, S, M, rfl, _⟩ | ⟨p, F, S, M, rfl, _⟩ <;> rfl
  · rcases h with ⟨p, F, S, M, rfl, hS, hM, h4, h8, k⟩ | ⟨p, F, S, xs, rfl, hS, h0, hM, hb, kE⟩
    rotate_left 1
    · refine ⟨_, (pss_cons (ps_if (PW.pt (pw_or (pt_not (ptTruth (K := K) (pe_callB (cIsD (K := K) T.i_Disk) (by rfl) T.z_isinstance (by decide +kernel) (pa_cons (pv 0) (pa_cons (C8.pe_gc (v := .ref T.C_Disk) (by rfl) ⟨_, T.k_Disk.g, rfl⟩) pa_nil))) (by intro _; rfl))) (pw_or1 (pt_not (ptTruth (K := K) (pe_call (ok_is_master T) (hr.mono (by decide)) (by rfl) T.is_master.g T.is_master.F.kp T.is_master.b .nil pass0 (pa_cons (pe_meth (pv 0) T.k_Disk.cl T.m_Disk_read.i (ok_Disk_read T) (hr.mono (by decide)) T.m_Disk_read.b .nil pass0 (pa_cons pe_int pa_nil)) (pa_cons (pe_meth0 (pv 0) T.k_Disk.cl T.m_Disk_blocks.i (ok_Disk_blocks T) (hr.mono (by decide)) T.m_Disk_blocks.b .nil pass0) pa_nil))) (by intro _; rfl)))))) (pss_one (ps_raise rfl (takes_of rfl rfl rfl rfl) (pmk_oexN T.e_BadDisk.o T.e_BadDisk.i T.e_BadDisk.t (ok_StoreError_init T.m_StoreError_init T.z_ValueError T.vV) (hr.mono (by decide)) T.m_StoreError_init.b pass0 (by rfl) T.e_BadDisk.g))) pss_nil)
    (pss_one (ps_ret (pe_meth (pv 0) T.k_Disk.cl T.m_Disk_read.i (ok_Disk_read T) (hr.mono (by decide)) T.m_Disk_read.b .nil pass0 (pa_cons pe_int pa_nil))))), ?_⟩
      obtain ⟨fs, hob, no⟩ := ins_of_ds hS
      walk_at "go"
      refine o_isD hob ?_
      walk_at "go"
      refine m_call0 hob (no _ (by decide +kernel)) ?_
      walk_at "go"
      refine w_read hS (by omega) (by omega) fun c xs2 e1 hc ok => ?_
      rw [hM] at e1
      cases e1
      walk_at "go"
      refine m_call0 hob (no _ (by decide +kernel)) ?_
      walk_at "go"
      refine w_blocks hS ?_
      walk_at "go"
      refine ⟨c, xs, _, rfl, hc, ok.1, ct_items ok, fun H1 s1 => ?_⟩
      rw [hb]
      walk_at "go"
      exact e_raise T.e_BadDisk.o (kE H1 s1)
    refine ⟨_, (pss_cons (ps_if (PW.pt (pw_or (pt_not (ptTruth (K := K) (pe_callB (cIsD (K := K) T.i_Disk) (by rfl) T.z_isinstance (by decide +kernel) (pa_cons (pv 0) (pa_cons (C8.pe_gc (v := .ref T.C_Disk) (by rfl) ⟨_, T.k_Disk.g, rfl⟩) pa_nil))) (by intro _; rfl))) (pw_or1 (pt_not (ptTruth (K := K) (pe_call (ok_is_master T) (hr.mono (by decide)) (by rfl) T.is_master.g T.is_master.F.kp T.is_master.b .nil pass0 (pa_cons (pe_meth (pv 0) T.k_Disk.cl T.m_Disk_read.i (ok_Disk_read T) (hr.mono (by decide)) T.m_Disk_read.b .nil pass0 (pa_cons pe_int pa_nil)) (pa_cons (pe_meth0 (pv 0) T.k_Disk.cl T.m_Disk_blocks.i (ok_Disk_blocks T) (hr.mono (by decide)) T.m_Disk_blocks.b .nil pass0) pa_nil))) (by intro _; rfl)))))) (pss_one (ps_raise rfl (takes_of rfl rfl rfl rfl) (pmk_oexN T.e_BadDisk.o T.e_BadDisk.i T.e_BadDisk.t (ok_StoreError_init T.m_StoreError_init T.z_ValueError T.vV) (hr.mono (by decide)) T.m_StoreError_init.b pass0 (by rfl) T.e_BadDisk.g))) pss_nil)
    (pss_one (ps_ret (pe_meth (pv 0) T.k_Disk.cl T.m_Disk_read.i (ok_Disk_read T) (hr.mono (by decide)) T.m_Disk_read.b .nil pass0 (pa_cons pe_int pa_nil))))), ?_⟩
    obtain ⟨fs, hob, no⟩ := ins_of_ds hS
    walk_at "go"
    refine o_isD hob ?_
    walk_at "go"
    refine m_call0 hob (no _ (by decide +kernel)) ?_
    walk_at "go"
    refine w_read hS (by omega) (by omega) fun c xs e1 hc ok => ?_
    rw [hM] at e1
    cases e1
    walk_at "go"
    refine m_call0 hob (no _ (by decide +kernel)) ?_
    walk_at "go"
    refine w_blocks hS ?_
    walk_at "go"
    refine ⟨c, _, _, rfl, hc, ok.1, ct_items ok, fun H1 s1 => ?_⟩
    rw [mst_is h4 (by omega)]
    walk_at "go"
    refine m_call0 (ins_same s1 hob) (no _ (by decide +kernel)) ?_
    walk_at "go"
    refine w_read (hS.same s1) (by omega) (by omega) fun c2 xs e1 hc2 _ => ?_
    rw [hM] at e1
    cases e1
    exact k c2 H1 hc2 s1
end



section
variable {P : Program} {w : World} {K : PySem.W.Frag} {mg : Str → Option Value} {base : Heap}
/-! ### what counts -/
def Rg2Q (R : It → Hp → Prop) (vs : List V) (H1 : Hp) : Prop := ∃ i j : Int, vs = [.int i, .int j] ∧ (-(2 ^ 62) ≤ i ∧ i < 2 ^ 62 ∧ -(2 ^ 62) ≤ j ∧ j < 2 ^ 62) ∧ R (Itr i (j - i).toNat) H1
theorem i_rng2 {σ : L2.St} {H : Hp} {R : It → Hp → Prop} {ta : TA} (h : ta σ H fun vs H1 => Rg2Q R vs H1) : iRng2 ta σ H R := h
theorem i_rg2 {H : Hp} {R : It → Hp → Prop} {i j : Int} {n : Nat} (e : (j - i).toNat = n) (h0 : -1000000000000 ≤ i ∧ i ≤ 1000000000000) (h1 : -1000000000000 ≤ j ∧ j ≤ 1000000000000) (h : R (Itr i n) H) : Rg2Q R [.int i, .int j] H := ⟨i, j, rfl, by omega, by rw [e]; exact h⟩
def stepB (M : Mst) (lt : Nat) (acc : List Pc) (k : Nat) (p : Pc) : Bool := decide (p.k = k) && (decide (p.e ≤ lt) && (match acc.getLast? with | some q => goesB q p | none => beginsB M p))
def countG (M : Mst) (lt : Nat) (g : Nat → Option Pc) : Nat → List Pc → Nat → List Pc
  | 0, acc, _ => acc
  | n + 1, acc, k => match g k with
    | none => acc
    | some p => if stepB M lt acc k p = true then countG M lt g n (acc ++ [p]) (k + 1) else acc
theorem countG_none {M : Mst} {lt n k : Nat} {g : Nat → Option Pc} {acc : List Pc} (h : g k = none) : countG M lt g (n + 1) acc k = acc := by
  show (match g k with | none => acc | some p => if stepB M lt acc k p = true then countG M lt g n (acc ++ [p]) (k + 1) else acc) = acc
  rw [h]
theorem countG_some {M : Mst} {lt n k : Nat} {g : Nat → Option Pc} {acc : List Pc} {q : Pc} (h : g k = some q) : countG M lt g (n + 1) acc k = if stepB M lt acc k q = true then countG M lt g n (acc ++ [q]) (k + 1) else acc := by
  show (match g k with | none => acc | some p => if stepB M lt acc k p = true then countG M lt g n (acc ++ [p]) (k + 1) else acc) = _
  rw [h]
/-- what is read of the ring's blocks, by running numbers from k on -/
def Ring (S : SD) (r k : Nat) (g : Nat → Option Pc) : Prop := ∀ j, j < r → S.shows (1 + ((k + j) % r : Nat)) = some (octs (g (k + j))) ∧ ∀ p, g (k + j) = some p → p.xs ≠ [] ∧ p.xs.length ≤ 36
def sp_counted (K : PySem.W.Frag) (C : Addr) : Sp := fun vs H Q _ => ∃ (p : Addr) (lt : Nat) (F : List Addr) (S : SD) (M : Mst) (g : Nat → Option Pc), vs = [.ref p, .int lt] ∧ DS K C H p F S ∧ S.shows 0 = some (Mst.ct M) ∧ 4 ≤ M.r ∧ M.r + 8 ≤ S.lies.length ∧ M.k ≤ 1000000000 ∧ Ring S M.r M.k g ∧
  ∀ D cs H', Same H H' → H D = none → H' D = some (.lst (cs.map V.ref)) → TupsAt K H' cs ((countG M lt g M.r [] M.k).map Pc.ct) → Q (.ref D) H'
theorem ok_counted (T : Txt K mg) : FnOk P w K mg base CX0 6 T.counted.f T.counted.fd ["disk", "latest"] ((sp_counted K T.C_Disk)) := by
  refine T.counted.F.ok sc_counted (fun vs H Q E h => ?_) (fun cdv A outer s H vs Q E hr h => ?_)
  · obtain ⟨p, lt, F, S, M, g, rfl, _⟩ := h
    rfl
  · obtain ⟨p, lt, F, S, M, g, rfl, hS, hM, h4, h8, hk, hR, k⟩ := h
    refine ⟨_, (pss_cons (ps_set (i := 2) sc_counted.nd rfl (Or.inl rfl) (pe_call (ok_master_of T) (hr.mono (by decide)) (by rfl) T.master_of.g T.master_of.F.kp T.master_of.b .nil passL (pa_cons (pv 0) pa_nil)))
    (pss_cons (ps_set (i := 3) sc_counted.nd rfl (Or.inl rfl) (pe_lst pa_nil))
    (pss_cons (ps_for PassesOwn.never rfl (pi_range2 (by rfl) T.z_range (pa_cons (pe_ix (ixLT (K := K)) (pv 2) pe_int (fun _ _ => rfl)) (pa_cons (pe_op oAdd (pe_ix (ixLT (K := K)) (pv 2) pe_int (fun _ _ => rfl)) (pe_ix (ixLT (K := K)) (pv 2) pe_int (fun _ _ => rfl))) pa_nil))) (pg_name (i := 4) sc_counted.nd rfl (Or.inl rfl))
      (pss_cons (ps_set (i := 5) sc_counted.nd rfl (Or.inl rfl) (pe_meth (pv 0) T.k_Disk.cl T.m_Disk_read.i (ok_Disk_read T) (hr.mono (by decide)) T.m_Disk_read.b .nil pass0 (pa_cons (pe_op oAdd pe_int (pe_op op_mod (pv 4) (pe_ix (ixLT (K := K)) (pv 2) pe_int (fun _ _ => rfl)))) pa_nil)))
    (pss_cons (ps_if (PW.pt (pw_or (pt_not (ptTruth (K := K) (pe_call (ok_is_piece T) (hr.mono (by decide)) (by rfl) T.is_piece.g T.is_piece.F.kp T.is_piece.b .nil pass0 (pa_cons (pv 5) (pa_cons (pv 4) pa_nil))) (by intro _; rfl))) (pw_or1 (pt_cmpR op_gt (pe_ix (ixLT (K := K)) (pv 5) pe_int (fun _ _ => rfl)) (pv 1) (nomark _))))) (pss_one (ps_ret (pv 3))) pss_nil)
    (pss_cons (ps_if (pt_not (pt_ifExp (ptTruth (K := K) (pv 3) (by intro _; rfl)) (ptTruth (K := K) (pe_call (ok_goes_on T) (hr.mono (by decide)) (by rfl) T.goes_on.g T.goes_on.F.kp T.goes_on.b .nil pass0 (pa_cons (pe_ix (ixLT (K := K)) (pv 3) (pe_un un_neg pe_int) (fun _ _ => rfl)) (pa_cons (pv 5) pa_nil))) (by intro _; rfl)) (ptTruth (K := K) (pe_call (ok_begins T) (hr.mono (by decide)) (by rfl) T.begins.g T.begins.F.kp T.begins.b .nil pass0 (pa_cons (pv 2) (pa_cons (pv 5) pa_nil))) (by intro _; rfl)))) (pss_one (ps_ret (pv 3))) pss_nil)
    (pss_one (ps_expr (peApp (K := K) (pe_bm PySem.F.plainAttrs_list PySem.F.slot_list_append PySem.F.type_list_append mt_append (pv 3) (pa_cons (pv 5) pa_nil)))))))))
    (pss_one (ps_ret (pv 3)))))), ?_⟩
    obtain ⟨fs, hob, no⟩ := ins_of_ds hS
    have hr6 := hS.len
    walk_at "go"
    refine .inl ⟨p, F, S, M, rfl, hS, hM, h4, h8, fun c H1 hc s1 => ?_⟩
    have hc' : SqT K H1 c [.str "master", .int M.e, .int M.r, .int M.k, .int M.m, .int M.f] := hc
    walk_at "go"
    refine n_new (le_size (by simp)) fun D H2 n2 s2 h2 => ?_
    have hc2 : SqT K H2 c [.str "master", .int M.e, .int M.r, .int M.k, .int M.m, .int M.f] := st_ s2 hc
    walk_at "go"
    refine i_rng2 ?_
    walk_at "go"
    refine i_rg2 (n := M.r) (by omega) (by omega) (by omega) ?_
    refine l_it walk_range (fun i σ3 H3 => ∃ (y4 y5 : Option V) (cs : List Addr) (acc : List Pc), σ3 = [some (.ref p), some (.int lt), some (.ref c), some (.ref D), y4, y5] ∧ Same H1 H3 ∧ H3 D = some (.lst (cs.map V.ref)) ∧ TupsAt K H3 cs (acc.map Pc.ct) ∧ acc.length = i ∧
      countG M lt g (M.r - i) acc (M.k + i) = countG M lt g M.r [] M.k) ⟨none, none, [], [], rfl, s2, h2, TupsAt.nil, rfl, rfl⟩ (fun _ _ _ _ _ => trivial) (fun σ3 H3 q => ?_) (fun i x σ3 H3 H4 hi q y => ?_)
    · obtain ⟨y4, y5, cs, acc, rfl, s3, h3, t3, l3, e3⟩ := q
      rw [Nat.sub_self] at e3
      walk_at "go"
      exact k D cs H3 (s1.trans s3) (free_ s1 n2) h3 (by rw [← e3]; exact t3)
    · obtain ⟨y4, y5, cs, acc, rfl, s3, h3, t3, l3, e3⟩ := q
      obtain ⟨rfl, rfl⟩ := y
      have e0 : M.r - i = (M.r - i - 1) + 1 := by omega
      rw [e0] at e3
      obtain ⟨eg, ne⟩ := hR i hi
      have nd : H D = none := free_ s1 n2
      have eb : ((M.k : Int) + (i : Nat)) % (M.r : Int) = (((M.k + i) % M.r : Nat) : Int) := by rw [Int.natCast_emod, Int.natCast_add]
      have hb := Nat.mod_lt (M.k + i) (show 0 < M.r by omega)
      have hc4 : SqT K H4 c [V.str "master", V.int M.e, V.int M.r, V.int M.k, V.int M.m, V.int M.f] := st_ s3 hc'
      show tSeq _ _ _ [some (.ref p), some (.int lt), some (.ref c), some (.ref D), some (.int ((M.k : Int) + (i : Nat))), y5] H4
      walk_at "go"
      refine m_call0 (ins_same (s1.trans s3) hob) (no _ (by decide +kernel)) ?_
      walk_at "go"
      rw [eb]
      refine w_read (hS.same (s1.trans s3)) (by omega) (by omega) fun c5 xs e5 hc5 ok5 => ?_
      rw [eg] at e5
      cases e5
      walk_at "go"
      refine ⟨c5, g (M.k + i), _, rfl, hc5, fun p e => (ne p e).1, ok5.1, fun H5 s5 => ?_⟩
      have s35 := s3.trans s5
      have s05 := s1.trans s35
      have h35 := s5 _ _ h3
      have t35 := t3.same s5
      have hc55 := st_ s5 hc5
      have hc45 := st_ s5 hc4
      clear h3 t3 hc5 hc4 hc' hc2
      generalize hg : g (M.k + i) = og at *
      cases og with
      | none =>
        rw [countG_none hg] at e3
        show _
        rw [show pieceB none ((M.k : Int) + (i : Nat)) = false from rfl]
        walk_at "go"
        exact k D cs H5 s05 nd h35 (by rw [← e3]; exact t35)
      | some q =>
        rw [countG_some hg] at e3
        have hc56 : SqT K H5 c5 q.ct := hc55
        have hc55 : SqT K H5 c5 (.int q.k :: .int q.e :: .int q.r :: .int q.l :: q.xs) := hc55
        have stop : stepB M lt acc (M.k + i) q = false → Q (.ref D) H5 := fun e => by
          rw [e] at e3
          refine k D cs H5 s05 nd h35 ?_
          rw [← e3]; exact t35
        have ek : decide ((q.k : Int) = (M.k : Int) + (i : Nat)) = decide (q.k = M.k + i) := decide_eq_decide.mpr (by omega)
        rw [show pieceB (some q) ((M.k : Int) + (i : Nat)) = decide ((q.k : Int) = (M.k : Int) + (i : Nat)) from rfl, ek]
        cases e1 : decide (q.k = M.k + i) with
        | false =>
          walk_at "go"
          exact stop (by unfold stepB; rw [e1]; rfl)
        | true =>
          walk_at "go"
          refine o_ixT hc55 (atI_in (j := 1) rfl rfl) ?_
          walk_at "go"
          refine i_d (fun z => ?_) (fun z => ?_)
          · walk_at "go"
            refine stop ?_
            unfold stepB
            rw [e1, decide_eq_false (show ¬ q.e ≤ lt by omega)]; rfl
          · have e2 : decide (q.e ≤ lt) = true := decide_eq_true (by omega)
            walk_at "go"
            have fin : stepB M lt acc (M.k + i) q = true → ∀ H6, Same H5 H6 → ∃ (y4 y5 : Option V) (cs2 : List Addr) (acc2 : List Pc), [some (V.ref p), some (.int lt), some (.ref c), some (.ref D), some (.int ((M.k : Int) + (i : Nat))), some (.ref c5)] = [some (.ref p), some (.int lt), some (.ref c), some (.ref D), y4, y5] ∧ Same H1 (upd H6 D (.lst (cs.map V.ref ++ [V.ref c5]))) ∧ upd H6 D (.lst (cs.map V.ref ++ [V.ref c5])) D = some (.lst (cs2.map V.ref)) ∧ TupsAt K (upd H6 D (.lst (cs.map V.ref ++ [V.ref c5]))) cs2 (acc2.map Pc.ct) ∧ acc2.length = i + 1 ∧
                countG M lt g (M.r - (i + 1)) acc2 (M.k + (i + 1)) = countG M lt g M.r [] M.k := fun e H6 s6 => by
              rw [if_pos e] at e3
              have h36 := s6 _ _ h35
              refine ⟨_, _, cs ++ [c5], acc ++ [q], rfl, upd_free (s35.trans s6) n2, by rw [upd_same, List.map_append]; rfl, ?_, by simp [l3], e3⟩
              rw [List.map_append]
              exact ((t35.same s6).snoc (st_ s6 hc56)).ch (F := [D]) (Ch.upd1 (by simp) fun o e => by rw [h36] at e; cases e; rfl)
            have hl35 := slO (K := K) h35
            cases hl : acc.getLast? with
            | none =>
              have ea : acc = [] := List.getLast?_eq_none_iff.mp hl
              subst ea
              have ec : cs = [] := List.length_eq_zero_iff.mp t35.1
              subst ec
              refine e_ifT ?_
              walk_at "go"
              refine i_f rfl ?_
              walk_at "go"
              refine ⟨c, c5, M, q, rfl, hc45, hc56, ?_⟩
              have es : stepB M lt [] (M.k + i) q = beginsB M q := by unfold stepB; rw [e1, e2]; rfl
              cases e5 : beginsB M q with
              | false =>
                walk_at "go"
                exact stop (by rw [es, e5])
              | true =>
                walk_at "go"
                refine ⟨_, _, _, rfl, rfl, h35, lt_size (by simp), ?_⟩
                walk_at "go"
                exact fin (by rw [es, e5]) H5 (Same.refl _)
            | some q0 =>
              have pos : 0 < acc.length := List.length_pos_iff.mpr fun z => by rw [z] at hl; cases hl
              have pos2 : 0 < cs.length := by have := t35.1; rw [List.length_map] at this; omega
              have eq0 : (acc.map Pc.ct)[cs.length - 1]? = some q0.ct := by
                have el := t35.1
                rw [List.length_map] at el
                rw [List.getElem?_map, el, ← List.getLast?_eq_getElem?, hl]; rfl
              obtain ⟨d, ed, hd⟩ := t35.get eq0
              have ne0 : (cs.map V.ref).isEmpty = false := by
                cases cs with
                | nil => simp at pos2
                | cons a l => rfl
              refine e_ifT ?_
              walk_at "go"
              rw [ne0]
              walk_at "go"
              refine o_ixL hl35 (atI_neg (by simpa using pos2) (by rw [List.getElem?_map, List.length_map, ed]; rfl)) ?_
              walk_at "go"
              refine ⟨d, c5, q0, q, rfl, hd, hc56, fun H6 s6 => ?_⟩
              have es : stepB M lt acc (M.k + i) q = goesB q0 q := by unfold stepB; rw [e1, e2, hl]; rfl
              cases e5 : goesB q0 q with
              | false =>
                walk_at "go"
                rw [es, e5] at e3
                refine k D cs H6 (s05.trans s6) nd (s6 _ _ h35) ?_
                rw [← e3]; exact t35.same s6
              | true =>
                walk_at "go"
                have h36 := s6 _ _ h35
                refine ty_lst h36 ?_
                walk_at "go"
                refine ⟨_, _, _, rfl, rfl, h36, lt_size (by have := t35.1; rw [List.length_map] at this ⊢; omega), ?_⟩
                walk_at "go"
                exact fin (by rw [es, e5]) H6 s6
end



section
variable {P : Program} {w : World} {K : PySem.W.Frag} {mg : Str → Option Value} {base : Heap}
/-! ### the records that are read -/
theorem ne_of_none' {H : Hp} {a b : Addr} {o : HO} (h : H a = some o) (n : H b = none) : b ≠ a := fun z => by rw [z, h] at n; cases n
theorem countG_all {M : Mst} {lt : Nat} {g : Nat → Option Pc} {Pr : Pc → Prop} : ∀ {n k : Nat} {acc : List Pc}, (∀ p ∈ acc, Pr p) → (∀ j, j < n → ∀ p, g (k + j) = some p → Pr p) → ∀ p ∈ countG M lt g n acc k, Pr p
  | 0, k, acc, ha, _, p, hp => ha p hp
  | n + 1, k, acc, ha, hg, p, hp => by
    cases e : g k with
    | none => rw [countG_none e] at hp; exact ha p hp
    | some q =>
      rw [countG_some e] at hp
      split at hp
      · refine countG_all (fun x hx => ?_) (fun j hj x hx => hg (j + 1) (by omega) x (by rw [← hx]; congr 1; omega)) p hp
        rcases List.mem_append.mp hx with z | z
        · exact ha x z
        · rw [List.mem_singleton.mp z]; exact hg 0 (by omega) q e
      · exact ha p hp
theorem countG_len {M : Mst} {lt : Nat} {g : Nat → Option Pc} : ∀ {n k : Nat} {acc : List Pc}, (countG M lt g n acc k).length ≤ acc.length + n
  | 0, k, acc => Nat.le_refl _
  | n + 1, k, acc => by
    cases e : g k with
    | none => rw [countG_none e]; omega
    | some q =>
      rw [countG_some e]
      split
      · have := countG_len (M := M) (lt := lt) (g := g) (n := n) (k := k + 1) (acc := acc ++ [q])
        rw [List.length_append, List.length_singleton] at this
        omega
      · omega
abbrev Rc := Nat × List V × Nat
def rdStep (st : List V × List Rc) (p : Pc) : List V × List Rc := if p.l = 0 then ([], st.2 ++ [(p.r, st.1 ++ p.xs, p.e)]) else (st.1 ++ p.xs, st.2)
def readP (ps : List Pc) : List Rc := (ps.foldl rdStep ([], [])).2
def RecsAt (K : PySem.W.Frag) (H : Hp) (ts : List Addr) (rs : List Rc) : Prop := ts.length = rs.length ∧ ∀ (i : Nat) (t : Addr) (r : Rc), ts[i]? = some t → rs[i]? = some r → ∃ a, SqT K H t [.int r.1, .ref a, .int r.2.2] ∧ SqT K H a r.2.1
theorem RecsAt.st {H H' : Hp} {ts : List Addr} {rs : List Rc} (h : RecsAt K H ts rs) (k : ∀ c xs, SqT K H c xs → SqT K H' c xs) : RecsAt K H' ts rs := ⟨h.1, fun i t r a b => (h.2 i t r a b).elim fun x q => ⟨x, k _ _ q.1, k _ _ q.2⟩⟩
theorem RecsAt.snoc {H : Hp} {ts : List Addr} {rs : List Rc} {t a : Addr} {r : Rc} (h : RecsAt K H ts rs) (h1 : SqT K H t [.int r.1, .ref a, .int r.2.2]) (h2 : SqT K H a r.2.1) : RecsAt K H (ts ++ [t]) (rs ++ [r]) := by
  refine ⟨by rw [List.length_append, List.length_append, h.1]; rfl, fun i d ys x y => ?_⟩
  have l := h.1
  by_cases hi : i < ts.length
  · rw [List.getElem?_append_left hi] at x
    rw [List.getElem?_append_left (by omega)] at y
    exact h.2 i d ys x y
  · rw [List.getElem?_append_right (by omega)] at x
    rw [List.getElem?_append_right (by omega)] at y
    rw [l] at x
    cases e : i - rs.length with
    | zero =>
      rw [e] at x y
      cases x; cases y; exact ⟨a, h1, h2⟩
    | succ n => rw [e] at x; cases x
theorem rd_len : ∀ {ps : List Pc} {st : List V × List Rc} {n : Nat}, (∀ p ∈ ps, p.xs.length ≤ 36) → st.1.length ≤ 36 * n → ((ps.foldl rdStep st).1.length ≤ 36 * (n + ps.length))
  | [], st, n, _, h => by simpa using h
  | p :: ps, st, n, hp, h => by
    have h1 := hp p (by simp)
    have := rd_len (ps := ps) (st := rdStep st p) (n := n + 1) (fun x hx => hp x (List.mem_cons_of_mem _ hx)) (by
      unfold rdStep
      split
      · show 0 ≤ _
        omega
      · show (st.1 ++ p.xs).length ≤ _
        rw [List.length_append]; omega)
    rw [List.foldl_cons, List.length_cons]
    omega
theorem rd_len2 : ∀ {ps : List Pc} {st : List V × List Rc}, (ps.foldl rdStep st).2.length ≤ st.2.length + ps.length
  | [], st => Nat.le_refl _
  | p :: ps, st => by
    have := rd_len2 (ps := ps) (st := rdStep st p)
    have h2 : (rdStep st p).2.length ≤ st.2.length + 1 := by
      unfold rdStep
      split
      · show (st.2 ++ [_]).length ≤ _
        rw [List.length_append]; exact Nat.le_refl _
      · show st.2.length ≤ _
        omega
    rw [List.foldl_cons, List.length_cons]
    omega
def sp_read_prefix (K : PySem.W.Frag) (C : Addr) : Sp := fun vs H Q _ => ∃ (p : Addr) (lt : Nat) (F : List Addr) (S : SD) (M : Mst) (g : Nat → Option Pc), vs = [.ref p, .int lt] ∧ DS K C H p F S ∧ S.shows 0 = some (Mst.ct M) ∧ 4 ≤ M.r ∧ M.r + 8 ≤ S.lies.length ∧ M.k ≤ 1000000000 ∧ Ring S M.r M.k g ∧
  ∀ D ts H', Same H H' → H D = none → H' D = some (.lst (ts.map V.ref)) → RecsAt K H' ts (readP (countG M lt g M.r [] M.k)) → Q (.ref D) H'
theorem ok_read_prefix (T : Txt K mg) : FnOk P w K mg base CX0 7 T.read_prefix.f T.read_prefix.fd ["disk", "latest"] ((sp_read_prefix K T.C_Disk)) := by
  refine T.read_prefix.F.ok sc_read_prefix (fun vs H Q E h => ?_) (fun cdv A outer s H vs Q E hr h => ?_)
  · obtain ⟨p, lt, F, S, M, g, rfl, _⟩ := h
    rfl
  · obtain ⟨p, lt, F, S, M, g, rfl, hS, hM, h4, h8, hk, hR, k⟩ := h
    refine ⟨_, (pss_cons (ps_set (i := 2) sc_read_prefix.nd rfl (Or.inl rfl) (pe_lst pa_nil))
    (pss_cons (ps_set (i := 3) sc_read_prefix.nd rfl (Or.inl rfl) (pe_lst pa_nil))
    (pss_cons (ps_for PassesOwn.never rfl (piL (K := K) (pe_call (ok_counted T) (hr.mono (by decide)) (by rfl) T.counted.g T.counted.F.kp T.counted.b .nil pass0 (pa_cons (pv 0) (pa_cons (pv 1) pa_nil)))) (pg_name (i := 4) sc_read_prefix.nd rfl (Or.inl rfl))
      (pss_cons (ps_expr (peExt (K := K) (pe_bm PySem.F.plainAttrs_list PySem.F.slot_list_extend PySem.F.type_list_extend (mtExtT (K := K)) (pv 3) (pa_cons (pe_slice (slT (K := K)) (pv 4) (po_some (pe_glob (by rfl) T.c_HEAD.h T.c_HEAD.r)) po_none) pa_nil))))
    (pss_one (ps_if (pt_cmpR (oEq (K := K) hr.units) (pe_ix (ixLT (K := K)) (pv 4) pe_int (fun _ _ => rfl)) pe_int (nomark _)) (pss_cons (ps_expr (peApp (K := K) (pe_bm PySem.F.plainAttrs_list PySem.F.slot_list_append PySem.F.type_list_append mt_append (pv 2) (pa_cons (pe_tup (pa_cons (pe_ix (ixLT (K := K)) (pv 4) pe_int (fun _ _ => rfl)) (pa_cons (pe_callTy (cTupOf (K := K)) (by rfl) T.z_tuple (by decide +kernel) (pa_cons (pv 3) pa_nil)) (pa_cons (pe_ix (ixLT (K := K)) (pv 4) pe_int (fun _ _ => rfl)) pa_nil)))) pa_nil))))
    (pss_one (ps_set (i := 3) sc_read_prefix.nd rfl (Or.inl rfl) (pe_lst pa_nil)))) pss_nil))))
    (pss_one (ps_ret (pv 2)))))), ?_⟩
    have hr6 := hS.len
    walk_at "go"
    refine n_new (le_size (by simp)) fun f H1 n1 s1 h1 => ?_
    walk_at "go"
    refine n_new (le_size (by simp)) fun it H2 n2 s2 h2 => ?_
    have s02 := s1.trans s2
    have h12 := s2 _ _ h1
    walk_at "go"
    refine ⟨p, lt, F, S, M, g, rfl, hS.same s02, hM, h4, h8, hk, hR, fun D cs H3 s3 n3 h3 t3 => ?_⟩
    have s03 := s02.trans s3
    have hl := countG_len (M := M) (lt := lt) (g := g) (n := M.r) (k := M.k) (acc := [])
    have hbd : ∀ p ∈ countG M lt g M.r [] M.k, p.xs.length ≤ 36 := countG_all (fun p h => by cases h) fun j hj p e => ((hR j hj).2 p e).2
    generalize countG M lt g M.r [] M.k = ps at *
    have hl : ps.length ≤ 600 := by rw [List.length_nil] at hl; omega
    have lc : cs.length = ps.length := by rw [t3.1, List.length_map]
    refine i_lst (slO h3) ?_
    refine l_lst (xs := cs.map V.ref) (fun i σ4 H4 => ∃ (it : Addr) (y : Option V) (ts : List Addr), σ4 = [some (.ref p), some (.int lt), some (.ref f), some (.ref it), y] ∧ Same H H4 ∧ H it = none ∧ it ≠ f ∧ D ≠ it ∧ H4 D = some (.lst (cs.map V.ref)) ∧ H4 f = some (.lst (ts.map V.ref)) ∧ H4 it = some (.lst ((ps.take i).foldl rdStep ([], [])).1) ∧
      TupsAt K H4 cs (ps.map Pc.ct) ∧ RecsAt K H4 ts ((ps.take i).foldl rdStep ([], [])).2) ⟨it, none, [], rfl, s03, free_ s1 n2, ne_of_none' h1 n2, ne_of_none' h2 n3, h3, s3 _ _ h12, s3 _ _ h2, t3, ⟨rfl, fun i t r a => by cases a⟩⟩ (fun i σ4 H4 hi q => ?_) (fun σ4 H4 q => ?_) (fun i x σ4 H4 hx q => ?_)
    · obtain ⟨it, y, ts, q⟩ := q
      exact slO q.2.2.2.2.2.1
    · obtain ⟨it, y, ts, rfl, s4, ni, nf, nd, hD, hf, hi, tu, re⟩ := q
      rw [List.length_map, lc, List.take_length] at re
      walk_at "go"
      exact k f ts H4 s4 n1 hf re
    · obtain ⟨it, y, ts, rfl, s4, ni, nf, nd, hD, hf, hi, tu, re⟩ := q
      have hi' : i < cs.length := by
        have := (List.getElem?_eq_some_iff.mp hx).1
        simpa using this
      have hp : i < ps.length := by omega
      have ex : x = .ref cs[i] := by
        rw [List.getElem?_map, List.getElem?_eq_getElem hi'] at hx
        exact (Option.some.inj hx).symm
      subst ex
      have hc : SqT K H4 cs[i] ps[i].ct := tu.2 i _ _ (List.getElem?_eq_getElem hi') (by rw [List.getElem?_map, List.getElem?_eq_getElem hp]; rfl)
      have ln := rd_len (ps := ps.take i) (st := ([], [])) (n := 0) (fun p h => hbd p (List.mem_of_mem_take h)) (Nat.zero_le _)
      have ln2 := rd_len2 (ps := ps.take i) (st := ([], []))
      rw [List.length_take] at ln ln2
      have et : (ps.take (i + 1)).foldl rdStep ([], []) = rdStep ((ps.take i).foldl rdStep ([], [])) ps[i] := by
        rw [List.take_add_one, List.getElem?_eq_getElem hp, List.foldl_append]; rfl
      have hxi := hbd ps[i] (List.getElem_mem hp)
      rw [et]
      generalize (ps.take i).foldl rdStep ([], []) = st at *
      generalize ps[i] = q at *
      have ln : st.1.length ≤ 36 * 600 := by omega
      have ln2 : st.2.length ≤ 600 := by rw [List.length_nil] at ln2; omega
      walk_at "go"
      refine r_slT hc fun c5 H5 s5 hc5 => ?_
      rw [show cutV q.ct (some 4) none = q.xs from cut_from (i := 4)] at hc5
      have hi5 := s5 _ _ hi
      walk_at "go"
      refine r_extT hi5 hc5 (by omega) fun H6 o6 e6 => ?_
      have c56 : Ch [it] H5 H6 := Ch.of_oth o6 (by simp) fun o e => by rw [hi5] at e; cases e; rfl
      have kp : ∀ c xs, SqT K H4 c xs → SqT K H6 c xs := fun c xs h => c56.st (st_ s5 h)
      have hc6 : SqT K H6 cs[i] (.int q.k :: .int q.e :: .int q.r :: .int q.l :: q.xs) := kp _ _ hc
      have s6 : Same H H6 := fun b o e => c56 b o (s5 _ _ (s4 _ _ e)) (.inl fun m => by rw [List.mem_singleton.mp m, ni] at e; cases e)
      have hf6 := o6 _ _ (Ne.symm nf) (s5 _ _ hf)
      have hD6 := o6 _ _ nd (s5 _ _ hD)
      have tu6 : TupsAt K H6 cs (ps.map Pc.ct) := ⟨tu.1, fun i c xs a b => kp _ _ (tu.2 i c xs a b)⟩
      have re6 := re.st kp
      walk_at "go"
      refine o_ixT hc6 (atI_in (j := 3) rfl rfl) ?_
      walk_at "go"
      refine i_d (fun z => ?_) (fun z => ?_)
      · have er : rdStep st q = ([], st.2 ++ [(q.r, st.1 ++ q.xs, q.e)]) := by unfold rdStep; rw [if_pos (by omega)]
        walk_at "go"
        refine o_ixT hc6 (atI_in (j := 2) rfl rfl) ?_
        walk_at "go"
        refine n_new0 fun a7 H7 n7 s7 h7 => ?_
        have hc7 := st_ s7 hc6
        walk_at "go"
        refine o_ixT hc7 (atI_in (j := 1) rfl rfl) ?_
        walk_at "go"
        refine n_new (le_size (by simp)) fun t8 H8 n8 s8 h8 => ?_
        have s68 := s7.trans s8
        have hf8 := s68 _ _ hf6
        walk_at "go"
        refine r_app hf8 (by rw [List.length_map, re.1]; omega) fun H9 o9 e9 => ?_
        have c89 : Ch [f] H8 H9 := Ch.of_oth o9 (by simp) fun o e => by rw [hf8] at e; cases e; rfl
        walk_at "go"
        refine n_new (le_size (by simp)) fun i2 H10 n10 s10 h10 => ?_
        have kp2 : ∀ c xs, SqT K H6 c xs → SqT K H10 c xs := fun c xs h => st_ s10 (c89.st (st_ s68 h))
        have s9 : Same H H9 := fun b o e => c89 b o (s68 _ _ (s6 _ _ e)) (.inl fun m => by rw [List.mem_singleton.mp m, n1] at e; cases e)
        have ndf : D ≠ f := fun z => by rw [z, h12] at n3; cases n3
        have hD10 := s10 _ _ (o9 _ _ ndf (s68 _ _ hD6))
        walk_at "go"
        refine ⟨i2, _, ts ++ [t8], rfl, s9.trans s10, free_ s9 n10, ne_of_none' e9 n10, Ne.symm (ne_of_none' (o9 _ _ ndf (s68 _ _ hD6)) n10), hD10, ?_, ?_, ⟨tu6.1, fun i c xs a b => kp2 _ _ (tu6.2 i c xs a b)⟩, ?_⟩
        · rw [List.map_append]; exact s10 _ _ e9
        · rw [er]; exact h10
        · rw [er]
          exact (re6.st kp2).snoc (a := a7) (r := (q.r, st.1 ++ q.xs, q.e)) (st_ s10 (c89.st (stO h8))) (st_ s10 (c89.st (st_ s8 (stO h7))))
      · have er : rdStep st q = (st.1 ++ q.xs, st.2) := by unfold rdStep; rw [if_neg (by omega)]
        walk_at "go"
        refine ⟨it, _, ts, rfl, s6, ni, nf, nd, hD6, hf6, ?_, tu6, ?_⟩
        · rw [er]; exact e6
        · rw [er]; exact re6
end



section
variable {P : Program} {w : World} {K : PySem.W.Frag} {mg : Str → Option Value} {base : Heap}
/-! ### a log as data -/
abbrev Kp := List V × Nat × Nat
structure LD where
  ep : Nat
  ring : Nat
  bg : Nat
  bk : Nat
  nk : Nat
  fo : Option Int
  kept : List Kp
def LD.last (L : LD) : Int := (L.bg : Int) + (L.kept.length : Nat) - 1
def lf (p kl : Addr) (L : LD) : List (Str × V) := ("_disk", V.ref p) :: ("_epoch", V.int L.ep) :: ("_ring", V.int L.ring) :: ("_begin", V.int L.bg) :: ("_kept", V.ref kl) :: ("_begin_k", V.int L.bk) :: ("_next_k", V.int L.nk) :: (match L.fo with | none => [] | some i => [("_forced", V.int i)])
section
variable (p kl : Addr) (L : LD) (n : Int)
theorem lf_d : (lf p kl L).lookup ("_disk" : Str) = some (V.ref p) := by unfold lf; cases L.fo <;> rfl
theorem lf_e : (lf p kl L).lookup ("_epoch" : Str) = some (V.int L.ep) := by unfold lf; cases L.fo <;> rfl
theorem lf_r : (lf p kl L).lookup ("_ring" : Str) = some (V.int L.ring) := by unfold lf; cases L.fo <;> rfl
theorem lf_b : (lf p kl L).lookup ("_begin" : Str) = some (V.int L.bg) := by unfold lf; cases L.fo <;> rfl
theorem lf_k : (lf p kl L).lookup ("_kept" : Str) = some (V.ref kl) := by unfold lf; cases L.fo <;> rfl
theorem lf_bk : (lf p kl L).lookup ("_begin_k" : Str) = some (V.int L.bk) := by unfold lf; cases L.fo <;> rfl
theorem lf_nk : (lf p kl L).lookup ("_next_k" : Str) = some (V.int L.nk) := by unfold lf; cases L.fo <;> rfl
theorem lf_f (h : L.fo = some n) : (lf p kl L).lookup ("_forced" : Str) = some (V.int n) := by unfold lf; rw [h]; rfl
theorem lf_pf : putF "_forced" (.int n) (lf p kl L) = lf p kl { L with fo := some n } := by
  unfold lf
  cases L.fo <;> rfl
theorem lf_pn (m : Nat) : putF "_next_k" (.int m) (lf p kl L) = lf p kl { L with nk := m } := by
  unfold lf
  cases L.fo <;> rfl
theorem lf_len : (lf p kl L).length < 1000 := by
  unfold lf
  cases L.fo
  · show 7 < 1000
    decide
  · show 8 < 1000
    decide
theorem lf_no {m : Str} (h : ((["_disk", "_epoch", "_ring", "_begin", "_kept", "_begin_k", "_next_k", "_forced"] : List Str)).contains m = false) : (lf p kl L).lookup m = none := by
  unfold lf
  simp only [List.contains_cons, List.contains_nil, Bool.or_false, Bool.or_eq_false_iff] at h
  cases L.fo <;> simp only [List.cons_append, List.nil_append, List.lookup, h.1, h.2.1, h.2.2.1, h.2.2.2.1, h.2.2.2.2.1, h.2.2.2.2.2.1, h.2.2.2.2.2.2.1, h.2.2.2.2.2.2.2]
end
def KeptAt (K : PySem.W.Frag) (H : Hp) (ts : List Addr) (ks : List Kp) : Prop := ts.length = ks.length ∧ ∀ (i : Nat) (t : Addr) (r : Kp), ts[i]? = some t → ks[i]? = some r → ∃ a, SqT K H t [.ref a, .int r.2.1, .int r.2.2] ∧ SqT K H a r.1
theorem KeptAt.st {H H' : Hp} {ts : List Addr} {rs : List Kp} (h : KeptAt K H ts rs) (k : ∀ c xs, SqT K H c xs → SqT K H' c xs) : KeptAt K H' ts rs := ⟨h.1, fun i t r a b => (h.2 i t r a b).elim fun x q => ⟨x, k _ _ q.1, k _ _ q.2⟩⟩
theorem KeptAt.snoc {H : Hp} {ts : List Addr} {rs : List Kp} {t a : Addr} {r : Kp} (h : KeptAt K H ts rs) (h1 : SqT K H t [.ref a, .int r.2.1, .int r.2.2]) (h2 : SqT K H a r.1) : KeptAt K H (ts ++ [t]) (rs ++ [r]) := by
  refine ⟨by rw [List.length_append, List.length_append, h.1]; rfl, fun i d ys x y => ?_⟩
  have l := h.1
  by_cases hi : i < ts.length
  · rw [List.getElem?_append_left hi] at x
    rw [List.getElem?_append_left (by omega)] at y
    exact h.2 i d ys x y
  · rw [List.getElem?_append_right (by omega)] at x
    rw [List.getElem?_append_right (by omega)] at y
    rw [l] at x
    cases e : i - rs.length with
    | zero =>
      rw [e] at x y
      cases x; cases y; exact ⟨a, h1, h2⟩
    | succ n => rw [e] at x; cases x
/-- a log over the disk at p, its own places G -/
def LS (K : PySem.W.Frag) (C : Addr) (H : Hp) (q p : Addr) (G : List Addr) (L : LD) : Prop := ∃ kl ts, G = [q, kl] ∧ InsAt C H q (lf p kl L) ∧ H kl = some (.lst (ts.map V.ref)) ∧ KeptAt K H ts L.kept
theorem LS.ch {C q p : Addr} {F G : List Addr} {H H' : Hp} {L : LD} (h : LS K C H q p G L) (s : Ch F H H') (n : ∀ a ∈ G, a ∉ F) : LS K C H' q p G L := by
  obtain ⟨kl, ts, rfl, ⟨dx, h1⟩, h2, h3⟩ := h
  exact ⟨kl, ts, rfl, ⟨dx, s.at_ (n _ (by simp)) h1⟩, s.at_ (n _ (by simp)) h2, h3.st fun c xs z => s.st z⟩
theorem LS.same {C q p : Addr} {G : List Addr} {H H' : Hp} {L : LD} (h : LS K C H q p G L) (s : Same H H') : LS K C H' q p G L := h.ch (F := []) (Ch.of_same s) (by simp)
theorem LS.there {C q p : Addr} {G : List Addr} {H : Hp} {L : LD} (h : LS K C H q p G L) : ∀ a ∈ G, H a ≠ none := by
  obtain ⟨kl, ts, rfl, ⟨dx, h1⟩, h2, h3⟩ := h
  intro a m e
  rcases List.mem_cons.mp m with z | m
  · subst z; rw [h1] at e; cases e
  · rw [List.mem_singleton.mp m, h2] at e; cases e
def sp_last (K : PySem.W.Frag) (C : Addr) : Sp := fun vs H Q _ => ∃ q p G L, vs = [.ref q] ∧ LS K C H q p G L ∧ L.kept.length ≤ 10000 ∧ Q (.int L.last) H
theorem ok_Log_last (T : Txt K mg) : FnOk P w K mg base CX0 1 T.m_Log_last.f T.m_Log_last.fd ["self"] ((sp_last K T.C_Log)) := by
  refine T.m_Log_last.F.ok sc_Log_last (fun vs H Q E h => ?_) (fun cdv A outer s H vs Q E hr h => ?_)
  · obtain ⟨q, p, G, L, rfl, _⟩ := h
    rfl
  · obtain ⟨q, p, G, L, rfl, hL, hn, k⟩ := h
    refine ⟨_, (pss_one (ps_ret (pe_op op_sub (pe_op oAdd (peFld (K := K) (pv 0) rfl) (pe_callB (cLen (K := K)) (by rfl) T.z_len PySem.boot_len (pa_cons (peFld (K := K) (pv 0) rfl) pa_nil))) pe_int))), ?_⟩
    obtain ⟨kl, ts, eG, hob, hkl, hka⟩ := hL
    walk_at "go"
    refine o_fld hob T.k_Log.cl T.n_Log__begin (lf_b _ _ _) ?_
    walk_at "go"
    refine o_fld hob T.k_Log.cl T.n_Log__kept (lf_k _ _ _) ?_
    walk_at "go"
    have e : (L.bg : Int) + (ts.length : Nat) - 1 = L.last := by
      unfold LD.last
      rw [hka.1]
    rw [e]
    exact k
end



section
variable {P : Program} {w : World} {K : PySem.W.Frag} {mg : Str → Option Value} {base : Heap}
/-! ### a record more -/
def LD.more (L : LD) (xs : List V) (e : Nat) : LD := { L with nk := L.nk + cutN xs, kept := L.kept ++ [(xs, L.nk, e)] }
def sp_keep (K : PySem.W.Frag) (C : Addr) : Sp := fun vs H Q _ => ∃ (q p : Addr) (G : List Addr) (L : LD) (a : Addr) (xs : List V) (e : Nat), vs = [.ref q, .ref a, .int e] ∧ LS K C H q p G L ∧ L.kept.length ≤ 10000 ∧ SqT K H a xs ∧ xs.length ≤ 30000 ∧ ∀ H', LS K C H' q p G (L.more xs e) → Ch G H H' → Q .non H'
theorem ok_Log__keep (T : Txt K mg) : FnOk P w K mg base CX0 2 T.m_Log__keep.f T.m_Log__keep.fd ["self", "record", "epoch"] ((sp_keep K T.C_Log)) := by
  refine T.m_Log__keep.F.ok sc_Log__keep (fun vs H Q E h => ?_) (fun cdv A outer s H vs Q E hr h => ?_)
  · obtain ⟨q, p, G, L, a, xs, e, rfl, _⟩ := h
    rfl
  · obtain ⟨q, p, G, L, a, xs, e, rfl, hL, hn, ha, hl, k⟩ := h
    refine ⟨_, (pss_cons (ps_expr (peApp (K := K) (pe_bm PySem.F.plainAttrs_list PySem.F.slot_list_append PySem.F.type_list_append mt_append (peFld (K := K) (pv 0) rfl) (pa_cons (pe_tup (pa_cons (pv 1) (pa_cons (peFld (K := K) (pv 0) rfl) (pa_cons (pv 2) pa_nil)))) pa_nil))))
    (pss_one (ps_fldaug (pv 0) (pe_callB (cLen (K := K)) (by rfl) T.z_len PySem.boot_len (pa_cons (pe_call (ok_pieces_of T) (hr.mono (by decide)) (by rfl) T.pieces_of.g T.pieces_of.F.kp T.pieces_of.b .nil pass0 (pa_cons (pv 1) pa_nil)) pa_nil)) in_add))), ?_⟩
    obtain ⟨kl, ts, eG, ⟨dx, hob⟩, hkl, hka⟩ := hL
    have nqk : q ≠ kl := fun z => by rw [z, hkl] at hob; cases hob
    walk_at "go"
    refine o_fld ⟨dx, hob⟩ T.k_Log.cl T.n_Log__kept (lf_k _ _ _) ?_
    walk_at "go"
    refine o_fld ⟨dx, hob⟩ T.k_Log.cl T.n_Log__next_k (lf_nk _ _ _) ?_
    walk_at "go"
    refine n_new (le_size (by simp)) fun t H1 n1 s1 h1 => ?_
    have hkl1 := s1 _ _ hkl
    walk_at "go"
    refine r_app hkl1 (by rw [List.length_map, hka.1]; omega) fun H2 o2 h2 => ?_
    have c12 : Ch [kl] H1 H2 := Ch.of_oth o2 (by simp) fun o e => by rw [hkl1] at e; cases e; rfl
    have hob2 := o2 _ _ nqk (s1 _ _ hob)
    have ha2 := c12.st (st_ s1 ha)
    walk_at "go"
    refine ⟨_, rfl, q, T.C_Log, dx, _, _, rfl, hob2, T.k_Log.cl, T.n_Log__next_k, lf_nk _ _ _, ?_⟩
    walk_at "go"
    refine ⟨a, xs, rfl, ha2, hl, fun D cs H3 s3 n3 h3 t3 => ?_⟩
    walk_at "go"
    have ec : cs.length = cutN xs := by rw [t3.1, cutUp_length]
    refine ⟨_, _, rfl, rfl, dx, _, s3 _ _ hob2, lf_len _ _ _, ?_⟩
    have en : (L.nk : Int) + (cs.length : Nat) = ((L.nk + cutN xs : Nat) : Int) := by rw [ec]; omega
    rw [en, lf_pn]
    have c34 : Ch [q] H3 (upd H3 q (.ins T.C_Log dx (lf p kl { L with nk := L.nk + cutN xs }))) := Ch.upd1 (by simp) fun o e => by rw [s3 _ _ hob2] at e; cases e; rfl
    have kp : ∀ c ys, SqT K H1 c ys → SqT K (upd H3 q (.ins T.C_Log dx (lf p kl { L with nk := L.nk + cutN xs }))) c ys := fun c ys h => c34.st (st_ s3 (c12.st h))
    refine k _ ⟨kl, ts ++ [t], eG, ⟨dx, upd_same⟩, ?_, ?_⟩ ?_
    · rw [upd_ne (Ne.symm nqk), List.map_append]; exact s3 _ _ h2
    · exact (hka.st fun c ys h => kp c ys (st_ s1 h)).snoc (a := a) (r := (xs, L.nk, e)) (kp _ _ (stO h1)) (kp _ _ (st_ s1 ha))
    · subst eG
      exact fun b o e c => (c34.mono (F' := [q, kl]) (by simp)) b o (s3 _ _ ((c12.mono (F' := [q, kl]) (by simp)) b o (s1 _ _ e) c)) c
/-! ### the records told -/
def LD.pairs (L : LD) : List (Int × List V) := (List.range L.kept.length).map fun i : Nat => ((L.bg : Int) + (i : Nat), (L.kept.getD i ([], 0, 0)).1)
def PairsTo (K : PySem.W.Frag) (H : Hp) (ts : List Addr) (rs : List (Int × List V)) : Prop := ts.length = rs.length ∧ ∀ (i : Nat) (t : Addr) (r : Int × List V), ts[i]? = some t → rs[i]? = some r → ∃ a, SqT K H t [.int r.1, .ref a] ∧ SqT K H a r.2
theorem PairsTo.st {H H' : Hp} {ts : List Addr} {rs : List (Int × List V)} (h : PairsTo K H ts rs) (k : ∀ c xs, SqT K H c xs → SqT K H' c xs) : PairsTo K H' ts rs := ⟨h.1, fun i t r a b => (h.2 i t r a b).elim fun x q => ⟨x, k _ _ q.1, k _ _ q.2⟩⟩
theorem pairsTo_snoc {H : Hp} {ts : List Addr} {rs : List (Int × List V)} {t a : Addr} {r : Int × List V} (h : PairsTo K H ts rs) (h1 : SqT K H t [.int r.1, .ref a]) (h2 : SqT K H a r.2) : PairsTo K H (ts ++ [t]) (rs ++ [r]) := by
  refine ⟨by rw [List.length_append, List.length_append, h.1]; rfl, fun i d ys x y => ?_⟩
  have l := h.1
  by_cases hi : i < ts.length
  · rw [List.getElem?_append_left hi] at x
    rw [List.getElem?_append_left (by omega)] at y
    exact h.2 i d ys x y
  · rw [List.getElem?_append_right (by omega)] at x
    rw [List.getElem?_append_right (by omega)] at y
    rw [l] at x
    cases e : i - rs.length with
    | zero =>
      rw [e] at x y
      cases x; cases y; exact ⟨a, h1, h2⟩
    | succ n => rw [e] at x; cases x
def sp_records (K : PySem.W.Frag) (C : Addr) : Sp := fun vs H Q _ => ∃ q p G L, vs = [.ref q] ∧ LS K C H q p G L ∧ L.kept.length ≤ 10000 ∧ ∀ D ts H', Same H H' → H D = none → H' D = some (.lst (ts.map V.ref)) → PairsTo K H' ts L.pairs → Q (.ref D) H'
theorem ok_Log_records (T : Txt K mg) : FnOk P w K mg base CX0 1 T.m_Log_records.f T.m_Log_records.fd ["self"] ((sp_records K T.C_Log)) := by
  refine T.m_Log_records.F.ok sc_Log_records (fun vs H Q E h => ?_) (fun cdv A outer s H vs Q E hr h => ?_)
  · obtain ⟨q, p, G, L, rfl, _⟩ := h
    rfl
  · obtain ⟨q, p, G, L, rfl, hL, hn, k⟩ := h
    refine ⟨_, (pss_one (ps_ret (pe_lc (own := [("place", 1), ("row", 2)]) rfl sc_Log_records.nd (piEnumT (K := K) (by rfl) T.z_enumerate (pa_cons (peFld (K := K) (pv 0) rfl) pa_nil)) (blkOk_by (N := n_Log_records) (sc := defScope s_Log_records) (by decide +kernel)) (fun _ _ _ _ _ => (pgTup (K := K) (n := 2) (pg_tup (n := 2) rfl (pgs_cons (pg_name (i := 1) sc_Log_records.nd rfl (Or.inl rfl)) (pgs_cons (pg_name (i := 2) sc_Log_records.nd rfl (Or.inl rfl)) pgs_nil))))) (fun _ _ _ _ _ => pts_nil) (fun _ _ _ _ _ => (pe_tup (pa_cons (pe_op oAdd (peFld (K := K) (pv 0) rfl) (pv 1)) (pa_cons (pe_ix (ixLT (K := K)) (pv 2) pe_int (fun _ _ => rfl)) pa_nil))))))), ?_⟩
    obtain ⟨kl, ts, eG, ⟨dx, hob⟩, hkl, hka⟩ := hL
    walk_at "go"
    refine o_fld ⟨dx, hob⟩ T.k_Log.cl T.n_Log__kept (lf_k _ _ _) ?_
    walk_at "go"
    refine i_enumX (.inl (slO hkl)) (Same.refl _) fun J G hG hW => ?_
    refine c_it hW (fun i acc H2 => Same H H2 ∧ ∃ us, acc = us.map V.ref ∧ PairsTo K H2 us (L.pairs.take i)) (fun D hD => ⟨upd_free (Same.refl _) hD, [], rfl, rfl, fun i t r a => by cases a⟩) (fun i acc H2 hi p => hG _ p.1) (fun acc D H2 hD hp p => ?_) (fun i x acc H2 H3 D hi hD hp p y => ?_)
    · obtain ⟨s2, us, rfl, pt⟩ := p
      have el : (ts.map V.ref).length = L.pairs.length := by
        unfold LD.pairs
        rw [List.length_map, List.length_map, List.length_range, hka.1]
      rw [el, List.take_length] at pt
      exact k D us H2 s2 hD hp pt
    · obtain ⟨s2, us, rfl, pt⟩ := p
      obtain ⟨Tp, x1, x2, rfl, nT, rfl, e1, e2⟩ := y
      have hi' : i < ts.length := by simpa using hi
      have hi2 : i < L.kept.length := by rw [← hka.1]; exact hi'
      have ex1 : x1 = .int (i : Nat) := (Option.some.inj e1).symm
      have e2 : (ts.map V.ref)[i]? = some x2 := e2
      have ex2 : x2 = .ref ts[i] := by
        rw [List.getElem?_map, List.getElem?_eq_getElem hi'] at e2
        exact (Option.some.inj e2).symm
      subst ex1 ex2
      obtain ⟨a, ht, ha⟩ := hka.2 i _ _ (List.getElem?_eq_getElem hi') (List.getElem?_eq_getElem hi2)
      have s23 : Same H2 (upd H2 Tp (.tup [.int (i : Nat), .ref ts[i]])) := Same.new nT
      refine g_pair upd_same ⟨rfl, ?_⟩
      generalize upd H2 Tp (.tup [.int (i : Nat), .ref ts[i]]) = H3 at s23
      have s3 := s2.trans s23
      have ht3 := st_ s3 ht
      have ha3 := st_ s3 ha
      walk_at "go"
      refine o_fld ⟨dx, s3 _ _ hob⟩ T.k_Log.cl T.n_Log__begin (lf_b _ _ _) ?_
      walk_at "go"
      refine n_new (le_size (by simp)) fun t4 H4 n4 s4 h4 => ?_
      have hp4 := s4 _ _ (s23 _ _ hp)
      have ll : us.length = i := by
        rw [pt.1, List.length_take]
        unfold LD.pairs
        rw [List.length_map, List.length_range]; omega
      have c5 : Ch [D] H4 (upd H4 D (.lst (us.map V.ref ++ [V.ref t4]))) := Ch.upd1 (by simp) fun o e => by rw [hp4] at e; cases e; rfl
      refine ⟨_, hp4, lt_size (by rw [List.length_map]; omega), _, upd_same, upd_free (s3.trans s4) hD, us ++ [t4], by rw [List.map_append]; rfl, ?_⟩
      have ep : L.pairs[i]? = some ((L.bg : Int) + (i : Nat), (L.kept[i]).1) := by
        unfold LD.pairs
        rw [List.getElem?_map, List.getElem?_range hi2]
        show some ((L.bg : Int) + (i : Nat), (L.kept.getD i ([], 0, 0)).1) = _
        rw [List.getD_eq_getElem?_getD, List.getElem?_eq_getElem hi2]; rfl
      rw [List.take_add_one, ep]
      refine pairsTo_snoc (PairsTo.st pt fun c ys h => c5.st (st_ (s23.trans s4) h)) (a := a) (c5.st (stO h4)) (c5.st (st_ s4 ha3))
end



section
variable {P : Program} {w : World} {K : PySem.W.Frag} {mg : Str → Option Value} {base : Heap}
def sp_never : Sp := fun _ _ _ _ => False
theorem item_nat {n : Nat} (h : n ≤ 1000000000000000000000000000000) : itemB (.int n) = true := by
  show (false || within (.int n) _ _) = true
  unfold within
  rw [Bool.false_or, Bool.and_eq_true, decide_eq_true_eq, decide_eq_true_eq]
  constructor <;> omega
theorem SD.fB_true {b : Int} : ∀ (n : Nat) (S : SD), S.pw = none → (SD.fB b n S).2 = true ∧ (SD.fB b n S).1.pw = none
  | 0, S, h => ⟨rfl, h⟩
  | n + 1, S, h => by
    unfold SD.fB
    split
    · exact ⟨rfl, h⟩
    · next c cs e =>
      rw [if_neg (by rw [h]; simp)]
      exact SD.fB_true n _ (by show S.pw.map _ = none; rw [h]; rfl)
theorem SD.forceL_true : ∀ (l : List Int) (S : SD), S.pw = none → (SD.forceL l S).2 = true ∧ (SD.forceL l S).1.pw = none
  | [], S, h => ⟨rfl, h⟩
  | b :: bs, S, h => by
    have h1 := SD.fB_true (b := b) (S.rows b).length S h
    unfold SD.forceL
    rw [if_pos (show (S.forceB b).2 = true from h1.1)]
    exact SD.forceL_true bs _ h1.2
end



section
variable {P : Program} {w : World} {K : PySem.W.Frag} {mg : Str → Option Value} {base : Heap}
/-! ### a formatted disk -/
def fmM (r : Nat) : Mst := ⟨0, r, 0, 0, 0⟩
def metaC : Ct := [.int (-1), .str "meta", .int (-1), .int 1, .int 0, .int 0]
theorem mst_ok {M : Mst} (h : M.e ≤ 100000000000000000000000 ∧ M.r ≤ 1000000000000 ∧ M.k ≤ 1000000000000 ∧ M.m ≤ 1000000000000 ∧ M.f ≤ 1000000000000) : CtOk (Mst.ct M) := by
  refine ⟨by show 6 ≤ 1000; decide, fun x hx => ?_, ?_⟩
  · unfold Mst.ct at hx
    simp only [List.mem_cons, List.not_mem_nil, or_false] at hx
    rcases hx with rfl | rfl | rfl | rfl | rfl | rfl
    · decide +kernel
    all_goals rfl
  · unfold itemsB
    have ea : (Mst.ct M).all itemB = true := by
      refine List.all_eq_true.mpr fun x hx => ?_
      unfold Mst.ct at hx
      simp only [List.mem_cons, List.not_mem_nil, or_false] at hx
      rcases hx with rfl | rfl | rfl | rfl | rfl | rfl
      · decide +kernel
      all_goals exact item_nat (by omega)
    rw [ea]; rfl
theorem meta_ok : CtOk metaC := ⟨by decide, by unfold metaC; decide +kernel, by decide +kernel⟩
def SD.fm (b r : Nat) : SD := ((SD.new b).wrote 0 (Mst.ct (fmM r))).wrote ((r : Int) + 1) metaC
theorem same_ch {F : List Addr} {H H1 H2 : Hp} (s : Same H H1) (c : Ch F H1 H2) (n : ∀ x ∈ F, H x = none) : Same H H2 := fun b o e => c b o (s b o e) (.inl fun m => by rw [n b m] at e; cases e)
theorem fresh_ch {F F' : List Addr} {H H1 : Hp} (s : Same H H1) (f : ∀ x ∈ F', x ∈ F ∨ H1 x = none) (n : ∀ x ∈ F, H x = none) : ∀ x ∈ F', H x = none := fun x hx => (f x hx).elim (n x) fun z => free_ s z
theorem fm_few {b r : Nat} : Few (SD.fm b r) := ⟨[0, (r : Int) + 1], by show 2 < 64; decide, fun x hx => by
  have hx : (if x = (r : Int) + 1 then (if (r : Int) + 1 = 0 then ([] : List Ct) ++ [Mst.ct (fmM r)] else []) ++ [metaC] else (if x = 0 then ([] : List Ct) ++ [Mst.ct (fmM r)] else [])) ≠ [] := hx
  by_cases h1 : x = (r : Int) + 1
  · rw [h1]; simp
  · rw [if_neg h1] at hx
    by_cases h2 : x = 0
    · rw [h2]; simp
    · rw [if_neg h2] at hx; exact absurd rfl hx⟩
def sp_formatted (K : PySem.W.Frag) (C Cb : Addr) : Sp := fun vs H Q E => (∃ b r : Nat, vs = [.int b, .int r] ∧ 16 ≤ b ∧ b ≤ 600 ∧ 4 ≤ r ∧ r + 8 ≤ b ∧ ∀ p F H' ns, Wt (SD.fm b r) ns → DS K C H' p F (SD.forceL ns (SD.fm b r)).1 → Same H H' → (∀ x ∈ F, H x = none) → Q (.ref p) H') ∨ (∃ v r, vs = [v, r] ∧ Od K H v ∧ within v 16 600 = false ∧ ∀ H', Same H H' → E (.ref Cb) none H') ∨ (∃ (b : Nat) (r : V), vs = [.int b, r] ∧ 16 ≤ b ∧ b ≤ 600 ∧ Od K H r ∧ within r 4 ((b : Int) - 8) = false ∧ ∀ H', Same H H' → E (.ref Cb) none H')
theorem ok_formatted (T : Txt K mg) : FnOk P w K mg base (L2.CX P w) 6 T.formatted.f T.formatted.fd ["blocks", "ring"] ((sp_formatted K T.C_Disk T.e_BadDisk.C)) := by
  refine T.formatted.F.okX sc_formatted (fun vs H Q E h => ?_) (fun cdv A outer s H vs Q E hr h => ?_)
  · rcases h with ⟨b, r, rfl, _⟩ | ⟨v, r, rfl, _⟩ | ⟨b, r, rfl, _⟩ <;> rfl
  · rcases h with ⟨b, r, rfl, h16, h600, h4, h8, k⟩ | ⟨v, r, rfl, hv, hw, kE⟩ | ⟨b, r, rfl, h16, h600, hv, hw, kE⟩
    rotate_left 1
    · refine ⟨_, (pss_cons (ps_set (i := 2) sc_formatted.nd rfl (Or.inl rfl) (pe_make (T.m_Disk_init.made T.k_Disk) (ok_Disk_init T) (hr.mono (by decide)) (by rfl) T.k_Disk.g T.m_Disk_init.b .nil (passes_call (takes_of rfl rfl rfl rfl) (fun _ _ _ _ h => h)) (pa_cons (pv 0) pa_nil)))
    (pss_cons (ps_if (pt_not (ptTruth (K := K) (pe_call (ok_is_ring_size T) (hr.mono (by decide)) (by rfl) T.is_ring_size.g T.is_ring_size.F.kp T.is_ring_size.b .nil pass0 (pa_cons (pv 1) (pa_cons (pv 0) pa_nil))) (by intro _; rfl))) (pss_one (ps_raise rfl (takes_of rfl rfl rfl rfl) (pmk_oexN T.e_BadDisk.o T.e_BadDisk.i T.e_BadDisk.t (ok_StoreError_init T.m_StoreError_init T.z_ValueError T.vV) (hr.mono (by decide)) T.m_StoreError_init.b pass0 (by rfl) T.e_BadDisk.g))) pss_nil)
    (pss_cons (ps_expr (pe_meth (pv 2) T.k_Disk.cl T.m_Disk_write.i (ok_Disk_write T) (hr.mono (by decide)) T.m_Disk_write.b .nil pass0 (pa_cons pe_int (pa_cons (pe_tup (pa_cons (pe_glob (by rfl) T.c_MASTER.h T.c_MASTER.r) (pa_cons pe_int (pa_cons (pv 1) (pa_cons pe_int (pa_cons pe_int (pa_cons pe_int pa_nil))))))) pa_nil))))
    (pss_cons (ps_expr (pe_meth (pv 2) T.k_Disk.cl T.m_Disk_write.i (ok_Disk_write T) (hr.mono (by decide)) T.m_Disk_write.b .nil pass0 (pa_cons (pe_op oAdd (pv 1) pe_int) (pa_cons (pe_tup (pa_cons (pe_un un_neg pe_int) (pa_cons pe_str (pa_cons (pe_un un_neg pe_int) (pa_cons pe_int (pa_cons pe_int (pa_cons pe_int pa_nil))))))) pa_nil))))
    (pss_cons (ps_expr (pe_meth0 (pv 2) T.k_Disk.cl T.m_Disk_calm.i (ok_Disk_calm T) (hr.mono (by decide)) T.m_Disk_calm.b .nil (passes_call (takes_of rfl rfl rfl rfl) (fun _ _ _ _ h => h))))
    (pss_one (ps_ret (pv 2)))))))), ?_⟩
      walk_at "go"
      show tCons _ _ _ _ _
      walk_at "go"
      refine fun p dx np ndx nepd => ?_
      have s5 : Same H (upd (upd H dx (.own p)) p (.ins T.C_Disk dx [])) := fun x o e => by
        rw [upd_ne (ne_of_none e np), upd_ne (ne_of_none e ndx)]; exact e
      exact .inr ⟨p, v, rfl, hv.same s5, hw, kE _ s5⟩
    · refine ⟨_, (pss_cons (ps_set (i := 2) sc_formatted.nd rfl (Or.inl rfl) (pe_make (T.m_Disk_init.made T.k_Disk) (ok_Disk_init T) (hr.mono (by decide)) (by rfl) T.k_Disk.g T.m_Disk_init.b .nil (passes_call (takes_of rfl rfl rfl rfl) (fun _ _ _ _ h => h)) (pa_cons (pv 0) pa_nil)))
    (pss_cons (ps_if (pt_not (ptTruth (K := K) (pe_call (ok_is_ring_size T) (hr.mono (by decide)) (by rfl) T.is_ring_size.g T.is_ring_size.F.kp T.is_ring_size.b .nil pass0 (pa_cons (pv 1) (pa_cons (pv 0) pa_nil))) (by intro _; rfl))) (pss_one (ps_raise rfl (takes_of rfl rfl rfl rfl) (pmk_oexN T.e_BadDisk.o T.e_BadDisk.i T.e_BadDisk.t (ok_StoreError_init T.m_StoreError_init T.z_ValueError T.vV) (hr.mono (by decide)) T.m_StoreError_init.b pass0 (by rfl) T.e_BadDisk.g))) pss_nil)
    (pss_cons (ps_expr (pe_meth (pv 2) T.k_Disk.cl T.m_Disk_write.i (ok_Disk_write T) (hr.mono (by decide)) T.m_Disk_write.b .nil pass0 (pa_cons pe_int (pa_cons (pe_tup (pa_cons (pe_glob (by rfl) T.c_MASTER.h T.c_MASTER.r) (pa_cons pe_int (pa_cons (pv 1) (pa_cons pe_int (pa_cons pe_int (pa_cons pe_int pa_nil))))))) pa_nil))))
    (pss_cons (ps_expr (pe_meth (pv 2) T.k_Disk.cl T.m_Disk_write.i (ok_Disk_write T) (hr.mono (by decide)) T.m_Disk_write.b .nil pass0 (pa_cons (pe_op oAdd (pv 1) pe_int) (pa_cons (pe_tup (pa_cons (pe_un un_neg pe_int) (pa_cons pe_str (pa_cons (pe_un un_neg pe_int) (pa_cons pe_int (pa_cons pe_int (pa_cons pe_int pa_nil))))))) pa_nil))))
    (pss_cons (ps_expr (pe_meth0 (pv 2) T.k_Disk.cl T.m_Disk_calm.i (ok_Disk_calm T) (hr.mono (by decide)) T.m_Disk_calm.b .nil (passes_call (takes_of rfl rfl rfl rfl) (fun _ _ _ _ h => h))))
    (pss_one (ps_ret (pv 2)))))))), ?_⟩
      walk_at "go"
      show tCons _ _ _ _ _
      walk_at "go"
      refine fun p dx np ndx nepd => ?_
      have hp5 : upd (upd H dx (.own p)) p (.ins T.C_Disk dx []) p = some (.ins T.C_Disk dx []) := upd_same
      have s5 : Same H (upd (upd H dx (.own p)) p (.ins T.C_Disk dx [])) := fun x o e => by
        rw [upd_ne (ne_of_none e np), upd_ne (ne_of_none e ndx)]; exact e
      generalize upd (upd H dx (.own p)) p (.ins T.C_Disk dx []) = H5 at *
      refine w_init (n := b) ⟨dx, hp5⟩ h16 h600 fun F H6 d6 but6 hf6 => ⟨rfl, ?_⟩
      have s6 : Same H H6 := fun x o e => but6 x o (by rw [List.mem_singleton]; exact ne_of_none e np) (s5 x o e)
      walk_at "go"
      refine ⟨r, (b : Int), rfl, hv.same s6, ?_⟩
      rw [hw]
      walk_at "go"
      exact e_raise T.e_BadDisk.o (kE _ s6)
    refine ⟨_, (pss_cons (ps_set (i := 2) sc_formatted.nd rfl (Or.inl rfl) (pe_make (T.m_Disk_init.made T.k_Disk) (ok_Disk_init T) (hr.mono (by decide)) (by rfl) T.k_Disk.g T.m_Disk_init.b .nil (passes_call (takes_of rfl rfl rfl rfl) (fun _ _ _ _ h => h)) (pa_cons (pv 0) pa_nil)))
    (pss_cons (ps_if (pt_not (ptTruth (K := K) (pe_call (ok_is_ring_size T) (hr.mono (by decide)) (by rfl) T.is_ring_size.g T.is_ring_size.F.kp T.is_ring_size.b .nil pass0 (pa_cons (pv 1) (pa_cons (pv 0) pa_nil))) (by intro _; rfl))) (pss_one (ps_raise rfl (takes_of rfl rfl rfl rfl) (pmk_oexN T.e_BadDisk.o T.e_BadDisk.i T.e_BadDisk.t (ok_StoreError_init T.m_StoreError_init T.z_ValueError T.vV) (hr.mono (by decide)) T.m_StoreError_init.b pass0 (by rfl) T.e_BadDisk.g))) pss_nil)
    (pss_cons (ps_expr (pe_meth (pv 2) T.k_Disk.cl T.m_Disk_write.i (ok_Disk_write T) (hr.mono (by decide)) T.m_Disk_write.b .nil pass0 (pa_cons pe_int (pa_cons (pe_tup (pa_cons (pe_glob (by rfl) T.c_MASTER.h T.c_MASTER.r) (pa_cons pe_int (pa_cons (pv 1) (pa_cons pe_int (pa_cons pe_int (pa_cons pe_int pa_nil))))))) pa_nil))))
    (pss_cons (ps_expr (pe_meth (pv 2) T.k_Disk.cl T.m_Disk_write.i (ok_Disk_write T) (hr.mono (by decide)) T.m_Disk_write.b .nil pass0 (pa_cons (pe_op oAdd (pv 1) pe_int) (pa_cons (pe_tup (pa_cons (pe_un un_neg pe_int) (pa_cons pe_str (pa_cons (pe_un un_neg pe_int) (pa_cons pe_int (pa_cons pe_int (pa_cons pe_int pa_nil))))))) pa_nil))))
    (pss_cons (ps_expr (pe_meth0 (pv 2) T.k_Disk.cl T.m_Disk_calm.i (ok_Disk_calm T) (hr.mono (by decide)) T.m_Disk_calm.b .nil (passes_call (takes_of rfl rfl rfl rfl) (fun _ _ _ _ h => h))))
    (pss_one (ps_ret (pv 2)))))))), ?_⟩
    walk_at "go"
    show tCons _ _ _ _ _
    walk_at "go"
    refine fun p dx np ndx nepd => ?_
    have hp5 : upd (upd H dx (.own p)) p (.ins T.C_Disk dx []) p = some (.ins T.C_Disk dx []) := upd_same
    have s5 : Same H (upd (upd H dx (.own p)) p (.ins T.C_Disk dx [])) := fun x o e => by
      rw [upd_ne (ne_of_none e np), upd_ne (ne_of_none e ndx)]; exact e
    generalize upd (upd H dx (.own p)) p (.ins T.C_Disk dx []) = H5 at *
    refine w_init (n := b) ⟨dx, hp5⟩ h16 h600 fun F H6 d6 but6 hf6 => ⟨rfl, ?_⟩
    have s6 : Same H H6 := fun x o e => but6 x o (by rw [List.mem_singleton]; exact ne_of_none e np) (s5 x o e)
    have nF : ∀ x ∈ F, H x = none := fun x hx => by
      rcases hf6 x hx with z | z
      · rw [z]; exact np
      · exact free_ s5 z
    have ln : (SD.new b).lies.length = b := by show (List.replicate b _).length = b; rw [List.length_replicate]
    clear hf6 but6 hp5 s5
    walk_at "go"
    refine ⟨.int r, (b : Int), rfl, .inl rfl, ?_⟩
    have er : within (.int (r : Int)) 4 ((b : Int) - 8) = true := by
      show (decide (4 ≤ (r : Int)) && decide ((r : Int) ≤ (b : Int) - 8)) = true
      rw [decide_eq_true (show 4 ≤ (r : Int) by omega), decide_eq_true (show (r : Int) ≤ (b : Int) - 8 by omega)]; rfl
    rw [er]
    obtain ⟨fs, hdo, no⟩ := ins_of_ds d6
    walk_at "go"
    refine m_call0 hdo (no _ (by decide +kernel)) ?_
    walk_at "go"
    refine n_new (le_size (by simp)) fun t7 H7 n7 s7 h7 => ?_
    walk_at "go"
    refine w_write (xs := Mst.ct (fmM r)) (d6.same s7) (fun x => by show 0 < 1000; decide) (by omega) (by rw [ln]; omega) (stO h7) (mst_ok ⟨Nat.zero_le _, by show r ≤ _; omega, Nat.zero_le _, Nat.zero_le _, Nat.zero_le _⟩) fun F8 H8 d8 c8 f8 => ?_
    have s8 := same_ch (s6.trans s7) c8 nF
    have nF8 := fresh_ch (s6.trans s7) f8 nF
    obtain ⟨fs8, hdo8, no8⟩ := ins_of_ds d8
    walk_at "go"
    refine m_call0 hdo8 (no8 _ (by decide +kernel)) ?_
    walk_at "go"
    refine n_new (le_size (by simp)) fun t9 H9 n9 s9 h9 => ?_
    walk_at "go"
    refine w_write (xs := metaC) (d8.same s9) (fun x => ?_) (by omega) (by show (r : Int) + 1 < ((SD.new b).lies.length : Nat); rw [ln]; omega) (stO h9) meta_ok fun F10 H10 d10 c10 f10 => ?_
    · show (if x = 0 then ([] : List Ct) ++ [Mst.ct (fmM r)] else []).length < 1000
      split <;> simp
    have s10 := same_ch (s8.trans s9) c10 nF8
    have nF10 := fresh_ch (s8.trans s9) f10 nF8
    obtain ⟨fs10, hdo10, no10⟩ := ins_of_ds d10
    walk_at "go"
    refine m_call0 hdo10 (no10 _ (by decide +kernel)) ?_
    walk_at "go"
    refine ⟨p, F10, SD.fm b r, rfl, d10, fm_few, fun ns W H11 F11 d11 c11 f11 => ?_⟩
    rw [if_pos (SD.forceL_true ns _ rfl).1]
    walk_at "go"
    exact k p F11 H11 ns W d11 (same_ch s10 c11 nF10) (fresh_ch s10 f11 nF10)
end



section
variable {P : Program} {w : World} {K : PySem.W.Frag} {mg : Str → Option Value} {base : Heap}
/-! ### what a force leaves -/
theorem shows_got {S : SD} {b x : Int} {c : Ct} {cs : List Ct} (h : S.Ok) (e : S.rows b = c :: cs) (x0 : 0 ≤ x) : (S.got b c cs).shows x = S.shows x := by
  have hb := h.out b (by rw [e]; simp)
  unfold SD.shows
  show (if (if x = b then cs else S.rows x) = [] then (S.lies.set b.toNat c)[x.toNat]? else (if x = b then cs else S.rows x)[(if x = b then cs else S.rows x).length - 1]?) = _
  by_cases hx : x = b
  · subst hx
    rw [if_pos rfl, e]
    cases cs with
    | nil =>
      rw [if_pos rfl, if_neg (by simp), List.getElem?_set_self (by omega)]; rfl
    | cons d ds =>
      rw [if_neg (by simp), if_neg (by simp)]
      show (d :: ds)[ds.length]? = (c :: d :: ds)[ds.length + 1]?
      rw [List.getElem?_cons_succ]
  · rw [if_neg hx]
    rw [List.getElem?_set_ne (by omega)]
structure After (S T : SD) : Prop where
  ok : T.Ok
  pw : T.pw = none
  ln : T.lies.length = S.lies.length
  sh : ∀ x, 0 ≤ x → T.shows x = S.shows x
theorem forceL_after {S : SD} {ns : List Int} (h : S.Ok) (p : S.pw = none) : After S (SD.forceL ns S).1 := by
  refine SD.forceL_ind (Pr := fun T => After S T) (fun b T c cs t e np => ?_) ns S ⟨h, p, rfl, fun _ _ => rfl⟩
  refine ⟨SD.got_ok t.ok e np, by show T.pw.map _ = none; rw [t.pw]; rfl, ?_, fun x x0 => (shows_got t.ok e x0).trans (t.sh x x0)⟩
  show (T.lies.set _ _).length = _
  rw [List.length_set]; exact t.ln
theorem fB_rows {b x : Int} : ∀ (n : Nat) (S : SD), S.pw = none → (S.rows b).length ≤ n → (SD.fB b n S).1.rows x = if x = b then [] else S.rows x
  | 0, S, _, h => by
    have e : S.rows b = [] := List.length_eq_zero_iff.mp (by omega)
    show S.rows x = _
    by_cases hx : x = b
    · rw [if_pos hx, hx, e]
    · rw [if_neg hx]
  | n + 1, S, p, h => by
    unfold SD.fB
    split
    · next e =>
      show S.rows x = _
      by_cases hx : x = b
      · rw [if_pos hx, hx, e]
      · rw [if_neg hx]
    · next c cs e =>
      rw [if_neg (by rw [p]; simp)]
      have e2 : (S.got b c cs).rows b = cs := if_pos rfl
      rw [fB_rows n (S.got b c cs) (by show S.pw.map _ = none; rw [p]; rfl) (by rw [e2]; rw [e, List.length_cons] at h; omega)]
      by_cases hx : x = b
      · rw [if_pos hx, if_pos hx]
      · rw [if_neg hx, if_neg hx]
        exact if_neg hx
theorem forceL_rows {x : Int} : ∀ (ns : List Int) (S : SD), S.pw = none → (SD.forceL ns S).1.rows x = if x ∈ ns then [] else S.rows x
  | [], S, _ => by rw [if_neg (by simp)]; rfl
  | b :: bs, S, p => by
    have h1 := SD.fB_true (b := b) (S.rows b).length S p
    have h2 : (S.forceB b).1.rows x = if x = b then [] else S.rows x := fB_rows _ S p (Nat.le_refl _)
    rw [SD.forceL_cons, if_pos (show (S.forceB b).2 = true from h1.1), forceL_rows bs (S.forceB b).1 h1.2, h2]
    by_cases hx : x = b
    · rw [if_pos hx, if_pos (show x ∈ b :: bs by rw [hx]; simp)]
      split <;> rfl
    · rw [if_neg hx]
      by_cases hm : x ∈ bs
      · rw [if_pos hm, if_pos (List.mem_cons_of_mem _ hm)]
      · rw [if_neg hm, if_neg (by simp [hx, hm])]
theorem calm_rows {S : SD} {ns : List Int} (W : Wt S ns) (p : S.pw = none) (x : Int) : (SD.forceL ns S).1.rows x = [] := by
  rw [forceL_rows ns S p]
  split
  · rfl
  · next h =>
    cases e : S.rows x with
    | nil => rfl
    | cons c cs => exact absurd ((W.mem x).mpr (by rw [e]; simp)) h
theorem shows_lies {S : SD} {x : Int} (e : S.rows x = []) : S.shows x = S.lies[x.toNat]? := if_pos e
theorem shows_wrote {S : SD} {b x : Int} {c : Ct} : (S.wrote b c).shows x = if x = b then some c else S.shows x := by
  unfold SD.shows
  show (if (if x = b then S.rows b ++ [c] else S.rows x) = [] then S.lies[x.toNat]? else (if x = b then S.rows b ++ [c] else S.rows x)[(if x = b then S.rows b ++ [c] else S.rows x).length - 1]?) = _
  by_cases hx : x = b
  · rw [if_pos hx, if_neg (by simp), if_pos hx]; simp
  · rw [if_neg hx, if_neg hx]
/-! ### a log opened -/
def LD.mores (L : LD) (rs : List Rc) : LD := rs.foldl (fun L r => L.more r.2.1 r.2.2) L
def LD.opened (M : Mst) (rs : List Rc) : LD := { (LD.mores ⟨M.e + 1, M.r, M.m, M.k, M.k, none, []⟩ rs) with fo := some (LD.mores ⟨M.e + 1, M.r, M.m, M.k, M.k, none, []⟩ rs).last }
end



section
variable {P : Program} {w : World} {K : PySem.W.Frag} {mg : Str → Option Value} {base : Heap}
def Mst.up (M : Mst) : Mst := { M with e := M.e + 1 }
def recsOf (M : Mst) (g : Nat → Option Pc) : List Rc := readP (countG M.up (M.e + 1) g M.r [] M.k)
theorem ch_free {F : List Addr} {H H' : Hp} {x : Addr} (c : Ch F H H') (n : H' x = none) : x ∈ F ∨ H x = none := by
  by_cases m : x ∈ F
  · exact .inl m
  · refine .inr ?_
    cases e : H x with
    | none => rfl
    | some o => rw [c.at_ m e] at n; cases n
/-- the disk behind an opening -/
structure Opened (S T : SD) (M : Mst) : Prop where
  ok : T.Ok
  pw : T.pw = none
  ln : T.lies.length = S.lies.length
  rows : ∀ x, T.rows x = []
  sh0 : T.shows 0 = some (Mst.ct M.up)
  sh : ∀ x, 1 ≤ x → T.shows x = S.shows x
theorem s_fldO {q C dx : Addr} {H : Hp} {fs : List (Str × V)} {f : Str} {x y : V} {R : Hp → Prop} (ex : x = .ref q) (h : H q = some (.ins C dx fs)) (cl : Cls K C) (na : NoAttr K C f) (l : fs.length < 1000) (r : ∀ H', Oth q H H' → H' q = some (.ins C dx (putF f y fs)) → R H') : SetQ K f y x H R :=
  s_fld ex h cl na l (r _ (fun b o n e => by rw [upd_ne n]; exact e) upd_same)
theorem rd_all : ∀ {ps : List Pc} {st : List V × List Rc} {n : Nat}, (∀ p ∈ ps, p.xs.length ≤ 36) → st.1.length ≤ 36 * n → (∀ r ∈ st.2, r.2.1.length ≤ 36 * (n + ps.length)) → ∀ r ∈ (ps.foldl rdStep st).2, r.2.1.length ≤ 36 * (n + ps.length)
  | [], st, n, _, _, h, r, hr => h r hr
  | p :: ps, st, n, hp, h1, h2, r, hr => by
    have hl := hp p (by simp)
    have en : n + (p :: ps).length = (n + 1) + ps.length := by rw [List.length_cons]; omega
    rw [en] at h2 ⊢
    refine rd_all (ps := ps) (st := rdStep st p) (n := n + 1) (fun x hx => hp x (List.mem_cons_of_mem _ hx)) ?_ (fun r hr => ?_) r hr
    · unfold rdStep
      split
      · show 0 ≤ _
        omega
      · show (st.1 ++ p.xs).length ≤ _
        rw [List.length_append]; omega
    · unfold rdStep at hr
      split at hr
      · rcases List.mem_append.mp hr with z | z
        · exact h2 r z
        · rw [List.mem_singleton.mp z]
          show (st.1 ++ p.xs).length ≤ _
          rw [List.length_append]; omega
      · exact h2 r hr
theorem mores_snoc {L : LD} {rs : List Rc} {r : Rc} : L.mores (rs ++ [r]) = (L.mores rs).more r.2.1 r.2.2 := by unfold LD.mores; rw [List.foldl_append]; rfl
theorem mores_kept : ∀ {rs : List Rc} {L : LD}, (L.mores rs).kept.length = L.kept.length + rs.length
  | [], L => rfl
  | r :: rs, L => by
    have h := mores_kept (rs := rs) (L := L.more r.2.1 r.2.2)
    have h2 : (L.more r.2.1 r.2.2).kept.length = L.kept.length + 1 := by show (L.kept ++ [_]).length = _; rw [List.length_append]; rfl
    show ((L.more r.2.1 r.2.2).mores rs).kept.length = _
    rw [h, h2, List.length_cons]; omega
def sp_init (K : PySem.W.Frag) (CL CD Cb : Addr) : Sp := fun vs H Q E => (∃ (q p : Addr) (F : List Addr) (S : SD) (M : Mst) (g : Nat → Option Pc), vs = [.ref q, .ref p] ∧ InsAt CL H q [] ∧ q ∉ F ∧ DS K CD H p F S ∧ S.shows 0 = some (Mst.ct M) ∧ 4 ≤ M.r ∧ M.r + 8 ≤ S.lies.length ∧ M.k ≤ 1000000000 ∧ M.e ≤ 1000000000000000000000 ∧ M.m ≤ 1000000000 ∧ M.f ≤ 1000000000 ∧
  S.pw = none ∧ Few S ∧ Ring S M.r M.k g ∧
  ∀ T F' G H', Opened S T M → DS K CD H' p F' T → LS K CL H' q p G (LD.opened M (recsOf M g)) → (∀ x ∈ F', x ∉ G) → Ch (q :: F) H H' → (∀ x ∈ F', x ∈ F ∨ H x = none) → (∀ x ∈ G, x = q ∨ x ∈ F ∨ H x = none) → Q .non H') ∨ (∃ q p F S xs, vs = [.ref q, .ref p] ∧ DS K CD H p F S ∧ 0 < S.lies.length ∧ S.shows 0 = some xs ∧ masterB xs S.lies.length = false ∧ ∀ H', Same H H' → E (.ref Cb) none H')
theorem ok_Log_init (T : Txt K mg) : FnOk P w K mg base (L2.CX P w) 8 T.m_Log_init.f T.m_Log_init.fd ["self", "disk"] ((sp_init K T.C_Log T.C_Disk T.e_BadDisk.C)) := by
  refine T.m_Log_init.F.okX sc_Log_init (fun vs H Q E h => ?_) (fun cdv A outer s H vs Q E hr h => ?_)
  · rcases h with ⟨q, p, F, S, M, g, rfl, _⟩ | ⟨q, p, F, S, xs, rfl, _⟩ <;> rfl
  · rcases h with ⟨q, p, F, S, M, g, rfl, hI, qF, hD, hM, h4, h8, b1, b2, b3, b4, hpw, hfew, hR, k⟩ | ⟨q, p, F, S, xs, rfl, hD, h0, hM, hb, kE⟩
    rotate_left 1
    · refine ⟨_, (pss_cons (ps_asg (pe_call (ok_master_of T) (hr.mono (by decide)) (by rfl) T.master_of.g T.master_of.F.kp T.master_of.b .nil (passes_call (takes_of rfl rfl rfl rfl) (fun _ _ _ _ h => h)) (pa_cons (pv 1) pa_nil)) (pgTup (K := K) (n := 6) (pg_tup (n := 6) rfl (pgs_cons (pg_name (i := 2) sc_Log_init.nd rfl (Or.inl rfl)) (pgs_cons (pg_name (i := 3) sc_Log_init.nd rfl (Or.inl rfl)) (pgs_cons (pg_name (i := 4) sc_Log_init.nd rfl (Or.inl rfl)) (pgs_cons (pg_name (i := 5) sc_Log_init.nd rfl (Or.inl rfl)) (pgs_cons (pg_name (i := 6) sc_Log_init.nd rfl (Or.inl rfl)) (pgs_cons (pg_name (i := 7) sc_Log_init.nd rfl (Or.inl rfl)) pgs_nil)))))))))
    (pss_cons (ps_expr (pe_meth0 (pv 1) T.k_Disk.cl T.m_Disk_calm.i (ok_Disk_calm T) (hr.mono (by decide)) T.m_Disk_calm.b .nil (passes_call (takes_of rfl rfl rfl rfl) (fun _ _ _ _ h => h))))
    (pss_cons (ps_expr (pe_meth (pv 1) T.k_Disk.cl T.m_Disk_write.i (ok_Disk_write T) (hr.mono (by decide)) T.m_Disk_write.b .nil pass0 (pa_cons pe_int (pa_cons (pe_tup (pa_cons (pe_glob (by rfl) T.c_MASTER.h T.c_MASTER.r) (pa_cons (pe_op oAdd (pv 3) pe_int) (pa_cons (pv 4) (pa_cons (pv 5) (pa_cons (pv 6) (pa_cons (pv 7) pa_nil))))))) pa_nil))))
    (pss_cons (ps_expr (pe_meth (pv 1) T.k_Disk.cl T.m_Disk_force.i (ok_Disk_force T) (hr.mono (by decide)) T.m_Disk_force.b .nil (passes_call (takes_of rfl rfl rfl rfl) (fun _ _ _ _ h => h)) (pa_cons (pe_tup (pa_cons pe_int pa_nil)) pa_nil)))
    (pss_cons (psFld (K := K) (pv 0) (pv 1) rfl)
    (pss_cons (psFld (K := K) (pv 0) (pe_op oAdd (pv 3) pe_int) rfl)
    (pss_cons (psFld (K := K) (pv 0) (pv 4) rfl)
    (pss_cons (psFld (K := K) (pv 0) (pv 6) rfl)
    (pss_cons (psFld (K := K) (pv 0) (pe_lst pa_nil) rfl)
    (pss_cons (psFld (K := K) (pv 0) (pv 5) rfl)
    (pss_cons (psFld (K := K) (pv 0) (pv 5) rfl)
    (pss_cons (ps_for (passes_of rfl) rfl (piL (K := K) (pe_call (ok_read_prefix T) (hr.mono (by decide)) (by rfl) T.read_prefix.g T.read_prefix.F.kp T.read_prefix.b .nil pass0 (pa_cons (pv 1) (pa_cons (pe_op oAdd (pv 3) pe_int) pa_nil)))) (pgTup (K := K) (n := 3) (pg_tup (n := 3) rfl (pgs_cons (pg_name (i := 2) sc_Log_init.nd rfl (Or.inl rfl)) (pgs_cons (pg_name (i := 8) sc_Log_init.nd rfl (Or.inl rfl)) (pgs_cons (pg_name (i := 9) sc_Log_init.nd rfl (Or.inl rfl)) pgs_nil)))))
      (pss_one (ps_expr (pe_meth (pv 0) T.k_Log.cl T.m_Log__keep.i (ok_Log__keep T) (hr.mono (by decide)) T.m_Log__keep.b .nil pass0 (pa_cons (pv 8) (pa_cons (pv 9) pa_nil))))))
    (pss_one (psFld (K := K) (pv 0) (pe_meth0 (pv 0) T.k_Log.cl T.m_Log_last.i (ok_Log_last T) (hr.mono (by decide)) T.m_Log_last.b .nil pass0) rfl)))))))))))))), ?_⟩
      walk_at "go"
      exact .inr ⟨p, F, S, xs, rfl, hD, h0, hM, hb, kE⟩
    refine ⟨_, (pss_cons (ps_asg (pe_call (ok_master_of T) (hr.mono (by decide)) (by rfl) T.master_of.g T.master_of.F.kp T.master_of.b .nil (passes_call (takes_of rfl rfl rfl rfl) (fun _ _ _ _ h => h)) (pa_cons (pv 1) pa_nil)) (pgTup (K := K) (n := 6) (pg_tup (n := 6) rfl (pgs_cons (pg_name (i := 2) sc_Log_init.nd rfl (Or.inl rfl)) (pgs_cons (pg_name (i := 3) sc_Log_init.nd rfl (Or.inl rfl)) (pgs_cons (pg_name (i := 4) sc_Log_init.nd rfl (Or.inl rfl)) (pgs_cons (pg_name (i := 5) sc_Log_init.nd rfl (Or.inl rfl)) (pgs_cons (pg_name (i := 6) sc_Log_init.nd rfl (Or.inl rfl)) (pgs_cons (pg_name (i := 7) sc_Log_init.nd rfl (Or.inl rfl)) pgs_nil)))))))))
    (pss_cons (ps_expr (pe_meth0 (pv 1) T.k_Disk.cl T.m_Disk_calm.i (ok_Disk_calm T) (hr.mono (by decide)) T.m_Disk_calm.b .nil (passes_call (takes_of rfl rfl rfl rfl) (fun _ _ _ _ h => h))))
    (pss_cons (ps_expr (pe_meth (pv 1) T.k_Disk.cl T.m_Disk_write.i (ok_Disk_write T) (hr.mono (by decide)) T.m_Disk_write.b .nil pass0 (pa_cons pe_int (pa_cons (pe_tup (pa_cons (pe_glob (by rfl) T.c_MASTER.h T.c_MASTER.r) (pa_cons (pe_op oAdd (pv 3) pe_int) (pa_cons (pv 4) (pa_cons (pv 5) (pa_cons (pv 6) (pa_cons (pv 7) pa_nil))))))) pa_nil))))
    (pss_cons (ps_expr (pe_meth (pv 1) T.k_Disk.cl T.m_Disk_force.i (ok_Disk_force T) (hr.mono (by decide)) T.m_Disk_force.b .nil (passes_call (takes_of rfl rfl rfl rfl) (fun _ _ _ _ h => h)) (pa_cons (pe_tup (pa_cons pe_int pa_nil)) pa_nil)))
    (pss_cons (psFld (K := K) (pv 0) (pv 1) rfl)
    (pss_cons (psFld (K := K) (pv 0) (pe_op oAdd (pv 3) pe_int) rfl)
    (pss_cons (psFld (K := K) (pv 0) (pv 4) rfl)
    (pss_cons (psFld (K := K) (pv 0) (pv 6) rfl)
    (pss_cons (psFld (K := K) (pv 0) (pe_lst pa_nil) rfl)
    (pss_cons (psFld (K := K) (pv 0) (pv 5) rfl)
    (pss_cons (psFld (K := K) (pv 0) (pv 5) rfl)
    (pss_cons (ps_for (passes_of rfl) rfl (piL (K := K) (pe_call (ok_read_prefix T) (hr.mono (by decide)) (by rfl) T.read_prefix.g T.read_prefix.F.kp T.read_prefix.b .nil pass0 (pa_cons (pv 1) (pa_cons (pe_op oAdd (pv 3) pe_int) pa_nil)))) (pgTup (K := K) (n := 3) (pg_tup (n := 3) rfl (pgs_cons (pg_name (i := 2) sc_Log_init.nd rfl (Or.inl rfl)) (pgs_cons (pg_name (i := 8) sc_Log_init.nd rfl (Or.inl rfl)) (pgs_cons (pg_name (i := 9) sc_Log_init.nd rfl (Or.inl rfl)) pgs_nil)))))
      (pss_one (ps_expr (pe_meth (pv 0) T.k_Log.cl T.m_Log__keep.i (ok_Log__keep T) (hr.mono (by decide)) T.m_Log__keep.b .nil pass0 (pa_cons (pv 8) (pa_cons (pv 9) pa_nil))))))
    (pss_one (psFld (K := K) (pv 0) (pe_meth0 (pv 0) T.k_Log.cl T.m_Log_last.i (ok_Log_last T) (hr.mono (by decide)) T.m_Log_last.b .nil pass0) rfl)))))))))))))), ?_⟩
    obtain ⟨dx, hob⟩ := hI
    have h600 := hD.len
    walk_at "go"
    refine .inl ⟨p, F, S, M, rfl, hD, hM, h4, h8, fun c H1 hc s1 => ?_⟩
    refine ⟨c, _, rfl, hc, rfl, _, _, rfl, _, _, rfl, _, _, rfl, _, _, rfl, _, _, rfl, _, _, rfl, rfl, ?_⟩
    obtain ⟨fs, hdo, no⟩ := ins_of_ds (hD.same s1)
    have okS : S.Ok := by
      obtain ⟨D, _, _, v⟩ := hD
      exact v.ok
    walk_at "go"
    refine m_call0 hdo (no _ (by decide +kernel)) ?_
    walk_at "go"
    refine ⟨p, F, S, rfl, hD.same s1, hfew, fun ns W H2 F2 d2 c2 f2 => ?_⟩
    rw [if_pos (SD.forceL_true ns S hpw).1]
    have a2 := forceL_after (ns := ns) okS hpw
    have r2 := calm_rows W hpw
    generalize (SD.forceL ns S).1 = S2 at *
    obtain ⟨fs2, hdo2, no2⟩ := ins_of_ds d2
    walk_at "go"
    refine m_call0 hdo2 (no2 _ (by decide +kernel)) ?_
    walk_at "go"
    refine n_new (le_size (by simp)) fun t3 H3 n3 s3 h3 => ?_
    walk_at "go"
    have ln2 := a2.ln
    refine w_write (xs := Mst.ct M.up) (d2.same s3) (fun x => by rw [r2]; show 0 < 1000; decide) (by omega) (by omega) (stO h3) (mst_ok ⟨by show M.e + 1 ≤ _; omega, by show M.r ≤ _; omega, by show M.k ≤ _; omega, by show M.m ≤ _; omega, by show M.f ≤ _; omega⟩) fun F4 H4 d4 c4 f4 => ?_
    obtain ⟨fs4, hdo4, no4⟩ := ins_of_ds d4
    walk_at "go"
    refine m_call0 hdo4 (no4 _ (by decide +kernel)) ?_
    walk_at "go"
    refine n_new (le_size (by simp)) fun t5 H5 n5 s5 h5 => ?_
    walk_at "go"
    refine ⟨p, F4, S2.wrote 0 (Mst.ct M.up), t5, [0], rfl, d4.same s5, stO h5, by decide, by decide +kernel, fun n hn => by rw [List.mem_singleton.mp hn]; show (0 : Int) < (S2.lies.length : Nat); omega, fun H6 F6 d6 c6 f6 => ?_⟩
    have pw4 : (S2.wrote 0 (Mst.ct M.up)).pw = none := a2.pw
    have ok4 : (S2.wrote 0 (Mst.ct M.up)).Ok := by
      obtain ⟨D, _, _, v⟩ := d4
      exact v.ok
    rw [if_pos (SD.forceL_true [0] _ pw4).1]
    have a6 := forceL_after (ns := [0]) ok4 pw4
    have r6 : ∀ x, (SD.forceL [0] (S2.wrote 0 (Mst.ct M.up))).1.rows x = [] := fun x => by
      rw [forceL_rows _ _ pw4]
      split
      · rfl
      · next h =>
        show (if x = 0 then _ else S2.rows x) = []
        rw [if_neg (by simpa using h)]; exact r2 x
    have op : Opened S (SD.forceL [0] (S2.wrote 0 (Mst.ct M.up))).1 M := ⟨a6.ok, a6.pw, a6.ln.trans a2.ln, r6, by rw [a6.sh 0 (by omega), shows_wrote, if_pos rfl], fun x hx => by rw [a6.sh x (by omega), shows_wrote, if_neg (by omega), a2.sh x (by omega)]⟩
    generalize (SD.forceL [0] (S2.wrote 0 (Mst.ct M.up))).1 = T6 at *
    walk_at "go"
    have cF : Ch F H H6 := by
      have c02 : Ch F H H2 := (Ch.of_same (F := F) s1).trans c2 fun x hx => .inl hx
      have f02 : ∀ x ∈ F2, x ∈ F ∨ H x = none := fun x hx => (f2 x hx).imp id (free_ s1)
      have c04 : Ch F H H4 := c02.trans ((Ch.of_same (F := F2) s3).trans c4 fun x hx => .inl hx) f02
      have f04 : ∀ x ∈ F4, x ∈ F ∨ H x = none := fun x hx => by
        rcases f4 x hx with z | z
        · exact f02 x z
        · exact ch_free c02 (free_ s3 z)
      exact c04.trans ((Ch.of_same (F := F4) s5).trans c6 fun x hx => .inl hx) f04
    have fF : ∀ x ∈ F6, x ∈ F ∨ H x = none := by
      have c02 : Ch F H H2 := (Ch.of_same (F := F) s1).trans c2 fun x hx => .inl hx
      have f02 : ∀ x ∈ F2, x ∈ F ∨ H x = none := fun x hx => (f2 x hx).imp id (free_ s1)
      have c04 : Ch F H H4 := c02.trans ((Ch.of_same (F := F2) s3).trans c4 fun x hx => .inl hx) f02
      have f04 : ∀ x ∈ F4, x ∈ F ∨ H x = none := fun x hx => by
        rcases f4 x hx with z | z
        · exact f02 x z
        · exact ch_free c02 (free_ s3 z)
      intro x hx
      rcases f6 x hx with z | z
      · exact f04 x z
      · exact ch_free c04 (free_ s5 z)
    have hob6 := cF.at_ qF hob
    have qF6 : q ∉ F6 := fun m => by
      rcases fF q m with z | z
      · exact qF z
      · rw [hob] at z; cases z
    clear c2 c4 c6 f2 f4 f6 d4 d2 a2 a6 s3 s5 h5 n5 n3 hdo hdo2 hdo4 ok4 pw4
    have ee : (M.e : Int) + 1 = ((M.e + 1 : Nat) : Int) := rfl
    refine s_fldO rfl hob6 T.k_Log.cl T.n_Log__disk (by show 0 < 1000; decide) fun Ha oa ha => ?_
    walk_at "go"
    rw [ee]
    refine s_fldO rfl ha T.k_Log.cl T.n_Log__epoch (by show 1 < 1000; decide) fun Hb ob hb => ?_
    walk_at "go"
    refine s_fldO rfl hb T.k_Log.cl T.n_Log__ring (by show 2 < 1000; decide) fun Hc oc hc' => ?_
    walk_at "go"
    refine s_fldO rfl hc' T.k_Log.cl T.n_Log__begin (by show 3 < 1000; decide) fun Hd od hd => ?_
    walk_at "go"
    refine n_new (le_size (by simp)) fun kl He ne se he => ?_
    walk_at "go"
    refine s_fldO rfl (se _ _ hd) T.k_Log.cl T.n_Log__kept (by show 4 < 1000; decide) fun Hf of hf => ?_
    walk_at "go"
    refine s_fldO rfl hf T.k_Log.cl T.n_Log__begin_k (by show 5 < 1000; decide) fun Hg og hg => ?_
    walk_at "go"
    refine s_fldO rfl hg T.k_Log.cl T.n_Log__next_k (by show 6 < 1000; decide) fun Hh oh hh => ?_
    walk_at "go"
    have oq : ∀ b o, b ≠ q → H6 b = some o → Hh b = some o := fun b o n e => oh _ _ n (og _ _ n (of _ _ n (se _ _ (od _ _ n (oc _ _ n (ob _ _ n (oa _ _ n e)))))))
    have cq : Ch [q] H6 Hh := fun b o e c => by
      by_cases hbq : b = q
      · rcases c with c | c
        · exact absurd (by rw [hbq]; simp) c
        · rw [hbq, hob6] at e; cases e; cases c
      · exact oq b o hbq e
    have dh := d6.ch cq fun x hx m => qF6 (by rw [← List.mem_singleton.mp m]; exact hx)
    have klq : kl ≠ q := ne_of_none' hd ne
    have hkl : Hh kl = some (.lst []) := oh _ _ klq (og _ _ klq (of _ _ klq he))
    have klH6 : H6 kl = none := by
      cases e : H6 kl with
      | none => rfl
      | some o => rw [od _ _ klq (oc _ _ klq (ob _ _ klq (oa _ _ klq e)))] at ne; cases ne
    have klF6 : kl ∉ F6 := fun m => d6.there kl m klH6
    have hL : LS K T.C_Log Hh q p [q, kl] ⟨M.e + 1, M.r, M.m, M.k, M.k, none, []⟩ := ⟨kl, [], rfl, ⟨dx, hh⟩, hkl, ⟨rfl, fun i t r a => by cases a⟩⟩
    have hR6 : Ring T6 M.up.r M.up.k g := fun j hj => ⟨by rw [op.sh _ (by omega)]; exact (hR j hj).1, (hR j hj).2⟩
    rw [ee]
    refine ⟨p, M.e + 1, F6, T6, M.up, g, rfl, dh, op.sh0, h4, by rw [op.ln]; exact h8, b1, hR6, fun D ts Hi si ni hi re => ?_⟩
    have re : RecsAt K Hi ts (recsOf M g) := re
    have hlc := countG_len (M := M.up) (lt := M.e + 1) (g := g) (n := M.r) (k := M.k) (acc := [])
    have hlx : ∀ p ∈ countG M.up (M.e + 1) g M.r [] M.k, p.xs.length ≤ 36 := countG_all (fun p h => by cases h) fun j hj p e => ((hR j hj).2 p e).2
    have rl : (recsOf M g).length ≤ 600 := by
      have := rd_len2 (ps := countG M.up (M.e + 1) g M.r [] M.k) (st := ([], []))
      rw [List.length_nil] at hlc
      show (List.foldl rdStep ([], []) (countG M.up (M.e + 1) g M.r [] M.k)).2.length ≤ 600
      have e0 : (([], []) : List V × List Rc).2.length = 0 := rfl
      omega
    have ra : ∀ r ∈ recsOf M g, r.2.1.length ≤ 30000 := fun r hr => by
      have := rd_all (ps := countG M.up (M.e + 1) g M.r [] M.k) (st := ([], [])) (n := 0) hlx (Nat.zero_le _) (fun r h => by cases h) r hr
      rw [List.length_nil] at hlc
      omega
    generalize recsOf M g = rs at *
    have lt : ts.length = rs.length := re.1
    have qk : q ∈ [q, kl] := by simp
    refine i_lst (slO hi) ?_
    have DG : D ∉ [q, kl] := fun m => by
      rcases List.mem_cons.mp m with z | z
      · rw [z, hh] at ni; cases ni
      · rw [List.mem_singleton.mp z, hkl] at ni; cases ni
    refine l_it (walk_list (xs := ts.map V.ref)) (fun i σ3 H3 => ∃ (y2 y8 y9 : Option V), σ3 = [some (.ref q), some (.ref p), y2, some (.int M.e), some (.int M.r), some (.int M.k), some (.int M.m), some (.int M.f), y8, y9] ∧ LS K T.C_Log H3 q p [q, kl] (LD.mores ⟨M.e + 1, M.r, M.m, M.k, M.k, none, []⟩ (rs.take i)) ∧ Ch [q, kl] Hi H3) ⟨_, none, none, rfl, hL.same si, Ch.refl⟩ (fun i σ3 H3 hi2 z => ?_) (fun σ3 H3 z => ?_) (fun i x σ3 H3 H3' hi2 z y => ?_)
    · obtain ⟨y2, y8, y9, _, _, c3⟩ := z
      exact slO (c3.at_ DG hi)
    · obtain ⟨y2, y8, y9, rfl, l3, c3⟩ := z
      rw [List.length_map, lt, List.take_length] at l3
      obtain ⟨kl2, ts2, eG, ⟨dx2, hob3⟩, hkl3, hka3⟩ := id l3
      have ek : kl2 = kl := by
        have e := eG
        simp only [List.cons.injEq, true_and, and_true] at e
        exact e.symm
      subst ek
      have hn : (LD.mores ⟨M.e + 1, M.r, M.m, M.k, M.k, none, []⟩ rs).kept.length ≤ 10000 := by
        rw [mores_kept]
        show 0 + _ ≤ _
        omega
      walk_at "go"
      refine m_call0 ⟨dx2, hob3⟩ (lf_no _ _ _ (by decide +kernel)) ?_
      walk_at "go"
      refine ⟨q, p, [q, kl2], _, rfl, l3, hn, ?_⟩
      walk_at "go"
      refine s_fldO rfl hob3 T.k_Log.cl T.n_Log__forced (lf_len _ _ _) fun Hz oz hz => ?_
      rw [lf_pf] at hz
      have cz : Ch [q] H3 Hz := Ch.of_oth oz (by simp) fun o e => by rw [hob3] at e; cases e; rfl
      have dj6 : ∀ x ∈ F6, x ∉ [q, kl2] := fun x hx m => by
        rcases List.mem_cons.mp m with z | z
        · exact qF6 (z ▸ hx)
        · exact klF6 (List.mem_singleton.mp z ▸ hx)
      refine k T6 F6 [q, kl2] Hz op (((dh.same si).ch c3 dj6).ch cz fun x hx m => qF6 (by rw [← List.mem_singleton.mp m]; exact hx)) ⟨kl2, ts2, rfl, ⟨dx2, hz⟩, oz _ _ klq hkl3, hka3.st fun c ys h => cz.st h⟩ dj6 (fun b o e c => ?_) fF fun x hx => ?_
      · have e6 := cF b o e (c.imp (fun z m => z (List.mem_cons_of_mem _ m)) id)
        have nbk : b ≠ kl2 := fun z => by rw [z, klH6] at e6; cases e6
        have c1 : b ∉ [q] ∨ muT o = true := c.imp (fun z m => z (by rw [List.mem_singleton.mp m]; simp)) id
        have c2' : b ∉ [q, kl2] ∨ muT o = true := c1.imp (fun z m => by
          rcases List.mem_cons.mp m with y | y
          · exact z (by rw [y]; simp)
          · exact nbk (List.mem_singleton.mp y)) id
        exact cz b o (c3 b o (si _ _ (cq b o e6 c1)) c2') c1
      · rcases List.mem_cons.mp hx with z | z
        · exact .inl z
        · rw [List.mem_singleton.mp z]
          exact .inr (ch_free cF klH6)
    · obtain ⟨y2, y8, y9, rfl, l3, c3⟩ := z
      obtain ⟨rfl, ex⟩ := y
      have hi3 : i < ts.length := by simpa using hi2
      have hi4 : i < rs.length := by omega
      have exx : x = .ref ts[i] := by
        rw [List.getElem?_map, List.getElem?_eq_getElem hi3] at ex
        exact (Option.some.inj ex).symm
      subst exx
      obtain ⟨a, ht, ha⟩ := re.2 i _ _ (List.getElem?_eq_getElem hi3) (List.getElem?_eq_getElem hi4)
      refine ⟨ts[i], _, rfl, c3.st ht, rfl, _, _, rfl, _, _, rfl, _, _, rfl, rfl, ?_⟩
      obtain ⟨kl2, ts2, eG, ⟨dx2, hob3⟩, hkl3, hka3⟩ := id l3
      walk_at "go"
      refine m_call0 ⟨dx2, hob3⟩ (lf_no _ _ _ (by decide +kernel)) ?_
      walk_at "go"
      refine ⟨q, p, [q, kl], _, a, rs[i].2.1, rs[i].2.2, rfl, l3, ?_, c3.st ha, ra _ (List.getElem_mem hi4), fun H5 l5 c5 => ?_⟩
      · rw [mores_kept, List.length_take]
        show 0 + _ ≤ _
        omega
      · walk_at "go"
        refine ⟨_, _, _, rfl, ?_, c3.trans c5 fun x hx => .inl hx⟩
        rw [List.take_add_one, List.getElem?_eq_getElem hi4]
        show LS K T.C_Log H5 q p [q, kl] (LD.mores _ (rs.take i ++ [rs[i]]))
        rw [mores_snoc]; exact l5
end



section
variable {P : Program} {w : World} {K : PySem.W.Frag} {mg : Str → Option Value} {base : Heap}
/-! ### contents as data -/
def datX : V → PyData
  | .int i => .int i
  | .str z => .str z
  | .bl b => .bool b
  | _ => .none
theorem word_ok {z : Str} (h : wordB z = true) : PyData.strOk z = true := by
  unfold wordB at h
  rw [Bool.and_eq_true, Bool.or_eq_true] at h
  rcases h.2 with q | q
  · rw [of_decide_eq_true q]; decide +kernel
  · rw [Bool.and_eq_true] at q
    have := q.1
    unfold Txt.isascii at this
    unfold PyData.strOk
    rw [Array.all_eq_true'] at this ⊢
    intro x hx
    have := of_decide_eq_true (this x hx)
    exact decide_eq_true (by omega)
theorem datX_dp {H : Hp} {x : V} (h : itemB x = true) : Dp K H x (datX x) ∧ PyData.canLay0 (datX x) = true ∧ PyData.depth (datX x) ≤ 1 := by
  cases x with
  | int i => exact ⟨.int i, rfl, by simp [datX, PyData.depth]⟩
  | str z =>
    refine ⟨.str z, ?_, by simp [datX, PyData.depth]⟩
    have hw : wordB z = true := by
      unfold itemB at h
      simpa [within, isI] using h
    exact word_ok hw
  | _ => exfalso; unfold itemB at h; simp [within, isI] at h
theorem ct_all {H : Hp} : ∀ {xs : List V}, (∀ x ∈ xs, itemB x = true) → DpAll K H xs (xs.map datX) ∧ PyData.canLayAll0 (xs.map datX) = true ∧ PyData.depthAll (xs.map datX) ≤ 1
  | [], _ => ⟨.nil, rfl, by simp [PyData.depthAll]⟩
  | x :: xs, h => by
    obtain ⟨a, b, c⟩ := ct_all (H := H) (xs := xs) fun y hy => h y (List.mem_cons_of_mem _ hy)
    obtain ⟨a1, b1, c1⟩ := datX_dp (K := K) (H := H) (h x (by simp))
    refine ⟨.cons a1 a, by rw [List.map_cons]; simp [PyData.canLayAll0, b1, b], ?_⟩
    rw [List.map_cons]
    simp only [PyData.depthAll]
    exact Nat.max_le.mpr ⟨c1, c⟩
theorem tup_dp {H : Hp} {a : Addr} {xs : List V} (h1 : SqT K H a xs) (ok : ∀ x ∈ xs, itemB x = true) : Dp K H (.ref a) (.tuple (xs.map datX)) ∧ PyData.canLay0 (.tuple (xs.map datX)) = true ∧ PyData.depth (.tuple (xs.map datX)) ≤ 2 := by
  obtain ⟨d, l, p⟩ := ct_all (K := K) (H := H) ok
  exact ⟨.tup h1 d, by simpa [PyData.canLay0] using l, by simp only [PyData.depth]; omega⟩
theorem shaped_of {d : PyData} (l : PyData.canLay0 d = true) (n : PyData.depth d ≤ 64) : SeqAt.shaped d = true := by
  unfold SeqAt.shaped
  rw [Bool.and_eq_true_iff]
  exact ⟨l, decide_eq_true n⟩
theorem o_neA {H : Hp} {Q : VK} {r : R2} {a b : Addr} {xs ys : Ct} (h1 : SqT K H a xs) (h2 : SqT K H b ys) (ok : CtOk xs) (ok2 : CtOk ys) (q : ∀ z : Bool, (xs = ys → z = false) → Q (.bl z) H) : rOr r (rNeD K) (.ref a) (.ref b) H Q := by
  obtain ⟨d, l, p⟩ := tup_dp h1 (ct_items ok)
  obtain ⟨d2, l2, p2⟩ := tup_dp h2 (ct_items ok2)
  refine .inr ⟨_, _, d, d2, shaped_of l (by omega), shaped_of l2 (by omega), q _ fun e => ?_⟩
  subst e
  rw [SeqAt.eqv_refl _ l]; rfl
/-! ### the pairs of a log as data -/
def pairX (r : Int × List V) : PyData := .tuple [.int r.1, .tuple (r.2.map datX)]
theorem pairs_all {H : Hp} : ∀ {rs : List (Int × List V)} {ts : List Addr}, PairsTo K H ts rs → (∀ r ∈ rs, ∀ x ∈ r.2, itemB x = true) → DpAll K H (ts.map V.ref) (rs.map pairX) ∧ PyData.canLayAll0 (rs.map pairX) = true ∧ PyData.depthAll (rs.map pairX) ≤ 3
  | [], ts, h, _ => by
    have : ts = [] := List.length_eq_zero_iff.mp h.1
    subst this
    exact ⟨.nil, rfl, by simp [PyData.depthAll]⟩
  | r :: rs, [], h, _ => by have := h.1; cases this
  | r :: rs, t :: ts, h, ok => by
    obtain ⟨a, ht, ha⟩ := h.2 0 t r rfl rfl
    obtain ⟨d, l, p⟩ := tup_dp ha (ok r (by simp))
    obtain ⟨e1, e2, e3⟩ := pairs_all (rs := rs) (ts := ts) ⟨by have := h.1; simpa using this, fun i t r a b => h.2 (i + 1) t r a b⟩ fun r hr => ok r (List.mem_cons_of_mem _ hr)
    refine ⟨.cons (.tup ht (.cons (.int _) (.cons d .nil))) e1, ?_, ?_⟩
    · rw [List.map_cons]
      simp only [PyData.canLayAll0, pairX, PyData.canLay0, e2, Bool.and_true] at l ⊢
      exact l
    · rw [List.map_cons]
      simp only [PyData.depthAll, pairX, PyData.depth] at p ⊢
      omega
theorem o_neP {H : Hp} {Q : VK} {r : R2} {a b : Addr} {ts us : List Addr} {rs : List (Int × List V)} (h1 : H a = some (.lst (ts.map V.ref))) (h2 : H b = some (.lst (us.map V.ref))) (p1 : PairsTo K H ts rs) (p2 : PairsTo K H us rs) (ok : ∀ r ∈ rs, ∀ x ∈ r.2, itemB x = true) (q : Q (.bl false) H) : rOr r (rNeD K) (.ref a) (.ref b) H Q := by
  obtain ⟨d1, l, p⟩ := pairs_all p1 ok
  obtain ⟨d2, _, _⟩ := pairs_all p2 ok
  have cl : PyData.canLay0 (.list (rs.map pairX)) = true := by simpa [PyData.canLay0] using l
  have sh : SeqAt.shaped (.list (rs.map pairX)) = true := shaped_of cl (by simp only [PyData.depth]; omega)
  exact .inr ⟨_, _, .lst (slO h1) d1, .lst (slO h2) d2, sh, sh, by rw [SeqAt.eqv_refl _ cl]; exact q⟩
theorem o_eqP {H : Hp} {Q : VK} {r : R2} {a b : Addr} {ts us : List Addr} {rs : List (Int × List V)} (h1 : H a = some (.lst (ts.map V.ref))) (h2 : H b = some (.lst (us.map V.ref))) (p1 : PairsTo K H ts rs) (p2 : PairsTo K H us rs) (ok : ∀ r ∈ rs, ∀ x ∈ r.2, itemB x = true) (q : Q (.bl true) H) : rOr r (rEqD K) (.ref a) (.ref b) H Q := by
  obtain ⟨d1, l, p⟩ := pairs_all p1 ok
  obtain ⟨d2, _, _⟩ := pairs_all p2 ok
  have cl : PyData.canLay0 (.list (rs.map pairX)) = true := by simpa [PyData.canLay0] using l
  have sh : SeqAt.shaped (.list (rs.map pairX)) = true := shaped_of cl (by simp only [PyData.depth]; omega)
  exact .inr ⟨_, _, .lst (slO h1) d1, .lst (slO h2) d2, sh, sh, by rw [SeqAt.eqv_refl _ cl]; exact q⟩
end



section
variable {P : Program} {w : World} {K : PySem.W.Frag} {mg : Str → Option Value} {base : Heap}
/-! ### dicts from pages to contents, to numbers -/
def HeldAt (K : PySem.W.Frag) (H : Hp) (d : Addr) (f : Int → Option Ct) : Prop := ∃ kvs, H d = some (.dK kvs) ∧ kvs.length ≤ 2000 ∧ ∀ b, match f b with
  | none => valV kvs (Sum.inl b : Key) = none
  | some c => ∃ a, valV kvs (Sum.inl b : Key) = some (.ref a) ∧ SqT K H a c
def NumAt (H : Hp) (d : Addr) (f : Int → Option Int) : Prop := ∃ kvs, H d = some (.dK kvs) ∧ kvs.length ≤ 2000 ∧ ∀ b, valV kvs (Sum.inl b : Key) = (f b).map V.int
def putF1 {α : Type} (f : Int → Option α) (b : Int) (c : α) : Int → Option α := fun x => if x = b then some c else f x
section
variable {H H' : Hp} {d : Addr} {f : Int → Option Ct} {g : Int → Option Int} {F : List Addr}
theorem HeldAt.ch (h : HeldAt K H d f) (s : Ch F H H') (n : d ∉ F) : HeldAt K H' d f := by
  obtain ⟨kvs, h1, h2, h3⟩ := h
  refine ⟨kvs, s.at_ n h1, h2, fun b => ?_⟩
  have := h3 b
  split at this
  · exact this
  · obtain ⟨a, e1, e2⟩ := this
    exact ⟨a, e1, s.st e2⟩
theorem HeldAt.same (h : HeldAt K H d f) (s : Same H H') : HeldAt K H' d f := h.ch (F := []) (Ch.of_same s) (by simp)
theorem NumAt.ch (h : NumAt H d g) (s : Ch F H H') (n : d ∉ F) : NumAt H' d g := by
  obtain ⟨kvs, h1, h2, h3⟩ := h
  exact ⟨kvs, s.at_ n h1, h2, h3⟩
theorem NumAt.same (h : NumAt H d g) (s : Same H H') : NumAt H' d g := h.ch (F := []) (Ch.of_same s) (by simp)
theorem HeldAt.get {b : Int} {c : Ct} (h : HeldAt K H d f) (e : f b = some c) : ∃ kvs a, H d = some (.dK kvs) ∧ valV kvs (Sum.inl b : Key) = some (.ref a) ∧ SqT K H a c := by
  obtain ⟨kvs, h1, h2, h3⟩ := h
  have := h3 b
  rw [e] at this
  obtain ⟨a, e1, e2⟩ := this
  exact ⟨kvs, a, h1, e1, e2⟩
theorem HeldAt.isn {b : Int} (h : HeldAt K H d f) : ∃ kvs, H d = some (.dK kvs) ∧ (valV kvs (Sum.inl b : Key)).isSome = (f b).isSome := by
  obtain ⟨kvs, h1, h2, h3⟩ := h
  refine ⟨kvs, h1, ?_⟩
  have := h3 b
  split at this
  · next e => rw [this, e]; rfl
  · next c e =>
    obtain ⟨a, e1, _⟩ := this
    rw [e1, e]; rfl
theorem HeldAt.lst {b : Int} {kvs : List (Key × V)} {a : Addr} {c : Ct} (h : HeldAt K H d f) (hd : H d = some (.dK kvs)) (ha : SqT K H a c) (l : kvs.length < 2000) (s : ∀ x ys, SqT K H x ys → SqT K H' x ys) (h' : H' d = some (.dK (putK kvs (Sum.inl b : Key) (.ref a)))) : HeldAt K H' d (putF1 f b c) := by
  obtain ⟨kvs2, h1, h2, h3⟩ := h
  rw [hd] at h1
  cases h1
  refine ⟨_, h', by have := length_putK kvs (Sum.inl b : Key) (.ref a); omega, fun x => ?_⟩
  unfold putF1
  by_cases e : x = b
  · rw [if_pos e]
    subst e
    exact ⟨a, by rw [valV_put, if_pos rfl], s _ _ ha⟩
  · rw [if_neg e]
    have := h3 x
    have ne : ¬ ((Sum.inl x : Key) = Sum.inl b) := fun z => e (Sum.inl.inj z)
    split at this
    · next q => rw [valV_put, if_neg ne]; exact this
    · next c' q =>
      obtain ⟨a', e1, e2⟩ := this
      exact ⟨a', by rw [valV_put, if_neg ne]; exact e1, s _ _ e2⟩
theorem NumAt.put {b n : Int} {kvs : List (Key × V)} (h : NumAt H d g) (hd : H d = some (.dK kvs)) (l : kvs.length < 2000) (h' : H' d = some (.dK (putK kvs (Sum.inl b : Key) (.int n)))) : NumAt H' d (putF1 g b n) := by
  obtain ⟨kvs2, h1, h2, h3⟩ := h
  rw [hd] at h1
  cases h1
  refine ⟨_, h', by have := length_putK kvs (Sum.inl b : Key) (.int n); omega, fun x => ?_⟩
  unfold putF1
  by_cases e : x = b
  · rw [if_pos e]
    subst e
    rw [valV_put, if_pos rfl]; rfl
  · rw [if_neg e, valV_put, if_neg (fun z => e (Sum.inl.inj z))]
    exact h3 x
end
/-! ### the pages, a batch, as data -/
def pf (q p : Addr) (fs mn : Nat) (hd dd : Addr) (bt : V) : List (Str × V) := [("_log", .ref q), ("_disk", .ref p), ("_first", .int fs), ("_many", .int mn), ("_held", .ref hd), ("_dirty", .ref dd), ("_batch", bt)]
def bf (g : Addr) (ov : Bool) (ch : Addr) (he hi ro la : Int) : List (Str × V) := [("_pages", .ref g), ("_is_over", .bl ov), ("_changed", .ref ch), ("_head", .int he), ("_high", .int hi), ("_root", .int ro), ("_last", .int la)]
theorem pf_no {q p : Addr} {fs mn : Nat} {hd dd : Addr} {bt : V} {m : Str} (h : ((["_log", "_disk", "_first", "_many", "_held", "_dirty", "_batch"] : List Str)).contains m = false) : (pf q p fs mn hd dd bt).lookup m = none := by
  unfold pf
  simp only [List.contains_cons, List.contains_nil, Bool.or_false, Bool.or_eq_false_iff] at h
  simp only [List.lookup, h.1, h.2.1, h.2.2.1, h.2.2.2.1, h.2.2.2.2.1, h.2.2.2.2.2.1, h.2.2.2.2.2.2]
theorem bf_no {g : Addr} {ov : Bool} {ch : Addr} {he hi ro la : Int} {m : Str} (h : ((["_pages", "_is_over", "_changed", "_head", "_high", "_root", "_last"] : List Str)).contains m = false) : (bf g ov ch he hi ro la).lookup m = none := by
  unfold bf
  simp only [List.contains_cons, List.contains_nil, Bool.or_false, Bool.or_eq_false_iff] at h
  simp only [List.lookup, h.1, h.2.1, h.2.2.1, h.2.2.2.1, h.2.2.2.2.1, h.2.2.2.2.2.1, h.2.2.2.2.2.2]
structure PgD where
  q : Addr
  p : Addr
  fs : Nat
  mn : Nat
  hf : Int → Option Ct
  df : Int → Option Int
  bt : V
structure BtD where
  g : Addr
  ov : Bool
  cf : Int → Option Ct
  ks : List Int
  he : Int
  hi : Int
  ro : Int
  la : Int
def PgAt (K : PySem.W.Frag) (C : Addr) (H : Hp) (g : Addr) (G : List Addr) (D : PgD) : Prop := ∃ hd dd, G = [g, hd, dd] ∧ hd ≠ dd ∧ InsAt C H g (pf D.q D.p D.fs D.mn hd dd D.bt) ∧ HeldAt K H hd D.hf ∧ NumAt H dd D.df
/-- its dict, the order of its keys -/
def KeyAt (H : Hp) (d : Addr) (ks : List Int) : Prop := ∃ kvs, H d = some (.dK kvs) ∧ kvs.map (·.1) = ks.map (fun b => (Sum.inl b : Key))
def BtAt (K : PySem.W.Frag) (C : Addr) (H : Hp) (b : Addr) (G : List Addr) (D : BtD) : Prop := ∃ ch, G = [b, ch] ∧ InsAt C H b (bf D.g D.ov ch D.he D.hi D.ro D.la) ∧ HeldAt K H ch D.cf ∧ KeyAt H ch D.ks
def metaT (he hi ro la : Int) : Ct := [.str "meta", .int he, .int hi, .int ro, .int la]
def newT : Ct := [.str "new"]
def freeT (n : Int) : Ct := [.str "free", .int n]
section
variable {C g b : Addr} {F G : List Addr} {H H' : Hp} {D : PgD} {E : BtD}
theorem PgAt.ch (h : PgAt K C H g G D) (s : Ch F H H') (n : ∀ a ∈ G, a ∉ F) : PgAt K C H' g G D := by
  obtain ⟨hd, dd, rfl, ne, ⟨dx, hob⟩, h1, h2⟩ := h
  exact ⟨hd, dd, rfl, ne, ⟨dx, s.at_ (n _ (by simp)) hob⟩, h1.ch s (n _ (by simp)), h2.ch s (n _ (by simp))⟩
theorem PgAt.same (h : PgAt K C H g G D) (s : Same H H') : PgAt K C H' g G D := h.ch (F := []) (Ch.of_same s) (by simp)
theorem KeyAt.ch {d : Addr} {ks : List Int} (h : KeyAt H d ks) (s : Ch F H H') (n : d ∉ F) : KeyAt H' d ks := by
  obtain ⟨kvs, h1, h2⟩ := h
  exact ⟨kvs, s.at_ n h1, h2⟩
theorem BtAt.ch (h : BtAt K C H b G E) (s : Ch F H H') (n : ∀ a ∈ G, a ∉ F) : BtAt K C H' b G E := by
  obtain ⟨ch, rfl, ⟨dx, hob⟩, h1, h2⟩ := h
  exact ⟨ch, rfl, ⟨dx, s.at_ (n _ (by simp)) hob⟩, h1.ch s (n _ (by simp)), h2.ch s (n _ (by simp))⟩
theorem BtAt.same (h : BtAt K C H b G E) (s : Same H H') : BtAt K C H' b G E := h.ch (F := []) (Ch.of_same s) (by simp)
theorem PgAt.there (h : PgAt K C H g G D) : ∀ a ∈ G, H a ≠ none := by
  obtain ⟨hd, dd, rfl, ne, ⟨dx, hob⟩, ⟨k1, h1, _⟩, k2, h2, _⟩ := h
  intro a m e
  simp only [List.mem_cons, List.not_mem_nil, or_false] at m
  rcases m with z | z | z <;> subst z
  · rw [hob] at e; cases e
  · rw [h1] at e; cases e
  · rw [h2] at e; cases e
theorem BtAt.there (h : BtAt K C H b G E) : ∀ a ∈ G, H a ≠ none := by
  obtain ⟨ch, rfl, ⟨dx, hob⟩, ⟨k1, h1, _⟩, _⟩ := h
  intro a m e
  simp only [List.mem_cons, List.not_mem_nil, or_false] at m
  rcases m with z | z <;> subst z
  · rw [hob] at e; cases e
  · rw [h1] at e; cases e
end
/-! ### the pages' own methods -/
def sp_high (K : PySem.W.Frag) (C : Addr) : Sp := fun vs H Q _ => ∃ g G D he hi ro la, vs = [.ref g] ∧ PgAt K C H g G D ∧ D.hf 0 = some (metaT he hi ro la) ∧ Q (.int hi) H
theorem ok_Pages_high (T : Txt K mg) : FnOk P w K mg base CX0 1 T.m_Pages_high.f T.m_Pages_high.fd ["self"] ((sp_high K T.C_Pages)) := by
  refine T.m_Pages_high.F.ok sc_Pages_high (fun vs H Q E h => ?_) (fun cdv A outer s H vs Q E hr h => ?_)
  · obtain ⟨g, G, D, he, hi, ro, la, rfl, _⟩ := h
    rfl
  · obtain ⟨g, G, D, he, hi, ro, la, rfl, hP, hm, k⟩ := h
    refine ⟨_, (pss_one (ps_ret (pe_ix (ixLT (K := K)) (pe_dget (hu_of hr) (peFld (K := K) (pv 0) rfl) (pe_glob (by rfl) T.c_META_PAGE.h T.c_META_PAGE.r) (fun _ _ => rfl)) pe_int (fun _ _ => rfl)))), ?_⟩
    obtain ⟨hd, dd, eG, ne, hob, h1, h2⟩ := id hP
    obtain ⟨kvs, a, e1, e2, e3⟩ := h1.get hm
    walk_at "go"
    refine e_dget ?_
    walk_at "go"
    refine o_fld hob T.k_Pages.cl T.n_Pages__held rfl ?_
    walk_at "go"
    refine o_dget (k := Sum.inl 0) e1 e2 ?_
    walk_at "go"
    exact k
end



section
variable {P : Program} {w : World} {K : PySem.W.Frag} {mg : Str → Option Value} {base : Heap}
theorem within_of {b lo hi : Int} (h0 : lo ≤ b) (h1 : b ≤ hi) : within (.int b) lo hi = true := by
  show (decide (lo ≤ b) && decide (b ≤ hi)) = true
  rw [decide_eq_true h0, decide_eq_true h1]; rfl
/-- pages as they stand: how high -/
def PgH (K : PySem.W.Frag) (C : Addr) (H : Hp) (g : Addr) (G : List Addr) (D : PgD) (hi : Int) : Prop := PgAt K C H g G D ∧ ∃ he ro la, D.hf 0 = some (metaT he hi ro la)
def sp_pneed (K : PySem.W.Frag) (C : Addr) : Sp := fun vs H Q _ => ∃ g G D hi b, vs = [.ref g, .int b] ∧ PgH K C H g G D hi ∧ 0 ≤ b ∧ b < hi ∧ Q .non H
theorem ok_Pages__need_page (T : Txt K mg) : FnOk P w K mg base CX0 3 T.m_Pages__need_page.f T.m_Pages__need_page.fd ["self", "page"] ((sp_pneed K T.C_Pages)) := by
  refine T.m_Pages__need_page.F.ok sc_Pages__need_page (fun vs H Q E h => ?_) (fun cdv A outer s H vs Q E hr h => ?_)
  · obtain ⟨g, G, D, hi, b, rfl, _⟩ := h
    rfl
  · obtain ⟨g, G, D, hi, b, rfl, ⟨hP, he, ro, la, hm⟩, b0, b1, k⟩ := h
    refine ⟨_, (pss_one (ps_if (pt_not (ptTruth (K := K) (pe_call (ok_is_within T) (hr.mono (by decide)) (by rfl) T.is_within.g T.is_within.F.kp T.is_within.b .nil pass0 (pa_cons (pv 1) (pa_cons pe_int (pa_cons (pe_op op_sub (pe_meth0 (pv 0) T.k_Pages.cl T.m_Pages_high.i (ok_Pages_high T) (hr.mono (by decide)) T.m_Pages_high.b .nil pass0) pe_int) pa_nil)))) (by intro _; rfl))) (pss_one ps_never) pss_nil)), ?_⟩
    obtain ⟨hd, dd, eG, ne, hob, h1, h2⟩ := id hP
    walk_at "go"
    refine m_call0 hob (pf_no (by decide +kernel)) ?_
    walk_at "go"
    refine ⟨g, G, D, he, hi, ro, la, rfl, hP, hm, ?_⟩
    walk_at "go"
    refine ⟨_, _, _, rfl, .inl rfl, ?_⟩
    rw [within_of b0 (by omega)]
    walk_at "go"
    exact k
def sp_pheld (K : PySem.W.Frag) (C : Addr) : Sp := fun vs H Q _ => ∃ g G D hi b c, vs = [.ref g, .int b] ∧ PgH K C H g G D hi ∧ 0 ≤ b ∧ b < hi ∧ D.hf b = some c ∧ ∀ a, SqT K H a c → Q (.ref a) H
theorem ok_Pages_held (T : Txt K mg) : FnOk P w K mg base CX0 4 T.m_Pages_held.f T.m_Pages_held.fd ["self", "page"] ((sp_pheld K T.C_Pages)) := by
  refine T.m_Pages_held.F.ok sc_Pages_held (fun vs H Q E h => ?_) (fun cdv A outer s H vs Q E hr h => ?_)
  · obtain ⟨g, G, D, hi, b, c, rfl, _⟩ := h
    rfl
  · obtain ⟨g, G, D, hi, b, c, rfl, hH, b0, b1, hc, k⟩ := h
    refine ⟨_, (pss_cons (ps_expr (pe_meth (pv 0) T.k_Pages.cl T.m_Pages__need_page.i (ok_Pages__need_page T) (hr.mono (by decide)) T.m_Pages__need_page.b .nil pass0 (pa_cons (pv 1) pa_nil)))
    (pss_one (ps_ret (pe_dget (hu_of hr) (peFld (K := K) (pv 0) rfl) (pv 1) (fun _ _ => rfl))))), ?_⟩
    obtain ⟨hd, dd, eG, ne, hob, h1, h2⟩ := id hH.1
    obtain ⟨kvs, a, e1, e2, e3⟩ := h1.get hc
    walk_at "go"
    refine m_call0 hob (pf_no (by decide +kernel)) ?_
    walk_at "go"
    refine ⟨g, G, D, hi, b, rfl, hH, b0, b1, ?_⟩
    walk_at "go"
    refine e_dget ?_
    walk_at "go"
    refine o_fld hob T.k_Pages.cl T.n_Pages__held rfl ?_
    walk_at "go"
    refine o_dget (k := Sum.inl b) e1 e2 ?_
    walk_at "go"
    exact k a e3
theorem ls_ins {C q p : Addr} {G : List Addr} {H : Hp} {L : LD} (h : LS K C H q p G L) : ∃ kl dx, H q = some (.ins C dx (lf p kl L)) := by
  obtain ⟨kl, ts, _, ⟨dx, hob⟩, _⟩ := h
  exact ⟨kl, dx, hob⟩
theorem bt_ins {C b : Addr} {G : List Addr} {E : BtD} {H : Hp} (h : BtAt K C H b G E) : ∃ ch, InsAt C H b (bf E.g E.ov ch E.he E.hi E.ro E.la) ∧ HeldAt K H ch E.cf := by
  obtain ⟨ch, _, h1, h2, _⟩ := h
  exact ⟨ch, h1, h2⟩
def sp_bway (K : PySem.W.Frag) (C : Addr) : Sp := fun vs H Q _ => ∃ b G E, vs = [.ref b] ∧ BtAt K C H b G E ∧ E.ov = false ∧ Q .non H
theorem ok_Batch__need_under_way (T : Txt K mg) : FnOk P w K mg base CX0 1 T.m_Batch__need_under_way.f T.m_Batch__need_under_way.fd ["self"] ((sp_bway K T.C_Batch)) := by
  refine T.m_Batch__need_under_way.F.ok sc_Batch__need_under_way (fun vs H Q E h => ?_) (fun cdv A outer s H vs Q E hr h => ?_)
  · obtain ⟨b, G, E', rfl, _⟩ := h
    rfl
  · obtain ⟨b, G, E', rfl, hB, hov, k⟩ := h
    refine ⟨_, (pss_one (ps_if (pt_val (peFld (K := K) (pv 0) rfl)) (pss_one ps_never) pss_nil)), ?_⟩
    obtain ⟨ch, hob, hch⟩ := bt_ins hB
    rw [hov] at hob
    walk_at "go"
    refine o_fld hob T.k_Batch.cl T.n_Batch__is_over rfl ?_
    walk_at "go"
    exact k
def sp_broot (K : PySem.W.Frag) (C : Addr) : Sp := fun vs H Q _ => ∃ b GB E, vs = [.ref b] ∧ BtAt K C H b GB E ∧ E.ov = false ∧ Q (.int E.ro) H
theorem ok_Batch_root (T : Txt K mg) : FnOk P w K mg base CX0 2 T.m_Batch_root.f T.m_Batch_root.fd ["self"] ((sp_broot K T.C_Batch)) := by
  refine T.m_Batch_root.F.ok sc_Batch_root (fun vs H Q E h => ?_) (fun cdv A outer s H vs Q E hr h => ?_)
  · obtain ⟨b, GB, E', rfl, _⟩ := h
    rfl
  · obtain ⟨b, GB, E', rfl, hB, ho, k⟩ := h
    refine ⟨_, (pss_cons (ps_expr (pe_meth0 (pv 0) T.k_Batch.cl T.m_Batch__need_under_way.i (ok_Batch__need_under_way T) (hr.mono (by decide)) T.m_Batch__need_under_way.b .nil pass0))
    (pss_one (ps_ret (peFld (K := K) (pv 0) rfl)))), ?_⟩
    obtain ⟨ch, hob, hch⟩ := bt_ins hB
    walk_at "go"
    refine m_call0 hob (bf_no (by decide +kernel)) ?_
    walk_at "go"
    refine ⟨b, GB, E', rfl, hB, ho, ?_⟩
    walk_at "go"
    refine o_fld hob T.k_Batch.cl T.n_Batch__root rfl ?_
    walk_at "go"
    exact k
def sp_blast (K : PySem.W.Frag) (C : Addr) : Sp := fun vs H Q _ => ∃ b GB E, vs = [.ref b] ∧ BtAt K C H b GB E ∧ E.ov = false ∧ Q (.int E.la) H
theorem ok_Batch_last (T : Txt K mg) : FnOk P w K mg base CX0 2 T.m_Batch_last.f T.m_Batch_last.fd ["self"] ((sp_blast K T.C_Batch)) := by
  refine T.m_Batch_last.F.ok sc_Batch_last (fun vs H Q E h => ?_) (fun cdv A outer s H vs Q E hr h => ?_)
  · obtain ⟨b, GB, E', rfl, _⟩ := h
    rfl
  · obtain ⟨b, GB, E', rfl, hB, ho, k⟩ := h
    refine ⟨_, (pss_cons (ps_expr (pe_meth0 (pv 0) T.k_Batch.cl T.m_Batch__need_under_way.i (ok_Batch__need_under_way T) (hr.mono (by decide)) T.m_Batch__need_under_way.b .nil pass0))
    (pss_one (ps_ret (peFld (K := K) (pv 0) rfl)))), ?_⟩
    obtain ⟨ch, hob, hch⟩ := bt_ins hB
    walk_at "go"
    refine m_call0 hob (bf_no (by decide +kernel)) ?_
    walk_at "go"
    refine ⟨b, GB, E', rfl, hB, ho, ?_⟩
    walk_at "go"
    refine o_fld hob T.k_Batch.cl T.n_Batch__last rfl ?_
    walk_at "go"
    exact k
end



section
variable {P : Program} {w : World} {K : PySem.W.Frag} {mg : Str → Option Value} {base : Heap}
/-! ### a new batch -/
theorem s_par {i j : Nat} {ta : TA} {D : Ends} {σ : L2.St} {H : Hp} (h : ta σ H fun vs H1 => ∃ v w, vs = [v, w] ∧ D.nx ((σ.set i (some v)).set j (some w)) H1) : tPar i j ta D σ H := h
def MakeQ (C : Addr) (sp : Sp) (dvs : List V) (E : XK) (vs : List V) (H1 : Hp) (Q : VK) : Prop := ∀ x dx, H1 x = none → H1 dx = none → dx ≠ x → sp (.ref x :: (vs ++ dvs)) (upd (upd H1 dx (.own x)) x (.ins C dx [])) (fun v H2 => v = .non ∧ Q (.ref x) H2) E
theorem e_make {C : Addr} {sp : Sp} {dvs : List V} {E : XK} {t : TA} {σ : L2.St} {H : Hp} {Q : VK} (h : t σ H fun vs H1 => MakeQ C sp dvs E vs H1 Q) : tMake C sp dvs E t σ H Q := h
theorem g_fld {to : TE} {f : Str} {v : V} {σ : L2.St} {H : Hp} {Q : L2.St → Hp → Prop} (h : to σ H fun x H1 => ∃ a C dx fs, x = .ref a ∧ H1 a = some (.ins C dx fs) ∧ Cls K C ∧ NoAttr K C f ∧ fs.length < 1000 ∧ Q σ (upd H1 a (.ins C dx (putF f v fs)))) : gFld K to f v σ H Q := h
theorem made5 {H : Hp} {p dx C : Addr} (np : H p = none) (ndx : H dx = none) : Same H (upd (upd H dx (.own p)) p (.ins C dx [])) ∧ ∀ x, x ≠ p → upd (upd H dx (.own p)) p (.ins C dx []) x = none → H x = none := by
  have s5 : Same H (upd (upd H dx (.own p)) p (.ins C dx [])) := fun x o e => by
    rw [upd_ne (ne_of_none e np), upd_ne (ne_of_none e ndx)]; exact e
  refine ⟨s5, fun x hx e => ?_⟩
  cases q : H x with
  | none => rfl
  | some o => rw [s5 x o q] at e; cases e
def newB (g : Addr) (he hi ro la : Int) : BtD := { g := g, ov := false, cf := fun _ => none, ks := [], he := he, hi := hi, ro := ro, la := la }
def sp_binit (K : PySem.W.Frag) (C CP : Addr) : Sp := fun vs H Q _ => ∃ b g G D he hi ro la, vs = [.ref b, .ref g] ∧ InsAt C H b [] ∧ b ∉ G ∧ PgAt K CP H g G D ∧ D.hf 0 = some (metaT he hi ro la) ∧ 0 < hi ∧
  ∀ ch H', H ch = none → BtAt K C H' b [b, ch] (newB g he hi ro la) → Ch [b] H H' → Q .non H'
theorem ok_Batch_init (T : Txt K mg) : FnOk P w K mg base CX0 5 T.m_Batch_init.f T.m_Batch_init.fd ["self", "pages"] ((sp_binit K T.C_Batch T.C_Pages)) := by
  refine T.m_Batch_init.F.ok sc_Batch_init (fun vs H Q E h => ?_) (fun cdv A outer s H vs Q E hr h => ?_)
  · obtain ⟨b, g, G, D, he, hi, ro, la, rfl, _⟩ := h
    rfl
  · obtain ⟨b, g, G, D, he, hi, ro, la, rfl, hI, nb, hP, hm, h0, k⟩ := h
    refine ⟨_, (pss_cons (psFld (K := K) (pv 0) (pv 1) rfl)
    (pss_cons (psFld (K := K) (pv 0) pe_bl rfl)
    (pss_cons (psFld (K := K) (pv 0) pe_dnewK rfl)
    (pss_one (ps_asg (pe_meth (pv 1) T.k_Pages.cl T.m_Pages_held.i (ok_Pages_held T) (hr.mono (by decide)) T.m_Pages_held.b .nil pass0 (pa_cons (pe_glob (by rfl) T.c_META_PAGE.h T.c_META_PAGE.r) pa_nil)) (pgTup (K := K) (n := 5) (pg_tup (n := 5) rfl (pgs_cons (pg_name (i := 2) sc_Batch_init.nd rfl (Or.inl rfl)) (pgs_cons (pgFld (K := K) (pv 0)) (pgs_cons (pgFld (K := K) (pv 0)) (pgs_cons (pgFld (K := K) (pv 0)) (pgs_cons (pgFld (K := K) (pv 0)) pgs_nil)))))))))))), ?_⟩
    obtain ⟨dx, hob⟩ := hI
    walk_at "go"
    refine s_fld rfl hob T.k_Batch.cl T.n_Batch__pages (by show 0 < 1000; decide) ?_
    walk_at "go"
    refine s_fld rfl upd_same T.k_Batch.cl T.n_Batch__is_over (by show 1 < 1000; decide) ?_
    rw [upd_upd]
    walk_at "go"
    refine e_dnew fun ch H2 n2 s2 h2 => ?_
    have hob2 := s2 _ _ (upd_same (H := H) (a := b) (o := .ins T.C_Batch dx (putF "_is_over" (V.bl false) (putF "_pages" (V.ref g) []))))
    have c1 : Ch [b] H (upd H b (.ins T.C_Batch dx (putF "_is_over" (V.bl false) (putF "_pages" (V.ref g) [])))) := Ch.upd1 (by simp) fun o e => by rw [hob] at e; cases e; rfl
    have nbc : ch ≠ b := fun z => by rw [z, upd_same] at n2; cases n2
    have n0 : H ch = none := by rw [← n2, upd_ne nbc]
    have c2 : Ch [b] H H2 := c1.trans (Ch.of_same s2) fun a m => .inl m
    generalize upd H b _ = H1 at *
    walk_at "go"
    refine s_fld rfl hob2 T.k_Batch.cl T.n_Batch__changed (by show 2 < 1000; decide) ?_
    have c3 : Ch [b] H2 (upd H2 b (.ins T.C_Batch dx (putF "_changed" (V.ref ch) (putF "_is_over" (V.bl false) (putF "_pages" (V.ref g) []))))) := Ch.upd1 (by simp) fun o e => by rw [hob2] at e; cases e; rfl
    have hob3 : upd H2 b (.ins T.C_Batch dx (putF "_changed" (V.ref ch) (putF "_is_over" (V.bl false) (putF "_pages" (V.ref g) [])))) b = some (.ins T.C_Batch dx (putF "_changed" (V.ref ch) (putF "_is_over" (V.bl false) (putF "_pages" (V.ref g) [])))) := upd_same
    have h3 : upd H2 b (.ins T.C_Batch dx (putF "_changed" (V.ref ch) (putF "_is_over" (V.bl false) (putF "_pages" (V.ref g) [])))) ch = some (.dK []) := (upd_ne nbc).trans h2
    have c03 := c2.trans c3 fun a m => .inl m
    generalize upd H2 b _ = H3 at *
    have hP3 := hP.ch c03 (fun a m z => nb (by rw [← List.mem_singleton.mp z]; exact m))
    obtain ⟨hd, dd, eG, ne, hobP, hP1, hP2⟩ := id hP3
    walk_at "go"
    refine m_call0 hobP (pf_no (by decide +kernel)) ?_
    walk_at "go"
    refine ⟨g, G, D, hi, 0, _, rfl, ⟨hP3, he, ro, la, hm⟩, by omega, h0, hm, fun t ht => ?_⟩
    refine ⟨t, _, rfl, ht, rfl, _, _, rfl, _, _, rfl, ?_⟩
    refine g_fld ?_
    walk_at "go"
    refine ⟨_, _, dx, _, rfl, hob3, T.k_Batch.cl, T.n_Batch__head, by show 3 < 1000; decide, _, _, rfl, ?_⟩
    refine g_fld ?_
    walk_at "go"
    refine ⟨_, _, dx, _, rfl, upd_same, T.k_Batch.cl, T.n_Batch__high, by show 4 < 1000; decide, _, _, rfl, ?_⟩
    rw [upd_upd]
    refine g_fld ?_
    walk_at "go"
    refine ⟨_, _, dx, _, rfl, upd_same, T.k_Batch.cl, T.n_Batch__root, by show 5 < 1000; decide, _, _, rfl, ?_⟩
    rw [upd_upd]
    refine g_fld ?_
    walk_at "go"
    refine ⟨_, _, dx, _, rfl, upd_same, T.k_Batch.cl, T.n_Batch__last, by show 6 < 1000; decide, rfl, ?_⟩
    rw [upd_upd]
    have c4 : Ch [b] H3 (upd H3 b (.ins T.C_Batch dx (bf g false ch he hi ro la))) := Ch.upd1 (by simp) fun o e => by rw [hob3] at e; cases e; rfl
    refine k ch _ n0 ⟨ch, rfl, ⟨dx, upd_same⟩, ⟨[], (upd_ne nbc).trans h3, by simp, fun i => rfl⟩, [], (upd_ne nbc).trans h3, rfl⟩ (c03.trans c4 fun a m => .inl m)
theorem pf_bt {q p hd dd : Addr} {fs mn : Nat} {x v : V} : putF "_batch" v (pf q p fs mn hd dd x) = pf q p fs mn hd dd v := rfl
def sp_pbatch (K : PySem.W.Frag) (C CP : Addr) : Sp := fun vs H Q _ => ∃ g G D he hi ro la, vs = [.ref g] ∧ PgAt K CP H g G D ∧ D.bt = .non ∧ D.hf 0 = some (metaT he hi ro la) ∧ 0 < hi ∧
  ∀ b ch H', H b = none → H ch = none → BtAt K C H' b [b, ch] (newB g he hi ro la) → PgAt K CP H' g G { D with bt := .ref b } → Ch [g] H H' → Q (.ref b) H'
theorem ok_Pages_batch (T : Txt K mg) : FnOk P w K mg base CX0 7 T.m_Pages_batch.f T.m_Pages_batch.fd ["self"] ((sp_pbatch K T.C_Batch T.C_Pages)) := by
  refine T.m_Pages_batch.F.ok sc_Pages_batch (fun vs H Q E h => ?_) (fun cdv A outer s H vs Q E hr h => ?_)
  · obtain ⟨g, G, D, he, hi, ro, la, rfl, _⟩ := h
    rfl
  · obtain ⟨g, G, D, he, hi, ro, la, rfl, hP, e, hm, h0, k⟩ := h
    refine ⟨_, (Evl.pss_cut (ps_if (pt_cmpR oNotN (peFld (K := K) (pv 0) rfl) pe_non (nomark _)) (pss_one ps_no) pss_nil)
    (pss_cons (psFld (K := K) (pv 0) (pe_make (T.m_Batch_init.made T.k_Batch) (ok_Batch_init T) (hr.mono (by decide)) (by rfl) T.k_Batch.g T.m_Batch_init.b .nil pass0 (pa_cons (pv 0) pa_nil)) rfl)
    (pss_one (ps_ret (peFld (K := K) (pv 0) rfl))))), ?_⟩
    obtain ⟨hd, dd, eG, ne, hobP, hP1, hP2⟩ := id hP
    refine s_cut (fun σ' H1 => σ' = L2.start n_Pages_batch [V.ref g] ∧ H1 = H) ?_ ?_
    · walk_at "go"
      refine o_fld hobP T.k_Pages.cl T.n_Pages__batch rfl ?_
      rw [e]
      walk_at "go"
      exact ⟨rfl, rfl⟩
    · rintro _ H1 ⟨rfl, rfl⟩
      have hP' := hP
      clear hP1 hP2 hobP
      obtain ⟨hd, dd, eG, ne, ⟨dxp, hobP⟩, hP1, hP2⟩ := id hP'
      walk_at "go"
      refine e_make ?_
      walk_at "go"
      intro b dx nb ndx nbd
      show sp_binit K T.C_Batch T.C_Pages [.ref b, .ref g] _ _ _
      have hq5 : upd (upd H1 dx (.own b)) b (.ins T.C_Batch dx []) b = some (.ins T.C_Batch dx []) := upd_same
      obtain ⟨s5, f5⟩ := made5 (C := T.C_Batch) nb ndx
      generalize upd (upd H1 dx (.own b)) b (.ins T.C_Batch dx []) = H5 at *
      have nG : b ∉ G := fun z => hP'.there _ z nb
      have ngb : g ≠ b := fun z => by rw [← z, hobP] at nb; cases nb
      refine ⟨b, g, G, D, he, hi, ro, la, rfl, ⟨dx, hq5⟩, nG, hP'.same s5, hm, h0, fun ch H6 nch hB c6 => ⟨rfl, ?_⟩⟩
      have hob6 := c6.at_ (by simpa using ngb) (s5 _ _ hobP)
      have hP6 := (hP'.same s5).ch c6 (fun a m z => nG (by rw [← List.mem_singleton.mp z]; exact m))
      have nchG : ∀ a ∈ G, a ≠ ch := fun a m z => (hP'.same s5).there a m (z ▸ nch)
      walk_at "go"
      refine s_fld rfl hob6 T.k_Pages.cl T.n_Pages__batch (by show 7 < 1000; decide) ?_
      rw [pf_bt]
      have c7 : Ch [g] H6 (upd H6 g (.ins T.C_Pages dxp (pf D.q D.p D.fs D.mn hd dd (.ref b)))) := Ch.upd1 (by simp) fun o e => by rw [hob6] at e; cases e; rfl
      have hB7 := hB.ch c7 (fun a m z => by
        rw [List.mem_singleton.mp z] at m
        rcases List.mem_cons.mp m with q | q
        · exact ngb q
        · exact nchG g (by rw [eG]; simp) (List.mem_singleton.mp q))
      have hP7 : PgAt K T.C_Pages (upd H6 g (.ins T.C_Pages dxp (pf D.q D.p D.fs D.mn hd dd (.ref b)))) g G { D with bt := .ref b } := by
        obtain ⟨hd', dd', eG', ne', ⟨dx', ob'⟩, k1, k2⟩ := hP6
        rw [eG] at eG'
        obtain ⟨rfl, rfl⟩ : hd = hd' ∧ dd = dd' := by simpa using eG'
        have n1 : hd ≠ g := fun z => by obtain ⟨x, y, _⟩ := k1; rw [z, hob6] at y; cases y
        have n2 : dd ≠ g := fun z => by obtain ⟨x, y, _⟩ := k2; rw [z, hob6] at y; cases y
        exact ⟨hd, dd, eG, ne, ⟨dxp, upd_same⟩, k1.ch c7 (by simpa using n1), k2.ch c7 (by simpa using n2)⟩
      generalize upd H6 g _ = H7 at *
      obtain ⟨hd7, dd7, eG7, ne7, hobP7, _, _⟩ := id hP7
      walk_at "go"
      refine o_fld hobP7 T.k_Pages.cl T.n_Pages__batch rfl ?_
      walk_at "go"
      have nch1 : H1 ch = none := f5 ch (fun z => by rw [z, hq5] at nch; cases nch) nch
      exact k b ch H7 nb nch1 hB7 hP7 (((Ch.of_same (F := [g]) s5).trans c6 (fun a m => .inr (by rw [List.mem_singleton.mp m]; exact nb))).trans c7 (fun a m => .inl m))
end



section
variable {P : Program} {w : World} {K : PySem.W.Frag} {mg : Str → Option Value} {base : Heap}
def PgN (H : Hp) (G : List Addr) (n : Nat) : Prop := ∃ g hd dd k1 k2, G = [g, hd, dd] ∧ H hd = some (.dK k1) ∧ H dd = some (.dK k2) ∧ k1.length ≤ n ∧ k2.length ≤ n
def ItsQ (R : It → Hp → Prop) (x : V) (H1 : Hp) : Prop := ∃ d o kvs, x = .ref d ∧ H1 d = some (.frz o (.dK kvs)) ∧ R (Iti d o kvs) H1
theorem i_items0 {td : TE} {σ : L2.St} {H : Hp} {R : It → Hp → Prop} (h : td σ H fun x H1 => ItsQ R x H1) : iItems td σ H R := h
/-! ### pages as an opening finds them -/
def MetaOk (he hi ro la : Int) (mn : Nat) : Prop := 1 ≤ hi ∧ hi ≤ mn ∧ (he = -1 ∨ (1 ≤ he ∧ he ≤ hi - 1)) ∧ 0 ≤ ro ∧ ro ≤ hi - 1 ∧ 0 ≤ la
def sp_is_meta (K : PySem.W.Frag) : Sp := fun vs H Q _ => ∃ a he hi ro la, ∃ mn : Nat, vs = [.ref a, .int mn] ∧ SqT K H a (metaT he hi ro la) ∧ MetaOk he hi ro la mn ∧ Q (.bl true) H
theorem ok_is_meta (T : Txt K mg) : FnOk P w K mg base CX0 3 T.is_meta.f T.is_meta.fd ["items", "many"] ((sp_is_meta K)) := by
  refine T.is_meta.F.ok sc_is_meta (fun vs H Q E h => ?_) (fun cdv A outer s H vs Q E hr h => ?_)
  · obtain ⟨a, he, hi, ro, la, mn, rfl, _⟩ := h
    rfl
  · obtain ⟨a, he, hi, ro, la, mn, rfl, ha, ⟨m1, m2, m3, m4, m5, m6⟩, k⟩ := h
    refine ⟨_, (pss_cons (ps_if (PW.pt (pw_or (pt_cmpR (oNe (K := K) hr.units) (pe_callB (cLen (K := K)) (by rfl) T.z_len PySem.boot_len (pa_cons (pv 0) pa_nil)) pe_int (nomark _)) (pw_or (pt_cmpR (oNe (K := K) hr.units) (pe_ix (ixLT (K := K)) (pv 0) pe_int (fun _ _ => rfl)) (pe_glob (by rfl) T.c_META.h T.c_META.r) (nomark _)) (pw_or1 (pt_not (ptTruth (K := K) (pe_call (ok_is_within T) (hr.mono (by decide)) (by rfl) T.is_within.g T.is_within.F.kp T.is_within.b .nil pass0 (pa_cons (pe_ix (ixLT (K := K)) (pv 0) pe_int (fun _ _ => rfl)) (pa_cons pe_int (pa_cons (pv 1) pa_nil)))) (by intro _; rfl))))))) (pss_one (ps_ret pe_bl)) pss_nil)
    (pss_cons (ps_asg (pv 0) (pgTup (K := K) (n := 5) (pg_tup (n := 5) rfl (pgs_cons (pg_name (i := 2) sc_is_meta.nd rfl (Or.inl rfl)) (pgs_cons (pg_name (i := 3) sc_is_meta.nd rfl (Or.inl rfl)) (pgs_cons (pg_name (i := 4) sc_is_meta.nd rfl (Or.inl rfl)) (pgs_cons (pg_name (i := 5) sc_is_meta.nd rfl (Or.inl rfl)) (pgs_cons (pg_name (i := 6) sc_is_meta.nd rfl (Or.inl rfl)) pgs_nil))))))))
    (pss_cons (ps_if (PW.pt (pw_and (pt_cmpR (oNe (K := K) hr.units) (pv 3) (pe_glob (by rfl) T.c_NO_FREE.h T.c_NO_FREE.r) (nomark _)) (pw_and1 (pt_not (ptTruth (K := K) (pe_call (ok_is_within T) (hr.mono (by decide)) (by rfl) T.is_within.g T.is_within.F.kp T.is_within.b .nil pass0 (pa_cons (pv 3) (pa_cons pe_int (pa_cons (pe_op op_sub (pv 4) pe_int) pa_nil)))) (by intro _; rfl)))))) (pss_one (ps_ret pe_bl)) pss_nil)
    (pss_one (ps_ret (pe_and (pe_call (ok_is_within T) (hr.mono (by decide)) (by rfl) T.is_within.g T.is_within.F.kp T.is_within.b .nil pass0 (pa_cons (pv 5) (pa_cons pe_int (pa_cons (pe_op op_sub (pv 4) pe_int) pa_nil)))) (pe_one (pe_call (ok_is_number T) (hr.mono (by decide)) (by rfl) T.is_number.g T.is_number.F.kp T.is_number.b .nil pass0 (pa_cons (pv 6) pa_nil))))))))), ?_⟩
    have ha' : SqT K H a [.str "meta", .int he, .int hi, .int ro, .int la] := ha
    walk_at "go"
    rw [if_neg (by simp)]
    walk_at "go"
    refine ⟨_, _, _, rfl, .inl rfl, ?_⟩
    rw [within_of m1 m2]
    walk_at "go"
    refine ⟨a, _, rfl, ha', rfl, _, _, rfl, _, _, rfl, _, _, rfl, _, _, rfl, _, _, rfl, rfl, ?_⟩
    walk_at "go"
    refine i_d (fun z => ?_) (fun z => ?_)
    · have z' : he ≠ -1 := by simpa using z
      obtain ⟨g1, g2⟩ := m3.resolve_left z'
      walk_at "go"
      refine ⟨_, _, _, rfl, .inl rfl, ?_⟩
      rw [within_of g1 g2]
      walk_at "go"
      refine ⟨_, _, _, rfl, .inl rfl, ?_⟩
      rw [within_of m4 m5]
      walk_at "go"
      refine ⟨_, rfl, .inl rfl, ?_⟩
      rw [show isN (.int la) = true from decide_eq_true m6]
      exact k
    · walk_at "go"
      refine ⟨_, _, _, rfl, .inl rfl, ?_⟩
      rw [within_of m4 m5]
      walk_at "go"
      refine ⟨_, rfl, .inl rfl, ?_⟩
      rw [show isN (.int la) = true from decide_eq_true m6]
      exact k
theorem ok_changes_of (T : Txt K mg) : FnOk P w K mg base CX0 1 T.changes_of.f T.changes_of.fd ["record"] (sp_never) := by
  refine T.changes_of.F.ok sc_changes_of (fun vs H Q E h => ?_) (fun cdv A outer s H vs Q E hr h => ?_)
  · exact h.elim
  · exact h.elim
def sp_ltold (K : PySem.W.Frag) (C : Addr) : Sp := fun vs H Q _ => ∃ p F S M, vs = [.ref p] ∧ DS K C H p F S ∧ S.shows 0 = some (Mst.ct M) ∧ 4 ≤ M.r ∧ M.r + 8 ≤ S.lies.length ∧ M.k ≤ 1000000000 ∧ M.e ≤ 1000000000000000000000 ∧ Ring S M.r M.k (fun _ => none) ∧
  ∀ d H', Same H H' → H d = none → H' d = some (.dK []) → Q (.ref d) H'
theorem ok_last_told (T : Txt K mg) : FnOk P w K mg base CX0 8 T.last_told.f T.last_told.fd ["disk"] ((sp_ltold K T.C_Disk)) := by
  refine T.last_told.F.ok sc_last_told (fun vs H Q E h => ?_) (fun cdv A outer s H vs Q E hr h => ?_)
  · obtain ⟨p, F, S, M, rfl, _⟩ := h
    rfl
  · obtain ⟨p, F, S, M, rfl, hD, hM, h4, h8, hk, he, hR, k⟩ := h
    refine ⟨_, (pss_cons (ps_set (i := 1) sc_last_told.nd rfl (Or.inl rfl) pe_dnewK)
    (pss_cons (ps_for PassesOwn.never rfl (piL (K := K) (pe_call (ok_read_prefix T) (hr.mono (by decide)) (by rfl) T.read_prefix.g T.read_prefix.F.kp T.read_prefix.b .nil pass0 (pa_cons (pv 0) (pa_cons (pe_op oAdd (pe_ix (ixLT (K := K)) (pe_call (ok_master_of T) (hr.mono (by decide)) (by rfl) T.master_of.g T.master_of.F.kp T.master_of.b .nil passL (pa_cons (pv 0) pa_nil)) pe_int (fun _ _ => rfl)) pe_int) pa_nil)))) (pgTup (K := K) (n := 3) (pg_tup (n := 3) rfl (pgs_cons (pg_name (i := 2) sc_last_told.nd rfl (Or.inl rfl)) (pgs_cons (pg_name (i := 3) sc_last_told.nd rfl (Or.inl rfl)) (pgs_cons (pg_name (i := 4) sc_last_told.nd rfl (Or.inl rfl)) pgs_nil)))))
      (pss_one (ps_lock (ps_for PassesOwn.never rfl (pi_items (pe_call (ok_changes_of T) (hr.mono (by decide)) (by rfl) T.changes_of.g T.changes_of.F.kp T.changes_of.b .nil pass0 (pa_cons (pv 3) pa_nil))) (pgTup (K := K) (n := 2) (pg_tup (n := 2) rfl (pgs_cons (pg_name (i := 5) sc_last_told.nd rfl (Or.inl rfl)) (pgs_cons (pg_name (i := 6) sc_last_told.nd rfl (Or.inl rfl)) pgs_nil))))
      (pss_one (ps_dput (hu_of hr) (pv 1) (pv 5) (pe_tup (pa_cons (pv 2) (pa_cons (pv 6) pa_nil))) rfl))))))
    (pss_one (ps_ret (pv 1))))), ?_⟩
    walk_at "go"
    refine e_dnew fun d H1 n1 s1 h1 => ?_
    walk_at "go"
    refine .inl ⟨p, F, S, M, rfl, hD.same s1, hM, h4, h8, fun c H2 hc s2 => ?_⟩
    have hc' : SqT K H2 c [.str "master", .int M.e, .int M.r, .int M.k, .int M.m, .int M.f] := hc
    walk_at "go"
    have s02 := s1.trans s2
    refine ⟨p, M.e + 1, F, S, M, fun _ => none, rfl, hD.same s02, hM, h4, h8, hk, hR, fun D ts H3 s3 n3 h3 t3 => ?_⟩
    have e0 : countG M (M.e + 1) (fun _ => none) M.r [] M.k = [] := by
      rw [show M.r = (M.r - 1) + 1 by omega]
      exact countG_none rfl
    rw [e0] at t3
    have ets : ts = [] := List.length_eq_zero_iff.mp t3.1
    subst ets
    walk_at "go"
    refine i_lst (slO h3) ?_
    refine l_it (walk_list (xs := [])) (fun i σ4 H4 => σ4 = List.set (L2.start n_last_told [V.ref p]) 1 (some (V.ref d)) ∧ H4 = H3) ⟨rfl, rfl⟩ (fun i σ4 H4 hi z => by rw [z.2]; exact slO h3) (fun σ4 H4 z => ?_) (fun i x σ4 H4 H5 hi => absurd hi (Nat.not_lt_zero _))
    obtain ⟨rfl, rfl⟩ := z
    walk_at "go"
    exact k d H4 (s02.trans s3) n1 (s3 _ _ (s2 _ _ h1))
end



section
variable {P : Program} {w : World} {K : PySem.W.Frag} {mg : Str → Option Value} {base : Heap}
/-! ### pages are opened -/
theorem set_g {g C dx : Addr} {H : Hp} {fs fs' : List (Str × V)} (h : H g = some (.ins C dx fs)) : upd H g (.ins C dx fs') g = some (.ins C dx fs') ∧ Ch [g] H (upd H g (.ins C dx fs')) :=
  ⟨upd_same, Ch.upd1 (by simp) fun o e => by rw [h] at e; cases e; rfl⟩
theorem recs_none {M : Mst} (h : 4 ≤ M.r) : recsOf M (fun _ => none) = [] := by
  unfold recsOf
  rw [show M.r = (M.r - 1) + 1 by omega, countG_none rfl]; rfl
def openP (q p : Addr) (r n : Nat) (la : Int) : PgD := { q := q, p := p, fs := r + 1, mn := n - (r + 1), hf := putF1 (fun _ => none) 0 (metaT (-1) 1 0 la), df := fun _ => none, bt := .non }
def sp_pinit (K : PySem.W.Frag) (C CL CD Cb : Addr) : Sp := fun vs H Q X => (∃ (g p : Addr) (F : List Addr) (S : SD) (M : Mst) (la : Int) (y : V), vs = [.ref g, .ref p] ∧ InsAt C H g [] ∧ g ∉ F ∧ DS K CD H p F S ∧ S.shows 0 = some (Mst.ct M) ∧ 4 ≤ M.r ∧ M.r + 8 ≤ S.lies.length ∧ M.k ≤ 1000000000 ∧ M.e ≤ 1000000000000000000000 ∧ M.m ≤ 1000000000 ∧ M.f ≤ 1000000000 ∧
  S.pw = none ∧ Few S ∧ Ring S M.r M.k (fun _ => none) ∧ S.shows ((M.r : Int) + 1) = some (y :: metaT (-1) 1 0 la) ∧ 0 ≤ la ∧
  ∀ T F' q GL G H', Opened S T M → DS K CD H' p F' T → LS K CL H' q p GL (LD.opened M []) → PgAt K C H' g G (openP q p M.r S.lies.length la) → PgN H' G 1 → (∀ x ∈ F', x ∉ GL) → (∀ x ∈ G, x ∉ F' ∧ x ∉ GL) → Ch (g :: F) H H' → (∀ x ∈ F', x ∈ F ∨ H x = none) → (∀ x ∈ GL, x ∈ F ∨ H x = none) → (∀ x ∈ G, x = g ∨ x ∈ F ∨ H x = none) → Q .non H') ∨
  (∃ g p F S xs, vs = [.ref g, .ref p] ∧ DS K CD H p F S ∧ 0 < S.lies.length ∧ S.shows 0 = some xs ∧ masterB xs S.lies.length = false ∧ ∀ H', Same H H' → X (.ref Cb) none H')
theorem ok_Pages_init (T : Txt K mg) : FnOk P w K mg base (L2.CX P w) 10 T.m_Pages_init.f T.m_Pages_init.fd ["self", "disk"] ((sp_pinit K T.C_Pages T.C_Log T.C_Disk T.e_BadDisk.C)) := by
  refine T.m_Pages_init.F.okX sc_Pages_init (fun vs H Q E h => ?_) (fun cdv A outer s H vs Q E hr h => ?_)
  · rcases h with ⟨g, p, F, S, M, la, y, rfl, _⟩ | ⟨g, p, F, S, xs, rfl, _⟩ <;> rfl
  · rcases h with ⟨g, p, F, S, M, la, y, rfl, hI, gF, hD, hM, h4, h8, bk, be, bm, bf, hpw, hfew, hR, hmt, hla, k⟩ | ⟨g, p, F, S, xs, rfl, hD, h0, hM, hb, kE⟩
    rotate_left 1
    · refine ⟨_, (pss_cons (ps_set (i := 2) sc_Pages_init.nd rfl (Or.inl rfl) (pe_op oAdd (pe_ix (ixLT (K := K)) (pe_call (ok_master_of T) (hr.mono (by decide)) (by rfl) T.master_of.g T.master_of.F.kp T.master_of.b .nil (passes_call (takes_of rfl rfl rfl rfl) (fun _ _ _ _ h => h)) (pa_cons (pv 1) pa_nil)) pe_int (fun _ _ => rfl)) pe_int))
    (pss_cons (ps_set (i := 3) sc_Pages_init.nd rfl (Or.inl rfl) (pe_call (ok_last_told T) (hr.mono (by decide)) (by rfl) T.last_told.g T.last_told.F.kp T.last_told.b .nil pass0 (pa_cons (pv 1) pa_nil)))
    (pss_cons (ps_set (i := 4) sc_Pages_init.nd rfl (Or.inr rfl) (pe_lc (own := [("block", 9)]) rfl sc_Pages_init.nd (pi_range2 (by rfl) T.z_range (pa_cons (pv 2) (pa_cons (pe_meth0 (pv 1) T.k_Disk.cl T.m_Disk_blocks.i (ok_Disk_blocks T) (hr.mono (by decide)) T.m_Disk_blocks.b .nil pass0) pa_nil))) (blkOk_by (N := n_Pages_init) (sc := defScope s_Pages_init) (by decide +kernel)) (fun _ _ _ _ _ => (pg_name (i := 9) sc_Pages_init.nd rfl (Or.inl rfl))) (fun _ _ _ _ _ => pts_nil) (fun _ _ _ _ _ => (pe_meth (pv 1) T.k_Disk.cl T.m_Disk_read.i (ok_Disk_read T) (hr.mono (by decide)) T.m_Disk_read.b .nil pass0 (pa_cons (pv 9) pa_nil)))))
    (pss_cons (ps_set (i := 5) sc_Pages_init.nd rfl (Or.inl rfl) (pe_ifExp (pt_cmp (pc_din (hu_of hr) (pe_glob (by rfl) T.c_META_PAGE.h T.c_META_PAGE.r) (pv 3))) (pe_ix (ixLT (K := K)) (pe_dget (hu_of hr) (pv 3) (pe_glob (by rfl) T.c_META_PAGE.h T.c_META_PAGE.r) (fun _ _ => rfl)) pe_int (fun _ _ => rfl)) (pe_slice (slT (K := K)) (pe_ix (ixLT (K := K)) (pv 4) (pe_glob (by rfl) T.c_META_PAGE.h T.c_META_PAGE.r) (fun _ _ => rfl)) (po_some pe_int) po_none)))
    (pss_cons (ps_if (pt_not (ptTruth (K := K) (pe_call (ok_is_meta T) (hr.mono (by decide)) (by rfl) T.is_meta.g T.is_meta.F.kp T.is_meta.b .nil pass0 (pa_cons (pv 5) (pa_cons (pe_callB (cLen (K := K)) (by rfl) T.z_len PySem.boot_len (pa_cons (pv 4) pa_nil)) pa_nil))) (by intro _; rfl))) (pss_one (ps_raise rfl (takes_of rfl rfl rfl rfl) (pmk_oexN T.e_BadDisk.o T.e_BadDisk.i T.e_BadDisk.t (ok_StoreError_init T.m_StoreError_init T.z_ValueError T.vV) (hr.mono (by decide)) T.m_StoreError_init.b pass0 (by rfl) T.e_BadDisk.g))) pss_nil)
    (pss_cons (psFld (K := K) (pv 0) (pe_make (T.m_Log_init.made T.k_Log) (ok_Log_init T) (hr.mono (by decide)) (by rfl) T.k_Log.g T.m_Log_init.b .nil (passes_call (takes_of rfl rfl rfl rfl) (fun _ _ _ _ h => h)) (pa_cons (pv 1) pa_nil)) rfl)
    (pss_cons (psFld (K := K) (pv 0) (pv 1) rfl)
    (pss_cons (psFld (K := K) (pv 0) (pv 2) rfl)
    (pss_cons (psFld (K := K) (pv 0) (pe_callB (cLen (K := K)) (by rfl) T.z_len PySem.boot_len (pa_cons (pv 4) pa_nil)) rfl)
    (pss_cons (psFld (K := K) (pv 0) (pe_dc (own := [("page", 6)]) rfl sc_Pages_init.nd (pi_range1 (by rfl) T.z_range (pa_cons (pe_ix (ixLT (K := K)) (pv 5) pe_int (fun _ _ => rfl)) pa_nil)) (blkOk_by (N := n_Pages_init) (sc := defScope s_Pages_init) (by decide +kernel)) (fun _ _ _ _ _ => (pg_name (i := 6) sc_Pages_init.nd rfl (Or.inl rfl))) (fun _ _ _ _ _ => pts_nil) (fun _ _ _ _ _ => (pv 6)) (fun _ _ _ _ _ => (pe_slice (slT (K := K)) (pe_ix (ixLT (K := K)) (pv 4) (pv 6) (fun _ _ => rfl)) (po_some pe_int) po_none))) rfl)
    (pss_cons (psFld (K := K) (pv 0) pe_dnewK rfl)
    (pss_cons (ps_lock (ps_for (passes_of rfl) rfl (pi_items (pv 3)) (pgTup (K := K) (n := 2) (pg_tup (n := 2) rfl (pgs_cons (pg_name (i := 6) sc_Pages_init.nd rfl (Or.inl rfl)) (pgs_cons (pgTup (K := K) (n := 2) (pg_tup (n := 2) rfl (pgs_cons (pg_name (i := 7) sc_Pages_init.nd rfl (Or.inl rfl)) (pgs_cons (pg_name (i := 8) sc_Pages_init.nd rfl (Or.inl rfl)) pgs_nil)))) pgs_nil))))
      (pss_cons (ps_dput (hu_of hr) (peFld (K := K) (pv 0) rfl) (pv 6) (pv 8) rfl)
    (pss_one (ps_if (pt_cmpR (oNe (K := K) hr.units) (pe_slice (slT (K := K)) (pe_ix (ixLT (K := K)) (pv 4) (pv 6) (fun _ _ => rfl)) po_none (po_some pe_int)) (pe_tup (pa_cons (pv 7) pa_nil)) (nomark _)) (pss_one (ps_dput (hu_of hr) (peFld (K := K) (pv 0) rfl) (pv 6) (pv 7) rfl)) pss_nil)))))
    (pss_one (psFld (K := K) (pv 0) pe_non rfl)))))))))))))), ?_⟩
      walk_at "go"
      exact .inr ⟨p, F, S, xs, rfl, hD, h0, hM, hb, kE⟩
    refine ⟨_, (pss_cons (ps_set (i := 2) sc_Pages_init.nd rfl (Or.inl rfl) (pe_op oAdd (pe_ix (ixLT (K := K)) (pe_call (ok_master_of T) (hr.mono (by decide)) (by rfl) T.master_of.g T.master_of.F.kp T.master_of.b .nil (passes_call (takes_of rfl rfl rfl rfl) (fun _ _ _ _ h => h)) (pa_cons (pv 1) pa_nil)) pe_int (fun _ _ => rfl)) pe_int))
    (pss_cons (ps_set (i := 3) sc_Pages_init.nd rfl (Or.inl rfl) (pe_call (ok_last_told T) (hr.mono (by decide)) (by rfl) T.last_told.g T.last_told.F.kp T.last_told.b .nil pass0 (pa_cons (pv 1) pa_nil)))
    (pss_cons (ps_set (i := 4) sc_Pages_init.nd rfl (Or.inr rfl) (pe_lc (own := [("block", 9)]) rfl sc_Pages_init.nd (pi_range2 (by rfl) T.z_range (pa_cons (pv 2) (pa_cons (pe_meth0 (pv 1) T.k_Disk.cl T.m_Disk_blocks.i (ok_Disk_blocks T) (hr.mono (by decide)) T.m_Disk_blocks.b .nil pass0) pa_nil))) (blkOk_by (N := n_Pages_init) (sc := defScope s_Pages_init) (by decide +kernel)) (fun _ _ _ _ _ => (pg_name (i := 9) sc_Pages_init.nd rfl (Or.inl rfl))) (fun _ _ _ _ _ => pts_nil) (fun _ _ _ _ _ => (pe_meth (pv 1) T.k_Disk.cl T.m_Disk_read.i (ok_Disk_read T) (hr.mono (by decide)) T.m_Disk_read.b .nil pass0 (pa_cons (pv 9) pa_nil)))))
    (pss_cons (ps_set (i := 5) sc_Pages_init.nd rfl (Or.inl rfl) (pe_ifExp (pt_cmp (pc_din (hu_of hr) (pe_glob (by rfl) T.c_META_PAGE.h T.c_META_PAGE.r) (pv 3))) (pe_ix (ixLT (K := K)) (pe_dget (hu_of hr) (pv 3) (pe_glob (by rfl) T.c_META_PAGE.h T.c_META_PAGE.r) (fun _ _ => rfl)) pe_int (fun _ _ => rfl)) (pe_slice (slT (K := K)) (pe_ix (ixLT (K := K)) (pv 4) (pe_glob (by rfl) T.c_META_PAGE.h T.c_META_PAGE.r) (fun _ _ => rfl)) (po_some pe_int) po_none)))
    (pss_cons (ps_if (pt_not (ptTruth (K := K) (pe_call (ok_is_meta T) (hr.mono (by decide)) (by rfl) T.is_meta.g T.is_meta.F.kp T.is_meta.b .nil pass0 (pa_cons (pv 5) (pa_cons (pe_callB (cLen (K := K)) (by rfl) T.z_len PySem.boot_len (pa_cons (pv 4) pa_nil)) pa_nil))) (by intro _; rfl))) (pss_one (ps_raise rfl (takes_of rfl rfl rfl rfl) (pmk_oexN T.e_BadDisk.o T.e_BadDisk.i T.e_BadDisk.t (ok_StoreError_init T.m_StoreError_init T.z_ValueError T.vV) (hr.mono (by decide)) T.m_StoreError_init.b pass0 (by rfl) T.e_BadDisk.g))) pss_nil)
    (pss_cons (psFld (K := K) (pv 0) (pe_make (T.m_Log_init.made T.k_Log) (ok_Log_init T) (hr.mono (by decide)) (by rfl) T.k_Log.g T.m_Log_init.b .nil (passes_call (takes_of rfl rfl rfl rfl) (fun _ _ _ _ h => h)) (pa_cons (pv 1) pa_nil)) rfl)
    (pss_cons (psFld (K := K) (pv 0) (pv 1) rfl)
    (pss_cons (psFld (K := K) (pv 0) (pv 2) rfl)
    (pss_cons (psFld (K := K) (pv 0) (pe_callB (cLen (K := K)) (by rfl) T.z_len PySem.boot_len (pa_cons (pv 4) pa_nil)) rfl)
    (pss_cons (psFld (K := K) (pv 0) (pe_dc (own := [("page", 6)]) rfl sc_Pages_init.nd (pi_range1 (by rfl) T.z_range (pa_cons (pe_ix (ixLT (K := K)) (pv 5) pe_int (fun _ _ => rfl)) pa_nil)) (blkOk_by (N := n_Pages_init) (sc := defScope s_Pages_init) (by decide +kernel)) (fun _ _ _ _ _ => (pg_name (i := 6) sc_Pages_init.nd rfl (Or.inl rfl))) (fun _ _ _ _ _ => pts_nil) (fun _ _ _ _ _ => (pv 6)) (fun _ _ _ _ _ => (pe_slice (slT (K := K)) (pe_ix (ixLT (K := K)) (pv 4) (pv 6) (fun _ _ => rfl)) (po_some pe_int) po_none))) rfl)
    (pss_cons (psFld (K := K) (pv 0) pe_dnewK rfl)
    (pss_cons (ps_lock (ps_for (passes_of rfl) rfl (pi_items (pv 3)) (pgTup (K := K) (n := 2) (pg_tup (n := 2) rfl (pgs_cons (pg_name (i := 6) sc_Pages_init.nd rfl (Or.inl rfl)) (pgs_cons (pgTup (K := K) (n := 2) (pg_tup (n := 2) rfl (pgs_cons (pg_name (i := 7) sc_Pages_init.nd rfl (Or.inl rfl)) (pgs_cons (pg_name (i := 8) sc_Pages_init.nd rfl (Or.inl rfl)) pgs_nil)))) pgs_nil))))
      (pss_cons (ps_dput (hu_of hr) (peFld (K := K) (pv 0) rfl) (pv 6) (pv 8) rfl)
    (pss_one (ps_if (pt_cmpR (oNe (K := K) hr.units) (pe_slice (slT (K := K)) (pe_ix (ixLT (K := K)) (pv 4) (pv 6) (fun _ _ => rfl)) po_none (po_some pe_int)) (pe_tup (pa_cons (pv 7) pa_nil)) (nomark _)) (pss_one (ps_dput (hu_of hr) (peFld (K := K) (pv 0) rfl) (pv 6) (pv 7) rfl)) pss_nil)))))
    (pss_one (psFld (K := K) (pv 0) pe_non rfl)))))))))))))), ?_⟩
    have l6 := hD.len
    walk_at "go"
    refine .inl ⟨p, F, S, M, rfl, hD, hM, h4, h8, fun c H1 hc s1 => ?_⟩
    have hc' : SqT K H1 c [.str "master", .int M.e, .int M.r, .int M.k, .int M.m, .int M.f] := hc
    walk_at "go"
    refine ⟨p, F, S, M, rfl, hD.same s1, hM, h4, h8, bk, be, hR, fun d H2 s2 n2 h2 => ?_⟩
    have s02 := s1.trans s2
    have hD2 := hD.same s02
    obtain ⟨fs, hdo, no⟩ := ins_of_ds hD2
    walk_at "go"
    refine i_rng2 ?_
    walk_at "go"
    refine m_call0 hdo (no _ (by decide +kernel)) ?_
    walk_at "go"
    obtain ⟨D0, hD0, eF0, v0⟩ := id hD2
    refine ⟨p, D0, rfl, hD0, ?_⟩
    rw [v0.lv.1]
    walk_at "go"
    refine i_rg2 (n := S.lies.length - (M.r + 1)) (by omega) (by omega) (by omega) ?_
    refine c_it walk_range (fun i acc H' => Same H2 H' ∧ ∃ cs : List Addr, acc = cs.map V.ref ∧ cs.length = i ∧ ∀ (j : Nat) (c : Addr), cs[j]? = some c → ∃ xs, S.shows ((M.r : Int) + 1 + (j : Nat)) = some xs ∧ SqT K H' c xs) (fun D hD => ⟨upd_free (Same.refl _) hD, [], rfl, rfl, by simp⟩) (fun _ _ _ _ _ => trivial) (fun acc l H3 nl hl z => ?_) (fun i x acc H3 H4 l hi nl hl z y => ?_)
    rotate_left 1
    · obtain ⟨s3, cs, rfl, lc, hcs⟩ := z
      obtain ⟨rfl, rfl⟩ := y
      refine ⟨rfl, ?_⟩
      walk_at "go"
      refine m_call0 (ins_same s3 hdo) (no _ (by decide +kernel)) ?_
      walk_at "go"
      refine w_read (hD2.same s3) (by omega) (by omega) fun c xs e1 hc1 ok1 => ?_
      refine ⟨_, hl, lt_size (by rw [List.length_map]; omega), _, upd_same, upd_free s3 nl, cs ++ [c], by rw [List.map_append]; rfl, by rw [List.length_append, lc]; rfl, fun j a ha => ?_⟩
      have keep : ∀ t xs, SqT K H4 t xs → SqT K (upd H4 l (.lst (cs.map V.ref ++ [.ref c]))) t xs := fun t xs h => oth_st (fun b o nb z => by rw [upd_ne nb]; exact z) hl h
      by_cases hj : j < cs.length
      · rw [List.getElem?_append_left hj] at ha
        obtain ⟨ys, q1, q2⟩ := hcs j a ha
        exact ⟨ys, q1, keep _ _ q2⟩
      · rw [List.getElem?_append_right (by omega)] at ha
        have ej : j - cs.length = 0 := by
          cases e : j - cs.length with
          | zero => rfl
          | succ n => rw [e] at ha; cases ha
        rw [ej] at ha
        obtain rfl := Option.some.inj ha
        refine ⟨xs, ?_, keep _ _ hc1⟩
        rw [show ((j : Nat) : Int) = (i : Nat) by omega, ← e1]
    · obtain ⟨s3, cs, rfl, lc, hcs⟩ := z
      have lc0 : 0 < cs.length := by omega
      obtain ⟨ys, y1, y2⟩ := hcs 0 cs[0] (List.getElem?_eq_getElem lc0)
      rw [show ((M.r : Int) + 1 + ((0 : Nat) : Int)) = (M.r : Int) + 1 by omega, hmt] at y1
      obtain rfl := Option.some.inj y1
      walk_at "go"
      refine ⟨d, none, rfl, DGet.k (k := Sum.inl 0) (s3 _ _ h2), ?_⟩
      walk_at "go"
      rw [if_neg (by simp)]
      walk_at "go"
      refine o_ixL (slO hl) (atI_in (j := 0) rfl (by rw [List.getElem?_map, List.getElem?_eq_getElem lc0]; rfl)) ?_
      walk_at "go"
      refine r_slT y2 fun m H4 s4 hm => ?_
      rw [show cutV (y :: metaT (-1) 1 0 la) (some 1) none = metaT (-1) 1 0 la from cut_from (i := 1)] at hm
      have hl4 := s4 _ _ hl
      walk_at "go"
      refine ⟨m, -1, 1, 0, la, cs.length, rfl, hm, ⟨by decide, by omega, .inl rfl, by decide, by decide, hla⟩, ?_⟩
      walk_at "go"
      refine e_make ?_
      walk_at "go"
      intro q dxq nq ndxq nqd
      show sp_init K T.C_Log T.C_Disk T.e_BadDisk.C [.ref q, .ref p] _ _ _
      have s24 := s3.trans s4
      have s04 := s02.trans s24
      have hq5 : upd (upd H4 dxq (.own q)) q (.ins T.C_Log dxq []) q = some (.ins T.C_Log dxq []) := upd_same
      obtain ⟨s5, f5⟩ := made5 (C := T.C_Log) nq ndxq
      generalize upd (upd H4 dxq (.own q)) q (.ins T.C_Log dxq []) = H5 at *
      have s05 := s04.trans s5
      obtain ⟨dx, hob⟩ := hI
      have hob5 := s05 _ _ hob
      have qg : g ≠ q := fun z => by rw [← z, s04 _ _ hob] at nq; cases nq
      refine .inl ⟨q, p, F, S, M, fun _ => none, rfl, ⟨dxq, hq5⟩, fun m => (hD.same s04).there _ m nq, hD.same s05, hM, h4, h8, bk, be, bm, bf, hpw, hfew, hR, fun T' F' GL H6 op hD6 hL6 dj6 c6 f6 g6 => ⟨rfl, ?_⟩⟩
      rw [recs_none h4] at hL6
      have hob6 : H6 g = some (.ins T.C_Pages dx []) := c6.at_ (fun m => (List.mem_cons.mp m).elim qg gF) hob5
      walk_at "go"
      have ln6 : l ∉ q :: F := fun z => (List.mem_cons.mp z).elim (fun z => by rw [z] at hl4; rw [hl4] at nq; cases nq) (fun z => hD2.there _ z nl)
      have dn6 : d ∉ q :: F := fun z => (List.mem_cons.mp z).elim (fun z => by rw [← z, s24 _ _ h2] at nq; cases nq) (fun z => (hD.same s1).there _ z n2)
      have lg : l ≠ g := fun z => by rw [z, s02 _ _ hob] at nl; cases nl
      have dg : d ≠ g := fun z => by rw [z, s1 _ _ hob] at n2; cases n2
      have hl6 := c6.at_ ln6 (s5 _ _ hl4)
      have hd6 := c6.at_ dn6 (s5 _ _ (s24 _ _ h2))
      have hm6 := c6.st (st_ s5 hm)
      have hy6 := c6.st (st_ s5 (st_ s4 y2))
      refine s_fldO rfl hob6 T.k_Pages.cl T.n_Pages__log (by show 0 < 1000; decide) fun H7 o7 hob7 => ?_
      have c7 : Ch [g] H6 H7 := Ch.of_oth o7 (by simp) fun o e => by rw [hob6] at e; cases e; rfl
      walk_at "go"
      refine s_fldO rfl hob7 T.k_Pages.cl T.n_Pages__disk (by show 1 < 1000; decide) fun H8 o8 hob8 => ?_
      have c8 : Ch [g] H6 H8 := c7.trans (Ch.of_oth (p := g) (F := [g]) o8 (by simp) fun o e => by rw [hob7] at e; cases e; rfl) fun a m => .inl m
      walk_at "go"
      refine s_fldO rfl hob8 T.k_Pages.cl T.n_Pages__first (by show 2 < 1000; decide) fun H9 o9 hob9 => ?_
      have c9 : Ch [g] H6 H9 := c8.trans (Ch.of_oth (p := g) (F := [g]) o9 (by simp) fun o e => by rw [hob8] at e; cases e; rfl) fun a m => .inl m
      have hl9 := c9.at_ (by simpa using lg) hl6
      walk_at "go"
      refine s_fldO rfl hob9 T.k_Pages.cl T.n_Pages__many (by show 3 < 1000; decide) fun H10 o10 hob10 => ?_
      have c10 : Ch [g] H6 H10 := c9.trans (Ch.of_oth (p := g) (F := [g]) o10 (by simp) fun o e => by rw [hob9] at e; cases e; rfl) fun a m => .inl m
      have hl10 := c10.at_ (by simpa using lg) hl6
      have hm10 : SqT K H10 m [.str "meta", .int (-1), .int 1, .int 0, .int la] := c10.st hm6
      have hy10 := c10.st hy6
      walk_at "go"
      refine i_rng 1 rfl (by decide) (by decide) ?_
      refine d_it (walk_range (n := 1)) (fun i acc H' => Same H10 H' ∧ ((i = 0 ∧ acc = []) ∨ (i = 1 ∧ ∃ a, acc = [((Sum.inl 0 : Key), V.ref a)] ∧ SqT K H' a (metaT (-1) 1 0 la)))) (fun dn hdn => ⟨Same.new hdn, .inl ⟨rfl, rfl⟩⟩) (fun _ _ _ _ _ => trivial) (fun acc dn H11 hLn hL11 z => ?_) (fun i x acc H11 H12 dn hi hLn hL11 z y => ?_)
      rotate_left 1
      · obtain ⟨s11, z⟩ := z
        obtain rfl : i = 0 := by omega
        obtain rfl : acc = [] := z.elim (fun z => z.2) (fun z => absurd z.1 (by decide))
        obtain ⟨rfl, rfl⟩ := y
        refine ⟨rfl, ?_⟩
        walk_at "go"
        refine o_ixL (slO (s11 _ _ hl10)) (atI_in (j := 0) rfl (by rw [List.getElem?_map, List.getElem?_eq_getElem lc0]; rfl)) ?_
        walk_at "go"
        refine r_slT (st_ s11 hy10) fun a H13 s13 ha => ?_
        rw [show cutV (y :: metaT (-1) 1 0 la) (some 1) none = metaT (-1) 1 0 la from cut_from (i := 1)] at ha
        have hL13 := s13 _ _ hL11
        refine ⟨[], (Sum.inl 0 : Key), rfl, hL13, by decide, _, upd_same, upd_free (s11.trans s13) hLn, .inr ⟨rfl, a, rfl, ?_⟩⟩
        exact (Ch.upd1 (F := [dn]) (by simp) fun o e => by rw [hL13] at e; cases e; rfl).st ha
      · obtain ⟨s11, z⟩ := z
        obtain ⟨a, rfl, ha⟩ := z.elim (fun z => absurd z.1 (by decide)) (fun z => z.2)
        walk_at "go"
        refine s_fldO rfl (s11 _ _ hob10) T.k_Pages.cl T.n_Pages__held (by show 4 < 1000; decide) fun H12 o12 hob12 => ?_
        have c12 : Ch [g] H11 H12 := Ch.of_oth o12 (by simp) fun o e => by rw [s11 _ _ hob10] at e; cases e; rfl
        have dng : dn ≠ g := fun z => by rw [z, hob10] at hLn; cases hLn
        walk_at "go"
        refine e_dnew fun dd H13 n13 s13 h13 => ?_
        have hob13 := s13 _ _ hob12
        walk_at "go"
        refine s_fldO rfl hob13 T.k_Pages.cl T.n_Pages__dirty (by show 5 < 1000; decide) fun H14 o14 hob14 => ?_
        have c14 : Ch [g] H13 H14 := Ch.of_oth o14 (by simp) fun o e => by rw [hob13] at e; cases e; rfl
        have c614 : Ch [g] H6 H14 := ((((c10.trans (Ch.of_same (F := [g]) s11) fun a m => .inl m).trans c12 fun a m => .inl m).trans (Ch.of_same (F := [g]) s13) fun a m => .inl m).trans c14 fun a m => .inl m)
        have hd14 := c614.at_ (by simpa using dg) hd6
        walk_at "go"
        refine ⟨d, .dK [], hd14, trivial, fun od => ?_⟩
        have hf : upd H14 d (.frz od (.dK [])) d = some (.frz od (.dK [])) := upd_same
        have of : ∀ x, x ≠ d → upd H14 d (.frz od (.dK [])) x = H14 x := fun x z => upd_ne z
        generalize upd H14 d (.frz od (.dK [])) = H15 at *
        refine i_items0 ?_
        walk_at "go"
        refine ⟨d, od, [], rfl, hf, ?_⟩
        refine l_it (walk_items (kvs := [])) (fun i σ5 H5 => H5 = H15 ∧ σ5 = [some (.ref g), some (.ref p), some (.int ((M.r : Int) + 1)), some (.ref d), some (.ref l), some (.ref m), none, none, none, none]) ⟨rfl, rfl⟩ (fun i σ5 H5 hi z => by rw [z.1]; exact hf) (fun σ5 H5 z => ?_) (fun i x σ5 H5 H6 hi => absurd hi (Nat.not_lt_zero _))
        obtain ⟨rfl, rfl⟩ := z
        refine ⟨hf, ?_⟩
        have e16 : upd H5 d (.dK []) = H14 := by
          funext x
          by_cases z : x = d
          · subst z; rw [upd_same, hd14]
          · rw [upd_ne z, of x z]
        rw [e16]
        walk_at "go"
        refine s_fldO rfl hob14 T.k_Pages.cl T.n_Pages__batch (by show 6 < 1000; decide) fun H17 o17 hob17 => ?_
        have c17 : Ch [g] H14 H17 := Ch.of_oth o17 (by simp) fun o e => by rw [hob14] at e; cases e; rfl
        have c617 : Ch [g] H6 H17 := c614.trans c17 fun a m => .inl m
        have fr6 : ∀ x, H6 x = none → x ∈ F ∨ H x = none := fun x n => (ch_free c6 n).elim (fun m => (List.mem_cons.mp m).elim (fun z => .inr (by rw [z]; exact free_ s04 nq)) .inl) (fun n => .inr (free_ s05 n))
        have fr10 : ∀ x, x ≠ g → H10 x = none → H6 x = none := fun x xg n => (ch_free c10 n).resolve_left (by simpa using xg)
        have g6g : ∀ x ∈ F', x ≠ g := fun x m z => (f6 x m).elim (fun q => gF (z ▸ q)) (fun q => by rw [z, hob5] at q; cases q)
        have gLg : ∀ x ∈ GL, x ≠ g := fun x m z => (g6 x m).elim (fun q => qg (z.symm.trans q)) (fun q => q.elim (fun q => gF (z ▸ q)) (fun q => by rw [z, hob5] at q; cases q))
        have hD17 := hD6.ch c617 fun x m => by simpa using g6g x m
        have hL17 := hL6.ch c617 fun x m => by simpa using gLg x m
        have hn6 : H6 dn = none := fr10 dn dng hLn
        have dd0 : H10 dd = none := by
          have n11 : H11 dd = none := (ch_free c12 n13).resolve_left (fun z => by rw [List.mem_singleton.mp z, hob12] at n13; cases n13)
          exact free_ s11 n11
        have ddg : dd ≠ g := fun z => by rw [z, hob12] at n13; cases n13
        have dd6 : H6 dd = none := fr10 dd ddg dd0
        have hdn12 := c12.at_ (by simpa using dng) hL11
        have ndd : dn ≠ dd := fun z => by rw [← z, hdn12] at n13; cases n13
        have hdn17 := c17.at_ (by simpa using dng) (c14.at_ (by simpa using dng) (s13 _ _ hdn12))
        have hdd17 := c17.at_ (by simpa using ddg) (c14.at_ (by simpa using ddg) h13)
        have ha17 := c17.st (c14.st (st_ s13 (c12.st ha)))
        refine k T' F' q GL [g, dn, dd] H17 op hD17 hL17 ⟨dn, dd, rfl, ndd, ⟨dx, ?_⟩, ⟨_, hdn17, by show 1 ≤ 2000; decide, fun b => ?_⟩, ⟨[], hdd17, by decide, fun b => rfl⟩⟩ ⟨g, dn, dd, _, _, rfl, hdn17, hdd17, Nat.le_refl 1, by decide⟩ dj6 ?_ ?_ (fun x m => (f6 x m).imp id (free_ s05)) (fun x m => (g6 x m).elim (fun z => .inr (by rw [z]; exact free_ s04 nq)) (fun z => z.imp id (free_ s05))) ?_
        · rw [hob17]
          rw [show cs.length = S.lies.length - (M.r + 1) from lc]
          rfl
        · show match putF1 (fun _ => none) 0 (metaT (-1) 1 0 la) b with
            | none => _
            | some c => _
          unfold putF1
          by_cases z : b = 0
          · subst z
            rw [if_pos rfl]
            exact ⟨a, rfl, ha17⟩
          · rw [if_neg z]
            exact (valV_neg (p := ((Sum.inl 0 : Key), V.ref a)) (fun e => z (Sum.inl.inj e).symm)).trans rfl
        · intro x m
          simp only [List.mem_cons, List.not_mem_nil, or_false] at m
          rcases m with z | z | z <;> subst z
          · exact ⟨fun m => g6g _ m rfl, fun m => gLg _ m rfl⟩
          · exact ⟨fun m => hD6.there _ m hn6, fun m => hL6.there _ m hn6⟩
          · exact ⟨fun m => hD6.there _ m dd6, fun m => hL6.there _ m dd6⟩
        · exact ((Ch.of_same (F := g :: F) s05).trans c6 fun a m => (List.mem_cons.mp m).elim (fun z => .inr (by rw [z]; exact free_ s04 nq)) (fun z => .inl (List.mem_cons_of_mem _ z))).trans c617 fun a m => .inl (by rw [List.mem_singleton.mp m]; simp)
        · intro x m
          simp only [List.mem_cons, List.not_mem_nil, or_false] at m
          rcases m with z | z | z <;> subst z
          · exact .inl rfl
          · exact .inr (fr6 _ hn6)
          · exact .inr (fr6 _ dd6)
end



section
variable {P : Program} {w : World} {K : PySem.W.Frag} {mg : Str → Option Value} {base : Heap}
/-! ### the law's objects, side by side -/
theorem bag_ch {B : Bg} {F : List Addr} {H0 H H' : Hp} (b0 : BagAt K H0 B) (b : BagAt K H B) (c : Ch F H H') (n : ∀ x ∈ F, H0 x = none) : BagAt K H' B := by
  obtain ⟨_, _, _, _, z1, z2, _⟩ := b0
  obtain ⟨i, big, x, cc, h1, h2, h3⟩ := b
  exact ⟨i, big, x, cc, c.at_ (fun m => by rw [n _ m] at z1; cases z1) h1, c.at_ (fun m => by rw [n _ m] at z2; cases z2) h2, h3⟩
theorem Hs.ch {B : Bg} {H H' : Hp} (b : BagAt K H B) (h : Hs K B H H') : Ch [B.hd] H H' := by
  obtain ⟨ys, q⟩ := bag_lst b
  exact Ch.of_oth h.o (by simp) fun o e => by rw [q] at e; cases e; rfl
section
variable {TL : List (Addr × Str)} {CB CP CD CL p q g b : Addr} {H0 H H' H1 : Hp} {B : Bg} {F G GL GB : List Addr} {S : SD} {L : LD} {LL : LD} {D : PgD} {E : BtD} {X : XK} {Q : VK} {n m i : Nat}
theorem bag0_ne (b0 : BagAt K H0 B) {x : Addr} (h : H0 x = none) : x ∉ [B.hd] := fun z => by
  obtain ⟨ys, e⟩ := bag_lst b0
  rw [List.mem_singleton.mp z, e] at h; cases h
/-! ### all but the tables stays -/
theorem xn_st {c : Addr} {xs : List V} (e : LamX.ExtN H H') (s : SqT K H c xs) : SqT K H' c xs := by
  rcases s with (s | ⟨u, s⟩) | s
  · exact .inl (.inl (e _ _ s (fun ps z => by cases z)))
  · exact .inl (.inr ⟨u, e _ _ s (fun ps z => by cases z)⟩)
  · exact .inr s
theorem xn_tups {cs : List Addr} {xss : List Ct} (e : LamX.ExtN H H') (h : TupsAt K H cs xss) : TupsAt K H' cs xss := ⟨h.1, fun i c xs a b => xn_st e (h.2 i c xs a b)⟩
theorem DS.xn (e : LamX.ExtN H H') (h : DS K CD H p F S) : DS K CD H' p F S := by
  obtain ⟨D, d, rfl, v⟩ := h
  obtain ⟨dx, hob⟩ := d.ob
  refine ⟨D, ⟨⟨dx, e _ _ hob (fun ps z => by cases z)⟩, e _ _ d.hl (fun ps z => by cases z), e _ _ d.hw (fun ps z => by cases z), fun r hr => ⟨e _ _ (d.hr r hr).1 (fun ps z => by cases z), (d.hr r hr).2⟩, d.nd, d.kd, d.lr, d.few, d.kb⟩, rfl, ⟨v.ok, xn_tups e v.lv, fun b => ?_, v.pw, v.rc⟩⟩
  have hb := v.rv b
  split at hb
  · exact hb
  · exact xn_tups e hb
theorem LS.xn (e : LamX.ExtN H H') (h : LS K CL H q p GL LL) : LS K CL H' q p GL LL := by
  obtain ⟨kl, ts, eG, ⟨dx, hob⟩, hkl, hka⟩ := h
  exact ⟨kl, ts, eG, ⟨dx, e _ _ hob (fun ps z => by cases z)⟩, e _ _ hkl (fun ps z => by cases z), hka.st fun c ys s => xn_st e s⟩
theorem bag_xn (e : LamX.ExtN H H') (h : BagAt K H B) : BagAt K H' B := by
  obtain ⟨i, big, x, cc, h1, h2, h3⟩ := h
  exact ⟨i, big, x, cc, e _ _ h1 (fun ps z => by cases z), e _ _ h2 (fun ps z => by cases z), h3⟩
theorem HeldAt.xn {d : Addr} {f : Int → Option Ct} (e : LamX.ExtN H H') (h : HeldAt K H d f) : HeldAt K H' d f := by
  obtain ⟨kvs, h1, h2, h3⟩ := h
  refine ⟨kvs, e _ _ h1 (fun ps z => by cases z), h2, fun b => ?_⟩
  have := h3 b
  split at this
  · exact this
  · obtain ⟨a, x, y⟩ := this
    exact ⟨a, x, xn_st e y⟩
theorem PgAt.xn (e : LamX.ExtN H H') (h : PgAt K CP H g G D) : PgAt K CP H' g G D := by
  obtain ⟨hd, dd, eG, ne, ⟨dx, hob⟩, h1, kvs, h2, h3⟩ := h
  exact ⟨hd, dd, eG, ne, ⟨dx, e _ _ hob (fun ps z => by cases z)⟩, h1.xn e, kvs, e _ _ h2 (fun ps z => by cases z), h3⟩
theorem BtAt.xn (e : LamX.ExtN H H') (h : BtAt K CB H b GB E) : BtAt K CB H' b GB E := by
  obtain ⟨ch, eG, ⟨dx, hob⟩, h1, kvs, h2, h3⟩ := h
  exact ⟨ch, eG, ⟨dx, e _ _ hob (fun ps z => by cases z)⟩, h1.xn e, kvs, e _ _ h2 (fun ps z => by cases z), h3⟩
end
end



section
variable {P : Program} {w : World} {K : PySem.W.Frag} {mg : Str → Option Value} {base : Heap}
/-! ### a copy -/
theorem df_pl (l l' w : Addr) (pw : V) (rc : Int) : putF "_lies" (.ref l') (df l w pw rc) = df l' w pw rc := rfl
def SD.cop (S : SD) : SD := ⟨S.lies, fun _ => [], none, 0⟩
theorem SD.cop_ok {S : SD} (h : S.Ok) : S.cop.Ok := ⟨h.ln, h.cl, fun b xs hx => (nomatch hx), fun b z => absurd rfl z, fun i z => (nomatch z)⟩
def sp_dcopy (K : PySem.W.Frag) (C : Addr) : Sp := fun vs H Q _ => ∃ p F S, vs = [.ref p] ∧ DS K C H p F S ∧ 16 ≤ S.lies.length ∧ ∀ p' F' H', DS K C H' p' F' S.cop → (∀ a ∈ F', H a = none) → Same H H' → Q (.ref p') H'
theorem ok_Disk_copy (T : Txt K mg) : FnOk P w K mg base CX0 5 T.m_Disk_copy.f T.m_Disk_copy.fd ["self"] ((sp_dcopy K T.C_Disk)) := by
  refine T.m_Disk_copy.F.ok sc_Disk_copy (fun vs H Q E h => ?_) (fun cdv A outer s H vs Q E hr h => ?_)
  · obtain ⟨p, F, S, rfl, _⟩ := h
    rfl
  · obtain ⟨p, F, S, rfl, ⟨D, hD, rfl, v⟩, h16, k⟩ := h
    refine ⟨_, (pss_cons (ps_set (i := 1) sc_Disk_copy.nd rfl (Or.inl rfl) (pe_make (T.m_Disk_init.made T.k_Disk) (ok_Disk_init T) (hr.mono (by decide)) (by rfl) T.k_Disk.g T.m_Disk_init.b .nil passL (pa_cons (pe_callB (cLen (K := K)) (by rfl) T.z_len PySem.boot_len (pa_cons (peFld (K := K) (pv 0) rfl) pa_nil)) pa_nil)))
    (pss_cons (psFld (K := K) (pv 1) (pe_callTy (cListOf (K := K)) (by rfl) T.z_list (by decide +kernel) (pa_cons (peFld (K := K) (pv 0) rfl) pa_nil)) rfl)
    (pss_one (ps_ret (pv 1))))), ?_⟩
    have hl := slO (K := K) hD.hl
    have ll := v.lv.1
    have l6 := v.ok.ln
    walk_at "go"
    refine e_make ?_
    walk_at "go"
    refine o_fld hD.ob T.k_Disk.cl T.n_Disk__lies (df_l _ _ _ _) ?_
    walk_at "go"
    intro p' dx np ndx ne
    show sp_disk_init K T.C_Disk T.e_BadDisk.C [.ref p', .int D.lies.length] _ _ _
    have hq5 : upd (upd H dx (.own p')) p' (.ins T.C_Disk dx []) p' = some (.ins T.C_Disk dx []) := upd_same
    have s5 : Same H (upd (upd H dx (.own p')) p' (.ins T.C_Disk dx [])) := fun x o e => by
      rw [upd_ne (ne_of_none e np), upd_ne (ne_of_none e ndx)]; exact e
    have f5 : ∀ x, x ≠ p' → upd (upd H dx (.own p')) p' (.ins T.C_Disk dx []) x = none → H x = none := fun x hx e => by
      cases q : H x with
      | none => rfl
      | some o => rw [s5 x o q] at e; cases e
    generalize upd (upd H dx (.own p')) p' (.ins T.C_Disk dx []) = H5 at *
    refine .inl ⟨p', D.lies.length, rfl, ⟨dx, hq5⟩, by omega, by omega, fun H6 D6 hD6 hf6 l6' hc6 r6 pw6 rc6 but6 => ⟨rfl, ?_⟩⟩
    have s6 : Same H H6 := fun x o e => but6 x o (by rw [List.mem_singleton]; exact ne_of_none e np) (s5 x o e)
    have hl6 := slO (K := K) (s6 _ _ hD.hl)
    walk_at "go"
    refine o_fld (hD.same s6).ob T.k_Disk.cl T.n_Disk__lies (df_l _ _ _ _) ?_
    walk_at "go"
    refine n_new0 fun L H7 n7 s7 h7 => ?_
    obtain ⟨dx6, hob6⟩ := hD6.ob
    walk_at "go"
    refine s_fld rfl (s7 _ _ hob6) T.k_Disk.cl T.n_Disk__lies (by show 4 < 1000; decide) ?_
    rw [df_pl]
    walk_at "go"
    have Lp : L ≠ p' := ne_of_none' hob6 n7
    have s67 := s6.trans s7
    have hw6 := s7 _ _ hD6.hw
    have wp : D6.w ≠ p' := fun z => by have := hD6.hw; rw [z, hob6] at this; cases this
    have s8 : Same H (upd H7 p' (.ins T.C_Disk dx6 (df L D6.w (pwV D6.pw) D6.rc))) := fun x o e => by
      rw [upd_ne (ne_of_none e np)]; exact s67 _ _ e
    refine k p' [p', L, D6.w] _ ⟨⟨L, D.lies, D6.w, [], none, 0⟩, ⟨⟨dx6, ?_⟩, ?_, ?_, fun r hr => (nomatch hr), List.nodup_nil, List.nodup_nil, by simp, hD.few, fun r hr => (nomatch hr)⟩, rfl, ⟨SD.cop_ok v.ok, ⟨v.lv.1, fun i c xs a b => st_ s8 (v.lv.2 i c xs a b)⟩, fun b => rfl, rfl, rfl⟩⟩ (fun a ha => ?_) s8
    · rw [← pw6, ← rc6]; exact upd_same
    · exact (upd_ne Lp).trans h7
    · show upd H7 p' _ D6.w = _
      rw [upd_ne wp, hw6, r6]
    · simp only [List.mem_cons, List.not_mem_nil, or_false] at ha
      rcases ha with z | z | z
      · rw [z]; exact np
      · rw [z]; exact free_ s6 n7
      · rcases hf6 D6.w (by unfold Dsk.foot; simp) with y | y
        · exact absurd y wp
        · rw [z]; exact f5 _ wp y
end



/-! ### what a call tells, or that the disk is bad -/
abbrev n_law_word4 : List Str := ["call", "found", "error"]
theorem sc_law_word4 : FnScope n_law_word4 ["call"] (defScope s_law_word) := ⟨rfl, rfl, rfl, by decide +kernel, rfl, by decide +kernel, by decide +kernel⟩
def wHds : List Stmt → List ExceptHandler
  | [_, Stmt.Try _ hds _ _ _, _] => hds
  | _ => []
def wBody : List ExceptHandler → Nat → List Stmt
  | ExceptHandler.ExceptHandler _ _ b _ :: _, 0 => b
  | _ :: r, n + 1 => wBody r n
  | _, _ => []
abbrev wSuite : List Stmt := wBody (wHds (defBody s_law_word)) 0
abbrev wX (X : Cx) (g : Addr) (cdg : Value) (s : Shared) (H : Hp) : Cx := (cxOf C8.CX0 X.prog X.w X.K X.mg X.base n_law_word4 "_law_word" (defScope s_law_word) g cdg X.A X.stack s H C8.E0).nox
theorem wSuite_s {X : Cx} (T : Txt X.K X.mg) (g : Addr) (cdg : Value) (s : Shared) (H0 : Hp) : ∃ t : Addr → TS, (∀ (a : Addr) (oe : Obj) (k : Value) (d : Option Addr) (pn : List (Addr × Obj)), Zc k d oe → (∃ vs, oe.data = .fields vs) → k = .ref T.e_BadDisk.C → d = none → PSs ((wX X g cdg s H0).suite a ((a, oe) :: pn)) wSuite (t a)) ∧
    ∀ (a : Addr) (y0 y1 : Option V) (E : Ends) (H : Hp), (∀ p, H p = none → E.nx [y0, some (.ref p), some (.ref a)] (upd H p (.tup [.str "disk", .non]))) → t a E [y0, y1, some (.ref a)] H := by
  apply Exists.intro
  refine And.intro (fun a oe k d pn hz hf hk hd => ?_) fun a y0 y1 E H q => ?_
  · subst hk hd
    exact pss_one (ps_set (i := 1) sc_law_word4.nd rfl (Or.inl rfl) (pe_tup (pa_cons (pe_ifExp (PW.pt (pw_and (ptTruth (K := X.K) (pe_callB (call_isE T.x_BadDisk hz hf) (by rfl) T.z_isinstance (by decide +kernel) (pa_cons (pe_var (i := 2) rfl (Or.inl rfl) (by decide) (by decide)) (pa_cons (C8.pe_gc (v := .ref T.N_StoreError) (by rfl) ⟨_, T.g_StoreError, rfl⟩) pa_nil))) (by intro _; rfl))
      (pw_and1 (ptTruth (K := X.K) (pe_callB (call_isE T.x_BadDisk hz hf) (by rfl) T.z_isinstance (by decide +kernel) (pa_cons (pe_var (i := 2) rfl (Or.inl rfl) (by decide) (by decide)) (pa_cons (pe_bltn (v := .ty "ValueError") (by rfl) T.z_ValueError (by decide +kernel) rfl) pa_nil))) (by intro _; rfl))))) pe_str pe_str) (pa_cons pe_non pa_nil))))
  · walk_at "go"
    refine ⟨_, _, true, rfl, fun u r => (by cases r; rfl), T.ks_BadDisk, ?_⟩
    walk_at "go"
    refine ⟨_, _, true, rfl, fun u r => (by cases r; rfl), T.kv_BadDisk, ?_⟩
    walk_at "go"
    exact ⟨by decide, fun p np => q p np⟩
def TToldV (CB : Addr) : (XK → Hp → VK → Prop) → Hp → VK → Prop := fun tl H Q => ∀ H0, Same H H0 → tl (fun cls d H' => d = none ∧ cls = .ref CB ∧ ∀ p, H' p = none → Q (.ref p) (upd H' p (.tup [.str "disk", .non]))) H0 fun v H' => [V.str "told", v].length ≤ sizeLine ∧ ∀ p, H' p = none → Q (.ref p) (upd H' p (.tup [.str "told", v]))
theorem told_gives {X : Cx} (T : Txt X.K X.mg) {q : Str} {cdg : Value} : LamX.GivesTo X n_law_word4 "_law_word" (defScope s_law_word) T.law_word.f cdg (defBody s_law_word) "call" q (TToldV T.e_BadDisk.C) := by
  intro f c' s H Q tl act hc h
  obtain ⟨t, ht, hq⟩ := wSuite_s T T.law_word.f cdg s H
  refine ⟨_, pss_cons (ps_set (X := wX X T.law_word.f cdg s H) (i := 1) sc_law_word4.nd rfl (Or.inl rfl) (pe_tup (pa_cons pe_str (pa_cons pe_non pa_nil)))) (pss_cons (ps_tell1 (X := wX X T.law_word.f cdg s H) (i := 2) (n := "error") (c := .ref T.e_BadDisk.C) (u := fun a k d E σ H => k = .ref T.e_BadDisk.C ∧ d = none ∧ t a E σ H)
      (tb := fun W D σ H => ∃ Ech : XK, (∀ cls d σ' H', σ'.length = 3 → Ech cls d H' → W cls d σ' H') ∧ σ[0]? = some (some (.ref f)) ∧ H c' = some (LamX.CodeO c' q) ∧ tl Ech H fun v H' => [V.str "told", v].length ≤ sizeLine ∧ ∀ p, H' p = none → D.nx (σ.set 1 (some (.ref p))) (upd H' p (.tup [.str "told", v])))
      rfl rfl sc_law_word4.nd rfl rfl (fun W pn xe tk _ => ?_) ⟨by rfl, by decide, .inl T.e_BadDisk.g⟩ (fun a oe k d pn hz hf => ⟨fun pins s' σ H' E I hq' => ?_⟩))
    (pss_one (ps_ret (pe_var (i := 1) rfl (Or.inl rfl) (by decide) (by decide))))), ?_⟩
  · refine ⟨fun pins s' σ H' D I h' => ?_⟩
    obtain ⟨Ech, hW, h1, h2, h3⟩ := h'
    have hp := fun p1 p2 => act (fun c d σ H => σ.length = 3 → W c d σ H) pn xe Ech p1 p2 (takes_len tk) (fun cls d σ' H' e l => hW cls d σ' H' l e)
    exact (pss_one (ps_set (i := 1) sc_law_word4.nd rfl (Or.inl rfl) (pe_tup (pa_cons pe_str (pa_cons (hp _ _) pa_nil))))).run pins s' σ H' D I ⟨h1, h2, h3⟩
  · obtain ⟨hk, hd, q⟩ := hq'
    exact (ht a oe k d pn hz hf hk hd).run pins s' σ H' E I q
  · refine ⟨by decide, fun p0 np0 => ?_⟩
    refine ⟨fun cls d H' => d = none ∧ cls = .ref T.e_BadDisk.C ∧ ∀ p, H' p = none → Q (.ref p) (upd H' p (.tup [.str "disk", .non])), fun cls d σ' H' l e => ?_, rfl, (Same.new np0) _ _ hc, ?_⟩
    · obtain ⟨y0, y1, y2, rfl⟩ : ∃ y0 y1 y2, σ' = [y0, y1, y2] := by
        match σ', l with
        | [y0, y1, y2], _ => exact ⟨y0, y1, y2, rfl⟩
      obtain ⟨rfl, rfl, e⟩ := e
      exact ⟨T.e_BadDisk.te, fun a ha => ⟨rfl, rfl, hq a y0 y1 _ H' fun p np => ⟨_, rfl, e p np⟩⟩⟩
    · refine Eq.mpr (congrArg (tl _ _) (funext fun v => funext fun H' => ?_)) (h _ (Same.new np0))
      refine congrArg (And _) (propext ⟨fun z p np => ?_, fun z p np => ⟨_, rfl, z p np⟩⟩)
      obtain ⟨u, e, z⟩ := z p np
      have e2 : V.ref p = u := Option.some.inj (Option.some.inj e)
      rw [e2]
      exact z
theorem told_givesX {K : PySem.W.Frag} {mg : Str → Option Value} (T : Txt K mg) {X : Cx} (hK : X.K = K) (hm : X.mg = mg) {q : Str} {cdg : Value} : LamX.GivesTo X n_law_word4 "_law_word" (defScope s_law_word) T.law_word.f cdg (defBody s_law_word) "call" q (TToldV T.e_BadDisk.C) := by
  subst hK hm
  exact told_gives T



section
variable {P : Program} {w : World} {K : PySem.W.Frag} {mg : Str → Option Value} {base : Heap}
/-! ### what a disk means -/
theorem few_nil {S : SD} (h : ∀ x, S.rows x = []) : Few S := ⟨[], by decide, fun b hb => absurd (h b) hb⟩
/-- blocks as they lie on a disk without records -/
structure Dk (ls : List Ct) (r : Nat) (c : Ct) : Prop where
  h4 : 4 ≤ r
  h8 : r + 8 ≤ ls.length
  h16 : 16 ≤ ls.length
  c0 : ls[0]? = some c
  rg : ∀ j, j < r → ls[1 + j]? = some []
  mt : ls[r + 1]? = some metaC
def GoodD (K : PySem.W.Frag) (CD : Addr) (H : Hp) (p : Addr) (M : Mst) : Prop := ∃ F S, DS K CD H p F S ∧ Dk S.lies M.r (Mst.ct M) ∧ M.k ≤ 1000000000 ∧ M.e ≤ 1000000000000000000000 ∧ M.m ≤ 1000000000 ∧ M.f ≤ 1000000000
def BadD (K : PySem.W.Frag) (CD : Addr) (H : Hp) (p : Addr) : Prop := ∃ F S xs, DS K CD H p F S ∧ 16 ≤ S.lies.length ∧ S.lies[0]? = some xs ∧ masterB xs S.lies.length = false
theorem cop_shows {S : SD} (x : Int) : S.cop.shows x = S.lies[x.toNat]? := shows_lies rfl
def sp_ocopy (K : PySem.W.Frag) (CP CL CD Cb : Addr) : Sp := fun vs H Q X => (∃ p M, vs = [.ref p] ∧ GoodD K CD H p M ∧ ∀ g G q p' GL n H', Same H H' → H g = none → LS K CL H' q p' GL (LD.opened M []) → PgAt K CP H' g G (openP q p' M.r n 0) → Q (.ref g) H') ∨
  (∃ p, vs = [.ref p] ∧ BadD K CD H p ∧ ∀ H', Same H H' → X (.ref Cb) none H')
theorem ok_opened_copy (T : Txt K mg) : FnOk P w K mg base (L2.CX P w) 12 T.opened_copy.f T.opened_copy.fd ["disk"] ((sp_ocopy K T.C_Pages T.C_Log T.C_Disk T.e_BadDisk.C)) := by
  refine T.opened_copy.F.okX sc_opened_copy (fun vs H Q E h => ?_) (fun cdv A outer s H vs Q E hr h => ?_)
  · rcases h with ⟨p, M, rfl, _⟩ | ⟨p, rfl, _⟩ <;> rfl
  · rcases h with ⟨p, M, rfl, ⟨F, S, hS, dk, bk, be, bm, bf⟩, k⟩ | ⟨p, rfl, ⟨F, S, xs, hS, h16, h0, hb⟩, kE⟩
    · refine ⟨_, (pss_cons (ps_if (pt_not (ptTruth (K := K) (pe_callB (cIsD (K := K) T.i_Disk) (by rfl) T.z_isinstance (by decide +kernel) (pa_cons (pv 0) (pa_cons (C8.pe_gc (v := .ref T.C_Disk) (by rfl) ⟨_, T.k_Disk.g, rfl⟩) pa_nil))) (by intro _; rfl))) (pss_one ps_never) pss_nil)
    (pss_one (ps_ret (pe_make (T.m_Pages_init.made T.k_Pages) (ok_Pages_init T) (hr.mono (by decide)) (by rfl) T.k_Pages.g T.m_Pages_init.b .nil (passes_call (takes_of rfl rfl rfl rfl) (fun _ _ _ _ h => h)) (pa_cons (pe_meth0 (pv 0) T.k_Disk.cl T.m_Disk_copy.i (ok_Disk_copy T) (hr.mono (by decide)) T.m_Disk_copy.b .nil pass0) pa_nil))))), ?_⟩
      obtain ⟨fs, hob, no⟩ := ins_of_ds hS
      walk_at "go"
      refine o_isD hob ?_
      walk_at "go"
      refine e_make ?_
      walk_at "go"
      refine m_call0 hob (no _ (by decide +kernel)) ?_
      walk_at "go"
      refine ⟨p, F, S, rfl, hS, dk.h16, fun p' F' H1 d1 f1 s1 => ?_⟩
      walk_at "go"
      intro g dx ng ndx nd
      show sp_pinit K T.C_Pages T.C_Log T.C_Disk T.e_BadDisk.C [.ref g, .ref p'] _ _ _
      have hq5 : upd (upd H1 dx (.own g)) g (.ins T.C_Pages dx []) g = some (.ins T.C_Pages dx []) := upd_same
      obtain ⟨s5, f5⟩ := made5 (C := T.C_Pages) ng ndx
      generalize upd (upd H1 dx (.own g)) g (.ins T.C_Pages dx []) = H5 at *
      have gF : g ∉ F' := fun m => d1.there _ m ng
      have h4 := dk.h4
      have h8 := dk.h8
      refine .inl ⟨g, p', F', S.cop, M, 0, .int (-1), rfl, ⟨dx, hq5⟩, gF, d1.same s5, (cop_shows 0).trans dk.c0, h4, h8, bk, be, bm, bf, rfl, few_nil fun x => rfl, fun j hj => ⟨?_, fun p e => by cases e⟩, ?_, Int.le_refl _, fun T' F2 q GL G H2 op hD2 hL2 hP2 pn dj1 dj2 c2 f2 g2 e2 => ⟨rfl, ?_⟩⟩
      · have l := Nat.mod_lt (M.k + j) (show 0 < M.r by omega)
        rw [cop_shows, show (1 + (((M.k + j) % M.r : Nat) : Int)).toNat = 1 + (M.k + j) % M.r by omega]
        exact dk.rg _ l
      · rw [cop_shows, show ((M.r : Int) + 1).toNat = M.r + 1 by omega]
        exact dk.mt
      · refine k g G q p' GL _ H2 (same_ch (s1.trans s5) c2 fun x m => ?_) (free_ s1 ng) hL2 hP2
        rcases List.mem_cons.mp m with z | z
        · rw [z]; exact free_ s1 ng
        · exact f1 x z
    · refine ⟨_, (pss_cons (ps_if (pt_not (ptTruth (K := K) (pe_callB (cIsD (K := K) T.i_Disk) (by rfl) T.z_isinstance (by decide +kernel) (pa_cons (pv 0) (pa_cons (C8.pe_gc (v := .ref T.C_Disk) (by rfl) ⟨_, T.k_Disk.g, rfl⟩) pa_nil))) (by intro _; rfl))) (pss_one ps_never) pss_nil)
    (pss_one (ps_ret (pe_make (T.m_Pages_init.made T.k_Pages) (ok_Pages_init T) (hr.mono (by decide)) (by rfl) T.k_Pages.g T.m_Pages_init.b .nil (passes_call (takes_of rfl rfl rfl rfl) (fun _ _ _ _ h => h)) (pa_cons (pe_meth0 (pv 0) T.k_Disk.cl T.m_Disk_copy.i (ok_Disk_copy T) (hr.mono (by decide)) T.m_Disk_copy.b .nil pass0) pa_nil))))), ?_⟩
      obtain ⟨fs, hob, no⟩ := ins_of_ds hS
      walk_at "go"
      refine o_isD hob ?_
      walk_at "go"
      refine e_make ?_
      walk_at "go"
      refine m_call0 hob (no _ (by decide +kernel)) ?_
      walk_at "go"
      refine ⟨p, F, S, rfl, hS, h16, fun p' F' H1 d1 f1 s1 => ?_⟩
      walk_at "go"
      intro g dx ng ndx nd
      show sp_pinit K T.C_Pages T.C_Log T.C_Disk T.e_BadDisk.C [.ref g, .ref p'] _ _ _
      obtain ⟨s5, f5⟩ := made5 (C := T.C_Pages) ng ndx
      generalize upd (upd H1 dx (.own g)) g (.ins T.C_Pages dx []) = H5 at *
      exact .inr ⟨g, p', F', S.cop, xs, rfl, d1.same s5, by show 0 < S.lies.length; omega, (cop_shows 0).trans h0, hb, fun H' s' => kE H' (s1.trans (s5.trans s'))⟩
theorem hf0 {q p : Addr} {r n : Nat} {la : Int} : (openP q p r n la).hf 0 = some (metaT (-1) 1 0 la) := rfl
def sp_pages_of (K : PySem.W.Frag) (CD Cb : Addr) : Sp := fun vs H Q X => (∃ p M, vs = [.ref p] ∧ GoodD K CD H p M ∧ ∀ d m H', Same H H' → H' d = some (.dK [((Sum.inl 0 : Key), V.ref m)]) → SqT K H' m (metaT (-1) 1 0 0) → Q (.ref d) H') ∨
  (∃ p, vs = [.ref p] ∧ BadD K CD H p ∧ ∀ H', Same H H' → X (.ref Cb) none H')
theorem ok_pages_of (T : Txt K mg) : FnOk P w K mg base (L2.CX P w) 13 T.pages_of.f T.pages_of.fd ["disk"] ((sp_pages_of K T.C_Disk T.e_BadDisk.C)) := by
  refine T.pages_of.F.okX sc_pages_of (fun vs H Q E h => ?_) (fun cdv A outer s H vs Q E hr h => ?_)
  · rcases h with ⟨p, M, rfl, _⟩ | ⟨p, rfl, _⟩ <;> rfl
  · rcases h with ⟨p, M, rfl, gd, k⟩ | ⟨p, rfl, bd, kE⟩
    · refine ⟨_, (pss_cons (ps_set (i := 1) sc_pages_of.nd rfl (Or.inr rfl) (pe_call (ok_opened_copy T) (hr.mono (by decide)) (by rfl) T.opened_copy.g T.opened_copy.F.kp T.opened_copy.b .nil (passes_call (takes_of rfl rfl rfl rfl) (fun _ _ _ _ h => h)) (pa_cons (pv 0) pa_nil)))
    (pss_one (ps_ret (pe_dc (own := [("page", 2)]) rfl sc_pages_of.nd (pi_range1 (by rfl) T.z_range (pa_cons (pe_meth0 (pv 1) T.k_Pages.cl T.m_Pages_high.i (ok_Pages_high T) (hr.mono (by decide)) T.m_Pages_high.b .nil pass0) pa_nil)) (blkOk_by (N := n_pages_of) (sc := defScope s_pages_of) (by decide +kernel)) (fun _ _ _ _ _ => (pg_name (i := 2) sc_pages_of.nd rfl (Or.inl rfl))) (fun _ _ _ _ _ => pts_nil) (fun _ _ _ _ _ => (pv 2)) (fun _ _ _ _ _ => (pe_meth (pv 1) T.k_Pages.cl T.m_Pages_held.i (ok_Pages_held T) (hr.mono (by decide)) T.m_Pages_held.b .nil pass0 (pa_cons (pv 2) pa_nil))))))), ?_⟩
      walk_at "go"
      refine .inl ⟨p, M, rfl, gd, fun g G q p' GL n H1 s1 ng hL hP => ?_⟩
      obtain ⟨hd, dd, eG, ne, hob, h1, h2⟩ := id hP
      walk_at "go"
      refine m_call0 hob (pf_no (by decide +kernel)) ?_
      walk_at "go"
      refine ⟨g, G, _, -1, 1, 0, 0, rfl, hP, hf0, ?_⟩
      walk_at "go"
      refine i_rng 1 rfl (by decide) (by decide) ?_
      refine d_it (walk_range (n := 1)) (fun i acc H' => Same H1 H' ∧ ((i = 0 ∧ acc = []) ∨ (i = 1 ∧ ∃ a, acc = [((Sum.inl 0 : Key), V.ref a)] ∧ SqT K H' a (metaT (-1) 1 0 0)))) (fun dn hdn => ⟨Same.new hdn, .inl ⟨rfl, rfl⟩⟩) (fun _ _ _ _ _ => trivial) (fun acc dn H11 hLn hL11 z => ?_) (fun i x acc H11 H12 dn hi hLn hL11 z y => ?_)
      · obtain ⟨s11, z⟩ := z
        obtain ⟨a, rfl, ha⟩ := z.elim (fun z => absurd z.1 (by decide)) (fun z => z.2)
        exact k dn a H11 (s1.trans s11) hL11 ha
      · obtain ⟨s11, z⟩ := z
        obtain rfl : i = 0 := by omega
        obtain rfl : acc = [] := z.elim (fun z => z.2) (fun z => absurd z.1 (by decide))
        obtain ⟨rfl, rfl⟩ := y
        refine ⟨rfl, ?_⟩
        obtain ⟨dx, ho⟩ := hob
        walk_at "go"
        refine m_call0 ⟨dx, s11 _ _ ho⟩ (pf_no (by decide +kernel)) ?_
        walk_at "go"
        refine ⟨g, G, _, 1, 0, _, rfl, ⟨hP.same s11, -1, 0, 0, hf0⟩, by decide, by decide, hf0, fun a ha => ?_⟩
        refine ⟨[], (Sum.inl 0 : Key), rfl, hL11, by decide, _, upd_same, upd_free s11 hLn, .inr ⟨rfl, a, rfl, ?_⟩⟩
        exact (Ch.upd1 (F := [dn]) (by simp) fun o e => by rw [hL11] at e; cases e; rfl).st ha
    · refine ⟨_, (pss_cons (ps_set (i := 1) sc_pages_of.nd rfl (Or.inr rfl) (pe_call (ok_opened_copy T) (hr.mono (by decide)) (by rfl) T.opened_copy.g T.opened_copy.F.kp T.opened_copy.b .nil (passes_call (takes_of rfl rfl rfl rfl) (fun _ _ _ _ h => h)) (pa_cons (pv 0) pa_nil)))
    (pss_one (ps_ret (pe_dc (own := [("page", 2)]) rfl sc_pages_of.nd (pi_range1 (by rfl) T.z_range (pa_cons (pe_meth0 (pv 1) T.k_Pages.cl T.m_Pages_high.i (ok_Pages_high T) (hr.mono (by decide)) T.m_Pages_high.b .nil pass0) pa_nil)) (blkOk_by (N := n_pages_of) (sc := defScope s_pages_of) (by decide +kernel)) (fun _ _ _ _ _ => (pg_name (i := 2) sc_pages_of.nd rfl (Or.inl rfl))) (fun _ _ _ _ _ => pts_nil) (fun _ _ _ _ _ => (pv 2)) (fun _ _ _ _ _ => (pe_meth (pv 1) T.k_Pages.cl T.m_Pages_held.i (ok_Pages_held T) (hr.mono (by decide)) T.m_Pages_held.b .nil pass0 (pa_cons (pv 2) pa_nil))))))), ?_⟩
      walk_at "go"
      exact .inr ⟨p, rfl, bd, kE⟩
theorem ok_note_of (T : Txt K mg) : FnOk P w K mg base CX0 1 T.note_of.f T.note_of.fd ["record"] (sp_never) := by
  refine T.note_of.F.ok sc_note_of (fun vs H Q E h => ?_) (fun cdv A outer s H vs Q E hr h => ?_)
  · exact h.elim
  · exact h.elim
def sp_notes (K : PySem.W.Frag) (CP CL : Addr) : Sp := fun vs H Q _ => ∃ g G D p GL L, vs = [.ref g] ∧ PgAt K CP H g G D ∧ LS K CL H D.q p GL L ∧ L.kept = [] ∧ ∀ l H', Same H H' → H' l = some (.lst []) → Q (.ref l) H'
theorem ok_Pages_notes (T : Txt K mg) : FnOk P w K mg base CX0 2 T.m_Pages_notes.f T.m_Pages_notes.fd ["self"] ((sp_notes K T.C_Pages T.C_Log)) := by
  refine T.m_Pages_notes.F.ok sc_Pages_notes (fun vs H Q E h => ?_) (fun cdv A outer s H vs Q E hr h => ?_)
  · obtain ⟨g, G, D, p, GL, L, rfl, _⟩ := h
    rfl
  · obtain ⟨g, G, D, p, GL, L, rfl, hP, hL, hk, k⟩ := h
    refine ⟨_, (pss_one (ps_ret (pe_lc (own := [("number", 1), ("record", 2)]) rfl sc_Pages_notes.nd (piL (K := K) (pe_meth0 (peFld (K := K) (pv 0) rfl) T.k_Log.cl T.m_Log_records.i (ok_Log_records T) (hr.mono (by decide)) T.m_Log_records.b .nil pass0)) (blkOk_by (N := n_Pages_notes) (sc := defScope s_Pages_notes) (by decide +kernel)) (fun _ _ _ _ _ => (pgTup (K := K) (n := 2) (pg_tup (n := 2) rfl (pgs_cons (pg_name (i := 1) sc_Pages_notes.nd rfl (Or.inl rfl)) (pgs_cons (pg_name (i := 2) sc_Pages_notes.nd rfl (Or.inl rfl)) pgs_nil))))) (fun _ _ _ _ _ => pts_nil) (fun _ _ _ _ _ => (pe_tup (pa_cons (pv 1) (pa_cons (pe_call (ok_note_of T) (hr.mono (by decide)) (by rfl) T.note_of.g T.note_of.F.kp T.note_of.b .nil pass0 (pa_cons (pv 2) pa_nil)) pa_nil))))))), ?_⟩
    obtain ⟨hd, dd, eG, ne, hob, h1, h2⟩ := id hP
    obtain ⟨kl, dx, ho⟩ := ls_ins hL
    walk_at "go"
    refine o_fld hob T.k_Pages.cl T.n_Pages__log rfl ?_
    refine m_call0 ⟨dx, ho⟩ (lf_no _ _ _ (by decide +kernel)) ?_
    walk_at "go"
    refine ⟨D.q, p, GL, L, rfl, hL, by rw [hk]; decide, fun D1 ts H1 s1 n1 e1 pt => ?_⟩
    have ets : ts = [] := List.length_eq_zero_iff.mp (by rw [pt.1]; unfold LD.pairs; rw [hk]; rfl)
    subst ets
    refine i_lst (slO e1) ?_
    refine c_it (walk_list (xs := [])) (fun i acc H' => Same H1 H' ∧ acc = []) (fun D hD => ⟨upd_free (Same.refl _) hD, rfl⟩) (fun i acc H' hi z => slO (z.1 _ _ e1)) (fun acc D H2 hD hp z => ?_) (fun i x acc H2 H3 D hi => absurd hi (Nat.not_lt_zero _))
    obtain ⟨s2, rfl⟩ := z
    exact k D H2 (s1.trans s2) hp
def sp_prefix_of (K : PySem.W.Frag) (CD Cb : Addr) : Sp := fun vs H Q X => (∃ p M, vs = [.ref p] ∧ GoodD K CD H p M ∧ ∀ l H', Same H H' → H' l = some (.lst []) → Q (.ref l) H') ∨ (∃ p, vs = [.ref p] ∧ BadD K CD H p ∧ ∀ H', Same H H' → X (.ref Cb) none H')
theorem ok_prefix_of (T : Txt K mg) : FnOk P w K mg base (L2.CX P w) 13 T.prefix_of.f T.prefix_of.fd ["disk"] ((sp_prefix_of K T.C_Disk T.e_BadDisk.C)) := by
  refine T.prefix_of.F.okX sc_prefix_of (fun vs H Q E h => ?_) (fun cdv A outer s H vs Q E hr h => ?_)
  · rcases h with ⟨p, M, rfl, _⟩ | ⟨p, rfl, _⟩ <;> rfl
  · rcases h with ⟨p, M, rfl, gd, k⟩ | ⟨p, rfl, bd, kE⟩
    · refine ⟨_, (pss_one (ps_ret (pe_meth0 (pe_call (ok_opened_copy T) (hr.mono (by decide)) (by rfl) T.opened_copy.g T.opened_copy.F.kp T.opened_copy.b .nil (passes_call (takes_of rfl rfl rfl rfl) (fun _ _ _ _ h => h)) (pa_cons (pv 0) pa_nil)) T.k_Pages.cl T.m_Pages_notes.i (ok_Pages_notes T) (hr.mono (by decide)) T.m_Pages_notes.b .nil pass0))), ?_⟩
      walk_at "go"
      refine .inl ⟨p, M, rfl, gd, fun g G q p' GL n H1 s1 ng hL hP => ?_⟩
      obtain ⟨hd, dd, eG, ne, hob, h1, h2⟩ := id hP
      walk_at "go"
      refine m_call0 hob (pf_no (by decide +kernel)) ?_
      walk_at "go"
      exact ⟨g, G, _, p', GL, _, rfl, hP, hL, rfl, fun l H' s e => k l H' (s1.trans s) e⟩
    · refine ⟨_, (pss_one (ps_ret (pe_meth0 (pe_call (ok_opened_copy T) (hr.mono (by decide)) (by rfl) T.opened_copy.g T.opened_copy.F.kp T.opened_copy.b .nil (passes_call (takes_of rfl rfl rfl rfl) (fun _ _ _ _ h => h)) (pa_cons (pv 0) pa_nil)) T.k_Pages.cl T.m_Pages_notes.i (ok_Pages_notes T) (hr.mono (by decide)) T.m_Pages_notes.b .nil pass0))), ?_⟩
      walk_at "go"
      exact .inr ⟨p, rfl, bd, kE⟩
def sp_need_snapshot : Sp := fun vs H Q _ => ∃ i : Int, vs = [.int i] ∧ 0 ≤ i ∧ i ≤ 1000000000000000000 ∧ Q .non H
theorem ok_need_snapshot (T : Txt K mg) : FnOk P w K mg base CX0 3 T.need_snapshot.f T.need_snapshot.fd ["snapshot"] (sp_need_snapshot) := by
  refine T.need_snapshot.F.ok sc_need_snapshot (fun vs H Q E h => ?_) (fun cdv A outer s H vs Q E hr h => ?_)
  · obtain ⟨i, rfl, _⟩ := h
    rfl
  · obtain ⟨i, rfl, i0, i1, k⟩ := h
    refine ⟨_, (pss_one (ps_if (pt_not (ptTruth (K := K) (pe_call (ok_is_within T) (hr.mono (by decide)) (by rfl) T.is_within.g T.is_within.F.kp T.is_within.b .nil pass0 (pa_cons (pv 0) (pa_cons pe_int (pa_cons (pe_glob (by rfl) T.c_GREATEST_COMMIT.h T.c_GREATEST_COMMIT.r) pa_nil)))) (by intro _; rfl))) (pss_one ps_never) pss_nil)), ?_⟩
    walk_at "go"
    refine ⟨_, _, _, rfl, .inl rfl, ?_⟩
    rw [within_of i0 i1]
    walk_at "go"
    exact k
def sp_noLst (K : PySem.W.Frag) (CB : Addr) : Sp := fun vs H Q _ => ∃ b G E, vs = [.ref b, .non, .non] ∧ BtAt K CB H b G E ∧ E.ov = false ∧ E.ro = 0 ∧ ∀ l H', Same H H' → H' l = some (.lst []) → Q (.ref l) H'
theorem ok_levels_between (T : Txt K mg) : FnOk P w K mg base CX0 7 T.levels_between.f T.levels_between.fd ["batch", "low", "high"] ((sp_noLst K T.C_Batch)) := by
  refine T.levels_between.F.ok sc_levels_between (fun vs H Q E h => ?_) (fun cdv A outer s H vs Q E hr h => ?_)
  · obtain ⟨b, G, E', rfl, _⟩ := h
    rfl
  · obtain ⟨b, G, E', rfl, hB, ho, hr0, k⟩ := h
    refine ⟨_, (pss_cons (ps_set (i := 3) sc_levels_between.nd rfl (Or.inl rfl) (pe_lst (pa_cons (pe_tup (pa_cons (pe_meth0 (pv 0) T.k_Batch.cl T.m_Batch_root.i (ok_Batch_root T) (hr.mono (by decide)) T.m_Batch_root.b .nil pass0) (pa_cons pe_non (pa_cons pe_non pa_nil)))) pa_nil)))
    (pss_cons (ps_if (PW.pt (pw_or (pt_cmpR (oEq (K := K) hr.units) (pe_meth0 (pv 0) T.k_Batch.cl T.m_Batch_root.i (ok_Batch_root T) (hr.mono (by decide)) T.m_Batch_root.b .nil pass0) pe_int (nomark _)) (pw_or1 (PW.pt (pw_and (pt_cmpR oNotN (pv 1) pe_non (nomark _)) (pw_and1 (pt_cmpR op_ge (pv 1) (pv 2) (nomark _)))))))) (pss_one (ps_ret (pe_lst pa_nil))) pss_nil)
    (pss_cons ps_no
    (pss_cons ps_no
    (pss_one ps_no))))), ?_⟩
    obtain ⟨ch, hob, hch⟩ := bt_ins hB
    walk_at "go"
    refine m_call0 hob (bf_no (by decide +kernel)) ?_
    walk_at "go"
    refine ⟨b, G, E', rfl, hB, ho, ?_⟩
    walk_at "go"
    refine n_new (le_size (by simp)) fun t1 H1 n1 s1 h1 => ?_
    walk_at "go"
    refine n_new (le_size (by simp)) fun l1 H2 n2 s2 h2 => ?_
    have s02 := s1.trans s2
    obtain ⟨ch2, hob2, _⟩ := bt_ins (hB.same s02)
    walk_at "go"
    refine m_call0 hob2 (bf_no (by decide +kernel)) ?_
    walk_at "go"
    refine ⟨b, G, E', rfl, hB.same s02, ho, ?_⟩
    rw [hr0]
    walk_at "go"
    refine n_new (le_size (by simp)) fun l3 H3 n3 s3 h3 => ?_
    exact k l3 H3 (s02.trans s3) h3
theorem e_lcE {wi : TI} {σ : L2.St} {H : Hp} {Q : VK} (h : wi σ H fun J H1 => ∀ D, H1 D = none → J.stop 0 (upd H1 D (.lst [])) ∧ Q (.ref D) (upd H1 D (.lst []))) : tLcE wi σ H Q := h
theorem ok_triples_between (T : Txt K mg) : FnOk P w K mg base CX0 8 T.triples_between.f T.triples_between.fd ["batch", "low", "high"] ((sp_noLst K T.C_Batch)) := by
  refine T.triples_between.F.ok sc_triples_between (fun vs H Q E h => ?_) (fun cdv A outer s H vs Q E hr h => ?_)
  · obtain ⟨b, G, E', rfl, _⟩ := h
    rfl
  · obtain ⟨b, G, E', rfl, hB, ho, hr0, k⟩ := h
    refine ⟨_, (pss_cons (ps_set (i := 3) sc_triples_between.nd rfl (Or.inl rfl) (pe_slice (slL (K := K)) (pe_call (ok_levels_between T) (hr.mono (by decide)) (by rfl) T.levels_between.g T.levels_between.F.kp T.levels_between.b .nil pass0 (pa_cons (pv 0) (pa_cons (pv 1) (pa_cons (pv 2) pa_nil)))) (po_some (pe_un un_neg pe_int)) po_none))
    (pss_one (ps_ret (pe_lcE (own := [("pages", 4), ("page", 5), ("spot", 6), ("mark", 7)]) rfl sc_triples_between.nd (piL (K := K) (pv 3)) (blkOk_by (N := n_triples_between) (sc := defScope s_triples_between) (by decide +kernel)))))), ?_⟩
    walk_at "go"
    refine ⟨b, G, E', rfl, hB, ho, hr0, fun l1 H1 s1 h1 => ?_⟩
    walk_at "go"
    refine n_new0 fun l2 H2 n2 s2 h2 => ?_
    rw [show cutV ([] : List V) (some (-1)) none = [] from rfl] at h2
    walk_at "go"
    refine e_lcE ?_
    walk_at "go"
    refine i_lst (slO h2) fun D nD => ⟨⟨[], slO ((upd_ne (ne_of_none h2 nD)).trans h2), Nat.le_refl _⟩, ?_⟩
    exact k D _ ((s1.trans s2).trans (Same.new nD)) upd_same
def sp_spots (K : PySem.W.Frag) (CB : Addr) : Sp := fun vs H Q _ => ∃ b G E, vs = [.ref b] ∧ BtAt K CB H b G E ∧ E.ov = false ∧ E.ro = 0 ∧ ∀ l H', Same H H' → H' l = some (.lst []) → Q (.ref l) H'
theorem ok_all_spots (T : Txt K mg) : FnOk P w K mg base CX0 9 T.all_spots.f T.all_spots.fd ["batch"] ((sp_spots K T.C_Batch)) := by
  refine T.all_spots.F.ok sc_all_spots (fun vs H Q E h => ?_) (fun cdv A outer s H vs Q E hr h => ?_)
  · obtain ⟨b, G, E', rfl, _⟩ := h
    rfl
  · obtain ⟨b, G, E', rfl, hB, ho, hr0, k⟩ := h
    refine ⟨_, (pss_one (ps_ret (pe_call (ok_triples_between T) (hr.mono (by decide)) (by rfl) T.triples_between.g T.triples_between.F.kp T.triples_between.b .nil pass0 (pa_cons (pv 0) (pa_cons pe_non (pa_cons pe_non pa_nil)))))), ?_⟩
    walk_at "go"
    exact ⟨b, G, E', rfl, hB, ho, hr0, k⟩
theorem e_lock {t : TE} {σ : L2.St} {H : Hp} {Q : VK} (h : ∃ d u, H d = some u ∧ Mut (some u) ∧ ∀ od, t σ (upd H d (.frz od u)) fun v H' => H' d = some (.frz od u) ∧ Q v (upd H' d u)) : tLockE t σ H Q := h
def sp_seen (K : PySem.W.Frag) : Sp := fun vs H Q _ => ∃ a i, vs = [.ref a, .int i] ∧ H a = some (.lst []) ∧ ∀ l H', Same H H' → H' l = some (.lst []) → Q (.ref l) H'
theorem ok_seen_pairs (T : Txt K mg) : FnOk P w K mg base CX0 1 T.seen_pairs.f T.seen_pairs.fd ["triples", "snapshot"] ((sp_seen K)) := by
  refine T.seen_pairs.F.ok sc_seen_pairs (fun vs H Q E h => ?_) (fun cdv A outer s H vs Q E hr h => ?_)
  · obtain ⟨a, i, rfl, _⟩ := h
    rfl
  · obtain ⟨a, i, rfl, ha, k⟩ := h
    refine ⟨_, (pss_cons (ps_set (i := 2) sc_seen_pairs.nd rfl (Or.inl rfl) pe_dnewK)
    (pss_cons (ps_for PassesOwn.never rfl (piL (K := K) (pv 0)) (pgTup (K := K) (n := 3) (pg_tup (n := 3) rfl (pgs_cons (pg_name (i := 3) sc_seen_pairs.nd rfl (Or.inl rfl)) (pgs_cons (pg_name (i := 4) sc_seen_pairs.nd rfl (Or.inl rfl)) (pgs_cons (pg_name (i := 5) sc_seen_pairs.nd rfl (Or.inl rfl)) pgs_nil)))))
      (pss_one ps_no))
    (pss_one (ps_ret (pe_lock (pe_lc (own := [("key", 3), ("worth", 6)]) rfl sc_seen_pairs.nd (pi_items (pv 2)) (blkOk_by (N := n_seen_pairs) (sc := defScope s_seen_pairs) (by decide +kernel)) (fun _ _ _ _ _ => (pgTup (K := K) (n := 2) (pg_tup (n := 2) rfl (pgs_cons (pg_name (i := 3) sc_seen_pairs.nd rfl (Or.inl rfl)) (pgs_cons (pg_name (i := 6) sc_seen_pairs.nd rfl (Or.inl rfl)) pgs_nil))))) (fun _ _ _ _ _ => (pts_one (pt_cmpR oNotN (pv 6) pe_non (nomark _)))) (fun _ _ _ _ _ => (pe_tup (pa_cons (pv 3) (pa_cons (pv 6) pa_nil)))))))))), ?_⟩
    walk_at "go"
    refine e_dnew fun d H1 n1 s1 h1 => ?_
    walk_at "go"
    refine i_lst (slO (s1 _ _ ha)) ?_
    refine l_it (walk_list (xs := [])) (fun i' σ4 H4 => σ4 = List.set (L2.start n_seen_pairs [V.ref a, .int i]) 2 (some (V.ref d)) ∧ H4 = H1) ⟨rfl, rfl⟩ (fun i σ4 H4 hi z => by rw [z.2]; exact slO (s1 _ _ ha)) (fun σ4 H4 z => ?_) (fun i x σ4 H4 H5 hi => absurd hi (Nat.not_lt_zero _))
    obtain ⟨rfl, rfl⟩ := z
    walk_at "go"
    refine e_lock ⟨d, .dK [], h1, trivial, fun od => ?_⟩
    have hf : upd H4 d (.frz od (.dK [])) d = some (.frz od (.dK [])) := upd_same
    have hof : ∀ x, x ≠ d → upd H4 d (.frz od (.dK [])) x = H4 x := fun x z => upd_ne z
    generalize upd H4 d (.frz od (.dK [])) = H5 at *
    walk_at "go"
    refine i_items0 ?_
    walk_at "go"
    refine ⟨d, od, [], rfl, hf, ?_⟩
    refine c_it (walk_items (kvs := [])) (fun i acc H' => Same H5 H' ∧ acc = []) (fun D hD => ⟨upd_free (Same.refl _) hD, rfl⟩) (fun i acc H' hi z => z.1 _ _ hf) (fun acc D H6 hD hp z => ?_) (fun i x acc H6 H7 D hi => absurd hi (Nat.not_lt_zero _))
    obtain ⟨s6, rfl⟩ := z
    have nDd : D ≠ d := fun z => by rw [z, hf] at hD; cases hD
    refine ⟨s6 _ _ hf, k D _ (fun b o e => ?_) ((upd_ne nDd).trans hp)⟩
    have nb : b ≠ d := ne_of_none e n1
    rw [upd_ne nb]
    exact s6 _ _ (by rw [hof b nb]; exact s1 _ _ e)
def sp_dict_at (K : PySem.W.Frag) (CB : Addr) : Sp := fun vs H Q _ => ∃ b G E, ∃ i : Int, vs = [.ref b, .int i] ∧ BtAt K CB H b G E ∧ E.ov = false ∧ E.ro = 0 ∧ 0 ≤ i ∧ i ≤ 1000000000000000000 ∧ ∀ d H', Same H H' → H' d = some (.dK []) → Q (.ref d) H'
theorem ok_dict_at (T : Txt K mg) : FnOk P w K mg base CX0 10 T.dict_at.f T.dict_at.fd ["batch", "snapshot"] ((sp_dict_at K T.C_Batch)) := by
  refine T.dict_at.F.ok sc_dict_at (fun vs H Q E h => ?_) (fun cdv A outer s H vs Q E hr h => ?_)
  · obtain ⟨b, G, E', i, rfl, _⟩ := h
    rfl
  · obtain ⟨b, G, E', i, rfl, hB, ho, hr0, i0, i1, k⟩ := h
    refine ⟨_, (pss_cons (ps_expr (pe_call (ok_need_snapshot T) (hr.mono (by decide)) (by rfl) T.need_snapshot.g T.need_snapshot.F.kp T.need_snapshot.b .nil pass0 (pa_cons (pv 1) pa_nil)))
    (pss_one (ps_ret (pe_callTy (call_dictP rfl) (by rfl) T.z_dict (by decide +kernel) (pa_cons (pe_call (ok_seen_pairs T) (hr.mono (by decide)) (by rfl) T.seen_pairs.g T.seen_pairs.F.kp T.seen_pairs.b .nil pass0 (pa_cons (pe_call (ok_all_spots T) (hr.mono (by decide)) (by rfl) T.all_spots.g T.all_spots.F.kp T.all_spots.b .nil pass0 (pa_cons (pv 0) pa_nil)) (pa_cons (pv 1) pa_nil))) pa_nil))))), ?_⟩
    walk_at "go"
    refine ⟨i, rfl, i0, i1, ?_⟩
    walk_at "go"
    refine ⟨b, G, E', rfl, hB, ho, hr0, fun l1 H1 s1 h1 => ?_⟩
    walk_at "go"
    refine ⟨l1, i, rfl, h1, fun l2 H2 s2 h2 => ?_⟩
    walk_at "go"
    exact ⟨l2, [], [], rfl, slO h2, .nil, fun p np => k p _ ((s1.trans s2).trans (Same.new np)) upd_same⟩
def sp_meaning (K : PySem.W.Frag) (CD Cb : Addr) : Sp := fun vs H Q X => (∃ p M, vs = [.ref p] ∧ GoodD K CD H p M ∧ ∀ d H', Same H H' → H' d = some (.dK []) → Q (.ref d) H') ∨ (∃ p, vs = [.ref p] ∧ BadD K CD H p ∧ ∀ H', Same H H' → X (.ref Cb) none H')
theorem ok_meaning (T : Txt K mg) : FnOk P w K mg base (L2.CX P w) 13 T.meaning.f T.meaning.fd ["disk"] ((sp_meaning K T.C_Disk T.e_BadDisk.C)) := by
  refine T.meaning.F.okX sc_meaning (fun vs H Q E h => ?_) (fun cdv A outer s H vs Q E hr h => ?_)
  · rcases h with ⟨p, M, rfl, _⟩ | ⟨p, rfl, _⟩ <;> rfl
  · rcases h with ⟨p, M, rfl, gd, k⟩ | ⟨p, rfl, bd, kE⟩
    · refine ⟨_, (pss_one (ps_ret (pe_call (ok_dict_at T) (hr.mono (by decide)) (by rfl) T.dict_at.g T.dict_at.F.kp T.dict_at.b .nil pass0 (pa_cons (pe_meth0 (pe_call (ok_opened_copy T) (hr.mono (by decide)) (by rfl) T.opened_copy.g T.opened_copy.F.kp T.opened_copy.b .nil (passes_call (takes_of rfl rfl rfl rfl) (fun _ _ _ _ h => h)) (pa_cons (pv 0) pa_nil)) T.k_Pages.cl T.m_Pages_batch.i (ok_Pages_batch T) (hr.mono (by decide)) T.m_Pages_batch.b .nil pass0) (pa_cons (pe_glob (by rfl) T.c_GREATEST_COMMIT.h T.c_GREATEST_COMMIT.r) pa_nil))))), ?_⟩
      walk_at "go"
      refine .inl ⟨p, M, rfl, gd, fun g G q p' GL n H1 s1 ng hL hP => ?_⟩
      obtain ⟨hd, dd, eG, ne, hob, h1, h2⟩ := id hP
      walk_at "go"
      refine m_call0 hob (pf_no (by decide +kernel)) ?_
      walk_at "go"
      refine ⟨g, G, _, -1, 1, 0, 0, rfl, hP, rfl, hf0, by decide, fun b ch H2 nb nch hB hP2 c2 => ?_⟩
      walk_at "go"
      exact ⟨b, _, _, _, rfl, hB, rfl, rfl, by decide, by decide, fun d H' s e => k d H' ((same_ch s1 c2 fun x m => by rw [List.mem_singleton.mp m]; exact ng).trans s) e⟩
    · refine ⟨_, (pss_one (ps_ret (pe_call (ok_dict_at T) (hr.mono (by decide)) (by rfl) T.dict_at.g T.dict_at.F.kp T.dict_at.b .nil pass0 (pa_cons (pe_meth0 (pe_call (ok_opened_copy T) (hr.mono (by decide)) (by rfl) T.opened_copy.g T.opened_copy.F.kp T.opened_copy.b .nil (passes_call (takes_of rfl rfl rfl rfl) (fun _ _ _ _ h => h)) (pa_cons (pv 0) pa_nil)) T.k_Pages.cl T.m_Pages_batch.i (ok_Pages_batch T) (hr.mono (by decide)) T.m_Pages_batch.b .nil pass0) (pa_cons (pe_glob (by rfl) T.c_GREATEST_COMMIT.h T.c_GREATEST_COMMIT.r) pa_nil))))), ?_⟩
      walk_at "go"
      exact .inr ⟨p, rfl, bd, kE⟩
def sp_commits_of (K : PySem.W.Frag) (CD Cb : Addr) : Sp := fun vs H Q X => (∃ p M, vs = [.ref p] ∧ GoodD K CD H p M ∧ ∀ H', Same H H' → Q (.int 0) H') ∨ (∃ p, vs = [.ref p] ∧ BadD K CD H p ∧ ∀ H', Same H H' → X (.ref Cb) none H')
theorem ok_commits_of (T : Txt K mg) : FnOk P w K mg base (L2.CX P w) 13 T.commits_of.f T.commits_of.fd ["disk"] ((sp_commits_of K T.C_Disk T.e_BadDisk.C)) := by
  refine T.commits_of.F.okX sc_commits_of (fun vs H Q E h => ?_) (fun cdv A outer s H vs Q E hr h => ?_)
  · rcases h with ⟨p, M, rfl, _⟩ | ⟨p, rfl, _⟩ <;> rfl
  · rcases h with ⟨p, M, rfl, gd, k⟩ | ⟨p, rfl, bd, kE⟩
    · refine ⟨_, (pss_one (ps_ret (pe_meth0 (pe_meth0 (pe_call (ok_opened_copy T) (hr.mono (by decide)) (by rfl) T.opened_copy.g T.opened_copy.F.kp T.opened_copy.b .nil (passes_call (takes_of rfl rfl rfl rfl) (fun _ _ _ _ h => h)) (pa_cons (pv 0) pa_nil)) T.k_Pages.cl T.m_Pages_batch.i (ok_Pages_batch T) (hr.mono (by decide)) T.m_Pages_batch.b .nil pass0) T.k_Batch.cl T.m_Batch_last.i (ok_Batch_last T) (hr.mono (by decide)) T.m_Batch_last.b .nil pass0))), ?_⟩
      walk_at "go"
      refine .inl ⟨p, M, rfl, gd, fun g G q p' GL n H1 s1 ng hL hP => ?_⟩
      obtain ⟨hd, dd, eG, ne, hob, h1, h2⟩ := id hP
      walk_at "go"
      refine m_call0 hob (pf_no (by decide +kernel)) ?_
      walk_at "go"
      refine ⟨g, G, _, -1, 1, 0, 0, rfl, hP, rfl, hf0, by decide, fun b ch H2 nb nch hB hP2 c2 => ?_⟩
      obtain ⟨ch2, hob2, _⟩ := bt_ins hB
      walk_at "go"
      refine m_call0 hob2 (bf_no (by decide +kernel)) ?_
      walk_at "go"
      exact ⟨b, _, _, rfl, hB, rfl, k H2 (same_ch s1 c2 fun x m => by rw [List.mem_singleton.mp m]; exact ng)⟩
    · refine ⟨_, (pss_one (ps_ret (pe_meth0 (pe_meth0 (pe_call (ok_opened_copy T) (hr.mono (by decide)) (by rfl) T.opened_copy.g T.opened_copy.F.kp T.opened_copy.b .nil (passes_call (takes_of rfl rfl rfl rfl) (fun _ _ _ _ h => h)) (pa_cons (pv 0) pa_nil)) T.k_Pages.cl T.m_Pages_batch.i (ok_Pages_batch T) (hr.mono (by decide)) T.m_Pages_batch.b .nil pass0) T.k_Batch.cl T.m_Batch_last.i (ok_Batch_last T) (hr.mono (by decide)) T.m_Batch_last.b .nil pass0))), ?_⟩
      walk_at "go"
      exact .inr ⟨p, rfl, bd, kE⟩
end



section
variable {P : Program} {w : World} {K : PySem.W.Frag} {mg : Str → Option Value} {base : Heap}
/-! ### a first block, right or bent -/
def MOut (c : Ct) (rt : Bool) (b r : Nat) : Prop := CtOk c ∧ (if rt = true then (∃ M : Mst, c = M.ct ∧ M.r = r ∧ M.k ≤ 1000 ∧ M.e ≤ 100000000000000000000 ∧ M.m ≤ 1000 ∧ M.f ≤ 1000) else masterB c b = false)
def oddsL : List V := [.int (-1), .str "", .str "a", .str "master", .int 1000000000000000000000000000000]
theorem odds_ok : ∀ x ∈ oddsL, smallV x = true ∧ itemB x = true := by decide +kernel
theorem o_neII {x y : V} {r' : R2} {H : Hp} {Q : VK} (hx : itemB x = true) (hy : itemB y = true) (q : Q (.bl (!decide (x = y))) H) : rOr rNe r' x y H Q := by
  refine .inl ⟨?_, q⟩
  rcases item_or hx with ⟨i, rfl⟩ | ⟨z, rfl⟩ <;> rcases item_or hy with ⟨j, rfl⟩ | ⟨u, rfl⟩ <;> rfl
theorem ct_of {c : Ct} (l : c.length ≤ 40) (s : ∀ x ∈ c, smallV x = true ∧ itemB x = true) : CtOk c := by
  refine ⟨by omega, fun x hx => (s x hx).1, ?_⟩
  unfold itemsB
  rw [decide_eq_true (show (0 : Int) ≤ c.length by omega), decide_eq_true (show (c.length : Int) ≤ 40 by omega), List.all_eq_true.mpr fun x hx => (s x hx).2]; rfl
theorem isN_odd {x : V} (h : x ∈ [V.int (-1), .str "", .str "a", .str "master"]) : isN x = false := by
  simp only [List.mem_cons, List.not_mem_nil, or_false] at h
  rcases h with rfl | rfl | rfl | rfl <;> decide +kernel
theorem bent_no {x1 x2 x3 x4 x5 od : V} {b : Int} {j : Nat} (hj : j < 6) (h : od ∈ [V.int (-1), .str "", .str "a", .str "master"]) (h0 : 0 < j ∨ od ≠ .str "master") : masterB ([V.str "master", x1, x2, x3, x4, x5].take j ++ [od] ++ [V.str "master", x1, x2, x3, x4, x5].drop (j + 1)) b = false := by
  have n := isN_odd h
  rcases (show j = 0 ∨ j = 1 ∨ j = 2 ∨ j = 3 ∨ j = 4 ∨ j = 5 by omega) with rfl | rfl | rfl | rfl | rfl | rfl
  · show (decide (od = V.str "master") && _) = false
    rw [decide_eq_false (h0.resolve_left (by omega)), Bool.false_and]
  all_goals (show (decide (V.str "master" = V.str "master") && (List.all _ isN && _)) = false; simp [n])
theorem size_no {x1 x3 x4 x5 : V} {b : Int} {s : Int} (h : ¬ (4 ≤ s ∧ s ≤ b - 8)) : masterB [V.str "master", x1, .int s, x3, x4, x5] b = false := by
  have e : within (.int s) 4 (b - 8) = false := by
    show (decide (4 ≤ s) && decide (s ≤ b - 8)) = false
    by_cases h4 : 4 ≤ s
    · rw [decide_eq_false (show ¬ s ≤ b - 8 from fun z => h ⟨h4, z⟩), Bool.and_false]
    · rw [decide_eq_false h4, Bool.false_and]
  show (decide (V.str "master" = V.str "master") && ([x1, .int s, x3, x4, x5].all isN && within (.int s) 4 (b - 8))) = false
  rw [e, Bool.and_false, Bool.and_false]
theorem mast_no {x1 x2 x3 x4 x5 : V} {b : Int} : masterB [V.str "mastor", x1, x2, x3, x4, x5] b = false := by
  show (decide (V.str "mastor" = V.str "master") && ([x1, x2, x3, x4, x5].all isN && within x2 4 (b - 8))) = false
  rw [decide_eq_false (by decide), Bool.false_and]
def MenuAt (K : PySem.W.Frag) (H : Hp) (cs : List Addr) (b : Nat) : Prop := ∀ c ∈ cs, ∃ xs, SqT K H c xs ∧ CtOk xs ∧ masterB xs b = false
theorem MenuAt.st {H H' : Hp} {cs : List Addr} {b : Nat} (h : MenuAt K H cs b) (k : ∀ c xs, SqT K H c xs → SqT K H' c xs) : MenuAt K H' cs b := fun c m => by
  obtain ⟨xs, h1, h2⟩ := h c m
  exact ⟨xs, k _ _ h1, h2⟩
def sp_lmaster (K : PySem.W.Frag) : Sp := fun vs H Q _ => ∃ (B : Bg) (b r : Nat), vs = [.ref B.hd, .int b, .int r] ∧ BagAt K H B ∧ 16 ≤ b ∧ b ≤ 600 ∧ 4 ≤ r ∧ r + 8 ≤ b ∧ ∀ (t ca : Addr) (c : Ct) (rt : Bool) H', SqT K H' t [.ref ca, .bl rt] → SqT K H' ca c → MOut c rt b r → Hs K B H H' → Q (.ref t) H'
theorem ok_law_master (T : Txt K mg) : FnOk P w K mg base CX0 3 T.law_master.f T.law_master.fd ["tape", "blocks", "ring"] ((sp_lmaster K)) := by
  refine T.law_master.F.ok sc_law_master (fun vs H Q E h => ?_) (fun cdv A outer s H vs Q E hr h => ?_)
  · obtain ⟨B, b, r, rfl, _⟩ := h
    rfl
  · obtain ⟨B, b, r, rfl, bag, hb0, hb1, hr0, hr1, k⟩ := h
    refine ⟨_, (pss_cons (ps_set (i := 3) sc_law_master.nd rfl (Or.inl rfl) (pe_tup (pa_cons pe_str (pa_cons (pe_call (ok_law_any T) (hr.mono (by decide)) (by rfl) T.law_any.g T.law_any.F.kp T.law_any.b .nil pass0 (pa_cons (pv 0) (pa_cons (pe_lst (pa_cons pe_int (pa_cons pe_int (pa_cons (pe_op op_pow pe_int pe_int) pa_nil)))) pa_nil))) (pa_cons (pv 2) (pa_cons (pe_call (ok_law_any T) (hr.mono (by decide)) (by rfl) T.law_any.g T.law_any.F.kp T.law_any.b .nil pass0 (pa_cons (pv 0) (pa_cons (pe_lst (pa_cons pe_int (pa_cons pe_int pa_nil))) pa_nil))) (pa_cons (pe_call (ok_law_any T) (hr.mono (by decide)) (by rfl) T.law_any.g T.law_any.F.kp T.law_any.b .nil pass0 (pa_cons (pv 0) (pa_cons (pe_lst (pa_cons pe_int (pa_cons pe_int pa_nil))) pa_nil))) (pa_cons pe_int pa_nil))))))))
    (pss_cons (ps_set (i := 4) sc_law_master.nd rfl (Or.inl rfl) (pe_call (ok_law_pick T) (hr.mono (by decide)) (by rfl) T.law_pick.g T.law_pick.F.kp T.law_pick.b .nil pass0 (pa_cons (pv 0) (pa_cons pe_int pa_nil))))
    (pss_cons (ps_set (i := 5) sc_law_master.nd rfl (Or.inl rfl) (pe_call (ok_law_any T) (hr.mono (by decide)) (by rfl) T.law_any.g T.law_any.F.kp T.law_any.b .nil pass0 (pa_cons (pv 0) (pa_cons (pe_lst (pa_cons (pe_un un_neg pe_int) (pa_cons pe_str (pa_cons pe_str (pa_cons pe_str (pa_cons (pe_op op_pow pe_int pe_int) pa_nil)))))) pa_nil))))
    (pss_cons (ps_set (i := 6) sc_law_master.nd rfl (Or.inl rfl) (pe_op (oAddT (K := K)) (pe_op (oAddT (K := K)) (pe_slice (slT (K := K)) (pv 3) po_none (po_some (pv 4))) (pe_tup (pa_cons (pv 5) pa_nil))) (pe_slice (slT (K := K)) (pv 3) (po_some (pe_op (oAddT (K := K)) (pv 4) pe_int)) po_none)))
    (pss_cons (ps_set (i := 7) sc_law_master.nd rfl (Or.inl rfl) (pe_lst (pa_cons (pe_tup pa_nil) (pa_cons (pe_slice (slT (K := K)) (pv 3) po_none (po_some pe_int)) (pa_cons (pe_op (oAddT (K := K)) (pv 3) (pe_tup (pa_cons pe_int pa_nil))) (pa_cons (pe_slice (slT (K := K)) (pv 3) (po_some pe_int) po_none) (pa_cons (pe_op (oAddT (K := K)) (pe_tup (pa_cons pe_str pa_nil)) (pe_slice (slT (K := K)) (pv 3) (po_some pe_int) po_none)) (pa_cons (pe_tup (pa_cons pe_str pa_nil)) pa_nil))))))))
    (pss_cons (ps_for PassesOwn.never rfl (piL (K := K) (pe_lst (pa_cons pe_int (pa_cons (pe_op op_sub (pv 1) pe_int) (pa_cons (pe_un un_neg pe_int) (pa_cons pe_int pa_nil)))))) (pg_name (i := 8) sc_law_master.nd rfl (Or.inl rfl))
      (pss_one (ps_expr (peApp (K := K) (pe_bm PySem.F.plainAttrs_list PySem.F.slot_list_append PySem.F.type_list_append mt_append (pv 7) (pa_cons (pe_op (oAddT (K := K)) (pe_op (oAddT (K := K)) (pe_slice (slT (K := K)) (pv 3) po_none (po_some pe_int)) (pe_tup (pa_cons (pv 8) pa_nil))) (pe_slice (slT (K := K)) (pv 3) (po_some pe_int) po_none)) pa_nil))))))
    (pss_cons (ps_if (pt_cmpR (oEq (K := K) hr.units) (pe_call (ok_law_pick T) (hr.mono (by decide)) (by rfl) T.law_pick.g T.law_pick.F.kp T.law_pick.b .nil pass0 (pa_cons (pv 0) (pa_cons pe_int pa_nil))) pe_int (nomark _)) (pss_one (ps_ret (pe_tup (pa_cons (pv 3) (pa_cons pe_bl pa_nil))))) pss_nil)
    (pss_cons (ps_if (PW.pt (pw_and (pt_cmpR (oEq (K := K) hr.units) (pe_call (ok_law_pick T) (hr.mono (by decide)) (by rfl) T.law_pick.g T.law_pick.F.kp T.law_pick.b .nil pass0 (pa_cons (pv 0) (pa_cons pe_int pa_nil))) pe_int (nomark _)) (pw_and (pt_cmpR (oNe (K := K) hr.units) (pv 5) (pe_ix (ixLT (K := K)) (pv 3) (pv 4) (fun _ _ => rfl)) (nomark _)) (pw_and (pt_cmpR (oNe (K := K) hr.units) (pv 5) (pe_op op_pow pe_int pe_int) (nomark _)) (pw_and1 (PW.pt (pw_or (pt_cmpR op_gt (pv 4) pe_int (nomark _)) (pw_or1 (pt_cmpR (oNe (K := K) hr.units) (pv 5) pe_str (nomark _)))))))))) (pss_one (ps_ret (pe_tup (pa_cons (pv 6) (pa_cons pe_bl pa_nil))))) pss_nil)
    (pss_one (ps_ret (pe_tup (pa_cons (pe_call (ok_law_any T) (hr.mono (by decide)) (by rfl) T.law_any.g T.law_any.F.kp T.law_any.b .nil pass0 (pa_cons (pv 0) (pa_cons (pv 7) pa_nil))) (pa_cons pe_bl pa_nil))))))))))))), ?_⟩
    walk_at "go"
    refine n_new (le_size (by simp)) fun l1 H1 n1 s1 h1 => ?_
    walk_at "go"
    refine ⟨B, l1, _, rfl, bag_same bag s1, slO h1, new_ne bag n1, by decide, by decide, fun e H2 me s2 => ?_⟩
    obtain ⟨en, rfl, he⟩ : ∃ en : Nat, e = .int en ∧ en ≤ 100000000000000000000 := by
      rcases List.mem_cons.mp me with rfl | me
      · exact ⟨0, rfl, by decide⟩
      rcases List.mem_cons.mp me with rfl | me
      · exact ⟨1, rfl, by decide⟩
      rw [List.mem_singleton.mp me]
      exact ⟨100000000000000000000, rfl, by decide⟩
    have b2 := s2.b
    have hs2 : Hs K B H H2 := (Hs.of bag s1).trans s2
    walk_at "go"
    refine n_new (le_size (by simp)) fun l3 H3 n3 s3 h3 => ?_
    walk_at "go"
    refine ⟨B, l3, _, rfl, bag_same b2 s3, slO h3, new_ne b2 n3, by decide, by decide, fun e4 H4 me4 s4 => ?_⟩
    obtain ⟨kn, rfl, hk⟩ : ∃ kn : Nat, e4 = .int kn ∧ kn ≤ 1000 := by
      rcases List.mem_cons.mp me4 with rfl | me4
      · exact ⟨0, rfl, by decide⟩
      rw [List.mem_singleton.mp me4]
      exact ⟨7, rfl, by decide⟩
    have b4 := s4.b
    have hs4 : Hs K B H H4 := (hs2.trans (Hs.of b2 s3)).trans s4
    walk_at "go"
    refine n_new (le_size (by simp)) fun l5 H5 n5 s5 h5 => ?_
    walk_at "go"
    refine ⟨B, l5, _, rfl, bag_same b4 s5, slO h5, new_ne b4 n5, by decide, by decide, fun e6 H6 me6 s6 => ?_⟩
    obtain ⟨mn, rfl, hm⟩ : ∃ mn : Nat, e6 = .int mn ∧ mn ≤ 1000 := by
      rcases List.mem_cons.mp me6 with rfl | me6
      · exact ⟨0, rfl, by decide⟩
      rw [List.mem_singleton.mp me6]
      exact ⟨9, rfl, by decide⟩
    have b6 := s6.b
    have hs6 : Hs K B H H6 := (hs4.trans (Hs.of b4 s5)).trans s6
    clear me me4 me6 h1 h3 h5 n1 n3 n5 s1 s2 s3 s4 s5 s6 b2 b4 hs2 hs4
    walk_at "go"
    refine n_new (le_size (by simp)) fun rg H7 n7 s7 h7 => ?_
    have hs7 := hs6.trans (Hs.of b6 s7)
    have hrg : SqT K H7 rg (Mst.ct ⟨en, r, kn, mn, 0⟩) := stO h7
    have okR : CtOk (Mst.ct ⟨en, r, kn, mn, 0⟩) := mst_ok ⟨by show en ≤ _; omega, by show r ≤ _; omega, by show kn ≤ _; omega, by show mn ≤ _; omega, Nat.zero_le _⟩
    have eR : Mst.ct ⟨en, r, kn, mn, 0⟩ = [V.str "master", .int en, .int r, .int kn, .int mn, .int 0] := rfl
    have itR : ∀ x ∈ [V.str "master", .int en, .int r, .int kn, .int mn, .int 0], smallV x = true ∧ itemB x = true := fun x hx => ⟨okR.2.1 x hx, ct_items okR x hx⟩
    rw [eR] at hrg okR
    have outR : MOut [V.str "master", .int en, .int r, .int kn, .int mn, .int 0] true b r := ⟨okR, by rw [if_pos rfl]; exact ⟨⟨en, r, kn, mn, 0⟩, rfl, rfl, hk, he, hm, Nat.zero_le _⟩⟩
    clear h7 n7 eR
    generalize V.int (en : Nat) = x1 at *
    generalize V.int (kn : Nat) = x3 at *
    generalize V.int (mn : Nat) = x4 at *
    have b7 := hs7.b
    walk_at "go"
    refine ⟨B, 6, rfl, b7, by omega, by omega, fun at' H8 a0 a1 s8 => ?_⟩
    obtain ⟨j, rfl, hj⟩ : ∃ j : Nat, at' = (j : Int) ∧ j < 6 := ⟨at'.toNat, by omega, by omega⟩
    have b8 := s8.b
    have hs8 := hs7.trans s8
    have hr8 := s8.st b7 hrg
    walk_at "go"
    refine n_new (le_size (by simp)) fun l9 H9 n9 s9 h9 => ?_
    walk_at "go"
    refine ⟨B, l9, _, rfl, bag_same b8 s9, slO h9, new_ne b8 n9, by decide, by decide, fun od H10 mo s10 => ?_⟩
    have mo : od ∈ oddsL := mo
    have b10 := s10.b
    have hs10 := (hs8.trans (Hs.of b8 s9)).trans s10
    have hr10 := s10.st (bag_same b8 s9) (st_ s9 hr8)
    clear h9 n9 s9 s10 s8 s7 hrg hr8 b8 b7 b6
    walk_at "go"
    refine r_slT hr10 fun c11 H11 s11 hc11 => ?_
    rw [show cutV [V.str "master", x1, .int r, x3, x4, .int 0] none (some (j : Int)) = [V.str "master", x1, .int r, x3, x4, .int 0].take j from cut_to (j := j)] at hc11
    walk_at "go"
    refine n_new (le_size (by simp)) fun t12 H12 n12 s12 h12 => ?_
    refine o_catA (st_ s12 hc11) (stO h12) (by simp; omega) fun c13 H13 s13 hc13 => ?_
    walk_at "go"
    have hr13 := st_ (s11.trans (s12.trans s13)) hr10
    refine r_slT hr13 fun c14 H14 s14 hc14 => ?_
    rw [show cutV [V.str "master", x1, .int r, x3, x4, .int 0] (some ((j : Int) + 1)) none = [V.str "master", x1, .int r, x3, x4, .int 0].drop (j + 1) from cut_from (i := j + 1)] at hc14
    refine o_catA (st_ s14 hc13) hc14 (by simp; omega) fun c15 H15 s15 hc15 => ?_
    have s1015 := s11.trans (s12.trans (s13.trans (s14.trans s15)))
    have hr15 := st_ s1015 hr10
    have hs15 := hs10.trans (Hs.of b10 s1015)
    have b15 := hs15.b
    clear s11 s12 s13 s14 s15 s1015 hc11 h12 n12 hc13 hc14 hr13 hr10 b10
    have okB : od ∈ [V.int (-1), .str "", .str "a", .str "master"] → (0 < j ∨ od ≠ .str "master") → MOut ([V.str "master", x1, .int r, x3, x4, .int 0].take j ++ [od] ++ [V.str "master", x1, .int r, x3, x4, .int 0].drop (j + 1)) false b r := fun h h0 => ⟨ct_of (by simp; omega) fun x hx => by
      rcases List.mem_append.mp hx with hx | hx
      · rcases List.mem_append.mp hx with hx | hx
        · exact itR x (List.mem_of_mem_take hx)
        · rw [List.mem_singleton.mp hx]; exact odds_ok od mo
      · exact itR x (List.mem_of_mem_drop hx), by rw [if_neg (by decide)]; exact bent_no hj h h0⟩
    have itO := (odds_ok od mo).2
    have itJ : ∀ x, [V.str "master", x1, .int r, x3, x4, .int 0][j]? = some x → itemB x = true := fun x e => (itR x (List.mem_of_getElem? e)).2
    generalize [V.str "master", x1, .int r, x3, x4, .int 0].take j ++ [od] ++ [V.str "master", x1, .int r, x3, x4, .int 0].drop (j + 1) = bent at *
    walk_at "go"
    refine n_new (le_size (by simp)) fun t16 H16 n16 s16 h16 => ?_
    walk_at "go"
    have hr16 := st_ s16 hr15
    refine r_slT hr16 fun c17 H17 s17 hc17 => ?_
    rw [show cutV [V.str "master", x1, .int r, x3, x4, .int 0] none (some (5 : Int)) = [V.str "master", x1, .int r, x3, x4] from cut_to (j := 5)] at hc17
    have hr17 := st_ s17 hr16
    walk_at "go"
    refine n_new (le_size (by simp)) fun t18 H18 n18 s18 h18 => ?_
    refine o_catA (st_ s18 hr17) (stO h18) (by simp) fun c19 H19 s19 hc19 => ?_
    have hr19 := st_ (s18.trans s19) hr17
    walk_at "go"
    refine r_slT hr19 fun c20 H20 s20 hc20 => ?_
    rw [show cutV [V.str "master", x1, .int r, x3, x4, .int 0] (some (1 : Int)) none = [x1, .int r, x3, x4, .int 0] from cut_from (i := 1)] at hc20
    have hr20 := st_ s20 hr19
    walk_at "go"
    refine n_new (le_size (by simp)) fun t21 H21 n21 s21 h21 => ?_
    have hr21 := st_ s21 hr20
    walk_at "go"
    refine r_slT hr21 fun c22 H22 s22 hc22 => ?_
    rw [show cutV [V.str "master", x1, .int r, x3, x4, .int 0] (some (1 : Int)) none = [x1, .int r, x3, x4, .int 0] from cut_from (i := 1)] at hc22
    refine o_catA (stO (s22 _ _ h21)) hc22 (by simp) fun c23 H23 s23 hc23 => ?_
    have hr23 := st_ (s22.trans s23) hr21
    walk_at "go"
    refine n_new (le_size (by simp)) fun t24 H24 n24 s24 h24 => ?_
    walk_at "go"
    refine n_new (le_size (by simp)) fun l25 H25 n25 s25 h25 => ?_
    have u24 := s24.trans s25
    have u23 := s23.trans u24
    have u22 := s22.trans u23
    have u21 := s21.trans u22
    have u20 := s20.trans u21
    have u19 := s19.trans u20
    have u18 := s18.trans u19
    have u17 := s17.trans u18
    have u16 := s16.trans u17
    have mn25 : MenuAt K H25 [t16, c17, c19, c20, c23, t24] b := fun c m => by
      simp only [List.mem_cons, List.not_mem_nil, or_false] at m
      rcases m with rfl | rfl | rfl | rfl | rfl | rfl
      · exact ⟨[], st_ u17 (stO h16), ct_of (by simp) (by simp), rfl⟩
      · exact ⟨_, st_ u18 hc17, ct_of (by simp) (fun x hx => itR x (show x ∈ [V.str "master", x1, .int r, x3, x4] ++ [.int 0] from List.mem_append_left _ hx)), mst_not (by simp)⟩
      · exact ⟨_, st_ u20 hc19, ct_of (by simp) (fun x hx => (List.mem_append.mp hx).elim (itR x) fun hx => by rw [List.mem_singleton.mp hx]; decide +kernel), mst_not (by simp)⟩
      · exact ⟨_, st_ u21 hc20, ct_of (by simp) (fun x hx => itR x (List.mem_cons_of_mem _ hx)), mst_not (by simp)⟩
      · refine ⟨_, st_ u24 hc23, ct_of (by simp) (fun x hx => ?_), ?_⟩
        · rcases List.mem_append.mp hx with hx | hx
          · rw [List.mem_singleton.mp hx]; decide +kernel
          · exact itR x (List.mem_cons_of_mem _ hx)
        · exact mast_no
      · exact ⟨_, stO (s25 _ _ h24), ct_of (by simp) (fun x hx => by rw [List.mem_singleton.mp hx]; decide +kernel), mst_not (by simp)⟩
    have lc0 : [t16, c17, c19, c20, c23, t24].length = 6 := rfl
    have h25' : H25 l25 = some (.lst ([t16, c17, c19, c20, c23, t24].map V.ref)) := h25
    have hr25 := st_ u16 hr15
    have hb25 := st_ u16 hc15
    have hs25 := hs15.trans (Hs.of b15 u16)
    have b25 := hs25.b
    have nl : l25 ≠ B.hd := new_ne (bag_same b15 (s16.trans (s17.trans (s18.trans (s19.trans (s20.trans (s21.trans (s22.trans (s23.trans s24))))))))) n25
    have nlH : H l25 = none := hs15.free (free_ (s16.trans (s17.trans (s18.trans (s19.trans (s20.trans (s21.trans (s22.trans (s23.trans s24)))))))) n25)
    clear h25 u16 u17 u18 u19 u20 u21 u22 u23 u24 s16 s17 s18 s19 s20 s21 s22 s23 s24 s25 h16 h18 h21 h24 hc17 hc19 hc20 hc22 hc23 hr16 hr17 hr19 hr20 hr21 hr23 hr15 hc15 n16 n18 n21 n24 b15
    generalize [t16, c17, c19, c20, c23, t24] = cs0 at *
    walk_at "go"
    refine n_new (le_size (by simp)) fun l26 H26 n26 s26 h26 => ?_
    refine i_lst (slO h26) ?_
    have nl26 : l26 ≠ l25 := ne_of_none' h25' n26
    have nb26 : l26 ≠ B.hd := new_ne b25 n26
    refine l_lst (xs := [.int 3, .int ((b : Int) - 7), .int (-4), .int 0]) (fun i σ4 H4 => ∃ (y : Option V) (cs : List Addr), σ4 = [some (.ref B.hd), some (.int b), some (.int r), some (.ref rg), some (.int j), some od, some (.ref c15), some (.ref l25), y] ∧ Hs K B H H4 ∧ SqT K H4 rg [V.str "master", x1, .int r, x3, x4, .int 0] ∧ SqT K H4 c15 bent ∧ H4 l25 = some (.lst (cs.map V.ref)) ∧ MenuAt K H4 cs b ∧ cs.length = 6 + i ∧ H4 l26 = some (.lst [.int 3, .int ((b : Int) - 7), .int (-4), .int 0]))
      ⟨none, cs0, rfl, hs25.trans (Hs.of b25 s26), st_ s26 hr25, st_ s26 hb25, s26 _ _ h25', mn25.st fun c xs h => st_ s26 h, lc0, h26⟩ (fun i σ4 H4 hi z => ?_) (fun σ4 H4 z => ?_) (fun i x σ4 H4 hx z => ?_)
    · obtain ⟨y, cs, _, _, _, _, _, _, _, e⟩ := z
      exact slO e
    rotate_left 1
    · obtain ⟨y, cs, rfl, h4, hr4, hb4, hl4, hm4, lc4, e4⟩ := z
      have hi : i < 4 := (List.getElem?_eq_some_iff.mp hx).1
      obtain ⟨sz, rfl, no, sm⟩ : ∃ sz : Int, x = .int sz ∧ ¬ (4 ≤ sz ∧ sz ≤ (b : Int) - 8) ∧ -1000 ≤ sz ∧ sz ≤ 1000 := by
        rcases (show i = 0 ∨ i = 1 ∨ i = 2 ∨ i = 3 by omega) with rfl | rfl | rfl | rfl
        · exact ⟨3, (Option.some.inj hx).symm, by omega, by omega, by omega⟩
        · exact ⟨(b : Int) - 7, (Option.some.inj hx).symm, by omega, by omega, by omega⟩
        · exact ⟨-4, (Option.some.inj hx).symm, by omega, by omega, by omega⟩
        · exact ⟨0, (Option.some.inj hx).symm, by omega, by omega, by omega⟩
      have b4 := h4.b
      walk_at "go"
      refine r_slT hr4 fun c5 H5 s5 hc5 => ?_
      rw [show cutV [V.str "master", x1, .int r, x3, x4, .int 0] none (some (2 : Int)) = [V.str "master", x1] from cut_to (j := 2)] at hc5
      have hr5 := st_ s5 hr4
      walk_at "go"
      refine n_new (le_size (by simp)) fun t6 H6 n6 s6 h6 => ?_
      refine o_catA (st_ s6 hc5) (stO h6) (by simp) fun c7 H7 s7 hc7 => ?_
      walk_at "go"
      refine r_slT (st_ (s6.trans s7) hr5) fun c8 H8 s8 hc8 => ?_
      rw [show cutV [V.str "master", x1, .int r, x3, x4, .int 0] (some (3 : Int)) none = [x3, x4, .int 0] from cut_from (i := 3)] at hc8
      refine o_catA (st_ s8 hc7) hc8 (by simp) fun c9 H9 s9 hc9 => ?_
      have s49 := s5.trans (s6.trans (s7.trans (s8.trans s9)))
      have hl9 := s49 _ _ hl4
      walk_at "go"
      refine r_app hl9 (by rw [List.length_map]; omega) fun H10 o10 e10 => ?_
      have c10 : Ch [l25] H9 H10 := Ch.of_oth o10 (by simp) fun o e => by rw [hl9] at e; cases e; rfl
      have kp : ∀ c xs, SqT K H4 c xs → SqT K H10 c xs := fun c xs h => c10.st (st_ s49 h)
      refine ⟨_, cs ++ [c9], rfl, (h4.trans (Hs.of b4 s49)).mut bag nlH o10, kp _ _ hr4, kp _ _ hb4, by rw [List.map_append]; exact e10, fun c m => ?_, by rw [List.length_append, lc4]; rfl, o10 _ _ nl26 (s49 _ _ e4)⟩
      rcases List.mem_append.mp m with m | m
      · exact hm4.st kp c m
      · rw [List.mem_singleton.mp m]
        refine ⟨[V.str "master", x1, .int sz, x3, x4, .int 0], c10.st hc9, ct_of (by simp) (fun y hy => ?_), size_no no⟩
        by_cases q : y = .int sz
        · rw [q]
          refine ⟨rfl, ?_⟩
          show (false || within (.int sz) _ _) = true
          rw [Bool.false_or]
          exact within_of (by omega) (by omega)
        · refine itR y ?_
          simp only [List.mem_cons, List.not_mem_nil, or_false, q, false_or] at hy ⊢
          rcases hy with h | h | h | h | h
          · exact .inl h
          · exact .inr (.inl h)
          · exact .inr (.inr (.inr (.inl h)))
          · exact .inr (.inr (.inr (.inr (.inl h))))
          · exact .inr (.inr (.inr (.inr (.inr h))))
    obtain ⟨y, cs, rfl, h4, hr4, hb4, hl4, hm4, lc4, e4⟩ := z
    have b4 := h4.b
    clear e4 h26 s26 n26 h25' hr25 hb25 hs25 b25 mn25 lc0 n25
    walk_at "go"
    refine ⟨B, 3, rfl, b4, by omega, by omega, fun d H5 d0 d1 s5 => ?_⟩
    have h5 := h4.trans s5
    have hr5 := s5.st b4 hr4
    have hb5 := s5.st b4 hb4
    have hl5 := s5.ls nl hl4
    have hm5 := hm4.st fun c xs h => s5.st b4 h
    have b5 := s5.b
    clear hr4 hb4 hl4 hm4
    walk_at "go"
    refine i_d (fun q => ?_) (fun q => ?_)
    · walk_at "go"
      refine n_new (le_size (by simp)) fun t6 H6 n6 s6 h6 => ?_
      exact k t6 rg _ true H6 (stO h6) (st_ s6 hr5) outR (h5.trans (Hs.of b5 s6))
    walk_at "go"
    refine ⟨B, 2, rfl, b5, by omega, by omega, fun d7 H7 e0 e1 s7 => ?_⟩
    have h7 := h5.trans s7
    have hr7 := s7.st b5 hr5
    have hb7 := s7.st b5 hb5
    have hl7 := s7.ls nl hl5
    have hm7 := hm5.st fun c xs h => s7.st b5 h
    have b7 := s7.b
    clear hr5 hb5 hl5 hm5
    walk_at "go"
    have lc4 : cs.length = 10 := lc4
    have fin : ∀ x H8, x ∈ cs.map V.ref → Hs K B H7 H8 → ∀ t H9, Same H8 H9 → SqT K H9 t [x, .bl false] → Q (.ref t) H9 := fun x H8 mx s8 t H9 s9 h9 => by
      obtain ⟨c, mc, rfl⟩ := List.mem_map.mp mx
      obtain ⟨xs, x1', x2', x3'⟩ := hm7 c mc
      exact k t c xs false H9 h9 (st_ s9 (s8.st b7 x1')) ⟨x2', by rw [if_neg (by decide)]; exact x3'⟩ ((h7.trans s8).trans (Hs.of s8.b s9))
    refine i_d (fun q0 => ?_) (fun q0 => ?_)
    rotate_left 1
    · walk_at "go"
      refine ⟨B, l25, _, rfl, b7, slO hl7, nl, by rw [List.length_map, lc4]; decide, by rw [List.length_map, lc4]; decide, fun x H8 mx s8 => ?_⟩
      walk_at "go"
      refine n_new (le_size (by simp)) fun t9 H9 n9 s9 h9 => ?_
      exact fin x H8 mx s8 t9 H9 s9 (stO h9)
    walk_at "go"
    obtain ⟨xj, ej⟩ : ∃ x, [V.str "master", x1, .int r, x3, x4, .int 0][j]? = some x := ⟨_, List.getElem?_eq_getElem (by simpa using hj)⟩
    refine o_ixT hr7 (atI_in (j := j) rfl ej) ?_
    refine o_neII itO (itJ _ ej) ?_
    by_cases q1 : od = xj
    · rw [decide_eq_true q1, Bool.not_true]
      walk_at "go"
      refine ⟨B, l25, _, rfl, b7, slO hl7, nl, by rw [List.length_map, lc4]; decide, by rw [List.length_map, lc4]; decide, fun x H8 mx s8 => ?_⟩
      walk_at "go"
      refine n_new (le_size (by simp)) fun t9 H9 n9 s9 h9 => ?_
      exact fin x H8 mx s8 t9 H9 s9 (stO h9)
    rw [decide_eq_false q1, Bool.not_false]
    walk_at "go"
    refine o_neII itO (by decide +kernel) ?_
    by_cases q2 : od = .int 1000000000000000000000000000000
    · rw [decide_eq_true q2, Bool.not_true]
      walk_at "go"
      refine ⟨B, l25, _, rfl, b7, slO hl7, nl, by rw [List.length_map, lc4]; decide, by rw [List.length_map, lc4]; decide, fun x H8 mx s8 => ?_⟩
      walk_at "go"
      refine n_new (le_size (by simp)) fun t9 H9 n9 s9 h9 => ?_
      exact fin x H8 mx s8 t9 H9 s9 (stO h9)
    rw [decide_eq_false q2, Bool.not_false]
    have mo4 : od ∈ [V.int (-1), .str "", .str "a", .str "master"] := by
      unfold oddsL at mo
      simp only [List.mem_cons, List.not_mem_nil, or_false, q2] at mo ⊢
      exact mo
    have bentQ : (0 < j ∨ od ≠ .str "master") → ∀ t H9, Same H7 H9 → SqT K H9 t [.ref c15, .bl false] → Q (.ref t) H9 := fun h0 t H9 s9 h9 => k t c15 bent false H9 h9 (st_ s9 hb7) (okB mo4 h0) (h7.trans (Hs.of b7 s9))
    walk_at "go"
    refine i_d (fun q3 => ?_) (fun q3 => ?_)
    · walk_at "go"
      refine n_new (le_size (by simp)) fun t9 H9 n9 s9 h9 => ?_
      exact bentQ (.inl (by omega)) t9 H9 s9 (stO h9)
    walk_at "go"
    refine o_neII itO (by decide +kernel) ?_
    by_cases q4 : od = .str "master"
    · rw [decide_eq_true q4, Bool.not_true]
      walk_at "go"
      refine ⟨B, l25, _, rfl, b7, slO hl7, nl, by rw [List.length_map, lc4]; decide, by rw [List.length_map, lc4]; decide, fun x H8 mx s8 => ?_⟩
      walk_at "go"
      refine n_new (le_size (by simp)) fun t9 H9 n9 s9 h9 => ?_
      exact fin x H8 mx s8 t9 H9 s9 (stO h9)
    rw [decide_eq_false q4, Bool.not_false]
    walk_at "go"
    refine n_new (le_size (by simp)) fun t9 H9 n9 s9 h9 => ?_
    exact bentQ (.inr q4) t9 H9 s9 (stO h9)
end



section
variable {P : Program} {w : World} {K : PySem.W.Frag} {mg : Str → Option Value} {base : Heap}
/-! ### what is told of a disk, and what is due -/
def Res (K : PySem.W.Frag) (H : Hp) : Bool → List Addr → Prop
  | true, ts => ∃ t1 t2 t3 t4 d m l2 d3, ts = [t1, t2, t3, t4] ∧ SqT K H t1 [.str "told", .ref d] ∧ H d = some (.dK [((Sum.inl 0 : Key), V.ref m)]) ∧ SqT K H m (metaT (-1) 1 0 0) ∧ SqT K H t2 [.str "told", .ref l2] ∧ H l2 = some (.lst []) ∧ SqT K H t3 [.str "told", .ref d3] ∧ H d3 = some (.dK []) ∧ SqT K H t4 [.str "told", .int 0]
  | false, ts => ts.length = 4 ∧ ∀ t ∈ ts, SqT K H t [.str "disk", .non]
def ResL (K : PySem.W.Frag) (H : Hp) (rt : Bool) (l : Addr) : Prop := ∃ ts, H l = some (.lst (ts.map V.ref)) ∧ Res K H rt ts
theorem Res.xn {H H' : Hp} {rt : Bool} {ts : List Addr} (h : Res K H rt ts) (e : LamX.ExtN H H') : Res K H' rt ts := by
  cases rt with
  | true =>
    obtain ⟨t1, t2, t3, t4, d, m, l2, d3, et, a1, a2, a3, a4, a5, a6, a7, a8⟩ := h
    exact ⟨t1, t2, t3, t4, d, m, l2, d3, et, xn_st e a1, e _ _ a2 (fun ps z => by cases z), xn_st e a3, xn_st e a4, e _ _ a5 (fun ps z => by cases z), xn_st e a6, e _ _ a7 (fun ps z => by cases z), xn_st e a8⟩
  | false => exact ⟨h.1, fun t m => xn_st e (h.2 t m)⟩
theorem ResL.xn {H H' : Hp} {rt : Bool} {l : Addr} (h : ResL K H rt l) (e : LamX.ExtN H H') : ResL K H' rt l := by
  obtain ⟨ts, h1, h2⟩ := h
  exact ⟨ts, e _ _ h1 (fun ps z => by cases z), h2.xn e⟩
theorem xn_same {H H' : Hp} (s : Same H H') : LamX.ExtN H H' := fun b o h _ => s b o h
theorem ResL.same {H H' : Hp} {rt : Bool} {l : Addr} (h : ResL K H rt l) (s : Same H H') : ResL K H' rt l := h.xn (xn_same s)
theorem eq_same {H : Hp} {n : Nat} {x : V} (f : flatB x = true) : EqX K H (n + 1) x x := .inl ⟨rfl, f⟩
theorem eq_tup {H : Hp} {n : Nat} {a b : Addr} {xs ys : List V} (h1 : SqT K H a xs) (h2 : SqT K H b ys) (p : Paired (EqX K H n) xs ys) : EqX K H (n + 1) (.ref a) (.ref b) := .inr (.inl ⟨a, b, xs, ys, rfl, rfl, h1, h2, p⟩)
theorem eq_lst {H : Hp} {n : Nat} {a b : Addr} {xs ys : List V} (h1 : SqL K H a xs) (h2 : SqL K H b ys) (p : Paired (EqX K H n) xs ys) : EqX K H (n + 1) (.ref a) (.ref b) := .inr (.inr (.inl ⟨a, b, xs, ys, rfl, rfl, h1, h2, p⟩))
theorem eq_dct {H : Hp} {n : Nat} {a b : Addr} {ks ls : List (Key × V)} (h1 : H a = some (.dK ks)) (h2 : H b = some (.dK ls)) (l : ks.length = ls.length) (i1 : ∀ p ∈ ks, intK p.1 = true) (i2 : ∀ p ∈ ls, intK p.1 = true) (p : ∀ p ∈ ks, ∃ u, valV ls p.1 = some u ∧ EqX K H n p.2 u) : EqX K H (n + 1) (.ref a) (.ref b) := .inr (.inr (.inr ⟨a, b, ks, ls, rfl, rfl, h1, h2, l, i1, i2, p⟩))
theorem pair_all {H : Hp} {n : Nat} {xs : List V} (h : ∀ x ∈ xs, EqX K H n x x) : Paired (EqX K H n) xs xs := by
  induction xs with
  | nil => exact .nil
  | cons x xs ih => exact .cons (h x (by simp)) (ih fun y m => h y (List.mem_cons_of_mem _ m))
theorem pair_bad {H : Hp} : ∀ {ts us : List Addr}, ts.length = us.length → (∀ t ∈ ts, SqT K H t [.str "disk", .non]) → (∀ t ∈ us, SqT K H t [.str "disk", .non]) → Paired (EqX K H 20) (ts.map V.ref) (us.map V.ref)
  | [], [], _, _, _ => .nil
  | t :: ts, u :: us, l, h1, h2 => .cons (eq_tup (h1 t (by simp)) (h2 u (by simp)) (pair_all fun x m => by
      simp only [List.mem_cons, List.not_mem_nil, or_false] at m
      rcases m with rfl | rfl <;> exact eq_same rfl)) (pair_bad (by simpa using l) (fun t m => h1 t (List.mem_cons_of_mem _ m)) fun t m => h2 t (List.mem_cons_of_mem _ m))
  | [], _ :: _, l, _, _ => by cases l
  | _ :: _, [], l, _, _ => by cases l
theorem res_eq {H : Hp} {rt : Bool} {ts us : List Addr} (h1 : Res K H rt ts) (h2 : Res K H rt us) : Paired (EqX K H 20) (ts.map V.ref) (us.map V.ref) := by
  cases rt with
  | false => exact pair_bad (h1.1.trans h2.1.symm) h1.2 h2.2
  | true =>
    obtain ⟨t1, t2, t3, t4, d, m, l2, d3, rfl, a1, a2, a3, a4, a5, a6, a7, a8⟩ := h1
    obtain ⟨u1, u2, u3, u4, e, n, k2, e3, rfl, b1, b2, b3, b4, b5, b6, b7, b8⟩ := h2
    have tld : ∀ {x y : V}, EqX K H 19 x y → Paired (EqX K H 19) [V.str "told", x] [V.str "told", y] := fun h => .cons (eq_same rfl) (.cons h .nil)
    refine .cons (eq_tup a1 b1 (tld (eq_dct a2 b2 rfl (by simp [intK]) (by simp [intK]) fun p hp => ?_))) (.cons (eq_tup a4 b4 (tld (eq_lst (slO a5) (slO b5) .nil))) (.cons (eq_tup a6 b6 (tld (eq_dct a7 b7 rfl (by simp) (by simp) (by simp)))) (.cons (eq_tup a8 b8 (tld (eq_same rfl))) .nil)))
    rw [List.mem_singleton.mp hp]
    refine ⟨V.ref n, rfl, eq_tup a3 b3 (pair_all fun x hx => ?_)⟩
    unfold metaT at hx
    simp only [List.mem_cons, List.not_mem_nil, or_false] at hx
    rcases hx with rfl | rfl | rfl | rfl | rfl <;> exact eq_same rfl
def AskD (K : PySem.W.Frag) (CD : Addr) (H : Hp) (p : Addr) : Bool → Prop
  | true => ∃ M, GoodD K CD H p M
  | false => BadD K CD H p
theorem AskD.xn {CD : Addr} {H H' : Hp} {p : Addr} {rt : Bool} (h : AskD K CD H p rt) (e : LamX.ExtN H H') : AskD K CD H' p rt := by
  cases rt with
  | true =>
    obtain ⟨M, F, S, h1, h2⟩ := h
    exact ⟨M, F, S, h1.xn e, h2⟩
  | false =>
    obtain ⟨F, S, xs, h1, h2⟩ := h
    exact ⟨F, S, xs, h1.xn e, h2⟩
/-- all but a list and the tables stays -/
structure Pz (K : PySem.W.Frag) (l : Addr) (H H' : Hp) : Prop where
  st : ∀ c xs, SqT K H c xs → SqT K H' c xs
  at_ : ∀ a o, a ≠ l → (∀ ps, o ≠ .tbl ps) → H a = some o → H' a = some o
theorem Pz.xn {l : Addr} {H H' : Hp} (e : LamX.ExtN H H') : Pz K l H H' := ⟨fun c xs h => xn_st e h, fun a o _ n h => e a o h n⟩
theorem Pz.same {l : Addr} {H H' : Hp} (s : Same H H') : Pz K l H H' := .xn (xn_same s)
theorem Pz.app {l : Addr} {H H' : Hp} {xs : List V} (o : Oth l H H') (h : H l = some (.lst xs)) : Pz K l H H' := ⟨fun c ys s => (Ch.of_oth (F := [l]) o (by simp) fun u e => by rw [h] at e; cases e; rfl).st s, fun a u n _ e => o a u n e⟩
theorem Pz.trans {l : Addr} {H H1 H2 : Hp} (a : Pz K l H H1) (b : Pz K l H1 H2) : Pz K l H H2 := ⟨fun c xs h => b.st c xs (a.st c xs h), fun x o n t h => b.at_ x o n t (a.at_ x o n t h)⟩
theorem Pz.ds {l CD p : Addr} {F : List Addr} {S : SD} {H H' : Hp} {xs : List V} (o : Oth l H H') (h : H l = some (.lst xs)) (d : DS K CD H p F S) (n : ∀ a ∈ F, a ≠ l) : DS K CD H' p F S := d.ch (Ch.of_oth (F := [l]) o (by simp) fun u e => by rw [h] at e; cases e; rfl) fun a m z => n a m (List.mem_singleton.mp z)
theorem app_tabs {TL : List (Addr × Str)} {l : Addr} {H H' : Hp} {xs : List V} (o : Oth l H H') (h : H l = some (.lst xs)) (t : LamX.Tabs TL H) : LamX.Tabs TL H' := (Ch.of_oth (F := [l]) o (by simp) fun u e => by rw [h] at e; cases e; rfl).tabs t
theorem app_xn {l : Addr} {H0 H H' : Hp} (e : LamX.ExtN H0 H) (o : Oth l H H') (n : ∀ u, (∀ ps, u ≠ .tbl ps) → H0 l ≠ some u) : LamX.ExtN H0 H' := fun b u h t => o b u (fun z => n u t (z ▸ h)) (e b u h t)
theorem new_tup {H : Hp} {p : Addr} {xs : List V} (n : H p = none) : ∃ H', H' = upd H p (.tup xs) ∧ Same H H' ∧ H' p = some (.tup xs) := ⟨_, rfl, Same.new n, upd_same⟩
theorem e_lamV {TL : List (Addr × Str)} {CB : Addr} {t : XK → TE} {σ : L2.St} {H : Hp} {Q : VK} (tb : LamX.Tabs TL H) (h : ∀ H1, LamX.ExtN H H1 → LamX.Tabs TL H1 → t (fun cls d H' => d = none ∧ cls = .ref CB ∧ ∀ p, H' p = none → Q (.ref p) (upd H' p (.tup [.str "disk", .non]))) σ H1 fun v H' => [V.str "told", v].length ≤ sizeLine ∧ ∀ p, H' p = none → Q (.ref p) (upd H' p (.tup [.str "told", v]))) : LamX.tLam TL (TToldV CB) t σ H Q :=
  ⟨tb, fun H1 e t1 H0 s0 => h H0 (e.trans (xn_same s0)) (t1.ext s0)⟩
def sp_asked (K : PySem.W.Frag) (TL : List (Addr × Str)) (CD : Addr) : Sp := fun vs H Q _ => ∃ p rt, vs = [.ref p] ∧ LamX.Tabs TL H ∧ AskD K CD H p rt ∧ ∀ l H', LamX.ExtN H H' → LamX.Tabs TL H' → ResL K H' rt l → Q (.ref l) H'
theorem ok_law_asked (T : Txt K mg) (B_law_asked : LamX.TabB base mg T.law_asked.c T.law_asked.P) : FnOk P w K mg base CX0 16 T.law_asked.f T.law_asked.fd ["disk"] ((sp_asked K (tabsL T) T.C_Disk)) := by
  refine T.law_asked.ok sc_law_asked (fun vs H Q E h => ?_) (fun A outer s H vs Q E hr h => ?_)
  · obtain ⟨p, rt, rfl, _⟩ := h
    rfl
  · obtain ⟨p, rt, rfl, tb, ad, k⟩ := h
    refine ⟨_, (pss_cons (ps_set (i := 1) sc_law_asked.nd rfl (Or.inl rfl) (pe_lst (pa_cons (pe_lamF (n := ("_law_asked" : Str) ++ ".<locals>.") (T := tabsL T) (k := 13) nox_qual T.law_word (by rfl) sc_law_word4 (by rfl) (.inl (by rfl)) (fun cdv => told_givesX T rfl rfl) B_law_asked rfl (tabsM_law_asked T) (tabs_uniq T.dst (tabsM_law_asked T)) (hr.mono (by decide)) (show LamX.LamS (defScope s_law_asked) _ from LamX.lamS_by (by decide +kernel)) rfl (fun _ _ _ _ _ => rfl) (fun A outer s H E f c hr => (pe_call (ok_pages_of T) (hr.mono (by decide)) (by rfl) T.pages_of.g T.pages_of.F.kp T.pages_of.b .nil (passes_call (takes_of rfl rfl rfl rfl) (fun _ _ _ _ h => h)) (pa_cons (pv 0) pa_nil)))) pa_nil)))
    (pss_cons (ps_expr (peApp (K := K) (pe_bm PySem.F.plainAttrs_list PySem.F.slot_list_append PySem.F.type_list_append mt_append (pv 1) (pa_cons (pe_lamF (n := ("_law_asked" : Str) ++ ".<locals>.") (T := tabsL T) (k := 13) nox_qual T.law_word (by rfl) sc_law_word4 (by rfl) (.inl (by rfl)) (fun cdv => told_givesX T rfl rfl) B_law_asked rfl (tabsM_law_asked T) (tabs_uniq T.dst (tabsM_law_asked T)) (hr.mono (by decide)) (show LamX.LamS (defScope s_law_asked) _ from LamX.lamS_by (by decide +kernel)) rfl (fun _ _ _ _ _ => rfl) (fun A outer s H E f c hr => (pe_call (ok_prefix_of T) (hr.mono (by decide)) (by rfl) T.prefix_of.g T.prefix_of.F.kp T.prefix_of.b .nil (passes_call (takes_of rfl rfl rfl rfl) (fun _ _ _ _ h => h)) (pa_cons (pv 0) pa_nil)))) pa_nil))))
    (pss_cons (ps_expr (peApp (K := K) (pe_bm PySem.F.plainAttrs_list PySem.F.slot_list_append PySem.F.type_list_append mt_append (pv 1) (pa_cons (pe_lamF (n := ("_law_asked" : Str) ++ ".<locals>.") (T := tabsL T) (k := 13) nox_qual T.law_word (by rfl) sc_law_word4 (by rfl) (.inl (by rfl)) (fun cdv => told_givesX T rfl rfl) B_law_asked rfl (tabsM_law_asked T) (tabs_uniq T.dst (tabsM_law_asked T)) (hr.mono (by decide)) (show LamX.LamS (defScope s_law_asked) _ from LamX.lamS_by (by decide +kernel)) rfl (fun _ _ _ _ _ => rfl) (fun A outer s H E f c hr => (pe_call (ok_meaning T) (hr.mono (by decide)) (by rfl) T.meaning.g T.meaning.F.kp T.meaning.b .nil (passes_call (takes_of rfl rfl rfl rfl) (fun _ _ _ _ h => h)) (pa_cons (pv 0) pa_nil)))) pa_nil))))
    (pss_cons (ps_expr (peApp (K := K) (pe_bm PySem.F.plainAttrs_list PySem.F.slot_list_append PySem.F.type_list_append mt_append (pv 1) (pa_cons (pe_lamF (n := ("_law_asked" : Str) ++ ".<locals>.") (T := tabsL T) (k := 13) nox_qual T.law_word (by rfl) sc_law_word4 (by rfl) (.inl (by rfl)) (fun cdv => told_givesX T rfl rfl) B_law_asked rfl (tabsM_law_asked T) (tabs_uniq T.dst (tabsM_law_asked T)) (hr.mono (by decide)) (show LamX.LamS (defScope s_law_asked) _ from LamX.lamS_by (by decide +kernel)) rfl (fun _ _ _ _ _ => rfl) (fun A outer s H E f c hr => (pe_call (ok_commits_of T) (hr.mono (by decide)) (by rfl) T.commits_of.g T.commits_of.F.kp T.commits_of.b .nil (passes_call (takes_of rfl rfl rfl rfl) (fun _ _ _ _ h => h)) (pa_cons (pv 0) pa_nil)))) pa_nil))))
    (pss_one (ps_ret (pv 1))))))), ?_⟩
    walk_at "go"
    cases rt with
    | true =>
      obtain ⟨M, F, S, hS, rest⟩ := ad
      refine e_lamV tb fun H1 x1 t1 => ?_
      walk_at "go"
      refine .inl ⟨p, M, rfl, ⟨F, S, hS.xn x1, rest⟩, fun d m H2 s2 hd hm => ⟨le_size (by simp), fun c1 n1 => ?_⟩⟩
      obtain ⟨H3, e3, s3, h3⟩ := new_tup (xs := [.str "told", .ref d]) n1
      rw [← e3]
      have x03 := x1.trans (xn_same (s2.trans s3))
      have t3 := t1.ext (s2.trans s3)
      walk_at "go"
      refine n_new (le_size (by simp)) fun l H4 n4 s4 h4 => ?_
      have x04 := x03.trans (xn_same s4)
      have hS4 := hS.xn x04
      have lF : ∀ a ∈ F, a ≠ l := fun a m z => (hS.xn x03).there a m (by rw [z]; exact n4)
      have lX : ∀ u, (∀ ps, u ≠ .tbl ps) → H l ≠ some u := fun u z h => by rw [x03 _ _ h z] at n4; cases n4
      have nld : d ≠ l := fun z => by rw [z] at hd; rw [s3 _ _ hd] at n4; cases n4
      have a1 : SqT K H4 c1 [.str "told", .ref d] := st_ s4 (stO h3)
      have a2 := s4 _ _ (s3 _ _ hd)
      have a3 := st_ (s3.trans s4) hm
      walk_at "go"
      refine e_lamV (t3.ext s4) fun H5 x5 t5 => ?_
      walk_at "go"
      refine .inl ⟨p, M, rfl, ⟨F, S, hS4.xn x5, rest⟩, fun l2 H6 s6 hl2 => ⟨le_size (by simp), fun c2 n2 => ?_⟩⟩
      obtain ⟨H7, e7, s7, h7⟩ := new_tup (xs := [.str "told", .ref l2]) n2
      rw [← e7]
      have x47 := x5.trans (xn_same (s6.trans s7))
      have hl7 := x47 _ _ h4 (fun ps z => by cases z)
      have nl2 : l2 ≠ l := fun z => by rw [z] at hl2; have := (s7 _ _ hl2).symm.trans hl7; cases this
      walk_at "go"
      refine r_app hl7 (by simp) fun H8 o8 e8 => ?_
      have z48 : Pz K l H4 H8 := (Pz.xn x47).trans (Pz.app o8 hl7)
      have x08 := app_xn (x04.trans x47) o8 lX
      have t8 := app_tabs o8 hl7 (t5.ext (s6.trans s7))
      have hS8 := Pz.ds o8 hl7 (hS4.xn x47) lF
      have b1 := z48.st _ _ a1
      have b2 := z48.at_ _ _ nld (fun ps z => by cases z) a2
      have b3 := z48.st _ _ a3
      have b4 := (Pz.app (K := K) o8 hl7).st _ _ (stO h7)
      have b5 := o8 _ _ nl2 (s7 _ _ hl2)
      clear z48 a1 a2 a3 x47 t5 s6 s7 x5 h7 hl2 hS4 x04 h4 s4 t3 t1 s2 s3 hm hd h3 e3 e7 x1 hl7 o8 n2
      walk_at "go"
      refine e_lamV t8 fun H9 x9 t9 => ?_
      walk_at "go"
      refine .inl ⟨p, M, rfl, ⟨F, S, hS8.xn x9, rest⟩, fun d3 H10 s10 hd3 => ⟨le_size (by simp), fun c3 n3 => ?_⟩⟩
      obtain ⟨H11, e11, s11, h11⟩ := new_tup (xs := [.str "told", .ref d3]) n3
      rw [← e11]
      have x811 := x9.trans (xn_same (s10.trans s11))
      have hl11 := x811 _ _ e8 (fun ps z => by cases z)
      have nl3 : d3 ≠ l := fun z => by rw [z] at hd3; have := (s11 _ _ hd3).symm.trans hl11; cases this
      walk_at "go"
      refine r_app hl11 (by simp) fun H12 o12 e12 => ?_
      have z812 : Pz K l H8 H12 := (Pz.xn x811).trans (Pz.app o12 hl11)
      have x012 := app_xn (x08.trans x811) o12 lX
      have t12 := app_tabs o12 hl11 (t9.ext (s10.trans s11))
      have hS12 := Pz.ds o12 hl11 (hS8.xn x811) lF
      have g1 := z812.st _ _ b1
      have g2 := z812.at_ _ _ nld (fun ps z => by cases z) b2
      have g3 := z812.st _ _ b3
      have g4 := z812.st _ _ b4
      have g5 := z812.at_ _ _ nl2 (fun ps z => by cases z) b5
      have g6 := (Pz.app (K := K) o12 hl11).st _ _ (stO h11)
      have g7 := o12 _ _ nl3 (s11 _ _ hd3)
      clear z812 b1 b2 b3 b4 b5 x811 t9 s10 s11 x9 h11 hd3 hS8 x08 t8 e8 e11 hl11 o12 n3
      walk_at "go"
      refine e_lamV t12 fun H13 x13 t13 => ?_
      walk_at "go"
      refine .inl ⟨p, M, rfl, ⟨F, S, hS12.xn x13, rest⟩, fun H14 s14 => ⟨le_size (by simp), fun c4 n4' => ?_⟩⟩
      obtain ⟨H15, e15, s15, h15⟩ := new_tup (xs := [.str "told", .int 0]) n4'
      rw [← e15]
      have x1215 := x13.trans (xn_same (s14.trans s15))
      have hl15 := x1215 _ _ e12 (fun ps z => by cases z)
      walk_at "go"
      refine r_app hl15 (by simp) fun H16 o16 e16 => ?_
      have z16 : Pz K l H12 H16 := (Pz.xn x1215).trans (Pz.app o16 hl15)
      walk_at "go"
      exact k l H16 (app_xn (x012.trans x1215) o16 lX) (app_tabs o16 hl15 (t13.ext (s14.trans s15))) ⟨[c1, c2, c3, c4], e16, c1, c2, c3, c4, d, m, l2, d3, rfl, z16.st _ _ g1, z16.at_ _ _ nld (fun ps z => by cases z) g2, z16.st _ _ g3, z16.st _ _ g4, z16.at_ _ _ nl2 (fun ps z => by cases z) g5, z16.st _ _ g6, z16.at_ _ _ nl3 (fun ps z => by cases z) g7, (Pz.app (K := K) o16 hl15).st _ _ (stO h15)⟩
    | false =>
      obtain ⟨F, S, xs, hS, rest⟩ := ad
      refine e_lamV tb fun H1 x1 t1 => ?_
      walk_at "go"
      refine .inr ⟨p, rfl, ⟨F, S, xs, hS.xn x1, rest⟩, fun H2 s2 => ⟨rfl, rfl, fun c1 n1 => ?_⟩⟩
      obtain ⟨H3, e3, s3, h3⟩ := new_tup (xs := [.str "disk", .non]) n1
      rw [← e3]
      have x03 := x1.trans (xn_same (s2.trans s3))
      have t3 := t1.ext (s2.trans s3)
      walk_at "go"
      refine n_new (le_size (by simp)) fun l H4 n4 s4 h4 => ?_
      have x04 := x03.trans (xn_same s4)
      have hS4 := hS.xn x04
      have lF : ∀ a ∈ F, a ≠ l := fun a m z => (hS.xn x03).there a m (by rw [z]; exact n4)
      have lX : ∀ u, (∀ ps, u ≠ .tbl ps) → H l ≠ some u := fun u z h => by rw [x03 _ _ h z] at n4; cases n4
      have a1 : SqT K H4 c1 [.str "disk", .non] := st_ s4 (stO h3)
      walk_at "go"
      refine e_lamV (t3.ext s4) fun H5 x5 t5 => ?_
      walk_at "go"
      refine .inr ⟨p, rfl, ⟨F, S, xs, hS4.xn x5, rest⟩, fun H6 s6 => ⟨rfl, rfl, fun c2 n2 => ?_⟩⟩
      obtain ⟨H7, e7, s7, h7⟩ := new_tup (xs := [.str "disk", .non]) n2
      rw [← e7]
      have x47 := x5.trans (xn_same (s6.trans s7))
      have hl7 := x47 _ _ h4 (fun ps z => by cases z)
      walk_at "go"
      refine r_app hl7 (by simp) fun H8 o8 e8 => ?_
      have z48 : Pz K l H4 H8 := (Pz.xn x47).trans (Pz.app o8 hl7)
      have x08 := app_xn (x04.trans x47) o8 lX
      have t8 := app_tabs o8 hl7 (t5.ext (s6.trans s7))
      have hS8 := Pz.ds o8 hl7 (hS4.xn x47) lF
      have b1 := z48.st _ _ a1
      have b4 := (Pz.app (K := K) o8 hl7).st _ _ (stO h7)
      clear z48 a1 x47 t5 s6 s7 x5 h7 hS4 x04 h4 s4 t3 t1 s2 s3 h3 e3 e7 x1 hl7 o8 n2
      walk_at "go"
      refine e_lamV t8 fun H9 x9 t9 => ?_
      walk_at "go"
      refine .inr ⟨p, rfl, ⟨F, S, xs, hS8.xn x9, rest⟩, fun H10 s10 => ⟨rfl, rfl, fun c3 n3 => ?_⟩⟩
      obtain ⟨H11, e11, s11, h11⟩ := new_tup (xs := [.str "disk", .non]) n3
      rw [← e11]
      have x811 := x9.trans (xn_same (s10.trans s11))
      have hl11 := x811 _ _ e8 (fun ps z => by cases z)
      walk_at "go"
      refine r_app hl11 (by simp) fun H12 o12 e12 => ?_
      have z812 : Pz K l H8 H12 := (Pz.xn x811).trans (Pz.app o12 hl11)
      have x012 := app_xn (x08.trans x811) o12 lX
      have t12 := app_tabs o12 hl11 (t9.ext (s10.trans s11))
      have hS12 := Pz.ds o12 hl11 (hS8.xn x811) lF
      have g1 := z812.st _ _ b1
      have g4 := z812.st _ _ b4
      have g6 := (Pz.app (K := K) o12 hl11).st _ _ (stO h11)
      clear z812 b1 b4 x811 t9 s10 s11 x9 h11 hS8 x08 t8 e8 e11 hl11 o12 n3
      walk_at "go"
      refine e_lamV t12 fun H13 x13 t13 => ?_
      walk_at "go"
      refine .inr ⟨p, rfl, ⟨F, S, xs, hS12.xn x13, rest⟩, fun H14 s14 => ⟨rfl, rfl, fun c4 n4' => ?_⟩⟩
      obtain ⟨H15, e15, s15, h15⟩ := new_tup (xs := [.str "disk", .non]) n4'
      rw [← e15]
      have x1215 := x13.trans (xn_same (s14.trans s15))
      have hl15 := x1215 _ _ e12 (fun ps z => by cases z)
      walk_at "go"
      refine r_app hl15 (by simp) fun H16 o16 e16 => ?_
      have z16 : Pz K l H12 H16 := (Pz.xn x1215).trans (Pz.app o16 hl15)
      walk_at "go"
      refine k l H16 (app_xn (x012.trans x1215) o16 lX) (app_tabs o16 hl15 (t13.ext (s14.trans s15))) ⟨[c1, c2, c3, c4], e16, rfl, fun t m => ?_⟩
      simp only [List.mem_cons, List.not_mem_nil, or_false] at m
      rcases m with rfl | rfl | rfl | rfl
      · exact z16.st _ _ g1
      · exact z16.st _ _ g4
      · exact z16.st _ _ g6
      · exact (Pz.app (K := K) o16 hl15).st _ _ (stO h15)
end



section
variable {P : Program} {w : World} {K : PySem.W.Frag} {mg : Str → Option Value} {base : Heap}
/-! ### the law -/
theorem fm_lies {b r : Nat} {ns : List Int} (W : Wt (SD.fm b r) ns) (h4 : 4 ≤ r) (h8 : r + 8 ≤ b) (h6 : b ≤ 600) : (SD.forceL ns (SD.fm b r)).1.pw = none ∧ (SD.forceL ns (SD.fm b r)).1.lies.length = b ∧ (∀ x, (SD.forceL ns (SD.fm b r)).1.rows x = []) ∧ (SD.forceL ns (SD.fm b r)).1.Ok ∧
    (SD.forceL ns (SD.fm b r)).1.shows 0 = some (Mst.ct (fmM r)) ∧ (∀ j, j < r → (SD.forceL ns (SD.fm b r)).1.shows ((1 + j : Nat) : Int) = some []) ∧ (SD.forceL ns (SD.fm b r)).1.shows ((r + 1 : Nat) : Int) = some metaC := by
  have ln : (SD.new b).lies.length = b := by show (List.replicate b _).length = b; rw [List.length_replicate]
  have ok0 : (SD.fm b r).Ok := by
    unfold SD.fm
    refine SD.wrote_ok (SD.wrote_ok (SD.new_ok h6) (by omega) (by omega) (mst_ok ⟨Nat.zero_le _, by show r ≤ _; omega, Nat.zero_le _, Nat.zero_le _, Nat.zero_le _⟩)) (by omega) ?_ meta_ok
    show (r : Int) + 1 < ((SD.new b).lies.length : Nat)
    omega
  have a := forceL_after (ns := ns) ok0 rfl
  refine ⟨a.pw, a.ln.trans ln, calm_rows W rfl, a.ok, ?_, fun j hj => ?_, ?_⟩
  · rw [a.sh 0 (by omega)]
    unfold SD.fm
    rw [shows_wrote, if_neg (by omega), shows_wrote, if_pos rfl]
  · rw [a.sh _ (by omega)]
    unfold SD.fm
    rw [shows_wrote, if_neg (by omega), shows_wrote, if_neg (by omega), shows_lies rfl]
    show (List.replicate b ([] : Ct))[(((1 + j : Nat) : Int)).toNat]? = _
    rw [List.getElem?_replicate, if_pos (by omega)]
  · rw [a.sh _ (by omega)]
    unfold SD.fm
    rw [shows_wrote, if_pos (by omega)]
/-- blocks of a formatted disk with another first one -/
structure Fm (S : SD) (b r : Nat) (c : Ct) : Prop where
  pw : S.pw = none
  ln : S.lies.length = b
  rows : ∀ x, S.rows x = []
  ok : S.Ok
  c0 : S.lies[0]? = some c
  rg : ∀ j, j < r → S.lies[1 + j]? = some []
  mt : S.lies[r + 1]? = some metaC
theorem fm_new {b r : Nat} {ns : List Int} (W : Wt (SD.fm b r) ns) (h4 : 4 ≤ r) (h8 : r + 8 ≤ b) (h6 : b ≤ 600) : Fm (SD.forceL ns (SD.fm b r)).1 b r (Mst.ct (fmM r)) := by
  obtain ⟨h1, h2, h3, h4', h5, h6', h7⟩ := fm_lies W h4 h8 h6
  refine ⟨h1, h2, h3, h4', ?_, fun j hj => ?_, ?_⟩
  · rw [← h5, shows_lies (h3 _)]; rfl
  · rw [← h6' j hj, shows_lies (h3 _)]; rfl
  · rw [← h7, shows_lies (h3 _)]; rfl
theorem Fm.other {S : SD} {b r : Nat} {c c' : Ct} {ns : List Int} (f : Fm S b r c) (ok : (S.wrote 0 c').Ok) (W : Wt (S.wrote 0 c') ns) : Fm (SD.forceL ns (S.wrote 0 c')).1 b r c' := by
  have pw : (S.wrote 0 c').pw = none := f.pw
  have a := forceL_after (ns := ns) ok pw
  have rr := calm_rows W pw
  have sx : ∀ n : Nat, (SD.forceL ns (S.wrote 0 c')).1.lies[n]? = if n = 0 then some c' else S.lies[n]? := fun n => by
    have e1 : (SD.forceL ns (S.wrote 0 c')).1.shows (n : Int) = (SD.forceL ns (S.wrote 0 c')).1.lies[n]? := by rw [shows_lies (rr _)]; rfl
    rw [← e1, a.sh _ (by omega), shows_wrote]
    by_cases z : n = 0
    · rw [if_pos z, if_pos (by omega)]
    · rw [if_neg z, if_neg (by omega), shows_lies (f.rows _)]; rfl
  refine ⟨a.pw, a.ln.trans f.ln, rr, a.ok, (sx 0).trans (if_pos rfl), fun j hj => ?_, ?_⟩
  · rw [sx, if_neg (by omega)]; exact f.rg j hj
  · rw [sx, if_neg (by omega)]; exact f.mt
theorem wt_one {S : SD} {c : Ct} {ns : List Int} (h : ∀ x, S.rows x = []) (W : Wt (S.wrote 0 c) ns) : ns = [0] := by
  have m : ∀ b, b ∈ ns ↔ b = 0 := fun b => (W.mem b).trans ⟨fun z => by
    refine Classical.byContradiction fun n => z ?_
    show (if b = 0 then S.rows 0 ++ [c] else S.rows b) = []
    rw [if_neg n]; exact h b, fun e => by
    subst e
    show (if (0 : Int) = 0 then S.rows 0 ++ [c] else S.rows 0) ≠ []
    rw [if_pos rfl]; simp⟩
  have asc := W.asc
  cases ns with
  | nil => exact absurd ((m 0).mpr rfl) (by simp)
  | cons x xs =>
    obtain rfl := (m x).mp (by simp)
    cases xs with
    | nil => rfl
    | cons y ys =>
      have := (m y).mp (by simp)
      have := (List.pairwise_cons.mp asc).1 y (by simp)
      omega
theorem e_dispV {i : Int} {tv : TE} {σ : L2.St} {H : Hp} {Q : VK} (q : ∀ p, H p = none → tv σ (upd H p (.dK [])) fun v H2 => H2 p = some (.dK []) ∧ ∃ kvs : List (Key × V), [(V.int i, v)] = kvs.map (fun kv => (kV kv.1, kv.2)) ∧ kvs.length ≤ 15 ∧ Q (.ref p) (upd H2 p (.dK (mergeK [] kvs)))) : tDisp [(tC (.int i), tv)] σ H Q := fun p n => q p n
theorem o_timesL {a : Addr} {n : Nat} {xs : List V} {H : Hp} {Q : VK} (h : H a = some (.lst xs)) (l : n * xs.length ≤ 10000 ∧ n ≤ 10000) (q : ∀ p H2, H p = none → Same H H2 → H2 p = some (.lst (List.replicate n xs).flatten) → Q (.ref p) H2) : rTimesL (.ref a) (.int n) H Q := ⟨a, n, xs, rfl, rfl, h, l.1, l.2, fun p np => q p _ np (Same.new np) upd_same⟩
/-- what is due, none of it among what may change -/
def ResF (K : PySem.W.Frag) (H : Hp) (F : List Addr) (l : Addr) : Prop := ∃ t1 t2 t3 t4 d m l2 d3, H l = some (.lst ([t1, t2, t3, t4].map V.ref)) ∧ SqT K H t1 [.str "told", .ref d] ∧ H d = some (.dK [((Sum.inl 0 : Key), V.ref m)]) ∧ SqT K H m (metaT (-1) 1 0 0) ∧ SqT K H t2 [.str "told", .ref l2] ∧ H l2 = some (.lst []) ∧ SqT K H t3 [.str "told", .ref d3] ∧ H d3 = some (.dK []) ∧ SqT K H t4 [.str "told", .int 0] ∧ l ∉ F ∧ d ∉ F ∧ l2 ∉ F ∧ d3 ∉ F
theorem ResF.res {H : Hp} {F : List Addr} {l : Addr} (h : ResF K H F l) : ResL K H true l := by
  obtain ⟨t1, t2, t3, t4, d, m, l2, d3, e, a1, a2, a3, a4, a5, a6, a7, a8, _⟩ := h
  exact ⟨_, e, t1, t2, t3, t4, d, m, l2, d3, rfl, a1, a2, a3, a4, a5, a6, a7, a8⟩
theorem ResF.xn {H H' : Hp} {F : List Addr} {l : Addr} (h : ResF K H F l) (x : LamX.ExtN H H') : ResF K H' F l := by
  obtain ⟨t1, t2, t3, t4, d, m, l2, d3, e, a1, a2, a3, a4, a5, a6, a7, a8, n⟩ := h
  exact ⟨t1, t2, t3, t4, d, m, l2, d3, x _ _ e (fun ps z => by cases z), xn_st x a1, x _ _ a2 (fun ps z => by cases z), xn_st x a3, xn_st x a4, x _ _ a5 (fun ps z => by cases z), xn_st x a6, x _ _ a7 (fun ps z => by cases z), xn_st x a8, n⟩
theorem ResF.ch {H H' : Hp} {F : List Addr} {l : Addr} (h : ResF K H F l) (c : Ch F H H') : ResF K H' F l := by
  obtain ⟨t1, t2, t3, t4, d, m, l2, d3, e, a1, a2, a3, a4, a5, a6, a7, a8, n1, n2, n3, n4⟩ := h
  exact ⟨t1, t2, t3, t4, d, m, l2, d3, c.at_ n1 e, c.st a1, c.at_ n2 a2, c.st a3, c.st a4, c.at_ n3 a5, c.st a6, c.at_ n4 a7, c.st a8, n1, n2, n3, n4⟩
theorem few_one {S : SD} {c : Ct} (h : ∀ x, S.rows x = []) : Few (S.wrote 0 c) := ⟨[0], by decide, fun b hb => by
  refine Classical.byContradiction fun n => hb ?_
  show (if b = 0 then S.rows 0 ++ [c] else S.rows b) = []
  rw [if_neg (fun z => n (by rw [z]; simp))]; exact h b⟩
theorem wait_one {S : SD} {c : Ct} (h : ∀ x, S.rows x = []) : waitKvs (S.wrote 0 c) [0] = [((Sum.inl 0 : Key), V.int 1)] := by
  show [((Sum.inl 0 : Key), V.int (((if (0 : Int) = 0 then S.rows 0 ++ [c] else S.rows 0).length : Nat)))] = _
  rw [if_pos rfl, h 0]; rfl
def sp_law (K : PySem.W.Frag) (TL : List (Addr × Str)) : Sp := fun vs H Q _ => ∃ (a : Addr) (ns : List Int), vs = [.ref a] ∧ SqL K H a (ns.map V.int) ∧ ns.length ≤ 63 ∧ (∀ p ∈ TL, H p.1 = some (.tbl #[])) ∧ ∀ H', Q (.bl true) H'
theorem ok_law (F : Fun K "law" "law" s_law f fd) (T : Txt K mg) (B_law_asked : LamX.TabB base mg T.law_asked.c T.law_asked.P) : FnOk P w K mg base CX0 17 f fd ["script"] ((sp_law K (tabsL T))) := by
  refine F.ok sc_law (fun vs H Q E h => ?_) (fun cdv A outer s H vs Q E hr h => ?_)
  · obtain ⟨a, ns, rfl, _⟩ := h
    rfl
  · obtain ⟨a, ns0, rfl, hS, hl, hP, k⟩ := h
    refine ⟨_, (pss_cons (ps_set (i := 1) sc_law.nd rfl (Or.inl rfl) (pe_call (ok_law_tape T) (hr.mono (by decide)) (by rfl) T.law_tape.g T.law_tape.F.kp T.law_tape.b .nil pass0 (pa_cons (pv 0) pa_nil)))
    (pss_cons (ps_for PassesOwn.never rfl (pi_range1 (by rfl) T.z_range (pa_cons pe_int pa_nil)) (pg_name (i := 2) sc_law.nd rfl (Or.inl rfl))
      (pss_cons (ps_set (i := 3) sc_law.nd rfl (Or.inl rfl) (pe_op oAdd pe_int (pe_call (ok_law_any T) (hr.mono (by decide)) (by rfl) T.law_any.g T.law_any.F.kp T.law_any.b .nil pass0 (pa_cons (pv 1) (pa_cons (pe_lst (pa_cons pe_int (pa_cons pe_int (pa_cons pe_int (pa_cons pe_int (pa_cons pe_int (pa_cons (pe_call (ok_law_pick T) (hr.mono (by decide)) (by rfl) T.law_pick.g T.law_pick.F.kp T.law_pick.b .nil pass0 (pa_cons (pv 1) (pa_cons pe_int pa_nil))) pa_nil))))))) pa_nil)))))
    (pss_cons (ps_set (i := 4) sc_law.nd rfl (Or.inl rfl) (pe_op oAdd pe_int (pe_call (ok_law_pick T) (hr.mono (by decide)) (by rfl) T.law_pick.g T.law_pick.F.kp T.law_pick.b .nil pass0 (pa_cons (pv 1) (pa_cons (pe_op op_sub (pv 3) pe_int) pa_nil)))))
    (pss_cons (ps_set (i := 5) sc_law.nd rfl (Or.inl rfl) (pe_call (ok_formatted T) (hr.mono (by decide)) (by rfl) T.formatted.g T.formatted.F.kp T.formatted.b .nil passL (pa_cons (pv 3) (pa_cons (pv 4) pa_nil))))
    (pss_cons (ps_asg (pe_call (ok_law_master T) (hr.mono (by decide)) (by rfl) T.law_master.g T.law_master.F.kp T.law_master.b .nil pass0 (pa_cons (pv 1) (pa_cons (pv 3) (pa_cons (pv 4) pa_nil)))) (pgTup (K := K) (n := 2) (pg_tup (n := 2) rfl (pgs_cons (pg_name (i := 6) sc_law.nd rfl (Or.inl rfl)) (pgs_cons (pg_name (i := 7) sc_law.nd rfl (Or.inl rfl)) pgs_nil)))))
    (pss_cons (ps_expr (pe_meth (pv 5) T.k_Disk.cl T.m_Disk_write.i (ok_Disk_write T) (hr.mono (by decide)) T.m_Disk_write.b .nil pass0 (pa_cons pe_int (pa_cons (pv 6) pa_nil))))
    (pss_cons (ps_set (i := 8) sc_law.nd rfl (Or.inl rfl) (pe_lst (pa_cons (pe_tup (pa_cons pe_str (pa_cons (pe_disp (pps_cons pe_int (pe_tup (pa_cons pe_str (pa_cons (pe_un un_neg pe_int) (pa_cons pe_int (pa_cons pe_int (pa_cons pe_int pa_nil)))))) pps_nil) (by rfl) (by rfl) (fun z => by cases z) (by decide)) pa_nil))) (pa_cons (pe_tup (pa_cons pe_str (pa_cons (pe_lst pa_nil) pa_nil))) (pa_cons (pe_tup (pa_cons pe_str (pa_cons pe_dnewK pa_nil))) (pa_cons (pe_tup (pa_cons pe_str (pa_cons pe_int pa_nil))) pa_nil))))))
    (pss_cons (ps_if (PW.pt (pw_or (pt_cmpR (oNeX (K := K) hr.units) (pe_call (ok_law_asked T B_law_asked) (hr.mono (by decide)) (by rfl) T.law_asked.g T.law_asked.F.kp T.law_asked.b .nil pass0 (pa_cons (pv 5) pa_nil)) (pv 8) (nomark _)) (pw_or1 (pt_cmpR (op_ne_dictA (Nat.lt_of_le_of_lt (Nat.le_add_right _ 64) hr.units)) (pe_meth0 (pv 5) T.k_Disk.cl T.m_Disk_waiting.i (ok_Disk_waiting T) (hr.mono (by decide)) T.m_Disk_waiting.b .nil pass0) (pe_disp (pps_cons pe_int pe_int pps_nil) (by rfl) (by rfl) (fun z => by cases z) (by decide)) (nomark _))))) (pss_one (ps_ret pe_bl)) pss_nil)
    (pss_cons (ps_expr (pe_meth0 (pv 5) T.k_Disk.cl T.m_Disk_calm.i (ok_Disk_calm T) (hr.mono (by decide)) T.m_Disk_calm.b .nil passL))
    (pss_one (ps_if (PW.pt (pw_or (pt_cmpR (oNeX (K := K) hr.units) (pe_call (ok_law_asked T B_law_asked) (hr.mono (by decide)) (by rfl) T.law_asked.g T.law_asked.F.kp T.law_asked.b .nil pass0 (pa_cons (pv 5) pa_nil)) (pe_ifExp (ptTruth (K := K) (pv 7) (by intro _; rfl)) (pv 8) (pe_op oTimesL (pe_lst (pa_cons (pe_tup (pa_cons pe_str (pa_cons pe_non pa_nil))) pa_nil)) pe_int)) (nomark _)) (pw_or1 (pt_cmpR (oNe (K := K) hr.units) (pe_meth (pv 5) T.k_Disk.cl T.m_Disk_lying.i (ok_Disk_lying T) (hr.mono (by decide)) T.m_Disk_lying.b .nil pass0 (pa_cons pe_int pa_nil)) (pv 6) (nomark _))))) (pss_one (ps_ret pe_bl)) pss_nil)))))))))))
    (pss_one (ps_ret (pe_cmpR (oEqX (K := K) hr.units) (pe_call (ok_law_asked T B_law_asked) (hr.mono (by decide)) (by rfl) T.law_asked.g T.law_asked.F.kp T.law_asked.b .nil pass0 (pa_cons (pe_make (T.m_Disk_init.made T.k_Disk) (ok_Disk_init T) (hr.mono (by decide)) (by rfl) T.k_Disk.g T.m_Disk_init.b .nil passL (pa_cons (pe_op oAdd pe_int (pe_call (ok_law_pick T) (hr.mono (by decide)) (by rfl) T.law_pick.g T.law_pick.F.kp T.law_pick.b .nil pass0 (pa_cons (pv 1) (pa_cons pe_int pa_nil)))) pa_nil)) pa_nil)) (pe_op oTimesL (pe_lst (pa_cons (pe_tup (pa_cons pe_str (pa_cons pe_non pa_nil))) pa_nil)) pe_int) (nomark _)))))), ?_⟩
    walk_at "go"
    refine ⟨a, ns0, rfl, hS, hl, fun B H1 nB s1 b1 => ?_⟩
    have tb1 : LamX.Tabs (tabsL T) H1 := fun pp hpp => LamX.TabS.nil (s1 _ _ (hP pp hpp))
    walk_at "go"
    refine i_rng 4 rfl (by decide) (by decide) ?_
    refine l_rng (fun i σ2 H2 => ∃ y2 y3 y4 y5 y6 y7 y8, σ2 = [some (.ref a), some (.ref B.hd), y2, y3, y4, y5, y6, y7, y8] ∧ BagAt K H2 B ∧ LamX.Tabs (tabsL T) H2) ⟨_, _, _, _, _, _, _, rfl, b1, tb1⟩ (fun σ2 H2 z => ?_) (fun i σ2 H2 hi z => ?_)
    · obtain ⟨y2, y3, y4, y5, y6, y7, y8, rfl, b2, tb2⟩ := z
      walk_at "go"
      refine e_make ?_
      walk_at "go"
      refine ⟨B, 9, rfl, b2, by omega, by omega, fun d H3 d0 d1 s3 => ?_⟩
      obtain ⟨nb, rfl, hb0, hb1⟩ : ∃ nb : Nat, d = (nb : Int) - 16 ∧ 16 ≤ nb ∧ nb ≤ 600 := ⟨(16 + d).toNat, by omega, by omega, by omega⟩
      have t3 := (s3.ch b2).tabs tb2
      walk_at "go"
      rw [show (16 + ((nb : Int) - 16)) = (nb : Int) by omega]
      intro p dx np ndx npd
      show sp_disk_init K T.C_Disk T.e_BadDisk.C [.ref p, .int nb] _ _ _
      have hq5 : upd (upd H3 dx (.own p)) p (.ins T.C_Disk dx []) p = some (.ins T.C_Disk dx []) := upd_same
      obtain ⟨s5, f5⟩ := made5 (C := T.C_Disk) np ndx
      generalize upd (upd H3 dx (.own p)) p (.ins T.C_Disk dx []) = H5 at *
      refine w_init ⟨dx, hq5⟩ hb0 hb1 fun F H6 d6 but6 f6 => ⟨rfl, ?_⟩
      have s6 : Same H3 H6 := fun x o e => but6 x o (by rw [List.mem_singleton]; exact ne_of_none e np) (s5 x o e)
      walk_at "go"
      refine ⟨p, false, rfl, t3.ext s6, ⟨F, _, [], d6, by show 16 ≤ (List.replicate nb ([] : Ct)).length; rw [List.length_replicate]; exact hb0, by show (List.replicate nb ([] : Ct))[0]? = _; rw [List.getElem?_replicate, if_pos (by omega)], rfl⟩, fun l H7 x7 t7 r7 => ?_⟩
      walk_at "go"
      refine n_new (le_size (by simp)) fun c8 H8 n8 s8 h8 => ?_
      walk_at "go"
      refine n_new (le_size (by simp)) fun l9 H9 n9 s9 h9 => ?_
      walk_at "go"
      refine o_timesL (n := 4) h9 ⟨by show 4 * 1 ≤ 10000; decide, by decide⟩ fun l10 H10 n10 s10 h10 => ?_
      obtain ⟨ts, e1, r1⟩ := r7.same (s8.trans (s9.trans s10))
      refine ⟨l, l10, _, _, rfl, rfl, slO e1, slO (xs := [c8, c8, c8, c8].map V.ref) h10, res_eq r1 ⟨rfl, fun t m => ?_⟩, k _⟩
      have : t = c8 := by
        simp only [List.mem_cons, List.not_mem_nil, or_false, or_self] at m
        exact m
      rw [this]; exact stO ((s9.trans s10) _ _ h8)
    · obtain ⟨y2, y3, y4, y5, y6, y7, y8, rfl, b2, tb2⟩ := z
      clear b1 tb1 hP hS s1 nB
      walk_at "go"
      refine ⟨B, 50, rfl, b2, by omega, by omega, fun d H3 d0 d1 s3 => ?_⟩
      walk_at "go"
      refine n_new (le_size (by simp)) fun l4 H4 n4 s4 h4 => ?_
      have b3 := s3.b
      walk_at "go"
      refine ⟨B, l4, _, rfl, bag_same b3 s4, slO h4, new_ne b3 n4, by show 0 < 6; decide, by show 6 < 100000; decide, fun x5 H5 m5 s5 => ?_⟩
      obtain ⟨nb, en, hb0, hb1⟩ : ∃ nb : Nat, x5 = .int ((nb : Int) - 16) ∧ 16 ≤ nb ∧ nb ≤ 600 := by
        simp only [List.mem_cons, List.not_mem_nil, or_false] at m5
        rcases m5 with rfl | rfl | rfl | rfl | rfl | rfl
        · exact ⟨16, rfl, by decide, by decide⟩
        · exact ⟨17, rfl, by decide, by decide⟩
        · exact ⟨26, rfl, by decide, by decide⟩
        · exact ⟨116, rfl, by decide, by decide⟩
        · exact ⟨600, rfl, by decide, by decide⟩
        · exact ⟨(16 + d).toNat, congrArg V.int (by omega), by omega, by omega⟩
      subst en
      have t5 := (s5.ch (bag_same b3 s4)).tabs (((s3.ch b2).tabs tb2).ext s4)
      have b5 := s5.b
      clear s5 s4 s3 h4 n4 m5 b3 b2 tb2 d0 d1
      walk_at "go"
      rw [show (16 + ((nb : Int) - 16)) = (nb : Int) by omega]
      refine ⟨B, (nb : Int) - 11, rfl, b5, by omega, by omega, fun e H6 e0 e1 s6 => ?_⟩
      obtain ⟨r, rfl, hr0, hr1⟩ : ∃ r : Nat, e = (r : Int) - 4 ∧ 4 ≤ r ∧ r + 8 ≤ nb := ⟨(e + 4).toNat, by omega, by omega, by omega⟩
      have t6 := (s6.ch b5).tabs t5
      have b6 := s6.b
      walk_at "go"
      rw [show (4 + ((r : Int) - 4)) = (r : Int) by omega]
      refine .inl ⟨nb, r, rfl, hb0, hb1, hr0, hr1, fun p F H7 ns W d7 s7 f7 => ?_⟩
      have fm0 := fm_new W hr0 hr1 hb1
      generalize (SD.forceL ns (SD.fm nb r)).1 = S0 at *
      have b7 := bag_same b6 s7
      have t7 := t6.ext s7
      have pB : ∀ x ∈ F, x ≠ B.hd := fun x m => new_ne b6 (f7 x m)
      clear s6 b5 t5 e0 e1 t6
      walk_at "go"
      refine ⟨B, nb, r, rfl, b7, hb0, hb1, hr0, hr1, fun t ca c rt H8 ht hc out s8 => ?_⟩
      have d8 := d7.ch (s8.ch b7) fun x m z => pB x m (List.mem_singleton.mp z)
      have t8 := (s8.ch b7).tabs t7
      have b8 := s8.b
      refine g_pairS ht ?_
      clear d7 s8 t7 b7 ht
      obtain ⟨fs8, hdo8, no8⟩ := ins_of_ds d8
      walk_at "go"
      refine m_call0 hdo8 (no8 _ (by decide +kernel)) ?_
      walk_at "go"
      refine w_write (xs := c) d8 (fun x => by rw [fm0.rows]; decide) (by omega) (by rw [fm0.ln]; omega) hc out.1 fun F9 H9 d9 c9 f9 => ?_
      have b9 := bag_ch b6 b8 c9 f7
      obtain ⟨A0, b0, nF9⟩ : ∃ A0, BagAt K A0 B ∧ ∀ x ∈ F9, A0 x = none := by
        refine ⟨fun y => if H8 y = none then none else H6 y, ?_, fun x hx => ?_⟩
        · obtain ⟨i1, g1, x1, cc1, z1, z2, z3⟩ := b6
          obtain ⟨_, _, _, _, w1, w2, _⟩ := b8
          exact ⟨i1, g1, x1, cc1, (if_neg (by rw [w1]; simp)).trans z1, (if_neg (by rw [w2]; simp)).trans z2, z3⟩
        · show (if H8 x = none then none else H6 x) = none
          split
          · rfl
          · next n => exact (f9 x hx).elim (f7 x) (fun z => absurd z n)
      have t9 := c9.tabs t8
      have hc9 := c9.st hc
      clear c9 t8 hc hdo8 no8
      walk_at "go"
      refine e_dispV fun dd n10 => ?_
      walk_at "go"
      refine n_new (le_size (by simp)) fun m H11 n11 s11 h11 => ?_
      have hd11 := s11 _ _ (upd_same (H := H9) (a := dd) (o := .dK []))
      refine ⟨hd11, [(Sum.inl 0, .ref m)], rfl, by show 1 ≤ 15; decide, ?_⟩
      have hd12 : upd H11 dd (.dK [((Sum.inl 0 : Key), V.ref m)]) dd = some (.dK [((Sum.inl 0 : Key), V.ref m)]) := upd_same
      have nmd : m ≠ dd := fun z => by rw [z, upd_same] at n11; cases n11
      have hm12 : SqT K (upd H11 dd (.dK [((Sum.inl 0 : Key), V.ref m)])) m (metaT (-1) 1 0 0) := stO ((upd_ne nmd).trans h11)
      have s12 : Same H9 (upd H11 dd (.dK [((Sum.inl 0 : Key), V.ref m)])) := fun b o h => by
        have nb' := ne_of_none h n10
        rw [upd_ne nb']
        exact s11 _ _ (by rw [upd_ne nb']; exact h)
      show tNil _ (upd H11 dd (.dK [((Sum.inl 0 : Key), V.ref m)])) _
      generalize upd H11 dd (.dK [((Sum.inl 0 : Key), V.ref m)]) = H12 at *
      clear n11 s11 h11 hd11
      walk_at "go"
      refine n_new (le_size (by simp)) fun c1 H13 n13 s13 h13 => ?_
      walk_at "go"
      refine n_new (le_size (by simp)) fun l2 H14 n14 s14 h14 => ?_
      walk_at "go"
      refine n_new (le_size (by simp)) fun c2 H15 n15 s15 h15 => ?_
      walk_at "go"
      refine e_dnew fun d3 H16 n16 s16 h16 => ?_
      walk_at "go"
      refine n_new (le_size (by simp)) fun c3 H17 n17 s17 h17 => ?_
      walk_at "go"
      refine n_new (le_size (by simp)) fun c4 H18 n18 s18 h18 => ?_
      walk_at "go"
      refine n_new (le_size (by simp)) fun du H19 n19 s19 h19 => ?_
      have u18 := s18.trans s19
      have u17 := s17.trans u18
      have u16 := s16.trans u17
      have u15 := s15.trans u16
      have u14 := s14.trans u15
      have u13 := s13.trans u14
      have e9 : ∀ {x : Addr}, H12 x = none → x ∉ F9 := fun {x} n m => (d9.same s12).there x m n
      have due19 : ResF K H19 F9 du := ⟨c1, c2, c3, c4, dd, m, l2, d3, h19, stO (u14 _ _ h13), u13 _ _ hd12, st_ u13 hm12, stO (u16 _ _ h15), u15 _ _ h14, stO (u18 _ _ h17), u17 _ _ h16, stO (s19 _ _ h18), e9 (free_ (s13.trans (s14.trans (s15.trans (s16.trans (s17.trans s18))))) n19), fun z => d9.there _ z n10, e9 (free_ s13 n14), e9 (free_ (s13.trans (s14.trans s15)) n16)⟩
      have u9 := s12.trans u13
      have d19 := d9.same u9
      have b19 := bag_same b9 u9
      have t19 := t9.ext u9
      have hc19 := st_ u9 hc9
      clear u13 u14 u15 u16 u17 u18 s12 s13 s14 s15 s16 s17 s18 s19 h13 h14 h15 h16 h17 h18 h19 hd12 hm12 n13 n14 n15 n16 n17 n18 n19 n10 nmd d9 b9 t9 hc9 e9
      walk_at "go"
      refine ⟨p, true, rfl, t19, ⟨fmM r, F9, _, d19, ⟨hr0, by show r + 8 ≤ S0.lies.length; rw [fm0.ln]; exact hr1, by show 16 ≤ S0.lies.length; rw [fm0.ln]; exact hb0, fm0.c0, fm0.rg, fm0.mt⟩, by show 0 ≤ _; omega, by show 0 ≤ _; omega, by show 0 ≤ _; omega, by show 0 ≤ _; omega⟩, fun l20 H20 x20 t20 res20 => ?_⟩
      have due20 := due19.xn x20
      have d20 := d19.xn x20
      have b20 := bag_xn x20 b19
      have hc20 := xn_st x20 hc19
      clear due19 d19 b19 hc19 t19 u9 x20
      walk_at "go"
      obtain ⟨ts, e1, r1⟩ := res20
      obtain ⟨us, e2, r2⟩ := due20.res
      refine ⟨l20, du, _, _, rfl, rfl, slO e1, slO e2, res_eq r1 r2, ?_⟩
      clear e1 r1 e2 r2
      obtain ⟨fs20, hdo20, no20⟩ := ins_of_ds d20
      walk_at "go"
      refine m_call0 hdo20 (no20 _ (by decide +kernel)) ?_
      walk_at "go"
      refine ⟨p, F9, _, rfl, d20, few_one fm0.rows, fun x => ?_, fun nsw q H21 W21 s21 n21 h21 => ?_⟩
      · show (if x = 0 then S0.rows 0 ++ [c] else S0.rows x).length < 1000
        rw [fm0.rows, fm0.rows]
        split <;> simp
      rw [wt_one fm0.rows W21, wait_one fm0.rows] at h21
      walk_at "go"
      refine e_disp1 fun dw H22 n22 s22 h22 => ?_
      refine ⟨q, dw, _, _, rfl, rfl, s22 _ _ h21, h22, rfl, fun pr hp => by rw [List.mem_singleton.mp hp]; exact ⟨rfl, rfl⟩, ?_⟩
      have s2022 := s21.trans s22
      have d22 := d20.same s2022
      obtain ⟨fs22, hdo22, no22⟩ := ins_of_ds d22
      have due22 := due20.xn (xn_same s2022)
      have b22 := bag_same b20 s2022
      have t22 := t20.ext s2022
      have hc22 := st_ s2022 hc20
      clear d20 due20 b20 t20 hc20 s21 s22 s2022 h21 h22 n21 n22 hdo20 no20 W21
      walk_at "go"
      refine m_call0 hdo22 (no22 _ (by decide +kernel)) ?_
      walk_at "go"
      refine ⟨p, F9, _, rfl, d22, few_one fm0.rows, fun nsc Wc H23 F23 d23 c23 f23 => ?_⟩
      rw [if_pos (SD.forceL_true nsc (S0.wrote 0 c) fm0.pw).1]
      have okc : (S0.wrote 0 c).Ok := by
        obtain ⟨D, _, _, v⟩ := d22
        exact v.ok
      have fm1 := fm0.other okc Wc
      generalize (SD.forceL nsc (S0.wrote 0 c)).1 = S2 at *
      have b23 := bag_ch b0 b22 c23 nF9
      have t23 := c23.tabs t22
      have hc23 := c23.st hc22
      have due23 := due22.ch c23
      clear d22 due22 b22 t22 hc22 c23 f23 hdo22 no22 b0 nF9
      have lem : AskD K T.C_Disk H23 p rt := by
        cases rt with
        | true =>
          obtain ⟨M, rfl, rfl, m1, m2, m3, m4⟩ : ∃ M : Mst, c = M.ct ∧ M.r = r ∧ M.k ≤ 1000 ∧ M.e ≤ 100000000000000000000 ∧ M.m ≤ 1000 ∧ M.f ≤ 1000 := by
            have := out.2
            rwa [if_pos rfl] at this
          exact ⟨M, F23, S2, d23, ⟨hr0, by rw [fm1.ln]; exact hr1, by rw [fm1.ln]; exact hb0, fm1.c0, fm1.rg, fm1.mt⟩, by omega, by omega, by omega, by omega⟩
        | false =>
          have := out.2
          rw [if_neg (by decide)] at this
          exact ⟨F23, S2, c, d23, by rw [fm1.ln]; exact hb0, fm1.c0, by rw [fm1.ln]; exact this⟩
      walk_at "go"
      refine ⟨p, rt, rfl, t23, lem, fun l24 H24 x24 t24 res24 => ?_⟩
      have due24 := due23.xn x24
      have b24 := bag_xn x24 b23
      have hc24 := xn_st x24 hc23
      have d24 := d23.xn x24
      clear due23 b23 hc23 d23 x24 t23 lem
      cases rt with
      | true =>
        walk_at "go"
        obtain ⟨ts, e1, r1⟩ := res24
        obtain ⟨us, e2, r2⟩ := due24.res
        refine ⟨l24, du, _, _, rfl, rfl, slO e1, slO e2, res_eq r1 r2, ?_⟩
        obtain ⟨fs24, hdo24, no24⟩ := ins_of_ds d24
        walk_at "go"
        refine m_call0 hdo24 (no24 _ (by decide +kernel)) ?_
        walk_at "go"
        refine w_lying d24 (by omega) fm1.c0 fun cl hcl => ?_
        walk_at "go"
        refine o_neA hcl hc24 out.1 out.1 fun z hz => ?_
        rw [hz rfl]
        walk_at "go"
        exact ⟨_, _, _, _, _, _, _, rfl, b24, t24⟩
      | false =>
        walk_at "go"
        refine n_new (le_size (by simp)) fun c25 H25 n25 s25 h25 => ?_
        walk_at "go"
        refine n_new (le_size (by simp)) fun l26 H26 n26 s26 h26 => ?_
        walk_at "go"
        refine o_timesL (n := 4) h26 ⟨by show 4 * 1 ≤ 10000; decide, by decide⟩ fun l27 H27 n27 s27 h27 => ?_
        have s2427 := s25.trans (s26.trans s27)
        have d27 := d24.same s2427
        have b27 := bag_same b24 s2427
        have t27 := t24.ext s2427
        have hc27 := st_ s2427 hc24
        obtain ⟨ts, e1, r1⟩ := res24.same s2427
        refine ⟨l24, l27, _, _, rfl, rfl, slO e1, slO (xs := [c25, c25, c25, c25].map V.ref) h27, res_eq r1 ⟨rfl, fun t m => ?_⟩, ?_⟩
        · have : t = c25 := by
            simp only [List.mem_cons, List.not_mem_nil, or_false, or_self] at m
            exact m
          rw [this]; exact stO ((s26.trans s27) _ _ h25)
        obtain ⟨fs27, hdo27, no27⟩ := ins_of_ds d27
        walk_at "go"
        refine m_call0 hdo27 (no27 _ (by decide +kernel)) ?_
        walk_at "go"
        refine w_lying d27 (by omega) fm1.c0 fun cl hcl => ?_
        walk_at "go"
        refine o_neA hcl hc27 out.1 out.1 fun z hz => ?_
        rw [hz rfl]
        walk_at "go"
        exact ⟨_, _, _, _, _, _, _, rfl, b27, t27⟩
end


end Vw

set_option Elab.async false
namespace Vw
open PySem PySem.Spec PyProof.Rows L2 RT
theorem tabIn_of {K : PySem.W.Frag} {x : Str} {f c P : Addr} {oc oc2 : Value} {od od2 : Option Addr} {fd : FuncData} {sl sl2 : Array (Option Value)} {vs : Array Value} (a : PySem.W.nsIn K mainGlobals x = some (some (.ref f))) (l : K.lookup f = some ⟨oc, od, .func fd, sl⟩) (e : fd.code = .ref c) (lc : K.lookup c = some ⟨oc2, od2, .fields vs, sl2⟩) (p : vs[11]? = some (.ref P)) : PySem.W.tabIn K x = some (c, P) := by
  unfold PySem.W.tabIn
  simp only [a, l, e, lc, p]
def defAtL_mk2 {K : PySem.W.Frag} {mg : Str → Option Value} {h : Heap} {x qual : Str} {st : Stmt} {ps : List Str} {f c P : Addr} {od an od2 : Option Addr} {sl sl2 : Array (Option Value)} {oc kV dc pm ct oc2 : Value} {vs : Array Value} (X : K.In h) (G : h.Ns mainGlobals mg)
    (a : PySem.W.nsIn K mainGlobals x = some (some (.ref f))) (l : K.lookup f = some ⟨oc, od, .func (PySem.W.fnOf x qual (defArgs st) (defBody st) (defScope st) .none kV dc pm an (.ref c) ct), sl⟩) (cc : PySem.W.codeIn K (.ref c) qual = true) (k : PySem.W.keepIn K (.ref f) = true)
    (lc : K.lookup c = some ⟨oc2, od2, .fields vs, sl2⟩) (p : vs[11]? = some (.ref P)) (nP : K.lookup P = none)
    (b : ∀ (kV doc pm : Value) (an : Option Addr) (cdv ct : Value) (us : List Value), us.length = ps.length → bindArgs (PySem.W.fnOf x qual (defArgs st) (defBody st) (defScope st) .none kV doc pm an cdv ct) ⟨us, []⟩ = pure (ps.zip us)) : DefAtL K mg x qual st ps :=
  defAtL_mk X G a l cc k (tabIn_of a l rfl lc p) nP b
def gRef_mk {K : PySem.W.Frag} {mg : Str → Option Value} {h : Heap} {x : Str} {C : Addr} (X : K.In h) (G : h.Ns mainGlobals mg) (a : PySem.W.nsIn K mainGlobals x = some (some (.ref C))) : { N : Addr // mg x = some (.ref N) } := ⟨C, PySem.W.mg_of X G a⟩
theorem law_mkL {l : PySem.W.OpenLaw} {q : Program} {w : World} {K : PySem.W.Frag} {h : Heap} {mg : Str → Option Value} {fa f : Addr} {od an : Option Addr} {sl : Array (Option Value)} {oc kV dc pm cd ct : Value} {e : DefRec} (X : K.In h) (G : h.Ns mainGlobals mg) (hfa : mg "law" = some (.ref fa))
    (tabs : ∀ (y : Str) (e : DefRec) (c P : Addr), (PyProof.Rows.recsOf q).find? (fun e => e.name == y) = some e → PySem.W.tabIn K y = some (c, P) → PySem.W.CodeHd h c P ∧ h.get? P = some { cls := .none, data := .fields #[] })
    (hrec : (PyProof.Rows.recsOf q).find? (fun e => e.name == ("_law_asked" : Str)) = some e)
    (a : PySem.W.nsIn K mainGlobals "law" = some (some (.ref f))) (lk : K.lookup f = some ⟨oc, od, .func (PySem.W.fnOf "law" "law" (defArgs s_law) (defBody s_law) (defScope s_law) .none kV dc pm an cd ct), sl⟩) (c : PySem.W.codeIn K cd "law" = true) (kp : PySem.W.keepIn K (.ref f) = true) (T : Txt K mg) :
    LamX.LawAtS l w K CX0 17 63 "script" mg fa h := by
  have e := hfa.symm.trans (PySem.W.mg_of X G a)
  cases e
  have F := fun_mk (st := s_law) lk c kp
  obtain ⟨t1, t2⟩ := tabs _ _ _ _ hrec T.law_asked.tb
  have one : ∀ {Z : Addr × Addr → Prop}, Z (T.law_asked.c, T.law_asked.P) → ∀ p ∈ [(T.law_asked.c, T.law_asked.P)], Z p := fun z p hp => by rw [List.mem_singleton.mp hp]; exact z
  exact ⟨PySem.W.fnOf "law" "law" (defArgs s_law) (defBody s_law) (defScope s_law) .none kV dc pm an cd ct, [(T.law_asked.c, T.law_asked.P)], sp_law K (tabsL T), one t2, one T.law_asked.nP, one t1, fun s v => .of_eq rfl,
    fun H a ns hl _ hH hS => ⟨a, ns, rfl, hS, hl, (fun p hp => by rw [List.mem_singleton.mp hp]; exact hH _ (.head _)), fun _ => rfl⟩, fun base _ _ hB => ok_law F T (hB _ (.head _))⟩
end Vw
open Lean in
local macro_rules
  | `(tactic| o_head $H:term) => `(tactic| o_headL $H)
open Lean in
local macro_rules
  | `(tactic| refine $f:ident $args*) => do
    if f.getId.eraseMacroScopes == `HeadRun.left_oneK then `(tactic| (
      refine HeadRun.left_oneKM $args* ?hp ?hq ?hloose ?hM ?hX ?rC ?rD
      (case hp => kernel_rfl)
      (case hq => kernel_rfl)
      (case hloose => kernel_rfl)
      (case hM => kernel_rfl)
      (case hX => kernel_rfl)
      (case rC => intro w os; kernel_rfl)
      (case rD => intro w os; kernel_rfl)))
    else Macro.throwUnsupported
open PySem PySem.W PyProof.Rows
set_option maxRecDepth 100000 in
set_option maxHeartbeats 0 in
theorem PySem.Challenge.cw_wholeways_k19_disks_that_mean_nothing_re_holds : PySem.Challenge.rw_wholeways_k19_disks_that_mean_nothing_re.Holds := by
  w_on; o_law; k_head; (case hw => w_witness2)
  k_fill
  refine Vw.walk_ofRecs (l := PySem.Challenge.rw_wholeways_k19_disks_that_mean_nothing_re) (n := 63) (k := 17) (x := "script") (CX := fun _ => L2.CX0) rfl (by decide) rfl ⟨rfl, by decide, by decide⟩ (fun w h Y => PySem.W.km_in_of Y) ?F (fun _ _ _ _ _ h => h)
  case F => as_aux_lemma =>
    intro w mg fa h _ KX G hmg tabs
    refine' Vw.law_mkL KX G hmg tabs rfl ?aL ?lL ?cL ?kL (T := {
      is_integer := (Vw.defAt_mk KX G ?a1 ?l1 ?c1 ?k1 (fun _ _ _ _ _ _ us hl => match us, hl with | [_], _ => rfl)),
      is_within := (Vw.defAt_mk KX G ?a2 ?l2 ?c2 ?k2 (fun _ _ _ _ _ _ us hl => match us, hl with | [_, _, _], _ => rfl)),
      is_number := (Vw.defAt_mk KX G ?a3 ?l3 ?c3 ?k3 (fun _ _ _ _ _ _ us hl => match us, hl with | [_], _ => rfl)),
      is_word := (Vw.defAt_mk KX G ?a4 ?l4 ?c4 ?k4 (fun _ _ _ _ _ _ us hl => match us, hl with | [_], _ => rfl)),
      is_item := (Vw.defAt_mk KX G ?a5 ?l5 ?c5 ?k5 (fun _ _ _ _ _ _ us hl => match us, hl with | [_], _ => rfl)),
      is_ascending := (Vw.defAt_mk KX G ?a6 ?l6 ?c6 ?k6 (fun _ _ _ _ _ _ us hl => match us, hl with | [_], _ => rfl)),
      is_lot := (Vw.defAt_mk KX G ?a7 ?l7 ?c7 ?k7 (fun _ _ _ _ _ _ us hl => match us, hl with | [_], _ => rfl)),
      is_items := (Vw.defAt_mk KX G ?a8 ?l8 ?c8 ?k8 (fun _ _ _ _ _ _ us hl => match us, hl with | [_, _, _], _ => rfl)),
      formatted := (Vw.defAt_mk KX G ?a9 ?l9 ?c9 ?k9 (fun _ _ _ _ _ _ us hl => match us, hl with | [_, _], _ => rfl)),
      is_ring_size := (Vw.defAt_mk KX G ?a10 ?l10 ?c10 ?k10 (fun _ _ _ _ _ _ us hl => match us, hl with | [_, _], _ => rfl)),
      is_master := (Vw.defAt_mk KX G ?a11 ?l11 ?c11 ?k11 (fun _ _ _ _ _ _ us hl => match us, hl with | [_, _], _ => rfl)),
      pieces_of := (Vw.defAt_mk KX G ?a12 ?l12 ?c12 ?k12 (fun _ _ _ _ _ _ us hl => match us, hl with | [_], _ => rfl)),
      master_of := (Vw.defAt_mk KX G ?a13 ?l13 ?c13 ?k13 (fun _ _ _ _ _ _ us hl => match us, hl with | [_], _ => rfl)),
      counted := (Vw.defAt_mk KX G ?a14 ?l14 ?c14 ?k14 (fun _ _ _ _ _ _ us hl => match us, hl with | [_, _], _ => rfl)),
      is_piece := (Vw.defAt_mk KX G ?a15 ?l15 ?c15 ?k15 (fun _ _ _ _ _ _ us hl => match us, hl with | [_, _], _ => rfl)),
      begins := (Vw.defAt_mk KX G ?a16 ?l16 ?c16 ?k16 (fun _ _ _ _ _ _ us hl => match us, hl with | [_, _], _ => rfl)),
      goes_on := (Vw.defAt_mk KX G ?a17 ?l17 ?c17 ?k17 (fun _ _ _ _ _ _ us hl => match us, hl with | [_, _], _ => rfl)),
      read_prefix := (Vw.defAt_mk KX G ?a18 ?l18 ?c18 ?k18 (fun _ _ _ _ _ _ us hl => match us, hl with | [_, _], _ => rfl)),
      note_of := (Vw.defAt_mk KX G ?a20 ?l20 ?c20 ?k20 (fun _ _ _ _ _ _ us hl => match us, hl with | [_], _ => rfl)),
      changes_of := (Vw.defAt_mk KX G ?a21 ?l21 ?c21 ?k21 (fun _ _ _ _ _ _ us hl => match us, hl with | [_], _ => rfl)),
      last_told := (Vw.defAt_mk KX G ?a22 ?l22 ?c22 ?k22 (fun _ _ _ _ _ _ us hl => match us, hl with | [_], _ => rfl)),
      is_meta := (Vw.defAt_mk KX G ?a23 ?l23 ?c23 ?k23 (fun _ _ _ _ _ _ us hl => match us, hl with | [_, _], _ => rfl)),
      all_spots := (Vw.defAt_mk KX G ?a26 ?l26 ?c26 ?k26 (fun _ _ _ _ _ _ us hl => match us, hl with | [_], _ => rfl)),
      triples_between := (Vw.defAt_mk KX G ?a27 ?l27 ?c27 ?k27 (fun _ _ _ _ _ _ us hl => match us, hl with | [_, _, _], _ => rfl)),
      levels_between := (Vw.defAt_mk KX G ?a28 ?l28 ?c28 ?k28 (fun _ _ _ _ _ _ us hl => match us, hl with | [_, _, _], _ => rfl)),
      need_snapshot := (Vw.defAt_mk KX G ?a30 ?l30 ?c30 ?k30 (fun _ _ _ _ _ _ us hl => match us, hl with | [_], _ => rfl)),
      seen_pairs := (Vw.defAt_mk KX G ?a31 ?l31 ?c31 ?k31 (fun _ _ _ _ _ _ us hl => match us, hl with | [_, _], _ => rfl)),
      dict_at := (Vw.defAt_mk KX G ?a32 ?l32 ?c32 ?k32 (fun _ _ _ _ _ _ us hl => match us, hl with | [_, _], _ => rfl)),
      opened_copy := (Vw.defAt_mk KX G ?a33 ?l33 ?c33 ?k33 (fun _ _ _ _ _ _ us hl => match us, hl with | [_], _ => rfl)),
      pages_of := (Vw.defAt_mk KX G ?a34 ?l34 ?c34 ?k34 (fun _ _ _ _ _ _ us hl => match us, hl with | [_], _ => rfl)),
      prefix_of := (Vw.defAt_mk KX G ?a35 ?l35 ?c35 ?k35 (fun _ _ _ _ _ _ us hl => match us, hl with | [_], _ => rfl)),
      meaning := (Vw.defAt_mk KX G ?a36 ?l36 ?c36 ?k36 (fun _ _ _ _ _ _ us hl => match us, hl with | [_], _ => rfl)),
      commits_of := (Vw.defAt_mk KX G ?a37 ?l37 ?c37 ?k37 (fun _ _ _ _ _ _ us hl => match us, hl with | [_], _ => rfl)),
      law_tape := (Vw.defAt_mk KX G ?a38 ?l38 ?c38 ?k38 (fun _ _ _ _ _ _ us hl => match us, hl with | [_], _ => rfl)),
      law_pick := (Vw.defAt_mk KX G ?a39 ?l39 ?c39 ?k39 (fun _ _ _ _ _ _ us hl => match us, hl with | [_, _], _ => rfl)),
      law_any := (Vw.defAt_mk KX G ?a40 ?l40 ?c40 ?k40 (fun _ _ _ _ _ _ us hl => match us, hl with | [_, _], _ => rfl)),
      law_word := (Vw.defAt_mk KX G ?a41 ?l41 ?c41 ?k41 (fun _ _ _ _ _ _ us hl => match us, hl with | [_], _ => rfl)),
      law_master := (Vw.defAt_mk KX G ?a42 ?l42 ?c42 ?k42 (fun _ _ _ _ _ _ us hl => match us, hl with | [_, _, _], _ => rfl)),
      law_asked := (Vw.defAtL_mk2 KX G ?a43 ?l43 ?c43 ?k43 ?lc43 ?p43 ?nP43 (fun _ _ _ _ _ _ us hl => match us, hl with | [_], _ => rfl)),
      z_ValueError := PySem.W.mg_none_of KX G ?z_ValueError,
      z_all := PySem.W.mg_none_of KX G ?z_all,
      z_bool := PySem.W.mg_none_of KX G ?z_bool,
      z_dict := PySem.W.mg_none_of KX G ?z_dict,
      z_enumerate := PySem.W.mg_none_of KX G ?z_enumerate,
      z_int := PySem.W.mg_none_of KX G ?z_int,
      z_isinstance := PySem.W.mg_none_of KX G ?z_isinstance,
      z_len := PySem.W.mg_none_of KX G ?z_len,
      z_list := PySem.W.mg_none_of KX G ?z_list,
      z_range := PySem.W.mg_none_of KX G ?z_range,
      z_sorted := PySem.W.mg_none_of KX G ?z_sorted,
      z_str := PySem.W.mg_none_of KX G ?z_str,
      z_tuple := PySem.W.mg_none_of KX G ?z_tuple,
      c_GREATEST_ITEM := Vw.cAt_mk KX G ?q_GREATEST_ITEM ?r_GREATEST_ITEM,
      c_GREATEST_COMMIT := Vw.cAt_mk KX G ?q_GREATEST_COMMIT ?r_GREATEST_COMMIT,
      c_LONGEST_WORD := Vw.cAt_mk KX G ?q_LONGEST_WORD ?r_LONGEST_WORD,
      c_LEAST_BLOCKS := Vw.cAt_mk KX G ?q_LEAST_BLOCKS ?r_LEAST_BLOCKS,
      c_MOST_BLOCKS := Vw.cAt_mk KX G ?q_MOST_BLOCKS ?r_MOST_BLOCKS,
      c_MOST_ITEMS := Vw.cAt_mk KX G ?q_MOST_ITEMS ?r_MOST_ITEMS,
      c_MOST_POWER := Vw.cAt_mk KX G ?q_MOST_POWER ?r_MOST_POWER,
      c_MASTER := Vw.cAt_mk KX G ?q_MASTER ?r_MASTER,
      c_LEAST_RING := Vw.cAt_mk KX G ?q_LEAST_RING ?r_LEAST_RING,
      c_OTHER_BLOCKS := Vw.cAt_mk KX G ?q_OTHER_BLOCKS ?r_OTHER_BLOCKS,
      c_PIECE := Vw.cAt_mk KX G ?q_PIECE ?r_PIECE,
      c_HEAD := Vw.cAt_mk KX G ?q_HEAD ?r_HEAD,
      c_META := Vw.cAt_mk KX G ?q_META ?r_META,
      c_META_PAGE := Vw.cAt_mk KX G ?q_META_PAGE ?r_META_PAGE,
      c_NO_FREE := Vw.cAt_mk KX G ?q_NO_FREE ?r_NO_FREE,
      C_Disk := ?C_Disk,
      k_Disk := Vw.clsAt_mk KX G ?ka_Disk ?kb_Disk ?kc_Disk ?kd_Disk ?ke_Disk ?kf_Disk ?kg_Disk,
      i_Disk := ⟨⟨?ib_Disk, ?ic_Disk, ?id_Disk, ?ie_Disk⟩, ?if_Disk, ?ig_Disk, ?ih_Disk, ?ii_Disk, ?ij_Disk⟩,
      C_Log := ?C_Log,
      k_Log := Vw.clsAt_mk KX G ?ka_Log ?kb_Log ?kc_Log ?kd_Log ?ke_Log ?kf_Log ?kg_Log,
      C_Pages := ?C_Pages,
      k_Pages := Vw.clsAt_mk KX G ?ka_Pages ?kb_Pages ?kc_Pages ?kd_Pages ?ke_Pages ?kf_Pages ?kg_Pages,
      C_Batch := ?C_Batch,
      k_Batch := Vw.clsAt_mk KX G ?ka_Batch ?kb_Batch ?kc_Batch ?kd_Batch ?ke_Batch ?kf_Batch ?kg_Batch,
      m_Disk_init := Vw.methAt_mk ?ma_Disk_init ?mi_Disk_init ?ml_Disk_init ?mc_Disk_init ?mk_Disk_init (fun _ _ _ _ _ _ us hl => match us, hl with | [_, _], _ => rfl),
      m_Disk_blocks := Vw.methAt_mk ?ma_Disk_blocks ?mi_Disk_blocks ?ml_Disk_blocks ?mc_Disk_blocks ?mk_Disk_blocks (fun _ _ _ _ _ _ us hl => match us, hl with | [_], _ => rfl),
      m_Disk_write := Vw.methAt_mk ?ma_Disk_write ?mi_Disk_write ?ml_Disk_write ?mc_Disk_write ?mk_Disk_write (fun _ _ _ _ _ _ us hl => match us, hl with | [_, _, _], _ => rfl),
      m_Disk_read := Vw.methAt_mk ?ma_Disk_read ?mi_Disk_read ?ml_Disk_read ?mc_Disk_read ?mk_Disk_read (fun _ _ _ _ _ _ us hl => match us, hl with | [_, _], _ => rfl),
      m_Disk_reach := Vw.methAt_mk ?ma_Disk_reach ?mi_Disk_reach ?ml_Disk_reach ?mc_Disk_reach ?mk_Disk_reach (fun _ _ _ _ _ _ us hl => match us, hl with | [_, _], _ => rfl),
      m_Disk_force := Vw.methAt_mk ?ma_Disk_force ?mi_Disk_force ?ml_Disk_force ?mc_Disk_force ?mk_Disk_force (fun _ _ _ _ _ _ us hl => match us, hl with | [_, _], _ => rfl),
      m_Disk_calm := Vw.methAt_mk ?ma_Disk_calm ?mi_Disk_calm ?ml_Disk_calm ?mc_Disk_calm ?mk_Disk_calm (fun _ _ _ _ _ _ us hl => match us, hl with | [_], _ => rfl),
      m_Disk_power := Vw.methAt_mk ?ma_Disk_power ?mi_Disk_power ?ml_Disk_power ?mc_Disk_power ?mk_Disk_power (fun _ _ _ _ _ _ us hl => match us, hl with | [_, _], _ => rfl),
      m_Disk_cut := Vw.methAt_mk ?ma_Disk_cut ?mi_Disk_cut ?ml_Disk_cut ?mc_Disk_cut ?mk_Disk_cut (fun _ _ _ _ _ _ us hl => match us, hl with | [_], _ => rfl),
      m_Disk_waiting := Vw.methAt_mk ?ma_Disk_waiting ?mi_Disk_waiting ?ml_Disk_waiting ?mc_Disk_waiting ?mk_Disk_waiting (fun _ _ _ _ _ _ us hl => match us, hl with | [_], _ => rfl),
      m_Disk_lying := Vw.methAt_mk ?ma_Disk_lying ?mi_Disk_lying ?ml_Disk_lying ?mc_Disk_lying ?mk_Disk_lying (fun _ _ _ _ _ _ us hl => match us, hl with | [_, _], _ => rfl),
      m_Disk_copy := Vw.methAt_mk ?ma_Disk_copy ?mi_Disk_copy ?ml_Disk_copy ?mc_Disk_copy ?mk_Disk_copy (fun _ _ _ _ _ _ us hl => match us, hl with | [_], _ => rfl),
      m_Disk__need_block := Vw.methAt_mk ?ma_Disk__need_block ?mi_Disk__need_block ?ml_Disk__need_block ?mc_Disk__need_block ?mk_Disk__need_block (fun _ _ _ _ _ _ us hl => match us, hl with | [_, _], _ => rfl),
      m_Disk__reach_one := Vw.methAt_mk ?ma_Disk__reach_one ?mi_Disk__reach_one ?ml_Disk__reach_one ?mc_Disk__reach_one ?mk_Disk__reach_one (fun _ _ _ _ _ _ us hl => match us, hl with | [_, _], _ => rfl),
      m_Log_init := Vw.methAt_mk ?ma_Log_init ?mi_Log_init ?ml_Log_init ?mc_Log_init ?mk_Log_init (fun _ _ _ _ _ _ us hl => match us, hl with | [_, _], _ => rfl),
      m_Log__keep := Vw.methAt_mk ?ma_Log__keep ?mi_Log__keep ?ml_Log__keep ?mc_Log__keep ?mk_Log__keep (fun _ _ _ _ _ _ us hl => match us, hl with | [_, _, _], _ => rfl),
      m_Log_last := Vw.methAt_mk ?ma_Log_last ?mi_Log_last ?ml_Log_last ?mc_Log_last ?mk_Log_last (fun _ _ _ _ _ _ us hl => match us, hl with | [_], _ => rfl),
      m_Log_records := Vw.methAt_mk ?ma_Log_records ?mi_Log_records ?ml_Log_records ?mc_Log_records ?mk_Log_records (fun _ _ _ _ _ _ us hl => match us, hl with | [_], _ => rfl),
      m_Pages_init := Vw.methAt_mk ?ma_Pages_init ?mi_Pages_init ?ml_Pages_init ?mc_Pages_init ?mk_Pages_init (fun _ _ _ _ _ _ us hl => match us, hl with | [_, _], _ => rfl),
      m_Pages_batch := Vw.methAt_mk ?ma_Pages_batch ?mi_Pages_batch ?ml_Pages_batch ?mc_Pages_batch ?mk_Pages_batch (fun _ _ _ _ _ _ us hl => match us, hl with | [_], _ => rfl),
      m_Pages_held := Vw.methAt_mk ?ma_Pages_held ?mi_Pages_held ?ml_Pages_held ?mc_Pages_held ?mk_Pages_held (fun _ _ _ _ _ _ us hl => match us, hl with | [_, _], _ => rfl),
      m_Pages__need_page := Vw.methAt_mk ?ma_Pages__need_page ?mi_Pages__need_page ?ml_Pages__need_page ?mc_Pages__need_page ?mk_Pages__need_page (fun _ _ _ _ _ _ us hl => match us, hl with | [_, _], _ => rfl),
      m_Pages_notes := Vw.methAt_mk ?ma_Pages_notes ?mi_Pages_notes ?ml_Pages_notes ?mc_Pages_notes ?mk_Pages_notes (fun _ _ _ _ _ _ us hl => match us, hl with | [_], _ => rfl),
      m_Pages_high := Vw.methAt_mk ?ma_Pages_high ?mi_Pages_high ?ml_Pages_high ?mc_Pages_high ?mk_Pages_high (fun _ _ _ _ _ _ us hl => match us, hl with | [_], _ => rfl),
      m_Batch_init := Vw.methAt_mk ?ma_Batch_init ?mi_Batch_init ?ml_Batch_init ?mc_Batch_init ?mk_Batch_init (fun _ _ _ _ _ _ us hl => match us, hl with | [_, _], _ => rfl),
      m_Batch_root := Vw.methAt_mk ?ma_Batch_root ?mi_Batch_root ?ml_Batch_root ?mc_Batch_root ?mk_Batch_root (fun _ _ _ _ _ _ us hl => match us, hl with | [_], _ => rfl),
      m_Batch_last := Vw.methAt_mk ?ma_Batch_last ?mi_Batch_last ?ml_Batch_last ?mc_Batch_last ?mk_Batch_last (fun _ _ _ _ _ _ us hl => match us, hl with | [_], _ => rfl),
      m_Batch__need_under_way := Vw.methAt_mk ?ma_Batch__need_under_way ?mi_Batch__need_under_way ?ml_Batch__need_under_way ?mc_Batch__need_under_way ?mk_Batch__need_under_way (fun _ _ _ _ _ _ us hl => match us, hl with | [_], _ => rfl),
      n_Disk__lies := Vw.noAttr_mk ?na_Disk__lies,
      n_Disk__waits := Vw.noAttr_mk ?na_Disk__waits,
      n_Disk__power := Vw.noAttr_mk ?na_Disk__power,
      n_Disk__reached := Vw.noAttr_mk ?na_Disk__reached,
      n_Log__disk := Vw.noAttr_mk ?na_Log__disk,
      n_Log__epoch := Vw.noAttr_mk ?na_Log__epoch,
      n_Log__ring := Vw.noAttr_mk ?na_Log__ring,
      n_Log__begin := Vw.noAttr_mk ?na_Log__begin,
      n_Log__kept := Vw.noAttr_mk ?na_Log__kept,
      n_Log__begin_k := Vw.noAttr_mk ?na_Log__begin_k,
      n_Log__next_k := Vw.noAttr_mk ?na_Log__next_k,
      n_Log__forced := Vw.noAttr_mk ?na_Log__forced,
      n_Pages__log := Vw.noAttr_mk ?na_Pages__log,
      n_Pages__disk := Vw.noAttr_mk ?na_Pages__disk,
      n_Pages__first := Vw.noAttr_mk ?na_Pages__first,
      n_Pages__many := Vw.noAttr_mk ?na_Pages__many,
      n_Pages__held := Vw.noAttr_mk ?na_Pages__held,
      n_Pages__dirty := Vw.noAttr_mk ?na_Pages__dirty,
      n_Pages__batch := Vw.noAttr_mk ?na_Pages__batch,
      n_Batch__pages := Vw.noAttr_mk ?na_Batch__pages,
      n_Batch__is_over := Vw.noAttr_mk ?na_Batch__is_over,
      n_Batch__changed := Vw.noAttr_mk ?na_Batch__changed,
      n_Batch__root := Vw.noAttr_mk ?na_Batch__root,
      n_Batch__last := Vw.noAttr_mk ?na_Batch__last,
      n_Batch__head := Vw.noAttr_mk ?na_Batch__head,
      n_Batch__high := Vw.noAttr_mk ?na_Batch__high,
      m_StoreError_init := Vw.initAt_mk ?il ?ic ?ik (fun _ _ _ _ _ _ us hl => match us, hl with | [_], _ => rfl),
      vV := ?vV,
      e_Stopped := Vw.excAt_mk KX G ?ea_Stopped ?el_Stopped ?eb_Stopped ?es_Stopped ?ex_Stopped ?et_Stopped ?ek_Stopped ?ei_Stopped ?ef_Stopped ?eh_Stopped ?ec_Stopped ?ee_Stopped,
      e_BadDisk := Vw.excAt_mk KX G ?ea_BadDisk ?el_BadDisk ?eb_BadDisk ?es_BadDisk ?ex_BadDisk ?et_BadDisk ?ek_BadDisk ?ei_BadDisk ?ef_BadDisk ?eh_BadDisk ?ec_BadDisk ?ee_BadDisk,
      N_StoreError := (Vw.gRef_mk KX G ?gn_StoreError).1,
      g_StoreError := (Vw.gRef_mk KX G ?gn_StoreError).2,
      x_BadDisk := ⟨?xa_BadDisk, ?xb_BadDisk, ?xc_BadDisk, ?xd_BadDisk, ?xe_BadDisk, ?xf_BadDisk, ?xg_BadDisk, ?xh_BadDisk⟩,
      ks_BadDisk := ?ks_BadDisk,
      kv_BadDisk := ?kv_BadDisk,
      dst := ?dst })
    (case aL => k_is); (case lL => k_is); (case cL => k_is); (case kL => k_is)
    (case ka_Disk => k_is); (case kb_Disk => k_is); (case kc_Disk => k_is); (case kd_Disk => k_is); (case ke_Disk => k_is); (case kf_Disk => k_is); (case kg_Disk => k_is)
    (case ib_Disk => k_is); (case ic_Disk => k_is); (case id_Disk => k_is); (case ie_Disk => k_is); (case if_Disk => k_is); (case ig_Disk => k_is); (case ih_Disk => k_is); (case ii_Disk => k_is); (case ij_Disk => unfold PySem.W.kitOne; rw [if_pos (beq_self_eq_true _)])
    (case ka_Log => k_is); (case kb_Log => k_is); (case kc_Log => k_is); (case kd_Log => k_is); (case ke_Log => k_is); (case kf_Log => k_is); (case kg_Log => k_is)
    (case ka_Pages => k_is); (case kb_Pages => k_is); (case kc_Pages => k_is); (case kd_Pages => k_is); (case ke_Pages => k_is); (case kf_Pages => k_is); (case kg_Pages => k_is)
    (case ka_Batch => k_is); (case kb_Batch => k_is); (case kc_Batch => k_is); (case kd_Batch => k_is); (case ke_Batch => k_is); (case kf_Batch => k_is); (case kg_Batch => k_is)
    (case ma_Disk_init => k_is); (case mi_Disk_init => k_is); (case ml_Disk_init => k_is); (case mc_Disk_init => k_is); (case mk_Disk_init => k_is)
    (case ma_Disk_blocks => k_is); (case mi_Disk_blocks => k_is); (case ml_Disk_blocks => k_is); (case mc_Disk_blocks => k_is); (case mk_Disk_blocks => k_is)
    (case ma_Disk_write => k_is); (case mi_Disk_write => k_is); (case ml_Disk_write => k_is); (case mc_Disk_write => k_is); (case mk_Disk_write => k_is)
    (case ma_Disk_read => k_is); (case mi_Disk_read => k_is); (case ml_Disk_read => k_is); (case mc_Disk_read => k_is); (case mk_Disk_read => k_is)
    (case ma_Disk_reach => k_is); (case mi_Disk_reach => k_is); (case ml_Disk_reach => k_is); (case mc_Disk_reach => k_is); (case mk_Disk_reach => k_is)
    (case ma_Disk_force => k_is); (case mi_Disk_force => k_is); (case ml_Disk_force => k_is); (case mc_Disk_force => k_is); (case mk_Disk_force => k_is)
    (case ma_Disk_calm => k_is); (case mi_Disk_calm => k_is); (case ml_Disk_calm => k_is); (case mc_Disk_calm => k_is); (case mk_Disk_calm => k_is)
    (case ma_Disk_power => k_is); (case mi_Disk_power => k_is); (case ml_Disk_power => k_is); (case mc_Disk_power => k_is); (case mk_Disk_power => k_is)
    (case ma_Disk_cut => k_is); (case mi_Disk_cut => k_is); (case ml_Disk_cut => k_is); (case mc_Disk_cut => k_is); (case mk_Disk_cut => k_is)
    (case ma_Disk_waiting => k_is); (case mi_Disk_waiting => k_is); (case ml_Disk_waiting => k_is); (case mc_Disk_waiting => k_is); (case mk_Disk_waiting => k_is)
    (case ma_Disk_lying => k_is); (case mi_Disk_lying => k_is); (case ml_Disk_lying => k_is); (case mc_Disk_lying => k_is); (case mk_Disk_lying => k_is)
    (case ma_Disk_copy => k_is); (case mi_Disk_copy => k_is); (case ml_Disk_copy => k_is); (case mc_Disk_copy => k_is); (case mk_Disk_copy => k_is)
    (case ma_Disk__need_block => k_is); (case mi_Disk__need_block => k_is); (case ml_Disk__need_block => k_is); (case mc_Disk__need_block => k_is); (case mk_Disk__need_block => k_is)
    (case ma_Disk__reach_one => k_is); (case mi_Disk__reach_one => k_is); (case ml_Disk__reach_one => k_is); (case mc_Disk__reach_one => k_is); (case mk_Disk__reach_one => k_is)
    (case ma_Log_init => k_is); (case mi_Log_init => k_is); (case ml_Log_init => k_is); (case mc_Log_init => k_is); (case mk_Log_init => k_is)
    (case ma_Log__keep => k_is); (case mi_Log__keep => k_is); (case ml_Log__keep => k_is); (case mc_Log__keep => k_is); (case mk_Log__keep => k_is)
    (case ma_Log_last => k_is); (case mi_Log_last => k_is); (case ml_Log_last => k_is); (case mc_Log_last => k_is); (case mk_Log_last => k_is)
    (case ma_Log_records => k_is); (case mi_Log_records => k_is); (case ml_Log_records => k_is); (case mc_Log_records => k_is); (case mk_Log_records => k_is)
    (case ma_Pages_init => k_is); (case mi_Pages_init => k_is); (case ml_Pages_init => k_is); (case mc_Pages_init => k_is); (case mk_Pages_init => k_is)
    (case ma_Pages_batch => k_is); (case mi_Pages_batch => k_is); (case ml_Pages_batch => k_is); (case mc_Pages_batch => k_is); (case mk_Pages_batch => k_is)
    (case ma_Pages_held => k_is); (case mi_Pages_held => k_is); (case ml_Pages_held => k_is); (case mc_Pages_held => k_is); (case mk_Pages_held => k_is)
    (case ma_Pages__need_page => k_is); (case mi_Pages__need_page => k_is); (case ml_Pages__need_page => k_is); (case mc_Pages__need_page => k_is); (case mk_Pages__need_page => k_is)
    (case ma_Pages_notes => k_is); (case mi_Pages_notes => k_is); (case ml_Pages_notes => k_is); (case mc_Pages_notes => k_is); (case mk_Pages_notes => k_is)
    (case ma_Pages_high => k_is); (case mi_Pages_high => k_is); (case ml_Pages_high => k_is); (case mc_Pages_high => k_is); (case mk_Pages_high => k_is)
    (case ma_Batch_init => k_is); (case mi_Batch_init => k_is); (case ml_Batch_init => k_is); (case mc_Batch_init => k_is); (case mk_Batch_init => k_is)
    (case ma_Batch_root => k_is); (case mi_Batch_root => k_is); (case ml_Batch_root => k_is); (case mc_Batch_root => k_is); (case mk_Batch_root => k_is)
    (case ma_Batch_last => k_is); (case mi_Batch_last => k_is); (case ml_Batch_last => k_is); (case mc_Batch_last => k_is); (case mk_Batch_last => k_is)
    (case ma_Batch__need_under_way => k_is); (case mi_Batch__need_under_way => k_is); (case ml_Batch__need_under_way => k_is); (case mc_Batch__need_under_way => k_is); (case mk_Batch__need_under_way => k_is)
    (case na_Disk__lies => k_is)
    (case na_Disk__waits => k_is)
    (case na_Disk__power => k_is)
    (case na_Disk__reached => k_is)
    (case na_Log__disk => k_is)
    (case na_Log__epoch => k_is)
    (case na_Log__ring => k_is)
    (case na_Log__begin => k_is)
    (case na_Log__kept => k_is)
    (case na_Log__begin_k => k_is)
    (case na_Log__next_k => k_is)
    (case na_Log__forced => k_is)
    (case na_Pages__log => k_is)
    (case na_Pages__disk => k_is)
    (case na_Pages__first => k_is)
    (case na_Pages__many => k_is)
    (case na_Pages__held => k_is)
    (case na_Pages__dirty => k_is)
    (case na_Pages__batch => k_is)
    (case na_Batch__pages => k_is)
    (case na_Batch__is_over => k_is)
    (case na_Batch__changed => k_is)
    (case na_Batch__root => k_is)
    (case na_Batch__last => k_is)
    (case na_Batch__head => k_is)
    (case na_Batch__high => k_is)
    (case ea_Stopped => k_is); (case ei_Stopped => k_is); (case eh_Stopped => exact rfl); (case il => k_is); (case ic => k_is); (case ik => k_is); (case vV => k_is)
    (case el_Stopped => k_is); (case eb_Stopped => decide +kernel); (case es_Stopped => k_is); (case ex_Stopped => k_is); (case et_Stopped => k_is); (case ek_Stopped => k_is); (case ef_Stopped => k_is); (case ec_Stopped => k_is); (case ee_Stopped => k_is)
    (case ea_BadDisk => k_is); (case ei_BadDisk => k_is); (case eh_BadDisk => exact rfl)
    (case el_BadDisk => k_is); (case eb_BadDisk => decide +kernel); (case es_BadDisk => k_is); (case ex_BadDisk => k_is); (case et_BadDisk => k_is); (case ek_BadDisk => k_is); (case ef_BadDisk => k_is); (case ec_BadDisk => k_is); (case ee_BadDisk => k_is)
    (case gn_StoreError => k_is)
    (case a1 => k_is); (case l1 => k_is); (case c1 => k_is); (case k1 => k_is)
    (case a2 => k_is); (case l2 => k_is); (case c2 => k_is); (case k2 => k_is)
    (case a3 => k_is); (case l3 => k_is); (case c3 => k_is); (case k3 => k_is)
    (case a4 => k_is); (case l4 => k_is); (case c4 => k_is); (case k4 => k_is)
    (case a5 => k_is); (case l5 => k_is); (case c5 => k_is); (case k5 => k_is)
    (case a6 => k_is); (case l6 => k_is); (case c6 => k_is); (case k6 => k_is)
    (case a7 => k_is); (case l7 => k_is); (case c7 => k_is); (case k7 => k_is)
    (case a8 => k_is); (case l8 => k_is); (case c8 => k_is); (case k8 => k_is)
    (case a9 => k_is); (case l9 => k_is); (case c9 => k_is); (case k9 => k_is)
    (case a10 => k_is); (case l10 => k_is); (case c10 => k_is); (case k10 => k_is)
    (case a11 => k_is); (case l11 => k_is); (case c11 => k_is); (case k11 => k_is)
    (case a12 => k_is); (case l12 => k_is); (case c12 => k_is); (case k12 => k_is)
    (case a13 => k_is); (case l13 => k_is); (case c13 => k_is); (case k13 => k_is)
    (case a14 => k_is); (case l14 => k_is); (case c14 => k_is); (case k14 => k_is)
    (case a15 => k_is); (case l15 => k_is); (case c15 => k_is); (case k15 => k_is)
    (case a16 => k_is); (case l16 => k_is); (case c16 => k_is); (case k16 => k_is)
    (case a17 => k_is); (case l17 => k_is); (case c17 => k_is); (case k17 => k_is)
    (case a18 => k_is); (case l18 => k_is); (case c18 => k_is); (case k18 => k_is)
    (case a20 => k_is); (case l20 => k_is); (case c20 => k_is); (case k20 => k_is)
    (case a21 => k_is); (case l21 => k_is); (case c21 => k_is); (case k21 => k_is)
    (case a22 => k_is); (case l22 => k_is); (case c22 => k_is); (case k22 => k_is)
    (case a23 => k_is); (case l23 => k_is); (case c23 => k_is); (case k23 => k_is)
    (case a26 => k_is); (case l26 => k_is); (case c26 => k_is); (case k26 => k_is)
    (case a27 => k_is); (case l27 => k_is); (case c27 => k_is); (case k27 => k_is)
    (case a28 => k_is); (case l28 => k_is); (case c28 => k_is); (case k28 => k_is)
    (case a30 => k_is); (case l30 => k_is); (case c30 => k_is); (case k30 => k_is)
    (case a31 => k_is); (case l31 => k_is); (case c31 => k_is); (case k31 => k_is)
    (case a32 => k_is); (case l32 => k_is); (case c32 => k_is); (case k32 => k_is)
    (case a33 => k_is); (case l33 => k_is); (case c33 => k_is); (case k33 => k_is)
    (case a34 => k_is); (case l34 => k_is); (case c34 => k_is); (case k34 => k_is)
    (case a35 => k_is); (case l35 => k_is); (case c35 => k_is); (case k35 => k_is)
    (case a36 => k_is); (case l36 => k_is); (case c36 => k_is); (case k36 => k_is)
    (case a37 => k_is); (case l37 => k_is); (case c37 => k_is); (case k37 => k_is)
    (case a38 => k_is); (case l38 => k_is); (case c38 => k_is); (case k38 => k_is)
    (case a39 => k_is); (case l39 => k_is); (case c39 => k_is); (case k39 => k_is)
    (case a40 => k_is); (case l40 => k_is); (case c40 => k_is); (case k40 => k_is)
    (case a41 => k_is); (case l41 => k_is); (case c41 => k_is); (case k41 => k_is)
    (case a42 => k_is); (case l42 => k_is); (case c42 => k_is); (case k42 => k_is)
    (case a43 => k_is); (case l43 => k_is); (case c43 => k_is); (case k43 => k_is); (case lc43 => k_is); (case p43 => exact rfl); (case nP43 => first | exact rfl | kernel_rfl | decide +kernel)
    (case z_ValueError => k_is)
    (case z_all => k_is)
    (case z_bool => k_is)
    (case z_dict => k_is)
    (case z_enumerate => k_is)
    (case z_int => k_is)
    (case z_isinstance => k_is)
    (case z_len => k_is)
    (case z_list => k_is)
    (case z_range => k_is)
    (case z_sorted => k_is)
    (case z_str => k_is)
    (case z_tuple => k_is)
    (case q_GREATEST_ITEM => k_is); (case r_GREATEST_ITEM => exact ⟨_, rfl⟩)
    (case q_GREATEST_COMMIT => k_is); (case r_GREATEST_COMMIT => exact ⟨_, rfl⟩)
    (case q_LONGEST_WORD => k_is); (case r_LONGEST_WORD => exact ⟨_, rfl⟩)
    (case q_LEAST_BLOCKS => k_is); (case r_LEAST_BLOCKS => exact ⟨_, rfl⟩)
    (case q_MOST_BLOCKS => k_is); (case r_MOST_BLOCKS => exact ⟨_, rfl⟩)
    (case q_MOST_ITEMS => k_is); (case r_MOST_ITEMS => exact ⟨_, rfl⟩)
    (case q_MOST_POWER => k_is); (case r_MOST_POWER => exact ⟨_, rfl⟩)
    (case q_MASTER => k_is); (case r_MASTER => exact ⟨_, rfl⟩)
    (case q_LEAST_RING => k_is); (case r_LEAST_RING => exact ⟨_, rfl⟩)
    (case q_OTHER_BLOCKS => k_is); (case r_OTHER_BLOCKS => exact ⟨_, rfl⟩)
    (case q_PIECE => k_is); (case r_PIECE => exact ⟨_, rfl⟩)
    (case q_HEAD => k_is); (case r_HEAD => exact ⟨_, rfl⟩)
    (case q_META => k_is); (case r_META => exact ⟨_, rfl⟩)
    (case q_META_PAGE => k_is); (case r_META_PAGE => exact ⟨_, rfl⟩)
    (case q_NO_FREE => k_is); (case r_NO_FREE => exact ⟨_, rfl⟩)
    (case xa_BadDisk => (try dsimp only [Vw.excAt_mk, Vw.gRef_mk]); k_is); (case xb_BadDisk => (try dsimp only [Vw.excAt_mk, Vw.gRef_mk]); k_is); (case xc_BadDisk => (try dsimp only [Vw.excAt_mk, Vw.gRef_mk]); k_is); (case xd_BadDisk => (try dsimp only [Vw.excAt_mk, Vw.gRef_mk]); k_is); (case xe_BadDisk => (try dsimp only [Vw.excAt_mk, Vw.gRef_mk]); k_is); (case xf_BadDisk => (try dsimp only [Vw.excAt_mk, Vw.gRef_mk]); k_is); (case xg_BadDisk => (try dsimp only [Vw.excAt_mk, Vw.gRef_mk]); k_is); (case xh_BadDisk => (try dsimp only [Vw.excAt_mk, Vw.gRef_mk]); k_is); (case ks_BadDisk => (try dsimp only [Vw.excAt_mk, Vw.gRef_mk]); kit_is); (case kv_BadDisk => (try dsimp only [Vw.excAt_mk, Vw.gRef_mk]); kit_is)
    (case dst => first | exact List.nodup_cons.mpr ⟨(fun h => nomatch h), List.nodup_nil⟩ | decide | exact of_decide_eq_true rfl | exact of_decide_eq_true (by kernel_rfl) | (dsimp only [Vw.defAtL_mk2, Vw.defAtL_mk]; decide) | (rw [Vw.mk2P, Vw.mk2P, Vw.mk2P, Vw.mk2P]; decide))
